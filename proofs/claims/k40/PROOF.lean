import PyProof.Rows.All
import Wide.All
import OpenK.AllK
import Wide.FinOn
import Lean
import PyProof.EqAt
import PyProof.EqKinds
import PyProof.TupleCall
import PySem.Challenge.RW_dullglass_k40_beliefs_refused
set_option Elab.async false
set_option linter.all false
set_option maxRecDepth 100000
set_option maxHeartbeats 4000000
set_option genSizeOf false
set_option genInjectivity false
open List renaming getElem?_eq_getElem->Qa,getElem?_map->Qc,getElem?_eq_some_iff->Qg,mem_of_getElem?->Qj,length_map->Qk,mem_map->Qm,size_toArray->Qr,mem_cons_of_mem->Qs,getElem?_eq_none->Qt,mem_singleton->Qw,range->Q1,getElem?_range->Q2,mem_cons->Q3,replicate->Q4,sum_cons->Q5,mem_range->Q6,map_cons->Q7,mem_append_right->Q8,getElem_mem->Za,getD_eq_getElem?_getD->Zb,all_eq_true->Zi,map_map->Zk,mem_append->Zl,getElem?_append_left->Zm,Nodup->Zn,length_cons->Zp,ext_getElem?->Zs,map_append->Zu,map_congr_left->Zv,exists_cons_of_ne_nil->Zy,length_append->Z4,getElem?_set_ne->Z7,length_set->Yc,sum_append->Yd,mem_append_left->Yg,getElem?_append_right->Yi,lookup_cons->Yk,getElem?_set->Yl,any_eq_true->Ym,getElem?_zip_eq_some->Yq,take_length->Yt,mem_iff_getElem?->Yw,replicate_succ->Y7,getElem?_cons_succ->Vc,take_add_one->Vd,append_nil->Vj,filterMap_cons->Vk,getElem?_replicate->Vr,length_eq_zero_iff->Jb,nodup_cons->Jj,take_of_length_le->Jm,set_eq_take_append_cons_drop->Jt,length_nil->J5,flatten_cons->J7,map_nil->Qaf,length_take->Qak,length_drop->Qal,mem_cons_self->Qas,take_append_drop->Qaz,getElem?_inj->Qbb,nodup_append->Qbc,drop_eq_getElem_cons->Qbq,not_mem_nil->Qbs,toArray->Qcd,any_cons->Qcl,findIdx?_eq_some_iff_getElem->Qcq,forIn_nil->Qdm,mem_of_mem_take->Qdx,mem_of_mem_drop->Qdy,getElem_of_mem->Qeh,forIn_cons->Qej,find?_cons->Qek,length_pos_iff->Qem,mem_filterMap->Qew,contains_cons->Qex,zipWith->Qez,sum_nil->Qfa,nodup_nil->Qfe,getElem?_eq_none_iff->Qfg,findIdx?_eq_none_iff->Qfh,append_assoc->Qfn,getElem?_cons_zero->Qfz,map_drop->Qgd,nodup_range->Qgi,getElem?_set_self->Qgp,drop_of_length_le->Qgq,of_mem_zip->Qgs,length_replicate->Qgt,getD->Qgz,getElem?_zipWith->Qhe,all_map->Qhg,map_set->Qhh,length_take_le'->Qhy,toList_toArray->Qig,zip_cons_cons->Qis,all_cons->Qit,set_cons_succ->Qix,map_take->Qje,foldl_append->Qjw,length_range->Qjx,cons_append->Qkk,zipIdx_cons->Qkl,mem_flatten->Qkq,mem_filter->Qkz,length->Qlc,zipIdx_nil->Qlf,range_succ->Qli,foldr_cons->Qlm,foldl->Qly,sum->Qmk,any_map->Qmo,map->Qmx
open PySem renaming wpAny_bind->Qd,PyData->Qi,Shared->Ql,wpAny_pure->Qo,starEach->Qu,sizeLine->Q9,mainGlobals->Ze,sizeLine_eq->Zf,Program->Zo,bootBuiltins->Z0,Around->Z2,wpAny_callSpecial?_slot->Z8,wpAny_field->Yj,wpAny_call_entry->Yn,compareOp->Yo,wpAny_loadPart'->Yp,wpAny_holding->Yx,foldedSetIterable->Y2,wpAny_newObj_type->Y3,intBits_le_of_natAbs->Y5,wpAny_truthy_bool->Vf,wpAny_mono->Vo,binaryOp->Vw,mem_of_lookup->Vx,wpAny_seqItems->V2,wpAny_setField_rec->V4,wpAny_typeNameOfWhole_valiter->V5,IsPair->V7,backTo->V8,cellsFrom->V9,Params->Jh,wpAny_loadPart_at->Ji,FuncData->Jo,wpAny_Call_Name_kw->Jv,intBits_mul_le->J0,assignEach->Qab,codeAny_builtin->Qac,wpAny_passesOwn->Qad,wpAny_pyIter_list->Qae,swapsWith->Qan,recursionLimit->Qap,sysModules->Qaq,wpAny_isOneOf_valiter->Qba,NameKind->Qbe,behindInMarks->Qbf,wpAny_attempt->Qbg,wpAny_rule->Qbh,ZipApart->Qbv,excClassObj->Qbz,wpAny_isSubtype_exc->Qca,attributeBase->Qcr,codeAmong->Qcs,letOwnedTupleGo->Qcu,pyNext->Qcw,Spec->Qdb,sliceBounds->Qdj,wpAny_dictEntries->Qdk,rawInt->Qdr,Keyword->Qdu,codeAny->Qdv,wpAny_updateSeq_pair->Qdz,plainId_quiet->Qec,swappedStores->Qed,swapsWithSole->Qee,builtinsNs->Qeg,Arguments->Qen,DictEntry->Qeo,keywordEach->Qep,wpAny_execs_nil->Qeq,codeAny_mono->Qfc,wpAny_pyIter_tuple->Qfd,notedBy->Qfj,wpAny_newTuple->Qfk,wpAny_setField->Qfl,call_meets->Qfs,pushCells->Qfu,wpAny_newList->Qge,wpAny_onRaise->Qgf,wpAny_standAt->Qgg,assign->Qgl,noFill_tuple_add->Qgm,wpAny_isInstance->Qgn,wpAny_pyIter_zip->Qgo,builtinLookup_eq_fast->Qhj,concat_meets->Qhk,pushCells_keeps->Qhl,treeTable->Qhm,tupleKind->Qhn,wpAny_dictEpoch->Qho,wpAny_notOrdered_dict->Qhp,wpAny_typeOf->Qhq,wpAny_updateSeq->Qhr,bindArgs->Qhs,codeAny_call_builtin->Qhz,dictSetDefault->Qib,intBits_add_le->Qic,isSubtype_stop->Qid,newFunctionEnv->Qie,callerA->Qij,holding->Qik,wpAny_letGo->Qim,Fin->Qiz,IsPart->Qjh,TriplesOk->Qji,assignInOrder->Qjj,backToKw->Qjk,comprehension->Qjl,seq_tuple_add->Qjm,list_append->Qjp,BindsTo->Qjz,getItem->Qka,seqIndex_neg->Qkh,GenState->Qkt,bindName->Qku,Str->Qkw,OwnTail->Qlp,PassesOwn->Qlq,lastMarks->Qlr,relabel->Qls,seqIndex_of->Qlt,call->Qlz
open PySem.W renaming Frag->Qe,mg_none_of->Zz,mg_of->Ye,nsIn->Yf,kitOne->Yh,excIn->Ve,fnOf->Vm,findIn->V1,keepIn->Je,kia_one->Jk,codeIn->Qao,kitAny->Qbo,hideAll_get->Qbw,cellsFrom_some->Qcy,looks_findIn->Qdw,methodObj->Qfm,OpenLaw->Qhb,of_hideAll->Qip,callWith_K->Qiu,hideAll->Qky,WalkO->Qmh
open PySem.Heap renaming get?_push_of_some->Qf,lt_size->Qp,get?_push_size->Qy,size_push->Yz,get?_update_other->Vh,get?_update_self->Vn,SameBut->Vv,size_update->Qgj,ExtBut->Qle
open PySem.Challenge renaming pw_dullglass_k40_beliefs_refused->Qh,rw_dullglass_k40_beliefs_refused->Ju
open PySem.Str renaming ofString->Qn
open Nat renaming ne_of_lt->Qq,le_refl->Qz,lt_of_lt_of_le->Zg,le_trans->Zr,le_of_lt->Z6,ne_of_gt->Yv,lt_succ_of_lt->Yy,lt_trans->Y8,zero_le->Y9,not_lt->Vy,lt_irrefl->Ja,le_add_right->Jr,gcd->Qaa,lt_succ_self->Qam,lt_of_le_of_lt->Qau,eq_zero_or_pos->Qax,eq_of_mul_eq_mul_left->Qbp,le_of_dvd->Qcp,zero_add->Qdo,le_of_eq->Qey,add_sub_add_right->Qgw,min_eq_left->Qgy,mul_zero->Qhf,not_succ_le_self->Qhu,pow_le_pow_right->Qhx,le_succ->Qih,gcd_zero_right->Qjb,le_succ_of_le->Qjt,gcd_dvd_right->Qjv,mul_comm->Qkc,gcd_comm->Qke,min_eq_right->Qkr,mul_one->Qlk,mul_le_mul->Qlw,dvd_trans->Qmi
open Option.some renaming inj->Qx,injEq->Qjs
open Int renaming eq_of_mul_eq_mul_right->Zc,mul_comm->Zw,mul_pos->Z5,mul_nonneg->Z9,gcd->Yr,eq_of_mul_eq_mul_left->Y1,mul_ediv_cancel'->Y4,eq_ofNat_of_zero_le->Vt,natAbs_dvd_natAbs->V3,dvd_trans->Jc,mul_zero->Jg,mul_le_mul->Jz,toNat_natCast->J9,le_of_lt->Qag,toNat_of_nonneg->Qah,natCast_dvd_natCast->Qaj,emod_lt_of_pos->Qaw,fdiv_eq_ediv_of_nonneg->Qbi,le_of_mul_le_mul_right->Qbj,dvd_mul_left->Qbt,mul_one->Qbx,lt_or_le->Qce,zero_add->Qcf,zero_mul->Qcg,emod_nonneg->Qco,mul_add->Qdg,le_refl->Qdh,ne_of_gt->Qdp,mul_le_mul_of_nonneg_right->Qdq,mul_le_mul_of_nonneg_left->Qdt,gcd_pos_of_ne_zero_right->Qeb,lt_of_mul_lt_mul_right->Qev,mul_ediv_cancel_left->Qfq,dvd_mul_right->Qfr,mul_ediv_mul_of_pos->Qgc,ediv_le_self->Qgk,natCast_mul->Qhd,natAbs_mul->Qia,add_mul->Qii,mul_assoc->Qjc,gcd_dvd_right->Qju,ediv_one->Qkb,add_zero->Qkf,gcd_dvd_left->Qko,gcd_mul_left->Qkp,ediv_nonneg->Qlj,mul_eq_zero->Qln,le_of_dvd->Qmj,toNat->Qmp
open PySem.Builtin.SmallTypes renaming ownedTupleIsFree->Zd,nextOf->Zj,ownedTupleHandOut->Jf
open False renaming elim->Zh
open PySem.PyData renaming int->Zq,bool->Va,eqv->Vi,canLayAll0->J8,canLay0->Qdl,list->Qgb,depthAll->Qhi,eqvAll->Qjf,depth->Qmq
open Bool renaming false_ne_true->Zt,and_false->Ya,and_eq_true->Ys,false_eq_true->Vs,and_eq_true_iff->Vu,false_and->Jd,eq_iff_iff->Qgv,true_and->Qjg,or_false->Qme,false_or->Qmf
open PySem.Obj renaming mapSeq->Zx,data_mapFields->Qcm,isFreed_of_fields->Qgx,data_mapDictKeys->Qhw,cls_mapFields->Qjr,mapFields->Qmg
open Array renaming length_toList->Z1,getElem?_eq_getElem->Y0,getElem?_toList->Qay,mk->Qbd,getElem?_eq_none->Qda,toList_inj->Qgh,toList_append->Qif,forIn_toList->Qja,toList_map->Qkm,toList_zip->Qkn,size_push->Qlh,getD->Qma,toList->Qmn
open PySem.Value renaming ref->Z3,none->Vb,type->J3,bool->Qef,builtin->Qfw,int->Qkx,isStrOf->Qmb,str->Qmm,isInt->Qmr
open Ne renaming symm->Yb
open PyProof.Rows renaming slot_tuple_getitem->Yu,seqObj->Vp,callWith_type1->Vq,IntsAre->Qbl,envOfC->Qch,get?_update_seq->Qct,listUpdate_at->Qcv,assignInOrder_cons->Qfb,AllBare->Qfi,kindOf->Qft,subscriptTail_builtinR->Qgr,seqEpoch_at->Qil,listItems_at->Qkg,failedOf->Qkv
open Or renaming inr->Y6,inl->V0
open PySem.F renaming slot_dict_valueiterator_next->Vg,slot_zip_next->Jl,excBase_ValueError->Jp,slot_tuple_iterator_next->Jq,plain_extend_loop->Jx,args_tuple_add_2->Qcb,entry_tuple_add->Qck,args_dict_valueiterator_next_1->Qcx,slot_tuple_add->Qcz,args_zip_next_1->Qde,entry_dict_valueiterator_next->Qdf,typeOf_object_class->Qdn,entry_zip_next->Qds,args_tuple_iterator_next_1->Qea,entry_tuple_iterator_next->Qei,entry_extend_loop->Qff,slot_list_append->Qfo,plainAttrs_list->Qfv,slot_dict_values_iter->Qfx,plainAttrs_dict->Qfy,plain_list_iadd->Qga,excAttr_ValueError->Qhv,slot_gs_get->Qiy,slot_int_rmul->Qld
open PySem.W.Fast renaming te14364793385576792824->Vl,te5923862056798008813->Qci
open PySem.Heap.SameBut renaming update->Vz
open PySem.Around renaming under_plainId->V6,frames_deeper->Qht
open PySem.SeqAt renaming shaped->Js,EqAt->Qlx
open PySem.Builtin.Slice renaming slicePlaces->Jw,sliceAdjust->Qbm,sliceApplied->Qes,slicePartIndex->Qks,sliceFields->Qlu
open Classical renaming byContradiction->Jy
open Option renaming isSome_iff_exists->J4,isNone_iff_eq_none->Qbn,getD_some->Qbr,isSome_some->Qiw,toList_some->Qjd,getD_none->Qki,map_some->Qll,none->Qms
open PySem.Builtin.Tuple renaming tupleExact->J6,tupleItemsOf->Qet,tupleIsExact->Qeu,tupleCompareSizes->Qjo
open PySem.NameKind renaming cell->Qai,free->Qiv
open PySem.Calls renaming callWith_builtin->Qar,spliced_cons->Qat,evalArgs_plain->Qbk,spliced_nil->Qdc,Name_function_global->Qer
open PySem.Builtin.Dict_items renaming ownsTuple->Qav,newIterator->Qkd,dictOf->Qlv
open PySem.IntMulOk renaming of_left->Qbu,of_right->Qjy
open PySem.Builtin.Int renaming intBits->Qby
open PySem.Builtin.List renaming listTooLong->Qcc,listExtendWith->Qel,listSameRef->Qfp
open Sum renaming inl->Qcj,inr->Qjn
open PySem.W.KasT renaming kasWp_bind->Qcn
open True renaming intro->Qdd
open PySem.W.SharedT renaming mk->Qdi
open PySem.PassesOwn renaming never->Qgu
open PySem.Builtin.Dict renaming showsAll->Qha
open Nat.succ renaming inj->Qhc
open PySem.SeqAt.EqAt renaming int_str->Qin,str_int->Qio,int_int->Qir
open PySem.Data renaming cell->Qiq,fields->Qlb,seq->Qmw
open PySem.Walks renaming list->Qjq
open PySem.IsL renaming update->Qkj
open PyProof.Rows.IsTup renaming new->Qla
open StateT renaming run_pure->Qlg
open PySem.Shared renaming mk->Qlo,heap->Qmt
open PySem.Paired renaming length->Qmc
open PySem.Builtin.Range renaming rangeSize->Qmd
open Function renaming comp->Qml
open Prod renaming ext->Qmu
open PySem.Heap.IsSliceOf renaming new->Qmv
open PySem.W.WShape renaming has->Qmy
open List.Pairwise renaming nil->Qmz
open PyProof.Rows.SortSt renaming mk'->Qna
open PySem.W.Looks renaming ld->Qnb
abbrev Nd0 (x:Qkw):Prop:=(x==("__debug__":Qkw))=false
abbrev Nd1 (x:Qkw):Prop:=(x==("__classdict__":Qkw))=false
namespace L2
open PySem PySem.Spec PyProof.Rows
section
abbrev Key:=Sum Int Str
def qss:Key->Value->Bool
 | .inl k,v=>Qmr k v
 | .inr x,v=>Qmb x v
def keyH (w:World):Key->Int
 | .inl k=>hashInt k
 | .inr x=>hashStr w x
def qak : ∀ {k:Key}{v:Value},qss k v=true->(∃ i t,k=Qcj i/\v=Qkx i t)\/(∃ x t,k=Qjn x/\v=Qmm x t)
 | .inl i,v,h=>by
  obtain ⟨t,e⟩:=Value.isInt_shape (k:=i) (v:=v) h;exact .inl ⟨i,t,rfl,e⟩
 | .inr x,v,h=>by
  obtain ⟨t,e⟩:=Value.isStrOf_shape (x:=x) (v:=v) h;exact .inr ⟨x,t,rfl,e⟩
def zaby (i:Int) (t:Tok):qss (.inl i) (.int i t)=true:=by simp [qss,Qmr]
def zabn (x:Str) (t:Tok):qss (.inr x) (.str x t)=true:=by simp [qss,Qmb]
def zalz (a b:Int):decide ((Qcj a:Key)=Qcj b)=(a==b):=by
 by_cases e:a=b
 ·subst e;simp
 ·have h : ¬ (Qcj a:Key)=Qcj b:=fun q=>e (Qcj.inj q);rw [decide_eq_false h];exact (beq_eq_false_iff_ne.mpr e).symm
def zamt (a b:Str):decide ((Qjn a:Key)=Qjn b)=decide (a=b):=by
 by_cases e:a=b
 ·subst e;simp
 ·have h : ¬ (Qjn a:Key)=Qjn b:=fun q=>e (Qjn.inj q);rw [decide_eq_false h,decide_eq_false e]
def zana (a:Int) (b:Str):decide ((Qcj a:Key)=Qjn b)=false:=decide_eq_false (fun q=>nomatch q)
def zamp (a:Str) (b:Int):decide ((Qjn a:Key)=Qcj b)=false:=decide_eq_false (fun q=>nomatch q)
def qch (prog:Zo) (w:World):PySem.KeyKind prog w Key where
 is:=qss
 hash:=keyH w
 inj:=fun v a b ha hb=>by
  rcases qak ha with ⟨i,t,rfl,rfl⟩|⟨x,t,rfl,rfl⟩
  ·rcases qak hb with ⟨j,u,rfl,e⟩|⟨y,u,rfl,e⟩
   ·injection e with e1 _;rw [e1]
   ·exact nomatch e
  ·rcases qak hb with ⟨j,u,rfl,e⟩|⟨y,u,rfl,e⟩
   ·exact nomatch e
   ·injection e with e1 _;rw [e1]
 byValue:=fun k v h=>by
  rcases qak h with ⟨i,t,rfl,rfl⟩|⟨x,t,rfl,rfl⟩ <;> rfl
 pyHash:=fun hv h=>by
  rcases qak hv with ⟨i,t,rfl,rfl⟩|⟨x,t,rfl,rfl⟩
  ·exact wpAny_pyHash_int h
  ·exact wpAny_pyHash_str h
 eqBool:=fun hu hv h=>by
  rcases qak hu with ⟨i,t,rfl,rfl⟩|⟨x,t,rfl,rfl⟩
  ·rcases qak hv with ⟨j,u,rfl,rfl⟩|⟨y,u,rfl,rfl⟩
   ·rw [zalz] at h;exact wpAny_eqBool_int h
   ·rw [zana] at h;exact Qin i t y u _ _ _ _ h
  ·rcases qak hv with ⟨j,u,rfl,rfl⟩|⟨y,u,rfl,rfl⟩
   ·rw [zamp] at h;exact Qio x t j u _ _ _ _ h
   ·rw [zamt] at h;exact wpAny_eqBool_str h
 «strs»:=fun k x t v h=>by
  rcases qak h with ⟨i,u,rfl,e⟩|⟨y,u,rfl,e⟩
  ·exact nomatch e
  ·injection e with e1 _;subst e1;cases v <;> rfl
def qtv (prog:Zo) (w:World) (i:Int) (t:Tok):(qch prog w).is (.inl i) (.int i t)=true:=zaby i t
def qtq (prog:Zo) (w:World) (x:Str) (t:Tok):(qch prog w).is (.inr x) (.str x t)=true:=zabn x t
end
section
inductive V where
 | non|bl (b:Bool)|int (i:Int)|str (x:Str)|byt (b:Array UInt8)|flt (b:UInt64)|ref (a:Addr)|ty (n:String)
 deriving DecidableEq
def RelV:V->Value->Prop
 | .non,u=>u=Vb
 | .bl b,u=>u=Qef b
 | .int i,u => ∃ t,u=Qkx i t
 | .str x,u => ∃ t,u=Qmm x t
 | .byt b,u => ∃ t,u=Value.bytes b t
 | .flt b,u => ∃ t,u=Value.float b t
 | .ref a,u=>u=Z3 a
 | .ty n,u=>u=J3 n
abbrev Vals:List V->List Value->Prop:=Paired RelV
def Vals.length {xs:List V}{us:List Value} (r:Vals xs us):xs.length=us.length:=Qmc r
def Vals.get : ∀ {xs:List V}{us:List Value}{i:Nat}{x:V},Vals xs us->xs[i]?=some x -> ∃ u,us[i]?=some u/\RelV x u
 | _,_,_,_,.nil,e=>by simp at e
 | _,_,0,_,.cons r _,e=>by simp at e;subst e;exact ⟨_,rfl,r⟩
 | _,_,i+1,x,.cons _ t,e=>by
  obtain ⟨u,h1,h2⟩:=Vals.get (i:=i) (x:=x) t (by simpa using e);exact ⟨u,by simpa using h1,h2⟩
def Vals.set {x:V}{u:Value} (r:RelV x u) : ∀ {xs:List V}{us:List Value} (i:Nat),Vals xs us->Vals (xs.set i x) (us.set i u)
 | _,_,_,.nil => .nil
 | _,_,0,.cons _ t => .cons r t
 | _,_,i+1,.cons q t => .cons q (Vals.set r i t)
def Vals.append : ∀ {xs ys:List V}{us ws:List Value},Vals xs us->Vals ys ws->Vals (xs++ys) (us++ws)
 | _,_,_,_,.nil,s=>s
 | _,_,_,_,.cons r t,s => .cons r (Vals.append t s)
def Vals.take : ∀ {xs:List V}{us:List Value} (n:Nat),Vals xs us->Vals (xs.take n) (us.take n)
 | _,_,0,_ => .nil
 | _,_,_+1,.nil => .nil
 | _,_,n+1,.cons r t => .cons r (Vals.take n t)
def Vals.drop : ∀ {xs:List V}{us:List Value} (n:Nat),Vals xs us->Vals (xs.drop n) (us.drop n)
 | _,_,0,r=>r
 | _,_,_+1,.nil => .nil
 | _,_,n+1,.cons _ t=>Vals.drop n t
def RelO:Option V->Option Value->Prop
 | some v,some u=>RelV v u
 | none,none=>True
 | _,_=>False
def KV {κ:Type}:List (κ×V)->List (κ×Value)->Prop:=Paired fun (p:κ×V) (q:κ×Value)=>p.1=q.1/\RelV p.2 q.2
def kV:Key->V
 | .inl i => .int i
 | .inr x => .str x
inductive HO where
 | lst (xs:List V)
 | tup (xs:List V)
 | dK (kvs:List (Key×V))|dT (kvs:List (List Key×V))
 | set (S:Int->Bool) (n:Nat)
 | ins (C dx:Addr) (fs:List (Str×V))
 | own (x:Addr)
 | xd (fs:List (Str×V))
 | met (f x:Addr)
 | rng (lo hi:Int)
 | frz (o:Obj) (u:HO)
 | tbl (ps:Array Value)
 | ext (φ:Heap->Prop)
abbrev Hp:=Addr->Option HO
def upd (H:Hp) (a:Addr) (o:HO):Hp:=fun b=>if b=a then some o else H b
def ql {H:Hp}{a:Addr}{o:HO}:upd H a o a=some o:=by unfold upd;rw [if_pos rfl]
def qj {H:Hp}{a b:Addr}{o:HO} (h:b≠a):upd H a o b=H b:=by unfold upd;rw [if_neg h]
def zaiy {H:Hp}{a:Addr}{o u:HO}:upd (upd H a o) a u=upd H a u:=by
 funext b;unfold upd;split <;> rfl
def zapw {H:Hp}{a b:Addr}{o u:HO} (h:H a=some o) (h':H b=some u) (d:o≠u):a≠b:=by
 intro e;subst e;rw [h] at h';exact d (Qx h')
def qv {H:Hp}{a b:Addr}{o:HO} (h:H a=some o) (h':H b=none):a≠b:=by
 intro e;subst e;rw [h] at h';cases h'
section
variable (P:Zo) (w:World)
def ObjOk (H:Hp) (h:Heap) (a:Addr):HO->Prop
 | .lst xs=>xs.length<=Q9 /\ ∃ (its:List Value) (n:Nat),Vals xs its/\h.get? a=some { cls :=.type "list",data :=.seq its.toArray n }
 | .tup xs=>xs.length<=Q9 /\ ∃ its:List Value,Vals xs its/\IsTup h a its.toArray
 | .dK kvs=>kvs.length<=Q9/\(a==Qaq)=false /\ ∃ vs,KV kvs vs/\h.DictOf (qch P w) a vs
 | .dT kvs=>kvs.length<=Q9/\(a==Qaq)=false /\ ∃ xs:List (List Key×Addr×Value),
  Paired (fun (p:List Key×V) (q:List Key×Addr×Value)=>p.1=q.1/\H q.2.1=some (.tup (p.1.map kV))/\RelV p.2 q.2.2) kvs xs /\
  ∃ o es ep,h.get? a=some o/\o.ExactDict/\o.data = .dict es ep/\es.toList=xs.map (entryOfKey (Qhn (qch P w)))/\(xs.map (·.1)).Nodup
 | .set S n=>h.SetOf (intKind P w) a S n
 | .ins C dx fs=>H dx=some (.own a)/\fs.length<=1000/\dx≠a/\h.get? a=some (PySem.W.instObj C dx) /\
  ∃ mA,h.Ns1 dx mA/\(∀ f,RelO (fs.lookup f) (mA f))/\PySem.Within mA (fs.map (·.1))
 | .own _ => ∃ o,h.get? a=some o
 | .xd fs => ∃ mA,h.Ns1 a mA /\ ∀ f,RelO (fs.lookup f) (mA f)
 | .rng lo hi => ∃ t u v,h.get? a=some { cls :=.type "range",data :=.fields #[.int lo t,.int hi u,.int 1 v] }
 | .frz o u=>h.get? a=some o/\ObjOk H h a u
 | .tbl ps=>h.get? a=some { cls :=.none,data :=.fields ps }
 | .met f x=>h.get? a=some (Qfm (.ref f) (.ref x))
 | .ext φ=>φ h/\(∃ o,h.get? a=some o) /\ ∀ h1 h2:Heap,φ h1->(∀ o,h1.get? a=some o->h2.get? a=some o)->φ h2
def HOk (H:Hp) (h:Heap):Prop := ∀ a o,H a=some o->ObjOk P w H h a o
end
section
variable {P:Zo}{w:World}{H H':Hp}{h h':Heap}{a:Addr}{o:HO}
def ObjOk.lt (x:ObjOk P w H h a o):a<h.objs.size:=by
 cases o with
 | lst xs=>obtain ⟨_,_,_,_,e⟩:=x;exact Qp e
 | tup xs=>obtain ⟨_,_,_,p⟩:=x;exact p.lt
 | dK kvs=>obtain ⟨_,_,_,_,o,_,_,e,_⟩:=x;exact Qp e
 | dT kvs=>obtain ⟨_,_,_,_,o,_,_,e,_⟩:=x;exact Qp e
 | set S n=>obtain ⟨o,_,_,_,e,_⟩:=x;exact Qp e
 | ins C dx fs=>obtain ⟨_,_,_,e,_⟩:=x;exact Qp e
 | own y=>obtain ⟨_,e⟩:=x;exact Qp e
 | xd fs=>obtain ⟨_,⟨_,_,_,e,_⟩,_⟩:=x;exact Qp e
 | rng lo hi=>obtain ⟨_,_,_,e⟩:=x;exact Qp e
 | frz ob u=>obtain ⟨e,_⟩:=x;exact Qp e
 | tbl ps=>exact Qp (show h.get? a=some _ from x)
 | met f y=>exact Qp (show h.get? a=some _ from x)
 | ext φ=>obtain ⟨_,⟨_,e⟩,_⟩:=x;exact Qp e
def Paired.mapP {α β:Type}{F G:α->β->Prop} : ∀ {l₁:List α}{l₂:List β},Paired F l₁ l₂->(∀ a b,F a b->G a b)->Paired G l₁ l₂
 | _,_,.nil,_ => .nil
 | _,_,.cons r t,f => .cons (f _ _ r) (Paired.mapP t f)
def ObjOk.stay (x:ObjOk P w H h a o) (k : ∀ b u,(b=a\/H b=some (.own a))->h.get? b=some u->h'.get? b=some u)
 (ho : ∀ b,H b=some (.own a)->H' b=some (.own a)) (ht : ∀ b xs,H b=some (.tup xs)->H' b=some (.tup xs)):ObjOk P w H' h' a o:=by
  induction o with
  | lst xs=>obtain ⟨z,its,n,r,e⟩:=x;exact ⟨z,its,n,r,k _ _ (.inl rfl) e⟩
  | tup xs=>obtain ⟨z,its,r,ob,e,c⟩:=x;exact ⟨z,its,r,ob,k _ _ (.inl rfl) e,c⟩
  | dK kvs=>obtain ⟨z,y,vs,r,ob,es,ep,e,c⟩:=x;exact ⟨z,y,vs,r,ob,es,ep,k _ _ (.inl rfl) e,c⟩
  | dT kvs =>
   obtain ⟨z,y,xs,r,ob,es,ep,e,c⟩:=x;exact ⟨z,y,xs,Paired.mapP r fun p q z=>⟨z.1,ht _ _ z.2.1,z.2.2⟩,ob,es,ep,k _ _ (.inl rfl) e,c⟩
  | set S n=>obtain ⟨ob,es,ep,t,e,c⟩:=x;exact ⟨ob,es,ep,t,k _ _ (.inl rfl) e,c⟩
  | ins C dx fs =>
   obtain ⟨d,z,ne,e,mA,⟨od,es,ep,e2,c⟩,r⟩:=x;exact ⟨ho _ d,z,ne,k _ _ (.inl rfl) e,mA,⟨od,es,ep,k _ _ (.inr d) e2,c⟩,r⟩
  | own y=>obtain ⟨ob,e⟩:=x;exact ⟨ob,k _ _ (.inl rfl) e⟩
  | xd fs=>obtain ⟨mA,⟨od,es,ep,e,c⟩,r⟩:=x;exact ⟨mA,⟨od,es,ep,k _ _ (.inl rfl) e,c⟩,r⟩
  | rng lo hi=>obtain ⟨t,u,v,e⟩:=x;exact ⟨t,u,v,k _ _ (.inl rfl) e⟩
  | frz ob u ih=>obtain ⟨e,q⟩:=x;exact ⟨k _ _ (.inl rfl) e,ih q⟩
  | tbl ps =>
   have e:h.get? a=some { cls :=.none,data :=.fields ps }:=x;show h'.get? a=some { cls :=.none,data :=.fields ps };exact k a _ (.inl rfl) e
  | met f y =>
   have e:h.get? a=some (Qfm (.ref f) (.ref y)):=x;show h'.get? a=some (Qfm (.ref f) (.ref y));exact k a _ (.inl rfl) e
  | ext φ=>obtain ⟨p,⟨o,e⟩,st⟩:=x;exact ⟨st _ _ p fun o q=>k _ _ (.inl rfl) q,⟨o,k _ _ (.inl rfl) e⟩,st⟩
def HOk.lt (x:HOk P w H h) (e:H a=some o):a<h.objs.size:=(x a o e).lt
def HOk.fresh (x:HOk P w H h) (e:h.objs.size<=a):H a=none:=by
 cases q:H a with
 | none=>rfl
 | some u=>exact absurd (Zg (x.lt q) e) (Ja _)
def HOk.kept (x:HOk P w H h) (k : ∀ b u,h.get? b=some u->h'.get? b=some u):HOk P w H h':=fun a o e =>
 (x a o e).stay (fun b u _ q=>k b u q) (fun _ q=>q) fun _ _ q=>q
def HOk.laid (x:HOk P w H h) (k : ∀ b u,h.get? b=some u->h'.get? b=some u) (hp:h.objs.size<=a) (new:ObjOk P w (upd H a o) h' a o):HOk P w (upd H a o) h':=fun b u e=>by
 have hn:=x.fresh hp;by_cases hb:b=a
 ·subst hb;rw [ql] at e;cases e;exact new
 ·rw [qj hb] at e;exact (x b u e).stay (fun c v _ q=>k c v q) (fun c q=>by rw [qj (qv q hn)];exact q) fun c xs q=>by rw [qj (qv q hn)];exact q
end
def Rd (H:Hp) (a:Addr) (u:HO):Prop:=H a=some u \/ ∃ o,H a=some (.frz o u)
def Rd.ok {P:Zo}{w:World}{H:Hp}{h:Heap}{a:Addr}{u:HO} (r:Rd H a u) (x:HOk P w H h):ObjOk P w H h a u:=by
 rcases r with r|⟨o,r⟩
 ·exact x a u r
 ·obtain ⟨_,q⟩:=x a _ r;exact q
def Mut:Option HO->Prop
 | some (.lst _)=>True
 | some (.dK _)=>True
 | some (.dT _)=>True
 | some (.set _ _)=>True
 | some (.ins _ _ _)=>True
 | some (.ext _)=>True
 | _=>False
section
variable {P:Zo}{w:World}{H:Hp}{h h':Heap}{x e:Addr}{o':HO}
def HOk.write (ok:HOk P w H h) (mu:Mut (H x)) (he:e=x\/H e=some (.own x)) (k : ∀ b u,b≠e->h.get? b=some u->h'.get? b=some u) (heo : ∃ u,h'.get? e=some u)
 (new:ObjOk P w (upd H x o') h' x o'):HOk P w (upd H x o') h':=fun b u q=>by
  have nown : ∀ c y,H c=some (.own y)->c≠x:=fun c y r z=>by subst z;rw [r] at mu;exact mu
  have ntup : ∀ c xs,H c=some (.tup xs)->c≠x:=fun c xs r z=>by subst z;rw [r] at mu;exact mu
  by_cases hb:b=x
  ·subst hb;rw [ql] at q;cases q;exact new
  ·rw [qj hb] at q;by_cases hbe:b=e
   ·have q':H b=some (.own x):=by
     rcases he with z|z
     ·exact absurd (hbe.trans z) hb
     ·rw [hbe];exact z
    rw [q] at q';cases q';obtain ⟨v,hv⟩:=heo;exact ⟨v,by rw [hbe];exact hv⟩
   ·refine (ok b u q).stay (fun c v hc r=>k c v ?_ r) (fun c r=>by rw [qj (nown c b r)];exact r) fun c xs r=>by rw [qj (ntup c xs r)];exact r
    rcases hc with rfl|hc
    ·exact hbe
    ·rintro rfl;rcases he with z|z
     ·exact nown c b hc z
     ·rw [hc] at z;cases z;exact hb rfl
end
def zapv (o:Obj):Prop := ∃ vs q t,o.data = .fields vs/\vs[1]?=some (.str q t)
structure GoodT (H:Hp) (ps:Array Value):Prop where
 tr:Qji ps.toList
 co : ∀ (pos:Pos) (v:Value),Qcs pos ps.toList=some v -> ∃ c o u,v = .ref c/\H c=some (.frz o u)/\zapv o
def GoodT.nil {H:Hp}:GoodT H #[]:=⟨trivial,fun pos v h=>by simp [Qcs] at h⟩
def GoodT.mono {H H':Hp}{ps:Array Value} (g:GoodT H ps) (f : ∀ b o u,H b=some (.frz o u)->H' b=some (.frz o u)):GoodT H' ps:=⟨g.tr,fun pos v h=>by
 obtain ⟨c,o,u,z,e,k⟩:=g.co pos v h;exact ⟨c,o,u,z,f _ _ _ e,k⟩⟩
def qlj : ∀ {a b:List Value},Qji a->Qji b->Qji (a++b)
 | [],_,_,h=>h
 | .int _ _ :: .int _ _::_::r,_,g,h=>qlj (a:=r) g h
def qqi {pos:Pos}{v:Value} : ∀ {a b:List Value},Qji a->Qcs pos (a++b)=some v->Qcs pos a=some v\/Qcs pos b=some v
 | [],_,_,h => .inr h
 | .int i _ :: .int j _::x::r,b,g,h=>by
  have h:(if i==pos.line&&j==pos.col then some x else Qcs pos (r++b))=some v:=h;show (if i==pos.line&&j==pos.col then some x else Qcs pos r)=some v\/_;split at h
  ·left;rw [if_pos (by assumption)];exact h
  ·rw [if_neg (by assumption)];exact qqi (a:=r) g h
def GoodT.app {H:Hp}{a b:Array Value} (g:GoodT H a) (k:GoodT H b):GoodT H (a++b):=⟨by rw [Qif];exact qlj g.tr k.tr,fun pos v h=>by
 rw [Qif] at h;rcases qqi g.tr h with h|h
 ·exact g.co pos v h
 ·exact k.co pos v h⟩
structure Un (fs ex:List Addr) (H H':Hp) (h h':Heap):Prop where
 keep : ∀ b o,h.get? b=some o->H b=none->b ∉ fs->b ∉ ex->h'.get? b=some o
 slot : ∀ b o,h.get? b=some o->H b=none->b ∈ fs->b ∉ ex -> ∃ sl,h'.get? b=some { o with slots:=sl }
 free : ∀ b o,h.get? b=some o->H b=none->b ∉ ex->H' b=none
 there : ∀ b o,h.get? b=some o->b ∉ ex -> ∃ o',h'.get? b=some o'
 tups : ∀ b xs,H b=some (.tup xs)->H' b=some (.tup xs)
 frzs : ∀ b o u,H b=some (.frz o u)->H' b=some (.frz o u)
 tbls : ∀ b ps,H b=some (.tbl ps) -> ∃ more,H' b=some (.tbl (ps++more))/\GoodT H' more
section
variable {fs fs' ex ex':List Addr}{H H1 H2:Hp}{h h1 h2 h':Heap}{a x e:Addr}{o:HO}
def Un.any (u:Un fs ex H H1 h h1) {b:Addr}{ob:Obj} (q:h.get? b=some ob) (n:H b=none) (hx:b ∉ ex) : ∃ sl,h1.get? b=some { ob with slots:=sl }:=by
 by_cases hb:b ∈ fs
 ·exact u.slot b ob q n hb hx
 ·exact ⟨ob.slots,u.keep b ob q n hb hx⟩
def Un.kept (k : ∀ b u,h.get? b=some u->h'.get? b=some u):Un fs ex H H h h' :=
 ⟨fun b ob q _ _ _=>k b ob q,fun b ob q _ _ _=>⟨ob.slots,k b ob q⟩,fun _ _ _ n _=>n,fun b ob q _=>⟨ob,k b ob q⟩,fun _ _ q=>q,fun _ _ _ q=>q,fun _ ps q=>⟨#[],by rw [q];simp,.nil⟩⟩
def Un.refl:Un fs ex H H h h:=Un.kept fun _ _ q=>q
def Un.laid (k : ∀ b u,h.get? b=some u->h'.get? b=some u) (hp:h.objs.size<=a) (hn:H a=none):Un fs ex H (upd H a o) h h' where
 keep:=fun b u q _ _ _=>k b u q
 slot:=fun b u q _ _ _=>⟨u.slots,k b u q⟩
 free:=fun b u q n _=>by rw [qj (Qq (Zg (Qp q) hp))];exact n
 there:=fun b u q _=>⟨u,k b u q⟩
 tups:=fun b xs q=>by rw [qj (qv q hn)];exact q
 frzs:=fun b u xs q=>by rw [qj (qv q hn)];exact q
 tbls:=fun b ps q=>⟨#[],by rw [qj (qv q hn),q];simp,.nil⟩
def Un.write (mu:Mut (H x)) (he:e=x\/H e=some (.own x)) (k : ∀ b u,b≠e->h.get? b=some u->h'.get? b=some u) (heo : ∃ u,h'.get? e=some u):Un fs ex H (upd H x o) h h':=by
 have hx : ∀ b,H b=none->b≠x:=fun b n z=>by subst z;rw [n] at mu;exact mu
 have hb : ∀ b,H b=none->b≠e:=fun b n z=>by
  subst z;rcases he with r|r
  ·exact hx b n r
  ·rw [n] at r;cases r
 have hm : ∀ b u,H b=some u -> ¬ Mut (some u)->b≠x:=fun b u q nm z=>by subst z;rw [q] at mu;exact nm mu
 refine ⟨fun b u q n _ _=>k b u (hb b n) q,fun b u q n _ _=>⟨u.slots,k b u (hb b n) q⟩,fun b u q n _=>by rw [qj (hx b n)];exact n,fun b u q _=>?_,
  fun b xs q=>by rw [qj (hm b _ q fun z=>z)];exact q,fun b u xs q=>by rw [qj (hm b _ q fun z=>z)];exact q,fun b ps q=>⟨#[],by rw [qj (hm b _ q fun z=>z),q];simp,.nil⟩⟩
 by_cases hbe:b=e
 ·subst hbe;exact heo
 ·exact ⟨u,k b u hbe q⟩
end
def trk (h:Heap) (H:Hp):List Addr:=(Q1 h.objs.size).filter fun a=>(H a).isSome
def qxd (h:Heap) (H:Hp):Heap:=Qky h (trk h H)
def zaak (h:Heap) (H:Hp):(qxd h H).objs.size=h.objs.size:=PySem.W.hideAll_size _ _
def zaeb {h:Heap}{H:Hp}{b:Addr}{o:Obj} (e:h.get? b=some o) (n:H b=none):(qxd h H).get? b=some o :=
 Qbw _ e fun hm=>by
  have q:(H b).isSome=true:=(Qkz.mp hm).2;rw [n] at q;simp at q
def zajz {h:Heap}{H:Hp}{b:Addr}{o:Obj} (e:(qxd h H).get? b=some o):h.get? b=some o/\H b=none:=by
 have e':h.get? b=some o:=Qip (trk h H) e;refine ⟨e',?_⟩;cases q:H b with
 | none=>rfl
 | some x =>
  have hm:b ∈ trk h H:=Qkz.mpr ⟨Q6.mpr (Qp e'),by simp [q]⟩;have z:(qxd h H).get? b=none:=PySem.W.hideAll_none (trk h H) hm;rw [z] at e;cases e
def zajp (g h:Heap) (L:Addr):List (Addr×Obj):=(Q1 h.objs.size).filterMap fun a=>if a=L\/(g.get? a).isSome=true then none else (h.get? a).map fun o=>(a,o)
def rest (g h:Heap) (L d:Addr):List (Addr×Obj):=(zajp g h L).filter fun p=>decide (p.1≠d)
end
section
structure Mod (K:Qe) (mg:Str->Option Value) (base:Heap):Prop where
 kin:K.In base
 glob:base.Ns Ze mg
 blt : ∃ mb,base.Ns Qeg mb /\ ∀ x:Str,x ≠ "__name__" -> mb x=Z0 x
 nolimit:base.NoLimit
structure Cx where
 prog:Zo
 w:World
 K:Qe
 mg:Str->Option Value
 base:Heap
 A:Z2
 N:List Str
 s₀:Ql
 H₀:Hp
 env:Env
 outer:List Env
 stack:List Env
 ex:List Addr
 fn:Str->Bool
 calm:Bool
 pn:List (Addr×Obj)
 xe:Value->Ql->Prop
def frs (l:List Env):List Addr:=l.filterMap (·.frame)
abbrev Cx.fs (X:Cx):List Addr:=frs X.outer
def Vis (sc:Scope) (x:Str):Prop:=sc.names.lookup x=some .local\/sc.names.lookup x=some .cell\/sc.names.lookup x=some .free
def Loc (sc:Scope) (x:Str):Prop:=sc.names.lookup x=some .local\/sc.names.lookup x=some .cell
def Look (env:Env) (h:Heap) (m:Str->Option Value) (x:Str) (u:Value):Prop :=
 (env.kindOf x=some .local/\m x=some u)\/((env.kindOf x=some .cell\/env.kindOf x=some .free) /\ ∃ c,env.cells.lookup x=some c/\h.IsCell c (some u))
structure Cx.Ok (X:Cx):Prop where
 mod:Mod X.K X.mg X.base
 kind:X.env.scope.kind = .function
 glob:X.env.globals=Ze
 blt:X.env.builtins=Qeg
 above:X.s₀.heap.objs.size<=X.env.locals
 inj : ∀ x y c,X.env.cells.lookup x=some c->X.env.cells.lookup y=some c->x=y
 has : ∀ x,(X.env.kindOf x=some .cell\/X.env.kindOf x=some .free) -> ∃ c,X.env.cells.lookup x=some c
 cab : ∀ x c,X.fn x=true->X.env.cells.lookup x=some c->X.s₀.heap.objs.size<=c
 hd:X.calm=true->X.A.handled=none
 frames:X.A.frames=some X.stack
 stk:X.stack=X.outer\/(X.stack=X.env::X.outer/\X.env.frame=some X.env.locals)
 exf : ∀ b ∈ X.ex,b≠X.env.locals /\ ∀ x c,X.env.cells.lookup x=some c->c≠b
 bs : ∀ b o,X.base.get? b=some o->X.s₀.heap.get? b=some o/\X.H₀ b=none
 bsz:X.base.objs.size<=X.s₀.heap.objs.size
 noex : ∀ b o,X.base.get? b=some o->b ∉ X.ex
 exfs : ∀ b ∈ X.ex,b ∉ X.fs
 funs:X.s₀.heap.FunFrames X.base X.outer
 frf : ∀ b ∈ X.fs,X.H₀ b=none
structure Inv (X:Cx) (pins:List (Addr×Obj)) (σ:List (Option V)) (H:Hp) (s:Ql):Prop where
 ok:X.Ok
 os:s.os=X.s₀.os
 bare:Qfi s.gens
 base:Un X.fs X.ex X.H₀ H X.s₀.heap s.heap
 loc : ∃ m,s.heap.Ns X.env.locals m /\ ∀ (i:Nat) (x:Str) (v:V),X.N[i]?=some x->σ[i]?=some (some v)->Vis X.env.scope x -> ∃ u,RelV v u/\Look X.env s.heap m x u
 cell : ∀ x c,X.env.cells.lookup x=some c -> ∃ v,s.heap.IsCell c v
 free:H X.env.locals=none
 freeC : ∀ x c,X.env.cells.lookup x=some c->H c=none
 pin : ∀ p ∈ X.pn++pins,s.heap.get? p.1=some p.2/\H p.1=none/\p.1≠X.env.locals/\p.1 ∉ X.fs /\ ∀ v,p.2.data ≠ .cell v
 hok:HOk X.prog X.w H s.heap
 len:σ.length=X.N.length
section
variable {X:Cx}{pins:List (Addr×Obj)}{σ:List (Option V)}{H H':Hp}{s:Ql}{h':Heap}
def Cx.Ok.nofr (ok:X.Ok) {b:Addr}{o:Obj} (e:X.base.get? b=some o):b ∉ X.fs:=fun hb=>by
 have:=(ok.funs.mem hb).1;rw [e] at this;cases this
def Inv.bs (I:Inv X pins σ H s) : ∀ b o,X.base.get? b=some o->s.heap.get? b=some o/\H b=none:=fun b o e =>
 ⟨I.base.keep b o (I.ok.bs b o e).1 (I.ok.bs b o e).2 (I.ok.nofr e) (I.ok.noex b o e),I.base.free b o (I.ok.bs b o e).1 (I.ok.bs b o e).2 (I.ok.noex b o e)⟩
def Inv.bk (I:Inv X pins σ H s) : ∀ b o,X.base.get? b=some o->s.heap.get? b=some o:=fun b o e=>(I.bs b o e).1
def Inv.mod (I:Inv X pins σ H s):Mod X.K X.mg X.base:=I.ok.mod
def Inv.kIn (I:Inv X pins σ H s):X.K.In s.heap:=I.ok.mod.kin.keeps I.bk
def Inv.lt (I:Inv X pins σ H s):X.env.locals<s.heap.objs.size:=let ⟨_,hn,_⟩:=I.loc;hn.lt
def Inv.sz (I:Inv X pins σ H s):X.s₀.heap.objs.size<=s.heap.objs.size:=Zr I.ok.above (Z6 I.lt)
def Inv.nofs (I:Inv X pins σ H s) {a:Addr} (h:s.heap.objs.size<=a):a ∉ X.fs:=fun hb=>by
 obtain ⟨_,o,ho,_⟩:=I.ok.funs.mem hb;exact absurd (Zg (Qp ho) (Zr I.sz h)) (Ja _)
def Inv.cne (I:Inv X pins σ H s) : ∀ x c,X.env.cells.lookup x=some c->c≠X.env.locals:=fun x c e z=>by
 obtain ⟨v,o,ho,hd⟩:=I.cell x c e;obtain ⟨m,⟨o',es,ep,ho',hd',_⟩,_⟩:=I.loc;rw [z,ho'] at ho;cases ho;rw [hd'] at hd;cases hd
def Inv.funs (I:Inv X pins σ H s):s.heap.FunFrames X.base X.outer:=by
 have all : ∀ (l:List Env),(∀ b ∈ frs l,b ∈ X.fs)->X.s₀.heap.FunFrames X.base l->s.heap.FunFrames X.base l:=by
  intro l
  induction l with
  | nil=>intro _ _;trivial
  | cons env r ih =>
   intro hs hl;obtain ⟨hk,⟨L,o,hf,hn,ho,hd⟩,hr⟩:=hl;have hL:L ∈ X.fs:=hs L (by unfold frs;rw [Vk,hf];exact Qas);obtain ⟨sl,e⟩:=I.base.slot L o ho (I.ok.frf L hL) hL fun z=>I.ok.exfs L z hL;exact ⟨hk,⟨L,_,hf,hn,e,hd⟩,ih (fun b hb=>hs b (by unfold frs;rw [Vk,hf];exact Qs _ hb)) hr⟩
 exact all X.outer (fun _ hb=>hb) I.ok.funs
def Inv.stack (I:Inv X pins σ H s):s.heap.FunFrames X.base X.stack:=by
 rcases I.ok.stk with e|⟨e,hf⟩
 ·rw [e];exact I.funs
 ·rw [e];obtain ⟨m,hn,_⟩:=I.loc;refine .cons (by rw [I.ok.kind];decide) hf hn ?_ I.funs;exact Heap.get?_none_of_le (Zr I.ok.bsz I.ok.above)
def Inv.stkSub (I:Inv X pins σ H s) : ∀ b ∈ frs X.stack,b ∈ X.env.locals::X.fs:=fun b hb=>by
 rcases I.ok.stk with e|⟨e,hf⟩
 ·rw [e] at hb;exact Qs _ hb
 ·rw [e] at hb;unfold frs at hb;rw [Vk,hf] at hb;exact hb
def Inv.stkFree (I:Inv X pins σ H s) : ∀ b ∈ frs X.stack,H b=none:=fun b hb=>by
 rcases Q3.mp (I.stkSub b hb) with e|hb
 ·rw [e];exact I.free
 ·obtain ⟨_,o,ho,_⟩:=I.ok.funs.mem hb;exact I.base.free b o ho (I.ok.frf b hb) fun z=>I.ok.exfs b z hb
def Inv.step {g':Array Qkt}{t':Nat}{d':Drawn}{ch:List Addr} (I:Inv X pins σ H s)
 (hch : ∀ b ∈ ch,(b ∈ X.ex\/X.s₀.heap.objs.size<=b)/\b≠X.env.locals/\(∀ x c,X.env.cells.lookup x=some c->c≠b) /\ ∀ p ∈ X.pn++pins,p.1≠b)
 (keep : ∀ b o,b≠X.env.locals->b ∉ X.fs->b ∉ ch->s.heap.get? b=some o->H b=none->h'.get? b=some o)
 (slot : ∀ b o,b≠X.env.locals->b ∈ X.fs->b ∉ ch->s.heap.get? b=some o->H b=none -> ∃ sl,h'.get? b=some { o with slots:=sl }) (free : ∀ b o,b ∉ ch->s.heap.get? b=some o->H b=none->H' b=none)
  (there : ∀ b o,b ∉ ch->s.heap.get? b=some o -> ∃ o',h'.get? b=some o')
  (tups : ∀ b xs,H b=some (.tup xs)->H' b=some (.tup xs)) (frzs : ∀ b o u,H b=some (.frz o u)->H' b=some (.frz o u)) (tbls : ∀ b ps,H b=some (.tbl ps) -> ∃ more,H' b=some (.tbl (ps++more))/\GoodT H' more)
  (ns : ∀ m,s.heap.Ns X.env.locals m->h'.Ns X.env.locals m) (hok:HOk X.prog X.w H' h') (hg:Qfi g') :
  Inv X pins σ H' { s with heap:=h',gens:=g',drawn:=d',toks:=t' }:=by
  have neL : ∀ b o,X.s₀.heap.get? b=some o->b≠X.env.locals:=fun b o e=>Qq (Zg (Qp e) I.ok.above);have neC : ∀ b o,X.s₀.heap.get? b=some o->b ∉ X.ex->b ∉ ch:=fun b o e hx hb=>by
   rcases (hch b hb).1 with z|z
   ·exact hx z
   ·exact absurd (Zg (Qp e) z) (Ja _)
  have cellK : ∀ x c,X.env.cells.lookup x=some c -> ∀ v,s.heap.IsCell c v->h'.IsCell c v:=fun x c e v xx1=>by
   obtain ⟨o,ho,hd⟩:=xx1;have nch:c ∉ ch:=fun z=>(hch c z).2.2.1 x c e rfl;by_cases hc:c ∈ X.fs
   ·obtain ⟨sl,q⟩:=slot c o (I.cne x c e) hc nch ho (I.freeC x c e);exact ⟨_,q,hd⟩
   ·exact ⟨o,keep c o (I.cne x c e) hc nch ho (I.freeC x c e),hd⟩
  refine ⟨I.ok,I.os,hg,⟨fun b o e n hb hx=>?_,fun b o e n hb hx=>?_,fun b o e n hx=>?_,fun b o e hx=>?_,fun b xs e=>tups b xs (I.base.tups b xs e),fun b o xs e=>frzs b o xs (I.base.frzs b o xs e),fun b ps e=>?_⟩,?_,fun x c e=>?_,?_,fun x c e=>?_,fun p hp=>?_,hok,I.len⟩
  ·exact keep b o (neL b o e) hb (neC b o e hx) (I.base.keep b o e n hb hx) (I.base.free b o e n hx)
  ·obtain ⟨sl,e1⟩:=I.base.slot b o e n hb hx;obtain ⟨sl',e2⟩:=slot b _ (neL b o e) hb (neC b o e hx) e1 (I.base.free b o e n hx);exact ⟨sl',e2⟩
  ·obtain ⟨o',e1⟩:=I.base.there b o e hx;exact free b o' (neC b o e hx) e1 (I.base.free b o e n hx)
  ·obtain ⟨o',e1⟩:=I.base.there b o e hx;exact there b o' (neC b o e hx) e1
  ·obtain ⟨m1,e1,g1⟩:=I.base.tbls b ps e;obtain ⟨m2,e2,g2⟩:=tbls b _ e1;exact ⟨m1++m2,by rw [e2,Array.append_assoc],(g1.mono frzs).app g2⟩
  ·obtain ⟨m,hn,hl⟩:=I.loc;refine ⟨m,ns m hn,fun i x v e1 e2 e3=>?_⟩;obtain ⟨u,r,l⟩:=hl i x v e1 e2 e3;refine ⟨u,r,?_⟩;rcases l with l|⟨k,c,e,z⟩
   ·exact .inl l
   ·exact .inr ⟨k,c,e,cellK x c e _ z⟩
  ·obtain ⟨v,z⟩:=I.cell x c e;exact ⟨v,cellK x c e v z⟩
  ·obtain ⟨m,⟨o,_,_,ho,_⟩,_⟩:=I.loc;exact free _ o (fun z=>(hch _ z).2.1 rfl) ho I.free
  ·obtain ⟨v,o,ho,hd⟩:=I.cell x c e;exact free c o (fun z=>(hch c z).2.2.1 x c e rfl) ho (I.freeC x c e)
  ·obtain ⟨e,n,ne,nf,d⟩:=I.pin p hp;have nch:p.1 ∉ ch:=fun z=>(hch p.1 z).2.2.2 p hp rfl;exact ⟨keep p.1 p.2 ne nf nch e n,free p.1 p.2 nch e n,ne,nf,d⟩
def Inv.un {t':Nat} (I:Inv X pins σ H s) (u:Un X.fs [] H H' s.heap h') (hok:HOk X.prog X.w H' h'):Inv X pins σ H' { s with heap:=h',toks:=t' }:=by
 obtain ⟨m,⟨o,es,ep,ho,r⟩,_⟩:=id I.loc;obtain ⟨sl,hL⟩:=u.any ho I.free (by simp);exact I.step (g':=s.gens) (d':=s.drawn) (ch:=[]) (fun _ z=>nomatch z) (fun b o _ hb _ e n=>u.keep b o e n hb (by simp)) (fun b o _ hb _ e n=>u.slot b o e n hb (by simp)) (fun b o _ e n=>u.free b o e n (by simp)) (fun b o _ e=>u.there b o e (by simp)) u.tups u.frzs u.tbls (fun m' hm=>by
  obtain ⟨o',es',ep',ho',r'⟩:=hm;rw [ho] at ho';cases ho';exact ⟨_,es',ep',hL,r'⟩) hok I.bare
def Inv.call {g':Array Qkt}{t':Nat}{d':Drawn}{ch:List Addr} (I:Inv X pins σ H s) (u:Un (frs X.stack) ch H H' s.heap h') (hok:HOk X.prog X.w H' h') (hg:Qfi g')
 (hch : ∀ b ∈ ch,(b ∈ X.ex\/X.s₀.heap.objs.size<=b)/\b≠X.env.locals/\(∀ x c,X.env.cells.lookup x=some c->c≠b) /\ ∀ p ∈ X.pn++pins,p.1≠b) :
 Inv X pins σ H' { s with heap:=h',gens:=g',drawn:=d',toks:=t' }:=by
  obtain ⟨m,⟨o,es,ep,ho,r⟩,_⟩:=id I.loc;obtain ⟨sl,hL⟩:=u.any ho I.free fun z=>(hch _ z).2.1 rfl;exact I.step (ch:=ch) hch (fun b o hL hb hc e n=>u.keep b o e n (fun z=>(Q3.mp (I.stkSub b z)).elim hL hb) hc) (fun b o _ _ hc e n=>u.any e n hc) (fun b o hc e n=>u.free b o e n hc) (fun b o hc e=>u.there b o e hc) u.tups u.frzs u.tbls (fun m' hm=>by
   obtain ⟨o',es',ep',ho',r'⟩:=hm;rw [ho] at ho';cases ho';exact ⟨_,es',ep',hL,r'⟩) hok hg
def Inv.turned {t':Nat}{it:Addr} (I:Inv X pins σ H s) (k : ∀ b o,b≠it->s.heap.get? b=some o->h'.get? b=some o) (hn:H it=none) (hL:it≠X.env.locals)
 (h1:it ∈ X.ex\/X.s₀.heap.objs.size<=it) (h2 : ∀ x c,X.env.cells.lookup x=some c->c≠it) (h3 : ∀ p ∈ X.pn++pins,p.1≠it):Inv X pins σ H { s with heap:=h',toks:=t' }:=by
  have nit : ∀ b u,H b=some u->b≠it:=fun b u e z=>by rw [z,hn] at e;cases e
  refine I.step (g':=s.gens) (d':=s.drawn) (ch:=[it]) (fun b hb=>?_) (fun b o _ _ hc e _=>k b o (fun z=>hc (by simp [z])) e) (fun b o _ _ hc e _=>⟨o.slots,k b o (fun z=>hc (by simp [z])) e⟩) (fun _ _ _ _ n=>n)
   (fun b o hc e=>⟨o,k b o (fun z=>hc (by simp [z])) e⟩) (fun _ _ e=>e) (fun _ _ _ e=>e) (fun b ps e=>⟨#[],by rw [e];simp,.nil⟩) (fun m hm=>?_) (fun b u e=>?_) I.bare
  ·have e:b=it:=by simpa using hb
   subst e;exact ⟨h1,hL,h2,h3⟩
  ·obtain ⟨o,es,ep,ho,r⟩:=hm;exact ⟨o,es,ep,k _ o (Yb hL) ho,r⟩
  ·refine (I.hok b u e).stay (fun c v hc q=>k c v ?_ q) (fun _ q=>q) fun _ _ q=>q;rcases hc with z|z
   ·rw [z];exact nit b u e
   ·exact nit c _ z
def Inv.tok (I:Inv X pins σ H s) (t:Nat):Inv X pins σ H { s with toks:=t }:=I.un (h':=s.heap) (t':=t) Un.refl I.hok
def Inv.kept {t':Nat} (I:Inv X pins σ H s) (k : ∀ b u,s.heap.get? b=some u->h'.get? b=some u):Inv X pins σ H { s with heap:=h',toks:=t' }:=I.un (Un.kept k) (I.hok.kept k)
def Inv.laid {a:Addr}{o:HO}{t':Nat} (I:Inv X pins σ H s) (k : ∀ b u,s.heap.get? b=some u->h'.get? b=some u) (hp:s.heap.objs.size<=a) (new:ObjOk X.prog X.w (upd H a o) h' a o) :
 Inv X pins σ (upd H a o) { s with heap:=h',toks:=t' }:=I.un (Un.laid k hp (I.hok.fresh hp)) (I.hok.laid k hp new)
def Inv.write {x e:Addr}{o:HO}{t':Nat} (I:Inv X pins σ H s) (mu:Mut (H x)) (he:e=x\/H e=some (.own x)) (k : ∀ b u,b≠e->s.heap.get? b=some u->h'.get? b=some u) (heo : ∃ u,h'.get? e=some u)
 (new:ObjOk X.prog X.w (upd H x o) h' x o):Inv X pins σ (upd H x o) { s with heap:=h',toks:=t' }:=I.un (Un.write mu he k heo) (I.hok.write mu he k heo new)
def Inv.pins_of {pins':List (Addr×Obj)} (I:Inv X pins σ H s) (h : ∀ p ∈ pins',s.heap.get? p.1=some p.2/\H p.1=none/\p.1≠X.env.locals/\p.1 ∉ X.fs /\ ∀ v,p.2.data ≠ .cell v):Inv X pins' σ H s :=
 ⟨I.ok,I.os,I.bare,I.base,I.loc,I.cell,I.free,I.freeC,fun p hp=>(Zl.mp hp).elim (fun z=>I.pin p (Yg _ z)) (h p),I.hok,I.len⟩
def qoa {N:List Str} (hN:N.Nodup) {i j:Nat}{x:Str} (a:N[i]?=some x) (b:N[j]?=some x):i=j:=by
 obtain ⟨h1,e1⟩:=Qg.mp a;obtain ⟨h2,e2⟩:=Qg.mp b;exact (List.getElem_inj hN).mp (e1.trans e2.symm)
def zaal {M:Model}{A:Z2}{E:Value->Ql->Prop}{i:Nat}{x:Str}{v:V}{u:Value}{Q:Unit->Ql->Prop} (I:Inv X pins σ H s) (hN:X.N.Nodup) (hi:X.N[i]?=some x) (hx:Loc X.env.scope x) (r:RelV v u)
 (h : ∀ s',Inv X pins (σ.set i (some v)) H s'->(∃ a,Vv a s.heap s'.heap/\(a=X.env.locals\/X.env.cells.lookup x=some a))->Q () s') (hf:X.fn x=true\/X.env.scope.names.lookup x=some .local:=by first|exact .inl rfl|exact .inr rfl|assumption):wpAny M A (storeName X.env x u) Q E s:=by
  obtain ⟨m,hn,hl⟩:=id I.loc;have hcls:(X.env.scope.kind == .class||(X.env.scope.kind == .module&&X.env.locals != X.env.globals))=false:=by rw [I.ok.kind];rfl
  have hiσ:i<σ.length:=by rw [I.len];exact (Qg.mp hi).1
  have cne:=I.cne;have tracked : ∀ {a:Addr}{h':Heap},(∃ o,s.heap.get? a=some o/\H a=none)->Vv a s.heap h'->HOk X.prog X.w H h':=fun {a h'} ha hs b ob e=>by
   obtain ⟨_,_,hfree⟩:=ha;refine (I.hok b ob e).stay (fun c w' hc q=>(hs.2 c ?_).trans q) (fun _ q=>q) fun _ _ q=>q;rintro rfl;rcases hc with rfl|hc
   ·rw [hfree] at e;cases e
   ·rw [hfree] at hc;cases hc
  rcases hx with hk|hk
  ·refine wpAny_storeName_local hk hn (fun h' hn' hs=>?_) hcls;obtain ⟨oL,_,_,hoL,_⟩:=id hn;refine h _ ⟨I.ok,I.os,I.bare,⟨fun b o e n hb hx=>?_,fun b o e n hb hx=>?_,I.base.free,fun b o e hx=>?_,I.base.tups,I.base.frzs,I.base.tbls⟩,⟨_,hn',fun j y v' e1 e2 e3=>?_⟩,fun y c e=>?_,I.free,I.freeC,fun p hp=>?_,tracked ⟨oL,hoL,I.free⟩ hs,by simpa using I.len⟩ ⟨_,hs,.inl rfl⟩
   ·exact (hs.2 b (Qq (Zg (Qp e) I.ok.above))).trans (I.base.keep b o e n hb hx)
   ·obtain ⟨sl,e1⟩:=I.base.slot b o e n hb hx;exact ⟨sl,(hs.2 b (Qq (Zg (Qp e) I.ok.above))).trans e1⟩
   ·obtain ⟨o',e1⟩:=I.base.there b o e hx;exact ⟨o',(hs.2 b (Qq (Zg (Qp e) I.ok.above))).trans e1⟩
   ·by_cases hj:j=i
    ·subst hj;rw [hi] at e1;cases e1;rw [Qgp hiσ] at e2;cases e2;exact ⟨u,r,.inl ⟨hk,by simp⟩⟩
    ·rw [Z7 (Yb hj)] at e2;obtain ⟨u',r',q⟩:=hl j y v' e1 e2 e3;refine ⟨u',r',?_⟩;rcases q with ⟨k,e⟩|⟨k,c,e,z⟩
     ·refine .inl ⟨k,?_⟩;have:y≠x:=fun e=>hj (qoa hN e1 (e ▸ hi));simp [this,e]
     ·exact .inr ⟨k,c,e,z.sameBut hs (cne y c e)⟩
   ·obtain ⟨w',z⟩:=I.cell y c e;exact ⟨w',z.sameBut hs (cne y c e)⟩
   ·obtain ⟨e,n,ne,nf,d⟩:=I.pin p hp;exact ⟨(hs.2 p.1 ne).trans e,n,ne,nf,d⟩
  ·have hfn:X.fn x=true:=by
    rcases hf with z|z
    ·exact z
    ·rw [z] at hk;cases hk
   obtain ⟨c,hc⟩:=I.ok.has x (.inl hk);obtain ⟨w',z⟩:=I.cell x c hc;refine wpAny_storeName_cell I.ok.kind hk hc z (fun h' hc' hs=>?_);obtain ⟨oc,hoc,hocd⟩:=id z;refine h { s with heap:=h' } ⟨I.ok,I.os,I.bare,⟨fun b o e n hb hx=>?_,fun b o e n hb hx=>?_,I.base.free,fun b o e hx=>?_,I.base.tups,I.base.frzs,I.base.tbls⟩,⟨m,hn.sameBut hs (Yb (cne x c hc)),fun j y v' e1 e2 e3=>?_⟩,fun y c' e=>?_,I.free,I.freeC,fun p hp=>?_,tracked ⟨oc,hoc,I.freeC x c hc⟩ hs,by simpa using I.len⟩ ⟨c,hs,.inr hc⟩
   ·exact (hs.2 b (Qq (Zg (Qp e) (I.ok.cab x c hfn hc)))).trans (I.base.keep b o e n hb hx)
   ·obtain ⟨sl,e1⟩:=I.base.slot b o e n hb hx;exact ⟨sl,(hs.2 b (Qq (Zg (Qp e) (I.ok.cab x c hfn hc)))).trans e1⟩
   ·obtain ⟨o',e1⟩:=I.base.there b o e hx;exact ⟨o',(hs.2 b (Qq (Zg (Qp e) (I.ok.cab x c hfn hc)))).trans e1⟩
   ·by_cases hj:j=i
    ·subst hj;rw [hi] at e1;cases e1;rw [Qgp hiσ] at e2;cases e2;exact ⟨u,r,.inr ⟨.inl hk,c,hc,hc'⟩⟩
    ·rw [Z7 (Yb hj)] at e2;obtain ⟨u',r',q⟩:=hl j y v' e1 e2 e3;refine ⟨u',r',?_⟩;rcases q with q|⟨k,c',e,z'⟩
     ·exact .inl q
     ·refine .inr ⟨k,c',e,z'.sameBut hs ?_⟩;rintro rfl;exact hj (qoa hN e1 (I.ok.inj _ _ _ e hc ▸ hi))
   ·by_cases hcc:c'=c
    ·subst hcc;exact ⟨_,hc'⟩
    ·obtain ⟨w2,z2⟩:=I.cell y c' e;exact ⟨w2,z2.sameBut hs hcc⟩
   ·obtain ⟨e,n,ne,nf,d⟩:=I.pin p hp;refine ⟨(hs.2 p.1 ?_).trans e,n,ne,nf,d⟩;intro q;rw [q,hoc] at e;have q':oc=p.2:=Qx e;exact d w' (by rw [<- q'];exact hocd)
def qfk {M:Model}{A:Z2}{E:Value->Ql->Prop}{i:Nat}{x:Str}{v:V}{u:Value}{Q:Unit->Ql->Prop} (I:Inv X pins σ H s) (hN:X.N.Nodup) (hi:X.N[i]?=some x) (hx:Loc X.env.scope x) (r:RelV v u)
 (h : ∀ s',Inv X pins (σ.set i (some v)) H s'->Q () s') (hf:X.fn x=true\/X.env.scope.names.lookup x=some .local:=by first|exact .inl rfl|exact .inr rfl|assumption):wpAny M A (storeName X.env x u) Q E s :=
  zaal I hN hi hx r (fun s' I' _=>h s' I') hf
def Inv.call' {s':Ql}{ch:List Addr} (I:Inv X pins σ H s) (ho:s'.os=s.os) (u:Un (frs X.stack) ch H H' s.heap s'.heap) (hok:HOk X.prog X.w H' s'.heap) (hg:Qfi s'.gens)
 (hch : ∀ b ∈ ch,(b ∈ X.ex\/X.s₀.heap.objs.size<=b)/\b≠X.env.locals/\(∀ x c,X.env.cells.lookup x=some c->c≠b) /\ ∀ p ∈ X.pn++pins,p.1≠b):Inv X pins σ H' s':=by
  obtain ⟨h',g',d',t',o'⟩:=s';have e:o'=s.os:=ho;subst e;exact I.call (g':=g') (t':=t') (d':=d') u hok hg hch
end
abbrev XK:=Value->Option Addr->Hp->Prop
abbrev St:=List (Option V)
abbrev VK:=V->Hp->Prop
abbrev TE:=St->Hp->VK->Prop
abbrev TT:=St->Hp->(Bool->Hp->Prop)->Prop
abbrev TA:=St->Hp->(List V->Hp->Prop)->Prop
structure Ends where
 nx:St->Hp->Prop
 rt:VK
 bk:St->Hp->Prop:=fun _ _=>False
 ct:St->Hp->Prop:=fun _ _=>False
abbrev TS:=Ends->St->Hp->Prop
def EP (X:Cx) (pins:List (Addr×Obj)) (σ:St) (Q:VK) (u:Value) (s':Ql):Prop := ∃ v H',Inv X pins σ H' s'/\RelV v u/\Q v H'
def TP (X:Cx) (pins:List (Addr×Obj)) (σ:St) (Q:Bool->Hp->Prop) (b:Bool) (s':Ql):Prop := ∃ H',Inv X pins σ H' s'/\Q b H'
def AP (X:Cx) (pins:List (Addr×Obj)) (σ:St) (Q:List V->Hp->Prop) (us:List Value) (s':Ql):Prop := ∃ vs H',Inv X pins σ H' s'/\Vals vs us/\Q vs H'
def SP (X:Cx) (pins:List (Addr×Obj)) (D:Ends) (f:Flow) (s':Ql):Prop :=
 match f with
 | .next => ∃ σ' H',Inv X pins σ' H' s'/\D.nx σ' H'
 | .brk => ∃ σ' H',Inv X pins σ' H' s'/\D.bk σ' H'
 | .cont => ∃ σ' H',Inv X pins σ' H' s'/\D.ct σ' H'
 | .ret u => ∃ v σ' H',Inv X pins σ' H' s'/\RelV v u/\D.rt v H'
def PE (X:Cx) (e:Expr) (t:TE):Prop :=
 ∀ (pins:List (Addr×Obj)) (s:Ql) (σ:St) (H:Hp) (Q:VK),Inv X pins σ H s->t σ H Q->wpAny (model X.prog X.w) X.A (eval e X.env) (EP X pins σ Q) X.xe s
def PT (X:Cx) (e:Expr) (t:TT):Prop :=
 ∀ (pins:List (Addr×Obj)) (s:Ql) (σ:St) (H:Hp) (Q:Bool->Hp->Prop),Inv X pins σ H s->t σ H Q->wpAny (model X.prog X.w) X.A (isTrue e X.env (eval e X.env)) (TP X pins σ Q) X.xe s
def PW (X:Cx) (e:Expr) (t:TT):Prop :=
 ∀ (whole:Sem Value) (pins:List (Addr×Obj)) (s:Ql) (σ:St) (H:Hp) (Q:Bool->Hp->Prop),Inv X pins σ H s->t σ H Q->wpAny (model X.prog X.w) X.A (isTrue e X.env whole) (TP X pins σ Q) X.xe s
def PW.pt {X:Cx}{e:Expr}{t:TT} (h:PW X e t):PT X e t:=h _
def PA (X:Cx) (es:List Expr) (t:TA):Prop :=
 ∀ (pos:Pos) (pins:List (Addr×Obj)) (s:Ql) (σ:St) (H:Hp) (Q:List V->Hp->Prop),Inv X pins σ H s->t σ H Q->wpAny (model X.prog X.w) X.A (spliced (V8 pos (Qu es X.env))) (AP X pins σ Q) X.xe s
def PS (X:Cx) (st:Stmt) (t:TS):Prop :=
 ∀ (pins:List (Addr×Obj)) (s:Ql) (σ:St) (H:Hp) (D:Ends),Inv X pins σ H s->t D σ H->wpAny (model X.prog X.w) X.A (exec st X.env) (SP X pins D) X.xe s
def PSs (X:Cx) (st:List Stmt) (t:TS):Prop :=
 ∀ (pins:List (Addr×Obj)) (s:Ql) (σ:St) (H:Hp) (D:Ends),Inv X pins σ H s->t D σ H->wpAny (model X.prog X.w) X.A (execs st X.env) (SP X pins D) X.xe s
def thn {α:Type}{t:Sem α}{Q Q':α->Ql->Prop}{M:Model}{A:Z2}{E:Value->Ql->Prop}{s:Ql} (h:wpAny M A t Q E s) (hQ : ∀ a s,Q a s->Q' a s):wpAny M A t Q' E s:=Vo h hQ fun _ _ x=>x
end
section
section
variable {X:Cx}
def quh (i:Nat):TE:=fun σ H Q => ∃ v,σ[i]?=some (some v)/\Q v H
def tC (v:V):TE:=fun _ H Q=>Q v H
def qcp {i:Nat}{x:Str}{pos:Pos} (hN:X.N[i]?=some x) (hv:Vis X.env.scope x) (hd:Nd0 x:=by decide) (hcd:Nd1 x:=by decide):PE X (.Name x pos) (quh i):=by
 intro pins s σ H Q I h;obtain ⟨v,e,h⟩:=h;obtain ⟨m,hn,hl⟩:=I.loc;obtain ⟨u,r,l⟩:=hl i x v hN e hv;have fin:EP X pins σ Q u s:=⟨v,H,I,r,h⟩
 rcases l with ⟨hk,hm⟩|⟨hk,c,hc,hcell⟩
 ·exact wpAny_Name (wpAny_loadName_local I.ok.kind hk hn hm fin) hd
 ·rcases hk with hk|hk
  ·exact wpAny_Name (wpAny_loadName_cell I.ok.kind hk hc hcell fin) hd
  ·exact wpAny_Name (wpAny_loadName_free I.ok.kind hk hc hcell fin hcd) hd
def zaoo {i j pos}:PE X (.Constant (.int i) j pos) (tC (.int i)):=fun _ _ _ H _ I h=>wpAny_Constant_int ⟨.int i,H,I.tok _,⟨_,rfl⟩,h⟩
def zaqm {b j pos}:PE X (.Constant (.bool b) j pos) (tC (.bl b)):=fun _ _ _ H _ I h=>Constant_bool ⟨.bl b,H,I,rfl,h⟩
def zagi {j pos}:PE X (.Constant .none j pos) (tC .non):=fun _ _ _ H _ I h=>Constant_none ⟨.non,H,I,rfl,h⟩
def zant {x j pos}:PE X (.Constant (.str x) j pos) (tC (.str x)):=fun _ _ _ H _ I h=>Calls.Constant_str ⟨.str x,H,I.tok _,⟨_,rfl⟩,h⟩
def Gl (X:Cx) (x:Str):Prop:=X.env.kindOf x=some .globalImplicit
def qka {E:Value->Ql->Prop}{pins:List (Addr×Obj)}{s:Ql}{σ:St}{H:Hp}{x:Str}{u:Value}{pos:Pos}{Q:Value->Ql->Prop} (I:Inv X pins σ H s) (hg:Gl X x) (hm:X.mg x=some u) (h:Q u s)
 (hd:Nd0 x:=by decide):wpAny (model X.prog X.w) X.A (eval (.Name x pos) X.env) Q E s :=
  Qer I.ok.kind hg (Calls.loadGlobal_global (by rw [I.ok.glob];exact I.mod.glob.keeps I.bk) hm h) hd
def qgj {E:Value->Ql->Prop}{pins:List (Addr×Obj)}{s:Ql}{σ:St}{H:Hp}{x:Str}{u:Value}{pos:Pos}{Q:Value->Ql->Prop} (I:Inv X pins σ H s) (hg:Gl X x) (hm:X.mg x=none) (hv:Z0 x=some u) (h:Q u s)
 (hn:x ≠ "__name__":=by decide) (hd:Nd0 x:=by decide):wpAny (model X.prog X.w) X.A (eval (.Name x pos) X.env) Q E s:=by
  obtain ⟨mb,h1,h2⟩:=I.mod.blt;exact Qer I.ok.kind hg (Calls.loadGlobal_builtin (by rw [I.ok.glob];exact I.mod.glob.keeps I.bk) hm (by rw [I.ok.blt];exact h1.keeps I.bk) ((h2 x hn).trans hv) h) hd
def qcg {x:Str}{v:V}{u:Value}{pos:Pos} (hg:Gl X x) (hm:X.mg x=some u) (r:RelV v u) (hd:Nd0 x:=by decide):PE X (.Name x pos) (tC v) :=
 fun _ _ _ H _ I h=>qka I hg hm ⟨v,H,I,r,h⟩ hd
def qzb {x:Str}{v:V}{u:Value}{pos:Pos} (hg:Gl X x) (hm:X.mg x=none) (hv:Z0 x=some u) (r:RelV v u) (hn:x ≠ "__name__":=by decide) (hd:Nd0 x:=by decide):PE X (.Name x pos) (tC v) :=
 fun _ _ _ H _ I h=>qgj I hg hm hv ⟨v,H,I,r,h⟩ hn hd
variable {a b:Expr}{ta tb:TE}{pos:Pos}
def tB (t:TE):TT:=fun σ H Q=>t σ H fun x H1 => ∃ c,x = .bl c/\Q c H1
def zaoq {e:Expr}{t:TE} (h:PE X e t) (he : ∀ whole,isTrue e X.env whole=(do let v <- whole;standAt e.pos;Qik [v] (truthy v)):=by intro _;rfl):PT X e (tB t):=by
 intro pins s σ H Q I hw;refine isTrue_plain (thn (h pins s σ H _ I hw) fun v s1 xx2=>?_) (he _);obtain ⟨x,H1,I1,r1,q1⟩:=xx2;obtain ⟨d,rfl,q⟩:=q1;cases r1;exact Vf ⟨H1,I1,q⟩
variable {tA tB':TT}{rest:List Expr}
def tAnd (t u:TT):TT:=fun σ H Q=>t σ H fun c H1=>if c=true then u σ H1 Q else Q false H1
def tOr (t u:TT):TT:=fun σ H Q=>t σ H fun c H1=>if c=true then Q true H1 else u σ H1 Q
def tNot (t:TT):TT:=fun σ H Q=>t σ H fun c H1=>Q (!c) H1
def zahr (ha:PT X a tA):PW X (.BoolOp .And [a] pos) tA:=by
 intro wh pins s σ H Q I h;refine isTrue_and (thn (ha pins s σ H Q I h) fun c s1 e=>?_);cases c with
 | true=>exact isTrue_and_nil e
 | false=>exact e
def zanf (ha:PT X a tA):PW X (.BoolOp .Or [a] pos) tA:=by
 intro wh pins s σ H Q I h;refine isTrue_or (thn (ha pins s σ H Q I h) fun c s1 e=>?_);cases c with
 | false=>exact isTrue_or_nil e
 | true=>exact e
def zalp (ha:PT X a tA) (hb:PW X (.BoolOp .And (b::rest) pos) tB'):PW X (.BoolOp .And (a::b::rest) pos) (tAnd tA tB'):=by
 intro wh pins s σ H Q I h;refine isTrue_and (thn (ha pins s σ H _ I h) fun c s1 xx3=>?_);obtain ⟨H1,I1,q1⟩:=xx3;cases c with
 | true=>exact hb wh pins s1 σ H1 Q I1 q1
 | false=>exact ⟨H1,I1,q1⟩
def zapu (ha:PT X a tA) (hb:PW X (.BoolOp .Or (b::rest) pos) tB'):PW X (.BoolOp .Or (a::b::rest) pos) (tOr tA tB'):=by
 intro wh pins s σ H Q I h;refine isTrue_or (thn (ha pins s σ H _ I h) fun c s1 xx4=>?_);obtain ⟨H1,I1,q1⟩:=xx4;cases c with
 | true=>exact ⟨H1,I1,q1⟩
 | false=>exact hb wh pins s1 σ H1 Q I1 q1
def zalm (ha:PT X a tA):PT X (.UnaryOp .Not a pos) (tNot tA):=by
 intro pins s σ H Q I h;exact isTrue_not (ha pins s σ H (fun c H1=>Q (!c) H1) I h)
def zarf (ta tb:TE):TE:=fun σ H Q=>ta σ H fun x H1 => ∃ c,x = .bl c/\if c=true then tb σ H1 Q else Q (.bl false) H1
def zaqp (ta:TE):TE:=fun σ H Q=>ta σ H fun x H1 => ∃ c,x = .bl c/\Q (.bl (!c)) H1
def zamd {op}{t:TE} (h:PE X a t):PE X (.BoolOp op [a] pos) t:=fun pins s σ H Q I hw=>BoolOp_one (h pins s σ H Q I hw)
def zanv (ha:PE X a ta) (hb:PE X (.BoolOp .And (b::rest) pos) tb):PE X (.BoolOp .And (a::b::rest) pos) (zarf ta tb):=by
 intro pins s σ H Q I h;refine BoolOp_and (thn (ha pins s σ H _ I h) fun v s1 xx5=>?_);obtain ⟨x,H1,I1,r1,q1⟩:=xx5;obtain ⟨c,rfl,q1⟩:=q1;cases r1;refine Vf ?_;cases c with
 | true=>exact hb pins s1 σ H1 Q I1 q1
 | false=>exact ⟨.bl false,H1,I1,rfl,q1⟩
def zaog (ha:PE X a ta):PE X (.UnaryOp .Not a pos) (zaqp ta):=by
 intro pins s σ H Q I h;refine UnaryOp_ (thn (ha pins s σ H _ I h) fun v s1 xx6=>?_);obtain ⟨x,H1,I1,r1,q1⟩:=xx6;obtain ⟨c,rfl,q1⟩:=q1;cases r1;exact not_of (Vf ⟨.bl (!c),H1,I1,rfl,q1⟩)
def tIf (t:TT) (ta tb:TE):TE:=fun σ H Q=>t σ H fun c H1=>if c=true then ta σ H1 Q else tb σ H1 Q
def zafc {c:Expr} (hc:PT X c tA) (ha:PE X a ta) (hb:PE X b tb):PE X (.IfExp c a b pos) (tIf tA ta tb):=by
 intro pins s σ H Q I h;refine wpAny_IfExp (thn (hc pins s σ H _ I h) fun d s1 xx7=>?_);obtain ⟨H1,I1,q1⟩:=xx7;cases d with
 | true=>exact ha pins s1 σ H1 Q I1 q1
 | false=>exact hb pins s1 σ H1 Q I1 q1
end
end
section
def SqL (K:Qe) (H:Hp) (a:Addr) (xs:List V):Prop :=
 Rd H a (.lst xs) \/
  ∃ (o:Obj) (its:Array Value) (n:Nat),K.lookup a=some o/\o.cls = .type "list" /\ o.dict=none/\o.data = .seq its n/\its.size<=Q9/\Vals xs its.toList
def SqT (K:Qe) (H:Hp) (a:Addr) (xs:List V):Prop :=
 Rd H a (.tup xs) \/
  ∃ (o:Obj) (its:Array Value) (n:Nat),K.lookup a=some o/\o.cls = .type "tuple" /\ o.data = .seq its n/\its.size<=Q9/\Vals xs its.toList
def absV:Value->Option V
 | .none=>some .non
 | .bool b=>some (.bl b)
 | .int i _=>some (.int i)
 | .str x _=>some (.str x)
 | .bytes b _=>some (.byt b)
 | .float b _=>some (.flt b)
 | .ref a=>some (.ref a)
 | .type n=>some (.ty n)
 | _=>none
def RelV.abs {x:V}{u:Value} (r:RelV x u):absV u=some x:=by
 cases x with
 | non=>cases r;rfl
 | bl _=>cases r;rfl
 | int _=>obtain ⟨t,rfl⟩:=r;rfl
 | str _=>obtain ⟨t,rfl⟩:=r;rfl
 | byt _=>obtain ⟨t,rfl⟩:=r;rfl
 | flt _=>obtain ⟨t,rfl⟩:=r;rfl
 | ref _=>cases r;rfl
 | ty _=>cases r;rfl
def RelV.inj {x y:V}{u:Value} (r:RelV x u) (q:RelV y u):x=y:=Qx (r.abs.symm.trans q.abs)
def Vals.inj : ∀ {xs ys:List V}{us:List Value},Vals xs us->Vals ys us->xs=ys
 | _,_,_,.nil,.nil=>rfl
 | _,_,_,.cons r t,.cons r' t'=>by rw [r.inj r',Vals.inj t t']
section
variable {X:Cx}{pins:List (Addr×Obj)}{σ:St}{H:Hp}{s:Ql}{a:Addr}{xs ys:List V}
def SqL.of {K:Qe} (h:H a=some (.lst xs)):SqL K H a xs :=.inl (.inl h)
def SqT.of {K:Qe} (h:H a=some (.tup xs)):SqT K H a xs :=.inl (.inl h)
def Inv.list (I:Inv X pins σ H s) (h:SqL X.K H a xs) : ∃ its:List Value,Vals xs its/\PlainL s.heap a its.toArray/\xs.length<=Q9:=by
 rcases h with h|⟨o,its,n,hk,hc,hd,hs,hz,r⟩
 ·obtain ⟨z,its,n,r,e⟩:=h.ok I.hok;exact ⟨its,r,⟨_,n,e,rfl,rfl,rfl⟩,z⟩
 ·refine ⟨its.toList,r,⟨o,n,I.kIn a o hk,hc,hd,by simpa using hs⟩,?_⟩;have e:=r.length;simp only [Z1] at e;omega
def Inv.tuple (I:Inv X pins σ H s) (h:SqT X.K H a xs) : ∃ its:List Value,Vals xs its/\IsTup s.heap a its.toArray/\xs.length<=Q9:=by
 rcases h with h|⟨o,its,n,hk,hc,hs,hz,r⟩
 ·obtain ⟨z,its,r,p⟩:=h.ok I.hok;exact ⟨its,r,p,z⟩
 ·refine ⟨its.toList,r,⟨o,I.kIn a o hk,hc,n,by simpa using hs⟩,?_⟩;have e:=r.length;simp only [Z1] at e;omega
def Inv.list_inj (I:Inv X pins σ H s) (h:SqL X.K H a xs) (h':SqL X.K H a ys):xs=ys:=by
 obtain ⟨its,r,⟨o,n,e,_,_,d⟩,_⟩:=I.list h;obtain ⟨its',r',⟨o',n',e',_,_,d'⟩,_⟩:=I.list h';rw [e] at e';cases e';rw [d] at d';injection d' with d1 _;have:its=its':=by simpa using congrArg Qmn d1
 subst this;exact r.inj r'
def Inv.tuple_inj (I:Inv X pins σ H s) (h:SqT X.K H a xs) (h':SqT X.K H a ys):xs=ys:=by
 obtain ⟨its,r,⟨o,e,_,n,d⟩,_⟩:=I.tuple h;obtain ⟨its',r',⟨o',e',_,n',d'⟩,_⟩:=I.tuple h';rw [e] at e';cases e';rw [d] at d';injection d' with d1 _;have:its=its':=by simpa using congrArg Qmn d1
 subst this;exact r.inj r'
end
abbrev Cx.wish (X:Cx) (E:Value->Ql->Prop):Cx:={ X with xe:=E }
abbrev Cx.nox (X:Cx):Cx:=X.wish fun _ _=>False
def Cx.Ok.wish {X:Cx} (ok:X.Ok) (E:Value->Ql->Prop):(X.wish E).Ok :=
 ⟨ok.mod,ok.kind,ok.glob,ok.blt,ok.above,ok.inj,ok.has,ok.cab,ok.hd,ok.frames,ok.stk,ok.exf,ok.bs,ok.bsz,ok.noex,ok.exfs,ok.funs,ok.frf⟩
def Cx.Ok.unwish {X:Cx}{E:Value->Ql->Prop} (ok:(X.wish E).Ok):X.Ok :=
 ⟨ok.mod,ok.kind,ok.glob,ok.blt,ok.above,ok.inj,ok.has,ok.cab,ok.hd,ok.frames,ok.stk,ok.exf,ok.bs,ok.bsz,ok.noex,ok.exfs,ok.funs,ok.frf⟩
section
variable {X:Cx}{pins:List (Addr×Obj)}{σ:St}{H:Hp}{s:Ql}{E:Value->Ql->Prop}
def Inv.wish (I:Inv X pins σ H s) (E:Value->Ql->Prop):Inv (X.wish E) pins σ H s:=⟨I.ok.wish E,I.os,I.bare,I.base,I.loc,I.cell,I.free,I.freeC,I.pin,I.hok,I.len⟩
def Inv.unwish (I:Inv (X.wish E) pins σ H s):Inv X pins σ H s:=⟨I.ok.unwish,I.os,I.bare,I.base,I.loc,I.cell,I.free,I.freeC,I.pin,I.hok,I.len⟩
def SP.unwish {D:Ends}{f:Flow}{s':Ql} (h:SP (X.wish E) pins D f s'):SP X pins D f s':=by
 cases f with
 | next=>obtain ⟨σ',H',I,q⟩:=h;exact ⟨σ',H',I.unwish,q⟩
 | brk=>obtain ⟨σ',H',I,q⟩:=h;exact ⟨σ',H',I.unwish,q⟩
 | cont=>obtain ⟨σ',H',I,q⟩:=h;exact ⟨σ',H',I.unwish,q⟩
 | ret u=>obtain ⟨v,σ',H',I,r,q⟩:=h;exact ⟨v,σ',H',I.unwish,r,q⟩
def PSs.nox {st:List Stmt}{t:TS} (h:PSs X.nox st t):PSs X st t:=fun pins s σ H D I hw =>
 Vo (h pins s σ H D (I.wish _) hw) (fun _ _ q=>q.unwish) fun _ _ z=>Zh z
end
section
variable {X:Cx}{st:Stmt}{rest:List Stmt}{t u:TS}{e:Expr}{te:TE}{pos:Pos}
def zapt:TS:=fun D σ H=>D.nx σ H
def tSeq (t u:TS):TS:=fun D σ H=>t { D with nx:=u D } σ H
def qzp:PSs X [] zapt:=fun _ _ σ H _ I h=>Qeq ⟨σ,H,I,h⟩
def qej (h1:PS X st t) (h2:PSs X rest u):PSs X (st::rest) (tSeq t u):=by
 intro pins s σ H D I h;refine wpAny_execs_cons (thn (h1 pins s σ H { D with nx:=u D } I h) fun f s1 q=>?_);cases f with
 | next =>
  obtain ⟨σ',H',I',q⟩:=q;exact h2 pins s1 σ' H' D I' q
 | ret v=>exact q
 | brk=>exact q
 | cont=>exact q
def qmr (h1:PS X st t):PSs X [st] t:=by
 intro pins s σ H D I h;refine wpAny_execs_cons (thn (h1 pins s σ H D I h) fun f s1 q=>?_);cases f with
 | next=>exact Qeq q
 | ret v=>exact q
 | brk=>exact q
 | cont=>exact q
def Inv.quiet {pins:List (Addr×Obj)}{σ:St}{H:Hp}{s:Ql} (I:Inv X pins σ H s):interactive X.env=false:=by simp [interactive,I.ok.kind]
def zakz (te:TE):TS:=fun D σ H=>te σ H fun _ H1=>D.nx σ H1
def qns (he:PE X e te) (hs:Qan e none pos.line X.env=pure false:=by rfl):PS X (.Expr e pos) (zakz te):=by
 intro pins s σ H D I h;exact wpAny_Expr_any (thn (he pins s σ H _ I h) fun v s1 xx10=>by obtain ⟨x,H1,I1,r1,q1⟩:=xx10;exact ⟨σ,H1,I1,q1⟩) I.quiet hs
def tRet (te:TE):TS:=fun D σ H=>te σ H D.rt
def qta (he:PE X e te):PS X (.Return (some e) pos) (tRet te):=by
 intro pins s σ H D I h;exact wpAny_Return_some (thn (he pins s σ H _ I h) fun v s1 xx11=>by obtain ⟨x,H1,I1,r1,q1⟩:=xx11;exact ⟨x,σ,H1,I1,r1,q1⟩)
def tIfS (c:TT) (t u:TS):TS:=fun D σ H=>c σ H fun b H1=>if b=true then t D σ H1 else u D σ H1
def zahc {c:Expr}{a b:List Stmt}{tc:TT} (hc:PT X c tc) (ha:PSs X a t) (hb:PSs X b u):PS X (.If c a b pos) (tIfS tc t u):=by
 intro pins s σ H D I h;refine wpAny_If (thn (hc pins s σ H _ I h) fun d s1 xx12=>?_);obtain ⟨H1,I1,q1⟩:=xx12;cases d with
 | true=>exact ha pins s1 σ H1 D I1 q1
 | false=>exact hb pins s1 σ H1 D I1 q1
def zaok:TS:=fun _ _ _=>False
def zabi {sts:List Stmt}:PSs X sts zaok:=fun _ _ _ _ _ _ h=>h.elim
end
abbrev TG:=V->St->Hp->(St->Hp->Prop)->Prop
abbrev TGs:=List V->St->Hp->(St->Hp->Prop)->Prop
def PG (X:Cx) (target:Expr) (t:TG):Prop :=
 ∀ (pins:List (Addr×Obj)) (s:Ql) (σ:St) (H:Hp) (v:V) (u:Value) (Q:St->Hp->Prop),Inv X pins σ H s->RelV v u->t v σ H Q ->
  wpAny (model X.prog X.w) X.A (Qgl target X.env u) (fun _ s' => ∃ σ' H',Inv X pins σ' H' s'/\Q σ' H') X.xe s
def PGs (X:Cx) (ts:List Expr) (t:TGs):Prop :=
 ∀ (pins:List (Addr×Obj)) (s:Ql) (σ:St) (H:Hp) (vs:List V) (us:List Value) (Q:St->Hp->Prop),Inv X pins σ H s->Vals vs us->t vs σ H Q ->
  wpAny (model X.prog X.w) X.A (Qjj ((Qab ts X.env).map (·.2)) us) (fun _ s' => ∃ σ' H',Inv X pins σ' H' s'/\Q σ' H') X.xe s
abbrev TSet:=V->V->V->Hp->(Hp->Prop)->Prop
def PSet (X:Cx) (t:TSet):Prop :=
 ∀ (pins:List (Addr×Obj)) (s:Ql) (σ:St) (H:Hp) (o i v:V) (ov iv u:Value) (Q:Hp->Prop),Inv X pins σ H s->RelV o ov->RelV i iv->RelV v u->t o i v H Q ->
  wpAny (model X.prog X.w) X.A (setItem ov iv u) (fun _ s' => ∃ H',Inv X pins σ H' s'/\Q H') X.xe s
section
variable {X:Cx}{pos:Pos}
def zahd (i:Nat):TG:=fun v σ H Q=>Q (σ.set i (some v)) H
def qyb {i:Nat}{x:Str} (hN:X.N.Nodup) (hi:X.N[i]?=some x) (hx:Loc X.env.scope x) (hf:X.fn x=true\/X.env.scope.names.lookup x=some .local:=by first|exact .inl rfl|exact .inr rfl|assumption):PG X (.Name x pos) (zahd i):=by
 intro pins s σ H v u Q I r h;exact wpAny_assign_Name (qfk I hN hi hx r (fun s' I'=>⟨_,H,I',h⟩) hf)
def gNil:TGs:=fun vs σ H Q=>vs=[]/\Q σ H
def zapx (t:TG) (u:TGs):TGs:=fun vs σ H Q => ∃ v r,vs=v::r/\t v σ H fun σ' H'=>u r σ' H' Q
def zaju:PGs X [] gNil:=by
 intro pins s σ H vs us Q I r h;obtain ⟨e,h⟩:=h;subst e;cases r;exact assignInOrder_nil ⟨σ,H,I,h⟩
def zafo {e:Expr}{es:List Expr}{t:TG}{u:TGs} (h1:PG X e t) (h2:PGs X es u)
 (hs:(Qab (e::es) X.env).map (·.2)=Qgl e X.env::(Qab es X.env).map (·.2):=by rfl):PGs X (e::es) (zapx t u):=by
  intro pins s σ H vs us Q I r h;obtain ⟨v,vr,e1,h⟩:=h;subst e1;cases r with
  | cons r rr =>
   rw [hs];refine Qfb (thn (h1 pins s σ H _ _ _ I r h) fun _ s1 xx13=>?_);obtain ⟨σ1,H1,I1,q1⟩:=xx13;exact h2 pins s1 σ1 H1 _ _ Q I1 rr q1
def gTup (K:Qe) (n:Nat) (t:TGs):TG:=fun v σ H Q => ∃ a xs,v = .ref a/\SqT K H a xs/\xs.length=n/\t xs σ H Q
def zamu {es:List Expr}{k:Nat}{t:TGs}{n:Nat} (hc:X.calm=true) (h:PGs X es t)
 (hn:(Qab es X.env).length=n:=by rfl) (hst:(Qab es X.env).findIdx? (·.1)=none:=by rfl):PG X (.Tuple es k pos) (gTup X.K n t):=by
  intro pins s σ H v u Q I r hw;obtain ⟨a,xs,e1,hq,hl,hw⟩:=hw;subst e1;cases r;obtain ⟨its,rv,ht,hz⟩:=I.tuple hq;refine assign_Tuple_tuple (I.ok.hd hc) ht (by simp [hn,<- hl,rv.length]) hst fun h' hx=>?_;have I1:Inv X pins σ H { s with heap:=h' }:=I.kept (t':=s.toks) fun b o e=>hx b o (Qq (Qp e)) e;exact h pins _ σ H xs _ Q I1 (by simpa using rv) hw
def gSub (to ti:TE) (t:TSet):TG:=fun v σ H Q=>to σ H fun o H1=>ti σ H1 fun i H2=>t o i v H2 fun H3=>Q σ H3
def zalw {o i:Expr}{to ti:TE}{t:TSet} (ho:PE X o to) (hi:PE X i ti) (hs:PSet X t)
 (ha : ∀ v,Qgl (.Subscript o i pos) X.env v=(do
 let ov <- Qik [v] (eval o X.env)
 let iv <- Qik [v,ov] (eval i X.env)
 standAt pos
 Qik [v,ov,iv] (setItem ov iv v)
 release [v,ov,iv] []):=by intro _;rfl):PG X (.Subscript o i pos) (gSub to ti t):=by
  intro pins s σ H v u Q I r h;rw [ha];refine Qd (Yx (thn (ho pins s σ H _ I h) fun ov s1 xx16=>?_));obtain ⟨x,H1,I1,r1,q1⟩:=xx16;refine Qd (Yx (thn (hi pins s1 σ H1 _ I1 q1) fun iv s2 xx15=>?_));obtain ⟨y,H2,I2,r2,q2⟩:=xx15;refine Qd (Qgg (Qd (Yx (thn (hs pins s2 σ H2 x y v ov iv u _ I2 r1 r2 r q2) fun _ s3 xx14=>?_))));obtain ⟨H3,I3,q3⟩:=xx14;exact wpAny_release ⟨σ,H3,I3,q3⟩
def tAsg (te:TE) (g:TG):TS:=fun D σ H=>te σ H fun x H1=>g x σ H1 D.nx
def zags {tg e:Expr}{te:TE}{g:TG} (he:PE X e te) (hg:PG X tg g) (hs:Qee [tg] e pos.line X.env=pure false:=by rfl) (hw:Qed [tg] e X.env=pure none:=by rfl)
 (h1:(Qab [tg] X.env).map (·.2)=[Qgl tg X.env]:=by rfl):PS X (.Assign [tg] e pos) (tAsg te g):=by
 intro pins s σ H D I h;refine wpAny_Assign_stores (thn (he pins s σ H _ I h) fun v s1 xx17=>?_) hs hw;obtain ⟨x,H1,I1,r1,q1⟩:=xx17;rw [h1];exact thn (hg pins s1 σ H1 x v _ I1 r1 q1) fun _ s2 q=>q
def qjf {i:Nat}{x:Str}{e:Expr}{te:TE}{pos':Pos} (hN:X.N.Nodup) (hi:X.N[i]?=some x) (hx:Loc X.env.scope x) (he:PE X e te) (hs:Qan e (some (.Name x pos')) pos.line X.env=pure false:=by rfl) (hf:X.fn x=true\/X.env.scope.names.lookup x=some .local:=by first|exact .inl rfl|exact .inr rfl|assumption) :
 PS X (.Assign [.Name x pos'] e pos) (tAsg te (zahd i)):=by
 intro pins s σ H D I h;refine wpAny_Assign_Name (thn (he pins s σ H _ I h) fun v s1 xx18=>?_) hs;obtain ⟨y,H1,I1,r1,q1⟩:=xx18;exact qfk I1 hN hi hx r1 (fun s2 I2=>⟨_,H1,I2,q1⟩) hf
def tPar (i j:Nat) (ta:TA):TS:=fun D σ H=>ta σ H fun vs H1 => ∃ v w,vs=[v,w]/\D.nx ((σ.set i (some v)).set j (some w)) H1
def zami {i j:Nat}{x y:Str}{a b:Expr}{ta:TA}{px py pt:Pos}{kt k2 pt2} (hc:X.calm=true) (hN:X.N.Nodup) (hi:X.N[i]?=some x) (hj:X.N[j]?=some y) (hij:i≠j)
 (hx:X.env.scope.names.lookup x=some .local) (hy:X.env.scope.names.lookup y=some .local) (ha:PA X [a,b] ta)
 (hw:Qed [.Tuple [.Name x px,.Name y py] kt pt] (.Tuple [a,b] k2 pt2) X.env=pure (some [x,y]))
 (hs:Qee [.Tuple [.Name x px,.Name y py] kt pt] (.Tuple [a,b] k2 pt2) pos.line X.env=pure false:=by rfl) :
  PS X (.Assign [.Tuple [.Name x px,.Name y py] kt pt] (.Tuple [a,b] k2 pt2) pos) (tPar i j ta):=by
  intro pins s σ H D I h;rw [exec_Assign_arm];refine Qd (Qgg ?_);rw [hs];refine Qd (Qo ?_);rw [if_neg (by decide)];refine Qd (Tuple_ (thn (ha _ pins s σ H _ I h) fun us s1 xx19=>?_));obtain ⟨vs,H1,I1,r1,q1⟩:=xx19;obtain ⟨v,w,e1,q1⟩:=q1;subst e1;obtain ⟨u1,u2,rfl,rv,rw'⟩ : ∃ u1 u2,us=[u1,u2]/\RelV v u1/\RelV w u2:=by
   cases r1 with
   | cons p q =>
    cases q with
    | cons p' q' =>
     cases q';exact ⟨_,_,rfl,p,p'⟩
  refine Y3 ?_ (by show 2<=Q9;decide);have I2:Inv X pins σ H1 { s1 with heap:=s1.heap.push { cls :=.type "tuple",data :=.seq [u1,u2].toArray } }:=I1.kept (t':=s1.toks) fun b o e=>Qf _ e;rw [hw];refine Qd (Qo ?_);show wpAny (model X.prog X.w) X.A (do rule "assign.swapped-stores";let items <- unpackItems (.ref s1.heap.objs.size) 2 none;Qjj [fun v=>Qku X.env y v,fun v=>Qku X.env x v] items.reverse;pure Flow.next) _ _ _;refine Qd (Qbh (Qd (unpackItems_tuple (items := #[u1,u2]) (I.ok.hd hc) (Qla s1.heap _) fun h' hx'=>?_)));have I3:=I2.kept (h':=h') (t':=s1.toks) fun b o e=>hx' b o (Qq (Qp e)) e;show wpAny _ _ (Qjj [fun v=>Qku X.env y v,fun v=>Qku X.env x v] [u2,u1] >>= fun _=>pure Flow.next) _ _ _;refine Qd (Qfb (wpAny_bindName (qfk I3 hN hj (.inl hy) rw' (fun s2 I4=>?_) (.inr hy))));refine Qfb (wpAny_bindName (qfk I4 hN hi (.inl hx) rv (fun s3 I5=>assignInOrder_nil (Qo ?_)) (.inr hx)));rw [List.set_comm _ _ (Yb hij)] at I5;exact ⟨_,H1,I5,q1⟩
end
section
variable {X:Cx}{pos:Pos}
def zaml (c:TT) (tb:TS):TS:=fun D σ H => ∃ W:Nat->St->Hp->Prop,(∃ m,W m σ H) /\ ∀ m σ H,W m σ H ->
 c σ H fun b H1=>if b=true then ∃ N:St->Hp->Prop,(∀ σ' H',N σ' H' -> ∃ m',m'<m/\W m' σ' H')/\tb { D with nx:=N,ct:=N,bk:=D.nx } σ H1 else D.nx σ H1
def zaee {c:Expr}{body:List Stmt}{tc:TT}{tb:TS} (hp:Qlq (model X.prog X.w) X.A X.env X.xe) (hc:PT X c tc) (hb:PSs X body tb):PS X (.While c body [] pos) (zaml tc tb):=by
 intro pins s σ H D I h;obtain ⟨W,⟨m0,w0⟩,turn⟩:=h;refine wpAny_While (codeAny_whileLoop (fun n s' => ∃ σ' H',Inv X pins σ' H' s'/\W n σ' H') ?_ m0 ⟨σ,H,I,w0⟩);rintro n s1 ⟨σ1,H1,I1,w1⟩;refine Qad hp (thn (hc pins s1 σ1 H1 _ I1 (turn n σ1 H1 w1)) fun b s2 xx20=>?_);obtain ⟨H2,I2,q2⟩:=xx20;cases b with
 | true =>
  obtain ⟨N,hN,q2⟩:=q2;rw [if_pos rfl];refine Qad hp (thn (hb pins s2 σ1 H2 _ I2 q2) fun f s3 q3=>?_);cases f with
  | next =>
   obtain ⟨σ3,H3,I3,n3⟩:=q3;obtain ⟨m',hm,w3⟩:=hN σ3 H3 n3;exact ⟨m',hm,σ3,H3,I3,w3⟩
  | cont =>
   obtain ⟨σ3,H3,I3,n3⟩:=q3;obtain ⟨m',hm,w3⟩:=hN σ3 H3 n3;exact ⟨m',hm,σ3,H3,I3,w3⟩
  | brk=>exact q3
  | ret v=>exact q3
 | false =>
  rw [if_neg Zt];exact Qeq ⟨σ1,H2,I2,q2⟩
end
structure It where
 go:Nat->Hp->Prop
 yld:Nat->Hp->V->Hp->Prop
 stop:Nat->Hp->Prop
def FpOk (X:Cx) (pins:List (Addr×Obj)) (H:Hp) (b:Addr):Prop :=
 H b=none/\b≠X.env.locals/\b ∉ X.fs/\(b ∈ X.ex\/X.s₀.heap.objs.size<=b)/\(∀ x c,X.env.cells.lookup x=some c->c≠b) /\ ∀ p ∈ X.pn++pins,p.1≠b
def Inv.fpOk {X:Cx}{pins:List (Addr×Obj)}{σ:St}{H H':Hp}{s:Ql}{b:Addr} (I:Inv X pins σ H s) (hb:s.heap.objs.size<=b) (hn:H' b=none):FpOk X pins H' b:=by
 refine ⟨hn,Yv (Zg I.lt hb),I.nofs hb,.inr (Zr I.sz hb),fun x c e z=>?_,fun p hp z=>?_⟩
 ·obtain ⟨v,q⟩:=I.cell x c e;exact absurd (Zg q.lt (by rw [z];exact hb)) (Ja _)
 ·exact absurd (Zg (Qp (I.pin p hp).1) (by rw [z];exact hb)) (Ja _)
structure Turn (P:Zo) (w:World) (K:Qe) (tg:Expr) (J:It) (fp:List Addr) (it:Addr) (tn:Nat->Heap->Prop):Prop where
 mem:it ∈ fp
 obj : ∀ i h,tn i h -> ∀ b ∈ fp,∃ o,h.get? b=some o /\ ∀ v,o.data ≠ .cell v
 keep : ∀ i h h',tn i h->(∀ b ∈ fp,∀ o,h.get? b=some o->h'.get? b=some o)->tn i h'
 item : ∀ (X:Cx),X.prog=P->X.w=w->X.K=K->X.calm=true -> ∀ (i:Nat) (pins:List (Addr×Obj)) (s:Ql) (σ:St) (H:Hp) (E:Value->Ql->Prop),Inv X pins σ H s->(∀ b ∈ fp,FpOk X pins H b)->tn i s.heap->J.go i H ->
  wpAny (model P w) X.A (Qcw (.ref it)) (fun r s1 => ∃ u,r=some u /\
   wpAny (model P w) X.A (Qcu tg (.ref it) u) (fun _ s2 => ∃ x H',Inv X pins σ H' s2/\RelV x u/\J.yld i H x H'/\tn (i+1) s2.heap /\ ∀ b ∈ fp,H' b=none) E s1) E s
 done : ∀ (X:Cx),X.prog=P->X.w=w->X.K=K->X.calm=true -> ∀ (i:Nat) (pins:List (Addr×Obj)) (s:Ql) (σ:St) (H:Hp) (E:Value->Ql->Prop),Inv X pins σ H s->(∀ b ∈ fp,FpOk X pins H b)->tn i s.heap->J.stop i H ->
  wpAny (model P w) X.A (Qcw (.ref it)) (fun r s1=>r=none/\Inv X pins σ H s1) E s
 self : ∀ (A:Z2) (i:Nat) (s:Ql) (Q:Value->Ql->Prop) (E:Value->Ql->Prop),tn i s.heap->Q (.ref it) s->wpAny (model P w) A (pyIter (.ref it)) Q E s
abbrev TI:=St->Hp->(It->Hp->Prop)->Prop
def PIE (X:Cx) (pins:List (Addr×Obj)) (σ:St) (tg:Expr) (R:It->Hp->Prop) (itv:Value) (s2:Ql):Prop :=
 ∃ (it:Addr) (fp:List Addr) (tn:Nat->Heap->Prop) (J:It) (H':Hp),itv = .ref it/\Inv X pins σ H' s2/\Turn X.prog X.w X.K tg J fp it tn/\tn 0 s2.heap/\(∀ b ∈ fp,FpOk X pins H' b)/\R J H'
def PI (X:Cx) (tg iter:Expr) (wi:TI):Prop :=
 ∀ (pins:List (Addr×Obj)) (s:Ql) (σ:St) (H:Hp) (R:It->Hp->Prop),Inv X pins σ H s->wi σ H R ->
  wpAny (model X.prog X.w) X.A (eval iter X.env) (fun v s1=>wpAny (model X.prog X.w) X.A (pyIter v) (PIE X pins σ tg R) X.xe s1) X.xe s
def zahg {M:Model}{A:Z2}{E:Value->Ql->Prop}{s:Ql}{tg:Expr}{it:Addr}{u:Value}{o:Obj}{n:String}{vs:Array Value}{Q:Unit->Ql->Prop} (ho:s.heap.get? it=some o) (hc:o.cls = .type n) (hd:o.data = .fields vs)
 (hn:["enumerate","zip","dict_itemiterator","dict_reverseitemiterator","odict_iterator","itertools.zip_longest","itertools.pairwise"].contains n=false) (hQ:Q () s):wpAny M A (Qcu tg (.ref it) u) Q E s:=by
  unfold Qcu;cases tg <;> first
   | exact Qo hQ
   | (cases u <;> first
    | exact Qo hQ
    | (refine Qd (wpAny_load ho ?_)
       rw [hc,hd];show wpAny M A (if (["enumerate","zip","dict_itemiterator","dict_reverseitemiterator","odict_iterator","itertools.zip_longest","itertools.pairwise"].contains n&&vs[0]?==some (Qdr _))=true then _ else _) Q E s;rw [if_neg (by intro h;rw [hn,Jd] at h;cases h)];exact Qo hQ))
def Itl (K:Qe) (a:Addr):It :=
 ⟨fun i H => ∃ xs x,SqL K H a xs/\xs[i]?=some x,fun i H x H'=>H'=H /\ ∀ xs,SqL K H a xs->xs[i]?=some x,fun i H => ∃ xs,SqL K H a xs/\xs.length<=i⟩
def Itt (K:Qe) (a:Addr):It :=
 ⟨fun i H => ∃ xs x,SqT K H a xs/\xs[i]?=some x,fun i H x H'=>H'=H /\ ∀ xs,SqT K H a xs->xs[i]?=some x,fun i H => ∃ xs,SqT K H a xs/\xs.length<=i⟩
def Itr (lo:Int) (n:Nat):It:=⟨fun i _=>i<n,fun i H x H'=>H'=H/\x = .int (lo+i),fun i _=>n<=i⟩
def zaap {P:Zo}{w:World}{K:Qe}{tg:Expr} (a it:Addr):Turn P w K tg (Itl K a) [it] it (fun i h=>h.IsListIter it a i) where
 mem:=by simp
 obj:=fun i h st b hb=>by
  have e:b=it:=by simpa using hb
  subst e;obtain ⟨o,e,c,d⟩:=st;exact ⟨o,e,fun v z=>by rw [d] at z;cases z⟩
 keep:=fun i h h' st k=>st.at fun o e=>k it (by simp) o e
 item:=by
  intro X hP hw hK hc i pins s σ H E I hf st hg;subst hP hw hK;obtain ⟨xs,x,hq,hx⟩:=hg;obtain ⟨its,rv,p,hz⟩:=I.list hq;obtain ⟨u,hu,ru⟩:=rv.get hx;obtain ⟨f0,f1,f2,f3,f4,f5⟩:=hf it (by simp);refine wpAny_pyNext_list_item st p.isList (x:=u) (by simpa using hu) fun h' st' sb=>?_;have I1:Inv X pins σ H { s with heap:=h' }:=I.turned (t':=s.toks) (fun b o hb e=>(sb.2 b hb).trans e) f0 f1 f3 f4 f5;obtain ⟨o,e,c,d⟩:=id st';exact ⟨u,rfl,zahg (s:={ s with heap:=h' }) e c d (by decide) ⟨x,H,I1,ru,⟨rfl,fun ys hy=>by rw [I.list_inj hy hq];exact hx⟩,st',fun b hb=>(hf b hb).1⟩⟩
 done:=by
  intro X hP hw hK hc i pins s σ H E I hf st hg;subst hP hw hK;obtain ⟨xs,hq,hx⟩:=hg;obtain ⟨its,rv,p,hz⟩:=I.list hq;obtain ⟨f0,f1,f2,f3,f4,f5⟩:=hf it (by simp);have hl:=rv.length;exact wpAny_pyNext_list_end (I.ok.hd hc) st p.isList (by simp;omega) fun h' eb=>⟨rfl,I.turned (t':=s.toks) (fun b o hb e=>eb b o hb e) f0 f1 f3 f4 f5⟩
 self:=fun _ _ _ _ _ st h=>wpAny_pyIter_listiter st h
def qvo {P:Zo}{w:World}{K:Qe}{tg:Expr} (a it:Addr):Turn P w K tg (Itt K a) [it] it (fun i h=>h.IsTupleIter it a i) where
 mem:=by simp
 obj:=fun i h st b hb=>by
  have e:b=it:=by simpa using hb
  subst e;obtain ⟨o,e,c,d⟩:=st;exact ⟨o,e,fun v z=>by rw [d] at z;cases z⟩
 keep:=fun i h h' st k=>st.at fun o e=>k it (by simp) o e
 item:=by
  intro X hP hw hK hc i pins s σ H E I hf st hg;subst hP hw hK;obtain ⟨xs,x,hq,hx⟩:=hg;obtain ⟨its,rv,p,hz⟩:=I.tuple hq;obtain ⟨u,hu,ru⟩:=rv.get hx;obtain ⟨f0,f1,f2,f3,f4,f5⟩:=hf it (by simp);refine wpAny_pyNext_tuple_item st (show s.heap.IsTuple a its.toArray from p) (x:=u) (by simpa using hu) fun h' st' sb=>?_;have I1:Inv X pins σ H { s with heap:=h' }:=I.turned (t':=s.toks) (fun b o hb e=>(sb.2 b hb).trans e) f0 f1 f3 f4 f5;obtain ⟨o,e,c,d⟩:=id st';exact ⟨u,rfl,zahg (s:={ s with heap:=h' }) e c d (by decide) ⟨x,H,I1,ru,⟨rfl,fun ys hy=>by rw [I.tuple_inj hy hq];exact hx⟩,st',fun b hb=>(hf b hb).1⟩⟩
 done:=by
  intro X hP hw hK hc i pins s σ H E I hf st hg;subst hP hw hK;obtain ⟨xs,hq,hx⟩:=hg;obtain ⟨its,rv,p,hz⟩:=I.tuple hq;obtain ⟨f0,f1,f2,f3,f4,f5⟩:=hf it (by simp);have hl:=rv.length;exact wpAny_pyNext_tuple_end (I.ok.hd hc) st (show s.heap.IsTuple a its.toArray from p) (by simp;omega) fun h' eb=>⟨rfl,I.turned (t':=s.toks) (fun b o hb e=>eb b o hb e) f0 f1 f3 f4 f5⟩
 self:=fun _ _ _ _ _ st h=>wpAny_pyIter_tupleiter st h
def qwk {P:Zo}{w:World}{K:Qe}{tg:Expr} (it:Addr) (lo:Int) (n:Nat):Turn P w K tg (Itr lo n) [it] it (fun i h=>IsRangeIter h it (lo+(i:Nat)*1) ((n:Int)-(i:Nat)) 1) where
 mem:=by simp
 obj:=fun i h st b hb=>by
  have e:b=it:=by simpa using hb
  subst e;exact ⟨_,st,fun v z=>by
   have z':Qlb _=Qiq v:=z;cases z'⟩
 keep:=fun i h h' st k=>k it (by simp) _ st
 item:=by
  intro X hP hw hK hc i pins s σ H E I hf st hg;subst hP hw hK;obtain ⟨f0,f1,f2,f3,f4,f5⟩:=hf it (by simp);have W:=Walks.range (prog:=X.prog) (w:=X.w) (I.ok.hd hc) it lo 1 n;refine W.item i s _ _ hg st fun v h' tk hv st' kk=>?_;obtain ⟨t,rfl⟩:=hv;have I1:Inv X pins σ H { s with heap:=h',toks:=tk }:=I.turned (fun b o hb e=>kk b o (by simpa using hb) e) f0 f1 f3 f4 f5;refine ⟨_,rfl,zahg (s:={ s with heap:=h',toks:=tk }) (n := "range_iterator") st' rfl rfl (by decide) ⟨.int (lo+i),H,I1,⟨t,?_⟩,⟨rfl,rfl⟩,st',fun b hb=>(hf b hb).1⟩⟩;rw [Qbx]
 done:=by
  intro X hP hw hK hc i pins s σ H E I hf st hg;subst hP hw hK;obtain ⟨f0,f1,f2,f3,f4,f5⟩:=hf it (by simp);exact wpAny_pyNext_range_end (I.ok.hd hc) st (by have:n<=i:=hg;omega) fun h' eb=>⟨rfl,I.turned (t':=s.toks) (fun b o hb e=>eb b o hb e) f0 f1 f3 f4 f5⟩
 self:=fun _ _ _ _ _ st h=>wpAny_pyIter_rangeiter st h
end
section
section
variable {X:Cx}{tg:Expr}
def zadq {pins:List (Addr×Obj)}{σ:St}{H:Hp}{s:Ql}{R:It->Hp->Prop}{E:Value->Ql->Prop}{lo hi:Int}{t u v:Tok}{tk:Nat} (I:Inv X pins σ H s) (h1 : -(2^62)<=lo) (h2:lo<2^62) (h3 : -(2^62)<=hi) (h4:hi<2^62)
 (q:R (Itr lo (hi-lo).toNat) H):wpAny (model X.prog X.w) X.A (pyIter (.ref s.heap.objs.size)) (PIE X pins σ tg R) E { s with heap:=s.heap.push { cls :=.type "range",data :=.fields #[.int lo t,.int hi u,.int 1 v] },toks:=tk }:=by
  refine wpAny_pyIter_range (IsRange.new ..) (small_one h1 h2 h3 h4) ?_;have I1:Inv X pins σ H { s with heap:=s.heap.push { cls :=.type "range",data :=.fields #[.int lo t,.int hi u,.int 1 v] },toks:=tk }:=I.kept fun b o e=>Qf _ e;refine ⟨(s.heap.push { cls :=.type "range",data :=.fields #[.int lo t,.int hi u,.int 1 v] }).objs.size,[(s.heap.push { cls :=.type "range",data :=.fields #[.int lo t,.int hi u,.int 1 v] }).objs.size],_,_,H,rfl,
   I1.kept (t':=tk) fun b o e=>Qf _ e,qwk _ lo (hi-lo).toNat,?_,fun b hb=>?_,q⟩
  ·have e1:lo+((0:Nat):Int)*1=lo:=by simp
   have e2:(((hi-lo).toNat:Nat):Int)-((0:Nat):Int)=Qmd lo hi 1:=by rw [rangeSize_one];split <;> omega
   show IsRangeIter _ _ (lo+((0:Nat):Int)*1) ((((hi-lo).toNat:Nat):Int)-((0:Nat):Int)) 1;rw [e1,e2];exact Qy _ rfl
  ·have e:b=(s.heap.push { cls :=.type "range",data :=.fields #[.int lo t,.int hi u,.int 1 v] }).objs.size:=by simpa using hb
   subst e;exact I1.fpOk (Qz _) (I1.hok.fresh (Qz _))
def zapz (ta:TA):TI:=fun σ H R=>ta σ H fun vs H1 => ∃ j:Int,vs=[.int j] /\ -(2^62)<=j/\j<2^62/\R (Itr 0 j.toNat) H1
def zabv {a:Expr}{ta:TA}{p pos:Pos} (hg:Gl X "range") (hm:X.mg "range" = none) (ha:PA X [a] ta) (hs:Qu [a] X.env=[(false,eval a X.env)]:=by rfl):PI X tg (.Call (.Name "range" p) [a] [] pos) (zapz ta):=by
 intro pins s σ H R I h;refine Call_ (qgj I hg hm boot_range (Vq (thn (ha pos pins s σ H _ I h) fun us s1 xx21=>?_) hs rfl));obtain ⟨vs,H1,I1,r1,q1⟩:=xx21;obtain ⟨j,e,q1,q2,q⟩:=q1;subst e;cases r1 with
 | cons r rr =>
  cases rr;obtain ⟨t,rfl⟩:=r;exact call_range_1 (zadq I1 (by omega) (by omega) q1 q2 (by simpa using q))
def tFor (wi:TI) (g:TG) (tb:TS):TS:=fun D σ H=>wi σ H fun J H1 => ∃ W:Nat->Nat->St->Hp->Prop,(∃ m,W 0 m σ H1) /\ ∀ i m σ H,W i m σ H ->
 (J.stop i H/\D.nx σ H)\/(J.go i H /\ ∃ N:St->Hp->Prop,(∀ σ' H',N σ' H' -> ∃ m',m'<m/\W (i+1) m' σ' H') /\ ∀ x H',J.yld i H x H'->g x σ H' fun σ2 H2=>tb { D with nx:=N,ct:=N,bk:=D.nx } σ2 H2)
def qsj (fp:List Addr) (h:Heap):List (Addr×Obj):=fp.filterMap fun b=>(h.get? b).map fun o=>(b,o)
def qgc {fp:List Addr}{h:Heap}{b:Addr}{o:Obj} (hb:b ∈ fp) (e:h.get? b=some o):(b,o) ∈ qsj fp h:=Qew.mpr ⟨b,hb,by rw [e];rfl⟩
def zaas {fp:List Addr}{h:Heap}{p:Addr×Obj} (hp:p ∈ qsj fp h):p.1 ∈ fp/\h.get? p.1=some p.2:=by
 obtain ⟨b,hb,e⟩:=Qew.mp hp;cases q:h.get? b with
 | none=>rw [q] at e;cases e
 | some o =>
  rw [q] at e;have e':(b,o)=p:=Qx e;subst e';exact ⟨hb,q⟩
def Inv.pinned {pins:List (Addr×Obj)}{σ:St}{H:Hp}{s:Ql}{fp:List Addr} (I:Inv X pins σ H s) (hf : ∀ b ∈ fp,FpOk X pins H b) (ho : ∀ b ∈ fp,∃ o,s.heap.get? b=some o /\ ∀ v,o.data ≠ .cell v):Inv X (pins++qsj fp s.heap) σ H s :=
 I.pins_of fun p hp=>(Zl.mp hp).elim (fun z=>I.pin p (Q8 _ z)) fun z=>by
  obtain ⟨hb,e⟩:=zaas z;obtain ⟨f0,f1,f2,_⟩:=hf p.1 hb;obtain ⟨o,e',d⟩:=ho p.1 hb;rw [e] at e';cases e';exact ⟨e,f0,f1,f2,d⟩
def Inv.unpinned {pins pl:List (Addr×Obj)}{σ:St}{H:Hp}{s:Ql} (I:Inv X (pins++pl) σ H s):Inv X pins σ H s:=I.pins_of fun p hp=>I.pin p (Q8 _ (Yg _ hp))
def zagu {iter:Expr}{body:List Stmt}{wi:TI}{g:TG}{tb:TS}{pos:Pos} (hp:Qlq (model X.prog X.w) X.A X.env X.xe) (hc:X.calm=true) (hi:PI X tg iter wi) (hg:PG X tg g) (hb:PSs X body tb)
 (hs : ∀ x,Y2 iter X.env x=pure x:=by intro _;rfl):PS X (.For tg iter body [] pos) (tFor wi g tb):=by
  intro pins s σ H D I h;refine wpAny_For (thn (hi pins s σ H _ I h) fun v s1 h1=>thn h1 fun itv s2 h2=>?_) hs;obtain ⟨it,fp,tn,J,H2,e,I2,T,st2,f2,W,⟨m0,w0⟩,turn⟩:=h2;subst e;have stat : ∀ {H':Hp},(∀ b ∈ fp,H' b=none) -> ∀ b ∈ fp,FpOk X pins H' b:=fun hn b hb=>⟨hn b hb,(f2 b hb).2⟩
  refine codeAny_forLoop_any (fun n s' => ∃ i σ' H',Inv X pins σ' H' s'/\tn i s'.heap/\(∀ b ∈ fp,H' b=none)/\W i n σ' H') ?_ m0 ⟨0,σ,H2,I2,st2,fun b hb=>(f2 b hb).1,w0⟩;rintro n s3 ⟨i,σ3,H3,I3,st3,fr3,w3⟩;rcases turn i n σ3 H3 w3 with ⟨stop,qn⟩|⟨go,N,hN,step⟩
  ·refine Qad hp (thn (T.done X rfl rfl rfl hc i pins s3 σ3 H3 X.xe I3 (stat fr3) st3 stop) fun r s4 xx25=>?_);obtain ⟨hr,I4⟩:=xx25;subst hr;exact Qeq ⟨σ3,H3,I4,qn⟩
  ·refine Qad hp (thn (T.item X rfl rfl rfl hc i pins s3 σ3 H3 X.xe I3 (stat fr3) st3 go) fun r s4 xx24=>?_);obtain ⟨u,hr,h4⟩:=xx24;subst hr;refine Qad hp (thn h4 fun _ s5 xx23=>?_);obtain ⟨x,H5,I5,r5,y5,st5,fr5⟩:=xx23;have I5':=I5.pinned (stat fr5) (T.obj _ _ st5);refine Qad hp (thn (hg _ s5 σ3 H5 x u _ I5' r5 (step x H5 y5)) fun _ s6 xx22=>?_);obtain ⟨σ6,H6,I6,q6⟩:=xx22;refine Qad hp (thn (hb _ s6 σ6 H6 _ I6 q6) fun f s7 q7=>?_);have again : ∀ {σ7:St}{H7:Hp},Inv X (pins++qsj fp s5.heap) σ7 H7 s7->N σ7 H7 -> ∃ m,m<n /\ ∃ i σ' H',Inv X pins σ' H' s7/\tn i s7.heap/\(∀ b ∈ fp,H' b=none)/\W i m σ' H':=fun {σ7 H7} I7 n7=>by
    obtain ⟨m',hm,w7⟩:=hN σ7 H7 n7;refine ⟨m',hm,i+1,σ7,H7,I7.unpinned,T.keep _ _ _ st5 fun b hb o e=>(I7.pin (b,o) (Q8 _ (Q8 _ (qgc hb e)))).1,fun b hb=>?_,w7⟩;obtain ⟨o,e,d⟩:=T.obj _ _ st5 b hb;exact (I7.pin (b,o) (Q8 _ (Q8 _ (qgc hb e)))).2.1
   cases f with
   | next=>obtain ⟨σ7,H7,I7,n7⟩:=q7;exact again I7 n7
   | cont=>obtain ⟨σ7,H7,I7,n7⟩:=q7;exact again I7 n7
   | brk=>obtain ⟨σ7,H7,I7,q7⟩:=q7;exact ⟨σ7,H7,I7.unpinned,q7⟩
   | ret v=>obtain ⟨x7,σ7,H7,I7,r7,q7⟩:=q7;exact ⟨x7,σ7,H7,I7.unpinned,r7,q7⟩
end
end
section
abbrev R2:=V->V->Hp->VK->Prop
def OpR (X:Cx) (f:Value->Value->Sem Value) (r:R2):Prop :=
 ∀ (pins:List (Addr×Obj)) (s:Ql) (σ:St) (H:Hp) (x y:V) (v u:Value) (Q:VK),Inv X pins σ H s->RelV x v->RelV y u->r x y H Q ->
  wpAny (model X.prog X.w) X.A (f v u) (EP X pins σ Q) X.xe s
def UnR (X:Cx) (f:Value->Sem Value) (r:V->Hp->VK->Prop):Prop :=
 ∀ (pins:List (Addr×Obj)) (s:Ql) (σ:St) (H:Hp) (x:V) (v:Value) (Q:VK),Inv X pins σ H s->RelV x v->r x H Q ->
  wpAny (model X.prog X.w) X.A (f v) (EP X pins σ Q) X.xe s
def CallR (X:Cx) (f:Value) (r:List V->Hp->VK->Prop):Prop :=
 ∀ (pins:List (Addr×Obj)) (s:Ql) (σ:St) (H:Hp) (xs:List V) (us:List Value) (Q:VK),Inv X pins σ H s->Vals xs us->r xs H Q ->
  wpAny (model X.prog X.w) X.A (call f us) (EP X pins σ Q) X.xe s
def tOp (r:R2) (ta tb:TE):TE:=fun σ H Q=>ta σ H fun x H1=>tb σ H1 fun y H2=>r x y H2 Q
def tUn (r:V->Hp->VK->Prop) (ta:TE):TE:=fun σ H Q=>ta σ H fun x H1=>r x H1 Q
def rI (C:Int->Int->Prop) (g:Int->Int->V):R2:=fun x y H Q => ∃ i j,x = .int i/\y = .int j/\C i j/\Q (g i j) H
def rI0 (g:Int->Int->V):R2:=fun x y H Q => ∃ i j,x = .int i/\y = .int j/\Q (g i j) H
def rU (g:Int->V):V->Hp->VK->Prop:=fun x H Q => ∃ i,x = .int i/\Q (g i) H
section
variable {X:Cx}{a b c:Expr}{ta tb tc:TE}{pos:Pos}
def binT (ha:PE X a ta) (hb:PE X b tb) {pins:List (Addr×Obj)}{s:Ql}{σ:St}{H:Hp}{R:V->V->Hp->Prop} (I:Inv X pins σ H s)
 (h:ta σ H fun x H1=>tb σ H1 fun y H2=>R x y H2) {Q:Value->Ql->Prop}{f:Value->Value->Sem Value}
 (hf : ∀ v u s2 x y H2,Inv X pins σ H2 s2->RelV x v->RelV y u->R x y H2->wpAny (model X.prog X.w) X.A (f v u) Q X.xe s2) :
 wpAny (model X.prog X.w) X.A (eval a X.env) (fun v s₁=>wpAny (model X.prog X.w) X.A (eval b X.env) (fun u s₂=>wpAny (model X.prog X.w) X.A (f v u) Q X.xe s₂) X.xe s₁) X.xe s:=by
  refine thn (ha pins s σ H _ I h) fun v s1 xx27=>?_;obtain ⟨x,H1,I1,r1,q1⟩:=xx27;refine thn (hb pins s1 σ H1 _ I1 q1) fun u s2 xx26=>?_;obtain ⟨y,H2,I2,r2,q2⟩:=xx26;exact hf v u s2 x y H2 I2 r1 r2 q2
def zahi {op:Operator}{r:R2} (ho:OpR X (Vw op) r) (ha:PE X a ta) (hb:PE X b tb):PE X (.BinOp a op b pos) (tOp r ta tb):=by
 intro pins s σ H Q I h;exact wpAny_BinOp (binT ha hb I h fun v u s2 x y H2 I2 rx ry q=>ho pins s2 σ H2 x y v u Q I2 rx ry q)
def zapc {op:UnaryOp}{r:V->Hp->VK->Prop} (ho:UnR X (unaryOp op) r) (ha:PE X a ta):PE X (.UnaryOp op a pos) (tUn r ta):=by
 intro pins s σ H Q I h;exact UnaryOp_ (thn (ha pins s σ H _ I h) fun v s1 xx28=>by obtain ⟨x,H1,I1,r1,q1⟩:=xx28;exact ho pins s1 σ H1 x v Q I1 r1 q1)
def opI {f:Value->Value->Sem Value}{C:Int->Int->Prop}{g:Int->Int->Int}
 (rule : ∀ (i j:Int) (t u:Tok) (s:Ql) (Q:Value->Ql->Prop) (E:Value->Ql->Prop),C i j->Q (.int (g i j) s.toks) { s with toks:=s.toks+1 }->wpAny (model X.prog X.w) X.A (f (.int i t) (.int j u)) Q E s) :
  OpR X f (rI C fun i j => .int (g i j)):=by
  intro pins s σ H x y v u Q I rx ry h;obtain ⟨i,j,rfl,rfl,hc,q⟩:=h;obtain ⟨t,rfl⟩:=rx;obtain ⟨t',rfl⟩:=ry;exact rule i j t t' s _ _ hc ⟨.int (g i j),H,I.tok _,⟨_,rfl⟩,q⟩
def opI0 {f:Value->Value->Sem Value}{g:Int->Int->Int}
 (rule : ∀ (i j:Int) (t u:Tok) (s:Ql) (Q:Value->Ql->Prop) (E:Value->Ql->Prop),Q (.int (g i j) s.toks) { s with toks:=s.toks+1 }->wpAny (model X.prog X.w) X.A (f (.int i t) (.int j u)) Q E s) :
  OpR X f (rI0 fun i j => .int (g i j)):=by
  intro pins s σ H x y v u Q I rx ry h;obtain ⟨i,j,rfl,rfl,q⟩:=h;obtain ⟨t,rfl⟩:=rx;obtain ⟨t',rfl⟩:=ry;exact rule i j t t' s _ _ ⟨.int (g i j),H,I.tok _,⟨_,rfl⟩,q⟩
def opB0 {f:Value->Value->Sem Value}{g:Int->Int->Bool}
 (rule : ∀ (i j:Int) (t u:Tok) (s:Ql) (Q:Value->Ql->Prop) (E:Value->Ql->Prop),Q (.bool (g i j)) s->wpAny (model X.prog X.w) X.A (f (.int i t) (.int j u)) Q E s) :
 OpR X f (rI0 fun i j => .bl (g i j)):=by
  intro pins s σ H x y v u Q I rx ry h;obtain ⟨i,j,rfl,rfl,q⟩:=h;obtain ⟨t,rfl⟩:=rx;obtain ⟨t',rfl⟩:=ry;exact rule i j t t' s _ _ ⟨.bl (g i j),H,I,rfl,q⟩
def CPow (i j:Int):Prop:=0<=j/\j<=1000000/\i.natAbs<2^64
def zaob:OpR X (Vw .Add) (rI0 fun i j => .int (i+j)):=opI0 fun _ _ _ _ _ _ _ q=>add_int q
def zamq:OpR X (Vw .Sub) (rI0 fun i j => .int (i-j)):=opI0 fun _ _ _ _ _ _ _ q=>sub_int q
def zane:OpR X (Vw .Mod) (rI (fun _ j=>0<j) fun i j => .int (i%j)):=opI fun i j _ _ _ _ _ hc q=>by
 have h1:(0:Int)<j:=hc;exact mod_int' (by omega) (by rw [Int.fmod_eq_emod_of_nonneg i (by omega)];exact q)
def zani:OpR X (Vw .Pow) (rI CPow fun i j => .int (i^j.toNat)):=opI fun _ _ _ _ _ _ _ hc q=>pow_int_small hc.1 hc.2.1 hc.2.2 q
def unI {f:Value->Sem Value}{g:Int->Int}
 (rule : ∀ (i:Int) (t:Tok) (s:Ql) (Q:Value->Ql->Prop) (E:Value->Ql->Prop),Q (.int (g i) s.toks) { s with toks:=s.toks+1 }->wpAny (model X.prog X.w) X.A (f (.int i t)) Q E s) :
  UnR X f (rU fun i => .int (g i)):=by
  intro pins s σ H x v Q I rx h;obtain ⟨i,rfl,q⟩:=h;obtain ⟨t,rfl⟩:=rx;exact rule i t s _ _ ⟨.int (g i),H,I.tok _,⟨_,rfl⟩,q⟩
def zanm:UnR X (unaryOp .USub) (rU fun i => .int (-i)):=unI fun _ _ _ _ _ q=>neg_int q
end
section
variable {X:Cx}{a b c:Expr}{ta tb tc:TE}{pos:Pos}
def zanc {pins:List (Addr×Obj)}{σ:St}{H:Hp}{s:Ql}{Q:VK}{k k':Bool} (I:Inv X pins σ H s) (q:Q (.bl k) H) (e:k=k'):EP X pins σ Q (.bool k') s:=by
 subst e;exact ⟨.bl k,H,I,rfl,q⟩
def zapp:OpR X (Yo .Lt) (rI0 fun i j => .bl (decide (i<j))):=opB0 fun _ _ _ _ _ _ _ q=>lt_int q
def zaoy:OpR X (Yo .LtE) (rI0 fun i j => .bl (decide (i<=j))):=opB0 fun _ _ _ _ _ _ _ q=>le_int q
def zaoz:OpR X (Yo .Gt) (rI0 fun i j => .bl (decide (j<i))):=opB0 fun _ _ _ _ _ _ _ q=>gt_int q
def zaqz:OpR X (Yo .GtE) (rI0 fun i j => .bl (decide (j<=i))):=opB0 fun _ _ _ _ _ _ _ q=>ge_int q
def zagv:OpR X (Yo .Is) (fun x y H Q=>y = .non/\Q (.bl (decide (x = .non))) H):=by
 intro pins s σ H x y v u Q I rx ry h;obtain ⟨rfl,q⟩:=h;cases ry;refine is_none_gen (zanc I q ?_);cases x <;> first
  | (cases rx;rfl)
  | (obtain ⟨t,rfl⟩:=rx;rfl)
def qxr (b:Expr) {op:CmpOp} (h:op ≠ .In:=by decide) (h2:op ≠ .NotIn:=by decide):Qbf op b=false:=by
 have e1:(op==CmpOp.In)=false:=by cases op <;> first|rfl|exact absurd rfl h
 have e2:(op==CmpOp.NotIn)=false:=by cases op <;> first|rfl|exact absurd rfl h2
 cases b <;> simp [Qbf,e1,e2]
def zakb {op:CmpOp}{r:R2} (ho:OpR X (Yo op) r) (ha:PE X a ta) (hb:PE X b tb) (hm:Qbf op b=false):PE X (.Compare a [op] [b] pos) (tOp r ta tb):=by
 intro pins s σ H Q I h;exact wpAny_Compare1 (binT ha hb I h fun v u s2 x y H2 I2 rx ry q=>ho pins s2 σ H2 x y v u Q I2 rx ry q) hm
def zakt (t:TE):TT:=fun σ H Q=>t σ H fun x H' => ∃ k,x = .bl k/\Q k H'
def qzi {op:CmpOp}{r:R2} (ho:OpR X (Yo op) r) (ha:PE X a ta) (hb:PE X b tb) (hm:Qbf op b=false):PT X (.Compare a [op] [b] pos) (zakt (tOp r ta tb)):=by
 intro pins s σ H Q I h;refine wpAny_isTrue_Compare1 (thn (ha pins s σ H _ I h) fun v s1 ⟨x,H1,I1,r1,q1⟩=>thn (hb pins s1 σ H1 _ I1 q1) fun u s2 ⟨y,H2,I2,r2,q2⟩ =>
  thn (ho pins s2 σ H2 x y v u _ I2 r1 r2 q2) fun c s3 ⟨z,H3,I3,r3,k,e,q3⟩=>?_) hm
 subst e;cases r3;exact Vf ⟨H3,I3,q3⟩
def qxg (r r':R2) (ta tb tc:TE):TE:=fun σ H Q=>ta σ H fun x H1=>tb σ H1 fun y H2=>r x y H2 fun z H3 => ∃ k,z = .bl k /\
 (if k=true then tc σ H3 fun w' H4=>r' y w' H4 Q else Q (.bl false) H3)
def zaez {op op':CmpOp}{r r':R2} (ho:OpR X (Yo op) r) (ho':OpR X (Yo op') r') (ha:PE X a ta) (hb:PE X b tb) (hc:PE X c tc)
 (hm:Qlr [op,op'] [b,c]=false:=by with_unfolding_all rfl):PE X (.Compare a [op,op'] [b,c] pos) (qxg r r' ta tb tc):=by
  intro pins s σ H Q I h;refine Compare_chain (thn (ha pins s σ H _ I h) fun v s1 ⟨x,H1,I1,r1,q1⟩=>chain_link (thn (hb pins s1 σ H1 _ I1 q1) fun u s2 ⟨y,H2,I2,r2,q2⟩ =>
   thn (ho pins s2 σ H2 x y v u _ I2 r1 r2 q2) fun d s3 ⟨z,H3,I3,r3,k,e,q3⟩=>?_)) hm
  subst e;cases r3;refine Vf ?_;cases k with
  | false=>exact ite_ff ⟨.bl false,H3,I3,rfl,q3⟩
  | true=>exact ite_tt (chain_last (thn (hc pins s3 σ H3 _ I3 q3) fun w' s4 xx32=>by obtain ⟨z',H4,I4,r4,q4⟩:=xx32;exact ho' pins s4 σ H4 y z' u w' Q I4 r2 r4 q4))
def zaem {op op':CmpOp}{r r':R2} (ho:OpR X (Yo op) r) (ho':OpR X (Yo op') r') (ha:PE X a ta) (hb:PE X b tb) (hc:PE X c tc)
 (hm:Qlr [op,op'] [b,c]=false:=by with_unfolding_all rfl):PT X (.Compare a [op,op'] [b,c] pos) (zakt (qxg r r' ta tb tc)):=by
  intro pins s σ H Q I h;refine isTrue_chain (thn (ha pins s σ H _ I h) fun v s1 ⟨x,H1,I1,r1,q1⟩=>test_link (thn (hb pins s1 σ H1 _ I1 q1) fun u s2 ⟨y,H2,I2,r2,q2⟩ =>
   thn (ho pins s2 σ H2 x y v u _ I2 r1 r2 q2) fun d s3 ⟨z,H3,I3,r3,k,e,q3⟩=>?_)) hm
  subst e;cases r3;refine Vf ?_;cases k with
  | false =>
   obtain ⟨k',e',q'⟩:=q3;cases e';exact ite_ff ⟨H3,I3,q'⟩
  | true =>
   refine ite_tt (test_last (thn (hc pins s3 σ H3 _ I3 q3) fun w' s4 ⟨z',H4,I4,r4,q4⟩=>thn (ho' pins s4 σ H4 y z' u w' _ I4 r2 r4 q4) fun d' s5 xx36=>?_));obtain ⟨z2,H5,I5,r5,k2,e2,q5⟩:=xx36;subst e2;cases r5;exact Vf ⟨H5,I5,q5⟩
def qmc:(Q9:Nat)<2^63:=by rw [Zf];decide
def qwh:OpR X (Vw .Add) (fun x y H Q => ∃ i j,x = .str i/\y = .str j/\i.length+j.length<=Q9/\Q (.str (i++j)) H):=by
 intro pins s σ H x y v u Q I rx ry h;obtain ⟨i,j,rfl,rfl,hz,q⟩:=h;obtain ⟨t,rfl⟩:=rx;obtain ⟨t',rfl⟩:=ry;exact add_str (fun t' tk=>⟨.str (i++j),H,I.tok _,⟨_,rfl⟩,q⟩) hz
def qhp {x:V}{us:List Value} (r:Vals [x] us) : ∃ u,us=[u]/\RelV x u:=by
 cases r with
 | cons r1 r2=>cases r2;exact ⟨_,rfl,r1⟩
def zahb {x y:V}{us:List Value} (r:Vals [x,y] us) : ∃ u w',us=[u,w']/\RelV x u/\RelV y w':=by
 cases r with
 | cons r1 r2 =>
  cases r2 with
  | cons r3 r4=>cases r4;exact ⟨_,_,rfl,r1,r3⟩
def zade:CallR X (.builtin "abs") (fun xs H Q => ∃ i,xs=[.int i]/\Q (.int (if i<0 then -i else i)) H):=by
 intro pins s σ H xs us Q I r h;obtain ⟨i,rfl,q⟩:=h;obtain ⟨u,rfl,t,rfl⟩:=qhp r;exact call_abs_int fun u tk=>⟨.int (if i<0 then -i else i),H,I.tok _,⟨_,rfl⟩,q⟩
def zabl:CallR X (.type "int") (fun xs H Q=>(∃ i,xs=[.int i]/\Q (.int i) H) \/ ∃ k,xs=[.bl k]/\Q (.int (if k then 1 else 0)) H):=by
 intro pins s σ H xs us Q I r h;rcases h with ⟨i,rfl,q⟩|⟨k,rfl,q⟩
 ·obtain ⟨u,rfl,t,rfl⟩:=qhp r;exact call_int_int ⟨.int i,H,I,⟨_,rfl⟩,q⟩
 ·obtain ⟨u,rfl,r1⟩:=qhp r;cases r1;exact call_int_bool ⟨.int (if k then 1 else 0),H,I.tok _,⟨_,rfl⟩,q⟩
end
end
section
section
variable {prog:Zo}{w:World}{A:Z2}{E:Value->Ql->Prop}{s:Ql}{K:Qe}{x dx C f:Addr}{mA:Str->Option Value}{name:Str}{v:Value}
end
section
variable {P:Zo}{w:World}{H H':Hp}{h h':Heap}{a C dx:Addr}{fs fs':List (Str×V)}
end
section
variable {X:Cx}{pins:List (Addr×Obj)}{σ:St}{H:Hp}{s:Ql}{a C dx:Addr}{fs:List (Str×V)}{f:Str}{v:V}{A:Z2}{E:Value->Ql->Prop}
end
section
variable {X:Cx}{o e value:Expr}{f:Str}{pos pos' tpos:Pos}{ta tv:TE}
end
section
variable {X:Cx}{pins:List (Addr×Obj)}{σ:St}{H:Hp}{s:Ql}{A:Z2}{E:Value->Ql->Prop}{Q:Value->Ql->Prop}{c:Value}{b:Bool}
end
end
section
structure Room (k:Nat) (A:Z2):Prop where
 hd:A.handled=none
 dp:A.depth+3*k+5<Qap
 un:A.units+16*k+200<cLine
def Room.mono {j k:Nat}{A:Z2} (r:Room k A) (h:j<=k):Room j A:=⟨r.hd,by have:=r.dp;omega,by have:=r.un;omega⟩
def Room.deeper {k:Nat}{A:Z2} (r:Room (k+1) A) (env:Env):Room k (A.deeper env) :=
 ⟨r.hd,by have:=r.dp;show A.depth+1+3*k+5<_;omega,by have:=r.un;show A.units+3+16*k+200<_;omega⟩
def Room.depth {k:Nat}{A:Z2} (r:Room k A):A.depth<Qap:=by have:=r.dp;omega
def Room.units {k:Nat}{A:Z2} (r:Room k A):A.units+64<cLine:=by have:=r.un;omega
def tNil:TA:=fun _ H Q=>Q [] H
def qww (ta:TE) (tr:TA):TA:=fun σ H Q=>ta σ H fun x H1=>tr σ H1 fun xs H2=>Q (x::xs) H2
section
variable {X:Cx}{e:Expr}{es:List Expr}{te:TE}{t:TA}{pos:Pos}
def qcq:PA X [] tNil:=fun _ _ _ _ H Q I h=>Qdc ⟨[],H,I,.nil,h⟩
def qV (ha:PE X e te) (hr:PA X es t) (hs:Qu (e::es) X.env=(false,eval e X.env)::Qu es X.env:=by rfl):PA X (e::es) (qww te t):=by
 intro pos pins s σ H Q I h;rw [hs];show wpAny _ _ (spliced ((false,eval e X.env)::V8 pos (Qu es X.env))) _ _ s;refine Qat (thn (ha pins s σ H _ I h) fun u s1 xx42=>?_);obtain ⟨x,H1,I1,r1,q1⟩:=xx42;exact thn (hr pos pins s1 σ H1 _ I1 q1) fun us s2 xx41=>by obtain ⟨xs,H2,I2,r2,q2⟩:=xx41;exact ⟨x::xs,H2,I2,.cons r1 r2,q2⟩
def tTup (t:TA):TE:=fun σ H Q=>t σ H fun xs H1=>xs.length<=Q9 /\ ∀ p,H1 p=none->Q (.ref p) (upd H1 p (.tup xs))
def tLst (t:TA):TE:=fun σ H Q=>t σ H fun xs H1=>xs.length<=Q9 /\ ∀ p,H1 p=none->Q (.ref p) (upd H1 p (.lst xs))
def zafx {x1} (h:PA X es t):PE X (.Tuple es x1 pos) (tTup t):=by
 intro pins s σ H Q I hq;refine wpAny_Tuple_spliced (thn (h pos pins s σ H _ I hq) fun us s1 ⟨xs,H1,I1,r,z,q⟩=>⟨by rw [<- r.length];exact z,?_⟩);have hf:H1 s1.heap.objs.size=none:=I1.hok.fresh (Qz _);refine ⟨.ref s1.heap.objs.size,upd H1 s1.heap.objs.size (.tup xs),I1.laid (t':=s1.toks) (fun b u e=>Qf _ e) (Qz _) ?_,rfl,q _ hf⟩;exact ⟨z,us,r,⟨_,Qy _ rfl,rfl,_,rfl⟩⟩
def zagc (h:PA X es t):PE X (.List es pos) (tLst t):=by
 intro pins s σ H Q I hq;refine wpAny_List_spliced (thn (h pos pins s σ H _ I hq) fun us s1 ⟨xs,H1,I1,r,z,q⟩=>⟨by rw [<- r.length];exact z,?_⟩);have hf:H1 s1.heap.objs.size=none:=I1.hok.fresh (Qz _);refine ⟨.ref s1.heap.objs.size,upd H1 s1.heap.objs.size (.lst xs),I1.laid (t':=s1.toks) (fun b u e=>Qf _ e) (Qz _) ?_,rfl,q _ hf⟩;exact ⟨z,us,0,r,Qy _ rfl⟩
end
abbrev Sp:=List V->Hp->VK->XK->Prop
abbrev CXT:=List Env->Hp->Ql->XK->Value->Ql->Prop
structure Env0 (P:Zo) (w:World) (K:Qe) (mg:Str->Option Value) (base:Heap) (A:Z2) (outer:List Env) (s:Ql) (H:Hp):Prop where
 frames:A.frames=some outer
 mod:Mod K mg base
 bs : ∀ b o,base.get? b=some o->s.heap.get? b=some o/\H b=none
 bsz:base.objs.size<=s.heap.objs.size
 funs:s.heap.FunFrames base outer
 frf : ∀ b ∈ frs outer,H b=none
 hok:HOk P w H s.heap
 bare:Qfi s.gens
def CE (outer:List Env) (P:Zo) (w:World) (H:Hp) (s:Ql) (Q:VK) (u:Value) (s':Ql):Prop :=
 ∃ v H',s'.os=s.os/\Qfi s'.gens/\Un (frs outer) [] H H' s.heap s'.heap/\HOk P w H' s'.heap/\RelV v u/\Q v H'
def CR (CX:CXT) (outer:List Env) (P:Zo) (w:World) (H:Hp) (s:Ql) (Q:VK) (E:XK) (r:Result) (s':Ql):Prop :=
 match r with
 | .ok (.ret u)=>CE outer P w H s Q u s'
 | .ok _=>False
 | .error e=>CX outer H s E e s'
structure FnOk (P:Zo) (w:World) (K:Qe) (mg:Str->Option Value) (base:Heap) (CX:CXT) (k:Nat) (f:Addr) (fd:Jo) (ps:List Str) (sp:Sp):Prop where
 len : ∀ vs H Q E,sp vs H Q E->vs.length=ps.length
 run : ∀ (A:Z2) (outer:List Env) (s:Ql) (H:Hp) (args:Args) (us:List Value) (vs:List V) (Q:VK) (E:XK),Room k A->Env0 P w K mg base A outer s H->Qjz s fd args (ps.zip us)->Vals vs us->sp vs H Q E ->
  Qdv (model P w) A (.call (.ref f) args) (CR CX outer P w H s Q E) s
section
variable {X:Cx}{pins:List (Addr×Obj)}{σ:St}{H:Hp}{s s':Ql}
def Inv.env0 (I:Inv X pins σ H s):Env0 X.prog X.w X.K X.mg X.base X.A X.stack s H :=
 ⟨I.ok.frames,I.ok.mod,I.bs,Zr I.ok.bsz I.sz,I.stack,I.stkFree,I.hok,I.bare⟩
def Inv.after {Q:VK}{u:Value} (I:Inv X pins σ H s) (h:CE X.stack X.prog X.w H s Q u s'):EP X pins σ Q u s':=by
 obtain ⟨v,H',os,bare,un,hok,r,q⟩:=h;obtain ⟨hh,g,d,t,os'⟩:=s';obtain rfl:os'=s.os:=os;exact ⟨v,H',I.call (h':=hh) (g':=g) (d':=d) (t':=t) (ch:=[]) un hok bare (fun b z=>absurd z (by simp)),r,q⟩
end
def qlq (sp:Sp) (dvs:List V) (E:XK) (t:TA):TE:=fun σ H Q=>t σ H fun vs H1=>sp (vs++dvs) H1 Q E
def Binds (K:Qe) (fd:Jo) (ps:List Str) (ds:List Value):Prop :=
 ∀ (s:Ql) (us:List Value),K.In s.heap->(us++ds).length=ps.length->Qjz s fd ⟨us,[]⟩ (ps.zip (us++ds))
def Binds.all {K:Qe}{fd:Jo}{ps:List Str} (h : ∀ us:List Value,us.length=ps.length->Qhs fd ⟨us,[]⟩=pure (ps.zip us)):Binds K fd ps []:=fun s us _ hl=>by
 rw [Vj] at hl ⊢;exact .of_eq (h us hl)
def qxt (CX:CXT) (X:Cx) (E:XK):Prop := ∀ (pins:List (Addr×Obj)) (σ:St) (H:Hp) (s:Ql) (e:Value) (s':Ql),Inv X pins σ H s->CX X.stack H s E e s'->X.xe e s'
section
variable {X:Cx}{CX:CXT}{k:Nat}{f C:Addr}{fd:Jo}{ps:List Str}{sp:Sp}{dvs:List V}{ds:List Value}{E:XK}{x m:Str}{p pos apos:Pos}{e o:Expr}{es:List Expr}{ta:TE}{t:TA}
def zamy {pins:List (Addr×Obj)}{σ:St}{H:Hp}{s:Ql}{Q:VK}{us:List Value}{vs:List V} (F:FnOk X.prog X.w X.K X.mg X.base CX k f fd ps sp) (hr:Room k X.A) (hb:Binds X.K fd ps ds) (hd:Vals dvs ds) (hx:qxt CX X E)
 (I:Inv X pins σ H s) (r:Vals vs us) (h:sp (vs++dvs) H Q E):wpAny (model X.prog X.w) X.A (call (.ref f) us) (EP X pins σ Q) X.xe s:=by
  have r2:Vals (vs++dvs) (us++ds):=r.append hd;have hl:(us++ds).length=ps.length:=by rw [<- r2.length];exact F.len _ _ _ _ h
  refine wpAny_call (Qfc (F.run X.A X.stack s H ⟨us,[]⟩ (us++ds) (vs++dvs) Q E hr I.env0 (hb s us I.kIn hl) r2 h) fun r s' hq=>?_);cases r with
  | error e=>exact hx pins σ H s e s' I hq
  | ok fl =>
   cases fl with
   | ret u=>exact I.after hq
   | next=>exact Zh hq
   | brk=>exact Zh hq
   | cont=>exact Zh hq
end
section
variable {X:Cx}{CX:CXT}{k:Nat}{f C:Addr}{fd:Jo}{ps ks:List Str}{sp:Sp}{E:XK}{x m:Str}{p pos apos kpos:Pos}{e o:Expr}{es:List Expr}{kws:List Qdu}{te ta:TE}{t tk:TA}{nm:Option Str}
variable {g:List Value->List Value->List Value}{gV:List V->List V->List V}
end
structure FnScope (N P:List Str) (sc:Scope):Prop where
 kind:sc.kind = .function
 co:sc.isCoroutine=false
 gen:sc.isGenerator=false
 nd:N.Nodup
 pre:N.take P.length=P
 par : ∀ x ∈ P,sc.names.lookup x=some .local\/sc.names.lookup x=some .cell
 nofree : ∀ y ∈ sc.names,y.2 ≠ .free
def qra {Qft:Str->Option Qbe}{x:Str} : ∀ {binds:List (Str×Value)}{m:Str->Option Value},(∀ v,(x,v) ∉ binds)->bindL Qft binds m x=m x
 | [],_,_=>rfl
 | (n,v)::r,m,h=>by
  unfold bindL;rw [qra fun w hw=>h w (Qs _ hw)];split
  ·have:x≠n:=by rintro rfl;exact h v Qas
   simp [this]
  ·rfl
def qqq {Qft:Str->Option Qbe}{x:Str} : ∀ {binds:List (Str×Value)}{m:Str->Option Value},(∀ v,(x,v) ∉ binds)->bindC Qft binds m x=m x
 | [],_,_=>rfl
 | (n,v)::r,m,h=>by
  unfold bindC;rw [qqq fun w hw=>h w (Qs _ hw)];split
  ·rfl
  ·have:x≠n:=by rintro rfl;exact h v Qas
   simp [this]
def qpz {Qft:Str->Option Qbe}{x:Str}{v:Value} : ∀ {P:List Str}{vs:List Value}{i:Nat}{m:Str->Option Value},P.Nodup->P[i]?=some x->vs[i]?=some v->Qft x=some .local ->
 bindL Qft (P.zip vs) m x=some v
  | [],_,_,_,_,h,_,_=>by simp at h
  | _::_,[],_,_,_,_,h,_=>by simp at h
  | p::P,w::vs,0,m,nd,h1,h2,hk=>by
   simp at h1 h2;subst h1;subst h2;show bindL Qft ((p,w)::P.zip vs) m p=_;unfold bindL;rw [qra fun v hv=>(Jj.mp nd).1 (Qgs hv).1,if_pos hk];simp
  | p::P,w::vs,i+1,m,nd,h1,h2,hk=>by
   show bindL Qft ((p,w)::P.zip vs) m x=_;unfold bindL;exact qpz (i:=i) (Jj.mp nd).2 (by simpa using h1) (by simpa using h2) hk
def qqc {Qft:Str->Option Qbe}{x:Str}{v:Value} : ∀ {P:List Str}{vs:List Value}{i:Nat}{m:Str->Option Value},P.Nodup->P[i]?=some x->vs[i]?=some v->Qft x≠some .local ->
 bindC Qft (P.zip vs) m x=some v
  | [],_,_,_,_,h,_,_=>by simp at h
  | _::_,[],_,_,_,_,h,_=>by simp at h
  | p::P,w::vs,0,m,nd,h1,h2,hk=>by
   simp at h1 h2;subst h1;subst h2;show bindC Qft ((p,w)::P.zip vs) m p=_;unfold bindC;rw [qqq fun v hv=>(Jj.mp nd).1 (Qgs hv).1,if_neg hk];simp
  | p::P,w::vs,i+1,m,nd,h1,h2,hk=>by
   show bindC Qft ((p,w)::P.zip vs) m x=_;unfold bindC;exact qqc (i:=i) (Jj.mp nd).2 (by simpa using h1) (by simpa using h2) hk
def start (N:List Str) (vs:List V):St:=vs.map some++Q4 (N.length-vs.length) none
def qdn (CX:CXT) (P:Zo) (w:World) (K:Qe) (mg:Str->Option Value) (base:Heap) (N:List Str) (qual:Str) (scope:Scope) (f:Addr) (cd:Value) (A:Z2) (outer:List Env) (s:Ql) (H:Hp) (E:XK):Cx where
 prog:=P
 w:=w
 K:=K
 mg:=mg
 base:=base
 A:=A.deeper (Qch qual scope s.heap.objs.size f cd)
 N:=N
 s₀:=s
 H₀:=H
 env:=Qch qual scope s.heap.objs.size f cd
 outer:=outer
 stack:=Qch qual scope s.heap.objs.size f cd::outer
 ex:=[]
 calm:=true
 fn:=fun _=>true
 pn:=[]
 xe:=fun e s'=>wpAny (model P w) (A.deeper (Qch qual scope s.heap.objs.size f cd)) (leaving (Qch qual scope s.heap.objs.size f cd) e) (fun _ s''=>CX outer H s E e s'') (fun e' s''=>CX outer H s E e' s'') s'
def qvm {sc:Scope}{n:Nat}{x:Str} (h:sc.names.lookup x=some .cell) : ∃ c,(V9 n sc.names []).lookup x=some c:=by
 have q:=Qcy sc.names n [] (.inl h);exact J4.mp q
def zaaq {CX:CXT}{P:Zo}{w:World}{K:Qe}{mg:Str->Option Value}{base:Heap}{N ps:List Str}{qual:Str}{scope:Scope}{f:Addr}{cd:Value}{A:Z2}{outer:List Env}{s s1:Ql}{H:Hp}{E:XK}{us:List Value}{vs:List V}
 (S:FnScope N ps scope) (hd:A.handled=none) (e0:Env0 P w K mg base A outer s H) (hl:vs.length=ps.length) (r:Vals vs us)
 (x:InCallC s s.heap.objs.size (bindL (Qch qual scope s.heap.objs.size f cd).kindOf (ps.zip us) fun _=>none) (V9 (s.heap.objs.size+1) scope.names []) (bindC (Qch qual scope s.heap.objs.size f cd).kindOf (ps.zip us) fun _=>none) s1) :
 Inv (qdn CX P w K mg base N qual scope f cd A outer s H E) [] (start N vs) H s1:=by
  have hpl:ps.length<=N.length:=by have:=congrArg Qlc S.pre;rw [Qak] at this;omega
  obtain ⟨h1,tk,rfl,hk⟩:=x.done;have noA : ∀ b:Addr,b ∉ (qdn CX P w K mg base N qual scope f cd A outer s H E).ex:=fun b z=>absurd (show b ∈ ([]:List Addr) from z) (by simp);refine ⟨⟨e0.mod,S.kind,rfl,rfl,Qz _,fun y z c h1 h2=>?_,fun y hy=>?_,fun y c _ h=>?_,fun _=>hd,Qht e0.frames,.inr ⟨rfl,rfl⟩,fun b z=>absurd z (noA b),e0.bs,e0.bsz,fun b _ _=>noA b,fun b z=>absurd z (noA b),e0.funs,e0.frf⟩,
   rfl,e0.bare,Un.kept hk,⟨_,x.toInCall.ns,fun i y v h1 h2 h3=>?_⟩,fun y c h=>⟨_,x.cell y c h⟩,e0.hok.fresh (Qz _),fun y c h=>?_,fun p hp=>absurd (show p ∈ ([]:List (Addr×Obj)) from hp) (by simp),e0.hok.kept hk,?_⟩
  ·exact name_of_addr x.apart (Vx h1) (Vx h2)
  ·have hy:scope.names.lookup y=some .cell\/scope.names.lookup y=some .free:=hy;rcases hy with hy|hy
   ·exact qvm hy
   ·exact absurd rfl (S.nofree _ (Vx hy))
  ·exact Z6 (x.above y c (Vx h))
  ·have hi:i<vs.length:=by
    unfold start at h2;by_cases hi:i<vs.length
    ·exact hi
    ·rw [Yi (by simpa using hi)] at h2;rw [Vr] at h2;split at h2 <;> cases h2
   have ha:vs[i]?=some v:=by
    unfold start at h2;rw [Zm (by simpa using hi),Qc] at h2;cases e:vs[i]? with
    | none=>rw [e] at h2;cases h2
    | some a=>rw [e] at h2;cases h2;rfl
   obtain ⟨u,hu,rv⟩:=r.get ha;have hp:ps[i]?=some y:=by
    rw [<- S.pre,List.getElem?_take_of_lt (by omega)];exact h1
   have ndP:ps.Nodup:=by rw [<- S.pre];exact S.nd.sublist (List.take_sublist _ _)
   refine ⟨u,rv,?_⟩;rcases S.par y (Qj hp) with k|k
   ·exact .inl ⟨k,qpz ndP hp hu k⟩
   ·obtain ⟨c,e⟩:=qvm (n:=s.heap.objs.size+1) k;refine .inr ⟨.inl k,c,e,?_⟩;have q:=x.cell y c e;rw [qqc ndP hp hu (by show scope.names.lookup y≠_;rw [k];decide)] at q;exact q
  ·exact e0.hok.fresh (Z6 (x.above y c (Vx h)))
  ·unfold start;show _=N.length;rw [Z4,Qk,Qgt];omega
def zacb {CX:CXT}{P:Zo}{w:World}{K:Qe}{mg:Str->Option Value}{base:Heap}{k:Nat}{f:Addr}{name qual:Str}{params:Qen}{body:List Stmt}{scope:Scope}{dV kV doc pm cdv ct oc:Value}{an od:Option Addr}
 {osl:Array (Option Value)}{N ps:List Str}{sp:Sp} (lk:K.lookup f=some ⟨oc,od,.func (Vm name qual params body scope dV kV doc pm an cdv ct),osl⟩) (hcd:Qao K cdv qual=true) (S:FnScope N ps scope)
 (len : ∀ vs H Q E,sp vs H Q E->vs.length=ps.length)
 (hbody : ∀ (A:Z2) (outer:List Env) (s:Ql) (H:Hp) (vs:List V) (Q:VK) (E:XK),Room k (A.deeper (Qch qual scope s.heap.objs.size f cdv))->sp vs H Q E ->
 ∃ t,PSs (qdn CX P w K mg base N qual scope f cdv A outer s H E) body t/\t { nx:=fun _ H'=>Q .non H',rt:=Q } (start N vs) H) :
  FnOk P w K mg base CX (k+1) f (Vm name qual params body scope dV kV doc pm an cdv ct) ps sp:=by
  refine ⟨len,fun A outer s H args us vs Q E hr e0 hb r hsp=>?_⟩;have hl:=len _ _ _ _ hsp;have KX:K.In s.heap:=e0.mod.kin.keeps fun b o e=>(e0.bs b o e).1;have lim:s.heap.NoLimit:=e0.mod.nolimit.keeps fun b o e=>(e0.bs b o e).1;have hkind : ∀ y ∈ ps.zip us,scope.names.lookup y.1=some .local\/(scope.names.lookup y.1=some .cell/\((V9 (s.heap.objs.size+1) scope.names []).lookup y.1).isSome=true):=fun xx45 hy=>by
   obtain ⟨n,v⟩:=xx45;rcases S.par n (Qgs hy).1 with q|q
   ·exact .inl q
   ·exact .inr ⟨q,Qcy _ _ _ (.inl q)⟩
  refine codeAny_call_function hr.depth (KX _ _ lk) rfl S.co S.gen rfl (PySem.W.codeRec_of KX hcd) (hb _ _ _ _ ?_);refine wpAny_newFunctionEnv_cells S.kind hkind fun env he s1 x=>?_;subst he;refine ⟨lim.keeps x.toInCall.keep,codeAny_func ?_⟩;obtain ⟨t,ht,hq⟩:=hbody A outer s H vs Q E (hr.deeper _) hsp;have I:Inv (qdn CX P w K mg base N qual scope f cdv A outer s H E) [] (start N vs) H s1:=zaaq S hr.hd e0 hl r x;refine Vo (ht [] s1 (start N vs) H _ I hq) (fun fl s' hs=>?_) fun e s' hs=>hs;have fin : ∀ {σ':St}{H':Hp}{v:V}{u:Value},Inv (qdn CX P w K mg base N qual scope f cdv A outer s H E) [] σ' H' s'->RelV v u->Q v H'->CE outer P w H s Q u s' :=
   fun {σ' H' v u} J rv q=>⟨v,H',J.os,J.bare,J.base,J.hok,rv,q⟩
  cases fl with
  | ret u =>
   obtain ⟨v,σ',H',J,rv,q⟩:=hs;exact fin J rv q
  | next =>
   obtain ⟨σ',H',J,q⟩:=hs;exact fin (v:=V.non) (u:=Vb) J rfl q
  | brk =>
   obtain ⟨_,_,_,q⟩:=hs;exact Zh q
  | cont =>
   obtain ⟨_,_,_,q⟩:=hs;exact Zh q
end
section
section
variable {X:Cx}{x:Str}{p pos:Pos}{e:Expr}{es:List Expr}{t:TA}{id T:String}{r:List V->Hp->VK->Prop}
def tCB (r:List V->Hp->VK->Prop) (t:TA):TE:=fun σ H Q=>t σ H fun vs H1=>r vs H1 Q
def qgz (hc:CallR X (.builtin id) r) (hg:Gl X x) (hm:X.mg x=none) (hv:Z0 x=some (.builtin id)) (ha:PA X (e::es) t) (hn:x ≠ "__name__":=by decide) (hdb:Nd0 x:=by decide)
 (he:Qu (e::es) X.env=(false,eval e X.env)::Qu es X.env:=by rfl) (hpl:(V8 pos (Qu es X.env)).any (·.1)=false:=by rfl):PE X (.Call (.Name x p) (e::es) [] pos) (tCB r t):=by
 intro pins s σ H Q I h;refine Jv (qgj I hg hm hv ?_ hn hdb);exact PyProof.Rows.callWith_builtin1 (thn (ha pos pins s σ H _ I h) fun us s1 xx46=>by obtain ⟨vs,H1,I1,r1,q1⟩:=xx46;exact hc pins s1 σ H1 vs us Q I1 r1 q1) he hpl
def qkm (hc:CallR X (.type T) r) (hg:Gl X x) (hm:X.mg x=none) (hv:Z0 x=some (.type T)) (ha:PA X (e::es) t) (hn:x ≠ "__name__":=by decide) (hdb:Nd0 x:=by decide)
 (he:Qu (e::es) X.env=(false,eval e X.env)::Qu es X.env:=by rfl) (hpl:(V8 pos (Qu es X.env)).any (·.1)=false:=by rfl):PE X (.Call (.Name x p) (e::es) [] pos) (tCB r t):=by
 intro pins s σ H Q I h;refine Jv (qgj I hg hm hv ?_ hn hdb);exact Vq (thn (ha pos pins s σ H _ I h) fun us s1 xx47=>by obtain ⟨vs,H1,I1,r1,q1⟩:=xx47;exact hc pins s1 σ H1 vs us Q I1 r1 q1) he hpl
end
end
end L2
namespace HT
open PySem PyProof.Rows
def lexLt:List Int->List Int->Bool
 | [],[]=>false
 | [],_::_=>true
 | _::_,[]=>false
 | x::xs,y::ys=>if x=y then lexLt xs ys else decide (x<y)
def lexLt_cons (x y:Int) (xs ys:List Int):lexLt (x::xs) (y::ys)=if x=y then lexLt xs ys else decide (x<y):=rfl
def qpa:lexLt [] []=false:=rfl
def qml (y:Int) (ys:List Int):lexLt [] (y::ys)=true:=rfl
def qmo (x:Int) (xs:List Int):lexLt (x::xs) []=false:=rfl
def zadz (A:Z2) (s:Ql) (a:Int) (t:Tok) (c:Int) (u:Tok) : ∃ e,Qlx A s (.int a t) (.int c u) e/\(e=true↔a=c) :=
 ⟨(a==c),Qir a t c u,by simp⟩
def zaek (A:Z2) (s:Ql) (a:Int) (t:Tok) (c:Int) (u:Tok) (prog:Zo) (w:World) (E:Value->Ql->Prop) (Q:Value->Ql->Prop) (h:Q (.bool (decide (a<c))) s) :
 wpAny (model prog w) A (richCompare .Lt (.int a t) (.int c u)) Q E s :=
  (PyProof.Rows.lt_int h:wpAny (model prog w) A (Yo .Lt (.int a t) (.int c u)) Q E s)
section
open PySem.SeqAt
open PySem.AutoSeq1 (wpAny_loadPart')
open PySem.MeetsSeq PySem.MeetsSeq2 PySem.MeetsSeq3
def qpm (l b:Addr) (items items2:Array Value) (n n2:Nat) (dd dd2:Option Addr) (sl sl2:Array (Option Value)) (ns ms:List Int) (hi:Qbl items.toList ns) (hj:Qbl items2.toList ms) :
 Meets (Builtin.«tuple.__lt__» ⟨[.ref l,.ref b],[]⟩)
 (fun _ R s=>s.heap.get? l=some { cls :=.type "tuple",dict:=dd,data :=.seq items n,slots:=sl }/\s.heap.get? b=some { cls :=.type "tuple",dict:=dd2,data :=.seq items2 n2,slots:=sl2 } /\
  R (.ok (.ret (.bool (lexLt ns ms)))) s) :=
  .of_wp fun prog w A R s h=>by
   obtain ⟨hp,g,d,tk,os⟩:=s;obtain ⟨hl,hb,h⟩:=h;have f2:=AutoSeq1.sub_tuple_tuple;have z1:items.size=ns.length:=by rw [<- hi.length];simp
   have z2:items2.size=ms.length:=by rw [<- hj.length];simp
   wp_walk using Yp hl,Yp hb,wpAny_forIn_list _ (fun rest b s'=>b.1=none/\s'=⟨hp,g,d,tk,os⟩ /\ ∃ (vs ws:List Value) (ns' ms':List Int),rest=vs.zip ws /\
    Qbl vs ns'/\Qbl ws ms'/\ns'.length+items2.size=ms'.length+items.size/\R (.ok (.ret (.bool (lexLt ns' ms')))) ⟨hp,g,d,tk,os⟩) _
   case turn =>
    rintro ⟨y,x⟩ rest b s' ⟨hb',rfl,vs,ws,ns',ms',hz,hvi,hwi,hlen,hR⟩;cases hvi with
    | nil=>rw [List.zip_nil_left] at hz;cases hz
    | cons a t hvi' =>
     cases hwi with
     | nil=>rw [List.zip_nil_right] at hz;cases hz
     | cons c u hwi' =>
      rw [Qis] at hz;injection hz with hyx hrest;injection hyx with hy hx;subst hy hx;rw [lexLt_cons] at hR;simp only [Zp] at hlen;obtain ⟨e,he,hiff⟩:=zadz A.in1 ⟨hp,g,d,tk,os⟩ a t c u;refine Qd (he prog w _ _ ?_);cases e with
      | true =>
       rw [if_pos (hiff.mp rfl)] at hR
       wp_walk
       exact ⟨rfl,rfl,_,_,_,_,hrest,hvi',hwi',by omega,hR⟩
      | false =>
       rw [if_neg (fun q=>absurd (hiff.mpr q) Zt)] at hR;have hri:=zaek A.in1 ⟨hp,g,d,tk,os⟩ a t c u prog w
       wp_walk using hri
       exact ⟨_,rfl,by simpa using hR⟩
   case fin =>
    rintro ⟨b1,b2⟩ s' ⟨hb',rfl,vs,ws,ns',ms',hz,hvi,hwi,hlen,hR⟩;simp only at hb';subst hb';have hv:lexLt ns' ms'=decide (items.size<items2.size):=by
     cases hvi with
     | nil =>
      cases hwi with
      | nil =>
       simp only [J5] at hlen;rw [qpa];exact (decide_eq_false (by omega)).symm
      | cons c u hw =>
       simp only [J5,Zp] at hlen;rw [qml];exact (decide_eq_true (by omega)).symm
     | cons a t hv =>
      cases hwi with
      | nil =>
       simp only [J5,Zp] at hlen;rw [qmo];exact (decide_eq_false (by omega)).symm
      | cons c u hw =>
       rw [Qis] at hz;cases hz
    rw [hv] at hR
    wp_walk
    exact ⟨_,rfl,by simpa [Qjo] using hR⟩
   case h =>
    exact ⟨rfl,rfl,items.toList,items2.toList,ns,ms,rfl,hi,hj,by omega,h⟩
end
section
variable {prog:Zo}{w:World}{A:Z2}{E:Value->Ql->Prop}{s:Ql}
def lt_tupInts {l b:Addr}{items items2:Array Value}{ns ms:List Int}{Q:Value->Ql->Prop} (hl:IsTup s.heap l items) (hb:IsTup s.heap b items2) (hi:Qbl items.toList ns) (hj:Qbl items2.toList ms)
 (hu:A.units<cLine) (h:Q (.bool (lexLt ns ms)) s):wpAny (model prog w) A (Yo .Lt (.ref l) (.ref b)) Q E s:=by
  obtain ⟨⟨cls,dd,data,sl⟩,ho,hc,n,hd⟩:=id hl;obtain ⟨⟨cls2,dd2,data2,sl2⟩,ho2,hc2,n2,hd2⟩:=id hb;simp only at hc hd hc2 hd2;subst hc hd hc2 hd2;exact richCompare_meets_room (op :=.Lt) ⟨_,ho,rfl⟩ ⟨_,ho2,rfl⟩ PySem.F.slot_tuple_lt PySem.F.entry_tuple_lt (PySem.F.args_tuple_lt_2 _ _) (qpm l b items items2 n n2 dd dd2 sl sl2 ns ms hi hj)
   ⟨ho,ho2,show Qef (lexLt ns ms)≠Value.notImplemented/\Q (.bool (lexLt ns ms)) s from ⟨(fun x=>nomatch x),h⟩⟩ hu
def cat_tup {t b:Addr}{vs ws:List Value}{Q:Value->Ql->Prop} (ht:IsTup s.heap t vs.toArray) (hb:IsTup s.heap b ws.toArray) (hv:vs≠[])
 (h1:ws=[]->Q (.ref t) s) (h2:ws≠[]->Q (.ref s.heap.objs.size) { s with heap:=s.heap.push { cls :=.type "tuple",data :=.seq (vs++ws).toArray } })
  (hsz:vs.length+ws.length<=Q9):wpAny (model prog w) A (Vw .Add (.ref t) (.ref b)) Q E s:=by
  obtain ⟨⟨cls,dd,data,sl⟩,ho,hc,n,hd⟩:=id ht;obtain ⟨⟨cls2,dd2,data2,sl2⟩,ho2,hc2,n2,hd2⟩:=id hb;simp only at hc hd hc2 hd2;subst hc hd hc2 hd2;have e:vs.toArray++ws.toArray=(vs++ws).toArray:=by simp
  by_cases hw:ws=[]
  ·exact Qhk ⟨_,ho,rfl⟩ ⟨_,ho2,rfl⟩ Qgm Qjm Qcz Qck (Qcb _ _)
    (tuple_addW1 t b vs.toArray ws.toArray n n2 dd dd2 sl sl2 (by simpa using hv) (by simp [hw])) ⟨ho,ho2,h1 hw⟩
  ·refine Qhk ⟨_,ho,rfl⟩ ⟨_,ho2,rfl⟩ Qgm Qjm Qcz Qck (Qcb _ _)
    (tuple_addW2 t b vs.toArray ws.toArray n n2 dd dd2 sl sl2 (by simpa using hv) (by simpa using hw) (by rw [Qr,Qr];exact hsz)) ⟨ho,ho2,?_⟩
   rw [e];exact h2 hw
def sIx (n d:Nat):Option Int->Nat
 | none=>d
 | some v=>if v<0 then (v+(n:Int)).toNat else min v.toNat n
def sIx_none (n d:Nat):sIx n d none=d:=rfl
def zanw (n d:Nat) (hd:d<=n) (o:Option Int):sIx n d o<=n:=by
 cases o with
 | none=>exact hd
 | some v =>
  show (if v<0 then (v+(n:Int)).toNat else min v.toNat n)<=n;by_cases hv:v<0
  ·rw [if_pos hv];omega
  ·rw [if_neg hv];exact Nat.min_le_right _ _
def qxy (v:Int) (n d:Nat):(if v<0 then max (v+(n:Int)) 0 else min v (n:Int))=((sIx n d (some v):Nat):Int):=by
 show (if v<0 then max (v+(n:Int)) 0 else min v (n:Int))=(((if v<0 then (v+(n:Int)).toNat else min v.toNat n):Nat):Int);by_cases hv:v<0
 ·simp only [if_pos hv];omega
 ·simp only [if_neg hv];omega
def qvs (lo hi:Option Int) (n:Nat):Qbm lo hi 1 (n:Int)=(((sIx n 0 lo:Nat):Int),((sIx n n hi:Nat):Int)):=by
 have h1 : ¬ ((1:Int)<0):=by omega
 unfold Qbm;simp only [h1,if_false];refine Qmu ?_ ?_
 ·cases lo with
  | none=>rfl
  | some v=>exact qxy v n 0
 ·cases hi with
  | none=>rfl
  | some v=>exact qxy v n n
def qvw (i j:Nat):Jw (i:Int) (j:Int) 1=j-i:=by
 unfold Jw;have h1:(1:Int)>0:=by omega
 simp only [h1,if_true,Qkb];split <;> omega
def qnl {v:Value}{o:Option Int}{Q:Option Int->Ql->Prop} (p:Qjh v o) (h:Q o s):wpAny (model prog w) A (Qks v) Q E s:=by
 cases p with
 | none=>exact slicePart_none h
 | int i t=>exact slicePart_int h
def sliceApplied_gen {sl:Addr}{vl vu:Value}{lo hi:Option Int}{n:Nat}{Q:Int×Int×Nat->Ql->Prop} (hs:s.heap.IsSliceOf sl vl vu .none) (pl:Qjh vl lo) (pu:Qjh vu hi)
 (h:Q (((sIx n 0 lo:Nat):Int),1,sIx n n hi-sIx n 0 lo) s):wpAny (model prog w) A (Qes (.ref sl) (pure (n:Int))) Q E s:=by
  obtain ⟨os,hos,hcs,hds⟩:=id hs;unfold Qes Qlu;refine Qd (Qd (Yj hos hds (x:=vl) rfl (Qd (Yj hos hds (x:=vu) rfl (Qd (Yj hos hds (x :=.none) rfl (Qo ?_)))))));refine Qd (slicePart_none ?_);show wpAny _ _ (if ((1:Int)==0)=true then _ else _) _ _ s;rw [if_neg (by decide)];refine Qd (qnl pl (Qd (qnl pu (Qd (Qo ?_)))));show wpAny _ _ (match Qbm lo hi 1 (n:Int) with|(lo,hi)=>pure (lo,(1:Int),Jw lo hi 1)) _ _ s;rw [qvs lo hi n];show wpAny _ _ (pure (((sIx n 0 lo:Nat):Int),(1:Int),Jw ((sIx n 0 lo:Nat):Int) ((sIx n n hi:Nat):Int) 1)) _ _ s;rw [qvw];exact Qo h
def zaeg (xs:Array Value) (i k:Nat):((Q1 k).filterMap fun (m:Nat)=>xs[((i:Int)+(m:Int)*1).toNat]?).toArray=((xs.toList.drop i).take k).toArray:=by
 have e:(fun (m:Nat)=>xs[((i:Int)+(m:Int)*1).toNat]?)=fun m=>xs[i+m]?:=by
  funext m
  have:((i:Int)+(m:Int)*1).toNat=i+m:=by omega
  rw [this]
 rw [e];have:=pick_run xs i k;rw [List.filterMap_map] at this;have e2:((fun x=>xs[x]?) ∘ fun x=>i+x)=fun m=>xs[i+m]?:=rfl;rw [e2] at this;rw [this]
def getItem_tuple_cut {t sl:Addr}{items:Array Value}{vl vu:Value}{lo hi:Option Int}{Q:Value->Ql->Prop} (ht:IsTup s.heap t items) (hs:s.heap.IsSliceOf sl vl vu .none) (pl:Qjh vl lo) (pu:Qjh vu hi)
 (hw : ¬ (sIx items.size 0 lo=0/\sIx items.size items.size hi=items.size))
 (h:Q (.ref s.heap.objs.size) { s with heap:=s.heap.push { cls :=.type "tuple",data :=.seq ((items.toList.drop (sIx items.size 0 lo)).take (sIx items.size items.size hi-sIx items.size 0 lo)).toArray } })
  (hsz:items.size<=Q9):wpAny (model prog w) A (Qka (.ref t) (.ref sl)) Q E s:=by
  have htake:sizeOk (.seq ((items.toList.drop (sIx items.size 0 lo)).take (sIx items.size items.size hi-sIx items.size 0 lo)).toArray):=by
   show ((items.toList.drop (sIx items.size 0 lo)).take (sIx items.size items.size hi-sIx items.size 0 lo)).toArray.size<=Q9;rw [Qr,Qak,Qal,Z1];omega
  have hj:sIx items.size items.size hi<=items.size:=zanw _ _ (Qz _) hi;obtain ⟨os,hos,hcs,hds⟩:=id hs;have hTs:s.TypeIs (.ref sl) "slice":=⟨os,hos,hcs⟩
  unfold Qka
  try with_reducible refine Yx ?_
  first|refine Qd (Qo ?_)|skip
  refine Qd (wpAny_sequenceKey ht.typeIs (by decide) ?_);refine Qd (Z8 (name:=Qn "__getitem__") ht.typeIs Yu
   (Yn Yu ht.typeIs entry_tuple_getitem ?_ (args_tuple_getitem _ _)))
  show wpAny _ _ (Qet (.ref t) >>= _) _ _ s;refine Qd (tupleItemsOf_ ht ?_);refine Qd (Qhq hTs ?_);rw [if_pos (by decide)];refine Qd (sliceApplied_gen hs pl pu ?_);have hno : ¬ ((((sIx items.size 0 lo:Nat):Int)==0&&(1:Int)==1&&(sIx items.size items.size hi-sIx items.size 0 lo)==items.size)=true):=by
   intro q;rw [Ys,Ys] at q;have q1:((sIx items.size 0 lo:Nat):Int)=0:=eq_of_beq q.1.1;have q2:sIx items.size items.size hi-sIx items.size 0 lo=items.size:=eq_of_beq q.2;exact hw ⟨by omega,by omega⟩
  show wpAny _ _ (if (((sIx items.size 0 lo:Nat):Int)==0&&(1:Int)==1&&(sIx items.size items.size hi-sIx items.size 0 lo)==items.size)=true then _ else _) _ _ s;rw [if_neg hno,zaeg]
  first
   | exact Qd (m:=J6 _) (Y3 (Qo ⟨_,rfl,Qo h⟩) htake)
   | exact Qd (m:=J6 _) (Y3 (Qd (Qo (Qo ⟨_,rfl,Qo h⟩))) htake)
   | exact Qd (Qd (m:=J6 _) (Y3 (Qo (Qo ⟨_,rfl,Qo h⟩)) htake))
   | exact Qd (Qd (m:=J6 _) (Y3 (Qo ⟨_,rfl,Qo h⟩) htake))
end
end HT
namespace L2
open PySem PySem.Spec PyProof.Rows
section
abbrev TO:=St->Hp->(Option Int->Hp->Prop)->Prop
def PO (X:Cx) (e:Option Expr) (t:TO):Prop :=
 ∀ (pins:List (Addr×Obj)) (s:Ql) (σ:St) (H:Hp) (Q:Option Int->Hp->Prop),Inv X pins σ H s->t σ H Q ->
  wpAny (model X.prog X.w) X.A (evalPart e X.env) (fun u s' => ∃ o H',Inv X pins σ H' s'/\Qjh u o/\Q o H') X.xe s
def zaii:TO:=fun _ H Q=>Q none H
def zaqn (t:TE):TO:=fun σ H Q=>t σ H fun x H1 => ∃ i,x = .int i/\Q (some i) H1
def qin {ns:List Int} : ∀ {us:List Value},Vals (ns.map V.int) us->Qbl us ns:=by
 induction ns with
 | nil=>intro us r;rw [Qaf] at r;cases r;exact .nil
 | cons n ns ih =>
  intro us r;rw [Q7] at r;cases r with
  | cons r1 r2 =>
   obtain ⟨t,e⟩:=r1;subst e;exact .cons n t (ih r2)
section
variable {X:Cx}{e:Expr}{te:TE}{lo hi:Option Expr}{tl th:TO}{pos p2:Pos}
def zahz:PO X none zaii:=by
 intro pins s σ H Q I h;rw [evalPart_none];exact Qo ⟨none,H,I,.none,h⟩
def zahp (h:PE X e te):PO X (some e) (zaqn te):=by
 intro pins s σ H Q I hw;rw [evalPart_some];refine thn (h pins s σ H _ I hw) fun u s1 xx48=>?_;obtain ⟨x,H1,I1,r1,q1⟩:=xx48;obtain ⟨i,rfl,q⟩:=q1;obtain ⟨t,rfl⟩:=r1;exact ⟨some i,H1,I1,.int i t,q⟩
def SlR (X:Cx) (r:V->Option Int->Option Int->Hp->VK->Prop):Prop :=
 ∀ (pins:List (Addr×Obj)) (s:Ql) (σ:St) (H:Hp) (x:V) (v vl vu:Value) (lo hi:Option Int) (sl:Addr) (Q:VK),Inv X pins σ H s->RelV x v->s.heap.IsSliceOf sl vl vu .none->Qjh vl lo->Qjh vu hi->r x lo hi H Q ->
  ∃ T id,typeLookup (.type T) "__getitem__" = pure (some (.builtin id))/\s.TypeIs v T/\wpAny (model X.prog X.w) X.A (Qka v (.ref sl)) (EP X pins σ Q) X.xe s
def tSl (r:V->Option Int->Option Int->Hp->VK->Prop) (te:TE) (tl th:TO):TE:=fun σ H Q=>te σ H fun x H1=>tl σ H1 fun l H2=>th σ H2 fun u H3=>r x l u H3 Q
def quc {r:V->Option Int->Option Int->Hp->VK->Prop} (hr:SlR X r) (he:PE X e te) (hl:PO X lo tl) (hu:PO X hi th):PE X (.Subscript e (.Slice lo hi none p2) pos) (tSl r te tl th):=by
 intro pins s σ H Q I h;refine Subscript_ (thn (he pins s σ H _ I h) fun v s1 xx51=>?_);obtain ⟨x,H1,I1,r1,q1⟩:=xx51;refine wpAny_Slice (thn (hl pins s1 σ H1 _ I1 q1) fun vl s2 ⟨l,H2,I2,pl,q2⟩=>thn (hu pins s2 σ H2 _ I2 q2) fun vu s3 xx49=>?_);obtain ⟨u,H3,I3,pu,q3⟩:=xx49;rw [evalPart_none];refine Qo ?_;have I4:Inv X pins σ H3 { s3 with heap:=s3.heap.push { cls :=.type "slice",data :=.fields #[vl,vu,.none] } }:=I3.kept (t':=s3.toks) fun b ob q=>Qf _ q;obtain ⟨T,id,hT,ht,hg⟩:=hr pins { s3 with heap:=s3.heap.push { cls :=.type "slice",data :=.fields #[vl,vu,.none] } } σ H3 x v vl vu l u s3.heap.objs.size Q I4 r1 (Qmv ..) pl pu q3;show wpAny (model X.prog X.w) X.A (subscriptTail e (.Slice lo hi none p2) v (.ref s3.heap.objs.size)) (EP X pins σ Q) X.xe { s3 with heap:=s3.heap.push { cls :=.type "slice",data :=.fields #[vl,vu,.none] } };exact tail_any (ops:=[.ref s3.heap.objs.size,v]) ht hT hg (by with_unfolding_all rfl)
def qpy (xs:List V) (lo hi:Option Int):List V:=(xs.drop (HT.sIx xs.length 0 lo)).take (HT.sIx xs.length xs.length hi-HT.sIx xs.length 0 lo)
def qld (xs:List V) (lo hi:Option Int):(qpy xs lo hi).length<=xs.length:=by
 unfold qpy;rw [Qak,Qal];omega
def rSlT (K:Qe):V->Option Int->Option Int->Hp->VK->Prop:=fun x lo hi H Q => ∃ a xs,x = .ref a/\SqT K H a xs /\
 ¬ (HT.sIx xs.length 0 lo=0/\HT.sIx xs.length xs.length hi=xs.length) /\ ∀ p,H p=none->Q (.ref p) (upd H p (.tup (qpy xs lo hi)))
def zamb:SlR X (rSlT X.K):=by
 intro pins s σ H x v vl vu lo hi sl Q I rx hs pl pu h;obtain ⟨a,xs,rfl,hx,hw,q⟩:=h;cases rx;obtain ⟨its,r,ht,hz⟩:=I.tuple hx;have hlen:its.toArray.size=xs.length:=by rw [Qr];exact r.length.symm
 refine ⟨"tuple",_,Yu.lookup,ht.typeIs,?_⟩;refine HT.getItem_tuple_cut ht hs pl pu (by rw [hlen];exact hw) ?_ (by rw [hlen];exact hz);rw [hlen];refine ⟨.ref s.heap.objs.size,_,I.laid (t':=s.toks) (o :=.tup (qpy xs lo hi)) (fun b ob q=>Qf _ q) (Qz _) ?_,rfl,q _ (I.hok.fresh (Qz _))⟩;exact ⟨Zr (qld xs lo hi) hz,_,(r.drop (HT.sIx xs.length 0 lo)).take (HT.sIx xs.length xs.length hi-HT.sIx xs.length 0 lo),Qla _ _⟩
def zapr (K:Qe):R2:=fun x y H Q => ∃ a b xs ys,x = .ref a/\y = .ref b/\SqT K H a xs/\SqT K H b ys/\xs≠[]/\xs.length+ys.length<=Q9 /\
 (ys=[]->Q (.ref a) H)/\(ys≠[] -> ∀ p,H p=none->Q (.ref p) (upd H p (.tup (xs++ys))))
def Vals.nil_iff {xs:List V}{us:List Value} (r:Vals xs us):us=[]↔xs=[]:=by
 cases r with
 | nil=>simp
 | cons _ _=>simp
def zaht:OpR X (Vw .Add) (zapr X.K):=by
 intro pins s σ H x y v u Q I rx ry h;obtain ⟨a,b,xs,ys,rfl,rfl,ha,hb,hx,hz,q1,q2⟩:=h;cases rx;cases ry;obtain ⟨its,r1,p1,_⟩:=I.tuple ha;obtain ⟨its2,r2,p2,_⟩:=I.tuple hb;refine HT.cat_tup p1 p2 (fun z=>hx (r1.nil_iff.mp z)) (fun z=>⟨.ref a,H,I,rfl,q1 (r2.nil_iff.mp z)⟩) (fun z=>?_) (by rw [<- r1.length,<- r2.length];exact hz);refine ⟨.ref s.heap.objs.size,_,I.laid (t':=s.toks) (o :=.tup (xs++ys)) (fun b ob q=>Qf _ q) (Qz _) ?_,rfl,q2 (fun w=>z (r2.nil_iff.mpr w)) _ (I.hok.fresh (Qz _))⟩;exact ⟨by rw [Z4];exact hz,_,r1.append r2,Qla _ _⟩
end
end
section
def ixN (n:Nat) (i:Int):Option Nat:=if 0<=i then (if i<n then some i.toNat else none) else if -(n:Int)<=i then some (i+n).toNat else none
def atI {α:Type} (xs:List α) (i:Int):Option α:=(ixN xs.length i).bind fun j=>xs[j]?
def zaac {n:Nat}{i:Int}{j:Nat} (h:ixN n i=some j):seqIndex? i n=some j/\j<n /\ -(n:Int)<=i/\i<n:=by
 unfold ixN at h;by_cases h0:0<=i
 ·rw [if_pos h0] at h;by_cases h1:i<n
  ·rw [if_pos h1] at h;have e:i.toNat=j:=Qx h;exact ⟨by rw [Qlt h0 h1,e],by omega,by omega,h1⟩
  ·rw [if_neg h1] at h;cases h
 ·rw [if_neg h0] at h;by_cases h1 : -(n:Int)<=i
  ·rw [if_pos h1] at h;have e:(i+n).toNat=j:=Qx h;exact ⟨by rw [Qkh (by omega) h1,e],by omega,h1,by omega⟩
  ·rw [if_neg h1] at h;cases h
def qry {α:Type}{xs:List α}{i:Int}{v:α} (h:atI xs i=some v) : ∃ j,seqIndex? i xs.length=some j/\xs[j]?=some v/\j<xs.length /\ -(xs.length:Int)<=i/\i<xs.length:=by
 unfold atI at h;cases e:ixN xs.length i with
 | none=>rw [e] at h;cases h
 | some j =>
  rw [e] at h;obtain ⟨h1,h2,h3,h4⟩:=zaac e;exact ⟨j,h1,h,h2,h3,h4⟩
def qdv {α:Type}{xs:List α}{j:Nat}{v:α} (h:xs[j]?=some v):atI xs (j:Int)=some v:=by
 have hj:j<xs.length:=(Qg.mp h).1;have e:ixN xs.length (j:Int)=some j:=by
  unfold ixN;rw [if_pos (by omega),if_pos (by omega)];simp
 unfold atI;rw [e];exact h
def qsf (b:Expr):Prop := ∀ o i,subscripted b false o i=operate [o,i] (Qka o i)
def IxR (X:Cx) (r:R2):Prop :=
 ∀ (value slice:Expr) (pins:List (Addr×Obj)) (s:Ql) (σ:St) (H:Hp) (x y:V) (v u:Value) (Q:VK),Inv X pins σ H s->RelV x v->RelV y u->r x y H Q ->
  subscripted slice false v u=operate [v,u] (Qka v u)->wpAny (model X.prog X.w) X.A (subscriptTail value slice v u) (EP X pins σ Q) X.xe s
def MtR (X:Cx) (id:String) (r:V->List V->Hp->VK->Prop):Prop :=
 ∀ (pins:List (Addr×Obj)) (s:Ql) (σ:St) (H:Hp) (x:V) (xs:List V) (v:Value) (us:List Value) (Q:VK),Inv X pins σ H s->RelV x v->Vals xs us->r x xs H Q ->
  wpAny (model X.prog X.w) X.A (call (.builtin id) (v::us)) (EP X pins σ Q) X.xe s
section
variable {X:Cx}{a b:Expr}{ta tb:TE}{pos:Pos}
def IxR.or {r r':R2} (h:IxR X r) (h':IxR X r'):IxR X (fun x y H Q=>r x y H Q\/r' x y H Q):=by
 intro value slice pins s σ H x y v u Q I rx ry q hs;rcases q with q|q
 ·exact h value slice pins s σ H x y v u Q I rx ry q hs
 ·exact h' value slice pins s σ H x y v u Q I rx ry q hs
def zala {r:R2} (hr:IxR X r) (ha:PE X a ta) (hb:PE X b tb) (hs:qsf b):PE X (.Subscript a b pos) (tOp r ta tb):=by
 intro pins s σ H Q I h;exact Subscript_ (binT ha hb I h fun v u s2 x y H2 I2 rx ry q=>hr a b pins s2 σ H2 x y v u Q I2 rx ry q (hs _ _))
def rIxL (K:Qe):R2:=fun x y H Q => ∃ p xs i v,x = .ref p/\y = .int i/\SqL K H p xs/\atI xs i=some v/\Q v H
def rIxT (K:Qe):R2:=fun x y H Q => ∃ p xs i v,x = .ref p/\y = .int i/\SqT K H p xs/\atI xs i=some v/\Q v H
def rIxS:R2:=fun x y H Q => ∃ z i c,x = .str z/\y = .int i/\z.length<=Q9/\atI z.cps.toList i=some c/\Q (.str ⟨#[c]⟩) H
def qyi:IxR X (rIxL X.K):=by
 intro value slice pins s σ H x y v u Q I rx ry h hs;obtain ⟨p,xs,i,z,rfl,rfl,hq,he,q⟩:=h;cases rx;obtain ⟨t,rfl⟩:=ry;obtain ⟨its,r,pl,hz⟩:=I.list hq;obtain ⟨j,h1,h2,h3,h4,h5⟩:=qry he;obtain ⟨w,ew,rw'⟩:=r.get h2;have hl:=r.length;have hn:=qmc;have fin:EP X pins σ Q w s:=⟨z,H,I,rw',q⟩
 by_cases h0:0<=i
 ·have hj:i.toNat=j:=by
   rw [Qlt h0 h5] at h1;exact Qx h1
  exact item_listR pl.isList h0 (by omega) (by rw [hj];simpa using ew) fin hs
 ·have hj:(i+(its.toArray.size:Int)).toNat=j:=by
   rw [Qkh (by omega) h4] at h1;rw [Qr,<- hl];exact Qx h1
  exact Qgr (x:=w) pl.isList.typeIs slot_list_getitem.lookup
   (wpAny_getItem_list_neg (Q:=fun r s'=>r=w/\EP X pins σ Q r s') pl.isList (by omega) (by rw [Qr] <;> omega) (by omega) (by rw [hj];simpa using ew) ⟨rfl,fin⟩) hs
def zalo:IxR X (rIxT X.K):=by
 intro value slice pins s σ H x y v u Q I rx ry h hs;obtain ⟨p,xs,i,z,rfl,rfl,hq,he,q⟩:=h;cases rx;obtain ⟨t,rfl⟩:=ry;obtain ⟨its,r,pl,hz⟩:=I.tuple hq;obtain ⟨j,h1,h2,h3,h4,h5⟩:=qry he;obtain ⟨w,ew,rw'⟩:=r.get h2;have hl:=r.length;have hn:=qmc;have fin:EP X pins σ Q w s:=⟨z,H,I,rw',q⟩
 exact Qgr (x:=w) pl.typeIs slot_tuple_getitem.lookup
  (getItem_tuple (j:=j) (Q:=fun r s'=>r=w/\EP X pins σ Q r s') pl (by omega) (by omega) (by rw [Qr,<- hl];exact h1) (by simpa using ew) ⟨rfl,fin⟩) hs
def zamh:IxR X rIxS:=by
 intro value slice pins s σ H x y v u Q I rx ry h hs;obtain ⟨z,i,c,rfl,rfl,hz,he,q⟩:=h;obtain ⟨t,rfl⟩:=rx;obtain ⟨t',rfl⟩:=ry;obtain ⟨j,h1,h2,h3,h4,h5⟩:=qry he;have hl:z.cps.toList.length=z.length:=by simp [Str.length]
 rw [hl] at h1 h4 h5;have hn:=qmc;exact tail_any (typeIs_str s z t) slot_str_getitem.lookup (getItem_str (c:=c) (by
  have e1:decide (i < -(2^63:Int))=false:=decide_eq_false (by omega);have e2:decide (i>=2^63)=false:=decide_eq_false (by omega);rw [e1,e2,Qme]) (by rw [h1];simpa using h2) ⟨.str ⟨#[c]⟩,H,I.tok _,⟨_,rfl⟩,q⟩) hs
def rIx (K:Qe):R2:=fun x y H Q=>rIxL K x y H Q\/rIxT K x y H Q\/rIxS x y H Q
def zaly:IxR X (rIx X.K):=qyi.or (zalo.or zamh)
def qvx (its:List Value) (n j:Nat) (u:Value):Zx (·.setIfInBounds j u) { cls :=.type "list",data :=.seq its.toArray n }={ cls :=.type "list",data :=.seq (its.set j u).toArray n }:=by
 simp [Zx]
def Inv.lst {pins:List (Addr×Obj)}{σ:St}{H:Hp}{s:Ql}{p:Addr}{xs:List V} (I:Inv X pins σ H s) (h:H p=some (.lst xs)) :
 ∃ (its:List Value) (n:Nat),Vals xs its/\s.heap.get? p=some { cls :=.type "list",data :=.seq its.toArray n }/\xs.length<=Q9:=by
  obtain ⟨z,its,n,r,e⟩:=I.hok p _ h;exact ⟨its,n,r,e,z⟩
def Inv.lstUpd {pins:List (Addr×Obj)}{σ:St}{H:Hp}{s:Ql}{p:Addr}{xs ys:List V}{its its':List Value}{n n':Nat}{f:Obj->Obj} (I:Inv X pins σ H s) (h:H p=some (.lst xs))
 (ho:s.heap.get? p=some { cls :=.type "list",data :=.seq its.toArray n }) (hf:f { cls :=.type "list",data :=.seq its.toArray n }={ cls :=.type "list",data :=.seq its'.toArray n' }) (r:Vals ys its') (hz:ys.length<=Q9) (t:Nat) :
  Inv X pins σ (upd H p (.lst ys)) { s with heap:=s.heap.update p f,toks:=t }:=by
  have e:(s.heap.update p f).get? p=some { cls :=.type "list",data :=.seq its'.toArray n' }:=by
   rw [Vn f ho (by rw [hf] <;> rfl),hf]
  refine I.write (x:=p) (e:=p) (by rw [h];trivial) (.inl rfl) (fun b u hb q=>(Vh _ _ (Yb hb)).trans q) ⟨_,e⟩ ?_;exact ⟨hz,its',n',r,e⟩
def zaqd:V->V->V->Hp->(Hp->Prop)->Prop:=fun o i v H Q => ∃ p xs k j,o = .ref p/\i = .int k/\H p=some (.lst xs)/\ixN xs.length k=some j/\Q (upd H p (.lst (xs.set j v)))
def zaei:PSet X zaqd:=by
 intro pins s σ H o i v ov iv u Q I ro ri rv h;obtain ⟨p,xs,k,j,rfl,rfl,hp,hj,q⟩:=h;cases ro;obtain ⟨t,rfl⟩:=ri;obtain ⟨its,n,r,ho,hz⟩:=I.lst hp;obtain ⟨h1,h2,h3,h4⟩:=zaac hj;have hl:=r.length;have hn:=qmc;have I':Inv X pins σ (upd H p (.lst (xs.set j v))) { s with heap:=s.heap.update p (Zx (·.setIfInBounds j u)) } :=
  I.lstUpd hp ho (qvx its n j u) (r.set rv j) (by rw [Yc];exact hz) s.toks
 by_cases h0:0<=k
 ·have hk:k.toNat=j:=by
   rw [Qlt h0 h4] at h1;exact Qx h1
  exact PySem.W.ki_setAt ho h0 (by omega) (by rw [Qr,<- hl];exact h4) (by rw [hk];exact ⟨_,I',q⟩)
 ·have hk:(k+(its.toArray.size:Int)).toNat=j:=by
   rw [Qkh (by omega) h3] at h1;rw [Qr,<- hl];exact Qx h1
  exact PySem.W.ki_setBack ho (by omega) (by rw [Qr,<- hl];exact h3) (by omega) (by rw [hk];exact ⟨_,I',q⟩)
def qri (lo hi:Option Int) (n:Nat):(Qdj lo hi none n).1=((HT.sIx n 0 lo:Nat):Int)/\(Qdj lo hi none n).2.1=((HT.sIx n n hi:Nat):Int)/\(Qdj lo hi none n).2.2=1:=by
 refine ⟨?_,?_,rfl⟩
 ·cases lo with
  | none=>simp [Qdj,HT.sIx]
  | some i =>
   simp only [Qdj,HT.sIx,Qki,show (1:Int)>0 by decide,if_true];by_cases h:i<0
   ·simp only [h,if_true] <;> omega
   ·simp only [h,if_false] <;> omega
 ·cases hi with
  | none=>simp [Qdj,HT.sIx]
  | some i =>
   simp only [Qdj,HT.sIx,Qki,show (1:Int)>0 by decide,if_true];by_cases h:i<0
   ·simp only [h,if_true] <;> omega
   ·simp only [h,if_false] <;> omega
def qpq (its:List Value) (lo hi:Option Int):slicePick its.toArray lo hi none=((its.drop (HT.sIx its.length 0 lo)).take (HT.sIx its.length its.length hi-HT.sIx its.length 0 lo)).toArray:=by
 obtain ⟨h1,h2,h3⟩:=qri lo hi its.toArray.size;unfold slicePick;rw [h1,h2,h3];simp only [sliceRange_one,pick_run,Qr] <;> rfl
def rSlL (K:Qe):V->Option Int->Option Int->Hp->VK->Prop:=fun x lo hi H Q => ∃ a xs,x = .ref a/\SqL K H a xs /\ ∀ p,H p=none->Q (.ref p) (upd H p (.lst (qpy xs lo hi)))
def zahx:SlR X (rSlL X.K):=by
 intro pins s σ H x v vl vu lo hi sl Q I rx hs pl pu h;obtain ⟨a,xs,rfl,hx,q⟩:=h;cases rx;obtain ⟨its,r,ht,hz⟩:=I.list hx;have hlen:=r.length;refine ⟨"list",_,slot_list_getitem.lookup,ht.isList.typeIs,?_⟩;refine wpAny_getItem_list_slice ht.isList hs pl pu .none (by simp) ?_ (by rw [Qr] <;> omega);rw [qpq,<- hlen];refine ⟨.ref s.heap.objs.size,_,I.laid (t':=s.toks) (o :=.lst (qpy xs lo hi)) (fun b ob q=>Qf _ q) (Qz _) ?_,rfl,q _ (I.hok.fresh (Qz _))⟩;exact ⟨Zr (qld xs lo hi) hz,_,0,(r.drop (HT.sIx xs.length 0 lo)).take (HT.sIx xs.length xs.length hi-HT.sIx xs.length 0 lo),Qy _ rfl⟩
def qlr:V->Bool
 | .non=>true
 | .bl _=>true
 | .int _=>true
 | .str _=>true
 | _=>false
def eqV:V->V->Bool
 | .non,.non=>true
 | .bl a,.bl b=>a==b
 | .bl a,.int b=>(if a then 1 else 0)==b
 | .int a,.bl b=>a==(if b then 1 else 0)
 | .int a,.int b=>a==b
 | .str a,.str b=>a==b
 | _,_=>false
def zams {A:Z2}{s:Ql}{y x:V}{u v:Value} (ry:RelV y u) (rx:RelV x v) (fy:qlr y=true) (fx:qlr x=true):Qlx A s u v (eqV y x):=by
 cases y with
 | non =>
  cases ry;cases x with
  | non=>cases rx;exact Qlx.same _
  | bl b=>cases rx;exact Qlx.none_bool b
  | int b=>obtain ⟨t,rfl⟩:=rx;exact Qlx.none_int b t
  | str b=>obtain ⟨t,rfl⟩:=rx;exact Qlx.none_str b t
  | _=>exact absurd (show false=true from fx) Zt
 | bl a =>
  cases ry;cases x with
  | non=>cases rx;exact Qlx.bool_none a
  | bl b=>cases rx;exact Qlx.bool_bool a b
  | int b=>obtain ⟨t,rfl⟩:=rx;exact Qlx.bool_int a b t
  | str b=>obtain ⟨t,rfl⟩:=rx;exact Qlx.bool_str a b t
  | _=>exact absurd (show false=true from fx) Zt
 | int a =>
  obtain ⟨t',rfl⟩:=ry;cases x with
  | non=>cases rx;exact Qlx.int_none a t'
  | bl b=>cases rx;exact Qlx.int_bool a t' b
  | int b=>obtain ⟨t,rfl⟩:=rx;exact Qir a t' b t
  | str b=>obtain ⟨t,rfl⟩:=rx;exact Qin a t' b t
  | _=>exact absurd (show false=true from fx) Zt
 | str a =>
  obtain ⟨t',rfl⟩:=ry;cases x with
  | non=>cases rx;exact Qlx.str_none a t'
  | bl b=>cases rx;exact Qlx.str_bool a t' b
  | int b=>obtain ⟨t,rfl⟩:=rx;exact Qio a t' b t
  | str b=>obtain ⟨t,rfl⟩:=rx;exact Qlx.str_str a t' b t
  | _=>exact absurd (show false=true from fx) Zt
 | _=>exact absurd (show false=true from fy) Zt
def eqU (x:V) (u:Value):Bool:=match u with
 | .none=>eqV .non x
 | .bool b=>eqV (.bl b) x
 | .int i _=>eqV (.int i) x
 | .str z _=>eqV (.str z) x
 | _=>false
def zago {x y:V}{u:Value} (r:RelV y u) (f:qlr y=true):eqU x u=eqV y x:=by
 cases y with
 | non=>cases r;rfl
 | bl b=>cases r;rfl
 | int i=>obtain ⟨t,rfl⟩:=r;rfl
 | str z=>obtain ⟨t,rfl⟩:=r;rfl
 | _=>exact absurd (show false=true from f) Zt
def qru {x:V} : ∀ {xs:List V}{us:List Value},Vals xs us->xs.all qlr=true->us.any (eqU x)=xs.any fun y=>eqV y x
 | _,_,.nil,_=>rfl
 | y::xs,u::us,.cons r t,f=>by
  rw [Qit,Ys] at f;rw [Qcl,Qcl,zago r f.1,qru t f.2]
def qom {A:Z2}{s:Ql}{x:V}{v:Value} (rx:RelV x v) (fx:qlr x=true) : ∀ {xs:List V}{us:List Value},Vals xs us->xs.all qlr=true -> ∀ u ∈ us,Qlx A s u v (eqU x u)
 | _,_,.nil,_=>fun u hu=>by cases hu
 | y::xs,u::us,.cons r t,f=>fun u' hu=>by
  rw [Qit,Ys] at f;rcases Q3.mp hu with rfl|hu
  ·rw [zago r f.1];exact zams r rx f.1 fx
  ·exact qom rx fx t f.2 u' hu
def inV (x:V) (xs:List V):Bool:=xs.any fun y=>eqV y x
def rIn (K:Qe) (neg:Bool):R2:=fun x y H Q => ∃ p xs,y = .ref p/\(SqL K H p xs\/SqT K H p xs)/\qlr x=true/\xs.all qlr=true/\Q (.bl (if neg then !inV x xs else inV x xs)) H
def zabu:OpR X (Yo .In) (rIn X.K false):=by
 intro pins s σ H x y v u Q I rx ry h;obtain ⟨p,xs,rfl,hq,fx,fs,q⟩:=h;cases ry;rcases hq with hq|hq
 ·obtain ⟨its,r,pl,hz⟩:=I.list hq;refine SeqAt.in_listAt (eqU x) pl.isList (fun w hw=>qom rx fx r fs w (by simpa using hw)) ⟨.bl _,H,I,rfl,?_⟩;rw [show its.toArray.any (eqU x)=its.any (eqU x) by simp,qru r fs];exact q
 ·obtain ⟨its,r,pl,hz⟩:=I.tuple hq;refine SeqAt.in_tupleAt (eqU x) pl (fun w hw=>qom rx fx r fs w (by simpa using hw)) ⟨.bl _,H,I,rfl,?_⟩;rw [show its.toArray.any (eqU x)=its.any (eqU x) by simp,qru r fs];exact q
def qre:CallR X (.builtin "len") (fun xs H Q => ∃ p ys,xs=[.ref p]/\(SqL X.K H p ys\/SqT X.K H p ys)/\Q (.int ys.length) H):=by
 intro pins s σ H xs us Q I r h;obtain ⟨p,ys,rfl,hq,q⟩:=h;obtain ⟨u,rfl,rx⟩:=qhp r;cases rx;have hn:=qmc;rcases hq with hq|hq
 ·obtain ⟨its,r',pl,hz⟩:=I.list hq;have hlen:=r'.length;exact Calls.call_len_list pl.isList (by simp only [Qr] <;> omega) ⟨.int ys.length,H,I.tok _,⟨s.toks+1,by rw [Qr,hlen]⟩,q⟩
 ·obtain ⟨its,r',pl,hz⟩:=I.tuple hq;have hlen:=r'.length;exact len_tuple pl (by simp only [Qr] <;> omega) ⟨.int ys.length,H,I.tok _,⟨s.toks+1,by rw [Qr,hlen]⟩,q⟩
def qrk:CallR X (.builtin "len") (fun xs H Q => ∃ z,xs=[.str z]/\z.length<=Q9/\Q (.int z.length) H):=by
 intro pins s σ H xs us Q I r h;obtain ⟨z,rfl,hz,q⟩:=h;obtain ⟨u,rfl,t,rfl⟩:=qhp r;have hn:=qmc;exact len_str (by omega) ⟨.int z.length,H,I.tok _,⟨_,rfl⟩,q⟩
def CallR.or {f:Value}{r r':List V->Hp->VK->Prop} (h:CallR X f r) (h':CallR X f r'):CallR X f (fun xs H Q=>r xs H Q\/r' xs H Q):=by
 intro pins s σ H xs us Q I rs q;rcases q with q|q
 ·exact h pins s σ H xs us Q I rs q
 ·exact h' pins s σ H xs us Q I rs q
def qrd:CallR X (.type "list") (fun xs H Q => ∃ p ys,xs=[.ref p]/\(SqL X.K H p ys\/SqT X.K H p ys) /\ ∀ l,H l=none->Q (.ref l) (upd H l (.lst ys))):=by
 intro pins s σ H xs us Q I r h;obtain ⟨p,ys,rfl,hq,q⟩:=h;obtain ⟨u,rfl,rx⟩:=qhp r;cases rx;have fin : ∀ (its:List Value),Vals ys its->ys.length<=Q9 -> ∀ (h':Heap) (c':Nat),(∀ b o',s.heap.get? b=some o'->h'.get? b=some o') ->
  h'.get? s.heap.objs.size=some { cls :=.type "list",dict:=none,data :=.seq its.toArray c',slots := #[] }->EP X pins σ Q (.ref s.heap.objs.size) { s with heap:=h' }:=fun its r' hz h' c' kp e =>
  ⟨.ref s.heap.objs.size,_,I.laid (t':=s.toks) kp (Qz _) (show ObjOk X.prog X.w _ h' _ (.lst ys) from ⟨hz,its,c',r',e⟩),rfl,q _ (I.hok.fresh (Qz _))⟩
 rcases hq with hq|hq
 ·obtain ⟨its,r',pl,hz⟩:=I.list hq;have hlen:=r'.length;obtain ⟨o,ho,hc,n,hd⟩:=pl.isList;exact call_list_seq p (.inl rfl) ho hc hd (fun h' c' kp e=>fin its r' hz h' c' kp e) (by simp only [Qr] <;> omega)
 ·obtain ⟨its,r',pl,hz⟩:=I.tuple hq;have hlen:=r'.length;obtain ⟨o,ho,hc,n,hd⟩:=pl;exact call_list_seq p (.inr rfl) ho hc hd (fun h' c' kp e=>fin its r' hz h' c' kp e) (by simp only [Qr] <;> omega)
def qhw:CallR X (.type "tuple") (fun xs H Q => ∃ p ys,xs=[.ref p]/\((SqL X.K H p ys /\ ∀ l,H l=none->Q (.ref l) (upd H l (.tup ys)))\/(SqT X.K H p ys/\Q (.ref p) H))):=by
 intro pins s σ H xs us Q I r h;obtain ⟨p,ys,rfl,h⟩:=h;obtain ⟨u,rfl,rx⟩:=qhp r;cases rx;rcases h with ⟨hq,q⟩|⟨hq,q⟩
 ·obtain ⟨its,r',pl,hz⟩:=I.list hq;have hlen:=r'.length;refine call_tuple_list pl.isList (fun h' kp=>?_) (by simp only [Qr] <;> omega);have I1:Inv X pins σ H { s with heap:=h' }:=I.kept (t':=s.toks) kp;have I2:Inv X pins σ (upd H h'.objs.size (.tup ys)) { s with heap:=h'.push { cls :=.type "tuple",data :=.seq its.toArray } } :=
   I1.laid (t':=s.toks) (fun b o e=>Qf _ e) (Qz _) (show ObjOk X.prog X.w _ _ _ (.tup ys) from ⟨hz,its,r',Qla _ _⟩)
  exact ⟨.ref h'.objs.size,_,I2,rfl,q _ (I1.hok.fresh (Qz _))⟩
 ·obtain ⟨its,r',pl,hz⟩:=I.tuple hq;exact call_tuple_same pl ⟨.ref p,H,I,rfl,q⟩
def tyV (K:Qe) (T:String) (x:V) (H:Hp):Prop:=match x with
 | .str _=>T = "str"
 | .int _=>T = "int"
 | .ref p=>(T = "list" /\ ∃ xs,SqL K H p xs)\/(T = "tuple" /\ ∃ o,K.lookup p=some o/\o.cls = .type "tuple" /\ o.dict=none) \/
  (T = "dict" /\ ((∃ kvs,H p=some (.dK kvs)) \/ ∃ kvs,H p=some (.dT kvs)))\/(T = "set" /\ ∃ S n,H p=some (.set S n))
 | _=>False
def zamm {pins:List (Addr×Obj)}{σ:St}{H:Hp}{s:Ql}{T:String}{x:V}{v:Value} (I:Inv X pins σ H s) (r:RelV x v) (ty:tyV X.K T x H) :
 s.TypeIs v T /\ ∀ a,v = .ref a -> ∃ ob,s.heap.get? a=some ob/\ob.dict=none:=by
  cases x with
  | str z =>
   obtain ⟨t,rfl⟩:=r;cases (show T = "str" from ty);exact ⟨typeIs_str s z t,fun _ e=>nomatch e⟩
  | int i =>
   obtain ⟨t,rfl⟩:=r;cases (show T = "int" from ty);exact ⟨typeIs_int s i t,fun _ e=>nomatch e⟩
  | ref p =>
   cases r;rcases ty with ⟨rfl,xs,hq⟩|⟨rfl,o,hk,hc,hd⟩|⟨rfl,hk⟩|⟨rfl,S,n,hk⟩
   ·obtain ⟨its,_,pl,_⟩:=I.list hq;refine ⟨pl.isList.typeIs,fun a e=>?_⟩;cases e;obtain ⟨o,n,e,c,hd,_⟩:=pl;exact ⟨o,e,hd⟩
   ·refine ⟨⟨o,I.kIn p o hk,hc⟩,fun a e=>?_⟩;cases e;exact ⟨o,I.kIn _ o hk,hd⟩
   ·have z : ∃ o,s.heap.get? p=some o/\o.ExactDict:=by
     rcases hk with ⟨kvs,hk⟩|⟨kvs,hk⟩
     ·obtain ⟨_,_,_,_,o,_,_,e,ex,_⟩:=I.hok p _ hk;exact ⟨o,e,ex⟩
     ·obtain ⟨_,_,_,_,o,_,_,e,ex,_⟩:=I.hok p _ hk;exact ⟨o,e,ex⟩
    obtain ⟨o,e,ex⟩:=z;refine ⟨⟨o,e,ex.1⟩,fun a e2=>?_⟩;cases e2;exact ⟨o,e,ex.2.1⟩
   ·obtain ⟨o,_,_,_,e,ex,_⟩:=I.hok p _ hk;refine ⟨⟨o,e,ex.1⟩,fun a e2=>?_⟩;cases e2;exact ⟨o,e,ex.2.1⟩
  | _=>exact Zh ty
def tBM (K:Qe) (T:String) (r:V->List V->Hp->VK->Prop) (to:TE) (t:TA):TE:=fun σ H Q=>to σ H fun x H1=>tyV K T x H1/\t σ H1 fun xs H2=>r x xs H2 Q
variable {o e:Expr}{es:List Expr}{to:TE}{t:TA}{name:Str}{apos cpos:Pos}{T id:String}{r:V->List V->Hp->VK->Prop}
def zakr (pa:PlainAttrs T) (slot:Slot T name id) (hty:typeOf (.builtin id)=pure (.type "method_descriptor")) (hm:MtR X id r) (ho:PE X o to) (ha:PA X (e::es) t)
 (hbase:Qcr o name X.env (eval o X.env)=eval o X.env:=by rfl)
  (hfew:((V8 cpos (Qu (e::es) X.env)).all (fun x => !x.1)&&(Qjk cpos (Qep [] X.env)).all (fun x=>x.1.isSome)
   && decide ((e::es).length+([]:List Qdu).length+(if ([]:List Qdu).isEmpty then 0 else 1)<30))=true:=by rfl)
  (hline:(apos.endLine==cpos.line)=true:=by rfl) (hs:Qu (e::es) X.env=(false,eval e X.env)::Qu es X.env:=by rfl) (hplain:(V8 cpos (Qu es X.env)).any (·.1)=false:=by rfl) :
  PE X (.Call (.Attribute o name apos) (e::es) [] cpos) (tBM X.K T r to t):=by
  intro pins s σ H Q I h;refine wpAny_Call_method_late hbase hfew hline rfl (thn (ho pins s σ H _ I h) fun v s1 xx53=>?_);obtain ⟨x,H1,I1,r1,ty,q1⟩:=xx53;obtain ⟨h1,h2⟩:=zamm I1 r1 ty;refine ⟨T,id,pa,slot,hty,h1,h2,?_⟩;have hA:=ha cpos pins s1 σ H1 _ I1 q1;rw [hs] at hA ⊢;refine Qar (by show (false||(V8 cpos (Qu es X.env)).any (·.1))=false;rw [hplain] <;> rfl) (Qbk ?_);exact thn hA fun us s2 xx52=>by obtain ⟨vs,H2,I2,r2,q2⟩:=xx52;exact hm pins s2 σ H2 x vs v us Q I2 r1 r2 q2
/- xs.append(e),list.index on a module's tuple .. are MtR facts of 06m -/
end
end
section
def MtM (X:Cx) (id:String) (r:V->List V->Hp->VK->Prop):Prop :=
 ∀ (pins:List (Addr×Obj)) (s:Ql) (σ:St) (H:Hp) (x:V) (xs:List V) (v:Value) (us:List Value) (Q:VK),Inv X pins σ H s->RelV x v->Vals xs us->r x xs H Q ->
  wpAny (model X.prog X.w) X.A (call (.builtin id) (v::us)) (EP X pins σ Q) X.xe s
def Vals.one : ∀ {x:V}{us:List Value},Vals [x] us -> ∃ u,us=[u]/\RelV x u
 | _,_,.cons r .nil=>⟨_,rfl,r⟩
def Vals.two : ∀ {x y:V}{us:List Value},Vals [x,y] us -> ∃ u v,us=[u,v]/\RelV x u/\RelV y v
 | _,_,_,.cons r (.cons q .nil)=>⟨_,_,rfl,r,q⟩
def Vals.rep {xs:List V}{us:List Value} (h:Vals xs us) : ∀ k:Nat,Vals (Q4 k xs).flatten (Q4 k us).flatten
 | 0 => .nil
 | k+1=>by
  rw [Y7,Y7,J7,J7];exact Vals.append h (Vals.rep h k)
def qqr (its:List Value) : ∀ (k:Nat) (acc:List Value),
 Qly (fun x1 x2=>x1++x2) acc.toArray (Q4 k its.toArray)=(acc++(Q4 k its).flatten).toArray
  | 0,acc=>by simp
  | k+1,acc=>by
   have e:acc.toArray++its.toArray=(acc++its).toArray:=by simp
   have e2:(acc++its)++(Q4 k its).flatten=acc++(Q4 (k+1) its).flatten:=by
    rw [Y7,J7,Qfn]
   rw [<- e2,<- qqr its k (acc++its),<- e,Y7,List.foldl_cons]
section
variable {X:Cx}{pins:List (Addr×Obj)}{σ:St}{H:Hp}{s:Ql}{l b:Addr}{xs ys zs:List V}
def Inv.lset {its its':List Value}{n:Nat}{f:Array Value->Array Value}{t':Nat} (I:Inv X pins σ H s) (hH:H l=some (.lst xs))
 (e:s.heap.get? l=some { cls :=.type "list",data :=.seq its.toArray n }) (hf:f its.toArray=its'.toArray) (hv:Vals ys its') (hz:ys.length<=Q9) :
  Inv X pins σ (upd H l (.lst ys)) { s with heap:=s.heap.update l (Zx f),toks:=t' }:=by
  have q:=Qkj e f;rw [hf] at q;refine I.write (x:=l) (e:=l) (by rw [hH];exact trivial) (.inl rfl) (fun b' u hb hu=>(Vh s.heap (Zx f) (Yb hb)).trans hu) ⟨_,q⟩ ?_;exact ⟨hz,its',_,hv,q⟩
def Inv.lnew {its:List Value}{t':Nat} (I:Inv X pins σ H s) (hv:Vals ys its) (hz:ys.length<=Q9) :
 Inv X pins σ (upd H s.heap.objs.size (.lst ys)) { s with heap:=s.heap.push { cls :=.type "list",data :=.seq its.toArray },toks:=t' } :=
  I.laid (fun _ _ q=>Qf _ q) (Qz _) ⟨hz,its,0,hv,Qy _ rfl⟩
def Inv.fresh (I:Inv X pins σ H s):H s.heap.objs.size=none:=I.hok.fresh (Qz _)
def Inv.lstM (I:Inv X pins σ H s) (hH:H l=some (.lst xs)):xs.length<=Q9 /\ ∃ (its:List Value) (n:Nat),Vals xs its/\xs.length=its.length/\s.heap.get? l=some { cls :=.type "list",data :=.seq its.toArray n }:=by
 obtain ⟨z,its,n,r,e⟩:=I.hok l _ hH;exact ⟨z,its,n,r,r.length,e⟩
def zadb {n:Nat} (h:n<=Q9):Qcc n=false:=by
 unfold Qcc;exact decide_eq_false (by omega)
end
section
variable {X:Cx}
def qse:V->List V->Hp->VK->Prop:=fun x vs H Q => ∃ l xs y,x = .ref l/\vs=[y]/\H l=some (.lst xs)/\xs.length<Q9/\Q .non (upd H l (.lst (xs++[y])))
def zaaw:MtM X "list.append" qse:=by
 intro pins s σ H x vs v us Q I rx rv h;obtain ⟨l,xs,y,rfl,rfl,hH,hz,q⟩:=h;cases rx;obtain ⟨u,rfl,ru⟩:=rv.one;obtain ⟨z,its,n,r,hl,e⟩:=I.lstM hH;refine Qfs F.slot_list_append ⟨_,e,rfl⟩ F.entry_list_append (F.args_list_append_2 _ _) (Qjp l its.toArray n u (by rw [Qr];omega)) ⟨e,?_⟩;refine ⟨.non,_,I.lset (its':=its++[u]) hH e (by simp) (r.append (.cons ru .nil)) ?_,rfl,q⟩;rw [Z4,List.length_singleton];omega
def rRep:R2:=fun x y H Q => ∃ l k xs,x = .ref l/\y = .int k/\H l=some (.lst xs) /\ -(2^63)<=k/\k<2^63/\xs.length*k.toNat<=Q9 /\
 ∀ p,H p=none->Q (.ref p) (upd H p (.lst (Q4 k.toNat xs).flatten))
def zaiz {α:Type} (xs:List α) (k:Nat):(Q4 k xs).flatten.length=k*xs.length:=by
 induction k with
 | zero=>simp
 | succ k ih=>rw [Y7,J7,Z4,ih,Nat.succ_mul,Nat.add_comm]
def zanp:OpR X (Vw .Mult) rRep:=by
 intro pins s σ H x y v u Q I rx ry h;obtain ⟨l,k,xs,rfl,rfl,hH,h1,h2,hz,q⟩:=h;cases rx;obtain ⟨t,rfl⟩:=ry;obtain ⟨z,its,n,r,hl,e⟩:=I.lstM hH;have hlen:its.toArray.size*k.toNat<=Q9:=by rw [Qr,<- hl];exact hz
 have hcap : ¬ its.toArray.size*k.toNat>(2^63-1)/8:=by
  have:(Q9:Nat)<=(2^63-1)/8:=by decide
  omega
 have hfit : ¬ (!Builtin.List.listFitsIndex k)=true:=by
  rw [fitsIndex_both h1 h2];exact Zt
 have hlong : ¬ Qcc (its.toArray.size*k.toNat)=true:=by
  rw [zadb hlen];exact Zt
 have hnew:Qly (fun x1 x2=>x1++x2) #[] (Q4 (if its.toArray.isEmpty=true then 0 else k.toNat) its.toArray)=(Q4 k.toNat its).flatten.toArray:=by
  have f0 : ∀ m:Nat,Qly (fun x1 x2=>x1++x2) #[] (Q4 m its.toArray)=(Q4 m its).flatten.toArray:=fun m=>by
   have:=qqr its m [];rw [List.nil_append] at this;exact this
  rw [f0];cases its with
  | nil=>simp
  | cons a r'=>rw [if_neg (by simp)]
 refine wpAny_binaryOp_repeat_ref (T := "list") (U := "int") (by decide) ⟨_,e,rfl⟩ (fun s'=>typeIs_int s' k t) noFill_list_mul F.fills_int_mul Qld repeat_list F.slot_int_index.lookup
  (Qfs Qld (typeIs_int s k t) F.entry_int_rmul (F.args_int_rmul_2 _ _) (int___rmul___int_list k t l its.toArray n)
   ⟨e,rfl,⟨_,e,rfl⟩,Qfs F.slot_list_mul ⟨_,e,rfl⟩ F.entry_list_mul (F.args_list_mul_2 _ _) (AutoListH.list___mul___list_int_3 l its.toArray n k t hfit hcap hlong) ⟨e,?_⟩⟩)
 rw [hnew];exact ⟨.ref _,_,I.lnew (t':=s.toks) (r.rep k.toNat) (by rw [zaiz,Qkc];exact hz),rfl,q _ I.fresh⟩
end
section
variable {prog:Zo}{w:World}{A:Z2}{E:Value->Ql->Prop}{s:Ql}
set_option maxRecDepth 100000 in
end
section
variable {X:Cx}
end
end
end L2
namespace Att
open PySem PySem.W PySem.Calls PyProof.Rows
def qly {P:Jh}{h:Heap} : ∀ (ns:List Int) (vs:List Value),WellAll P h vs (ns.map WData.int)->Qbl vs ns:=by
 intro ns
 induction ns with
 | nil =>
  intro vs w;rw [Qaf] at w;cases w;exact .nil
 | cons n ns ih =>
  intro vs w;rw [Q7] at w;cases w with
  | cons a b =>
   cases a;exact .cons _ _ (ih _ b)
def zabk {l:OpenLaw}{n:Nat} (hn:l.most=some n) {P:Jh}{h:Heap}{args:List WData}{vals:List Value}
 (hpre:l.row.toRowW.claim.pre args=true) (hwl:WellAll P h vals args) :
 ∃ a vs ns,vals=[Z3 a]/\args=[WData.list (ns.map WData.int)]/\h.get? a=some { cls :=.type "list",data :=.seq vs.toArray }/\Qbl vs ns/\ns.length<=n:=by
  have hsh:WShape.hasAll [] args [.list .int]=true:=(pre_splitW hpre).1;have hc:l.pre.holds [] { args:=args }=true:=(pre_splitW hpre).2;obtain ⟨d,r,rfl,h1,h2⟩:=hasAllW_cons hsh;obtain rfl:=hasAllW_nil h2;obtain ⟨xs,rfl,h3⟩:=hasW_list h1;obtain ⟨ns,rfl⟩:=items_int h3;have hlen:ns.length<=n:=by
   unfold OpenLaw.pre at hc;have h4:(WTm.not (.lt (.lit (.int (n:Int))) (.len (.arg 0)))).holds [] { args:=[.list (ns.map .int)] }=true:=by
    have h4:=(holds_andW hc).1;rw [hn] at h4;exact h4
   have h5:=condW_of h4 (w_not (w_lt w_lit (w_len_list (w_arg rfl))));rw [Qk] at h5;refine Nat.le_of_not_lt fun q=>?_;have q':(n:Int)<((ns.length:Nat):Int):=by omega
   first
    | (rw [decide_eq_true q'] at h5;exact absurd h5 (by decide))
    | (simp at h5;omega)
  cases hwl with
  | cons w1 w2 =>
   cases w2;cases w1 with
   | list ho hall=>exact ⟨_,_,ns,rfl,rfl,ho,qly ns _ hall,hlen⟩
def zabe (l:OpenLaw) (args:List WData):l.row.toRowW.claim.post args (.bool true) args=true :=
 postW_of (r:=l.row.toRowW) (X:=(true==true))
  (show Qmy [] (.bool true) .bool=true by first|rfl|decide|simp [Qmy,WShape.arms,WShape.armsAll])
  (show (WTm.eq .res (.lit (.bool true))).value [] { args:=args,res:=some (.bool true),after:=args }=some (.bool (true==true)) from w_eq_bool (w_res rfl) w_lit) rfl
def attach_call {l:OpenLaw}{n:Nat}{q:Zo}{loose:List Str}{XP:(Str->Option Value)->Heap->Prop}{YP:World->Heap->Prop}{d:DefRec}
 (hn:l.most=some n) (hdf:d.params.defaults=[])
 (call : ∀ (w:World) (s₀ s₁:Ql) (mg mb:Str->Option Value) (fa:Addr) (o:Obj) (pm cd doc:Value) (a:Addr) (vs:List Value) (ns:List Int),
 Ground q loose [] XP w s₀ mg mb s₁.heap->YP w s₁.heap ->
 s₁.heap.get? fa=some o->o.data = .func (docDef d.name d.params d.body d.scope pm cd doc)->s₁.heap.CodeRec cd d.name->mg d.name=some (.ref fa) ->
 s₁.heap.get? a=some { cls :=.type "list",data :=.seq vs.toArray }->Qbl vs ns->ns.length<=n->s₁.gens = #[] ->
  Qdv (model l.prog w) Qij (.call (.ref fa) ⟨[.ref a],[]⟩) (fun r s'=>r = .ok (.ret (.bool true))/\OldK s₁.heap s'.heap/\s'.os=s₁.os/\Qfi s'.gens) s₁) :
  WalkO q loose XP YP l.row.toRowW d [] (fun f vs=>Qlz f vs):=by
  intro w s₀ s₁ mg mb G Y fa o pm cd doc dV kV ho hd hcd hD hmg hg args vals as hpre hlay hrd hwl hlo;obtain rfl:dV = .none:=Dflts.none hD hdf;obtain rfl:kV = .none:=Dflts.noKw hD;obtain ⟨a,vs,ns,rfl,rfl,hobj,hints,hlen⟩:=zabk hn hpre hwl;refine enter_call (Qfc (call w s₀ s₁ mg mb fa o pm cd doc a vs ns G Y ho (fd_plain hd) hcd hmg hobj hints hlen hg) fun r s' hq=>?_);obtain ⟨rfl,h2,h3,h4⟩:=hq;exact ⟨.inl ⟨.bool true,.bool true,[],rfl,fun _=>rfl,.bool true,zabe l _,fun _=>⟨Qmz,fun _ hm=>(nomatch hm)⟩⟩,h2,h3,h4⟩
section
variable {prog:Zo}{w:World}{A:Z2}{E:Value->Ql->Prop}{s:Ql}{K:Frag}
end
end Att
namespace L2
open PySem PySem.Spec PyProof.Rows
section
def qkn : ∀ {vs:List Value}{ns:List Int},Qbl vs ns->Vals (ns.map V.int) vs
 | _,_,.nil => .nil
 | _,_,.cons n t h => .cons ⟨t,rfl⟩ (qkn h)
end
section
end
section
def defArgs (s:Stmt):Qen:=match s with
 | .FunctionDef _ a _ _ _ _ _ _ _ _=>a
 | _=>{ posonlyargs:=[],args:=[],vararg:=none,kwonlyargs:=[],kw_defaults:=[],kwarg:=none,defaults:=[] }
def defBody (s:Stmt):List Stmt:=match s with
 | .FunctionDef _ _ b _ _ _ _ _ _ _=>b
 | _=>[]
def defScope (s:Stmt):Scope:=match s with
 | .FunctionDef _ _ _ _ _ _ sc _ _ _=>sc
 | _=>{ kind :=.function,names:=[],isGenerator:=false,isCoroutine:=false }
abbrev CX0:CXT:=fun _ _ _ _ _ _=>False
abbrev E0:XK:=fun _ _ _=>False
def zaqr {X:Cx}:qxt CX0 X E0:=fun _ _ _ _ _ _ _ h=>h.elim
structure Fun (K:Qe) (x qual:Str) (st:Stmt) (f:Addr) (fd:Jo):Prop where
 ex : ∃ (oc:Value) (od:Option Addr) (kV doc pm:Value) (an:Option Addr) (cdv ct:Value) (osl:Array (Option Value)),
  fd=Vm x qual (defArgs st) (defBody st) (defScope st) .none kV doc pm an cdv ct/\K.lookup f=some ⟨oc,od,.func fd,osl⟩/\Qao K cdv qual=true
 kp:Je K (.ref f)=true
section
variable {P:Zo}{w:World}{K:Qe}{mg:Str->Option Value}{base:Heap}
def Fun.ok {x qual:Str}{st:Stmt}{f:Addr}{fd:Jo}{N ps:List Str}{k:Nat}{sp:Sp} (F:Fun K x qual st f fd) (S:FnScope N ps (defScope st)) (len : ∀ vs H Q E,sp vs H Q E->vs.length=ps.length)
 (hbody : ∀ (cdv:Value) (A:Z2) (outer:List Env) (s:Ql) (H:Hp) (vs:List V) (Q:VK) (E:XK),Room k (A.deeper (Qch qual (defScope st) s.heap.objs.size f cdv))->sp vs H Q E ->
 ∃ t,PSs (qdn CX0 P w K mg base N qual (defScope st) f cdv A outer s H E).nox (defBody st) t/\t { nx:=fun _ H'=>Q .non H',rt:=Q } (start N vs) H):FnOk P w K mg base CX0 (k+1) f fd ps sp:=by
  obtain ⟨oc,od,kV,doc,pm,an,cdv,ct,osl,rfl,lk,hcd⟩:=F.ex;refine zacb lk hcd S len fun A outer s H vs Q E hr hsp=>?_;obtain ⟨t,h,q⟩:=hbody cdv A outer s H vs Q E hr hsp;exact ⟨t,h.nox,q⟩
def Fun.binds {x qual:Str}{st:Stmt}{f:Addr}{fd:Jo}{ps:List Str} (F:Fun K x qual st f fd)
 (h : ∀ (kV doc pm:Value) (an:Option Addr) (cdv ct:Value) (us:List Value),us.length=ps.length->Qhs (Vm x qual (defArgs st) (defBody st) (defScope st) .none kV doc pm an cdv ct) ⟨us,[]⟩=pure (ps.zip us)):Binds K fd ps []:=by
  obtain ⟨oc,od,kV,doc,pm,an,cdv,ct,osl,rfl,lk,hcd⟩:=F.ex;exact .all (h kV doc pm an cdv ct)
def qxm {x qual:Str}{st:Stmt}{f:Addr}{oc:Value}{od an:Option Addr}{osl:Array (Option Value)}{kV doc pm cdv ct:Value} (l:K.lookup f=some ⟨oc,od,.func (Vm x qual (defArgs st) (defBody st) (defScope st) .none kV doc pm an cdv ct),osl⟩)
 (c:Qao K cdv qual=true) (k:Je K (.ref f)=true):Fun K x qual st f (Vm x qual (defArgs st) (defBody st) (defScope st) .none kV doc pm an cdv ct):=⟨⟨oc,od,kV,doc,pm,an,cdv,ct,osl,rfl,l,c⟩,k⟩
end
def qi {n:Nat} (h:n<=1000):n<Q9:=Qau h (by decide)
section
variable {X:Cx}
def pv (i:Nat) {x:Str}{pos:Pos} (hN:X.N[i]?=some x:=by rfl) (hv:Vis X.env.scope x:=by first|exact V0 rfl|exact Y6 (V0 rfl)|exact Y6 (Y6 rfl)) (hd:Nd0 x:=by decide)
 (hcd:Nd1 x:=by decide):PE X (.Name x pos) (quh i):=qcp hN hv hd hcd
end
def qrz {A B:Prop} (h:B):if false=true then A else B:=by
 rw [if_neg Zt];exact h
def qwd {A B:Prop} (h:A):if true=true then A else B:=by
 rw [if_pos rfl];exact h
def zacg {c A B:Prop} [Decidable c] (hc:c) (h:B):if (!decide c)=true then A else B:=by
 rw [decide_eq_true hc];exact qrz h
def NoT:HO->Prop
 | .tbl _=>False
 | _=>True
structure Kp (o:HO) (x:Option HO):Prop where
 to:NoT o->x=some o
 tb : ∀ ps,o = .tbl ps -> ∃ ps',x=some (.tbl ps')
def Kp.of {o:HO}{x:Option HO} (h:x=some o):Kp o x:=⟨fun _=>h,fun ps e=>⟨ps,by rw [h,e]⟩⟩
def Same (H H':Hp):Prop := ∀ b o,H b=some o->Kp o (H' b)
def zaln (o:HO):NoT o \/ ∃ ps,o = .tbl ps:=by
 cases o <;> first|exact .inr ⟨_,rfl⟩|exact .inl trivial
def Same.of {H H':Hp} (h : ∀ b o,H b=some o->H' b=some o):Same H H':=fun b o e => .of (h b o e)
def Same.at {H H':Hp} (s:Same H H') {b:Addr}{o:HO} (e:H b=some o) (n:NoT o:=by trivial):H' b=some o:=(s b o e).to n
def Same.any {H H':Hp} (s:Same H H') {b:Addr}{o:HO} (e:H b=some o) : ∃ o',H' b=some o':=by
 rcases zaln o with n|⟨ps,rfl⟩
 ·exact ⟨o,(s b o e).to n⟩
 ·obtain ⟨ps',e'⟩:=(s b _ e).tb ps rfl;exact ⟨_,e'⟩
def Same.refl (H:Hp):Same H H :=.of fun _ _ h=>h
def Same.trans {H H1 H2:Hp} (a:Same H H1) (b:Same H1 H2):Same H H2:=fun c o h=>⟨fun n=>(b c o ((a c o h).to n)).to n,fun ps e=>let ⟨ps',e'⟩:=(a c o h).tb ps e; (b c _ e').tb ps' rfl⟩
def Same.free {H H':Hp} (e:Same H H') {l:Addr} (h:H' l=Qms):H l=Qms:=by
 cases q:H l with
 | none=>rfl
 | some o =>
  obtain ⟨o',z⟩:=e.any q;rw [z] at h;cases h
def Same.seq {K:Qe}{H H':Hp}{a:Addr}{xs:List V} (e:Same H H') (h:SqL K H a xs):SqL K H' a xs:=by
 rcases h with (h|⟨o,h⟩)|h
 ·exact .inl (.inl (e.at h))
 ·exact .inl (.inr ⟨o,e.at h⟩)
 ·exact .inr h
end
section
mutual
def Is (K:Qe) (H:Hp):Qi->V->Prop
 | .none,v=>v = .non
 | .bool b,v=>v = .bl b
 | .int i,v=>v = .int i
 | .str x,v=>v = .str x
 | .list l,v => ∃ a xs,v = .ref a/\SqL K H a xs/\Iss K H l xs
 | .tuple l,v => ∃ a xs,v = .ref a/\SqT K H a xs/\Iss K H l xs
 | .dict l,v => ∃ a kvs,v = .ref a/\H a=some (.dK kvs)/\(!l.isEmpty) = !kvs.isEmpty
def Iss (K:Qe) (H:Hp):List Qi->List V->Prop
 | [],xs=>xs=[]
 | d::l,xs => ∃ x r,xs=x::r/\Is K H d x/\Iss K H l r
end
instance {o:HO}{x:Option HO}:Coe (x=some o) (Kp o x):=⟨Kp.of⟩
instance {l:List V}{x:Option HO}:CoeOut (Kp (.lst l) x) (x=some (.lst l)):=⟨fun k=>k.to trivial⟩
instance {l:List V}{x:Option HO}:CoeOut (Kp (.tup l) x) (x=some (.tup l)):=⟨fun k=>k.to trivial⟩
instance {l:List (Key×V)}{x:Option HO}:CoeOut (Kp (.dK l) x) (x=some (.dK l)):=⟨fun k=>k.to trivial⟩
instance {l:List (List Key×V)}{x:Option HO}:CoeOut (Kp (.dT l) x) (x=some (.dT l)):=⟨fun k=>k.to trivial⟩
instance {C d:Addr}{l:List (Str×V)}{x:Option HO}:CoeOut (Kp (.ins C d l) x) (x=some (.ins C d l)):=⟨fun k=>k.to trivial⟩
instance {f:Heap->Prop}{x:Option HO}:CoeOut (Kp (.ext f) x) (x=some (.ext f)):=⟨fun k=>k.to trivial⟩
def zajw {H H':Hp}{a:Addr}{u:HO} (s:Same H H') (h:Rd H a u) (n:NoT u:=by trivial):Rd H' a u:=by
 rcases h with h|⟨o,h⟩
 ·exact .inl (s.at h n)
 ·exact .inr ⟨o,s.at h⟩
def qM {K:Qe}{H H':Hp}{a:Addr}{xs:List V} (s:Same H H') (h:SqT K H a xs):SqT K H' a xs:=by
 rcases h with h|h
 ·exact .inl (zajw s h)
 ·exact .inr h
def qbn {H:Hp}{p:Addr}{o:HO} (h:H p=none):Same H (upd H p o) :=.of fun b u e=>by
 rw [qj (qv e h)];exact e
mutual
def Is.mono {K:Qe}{H H':Hp} (s:Same H H') : ∀ {d:Qi}{v:V},Is K H d v->Is K H' d v
 | .none,_,h=>by unfold Is at h ⊢;exact h
 | .bool _,_,h=>by unfold Is at h ⊢;exact h
 | .int _,_,h=>by unfold Is at h ⊢;exact h
 | .str _,_,h=>by unfold Is at h ⊢;exact h
 | .list l,_,h=>by
  unfold Is at h ⊢;obtain ⟨a,xs,e,q,r⟩:=h;exact ⟨a,xs,e,s.seq q,Iss.mono s r⟩
 | .tuple l,_,h=>by
  unfold Is at h ⊢;obtain ⟨a,xs,e,q,r⟩:=h;exact ⟨a,xs,e,qM s q,Iss.mono s r⟩
 | .dict _,_,h=>by
  unfold Is at h ⊢;obtain ⟨a,kvs,e,q,m⟩:=h;exact ⟨a,kvs,e,s.at q,m⟩
def Iss.mono {K:Qe}{H H':Hp} (s:Same H H') : ∀ {l:List Qi}{xs:List V},Iss K H l xs->Iss K H' l xs
 | [],_,h=>by unfold Iss at h ⊢;exact h
 | d::l,_,h=>by
  unfold Iss at h ⊢;obtain ⟨x,r,e,p,q⟩:=h;exact ⟨x,r,e,Is.mono s p,Iss.mono s q⟩
end
section
variable {K:Qe}{H H':Hp}
def qjd:Is K H .none .non:=by unfold Is;rfl
def qdb (b:Bool):Is K H (.bool b) (.bl b):=by unfold Is;rfl
def qae (i:Int):Is K H (.int i) (.int i):=by unfold Is;rfl
def zagj (x:Str):Is K H (.str x) (.str x):=by unfold Is;rfl
def qez {a:Addr}{xs:List V}{l:List Qi} (h:SqL K H a xs) (r:Iss K H l xs):Is K H (.list l) (.ref a):=by unfold Is;exact ⟨a,xs,rfl,h,r⟩
def qjg {a:Addr}{xs:List V}{l:List Qi} (h:SqT K H a xs) (r:Iss K H l xs):Is K H (.tuple l) (.ref a):=by unfold Is;exact ⟨a,xs,rfl,h,r⟩
def qZ:Iss K H [] []:=by unfold Iss;rfl
def qI {d:Qi}{l:List Qi}{x:V}{xs:List V} (h:Is K H d x) (r:Iss K H l xs):Iss K H (d::l) (x::xs):=by unfold Iss;exact ⟨x,xs,rfl,h,r⟩
def Is.bl_inv {b:Bool}{v:V} (h:Is K H (.bool b) v):v = .bl b:=by unfold Is at h;exact h
def Is.int_inv {i:Int}{v:V} (h:Is K H (.int i) v):v = .int i:=by unfold Is at h;exact h
def Is.non_inv {v:V} (h:Is K H .none v):v = .non:=by unfold Is at h;exact h
def Is.lst_inv {l:List Qi}{v:V} (h:Is K H (.list l) v) : ∃ a xs,v = .ref a/\SqL K H a xs/\Iss K H l xs:=by unfold Is at h;exact h
def Is.tup_inv {l:List Qi}{v:V} (h:Is K H (.tuple l) v) : ∃ a xs,v = .ref a/\SqT K H a xs/\Iss K H l xs:=by unfold Is at h;exact h
def Is.dct_inv {l:List (Qi×Qi)}{v:V} (h:Is K H (.dict l) v) : ∃ a kvs,v = .ref a/\H a=some (.dK kvs)/\(!l.isEmpty) = !kvs.isEmpty:=by unfold Is at h;exact h
def zama {a:Addr}{kvs:List (Key×V)}{l:List (Qi×Qi)} (h:H a=some (.dK kvs)) (m:(!l.isEmpty) = !kvs.isEmpty):Is K H (.dict l) (.ref a):=by unfold Is;exact ⟨a,kvs,rfl,h,m⟩
def Iss.nil_inv {xs:List V} (h:Iss K H [] xs):xs=[]:=by unfold Iss at h;exact h
def Iss.cons_inv {d:Qi}{l:List Qi}{xs:List V} (h:Iss K H (d::l) xs) : ∃ x r,xs=x::r/\Is K H d x/\Iss K H l r:=by unfold Iss at h;exact h
def Iss.len : ∀ {l:List Qi}{xs:List V},Iss K H l xs->xs.length=l.length
 | [],_,h=>by rw [h.nil_inv];rfl
 | d::l,_,h=>by
  obtain ⟨x,r,rfl,_,q⟩:=h.cons_inv;simp [Iss.len q]
def Iss.get : ∀ {l:List Qi}{xs:List V}{i:Nat}{d:Qi},Iss K H l xs->l[i]?=some d -> ∃ x,xs[i]?=some x/\Is K H d x
 | [],_,i,d,h,e=>by simp at e
 | d'::l,_,0,d,h,e=>by
  obtain ⟨x,r,rfl,p,q⟩:=h.cons_inv;simp at e;subst e;exact ⟨x,rfl,p⟩
 | d'::l,_,i+1,d,h,e=>by
  obtain ⟨x,r,rfl,p,q⟩:=h.cons_inv;obtain ⟨y,e1,e2⟩:=Iss.get q (show l[i]?=some d by simpa using e);exact ⟨y,by simpa using e1,e2⟩
def Iss.get' : ∀ {l:List Qi}{xs:List V}{i:Nat}{x:V},Iss K H l xs->xs[i]?=some x -> ∃ d,l[i]?=some d/\Is K H d x:=fun {l xs i x} h e=>by
 have hl:=h.len;have hi:i<xs.length:=(Qg.mp e).1;obtain ⟨d,hd⟩ : ∃ d,l[i]?=some d:=⟨l[i]'(by omega),Qa _⟩
 obtain ⟨y,e1,e2⟩:=h.get hd;rw [e] at e1;cases e1;exact ⟨d,hd,e2⟩
def qaz : ∀ {l m:List Qi}{xs ys:List V},Iss K H l xs->Iss K H m ys->Iss K H (l++m) (xs++ys)
 | [],m,_,ys,h,h'=>by rw [h.nil_inv];exact h'
 | d::l,m,_,ys,h,h'=>by
  obtain ⟨x,r,rfl,p,q⟩:=h.cons_inv;exact qI p (qaz q h')
def qop : ∀ {l:List Qi}{xs:List V} (n:Nat),Iss K H l xs->Iss K H (l.take n) (xs.take n)
 | _,_,0,_=>qZ
 | [],_,n+1,h=>by rw [h.nil_inv];exact qZ
 | d::l,_,n+1,h=>by
  obtain ⟨x,r,rfl,p,q⟩:=h.cons_inv;exact qI p (qop n q)
def qok : ∀ {l:List Qi}{xs:List V} (n:Nat),Iss K H l xs->Iss K H (l.drop n) (xs.drop n)
 | _,_,0,h=>h
 | [],_,n+1,h=>by rw [h.nil_inv];exact qZ
 | d::l,_,n+1,h=>by
  obtain ⟨x,r,rfl,p,q⟩:=h.cons_inv;exact qok n q
def qjm : ∀ ns:List Int,Iss K H (ns.map .int) (ns.map V.int)
 | []=>qZ
 | n::ns=>qI (qae n) (qjm ns)
def Iss.ints_inv : ∀ {ns:List Int}{xs:List V},Iss K H (ns.map .int) xs->xs=ns.map V.int
 | [],_,h=>h.nil_inv
 | n::ns,_,h=>by
  obtain ⟨x,r,rfl,p,q⟩:=h.cons_inv;rw [p.int_inv,Iss.ints_inv q];rfl
end
section
variable {X:Cx}{pins:List (Addr×Obj)}{σ:St}{H:Hp}{s:Ql}
mutual
def Is.reads (I:Inv X pins σ H s) : ∀ {d:Qi}{x:V}{u:Value},d.canLay0=true->Is X.K H d x->RelV x u -> ∃ as,Reads s.heap u d as
 | .none,_,u,_,h,r=>by
  rw [h.non_inv] at r;cases r;exact ⟨_,.none⟩
 | .bool b,_,u,_,h,r=>by
  rw [h.bl_inv] at r;cases r;exact ⟨_,.bool b⟩
 | .int i,_,u,_,h,r=>by
  rw [h.int_inv] at r;obtain ⟨t,rfl⟩:=r;exact ⟨_,.int i t⟩
 | .str x,_,u,_,h,r=>by
  unfold Is at h;subst h;obtain ⟨t,rfl⟩:=r;exact ⟨_,.str x t⟩
 | .list l,_,u,z,h,r=>by
  obtain ⟨a,xs,rfl,q,p⟩:=h.lst_inv;cases r;obtain ⟨its,rv,pl,_⟩:=I.list q;obtain ⟨o,ho,hc,n,hd⟩:=pl.isList;obtain ⟨as,ra⟩:=Iss.reads I (by simpa [Qdl] using z) p rv;exact ⟨_,.list ho hc hd (by rw [Qig];exact ra)⟩
 | .tuple l,_,u,z,h,r=>by
  obtain ⟨a,xs,rfl,q,p⟩:=h.tup_inv;cases r;obtain ⟨its,rv,pl,_⟩:=I.tuple q;obtain ⟨o,ho,hc,n,hd⟩:=pl;obtain ⟨as,ra⟩:=Iss.reads I (by simpa [Qdl] using z) p rv;exact ⟨_,.tuple ho hc hd (by rw [Qig];exact ra)⟩
 | .dict _,_,u,z,h,r=>by simp [Qdl] at z
def Iss.reads (I:Inv X pins σ H s) : ∀ {l:List Qi}{xs:List V}{us:List Value},J8 l=true->Iss X.K H l xs->Vals xs us -> ∃ as,ReadsAll s.heap us l as
 | [],_,us,_,h,r=>by
  rw [h.nil_inv] at r;cases r;exact ⟨_,.nil⟩
 | d::l,_,us,z,h,r=>by
  have z':d.canLay0=true/\J8 l=true:=by simpa [J8] using z
  obtain ⟨x,y,rfl,p,q⟩:=h.cons_inv;cases r with
  | cons r1 r2 =>
   obtain ⟨as,ra⟩:=Is.reads I z'.1 p r1;obtain ⟨bs,rb⟩:=Iss.reads I z'.2 q r2;exact ⟨_,.cons ra rb⟩
end
end
section
variable {X:Cx}
def rEqD (K:Qe):R2:=fun x y H Q => ∃ d e,Is K H d x/\Is K H e y/\Js d=true/\Js e=true/\Q (.bl (Vi d e)) H
def rNeD (K:Qe):R2:=fun x y H Q => ∃ d e,Is K H d x/\Is K H e y/\Js d=true/\Js e=true/\Q (.bl (!PyData.eqv d e)) H
def zalt (hu:X.A.units+64<cLine):OpR X (Yo .Eq) (rEqD X.K):=by
 intro pins s σ H x y v u Q I rx ry h;obtain ⟨d,e,h1,h2,z1,z2,q⟩:=h;obtain ⟨as,ra⟩:=Is.reads I (Vu.mp z1).1 h1 rx;obtain ⟨bs,rb⟩:=Is.reads I (Vu.mp z2).1 h2 ry;exact SeqAt.compareEq_shaped ra rb z1 z2 hu ⟨.bl (Vi d e),H,I,rfl,q⟩
def zaol (hu:X.A.units+64<cLine):OpR X (Yo .NotEq) (rNeD X.K):=by
 intro pins s σ H x y v u Q I rx ry h;obtain ⟨d,e,h1,h2,z1,z2,q⟩:=h;obtain ⟨as,ra⟩:=Is.reads I (Vu.mp z1).1 h1 rx;obtain ⟨bs,rb⟩:=Is.reads I (Vu.mp z2).1 h2 ry;exact SeqAt.compareNe_shaped ra rb z1 z2 hu ⟨.bl (!PyData.eqv d e),H,I,rfl,q⟩
def zaik:OpR X (Vw .Mult) (rI IntMulOk fun i j => .int (i*j)):=opI fun _ _ _ _ _ _ _ hc q=>mul_int q hc
def zalc (_ j:Int):Prop:=j≠0/\Qby j<=9000
def qui:OpR X (Vw .FloorDiv) (rI zalc fun i j => .int (i.fdiv j)):=opI fun i j _ _ _ _ _ hc q=>by
 refine floordiv_int hc.1 q (.inl (PyProof.noPylong_of_log2 ?_));have h:=hc.2;unfold Qby at h;rw [if_neg (by simpa using hc.1)] at h;omega
def zarg (K:Qe):R2:=fun x y H Q => ∃ a b xs zs,x = .ref a/\y = .ref b/\SqL K H a xs/\SqL K H b zs/\xs.length+zs.length<=Q9 /\
 ∀ p,H p=none->Q (.ref p) (upd H p (.lst (xs++zs)))
def qye:OpR X (Vw .Add) (zarg X.K):=by
 intro pins s σ H x y v u Q I rx ry h;obtain ⟨a,b,xs,zs,rfl,rfl,hA,hB,hz,q⟩:=h;cases rx;cases ry;obtain ⟨its,r,pl,z1⟩:=I.list hA;obtain ⟨its2,r2,pl2,z2⟩:=I.list hB;have l1:=r.length;have l2:=r2.length;obtain ⟨⟨cls,dd,data,sl⟩,ho,hc,n,hd⟩:=pl.isList;obtain ⟨⟨cls2,dd2,data2,sl2⟩,ho2,hc2,n2,hd2⟩:=pl2.isList;simp only at hc hd hc2 hd2;subst hc hd hc2 hd2;have e:its.toArray++its2.toArray=(its++its2).toArray:=by simp
 refine Qhk ⟨_,ho,rfl⟩ ⟨_,ho2,rfl⟩ noFill_list_add seq_list_add PySem.F.slot_list_add PySem.F.entry_list_add (PySem.F.args_list_add_2 _ _) (list_addW a b its.toArray its2.toArray n n2 dd dd2 sl sl2 (by simp only [Qr];omega)) ⟨ho,ho2,?_⟩;rw [e];exact ⟨.ref _,_,I.lnew (t':=s.toks) (r.append r2) (by rw [Z4];omega),rfl,q _ I.fresh⟩
def tyD:Qi->String
 | .none => "NoneType"
 | .bool _ => "bool"
 | .int _ => "int"
 | .str _ => "str"
 | .list _ => "list"
 | .tuple _ => "tuple"
 | .dict _ => "dict"
def zaev {pins:List (Addr×Obj)}{σ:St}{H:Hp}{s:Ql}{A:Z2}{E:Value->Ql->Prop}{Q:Value->Ql->Prop}{c:Value}{b:Bool}{d:Qi}{x:V}{u:Value}
 (I:Inv X pins σ H s) (hd:Is X.K H d x) (rx:RelV x u) (e:Yh X.K (.type (tyD d)) c=some b) (h : ∀ tk,Q (.bool b) { s with toks:=tk }) :
  wpAny (model X.prog X.w) A (call (.builtin "isinstance") [u,c]) Q E s:=by
  cases d with
  | none=>rw [hd.non_inv] at rx;cases rx;exact Jk PySem.W.kitx_none I.kIn Qdd e (fun z=>nomatch z) h
  | bool y=>rw [hd.bl_inv] at rx;cases rx;exact Jk PySem.W.kitx_bool I.kIn Qdd e (fun z=>nomatch z) h
  | int i=>rw [hd.int_inv] at rx;obtain ⟨t,rfl⟩:=rx;exact Jk PySem.W.kitx_int I.kIn Qdd e (fun z=>nomatch z) h
  | str y =>
   unfold Is at hd;subst hd;obtain ⟨t,rfl⟩:=rx;exact Jk PySem.W.kitx_str I.kIn Qdd e (fun z=>nomatch z) h
  | list l =>
   obtain ⟨a,xs,rfl,q,_⟩:=hd.lst_inv;cases rx;obtain ⟨its,_,pl,_⟩:=I.list q;obtain ⟨o,ho,hc,_⟩:=pl.isList;exact Jk PySem.W.kitx_list I.kIn ⟨o,ho,hc⟩ e (fun z=>nomatch z) h
  | tuple l =>
   obtain ⟨a,xs,rfl,q,_⟩:=hd.tup_inv;cases rx;obtain ⟨its,_,pl,_⟩:=I.tuple q;obtain ⟨o,ho,hc,_⟩:=pl;exact Jk PySem.W.kitx_tuple I.kIn ⟨o,ho,hc⟩ e (fun z=>nomatch z) h
  | dict l =>
   obtain ⟨a,kvs,rfl,q,_⟩:=hd.dct_inv;cases rx;obtain ⟨_,_,vs,_,p⟩:=(show ObjOk X.prog X.w H s.heap a (.dK kvs) from I.hok a _ q)
   obtain ⟨o,es,ep,h1,h2,_⟩:=p;exact Jk PySem.W.kitx_dict I.kIn ⟨o,h1,h2.1⟩ e (fun z=>nomatch z) h
def rIsD (K:Qe):List V->Hp->VK->Prop:=fun xs H Q => ∃ d x n b,xs=[x,.ty n]/\Is K H d x/\Yh K (.type (tyD d)) (.type n)=some b/\Q (.bl b) H
def zacx:CallR X (.builtin "isinstance") (rIsD X.K):=by
 intro pins s σ H xs us Q I r h;obtain ⟨d,x,n,b,rfl,hd,e,q⟩:=h;obtain ⟨u,c,rfl,rx,rc⟩:=zahb r;cases rc;exact zaev I hd rx e fun tk=>⟨.bl b,H,I.tok tk,rfl,q⟩
def Iss.atI {K:Qe}{H:Hp}{l:List Qi}{xs:List V}{i:Int}{d:Qi} (h:Iss K H l xs) (e:L2.atI l i=some d) : ∃ x,L2.atI xs i=some x/\Is K H d x:=by
 unfold L2.atI at e ⊢;rw [h.len];cases q:ixN l.length i with
 | none=>rw [q] at e;cases e
 | some j =>
  rw [q] at e;exact h.get e
end
def Ite (K:Qe) (a:Addr):It :=
 ⟨fun i H => ∃ xs x,SqL K H a xs/\xs[i]?=some x,fun i H v H' => ∃ p x,(∀ xs,SqL K H a xs->xs[i]?=some x)/\H p=none/\v = .ref p/\H'=upd H p (.tup [.int i,x]),fun i H => ∃ xs,SqL K H a xs/\xs.length<=i⟩
def zaaf {P:Zo}{w:World}{K:Qe}{elts:List Expr}{x1:Nat}{tpos:Pos} (a e it:Addr) (hne:e≠it) :
 Turn P w K (.Tuple elts x1 tpos) (Ite K a) [e,it] e (fun i h=>(∃ old,IsEnum h e it (i:Nat) old)/\h.IsListIter it a i) where
  mem:=by simp
  obj:=fun i h st b hb=>by
   obtain ⟨⟨old,s1⟩,s2⟩:=st;have hb':b=e\/b=it:=by simpa using hb
   rcases hb' with rfl|rfl
   ·exact ⟨_,s1,fun v z=>by have z':Qlb _=Qiq v:=z;cases z'⟩
   ·obtain ⟨o,q,c,d⟩:=s2;exact ⟨o,q,fun v z=>by rw [d] at z;cases z⟩
  keep:=fun i h h' st k=>by
   obtain ⟨⟨old,s1⟩,s2⟩:=st;exact ⟨⟨old,k e (by simp) _ s1⟩,s2.at fun o q=>k it (by simp) o q⟩
  item:=by
   intro X hP hw hK hc i pins s σ H E I hf st hg;subst hP hw hK;obtain ⟨xs,x,hq,hx⟩:=hg;obtain ⟨its,rv,p,hz⟩:=I.list hq;obtain ⟨u,hu,ru⟩:=rv.get hx;obtain ⟨⟨old,s1⟩,s2⟩:=st;obtain ⟨f0,f1,f2,f3,f4,f5⟩:=hf e (by simp);obtain ⟨g0,g1,g2,g3,g4,g5⟩:=hf it (by simp);have hel:e<s.heap.objs.size:=Qp s1;refine wpAny_pyNext_enum_item s1 s2 p.isList (x:=u) (by simpa using hu) hne fun h₁ ho hi ht hz₁ hk=>⟨_,rfl,?_⟩
   refine wpAny_letOwnedTupleGo_enum (s:={ s with heap:=h₁,toks:=s.toks+1 }) ho fun h₂ he₂ hs₂=>?_;replace hs₂:Vv e h₁ h₂:=hs₂
   have fresh:H s.heap.objs.size=none:=I.hok.fresh (Qz _);have kk : ∀ b o,b≠e->b≠it->s.heap.get? b=some o->h₂.get? b=some o:=fun b o b1 b2 q=>hs₂.extBut b o b1 (hk b o b1 b2 q);have nb : ∀ b v,H b=some v->b≠e/\b≠it:=fun b v q=>⟨fun z=>(by rw [z,f0] at q;cases q),fun z=>(by rw [z,g0] at q;cases q)⟩
   have ht₂:h₂.get? s.heap.objs.size=some { cls :=.type "tuple",data :=.seq #[.int i s.toks,u] }:=(hs₂.2 _ (Yv hel)).trans ht;have I1:Inv X pins σ (upd H s.heap.objs.size (.tup [.int i,x])) { s with heap:=h₂,toks:=s.toks+1 }:=by
    refine I.step (g':=s.gens) (d':=s.drawn) (ch:=[e,it]) (fun b hb=>?_) (fun b o _ _ hc q _=>kk b o (fun z=>hc (by simp [z])) (fun z=>hc (by simp [z])) q)
     (fun b o _ _ hc q _=>⟨o.slots,kk b o (fun z=>hc (by simp [z])) (fun z=>hc (by simp [z])) q⟩) (fun b o _ q n=>by rw [qj (Qq (Qp q))];exact n)
     (fun b o hc q=>⟨o,kk b o (fun z=>hc (by simp [z])) (fun z=>hc (by simp [z])) q⟩) (fun b ys q=>by rw [qj (qv q fresh)];exact q) (fun b o v q=>by rw [qj (qv q fresh)];exact q)
     (fun b ps q=>⟨#[],by rw [qj (qv q fresh),q];simp,.nil⟩) (fun m hm=>?_) (fun b v q=>?_) I.bare
    ·have hb':b=e\/b=it:=by simpa using hb
     rcases hb' with rfl|rfl
     ·exact ⟨f3,f1,f4,f5⟩
     ·exact ⟨g3,g1,g4,g5⟩
    ·obtain ⟨o,es,ep,ho',r⟩:=hm;exact ⟨o,es,ep,kk _ o (Yb f1) (Yb g1) ho',r⟩
    ·by_cases hb:b=s.heap.objs.size
     ·subst hb;rw [ql] at q;cases q;exact ⟨(by show 2<=Q9;decide),[.int i s.toks,u],.cons ⟨s.toks,rfl⟩ (.cons ru .nil),⟨_,ht₂,rfl,_,rfl⟩⟩
     ·rw [qj hb] at q;refine (I.hok b v q).stay (fun c ob hc z=>?_) (fun c z=>by rw [qj (qv z fresh)];exact z) fun c ys z=>by rw [qj (qv z fresh)];exact z
      rcases hc with hc|hc
      ·subst hc;exact kk _ _ (nb _ _ q).1 (nb _ _ q).2 z
      ·exact kk _ _ (nb _ _ hc).1 (nb _ _ hc).2 z
   refine ⟨.ref s.heap.objs.size,_,I1,rfl,⟨s.heap.objs.size,x,fun ys hy=>by rw [I.list_inj hy hq];exact hx,fresh,rfl,rfl⟩,⟨⟨u,?_⟩,?_⟩,fun b hb=>?_⟩
   ·have e1:((i+1:Nat):Int)=(i:Int)+1:=by push_cast;rfl
    rw [e1];exact he₂
   ·exact hi.extBut hs₂.extBut (Yb hne)
   ·have hb':b=e\/b=it:=by simpa using hb
    have hlt:b<s.heap.objs.size:=by
     rcases hb' with rfl|rfl
     ·exact hel
     ·obtain ⟨o,q,_⟩:=s2;exact Qp q
    rw [qj (Qq hlt)];exact (hf b hb).1
  done:=by
   intro X hP hw hK hc i pins s σ H E I hf st hg;subst hP hw hK;obtain ⟨xs,hq,hx⟩:=hg;obtain ⟨its,rv,p,hz⟩:=I.list hq;obtain ⟨⟨old,s1⟩,s2⟩:=st;obtain ⟨g0,g1,g2,g3,g4,g5⟩:=hf it (by simp);have hl:=rv.length;exact wpAny_pyNext_enum_end (I.ok.hd hc) s1 s2 p.isList (by simp;omega) fun h' eb=>⟨rfl,I.turned (t':=s.toks) (fun b o hb q=>eb b o hb q) g0 g1 g3 g4 g5⟩
  self:=fun A i s Q E st h=>by
   obtain ⟨⟨old,s1⟩,s2⟩:=st;exact wpAny_pyIter_enum s1 h
section
variable {X:Cx}{elts:List Expr}{x1:Nat}{tpos:Pos}
def zapd (K:Qe) (ta:TA):TI:=fun σ H R=>ta σ H fun vs H1 => ∃ a,vs=[.ref a]/\(∃ xs,SqL K H1 a xs)/\R (Ite K a) H1
def zaix {a:Expr}{ta:TA}{p pos:Pos} (hg:Gl X "enumerate") (hm:X.mg "enumerate" = none) (ha:PA X [a] ta) (hs:Qu [a] X.env=[(false,eval a X.env)]:=by rfl) :
 PI X (.Tuple elts x1 tpos) (.Call (.Name "enumerate" p) [a] [] pos) (zapd X.K ta):=by
 intro pins s σ H R I h;refine Call_ (qgj I hg hm boot_enumerate (Vq (thn (ha pos pins s σ H _ I h) fun us s1 xx54=>?_) hs rfl));obtain ⟨vs,H1,I1,r1,q1⟩:=xx54;obtain ⟨l,e,⟨xs,hq⟩,q⟩:=q1;subst e;cases r1 with
 | cons r rr =>
  cases rr;cases r;obtain ⟨its,rv,pl,hz⟩:=I1.list hq;refine call_enumerate_list pl.isList fun h' he hi hz' hk=>?_;refine wpAny_pyIter_enum he ?_;have I2:Inv X pins σ H1 { s1 with heap:=h' }:=I1.kept (t':=s1.toks) hk;refine ⟨s1.heap.objs.size+1,[s1.heap.objs.size+1,s1.heap.objs.size],_,_,H1,rfl,I2,zaaf l _ _ (Nat.succ_ne_self _),⟨⟨_,he⟩,hi⟩,fun b hb=>?_,q⟩;have hb':b=s1.heap.objs.size+1\/b=s1.heap.objs.size:=by simpa using hb
  have hle:s1.heap.objs.size<=b:=by
   rcases hb' with rfl|rfl
   ·exact Qih _
   ·exact Qz _
  exact I1.fpOk hle (I1.hok.fresh hle)
end
def szl {α:Type}{l:List α} (h:decide (l.length<=1000)=true:=by rfl):l.length<=Q9:=Z6 (qi (of_decide_eq_true h))
def qyf (i j:Int):Vi (.int i) (.int j)=(i==j):=by simp only [Vi]
def qsk {i j:Int}{A B:Prop} (h1:i≠j->A) (h2:i=j->B):if (!PyData.eqv (.int i) (.int j))=true then A else B:=by
 rw [qyf];by_cases h:i=j
 ·subst h;simpa using h2 rfl
 ·have e:(i==j)=false:=by simpa using h
  rw [e];simpa using h1 h
def qcr {i j:Int}{A B:Prop} (h1:i=j->A) (h2:i≠j->B):if (Vi (.int i) (.int j))=true then A else B:=by
 rw [qyf];by_cases h:i=j
 ·subst h;simpa using h1 rfl
 ·have e:(i==j)=false:=by simpa using h
  rw [e];simpa using h2 h
def qey {p A B:Prop} [Decidable p] (h1:p->A) (h2 : ¬ p->B):if decide p=true then A else B:=by
 by_cases h:p
 ·simpa [h] using h1 h
 ·simpa [h] using h2 h
def qoe {ns:List Int}{i:Int} (h0:0<=i) (h1:i<ns.length) : ∃ n,L2.atI (ns.map Zq) i=some (.int n):=by
 have hi:i.toNat<ns.length:=by omega
 refine ⟨ns[i.toNat],?_⟩;have e:(ns.map Zq)[i.toNat]?=some (.int ns[i.toNat]):=by simp [hi]
 have:=qdv e
 rwa [Qah h0] at this
def boot_abs:Z0 "abs" = some (.builtin "abs"):=by decide +kernel
def boot_len:Z0 "len" = some (.builtin "len"):=by decide +kernel
def qdo:Z0 "isinstance" = some (.builtin "isinstance"):=by decide +kernel
def boot_int:Z0 "int" = some (.type "int"):=by decide +kernel
def boot_bool:Z0 "bool" = some (.type "bool"):=by decide +kernel
def boot_tuple:Z0 "tuple" = some (.type "tuple"):=by decide +kernel
def boot_list:Z0 "list" = some (.type "list"):=by decide +kernel
section
variable {K:Qe}
end
structure Def (K:Qe) (mg:Str->Option Value) (x:Str) (st:Stmt) (ps:List Str):Prop where
 ex : ∃ (f:Addr) (fd:Jo),Fun K x x st f fd/\mg x=some (.ref f)/\Binds K fd ps []
structure Ok (P:Zo) (w:World) (K:Qe) (mg:Str->Option Value) (base:Heap) (x:Str) (k:Nat) (ps:List Str) (sp:Sp):Prop where
 ex : ∃ (f:Addr) (fd:Jo),FnOk P w K mg base CX0 k f fd ps sp/\mg x=some (.ref f)/\Je K (.ref f)=true/\Binds K fd ps []
section
variable {P:Zo}{w:World}{K:Qe}{mg:Str->Option Value}{base:Heap}
def Def.ok {x:Str}{st:Stmt}{N ps:List Str}{k:Nat}{sp:Sp} (F:Def K mg x st ps) (S:FnScope N ps (defScope st)) (len : ∀ vs H Q E,sp vs H Q E->vs.length=ps.length)
 (hbody : ∀ (f:Addr) (cdv:Value) (A:Z2) (outer:List Env) (s:Ql) (H:Hp) (vs:List V) (Q:VK) (E:XK),Room k (A.deeper (Qch x (defScope st) s.heap.objs.size f cdv))->sp vs H Q E ->
 ∃ t,PSs (qdn CX0 P w K mg base N x (defScope st) f cdv A outer s H E).nox (defBody st) t/\t { nx:=fun _ H'=>Q .non H',rt:=Q } (start N vs) H):Ok P w K mg base x (k+1) ps sp:=by
  obtain ⟨f,fd,Fn,hm,hb⟩:=F.ex;exact ⟨f,fd,Fn.ok S len (hbody f),hm,Fn.kp,hb⟩
end
section
variable {X:Cx}{x:Str}{k:Nat}{ps:List Str}{sp:Sp}{p pos:Pos}{e:Expr}{es:List Expr}{t:TA}
structure OkC (X:Cx) (x:Str) (k:Nat) (ps:List Str) (sp:Sp):Prop where
 ex : ∃ sp0,Ok X.prog X.w X.K X.mg X.base x k ps sp0 /\ ∀ (pins:List (Addr×Obj)) (σ:St) (H:Hp) (s:Ql) (vs:List V) (Q:VK) (E:XK),Inv X pins σ H s->sp vs H Q E->sp0 vs H Q E
def Ok.c (O:Ok X.prog X.w X.K X.mg X.base x k ps sp):OkC X x k ps sp:=⟨sp,O,fun _ _ _ _ _ _ _ _ h=>h⟩
def qsy (O:OkC X x k ps sp) (hr:Room k X.A) (ha:PA X (e::es) t) (hg:Gl X x:=by rfl) (hdb:Nd0 x:=by decide)
 (he:Qu (e::es) X.env=(false,eval e X.env)::Qu es X.env:=by rfl) (hpl:(V8 pos (Qu es X.env)).any (·.1)=false:=by rfl):PE X (.Call (.Name x p) (e::es) [] pos) (qlq sp [] E0 t):=by
 obtain ⟨sp0,⟨f,fd,F,hm,hk,hb⟩,up⟩:=O.ex;intro pins s σ H Q I h;refine Jv (qka I hg hm ?_ hdb);refine Qiu (h₀:=X.base) I.ok.mod.kin hk (thn (ha pos pins s σ H _ I h) fun us s1 ⟨vs,H1,I1,r,q⟩=>⟨I1.kIn,?_⟩) he hpl;exact zamy F hr hb .nil zaqr I1 r (up _ _ _ _ _ _ _ I1 q)
def qqf {o:Expr}{to:TE}{te:TE}{apos cpos:Pos} (ho:PE X o to) (he:PE X e te) (hbase:Qcr o "append" X.env (eval o X.env)=eval o X.env:=by rfl)
 (hfew:((V8 cpos (Qu [e] X.env)).all (fun x => !x.1)&&(Qjk cpos (Qep [] X.env)).all (fun x=>x.1.isSome)
  && decide ([e].length+([]:List Qdu).length+(if ([]:List Qdu).isEmpty then 0 else 1)<30))=true:=by rfl)
 (hline:(apos.endLine==cpos.line)=true:=by rfl) (hs:Qu [e] X.env=(false,eval e X.env)::Qu [] X.env:=by rfl) (hplain:(V8 cpos (Qu [] X.env)).any (·.1)=false:=by rfl) :
 PE X (.Call (.Attribute o "append" apos) [e] [] cpos) (tBM X.K "list" qse to (qww te tNil)) :=
 zakr Qfv Qfo PySem.F.type_list_append zaaw ho (qV he qcq hs) hbase hfew hline hs hplain
end
end
section
def qlx (cells:List (Str×Addr)):List (Str×Qbe)->List (Str×Addr)->List (Str×Addr)
 | [],acc=>acc
 | (n,k)::r,acc=>if (k == .free)=true then (match cells.lookup n with|some c=>qlx cells r ((n,c)::acc)|none=>qlx cells r acc) else qlx cells r acc
def qhk {cells:List (Str×Addr)} : ∀ {names:List (Str×Qbe)}{acc:List (Str×Addr)}{p:Str×Addr},p ∈ qlx cells names acc->p ∈ acc\/cells.lookup p.1=some p.2
 | [],acc,p,h => .inl h
 | (n,k)::r,acc,p,h=>by
  unfold qlx at h;split at h
  ·split at h
   ·rename_i c hc;rcases qhk h with h|h
    ·rcases Q3.mp h with h|h
     ·subst h;exact .inr hc
     ·exact .inl h
    ·exact .inr h
   ·exact qhk h
  ·exact qhk h
def qhj {cells:List (Str×Addr)} : ∀ {names:List (Str×Qbe)}{acc:List (Str×Addr)}{x:Str},((∃ c,(x,c) ∈ acc)\/((x,Qiv) ∈ names /\ ∃ c,cells.lookup x=some c)) -> ∃ c,(x,c) ∈ qlx cells names acc
 | [],acc,x,h=>by
  rcases h with h|h
  ·exact h
  ·exact absurd h.1 (by simp)
 | (n,k)::r,acc,x,h=>by
  unfold qlx;split
  ·rename_i hk;split
   ·rename_i c hc;refine qhj ?_;rcases h with ⟨d,h⟩|⟨h,d,hd⟩
    ·exact .inl ⟨d,Qs _ h⟩
    ·rcases Q3.mp h with h|h
     ·cases h;exact .inl ⟨c,by simp⟩
     ·exact .inr ⟨h,d,hd⟩
   ·rename_i hc;refine qhj ?_;rcases h with h|⟨h,d,hd⟩
    ·exact .inl h
    ·rcases Q3.mp h with h|h
     ·cases h;rw [hd] at hc;cases hc
     ·exact .inr ⟨h,d,hd⟩
  ·rename_i hk;refine qhj ?_;rcases h with h|⟨h,d,hd⟩
   ·exact .inl h
   ·rcases Q3.mp h with h|h
    ·cases h;exact absurd rfl hk
    ·exact .inr ⟨h,d,hd⟩
def qps {x:Str}{c:Addr} : ∀ {names:List (Str×Qbe)}{n:Nat}{acc:List (Str×Addr)},(V9 n names acc).lookup x=some c->(n<=c/\(x,Qai) ∈ names)\/acc.lookup x=some c
 | [],_,_,h => .inr h
 | (y,k)::r,n,acc,h=>by
  unfold V9 at h;split at h
  ·rename_i hk;rcases qps h with ⟨h1,h2⟩|h1
   ·exact .inl ⟨by omega,Qs _ h2⟩
   ·by_cases e:x=y
    ·subst e;have hb:(x==x)=true:=by simp
     rw [Yk,hb] at h1;have hk':k = .cell:=by simpa using hk
     subst hk';cases h1;exact .inl ⟨Qz _,by simp⟩
    ·have hb:(x==y)=false:=by simpa using e
     rw [Yk,hb] at h1;exact .inr h1
  ·rcases qps h with ⟨h1,h2⟩|h1
   ·exact .inl ⟨h1,Qs _ h2⟩
   ·exact .inr h1
def qxl {x:Str} : ∀ {names:List (Str×Qbe)}{n:Nat}{acc:List (Str×Addr)},(x,Qai) ∉ names->(V9 n names acc).lookup x=acc.lookup x
 | [],_,_,_=>rfl
 | (y,k)::r,n,acc,h=>by
  have hr:(x,Qai) ∉ r:=fun z=>h (Qs _ z);unfold V9;split
  ·rename_i hk;have hk':k = .cell:=by simpa using hk
   subst hk';have e:x≠y:=fun z=>h (by rw [z];simp);have hb:(x==y)=false:=by simpa using e
   rw [qxl hr,Yk,hb]
  ·exact qxl hr
def qoi {x:Str}{c lo:Nat} : ∀ {names:List (Str×Qbe)}{n:Nat}{acc:List (Str×Addr)},lo<=n->((x,Qai) ∈ names \/ ∃ a,acc.lookup x=some a/\lo<=a)->(V9 n names acc).lookup x=some c->lo<=c
 | [],_,acc,_,h,e=>by
  rcases h with h|⟨a,h1,h2⟩
  ·simp at h
  ·have e:acc.lookup x=some c:=e;rw [h1] at e;cases e;exact h2
 | (y,k)::r,n,acc,hn,h,e=>by
  unfold V9 at e;split at e
  ·rename_i hk;refine qoi (lo:=lo) (by omega) ?_ e;by_cases z:x=y
   ·subst z;have hb:(x==x)=true:=by simp
    exact .inr ⟨n,by rw [Yk,hb],hn⟩
   ·have hb:(x==y)=false:=by simpa using z
    rcases h with h|⟨a,h1,h2⟩
    ·rcases Q3.mp h with h|h
     ·cases h;exact absurd rfl z
     ·exact .inl h
    ·exact .inr ⟨a,by rw [Yk,hb];exact h1,h2⟩
  ·rename_i hk;refine qoi hn ?_ e;rcases h with h|h
   ·rcases Q3.mp h with h|h
    ·cases h;exact absurd rfl hk
    ·exact .inl h
   ·exact .inr h
def qxj {x y:Str}{c:Addr} : ∀ {names:List (Str×Qbe)}{n:Nat}{acc:List (Str×Addr)},(∀ z a,acc.lookup z=some a->a<n)->n<=c->(V9 n names acc).lookup x=some c->(V9 n names acc).lookup y=some c->x=y
 | [],n,acc,hA,hn,h,_=>absurd (hA x c h) (Vy.mpr hn)
 | (w,k)::r,n,acc,hA,hn,h,h'=>by
  unfold V9 at h h';split at h
  ·rename_i hk;rw [if_pos hk] at h';have hA' : ∀ z a,((w,n)::acc).lookup z=some a->a<n+1:=fun z a q=>by
    rw [Yk] at q;split at q
    ·cases q;exact Qam _
    ·exact Yy (hA z a q)
   have at_n : ∀ z,((w,n)::acc).lookup z=some n->z=w:=fun z q=>by
    rw [Yk] at q;split at q
    ·rename_i hb;exact beq_iff_eq.mp hb
    ·exact absurd (hA z n q) (Ja _)
   by_cases e:c=n
   ·subst e;have a1:x=w:=by
     rcases qps h with ⟨q,_⟩|q
     ·exact absurd q (Qhu _)
     ·exact at_n x q
    have a2:y=w:=by
     rcases qps h' with ⟨q,_⟩|q
     ·exact absurd q (Qhu _)
     ·exact at_n y q
    rw [a1,a2]
   ·exact qxj hA' (Nat.lt_of_le_of_ne hn (Yb e)) h h'
  ·rename_i hk;rw [if_neg hk] at h';exact qxj hA hn h h'
def qrv {x:Str}{c:Addr} : ∀ {names:List (Str×Qbe)}{h:Heap}{acc:List (Str×Addr)},(V9 h.objs.size names acc).lookup x=some c->acc.lookup x=some c\/(Qfu h names).IsCell c none
 | [],_,_,e => .inl e
 | (y,k)::r,h,acc,e=>by
  unfold V9 at e;unfold Qfu;split at e
  ·rename_i hk;rw [if_pos hk];have e':(V9 (h.push { cls :=.type "cell",data :=.cell none }).objs.size r ((y,h.objs.size)::acc)).lookup x=some c:=by rw [Yz];exact e
   rcases qrv e' with q|q
   ·rw [Yk] at q;split at q
    ·have q:=Qx q;subst q;exact .inr ⟨_,Qhl _ _ _ _ (Qy _ rfl),rfl⟩
    ·exact .inl q
   ·exact .inr q
  ·rename_i hk;rw [if_neg hk];exact qrv e
def zaba {M:Model}{A:Z2}{E:Value->Ql->Prop}{s:Ql}{scope:Scope}{globals:Addr}{cl:List (Str×Addr)}{qual:Str}{outer:Env}{Q:Env->Ql->Prop}
 (hQ:Q (newEnv scope s.heap.objs.size globals (V9 (s.heap.objs.size+1) scope.names cl) qual none .none (some outer) Qeg) { s with heap:=Qfu (s.heap.push { cls :=.type "dict",data :=.dict #[] }) scope.names }) :
  wpAny M A (Qie scope globals cl [] qual none .none (some outer)) Q E s:=by
  simp only [Qie,Qiw,if_true];refine Qd (wpAny_alloc ?_);refine Qd (wpAny_layCells _ (fun name kind cells=>by cases hkc:kind==Qai <;> simp [hkc]) _ _ _ _ ?_);rw [show ({ s with heap:=s.heap.push { cls :=.type "dict",data :=.dict #[] } }:Ql).heap.objs.size=s.heap.objs.size+1 from Yz ..];rw [Qdm];exact Qd (Qo (Qo hQ))
structure CompScope (env:Env) (scope:Scope) (caps:List Str):Prop where
 clos:closureFor scope env=pure (qlx env.cells scope.names [])
 kind:scope.kind = .function
 cells:scope.names.all (fun y => !(y.2 == .cell)||scope.names.lookup y.1==some .cell)=true
 names:scope.names.all (fun y => !(y.2 == .local)||scope.names.lookup y.1==some .local)=true
 free:scope.names.all (fun y => !(y.2 == .free)||(env.cells.lookup y.1).isSome)=true
 cap:caps.all (fun x=>scope.names.lookup x==some .free&&(env.scope.names.lookup x==some .cell||env.scope.names.lookup x==some .free))=true
def qfu {β:Type} : ∀ {l:List (Str×β)}{x:Str}{c:β},l.lookup x=some c->(x,c) ∈ l:=fun h=>Vx h
def qms : ∀ {l:List (Str×Addr)}{x:Str}{c:Addr},(x,c) ∈ l -> ∃ d,l.lookup x=some d
 | [],_,_,h=>by simp at h
 | (y,d)::r,x,c,h=>by
  by_cases e:x=y
  ·subst e;exact ⟨d,by simp⟩
  ·have hb:(x==y)=false:=by simpa using e
   rcases Q3.mp h with h|h
   ·cases h;exact absurd rfl e
   ·obtain ⟨d',hd⟩:=qms h;exact ⟨d',by rw [Yk,hb];exact hd⟩
section
variable {env:Env}{scope:Scope}{caps:List Str}
abbrev clOf (scope:Scope) (env:Env):List (Str×Addr):=qlx env.cells scope.names []
def CompScope.sub (S:CompScope env scope caps) {x:Str}{c:Addr} (h:(clOf scope env).lookup x=some c):env.cells.lookup x=some c:=by
 rcases qhk (qfu h) with h|h
 ·simp at h
 ·exact h
def qgv {x:Str}{k:Qbe} (h:(Qls scope env).names.lookup x=some k) : ∃ k',(x,k') ∈ scope.names/\(k'=k\/(k' = .free/\k = .cell)):=by
 have hm:=qfu h;obtain ⟨⟨n,k0⟩,h1,h2⟩:=Qm.mp hm;dsimp only at h2;split at h2
 ·rename_i hc;cases h2;have:k0 = .free:=by
   have:=(Vu.mp (Vu.mp hc).1).1;simpa using this
  subst this;exact ⟨_,h1,.inr ⟨rfl,rfl⟩⟩
 ·cases h2;exact ⟨_,h1,.inl rfl⟩
abbrev qpu (scope:Scope) (env:Env) (n:Nat):List (Str×Addr):=V9 n scope.names (clOf scope env)
def CompScope.hasF (S:CompScope env scope caps) {x:Str} (key:(x,Qiv) ∈ scope.names) : ∃ c,(clOf scope env).lookup x=some c:=by
 have:=Zi.mp S.free _ key;have hs:(env.cells.lookup x).isSome=true:=by simpa using this
 obtain ⟨c,hc⟩:=J4.mp hs;obtain ⟨d,hd⟩:=qhj (cells:=env.cells) (names:=scope.names) (acc:=[]) (.inr ⟨key,c,hc⟩);exact qms hd
def CompScope.isC (S:CompScope env scope caps) {x:Str} (h:(x,Qai) ∈ scope.names):scope.names.lookup x=some .cell:=by
 have:=Zi.mp S.cells _ h;simpa using this
def CompScope.has (S:CompScope env scope caps) {x:Str} (n:Nat) (h:(Qls scope env).names.lookup x=some .cell\/(Qls scope env).names.lookup x=some .free) : ∃ c,(qpu scope env n).lookup x=some c:=by
 have key:scope.names.lookup x=some .cell\/(x,Qiv) ∈ scope.names:=by
  rcases h with h|h
  ·obtain ⟨k',h1,h2⟩:=qgv h;rcases h2 with rfl|⟨rfl,_⟩
   ·exact .inl (S.isC h1)
   ·exact .inr h1
  ·obtain ⟨k',h1,h2⟩:=qgv h;rcases h2 with rfl|⟨_,h2⟩
   ·exact .inr h1
   ·cases h2
 refine J4.mp (Qcy scope.names n _ ?_);rcases key with k|k
 ·exact .inl k
 ·obtain ⟨c,hc⟩:=S.hasF k;exact .inr (by rw [hc];rfl)
def CompScope.look (S:CompScope env scope caps) {x:Str}{n:Nat}{c:Addr} (h:(qpu scope env n).lookup x=some c):(n<=c/\(x,Qai) ∈ scope.names)\/env.cells.lookup x=some c:=by
 rcases qps h with q|q
 ·exact .inl q
 ·exact .inr (S.sub q)
end
def blk (X:Cx) (pins:List (Addr×Obj)) (scope:Scope) (N':List Str) (s3:Ql) (H:Hp) (ex:List Addr):Cx where
 prog:=X.prog
 w:=X.w
 K:=X.K
 mg:=X.mg
 base:=X.base
 A:=X.A
 N:=N'
 s₀:=s3
 H₀:=H
 env:=compEnvC scope (qpu scope X.env (s3.heap.objs.size+1)) s3.heap.objs.size X.env
 outer:=X.stack
 stack:=X.stack
 ex:=ex
 fn:=fun x=>scope.names.lookup x==some .cell
 calm:=X.calm
 pn:=X.pn++pins
 xe:=fun _ _=>False
def qoy (ix:List Nat) (k:Nat) (σ:St):St:=ix.map (fun i=>(σ[i]?).join)++Q4 k none
def qwv (ix:List Nat) (k:Nat) (wi:TI) (g:TG) (te:TE):TE:=fun σ H Q=>wi σ H fun J H1 => ∃ W:Nat->Nat->List V->St->Hp->Prop,(∃ m,W 0 m [] (qoy ix k σ) H1) /\ ∀ i m ys σ1 H2,W i m ys σ1 H2 ->
 (J.stop i H2/\ys.length<=Q9 /\ ∀ p,H2 p=none->Q (.ref p) (upd H2 p (.lst ys))) \/
 (J.go i H2/\ys.length<Q9 /\ ∃ N:V->St->Hp->Prop,(∀ y σ2 H5,N y σ2 H5 -> ∃ m',m'<m/\W (i+1) m' (ys++[y]) σ2 H5) /\ ∀ x H3,J.yld i H2 x H3->g x σ1 H3 fun σ2 H4=>te σ2 H4 fun y H5=>N y σ2 H5)
def qgm {prog:Zo}{w:World}{A:Z2}{R:Result->Ql->Prop}{s:Ql}{elt target iter:Expr}{scope:Scope}{pos:Pos}{it acc:Value}{env:Env} (I:Nat->Ql->Prop)
 (turn : ∀ n s,I n s->wpAny (model prog w) A (Qcw it) (fun r s₁=>match r with
  | none=>R (.ok .next) s₁
  | some v=>wpAny (model prog w) A (Qcu target it v) (fun _ s₁'=>wpAny (model prog w) A (Qgl target env v) (fun _ s₂=>wpAny (model prog w) A (eval elt env) (fun x s₃ =>
   wpAny (model prog w) A (call (.builtin "list.append") [acc,x]) (fun _ s₄ => ∃ m,m<n/\I m s₄) (Qfj (model prog w) A env fun e s'=>R (.error e) s') s₃)
   (Qfj (model prog w) A env fun e s'=>R (.error e) s') s₂) (Qfj (model prog w) A env fun e s'=>R (.error e) s') s₁') (Qfj (model prog w) A env fun e s'=>R (.error e) s') s₁) (Qfj (model prog w) A env fun e s'=>R (.error e) s') s)
  (n:Nat) (h:I n s):Qdv (model prog w) A (.compLoop (.ListComp elt [⟨target,iter,[],0⟩] scope pos) 0 it acc env) R s:=by
  refine codeAny_loop rfl I (fun n s hI=>?_) n h;show wpAny _ _ ((compTurn (.ListComp elt [⟨target,iter,[],0⟩] scope pos) 0 it acc env).onRaise (fun x=>do noteFrame x env;theTreesLotGoes x)) _ _ s;refine wpAny_noted ?_;rw [compTurn_list1];refine Qd (Qgg (Qd (Vo (turn n s hI) (fun r s₁ h₁=>?_) fun _ _ h'=>h')));cases r with
  | none=>exact Qo h₁
  | some v =>
   exact Qd (Vo h₁ (fun _ s₁' h₁'=>Qd (Vo h₁' (fun _ s₂ h₂=>Qd (Qd (Vo h₂ (fun x s₃ h₃=>Qd (Vo h₃
    (fun _ s₄ h₄=>Qo (Qo ⟨rfl,h₄⟩)) fun _ _ h'=>h')) fun _ _ h'=>h'))) fun _ _ h'=>h')) fun _ _ h'=>h')
section
variable {X:Cx}{elt target iter:Expr}{scope:Scope}{pos:Pos}{caps own:List Str}{ix:List Nat}{wi:TI}{g:TG}{te:TE}
def tYes:TT:=fun _ H Q=>Q true H
abbrev TstT:=Env->(Bool->Ql->Prop)->(Value->Ql->Prop)->Ql->Prop
def zapb (prog:Zo) (w:World) (A:Z2) (elt target iter:Expr) (cs:List Expr) (scope:Scope) (pos:Pos) (Tst:TstT):Prop := ∀ {R:Result->Ql->Prop}{s:Ql}{it acc:Value}{env:Env} (I:Nat->Ql->Prop)
 (turn : ∀ n s,I n s->wpAny (model prog w) A (Qcw it) (fun r s₁=>match r with
  | none=>R (.ok .next) s₁
  | some v=>wpAny (model prog w) A (Qcu target it v) (fun _ s₁'=>wpAny (model prog w) A (Qgl target env v) (fun _ s₂=>Tst env (fun b s₂'=>match b with
   | true=>wpAny (model prog w) A (eval elt env) (fun x s₃ =>
    wpAny (model prog w) A (call (.builtin "list.append") [acc,x]) (fun _ s₄ => ∃ m,m<n/\I m s₄) (Qfj (model prog w) A env fun e s'=>R (.error e) s') s₃)
    (Qfj (model prog w) A env fun e s'=>R (.error e) s') s₂'
   | false => ∃ m,m<n/\I m s₂') (Qfj (model prog w) A env fun e s'=>R (.error e) s') s₂) (Qfj (model prog w) A env fun e s'=>R (.error e) s') s₁') (Qfj (model prog w) A env fun e s'=>R (.error e) s') s₁) (Qfj (model prog w) A env fun e s'=>R (.error e) s') s)
 (n:Nat) (h:I n s),Qdv (model prog w) A (.compLoop (.ListComp elt [⟨target,iter,cs,0⟩] scope pos) 0 it acc env) R s
def zabc {cs:List Expr}{tt:TT}{Tst:TstT} (hloop:zapb X.prog X.w X.A elt target iter cs scope pos Tst) (hc:X.calm=true) (S:CompScope X.env scope caps) (hi:PI X target iter wi)
 (hg : ∀ pins s3 H ex,PG (blk X pins scope (caps++own) s3 H ex) target g)
 (he : ∀ pins s3 H ex,PE (blk X pins scope (caps++own) s3 H ex) elt te)
 (htst : ∀ pins s3 H ex pins' s σ H' Qb P E,Inv (blk X pins scope (caps++own) s3 H ex) pins' σ H' s->tt σ H' Qb->(∀ b s' H'',Inv (blk X pins scope (caps++own) s3 H ex) pins' σ H'' s'->Qb b H''->P b s')->Tst (blk X pins scope (caps++own) s3 H ex).env P E s)
 (hix:caps.length=ix.length) (hcapB:(caps.zip ix).all (fun p=>X.N[p.2]?==some p.1)=true)
 (hs : ∀ x,Y2 iter X.env x=pure x) {use:Option (Value->Sem Unit)}{Q0:Value->Ql->Prop}{Qv:VK}{pins:List (Addr×Obj)}{s:Ql}{σ:St}{H:Hp}{pos':Pos} (I:Inv X pins σ H s) {Inner:It->Hp->Prop} (h:wi σ H Inner)
 (hin : ∀ J H1,Inner J H1 -> ∃ W:Nat->Nat->List V->St->Hp->Prop,(∃ m,W 0 m [] (qoy ix own.length σ) H1) /\ ∀ i m ys σ1 H2,W i m ys σ1 H2 ->
 (J.stop i H2/\ys.length<=Q9 /\ ∀ p,H2 p=none->Qv (.ref p) (upd H2 p (.lst ys))) \/
 (J.go i H2/\ys.length<Q9 /\ ∃ (N:V->St->Hp->Prop) (N0:St->Hp->Prop),(∀ y σ2 H5,N y σ2 H5 -> ∃ m',m'<m/\W (i+1) m' (ys++[y]) σ2 H5)/\(∀ σ2 H5,N0 σ2 H5 -> ∃ m',m'<m/\W (i+1) m' ys σ2 H5) /\
 ∀ x H3,J.yld i H2 x H3->g x σ1 H3 fun σ2 H4=>tt σ2 H4 fun b H5=>match b with|true=>te σ2 H5 fun y H6=>N y σ2 H6|false=>N0 σ2 H5))
 (fin : ∀ (D C:Addr) (s6:Ql) (H6:Hp) (m6:Str->Option Value),s6.heap.Ns C m6->Inv X pins σ H6 s6->H6 C=none->C≠X.env.locals->C ∉ X.fs->(C ∈ X.ex\/X.s₀.heap.objs.size<=C)->(∀ x c,X.env.cells.lookup x=some c->c≠C)->(∀ p ∈ X.pn++pins,p.1≠C)->Qv (.ref D) H6 ->
 compPost (model X.prog X.w) X.A X.xe use Q0 (.ref D) C (.ok .next) s6) :
 wpAny (model X.prog X.w) X.A (Qjl (.ListComp elt [⟨target,iter,cs,0⟩] scope pos) scope X.env pos' (newList []) false (eval iter X.env) use) Q0 X.xe s:=by
  have hcap : ∀ (j:Nat) (x:Str) (i:Nat),caps[j]?=some x->ix[j]?=some i->X.N[i]?=some x:=fun j x i h1 h2=>by
   have hm:(x,i) ∈ caps.zip ix:=by
    have:(caps.zip ix)[j]?=some (x,i):=by rw [Yq];exact ⟨h1,h2⟩
    exact Qj this
   have:=Zi.mp hcapB _ hm;simpa using this
  have hnm : ∀ y ∈ scope.names,y.2 = .local->scope.names.lookup y.1=some .local:=fun y hy hl=>by
   have:=Zi.mp S.names y hy;rw [hl] at this;simpa using this
  refine wpAny_comprehension_free (use:=use) rfl hs S.clos S.kind hnm (thn (hi pins s σ H _ I h) fun v s1 h1=>thn h1 fun itv s2 h2=>?_);obtain ⟨it,fp,tn,J,H2,e,I2,T,st2,f2,hJ⟩:=h2;obtain ⟨W,⟨m0,w0⟩,turn⟩:=hin J H2 hJ;subst e;refine Y3 (zaba ?_);dsimp only;generalize eh0:s2.heap.push { cls :=.type "list",data :=.seq #[] }=h3;have hns₁:(Qfu (h3.push { cls :=.type "dict",data :=.dict #[] }) scope.names).Ns h3.objs.size (fun _=>none):=(Heap.Ns.new h3 (.type "dict")).keeps (Qhl _ _);have hkp : ∀ b o,h3.get? b=some o->(Qfu (h3.push { cls :=.type "dict",data :=.dict #[] }) scope.names).get? b=some o:=fun b o q=>Qhl _ _ b o (Qf _ q);have hcl₁ : ∀ x c,(qpu scope X.env (h3.objs.size+1)).lookup x=some c->(clOf scope X.env).lookup x=some c\/(Qfu (h3.push { cls :=.type "dict",data :=.dict #[] }) scope.names).IsCell c none:=fun x c q=>by
   refine qrv (h:=h3.push { cls :=.type "dict",data :=.dict #[] }) ?_;rw [Yz];exact q
  generalize Qfu (h3.push { cls :=.type "dict",data :=.dict #[] }) scope.names=h₁ at hns₁ hkp hcl₁ ⊢;obtain ⟨s3,hs3⟩ : ∃ s3:Ql,s3={ s2 with heap:=h3 }:=⟨_,rfl⟩
  have e3:h3=s3.heap:=by rw [hs3]
  subst e3;have eh:s3.heap=s2.heap.push { cls :=.type "list",data :=.seq ([]:List Value).toArray }:=eh0.symm;have hC:s3.heap.objs.size=s2.heap.objs.size+1:=by rw [eh,Yz]
  have hDlt:s2.heap.objs.size<s3.heap.objs.size:=by omega
  have k23 : ∀ b o,s2.heap.get? b=some o->s3.heap.get? b=some o:=fun b o q=>by rw [eh];exact Qf _ q
  have hD3:s3.heap.get? s2.heap.objs.size=some { cls :=.type "list",data :=.seq ([]:List Value).toArray }:=by rw [eh];exact Qy _ rfl
  have I3:Inv X pins σ H2 s3:=by rw [hs3];exact I2.kept (t':=s2.toks) k23
  have k34 : ∀ b o,s3.heap.get? b=some o->h₁.get? b=some o:=hkp;have fpl : ∀ b ∈ fp,b<s2.heap.objs.size:=fun b hb=>by
   obtain ⟨o,q,_⟩:=T.obj 0 _ st2 b hb;exact Qp q
  have cel : ∀ x c,X.env.cells.lookup x=some c->c<s2.heap.objs.size:=fun x c q=>by
   obtain ⟨v,o,z,_⟩:=I2.cell x c q;exact Qp z
  have ncl : ∀ x c,(qpu scope X.env (s3.heap.objs.size+1)).lookup x=some c->X.env.cells.lookup x=some c\/s3.heap.objs.size<c:=fun x c q=>(S.look q).elim (fun z => .inr z.1) .inl;have pnl : ∀ p ∈ X.pn++pins,p.1<s2.heap.objs.size:=fun p hp=>Qp (I2.pin p hp).1;have hDn:H2 s2.heap.objs.size=none:=I2.hok.fresh (Qz _);have ok:(blk X pins scope (caps++own) s3 H2 (s2.heap.objs.size::fp)).Ok:=by
   refine ⟨I2.mod,S.kind,I2.ok.glob,I2.ok.blt,Qz _,fun x y c h1 h2=>?_,fun x hx=>S.has _ hx,fun x c hf q=>?_,I2.ok.hd,I2.ok.frames,.inl rfl,fun b hb=>?_,I3.bs,?_,fun b o q hb=>?_,fun b hb=>?_,I3.stack,I3.stkFree⟩
   ·rcases ncl x c h1 with q1|q1
    ·rcases ncl y c h2 with q2|q2
     ·exact I2.ok.inj x y c q1 q2
     ·exact absurd (Y8 (cel x c q1) hDlt) (Vy.mpr (Z6 q2))
    ·exact qxj (n:=s3.heap.objs.size+1) (acc:=clOf scope X.env) (fun z a q=>Yy (Y8 (cel z a (S.sub q)) hDlt)) q1 h1 h2
   ·exact Zr (Qih _) (qoi (lo:=s3.heap.objs.size+1) (Qz _) (.inl (qfu (beq_iff_eq.mp hf))) q)
   ·have hb':b=s2.heap.objs.size\/b ∈ fp:=Q3.mp hb;rcases hb' with rfl|hb'
    ·exact ⟨Qq hDlt,fun x c q=>(ncl x c q).elim (fun z=>Qq (cel x c z)) fun z=>Yv (Y8 hDlt z)⟩
    ·exact ⟨Qq (Y8 (fpl b hb') hDlt),fun x c q=>(ncl x c q).elim (fun z=>(f2 b hb').2.2.2.2.1 x c z) fun z=>Yv (Y8 (fpl b hb') (Y8 hDlt z))⟩
   ·exact Zr I2.ok.bsz I3.sz
   ·have hlt:b<X.base.objs.size:=Qp q;have hb':b=s2.heap.objs.size\/b ∈ fp:=Q3.mp hb;have h1:=I2.ok.bsz;have h2:=I2.sz;rcases hb' with rfl|hb'
    ·exact absurd hlt (Vy.mpr (Zr h1 h2))
    ·rcases (f2 b hb').2.2.2.1 with z|z
     ·exact I2.ok.noex b o q z
     ·exact absurd hlt (Vy.mpr (Zr h1 z))
   ·have hb':b=s2.heap.objs.size\/b ∈ fp:=Q3.mp hb;intro z;have z':=I2.stkSub b z;rcases hb' with rfl|hb'
    ·rcases Q3.mp z' with z'|z'
     ·exact Yv I2.lt z'
     ·exact I2.nofs (Qz _) z'
    ·rcases Q3.mp z' with z'|z'
     ·exact (f2 b hb').2.1 z'
     ·exact (f2 b hb').2.2.1 z'
  have len0:(qoy ix own.length σ).length=(caps++own).length:=by unfold qoy;simp [hix]
  have I4:Inv (blk X pins scope (caps++own) s3 H2 (s2.heap.objs.size::fp)) [] (qoy ix own.length σ) H2 { s2 with heap:=h₁ }:=by
   obtain ⟨mX,nsX,lkX⟩:=I3.loc;refine ⟨ok,(by show s2.os=s3.os;rw [hs3]),I2.bare,Un.kept k34,⟨_,hns₁,fun j x v h1 h2 h3=>?_⟩,fun x c q=>?_,I3.hok.fresh (Qz _),fun x c q=>(ncl x c q).elim (fun z=>I3.freeC x c z) fun z=>I3.hok.fresh (Z6 z),fun p hp=>?_,I3.hok.kept k34,len0⟩
   ·-- a captured name
    have hj:j<ix.length:=by
     unfold qoy at h2;by_cases hj:j<ix.length
     ·exact hj
     ·rw [Yi (by simpa using hj),Vr] at h2;split at h2 <;> cases h2
    have h1':caps[j]?=some x:=by
     have:(caps++own)[j]?=some x:=h1
     rwa [Zm (by omega)] at this
    have hij:ix[j]?=some ix[j]:=Qa hj;have hv:σ[ix[j]]?=some (some v):=by
     unfold qoy at h2;rw [Zm (by simpa using hj),Qc,hij] at h2;have h2':(σ[ix[j]]?).join=some v:=by simpa using h2
     cases q:σ[ix[j]]? with
     | none=>rw [q] at h2';cases h2'
     | some o=>rw [q] at h2';cases o with
      | none=>cases h2'
      | some y=>have:y=v:=by simpa using h2'
                rw [this]
    have hk:=Zi.mp S.cap x (Qj h1');obtain ⟨k1,k2⟩:=Vu.mp hk;have k1':scope.names.lookup x=some .free:=by simpa using k1
    have k2':X.env.scope.names.lookup x=some .cell\/X.env.scope.names.lookup x=some .free:=by simpa using k2
    obtain ⟨u,ru,lk⟩:=lkX ix[j] x v (hcap j x _ h1' hij) hv (k2'.elim (fun z => .inr (.inl z)) (fun z => .inr (.inr z)));refine ⟨u,ru,?_⟩;have hrel:(Qls scope X.env).names.lookup x=some .cell\/(Qls scope X.env).names.lookup x=some .free:=by
     rcases h3 with h3|h3|h3
     ·have h3':(Qls scope X.env).names.lookup x=some Qbe.local:=h3;obtain ⟨k',m1,m2⟩:=qgv h3';rcases m2 with rfl|⟨_,m2⟩
      ·have:=hnm _ m1 rfl;rw [k1'] at this;cases this
      ·cases m2
     ·exact .inl h3
     ·exact .inr h3
    have hxc:(x,Qai) ∉ scope.names:=fun z=>by
     have:=S.isC z;rw [k1'] at this;cases this
    obtain ⟨c,hcl⟩:=S.hasF (qfu k1');have hcl':(qpu scope X.env (s3.heap.objs.size+1)).lookup x=some c:=(qxl hxc).trans hcl;rcases lk with ⟨kl,_⟩|⟨_,c',ec,ic⟩
    ·have kl':X.env.scope.names.lookup x=some .local:=kl;rcases k2' with z|z <;> (rw [kl'] at z;cases z)
    ·have:=S.sub hcl;have ee:c'=c:=by rw [ec] at this;exact Qx this
     exact .inr ⟨hrel,c,hcl',ee ▸ ic.keeps k34⟩
   ·rcases hcl₁ x c q with z|z
    ·obtain ⟨v,ic⟩:=I3.cell x c (S.sub z);exact ⟨v,ic.keeps k34⟩
    ·exact ⟨_,z⟩
   ·have hp':p ∈ X.pn++pins:=by simpa [blk] using hp
    obtain ⟨q1,q2,q3,q4,q5⟩:=I3.pin p hp';refine ⟨k34 _ _ q1,q2,Qq (Y8 (pnl p hp') hDlt),fun z=>?_,q5⟩;rcases Q3.mp (I3.stkSub p.1 z) with z'|z'
    ·exact q3 z'
    ·exact q4 z'
  have hD4:h₁.get? s2.heap.objs.size=some { cls :=.type "list",data :=.seq ([]:List Value).toArray }:=k34 _ _ hD3;have st4:tn 0 h₁:=T.keep _ _ _ st2 fun b _ o q=>k34 b o (k23 b o q);have fpk : ∀ {H':Hp}{ob:Obj},(∀ b ∈ fp,H' b=none) -> ∀ b ∈ fp,FpOk (blk X pins scope (caps++own) s3 H2 (s2.heap.objs.size::fp)) [(s2.heap.objs.size,ob)] H' b:=fun {H' ob} hn b hb=>by
   obtain ⟨_,a1,a2,a3,a4,a5⟩:=f2 b hb;refine ⟨hn b hb,Qq (Y8 (fpl b hb) hDlt),fun z=>?_,.inl (Qs _ hb),fun x c q=>(ncl x c q).elim (fun z=>a4 x c z) fun z=>Yv (Y8 (fpl b hb) (Y8 hDlt z)),fun p hp=>?_⟩
   ·rcases Q3.mp (I2.stkSub b z) with z'|z'
    ·exact a1 z'
    ·exact a2 z'
   ·have hp':p ∈ X.pn++pins\/p=(s2.heap.objs.size,ob):=by simpa [blk,or_assoc] using hp
    rcases hp' with hp'|rfl
    ·exact a5 p hp'
    ·exact Yv (fpl b hb)
  have loop : ∀ s5:Ql,s5=({ s2 with heap:=h₁ }:Ql) ->
   Qdv (model X.prog X.w) X.A (.compLoop (.ListComp elt [⟨target,iter,cs,0⟩] scope pos) 0 (.ref it) (.ref s2.heap.objs.size) (compEnvC scope (qpu scope X.env (s3.heap.objs.size+1)) s3.heap.objs.size X.env))
    (compPost (model X.prog X.w) X.A X.xe use Q0 (.ref s2.heap.objs.size) s3.heap.objs.size) s5:=by
   rintro s5 rfl;refine hloop (fun n s' => ∃ i ys its cp σ' H',Inv (blk X pins scope (caps++own) s3 H2 (s2.heap.objs.size::fp)) [] σ' H' s'/\tn i s'.heap/\(∀ b ∈ fp,H' b=none)/\H' s2.heap.objs.size=none /\
    s'.heap.get? s2.heap.objs.size=some { cls :=.type "list",data :=.seq (its:List Value).toArray cp }/\Vals ys its/\W i n ys σ' H') ?_ m0 ⟨0,[],[],_,_,H2,I4,st4,fun b hb=>(f2 b hb).1,hDn,hD4,.nil,w0⟩
   rintro n s5 ⟨i,ys,its,cp,σ5,H5,I5,st5,fr5,hD5,gD5,rv5,w5⟩;have Dfs:s2.heap.objs.size ∉ (blk X pins scope (caps++own) s3 H2 (s2.heap.objs.size::fp)).fs:=fun z=>by
    rcases Q3.mp (I2.stkSub _ z) with z'|z'
    ·exact Yv I2.lt z'
    ·exact I2.nofs (Qz _) z'
   have I5':Inv (blk X pins scope (caps++own) s3 H2 (s2.heap.objs.size::fp)) [(s2.heap.objs.size,{ cls :=.type "list",data :=.seq its.toArray cp })] σ5 H5 s5:=by
    refine I5.pins_of fun p hp=>?_;have hp':p ∈ (blk X pins scope (caps++own) s3 H2 (s2.heap.objs.size::fp)).pn++[]\/p=(s2.heap.objs.size,{ cls :=.type "list",data :=.seq its.toArray cp }):=by
     first
      | exact .inr (Qw.mp hp)
      | (rcases Zl.mp hp with z|z
         ·exact .inl (Yg _ z)
         ·exact .inr (Qw.mp z))
    rcases hp' with z|rfl
    ·exact I5.pin p z
    ·exact ⟨gD5,hD5,Qq hDlt,Dfs,fun v z=>by cases z⟩
   rcases turn i n ys σ5 H5 w5 with ⟨stop,hz,qn⟩|⟨go,hz,N,N0,hN,hN0,step⟩
   ·refine thn (T.done (blk X pins scope (caps++own) s3 H2 (s2.heap.objs.size::fp)) rfl rfl rfl hc i _ s5 σ5 H5 _ I5' (fpk fr5) st5 stop) fun r s6 ⟨hr,I6⟩=>?_;subst hr;obtain ⟨m6,ns6,_⟩:=id I6.loc;have gD6:=(I6.pin _ (Q8 _ (Qw.mpr rfl))).1;have kC : ∀ b o,b≠s3.heap.objs.size->s6.heap.get? b=some o->s6.heap.get? b=some o:=fun b o _ q=>q;have bne : ∀ b o,s2.heap.get? b=some o->b≠s3.heap.objs.size:=fun b o q=>Qq (Y8 (Qp q) hDlt);have bnD : ∀ b o,s2.heap.get? b=some o->b≠s2.heap.objs.size:=fun b o q=>Qq (Qp q);have nC : ∀ b u,H5 b=some u->b≠s3.heap.objs.size:=fun b u q z=>by
     have z1:H5 s3.heap.objs.size=none:=I6.free;rw [z,z1] at q;cases q
    have U:=I6.base;have IX:Inv X pins σ (upd H5 s2.heap.objs.size (.lst ys)) s6:=by
     refine I2.call' (ch:=s2.heap.objs.size::fp) ?_ ?_ ?_ I6.bare ?_
     ·show s6.os=s2.os;rw [I6.os];show s3.os=s2.os;rw [hs3]
     ·refine ⟨fun b o q n hb hx=>kC b o (bne b o q) (U.keep b o (k23 b o q) n hb hx),fun b o q n hb hx=>?_,fun b o q n hx=>?_,fun b o q hx=>?_,fun b xs q=>?_,fun b o u q=>?_,fun b ps q=>?_⟩
      ·obtain ⟨sl,z⟩:=U.slot b o (k23 b o q) n hb hx;exact ⟨sl,kC b _ (bne b o q) z⟩
      ·rw [qj (bnD b o q)];exact U.free b o (k23 b o q) n hx
      ·obtain ⟨o',z⟩:=U.there b o (k23 b o q) hx;exact ⟨o',kC b _ (bne b o q) z⟩
      ·have:=U.tups b xs q;rw [qj (qv this hD5)];exact this
      ·have:=U.frzs b o u q;rw [qj (qv this hD5)];exact this
      ·obtain ⟨more,z,gm⟩:=U.tbls b ps q;exact ⟨more,by rw [qj (qv z hD5)];exact z,gm.mono fun b o u q=>by rw [qj (qv q hD5)];exact q⟩
     ·intro b u q;by_cases hb:b=s2.heap.objs.size
      ·subst hb;rw [ql] at q;cases q;exact ⟨hz,its,cp,rv5,kC _ _ (Qq hDlt) gD6⟩
      ·rw [qj hb] at q;refine (I6.hok b u q).stay (fun c ob hc z=>kC c ob ?_ z) (fun c z=>by rw [qj (qv z hD5)];exact z) fun c xs z=>by rw [qj (qv z hD5)];exact z
       rcases hc with hc|hc
       ·rw [hc];exact nC b u q
       ·exact nC c _ hc
     ·intro b hb;have hb':b=s2.heap.objs.size\/b ∈ fp:=Q3.mp hb;rcases hb' with rfl|hb'
      ·exact ⟨.inr I2.sz,Yv I2.lt,fun x c q=>Qq (cel x c q),fun p hp=>Qq (pnl p hp)⟩
      ·obtain ⟨_,a1,_,a3,a4,a5⟩:=f2 b hb';exact ⟨a3,a1,a4,a5⟩
    have hCH:(upd H5 s2.heap.objs.size (.lst ys)) s3.heap.objs.size=none:=by
     rw [qj (Yv hDlt)];exact I6.free
    exact fin _ _ s6 _ m6 ns6 IX hCH (Yv (Y8 I2.lt hDlt)) (I2.nofs (Z6 hDlt)) (.inr (Zr I2.sz (Z6 hDlt))) (fun x c q=>Qq (Y8 (cel x c q) hDlt)) (fun p hp=>Qq (Y8 (pnl p hp) hDlt)) (qn _ hD5)
   ·refine thn (T.item (blk X pins scope (caps++own) s3 H2 (s2.heap.objs.size::fp)) rfl rfl rfl hc i _ s5 σ5 H5 _ I5' (fpk fr5) st5 go) fun r s6 ⟨u,hr,h6⟩=>?_;subst hr;refine thn h6 fun _ s7 xx60=>?_;obtain ⟨x,H7,I7,r7,y7,st7,fr7⟩:=xx60;have I7':=I7.pinned (fpk fr7) (T.obj _ _ st7);refine Vo (hg pins s3 H2 _ _ s7 σ5 H7 x u _ I7' r7 (step x H7 y7)) (fun _ s8 xx59=>?_) fun _ _ z=>z.elim;obtain ⟨σ8,H8,I8,q8⟩:=xx59;refine htst pins s3 H2 _ _ s8 σ8 H8 _ _ _ I8 q8 fun bt s8' H8' I8' q8'=>?_;cases bt with
    | false =>
     have q9:N0 σ8 H8':=q8';obtain ⟨m',hm',w9⟩:=hN0 σ8 H8' q9;have gD9:=(I8'.pin (s2.heap.objs.size,{ cls :=.type "list",data :=.seq its.toArray cp }) (Q8 _ (Yg _ (Qw.mpr rfl))))
     have pin8 : ∀ b ∈ fp,∀ o,s7.heap.get? b=some o->s8'.heap.get? b=some o/\H8' b=none:=fun b hb o q=>by
      have z:=I8'.pin (b,o) (Q8 _ (Q8 _ (qgc hb q)));exact ⟨z.1,z.2.1⟩
     refine ⟨m',hm',i+1,ys,its,cp,σ8,H8',?_,?_,fun b hb=>?_,gD9.2.1,gD9.1,rv5,w9⟩
     ·exact (I8'.pins_of (pins':=[]) (fun p hp=>by
       first
        | exact absurd hp (by simp)
        | (rw [Vj] at hp;exact I8'.pin p (Yg _ hp))))
     ·exact T.keep _ _ _ st7 fun b hb o q=>(pin8 b hb o q).1
     ·obtain ⟨o,q,_⟩:=T.obj _ _ st7 b hb;exact (pin8 b hb o q).2
    | true =>
     refine Vo (he pins s3 H2 _ _ s8' σ8 H8' _ I8' q8') (fun uy s9 xx58=>?_) fun _ _ z=>z.elim;obtain ⟨y,H9,I9,r9,n9⟩:=xx58;obtain ⟨m',hm',w9⟩:=hN y σ8 H9 n9;have gD9:=(I9.pin (s2.heap.objs.size,{ cls :=.type "list",data :=.seq its.toArray cp }) (Q8 _ (Yg _ (Qw.mpr rfl))))
     have pin9 : ∀ b ∈ fp,∀ o,s7.heap.get? b=some o->s9.heap.get? b=some o/\H9 b=none:=fun b hb o q=>by
      have z:=I9.pin (b,o) (Q8 _ (Q8 _ (qgc hb q)));exact ⟨z.1,z.2.1⟩
     have hl9:=rv5.length;refine Qfs Qfo ⟨_,gD9.1,rfl⟩ PySem.F.entry_list_append (PySem.F.args_list_append_2 _ _) (Qjp s2.heap.objs.size its.toArray cp uy (by rw [Qr];omega)) ⟨gD9.1,?_⟩;have qD:=Qkj gD9.1 (fun xs=>xs.push uy);have ep:its.toArray.push uy=(its++[uy]).toArray:=by simp
     rw [ep] at qD;have up : ∀ b o,b≠s2.heap.objs.size->s9.heap.get? b=some o->(s9.heap.update s2.heap.objs.size (Zx fun xs=>xs.push uy)).get? b=some o:=fun b o hb q=>(Vh s9.heap _ (Yb hb)).trans q;refine ⟨m',hm',i+1,ys++[y],its++[uy],_,σ8,H9,?_,?_,fun b hb=>?_,gD9.2.1,qD,rv5.append (.cons r9 .nil),w9⟩
     ·refine (I9.pins_of (pins':=[]) (fun p hp=>by
       first
        | exact absurd hp (by simp)
        | (rw [Vj] at hp;exact I9.pin p (Yg _ hp)))).turned (it:=s2.heap.objs.size) up gD9.2.1 (Qq hDlt) (.inl (Qas ..)) (fun x c q=>(ncl x c q).elim (fun z=>Qq (cel x c z)) fun z=>Yv (Y8 hDlt z)) fun p hp=>?_
      have hp':p ∈ X.pn++pins:=by simpa [blk] using hp
      exact Qq (pnl p hp')
     ·exact T.keep _ _ _ st7 fun b hb o q=>up b o (Qq (fpl b hb)) (pin9 b hb o q).1
     ·obtain ⟨o,q,_⟩:=T.obj _ _ st7 b hb;exact (pin9 b hb o q).2
  exact codeAny_compStart_list (loop _ rfl) (T.self _ 0 _ _ _ st4 (loop _ rfl))
def qnm (hc:X.calm=true) (S:CompScope X.env scope caps) (hi:PI X target iter wi)
 (hg : ∀ pins s3 H ex,PG (blk X pins scope (caps++own) s3 H ex) target g)
 (he : ∀ pins s3 H ex,PE (blk X pins scope (caps++own) s3 H ex) elt te)
 (hix:caps.length=ix.length) (hcapB:(caps.zip ix).all (fun p=>X.N[p.2]?==some p.1)=true)
 (hs : ∀ x,Y2 iter X.env x=pure x) {use:Option (Value->Sem Unit)}{Q0:Value->Ql->Prop}{Qv:VK}{pins:List (Addr×Obj)}{s:Ql}{σ:St}{H:Hp}{pos':Pos} (I:Inv X pins σ H s) (h:qwv ix own.length wi g te σ H Qv)
 (fin : ∀ (D C:Addr) (s6:Ql) (H6:Hp) (m6:Str->Option Value),s6.heap.Ns C m6->Inv X pins σ H6 s6->H6 C=none->C≠X.env.locals->C ∉ X.fs->(C ∈ X.ex\/X.s₀.heap.objs.size<=C)->(∀ x c,X.env.cells.lookup x=some c->c≠C)->(∀ p ∈ X.pn++pins,p.1≠C)->Qv (.ref D) H6 ->
 compPost (model X.prog X.w) X.A X.xe use Q0 (.ref D) C (.ok .next) s6) :
 wpAny (model X.prog X.w) X.A (Qjl (.ListComp elt [⟨target,iter,[],0⟩] scope pos) scope X.env pos' (newList []) false (eval iter X.env) use) Q0 X.xe s:=by
  refine zabc (cs:=[]) (tt:=tYes) (Tst:=fun _ P _ s=>P true s) (fun J turn n h=>qgm J turn n h) hc S hi hg he (fun _ _ _ _ _ s _ H' _ _ _ I q k=>k true s H' I q) hix hcapB hs I h (fun J H1 z=>?_) fin;obtain ⟨W,w0,turn⟩:=z;refine ⟨W,w0,fun i m ys σ1 H2 w=>?_⟩;rcases turn i m ys σ1 H2 w with z|z
  ·exact .inl z
  ·obtain ⟨go,hz,N,hN,step⟩:=z;exact .inr ⟨go,hz,N,fun _ _=>False,hN,fun _ _ z=>z.elim,step⟩
def qzc (hc:X.calm=true) (S:CompScope X.env scope caps) (hi:PI X target iter wi)
 (hg : ∀ pins s3 H ex,PG (blk X pins scope (caps++own) s3 H ex) target g)
 (he : ∀ pins s3 H ex,PE (blk X pins scope (caps++own) s3 H ex) elt te)
 (hix:caps.length=ix.length:=by rfl) (hcapB:(caps.zip ix).all (fun p=>X.N[p.2]?==some p.1)=true:=by rfl)
  (hs : ∀ x,Y2 iter X.env x=pure x:=by intro _;rfl):PE X (.ListComp elt [⟨target,iter,[],0⟩] scope pos) (qwv ix own.length wi g te):=by
  intro pins s σ H Q I h;rw [eval_ListComp];exact qnm (use:=none) (Q0:=EP X pins σ Q) hc S hi hg he hix hcapB hs I h fun D C s6 H6 m6 ns6 IX c1 c2 c3 c4 c5 c6 q=>⟨m6,ns6,fun h' sb=>⟨.ref D,H6,IX.turned (t':=s6.toks) (it:=C) (fun b o hb q=>sb.extBut b o hb q) c1 c2 c4 c5 c6,rfl,q⟩⟩
end
end
section
inductive Sl where
 | non
 | val (d:Qi)
 | own (ds:List Qi)
 | pen (ds:List Qi)
 | new (d:Qi)
 | exc (C:Addr)
  | obj (a C:Addr) (nm:List Str) (fs:List (Str×Qi))
abbrev Sto:=List Sl
def gS:Sto->Nat->Sl
 | [],_ => .non
 | s::_,0=>s
 | _::r,i+1=>gS r i
def Sl.mut:Sl->Bool
 | .own _=>true
 | .pen _=>true
 | _=>false
def vS (σ:St) (i:Nat):Option V:=(σ[i]?).join
def qdf : ∀ (e:Sto) (i j:Nat) (s:Sl),gS (e.set i s) j=if i=j/\i<e.length then s else gS e j
 | [],i,j,s=>by simp [gS]
 | x::e,0,0,s=>by simp [gS]
 | x::e,0,j+1,s=>by simp [gS]
 | x::e,i+1,0,s=>by simp [gS]
 | x::e,i+1,j+1,s=>by
  simp only [Qix,gS,qdf e i j s,Zp,Nat.add_right_cancel_iff,Nat.add_lt_add_iff_right]
def qxu : ∀ {e:Sto}{i:Nat},e.length<=i->gS e i = .non
 | [],_,_=>by simp [gS]
 | x::e,0,h=>by simp at h
 | x::e,i+1,h=>by simp only [gS];exact qxu (by simpa using h)
def qma (σ:St) (i j:Nat) (v:Option V):vS (σ.set i v) j=if i=j/\i<σ.length then v else vS σ j:=by
 unfold vS;rw [Yl];by_cases h:i=j
 ·subst h;by_cases h2:i<σ.length
  ·simp [h2]
  ·simp [h2]
 ·simp [h]
def qbr {σ:St}{i:Nat}{v:V} (h:vS σ i=some v):σ[i]?=some (some v):=by
 unfold vS at h;cases e:σ[i]? with
 | none=>rw [e] at h;cases h
 | some o=>rw [e] at h;cases o with
  | none=>cases h
  | some u=>simpa using h
structure Frm where
 B:Hp
 He:Hp
 F0:Hp
mutual
def IsN (K:Qe) (H:Hp):Qi->V->Prop
 | .none,v=>v = .non
 | .bool b,v=>v = .bl b
 | .int i,v=>v = .int i
 | .str x,v=>v = .str x
 | .list l,v => ∃ a xs,v = .ref a/\H a=some (.lst xs)/\IssN K H l xs
 | .tuple l,v => ∃ a xs,v = .ref a/\H a=some (.tup xs)/\IssN K H l xs
 | .dict _,_=>False
def IssN (K:Qe) (H:Hp):List Qi->List V->Prop
 | [],xs=>xs=[]
 | d::l,xs => ∃ x r,xs=x::r/\IsN K H d x/\IssN K H l r
end
mutual
def IsN.is {K:Qe}{H H':Hp} (s:Same H H') : ∀ {d:Qi}{v:V},IsN K H d v->Is K H' d v
 | .none,_,h=>by unfold IsN at h;unfold Is;exact h
 | .bool _,_,h=>by unfold IsN at h;unfold Is;exact h
 | .int _,_,h=>by unfold IsN at h;unfold Is;exact h
 | .str _,_,h=>by unfold IsN at h;unfold Is;exact h
 | .list l,_,h=>by
  unfold IsN at h;unfold Is;obtain ⟨a,xs,e,q,r⟩:=h;exact ⟨a,xs,e,SqL.of (s _ _ q),IssN.is s r⟩
 | .tuple l,_,h=>by
  unfold IsN at h;unfold Is;obtain ⟨a,xs,e,q,r⟩:=h;exact ⟨a,xs,e,SqT.of (s _ _ q),IssN.is s r⟩
 | .dict _,_,h=>by unfold IsN at h;exact h.elim
def IssN.is {K:Qe}{H H':Hp} (s:Same H H') : ∀ {l:List Qi}{xs:List V},IssN K H l xs->Iss K H' l xs
 | [],_,h=>by unfold IssN at h;unfold Iss;exact h
 | d::l,_,h=>by
  unfold IssN at h;unfold Iss;obtain ⟨x,r,e,p,q⟩:=h;exact ⟨x,r,e,IsN.is s p,IssN.is s q⟩
end
mutual
def IsN.mono {K:Qe}{H H':Hp} (s:Same H H') : ∀ {d:Qi}{v:V},IsN K H d v->IsN K H' d v
 | .none,_,h=>by unfold IsN at h ⊢;exact h
 | .bool _,_,h=>by unfold IsN at h ⊢;exact h
 | .int _,_,h=>by unfold IsN at h ⊢;exact h
 | .str _,_,h=>by unfold IsN at h ⊢;exact h
 | .list l,_,h=>by
  unfold IsN at h ⊢;obtain ⟨a,xs,e,q,r⟩:=h;exact ⟨a,xs,e,s _ _ q,IssN.mono s r⟩
 | .tuple l,_,h=>by
  unfold IsN at h ⊢;obtain ⟨a,xs,e,q,r⟩:=h;exact ⟨a,xs,e,s _ _ q,IssN.mono s r⟩
 | .dict _,_,h=>by unfold IsN at h;exact h.elim
def IssN.mono {K:Qe}{H H':Hp} (s:Same H H') : ∀ {l:List Qi}{xs:List V},IssN K H l xs->IssN K H' l xs
 | [],_,h=>by unfold IssN at h ⊢;exact h
 | d::l,_,h=>by
  unfold IssN at h ⊢;obtain ⟨x,r,e,p,q⟩:=h;exact ⟨x,r,e,IsN.mono s p,IssN.mono s q⟩
end
def zaer {K:Qe}{H:Hp}:IssN K H [] []:=by unfold IssN;rfl
def zabf {K:Qe}{H:Hp}{d:Qi}{l:List Qi}{x:V}{xs:List V} (h:IsN K H d x) (r:IssN K H l xs):IssN K H (d::l) (x::xs):=by unfold IssN;exact ⟨x,xs,rfl,h,r⟩
def qla (M:Frm) (F:Hp):Hp:=fun b=>if (M.He b).isNone=true/\(M.B b).isNone=true then F b else none
def qge {M:Frm}{F:Hp}:Same (qla M F) F:=fun b o e=>by
 unfold qla at e;split at e
 ·exact .of e
 ·cases e
def qqy {M:Frm}{F F':Hp} (s:Same F F'):Same (qla M F) (qla M F'):=fun b o e=>by
 unfold qla at e ⊢;split at e
 ·rename_i h;rw [if_pos h];exact s b o e
 ·cases e
def qni {M:Frm}{F:Hp}{a:Addr}{o:HO} (h1:M.He a=none) (h2:M.B a=none) (h3:F a=some o):qla M F a=some o:=by
 unfold qla;rw [if_pos ⟨by rw [h1];rfl,by rw [h2];rfl⟩];exact h3
def qnz {M:Frm}{F:Hp}{a:Addr}{o:HO} (h:qla M F a=some o):M.He a=none/\M.B a=none/\F a=some o:=by
 unfold qla at h;split at h
 ·rename_i z;exact ⟨Qbn.mp z.1,Qbn.mp z.2,h⟩
 ·cases h
def qix (C ea:Addr):HO :=.ext fun h => ∃ o,h.get? ea=some o/\o.cls = .ref C
section
variable (K:Qe) (M:Frm) (F H:Hp)
def SlotOk:Sl->Option V->Prop
 | .non,_=>True
 | .val d,x => ∃ v,x=some v/\Is K F d v
 | .own ds,x => ∃ a vs,x=some (.ref a)/\H a=some (.lst vs)/\F a=none/\M.B a=none/\M.He a=none/\Iss K F ds vs
 | .pen ds,x => ∃ a vs,x=some (.ref a)/\H a=some (.lst vs)/\F a=none/\M.B a=none/\(∃ o,M.He a=some o)/\Iss K F ds vs
 | .new d,x => ∃ v,x=some v/\IsN K (qla M F) d v
 | .exc C,x => ∃ ea,x=some (.ref ea)/\F ea=some (qix C ea)
 | .obj a C nm fs,x => ∃ dx vs,x=some (.ref a)/\M.B a=some (.ins C dx vs)/\vs.map (·.1)=nm /\ ∀ f d,(f,d) ∈ fs -> ∃ v,vs.lookup f=some v/\Is K F d v
structure EnvOk (env:Sto) (σ:St):Prop where
 len:env.length=σ.length
 slot : ∀ i,SlotOk K M F H (gS env i) (vS σ i)
 dis : ∀ i j a,i≠j->(gS env i).mut=true->(gS env j).mut=true->vS σ i=some (.ref a)->vS σ j=some (.ref a)->False
 f0:Same M.F0 F
 fe:Same M.F0 M.He
 fh:Same F H
 bh:Same M.B H
 new : ∀ b o,F b=some o->M.F0 b=some o\/M.He b=none
 dom : ∀ b o,M.He b=some o -> ∃ o',H b=some o'
end
structure Go (F H F' H':Hp):Prop where
 f:Same F F'
 h:Same H H'
 fh:Same F' H'
 new : ∀ b o,F' b=some o->F b=some o\/H b=none
def qB {H H':Hp} (s:Same H H') {b:Addr} (h:H' b=none):H b=none:=s.free h
def Go.refl {F H:Hp} (s:Same F H):Go F H F H:=⟨.refl _,.refl _,s,fun _ _ h => .inl h⟩
def Go.trans {F H F1 H1 F2 H2:Hp} (a:Go F H F1 H1) (b:Go F1 H1 F2 H2):Go F H F2 H2 :=
 ⟨a.f.trans b.f,a.h.trans b.h,b.fh,fun c o h=>(b.new c o h).elim (fun q=>a.new c o q) fun q => .inr (qB a.h q)⟩
def Go.put {F H:Hp}{p:Addr}{o:HO} (s:Same F H) (h:H p=none):Go F H (upd F p o) (upd H p o):=by
 refine ⟨qbn (qB s h),qbn h,fun b u e=>?_,fun b u e=>?_⟩
 ·unfold upd at e ⊢;split at e
  ·rename_i z;rw [if_pos z];exact .of e
  ·rename_i z;rw [if_neg z];exact s b u e
 ·unfold upd at e;split at e
  ·rename_i z;subst z;exact .inr h
  ·exact .inl e
def Go.side {F H:Hp}{p:Addr}{o:HO} (s:Same F H) (h:H p=none):Go F H F (upd H p o) :=
 ⟨.refl _,qbn h,s.trans (qbn h),fun _ _ e => .inl e⟩
section
variable {K:Qe}{M:Frm}{F H F' H':Hp}{env:Sto}{σ:St}
def SlotOk.go {s:Sl}{x:Option V} (h:SlotOk K M F H s x) (g:Go F H F' H'):SlotOk K M F' H' s x:=by
 have nf : ∀ {a:Addr}{o:HO},H a=some o->F a=none->F' a=none:=fun {a o} h1 h2=>by
  cases e:F' a with
  | none=>rfl
  | some u=>rcases g.new a u e with q|q
            ·rw [h2] at q;cases q
            ·rw [h1] at q;cases q
 cases s with
 | non=>trivial
 | val d=>obtain ⟨v,e,i⟩:=h;exact ⟨v,e,i.mono g.f⟩
 | own ds=>obtain ⟨a,vs,e,h1,h2,h3,h4,h5⟩:=h;exact ⟨a,vs,e,g.h _ _ h1,nf h1 h2,h3,h4,h5.mono g.f⟩
 | pen ds=>obtain ⟨a,vs,e,h1,h2,h3,hx,h5⟩:=h;exact ⟨a,vs,e,g.h _ _ h1,nf h1 h2,h3,hx,h5.mono g.f⟩
 | new d=>obtain ⟨v,e,i⟩:=h;exact ⟨v,e,i.mono (qqy g.f)⟩
 | exc C=>obtain ⟨ea,e,i⟩:=h;exact ⟨ea,e,g.f.at i⟩
 | obj a0 C nm fs=>obtain ⟨dx,vs,e,b,hn,i⟩:=h;exact ⟨dx,vs,e,b,hn,fun f d m=>let ⟨v,l,j⟩:=i f d m; ⟨v,l,j.mono g.f⟩⟩
def EnvOk.go (I:EnvOk K M F H env σ) (g:Go F H F' H'):EnvOk K M F' H' env σ where
 len:=I.len
 slot:=fun i=>(I.slot i).go g
 dis:=I.dis
 f0:=I.f0.trans g.f
 fe:=I.fe
 fh:=g.fh
 bh:=I.bh.trans g.h
 new:=fun b o e=>(g.new b o e).elim (fun q=>I.new b o q) fun q=>by
  refine .inr ?_;cases z:M.He b with
  | none=>rfl
  | some u=>obtain ⟨o',q'⟩:=I.dom b u z;rw [q] at q';cases q'
 dom:=fun b o e=>let ⟨o',q⟩:=I.dom b o e;g.h.any q
def EnvOk.he (I:EnvOk K M F H env σ) {a:Addr} (h:H a=none):M.He a=none:=by
 cases z:M.He a with
 | none=>rfl
 | some u=>obtain ⟨o',q'⟩:=I.dom a u z;rw [h] at q';cases q'
def EnvOk.setv (I:EnvOk K M F H env σ) {i:Nat}{d:Qi}{v:V} (h:Is K F d v):EnvOk K M F H (env.set i (.val d)) (σ.set i (some v)) where
 len:=by rw [Yc,Yc];exact I.len
 slot:=fun j=>by
  rw [qdf,qma,I.len];split
  ·exact ⟨v,rfl,h⟩
  ·exact I.slot j
 dis:=fun j k a hjk h1 h2 h3 h4=>by
  rw [qdf] at h1 h2;rw [qma] at h3 h4;rw [I.len] at h1 h2;split at h1
  ·cases h1
  ·rename_i z1;split at h2
   ·cases h2
   ·rename_i z2;rw [if_neg z1] at h3;rw [if_neg z2] at h4;exact I.dis j k a hjk h1 h2 h3 h4
 f0:=I.f0
 fe:=I.fe
 fh:=I.fh
 bh:=I.bh
 new:=I.new
 dom:=I.dom
def EnvOk.seto (I:EnvOk K M F H env σ) {i:Nat}{ds:List Qi}{a:Addr}{vs:List V} (h1:H a=some (.lst vs)) (h2:F a=none) (h3:M.B a=none) (h4:M.He a=none)
 (h5 : ∀ j,(gS env j).mut=true->vS σ j≠some (.ref a)) (h6:Iss K F ds vs):EnvOk K M F H (env.set i (.own ds)) (σ.set i (some (.ref a))) where
  len:=by rw [Yc,Yc];exact I.len
  slot:=fun j=>by
   rw [qdf,qma,I.len];split
   ·exact ⟨a,vs,rfl,h1,h2,h3,h4,h6⟩
   ·exact I.slot j
  dis:=fun j k b hjk m1 m2 e1 e2=>by
   rw [qdf] at m1 m2;rw [qma] at e1 e2;rw [I.len] at m1 m2;by_cases z1:i=j/\i<σ.length
   ·rw [if_pos z1] at m1 e1;have z2 : ¬ (i=k/\i<σ.length):=fun z=>hjk (z1.1.symm.trans z.1);rw [if_neg z2] at m2 e2;injection e1 with e1;injection e1 with e1;subst e1;exact h5 k m2 e2
   ·rw [if_neg z1] at m1 e1;by_cases z2:i=k/\i<σ.length
    ·rw [if_pos z2] at m2 e2;injection e2 with e2;injection e2 with e2;subst e2;exact h5 j m1 e1
    ·rw [if_neg z2] at m2 e2;exact I.dis j k b hjk m1 m2 e1 e2
  f0:=I.f0
  fe:=I.fe
  fh:=I.fh
  bh:=I.bh
  new:=I.new
  dom:=I.dom
def Sl.upd:Sl->List Qi->Sl
 | .own _,ds => .own ds
 | .pen _,ds => .pen ds
 | s,_=>s
def Sl.cnt:Sl->List Qi
 | .own ds=>ds
 | .pen ds=>ds
 | _=>[]
def SlotOk.addr {s:Sl}{x:Option V} (h:SlotOk K M F H s x) (m:s.mut=true) : ∃ a vs,x=some (.ref a)/\H a=some (.lst vs)/\F a=none/\M.B a=none/\Iss K F s.cnt vs:=by
 cases s with
 | non=>cases m
 | val d=>cases m
 | own ds=>obtain ⟨a,vs,e,h1,h2,h3,h4,h5⟩:=h;exact ⟨a,vs,e,h1,h2,h3,h5⟩
 | pen ds=>obtain ⟨a,vs,e,h1,h2,h3,hx,h5⟩:=h;exact ⟨a,vs,e,h1,h2,h3,h5⟩
 | new d=>cases m
 | exc C=>cases m
 | obj a0 C nm fs=>cases m
def zaky {e:Sto}{i:Nat} (h:(gS e i).mut=true):i<e.length:=by
 by_cases z:i<e.length
 ·exact z
 ·rw [qxu (by omega)] at h;cases h
def EnvOk.chg (I:EnvOk K M F H env σ) {i:Nat}{a:Addr}{ds:List Qi}{vs:List V} (m:(gS env i).mut=true) (ea:vS σ i=some (.ref a)) (h:Iss K F ds vs):EnvOk K M F (upd H a (.lst vs)) (env.set i ((gS env i).upd ds)) σ:=by
 obtain ⟨a',vs0,e,h1,h2,h3,h5⟩:=(I.slot i).addr m;rw [ea] at e;injection e with e;injection e with e;subst e;have hi:=zaky m;have mu:((gS env i).upd ds).mut=true:=by
  cases q:gS env i with
  | non=>rw [q] at m;cases m
  | val d=>rw [q] at m;cases m
  | own d=>rfl
  | pen d=>rfl
  | new d=>rw [q] at m;cases m
  | exc C=>rw [q] at m;cases m
  | obj a0 C nm fs=>rw [q] at m;cases m
 have muj : ∀ j,(gS (env.set i ((gS env i).upd ds)) j).mut=(gS env j).mut:=fun j=>by
  rw [qdf];split
  ·rename_i z;rw [mu,<- z.1,m]
  ·rfl
 refine ⟨by rw [Yc];exact I.len,fun j=>?_,fun j k b hjk m1 m2 e1 e2=>I.dis j k b hjk (muj j ▸ m1) (muj k ▸ m2) e1 e2,I.f0,I.fe,fun b o e=>?_,fun b o e=>?_,I.new,fun b o e=>?_⟩
 ·rw [qdf];by_cases z:i=j
  ·subst z;rw [if_pos ⟨rfl,hi⟩];have S:=I.slot i;cases q:gS env i with
   | non=>rw [q] at m;cases m
   | val d=>rw [q] at m;cases m
   | own ds0 =>
    rw [q] at S;obtain ⟨a',vs',e,g1,g2,g3,g4,g5⟩:=S;rw [ea] at e;injection e with e;injection e with e;subst e;exact ⟨a,vs,ea,ql,g2,g3,g4,h⟩
   | pen ds0 =>
    rw [q] at S;obtain ⟨a',vs',e,g1,g2,g3,gx,g5⟩:=S;rw [ea] at e;injection e with e;injection e with e;subst e;exact ⟨a,vs,ea,ql,g2,g3,gx,h⟩
   | new d=>rw [q] at m;cases m
   | exc C=>rw [q] at m;cases m
   | obj a0 C nm fs=>rw [q] at m;cases m
  ·rw [if_neg (fun y=>z y.1)];have S:=I.slot j;cases q:gS env j with
   | non=>trivial
   | val d=>rw [q] at S;exact S
   | own ds0 =>
    rw [q] at S;obtain ⟨b,vs',e,g1,g2,g3,g4,g5⟩:=S;have hb:b≠a:=fun y=>by subst y;exact I.dis i j b z m (by rw [q];rfl) ea e
    exact ⟨b,vs',e,by rw [qj hb];exact g1,g2,g3,g4,g5⟩
   | pen ds0 =>
    rw [q] at S;obtain ⟨b,vs',e,g1,g2,g3,gx,g5⟩:=S;have hb:b≠a:=fun y=>by subst y;exact I.dis i j b z m (by rw [q];rfl) ea e
    exact ⟨b,vs',e,by rw [qj hb];exact g1,g2,g3,gx,g5⟩
   | new d=>rw [q] at S;exact S
   | exc C=>rw [q] at S;exact S
   | obj a0 C nm fs=>rw [q] at S;exact S
 ·rw [qj (qv e h2)];exact I.fh b o e
 ·rw [qj (qv e h3)];exact I.bh b o e
 ·obtain ⟨o',q⟩:=I.dom b o e;by_cases z:b=a
  ·subst z;exact ⟨_,ql⟩
  ·exact ⟨o',by rw [qj z];exact q⟩
def EnvOk.frz (I:EnvOk K M F H env σ) {a:Addr}{vs:List V} (h1:H a=some (.lst vs)) (h2:F a=none) (h4:M.He a=none) (h5 : ∀ j,(gS env j).mut=true->vS σ j≠some (.ref a)) :
 EnvOk K M (upd F a (.lst vs)) H env σ/\Same F (upd F a (.lst vs)):=by
  have sF:Same F (upd F a (.lst vs)):=qbn h2;refine ⟨⟨I.len,fun j=>?_,I.dis,I.f0.trans sF,I.fe,fun b o e=>?_,I.bh,fun b o e=>?_,I.dom⟩,sF⟩
  ·have S:=I.slot j;have n5:=h5 j;cases q:gS env j with
   | non=>trivial
   | val d=>rw [q] at S;obtain ⟨v,e,i⟩:=S;exact ⟨v,e,i.mono sF⟩
   | own ds0 =>
    rw [q] at S n5;obtain ⟨b,vs',e,g1,g2,g3,g4,g5⟩:=S;have hb:b≠a:=fun y=>by subst y;exact n5 rfl e
    exact ⟨b,vs',e,g1,by rw [qj hb];exact g2,g3,g4,g5.mono sF⟩
   | pen ds0 =>
    rw [q] at S n5;obtain ⟨b,vs',e,g1,g2,g3,gx,g5⟩:=S;have hb:b≠a:=fun y=>by subst y;exact n5 rfl e
    exact ⟨b,vs',e,g1,by rw [qj hb];exact g2,g3,gx,g5.mono sF⟩
   | new d=>rw [q] at S;obtain ⟨v,e,i⟩:=S;exact ⟨v,e,i.mono (qqy sF)⟩
   | exc C=>rw [q] at S;obtain ⟨ea,e,i⟩:=S;exact ⟨ea,e,sF.at i⟩
   | obj a0 C nm fs=>rw [q] at S;obtain ⟨dx,vs',e,b',hn,i⟩:=S;exact ⟨dx,vs',e,b',hn,fun f d m=>let ⟨v,l,j⟩:=i f d m; ⟨v,l,j.mono sF⟩⟩
  ·by_cases z:b=a
   ·subst z;rw [ql] at e;rw [h1];exact .of e
   ·rw [qj z] at e;exact I.fh b o e
  ·by_cases z:b=a
   ·subst z;exact .inr h4
   ·rw [qj z] at e;exact I.new b o e
def EnvOk.drop (I:EnvOk K M F H env σ) (i:Nat):EnvOk K M F H (env.set i .non) σ where
 len:=by rw [Yc];exact I.len
 slot:=fun j=>by
  rw [qdf];split
  ·trivial
  ·exact I.slot j
 dis:=fun j k a hjk h1 h2 h3 h4=>by
  rw [qdf] at h1 h2;split at h1
  ·cases h1
  ·split at h2
   ·cases h2
   ·exact I.dis j k a hjk h1 h2 h3 h4
 f0:=I.f0
 fe:=I.fe
 fh:=I.fh
 bh:=I.bh
 new:=I.new
 dom:=I.dom
def EnvOk.tell (I:EnvOk K M F H env σ) {i:Nat}{d:Qi}{v:V} (e:vS σ i=some v) (h:Is K F d v):EnvOk K M F H (env.set i (.val d)) σ where
 len:=by rw [Yc];exact I.len
 slot:=fun j=>by
  rw [qdf];split
  ·rename_i z;rw [<- z.1];exact ⟨v,e,h⟩
  ·exact I.slot j
 dis:=fun j k a hjk h1 h2 h3 h4=>by
  rw [qdf] at h1 h2;split at h1
  ·cases h1
  ·split at h2
   ·cases h2
   ·exact I.dis j k a hjk h1 h2 h3 h4
 f0:=I.f0
 fe:=I.fe
 fh:=I.fh
 bh:=I.bh
 new:=I.new
 dom:=I.dom
def Sl.fz:Sl->Sl
 | .own ds => .val (.list ds)
 | s=>s
def EnvOk.freeze (I:EnvOk K M F H env σ) (i:Nat) : ∃ F',EnvOk K M F' H (env.set i (gS env i).fz) σ/\Same F F':=by
 have same : ∀ s,gS env i=s->env.set i s=env:=fun s h=>by
  subst h;apply Zs;intro j;rw [Yl];split
  ·rename_i z;subst z;split
   ·rename_i hi;have : ∀ (e:Sto) (n:Nat) (h:n<e.length),some (gS e n)=e[n]?:=by
     intro e
     induction e with
     | nil=>intro n h;simp at h
     | cons x e ih=>intro n h;cases n with
      | zero=>rfl
      | succ n=>simp only [gS,Vc];exact ih n (by simpa using h)
    exact this env i hi
   ·rename_i hi;rw [Qt (by omega)]
  ·rfl
 cases q:gS env i with
 | non=>exact ⟨F,by rw [show Sl.fz .non = .non from rfl,same _ q];exact I,.refl _⟩
 | val d=>exact ⟨F,by rw [show Sl.fz (.val d) = .val d from rfl,same _ q];exact I,.refl _⟩
 | pen ds=>exact ⟨F,by rw [show Sl.fz (.pen ds) = .pen ds from rfl,same _ q];exact I,.refl _⟩
 | new d=>exact ⟨F,by rw [show Sl.fz (.new d) = .new d from rfl,same _ q];exact I,.refl _⟩
 | exc C=>exact ⟨F,by rw [show Sl.fz (.exc C) = .exc C from rfl,same _ q];exact I,.refl _⟩
 | obj a0 C nm fs=>exact ⟨F,by rw [show Sl.fz (.obj a0 C nm fs) = .obj a0 C nm fs from rfl,same _ q];exact I,.refl _⟩
 | own ds =>
  have S:=I.slot i;rw [q] at S;obtain ⟨a,vs,e,h1,h2,h3,h4,h5⟩:=S;obtain ⟨J,s⟩:=(I.drop i).frz h1 h2 h4 (fun j m z=>by
   rw [qdf] at m;split at m
   ·cases m
   ·rename_i hn;by_cases hij:i=j
    ·subst hij;exact hn ⟨rfl,zaky (by rw [q];rfl)⟩
    ·exact I.dis i j a hij (by rw [q];rfl) m e z)
  have T:=J.tell (i:=i) (d :=.list ds) e (qez (SqL.of ql) (h5.mono s));rw [List.set_set] at T;exact ⟨_,T,s⟩
end
end
section
abbrev WE:=Sto->(Qi->Sto->Prop)->Prop
abbrev WF:=Sto->(List Qi->Sto->Prop)->Prop
abbrev WT:=Sto->(Bool->Sto->Prop)->Prop
inductive Ret where
 | val (d:Qi)
 | own (ds:List Qi)
 | new (d:Qi)
def Ret.data:Ret->Qi
 | .val d=>d
 | .own ds => .list ds
 | .new d=>d
structure WEnds where
 nx:Sto->Prop
 rt:Ret->Sto->Prop
 bk:Sto->Prop:=fun _=>False
 ct:Sto->Prop:=fun _=>False
abbrev WS:=WEnds->Sto->Prop
abbrev WG:=Qi->Sto->(Sto->Prop)->Prop
abbrev WGs:=List Qi->Sto->(Sto->Prop)->Prop
abbrev D2:=Qi->Qi->(Qi->Prop)->Prop
abbrev DC:=List Qi->(Qi->Prop)->Prop
section
variable (K:Qe)
def qdg (W:WE):TE:=fun σ H R => ∃ M env F Q,EnvOk K M F H env σ/\W env Q /\ ∀ d v F' H' env',EnvOk K M F' H' env' σ->Same F F'->Is K F' d v->Q d env'->R v H'
def zabz (W:WF):TE:=fun σ H R => ∃ M env F Q,EnvOk K M F H env σ/\W env Q /\ ∀ a vs ds F' H' env',EnvOk K M F' H' env' σ->Same F F'->H' a=some (.lst vs)->F' a=none->M.B a=none->M.He a=none ->
 (∀ i,(gS env' i).mut=true->vS σ i≠some (.ref a))->Iss K F' ds vs->Q ds env'->R (.ref a) H'
def qgl (W:WF):TA:=fun σ H R => ∃ M env F Q,EnvOk K M F H env σ/\W env Q /\ ∀ ds vs F' H' env',EnvOk K M F' H' env' σ->Same F F'->Iss K F' ds vs->Q ds env'->R vs H'
def zach (W:WT):TT:=fun σ H R => ∃ M env F Q,EnvOk K M F H env σ/\W env Q /\ ∀ b F' H' env',EnvOk K M F' H' env' σ->Same F F'->Q b env'->R b H'
def RetOk (M:Frm) (F H:Hp):Ret->V->Prop
 | .val d,v=>Is K F d v
 | .own ds,v => ∃ a vs,v = .ref a/\H a=some (.lst vs)/\F a=none/\M.B a=none/\M.He a=none/\Iss K F ds vs
 | .new d,v=>IsN K (qla M F) d v
structure EndsOk (M:Frm) (F:Hp) (DD:WEnds) (D:Ends):Prop where
 nx : ∀ env' F' H' σ',EnvOk K M F' H' env' σ'->Same F F'->DD.nx env'->D.nx σ' H'
 rt : ∀ r v env' F' H' σ',EnvOk K M F' H' env' σ'->Same F F'->RetOk K M F' H' r v->DD.rt r env'->D.rt v H'
 bk : ∀ env' F' H' σ',EnvOk K M F' H' env' σ'->Same F F'->DD.bk env'->D.bk σ' H'
 ct : ∀ env' F' H' σ',EnvOk K M F' H' env' σ'->Same F F'->DD.ct env'->D.ct σ' H'
def zaha (W:WS):TS:=fun D σ H => ∃ M env F DD,EnvOk K M F H env σ/\W DD env/\EndsOk K M F DD D
def qnf (W:WG):TG:=fun v σ H R => ∃ M env F d Q,EnvOk K M F H env σ/\Is K F d v/\W d env Q /\ ∀ F' H' env' σ',EnvOk K M F' H' env' σ'->Same F F'->Q env'->R σ' H'
def zanb (W:WGs):TGs:=fun vs σ H R => ∃ M env F ds Q,EnvOk K M F H env σ/\Iss K F ds vs/\W ds env Q /\ ∀ F' H' env' σ',EnvOk K M F' H' env' σ'->Same F F'->Q env'->R σ' H'
def qwl (r:D2):R2:=fun x y H Q => ∃ F dx dy q,Same F H/\Is K F dx x/\Is K F dy y/\r dx dy q /\ ∀ d v F' H',Go F H F' H'->Is K F' d v->q d->Q v H'
def zace (r:DC):List V->Hp->VK->Prop:=fun vs H Q => ∃ F ds q,Same F H/\Iss K F ds vs/\r ds q /\ ∀ d v F' H',Go F H F' H'->Is K F' d v->q d->Q v H'
def qtd (r:List Qi->(List Qi->Prop)->Prop):List V->Hp->VK->Prop:=fun vs H Q => ∃ F ds q,Same F H/\Iss K F ds vs/\r ds q /\ ∀ l a xs F' H',Go F H F' H'->H a=none->F' a=none->H' a=some (.lst xs)->Iss K F' l xs->q l->Q (.ref a) H'
structure ItD (J:It) (F:Hp) (ds:List Qi):Prop where
 go : ∀ i H,Same F H->i<ds.length->J.go i H
 stop : ∀ H,Same F H->J.stop ds.length H
 yld : ∀ i H x H' F1,Same F F1->Same F1 H->i<ds.length->J.yld i H x H' -> ∃ d F2,ds[i]?=some d/\Go F1 H F2 H'/\Is K F2 d x
def qmv (W:WF):TI:=fun σ H R => ∃ M env F Q,EnvOk K M F H env σ/\W env Q /\ ∀ ds J F' H' env',EnvOk K M F' H' env' σ->Same F F'->ItD K J F' ds->Q ds env'->R J H'
end
section
variable {K:Qe}{M:Frm}{F F':Hp}{DD:WEnds}{D:Ends}
def EndsOk.mono (h:EndsOk K M F DD D) (s:Same F F'):EndsOk K M F' DD D :=
 ⟨fun e f g i j k=>h.nx e f g i j (s.trans k),fun r v e f g i j k=>h.rt r v e f g i j (s.trans k),fun e f g i j k=>h.bk e f g i j (s.trans k),fun e f g i j k=>h.ct e f g i j (s.trans k)⟩
end
def VE (X:Cx) (e:Expr) (W:WE):Prop:=PE X e (qdg X.K W)
def VF (X:Cx) (e:Expr) (W:WF):Prop:=PE X e (zabz X.K W)
def VA (X:Cx) (e:List Expr) (W:WF):Prop:=PA X e (qgl X.K W)
def VT (X:Cx) (e:Expr) (W:WT):Prop:=PT X e (zach X.K W)
def VW (X:Cx) (e:Expr) (W:WT):Prop:=PW X e (zach X.K W)
def VW.pt {X:Cx}{e:Expr}{W:WT} (h:VW X e W):VT X e W:=PW.pt h
def VS (X:Cx) (st:Stmt) (W:WS):Prop:=PS X st (zaha X.K W)
def VSs (X:Cx) (st:List Stmt) (W:WS):Prop:=PSs X st (zaha X.K W)
def VG (X:Cx) (e:Expr) (W:WG):Prop:=PG X e (qnf X.K W)
def VGs (X:Cx) (e:List Expr) (W:WGs):Prop:=PGs X e (zanb X.K W)
def VI (X:Cx) (tg e:Expr) (W:WF):Prop:=PI X tg e (qmv X.K W)
def OpV (X:Cx) (f:Value->Value->Sem Value) (r:D2):Prop:=OpR X f (qwl X.K r)
def qig (X:Cx) (f:Value) (r:DC):Prop:=CallR X f (zace X.K r)
def qpi (X:Cx) (f:Value) (r:List Qi->(List Qi->Prop)->Prop):Prop:=CallR X f (qtd X.K r)
section
variable {X:Cx}
def PE.imp {e:Expr}{t t':TE} (h:PE X e t) (i : ∀ σ H Q,t' σ H Q->t σ H Q):PE X e t':=fun pins s σ H Q I q=>h pins s σ H Q I (i σ H Q q)
def PA.imp {e:List Expr}{t t':TA} (h:PA X e t) (i : ∀ σ H Q,t' σ H Q->t σ H Q):PA X e t':=fun pos pins s σ H Q I q=>h pos pins s σ H Q I (i σ H Q q)
def PT.imp {e:Expr}{t t':TT} (h:PT X e t) (i : ∀ σ H Q,t' σ H Q->t σ H Q):PT X e t':=fun pins s σ H Q I q=>h pins s σ H Q I (i σ H Q q)
def PW.imp {e:Expr}{t t':TT} (h:PW X e t) (i : ∀ σ H Q,t' σ H Q->t σ H Q):PW X e t':=fun wh pins s σ H Q I q=>h wh pins s σ H Q I (i σ H Q q)
def PS.imp {e:Stmt}{t t':TS} (h:PS X e t) (i : ∀ D σ H,t' D σ H->t D σ H):PS X e t':=fun pins s σ H D I q=>h pins s σ H D I (i D σ H q)
def PSs.imp {e:List Stmt}{t t':TS} (h:PSs X e t) (i : ∀ D σ H,t' D σ H->t D σ H):PSs X e t':=fun pins s σ H D I q=>h pins s σ H D I (i D σ H q)
def PG.imp {e:Expr}{t t':TG} (h:PG X e t) (i : ∀ v σ H Q,t' v σ H Q->t v σ H Q):PG X e t':=fun pins s σ H v u Q I r q=>h pins s σ H v u Q I r (i v σ H Q q)
def PGs.imp {e:List Expr}{t t':TGs} (h:PGs X e t) (i : ∀ v σ H Q,t' v σ H Q->t v σ H Q):PGs X e t':=fun pins s σ H v u Q I r q=>h pins s σ H v u Q I r (i v σ H Q q)
def PI.imp {tg e:Expr}{t t':TI} (h:PI X tg e t) (i : ∀ σ H Q,t' σ H Q->t σ H Q):PI X tg e t':=fun pins s σ H Q I q=>h pins s σ H Q I (i σ H Q q)
def OpR.imp {f:Value->Value->Sem Value}{r r':R2} (h:OpR X f r) (i : ∀ x y H Q,r' x y H Q->r x y H Q):OpR X f r':=fun pins s σ H x y v u Q I a b q=>h pins s σ H x y v u Q I a b (i x y H Q q)
def CallR.imp {f:Value}{r r':List V->Hp->VK->Prop} (h:CallR X f r) (i : ∀ x H Q,r' x H Q->r x H Q):CallR X f r':=fun pins s σ H x u Q I a q=>h pins s σ H x u Q I a (i x H Q q)
def IxR.imp {r r':R2} (h:IxR X r) (i : ∀ x y H Q,r' x y H Q->r x y H Q):IxR X r':=fun value slice pins s σ H x y v u Q I a b q=>h value slice pins s σ H x y v u Q I a b (i x y H Q q)
def wVar (i:Nat):WE:=fun env Q=>match gS env i with | .val d=>Q d env | .new d=>Q d env|_=>False
def qc (i:Nat) {x:Str}{pos:Pos} (hN:X.N[i]?=some x:=by rfl) (hv:Vis X.env.scope x:=by first|exact V0 rfl|exact Y6 (V0 rfl)|exact Y6 (Y6 rfl)) (hd:Nd0 x:=by decide)
 (hcd:Nd1 x:=by decide):VE X (.Name x pos) (wVar i):=(qcp hN hv hd hcd).imp fun σ H R xx63=>by
 obtain ⟨M,env,F,Q,I,h,k⟩:=xx63;have S:=I.slot i;unfold wVar at h;cases q:gS env i with
 | val d =>
  rw [q] at S h;obtain ⟨v,e,j⟩:=S;exact ⟨v,qbr e,k d v F H env I (.refl _) j h⟩
 | new d =>
  rw [q] at S h;obtain ⟨v,e,j⟩:=S;exact ⟨v,qbr e,k d v F H env I (.refl _) (j.is qge) h⟩
 | non=>rw [q] at h;exact h.elim
 | own ds=>rw [q] at h;exact h.elim
 | pen ds=>rw [q] at h;exact h.elim
 | exc C=>rw [q] at h;exact h.elim
 | obj a0 C nm fs=>rw [q] at h;exact h.elim
def wC (d:Qi):WE:=fun env Q=>Q d env
def ve_c {e:Expr}{v:V}{d:Qi} (h:PE X e (tC v)) (i : ∀ F,Is X.K F d v):VE X e (wC d):=h.imp fun σ H R xx64=>by obtain ⟨M,env,F,Q,I,h,k⟩:=xx64;exact k d v F H env I (.refl _) (i F) h
def qf {i j pos}:VE X (.Constant (.int i) j pos) (wC (.int i)):=ve_c zaoo fun _=>qae i
def qih {b j pos}:VE X (.Constant (.bool b) j pos) (wC (.bool b)):=ve_c zaqm fun _=>qdb b
def qjh {j pos}:VE X (.Constant .none j pos) (wC .none):=ve_c zagi fun _=>qjd
def qcd {x j pos}:VE X (.Constant (.str x) j pos) (wC (.str x)):=ve_c zant fun _=>zagj x
def qgy {x:Str}{i:Int}{pos:Pos} (h : ∃ t,X.mg x=some (.int i t)) (hg:Gl X x:=by rfl) (hd:Nd0 x:=by decide):VE X (.Name x pos) (wC (.int i)):=by
 obtain ⟨t,hm⟩:=h;exact ve_c (qcg (v :=.int i) hg hm ⟨t,rfl⟩ hd) fun _=>qae i
def wOp (r:D2) (Wa Wb:WE):WE:=fun env Q=>Wa env fun x e1=>Wb e1 fun y e2=>r x y fun d=>Q d e2
def qno {r:D2}{Wa Wb:WE}{σ:St}{H:Hp}{R:VK} (h:qdg X.K (wOp r Wa Wb) σ H R):tOp (qwl X.K r) (qdg X.K Wa) (qdg X.K Wb) σ H R:=by
 obtain ⟨M,env,F,Q,I,h,k⟩:=h;exact ⟨M,env,F,_,I,h,fun d v F1 H1 e1 I1 s1 i1 h1=>⟨M,e1,F1,_,I1,h1,fun d2 v2 F2 H2 e2 I2 s2 i2 h2 =>
  ⟨F2,d,d2,_,I2.fh,i1.mono s2,i2,h2,fun d3 v3 F3 H3 g i3 q=>k d3 v3 F3 H3 e2 (I2.go g) (s1.trans (s2.trans g.f)) i3 q⟩⟩⟩
section
variable {a b c:Expr}{Wa Wb Wc:WE}{pos:Pos}
def qt {op:Operator}{r:D2} (ho:OpV X (Vw op) r) (ha:VE X a Wa) (hb:VE X b Wb):VE X (.BinOp a op b pos) (wOp r Wa Wb) :=
 (zahi ho ha hb).imp fun _ _ _ h=>qno h
def qgi {op:CmpOp}{r:D2} (ho:OpV X (Yo op) r) (ha:VE X a Wa) (hb:VE X b Wb) (hm:Qbf op b=false:=by first|exact qxr _|with_unfolding_all rfl):VE X (.Compare a [op] [b] pos) (wOp r Wa Wb) :=
 (zakb ho ha hb hm).imp fun _ _ _ h=>qno h
def qwg (W:WE):WT:=fun env Q=>W env fun d e=>match d with | .bool b=>Q b e|_=>False
def qhm {W:WE}{σ:St}{H:Hp}{R:Bool->Hp->Prop} (h:zach X.K (qwg W) σ H R):qdg X.K W σ H fun x H' => ∃ k,x = .bl k/\R k H':=by
 obtain ⟨M,env,F,Q,I,h,k⟩:=h;refine ⟨M,env,F,_,I,h,fun d v F1 H1 e1 I1 s1 i1 h1=>?_⟩;cases d with
 | bool b=>exact ⟨b,i1.bl_inv,k b F1 H1 e1 I1 s1 h1⟩
 | _=>exact Zh h1
def qA {op:CmpOp}{r:D2} (ho:OpV X (Yo op) r) (ha:VE X a Wa) (hb:VE X b Wb) (hm:Qbf op b=false:=by first|exact qxr _|with_unfolding_all rfl):VT X (.Compare a [op] [b] pos) (qwg (wOp r Wa Wb)) :=
 (qzi ho ha hb hm).imp fun σ H R h=>qno (qhm h)
def qan {e:Expr}{W:WE} (h:VE X e W) (he : ∀ whole,isTrue e X.env whole=(do let v <- whole;standAt e.pos;Qik [v] (truthy v)):=by intro _;rfl):VT X e (qwg W) :=
 (zaoq h he).imp fun σ H R h=>qhm h
def qxs (r r':D2) (Wa Wb Wc:WE):WE:=fun env Q=>Wa env fun x e1=>Wb e1 fun y e2=>r x y fun z=>match z with
 | .bool k=>if k=true then Wc e2 fun w e3=>r' y w fun d=>Q d e3 else Q (.bool false) e2
 | _=>False
def qne {r r':D2}{σ:St}{H:Hp}{R:VK} (h:qdg X.K (qxs r r' Wa Wb Wc) σ H R):qxg (qwl X.K r) (qwl X.K r') (qdg X.K Wa) (qdg X.K Wb) (qdg X.K Wc) σ H R:=by
 obtain ⟨M,env,F,Q,I,h,k⟩:=h;refine ⟨M,env,F,_,I,h,fun d v F1 H1 e1 I1 s1 i1 h1=>⟨M,e1,F1,_,I1,h1,fun d2 v2 F2 H2 e2 I2 s2 i2 h2=>⟨F2,d,d2,_,I2.fh,i1.mono s2,i2,h2,fun d3 v3 F3 H3 g i3 q=>?_⟩⟩⟩;have I3:=I2.go g;have s3:=s1.trans (s2.trans g.f);cases d3 with
 | bool b =>
  refine ⟨b,i3.bl_inv,?_⟩;cases b with
  | false=>exact qrz (k _ _ F3 H3 e2 I3 s3 (qdb false) q)
  | true=>exact qwd ⟨M,e2,F3,_,I3,q,fun d4 v4 F4 H4 e4 I4 s4 i4 h4=>⟨F4,d2,d4,_,I4.fh,(i2.mono g.f).mono s4,i4,h4,fun d5 v5 F5 H5 g5 i5 q5=>k d5 v5 F5 H5 e4 (I4.go g5) (s3.trans (s4.trans g5.f)) i5 q5⟩⟩
 | _=>exact Zh q
def zads {op op':CmpOp}{r r':D2} (ho:OpV X (Yo op) r) (ho':OpV X (Yo op') r') (ha:VE X a Wa) (hb:VE X b Wb) (hc:VE X c Wc)
 (hm:Qlr [op,op'] [b,c]=false:=by with_unfolding_all rfl):VE X (.Compare a [op,op'] [b,c] pos) (qxs r r' Wa Wb Wc):=(zaez ho ho' ha hb hc hm).imp fun _ _ _ h=>qne h
def qnx {op op':CmpOp}{r r':D2} (ho:OpV X (Yo op) r) (ho':OpV X (Yo op') r') (ha:VE X a Wa) (hb:VE X b Wb) (hc:VE X c Wc)
 (hm:Qlr [op,op'] [b,c]=false:=by with_unfolding_all rfl):VT X (.Compare a [op,op'] [b,c] pos) (qwg (qxs r r' Wa Wb Wc)):=(zaem ho ho' ha hb hc hm).imp fun _ _ _ h=>qne (qhm h)
end
section
variable {a b c:Expr}{Wa Wb Wc:WE}{Ta Tb Tc:WT}{pos:Pos}{rest:List Expr}
def wAnd (t u:WT):WT:=fun env Q=>t env fun k e=>if k=true then u e Q else Q false e
def wOr (t u:WT):WT:=fun env Q=>t env fun k e=>if k=true then Q true e else u e Q
def wNot (t:WT):WT:=fun env Q=>t env fun k e=>Q (!k) e
def zajc (ha:VT X a Ta):VW X (.BoolOp .And [a] pos) Ta:=zahr ha
def qdw (ha:VT X a Ta):VW X (.BoolOp .Or [a] pos) Ta:=zanf ha
def zaom (ha:VT X a Ta) (hb:VW X (.BoolOp .And (b::rest) pos) Tb):VW X (.BoolOp .And (a::b::rest) pos) (wAnd Ta Tb):=(zalp ha hb).imp fun σ H R xx65=>by
 obtain ⟨M,env,F,Q,I,h,k⟩:=xx65;refine ⟨M,env,F,_,I,h,fun x F1 H1 e1 I1 s1 h1=>?_⟩;cases x with
 | true=>exact qwd ⟨M,e1,F1,Q,I1,h1,fun y F2 H2 e2 I2 s2 h2=>k y F2 H2 e2 I2 (s1.trans s2) h2⟩
 | false=>exact qrz (k false F1 H1 e1 I1 s1 h1)
def qei (ha:VT X a Ta) (hb:VW X (.BoolOp .Or (b::rest) pos) Tb):VW X (.BoolOp .Or (a::b::rest) pos) (wOr Ta Tb):=(zapu ha hb).imp fun σ H R xx66=>by
 obtain ⟨M,env,F,Q,I,h,k⟩:=xx66;refine ⟨M,env,F,_,I,h,fun x F1 H1 e1 I1 s1 h1=>?_⟩;cases x with
 | true=>exact qwd (k true F1 H1 e1 I1 s1 h1)
 | false=>exact qrz ⟨M,e1,F1,Q,I1,h1,fun y F2 H2 e2 I2 s2 h2=>k y F2 H2 e2 I2 (s1.trans s2) h2⟩
def qap (ha:VT X a Ta):VT X (.UnaryOp .Not a pos) (wNot Ta):=(zalm ha).imp fun σ H R xx67=>by
 obtain ⟨M,env,F,Q,I,h,k⟩:=xx67;exact ⟨M,env,F,_,I,h,fun x F1 H1 e1 I1 s1 h1=>k (!x) F1 H1 e1 I1 s1 h1⟩
def zape (Wa Wb:WE):WE:=fun env Q=>Wa env fun d e=>match d with | .bool k=>if k=true then Wb e Q else Q (.bool false) e|_=>False
def zaql (Wa:WE):WE:=fun env Q=>Wa env fun d e=>match d with | .bool k=>Q (.bool (!k)) e|_=>False
def qos {op} (h:VE X a Wa):VE X (.BoolOp op [a] pos) Wa:=zamd h
def qor (ha:VE X a Wa) (hb:VE X (.BoolOp .And (b::rest) pos) Wb):VE X (.BoolOp .And (a::b::rest) pos) (zape Wa Wb):=(zanv ha hb).imp fun σ H R xx68=>by
 obtain ⟨M,env,F,Q,I,h,k⟩:=xx68;refine ⟨M,env,F,_,I,h,fun d v F1 H1 e1 I1 s1 i1 h1=>?_⟩;cases d with
 | bool x =>
  refine ⟨x,i1.bl_inv,?_⟩;cases x with
  | true=>exact qwd ⟨M,e1,F1,Q,I1,h1,fun d2 v2 F2 H2 e2 I2 s2 i2 h2=>k d2 v2 F2 H2 e2 I2 (s1.trans s2) i2 h2⟩
  | false=>exact qrz (k _ _ F1 H1 e1 I1 s1 (qdb false) h1)
 | _=>exact Zh h1
def qxk (ha:VE X a Wa):VE X (.UnaryOp .Not a pos) (zaql Wa):=(zaog ha).imp fun σ H R xx69=>by
 obtain ⟨M,env,F,Q,I,h,k⟩:=xx69;refine ⟨M,env,F,_,I,h,fun d v F1 H1 e1 I1 s1 i1 h1=>?_⟩;cases d with
 | bool x=>exact ⟨x,i1.bl_inv,k _ _ F1 H1 e1 I1 s1 (qdb _) h1⟩
 | _=>exact Zh h1
def wIfE (t:WT) (Wa Wb:WE):WE:=fun env Q=>t env fun k e=>if k=true then Wa e Q else Wb e Q
def qua (hc:VT X c Tc) (ha:VE X a Wa) (hb:VE X b Wb):VE X (.IfExp c a b pos) (wIfE Tc Wa Wb):=(zafc hc ha hb).imp fun σ H R xx70=>by
 obtain ⟨M,env,F,Q,I,h,k⟩:=xx70;refine ⟨M,env,F,_,I,h,fun x F1 H1 e1 I1 s1 h1=>?_⟩;cases x with
 | true=>exact qwd ⟨M,e1,F1,Q,I1,h1,fun d2 v2 F2 H2 e2 I2 s2 i2 h2=>k d2 v2 F2 H2 e2 I2 (s1.trans s2) i2 h2⟩
 | false=>exact qrz ⟨M,e1,F1,Q,I1,h1,fun d2 v2 F2 H2 e2 I2 s2 i2 h2=>k d2 v2 F2 H2 e2 I2 (s1.trans s2) i2 h2⟩
end
section
variable {a b:Expr}{Wa Wb:WE}{pos p2:Pos}
def wUn (r:Qi->(Qi->Prop)->Prop) (W:WE):WE:=fun env Q=>W env fun d e=>r d fun y=>Q y e
def dNeg:Qi->(Qi->Prop)->Prop
 | .int i,q=>q (.int (-i))
 | _,_=>False
def zamk (ha:VE X a Wa):VE X (.UnaryOp .USub a pos) (wUn dNeg Wa):=(zapc zanm ha).imp fun σ H R xx71=>by
 obtain ⟨M,env,F,Q,I,h,k⟩:=xx71;refine ⟨M,env,F,_,I,h,fun d v F1 H1 e1 I1 s1 i1 h1=>?_⟩;cases d with
 | int i=>exact ⟨i,i1.int_inv,k _ _ F1 H1 e1 I1 s1 (qae _) h1⟩
 | _=>exact Zh h1
def dIx:D2
 | .list l,.int i,q => ∃ d,atI l i=some d/\q d
 | .tuple l,.int i,q => ∃ d,atI l i=some d/\q d
 | _,_,_=>False
def ix_V:IxR X (qwl X.K dIx):=zaly.imp fun x y H Q xx72=>by
 obtain ⟨F,dx,dy,q,s,i1,i2,h,k⟩:=xx72;cases dx with
 | list l=>cases dy with
  | int i =>
   obtain ⟨d,e,hq⟩:=h;obtain ⟨a,xs,rfl,hs,hr⟩:=i1.lst_inv;obtain ⟨z,ez,hz⟩:=hr.atI e;exact .inl ⟨a,xs,i,z,rfl,i2.int_inv,s.seq hs,ez,k d z F H (.refl s) hz hq⟩
  | _=>exact Zh h
 | tuple l=>cases dy with
  | int i =>
   obtain ⟨d,e,hq⟩:=h;obtain ⟨a,xs,rfl,hs,hr⟩:=i1.tup_inv;obtain ⟨z,ez,hz⟩:=hr.atI e;exact .inr (.inl ⟨a,xs,i,z,rfl,i2.int_inv,qM s hs,ez,k d z F H (.refl s) hz hq⟩)
  | _=>exact Zh h
 | _=>exact Zh h
def qx (ha:VE X a Wa) (hb:VE X b Wb) (hs:qsf b:=by exact (fun _ _=>rfl)):VE X (.Subscript a b pos) (wOp dIx Wa Wb):=(zala ix_V ha hb hs).imp fun _ _ _ h=>qno h
abbrev WO:=Sto->(Option Int->Sto->Prop)->Prop
def zaph (K:Qe) (W:WO):TO:=fun σ H R => ∃ M env F Q,EnvOk K M F H env σ/\W env Q /\ ∀ o F' H' env',EnvOk K M F' H' env' σ->Same F F'->Q o env'->R o H'
def zajk:WO:=fun env Q=>Q none env
def zara (W:WE):WO:=fun env Q=>W env fun d e=>match d with | .int i=>Q (some i) e|_=>False
def VO (X:Cx) (e:Option Expr) (W:WO):Prop:=PO X e (zaph X.K W)
def PO.imp {e:Option Expr}{t t':TO} (h:PO X e t) (i : ∀ σ H Q,t' σ H Q->t σ H Q):PO X e t':=fun pins s σ H Q I q=>h pins s σ H Q I (i σ H Q q)
def qai:VO X none zajk:=zahz.imp fun σ H R xx73=>by obtain ⟨M,env,F,Q,I,h,k⟩:=xx73;exact k none F H env I (.refl _) h
def qaj (ha:VE X a Wa):VO X (some a) (zara Wa):=(zahp ha).imp fun σ H R xx74=>by
 obtain ⟨M,env,F,Q,I,h,k⟩:=xx74;refine ⟨M,env,F,_,I,h,fun d v F1 H1 e1 I1 s1 i1 h1=>?_⟩;cases d with
 | int i=>exact ⟨i,i1.int_inv,k (some i) F1 H1 e1 I1 s1 h1⟩
 | _=>exact Zh h1
def qpr {α:Type} (ds:List α) (lo hi:Option Int):List α:=(ds.drop (HT.sIx ds.length 0 lo)).take (HT.sIx ds.length ds.length hi-HT.sIx ds.length 0 lo)
def qzg {K:Qe}{H:Hp}{l:List Qi}{xs:List V} (h:Iss K H l xs) (lo hi:Option Int):Iss K H (qpr l lo hi) (qpy xs lo hi):=by
 have e:qpy xs lo hi=(xs.drop (HT.sIx l.length 0 lo)).take (HT.sIx l.length l.length hi-HT.sIx l.length 0 lo):=by unfold qpy;rw [h.len]
 rw [e];exact qop _ (qok _ h)
def wSlL (Wa:WE) (Wl Wh:WO):WF:=fun env Q=>Wa env fun d e1=>Wl e1 fun lo e2=>Wh e2 fun hi e3=>match d with | .list l => ∀ r,r=qpr l lo hi->Q r e3|_=>False
def qbo {lo hi:Option Expr}{Wl Wh:WO} (he:VE X a Wa) (hl:VO X lo Wl) (hu:VO X hi Wh):VF X (.Subscript a (.Slice lo hi none p2) pos) (wSlL Wa Wl Wh) :=
 (quc zahx he hl hu).imp fun σ H R xx75=>by
  obtain ⟨M,env,F,Q,I,h,k⟩:=xx75;refine ⟨M,env,F,_,I,h,fun d v F1 H1 e1 I1 s1 i1 h1=>⟨M,e1,F1,_,I1,h1,fun lo F2 H2 e2 I2 s2 h2=>⟨M,e2,F2,_,I2,h2,fun hi F3 H3 e3 I3 s3 h3=>?_⟩⟩⟩;cases d with
  | list l =>
   obtain ⟨a,xs,rfl,hs,hr⟩:=(i1.mono (s2.trans s3)).lst_inv;refine ⟨a,xs,rfl,I3.fh.seq hs,fun p hp=>?_⟩;have g:=Go.side (o:=HO.lst (qpy xs lo hi)) I3.fh hp;refine k p _ _ F3 _ e3 (I3.go g) (s1.trans (s2.trans s3)) ql (qB I3.fh hp) (qB I3.bh hp) (I3.he hp) (fun i m z=>?_) (qzg hr lo hi) (h3 _ rfl);obtain ⟨b,vs,e,q,_⟩:=(I3.slot i).addr m;rw [z] at e;injection e with e;injection e with e;subst e;rw [hp] at q;cases q
  | _=>exact Zh h3
end
def wL (W:WF):WE:=fun env Q=>W env fun ds e=>Q (.list ds) e
def qw {e:Expr}{W:WF} (h:VF X e W):VE X e (wL W):=h.imp fun σ H R xx76=>by
 obtain ⟨M,env,F,Q,I,h,k⟩:=xx76;refine ⟨M,env,F,_,I,h,fun a vs ds F1 H1 e1 I1 s1 h1 h2 h3 h4 h5 h6 h7=>?_⟩;obtain ⟨J,s⟩:=I1.frz h1 h2 h4 h5;exact k _ _ _ H1 e1 J (s1.trans s) (qez (SqL.of ql) (h6.mono s)) h7
def qgp {K:Qe}{M:Frm}{F H:Hp}{env:Sto}{σ:St} (I:EnvOk K M F H env σ) {p:Addr} (hp:H p=none) : ∀ i,(gS env i).mut=true->vS σ i≠some (.ref p):=fun i m z=>by
 obtain ⟨b,vs,e,q,_⟩:=(I.slot i).addr m;rw [z] at e;injection e with e;injection e with e;subst e;rw [hp] at q;cases q
def qjt {K:Qe}{M:Frm}{F H:Hp}{env:Sto}{σ:St}{R:VK}{Q:List Qi->Sto->Prop}{F0:Hp}{l:List Qi}{xs:List V} (I:EnvOk K M F H env σ) (s:Same F0 F) (hi:Iss K F l xs) (h:Q l env)
 (k : ∀ a vs ds F' H' env',EnvOk K M F' H' env' σ->Same F0 F'->H' a=some (.lst vs)->F' a=none->M.B a=none->M.He a=none->(∀ i,(gS env' i).mut=true->vS σ i≠some (.ref a))->Iss K F' ds vs->Q ds env'->R (.ref a) H') :
 ∀ p,H p=none->R (.ref p) (upd H p (.lst xs)):=fun p hp =>
  k p xs l F _ env (I.go (.side I.fh hp)) s ql (qB I.fh hp) (qB I.bh hp) (I.he hp) (qgp I hp) hi h
section
variable {e:Expr}{es:List Expr}{W:WE}{Wr:WF}{pos:Pos}
def wNil:WF:=fun env Q=>Q [] env
def zapk (W:WE) (Wr:WF):WF:=fun env Q=>W env fun d e1=>Wr e1 fun ds e2=>Q (d::ds) e2
def qe:VA X [] wNil:=qcq.imp fun σ H R xx77=>by obtain ⟨M,env,F,Q,I,h,k⟩:=xx77;exact k [] [] F H env I (.refl _) qZ h
def qa (ha:VE X e W) (hr:VA X es Wr) (hs:Qu (e::es) X.env=(false,eval e X.env)::Qu es X.env:=by rfl):VA X (e::es) (zapk W Wr) :=
 (qV ha hr hs).imp fun σ H R xx78=>by obtain ⟨M,env,F,Q,I,h,k⟩:=xx78;exact ⟨M,env,F,_,I,h,fun d v F1 H1 e1 I1 s1 i1 h1=>⟨M,e1,F1,_,I1,h1,fun ds vs F2 H2 e2 I2 s2 i2 h2=>k (d::ds) (v::vs) F2 H2 e2 I2 (s1.trans s2) (qI (i1.mono s2) i2) h2⟩⟩
def wTup (Wr:WF):WE:=fun env Q=>Wr env fun ds e=>ds.length<=Q9/\Q (.tuple ds) e
def qT {x1} (h:VA X es Wr):VE X (.Tuple es x1 pos) (wTup Wr):=(zafx h).imp fun σ H R xx79=>by
 obtain ⟨M,env,F,Q,I,h,k⟩:=xx79;refine ⟨M,env,F,_,I,h,fun ds vs F1 H1 e1 I1 s1 i1 h1=>⟨by rw [i1.len];exact h1.1,fun p hp=>?_⟩⟩;have g:=Go.put (o:=HO.tup vs) I1.fh hp;exact k _ _ _ _ e1 (I1.go g) (s1.trans g.f) (qjg (SqT.of ql) (i1.mono g.f)) h1.2
def wLst (Wr:WF):WF:=fun env Q=>Wr env fun ds e=>ds.length<=Q9/\Q ds e
def qaw (h:VA X es Wr):VF X (.List es pos) (wLst Wr):=(zagc h).imp fun σ H R xx80=>by
 obtain ⟨M,env,F,Q,I,h,k⟩:=xx80;exact ⟨M,env,F,_,I,h,fun ds vs F1 H1 e1 I1 s1 i1 h1=>⟨by rw [i1.len];exact h1.1,qjt I1 s1 i1 h1.2 k⟩⟩
end
end
end
section
section
variable {X:Cx}
def dI2 (g:Int->Int->(Qi->Prop)->Prop):D2
 | .int i,.int j,q=>g i j q
 | _,_,_=>False
def zako {g:Int->Int->(Qi->Prop)->Prop}{x y:Qi}{q:Qi->Prop} (h:dI2 g x y q) : ∃ i j,x = .int i/\y = .int j/\g i j q:=by
 cases x with
 | int i=>cases y with
  | int j=>exact ⟨i,j,rfl,rfl,h⟩
  | _=>exact Zh h
 | _=>exact Zh h
def qwy {f:Value->Value->Sem Value}{C:Int->Int->Prop}{g:Int->Int->Qi}{gv:Int->Int->V} (h:OpR X f (rI C gv)) (hg : ∀ i j F,Is X.K F (g i j) (gv i j)):OpV X f (dI2 fun i j q=>C i j/\q (g i j)):=h.imp fun x y H Q xx81=>by
 obtain ⟨F,dx,dy,q,s,i1,i2,h,k⟩:=xx81;obtain ⟨i,j,rfl,rfl,c,hq⟩:=zako h;exact ⟨i,j,i1.int_inv,i2.int_inv,c,k _ _ F H (.refl s) (hg i j F) hq⟩
def qpe {f:Value->Value->Sem Value}{g:Int->Int->Qi}{gv:Int->Int->V} (h:OpR X f (rI0 gv)) (hg : ∀ i j F,Is X.K F (g i j) (gv i j)):OpV X f (dI2 fun i j q=>q (g i j)):=h.imp fun x y H Q xx82=>by
 obtain ⟨F,dx,dy,q,s,i1,i2,h,k⟩:=xx82;obtain ⟨i,j,rfl,rfl,hq⟩:=zako h;exact ⟨i,j,i1.int_inv,i2.int_inv,k _ _ F H (.refl s) (hg i j F) hq⟩
abbrev dSub:D2:=dI2 fun i j q=>q (.int (i-j))
abbrev zaqi:D2:=dI2 fun i j q=>IntMulOk i j/\q (.int (i*j))
abbrev zaqy:D2:=dI2 fun i j q=>zalc i j/\q (.int (i.fdiv j))
abbrev dDiv:D2:=dI2 fun i j q=>(0<j/\Qby j<=9000)/\q (.int (i/j))
abbrev dMod:D2:=dI2 fun i j q=>0<j/\q (.int (i%j))
abbrev dPow:D2:=dI2 fun i j q=>CPow i j/\q (.int (i^j.toNat))
abbrev dLt:D2:=dI2 fun i j q=>q (.bool (decide (i<j)))
abbrev dLe:D2:=dI2 fun i j q=>q (.bool (decide (i<=j)))
abbrev dGt:D2:=dI2 fun i j q=>q (.bool (decide (j<i)))
abbrev dGe:D2:=dI2 fun i j q=>q (.bool (decide (j<=i)))
def qmw:OpV X (Vw .Sub) dSub:=qpe zamq fun _ _ _=>qae _
def qbg:OpV X (Vw .Mult) zaqi:=qwy zaik fun _ _ _=>qae _
def zagr:OpV X (Vw .FloorDiv) zaqy:=qwy qui fun _ _ _=>qae _
def zajt:OpR X (Vw .FloorDiv) (rI (fun _ j=>0<j/\Qby j<=9000) fun i j => .int (i/j)):=qui.imp fun x y H Q xx83=>by
 obtain ⟨i,j,e1,e2,c,q⟩:=xx83;exact ⟨i,j,e1,e2,⟨by have:=c.1;omega,c.2⟩,by show Q (V.int (i.fdiv j)) H;rw [Qbi _ (Qag c.1)];exact q⟩
def qhf:OpV X (Vw .FloorDiv) dDiv:=qwy zajt fun _ _ _=>qae _
def qgk:OpV X (Vw .Mod) dMod:=qwy zane fun _ _ _=>qae _
def zapa:OpV X (Vw .Pow) dPow:=qwy zani fun _ _ _=>qae _
def o_lt:OpV X (Yo .Lt) dLt:=qpe zapp fun _ _ _=>qdb _
def qzr:OpV X (Yo .LtE) dLe:=qpe zaoy fun _ _ _=>qdb _
def o_gt:OpV X (Yo .Gt) dGt:=qpe zaoz fun _ _ _=>qdb _
def o_ge:OpV X (Yo .GtE) dGe:=qpe zaqz fun _ _ _=>qdb _
def dEq:D2:=fun d e q=>Js d=true/\Js e=true/\q (.bool (Vi d e))
def dNe:D2:=fun d e q=>Js d=true/\Js e=true/\q (.bool (!PyData.eqv d e))
def qgw (hu:X.A.units+64<cLine):OpV X (Yo .Eq) dEq:=(zalt hu).imp fun x y H Q xx84=>by
 obtain ⟨F,dx,dy,q,s,i1,i2,h,k⟩:=xx84;exact ⟨dx,dy,i1.mono s,i2.mono s,h.1,h.2.1,k _ _ F H (.refl s) (qdb _) h.2.2⟩
def qyr (hu:X.A.units+64<cLine):OpV X (Yo .NotEq) dNe:=(zaol hu).imp fun x y H Q xx85=>by
 obtain ⟨F,dx,dy,q,s,i1,i2,h,k⟩:=xx85;exact ⟨dx,dy,i1.mono s,i2.mono s,h.1,h.2.1,k _ _ F H (.refl s) (qdb _) h.2.2⟩
def qsa:Qi->Bool
 | .none=>true
 | _=>false
def dIsN:D2:=fun d e q=>e = .none/\q (.bool (qsa d))
def qlb {K:Qe}{F:Hp}{d:Qi}{x:V} (h:Is K F d x):decide (x = .non)=qsa d:=by
 cases d with
 | none=>rw [h.non_inv];rfl
 | bool b=>rw [h.bl_inv];rfl
 | int b=>rw [h.int_inv];rfl
 | str b=>unfold Is at h;rw [h];rfl
 | list l=>obtain ⟨a,xs,rfl,_⟩:=h.lst_inv;rfl
 | tuple l=>obtain ⟨a,xs,rfl,_⟩:=h.tup_inv;rfl
 | dict l=>obtain ⟨a,xs,rfl,_⟩:=h.dct_inv;rfl
def zalb:OpV X (Yo .Is) dIsN:=zagv.imp fun x y H Q xx86=>by
 obtain ⟨F,dx,dy,q,s,i1,i2,h,k⟩:=xx86;obtain ⟨rfl,hq⟩:=h;exact ⟨i2.non_inv,by rw [qlb i1];exact k _ _ F H (.refl s) (qdb _) hq⟩
def dAdd:D2
 | .int i,.int j,q=>q (.int (i+j))
 | .list l,.list m,q=>l.length+m.length<=Q9/\q (.list (l++m))
 | .tuple l,.tuple m,q=>l≠[]/\l.length+m.length<=Q9/\q (.tuple (l++m))
 | .str x,.str y,q=>x.length+y.length<=Q9/\q (.str (x++y))
 | _,_,_=>False
def qbc:OpV X (Vw .Add) dAdd:=by
 rintro pins s σ H x y v u Q I rx ry ⟨F,dx,dy,q,sm,i1,i2,h,k⟩;cases dx with
 | int i=>cases dy with
  | int j=>exact zaob pins s σ H x y v u Q I rx ry ⟨i,j,i1.int_inv,i2.int_inv,k _ _ F H (.refl sm) (qae _) h⟩
  | _=>exact Zh h
 | list l=>cases dy with
  | list m =>
   obtain ⟨a,xs,rfl,hs,hr⟩:=i1.lst_inv;obtain ⟨b,ys,rfl,ht,hq⟩:=i2.lst_inv;refine qye pins s σ H _ _ v u Q I rx ry ⟨a,b,xs,ys,rfl,rfl,sm.seq hs,sm.seq ht,by rw [hr.len,hq.len];exact h.1,fun p hp=>?_⟩;have g:=Go.put (o:=HO.lst (xs++ys)) sm hp;exact k _ _ _ _ g (qez (SqL.of ql) ((qaz hr hq).mono g.f)) h.2
  | _=>exact Zh h
 | tuple l=>cases dy with
  | tuple m =>
   obtain ⟨a,xs,rfl,hs,hr⟩:=i1.tup_inv;obtain ⟨b,ys,rfl,ht,hq⟩:=i2.tup_inv;refine zaht pins s σ H _ _ v u Q I rx ry ⟨a,b,xs,ys,rfl,rfl,qM sm hs,qM sm ht,fun z=>h.1 (Jb.mp (by rw [<- hr.len,z];rfl)),by rw [hr.len,hq.len];exact h.2.1,fun z=>?_,fun _ p hp=>?_⟩
   ·have hm:m=[]:=Jb.mp (by rw [<- hq.len,z];rfl);subst hm;refine k _ _ F H (.refl sm) i1 ?_;have:=h.2.2;rw [Vj] at this;exact this
   ·have g:=Go.put (o:=HO.tup (xs++ys)) sm hp;exact k _ _ _ _ g (qjg (SqT.of ql) ((qaz hr hq).mono g.f)) h.2.2
  | _=>exact Zh h
 | str x0=>cases dy with
  | str y0 =>
   unfold Is at i1 i2;exact qwh pins s σ H x y v u Q I rx ry ⟨x0,y0,i1,i2,h.1,k _ _ F H (.refl sm) (zagj _) h.2⟩
  | _=>exact Zh h
 | _=>exact Zh h
def wCat (Wa Wb:WE):WF:=fun env Q=>Wa env fun x e1=>Wb e1 fun y e2=>match x,y with
 | .list l,.list m=>l.length+m.length<=Q9/\Q (l++m) e2
 | _,_=>False
def qcy {a b:Expr}{Wa Wb:WE}{pos:Pos} (ha:VE X a Wa) (hb:VE X b Wb):VF X (.BinOp a .Add b pos) (wCat Wa Wb):=(zahi qye ha hb).imp fun σ H R xx87=>by
 obtain ⟨M,env,F,Q,I,h,k⟩:=xx87;refine ⟨M,env,F,_,I,h,fun d v F1 H1 e1 I1 s1 i1 h1=>⟨M,e1,F1,_,I1,h1,fun d2 v2 F2 H2 e2 I2 s2 i2 h2=>?_⟩⟩;cases d with
 | list l=>cases d2 with
  | list m =>
   obtain ⟨a,xs,rfl,hs,hr⟩:=(i1.mono s2).lst_inv;obtain ⟨b,ys,rfl,ht,hq⟩:=i2.lst_inv;exact ⟨a,b,xs,ys,rfl,rfl,I2.fh.seq hs,I2.fh.seq ht,by rw [hr.len,hq.len];exact h2.1,qjt I2 (s1.trans s2) (qaz hr hq) h2.2 k⟩
  | _=>exact Zh h2
 | _=>exact Zh h2
def wRep (Wa:WF) (Wb:WE):WF:=fun env Q=>Wa env fun l e1=>Wb e1 fun y e2=>match y with
 | .int n=>(-(2^63)<=n/\n<2^63/\l.length*n.toNat<=Q9) /\ ∀ r,r=(Q4 n.toNat l).flatten->Q r e2
 | _=>False
def qzv {K:Qe}{H:Hp}{l:List Qi}{xs:List V} (h:Iss K H l xs) : ∀ k:Nat,Iss K H (Q4 k l).flatten (Q4 k xs).flatten
 | 0=>by simpa using qZ
 | k+1=>by rw [Y7,Y7,J7,J7];exact qaz h (qzv h k)
def EnvOk.keep {K:Qe}{M:Frm}{F H:Hp}{env:Sto}{σ:St} (I:EnvOk K M F H env σ) {a:Addr}{o:HO} (h:H a=some o) (h5 : ∀ i,(gS env i).mut=true->vS σ i≠some (.ref a)) (h6:M.B a=none) (h7:F a=none) :
 EnvOk K ⟨upd M.B a o,M.He,M.F0⟩ F H env σ where
  len:=I.len
  slot:=fun i=>by
   have S:=I.slot i;have n:=h5 i;cases q:gS env i with
   | non=>trivial
   | val d=>rw [q] at S;exact S
   | own ds =>
    rw [q] at S n;obtain ⟨b,vs,e,g1,g2,g3,g4,g5⟩:=S;have hb:b≠a:=fun z=>by subst z;exact n rfl e
    exact ⟨b,vs,e,g1,g2,by show upd M.B a o b=none;rw [qj hb];exact g3,g4,g5⟩
   | pen ds =>
    rw [q] at S n;obtain ⟨b,vs,e,g1,g2,g3,gx,g5⟩:=S;have hb:b≠a:=fun z=>by subst z;exact n rfl e
    exact ⟨b,vs,e,g1,g2,by show upd M.B a o b=none;rw [qj hb];exact g3,gx,g5⟩
   | new d =>
    rw [q] at S;obtain ⟨v,e,j⟩:=S;refine ⟨v,e,j.mono fun b u eb=>?_⟩;obtain ⟨z1,z2,z3⟩:=qnz eb;have hb:b≠a:=fun z=>by subst z;rw [h7] at z3;cases z3
    exact .of (qni (M:=⟨upd M.B a o,M.He,M.F0⟩) z1 (by show upd M.B a o b=none;rw [qj hb];exact z2) z3)
   | exc C=>rw [q] at S;exact S
   | obj a0 C nm fs =>
    rw [q] at S;obtain ⟨dx,vs,e,g1,g2⟩:=S;exact ⟨dx,vs,e,by show upd M.B a o a0=_;rw [qj (qv g1 h6)];exact g1,g2⟩
  dis:=I.dis
  f0:=I.f0
  fe:=I.fe
  fh:=I.fh
  bh:=fun b u e=>by
   have e:upd M.B a o b=some u:=e;by_cases z:b=a
   ·subst z;rw [ql] at e;exact .of (by rw [<- e];exact h)
   ·rw [qj z] at e;exact I.bh b u e
  new:=I.new
  dom:=I.dom
def EnvOk.unkeep {K:Qe}{M:Frm}{F H:Hp}{env:Sto}{σ:St}{a:Addr}{o:HO} (I:EnvOk K ⟨upd M.B a o,M.He,M.F0⟩ F H env σ) (h6:M.B a=none) (ho : ∀ C dx vs,o ≠ .ins C dx vs:=by intro _ _ _ z;cases z) (hn:NoT o:=by trivial):EnvOk K M F H env σ/\H a=some o:=by
 have mb : ∀ b,upd M.B a o b=none->M.B b=none:=fun b e=>by
  by_cases z:b=a
  ·subst z;exact h6
  ·rw [qj z] at e;exact e
 refine ⟨⟨I.len,fun i=>?_,I.dis,I.f0,I.fe,I.fh,fun b u e=>?_,I.new,I.dom⟩,I.bh.at ql hn⟩
 ·have S:=I.slot i;cases q:gS env i with
  | non=>trivial
  | val d=>rw [q] at S;exact S
  | own ds=>rw [q] at S;obtain ⟨b,vs,e,g1,g2,g3,g4,g5⟩:=S;exact ⟨b,vs,e,g1,g2,mb b g3,g4,g5⟩
  | pen ds=>rw [q] at S;obtain ⟨b,vs,e,g1,g2,g3,gx,g5⟩:=S;exact ⟨b,vs,e,g1,g2,mb b g3,gx,g5⟩
  | new d =>
   rw [q] at S;obtain ⟨v,e,j⟩:=S;refine ⟨v,e,j.mono fun b u eb=>?_⟩;obtain ⟨z1,z2,z3⟩:=qnz eb;exact .of (qni (M:=M) z1 (mb b z2) z3)
  | exc C=>rw [q] at S;exact S
  | obj a0 C nm fs =>
   rw [q] at S;obtain ⟨dx,vs,e,g1,g2⟩:=S;have g1:upd M.B a o a0=some (.ins C dx vs):=g1;by_cases z:a0=a
   ·subst z;rw [ql] at g1;exact (ho C dx vs (Qx g1)).elim
   ·rw [qj z] at g1;exact ⟨dx,vs,e,g1,g2⟩
 ·exact I.bh b u (by show upd M.B a o b=some u;rw [qj (qv e h6)];exact e)
def zanq {a b:Expr}{Wa:WF}{Wb:WE}{pos:Pos} (ha:VF X a Wa) (hb:VE X b Wb):VF X (.BinOp a .Mult b pos) (wRep Wa Wb):=(zahi zanp ha hb).imp fun σ H R xx88=>by
 obtain ⟨M,env,F,Q,I,h,k⟩:=xx88;refine ⟨M,env,F,_,I,h,fun p vs l F1 H1 e1 I1 s1 g1 g2 g3 g4 g5 g6 h1=>⟨_,e1,F1,_,I1.keep g1 g5 g3 g2,h1,fun d2 v2 F2 H2 e2 I2 s2 i2 h2=>?_⟩⟩;obtain ⟨I3,hp⟩:=I2.unkeep g3;cases d2 with
 | int n =>
  obtain ⟨⟨n1,n2,n3⟩,hq⟩:=h2;exact ⟨p,n,vs,rfl,i2.int_inv,hp,n1,n2,by rw [g6.len];exact n3,qjt I3 (s1.trans s2) (qzv (g6.mono s2) n.toNat) (hq _ rfl) k⟩
 | _=>exact Zh h2
section
variable {x:Str}{p pos:Pos}{e:Expr}{es:List Expr}{Wr:WF}{id T:String}{r:DC}{rf:List Qi->(List Qi->Prop)->Prop}
def qwt (r:DC) (Wr:WF):WE:=fun env Q=>Wr env fun ds e=>r ds fun d=>Q d e
def qso (r:List Qi->(List Qi->Prop)->Prop) (Wr:WF):WF:=fun env Q=>Wr env fun ds e=>r ds fun l=>Q l e
def qkp {σ:St}{H:Hp}{R:VK} (h:qdg X.K (qwt r Wr) σ H R):qgl X.K Wr σ H fun vs H1=>zace X.K r vs H1 R:=by
 obtain ⟨M,env,F,Q,I,h,k⟩:=h;exact ⟨M,env,F,_,I,h,fun ds vs F1 H1 e1 I1 s1 i1 h1=>⟨F1,ds,_,I1.fh,i1,h1,fun d v F2 H2 g i2 q=>k d v F2 H2 e1 (I1.go g) (s1.trans g.f) i2 q⟩⟩
def qie {σ:St}{H:Hp}{R:VK} (h:zabz X.K (qso rf Wr) σ H R):qgl X.K Wr σ H fun vs H1=>qtd X.K rf vs H1 R:=by
 obtain ⟨M,env,F,Q,I,h,k⟩:=h;refine ⟨M,env,F,_,I,h,fun ds vs F1 H1 e1 I1 s1 i1 h1=>⟨F1,ds,_,I1.fh,i1,h1,fun l a xs F2 H2 g ha hf hh hi q=>?_⟩⟩;exact k a xs l F2 H2 e1 (I1.go g) (s1.trans g.f) hh hf (qB I1.bh ha) (I1.he ha) (qgp I1 ha) hi q
def qm (hc:qig X (.builtin id) r) (hm:X.mg x=none) (hv:Z0 x=some (.builtin id)) (ha:VA X (e::es) Wr) (hg:Gl X x:=by rfl) (hn:x ≠ "__name__":=by decide) (hdb:Nd0 x:=by decide)
 (he:Qu (e::es) X.env=(false,eval e X.env)::Qu es X.env:=by rfl) (hpl:(V8 pos (Qu es X.env)).any (·.1)=false:=by rfl):VE X (.Call (.Name x p) (e::es) [] pos) (qwt r Wr) :=
 (qgz hc hg hm hv ha hn hdb he hpl).imp fun _ _ _ h=>qkp h
def qad (hc:qig X (.type T) r) (hm:X.mg x=none) (hv:Z0 x=some (.type T)) (ha:VA X (e::es) Wr) (hg:Gl X x:=by rfl) (hn:x ≠ "__name__":=by decide) (hdb:Nd0 x:=by decide)
 (he:Qu (e::es) X.env=(false,eval e X.env)::Qu es X.env:=by rfl) (hpl:(V8 pos (Qu es X.env)).any (·.1)=false:=by rfl):VE X (.Call (.Name x p) (e::es) [] pos) (qwt r Wr) :=
 (qkm hc hg hm hv ha hn hdb he hpl).imp fun _ _ _ h=>qkp h
def zadj (hc:qpi X (.builtin id) rf) (hm:X.mg x=none) (hv:Z0 x=some (.builtin id)) (ha:VA X (e::es) Wr) (hg:Gl X x:=by rfl) (hn:x ≠ "__name__":=by decide) (hdb:Nd0 x:=by decide)
 (he:Qu (e::es) X.env=(false,eval e X.env)::Qu es X.env:=by rfl) (hpl:(V8 pos (Qu es X.env)).any (·.1)=false:=by rfl):VF X (.Call (.Name x p) (e::es) [] pos) (qso rf Wr) :=
 (qgz hc hg hm hv ha hn hdb he hpl).imp fun _ _ _ h=>qie h
def qqg (hc:qpi X (.type T) rf) (hm:X.mg x=none) (hv:Z0 x=some (.type T)) (ha:VA X (e::es) Wr) (hg:Gl X x:=by rfl) (hn:x ≠ "__name__":=by decide) (hdb:Nd0 x:=by decide)
 (he:Qu (e::es) X.env=(false,eval e X.env)::Qu es X.env:=by rfl) (hpl:(V8 pos (Qu es X.env)).any (·.1)=false:=by rfl):VF X (.Call (.Name x p) (e::es) [] pos) (qso rf Wr) :=
 (qkm hc hg hm hv ha hn hdb he hpl).imp fun _ _ _ h=>qie h
def PSp (K:Qe) (sp:DC):Sp:=fun vs H Q _=>zace K sp vs H Q
def FSp (K:Qe) (sp:List Qi->(List Qi->Prop)->Prop):Sp:=fun vs H Q _=>qtd K sp vs H Q
def qy {k:Nat}{ps:List Str}{sp:DC} (O:OkC X x k ps (PSp X.K sp)) (hr:Room k X.A) (ha:VA X (e::es) Wr) (hg:Gl X x:=by rfl) (hdb:Nd0 x:=by decide)
 (he:Qu (e::es) X.env=(false,eval e X.env)::Qu es X.env:=by rfl) (hpl:(V8 pos (Qu es X.env)).any (·.1)=false:=by rfl):VE X (.Call (.Name x p) (e::es) [] pos) (qwt sp Wr) :=
 (qsy O hr ha hg hdb he hpl).imp fun σ H R h=>by
  have e:qlq (PSp X.K sp) [] E0 (qgl X.K Wr) σ H R=qgl X.K Wr σ H fun vs H1=>zace X.K sp vs H1 R:=by unfold qlq PSp;simp only [Vj]
  rw [e];exact qkp h
def qmu {k:Nat}{ps:List Str}{sp:List Qi->(List Qi->Prop)->Prop} (O:OkC X x k ps (FSp X.K sp)) (hr:Room k X.A) (ha:VA X (e::es) Wr) (hg:Gl X x:=by rfl) (hdb:Nd0 x:=by decide)
 (he:Qu (e::es) X.env=(false,eval e X.env)::Qu es X.env:=by rfl) (hpl:(V8 pos (Qu es X.env)).any (·.1)=false:=by rfl):VF X (.Call (.Name x p) (e::es) [] pos) (qso sp Wr) :=
 (qsy O hr ha hg hdb he hpl).imp fun σ H R h=>by
  have e:qlq (FSp X.K sp) [] E0 (qgl X.K Wr) σ H R=qgl X.K Wr σ H fun vs H1=>qtd X.K sp vs H1 R:=by unfold qlq FSp;simp only [Vj]
  rw [e];exact qie h
end
def dAbs:DC
 | [.int i],q=>q (.int (if i<0 then -i else i))
 | _,_=>False
def zaqj:DC
 | [.int i],q=>q (.int i)
 | [.bool b],q=>q (.int (if b then 1 else 0))
 | _,_=>False
def dLen:DC
 | [.list l],q=>q (.int l.length)
 | [.tuple l],q=>q (.int l.length)
 | [.str x],q=>x.length<=Q9/\q (.int x.length)
 | _,_=>False
def qiv {K:Qe}{H:Hp}{d:Qi}{vs:List V} (h:Iss K H [d] vs) : ∃ v,vs=[v]/\Is K H d v:=by
 obtain ⟨x,r,rfl,p,q⟩:=h.cons_inv;rw [q.nil_inv];exact ⟨x,rfl,p⟩
def iss2 {K:Qe}{H:Hp}{d e:Qi}{vs:List V} (h:Iss K H [d,e] vs) : ∃ v u,vs=[v,u]/\Is K H d v/\Is K H e u:=by
 obtain ⟨x,r,rfl,p,q⟩:=h.cons_inv;obtain ⟨y,rfl,q'⟩:=qiv q;exact ⟨x,y,rfl,p,q'⟩
def zahh:qig X (.builtin "abs") dAbs:=zade.imp fun xs H Q xx89=>by
 obtain ⟨F,ds,q,s,i,h,k⟩:=xx89
 match ds,h,i with
 | [.int n],h,i =>
  obtain ⟨v,rfl,j⟩:=qiv i;exact ⟨n,by rw [j.int_inv],k _ _ F H (.refl s) (qae _) h⟩
def zagz:qig X (.type "int") zaqj:=zabl.imp fun xs H Q xx90=>by
 obtain ⟨F,ds,q,s,i,h,k⟩:=xx90
 match ds,h,i with
 | [.int n],h,i =>
  obtain ⟨v,rfl,j⟩:=qiv i;exact .inl ⟨n,by rw [j.int_inv],k _ _ F H (.refl s) (qae _) h⟩
 | [.bool n],h,i =>
  obtain ⟨v,rfl,j⟩:=qiv i;exact .inr ⟨n,by rw [j.bl_inv],k _ _ F H (.refl s) (qae _) h⟩
def qbh:qig X (.builtin "len") dLen:=(qre.or qrk).imp fun xs H Q xx91=>by
 obtain ⟨F,ds,q,s,i,h,k⟩:=xx91
 match ds,h,i with
 | [.list l],h,i =>
  obtain ⟨v,rfl,j⟩:=qiv i;obtain ⟨a,xs,rfl,hs,hr⟩:=j.lst_inv;exact .inl ⟨a,xs,rfl,.inl (s.seq hs),k _ _ F H (.refl s) (by rw [hr.len];exact qae _) h⟩
 | [.tuple l],h,i =>
  obtain ⟨v,rfl,j⟩:=qiv i;obtain ⟨a,xs,rfl,hs,hr⟩:=j.tup_inv;exact .inl ⟨a,xs,rfl,.inr (qM s hs),k _ _ F H (.refl s) (by rw [hr.len];exact qae _) h⟩
 | [.str z],h,i =>
  obtain ⟨v,rfl,j⟩:=qiv i;unfold Is at j;subst j;exact .inr ⟨z,rfl,h.1,k _ _ F H (.refl s) (qae _) h.2⟩
def zanl:List Qi->(List Qi->Prop)->Prop
 | [.list l],q=>q l
 | [.tuple l],q=>q l
 | _,_=>False
def zagl:qpi X (.type "list") zanl:=qrd.imp fun xs H Q xx92=>by
 obtain ⟨F,ds,q,s,i,h,k⟩:=xx92
 match ds,h,i with
 | [.list l],h,i =>
  obtain ⟨v,rfl,j⟩:=qiv i;obtain ⟨a,xs,rfl,hs,hr⟩:=j.lst_inv;exact ⟨a,xs,rfl,.inl (s.seq hs),fun p hp=>k l p xs F _ (.side s hp) hp (qB s hp) ql hr h⟩
 | [.tuple l],h,i =>
  obtain ⟨v,rfl,j⟩:=qiv i;obtain ⟨a,xs,rfl,hs,hr⟩:=j.tup_inv;exact ⟨a,xs,rfl,.inr (qM s hs),fun p hp=>k l p xs F _ (.side s hp) hp (qB s hp) ql hr h⟩
def zanr:DC
 | [.list l],q=>q (.tuple l)
 | [.tuple l],q=>q (.tuple l)
 | _,_=>False
def qdu:qig X (.type "tuple") zanr:=qhw.imp fun xs H Q xx93=>by
 obtain ⟨F,ds,q,s,i,h,k⟩:=xx93
 match ds,h,i with
 | [.list l],h,i =>
  obtain ⟨v,rfl,j⟩:=qiv i;obtain ⟨a,xs,rfl,hs,hr⟩:=j.lst_inv;refine ⟨a,xs,rfl,.inl ⟨s.seq hs,fun p hp=>?_⟩⟩;have g:=Go.put (o:=HO.tup xs) s hp;exact k _ _ _ _ g (qjg (SqT.of ql) (hr.mono g.f)) h
 | [.tuple l],h,i =>
  obtain ⟨v,rfl,j⟩:=qiv i;obtain ⟨a,xs,rfl,hs,hr⟩:=j.tup_inv;exact ⟨a,xs,rfl,.inr ⟨qM s hs,k _ _ F H (.refl s) j h⟩⟩
end
end
section
section
variable {X:Cx}
section
variable {a b c e o:Expr}{W Wa Wb:WE}{Tc:WT}{pos pos':Pos}{st:Stmt}{sts rest:List Stmt}{Wt Wu:WS}{WfF:WF}
def zaqb:WS:=fun D env=>D.nx env
def wSeq (t u:WS):WS:=fun D env=>t { D with nx:=u D } env
def wMid (t u:WS):WS:=fun D env => ∃ Md:Sto->Prop,t { D with nx:=Md } env /\ ∀ e,Md e->u D e
def zalv:WS:=fun _ _=>False
def qr:VSs X [] zaqb:=qzp.imp fun D σ H xx94=>by obtain ⟨M,env,F,DD,I,h,k⟩:=xx94;exact k.nx env F H σ I (.refl _) h
def qh (h:VS X st Wt):VSs X [st] Wt:=qmr h
def qg (h1:VS X st Wt) (h2:VSs X rest Wu):VSs X (st::rest) (wSeq Wt Wu):=(qej h1 h2).imp fun D σ H xx95=>by
 obtain ⟨M,env,F,DD,I,h,k⟩:=xx95;exact ⟨M,env,F,{ DD with nx:=Wu DD },I,h,fun e' F' H' σ' I' s' h'=>⟨M,e',F',DD,I',h',k.mono s'⟩,k.rt,k.bk,k.ct⟩
def qew (h1:VS X st Wt) (h2:VSs X rest Wu):VSs X (st::rest) (wMid Wt Wu):=(qej h1 h2).imp fun D σ H xx96=>by
 obtain ⟨M,env,F,DD,I,⟨Md,h,hm⟩,k⟩:=xx96;exact ⟨M,env,F,{ DD with nx:=Md },I,h,fun e' F' H' σ' I' s' h'=>⟨M,e',F',DD,I',hm e' h',k.mono s'⟩,k.rt,k.bk,k.ct⟩
def qdj:VSs X sts zalv:=zabi.imp fun D σ H xx97=>by obtain ⟨M,env,F,DD,I,h,k⟩:=xx97;exact h.elim
def wFz (i:Nat) (t:WS):WS:=fun D env=>t D (env.set i (gS env i).fz)
def qsm (i:Nat) (h:VSs X sts Wt):VSs X sts (wFz i Wt):=h.imp fun D σ H xx98=>by
 obtain ⟨M,env,F,DD,I,h,k⟩:=xx98;obtain ⟨F',J,s⟩:=I.freeze i;exact ⟨M,_,F',DD,J,h,k.mono s⟩
def zapg (W:WE):WS:=fun D env=>W env fun _ e=>D.nx e
def qrq (he:VE X e W) (hs:Qan e none pos.line X.env=pure false:=by rfl):VS X (.Expr e pos) (zapg W):=(qns he hs).imp fun D σ H xx99=>by
 obtain ⟨M,env,F,DD,I,h,k⟩:=xx99;exact ⟨M,env,F,_,I,h,fun d v F1 H1 e1 I1 s1 i1 h1=>k.nx e1 F1 H1 σ I1 s1 h1⟩
def wRet (W:WE):WS:=fun D env=>W env fun d e=>D.rt (.val d) e
def qp (he:VE X e W):VS X (.Return (some e) pos) (wRet W):=(qta he).imp fun D σ H xx100=>by
 obtain ⟨M,env,F,DD,I,h,k⟩:=xx100;exact ⟨M,env,F,_,I,h,fun d v F1 H1 e1 I1 s1 i1 h1=>k.rt (.val d) v e1 F1 H1 σ I1 s1 i1 h1⟩
def zard (W:WF):WS:=fun D env=>W env fun l e=>D.rt (.own l) e
def qjq (he:VF X e WfF):VS X (.Return (some e) pos) (zard WfF):=(qta he).imp fun D σ H xx101=>by
 obtain ⟨M,env,F,DD,I,h,k⟩:=xx101;exact ⟨M,env,F,_,I,h,fun p vs l F1 H1 e1 I1 s1 g1 g2 g3 g4 g5 g6 h1=>k.rt (.own l) _ e1 F1 H1 σ I1 s1 ⟨p,vs,rfl,g1,g2,g3,g4,g6⟩ h1⟩
def wIf (Tc:WT) (t u:WS):WS:=fun D env=>Tc env fun k e=>if k=true then t D e else u D e
def qY {A B:List Stmt} (hc:VT X c Tc) (ha:VSs X A Wt) (hb:VSs X B Wu):VS X (.If c A B pos) (wIf Tc Wt Wu):=(zahc hc ha hb).imp fun D σ H xx102=>by
 obtain ⟨M,env,F,DD,I,h,k⟩:=xx102;refine ⟨M,env,F,_,I,h,fun x F1 H1 e1 I1 s1 h1=>?_⟩;cases x with
 | true=>exact qwd ⟨M,e1,F1,DD,I1,h1,k.mono s1⟩
 | false=>exact qrz ⟨M,e1,F1,DD,I1,h1,k.mono s1⟩
def wSet (i:Nat) (W:WE):WS:=fun D env=>W env fun d e=>D.nx (e.set i (.val d))
def qq {i:Nat}{x:Str} (hN:X.N.Nodup) (he:VE X e W) (hi:X.N[i]?=some x:=by rfl) (hx:Loc X.env.scope x:=by first|exact V0 rfl|exact Y6 rfl) (hs:Qan e (some (.Name x pos')) pos.line X.env=pure false:=by rfl)
 (hf:X.fn x=true\/X.env.scope.names.lookup x=some .local:=by first|exact .inl rfl|exact .inr rfl):VS X (.Assign [.Name x pos'] e pos) (wSet i W):=(qjf hN hi hx he hs hf).imp fun D σ H xx103=>by
 obtain ⟨M,env,F,DD,I,h,k⟩:=xx103;exact ⟨M,env,F,_,I,h,fun d v F1 H1 e1 I1 s1 i1 h1=>k.nx _ F1 H1 _ (I1.setv i1) s1 h1⟩
def zali (i:Nat) (W:WF):WS:=fun D env=>W env fun l e=>D.nx (e.set i (.own l))
def qrx {i:Nat}{x:Str} (hN:X.N.Nodup) (he:VF X e WfF) (hi:X.N[i]?=some x:=by rfl) (hx:Loc X.env.scope x:=by first|exact V0 rfl|exact Y6 rfl) (hs:Qan e (some (.Name x pos')) pos.line X.env=pure false:=by rfl)
 (hf:X.fn x=true\/X.env.scope.names.lookup x=some .local:=by first|exact .inl rfl|exact .inr rfl):VS X (.Assign [.Name x pos'] e pos) (zali i WfF):=(qjf hN hi hx he hs hf).imp fun D σ H xx104=>by
 obtain ⟨M,env,F,DD,I,h,k⟩:=xx104;exact ⟨M,env,F,_,I,h,fun p vs l F1 H1 e1 I1 s1 g1 g2 g3 g4 g5 g6 h1=>k.nx _ F1 H1 _ (I1.seto g1 g2 g3 g4 g5 g6) s1 h1⟩
def zamf (i:Nat):WG:=fun d env Q=>Q (env.set i (.val d))
def qo {i:Nat}{x:Str} (hN:X.N.Nodup) (hi:X.N[i]?=some x:=by rfl) (hx:Loc X.env.scope x:=by first|exact V0 rfl|exact Y6 rfl) (hf:X.fn x=true\/X.env.scope.names.lookup x=some .local:=by first|exact .inl rfl|exact .inr rfl):VG X (.Name x pos) (zamf i) :=
 (qyb hN hi hx hf).imp fun v σ H R xx105=>by obtain ⟨M,env,F,d,Q,I,j,h,k⟩:=xx105;exact k F H _ _ (I.setv j) (.refl _) h
def zare:WGs:=fun ds env Q=>ds=[]/\Q env
def zaoj (G:WG) (Gs:WGs):WGs:=fun ds env Q=>match ds with|[]=>False|d::r=>G d env fun e=>Gs r e Q
def qgh:VGs X [] zare:=zaju.imp fun v σ H R xx106=>by
 obtain ⟨M,env,F,ds,Q,I,j,h,k⟩:=xx106;obtain ⟨rfl,h⟩:=h;exact ⟨j.nil_inv,k F H env σ I (.refl _) h⟩
def qar {es:List Expr}{G:WG}{Gs:WGs} (h1:VG X e G) (h2:VGs X es Gs) (hs:(Qab (e::es) X.env).map (·.2)=Qgl e X.env::(Qab es X.env).map (·.2):=by rfl):VGs X (e::es) (zaoj G Gs) :=
 (zafo h1 h2 hs).imp fun v σ H R xx107=>by
  obtain ⟨M,env,F,ds,Q,I,j,h,k⟩:=xx107;cases ds with
  | nil=>exact Zh h
  | cons d r =>
   obtain ⟨x,xs,rfl,j1,j2⟩:=j.cons_inv;exact ⟨x,xs,rfl,M,env,F,d,_,I,j1,h,fun F1 H1 e1 σ1 I1 s1 q1=>⟨M,e1,F1,r,Q,I1,j2.mono s1,q1,fun F2 H2 e2 σ2 I2 s2 q2=>k F2 H2 e2 σ2 I2 (s1.trans s2) q2⟩⟩
def zapn (n:Nat) (Gs:WGs):WG:=fun d env Q=>match d with | .tuple l=>l.length=n/\Gs l env Q|_=>False
def qje {es:List Expr}{kk n:Nat}{Gs:WGs} (hc:X.calm=true) (h:VGs X es Gs) (hn:(Qab es X.env).length=n:=by rfl) (hst:(Qab es X.env).findIdx? (·.1)=none:=by rfl):VG X (.Tuple es kk pos) (zapn n Gs) :=
 (zamu hc h hn hst).imp fun v σ H R xx108=>by
  obtain ⟨M,env,F,d,Q,I,j,h,k⟩:=xx108;cases d with
  | tuple l =>
   obtain ⟨a,xs,rfl,hs,hr⟩:=j.tup_inv;exact ⟨a,xs,rfl,qM I.fh hs,by rw [hr.len];exact h.1,M,env,F,l,Q,I,hr,h.2,k⟩
  | _=>exact Zh h
def wAsg (W:WE) (G:WG):WS:=fun D env=>W env fun d e=>G d e D.nx
def zamx {tg:Expr}{G:WG} (he:VE X e W) (hg:VG X tg G) (hs:Qee [tg] e pos.line X.env=pure false:=by rfl) (hw:Qed [tg] e X.env=pure none:=by rfl)
 (h1:(Qab [tg] X.env).map (·.2)=[Qgl tg X.env]:=by rfl):VS X (.Assign [tg] e pos) (wAsg W G):=(zags he hg hs hw h1).imp fun D σ H xx109=>by
 obtain ⟨M,env,F,DD,I,h,k⟩:=xx109;exact ⟨M,env,F,_,I,h,fun d v F1 H1 e1 I1 s1 i1 h1=>⟨M,e1,F1,d,_,I1,i1,h1,fun F2 H2 e2 σ2 I2 s2 q2=>k.nx e2 F2 H2 σ2 I2 (s1.trans s2) q2⟩⟩
def wApp (i:Nat) (W:WE):WS:=fun D env=>(gS env i).mut=true/\W env fun d e=>(gS e i).mut=true/\(gS e i).cnt.length<Q9/\D.nx (e.set i ((gS e i).upd ((gS e i).cnt++[d])))
def qqn (i:Nat) {x:Str}{px apos cpos:Pos} (he:VE X e W) (hN:X.N[i]?=some x:=by rfl) (hv:Vis X.env.scope x:=by first|exact V0 rfl|exact Y6 (V0 rfl)|exact Y6 (Y6 rfl)) (hd:Nd0 x:=by decide)
 (hcd:Nd1 x:=by decide)
 (hbase:Qcr (.Name x px) "append" X.env (eval (.Name x px) X.env)=eval (.Name x px) X.env:=by rfl)
 (hfew:((V8 cpos (Qu [e] X.env)).all (fun x => !x.1)&&(Qjk cpos (Qep [] X.env)).all (fun x=>x.1.isSome)
  && decide ([e].length+([]:List Qdu).length+(if ([]:List Qdu).isEmpty then 0 else 1)<30))=true:=by rfl)
 (hline:(apos.endLine==cpos.line)=true:=by rfl) (hst:Qu [e] X.env=(false,eval e X.env)::Qu [] X.env:=by rfl) (hplain:(V8 cpos (Qu [] X.env)).any (·.1)=false:=by rfl)
 (hs:Qan (.Call (.Attribute (.Name x px) "append" apos) [e] [] cpos) none pos.line X.env=pure false:=by rfl):VS X (.Expr (.Call (.Attribute (.Name x px) "append" apos) [e] [] cpos) pos) (wApp i W) :=
 (qns (qqf (qcp hN hv hd hcd) he hbase hfew hline hst hplain) hs).imp fun D σ H xx110=>by
  obtain ⟨M,env,F,DD,I,⟨hm,h⟩,k⟩:=xx110;obtain ⟨p,vs,ep,g1,g2,g3,g4⟩:=(I.slot i).addr hm;refine ⟨_,qbr ep,.inl ⟨rfl,_,SqL.of g1⟩,M,env,F,_,I,h,fun d v F1 H1 e1 I1 s1 i1 h1=>?_⟩;obtain ⟨m1,z1,q1⟩:=h1;obtain ⟨p',vs1,ep',f1,f2,f3,f4⟩:=(I1.slot i).addr m1;rw [ep] at ep';injection ep' with ep';injection ep' with ep';subst ep';exact ⟨p,vs1,v,rfl,rfl,f1,by rw [f4.len];exact z1,k.nx _ F1 _ σ (I1.chg m1 ep (qaz f4 (qI i1 qZ))) s1 q1⟩
def wPut (i:Nat) (W Wj:WE):WS:=fun D env=>W env fun d e1=>(gS e1 i).mut=true/\Wj e1 fun y e2=>match y with
 | .int n=>(gS e2 i).mut=true /\ ∃ j,ixN (gS e2 i).cnt.length n=some j/\D.nx (e2.set i ((gS e2 i).upd ((gS e2 i).cnt.set j d)))
 | _=>False
def qzx {K:Qe}{H:Hp}{d:Qi}{v:V} (h:Is K H d v) : ∀ {l:List Qi}{xs:List V} (j:Nat),Iss K H l xs->Iss K H (l.set j d) (xs.set j v)
 | [],_,j,r=>by rw [r.nil_inv];simpa using qZ
 | x::l,_,0,r=>by obtain ⟨y,ys,rfl,p,q⟩:=r.cons_inv;exact qI h q
 | x::l,_,j+1,r=>by obtain ⟨y,ys,rfl,p,q⟩:=r.cons_inv;exact qI p (qzx h j q)
def qfb (i:Nat) {x:Str}{px:Pos} (he:VE X e W) (hj:VE X b Wb) (hN:X.N[i]?=some x:=by rfl) (hv:Vis X.env.scope x:=by first|exact V0 rfl|exact Y6 (V0 rfl)|exact Y6 (Y6 rfl)) (hd:Nd0 x:=by decide)
 (hcd:Nd1 x:=by decide)
 (ha : ∀ v,Qgl (.Subscript (.Name x px) b pos') X.env v=(do
  let ov <- Qik [v] (eval (.Name x px) X.env)
  let iv <- Qik [v,ov] (eval b X.env)
  standAt pos'
  Qik [v,ov,iv] (setItem ov iv v)
  release [v,ov,iv] []):=by intro _;rfl)
 (hs:Qee [.Subscript (.Name x px) b pos'] e pos.line X.env=pure false:=by rfl) (hw:Qed [.Subscript (.Name x px) b pos'] e X.env=pure none:=by rfl)
 (h1:(Qab [.Subscript (.Name x px) b pos'] X.env).map (·.2)=[Qgl (.Subscript (.Name x px) b pos') X.env]:=by rfl):VS X (.Assign [.Subscript (.Name x px) b pos'] e pos) (wPut i W Wb) :=
 (zags he (zalw (qcp hN hv hd hcd) hj zaei ha) hs hw h1).imp fun D σ H xx111=>by
  obtain ⟨M,env,F,DD,I,h,k⟩:=xx111;refine ⟨M,env,F,_,I,h,fun d v F1 H1 e1 I1 s1 i1 h1=>?_⟩;obtain ⟨m1,h1⟩:=h1;obtain ⟨p,vs,ep,g1,g2,g3,g4⟩:=(I1.slot i).addr m1;refine ⟨_,qbr ep,M,e1,F1,_,I1,h1,fun d2 v2 F2 H2 e2 I2 s2 i2 h2=>?_⟩;cases d2 with
  | int n =>
   obtain ⟨m2,j,hj,q⟩:=h2;obtain ⟨p',vs1,ep',f1,f2,f3,f4⟩:=(I2.slot i).addr m2;rw [ep] at ep';injection ep' with ep';injection ep' with ep';subst ep';exact ⟨p,vs1,n,j,rfl,i2.int_inv,f1,by rw [f4.len];exact hj,k.nx _ F2 _ σ (I2.chg m2 ep (qzx (i1.mono s2) j f4)) (s1.trans s2) q⟩
  | _=>exact Zh h2
def wIxO (i:Nat) (Wj:WE):WE:=fun env Q=>(gS env i).mut=true/\Wj env fun y e=>match y with
 | .int n=>(gS e i).mut=true /\ ∃ d,atI (gS e i).cnt n=some d/\Q d e
 | _=>False
def qcc (i:Nat) {x:Str}{px:Pos} (hj:VE X b Wb) (hN:X.N[i]?=some x:=by rfl) (hv:Vis X.env.scope x:=by first|exact V0 rfl|exact Y6 (V0 rfl)|exact Y6 (Y6 rfl)) (hd:Nd0 x:=by decide)
 (hcd:Nd1 x:=by decide) (hs:qsf b:=by exact (fun _ _=>rfl)):VE X (.Subscript (.Name x px) b pos) (wIxO i Wb) :=
 (zala qyi (qcp hN hv hd hcd) hj hs).imp fun σ H R xx112=>by
  obtain ⟨M,env,F,Q,I,⟨m,h⟩,k⟩:=xx112;obtain ⟨p,vs,ep,g1,g2,g3,g4⟩:=(I.slot i).addr m;refine ⟨_,qbr ep,M,env,F,_,I,h,fun d2 v2 F2 H2 e2 I2 s2 i2 h2=>?_⟩;cases d2 with
  | int n =>
   obtain ⟨m2,d,hd,q⟩:=h2;obtain ⟨p',vs1,ep',f1,f2,f3,f4⟩:=(I2.slot i).addr m2;rw [ep] at ep';injection ep' with ep';injection ep' with ep';subst ep';obtain ⟨z,ez,hz⟩:=f4.atI hd;exact ⟨p,vs1,n,z,rfl,i2.int_inv,SqL.of f1,ez,k d z F2 H2 e2 I2 s2 hz q⟩
  | _=>exact Zh h2
def zaoe (Tc:WT) (t:WS):WS:=fun D env => ∃ P:Nat->Sto->Prop,(∃ m,P m env) /\ ∀ m e,P m e->Tc e fun k e1=>if k=true then t { D with nx:=fun e2 => ∃ m',m'<m/\P m' e2,ct:=fun e2 => ∃ m',m'<m/\P m' e2,bk:=D.nx } e1 else D.nx e1
def qvd {body:List Stmt} (hc:VT X c Tc) (hb:VSs X body Wt) (hp:Qlq (model X.prog X.w) X.A X.env X.xe:=by exact Qgu):VS X (.While c body [] pos) (zaoe Tc Wt) :=
 (zaee hp hc hb).imp fun D σ H xx116=>by
  obtain ⟨M,env,F,DD,I,⟨P,⟨m0,p0⟩,turn⟩,k⟩:=xx116;refine ⟨fun m σ' H' => ∃ e' F',EnvOk X.K M F' H' e' σ'/\Same F F'/\P m e',⟨m0,env,F,I,.refl _,p0⟩,fun m σ1 H1 xx115=>?_⟩;obtain ⟨e1,F1,I1,s1,p1⟩:=xx115;refine ⟨M,e1,F1,_,I1,turn m e1 p1,fun x F2 H2 e2 I2 s2 h2=>?_⟩;cases x with
  | true =>
   refine qwd ⟨fun σ' H' => ∃ m',m'<m /\ ∃ e' F',EnvOk X.K M F' H' e' σ'/\Same F F'/\P m' e',fun σ' H' z=>z,M,e2,F2,_,I2,h2,?_⟩;have s02:=s1.trans s2;exact ⟨fun e3 F3 H3 σ3 I3 s3 xx114=>by obtain ⟨m',l,p3⟩:=xx114;exact ⟨m',l,e3,F3,I3,s02.trans s3,p3⟩,fun r v e3 F3 H3 σ3 I3 s3=>k.rt r v e3 F3 H3 σ3 I3 (s02.trans s3),
    fun e3 F3 H3 σ3 I3 s3=>k.nx e3 F3 H3 σ3 I3 (s02.trans s3),fun e3 F3 H3 σ3 I3 s3 xx113=>by obtain ⟨m',l,p3⟩:=xx113;exact ⟨m',l,e3,F3,I3,s02.trans s3,p3⟩⟩
  | false=>exact qrz (k.nx e2 F2 H2 σ1 I2 (s1.trans s2) h2)
def wFor (Wi:WF) (G:WG) (t:WS):WS:=fun D env=>Wi env fun ds e0 => ∃ P:Nat->Sto->Prop,P 0 e0 /\
 (∀ i d e,ds[i]?=some d->P i e->G d e fun e1=>t { D with nx:=P (i+1),ct:=P (i+1),bk:=D.nx } e1) /\ ∀ e,P ds.length e->D.nx e
def qef {tg iter:Expr}{body:List Stmt}{Wi:WF}{G:WG} (hc:X.calm=true) (hi:VI X tg iter Wi) (hg:VG X tg G) (hb:VSs X body Wt)
 (hs : ∀ x,Y2 iter X.env x=pure x:=by intro _;rfl) (hp:Qlq (model X.prog X.w) X.A X.env X.xe:=by exact Qgu):VS X (.For tg iter body [] pos) (wFor Wi G Wt) :=
  (zagu hp hc hi hg hb hs).imp fun D σ H xx119=>by
   obtain ⟨M,env,F,DD,I,h,k⟩:=xx119;refine ⟨M,env,F,_,I,h,fun ds J F1 H1 e1 I1 s1 jt xx118=>?_⟩;obtain ⟨P,p0,turn,fin⟩:=xx118;refine ⟨fun i m σ' H'=>m=ds.length-i/\i<=ds.length /\ ∃ e' F',EnvOk X.K M F' H' e' σ'/\Same F1 F'/\P i e',⟨ds.length,by simp,Y9 _,e1,F1,I1,.refl _,p0⟩,fun i m σ2 H2 xx117=>?_⟩;obtain ⟨hm,hi,e2,F2,I2,s2,p2⟩:=xx117;by_cases hl:i=ds.length
   ·subst hl;exact .inl ⟨jt.stop H2 (s2.trans I2.fh),k.nx e2 F2 H2 σ2 I2 (s1.trans s2) (fin e2 p2)⟩
   ·have hlt:i<ds.length:=by omega
    refine .inr ⟨jt.go i H2 (s2.trans I2.fh) hlt,fun σ' H' => ∃ e' F',EnvOk X.K M F' H' e' σ'/\Same F1 F'/\P (i+1) e',fun σ' H' z=>⟨ds.length-(i+1),by omega,rfl,hlt,z⟩,fun x H3 hy=>?_⟩;obtain ⟨d,F3,hd,g,j⟩:=jt.yld i H2 x H3 F2 s2 I2.fh hlt hy;refine ⟨M,e2,F3,d,_,I2.go g,j,turn i d e2 hd p2,fun F4 H4 e4 σ4 I4 s4 h4=>⟨M,e4,F4,_,I4,h4,?_⟩⟩;have s14:=s2.trans (g.f.trans s4);exact ⟨fun e5 F5 H5 σ5 I5 s5 p5=>⟨e5,F5,I5,s14.trans s5,p5⟩,fun r v e5 F5 H5 σ5 I5 s5=>k.rt r v e5 F5 H5 σ5 I5 ((s1.trans s14).trans s5),
     fun e5 F5 H5 σ5 I5 s5=>k.nx e5 F5 H5 σ5 I5 ((s1.trans s14).trans s5),fun e5 F5 H5 σ5 I5 s5 p5=>⟨e5,F5,I5,s14.trans s5,p5⟩⟩
end
end
end
section
section
variable {X:Cx}
def qip : ∀ {bs:List Bool}{us:List Value},Vals (bs.map V.bl) us->LSm.BoolsAre us bs
 | [],_,h=>by cases h;exact .nil
 | b::bs,_,h=>by
  cases h with
  | cons r t=>cases r;exact .cons b (qip t)
def rAll (K:Qe):List V->Hp->VK->Prop:=fun xs H Q => ∃ (a:Addr) (bs:List Bool),xs=[.ref a]/\SqL K H a (bs.map V.bl)/\Q (.bl (bs.all id)) H
def zafb (hc:X.calm=true):CallR X (.builtin "all") (rAll X.K):=by
 intro pins s σ H xs us Q I r h;obtain ⟨a,bs,rfl,ha,q⟩:=h;obtain ⟨u,rfl,rx⟩:=qhp r;cases rx;obtain ⟨its,rv,pl,_⟩:=I.list ha;have hl:=pl.isList;have hb:=qip rv;have hlt:a<s.heap.objs.size:=pl.lt;refine call_all_walk (Qae hl ?_);refine ⟨s.heap.objs.size,[s.heap.objs.size,a],[s.heap.objs.size],its.toArray.size,_,_,fun i=>(bs[i]?).getD true,rfl,Qjq (A:=X.A.in1) (I.ok.hd hc) _ a (Qq hlt) its.toArray,
  ⟨⟨_,Qy _ rfl,rfl,rfl⟩,hl.push _⟩,fun i v s' Q' E' hP hQ=>?_,fun h' tk hk=>?_⟩
 ·obtain ⟨b,e,rfl⟩:=hb.get i v (by simpa using hP);simp only [e,Qbr] at hQ;exact Vf hQ
 ·have hlen:its.toArray.size=bs.length:=by rw [Qr];exact hb.length
  have e:((Q1 its.toArray.size).all fun i=>(bs[i]?).getD true)=bs.all id:=by
   rw [hlen,Qgv,Zi,Zi];constructor
   ·intro z b hb';obtain ⟨i,hi,rfl⟩:=Qeh hb';have:=z i (Q6.mpr hi);simpa [hi] using this
   ·intro z i hi;have hi':=Q6.mp hi;simpa [hi'] using z _ (Za hi')
  rw [e];refine ⟨.bl (bs.all id),H,I.kept (t':=tk) (fun b o z=>hk b o (fun hm=>?_) (Qf _ z)),rfl,q⟩;rw [Qw.mp hm] at z;exact Ja _ (Qp z)
def qll : ∀ (ns:List Int) (n:Nat),n<=ns.length->preSum (fun i=>(ns[i]?).getD 0) n=(ns.take n).sum
 | ns,0,_=>by simp [preSum]
 | ns,n+1,h=>by
  have hn:n<ns.length:=h;have e:(ns[n]?).getD 0=ns[n]:=by rw [Qa hn];rfl
  have e2:(ns.take n++[ns[n]]).sum=(ns.take n).sum+ns[n]:=by rw [Yd];simp
  rw [preSum,qll ns n (Z6 hn),e,Vd,Qa hn];exact e2.symm
def qoj : ∀ {ns:List Int}{us:List Value},Vals (ns.map V.int) us -> ∀ (i:Nat) (v:Value),us[i]?=some v -> ∃ t,v = .int ((ns[i]?).getD 0) t
 | [],_,h,i,v,e=>by cases h;simp at e
 | n::ns,_,h,i,v,e=>by
  cases h with
  | cons r t =>
   cases i with
   | zero =>
    obtain ⟨k,rfl⟩:=r;have:Qkx n k=v:=by simpa using e
    exact ⟨k,by rw [<- this];rfl⟩
   | succ i =>
    obtain ⟨k,hk⟩:=qoj t i v (by simpa using e);exact ⟨k,by simpa using hk⟩
def rSum (K:Qe):List V->Hp->VK->Prop:=fun xs H Q => ∃ (a:Addr) (ns:List Int),xs=[.ref a]/\(SqL K H a (ns.map V.int)\/SqT K H a (ns.map V.int))/\Q (.int ns.sum) H
def zadn (hc:X.calm=true):CallR X (.builtin "sum") (rSum X.K):=by
 intro pins s σ H xs us Q I r h;obtain ⟨a,ns,rfl,ha,q⟩:=h;obtain ⟨u,rfl,rx⟩:=qhp r;cases rx;have fin : ∀ (its:List Value) (h':Heap) (tk t':Nat),its.length=ns.length->(∀ b o,s.heap.get? b=some o->h'.get? b=some o)->EP X pins σ Q (.int (preSum (fun i=>(ns[i]?).getD 0) its.toArray.size) t') { s with heap:=h',toks:=tk }:=fun its h' tk t' hl hk=>by
  have e:preSum (fun i=>(ns[i]?).getD 0) its.toArray.size=ns.sum:=by
   rw [Qr,hl,qll ns _ (Qz _),Yt]
  rw [e];exact ⟨.int ns.sum,H,I.kept (t':=tk) hk,⟨t',rfl⟩,q⟩
 have old : ∀ {h':Heap}{ob:Obj},(∀ b o,b ∉ [s.heap.objs.size]->(s.heap.push ob).get? b=some o->h'.get? b=some o) -> ∀ b o,s.heap.get? b=some o->h'.get? b=some o:=fun hk b o z =>
  hk b o (fun hm=>by rw [Qw.mp hm] at z;exact Ja _ (Qp z)) (Qf _ z)
 rcases ha with ha|ha
 ·obtain ⟨its,rv,pl,_⟩:=I.list ha;have hl:=pl.isList;have hlt:a<s.heap.objs.size:=pl.lt;have hlen:its.length=ns.length:=by rw [<- rv.length,Qk]
  refine call_sum_walkG (Qae hl ?_);refine ⟨s.heap.objs.size,[s.heap.objs.size,a],[s.heap.objs.size],its.toArray.size,_,_,fun i=>(ns[i]?).getD 0,rfl,Qjq (A:=X.A.in1) (I.ok.hd hc) _ a (Qq hlt) its.toArray,
   ⟨⟨_,Qy _ rfl,rfl,rfl⟩,hl.push _⟩,fun b hb=>?_,fun i v hP=>qoj rv i v (by simpa using hP),fun h' tk t' hk=>fin its h' tk t' hlen (old hk)⟩
  have hb':b=s.heap.objs.size\/b=a:=by simpa using hb
  rw [Yz];rcases hb' with rfl|rfl
  ·exact Qam _
  ·exact Yy hlt
 ·obtain ⟨its,rv,pl,_⟩:=I.tuple ha;have hl:s.heap.IsTuple a its.toArray:=pl;have hlt:a<s.heap.objs.size:=IsTup.lt pl;have hlen:its.length=ns.length:=by rw [<- rv.length,Qk]
  refine call_sum_walkG (Qfd hl ?_);refine ⟨s.heap.objs.size,[s.heap.objs.size,a],[s.heap.objs.size],its.toArray.size,_,_,fun i=>(ns[i]?).getD 0,rfl,Walks.tuple (A:=X.A.in1) (I.ok.hd hc) _ a (Qq hlt) its.toArray,
   ⟨⟨_,Qy _ rfl,rfl,rfl⟩,pl.push _⟩,fun b hb=>?_,fun i v hP=>qoj rv i v (by simpa using hP),fun h' tk t' hk=>fin its h' tk t' hlen (old hk)⟩
  have hb':b=s.heap.objs.size\/b=a:=by simpa using hb
  rw [Yz];rcases hb' with rfl|rfl
  ·exact Qam _
  ·exact Yy hlt
def zahy (K:Qe):List V->Hp->VK->Prop:=fun xs H Q => ∃ (a:Addr) (ns:List Int),xs=[.ref a]/\SqL K H a (ns.map V.int)/\ns.length<64 /\ ∀ (p:Addr) (ns':List Int),H p=none->ns'.Perm ns->ns'.Pairwise (· <= ·)->Q (.ref p) (upd H p (.lst (ns'.map V.int)))
def qtp:CallR X (.builtin "sorted") (zahy X.K):=by
 intro pins s σ H xs us Q I r h;obtain ⟨a,ns,rfl,ha,h64,q⟩:=h;obtain ⟨u,rfl,rx⟩:=qhp r;cases rx;obtain ⟨its,rv,pl,_⟩:=I.list ha;have hlen:its.length=ns.length:=by rw [<- rv.length,Qk]
 refine sorted_ints pl.isList (qin rv) (by omega) fun out ns' a1 a2 a3=>?_;obtain ⟨e,he⟩:=sortedAll_at s.heap its out;have hl':ns'.length=ns.length:=a2.length_eq;refine ⟨.ref (s.heap.objs.size+1),_,I.laid (t':=s.toks) (a:=s.heap.objs.size+1) (o :=.lst (ns'.map V.int)) (fun b o z=>sortedAll_old z) (Qih _) ?_,rfl,q _ ns' (I.hok.fresh (Qih _)) a2 a3⟩;exact ⟨Z6 (qi (by rw [Qk];omega)),out.toList,e,qkn a1,by rw [Array.toArray_toList];exact he⟩
def iAny (K:Qe) (tl:TE):TI:=fun σ H R=>tl σ H fun x H1 => ∃ a,x = .ref a/\(((∃ xs,SqL K H1 a xs)/\R (Itl K a) H1)\/((∃ xs,SqT K H1 a xs)/\R (Itt K a) H1))
def zanh {tg l:Expr}{tl:TE} (hl:PE X l tl):PI X tg l (iAny X.K tl):=by
 intro pins s σ H R I h;refine thn (hl pins s σ H _ I h) fun v s1 xx120=>?_;obtain ⟨x,H1,I1,r1,q1⟩:=xx120;obtain ⟨a,e,q1⟩:=q1;subst e;cases r1;rcases q1 with ⟨⟨xs,hq⟩,q⟩|⟨⟨xs,hq⟩,q⟩
 ·obtain ⟨its,rv,p,hz⟩:=I1.list hq;refine Qae p.isList ?_;refine ⟨s1.heap.objs.size,[s1.heap.objs.size],_,_,H1,rfl,I1.kept (t':=s1.toks) fun b o e=>Qf _ e,zaap a _,⟨_,Qy _ rfl,rfl,rfl⟩,fun b hb=>?_,q⟩;have e:b=s1.heap.objs.size:=by simpa using hb
  subst e;exact I1.fpOk (Qz _) (I1.hok.fresh (Qz _))
 ·obtain ⟨its,rv,p,hz⟩:=I1.tuple hq;refine Qfd (show s1.heap.IsTuple a its.toArray from p) ?_;refine ⟨s1.heap.objs.size,[s1.heap.objs.size],_,_,H1,rfl,I1.kept (t':=s1.toks) fun b o e=>Qf _ e,qvo a _,⟨_,Qy _ rfl,rfl,rfl⟩,fun b hb=>?_,q⟩;have e:b=s1.heap.objs.size:=by simpa using hb
  subst e;exact I1.fpOk (Qz _) (I1.hok.fresh (Qz _))
end
def boot_all:Z0 "all" = some (.builtin "all"):=by decide +kernel
def boot_sum:Z0 "sum" = some (.builtin "sum"):=by decide +kernel
def boot_sorted:Z0 "sorted" = some (.builtin "sorted"):=by decide +kernel
end
section
section
variable {X:Cx}
def zaih {K:Qe}{F:Hp}{a:Addr}{xs:List V}{l:List Qi} (hs:SqL K F a xs) (hr:Iss K F l xs):ItD K (Itl K a) F l where
 go:=fun i H s hi=>⟨xs,xs[i]'(by rw [hr.len];exact hi),s.seq hs,Qa _⟩
 stop:=fun H s=>⟨xs,s.seq hs,by rw [hr.len];exact Qz _⟩
 yld:=fun i H x H' F1 s1 s2 hi hy=>by
  obtain ⟨rfl,hy⟩:=hy;obtain ⟨d,e1,e2⟩:=hr.get' (hy xs ((s1.trans s2).seq hs));exact ⟨d,F1,e1,.refl s2,e2.mono s1⟩
def zajx {K:Qe}{F:Hp}{a:Addr}{xs:List V}{l:List Qi} (hs:SqT K F a xs) (hr:Iss K F l xs):ItD K (Itt K a) F l where
 go:=fun i H s hi=>⟨xs,xs[i]'(by rw [hr.len];exact hi),qM s hs,Qa _⟩
 stop:=fun H s=>⟨xs,qM s hs,by rw [hr.len];exact Qz _⟩
 yld:=fun i H x H' F1 s1 s2 hi hy=>by
  obtain ⟨rfl,hy⟩:=hy;obtain ⟨d,e1,e2⟩:=hr.get' (hy xs (qM (s1.trans s2) hs));exact ⟨d,F1,e1,.refl s2,e2.mono s1⟩
def qym (lo:Int) (n:Nat):List Qi:=(Q1 n).map fun (k:Nat) => .int (lo+(k:Int))
def qN (lo:Int) (n:Nat):(qym lo n).length=n:=by simp [qym]
def quw {lo:Int}{n i:Nat} (h:i<n):(qym lo n)[i]?=some (.int (lo+i)):=by simp [qym,h]
def qct {lo:Int}{n i:Nat}{d:Qi} (h:(qym lo n)[i]?=some d):i<n/\d = .int (lo+i):=by
 have hi:i<n:=by
  have:=(Qg.mp h).1
  rwa [qN] at this
 rw [quw hi] at h;exact ⟨hi,(Qx h).symm⟩
def zait {K:Qe}{F:Hp}{lo:Int}{n:Nat}:ItD K (Itr lo n) F (qym lo n) where
 go:=fun i H s hi=>by rw [qN] at hi;exact hi
 stop:=fun H s=>by rw [qN];exact Qz _
 yld:=fun i H x H' F1 s1 s2 hi hy=>by
  obtain ⟨rfl,rfl⟩:=hy;rw [qN] at hi;exact ⟨_,F1,quw hi,.refl s2,qae _⟩
def qpv (l:List Qi):List Qi:=(Q1 l.length).map fun (k:Nat) => .tuple [.int k,(l[k]?).getD .none]
def qhd (l:List Qi):(qpv l).length=l.length:=by simp [qpv]
def qqe {l:List Qi}{i:Nat}{d:Qi} (h:l[i]?=some d):(qpv l)[i]?=some (.tuple [.int i,d]):=by
 have hi:=(Qg.mp h).1;have e:l[i]=d:=by rw [Qa hi] at h;exact Qx h
 simp [qpv,hi,e]
def zaar {l:List Qi}{i:Nat}{d:Qi} (h:(qpv l)[i]?=some d) : ∃ x,l[i]?=some x/\d = .tuple [.int i,x]:=by
 have hi:i<l.length:=by
  have:=(Qg.mp h).1
  rwa [qhd] at this
 have e:=qqe (Qa hi);rw [h] at e;exact ⟨_,Qa hi,Qx e⟩
def zadc {K:Qe}{F:Hp}{a:Addr}{xs:List V}{l:List Qi} (hs:SqL K F a xs) (hr:Iss K F l xs):ItD K (Ite K a) F (qpv l) where
 go:=fun i H s hi=>by rw [qhd] at hi;exact ⟨xs,xs[i]'(by rw [hr.len];exact hi),s.seq hs,Qa _⟩
 stop:=fun H s=>by rw [qhd];exact ⟨xs,s.seq hs,by rw [hr.len];exact Qz _⟩
 yld:=fun i H x H' F1 s1 s2 hi hy=>by
  obtain ⟨p,y,hy,hp,rfl,rfl⟩:=hy;obtain ⟨d,e1,e2⟩:=hr.get' (hy xs ((s1.trans s2).seq hs));have g:=Go.put (o:=HO.tup [.int i,y]) s2 hp;exact ⟨_,_,qqe e1,g,qjg (SqT.of ql) (qI (qae _) (qI ((e2.mono s1).mono g.f) qZ))⟩
section
variable {tg a b c:Expr}{W:WE}{Wr:WF}{p pos:Pos}
def isTy (T:String):Qi->Bool
 | .none=>false
 | .bool _=>T == "bool" || T == "int"
 | .int _=>T == "int"
 | .str _=>T == "str"
 | .list _=>T == "list"
 | .tuple _=>T == "tuple"
 | .dict _=>T == "dict"
def dSum:DC
 | [.list l],q => ∃ ns:List Int,l=ns.map .int/\q (.int ns.sum)
 | [.tuple l],q => ∃ ns:List Int,l=ns.map .int/\q (.int ns.sum)
 | _,_=>False
def qcs:Qi->Option (List Qi)
 | .list l=>some l
 | .tuple l=>some l
 | _=>none
def qax {d:Qi}{l:List Qi}{Q:List Qi->Prop} (h:qcs d=some l) (q:Q l):(qcs d).elim False Q:=by rw [h];exact q
def qyx {d:Qi}{l:List Qi}{i:Int}{x:Qi}{q:Qi->Prop} (h:qcs d=some l) (e:atI l i=some x) (hq:q x):dIx d (.int i) q:=by
 cases d with
 | list m=>cases h;exact ⟨x,e,hq⟩
 | tuple m=>cases h;exact ⟨x,e,hq⟩
 | _=>cases h
def zaqw (W:WE):WF:=fun env Q=>W env fun d e=>(qcs d).elim False fun l=>Q l e
def qQ (h:VE X a W):VI X tg a (zaqw W):=(zanh h).imp fun σ H R xx121=>by
 obtain ⟨M,env,F,Q,I,h,k⟩:=xx121;refine ⟨M,env,F,_,I,h,fun d v F1 H1 e1 I1 s1 i1 h1=>?_⟩;cases d with
 | list l =>
  obtain ⟨b,xs,rfl,hs,hr⟩:=i1.lst_inv;exact ⟨b,rfl,.inl ⟨⟨xs,I1.fh.seq hs⟩,k l _ F1 H1 e1 I1 s1 (zaih hs hr) h1⟩⟩
 | tuple l =>
  obtain ⟨b,xs,rfl,hs,hr⟩:=i1.tup_inv;exact ⟨b,rfl,.inr ⟨⟨xs,qM I1.fh hs⟩,k l _ F1 H1 e1 I1 s1 (zajx hs hr) h1⟩⟩
 | _=>exact Zh h1
def wiR1 (W:WE):WF:=fun env Q=>W env fun d e=>match d with
 | .int j=>(-(2^62)<=j/\j<2^62)/\Q (qym 0 j.toNat) e
 | _=>False
def qam (hm:X.mg "range" = none) (ha:VE X a W) (hg:Gl X "range":=by rfl) (hs:Qu [a] X.env=[(false,eval a X.env)]:=by rfl) (hs':Qu [a] X.env=(false,eval a X.env)::Qu [] X.env:=by rfl):VI X tg (.Call (.Name "range" p) [a] [] pos) (wiR1 W) :=
 (zabv hg hm (qV ha qcq hs') hs).imp fun σ H R xx122=>by
  obtain ⟨M,env,F,Q,I,h,k⟩:=xx122;refine ⟨M,env,F,_,I,h,fun d v F1 H1 e1 I1 s1 i1 h1=>?_⟩;cases d with
  | int j=>exact ⟨j,by rw [i1.int_inv],h1.1.1,h1.1.2,k _ _ F1 H1 e1 I1 s1 zait h1.2⟩
  | _=>exact Zh h1
def wiEn (W:WE):WF:=fun env Q=>W env fun d e=>match d with
 | .list l=>Q (qpv l) e
 | _=>False
def zajy {elts:List Expr}{x1:Nat}{tpos:Pos} (hm:X.mg "enumerate" = none) (ha:VE X a W) (hg:Gl X "enumerate":=by rfl) (hs:Qu [a] X.env=[(false,eval a X.env)]:=by rfl) (hs':Qu [a] X.env=(false,eval a X.env)::Qu [] X.env:=by rfl) :
 VI X (.Tuple elts x1 tpos) (.Call (.Name "enumerate" p) [a] [] pos) (wiEn W) :=
 (zaix hg hm (qV ha qcq hs') hs).imp fun σ H R xx123=>by
  obtain ⟨M,env,F,Q,I,h,k⟩:=xx123;refine ⟨M,env,F,_,I,h,fun d v F1 H1 e1 I1 s1 i1 h1=>?_⟩;cases d with
  | list l =>
   obtain ⟨b,xs,rfl,hs,hr⟩:=i1.lst_inv;exact ⟨b,rfl,⟨xs,I1.fh.seq hs⟩,k _ _ F1 H1 e1 I1 s1 (zadc hs hr) h1⟩
  | _=>exact Zh h1
end
def Sl.seen:Sl->Sl
 | .val d => .val d
 | .new d => .val d
 | _ => .non
def qzz (ix:List Nat) (k:Nat) (env:Sto):Sto:=ix.map (fun i=>(gS env i).seen)++Q4 k .non
def zacd (ix:List Nat) (k:Nat) (Wi:WF) (G:WG) (We:WE):WF:=fun env Q=>Wi env fun ds e0=>ds.length<Q9 /\ ∃ P:Nat->List Qi->Sto->Prop,P 0 [] (qzz ix k e0) /\
 (∀ i d ys e,ds[i]?=some d->P i ys e->G d e fun e1=>We e1 fun y e2=>P (i+1) (ys++[y]) e2) /\ ∀ ys e,P ds.length ys e->Q ys e0
def qpo : ∀ (ix:List Nat) (f:Nat->Sl) (r:Sto) (j:Nat),gS (ix.map f++r) j=match ix[j]? with|some i=>f i|none=>gS r (j-ix.length)
 | [],f,r,j=>by simp
 | i::ix,f,r,0=>by simp [gS]
 | i::ix,f,r,j+1=>by simp only [Q7,Qkk,gS,Vc,Zp,Qgw];exact qpo ix f r j
def qfc (k j:Nat):gS (Q4 k .non) j = .non:=by
 induction k generalizing j with
 | zero=>simp [gS]
 | succ k ih=>cases j with
  | zero=>simp [Y7,gS]
  | succ j=>simp only [Y7,gS];exact ih j
def zafv (ix:List Nat) (k:Nat) (σ:St) (j i:Nat) (h:ix[j]?=some i):vS (qoy ix k σ) j=vS σ i:=by
 have hj:=(Qg.mp h).1;unfold vS qoy;rw [Zm (by simpa using hj),Qc,h];rfl
def EnvOk.cap {K:Qe}{M:Frm}{F H:Hp}{env:Sto}{σ:St} (I:EnvOk K M F H env σ) (ix:List Nat) (k:Nat):EnvOk K ⟨H,H,F⟩ F H (qzz ix k env) (qoy ix k σ) where
 len:=by simp [qzz,qoy]
 slot:=fun j=>by
  unfold qzz;rw [qpo];cases h:ix[j]? with
  | none=>rw [qfc];trivial
  | some i =>
   show SlotOk K _ F H (gS env i).seen _;rw [zafv ix k σ j i h];have S:=I.slot i;cases q:gS env i with
   | val d=>rw [q] at S;exact S
   | non=>trivial
   | own ds=>trivial
   | pen ds=>trivial
   | new d=>rw [q] at S;obtain ⟨v,e,j⟩:=S;exact ⟨v,e,j.is qge⟩
   | exc C=>trivial
   | obj a0 C nm fs=>trivial
 dis:=fun i j a _ h1=>by
  unfold qzz at h1;rw [qpo] at h1;cases h:ix[i]? with
  | none=>rw [h,qfc] at h1;cases h1
  | some n =>
   rw [h] at h1;replace h1:(gS env n).seen.mut=true:=h1
   cases q:gS env n <;> rw [q] at h1 <;> cases h1
 f0 :=.refl _
 fe:=I.fh
 fh:=I.fh
 bh :=.refl _
 new:=fun b o e => .inl e
 dom:=fun b o e=>⟨o,e⟩
def EnvOk.goOf {K:Qe}{F H F' H':Hp}{env:Sto}{σ:St} (I:EnvOk K ⟨H,H,F⟩ F' H' env σ):Go F H F' H':=⟨I.f0,I.bh,I.fh,I.new⟩
section
variable {K:Qe}{ix:List Nat}{n:Nat}{Wi:WF}{G:WG}{We:WE}{σ:St}{H:Hp}{R:VK}
def qki (h:zabz K (zacd ix n Wi G We) σ H R):qwv ix n (qmv K Wi) (qnf K G) (qdg K We) σ H R:=by
 obtain ⟨M,env,F,Q,I,h,k⟩:=h;refine ⟨M,env,F,_,I,h,fun ds J F1 H1 e1 I1 s1 jt xx125=>?_⟩;obtain ⟨hz,P,p0,turn,fin⟩:=xx125;refine ⟨fun i m ys σ1 H'=>m=ds.length-i/\i<=ds.length /\ ∃ e' F' l,EnvOk K ⟨H1,H1,F1⟩ F' H' e' σ1/\Iss K F' l ys/\ys.length=i/\P i l e',⟨ds.length,by simp,Y9 _,qzz ix n e1,F1,[],I1.cap ix n,qZ,rfl,p0⟩,?_⟩;rintro i m ys σ1 H2 ⟨hm,hi,e2,F2,l,I2,i2,hl,p2⟩;have g2:=I2.goOf;by_cases he:i=ds.length
 ·subst he;exact .inl ⟨jt.stop H2 (g2.f.trans g2.fh),by omega,qjt (I1.go g2) (s1.trans g2.f) i2 (fin l e2 p2) k⟩
 ·have hlt:i<ds.length:=by omega
  refine .inr ⟨jt.go i H2 (g2.f.trans g2.fh) hlt,by omega,fun y σ' H' => ∃ e' F' l',EnvOk K ⟨H1,H1,F1⟩ F' H' e' σ'/\Iss K F' l' (ys++[y])/\P (i+1) l' e',
   fun y σ' H' xx124=>by obtain ⟨e',F',l',I',i',p'⟩:=xx124;exact ⟨ds.length-(i+1),by omega,rfl,hlt,e',F',l',I',i',by simp [hl],p'⟩,fun x H3 hy=>?_⟩
  obtain ⟨d,F3,hd,g,j⟩:=jt.yld i H2 x H3 F2 g2.f g2.fh hlt hy;refine ⟨_,e2,F3,d,_,I2.go g,j,turn i d l e2 hd p2,fun F4 H4 e4 σ4 I4 s4 h4=>⟨_,e4,F4,_,I4,h4,fun d5 v5 F5 H5 e5 I5 s5 i5 h5=>?_⟩⟩;exact ⟨e5,F5,l++[d5],I5,qaz ((i2.mono (g.f.trans s4)).mono s5) (qI i5 qZ),h5⟩
end
def qK {elt target iter:Expr}{scope:Scope}{pos:Pos}{caps own:List Str}{ix:List Nat}{Wi:WF}{G:WG}{We:WE} (hc:X.calm=true) (S:CompScope X.env scope caps) (hi:VI X target iter Wi)
 (hg : ∀ pins s3 H ex,VG (blk X pins scope (caps++own) s3 H ex) target G)
 (he : ∀ pins s3 H ex,VE (blk X pins scope (caps++own) s3 H ex) elt We)
 (hix:caps.length=ix.length:=by rfl) (hcapB:(caps.zip ix).all (fun p=>X.N[p.2]?==some p.1)=true:=by rfl)
  (hs : ∀ x,Y2 iter X.env x=pure x:=by intro _;rfl):VF X (.ListComp elt [⟨target,iter,[],0⟩] scope pos) (zacd ix own.length Wi G We) :=
  (qzc (g:=qnf X.K G) (te:=qdg X.K We) hc S hi hg he hix hcapB hs).imp fun _ _ _ h=>qki h
def qC {ix:List Nat}{k:Nat}{G:WG}{We:WE}{Q:List Qi->Sto->Prop}{ds:List Qi}{e0:Sto} (L:List Qi) (hl:L.length=ds.length) (hz:L.length<Q9) (Iv:Sto->Prop) (h0:Iv (qzz ix k e0))
 (h : ∀ (i:Nat) d ys e,ds[i]?=some d->ys=L.take i->Iv e->G d e fun e1=>We e1 fun y e2=>ys++[y]=L.take (i+1)/\Iv e2) (q:Q L e0) :
 ds.length<Q9 /\ ∃ P:Nat->List Qi->Sto->Prop,P 0 [] (qzz ix k e0)/\(∀ i d ys e,ds[i]?=some d->P i ys e->G d e fun e1=>We e1 fun y e2=>P (i+1) (ys++[y]) e2) /\ ∀ ys e,P ds.length ys e->Q ys e0 :=
  ⟨by omega,fun i ys e=>ys=L.take i/\Iv e,⟨by simp,h0⟩,fun i d ys e hd hp=>h i d ys e hd hp.1 hp.2,fun ys e hp=>by rw [hp.1,<- hl,Yt];exact q⟩
def qu {α:Type}{L ys:List α}{y:α}{i:Nat} (e:L[i]?=some y) (h:ys=L.take i):ys++[y]=L.take (i+1):=by
 rw [h,Vd,e];rfl
def wIsi (T:String) (W:WE):WE:=fun env Q=>W env fun d e=>Q (.bool (isTy T d)) e
section
variable {a:Expr}{W:WE}{p pos pT:Pos}{T:String}{t:Str}
def qja (hm:X.mg "isinstance" = none) (ht:X.mg t=none) (hv:Z0 t=some (.type T)) (ha:VE X a W) (hk : ∀ d,Yh X.K (.type (tyD d)) (.type T)=some (isTy T d):=by intro d;cases d <;> rfl)
 (hg:Gl X "isinstance":=by rfl) (hgt:Gl X t:=by rfl) (hn:t ≠ "__name__":=by decide) (hdt:Nd0 t:=by decide)
 (hs:Qu [a,.Name t pT] X.env=(false,eval a X.env)::Qu [.Name t pT] X.env:=by rfl) (hs2:Qu [.Name t pT] X.env=(false,eval (.Name t pT) X.env)::Qu [] X.env:=by rfl) (hpl:(V8 pos (Qu [.Name t pT] X.env)).any (·.1)=false:=by rfl) :
 VE X (.Call (.Name "isinstance" p) [a,.Name t pT] [] pos) (wIsi T W) :=
 (qgz zacx hg hm qdo (qV ha (qV (qzb (v :=.ty T) hgt ht hv rfl hn hdt) qcq hs2) hs) (by decide) (by decide) hs hpl).imp fun σ H R xx126=>by
  obtain ⟨M,env,F,Q,I,h,k⟩:=xx126;exact ⟨M,env,F,_,I,h,fun d v F1 H1 e1 I1 s1 i1 h1=>⟨d,v,T,isTy T d,rfl,i1.mono I1.fh,hk d,k _ _ F1 H1 e1 I1 s1 (qdb _) h1⟩⟩
end
def qmy (hc:X.calm=true):qig X (.builtin "sum") dSum:=(zadn hc).imp fun xs H Q xx127=>by
 obtain ⟨F,ds,q,s,i,h,k⟩:=xx127
 match ds,h,i with
 | [.list l],h,i =>
  obtain ⟨v,rfl,j⟩:=qiv i;obtain ⟨a,xs,rfl,hs,hr⟩:=j.lst_inv;obtain ⟨ns,rfl,hq⟩:=h;rw [hr.ints_inv] at hs;exact ⟨a,ns,rfl,.inl (s.seq hs),k _ _ F H (.refl s) (qae _) hq⟩
 | [.tuple l],h,i =>
  obtain ⟨v,rfl,j⟩:=qiv i;obtain ⟨a,xs,rfl,hs,hr⟩:=j.tup_inv;obtain ⟨ns,rfl,hq⟩:=h;rw [hr.ints_inv] at hs;exact ⟨a,ns,rfl,.inr (qM s hs),k _ _ F H (.refl s) (qae _) hq⟩
def zalr:List Qi->(List Qi->Prop)->Prop
 | [.list l],q => ∃ ns:List Int,l=ns.map .int/\ns.length<64 /\ ∀ ns':List Int,ns'.Perm ns->ns'.Pairwise (· <= ·)->q (ns'.map .int)
 | _,_=>False
def zaeo:qpi X (.builtin "sorted") zalr:=qtp.imp fun xs H Q xx128=>by
 obtain ⟨F,ds,q,s,i,h,k⟩:=xx128
 match ds,h,i with
 | [.list l],h,i =>
  obtain ⟨v,rfl,j⟩:=qiv i;obtain ⟨a,xs,rfl,hs,hr⟩:=j.lst_inv;obtain ⟨ns,rfl,hz,hq⟩:=h;rw [hr.ints_inv] at hs;exact ⟨a,ns,rfl,s.seq hs,hz,fun p ns' hp h1 h2=>k _ p _ F _ (.side s hp) hp (qB s hp) ql (qjm ns') (hq ns' h1 h2)⟩
def dAll:DC
 | [.list l],q => ∃ bs:List Bool,l=bs.map .bool/\q (.bool (bs.all id))
 | _,_=>False
def Iss.bools_inv {K:Qe}{H:Hp} : ∀ {bs:List Bool}{xs:List V},Iss K H (bs.map .bool) xs->xs=bs.map V.bl
 | [],_,h=>h.nil_inv
 | n::ns,_,h=>by
  obtain ⟨x,r,rfl,p,q⟩:=h.cons_inv;rw [p.bl_inv,Iss.bools_inv q];rfl
def qxb (hc:X.calm=true):qig X (.builtin "all") dAll:=(zafb hc).imp fun xs H Q xx129=>by
 obtain ⟨F,ds,q,s,i,h,k⟩:=xx129
 match ds,h,i with
 | [.list l],h,i =>
  obtain ⟨v,rfl,j⟩:=qiv i;obtain ⟨a,xs,rfl,hs,hr⟩:=j.lst_inv;obtain ⟨bs,rfl,hq⟩:=h;rw [hr.bools_inv] at hs;exact ⟨a,bs,rfl,s.seq hs,k _ _ F H (.refl s) (qdb _) hq⟩
end
def qU (N:List Str) (ds:List Qi):Sto:=ds.map .val++Q4 (N.length-ds.length) .non
def qoz : ∀ (ds:List Qi) (r:Sto) (j:Nat),gS (ds.map .val++r) j=match ds[j]? with|some d => .val d|none=>gS r (j-ds.length)
 | [],r,j=>by simp
 | i::ix,r,0=>by simp [gS]
 | i::ix,r,j+1=>by simp only [Q7,Qkk,gS,Vc,Zp,Qgw];exact qoz ix r j
def qji {N:List Str}{vs:List V}{j:Nat}{v:V} (h:vs[j]?=some v):vS (start N vs) j=some v:=by
 have hj:=(Qg.mp h).1;unfold vS start;rw [Zm (by simpa using hj),Qc,h];rfl
def qcf {K:Qe}{F H:Hp}{N:List Str}{ds:List Qi}{vs:List V} (s:Same F H) (i:Iss K F ds vs):EnvOk K ⟨H,H,F⟩ F H (qU N ds) (start N vs) where
 len:=by simp [qU,start,i.len]
 slot:=fun j=>by
  unfold qU;rw [qoz];cases h:ds[j]? with
  | none=>rw [qfc];trivial
  | some d =>
   obtain ⟨x,e1,e2⟩:=i.get h;exact ⟨x,qji e1,e2⟩
 dis:=fun i j a _ h1=>by
  unfold qU at h1;rw [qoz] at h1;cases h:ds[i]? with
  | none=>rw [h,qfc] at h1;cases h1
  | some d=>rw [h] at h1;cases h1
 f0 :=.refl _
 fe:=s
 fh:=s
 bh :=.refl _
 new:=fun b o e => .inl e
 dom:=fun b o e=>⟨o,e⟩
section
variable {P:Zo}{w:World}{K:Qe}{mg:Str->Option Value}{base:Heap}
def RetOk.is {F H F' H':Hp}{env:Sto}{σ:St}{r:Ret}{v:V} (I:EnvOk K ⟨H,H,F⟩ F' H' env σ) (h:RetOk K ⟨H,H,F⟩ F' H' r v) : ∃ F'',Go F H F'' H'/\Is K F'' r.data v:=by
 have g:=I.goOf;cases r with
 | val d=>exact ⟨F',g,h⟩
 | new d=>exact ⟨F',g,IsN.is qge h⟩
 | own ds =>
  obtain ⟨a,vs,rfl,h1,h2,h3,h4,h5⟩:=h;have s:Same F' (upd F' a (.lst vs)):=qbn h2;refine ⟨upd F' a (.lst vs),⟨g.f.trans s,g.h,fun b o e=>?_,fun b o e=>?_⟩,qez (SqL.of ql) (h5.mono s)⟩
  ·by_cases z:b=a
   ·subst z;rw [ql] at e;rw [h1];exact .of e
   ·rw [qj z] at e;exact g.fh b o e
  ·by_cases z:b=a
   ·subst z;exact .inr h4
   ·rw [qj z] at e;exact g.new b o e
def Def.vok {x:Str}{st:Stmt}{N ps:List Str}{k:Nat}{sp:DC} (F:Def K mg x st ps) (S:FnScope N ps (defScope st)) (len : ∀ ds q,sp ds q->ds.length=ps.length)
 (hbody : ∀ (f:Addr) (cdv:Value) (A:Z2) (outer:List Env) (s:Ql) (H:Hp) (E:XK),Room k (A.deeper (Qch x (defScope st) s.heap.objs.size f cdv)) -> ∀ ds q,sp ds q ->
 ∃ W,VSs (qdn CX0 P w K mg base N x (defScope st) f cdv A outer s H E).nox (defBody st) W/\W { nx:=fun _=>q .none,rt:=fun r _=>q r.data } (qU N ds)):Ok P w K mg base x (k+1) ps (PSp K sp) :=
  F.ok S (fun vs H Q E xx131=>by obtain ⟨F,ds,q,_,i,h,_⟩:=xx131;rw [i.len];exact len ds q h) fun f cdv A outer s H vs Q E hr xx130=>by
   obtain ⟨F,ds,q,sm,i,h,kk⟩:=xx130;obtain ⟨W,hW,hq⟩:=hbody f cdv A outer s H E hr ds q h;refine ⟨_,hW,⟨H,H,F⟩,qU N ds,F,_,qcf sm i,hq,⟨fun e1 F1 H1 σ1 I1 s1 q1=>kk _ _ F1 H1 I1.goOf qjd q1,fun r v e1 F1 H1 σ1 I1 s1 r1 q1=>?_,fun _ _ _ _ _ _ h=>h.elim,fun _ _ _ _ _ _ h=>h.elim⟩⟩;obtain ⟨F2,g,j⟩:=r1.is I1;exact kk _ _ F2 H1 g j q1
def Def.vokF {x:Str}{st:Stmt}{N ps:List Str}{k:Nat}{sp:List Qi->(List Qi->Prop)->Prop} (F:Def K mg x st ps) (S:FnScope N ps (defScope st)) (len : ∀ ds q,sp ds q->ds.length=ps.length)
 (hbody : ∀ (f:Addr) (cdv:Value) (A:Z2) (outer:List Env) (s:Ql) (H:Hp) (E:XK),Room k (A.deeper (Qch x (defScope st) s.heap.objs.size f cdv)) -> ∀ ds q,sp ds q ->
 ∃ W,VSs (qdn CX0 P w K mg base N x (defScope st) f cdv A outer s H E).nox (defBody st) W/\W { nx:=fun _=>False,rt:=fun r _ => ∃ l,r = .own l/\q l } (qU N ds)):Ok P w K mg base x (k+1) ps (FSp K sp) :=
  F.ok S (fun vs H Q E xx133=>by obtain ⟨F,ds,q,_,i,h,_⟩:=xx133;rw [i.len];exact len ds q h) fun f cdv A outer s H vs Q E hr xx132=>by
   obtain ⟨F,ds,q,sm,i,h,kk⟩:=xx132;obtain ⟨W,hW,hq⟩:=hbody f cdv A outer s H E hr ds q h;refine ⟨_,hW,⟨H,H,F⟩,qU N ds,F,_,qcf sm i,hq,⟨fun e1 F1 H1 σ1 I1 s1 q1=>q1.elim,fun r v e1 F1 H1 σ1 I1 s1 r1 q1=>?_,fun _ _ _ _ _ _ h=>h.elim,fun _ _ _ _ _ _ h=>h.elim⟩⟩;obtain ⟨l,rfl,q1⟩:=q1;obtain ⟨a,vs,rfl,h1,h2,h3,h4,h5⟩:=r1;exact kk l a vs F1 H1 I1.goOf h4 h2 h1 h5 q1
def zaqx (K:Qe):Sp:=fun vs H Q _ => ∃ (a:Addr) (ns:List Int),vs=[.ref a]/\SqL K H a (ns.map V.int)/\ns.length<=63 /\ ∀ H',Q (.bl true) H'
end
end
section
section
variable (K:Qe)
def zacf (W:WE):TE:=fun σ H R => ∃ M env F Q,EnvOk K M F H env σ/\W env Q /\ ∀ d v F' H' env',EnvOk K M F' H' env' σ->Same F F'->IsN K (qla M F') d v->Q d env'->R v H'
def zamc (W:WF):TE:=fun σ H R => ∃ M env F Q,EnvOk K M F H env σ/\W env Q /\ ∀ a vs ds F' H' env',EnvOk K M F' H' env' σ->Same F F'->H' a=some (.lst vs)->F' a=none->M.B a=none->M.He a=none ->
 (∀ i,(gS env' i).mut=true->vS σ i≠some (.ref a))->IssN K (qla M F') ds vs->Q ds env'->R (.ref a) H'
def zagk (r:DC):List V->Hp->VK->Prop:=fun vs H Q => ∃ F ds q,Same F H/\Iss K F ds vs/\r ds q /\ ∀ d v F' H',Go F H F' H'->IsN K (qla ⟨H,H,F⟩ F') d v->q d->Q v H'
def qpt (sp:DC):Sp:=fun vs H Q _=>zagk K sp vs H Q
structure EndsT (M:Frm) (DD:WEnds) (D:Ends):Prop where
 nx : ∀ env' F' H' σ',EnvOk K M F' H' env' σ'->DD.nx env'->D.nx σ' H'
 rt : ∀ r v env' F' H' σ',EnvOk K M F' H' env' σ'->RetOk K M F' H' r v->DD.rt r env'->D.rt v H'
 bk : ∀ env' F' H' σ',EnvOk K M F' H' env' σ'->DD.bk env'->D.bk σ' H'
 ct : ∀ env' F' H' σ',EnvOk K M F' H' env' σ'->DD.ct env'->D.ct σ' H'
def zagb (W:WS):TS:=fun D σ H => ∃ M env F DD,EnvOk K M F H env σ/\W DD env/\EndsT K M DD D
end
def VN (X:Cx) (e:Expr) (W:WE):Prop:=PE X e (zacf X.K W)
def VFN (X:Cx) (e:Expr) (W:WF):Prop:=PE X e (zamc X.K W)
def VST (X:Cx) (st:Stmt) (W:WS):Prop:=PS X st (zagb X.K W)
def VSsT (X:Cx) (st:List Stmt) (W:WS):Prop:=PSs X st (zagb X.K W)
def zagy:Qi->Bool
 | .none=>true
 | .bool _=>true
 | .int _=>true
 | .str _=>true
 | _=>false
def zans {K:Qe}{F F':Hp}{d:Qi}{v:V} (h:zagy d=true) (i:Is K F d v):IsN K F' d v:=by
 cases d with
 | none=>unfold Is at i;unfold IsN;exact i
 | bool b=>unfold Is at i;unfold IsN;exact i
 | int b=>unfold Is at i;unfold IsN;exact i
 | str b=>unfold Is at i;unfold IsN;exact i
 | _=>cases h
def qyg {K:Qe}{F F':Hp} : ∀ {ds:List Qi}{vs:List V},ds.all zagy=true->Iss K F ds vs->IssN K F' ds vs
 | [],_,_,i=>by rw [i.nil_inv];exact zaer
 | d::l,_,h,i=>by
  obtain ⟨x,r,rfl,p,q⟩:=i.cons_inv;rw [Qit,Ys] at h;exact zabf (zans h.1 p) (qyg h.2 q)
def EnvOk.newUp {K:Qe}{M:Frm}{F H F':Hp}{env:Sto}{σ:St} (I:EnvOk K M F H env σ):Same (qla ⟨H,H,F⟩ F') (qla M F'):=fun b o e=>by
 obtain ⟨z1,_,z3⟩:=qnz e;exact .of (qni (I.he z1) (qB I.bh z1) z3)
section
variable {X:Cx}{a b e:Expr}{W:WE}{Wf:WF}{pos p:Pos}
def zaqg (W:WE):WE:=fun env Q=>W env fun d e=>match d with | .list l=>l.all zagy=true/\Q (.tuple l) e|_=>False
def zahu (hm:X.mg "tuple" = none) (ha:VE X a W) (hg:Gl X "tuple":=by rfl) (hs:Qu [a] X.env=(false,eval a X.env)::Qu [] X.env:=by rfl) (hpl:(V8 pos (Qu [] X.env)).any (·.1)=false:=by rfl) :
 VN X (.Call (.Name "tuple" p) [a] [] pos) (zaqg W) :=
 (qkm qhw hg hm boot_tuple (qV (te:=qdg X.K W) ha qcq hs) (by decide) (by decide) hs hpl).imp fun σ H R xx134=>by
  obtain ⟨M,env,F,Q,I,h,k⟩:=xx134;refine ⟨M,env,F,_,I,h,fun d v F1 H1 e1 I1 s1 i1 h1=>?_⟩;cases d with
  | list l =>
   obtain ⟨a,xs,rfl,hs,hr⟩:=i1.lst_inv;refine ⟨a,xs,rfl,.inl ⟨I1.fh.seq hs,fun p hp=>?_⟩⟩;have g:=Go.put (o:=HO.tup xs) I1.fh hp;refine k _ _ _ _ e1 (I1.go g) (s1.trans g.f) ?_ h1.2;unfold IsN;exact ⟨p,xs,rfl,qni (I1.he hp) (qB I1.bh hp) ql,qyg h1.1 hr⟩
  | _=>exact Zh h1
def zall {x:Str}{es:List Expr}{Wr:WF}{k:Nat}{ps:List Str}{sp:DC} (O:OkC X x k ps (qpt X.K sp)) (hr:Room k X.A) (ha:VA X (e::es) Wr) (hg:Gl X x:=by rfl) (hdb:Nd0 x:=by decide)
 (he:Qu (e::es) X.env=(false,eval e X.env)::Qu es X.env:=by rfl) (hpl:(V8 pos (Qu es X.env)).any (·.1)=false:=by rfl):VN X (.Call (.Name x p) (e::es) [] pos) (qwt sp Wr) :=
 (qsy (t:=qgl X.K Wr) O hr ha hg hdb he hpl).imp fun σ H R xx135=>by
  obtain ⟨M,env,F,Q,I,h,k⟩:=xx135;have e:qlq (qpt X.K sp) [] E0 (qgl X.K Wr) σ H R=qgl X.K Wr σ H fun vs H1=>zagk X.K sp vs H1 R:=by unfold qlq qpt;simp only [Vj]
  rw [e];exact ⟨M,env,F,_,I,h,fun ds vs F1 H1 e1 I1 s1 i1 h1=>⟨F1,ds,_,I1.fh,i1,h1,fun d v F2 H2 g i2 q=>k d v F2 H2 e1 (I1.go g) (s1.trans g.f) (i2.mono I1.newUp) q⟩⟩
def vn_e (h:VN X e W):VE X e W:=PE.imp (t:=zacf X.K W) h fun σ H R xx136=>by
 obtain ⟨M,env,F,Q,I,h,k⟩:=xx136;exact ⟨M,env,F,_,I,h,fun d v F1 H1 e1 I1 s1 i1 h1=>k d v F1 H1 e1 I1 s1 (i1.is qge) h1⟩
def zapi (W:WE):WS:=fun D env=>W env fun d e=>D.rt (.new d) e
def zaiq (he:VN X e W):VS X (.Return (some e) pos) (zapi W):=(qta (te:=zacf X.K W) he).imp fun D σ H xx137=>by
 obtain ⟨M,env,F,DD,I,h,k⟩:=xx137;exact ⟨M,env,F,_,I,h,fun d v F1 H1 e1 I1 s1 i1 h1=>k.rt (.new d) v e1 F1 H1 σ I1 s1 i1 h1⟩
end
section
variable {P:Zo}{w:World}{K:Qe}{mg:Str->Option Value}{base:Heap}
def Def.vokN {x:Str}{st:Stmt}{N ps:List Str}{k:Nat}{sp:DC} (F:Def K mg x st ps) (S:FnScope N ps (defScope st)) (len : ∀ ds q,sp ds q->ds.length=ps.length)
 (hbody : ∀ (f:Addr) (cdv:Value) (A:Z2) (outer:List Env) (s:Ql) (H:Hp) (E:XK),Room k (A.deeper (Qch x (defScope st) s.heap.objs.size f cdv)) -> ∀ ds q,sp ds q ->
 ∃ W,VSs (qdn CX0 P w K mg base N x (defScope st) f cdv A outer s H E).nox (defBody st) W/\W { nx:=fun _=>False,rt:=fun r _ => ∃ d,r = .new d/\q d } (qU N ds)):Ok P w K mg base x (k+1) ps (qpt K sp) :=
  F.ok S (fun vs H Q E xx139=>by obtain ⟨F,ds,q,_,i,h,_⟩:=xx139;rw [i.len];exact len ds q h) fun f cdv A outer s H vs Q E hr xx138=>by
   obtain ⟨F,ds,q,sm,i,h,kk⟩:=xx138;obtain ⟨W,hW,hq⟩:=hbody f cdv A outer s H E hr ds q h;refine ⟨_,hW,⟨H,H,F⟩,qU N ds,F,_,qcf sm i,hq,⟨fun e1 F1 H1 σ1 I1 s1 q1=>q1.elim,fun r v e1 F1 H1 σ1 I1 s1 r1 q1=>?_,fun _ _ _ _ _ _ h=>h.elim,fun _ _ _ _ _ _ h=>h.elim⟩⟩;obtain ⟨d,rfl,q1⟩:=q1;exact kk d v F1 H1 I1.goOf r1 q1
end
section
variable {X:Cx}{c e:Expr}{Tc:WT}{W:WE}{Wt Wu:WS}{st:Stmt}{sts rest:List Stmt}{pos pos':Pos}
mutual
def immD:Qi->Bool
 | .list _=>false
 | .tuple l=>qtc l
 | .dict _=>false
 | _=>true
def qtc:List Qi->Bool
 | []=>true
 | d::l=>immD d&&qtc l
end
mutual
def Is.imm {K:Qe}{F F':Hp} (s : ∀ b o,F b=some o->(∀ xs,o ≠ .lst xs)->F' b=some o) : ∀ {d:Qi}{v:V},immD d=true->Is K F d v->Is K F' d v
 | .none,_,_,h=>by unfold Is at h ⊢;exact h
 | .bool _,_,_,h=>by unfold Is at h ⊢;exact h
 | .int _,_,_,h=>by unfold Is at h ⊢;exact h
 | .str _,_,_,h=>by unfold Is at h ⊢;exact h
 | .list l,_,m,h=>by unfold immD at m;cases m
 | .dict l,_,m,h=>by unfold immD at m;cases m
 | .tuple l,_,m,h=>by
  unfold immD at m;unfold Is at h ⊢;obtain ⟨a,xs,e,q,r⟩:=h;refine ⟨a,xs,e,?_,Iss.imm s m r⟩;rcases q with (q|⟨o,q⟩)|q
  ·exact .inl (.inl (s _ _ q (fun _ z=>nomatch z)))
  ·exact .inl (.inr ⟨o,s _ _ q (fun _ z=>nomatch z)⟩)
  ·exact .inr q
def Iss.imm {K:Qe}{F F':Hp} (s : ∀ b o,F b=some o->(∀ xs,o ≠ .lst xs)->F' b=some o) : ∀ {l:List Qi}{xs:List V},qtc l=true->Iss K F l xs->Iss K F' l xs
 | [],_,_,h=>by unfold Iss at h ⊢;exact h
 | d::l,_,m,h=>by
  unfold qtc at m;rw [Ys] at m;unfold Iss at h ⊢;obtain ⟨x,r,e,p,q⟩:=h;exact ⟨x,r,e,Is.imm s m.1 p,Iss.imm s m.2 q⟩
end
end
section
variable {X:Cx}
def dInI:D2:=fun x y q => ∃ (i:Int) (ns:List Int),x = .int i/\qcs y=some (ns.map .int)/\q (.bool (ns.any (· == i)))
def qoh (i:Int) : ∀ ns:List Int,inV (.int i) (ns.map V.int)=ns.any (· == i)
 | []=>rfl
 | n::ns=>by
  have:=qoh i ns;unfold inV at this ⊢;rw [Q7,Qcl,Qcl,this];rfl
def qqv (ns:List Int):(ns.map V.int).all qlr=true:=by
 rw [Zi];intro x hx;obtain ⟨i,_,rfl⟩:=Qm.mp hx;rfl
def zahv {neg:Bool}{x y:V}{H:Hp}{Q:VK}{F:Hp}{dy:Qi}{i:Int}{ns:List Int} (s:Same F H) (i1:Is X.K F (.int i) x) (i2:Is X.K F dy y) (e:qcs dy=some (ns.map .int)) (q:Q (.bl (if neg then !ns.any (· == i) else ns.any (· == i))) H):rIn X.K neg x y H Q:=by
 rw [i1.int_inv];cases dy with
 | list l =>
  cases e;obtain ⟨a,xs,rfl,hs,hr⟩:=i2.lst_inv;rw [hr.ints_inv] at hs;exact ⟨a,_,rfl,.inl (s.seq hs),rfl,qqv ns,by rw [qoh];exact q⟩
 | tuple l =>
  cases e;obtain ⟨a,xs,rfl,hs,hr⟩:=i2.tup_inv;rw [hr.ints_inv] at hs;exact ⟨a,_,rfl,.inr (qM s hs),rfl,qqv ns,by rw [qoh];exact q⟩
 | _=>cases e
def zaks:OpV X (Yo .In) dInI:=OpR.imp zabu fun x y H Q xx140=>by
 obtain ⟨F,dx,dy,q,s,i1,i2,⟨i,ns,e1,e2,hq⟩,k⟩:=xx140;subst e1;exact zahv s i1 i2 e2 (k _ _ F H (.refl s) (qdb _) hq)
end
end
section
section
variable {X:Cx}{elt target iter:Expr}{scope:Scope}{pos:Pos}{caps own:List Str}{ix:List Nat}{wi:TI}{g:TG}{te:TE}
def qrn {i:Nat}{y:Str}{py spos:Pos} (hN:X.N.Nodup) (hiy:X.N[i]?=some y) (hy:X.env.scope.names.lookup y=some .local) (hsw:Qan (.ListComp elt [⟨target,iter,[],0⟩] scope pos) (some (.Name y py)) spos.line X.env=pure true) (hc:X.calm=true) (S:CompScope X.env scope caps) (hi:PI X target iter wi)
 (hg : ∀ pins s3 H ex,PG (blk X pins scope (caps++own) s3 H ex) target g)
 (he : ∀ pins s3 H ex,PE (blk X pins scope (caps++own) s3 H ex) elt te)
 (hix:caps.length=ix.length:=by rfl) (hcapB:(caps.zip ix).all (fun p=>X.N[p.2]?==some p.1)=true:=by rfl)
  (hs : ∀ x,Y2 iter X.env x=pure x:=by intro _;rfl):PS X (.Assign [.Name y py] (.ListComp elt [⟨target,iter,[],0⟩] scope pos) spos) (tAsg (qwv ix own.length wi g te) (zahd i)):=by
  intro pins s σ H D I h;rw [exec_Assign_Name_used _ _ _ _ hsw];refine Qd (Qgg (Qd ?_));show wpAny _ _ (do let _ <- Qjl (.ListComp elt [⟨target,iter,[],0⟩] scope pos) scope X.env _ (newList []) false (eval iter X.env) (some (Qgl (.Name y py) X.env))) _ _ s;refine Qd (thn (qnm (use:=some (Qgl (.Name y py) X.env)) (Q0:=fun _ s'=>SP X pins D .next s') hc S hi hg he hix hcapB hs I h fun D' C s6 H6 m6 ns6 IX c1 c2 c3 c4 c5 c6 q=>?_) (fun _ s' hq=>Qo (Qo hq)));obtain ⟨oC,esC,epC,hoC,hdC,rC⟩:=id ns6;have IX':Inv X (pins++[(C,oC)]) σ H6 s6:=IX.pins_of fun p hp=>by
   rcases Zl.mp hp with z|z
   ·exact IX.pin p (Q8 _ z)
   ·rw [Qw.mp z];exact ⟨hoC,c1,c2,c3,fun v q=>by rw [hdC] at q;cases q⟩
  show wpAny _ _ (Qgl (.Name y py) X.env (.ref D')) _ _ _;refine wpAny_assign_Name (qfk IX' hN hiy (V0 hy) (v :=.ref D') rfl (fun s7 I7=>?_) (.inr hy));have gC:s7.heap.get? C=some oC:=(I7.pin (C,oC) (Q8 _ (Q8 _ (Qw.mpr rfl)))).1;refine ⟨m6,⟨oC,esC,epC,gC,hdC,rC⟩,fun h' sb=>?_⟩;exact ⟨_,_,I7.unpinned.turned (t':=s7.toks) (it:=C) (fun b o hb q=>sb.extBut b o hb q) c1 c2 c4 c5 c6,q⟩
end
section
variable {K:Qe}{ix:List Nat}{n:Nat}{Wi:WF}{G:WG}{We:WE}{σ:St}{H:Hp}{R:VK}
end
section
variable {X:Cx}{elt target iter:Expr}{scope:Scope}{pos py spos:Pos}{caps own:List Str}{ix:List Nat}{Wi:WF}{G:WG}{We:WE}{i:Nat}{y:Str}
def qsh (hN:X.N.Nodup) (hc:X.calm=true) (S:CompScope X.env scope caps) (hi:VI X target iter Wi) (hg : ∀ pins s3 H ex,VG (blk X pins scope (caps++own) s3 H ex) target G) (he : ∀ pins s3 H ex,VE (blk X pins scope (caps++own) s3 H ex) elt We)
 (hiy:X.N[i]?=some y:=by rfl) (hy:X.env.scope.names.lookup y=some .local:=by rfl) (hsw:Qan (.ListComp elt [⟨target,iter,[],0⟩] scope pos) (some (.Name y py)) spos.line X.env=pure true:=by rfl)
  (hix:caps.length=ix.length:=by rfl) (hcapB:(caps.zip ix).all (fun p=>X.N[p.2]?==some p.1)=true:=by rfl) (hs : ∀ x,Y2 iter X.env x=pure x:=by intro _;rfl) :
  VS X (.Assign [.Name y py] (.ListComp elt [⟨target,iter,[],0⟩] scope pos) spos) (wSet i (wL (zacd ix own.length Wi G We))) :=
  (qrn (wi:=qmv X.K Wi) (g:=qnf X.K G) (te:=qdg X.K We) hN hiy hy hsw hc S hi hg he hix hcapB hs).imp fun D σ H ⟨M,env,F,DD,I,h,k⟩=>qki ⟨M,env,F,_,I,h,fun a vs ds F1 H1 e1 I1 s1 h1 h2 h3 h4 h5 h6 h7=>by
   obtain ⟨J,s⟩:=I1.frz h1 h2 h4 h5;exact k.nx _ _ H1 _ (J.setv (qez (SqL.of ql) (h6.mono s))) (s1.trans s) h7⟩
def que (hN:X.N.Nodup) (hc:X.calm=true) (S:CompScope X.env scope caps) (hi:VI X target iter Wi) (hg : ∀ pins s3 H ex,VG (blk X pins scope (caps++own) s3 H ex) target G) (he : ∀ pins s3 H ex,VE (blk X pins scope (caps++own) s3 H ex) elt We)
 (hiy:X.N[i]?=some y:=by rfl) (hy:X.env.scope.names.lookup y=some .local:=by rfl) (hsw:Qan (.ListComp elt [⟨target,iter,[],0⟩] scope pos) (some (.Name y py)) spos.line X.env=pure true:=by rfl)
  (hix:caps.length=ix.length:=by rfl) (hcapB:(caps.zip ix).all (fun p=>X.N[p.2]?==some p.1)=true:=by rfl) (hs : ∀ x,Y2 iter X.env x=pure x:=by intro _;rfl) :
  VS X (.Assign [.Name y py] (.ListComp elt [⟨target,iter,[],0⟩] scope pos) spos) (zali i (zacd ix own.length Wi G We)) :=
  (qrn (wi:=qmv X.K Wi) (g:=qnf X.K G) (te:=qdg X.K We) hN hiy hy hsw hc S hi hg he hix hcapB hs).imp fun D σ H ⟨M,env,F,DD,I,h,k⟩=>qki ⟨M,env,F,_,I,h,fun a vs ds F1 H1 e1 I1 s1 h1 h2 h3 h4 h5 h6 h7 =>
   k.nx _ F1 H1 _ (I1.seto h1 h2 h3 h4 h5 h6) s1 h7⟩
end
end
section
section
variable {X:Cx}{tg:Expr}
end
def qeh (H:Hp) (a:Addr):Hp:=fun b=>if b=a then none else H b
structure GoP (a:Addr) (F H F' H':Hp):Prop where
 f:Same F F'
 h:Same (qeh H a) H'
 fh:Same F' H'
 new : ∀ b o,F' b=some o->F b=some o\/H b=none
 fa:F' a=none
def EnvOk.goP {K:Qe}{M:Frm}{F H F' H':Hp}{env:Sto}{σ:St}{i:Nat}{a:Addr}{ps ps':List V}{ds':List Qi} (I:EnvOk K M F H env σ) (m:(gS env i).mut=true) (ea:vS σ i=some (.ref a)) (ha:H a=some (.lst ps))
 (g:GoP a F H F' H') (h':H' a=some (.lst ps')) (hi:Iss K F' ds' ps'):EnvOk K M F' H' (env.set i ((gS env i).upd ds')) σ:=by
  have g1:Go F H F' (upd H' a (.lst ps)):=by
   refine ⟨g.f,fun b o e=>?_,fun b o e=>?_,g.new⟩
   ·by_cases z:b=a
    ·subst z;exact .of (by rw [ql,<- e,ha])
    ·rw [qj z];exact g.h b o (by unfold qeh;rw [if_neg z];exact e)
   ·rw [qj (qv e g.fa)];exact g.fh b o e
  have J:=(I.go g1).chg m ea hi;have e:upd (upd H' a (.lst ps)) a (.lst ps')=H':=by
   rw [zaiy]
   funext b
   by_cases z:b=a
   ·subst z;rw [ql,h']
   ·rw [qj z]
  rw [e] at J;exact J
abbrev DP:=List Qi->List Qi->(Qi->List Qi->Prop)->Prop
def zagf (K:Qe) (r:DP):List V->Hp->VK->Prop:=fun vs H Q => ∃ F a ps rest ds0 ds q,vs = .ref a::rest/\Same F H/\F a=none/\H a=some (.lst ps)/\Iss K F ds0 ps/\Iss K F ds rest/\r ds0 ds q /\
 ∀ d v F' H' ps' ds',GoP a F H F' H'->H' a=some (.lst ps')->Iss K F' ds' ps'->Is K F' d v->q d ds'->Q v H'
def NSp (K:Qe) (sp:DP):Sp:=fun vs H Q _=>zagf K sp vs H Q
section
variable {X:Cx}
def zaod (i:Nat) (r:DP) (Wr:WF):WE:=fun env Q=>(gS env i).mut=true/\Wr env fun ds e=>(gS e i).mut=true/\r (gS e i).cnt ds fun d ds'=>Q d (e.set i ((gS e i).upd ds'))
def qaf (i:Nat) {x y:Str}{p py pos:Pos}{es:List Expr}{Wr:WF}{k:Nat}{ps:List Str}{sp:DP} (O:OkC X x k ps (NSp X.K sp)) (hr:Room k X.A) (ha:VA X es Wr)
 (hN:X.N[i]?=some y:=by rfl) (hv:Vis X.env.scope y:=by first|exact V0 rfl|exact Y6 (V0 rfl)|exact Y6 (Y6 rfl)) (hd:Nd0 y:=by decide) (hcd:Nd1 y:=by decide)
  (hg:Gl X x:=by rfl) (hdb:Nd0 x:=by decide)
  (he:Qu (.Name y py::es) X.env=(false,eval (.Name y py) X.env)::Qu es X.env:=by rfl) (hpl:(V8 pos (Qu es X.env)).any (·.1)=false:=by rfl):VE X (.Call (.Name x p) (.Name y py::es) [] pos) (zaod i sp Wr) :=
  (qsy O hr (qV (t:=qgl X.K Wr) (qcp hN hv hd hcd) ha he) hg hdb he hpl).imp fun σ H R xx143=>by
   obtain ⟨M,env,F,Q,I,⟨m,h⟩,k⟩:=xx143;obtain ⟨a,vs,ea,g1,g2,g3,g4⟩:=(I.slot i).addr m;have e:qlq (NSp X.K sp) [] E0 (qww (quh i) (qgl X.K Wr)) σ H R=qww (quh i) (qgl X.K Wr) σ H fun vs H1=>zagf X.K sp vs H1 R:=by unfold qlq NSp;simp only [Vj]
   rw [e];refine ⟨_,qbr ea,M,env,F,_,I,h,fun ds us F1 H1 e1 I1 s1 i1 h1=>?_⟩;obtain ⟨m1,h1⟩:=h1;obtain ⟨a',vs1,ea',f1,f2,f3,f4⟩:=(I1.slot i).addr m1;rw [ea] at ea';injection ea' with ea';injection ea' with ea';subst ea';exact ⟨F1,a,vs1,us,_,ds,_,rfl,I1.fh,f2,f1,f4,i1,h1,fun d v F2 H2 ps2 ds2 g e2 i2 j2 q=>k d v F2 H2 _ (I1.goP m1 ea f1 g e2 i2) (s1.trans g.f) j2 q⟩
end
def qvr {K:Qe}{F H:Hp}{N:List Str}{a:Addr}{ps:List V}{ds0 ds:List Qi}{vs:List V} (s:Same F H) (fa:F a=none) (ha:H a=some (.lst ps)) (i0:Iss K F ds0 ps) (i:Iss K F ds vs) :
 EnvOk K ⟨qeh H a,H,F⟩ F H (.pen ds0::qU N.tail ds) (start N (.ref a::vs))↔(qU N.tail ds).length+1=(start N (.ref a::vs)).length:=by
  constructor
  ·intro I;exact I.len
  intro hl;refine ⟨by simpa using hl,fun j=>?_,fun i j b hij h1 h2=>?_,.refl _,s,s,fun b o e=>?_,fun b o e => .inl e,fun b o e=>⟨o,e⟩⟩
  ·cases j with
   | zero =>
    exact ⟨a,ps,qji (N:=N) (vs :=.ref a::vs) (j:=0) rfl,ha,fa,by show qeh H a a=none;unfold qeh;rw [if_pos rfl],⟨_,ha⟩,i0⟩
   | succ j =>
    show SlotOk K _ F H (gS (qU N.tail ds) j) _;unfold qU;rw [qoz];cases h:ds[j]? with
    | none=>rw [qfc];trivial
    | some d =>
     obtain ⟨x,e1,e2⟩:=i.get h;exact ⟨x,qji (N:=N) (vs :=.ref a::vs) (j:=j+1) (by simpa using e1),e2⟩
  ·have no : ∀ k,(gS (qU N.tail ds) k).mut=false:=fun k=>by
    unfold qU;rw [qoz];cases h:ds[k]? with
    | none=>rw [qfc];rfl
    | some d=>rfl
   cases i with
   | zero=>cases j with
    | zero=>exact absurd rfl hij
    | succ j=>have h2':(gS (qU N.tail ds) j).mut=true:=h2
              rw [no] at h2';cases h2'
   | succ i=>have h1':(gS (qU N.tail ds) i).mut=true:=h1
             rw [no] at h1';cases h1'
  ·have e:qeh H a b=some o:=e;unfold qeh at e;split at e
   ·cases e
   ·exact .of e
section
variable {P:Zo}{w:World}{K:Qe}{mg:Str->Option Value}{base:Heap}
def Def.vokP {x:Str}{st:Stmt}{N ps:List Str}{k:Nat}{sp:DP} (F:Def K mg x st ps) (S:FnScope N ps (defScope st)) (len : ∀ ds0 ds q,sp ds0 ds q->ds.length+1=ps.length) (hNp:ps.length<=N.length)
 (hbody : ∀ (f:Addr) (cdv:Value) (A:Z2) (outer:List Env) (s:Ql) (H:Hp) (E:XK),Room k (A.deeper (Qch x (defScope st) s.heap.objs.size f cdv)) -> ∀ ds0 ds q,sp ds0 ds q ->
 ∃ W,VSs (qdn CX0 P w K mg base N x (defScope st) f cdv A outer s H E).nox (defBody st) W /\
 W { nx:=fun e => ∃ ds',gS e 0 = .pen ds'/\q .none ds',rt:=fun r e => ∃ d ds',r = .val d/\gS e 0 = .pen ds'/\q d ds' } (.pen ds0::qU N.tail ds)):Ok P w K mg base x (k+1) ps (NSp K sp) :=
  F.ok S (fun vs H Q E xx145=>by obtain ⟨F,a,ps',rest,ds0,ds,q,e,_,_,_,_,i,h,_⟩:=xx145;rw [e,Zp,i.len];exact len ds0 ds q h) fun f cdv A outer s H vs Q E hr xx144=>by
   obtain ⟨F,a,ps',rest,ds0,ds,q,e,sm,fa,ha,i0,i,h,kk⟩:=xx144;subst e;obtain ⟨W,hW,hq⟩:=hbody f cdv A outer s H E hr ds0 ds q h;have hl:=len ds0 ds q h;have hlen:(qU N.tail ds).length+1=(start N (.ref a::rest)).length:=by
    simp only [qU,start,Z4,Qk,Qgt,List.length_tail,Zp,i.len];omega
   have same : ∀ {e1:Sto}{F1 H1:Hp}{σ1:St}{ds':List Qi},EnvOk K ⟨qeh H a,H,F⟩ F1 H1 e1 σ1->gS e1 0 = .pen ds'->GoP a F H F1 H1 /\ ∃ ps2,H1 a=some (.lst ps2)/\Iss K F1 ds' ps2:=fun {e1 F1 H1 σ1 ds'} I1 e0=>by
    have T:=I1.slot 0;rw [e0] at T;obtain ⟨b,vs2,eb,h1,h2,h3,⟨o,h4⟩,h5⟩:=T;have hb:b=a:=by
     rcases Nat.decEq b a with z|z
     ·have h3':qeh H a b=none:=h3;unfold qeh at h3';rw [if_neg z] at h3';have h4':H b=some o:=h4;rw [h4'] at h3';cases h3'
     ·exact z
    subst hb;exact ⟨⟨I1.f0,I1.bh,I1.fh,I1.new,h2⟩,vs2,h1,h5⟩
   refine ⟨_,hW,⟨qeh H a,H,F⟩,_,F,_,(qvr sm fa ha i0 i).mpr hlen,hq,⟨fun e1 F1 H1 σ1 I1 s1 q1=>?_,fun r v e1 F1 H1 σ1 I1 s1 r1 q1=>?_,fun _ _ _ _ _ _ h=>h.elim,fun _ _ _ _ _ _ h=>h.elim⟩⟩
   ·obtain ⟨ds',e0,q1⟩:=q1;obtain ⟨g,ps2,h1,h5⟩:=same I1 e0;exact kk _ _ F1 H1 ps2 ds' g h1 h5 qjd q1
   ·obtain ⟨d,ds',rfl,e0,q1⟩:=q1;obtain ⟨g,ps2,h1,h5⟩:=same I1 e0;exact kk _ _ F1 H1 ps2 ds' g h1 h5 r1 q1
end
end
section
def capP (i0:Nat) (ix:List Nat) (k:Nat) (env:Sto):Sto:=ix.map (fun i=>if i=i0 then .pen (gS env i0).cnt else (gS env i).seen)++Q4 k .non
def qxf (i0 j0:Nat) (ix:List Nat) (k:Nat) (Wi:WF) (G:WG) (We:WE):WF:=fun env Q=>Wi env fun ds e0=>ds.length<Q9/\(gS e0 i0).mut=true /\ ∃ P:Nat->List Qi->Sto->Prop,P 0 [] (capP i0 ix k e0) /\
 (∀ i d ys e,ds[i]?=some d->P i ys e->G d e fun e1=>We e1 fun y e2=>P (i+1) (ys++[y]) e2) /\ ∀ ys e,P ds.length ys e -> ∃ ds',gS e j0 = .pen ds'/\Q ys (e0.set i0 ((gS e0 i0).upd ds'))
def EnvOk.capP {K:Qe}{M:Frm}{F H:Hp}{env:Sto}{σ:St}{i0:Nat}{a:Addr} (I:EnvOk K M F H env σ) (m:(gS env i0).mut=true) (ea:vS σ i0=some (.ref a)) (ix:List Nat) (k:Nat) (nd : ∀ j j':Nat,ix[j]?=some i0->ix[j']?=some i0->j=j') :
 EnvOk K ⟨qeh H a,H,F⟩ F H (L2.capP i0 ix k env) (qoy ix k σ) where
  len:=by simp [L2.capP,qoy]
  slot:=fun j=>by
   unfold L2.capP;rw [qpo];cases h:ix[j]? with
   | none=>rw [qfc];trivial
   | some i =>
    show SlotOk K _ F H (if i=i0 then .pen (gS env i0).cnt else (gS env i).seen) _;rw [zafv ix k σ j i h];by_cases z:i=i0
    ·subst z;rw [if_pos rfl];obtain ⟨a',vs,e,h1,h2,h3,h5⟩:=(I.slot i).addr m;rw [ea] at e;injection e with e;injection e with e;subst e;exact ⟨a,vs,ea,h1,h2,by show qeh H a a=none;unfold qeh;rw [if_pos rfl],⟨_,h1⟩,h5⟩
    ·rw [if_neg z];have S:=I.slot i;cases q:gS env i with
     | val d=>rw [q] at S;exact S
     | non=>trivial
     | own ds=>trivial
     | pen ds=>trivial
     | new d=>rw [q] at S;obtain ⟨v,e,j⟩:=S;exact ⟨v,e,j.is qge⟩
     | exc C=>trivial
     | obj a0 C nm fs=>trivial
  dis:=fun i j b hij h1 h2=>by
   have key : ∀ n,(gS (L2.capP i0 ix k env) n).mut=true->ix[n]?=some i0:=fun n hn=>by
    unfold L2.capP at hn;rw [qpo] at hn;cases h:ix[n]? with
    | none=>rw [h,qfc] at hn;cases hn
    | some c =>
     rw [h] at hn;replace hn:(if c=i0 then Sl.pen (gS env i0).cnt else (gS env c).seen).mut=true:=hn
     by_cases z:c=i0
     ·rw [z]
     ·rw [if_neg z] at hn;cases q:gS env c <;> rw [q] at hn <;> cases hn
   exact absurd (nd i j (key i h1) (key j h2)) hij
  f0 :=.refl _
  fe:=I.fh
  fh:=I.fh
  bh:=fun b o e=>by
   have e:qeh H a b=some o:=e;unfold qeh at e;split at e
   ·cases e
   ·exact .of e
  new:=fun b o e => .inl e
  dom:=fun b o e=>⟨o,e⟩
def EnvOk.penGo {K:Qe}{F H F1 H1:Hp}{a:Addr}{e1:Sto}{σ1:St}{j:Nat}{ds':List Qi} (I1:EnvOk K ⟨qeh H a,H,F⟩ F1 H1 e1 σ1) (e0:gS e1 j = .pen ds'):GoP a F H F1 H1 /\ ∃ ps2,H1 a=some (.lst ps2)/\Iss K F1 ds' ps2:=by
 have T:=I1.slot j;rw [e0] at T;obtain ⟨b,vs2,eb,h1,h2,h3,⟨o,h4⟩,h5⟩:=T;have hb:b=a:=by
  rcases Nat.decEq b a with z|z
  ·have h3':qeh H a b=none:=h3;unfold qeh at h3';rw [if_neg z] at h3';have h4':H b=some o:=h4;rw [h4'] at h3';cases h3'
  ·exact z
 subst hb;exact ⟨⟨I1.f0,I1.bh,I1.fh,I1.new,h2⟩,vs2,h1,h5⟩
def qnp {K:Qe}{ix:List Nat}{n i0 j0:Nat}{Wi:WF}{G:WG}{We:WE}{σ:St}{H:Hp}{R:VK} (nd : ∀ j j':Nat,ix[j]?=some i0->ix[j']?=some i0->j=j') (h:zabz K (qxf i0 j0 ix n Wi G We) σ H R):qwv ix n (qmv K Wi) (qnf K G) (qdg K We) σ H R:=by
 obtain ⟨M,env,F,Q,I,h,k⟩:=h;refine ⟨M,env,F,_,I,h,fun ds J F1 H1 e1 I1 s1 jt xx147=>?_⟩;obtain ⟨hz,hm,P,p0,turn,fin⟩:=xx147;obtain ⟨a,vs,ea,a1,a2,a3,a4⟩:=(I1.slot i0).addr hm;refine ⟨fun i m ys σ1 H'=>m=ds.length-i/\i<=ds.length /\ ∃ e' F' l,EnvOk K ⟨qeh H1 a,H1,F1⟩ F' H' e' σ1/\Iss K F' l ys/\ys.length=i/\P i l e',⟨ds.length,by simp,Y9 _,capP i0 ix n e1,F1,[],I1.capP hm ea ix n nd,qZ,rfl,p0⟩,?_⟩;rintro i m ys σ1 H2 ⟨hm',hi,e2,F2,l,I2,i2,hl,p2⟩;by_cases he:i=ds.length
 ·subst he;obtain ⟨ds',e0,q⟩:=fin l e2 p2;obtain ⟨g,ps2,h1,h5⟩:=I2.penGo e0;exact .inl ⟨jt.stop H2 (I2.f0.trans I2.fh),by omega,qjt (I1.goP hm ea a1 g h1 h5) (s1.trans g.f) i2 q k⟩
 ·have hlt:i<ds.length:=by omega
  refine .inr ⟨jt.go i H2 (I2.f0.trans I2.fh) hlt,by omega,fun y σ' H' => ∃ e' F' l',EnvOk K ⟨qeh H1 a,H1,F1⟩ F' H' e' σ'/\Iss K F' l' (ys++[y])/\P (i+1) l' e',
   fun y σ' H' xx146=>by obtain ⟨e',F',l',I',i',p'⟩:=xx146;exact ⟨ds.length-(i+1),by omega,rfl,hlt,e',F',l',I',i',by simp [hl],p'⟩,fun x H3 hy=>?_⟩
  obtain ⟨d,F3,hd,g,j⟩:=jt.yld i H2 x H3 F2 I2.f0 I2.fh hlt hy;refine ⟨_,e2,F3,d,_,I2.go g,j,turn i d l e2 hd p2,fun F4 H4 e4 σ4 I4 s4 h4=>⟨_,e4,F4,_,I4,h4,fun d5 v5 F5 H5 e5 I5 s5 i5 h5=>?_⟩⟩;exact ⟨e5,F5,l++[d5],I5,qaz ((i2.mono (g.f.trans s4)).mono s5) (qI i5 qZ),h5⟩
section
variable {X:Cx}{elt target iter:Expr}{scope:Scope}{pos py spos:Pos}{caps own:List Str}{ix:List Nat}{Wi:WF}{G:WG}{We:WE}{i i0 j0:Nat}{y:Str}
def quf (hc:X.calm=true) (S:CompScope X.env scope caps) (hi:VI X target iter Wi) (hg : ∀ pins s3 H ex,VG (blk X pins scope (caps++own) s3 H ex) target G) (he : ∀ pins s3 H ex,VE (blk X pins scope (caps++own) s3 H ex) elt We)
 (nd : ∀ j j':Nat,ix[j]?=some i0->ix[j']?=some i0->j=j')
 (hix:caps.length=ix.length:=by rfl) (hcapB:(caps.zip ix).all (fun p=>X.N[p.2]?==some p.1)=true:=by rfl) (hs : ∀ x,Y2 iter X.env x=pure x:=by intro _;rfl):VF X (.ListComp elt [⟨target,iter,[],0⟩] scope pos) (qxf i0 j0 ix own.length Wi G We) :=
  (qzc (wi:=qmv X.K Wi) (g:=qnf X.K G) (te:=qdg X.K We) hc S hi hg he hix hcapB hs).imp fun σ H R h=>qnp nd h
def zafd (hN:X.N.Nodup) (hc:X.calm=true) (S:CompScope X.env scope caps) (hi:VI X target iter Wi) (hg : ∀ pins s3 H ex,VG (blk X pins scope (caps++own) s3 H ex) target G) (he : ∀ pins s3 H ex,VE (blk X pins scope (caps++own) s3 H ex) elt We)
 (nd : ∀ j j':Nat,ix[j]?=some i0->ix[j']?=some i0->j=j')
 (hiy:X.N[i]?=some y:=by rfl) (hy:X.env.scope.names.lookup y=some .local:=by rfl) (hsw:Qan (.ListComp elt [⟨target,iter,[],0⟩] scope pos) (some (.Name y py)) spos.line X.env=pure true:=by rfl)
  (hix:caps.length=ix.length:=by rfl) (hcapB:(caps.zip ix).all (fun p=>X.N[p.2]?==some p.1)=true:=by rfl) (hs : ∀ x,Y2 iter X.env x=pure x:=by intro _;rfl) :
  VS X (.Assign [.Name y py] (.ListComp elt [⟨target,iter,[],0⟩] scope pos) spos) (wSet i (wL (qxf i0 j0 ix own.length Wi G We))) :=
  (qrn (wi:=qmv X.K Wi) (g:=qnf X.K G) (te:=qdg X.K We) hN hiy hy hsw hc S hi hg he hix hcapB hs).imp fun D σ H ⟨M,env,F,DD,I,h,k⟩=>qnp nd ⟨M,env,F,_,I,h,fun a vs ds F1 H1 e1 I1 s1 h1 h2 h3 h4 h5 h6 h7=>by
   obtain ⟨J,s⟩:=I1.frz h1 h2 h4 h5;exact k.nx _ _ H1 _ (J.setv (qez (SqL.of ql) (h6.mono s))) (s1.trans s) h7⟩
end
def qon {ix:List Nat}{i0:Nat} (h:(Q1 ix.length).all (fun j=>(Q1 ix.length).all fun j' => !(ix[j]?==some i0&&ix[j']?==some i0)||j==j')=true) : ∀ j j':Nat,ix[j]?=some i0->ix[j']?=some i0->j=j':=fun j j' h1 h2=>by
 have a:=(Qg.mp h1).1;have b:=(Qg.mp h2).1;have q:=Zi.mp (Zi.mp h j (Q6.mpr a)) j' (Q6.mpr b);simpa [h1,h2] using q
end
section
def ObjOk.obj {P:Zo}{w:World}{H:Hp}{h:Heap}{a:Addr}{o:HO} (x:ObjOk P w H h a o) : ∃ u,h.get? a=some u:=by
 cases o with
 | lst xs=>obtain ⟨_,_,_,_,e⟩:=x;exact ⟨_,e⟩
 | tup xs=>obtain ⟨_,_,_,ob,e,_⟩:=x;exact ⟨_,e⟩
 | dK kvs=>obtain ⟨_,_,_,_,o,_,_,e,_⟩:=x;exact ⟨_,e⟩
 | dT kvs=>obtain ⟨_,_,_,_,o,_,_,e,_⟩:=x;exact ⟨_,e⟩
 | set S n=>obtain ⟨o,_,_,_,e,_⟩:=x;exact ⟨_,e⟩
 | ins C dx fs=>obtain ⟨_,_,_,e,_⟩:=x;exact ⟨_,e⟩
 | own y=>exact x
 | xd fs=>obtain ⟨_,⟨_,_,_,e,_⟩,_⟩:=x;exact ⟨_,e⟩
 | rng lo hi=>obtain ⟨_,_,_,e⟩:=x;exact ⟨_,e⟩
 | frz ob u=>obtain ⟨e,_⟩:=x;exact ⟨_,e⟩
 | tbl ps=>exact ⟨_,(show h.get? a=some _ from x)⟩
 | met f y=>exact ⟨_,(show h.get? a=some _ from x)⟩
 | ext φ=>obtain ⟨_,e,_⟩:=x;exact e
def CX1 (P:Zo) (w:World):CXT:=fun outer H s E e s' => ∃ (ea C:Addr) (a0:Value) (B:Heap) (H':Hp),e = .ref ea/\Heap.FlyingW B outer ea (.ref C) a0 s'.heap/\s'.os=s.os/\Qfi s'.gens /\
 Un (frs outer) [] H H' s.heap s'.heap/\HOk P w H' s'.heap/\(∀ b u,H' b=some u -> ∃ o,B.get? b=some o)/\(∀ b o,s.heap.get? b=some o->b ∉ frs outer -> ∃ o',B.get? b=some o')/\E (.ref C) none H'
section
variable {X:Cx}{pins:List (Addr×Obj)}{σ:St}{H:Hp}{s:Ql}
def land (I:Inv X pins σ H s) (hex:X.ex=[]) (hst:X.stack=X.env::X.outer) (hfr:X.env.frame=some X.env.locals) {h'':Heap}
 (kB : ∀ b o,s.heap.get? b=some o->b ∉ frs X.stack->((∃ o',X.s₀.heap.get? b=some o') \/ ∃ u,H b=some u)->h''.get? b=some o)
 (sl : ∀ b o,s.heap.get? b=some o->(∀ vs,o.data ≠ .fields vs) -> ∃ sl,h''.get? b=some { o with slots:=sl }):Un X.fs [] X.H₀ H X.s₀.heap h''/\HOk X.prog X.w H h'':=by
  have fsOf : ∀ b,b ∈ frs X.stack->b=X.env.locals\/b ∈ X.fs:=fun b hb=>by
   rcases Q3.mp (I.stkSub b hb) with z|z
   ·exact .inl z
   ·exact .inr z
  have old : ∀ b o,X.s₀.heap.get? b=some o->b ∉ X.fs->b ∉ frs X.stack:=fun b o q n hb=>by
   rcases fsOf b hb with z|z
   ·exact absurd (Qp q) (Vy.mpr (z ▸ I.ok.above))
   ·exact n z
  have nx : ∀ b,b ∉ X.ex:=fun b=>by rw [hex];simp
  have frame : ∀ b ∈ X.fs,∃ o,s.heap.get? b=some o /\ ∀ vs,o.data ≠ .fields vs:=fun b hb=>by
   have hb':b ∈ frs X.stack:=by
    rw [hst];unfold frs;rw [Vk,hfr];exact Qs _ hb
   obtain ⟨_,o,ho,hd⟩:=I.stack.mem hb';exact ⟨o,ho,hd⟩
  refine ⟨⟨fun b o q n hb _=>kB b o (I.base.keep b o q n hb (nx b)) (old b o q hb) (.inl ⟨o,q⟩),fun b o q n hb _=>?_,fun b o q n _=>I.base.free b o q n (nx b),fun b o q _=>?_,I.base.tups,I.base.frzs,I.base.tbls⟩,fun a u e=>?_⟩
  ·obtain ⟨s1,h1⟩:=I.base.slot b o q n hb (nx b);obtain ⟨o',ho',hd⟩:=frame b hb;rw [h1] at ho';cases ho';obtain ⟨s2,h2⟩:=sl b _ h1 hd;exact ⟨s2,h2⟩
  ·obtain ⟨o',h1⟩:=I.base.there b o q (nx b);by_cases hb:b ∈ X.fs
   ·obtain ⟨o2,ho2,hd⟩:=frame b hb;obtain ⟨s2,h2⟩:=sl b _ ho2 hd;exact ⟨_,h2⟩
   ·exact ⟨o',kB b o' h1 (old b o q hb) (.inl ⟨o,q⟩)⟩
  ·have nf : ∀ b v,H b=some v->b ∉ frs X.stack:=fun b v eb hb=>by rw [I.stkFree b hb] at eb;cases eb
   refine (I.hok a u e).stay (fun c ob hc z=>?_) (fun c z=>z) (fun c xs z=>z);rcases hc with hc|hc
   ·subst hc;exact kB _ _ z (nf _ _ e) (.inr ⟨_,e⟩)
   ·exact kB _ _ z (nf _ _ hc) (.inr ⟨_,hc⟩)
end
def qou (X:Cx) (E:XK):Prop := ∀ (pins:List (Addr×Obj)) (σ:St) (H:Hp) (s:Ql) (h':Heap) (e C:Addr) (args:List Value),Inv X pins σ H s->Heap.MadeExcOf s.heap h' e (.ref C) args->E (.ref C) none H->X.xe (.ref e) { s with heap:=h' }
section
variable {P:Zo}{w:World}{K:Qe}{mg:Str->Option Value}{base:Heap}{N:List Str}{qual:Str}{scope:Scope}{f:Addr}{cd:Value}{A:Z2}{outer:List Env}{s:Ql}{H:Hp}{E:XK}
def qqw:qou (qdn (CX1 P w) P w K mg base N qual scope f cd A outer s H E) E:=by
 intro pins σ H1 s1 h' e C args I hx q;have hin : ∀ env ∈ (qdn (CX1 P w) P w K mg base N qual scope f cd A outer s H E).stack,∀ b,env.frame=some b->b ∈ frs (qdn (CX1 P w) P w K mg base N qual scope f cd A outer s H E).stack:=fun env he b hb=>Qew.mpr ⟨env,he,hb⟩;refine wpAny_leaves_madeW (base:=Qky s1.heap (frs (qdn (CX1 P w) P w K mg base N qual scope f cd A outer s H E).stack)) (h:=s1.heap) (s:={ s1 with heap:=h' }) I.ok.frames rfl (fun b o z=>Qip _ z) (PySem.W.funFrames_hide I.stack hin) hx fun h'' t x1 x2 x3 x4=>?_;have kB : ∀ b o,s1.heap.get? b=some o->b ∉ frs (qdn (CX1 P w) P w K mg base N qual scope f cd A outer s H E).stack->h''.get? b=some o:=fun b o z n=>x1.1 b o (Qbw _ z n);obtain ⟨u,ok⟩:=land I rfl rfl rfl (fun b o z n _=>kB b o z n) (fun b o z d=>x4 b o (hx.keeps b o z) d);have nf : ∀ b v,H1 b=some v->b ∉ frs (qdn (CX1 P w) P w K mg base N qual scope f cd A outer s H E).stack:=fun b v eb hb=>by rw [I.stkFree b hb] at eb;cases eb
 refine ⟨e,C,.ref t,_,H1,rfl,x1,I.os,I.bare,u,ok,fun b v eb=>?_,fun b o z n=>?_,q⟩
 ·obtain ⟨o,ho⟩:=(I.hok b v eb).obj;exact ⟨o,Qbw _ ho (nf b v eb)⟩
 ·obtain ⟨o',ho'⟩:=I.base.there b o z (by simp [qdn]);refine ⟨o',Qbw _ ho' fun hb=>?_⟩;rcases Q3.mp (I.stkSub b hb) with y|y
  ·exact absurd (Qp z) (Vy.mpr (y ▸ I.ok.above))
  ·exact n y
def qqm:qxt (CX1 P w) (qdn (CX1 P w) P w K mg base N qual scope f cd A outer s H E) E:=by
 intro pins σ H1 s1 e s' I hx;obtain ⟨ea,C,a0,B,H',rfl,fl,os,bare,u,ok,tB,pB,q⟩:=hx;have I':Inv (qdn (CX1 P w) P w K mg base N qual scope f cd A outer s H E) pins σ H' s':=I.call' os u ok bare fun b hb=>nomatch hb
 refine wpAny_leaves_onW I.ok.frames rfl fl fun h'' x1 x4=>?_;have old : ∀ b o,s.heap.get? b=some o->b ∉ frs outer -> ∃ o',B.get? b=some o':=fun b o z n=>by
  obtain ⟨o',ho'⟩:=I.base.there b o z (by simp [qdn]);refine pB b o' ho' fun hb=>?_;rcases Q3.mp (I.stkSub b hb) with y|y
  ·exact absurd (Qp z) (Vy.mpr (y ▸ I.ok.above))
  ·exact n y
 have kB : ∀ b o,s'.heap.get? b=some o->b ∉ frs (qdn (CX1 P w) P w K mg base N qual scope f cd A outer s H E).stack->((∃ o',s.heap.get? b=some o') \/ ∃ v,H' b=some v)->h''.get? b=some o:=fun b o z n t=>by
  obtain ⟨o',ho'⟩ : ∃ o',B.get? b=some o':=by
   rcases t with ⟨o',t⟩|⟨v,t⟩
   ·exact old b o' t fun hb=>n (Qs _ hb)
   ·exact tB b v t
  have:=fl.1 b o' ho';rw [z] at this;cases this;exact x1.1 b _ ho'
 obtain ⟨u',ok'⟩:=land I' rfl rfl rfl kB (fun b o z d=>x4 b o z d);exact ⟨ea,C,a0,B,H',rfl,x1,I'.os,I'.bare,u',ok',tB,old,q⟩
end
end
section
def qvu (K:Qe) (C:Addr):List Value:=match K.lookup C with
 | some ⟨_,_,.cls cd,_⟩=>cd.mro
 | _=>[]
def qhz {K:Qe}{h:Heap}{C:Addr}{bmB:List Value}{newId:String} (X:K.In h) (q:Ve K C bmB newId=true) :
 ∃ bm N nm qn bs hd sn sub ab col dd k0 k1 k2 k3 k5 mN,h.get? C=some (Qbz nm qn C N bs bm hd sn sub ab col dd k0 k1 k2 k3 k5 newId)/\h.Ns N mN/\mN "__init__" = none/\Qlp h bmB bm/\qvu K C = .ref C::bm:=by
  unfold Ve at q;split at q
  case h_2=>cases q
  rename_i dd c sl ho;split at q
  case h_2=>cases q
  rename_i C' bm k0 k1 k2 k3 n k5 hm hs;simp only [Ys,beq_iff_eq,Bool.not_eq_true'] at q;obtain ⟨⟨⟨⟨⟨e1,e2⟩,hdel⟩,ht⟩,hok⟩,hni⟩:=q;have hC:=X _ _ ho;have hs':sl = #[k0,k1,k2,k3,some (.builtin n),k5]:=Array.ext' hs;cases c;dsimp only at hm hdel hok hni;subst e1 e2 hm hdel hs';exact ⟨bm,_,_,_,_,_,_,_,_,_,dd,k0,k1,k2,k3,k5,_,hC,.of_isNs (PySem.W.isNs_of_in X hok),PySem.W.nsMap_none_of_in X hok hni,PySem.W.tail_of_in X ht,by unfold qvu;rw [ho]⟩
abbrev qjx:List Value:=[.type "ValueError",.type "Exception",.type "BaseException",.type "object"]
def zaop (C:Addr) (E:XK) (t:TA):TS:=fun _ σ H=>t σ H fun vs H'=>vs.length<=Q9/\E (.ref C) none H'
section
variable {X:Cx}{x:Str}{C:Addr}{E:XK}{e:Expr}{es:List Expr}{t:TA}{np cpos pos:Pos}
def zacv (hT:qou X E) (hc:X.calm=true) (hg:Gl X x) (hm:X.mg x=some (.ref C)) (hq:Ve X.K C qjx "ValueError.__new__" = true) (ha:PA X (e::es) t)
 (hdb:Nd0 x:=by decide) (he:Qu (e::es) X.env=(false,eval e X.env)::Qu es X.env:=by rfl) (hpl:(V8 cpos (Qu es X.env)).any (·.1)=false:=by rfl) :
  PS X (.Raise (some (.Call (.Name x np) (e::es) [] cpos)) none pos) (zaop C E t):=by
  intro pins s σ H D I h;obtain ⟨bm,N,nm,qn,bs,hd,sn,sub,ab,col,dd,k0,k1,k2,k3,k5,mN,hC,hN,hni,T,_⟩:=qhz I.mod.kin hq;refine wpAny_Raise_call_subU (C:=C) (nm:=nm) (q:=qn) (N:=N) (bs:=bs) (bm:=bm) (hdct:=hd) (sn:=sn) (sub:=sub) (ab:=ab) (col:=col) (dd:=dd) (k0:=k0) (k1:=k1) (k2:=k2) (k3:=k3) (k5:=k5)
   Jp (by decide) Jp (mN:=mN) (T.hasType Jp.hasBase) (I.ok.hd hc) (by rw [he];show (false||(V8 cpos (Qu es X.env)).any (·.1))=false;rw [hpl];rfl) hni
   (qka I hg hm ⟨rfl,?_⟩ hdb)
  have h1:=ha cpos pins s σ H _ I h;rw [he] at h1 ⊢;refine Qbk (thn h1 fun us s1 xx149=>?_);obtain ⟨vs,H1,I1,r,q⟩:=xx149;exact ⟨rfl,r.length ▸ q.1,I1.bk _ _ hC,hN.keeps I1.bk,T.keeps I1.bk,fun h' ea hx=>hT pins σ H1 s1 h' ea C us I1 hx q.2⟩
end
end
section
section
variable {M:Model}{A:Z2}{E:Value->Ql->Prop}{C N C' N':Addr}{nm nm' q q':Str}{bs bm bs' bm':List Value}
def qmk {h:Heap}{g:Array Qkt}{d:Drawn}{t:Nat}{os:OsState}{e:Addr}{oe:Obj}{Q:Bool->Ql->Prop}{hdct sn sub ab col dd k0 k1 k2 k3 k5 newId hdct' sn' sub' ab' col' dd' k0' k1' k2' k3' k5' newId'}
 (hC:h.get? C=some (Qbz nm q C N bs bm hdct sn sub ab col dd k0 k1 k2 k3 k5 newId)) (hC':h.get? C'=some (Qbz nm' q' C' N' bs' bm' hdct' sn' sub' ab' col' dd' k0' k1' k2' k3' k5' newId'))
 (he:h.get? e=some oe) (hcls:oe.cls = .ref C) (hbase:bm'.contains (.type "BaseException")=true) (b:Bool) (hb:(Z3 C::bm).contains (.ref C')=b)
 (hq:Q b ⟨h,g,d,t,os⟩):wpAny M A (excMatches (.ref e) (.ref C')) Q E ⟨h,g,d,t,os⟩:=by
  have hcB:(Z3 C'::bm').contains (.type "BaseException")=true:=by rw [Qex,hbase,Bool.or_true]
  have f:=tc_notTuple;unfold excMatches
  repeat (first|(with_reducible refine Ji he ?_;rw [hcls])|with_reducible refine Ji hC' ?_|(with_reducible refine Qca hC' ?_;rw [hcB])|(with_reducible refine Qca hC ?_;rw [hb])|wp_step)
  cases b <;> (wp_walk;exact hq)
end
section
variable {X:Cx}{pins:List (Addr×Obj)}{σ:St}{H1 H2:Hp}{s1 s':Ql}{B h5:Heap}
def Inv.flown (I:Inv X pins σ H1 s1) (os:s'.os=s1.os) (bare:Qfi s'.gens) (u:Un (frs X.stack) [] H1 H2 s1.heap s'.heap) (ok:HOk X.prog X.w H2 s'.heap)
 (tB : ∀ b v,H2 b=some v -> ∃ o,B.get? b=some o) (pB : ∀ b o,s1.heap.get? b=some o->b ∉ frs X.stack -> ∃ o',B.get? b=some o') (fl:B.StaysIn s'.heap) (st:B.StaysIn h5) (up:s'.heap.UpToSlots h5) (hst : ∀ b ∈ X.fs,b ∈ frs X.stack) :
 Inv X pins σ H2 { s' with heap:=h5 }:=by
  obtain ⟨hh,g',d',t',o'⟩:=s';have e:o'=s1.os:=os;subst e;have inB : ∀ b o,B.get? b=some o->hh.get? b=some o:=fl;have kB : ∀ b o,hh.get? b=some o->(∃ o',B.get? b=some o')->h5.get? b=some o:=fun b o z xx150=>by
   obtain ⟨o',t⟩:=xx150;have:=inB b o' t;rw [z] at this;cases this;exact st b _ t
  have nofr : ∀ b,b ∈ frs X.stack -> ∃ o,s1.heap.get? b=some o /\ ∀ vs,o.data ≠ .fields vs:=fun b hb=>by
   obtain ⟨_,o,ho,hd⟩:=I.stack.mem hb;exact ⟨o,ho,hd⟩
  have sl : ∀ b o,b ∈ frs X.stack->s1.heap.get? b=some o->H1 b=none -> ∃ sl,h5.get? b=some { o with slots:=sl }:=fun b o hb z n=>by
   obtain ⟨o2,ho2,hd⟩:=nofr b hb;rw [z] at ho2;cases ho2;obtain ⟨x1,y1⟩:=u.any z n (by simp);obtain ⟨x2,y2⟩:=up b _ y1 hd;exact ⟨x2,y2⟩
  show Inv X pins σ H2 { s1 with heap:=h5,gens:=g',drawn:=d',toks:=t' };refine Inv.step (s:=s1) (ch:=[]) I (fun b z=>nomatch z) (fun b o hL hb _ z n=>?_) (fun b o hL hb _ z n=>sl b o (hst b hb) z n) (fun b o _ z n=>u.free b o z n (by simp)) (fun b o _ z=>?_) u.tups u.frzs u.tbls (fun m hm=>?_) (fun b v eb=>?_) bare
  ·have nf:b ∉ frs X.stack:=fun hq=>(Q3.mp (I.stkSub b hq)).elim hL hb;exact kB b o (u.keep b o z n nf (by simp)) (pB b o z nf)
  ·by_cases hq:b ∈ frs X.stack
   ·obtain ⟨x,y⟩:=sl b o hq z (I.stkFree b hq);exact ⟨_,y⟩
   ·obtain ⟨o',t⟩:=pB b o z hq;exact ⟨o',st b o' t⟩
  ·obtain ⟨o,es,ep,ho,r⟩:=hm;by_cases hq:X.env.locals ∈ frs X.stack
   ·obtain ⟨x,y⟩:=sl _ o hq ho I.free;exact ⟨_,es,ep,y,r⟩
   ·exact ⟨o,es,ep,kB _ o (u.keep _ o ho I.free hq (by simp)) (pB _ o ho hq),r⟩
  ·refine (ok b v eb).stay (fun c ob hc z=>?_) (fun c z=>z) (fun c xs z=>z);rcases hc with hc|hc
   ·subst hc;exact kB _ _ z (tB _ _ eb)
   ·exact kB _ _ z (tB _ _ hc)
end
section
variable {X:Cx}{pins:List (Addr×Obj)}{σ:St}{H:Hp}{s:Ql}
def Inv.caught {C ea:Addr}{oe:Obj}{ws:Array Value} (I:Inv X pins σ H s) (hn:H ea=none) (he:s.heap.get? ea=some oe) (hc:oe.cls = .ref C) (hd:oe.data = .fields ws) (hpn : ∀ p ∈ X.pn++pins,p.1≠ea)
 (h0 : ∀ b o,X.s₀.heap.get? b=some o->b ∉ X.ex->b≠ea):Inv X pins σ (upd H ea (qix C ea)) s:=by
  have up : ∀ b,b≠ea->upd H ea (qix C ea) b=H b:=fun b hb=>by unfold upd;rw [if_neg hb]
  have neT : ∀ b v,H b=some v->upd H ea (qix C ea) b=some v:=fun b v e=>by
   rw [up b fun z=>by rw [z,hn] at e;cases e];exact e
  have nL:X.env.locals≠ea:=fun z=>by
   obtain ⟨m,⟨o,es,ep,ho,ho2,_⟩,_⟩:=I.loc;rw [z,he] at ho;cases ho;rw [hd] at ho2;cases ho2
  have nC : ∀ x c,X.env.cells.lookup x=some c->c≠ea:=fun x c e z=>by
   obtain ⟨v,o,ho,ho2⟩:=I.cell x c e;rw [z,he] at ho;cases ho;rw [hd] at ho2;cases ho2
  refine ⟨I.ok,I.os,I.bare,⟨I.base.keep,I.base.slot,fun b o e n hx=>?_,I.base.there,fun b xs e=>neT _ _ (I.base.tups b xs e),fun b o xs e=>neT _ _ (I.base.frzs b o xs e),fun b ps e=>?_⟩,I.loc,I.cell,?_,fun x c e=>?_,fun p hp=>?_,fun b v e=>?_,I.len⟩
  ·rw [up b (h0 b o e hx)];exact I.base.free b o e n hx
  ·obtain ⟨more,q,gm⟩:=I.base.tbls b ps e;exact ⟨more,neT _ _ q,gm.mono fun b o u z=>neT _ _ z⟩
  ·rw [up _ nL];exact I.free
  ·rw [up _ (nC x c e)];exact I.freeC x c e
  ·obtain ⟨a1,a2,a3⟩:=I.pin p hp;exact ⟨a1,(up _ (hpn p hp)).trans a2,a3⟩
  ·by_cases z:b=ea
   ·subst z;have e':qix C b=v:=by unfold upd at e;rw [if_pos rfl] at e;exact Qx e
    subst e';exact ⟨⟨oe,he,hc⟩,⟨oe,he⟩,fun h1 h2 xx151 k=>by obtain ⟨o,q1,q2⟩:=xx151;exact ⟨o,k o q1,q2⟩⟩
   ·rw [up b z] at e;exact (I.hok b v e).stay (fun c ob _ q=>q) (fun c q=>neT _ _ q) (fun c xs q=>neT _ _ q)
end
end
section
section
variable {X:Cx}{pins pins0:List (Addr×Obj)}{σ:St}{H:Hp}{s:Ql}
abbrev Cx.inX (X:Cx) (A':Z2) (xe':Value->Ql->Prop):Cx:={ X with A:=A',calm:=false,xe:=xe' }
abbrev Cx.inT (X:Cx) (pn':List (Addr×Obj)) (xe':Value->Ql->Prop):Cx:={ X with pn:=pn',xe:=xe' }
def Inv.toX {A':Z2}{xe':Value->Ql->Prop} (I:Inv X pins σ H s) (hA:A'.frames=X.A.frames):Inv (X.inX A' xe') pins σ H s :=
 ⟨⟨I.ok.mod,I.ok.kind,I.ok.glob,I.ok.blt,I.ok.above,I.ok.inj,I.ok.has,I.ok.cab,(fun z=>by cases z),hA.trans I.ok.frames,I.ok.stk,I.ok.exf,I.ok.bs,I.ok.bsz,I.ok.noex,I.ok.exfs,I.ok.funs,I.ok.frf⟩,
  I.os,I.bare,I.base,I.loc,I.cell,I.free,I.freeC,I.pin,I.hok,I.len⟩
def Inv.ofX {A':Z2}{xe':Value->Ql->Prop} (ok:X.Ok) (I:Inv (X.inX A' xe') pins σ H s):Inv X pins σ H s :=
 ⟨ok,I.os,I.bare,I.base,I.loc,I.cell,I.free,I.freeC,I.pin,I.hok,I.len⟩
def Inv.toT {xe':Value->Ql->Prop} (I:Inv X pins0 σ H s):Inv (X.inT (X.pn++pins0) xe') [] σ H s :=
 ⟨⟨I.ok.mod,I.ok.kind,I.ok.glob,I.ok.blt,I.ok.above,I.ok.inj,I.ok.has,I.ok.cab,I.ok.hd,I.ok.frames,I.ok.stk,I.ok.exf,I.ok.bs,I.ok.bsz,I.ok.noex,I.ok.exfs,I.ok.funs,I.ok.frf⟩,
  I.os,I.bare,I.base,I.loc,I.cell,I.free,I.freeC,fun p hp=>I.pin p (by simpa using hp),I.hok,I.len⟩
def Inv.ofT {xe':Value->Ql->Prop} (ok:X.Ok) (I:Inv (X.inT (X.pn++pins0) xe') pins σ H s):Inv X pins0 σ H s :=
 ⟨ok,I.os,I.bare,I.base,I.loc,I.cell,I.free,I.freeC,fun p hp=>I.pin p (Yg _ hp),I.hok,I.len⟩
def qmx {M:Model}{A:Z2}{E:Value->Ql->Prop}{i:Nat}{n:Str}{pos:Pos}{Q:Unit->Ql->Prop} (I:Inv X pins σ H s) (hN:X.N.Nodup) (hi:X.N[i]?=some n) (hl:X.env.scope.names.lookup n=some .local)
 (h : ∀ s',Inv X pins (σ.set i none) H s'->Q () s'):wpAny M A (do Qku X.env n .none;unbindBehindTheSuite X.env n pos) Q E s:=by
  obtain ⟨m,hn,hl'⟩:=id I.loc;have hcls:(X.env.scope.kind == .class||(X.env.scope.kind == .module&&X.env.locals != X.env.globals))=false:=by rw [I.ok.kind];rfl
  refine wpAny_nameGoes_keeps hl hn hcls fun h' v hn' hs=>h _ ?_;have lt : ∀ b o,X.s₀.heap.get? b=some o->b≠X.env.locals:=fun b o e=>Qq (Zg (Qp e) I.ok.above);refine ⟨I.ok,I.os,I.bare,⟨fun b o e a c d=>(hs.2 b (lt b o e)).trans (I.base.keep b o e a c d),fun b o e a c d=>?_,I.base.free,fun b o e d=>?_,I.base.tups,I.base.frzs,I.base.tbls⟩,⟨_,hn',fun j y v' e1 e2 e3=>?_⟩,fun y c e=>?_,I.free,I.freeC,fun p hp=>?_,fun b ob e=>?_,by simpa using I.len⟩
  ·obtain ⟨sl,e1⟩:=I.base.slot b o e a c d;exact ⟨sl,(hs.2 b (lt b o e)).trans e1⟩
  ·obtain ⟨o',e1⟩:=I.base.there b o e d;exact ⟨o',(hs.2 b (lt b o e)).trans e1⟩
  ·have hj:j≠i:=fun z=>by
    subst z;rw [Yl] at e2;split at e2
    ·split at e2 <;> cases e2
    ·exact absurd rfl (by assumption)
   rw [Z7 (Yb hj)] at e2;obtain ⟨u',r',q⟩:=hl' j y v' e1 e2 e3;refine ⟨u',r',?_⟩;rcases q with ⟨k,e⟩|⟨k,c,e,z⟩
   ·have:y≠n:=fun e=>hj (qoa hN e1 (e ▸ hi));exact .inl ⟨k,by simp [this,e]⟩
   ·exact .inr ⟨k,c,e,z.sameBut hs (I.cne y c e)⟩
  ·obtain ⟨w',z⟩:=I.cell y c e;exact ⟨w',z.sameBut hs (I.cne y c e)⟩
  ·obtain ⟨e,n,ne,nf,d⟩:=I.pin p hp;exact ⟨(hs.2 p.1 ne).trans e,n,ne,nf,d⟩
  ·refine (I.hok b ob e).stay (fun c w' hc q=>(hs.2 c ?_).trans q) (fun _ q=>q) fun _ _ q=>q;rintro rfl;rcases hc with rfl|hc
   ·rw [I.free] at e;cases e
   ·rw [I.free] at hc;cases hc
end
def qfi (X:Cx) (σ:St) (E:XK):Prop := ∀ (pins:List (Addr×Obj)) (H:Hp) (s:Ql) (e:Value) (s':Ql),Inv X pins σ H s->CX1 X.prog X.w X.stack H s E e s'->X.xe e s'
def zaca (K:Qe) (C C':Addr):Prop:=Ve K C qjx "ValueError.__new__" = true/\(qvu K C).contains (.ref C')=true
def qxn (K:Qe) (C':Addr) (i:Nat) (ts:TS) (D:Ends):St->XK:=fun σ c _ H => ∃ C,c = .ref C/\zaca K C C' /\ ∀ ea,H ea=none ->
 ts { nx:=fun σ2 H3=>D.nx (σ2.set i none) H3,rt:=D.rt,bk:=fun σ2 H3=>D.bk (σ2.set i none) H3,ct:=fun σ2 H3=>D.ct (σ2.set i none) H3 } (σ.set i (some (.ref ea))) (upd H ea (qix C ea))
def tTry (K:Qe) (C':Addr) (i:Nat) (tb:(St->XK)->TS) (ts:TS):TS:=fun D σ H=>tb (qxn K C' i ts D) D σ H
section
variable {X:Cx}{body suite:List Stmt}{b₀:Stmt}{x n:Str}{np hpos pos:Pos}{C':Addr}{i:Nat}{tb:(St->XK)->TS}{ts:TS}
def zalq (hst:X.stack=X.env::X.outer) (hfr:X.env.frame=some X.env.locals) (hN:X.N.Nodup) (hi:X.N[i]?=some n) (hl:X.env.scope.names.lookup n=some .local) (hg:Gl X x) (hm:X.mg x=some (.ref C'))
 (hq:Ve X.K C' qjx "ValueError.__new__" = true) (hb : ∀ pn xe Ex,(∀ σ,qfi (X.inT pn xe) σ (Ex σ))->PSs (X.inT pn xe) body (tb Ex)) (hs : ∀ A xe,PSs (X.inX A xe) (b₀::suite) ts) (hd:Nd0 x:=by decide) :
  PS X (.Try body [.ExceptHandler (some (.Name x np)) (some n) (b₀::suite) hpos] [] [] pos) (tTry X.K C' i tb ts):=by
  intro pins s σ H D I h;have ok:=I.ok;refine wpAny_Try_except (Vo (hb (X.pn++pins) (fun e s' => ∃ σ1 H1 s1,Inv X pins σ1 H1 s1/\CX1 X.prog X.w X.stack H1 s1 (qxn X.K C' i ts D σ1) e s') (qxn X.K C' i ts D) (fun σ1 pins1 H1 s1 e s' I1 c=>⟨σ1,H1,s1,I1.ofT ok,c⟩) [] s σ H D I.toT h) (fun f s1 q=>?_) fun e s' q=>?_)
  ·cases f with
   | next=>obtain ⟨σ',H',I',q⟩:=q;exact Qo ⟨σ',H',I'.ofT ok,q⟩
   | brk=>obtain ⟨σ',H',I',q⟩:=q;exact ⟨σ',H',I'.ofT ok,q⟩
   | cont=>obtain ⟨σ',H',I',q⟩:=q;exact ⟨σ',H',I'.ofT ok,q⟩
   | ret u=>obtain ⟨v,σ',H',I',r,q⟩:=q;exact ⟨v,σ',H',I'.ofT ok,r,q⟩
  obtain ⟨σ1,H1,s1,I1,ea,C,a0,B,H2,rfl,fl,os,bare,u,okH,tB,pB,C2,e2,⟨q1,q2⟩,q3⟩:=q;cases e2;have sub : ∀ b ∈ X.fs,b ∈ frs X.stack:=fun b hb=>by
   rw [hst];unfold frs;rw [Vk,hfr];exact Qs _ hb
  have hn2:H2 ea=none:=by
   rcases z:H2 ea with _|v
   ·rfl
   ·obtain ⟨o,ho⟩:=tB _ _ z;rw [fl.2.1] at ho;cases ho
  refine wpAny_looks_onW (ok.frames.trans (by rw [hst])) hfr (hst ▸ fl) fun h4 held4 up4=>?_;refine wpAny_landsW held4 fun h5 fl5 up5=>?_;have I5:Inv X pins σ1 H2 { s' with heap:=h5 }:=I1.flown os bare u okH tB pB fl.1 fl5.1 (up4.trans up5) sub;obtain ⟨ob,hob,hobc⟩:=fl5.there;obtain ⟨bm,N,nm,qn,bs,hd1,sn,sb,ab,col,dd,k0,k1,k2,k3,k5,mN,hC,hNs,hni,T,hmr⟩:=qhz I5.kIn q1;obtain ⟨bm',N',nm',qn',bs',hd1',sn',sb',ab',col',dd',k0',k1',k2',k3',k5',mN',hC',hNs',hni',T',hmr'⟩:=qhz I5.kIn hq;refine wpAny_handleBy_cons (codeAny_handlers_test (qka (X:=X.inX (X.A.mark (some (.ref ea))) X.xe) (I5.toX rfl) hg hm ?_ hd)) (by intro q;cases q);refine qmk hC hC' hob hobc (T'.hasType Jp.hasBase) true (hmr ▸ q2) (codeAny_handlers_suite_as ?_);refine lands_againW fl5 fun h6 fl6 up6=>?_;have I6:Inv X pins σ1 H2 { s' with heap:=h6 }:=I1.flown os bare u okH tB pB fl.1 fl6.1 ((up4.trans up5).trans up6) sub;obtain ⟨oe,ws,hoe,hoec,hoed,hoe0⟩:=fl6.first;have notB : ∀ b o,B.get? b=some o->b≠ea:=fun b o z y=>by rw [y,fl.2.1] at z;cases z
  have notF : ∀ b,b ∈ frs X.stack->b≠ea:=fun b hb y=>by
   obtain ⟨_,o,ho,hd⟩:=I6.stack.mem hb;rw [y,hoe] at ho;cases ho;exact hd _ hoed
  have not1 : ∀ b o,s1.heap.get? b=some o->b≠ea:=fun b o z=>by
   by_cases hb:b ∈ frs X.stack
   ·exact notF b hb
   ·obtain ⟨o',t⟩:=pB b o z hb;exact notB b o' t
  have I7:Inv X pins σ1 (upd H2 ea (qix C ea)) { s' with heap:=h6 }:=I6.caught hn2 hoe hoec hoed (fun p hp=>not1 _ _ (I1.pin p hp).1) fun b o z hx=>by
   obtain ⟨o',ho'⟩:=I1.base.there b o z hx;exact not1 b o' ho'
  refine qfk (X:=X) I7 hN hi (.inl hl) (show RelV (.ref ea) (.ref ea) from rfl) (fun s8 I8=>?_) (.inr hl);refine Vo (hs (X.A.mark (some (.ref ea))) _ pins s8 _ _ _ (I8.toX rfl) (q3 ea hn2)) (fun f s9 q=>?_) fun _ _ z=>z;cases f with
  | next=>obtain ⟨σ',H',I',q⟩:=q;exact qmx (X:=X) (I'.ofX ok) hN hi hl fun s' I''=>⟨_,H',I'',q⟩
  | brk=>obtain ⟨σ',H',I',q⟩:=q;exact qmx (X:=X) (I'.ofX ok) hN hi hl fun s' I''=>⟨_,H',I'',q⟩
  | cont=>obtain ⟨σ',H',I',q⟩:=q;exact qmx (X:=X) (I'.ofX ok) hN hi hl fun s' I''=>⟨_,H',I'',q⟩
  | ret u=>obtain ⟨v,σ',H',I',r,q⟩:=q;exact qmx (X:=X) (I'.ofX ok) hN hi hl fun s' I''=>⟨v,_,H',I'',r,q⟩
end
end
section
section
variable {K:Qe}{M:Frm}{F H:Hp}{env:Sto}{σ:St}
def EnvOk.sets (I:EnvOk K M F H env σ) {i:Nat}{s:Sl}{v:Option V} (m:s.mut=false) (h:SlotOk K M F H s v):EnvOk K M F H (env.set i s) (σ.set i v) where
 len:=by rw [Yc,Yc];exact I.len
 slot:=fun j=>by
  rw [qdf,qma,I.len];split
  ·exact h
  ·exact I.slot j
 dis:=fun j k a hjk h1 h2 h3 h4=>by
  rw [qdf] at h1 h2;rw [qma] at h3 h4;rw [I.len] at h1 h2;split at h1
  ·rw [m] at h1;cases h1
  ·rename_i z1;split at h2
   ·rw [m] at h2;cases h2
   ·rename_i z2;rw [if_neg z1] at h3;rw [if_neg z2] at h4;exact I.dis j k a hjk h1 h2 h3 h4
 f0:=I.f0
 fe:=I.fe
 fh:=I.fh
 bh:=I.bh
 new:=I.new
 dom:=I.dom
def EnvOk.caught (I:EnvOk K M F H env σ) {i:Nat}{C ea:Addr} (h:H ea=none):EnvOk K M (upd F ea (qix C ea)) (upd H ea (qix C ea)) (env.set i (.exc C)) (σ.set i (some (.ref ea)))/\Same F (upd F ea (qix C ea)):=by
 have hf:F ea=none:=qB I.fh h;have g:Go F H (upd F ea (qix C ea)) (upd H ea (qix C ea)):=⟨qbn hf,qbn h,fun b o e=>by
  by_cases z:b=ea
  ·subst z;rw [ql] at e ⊢;exact .of e
  ·rw [qj z] at e ⊢;exact I.fh b o e,fun b o e=>by
  by_cases z:b=ea
  ·subst z;exact .inr h
  ·rw [qj z] at e;exact .inl e⟩
 exact ⟨(I.go g).sets rfl ⟨ea,rfl,ql⟩,g.f⟩
end
abbrev WX:=Addr->Sto->Prop
def ExOk (K:Qe) (M:Frm) (F:Hp) (Wx:WX) (Ex:St->XK):Prop := ∀ C env' F' H' σ',EnvOk K M F' H' env' σ'->Same F F'->Wx C env'->Ex σ' (.ref C) none H'
def ExOk.mono {K:Qe}{M:Frm}{F F':Hp}{Wx:WX}{Ex:St->XK} (h:ExOk K M F Wx Ex) (s:Same F F'):ExOk K M F' Wx Ex:=fun C e f g i j k=>h C e f g i j (s.trans k)
def zang (K:Qe) (Ex:St->XK) (W:WX->WE):TE:=fun σ H R => ∃ M env F Wx Q,EnvOk K M F H env σ/\W Wx env Q/\ExOk K M F Wx Ex /\ ∀ d v F' H' env',EnvOk K M F' H' env' σ->Same F F'->Is K F' d v->Q d env'->R v H'
def qxi (K:Qe) (Ex:St->XK) (W:WX->WS):TS:=fun D σ H => ∃ M env F Wx DD,EnvOk K M F H env σ/\W Wx DD env/\ExOk K M F Wx Ex/\EndsOk K M F DD D
def VEX (X:Cx) (Ex:St->XK) (e:Expr) (W:WX->WE):Prop:=PE X e (zang X.K Ex W)
def VSX (X:Cx) (Ex:St->XK) (st:Stmt) (W:WX->WS):Prop:=PS X st (qxi X.K Ex W)
def qvt (X:Cx) (Ex:St->XK) (st:List Stmt) (W:WX->WS):Prop:=PSs X st (qxi X.K Ex W)
abbrev DE:=List Qi->(Qi->Prop)->(Addr->Prop)->Prop
def XSp (K:Qe) (sp:DE):Sp:=fun vs H Q E => ∃ F ds q e,Same F H/\Iss K F ds vs/\sp ds q e/\(∀ d v F' H',Go F H F' H'->Is K F' d v->q d->Q v H') /\ ∀ C F' H',Go F H F' H'->e C->E (.ref C) none H'
structure OkX (P:Zo) (w:World) (K:Qe) (mg:Str->Option Value) (base:Heap) (x:Str) (k:Nat) (ps:List Str) (sp:Sp):Prop where
 ex : ∃ (f:Addr) (fd:Jo),FnOk P w K mg base (CX1 P w) k f fd ps sp/\mg x=some (.ref f)/\Je K (.ref f)=true/\Binds K fd ps []
structure OkXC (X:Cx) (x:Str) (k:Nat) (ps:List Str) (sp:Sp):Prop where
 ex : ∃ sp0,OkX X.prog X.w X.K X.mg X.base x k ps sp0 /\ ∀ (pins:List (Addr×Obj)) (σ:St) (H:Hp) (s:Ql) (vs:List V) (Q:VK) (E:XK),Inv X pins σ H s->sp vs H Q E->sp0 vs H Q E
def OkX.c {X:Cx}{x:Str}{k:Nat}{ps:List Str}{sp:Sp} (O:OkX X.prog X.w X.K X.mg X.base x k ps sp):OkXC X x k ps sp:=⟨sp,O,fun _ _ _ _ _ _ _ _ h=>h⟩
section
variable {X:Cx}{Ex:St->XK}{x:Str}{k:Nat}{ps:List Str}{sp:DE}{e c:Expr}{es:List Expr}{p pos:Pos}{Wr:WF}{st:Stmt}{rest A B:List Stmt}{Tc:WT}{W:WX->WE}{Wt Wu:WX->WS}{W0:WS}
def zair {pins:List (Addr×Obj)}{σ:St}{H:Hp}{s:Ql}{Q:VK}{f:Addr}{fd:Jo}{us:List Value}{vs:List V}{sp:Sp}{E:XK} (F:FnOk X.prog X.w X.K X.mg X.base (CX1 X.prog X.w) k f fd ps sp) (hr:Room k X.A) (hb:Binds X.K fd ps []) (hx:qfi X σ E)
 (I:Inv X pins σ H s) (r:Vals vs us) (h:sp vs H Q E):wpAny (model X.prog X.w) X.A (call (.ref f) us) (EP X pins σ Q) X.xe s:=by
  have hl:us.length=ps.length:=by rw [<- r.length];exact F.len _ _ _ _ h
  have hl':(us++[]).length=ps.length:=by rw [Vj];exact hl
  have hb':=hb s us I.kIn hl';rw [Vj] at hb';refine wpAny_call (Qfc (F.run X.A X.stack s H ⟨us,[]⟩ us vs Q E hr I.env0 hb' r h) fun r s' hq=>?_);cases r with
  | error e=>exact hx pins H s e s' I hq
  | ok fl =>
   cases fl with
   | ret u=>exact I.after hq
   | next=>exact Zh hq
   | brk=>exact Zh hq
   | cont=>exact Zh hq
def zamv (sp:DE) (Wr:WF):WX->WE:=fun Wx env Q=>Wr env fun ds e=>sp ds (fun d=>Q d e) fun C=>Wx C e
def zagd (hx : ∀ σ,qfi X σ (Ex σ)) (O:OkXC X x k ps (XSp X.K sp)) (hr:Room k X.A) (ha:VA X (e::es) Wr) (hg:Gl X x:=by rfl) (hdb:Nd0 x:=by decide)
 (he:Qu (e::es) X.env=(false,eval e X.env)::Qu es X.env:=by rfl) (hpl:(V8 pos (Qu es X.env)).any (·.1)=false:=by rfl):VEX X Ex (.Call (.Name x p) (e::es) [] pos) (zamv sp Wr):=by
 obtain ⟨sp0,⟨f,fd,F,hm,hk,hb⟩,up⟩:=O.ex;rintro pins s σ H Q I ⟨M,env,F0,Wx,q,J,h,hex,kk⟩;refine Jv (qka I hg hm ?_ hdb);refine Qiu (h₀:=X.base) I.ok.mod.kin hk (thn (ha pos pins s σ H (fun vs H1=>XSp X.K sp vs H1 Q (Ex σ)) I ⟨M,env,F0,_,J,h,fun ds vs F1 H1 e1 I1 s1 i1 h1=>?_⟩) fun us s1 ⟨vs,H1,I1,r,q⟩=>⟨I1.kIn,?_⟩) he hpl
 ·exact ⟨F1,ds,_,_,I1.fh,i1,h1,fun d v F2 H2 g i2 q=>kk d v F2 H2 e1 (I1.go g) (s1.trans g.f) i2 q,fun C F2 H2 g q=>hex C e1 F2 H2 σ (I1.go g) (s1.trans g.f) q⟩
 ·exact zair F hr hb (hx σ) I1 r (up _ _ _ _ _ _ _ I1 q)
def zage (h:VS X st W0):VSX X Ex st (fun _=>W0):=PS.imp h fun D σ H xx153=>by obtain ⟨M,env,F,Wx,DD,I,h,hx,k⟩:=xx153;exact ⟨M,env,F,DD,I,h,k⟩
def qbs (h:VSs X rest W0):qvt X Ex rest (fun _=>W0):=PSs.imp h fun D σ H xx154=>by obtain ⟨M,env,F,Wx,DD,I,h,hx,k⟩:=xx154;exact ⟨M,env,F,DD,I,h,k⟩
def qov (hc:VT X c Tc) (ha:qvt X Ex A Wt) (hb:qvt X Ex B Wu):VSX X Ex (.If c A B pos) (fun Wx=>wIf Tc (Wt Wx) (Wu Wx)):=(zahc hc ha hb).imp fun D σ H xx155=>by
 obtain ⟨M,env,F,Wx,DD,I,h,hx,k⟩:=xx155;refine ⟨M,env,F,_,I,h,fun x F1 H1 e1 I1 s1 h1=>?_⟩;cases x with
 | true=>exact qwd ⟨M,e1,F1,Wx,DD,I1,h1,hx.mono s1,k.mono s1⟩
 | false=>exact qrz ⟨M,e1,F1,Wx,DD,I1,h1,hx.mono s1,k.mono s1⟩
def qyu {i:Nat}{x:Str}{pos':Pos} (hN:X.N.Nodup) (he:VEX X Ex e W) (hi:X.N[i]?=some x:=by rfl) (hx:Loc X.env.scope x:=by first|exact V0 rfl|exact Y6 rfl) (hs:Qan e (some (.Name x pos')) pos.line X.env=pure false:=by rfl)
 (hf:X.fn x=true\/X.env.scope.names.lookup x=some .local:=by first|exact .inl rfl|exact .inr rfl):VSX X Ex (.Assign [.Name x pos'] e pos) (fun Wx=>wSet i (W Wx)):=(qjf hN hi hx he hs hf).imp fun D σ H xx156=>by
 obtain ⟨M,env,F,Wx,DD,I,h,hx,k⟩:=xx156;exact ⟨M,env,F,Wx,_,I,h,hx,fun d v F1 H1 e1 I1 s1 i1 h1=>k.nx _ F1 H1 _ (I1.setv i1) s1 h1⟩
def qal (h1:VSX X Ex st Wt) (h2:qvt X Ex rest Wu):qvt X Ex (st::rest) (fun Wx=>wSeq (Wt Wx) (Wu Wx)):=(qej h1 h2).imp fun D σ H xx157=>by
 obtain ⟨M,env,F,Wx,DD,I,h,hx,k⟩:=xx157;exact ⟨M,env,F,Wx,{ DD with nx:=Wu Wx DD },I,h,hx,fun e' F' H' σ' I' s' h'=>⟨M,e',F',Wx,DD,I',h',hx.mono s',k.mono s'⟩,k.rt,k.bk,k.ct⟩
end
end
section
section
variable {X:Cx}{Ex:St->XK}{E:XK}{x y n:Str}{k i j:Nat}{ps:List Str}{sp:DE}{e:Expr}{es:List Expr}{p np cpos hpos pos pos':Pos}{Wr:WF}{st b₀:Stmt}{body suite:List Stmt}{C C':Addr}{Wb:WX->WS}{Ws:WS}
def zany (C:Addr) (Wr:WF):WX->WS:=fun Wx _ env=>Wr env fun ds e=>ds.length<=Q9/\Wx C e
def qhi (hT:qou X E) (hc:X.calm=true) (hm:X.mg x=some (.ref C)) (hq:Ve X.K C qjx "ValueError.__new__" = true) (ha:VA X (e::es) Wr) (hg:Gl X x:=by rfl)
 (hdb:Nd0 x:=by decide) (he:Qu (e::es) X.env=(false,eval e X.env)::Qu es X.env:=by rfl) (hpl:(V8 cpos (Qu es X.env)).any (·.1)=false:=by rfl) :
 VSX X (fun _=>E) (.Raise (some (.Call (.Name x np) (e::es) [] cpos)) none pos) (zany C Wr):=(zacv hT hc hg hm hq ha hdb he hpl).imp fun D σ H xx158=>by
 obtain ⟨M,env,F,Wx,DD,I,h,hx,k⟩:=xx158;exact ⟨M,env,F,_,I,h,fun ds vs F1 H1 e1 I1 s1 i1 h1=>⟨by rw [i1.len];exact h1.1,hx C e1 F1 H1 σ I1 s1 h1.2⟩⟩
def wTry (K:Qe) (C':Addr) (i:Nat) (Wb:WX->WS) (Ws:WS):WS:=fun D env=>Wb (fun C e=>zaca K C C' /\
 Ws { nx:=fun e'=>D.nx (e'.set i .non),rt:=fun r e'=>D.rt r (e'.set i .non),bk:=fun e'=>D.bk (e'.set i .non),ct:=fun e'=>D.ct (e'.set i .non) } (e.set i (.exc C))) D env
def zamo (hst:X.stack=X.env::X.outer) (hfr:X.env.frame=some X.env.locals) (hN:X.N.Nodup) (hm:X.mg x=some (.ref C')) (hq:Ve X.K C' qjx "ValueError.__new__" = true)
 (hb : ∀ pn xe Ex,(∀ σ,qfi (X.inT pn xe) σ (Ex σ))->qvt (X.inT pn xe) Ex body Wb) (hs : ∀ A xe,VSs (X.inX A xe) (b₀::suite) Ws)
 (hi:X.N[i]?=some n:=by rfl) (hl:X.env.scope.names.lookup n=some .local:=by rfl) (hg:Gl X x:=by rfl) (hd:Nd0 x:=by decide) :
  VS X (.Try body [.ExceptHandler (some (.Name x np)) (some n) (b₀::suite) hpos] [] [] pos) (wTry X.K C' i Wb Ws) :=
  PS.imp (zalq (tb:=fun Ex=>qxi X.K Ex Wb) (ts:=zaha X.K Ws) hst hfr hN hi hl hg hm hq hb hs hd) fun D σ H xx160=>by
   obtain ⟨M,env,F,DD,I,h,k⟩:=xx160;refine ⟨M,env,F,_,DD,I,h,fun C env' F' H' σ' I' s' ⟨u,hw⟩=>⟨C,rfl,u,fun ea hea=>?_⟩,k⟩;obtain ⟨J,s2⟩:=I'.caught (i:=i) (C:=C) hea;have go : ∀ {env2 F2 H2 σ2},EnvOk X.K M F2 H2 env2 σ2->EnvOk X.K M F2 H2 (env2.set i .non) (σ2.set i none):=fun I2=>I2.sets rfl trivial;exact ⟨M,_,_,_,J,hw,fun e3 F3 H3 σ3 I3 s3 q3=>k.nx _ F3 H3 _ (go I3) (s'.trans (s2.trans s3)) q3,fun r v e3 F3 H3 σ3 I3 s3 r3 q3=>k.rt r v _ F3 H3 _ (go I3) (s'.trans (s2.trans s3)) r3 q3,
    fun e3 F3 H3 σ3 I3 s3 q3=>k.bk _ F3 H3 _ (go I3) (s'.trans (s2.trans s3)) q3,fun e3 F3 H3 σ3 I3 s3 q3=>k.ct _ F3 H3 _ (go I3) (s'.trans (s2.trans s3)) q3⟩
def zalh (i j:Nat):WS:=fun D env=>match gS env j with | .exc C=>D.nx (env.set i (.exc C))|_=>False
def zail (j:Nat) (hN:X.N.Nodup) (hj:X.N[j]?=some y:=by rfl) (hv:Vis X.env.scope y:=by first|exact V0 rfl|exact Y6 (V0 rfl)|exact Y6 (Y6 rfl)) (hi:X.N[i]?=some x:=by rfl)
 (hx:Loc X.env.scope x:=by first|exact V0 rfl|exact Y6 rfl) (hd:Nd0 y:=by decide) (hcd:Nd1 y:=by decide)
 (hs:Qan (.Name y p) (some (.Name x pos')) pos.line X.env=pure false:=by rfl) (hf:X.fn x=true\/X.env.scope.names.lookup x=some .local:=by first|exact .inl rfl|exact .inr rfl) :
 VS X (.Assign [.Name x pos'] (.Name y p) pos) (zalh i j):=PS.imp (qjf hN hi hx (qcp hj hv hd hcd) hs hf) fun D σ H xx161=>by
 obtain ⟨M,env,F,DD,I,h,k⟩:=xx161;have S:=I.slot j;unfold zalh at h;cases q:gS env j with
 | exc C =>
  rw [q] at S h;obtain ⟨ea,e,z⟩:=S;exact ⟨_,qbr e,k.nx _ F H _ (I.sets (i:=i) (s :=.exc C) rfl ⟨ea,rfl,z⟩) (.refl _) h⟩
 | non=>rw [q] at h;exact h.elim
 | obj a0 C nm fs=>rw [q] at h;exact h.elim
 | val d=>rw [q] at h;exact h.elim
 | own ds=>rw [q] at h;exact h.elim
 | pen ds=>rw [q] at h;exact h.elim
 | new d=>rw [q] at h;exact h.elim
end
section
variable {P:Zo}{w:World}{K:Qe}{mg:Str->Option Value}{base:Heap}
def Def.vokX {x:Str}{st:Stmt}{N ps:List Str}{k:Nat}{sp:DE} (F:Def K mg x st ps) (S:FnScope N ps (defScope st)) (len : ∀ ds q e,sp ds q e->ds.length=ps.length)
 (hbody : ∀ (f:Addr) (cdv:Value) (A:Z2) (outer:List Env) (s:Ql) (H:Hp) (E:XK),Room k (A.deeper (Qch x (defScope st) s.heap.objs.size f cdv)) ->
 (∀ σ,qfi (qdn (CX1 P w) P w K mg base N x (defScope st) f cdv A outer s H E) σ E)->qou (qdn (CX1 P w) P w K mg base N x (defScope st) f cdv A outer s H E) E -> ∀ ds q e,sp ds q e ->
 ∃ W,qvt (qdn (CX1 P w) P w K mg base N x (defScope st) f cdv A outer s H E) (fun _=>E) (defBody st) W/\W (fun C _=>e C) { nx:=fun _=>q .none,rt:=fun r _=>q r.data } (qU N ds)):OkX P w K mg base x (k+1) ps (XSp K sp):=by
  obtain ⟨f,fd,Fn,hm,hb⟩:=F.ex;refine ⟨f,fd,?_,hm,Fn.kp,hb⟩;obtain ⟨oc,od,kV,doc,pm,an,cdv,ct,osl,rfl,lk,hcd⟩:=Fn.ex;refine zacb lk hcd S (fun vs H Q E xx163=>by obtain ⟨F,ds,q,e,_,i,h,_⟩:=xx163;rw [i.len];exact len ds q e h) fun A outer s H vs Q E hr xx162=>?_;obtain ⟨F,ds,q,e,sm,i,h,kk,kx⟩:=xx162;obtain ⟨W,hW,hq⟩:=hbody f cdv A outer s H E hr (fun σ pins H1 s1 e1 s' I c=>qqm pins σ H1 s1 e1 s' I c) qqw ds q e h;refine ⟨_,hW,⟨H,H,F⟩,qU N ds,F,_,_,qcf sm i,hq,fun C e1 F1 H1 σ1 I1 s1 q1=>kx C F1 H1 I1.goOf q1,⟨fun e1 F1 H1 σ1 I1 s1 q1=>kk _ _ F1 H1 I1.goOf qjd q1,fun r v e1 F1 H1 σ1 I1 s1 r1 q1=>?_,fun _ _ _ _ _ _ h=>h.elim,fun _ _ _ _ _ _ h=>h.elim⟩⟩;obtain ⟨F2,g,j⟩:=r1.is I1;exact kk _ _ F2 H1 g j q1
end
end
section
section
variable {prog:Zo}{w:World}{A:Z2}{E:Value->Ql->Prop}{h:Heap}{g:Array Qkt}{d:Drawn}{t:Nat}{os:OsState}{a:Addr}{o:Obj}{K:Qe}
 {nm q:Str}{C N:Addr}{bs bm:List Value}{hdct:Bool}{sn:List Str}{sub:List Value}{ab:Bool}{col:Option Bool}{dd:Option Addr}{k0 k1 k2 k3 k5:Option Value}{newId:String}
def zanu {R:Result->Ql->Prop} (hC:h.get? C=some (Qbz nm q C N bs bm hdct sn sub ab col dd k0 k1 k2 k3 k5 newId)) (T:Qlp h qjx bm) (hx:h.get? a=some o) (hc:o.cls = .ref C) (hq:R (.ok (.ret (.ref C))) ⟨h,g,d,t,os⟩) :
 Qdv (model prog w) A (.call (.builtin "getset_descriptor.__get__") ⟨[.builtin "object.__class__",.ref a,.ref C],[]⟩) R ⟨h,g,d,t,os⟩:=by
  have hT5:(⟨h,g,d,t,os⟩:Ql).TypeIs (.builtin "object.__class__") "getset_descriptor" := Qdn;have hcB:(Z3 C::bm).contains (.type (".".intercalate ("object.__class__".cutAt '.').dropLast))=true:=by
   rw [F.owner_object_class,Qex,T.hasType (X := "object") (b:=true) (by decide)];rfl
  refine Qhz Qiy.plain F.entry_gs_get (Qiy.check _ _ _ _ _ _ _ _ hT5 (F.args_gs_get _ _ _) ?_)
  repeat (any_goals (first|assumption|(with_reducible refine Ji hx ?_;rw [hc])|(with_reducible refine Qca hC ?_;rw [hcB])|wp_step))
  refine ⟨Code.quiet_builtin _ (by decide +kernel),Qac F.entry_object_class ?_⟩
  repeat (any_goals (first|assumption|(with_reducible refine Ji hx ?_;rw [hc])|wp_step))
def zadx {tk:Tok}{Q:Fin->Ql->Prop} (X:K.In h) (hf:V1 K (.ref C) "__class__" = some (some (.builtin "object.__class__"))) (hC:h.get? C=some (Qbz nm q C N bs bm hdct sn sub ab col dd k0 k1 k2 k3 k5 newId)) (T:Qlp h qjx bm)
 (hx:h.get? a=some o) (hc:o.cls = .ref C) (hq:Q (.done (.ret (.ref C))) ⟨h,g,d,t,os⟩) :
 wpAny (model prog w) A (Builtin.«object.__getattribute__» ⟨[.ref a,.str "__class__" tk],[]⟩) Q E ⟨h,g,d,t,os⟩:=by
  have hT5:(⟨h,g,d,t,os⟩:Ql).TypeIs (.builtin "object.__class__") "getset_descriptor" := Qdn;have f5:=Qdn;have f6:=Qiy.lookup;have f7:=F.slot_gs_set.lookup;have L:=Qdw (M:=model prog w) X hf
  repeat (any_goals (first|assumption|(with_reducible refine Ji hx ?_;rw [hc])|with_reducible refine L.at ?_|wp_step))
  refine zanu hC T hx hc ?_
  repeat (any_goals (first|assumption|wp_step))
def zafn {M:Model}{nameV:Value}{Q:Unit->Ql->Prop} (hC:h.get? C=some (Qbz nm q C N bs bm hdct sn sub ab col dd k0 k1 k2 k3 k5 newId)) (T:Qlp h qjx bm)
 (hx:h.get? a=some o) (hc:o.cls = .ref C) (hq:Q () ⟨h,g,d,t,os⟩):wpAny M A (checkBuiltinCall "BaseException.__getattribute__" ⟨[.ref a,nameV],[]⟩) Q E ⟨h,g,d,t,os⟩:=by
  have hk:builtinKind "BaseException.__getattribute__" = some .slot:=by decide +kernel
  have hsplit:splitId "BaseException.__getattribute__" = some ("BaseException","__getattribute__"):=by decide +kernel
  have hcB:(Z3 C::bm).contains (.type "BaseException")=true:=by rw [Qex,T.hasType (X := "BaseException") (b:=true) (by decide)];rfl
  have ha:=F.args_bexc_ga (.ref a) nameV;simp only [checkBuiltinCall,hk,hsplit];refine Qd ?_;unfold isInstance
  repeat (first|(with_reducible refine Ji hx ?_;rw [hc])|(with_reducible refine Qca hC ?_;rw [hcB])|wp_step)
  exact hq
structure XCls (K:Qe) (C:Addr):Prop where
 exc:Ve K C qjx "ValueError.__new__" = true
 ga:V1 K (.ref C) "__getattribute__" = some (some (.builtin "BaseException.__getattribute__"))
 na:V1 K (.ref C) "__getattr__" = some none
 cl:V1 K (.ref C) "__class__" = some (some (.builtin "object.__class__"))
def zaqe {tk:Tok}{Q:Value->Ql->Prop} (X:K.In h) (Z:XCls K C) (hC:h.get? C=some (Qbz nm q C N bs bm hdct sn sub ab col dd k0 k1 k2 k3 k5 newId)) (T:Qlp h qjx bm)
 (hx:h.get? a=some o) (hc:o.cls = .ref C) (hq:Q (.ref C) ⟨h,g,d,t,os⟩):wpAny (model prog w) A (getAttrBy (.ref a) (.str "__class__" tk) false) Q E ⟨h,g,d,t,os⟩:=by
  have f3:=Qhv.ga.bind (.ref a);have hx2:(Qfw "BaseException.__getattribute__" == Qfw "object.__getattribute__")=false:=by decide +kernel
  have hx1:(onTheHeap (Z3 C)&&Qfw "BaseException.__getattribute__" == Qfw "object.__getattribute__")=false:=by rw [hx2];rfl
  have L:=Qdw (M:=model prog w) X Z.ga;have L2:=Qdw (M:=model prog w) X Z.na
  repeat (any_goals (first|assumption|(with_reducible refine Ji hx ?_;rw [hc])|with_reducible refine L.at ?_|with_reducible refine L2.at ?_|wp_step))
  refine Qhz Qhv.ga.plain F.entry_bexc_ga (zafn hC T hx hc (zadx X Z.cl hC T hx hc ?_))
  repeat (any_goals (first|assumption|wp_step))
def zahw {Q:Option Value->Ql->Prop} (X:K.In h) (Z:XCls K C) (hC:h.get? C=some (Qbz nm q C N bs bm hdct sn sub ab col dd k0 k1 k2 k3 k5 newId)) (T:Qlp h qjx bm)
 (hx:h.get? a=some o) (hc:o.cls = .ref C) (hq:Q (some (.ref C)) ⟨h,g,d,t+1,os⟩):wpAny (model prog w) A (getAttr? (.ref a) "__class__") Q E ⟨h,g,d,t,os⟩:=by
  unfold getAttr? getAttrBy?
  repeat (any_goals (first|assumption|with_reducible apply zaqe X Z hC T hx hc|wp_step))
end
def qut {K:Qe}{a C:Addr} (Z:XCls K C):PySem.W.KitX K (.ref a) (.ref C) (fun h => ∃ o,h.get? a=some o/\o.cls = .ref C) where
 ty:=fun M h X xx164=>by obtain ⟨o,h1,h2⟩:=xx164;exact h2 ▸ (Qnb h1).andThen .now
 it:=fun M h X _=>by
  obtain ⟨bm,N,nm,qn,bs,hd,sn,sub,ab,col,dd,k0,k1,k2,k3,k5,mN,hC,_⟩:=qhz X Z.exc;intro A' Q' E' s' k q;unfold isType loadHead;exact Qd (wpAny_loadPart (k _ _ hC) (Qo q))
 ne:=fun h tp dd its n sl X htp=>by
  obtain ⟨bm,N,nm,qn,bs,hd,sn,sub,ab,col,dd',k0,k1,k2,k3,k5,mN,hC,_⟩:=qhz X Z.exc;refine Bool.eq_false_iff.mpr fun q=>?_;have e:C=tp:=Z3.inj (beq_iff_eq.mp q);subst e;have z:=Qx (hC.symm.trans htp);have z2:=congrArg Obj.data z;exact Data.noConfusion z2
 ca:=fun {prog w A E Q s} X ⟨o,h1,h2⟩ k=>by
  obtain ⟨bm,N,nm,qn,bs,hd,sn,sub,ab,col,dd',k0,k1,k2,k3,k5,mN,hC,hN,hni,T,_⟩:=qhz X Z.exc;obtain ⟨hh,g,d,t,os⟩:=s;exact zahw X Z hC T h1 h2 k
end
section
def qzf:V->Option Value
 | .ty n=>some (.type n)
 | .ref a=>some (.ref a)
 | _=>none
def qvl {v:V}{u u':Value} (r:RelV v u) (h:qzf v=some u'):u=u':=by
 cases v with
 | ty n=>cases h;exact r
 | ref a=>cases h;exact r
 | _=>cases h
def qqh : ∀ {vs:List V}{us us':List Value},Vals vs us->vs.mapM qzf=some us'->us=us'
 | [],_,_,.nil,h=>by cases h;rfl
 | v::vs,_,us',.cons r t,h=>by
  rw [List.mapM_cons] at h;cases hv:qzf v with
  | none=>rw [hv] at h;cases h
  | some u0 =>
   cases hr:vs.mapM qzf with
   | none=>rw [hv,hr] at h;cases h
   | some us0 =>
    rw [hv,hr] at h;cases h;rw [qvl r hv,qqh t hr]
def rIsX (K:Qe):List V->Hp->VK->Prop:=fun xs H Q => ∃ (C ea:Addr) (c:V) (u:Value) (b:Bool),xs=[.ref ea,c]/\H ea=some (qix C ea)/\XCls K C/\qzf c=some u/\Yh K (.ref C) u=some b/\Q (.bl b) H
def zaqv (K:Qe):List V->Hp->VK->Prop:=fun xs H Q => ∃ (C ea tp:Addr) (cs:List V) (us:List Value) (b:Bool),xs=[.ref ea,.ref tp]/\H ea=some (qix C ea)/\XCls K C/\H tp=some (.tup cs)/\cs.mapM qzf=some us/\Qbo K (.ref C) us=some b/\Q (.bl b) H
section
variable {X:Cx}
def zafi:CallR X (.builtin "isinstance") (rIsX X.K):=by
 intro pins s σ H xs us Q I r h;obtain ⟨C,ea,c,u,b,rfl,ha,Z,hc,e,q⟩:=h;obtain ⟨u1,u2,rfl,rx,rc⟩:=zahb r;cases rx;rw [qvl rc hc];obtain ⟨p,_,_⟩:=(show ObjOk X.prog X.w H s.heap ea (qix C ea) from I.hok ea _ ha)
 exact Jk (qut Z) I.kIn p e (fun z=>nomatch z) fun tk=>⟨.bl b,H,I.tok tk,rfl,q⟩
def zabr:CallR X (.builtin "isinstance") (zaqv X.K):=by
 intro pins s σ H xs us Q I r h;obtain ⟨C,ea,tp,cs,us',b,rfl,ha,Z,ht,hc,e,q⟩:=h;obtain ⟨u1,u2,rfl,rx,rc⟩:=zahb r;cases rx;cases rc;obtain ⟨p,_,_⟩:=(show ObjOk X.prog X.w H s.heap ea (qix C ea) from I.hok ea _ ha)
 obtain ⟨its,rv,pl,_⟩:=I.tuple (SqT.of ht);obtain ⟨⟨cls,dd,data,sl⟩,ho,hcl,n,hdt⟩:=pl;simp only at hcl hdt;subst hcl hdt;rw [qqh rv hc] at ho;exact PySem.W.kia_tup (qut Z) I.kIn p ho e (fun z=>nomatch z) fun tk=>⟨.bl b,H,I.tok tk,rfl,q⟩
def tVs (vs:List V):TA:=fun _ H Q=>Q vs H
def zaqh:PA X [] (tVs []):=qcq
def qzd {e:Expr}{es:List Expr}{v:V}{vs:List V} (he:PE X e (tC v)) (hs:PA X es (tVs vs)) (hst:Qu (e::es) X.env=(false,eval e X.env)::Qu es X.env:=by rfl):PA X (e::es) (tVs (v::vs)):=qV he hs hst
def wIsX (K:Qe) (j:Nat) (u:Value):WE:=fun env Q=>match gS env j with | .exc C=>XCls K C /\ ∃ b,Yh K (.ref C) u=some b/\Q (.bool b) env|_=>False
def zalk (K:Qe) (j:Nat) (us:List Value):WE:=fun env Q=>match gS env j with | .exc C=>XCls K C /\ ∃ b,Qbo K (.ref C) us=some b/\Q (.bool b) env|_=>False
section
variable {y:Str}{c:Expr}{cs:List Expr}{v:V}{vs:List V}{u:Value}{us:List Value}{p py pt pos:Pos}{x1:Nat}
def qsx (j:Nat) (hm:X.mg "isinstance" = none) (hc:PE X c (tC v)) (hu:qzf v=some u) (hj:X.N[j]?=some y:=by rfl) (hv:Vis X.env.scope y:=by first|exact V0 rfl|exact Y6 (V0 rfl)|exact Y6 (Y6 rfl))
 (hg:Gl X "isinstance":=by rfl) (hd:Nd0 y:=by decide) (hcd:Nd1 y:=by decide)
 (hs:Qu [.Name y py,c] X.env=(false,eval (.Name y py) X.env)::Qu [c] X.env:=by rfl) (hs2:Qu [c] X.env=(false,eval c X.env)::Qu [] X.env:=by rfl) (hpl:(V8 pos (Qu [c] X.env)).any (·.1)=false:=by rfl) :
 VE X (.Call (.Name "isinstance" p) [.Name y py,c] [] pos) (wIsX X.K j u) :=
 (qgz zafi hg hm qdo (qV (qcp hj hv hd hcd) (qV hc qcq hs2) hs) (by decide) (by decide) hs hpl).imp fun σ H R xx165=>by
  obtain ⟨M,env,F,Q,I,h,k⟩:=xx165;have S:=I.slot j;unfold wIsX at h;cases q:gS env j with
  | exc C =>
   rw [q] at S h;obtain ⟨ea,e,z⟩:=S;obtain ⟨Z,b,hb,h⟩:=h;exact ⟨_,qbr e,C,ea,v,u,b,rfl,I.fh.at z,Z,hu,hb,k _ _ F H env I (.refl _) (qdb _) h⟩
  | non=>rw [q] at h;exact h.elim
  | obj a0 C nm fs=>rw [q] at h;exact h.elim
  | val d=>rw [q] at h;exact h.elim
  | own ds=>rw [q] at h;exact h.elim
  | pen ds=>rw [q] at h;exact h.elim
  | new d=>rw [q] at h;exact h.elim
def zaif (j:Nat) (hm:X.mg "isinstance" = none) (hc:PA X cs (tVs vs)) (hu:vs.mapM qzf=some us) (hl:vs.length<=Q9) (hj:X.N[j]?=some y:=by rfl) (hv:Vis X.env.scope y:=by first|exact V0 rfl|exact Y6 (V0 rfl)|exact Y6 (Y6 rfl))
 (hg:Gl X "isinstance":=by rfl) (hd:Nd0 y:=by decide) (hcd:Nd1 y:=by decide)
 (hs:Qu [.Name y py,.Tuple cs x1 pt] X.env=(false,eval (.Name y py) X.env)::Qu [.Tuple cs x1 pt] X.env:=by rfl) (hs2:Qu [.Tuple cs x1 pt] X.env=(false,eval (.Tuple cs x1 pt) X.env)::Qu [] X.env:=by rfl)
 (hpl:(V8 pos (Qu [.Tuple cs x1 pt] X.env)).any (·.1)=false:=by rfl) :
 VE X (.Call (.Name "isinstance" p) [.Name y py,.Tuple cs x1 pt] [] pos) (zalk X.K j us) :=
 (qgz zabr hg hm qdo (qV (qcp hj hv hd hcd) (qV (zafx hc) qcq hs2) hs) (by decide) (by decide) hs hpl).imp fun σ H R xx166=>by
  obtain ⟨M,env,F,Q,I,h,k⟩:=xx166;have S:=I.slot j;unfold zalk at h;cases q:gS env j with
  | exc C =>
   rw [q] at S h;obtain ⟨ea,e,z⟩:=S;obtain ⟨Z,b,hb,h⟩:=h;exact ⟨_,qbr e,hl,fun tp hp=>⟨C,ea,tp,vs,us,b,rfl,(qbn hp).at (I.fh.at z),Z,ql,hu,hb,k _ _ F _ env (I.go (.side I.fh hp)) (.refl _) (qdb _) h⟩⟩
  | non=>rw [q] at h;exact h.elim
  | obj a0 C nm fs=>rw [q] at h;exact h.elim
  | val d=>rw [q] at h;exact h.elim
  | own ds=>rw [q] at h;exact h.elim
  | pen ds=>rw [q] at h;exact h.elim
  | new d=>rw [q] at h;exact h.elim
end
end
end
section
section
variable {prog:Zo}{w:World}{A:Z2}{E:Value->Ql->Prop}{s:Ql}
def SqIt (b:Bool) (h:Heap) (j l:Addr) (i:Nat):Prop:=match b with
 | true=>h.IsTupleIter j l i
 | false=>h.IsListIter j l i
def SqOf (b:Bool) (h:Heap) (l:Addr) (us:Array Value):Prop:=match b with
 | true=>h.IsTuple l us
 | false=>h.IsList l us
def itTy:Bool->String
 | true => "tuple_iterator"
 | false => "list_iterator"
abbrev itO (b:Bool) (l:Addr):Obj:={ cls :=.type (itTy b),data :=.fields #[.ref l,.int 0 0] }
def SqIt.at' {b:Bool}{h h':Heap}{j l:Addr}{i:Nat} (x:SqIt b h j l i) (e : ∀ o,h.get? j=some o->h'.get? j=some o):SqIt b h' j l i:=by
 cases b with
 | true=>exact Heap.IsTupleIter.at x e
 | false=>exact Heap.IsListIter.at x e
def SqIt.but {b:Bool}{h h':Heap}{j l c:Addr}{i:Nat} (x:SqIt b h j l i) (e:Vv c h h') (n:j≠c):SqIt b h' j l i:=x.at' fun o q=>e.extBut j o n q
def SqIt.obj {b:Bool}{h:Heap}{j l:Addr}{i:Nat} (x:SqIt b h j l i) : ∃ o,h.get? j=some o /\ ∀ v,o.data ≠ .cell v:=by
 cases b with
 | true=>obtain ⟨o,q,_,d⟩:=x;exact ⟨o,q,fun v z=>by rw [d] at z;cases z⟩
 | false=>obtain ⟨o,q,_,d⟩:=x;exact ⟨o,q,fun v z=>by rw [d] at z;cases z⟩
def SqOf.at' {b:Bool}{h h':Heap}{l:Addr}{us:Array Value} (x:SqOf b h l us) (e : ∀ o,h.get? l=some o->h'.get? l=some o):SqOf b h' l us:=by
 cases b with
 | true=>obtain ⟨o,q,r⟩:=x;exact ⟨o,e o q,r⟩
 | false=>exact Heap.IsList.at x e
def SqOf.but {b:Bool}{h h':Heap}{l c:Addr}{us:Array Value} (x:SqOf b h l us) (e:Vv c h h') (n:l≠c):SqOf b h' l us:=x.at' fun o q=>e.extBut l o n q
def SqOf.lt {b:Bool}{h:Heap}{l:Addr}{us:Array Value} (x:SqOf b h l us):l<h.objs.size:=by
 cases b with
 | true=>obtain ⟨o,q,_⟩:=x;exact Qp q
 | false=>obtain ⟨o,q,_⟩:=x;exact Qp q
def zaea {j t:Addr}{k:Nat}{us:Array Value}{u:Value}{Q:Value->Ql->Prop} (hj:s.heap.IsTupleIter j t k) (ht:s.heap.IsTuple t us) (hu:us[k]?=some u)
 (q : ∀ h',h'.IsTupleIter j t (k+1)->Vv j s.heap h'->Q u { s with heap:=h' }):wpAny (model prog w) A (Zj (.ref j)) Q E s:=by
  obtain ⟨ob,e1,e2,e3⟩:=id hj;obtain ⟨ot,f1,_,nt,f3⟩:=ht;unfold Zj;refine Qd (Z8 (name:=Qn "__next__") hj.typeIs Jq (Yn Jq hj.typeIs Qei ?_ (Qea _)));show wpAny _ _ (field (.ref j) 0 >>= _) _ _ s;refine Qd (Yj e1 e3 (x :=.ref t) rfl ?_);show wpAny _ _ (if (Z3 t==Vb)=true then _ else _) _ _ s;rw [if_neg (fun z:(Z3 t==Vb)=true=>Zt z)];show wpAny _ _ (field (.ref j) 1 >>= _) _ _ s;refine Qd (Yj e1 e3 (x :=.int k 0) rfl ?_);show wpAny _ _ (seqItems? (.ref t) >>= _) _ _ s;refine Qd (V2 f1 f3 ?_);simp only [J9,hu];refine Qd (Qfl e1 e3 (by simp) (Qo ⟨u,rfl,Qo (q _ ?_ (Vz ..))⟩));exact ⟨_,Vn _ e1 (Qgx (Qcm e3 _)),(Qjr ..).trans e2,by rw [Qcm e3];simp [Qdr]⟩
def zain {j t:Addr}{k:Nat}{us:Array Value}{Q:Value->Ql->Prop} (hh:A.handled=none) (hj:s.heap.IsTupleIter j t k) (ht:s.heap.IsTuple t us) (hu:us[k]?=none)
 (q : ∀ h' e,Qle j s.heap h'->(∃ o,h'.get? e=some o/\o.cls = .type "StopIteration")->E (.ref e) { s with heap:=h' }):wpAny (model prog w) A (Zj (.ref j)) Q E s:=by
  obtain ⟨ob,e1,e2,e3⟩:=id hj;obtain ⟨ot,f1,_,nt,f3⟩:=ht;unfold Zj;refine Qd (Z8 (name:=Qn "__next__") hj.typeIs Jq (Yn Jq hj.typeIs Qei ?_ (Qea _)));show wpAny _ _ (field (.ref j) 0 >>= _) _ _ s;refine Qd (Yj e1 e3 (x :=.ref t) rfl ?_);show wpAny _ _ (if (Z3 t==Vb)=true then _ else _) _ _ s;rw [if_neg (fun z:(Z3 t==Vb)=true=>Zt z)];show wpAny _ _ (field (.ref j) 1 >>= _) _ _ s;refine Qd (Yj e1 e3 (x :=.int k 0) rfl ?_);show wpAny _ _ (seqItems? (.ref t) >>= _) _ _ s;refine Qd (V2 f1 f3 ?_);simp only [J9,hu];refine Qd (Qbh (Qd (Qfl e1 e3 (by simp) ?_)));show wpAny _ _ (newExc (.type "StopIteration") [] >>= _) _ _ _;refine Qd (?_:wpAny _ _ (newExc (.type "StopIteration") []) _ _ _);simp only [newExc,newTuple];refine Qd (Y3 (?_:_) (by size_fits));refine Qd (m:=firstArgMember _ _) (wpAny_of_eq (a:=Vb) (by first|rfl|(simp only [firstArgMember];rfl)|skip) ?_);refine Y3 (?_:_) (by size_fits);simp only [raiseNew];refine Qd (wpAny_handled (?_:_))
  first|rw [hh]|rw [show A.in1.handled=none from hh]
  refine Qd (Qo (wpAny_throw (?_:_)));exact q _ _ (((Vz ..).extBut.push _).push _) ⟨_,Qy _ rfl,rfl⟩
def qfg {b:Bool}{j l:Addr}{k:Nat}{us:Array Value}{u:Value}{Q:Value->Ql->Prop} (hj:SqIt b s.heap j l k) (hl:SqOf b s.heap l us) (hu:us[k]?=some u)
 (q : ∀ h',SqIt b h' j l (k+1)->Vv j s.heap h'->Q u { s with heap:=h' }):wpAny (model prog w) A (Zj (.ref j)) Q E s:=by
  cases b with
  | true=>exact zaea hj hl hu q
  | false=>exact wpAny_nextOf_list_item hj hl hu q
def qnh {b:Bool}{j l:Addr}{k:Nat}{us:Array Value}{Q:Value->Ql->Prop} (hh:A.handled=none) (hj:SqIt b s.heap j l k) (hl:SqOf b s.heap l us) (hu:us[k]?=none)
 (q : ∀ h' e,Qle j s.heap h'->(∃ o,h'.get? e=some o/\o.cls = .type "StopIteration")->E (.ref e) { s with heap:=h' }):wpAny (model prog w) A (Zj (.ref j)) Q E s:=by
  cases b with
  | true=>exact zain hh hj hl hu q
  | false=>exact wpAny_nextOf_list_end hh hj hl hu q
def qzu {b:Bool}{l:Addr}{us:Array Value}{Q:Value->Ql->Prop} (hl:SqOf b s.heap l us) (q:Q (.ref s.heap.objs.size) { s with heap:=s.heap.push (itO b l) }):wpAny (model prog w) A (pyIter (.ref l)) Q E s:=by
 cases b with
 | true=>exact Qfd hl q
 | false=>exact Qae hl q
def zaec {b c:Bool}{z TI TO j1 j2 l1 l2:Addr}{k1 k2:Nat}{us vs:Array Value}{u v x0 y0:Value}{Q:Value->Ql->Prop} (D:Qbv z TI TO j1 j2 l1 l2)
 (a0:IsZip s.heap z TI TO .none) (a1:V7 s.heap TI (.ref j1) (.ref j2)) (a2:V7 s.heap TO x0 y0)
 (e1:SqIt b s.heap j1 l1 k1) (e2:SqIt c s.heap j2 l2 k2) (g1:SqOf b s.heap l1 us) (g2:SqOf c s.heap l2 vs) (hu:us[k1]?=some u) (hv:vs[k2]?=some v)
 (q : ∀ h',IsZip h' z TI TO (Qdr s.heap.objs.size)->V7 h' TO u v->SqIt b h' j1 l1 (k1+1)->SqIt c h' j2 l2 (k2+1)->V7 h' s.heap.objs.size u v->h'.objs.size=s.heap.objs.size+1 ->
 (∀ a o,a≠z->a≠TO->a≠j1->a≠j2->s.heap.get? a=some o->h'.get? a=some o)->Q (.ref s.heap.objs.size) { s with heap:=h' }) :
  wpAny (model prog w) A (Builtin.«zip.__next__» ⟨[.ref z],[]⟩) (fun r s' => ∃ y,r = .done (.ret y)/\Q y s') E s:=by
  show wpAny _ _ (field (.ref z) 2 >>= _) _ _ _;refine Qd (Yj a0 rfl (x :=.bool false) rfl ?_);show wpAny _ _ (field (.ref z) 3 >>= _) _ _ _;refine Qd (Yj a0 rfl (x :=.ref TI) rfl ?_);refine Qd (V2 a1 rfl ?_);show wpAny _ _ (Zd (.ref z) >>= _) _ _ _;refine Qd (?_:wpAny _ _ (Zd (.ref z)) _ _ _);unfold Zd;refine Qd (Yj a0 rfl (x :=.none) rfl (Qo ?_));simp only [if_true];refine Qd (Qbh (?_:_));refine Qd (Yj a0 rfl (x :=.ref TO) rfl ?_);refine Qd (V4 a0 (by simp) fun p1 b0 m1=>?_);replace b0:IsZip p1 z TI TO .ellipsis:=b0
  refine Qd (?_:_);simp only [Qkl,Qlf,Qej,Qdm];refine Qd (Qd (Qgf (?_:_)));show wpAny _ _ (Zj (.ref j1) >>= _) _ _ _;refine Qd (qfg (e1.but m1 D.i1z) (g1.but m1 D.l1z) hu fun p2 f1 m2=>Qo ?_);have c2:V7 p2 TO x0 y0:=m2.extBut _ _ D.TOi1 (m1.extBut _ _ D.TOz a2);refine Qd (V2 c2 rfl ?_);refine Qd (Qdz c2 fun p3 c3 m3=>?_);replace c3:V7 p3 TO u y0:=c3
  refine Qd (Qim (Qo (?_:_)));refine Qd (Qd (Qgf (?_:_)));show wpAny _ _ (Zj (.ref j2) >>= _) _ _ _;refine Qd (qfg (((e2.but m1 D.i2z).but m2 D.i12.symm).but m3 D.TOi2.symm) (((g2.but m1 D.l2z).but m2 D.l2i1).but m3 D.l2TO) hv fun p4 f2 m4=>Qo ?_);have c4:V7 p4 TO u y0:=m4.extBut _ _ D.TOi2 c3;refine Qd (V2 c4 rfl ?_);refine Qd (Qdz c4 fun p5 c5 m5=>?_);replace c5:V7 p5 TO u v:=c5
  refine Qd (Qim (Qo (Qo (?_:_))));refine Qd (V2 c5 rfl ?_);refine Qd (Qfk (?_:_));have sz:p5.objs.size=s.heap.objs.size:=by rw [m5.1,m4.1,m3.1,m2.1,m1.1]
  have b5:IsZip p5 z TI TO .ellipsis:=m5.extBut _ _ D.TOz.symm (m4.extBut _ _ D.i2z.symm (m3.extBut _ _ D.TOz.symm (m2.extBut _ _ D.i1z.symm b0)));have k5 : ∀ a o,a≠z->a≠TO->a≠j1->a≠j2->s.heap.get? a=some o->p5.get? a=some o:=fun a o n1 n2 n3 n4 e =>
   m5.extBut _ _ n2 (m4.extBut _ _ n4 (m3.extBut _ _ n2 (m2.extBut _ _ n3 (m1.extBut _ _ n1 e))))
  have f5:SqIt b p5 j1 l1 (k1+1):=((f1.but m3 D.TOi1.symm).but m4 D.i12).but m5 D.TOi1.symm;have f6:SqIt c p5 j2 l2 (k2+1):=f2.but m5 D.TOi2.symm;have zlt:z<p5.objs.size:=Qp b5;show wpAny _ _ (Jf (.ref z) (.ref p5.objs.size) >>= _) _ _ _;refine Qd (?_:wpAny _ _ (Jf (.ref z) (.ref p5.objs.size)) _ _ _);unfold Jf;have b6:IsZip (p5.push { cls :=.type "tuple",data :=.seq #[u,v] }) z TI TO .ellipsis:=Qf _ b5;refine Qd (V4 b6 (by simp) fun p7 b7 m7=>?_);replace b7:IsZip p7 z TI TO (Qdr p5.objs.size):=b7
  refine V4 b7 (by simp) fun p8 b8 m8=>?_;replace b8:IsZip p8 z TI TO (Qdr p5.objs.size):=b8
  have up : ∀ a o,a≠z->p5.get? a=some o->p8.get? a=some o:=fun a o n e=>m8.extBut _ _ n (m7.extBut _ _ n (Qf _ e));have t8:V7 p8 p5.objs.size u v:=m8.extBut _ _ (Yv zlt) (m7.extBut _ _ (Yv zlt) (Qy _ rfl));have z8:p8.objs.size=p5.objs.size+1:=by rw [m8.1,m7.1,Yz]
  rw [sz] at b8 t8 z8;refine Qo ⟨_,rfl,(?_:Q (.ref p5.objs.size) _)⟩;rw [sz];exact q p8 b8 (up _ _ D.TOz c5) (f5.at' fun o e=>up _ o D.i1z e) (f6.at' fun o e=>up _ o D.i2z e) t8 z8 fun a o n1 n2 n3 n4 e=>up a o n1 (k5 a o n1 n2 n3 n4 e)
def zaki {b c:Bool}{z TI TO j1 j2 l1 l2:Addr}{k1 k2:Nat}{us vs:Array Value}{x0 y0:Value}{Q:Fin->Ql->Prop} (hh:A.handled=none) (D:Qbv z TI TO j1 j2 l1 l2)
 (a0:IsZip s.heap z TI TO .none) (a1:V7 s.heap TI (.ref j1) (.ref j2)) (a2:V7 s.heap TO x0 y0)
 (e1:SqIt b s.heap j1 l1 k1) (e2:SqIt c s.heap j2 l2 k2) (g1:SqOf b s.heap l1 us) (g2:SqOf c s.heap l2 vs) (hend:us[k1]?=none\/vs[k2]?=none)
 (q : ∀ h' e,(∀ a o,a≠z->a≠TO->a≠j1->a≠j2->s.heap.get? a=some o->h'.get? a=some o)->(∃ o,h'.get? e=some o/\o.cls = .type "StopIteration")->E (.ref e) { s with heap:=h' }) :
  wpAny (model prog w) A (Builtin.«zip.__next__» ⟨[.ref z],[]⟩) Q E s:=by
  show wpAny _ _ (field (.ref z) 2 >>= _) _ _ _;refine Qd (Yj a0 rfl (x :=.bool false) rfl ?_);show wpAny _ _ (field (.ref z) 3 >>= _) _ _ _;refine Qd (Yj a0 rfl (x :=.ref TI) rfl ?_);refine Qd (V2 a1 rfl ?_);show wpAny _ _ (Zd (.ref z) >>= _) _ _ _;refine Qd (?_:wpAny _ _ (Zd (.ref z)) _ _ _);unfold Zd;refine Qd (Yj a0 rfl (x :=.none) rfl (Qo ?_));simp only [if_true];refine Qd (Qbh (?_:_));refine Qd (Yj a0 rfl (x :=.ref TO) rfl ?_);refine Qd (V4 a0 (by simp) fun p1 b0 m1=>?_);replace b0:IsZip p1 z TI TO .ellipsis:=b0
  refine Qd (?_:_);simp only [Qkl,Qlf,Qej,Qdm];refine Qd (Qd (Qgf (?_:_)));show wpAny _ _ (Zj (.ref j1) >>= _) _ _ _;cases hu:us[k1]? with
  | none =>
   refine Qd (qnh hh (e1.but m1 D.i1z) (g1.but m1 D.l1z) hu fun p2 e m2 he=>?_);obtain ⟨oe,h3,h4⟩:=he;have b2:IsZip p2 z TI TO .ellipsis:=m2 _ _ D.i1z.symm b0;have nz:e≠z:=fun x=>by subst x;rw [b2] at h3;cases h3;simp at h4
   exact V4 b2 (by simp) fun p3 _ m3=>q p3 e (fun a o n1 _ n3 _ x=>m3.extBut _ _ n1 (m2 _ _ n3 (m1.extBut _ _ n1 x))) ⟨oe,m3.extBut _ _ nz h3,h4⟩
  | some u =>
   have hv:vs[k2]?=none:=by
    rcases hend with h|h
    ·rw [hu] at h;cases h
    ·exact h
   refine Qd (qfg (e1.but m1 D.i1z) (g1.but m1 D.l1z) hu fun p2 f1 m2=>Qo ?_);have c2:V7 p2 TO x0 y0:=m2.extBut _ _ D.TOi1 (m1.extBut _ _ D.TOz a2);refine Qd (V2 c2 rfl ?_);refine Qd (Qdz c2 fun p3 c3 m3=>?_);refine Qd (Qim (Qo (?_:_)));refine Qd (Qd (Qgf (?_:_)));show wpAny _ _ (Zj (.ref j2) >>= _) _ _ _;refine Qd (qnh hh (((e2.but m1 D.i2z).but m2 D.i12.symm).but m3 D.TOi2.symm) (((g2.but m1 D.l2z).but m2 D.l2i1).but m3 D.l2TO) hv fun p4 e m4 he=>?_);obtain ⟨oe,h3,h4⟩:=he;have b4:IsZip p4 z TI TO .ellipsis:=m4 _ _ D.i2z.symm (m3.extBut _ _ D.TOz.symm (m2.extBut _ _ D.i1z.symm b0));have nz:e≠z:=fun x=>by subst x;rw [b4] at h3;cases h3;simp at h4
   exact V4 b4 (by simp) fun p5 _ m5=>q p5 e (fun a o n1 n2 n3 n4 x=>m5.extBut _ _ n1 (m4 _ _ n4 (m3.extBut _ _ n2 (m2.extBut _ _ n3 (m1.extBut _ _ n1 x))))) ⟨oe,m5.extBut _ _ nz h3,h4⟩
def quy {b c:Bool}{z TI TO j1 j2 l1 l2:Addr}{k1 k2:Nat}{us vs:Array Value}{u v x0 y0:Value}{Q:Option Value->Ql->Prop} (D:Qbv z TI TO j1 j2 l1 l2)
 (a0:IsZip s.heap z TI TO .none) (a1:V7 s.heap TI (.ref j1) (.ref j2)) (a2:V7 s.heap TO x0 y0)
 (e1:SqIt b s.heap j1 l1 k1) (e2:SqIt c s.heap j2 l2 k2) (g1:SqOf b s.heap l1 us) (g2:SqOf c s.heap l2 vs) (hu:us[k1]?=some u) (hv:vs[k2]?=some v)
 (q : ∀ h',IsZip h' z TI TO (Qdr s.heap.objs.size)->V7 h' TO u v->SqIt b h' j1 l1 (k1+1)->SqIt c h' j2 l2 (k2+1)->V7 h' s.heap.objs.size u v->h'.objs.size=s.heap.objs.size+1 ->
 (∀ a o,a≠z->a≠TO->a≠j1->a≠j2->s.heap.get? a=some o->h'.get? a=some o)->Q (some (.ref s.heap.objs.size)) { s with heap:=h' }) :
  wpAny (model prog w) A (Qcw (.ref z)) Q E s:=by
  have ty:s.TypeIs (.ref z) "zip":=⟨_,a0,rfl⟩
  unfold Qcw;exact Qd (Qbg (Z8 (name:=Qn "__next__") ty Jl (Yn Jl ty Qds
   (zaec D a0 a1 a2 e1 e2 g1 g2 hu hv fun h' r1 r2 r3 r4 r5 r6 r7=>Qo (q h' r1 r2 r3 r4 r5 r6 r7)) (Qde _))))
def qyc {b c:Bool}{z TI TO j1 j2 l1 l2:Addr}{k1 k2:Nat}{us vs:Array Value}{x0 y0:Value}{Q:Option Value->Ql->Prop} (hh:A.handled=none) (D:Qbv z TI TO j1 j2 l1 l2)
 (a0:IsZip s.heap z TI TO .none) (a1:V7 s.heap TI (.ref j1) (.ref j2)) (a2:V7 s.heap TO x0 y0)
 (e1:SqIt b s.heap j1 l1 k1) (e2:SqIt c s.heap j2 l2 k2) (g1:SqOf b s.heap l1 us) (g2:SqOf c s.heap l2 vs) (hend:us[k1]?=none\/vs[k2]?=none)
 (q : ∀ h',(∀ a o,a≠z->a≠TO->a≠j1->a≠j2->s.heap.get? a=some o->h'.get? a=some o)->Q none { s with heap:=h' }):wpAny (model prog w) A (Qcw (.ref z)) Q E s:=by
  have ty:s.TypeIs (.ref z) "zip":=⟨_,a0,rfl⟩
  unfold Qcw;refine Qd (Qbg (Z8 (name:=Qn "__next__") ty Jl (Yn Jl ty Qds (zaki hh D a0 a1 a2 e1 e2 g1 g2 hend fun h' e hk he=>?_) (Qde _))));obtain ⟨o,ho,hc⟩:=he;exact Qd (Qgn (T := "StopIteration") (b:=true) ⟨o,ho,hc⟩ Qid (Qo (q _ hk)))
abbrev zh1 (b:Bool) (h:Heap) (l:Addr):Heap:=h.push (itO b l)
abbrev zh2 (b c:Bool) (h:Heap) (l1 l2:Addr):Heap:=(zh1 b h l1).push (itO c l2)
abbrev zh3 (b c:Bool) (h:Heap) (l1 l2:Addr):Heap:=(zh2 b c h l1 l2).push { cls :=.type "tuple",data :=.seq #[.ref h.objs.size,.ref (zh1 b h l1).objs.size] }
abbrev zh4 (b c:Bool) (h:Heap) (l1 l2:Addr):Heap:=(zh3 b c h l1 l2).push { cls :=.type "tuple",data :=.seq #[.none,.none] }
abbrev zh5 (b c:Bool) (h:Heap) (l1 l2:Addr):Heap:=(zh4 b c h l1 l2).push { cls :=.type "zip",data :=.fields #[.none,.bool false,.bool false,.ref (zh2 b c h l1 l2).objs.size,.ref (zh3 b c h l1 l2).objs.size] }
def zaoh (b c:Bool) (l1 l2:Addr) (us vs:Array Value):Meets (Builtin.«zip.__new__» ⟨[.type "zip",.ref l1,.ref l2],[]⟩)
 (fun _ R s=>SqOf b s.heap l1 us/\SqOf c s.heap l2 vs/\R (.ok (.ret (.ref (zh4 b c s.heap l1 l2).objs.size))) { s with heap:=zh5 b c s.heap l1 l2 }) :=
  .of_wp fun prog w A R s h=>by
   obtain ⟨hp,g,d,tk,os⟩:=s;obtain ⟨g1,g2,h⟩:=h;have hsub:=sub_zip;have y1:SqOf b (Qmt ⟨hp,g,d,tk,os⟩) l1 us:=g1;have y2:SqOf c (Qmt ⟨hp.push (itO b l1),g,d,tk,os⟩) l2 vs:=SqOf.at' g2 fun o e=>Qf _ e
   wp_walk using qzu y1,qzu y2
   exact ⟨_,rfl,h⟩
def qzn {b c:Bool}{l1 l2:Addr}{us vs:Array Value}{Q:Value->Ql->Prop} (g1:SqOf b s.heap l1 us) (g2:SqOf c s.heap l2 vs)
 (q : ∀ h',IsZip h' (s.heap.objs.size+4) (s.heap.objs.size+2) (s.heap.objs.size+3) .none->V7 h' (s.heap.objs.size+2) (.ref s.heap.objs.size) (.ref (s.heap.objs.size+1)) ->
 V7 h' (s.heap.objs.size+3) .none .none->SqIt b h' s.heap.objs.size l1 0->SqIt c h' (s.heap.objs.size+1) l2 0->(∀ a o,s.heap.get? a=some o->h'.get? a=some o)->Q (.ref (s.heap.objs.size+4)) { s with heap:=h' }) :
  wpAny (model prog w) A (call (.type "zip") [.ref l1,.ref l2]) Q E s:=by
  refine callType_new F.called_zip (by decide) (F.typeCall_zip_2 _ _) (F.newCall_zip_2 _ _) (fun ob=>F.args_object_init_3 ob _ _) F.entry_zip_new (zaoh b c l1 l2 us vs) ⟨g1,g2,?_⟩;have n1:(zh1 b s.heap l1).objs.size=s.heap.objs.size+1:=Yz ..;have n2:(zh2 b c s.heap l1 l2).objs.size=s.heap.objs.size+2:=by rw [Yz,n1]
  have n3:(zh3 b c s.heap l1 l2).objs.size=s.heap.objs.size+3:=by rw [Yz,n2]
  have n4:(zh4 b c s.heap l1 l2).objs.size=s.heap.objs.size+4:=by rw [Yz,n3]
  have r5:(zh5 b c s.heap l1 l2).get? (zh4 b c s.heap l1 l2).objs.size=some _:=Qy _ rfl;have r4:(zh5 b c s.heap l1 l2).get? (zh3 b c s.heap l1 l2).objs.size=some _:=Qf _ (Qy _ rfl);have r3:(zh5 b c s.heap l1 l2).get? (zh2 b c s.heap l1 l2).objs.size=some _:=Qf _ (Qf _ (Qy _ rfl));have r2:(zh5 b c s.heap l1 l2).get? (zh1 b s.heap l1).objs.size=some (itO c l2):=Qf _ (Qf _ (Qf _ (Qy _ rfl)));have r1:(zh5 b c s.heap l1 l2).get? s.heap.objs.size=some (itO b l1):=Qf _ (Qf _ (Qf _ (Qf _ (Qy _ rfl))));show _/\_;rw [n2,n3,n4] at r5;rw [n1,n2] at r3;rw [n3] at r4;rw [n1] at r2;rw [n4];have si : ∀ {b:Bool}{h:Heap}{a l:Addr},h.get? a=some (itO b l)->SqIt b h a l 0:=fun {b}{h}{a}{l} e=>by
   cases b with
   | true=>exact ⟨_,e,rfl,rfl⟩
   | false=>exact ⟨_,e,rfl,rfl⟩
  exact ⟨⟨_,r5,rfl⟩,q _ r5 r3 r4 (si r1) (si r2) fun a o x=>Qf _ (Qf _ (Qf _ (Qf _ (Qf _ x))))⟩
end
end
section
def SqX (b:Bool) (K:Qe) (H:Hp) (a:Addr) (xs:List V):Prop:=match b with
 | true=>SqT K H a xs
 | false=>SqL K H a xs
section
variable {X:Cx}{pins:List (Addr×Obj)}{σ:St}{H:Hp}{s:Ql}{b:Bool}{a:Addr}{xs ys:List V}
def Inv.sqx (I:Inv X pins σ H s) (h:SqX b X.K H a xs) : ∃ its:List Value,Vals xs its/\SqOf b s.heap a its.toArray:=by
 cases b with
 | true =>
  obtain ⟨its,r,p,_⟩:=I.tuple h;obtain ⟨o,ho,hc,n,hd⟩:=p;exact ⟨its,r,o,ho,hc,n,hd⟩
 | false =>
  obtain ⟨its,r,p,_⟩:=I.list h;exact ⟨its,r,p.isList⟩
def Inv.sqx_inj (I:Inv X pins σ H s) (h:SqX b X.K H a xs) (h':SqX b X.K H a ys):xs=ys:=by
 cases b with
 | true=>exact I.tuple_inj h h'
 | false=>exact I.list_inj h h'
end
def Itz (K:Qe) (b c:Bool) (l m:Addr):It :=
 ⟨fun i H => ∃ xs ys x y,SqX b K H l xs/\SqX c K H m ys/\xs[i]?=some x/\ys[i]?=some y,fun i H v H' => ∃ p x y,(∀ xs,SqX b K H l xs->xs[i]?=some x)/\(∀ ys,SqX c K H m ys->ys[i]?=some y)/\H p=none/\v = .ref p/\H'=upd H p (.tup [x,y]),
  fun i H => ∃ xs ys,SqX b K H l xs/\SqX c K H m ys/\(xs.length<=i\/ys.length<=i)⟩
def zadk {P:Zo}{w:World}{K:Qe}{elts:List Expr}{x1:Nat}{tpos:Pos}{b c:Bool} (z TI TO j1 j2 l m:Addr) (D:Qbv z TI TO j1 j2 l m) :
 Turn P w K (.Tuple elts x1 tpos) (Itz K b c l m) [z,TI,TO,j1,j2] z (fun i h=>IsZip h z TI TO .none/\V7 h TI (.ref j1) (.ref j2)/\(∃ x0 y0,V7 h TO x0 y0)/\SqIt b h j1 l i/\SqIt c h j2 m i) where
  mem:=by simp
  obj:=fun i h st a ha=>by
   obtain ⟨s0,s1,⟨x0,y0,s2⟩,s3,s4⟩:=st;simp only [Q3,Qbs,or_false] at ha;rcases ha with rfl|rfl|rfl|rfl|rfl
   ·exact ⟨_,s0,fun v z=>by have z':Qlb _=Qiq v:=z;cases z'⟩
   ·exact ⟨_,s1,fun v z=>by have z':Qmw _ _=Qiq v:=z;cases z'⟩
   ·exact ⟨_,s2,fun v z=>by have z':Qmw _ _=Qiq v:=z;cases z'⟩
   ·exact s3.obj
   ·exact s4.obj
  keep:=fun i h h' st k=>by
   obtain ⟨s0,s1,⟨x0,y0,s2⟩,s3,s4⟩:=st;exact ⟨k z (by simp) _ s0,k TI (by simp) _ s1,⟨x0,y0,k TO (by simp) _ s2⟩,s3.at' fun o q=>k j1 (by simp) o q,s4.at' fun o q=>k j2 (by simp) o q⟩
  item:=by
   intro X hP hw hK hc i pins s σ H E I hf st hg;subst hP hw hK;obtain ⟨xs,ys,x,y,hq,hq',hx,hy⟩:=hg;obtain ⟨us,rv,p1⟩:=I.sqx hq;obtain ⟨vs,rw',p2⟩:=I.sqx hq';obtain ⟨u,hu,ru⟩:=rv.get hx;obtain ⟨v,hv,rv'⟩:=rw'.get hy;obtain ⟨s0,s1,⟨x0,y0,s2⟩,s3,s4⟩:=st;obtain ⟨z0,z1,z2,z3,z4,z5⟩:=hf z (by simp);obtain ⟨o0,o1,o2,o3,o4,o5⟩:=hf TO (by simp);obtain ⟨f0,f1,f2,f3,f4,f5⟩:=hf j1 (by simp);obtain ⟨g0,g1,g2,g3,g4,g5⟩:=hf j2 (by simp);have zlt:z<s.heap.objs.size:=Qp s0;refine quy D s0 s1 s2 s3 s4 p1 p2 (u:=u) (v:=v) (by simpa using hu) (by simpa using hv) fun h₁ a0 a2 a3 a4 ht hz₁ hk=>⟨_,rfl,?_⟩
   refine wpAny_letOwnedTupleGo_zip (s:={ s with heap:=h₁ }) a0 fun h₂ he₂ hs₂=>?_;replace hs₂:Vv z h₁ h₂:=hs₂
   have fresh:H s.heap.objs.size=none:=I.hok.fresh (Qz _);have kk : ∀ a o,a≠z->a≠TO->a≠j1->a≠j2->s.heap.get? a=some o->h₂.get? a=some o:=fun a o b1 b2 b3 b4 q=>hs₂.extBut a o b1 (hk a o b1 b2 b3 b4 q);have kc : ∀ a o,a ∉ [z,TO,j1,j2]->s.heap.get? a=some o->h₂.get? a=some o:=fun a o hc q=>kk a o (fun z=>hc (by simp [z])) (fun z=>hc (by simp [z])) (fun z=>hc (by simp [z])) (fun z=>hc (by simp [z])) q;have nb : ∀ a o v,s.heap.get? a=some o->H a=some v->h₂.get? a=some o:=fun a o v e q=>kk a o (fun n=>by rw [n,z0] at q;cases q) (fun n=>by rw [n,o0] at q;cases q) (fun n=>by rw [n,f0] at q;cases q) (fun n=>by rw [n,g0] at q;cases q) e;have ht₂:h₂.get? s.heap.objs.size=some { cls :=.type "tuple",data :=.seq #[u,v] }:=(hs₂.2 _ (Yv zlt)).trans ht;have I1:Inv X pins σ (upd H s.heap.objs.size (.tup [x,y])) { s with heap:=h₂ }:=by
    refine I.step (t':=s.toks) (g':=s.gens) (d':=s.drawn) (ch:=[z,TO,j1,j2]) (fun a ha=>?_) (fun a o _ _ hc q _=>kc a o hc q)
     (fun a o _ _ hc q _=>⟨o.slots,kc a o hc q⟩) (fun a o _ q n=>by rw [qj (Qq (Qp q))];exact n)
     (fun a o hc q=>⟨o,kc a o hc q⟩) (fun a ys q=>by rw [qj (qv q fresh)];exact q) (fun a o v q=>by rw [qj (qv q fresh)];exact q)
     (fun a ps q=>⟨#[],by rw [qj (qv q fresh),q];simp,.nil⟩) (fun m hm=>?_) (fun a v' q=>?_) I.bare
    ·simp only [Q3,Qbs,or_false] at ha;rcases ha with rfl|rfl|rfl|rfl
     ·exact ⟨z3,z1,z4,z5⟩
     ·exact ⟨o3,o1,o4,o5⟩
     ·exact ⟨f3,f1,f4,f5⟩
     ·exact ⟨g3,g1,g4,g5⟩
    ·obtain ⟨o,es,ep,ho',r⟩:=hm;exact ⟨o,es,ep,kk _ o (Yb z1) (Yb o1) (Yb f1) (Yb g1) ho',r⟩
    ·by_cases hb:a=s.heap.objs.size
     ·subst hb;rw [ql] at q;cases q;exact ⟨(by show 2<=Q9;decide),[u,v],.cons ru (.cons rv' .nil),⟨_,ht₂,rfl,_,rfl⟩⟩
     ·rw [qj hb] at q;refine (I.hok a v' q).stay (fun d ob hd e=>?_) (fun d e=>by rw [qj (qv e fresh)];exact e) fun d ws e=>by rw [qj (qv e fresh)];exact e
      rcases hd with hd|hd
      ·subst hd;exact nb _ _ _ e q
      ·exact nb _ _ _ e hd
   refine ⟨.ref s.heap.objs.size,_,I1,rfl,⟨s.heap.objs.size,x,y,fun ws hw=>by rw [I.sqx_inj hw hq];exact hx,fun ws hw=>by rw [I.sqx_inj hw hq'];exact hy,fresh,rfl,rfl⟩,⟨he₂,?_,⟨u,v,?_⟩,?_,?_⟩,fun a ha=>?_⟩
   ·exact hs₂.extBut _ _ D.TIz (hk _ _ D.TIz D.TITO D.TIi1 D.TIi2 s1)
   ·exact hs₂.extBut _ _ D.TOz a2
   ·exact a3.but hs₂ D.i1z
   ·exact a4.but hs₂ D.i2z
   ·have hlt:a<s.heap.objs.size:=by
     simp only [Q3,Qbs,or_false] at ha;rcases ha with rfl|rfl|rfl|rfl|rfl
     ·exact zlt
     ·exact Qp s1
     ·exact Qp s2
     ·obtain ⟨o,q,_⟩:=s3.obj;exact Qp q
     ·obtain ⟨o,q,_⟩:=s4.obj;exact Qp q
    rw [qj (Qq hlt)];exact (hf a ha).1
  done:=by
   intro X hP hw hK hc i pins s σ H E I hf st hg;subst hP hw hK;obtain ⟨xs,ys,hq,hq',hx⟩:=hg;obtain ⟨us,rv,p1⟩:=I.sqx hq;obtain ⟨vs,rw',p2⟩:=I.sqx hq';obtain ⟨s0,s1,⟨x0,y0,s2⟩,s3,s4⟩:=st;obtain ⟨z0,z1,z2,z3,z4,z5⟩:=hf z (by simp);obtain ⟨o0,o1,o2,o3,o4,o5⟩:=hf TO (by simp);obtain ⟨f0,f1,f2,f3,f4,f5⟩:=hf j1 (by simp);obtain ⟨g0,g1,g2,g3,g4,g5⟩:=hf j2 (by simp);have l1:=rv.length;have l2:=rw'.length;refine qyc (I.ok.hd hc) D s0 s1 s2 s3 s4 p1 p2 (by rcases hx with hx|hx;exact .inl (by simp;omega);exact .inr (by simp;omega)) fun h' hk=>⟨rfl,?_⟩
   have kc : ∀ a o,a ∉ [z,TO,j1,j2]->s.heap.get? a=some o->h'.get? a=some o:=fun a o hc q=>hk a o (fun z=>hc (by simp [z])) (fun z=>hc (by simp [z])) (fun z=>hc (by simp [z])) (fun z=>hc (by simp [z])) q;have nb : ∀ a o v,s.heap.get? a=some o->H a=some v->h'.get? a=some o:=fun a o v e q=>hk a o (fun n=>by rw [n,z0] at q;cases q) (fun n=>by rw [n,o0] at q;cases q) (fun n=>by rw [n,f0] at q;cases q) (fun n=>by rw [n,g0] at q;cases q) e;refine I.step (t':=s.toks) (g':=s.gens) (d':=s.drawn) (ch:=[z,TO,j1,j2]) (fun a ha=>?_) (fun a o _ _ hc q _=>kc a o hc q)
    (fun a o _ _ hc q _=>⟨o.slots,kc a o hc q⟩) (fun a o _ q n=>n) (fun a o hc q=>⟨o,kc a o hc q⟩) (fun a ys q=>q) (fun a o v q=>q) (fun a ps q=>⟨#[],by rw [q];simp,.nil⟩) (fun m hm=>?_) (fun a v' q=>?_) I.bare
   ·simp only [Q3,Qbs,or_false] at ha;rcases ha with rfl|rfl|rfl|rfl
    ·exact ⟨z3,z1,z4,z5⟩
    ·exact ⟨o3,o1,o4,o5⟩
    ·exact ⟨f3,f1,f4,f5⟩
    ·exact ⟨g3,g1,g4,g5⟩
   ·obtain ⟨o,es,ep,ho',r⟩:=hm;exact ⟨o,es,ep,hk _ o (Yb z1) (Yb o1) (Yb f1) (Yb g1) ho',r⟩
   ·refine (I.hok a v' q).stay (fun d ob hd e=>?_) (fun d e=>e) fun d ws e=>e;rcases hd with hd|hd
    ·subst hd;exact nb _ _ _ e q
    ·exact nb _ _ _ e hd
  self:=fun A i s Q E st h=>Qgo st.1 h
def qvf:Z0 "zip" = some (.type "zip"):=by decide +kernel
section
variable {X:Cx}{elts:List Expr}{x1:Nat}{tpos:Pos}
def iZip (K:Qe) (ta:TA):TI:=fun σ H R=>ta σ H fun vs H1 => ∃ b c l m,vs=[.ref l,.ref m]/\(∃ xs,SqX b K H1 l xs)/\(∃ ys,SqX c K H1 m ys)/\R (Itz K b c l m) H1
def zanz {a b:Expr}{ta:TA}{p pos:Pos} (hg:Gl X "zip") (hm:X.mg "zip" = none) (ha:PA X [a,b] ta) (hs:Qu [a,b] X.env=[(false,eval a X.env),(false,eval b X.env)]:=by rfl) (hs2:Qu [b] X.env=[(false,eval b X.env)]:=by rfl) :
 PI X (.Tuple elts x1 tpos) (.Call (.Name "zip" p) [a,b] [] pos) (iZip X.K ta):=by
 intro pins s σ H R I h;refine Call_ (qgj I hg hm qvf (Vq (thn (ha pos pins s σ H _ I h) fun us s1 xx167=>?_) (by rw [hs,hs2]) (by rw [hs2];rfl)));obtain ⟨vs,H1,I1,r1,q1⟩:=xx167;obtain ⟨kb,kc,l,m,e,⟨xs,hq⟩,⟨ys,hq'⟩,q⟩:=q1;subst e;cases r1 with
 | cons r rr =>
  cases rr with
  | cons r' rr =>
   cases rr;cases r;cases r';obtain ⟨its,rv,pl⟩:=I1.sqx hq;obtain ⟨its',rv',pl'⟩:=I1.sqx hq';refine qzn pl pl' fun h' a0 a1 a2 a3 a4 hk=>?_;refine Qgo a0 ?_;have I2:Inv X pins σ H1 { s1 with heap:=h' }:=I1.kept (t':=s1.toks) hk;refine ⟨s1.heap.objs.size+4,[s1.heap.objs.size+4,s1.heap.objs.size+2,s1.heap.objs.size+3,s1.heap.objs.size,s1.heap.objs.size+1],_,_,H1,rfl,I2,zadk (b:=kb) (c:=kc) _ _ _ _ _ l m (zipApart_new pl.lt pl'.lt),⟨a0,a1,⟨_,_,a2⟩,a3,a4⟩,fun b hb=>?_,q⟩;have hle:s1.heap.objs.size<=b:=by
    simp only [Q3,Qbs,or_false] at hb;rcases hb with rfl|rfl|rfl|rfl|rfl
    ·exact Jr _ 4
    ·exact Jr _ 2
    ·exact Jr _ 3
    ·exact Qz _
    ·exact Jr _ 1
   exact I1.fpOk hle (I1.hok.fresh hle)
end
def qrp (l m:List Qi):List Qi:=(l.zip m).map fun p => .tuple [p.1,p.2]
def qfa (l m:List Qi):(qrp l m).length=min l.length m.length:=by simp [qrp]
def qnw {l m:List Qi}{i:Nat}{x y:Qi} (h1:l[i]?=some x) (h2:m[i]?=some y):(qrp l m)[i]?=some (.tuple [x,y]):=by
 unfold qrp;rw [Qc,Yq (z:=(x,y)) |>.mpr ⟨h1,h2⟩];rfl
def qum {l m:List Qi}{i:Nat}{d:Qi} (h:(qrp l m)[i]?=some d) : ∃ x y,l[i]?=some x/\m[i]?=some y/\d = .tuple [x,y]:=by
 have hi:=(Qg.mp h).1;rw [qfa] at hi;have h1:i<l.length:=by omega
 have h2:i<m.length:=by omega
 have e:=qnw (Qa h1) (Qa h2);rw [h] at e;exact ⟨_,_,Qa h1,Qa h2,Qx e⟩
def qbf {b:Bool}{K:Qe}{F H:Hp}{a:Addr}{xs:List V} (s:Same F H) (h:SqX b K F a xs):SqX b K H a xs:=by
 cases b with
 | true=>exact qM s h
 | false=>exact s.seq h
def zajb {b c:Bool}{K:Qe}{F:Hp}{a a':Addr}{xs ys:List V}{l m:List Qi} (hs:SqX b K F a xs) (hr:Iss K F l xs) (hs':SqX c K F a' ys) (hr':Iss K F m ys):ItD K (Itz K b c a a') F (qrp l m) where
 go:=fun i H s hi=>by
  rw [qfa] at hi;exact ⟨xs,ys,xs[i]'(by rw [hr.len];omega),ys[i]'(by rw [hr'.len];omega),qbf s hs,qbf s hs',Qa _,Qa _⟩
 stop:=fun H s=>by
  rw [qfa];refine ⟨xs,ys,qbf s hs,qbf s hs',?_⟩;rw [hr.len,hr'.len];omega
 yld:=fun i H x H' F1 s1 s2 hi hy=>by
  obtain ⟨p,y,y',hy,hy',hp,rfl,rfl⟩:=hy;obtain ⟨d,e1,e2⟩:=hr.get' (hy xs (qbf (s1.trans s2) hs));obtain ⟨d',e1',e2'⟩:=hr'.get' (hy' ys (qbf (s1.trans s2) hs'));have g:=Go.put (o:=HO.tup [y,y']) s2 hp;exact ⟨_,_,qnw e1 e1',g,qjg (SqT.of ql) (qI ((e2.mono s1).mono g.f) (qI ((e2'.mono s1).mono g.f) qZ))⟩
def qsv {K:Qe}{F:Hp}{d:Qi}{l:List Qi}{v:V} (e:qcs d=some l) (i:Is K F d v) : ∃ b a xs,v = .ref a/\SqX b K F a xs/\Iss K F l xs:=by
 cases d with
 | list m=>cases e;obtain ⟨a,xs,rfl,hs,hr⟩:=i.lst_inv;exact ⟨false,a,xs,rfl,hs,hr⟩
 | tuple m=>cases e;obtain ⟨a,xs,rfl,hs,hr⟩:=i.tup_inv;exact ⟨true,a,xs,rfl,hs,hr⟩
 | _=>cases e
section
variable {X:Cx}{a b:Expr}{p pos:Pos}{elts:List Expr}{x1:Nat}{tpos:Pos}
def zaqo (Wa Wb:WE):WF:=fun env Q=>Wa env fun x e1=>Wb e1 fun y e=>(qcs x).elim False fun l=>(qcs y).elim False fun m=>Q (qrp l m) e
def qya {Wa Wb:WE} (hm:X.mg "zip" = none) (ha:VE X a Wa) (hb:VE X b Wb) (hg:Gl X "zip":=by rfl) (hs:Qu [a,b] X.env=[(false,eval a X.env),(false,eval b X.env)]:=by rfl) (hs2:Qu [b] X.env=[(false,eval b X.env)]:=by rfl)
 (hs3:Qu [a,b] X.env=(false,eval a X.env)::Qu [b] X.env:=by rfl) (hs4:Qu [b] X.env=(false,eval b X.env)::Qu [] X.env:=by rfl):VI X (.Tuple elts x1 tpos) (.Call (.Name "zip" p) [a,b] [] pos) (zaqo Wa Wb) :=
 (zanz hg hm (qV ha (qV hb qcq hs4) hs3) hs hs2).imp fun σ H R xx168=>by
  obtain ⟨M,env,F,Q,I,h,k⟩:=xx168;refine ⟨M,env,F,_,I,h,fun d v F1 H1 e1 I1 s1 i1 h1=>⟨M,e1,F1,_,I1,h1,fun d2 v2 F2 H2 e2 I2 s2 i2 h2=>?_⟩⟩;cases q1:qcs d with
  | none=>rw [q1] at h2;exact h2.elim
  | some l =>
   cases q2:qcs d2 with
   | none=>rw [q1,q2] at h2;exact h2.elim
   | some m =>
    rw [q1,q2] at h2;obtain ⟨kb,a1,xs,rfl,z1,z2⟩:=qsv q1 (i1.mono s2);obtain ⟨kc,a2,ys,rfl,z3,z4⟩:=qsv q2 i2;exact ⟨kb,kc,a1,a2,rfl,⟨xs,qbf I2.fh z1⟩,⟨ys,qbf I2.fh z3⟩,k _ _ F2 H2 e2 I2 (s1.trans s2) (zajb z1 z2 z3 z4) h2⟩
end
end
section
def boot_ValueError:Z0 "ValueError" = some (.type "ValueError"):=by decide +kernel
section
variable {X:Cx}
end
end
section
section
variable {X:Cx}{e:Expr}{W:WF}{We:WE}{pos:Pos}
end
end
section
section
variable {prog:Zo}{w:World}{A:Z2}{E:Value->Ql->Prop}{s:Ql}
def zabm {t sl:Addr}{us:Array Value}{vl vu:Value}{lo hi:Option Int}{Q:Value->Ql->Prop} (ht:IsTup s.heap t us) (hs:s.heap.IsSliceOf sl vl vu .none) (pl:Qjh vl lo) (pu:Qjh vu hi)
 (hw:HT.sIx us.size 0 lo=0/\HT.sIx us.size us.size hi=us.size) (h:Q (.ref t) s):wpAny (model prog w) A (Qka (.ref t) (.ref sl)) Q E s:=by
  obtain ⟨ob,o1,o2,o3⟩:=id hs;have ts:s.TypeIs (.ref sl) "slice":=⟨ob,o1,o2⟩
  have tt:s.TypeIs (.ref t) "tuple" := ht.typeIs;unfold Qka
  try with_reducible refine Yx ?_
  first|refine Qd (Qo ?_)|skip
  refine Qd (wpAny_sequenceKey tt (by decide) ?_);refine Qd (Z8 (name:=Qn "__getitem__") tt Yu (Yn Yu tt PyProof.Rows.entry_tuple_getitem ?_ (PyProof.Rows.args_tuple_getitem _ _)));show wpAny _ _ (Qet (.ref t) >>= _) _ _ s;refine Qd (tupleItemsOf_ ht ?_);refine Qd (Qhq ts ?_);rw [if_pos (show (J3 "slice" == J3 "slice")=true by decide)];refine Qd (HT.sliceApplied_gen hs pl pu ?_);have yes:(((HT.sIx us.size 0 lo:Nat):Int)==0&&(1:Int)==1&&(HT.sIx us.size us.size hi-HT.sIx us.size 0 lo)==us.size)=true:=by
   rw [hw.1,hw.2];simp
  show wpAny _ _ (if (((HT.sIx us.size 0 lo:Nat):Int)==0&&(1:Int)==1&&(HT.sIx us.size us.size hi-HT.sIx us.size 0 lo)==us.size)=true then _ else _) _ _ s;rw [if_pos yes];refine Qd (m:=Qeu _) ?_;unfold Qeu;refine Qd (Qhq tt (Qo ?_));rw [if_pos (show (J3 "tuple" == J3 "tuple")=true by decide)];exact Qd (Qbh (Qo ⟨_,rfl,Qo h⟩))
end
section
variable {X:Cx}
def zapl (K:Qe):V->Option Int->Option Int->Hp->VK->Prop:=fun x lo hi H Q => ∃ a xs,x = .ref a/\SqT K H a xs /\
 ((HT.sIx xs.length 0 lo=0/\HT.sIx xs.length xs.length hi=xs.length)->Q (.ref a) H)/\(¬ (HT.sIx xs.length 0 lo=0/\HT.sIx xs.length xs.length hi=xs.length) -> ∀ p,H p=none->Q (.ref p) (upd H p (.tup (qpy xs lo hi))))
def zahk:SlR X (zapl X.K):=by
 intro pins s σ H x v vl vu lo hi sl Q I rx hs pl pu h;obtain ⟨a,xs,rfl,hx,q1,q2⟩:=h;by_cases hw:HT.sIx xs.length 0 lo=0/\HT.sIx xs.length xs.length hi=xs.length
 ·cases rx;obtain ⟨its,r,ht,hz⟩:=I.tuple hx;have hlen:its.toArray.size=xs.length:=by rw [Qr];exact r.length.symm
  refine ⟨"tuple",_,Yu.lookup,ht.typeIs,?_⟩;exact zabm ht hs pl pu (by rw [hlen];exact hw) ⟨.ref a,H,I,rfl,q1 hw⟩
 ·exact zamb pins s σ H _ v vl vu lo hi sl Q I rx hs pl pu ⟨a,xs,rfl,hx,hw,q2 hw⟩
def qwx {α:Type}{l:List α}{lo hi:Option Int} (h:HT.sIx l.length 0 lo=0/\HT.sIx l.length l.length hi=l.length):qpr l lo hi=l:=by
 unfold qpr;rw [h.1,h.2];simp
def wSlA (Wa:WE) (Wl Wh:WO):WE:=fun env Q=>Wa env fun d e1=>Wl e1 fun lo e2=>Wh e2 fun hi e3=>match d with
 | .tuple l => ∀ r,r=qpr l lo hi->Q (.tuple r) e3
 | _=>False
def qdk {a:Expr}{Wa:WE}{p2 pos:Pos}{lo hi:Option Expr}{Wl Wh:WO} (he:VE X a Wa) (hl:VO X lo Wl) (hu:VO X hi Wh):VE X (.Subscript a (.Slice lo hi none p2) pos) (wSlA Wa Wl Wh) :=
 (quc zahk he hl hu).imp fun σ H R xx169=>by
  obtain ⟨M,env,F,Q,I,h,k⟩:=xx169;refine ⟨M,env,F,_,I,h,fun d v F1 H1 e1 I1 s1 i1 h1=>⟨M,e1,F1,_,I1,h1,fun lo F2 H2 e2 I2 s2 h2=>⟨M,e2,F2,_,I2,h2,fun hi F3 H3 e3 I3 s3 h3=>?_⟩⟩⟩;cases d with
  | tuple l =>
   have i3:=i1.mono (s2.trans s3);obtain ⟨a,xs,rfl,hs,hr⟩:=i3.tup_inv;refine ⟨a,xs,rfl,qM I3.fh hs,fun hw=>?_,fun _ p hp=>?_⟩
   ·rw [hr.len] at hw;have e:=h3 _ rfl;rw [qwx hw] at e;exact k _ _ F3 H3 e3 I3 (s1.trans (s2.trans s3)) i3 e
   ·have g:=Go.put (o:=HO.tup (qpy xs lo hi)) I3.fh hp;exact k _ _ _ _ e3 (I3.go g) ((s1.trans (s2.trans s3)).trans g.f) (qjg (SqT.of ql) ((qzg hr lo hi).mono g.f)) (h3 _ rfl)
  | _=>exact Zh h3
end
end
section
section
variable {X:Cx}{a b c d:Expr}{pos:Pos}{ta tb tc td:TE}
variable {Wa Wb Wc Wd:WE}
end
end
section
section
variable {X:Cx}{elt target iter cnd:Expr}{scope:Scope}{pos:Pos}{caps own:List Str}{ix:List Nat}{wi:TI}{g:TG}{te:TE}{tt:TT}
section
variable {K:Qe}{ix:List Nat}{n:Nat}{Wi:WF}{G:WG}{Wt:WT}{We:WE}{σ:St}{H:Hp}{R:VK}
end
end
end
section
section
variable {X:Cx}
end
section
variable {X:Cx}{e:Expr}{We:WE}{pos:Pos}
variable {x:Str}{px apos cpos:Pos}
def zahf (i:Nat):WE:=fun env Q=>match gS env i with | .exc _=>Q (.bool false) env | .val d=>Q (.bool (qsa d)) env|_=>False
def zaaz {σ:St}{H:Hp}{R:VK}{i:Nat} (h:qdg X.K (zahf i) σ H R):quh i σ H fun x H1=>tC .non σ H1 fun y H2=>y = .non/\R (.bl (decide (x = .non))) H2:=by
 obtain ⟨M,env,F,Q,I,h,k⟩:=h;have S:=I.slot i;unfold zahf at h;cases q:gS env i with
 | exc C =>
  rw [q] at S h;obtain ⟨ea,e,z⟩:=S;exact ⟨_,qbr e,rfl,k _ _ F H env I (.refl _) (qdb _) h⟩
 | val d =>
  rw [q] at S h;obtain ⟨v,e,j⟩:=S;exact ⟨_,qbr e,rfl,by rw [qlb j];exact k _ _ F H env I (.refl _) (qdb _) h⟩
 | non=>rw [q] at h;exact h.elim
 | obj a0 C nm fs=>rw [q] at h;exact h.elim
 | own ds=>rw [q] at h;exact h.elim
 | pen ds=>rw [q] at h;exact h.elim
 | new d=>rw [q] at h;exact h.elim
def zaij (i:Nat) {pc:Pos}{jj} (hN:X.N[i]?=some x:=by rfl) (hv:Vis X.env.scope x:=by first|exact V0 rfl|exact Y6 (V0 rfl)|exact Y6 (Y6 rfl)) (hd:Nd0 x:=by decide)
 (hcd:Nd1 x:=by decide) (hm:Qbf .Is (.Constant .none jj pc)=false:=by first|exact qxr _|with_unfolding_all rfl):VT X (.Compare (.Name x px) [.Is] [.Constant .none jj pc] pos) (qwg (zahf i)) :=
 (qzi zagv (qcp hN hv hd hcd) zagi hm).imp fun σ H R h=>zaaz (qhm h)
end
end
section
section
variable {prog:Zo}{w:World}{A:Z2}{E:Value->Ql->Prop}{s:Ql}
end
section
variable {X:Cx}{elts:List Expr}{x1:Nat}{tpos:Pos}
end
section
variable {X:Cx}{a:Expr}{W:WE}{p pos:Pos}
def qio {α:Type} (l:List α) (k:Nat) (y:α):List α:=l.take k++y::l.drop k
def Vals.ins {xs:List V}{us:List Value}{y:V}{u:Value} (k:Nat) (r:Vals xs us) (ry:RelV y u):Vals (qio xs k y) (qio us k u):=(r.take k).append (.cons ry (r.drop k))
def zaid:V->List V->Hp->VK->Prop:=fun x vs H Q => ∃ l xs i y,x = .ref l/\vs=[.int i,y]/\H l=some (.lst xs)/\0<=i/\i<=xs.length/\xs.length<Q9/\Q .non (upd H l (.lst (qio xs i.toNat y)))
def zabo:MtM X "list.insert" zaid:=by
 intro pins s σ H x vs v us Q I rx rv h;obtain ⟨l,xs,i,y,rfl,rfl,hH,i0,i1,hz,q⟩:=h;cases rx;obtain ⟨u,w',rfl,ru,rw'⟩:=rv.two;obtain ⟨t,rfl⟩:=ru;obtain ⟨z,its,n,r,hl,e⟩:=I.lstM hH;have hsl:Q9<2^62:=by decide
 refine Qfs F.slot_list_insert ⟨_,e,rfl⟩ F.entry_list_insert (F.args_list_insert_3 _ _ _) (AutoSeq1.list_insert_list_int_val_1 l its.toArray n i t w' (by rw [fitsIndex_both (by omega) (by omega)];decide) (by rw [Qr];omega)) ⟨e,?_⟩;refine ⟨.non,_,I.lset (its':=qio its i.toNat w') hH e ?_ (Vals.ins i.toNat r rw') ?_,rfl,q⟩
 ·have hk:(if i<0 then (i+(its.toArray.size:Int)).toNat else min i.toNat its.toArray.size)=i.toNat:=by
   rw [if_neg (by omega),Qr,Qgy (by omega)]
  simp only [hk];unfold qio;apply Qgh.mp;simp;exact Jm (by simp)
 ·unfold qio;simp only [Z4,Zp,Qak,Qal];omega
def zais {K:Qe}{H:Hp}{l:List Qi}{xs:List V}{d:Qi}{y:V} (k:Nat) (r:Iss K H l xs) (h:Is K H d y):Iss K H (qio l k d) (qio xs k y):=qaz (qop k r) (qI h (qok k r))
variable {e1 e2:Expr}{W1 W2:WE}
def wIns (i:Nat) (W1 W2:WE):WS:=fun D env=>(gS env i).mut=true/\W1 env fun d e=>W2 e fun y e'=>match d with
 | .int n=>(gS e' i).mut=true/\(0<=n/\n<=(gS e' i).cnt.length/\(gS e' i).cnt.length<Q9)/\D.nx (e'.set i ((gS e' i).upd (qio (gS e' i).cnt n.toNat y)))
 | _=>False
def zaaj (i:Nat) {x:Str}{px apos cpos:Pos} (h1:VE X e1 W1) (h2:VE X e2 W2) (hN:X.N[i]?=some x:=by rfl) (hv:Vis X.env.scope x:=by first|exact V0 rfl|exact Y6 (V0 rfl)|exact Y6 (Y6 rfl)) (hd:Nd0 x:=by decide)
 (hcd:Nd1 x:=by decide)
 (hbase:Qcr (.Name x px) "insert" X.env (eval (.Name x px) X.env)=eval (.Name x px) X.env:=by rfl)
 (hfew:((V8 cpos (Qu [e1,e2] X.env)).all (fun x => !x.1)&&(Qjk cpos (Qep [] X.env)).all (fun x=>x.1.isSome)
  && decide ([e1,e2].length+([]:List Qdu).length+(if ([]:List Qdu).isEmpty then 0 else 1)<30))=true:=by rfl)
 (hline:(apos.endLine==cpos.line)=true:=by rfl) (hst:Qu [e1,e2] X.env=(false,eval e1 X.env)::Qu [e2] X.env:=by rfl) (hst2:Qu [e2] X.env=(false,eval e2 X.env)::Qu [] X.env:=by rfl) (hplain:(V8 cpos (Qu [e2] X.env)).any (·.1)=false:=by rfl)
 (hs:Qan (.Call (.Attribute (.Name x px) "insert" apos) [e1,e2] [] cpos) none pos.line X.env=pure false:=by rfl):VS X (.Expr (.Call (.Attribute (.Name x px) "insert" apos) [e1,e2] [] cpos) pos) (wIns i W1 W2) :=
 (qns (zakr Qfv PySem.F.slot_list_insert PySem.F.type_list_insert zabo (qcp hN hv hd hcd) (qV h1 (qV h2 qcq hst2) hst) hbase hfew hline hst hplain) hs).imp fun D σ H xx170=>by
  obtain ⟨M,env,F,DD,I,⟨hm,h⟩,k⟩:=xx170;obtain ⟨p,vs,ep,g1,g2,g3,g4⟩:=(I.slot i).addr hm;refine ⟨_,qbr ep,.inl ⟨rfl,_,SqL.of g1⟩,M,env,F,_,I,h,fun d v F1 H1 e1 I1 s1 i1 h1=>⟨M,e1,F1,_,I1,h1,fun d2 v2 F2 H2 e2 I2 s2 i2 h2=>?_⟩⟩;cases d with
  | int n =>
   obtain ⟨m1,⟨n0,n1,z1⟩,q1⟩:=h2;obtain ⟨p',vs1,ep',f1,f2,f3,f4⟩:=(I2.slot i).addr m1;rw [ep] at ep';injection ep' with ep';injection ep' with ep';subst ep';have fl:=f4.len;exact ⟨p,vs1,n,v2,rfl,by rw [i1.int_inv],f1,n0,by omega,by omega,k.nx _ F2 _ σ (I2.chg m1 ep (zais n.toNat f4 i2)) (s1.trans s2) q1⟩
  | _=>exact Zh h2
def wPar (i j:Nat) (Wr:WF):WS:=fun D env=>Wr env fun ds e=>match ds with
 | [d,d']=>D.nx ((e.set i (.val d)).set j (.val d'))
 | _=>False
def zamz {i j:Nat}{x y:Str}{a b:Expr}{Wr:WF}{px py pt pos:Pos}{kt k2 pt2} (hc:X.calm=true) (hN:X.N.Nodup) (ha:VA X [a,b] Wr) (hi:X.N[i]?=some x:=by rfl) (hj:X.N[j]?=some y:=by rfl) (hij:i≠j:=by decide)
 (hx:X.env.scope.names.lookup x=some .local:=by rfl) (hy:X.env.scope.names.lookup y=some .local:=by rfl)
 (hw:Qed [.Tuple [.Name x px,.Name y py] kt pt] (.Tuple [a,b] k2 pt2) X.env=pure (some [x,y]):=by rfl)
 (hs:Qee [.Tuple [.Name x px,.Name y py] kt pt] (.Tuple [a,b] k2 pt2) pos.line X.env=pure false:=by rfl) :
 VS X (.Assign [.Tuple [.Name x px,.Name y py] kt pt] (.Tuple [a,b] k2 pt2) pos) (wPar i j Wr) :=
 (zami hc hN hi hj hij hx hy ha hw hs).imp fun D σ H xx171=>by
  obtain ⟨M,env,F,DD,I,h,k⟩:=xx171;refine ⟨M,env,F,_,I,h,fun ds vs F1 H1 e1 I1 s1 i1 h1=>?_⟩;cases ds with
  | nil=>exact h1.elim
  | cons d r=>cases r with
   | nil=>exact h1.elim
   | cons d' r=>cases r with
    | cons _ _=>exact h1.elim
    | nil =>
     obtain ⟨v,w',rfl,j1,j2⟩:=iss2 i1;exact ⟨v,w',rfl,k.nx _ F1 H1 _ ((I1.setv j1).setv j2) s1 h1⟩
end
end
section
section
variable {X:Cx}
end
end
section
section
variable {X:Cx}
def zadh:OpR X (Vw .Add) (fun x y H Q => ∃ (a b:Addr) (ys:List V),x = .ref a/\y = .ref b/\SqT X.K H a []/\SqT X.K H b ys/\Q (.ref b) H):=by
 intro pins s σ H x y v u Q I rx ry h;obtain ⟨a,b,ys,rfl,rfl,ha,hb,q⟩:=h;cases rx;cases ry;obtain ⟨its,r1,p1,_⟩:=I.tuple ha;obtain ⟨its2,r2,p2,_⟩:=I.tuple hb;have e0:its=[]:=r1.nil_iff.mpr rfl;obtain ⟨⟨cls,dd,data,sl⟩,ho,hc,n,hd⟩:=id p1;obtain ⟨⟨cls2,dd2,data2,sl2⟩,ho2,hc2,n2,hd2⟩:=id p2;simp only at hc hd hc2 hd2;subst hc hd hc2 hd2;exact Qhk ⟨_,ho,rfl⟩ ⟨_,ho2,rfl⟩ Qgm Qjm Qcz Qck (Qcb _ _) (tuple_addW0 a b its.toArray its2.toArray n n2 dd dd2 sl sl2 (by simp [e0])) ⟨ho,ho2,.ref b,H,I,rfl,q⟩
def zaqs:D2
 | .tuple l,.tuple m,q=>l.length+m.length<=Q9/\q (.tuple (l++m))
 | _,_,_=>False
def qmd:OpV X (Vw .Add) zaqs:=by
 rintro pins s σ H x y v u Q I rx ry ⟨F,dx,dy,q,sm,i1,i2,h,k⟩;cases dx with
 | tuple l=>cases dy with
  | tuple m =>
   by_cases hl:l=[]
   ·subst hl;obtain ⟨a,xs,rfl,hs,hr⟩:=i1.tup_inv;obtain ⟨b,ys,rfl,ht,hq⟩:=i2.tup_inv;have hx:xs=[]:=Jb.mp (by rw [hr.len];rfl);subst hx;exact zadh pins s σ H _ _ v u Q I rx ry ⟨a,b,ys,rfl,rfl,qM sm hs,qM sm ht,k _ _ F H (.refl sm) i2 h.2⟩
   ·exact qbc pins s σ H x y v u Q I rx ry ⟨F,.tuple l,.tuple m,q,sm,i1,i2,⟨hl,h⟩,k⟩
  | _=>exact Zh h
 | _=>exact Zh h
end
end
section
abbrev DQ:=Addr->(Qi->Prop)->Prop
def ESp (K:Qe) (sp:DQ):Sp:=fun vs H Q _ => ∃ F C ea q,vs=[.ref ea]/\Same F H/\F ea=some (qix C ea)/\sp C q /\ ∀ d v F' H',Go F H F' H'->Is K F' d v->q d->Q v H'
section
variable {X:Cx}
def zagq (j:Nat) (sp:DQ):WE:=fun env Q=>match gS env j with | .exc C=>sp C (fun d=>Q d env)|_=>False
def zamr (j:Nat) {x y:Str}{p py pos:Pos}{k:Nat}{ps:List Str}{sp:DQ} (O:OkC X x k ps (ESp X.K sp)) (hr:Room k X.A)
 (hj:X.N[j]?=some y:=by rfl) (hv:Vis X.env.scope y:=by first|exact V0 rfl|exact Y6 (V0 rfl)|exact Y6 (Y6 rfl)) (hd:Nd0 y:=by decide) (hcd:Nd1 y:=by decide)
  (hg:Gl X x:=by rfl) (hdb:Nd0 x:=by decide)
  (he:Qu [.Name y py] X.env=(false,eval (.Name y py) X.env)::Qu [] X.env:=by rfl) (hpl:(V8 pos (Qu [] X.env)).any (·.1)=false:=by rfl):VE X (.Call (.Name x p) [.Name y py] [] pos) (zagq j sp) :=
  (qsy O hr (qV (qcp hj hv hd hcd) qcq he) hg hdb he hpl).imp fun σ H R xx172=>by
   obtain ⟨M,env,F,Q,I,h,k⟩:=xx172;have S:=I.slot j;unfold zagq at h;cases q:gS env j with
   | exc C =>
    rw [q] at S h;obtain ⟨ea,e,z⟩:=S;exact ⟨_,qbr e,F,C,ea,_,rfl,I.fh,z,h,fun d v F' H' g i q=>k d v F' H' env (I.go g) g.f i q⟩
   | non=>rw [q] at h;exact h.elim
   | obj a0 C nm fs=>rw [q] at h;exact h.elim
   | val d=>rw [q] at h;exact h.elim
   | own ds=>rw [q] at h;exact h.elim
   | pen ds=>rw [q] at h;exact h.elim
   | new d=>rw [q] at h;exact h.elim
end
def qsq (N:List Str) (C:Addr):Sto :=.exc C::Q4 (N.length-1) .non
def qxa {K:Qe}{F H:Hp}{N:List Str}{C ea:Addr} (s:Same F H) (z:F ea=some (qix C ea)):EnvOk K ⟨H,H,F⟩ F H (qsq N C) (start N [.ref ea]) where
 len:=by simp [qsq,start]
 slot:=fun j=>by
  cases j with
  | zero=>exact ⟨ea,qji (N:=N) (vs:=[.ref ea]) (j:=0) rfl,z⟩
  | succ j =>
   show SlotOk K _ F H (gS (Q4 (N.length-1) .non) j) _;rw [qfc];trivial
 dis:=fun i j a hij h1=>by
  cases i with
  | zero=>cases h1
  | succ i =>
   have h1':(gS (Q4 (N.length-1) .non) i).mut=true:=h1;rw [qfc] at h1';cases h1'
 f0 :=.refl _
 fe:=s
 fh:=s
 bh :=.refl _
 new:=fun b o e => .inl e
 dom:=fun b o e=>⟨o,e⟩
section
variable {P:Zo}{w:World}{K:Qe}{mg:Str->Option Value}{base:Heap}
def Def.vokE {x:Str}{st:Stmt}{N ps:List Str}{k:Nat}{sp:DQ} (F:Def K mg x st ps) (S:FnScope N ps (defScope st)) (hp:ps.length=1)
 (hbody : ∀ (f:Addr) (cdv:Value) (A:Z2) (outer:List Env) (s:Ql) (H:Hp) (E:XK),Room k (A.deeper (Qch x (defScope st) s.heap.objs.size f cdv)) -> ∀ C q,sp C q ->
 ∃ W,VSs (qdn CX0 P w K mg base N x (defScope st) f cdv A outer s H E).nox (defBody st) W/\W { nx:=fun _=>q .none,rt:=fun r _=>q r.data } (qsq N C)):Ok P w K mg base x (k+1) ps (ESp K sp) :=
  F.ok S (fun vs H Q E xx174=>by obtain ⟨F,C,ea,q,e,_⟩:=xx174;rw [e];exact hp.symm) fun f cdv A outer s H vs Q E hr xx173=>by
   obtain ⟨F,C,ea,q,e,sm,z,h,kk⟩:=xx173;subst e;obtain ⟨W,hW,hq⟩:=hbody f cdv A outer s H E hr C q h;refine ⟨_,hW,⟨H,H,F⟩,qsq N C,F,_,qxa sm z,hq,⟨fun e1 F1 H1 σ1 I1 s1 q1=>kk _ _ F1 H1 I1.goOf qjd q1,fun r v e1 F1 H1 σ1 I1 s1 r1 q1=>?_,fun _ _ _ _ _ _ h=>h.elim,fun _ _ _ _ _ _ h=>h.elim⟩⟩;obtain ⟨F2,g,j⟩:=r1.is I1;exact kk _ _ F2 H1 g j q1
end
end
section
section
variable {X:Cx}{elt target iter cnd:Expr}{scope:Scope}{pos:Pos}{caps own:List Str}{ix:List Nat}{wi:TI}{g:TG}{te:TE}{tt:TT}
end
section
variable {X:Cx}{elt target iter cnd:Expr}{scope:Scope}{pos py spos:Pos}{caps own:List Str}{ix:List Nat}{Wi:WF}{G:WG}{Wt:WT}{We:WE}{i:Nat}{y:Str}
end
end
section
section
variable {κ:Type} [DecidableEq κ]
def qmh (kvs:List (κ×V)) (k:κ):Option V:=(kvs.find? fun kv=>decide (kv.1=k)).map (·.2)
def qup (kvs:List (κ×V)) (k:κ) (v:V):List (κ×V) :=
 if (kvs.any fun kv=>decide (kv.1=k))=true then kvs.map (fun kv=>if kv.1=k then (kv.1,v) else kv) else kvs++[(k,v)]
def qog {p:κ×V}{r:List (κ×V)}{k:κ} (e:p.1=k):qmh (p::r) k=some p.2:=by simp [qmh,Qek,e]
def qol {p:κ×V}{r:List (κ×V)}{k:κ} (e : ¬ p.1=k):qmh (p::r) k=qmh r k:=by simp [qmh,Qek,e]
def qod (k:κ) : ∀ kvs:List (κ×V),(kvs.any fun kv=>decide (kv.1=k))=(qmh kvs k).isSome
 | []=>rfl
 | p::r=>by
  rw [Qcl];by_cases e:p.1=k
  ·simp only [qog e,decide_eq_true e,Bool.true_or,Qiw]
  ·rw [qol e,decide_eq_false e,Qmf];exact qod k r
def qty (kvs:List (κ×V)) (k:κ) (v:V):(qup kvs k v).length<=kvs.length+1:=by
 unfold qup;split
 ·rw [Qk];omega
 ·rw [Z4,Zp,J5];omega
def zafm {kvs:List (κ×V)}{k:κ} (v:V) (h:qmh kvs k=none):qup kvs k v=kvs++[(k,v)]:=by
 unfold qup;rw [qod,h];exact if_neg (by decide)
def RelO.isSome_eq {o:Option V}{u:Option Value} (r:RelO o u):o.isSome=u.isSome:=by
 cases o with
 | none=>cases u with
  | none=>rfl
  | some _=>exact (show False from r).elim
 | some _=>cases u with
  | none=>exact (show False from r).elim
  | some _=>rfl
end
def zaqq {P:Zo}{w:World}{k:Key}{u:Value} (r:RelV (kV k) u):(qch P w).is k u=true:=by
 cases k with
 | inl i=>obtain ⟨t,e⟩:=(show ∃ t,u=Qkx i t from r);subst e;exact qtv P w i t
 | inr x=>obtain ⟨t,e⟩:=(show ∃ t,u=Qmm x t from r);subst e;exact qtq P w x t
def qql {P:Zo}{w:World} : ∀ {ks:List Key}{us:List Value},Vals (ks.map kV) us->ItemsAre (qch P w) ks us
 | [],_,r=>by rw [Qaf] at r;cases r;exact .nil
 | k::ks,_,r=>by
  rw [Q7] at r;cases r with
  | cons h t=>exact .cons (zaqq h) (qql t)
abbrev KT (H:Hp):List (List Key×V)->List (List Key×Addr×Value)->Prop:=Paired fun p q=>p.1=q.1/\H q.2.1=some (.tup (p.1.map kV))/\RelV p.2 q.2.2
def KT.val {H:Hp}{kvs:List (List Key×V)}{xs:List (List Key×Addr×Value)} (r:KT H kvs xs) (k:List Key):RelO (qmh kvs k) ((atKey xs k).map (·.2)):=by
 induction r with
 | nil=>exact Qdd
 | @cons p q ps qs h t ih =>
  obtain ⟨h1,_,h2⟩:=h;by_cases e:p.1=k
  ·have e':q.1=k:=h1.symm.trans e;have b:atKey (q::qs) k=some q.2:=by simp [atKey,Qek,e']
   rw [qog e,b];exact h2
  ·have e' : ¬ q.1=k:=fun z=>e (h1.trans z);have b:atKey (q::qs) k=atKey qs k:=by simp [atKey,Qek,e']
   rw [qol e,b];exact ih
def KT.repl {H:Hp}{kvs:List (List Key×V)}{xs:List (List Key×Addr×Value)} (r:KT H kvs xs) (k:List Key) {y:V}{u:Value} (ry:RelV y u) :
 KT H (kvs.map fun kv=>if kv.1=k then (kv.1,y) else kv) (xs.map (putAt k u)):=by
  induction r with
  | nil=>exact .nil
  | @cons p q ps qs h t ih =>
   rw [Q7,Q7];refine .cons ?_ ih;obtain ⟨h1,h2,h3⟩:=h;unfold putAt;by_cases e:p.1=k
   ·rw [if_pos e,if_pos (h1.symm.trans e)];exact ⟨h1,h2,ry⟩
   ·rw [if_neg e,if_neg (fun z=>e (h1.trans z))];exact ⟨h1,h2,h3⟩
def KT.put {H:Hp}{kvs:List (List Key×V)}{xs:List (List Key×Addr×Value)} (r:KT H kvs xs) (k:List Key) {b:Addr}{y:V}{u:Value} (hb:H b=some (.tup (k.map kV))) (ry:RelV y u) :
 KT H (qup kvs k y) (storedH xs k b u):=by
  have e:(kvs.any fun kv=>decide (kv.1=k))=(atKey xs k).isSome:=by
   rw [qod,(r.val k).isSome_eq,Option.isSome_map]
  unfold qup storedH;rw [e];by_cases q:(atKey xs k).isSome=true
  ·rw [if_pos q,if_pos q];exact r.repl k ry
  ·rw [if_neg q,if_neg q];exact Paired.snoc r ⟨rfl,hb,ry⟩
def KT.keeps {H H':Hp}{kvs:List (List Key×V)}{xs:List (List Key×Addr×Value)} (r:KT H kvs xs) (ht : ∀ b ys,H b=some (.tup ys)->H' b=some (.tup ys)):KT H' kvs xs :=
 Paired.mapP r fun _ _ z=>⟨z.1,ht _ _ z.2.1,z.2.2⟩
section
variable {P:Zo}{w:World}{H:Hp}{h:Heap}{a:Addr}
def zalg {u:HO} (ok:HOk P w H h) (e:Rd H a u):ObjOk P w H h a u:=e.ok ok
def zaqt {kvs:List (Key×V)} (ok:HOk P w H h) (e:Rd H a (.dK kvs)):kvs.length<=Q9/\(a==Qaq)=false /\ ∃ vs,KV kvs vs/\h.DictOf (qch P w) a vs :=
 show ObjOk P w H h a (.dK kvs) from zalg ok e
def zafz {ks:List Key} (ok:HOk P w H h) (e:H a=some (.tup (ks.map kV))):(Qhn (qch P w)).is h ks a:=by
 obtain ⟨_,its,r,o,h1,h2,n,h3⟩:=(show ObjOk P w H h a (.tup (ks.map kV)) from ok a _ e)
 exact ⟨o,its.toArray,n,h1,h2,h3,by simpa using qql r⟩
def zakp {kvs:List (List Key×V)} (ok:HOk P w H h) (e:Rd H a (.dT kvs)):kvs.length<=Q9/\(a==Qaq)=false /\
 ∃ xs,KT H kvs xs/\h.DictOfH (Qhn (qch P w)) a xs:=by
  obtain ⟨z,y,xs,r,o,es,ep,h1,h2,h3,h4,h5⟩:=(show ObjOk P w H h a (.dT kvs) from zalg ok e)
  refine ⟨z,y,xs,r,o,es,ep,h1,h2,h3,h4,fun x hx=>?_,h5⟩;have all : ∀ {l:List (List Key×V)}{m:List (List Key×Addr×Value)},KT H l m -> ∀ x ∈ m,(Qhn (qch P w)).is h x.1 x.2.1:=by
   intro l m q
   induction q with
   | nil=>intro x hx;exact nomatch hx
   | @cons p q ps qs hq t ih =>
    intro x hx;rcases Q3.mp hx with e|hx
    ·subst e;exact zafz ok (by rw [<- hq.1];exact hq.2.1)
    ·exact ih x hx
  exact all r x hx
def zahe {kvs:List (List Key×V)} (ok:HOk P w H h) (e:H a=some (.dT kvs)):kvs.length<=Q9/\(a==Qaq)=false /\
 ∃ xs,KT H kvs xs/\h.DictOfH (Qhn (qch P w)) a xs:=zakp ok (.inl e)
end
section
variable {X:Cx}{pins:List (Addr×Obj)}{σ:St}{H:Hp}{s:Ql}{a:Addr}{y v:V}{u r:Value}{o:Option V}{A:Z2}{E:Value->Ql->Prop}
def Inv.big (I:Inv X pins σ H s):Qaq<s.heap.objs.size:=by
 have h:Ze<s.heap.objs.size:=(I.mod.glob.keeps I.bk).lt;exact Y8 (by decide) h
def zajf {h':Heap}{t':Nat}{ob:HO} (I:Inv X pins σ H s) (mu:Mut (H a)) (hs:Vv a s.heap h') (he : ∃ q,h'.get? a=some q) (new:ObjOk X.prog X.w (upd H a ob) h' a ob) :
 Inv X pins σ (upd H a ob) { s with heap:=h',toks:=t' } :=
  I.write (x:=a) (e:=a) mu (.inl rfl) (fun b q hb z=>(hs.2 b hb).trans z) he new
end
section
variable {X:Cx}{pins:List (Addr×Obj)}{σ:St}{H:Hp}{s:Ql}{a:Addr}{kvs:List (Key×V)}{k:Key}{u:Value}{A:Z2}{E:Value->Ql->Prop}
end
section
variable {X:Cx}{o i e value:Expr}{pos pos' tpos:Pos}{td ty tv:TE}
end
def zaes {P:Zo}{w:World}{H:Hp} (h:Heap) (hb:Qaq<h.objs.size):ObjOk P w H (h.push { cls :=.type "dict",data :=.dict #[] }) h.objs.size (.dK []) :=
 ⟨Y9 _,beq_eq_false_iff_ne.mpr (Yb (Qq hb)),[],.nil,Heap.DictOf.new h⟩
def zado {P:Zo}{w:World}{H:Hp} (h:Heap) (hb:Qaq<h.objs.size):ObjOk P w H (h.push { cls :=.type "dict",data :=.dict #[] }) h.objs.size (.dT []) :=
 ⟨Y9 _,beq_eq_false_iff_ne.mpr (Yb (Qq hb)),[],.nil,_,#[],0,Qy _ rfl,⟨rfl,rfl,rfl⟩,rfl,rfl,Qfe⟩
def zanj:TE:=fun _ H Q => ∀ p,H p=none->Q (.ref p) (upd H p (.dK []))
def zalu:TE:=fun _ H Q => ∀ p,H p=none->Q (.ref p) (upd H p (.dT []))
section
variable {X:Cx}{pos:Pos}
def zadl:PE X (.Dict [] [] pos) zanj:=fun pins s σ H Q I h =>
 wpAny_Dict_empty ⟨.ref s.heap.objs.size,_,I.laid (a:=s.heap.objs.size) (o :=.dK []) (t':=s.toks) (fun _ _ q=>Qf _ q) (Qz _) (zaes s.heap I.big),rfl,h _ (I.hok.fresh (Qz _))⟩
def zacn:PE X (.Dict [] [] pos) zalu:=fun pins s σ H Q I h =>
 wpAny_Dict_empty ⟨.ref s.heap.objs.size,_,I.laid (a:=s.heap.objs.size) (o :=.dT []) (t':=s.toks) (fun _ _ q=>Qf _ q) (Qz _) (zado s.heap I.big),rfl,h _ (I.hok.fresh (Qz _))⟩
end
structure M2 (X:Cx) (o:Expr) (m:Str) (apos:Pos) (e f:Expr) (cpos:Pos):Prop where
 base:Qcr o m X.env (eval o X.env)=eval o X.env
 few:((V8 cpos (Qu [e,f] X.env)).all (fun x => !x.1)&&(Qjk cpos (Qep [] X.env)).all (fun x=>x.1.isSome)
  && decide (([e,f]:List Expr).length+([]:List Qdu).length+(if ([]:List Qdu).isEmpty then 0 else 1)<30))=true
 line:(apos.endLine==cpos.line)=true
 trees:V8 cpos (Qu [e,f] X.env)=[(false,eval e X.env),(false,eval f X.env)]
def IsD (H:Hp) (a:Addr):Prop:=(∃ kvs,Rd H a (.dK kvs)) \/ ∃ kvs,Rd H a (.dT kvs)
def zafy {X:Cx}{pins:List (Addr×Obj)}{σ:St}{H:Hp}{s:Ql}{a:Addr} (I:Inv X pins σ H s) (d:IsD H a) :
 s.TypeIs (.ref a) "dict" /\ (∀ b,Z3 a = .ref b -> ∃ ob,s.heap.get? b=some ob/\ob.dict=none)/\(a==Qaq)=false:=by
  rcases d with ⟨kvs,e⟩|⟨kvs,e⟩
  ·obtain ⟨_,hd,vs,_,dd⟩:=zaqt I.hok e;refine ⟨dd.typeIs,fun b q=>?_,hd⟩;cases q;obtain ⟨ob,_,_,h1,h2,_⟩:=dd;exact ⟨ob,h1,h2.2.1⟩
  ·obtain ⟨_,hd,xs,_,dd⟩:=zakp I.hok e;refine ⟨dd.typeIs,fun b q=>?_,hd⟩;cases q;obtain ⟨ob,_,_,h1,h2,_⟩:=dd;exact ⟨ob,h1,h2.2.1⟩
section
variable {X:Cx}{pins:List (Addr×Obj)}{σ:St}{H:Hp}{s:Ql}{a:Addr}{y d:V}{u r:Value}{o:Option V}{A:Z2}{E:Value->Ql->Prop}
end
section
variable {X:Cx}{o e f:Expr}{apos cpos:Pos}{td ty tx:TE}
end
end
section
section
variable {X:Cx}
def zaqk:WE:=fun env Q=>Q (.dict []) env
def zajs {pos:Pos}:VE X (.Dict [] [] pos) zaqk:=zadl.imp fun σ H R xx175 p hp=>by
 obtain ⟨M,env,F,Q,I,h,k⟩:=xx175;have g:=Go.put (o:=HO.dK []) I.fh hp;exact k _ _ _ _ env (I.go g) g.f (zama ql rfl) h
end
end
section
section
variable {P:Zo}{w:World}{K:Qe}{mg:Str->Option Value}{base:Heap}
end
section
variable {X:Cx}
end
end
section
section
variable {X:Cx}
def VE.pe {e:Expr}{W:WE} (h:VE X e W):PE X e (qdg X.K W):=h
def VT.pt {e:Expr}{W:WT} (h:VT X e W):PT X e (zach X.K W):=h
end
mutual
def qsz:Qi->Bool
 | .list _=>false
 | .dict _=>false
 | .tuple l=>qox l
 | _=>true
def qox:List Qi->Bool
 | []=>true
 | d::l=>qsz d&&qox l
end
mutual
def Is.off {K:Qe}{F:Hp}{a:Addr}{xs:List V} (hF:F a=some (.lst xs)) : ∀ {d:Qi}{v:V},qsz d=true->Is K F d v->Is K (qeh F a) d v
 | .none,_,_,h=>by unfold Is at h ⊢;exact h
 | .bool _,_,_,h=>by unfold Is at h ⊢;exact h
 | .int _,_,_,h=>by unfold Is at h ⊢;exact h
 | .str _,_,_,h=>by unfold Is at h ⊢;exact h
 | .list l,_,z,h=>by simp [qsz] at z
 | .dict l,_,z,h=>by simp [qsz] at z
 | .tuple l,_,z,h=>by
  unfold Is at h ⊢;obtain ⟨b,ys,e,q,r⟩:=h;refine ⟨b,ys,e,?_,Iss.off hF (by simpa [qsz] using z) r⟩;rcases q with q|q
  ·refine .inl ?_;rcases q with q|⟨o,q⟩
   ·refine .inl ?_;unfold qeh;rw [if_neg (fun y=>by subst y;rw [hF] at q;cases q)];exact q
   ·refine .inr ⟨o,?_⟩;unfold qeh;rw [if_neg (fun y=>by subst y;rw [hF] at q;cases q)];exact q
  ·exact .inr q
def Iss.off {K:Qe}{F:Hp}{a:Addr}{xs:List V} (hF:F a=some (.lst xs)) : ∀ {l:List Qi}{vs:List V},qox l=true->Iss K F l vs->Iss K (qeh F a) l vs
 | [],_,_,h=>by unfold Iss at h ⊢;exact h
 | d::l,_,z,h=>by
  unfold Iss at h ⊢;obtain ⟨x,r,e,p,q⟩:=h;have z':qsz d=true/\qox l=true:=by simpa [qox] using z
  exact ⟨x,r,e,Is.off hF z'.1 p,Iss.off hF z'.2 q⟩
end
section
variable {X:Cx}
end
end
section
def qxx {F H F' H':Hp}{a:Addr}{o:HO} (g:Go F H F' H') (h:H a=some o) (f:F a=none):F' a=none:=by
 cases e:F' a with
 | none=>rfl
 | some u =>
  rcases g.new a u e with q|q
  ·rw [f] at q;cases q
  ·rw [h] at q;cases q
section
variable {K:Qe}{M:Frm}{F H:Hp}
def Slots (K:Qe) (M:Frm) (F H:Hp):Sto->St->Prop
 | [],σ=>σ=[]
 | s::e,σ => ∃ x r,σ=x::r/\(SlotOk K M F H s x/\s.mut=false)/\Slots K M F H e r
def Slots.len : ∀ {e:Sto}{σ:St},Slots K M F H e σ->e.length=σ.length
 | [],σ,h=>by
  have h:σ=[]:=h;subst h;rfl
 | s::e,σ,h=>by
  obtain ⟨x,r,rfl,_,h⟩:=h;rw [Zp,Zp,Slots.len h]
def Slots.at : ∀ {e:Sto}{σ:St},Slots K M F H e σ -> ∀ i,SlotOk K M F H (gS e i) (vS σ i)/\(gS e i).mut=false
 | [],σ,h,i=>by
  rw [qxu (Y9 _)];exact ⟨trivial,rfl⟩
 | s::e,σ,h,0=>by
  obtain ⟨x,r,rfl,q,h⟩:=h;exact q
 | s::e,σ,h,i+1=>by
  obtain ⟨x,r,rfl,q,h⟩:=h;have e1:vS (x::r) (i+1)=vS r i:=by unfold vS;rw [Vc]
  rw [e1];exact Slots.at h i
def qsu {env:Sto}{σ:St} (s:Same F H) (h:Slots K ⟨H,H,F⟩ F H env σ):EnvOk K ⟨H,H,F⟩ F H env σ where
 len:=h.len
 slot:=fun i=>(h.at i).1
 dis:=fun i j a _ m _ _ _=>by rw [(h.at i).2] at m;cases m
 f0 :=.refl _
 fe:=s
 fh:=s
 bh :=.refl _
 new:=fun b o e => .inl e
 dom:=fun b o e=>⟨o,e⟩
end
section
variable {X:Cx}
def VN.pe {e:Expr}{W:WE} (h:VN X e W):PE X e (zacf X.K W):=h
end
section
variable {X:Cx}
end
end
section
section
variable {X:Cx}
def VI.pi {tg e:Expr}{W:WF} (h:VI X tg e W):PI X tg e (qmv X.K W):=h
end
end
section
section
variable {X:Cx}
end
end
section
section
variable {X:Cx}{e:Expr}{We:WE}{pos:Pos}
end
end
section
section
variable {X:Cx}
end
end
section
section
variable {X:Cx}{pos:Pos}
end
end
section
mutual
def qwc:Qi->Bool
 | .list _=>false
 | .dict _=>false
 | .tuple l=>qsi l
 | _=>true
def qsi:List Qi->Bool
 | []=>true
 | d::l=>qwc d&&qsi l
end
mutual
def zaon {K:Qe}{F:Hp}{a:Addr}{vs:List V} (h:F a=some (.lst vs)) : ∀ {d:Qi}{v:V},qwc d=true->Is K F d v->Is K (qeh F a) d v
 | .none,_,_,i=>by unfold Is at i ⊢;exact i
 | .bool _,_,_,i=>by unfold Is at i ⊢;exact i
 | .int _,_,_,i=>by unfold Is at i ⊢;exact i
 | .str _,_,_,i=>by unfold Is at i ⊢;exact i
 | .list l,_,z,_=>by unfold qwc at z;cases z
 | .dict l,_,z,_=>by unfold qwc at z;cases z
 | .tuple l,_,z,i=>by
  unfold qwc at z;unfold Is at i ⊢;obtain ⟨b,xs,e,q,r⟩:=i;refine ⟨b,xs,e,?_,qzh h z r⟩;rcases q with (q|⟨o,q⟩)|q
  ·exact .inl (.inl (by unfold qeh;rw [if_neg (fun c=>by rw [c,h] at q;cases q)];exact q))
  ·exact .inl (.inr ⟨o,by unfold qeh;rw [if_neg (fun c=>by rw [c,h] at q;cases q)];exact q⟩)
  ·exact .inr q
def qzh {K:Qe}{F:Hp}{a:Addr}{vs:List V} (h:F a=some (.lst vs)) : ∀ {l:List Qi}{xs:List V},qsi l=true->Iss K F l xs->Iss K (qeh F a) l xs
 | [],_,_,i=>by unfold Iss at i ⊢;exact i
 | d::l,_,z,i=>by
  unfold qsi at z;rw [Ys] at z;unfold Iss at i ⊢;obtain ⟨x,r,e,p,q⟩:=i;exact ⟨x,r,e,zaon h z.1 p,qzh h z.2 q⟩
end
section
variable {X:Cx}
end
end
section
section
variable {X:Cx}{Ex:St->XK}{a b:Expr}{rest:List Expr}{pos:Pos}{Wa Wx2:WX->WE}{Wb:WE}
end
end
section
section
variable {X:Cx}
def rAny (K:Qe):List V->Hp->VK->Prop:=fun xs H Q => ∃ (a:Addr) (bs:List Bool),xs=[.ref a]/\SqL K H a (bs.map V.bl)/\Q (.bl (bs.any id)) H
def zafh (hc:X.calm=true):CallR X (.builtin "any") (rAny X.K):=by
 intro pins s σ H xs us Q I r h;obtain ⟨a,bs,rfl,ha,q⟩:=h;obtain ⟨u,rfl,rx⟩:=qhp r;cases rx;obtain ⟨its,rv,pl,_⟩:=I.list ha;have hl:=pl.isList;have hb:=qip rv;have hlt:a<s.heap.objs.size:=pl.lt;refine call_any_walk (Qae hl ?_);refine ⟨s.heap.objs.size,[s.heap.objs.size,a],[s.heap.objs.size],its.toArray.size,_,_,fun i=>(bs[i]?).getD true,rfl,Qjq (A:=X.A.in1) (I.ok.hd hc) _ a (Qq hlt) its.toArray,
  ⟨⟨_,Qy _ rfl,rfl,rfl⟩,hl.push _⟩,fun i v s' Q' E' hP hQ=>?_,fun h' tk hk=>?_⟩
 ·obtain ⟨b,e,rfl⟩:=hb.get i v (by simpa using hP);simp only [e,Qbr] at hQ;exact Vf hQ
 ·have hlen:its.toArray.size=bs.length:=by rw [Qr];exact hb.length
  have e:((Q1 its.toArray.size).any fun i=>(bs[i]?).getD true)=bs.any id:=by
   rw [hlen,Qgv,Ym,Ym];constructor
   ·rintro ⟨i,hi,z⟩;have hi':=Q6.mp hi;refine ⟨bs[i],Za hi',?_⟩;simpa [hi'] using z
   ·rintro ⟨b,hb',z⟩;obtain ⟨i,hi,rfl⟩:=Qeh hb';exact ⟨i,Q6.mpr hi,by simpa [hi] using z⟩
  rw [e];refine ⟨.bl (bs.any id),H,I.kept (t':=tk) (fun b o z=>hk b o (fun hm=>?_) (Qf _ z)),rfl,q⟩;rw [Qw.mp hm] at z;exact Ja _ (Qp z)
def boot_any:Z0 "any" = some (.builtin "any"):=by decide +kernel
def dAny:DC
 | [.list l],q => ∃ bs:List Bool,l=bs.map .bool/\q (.bool (bs.any id))
 | _,_=>False
def zapy (hc:X.calm=true):qig X (.builtin "any") dAny:=(zafh hc).imp fun xs H Q xx180=>by
 obtain ⟨F,ds,q,s,i,h,k⟩:=xx180
 match ds,h,i with
 | [.list l],h,i =>
  obtain ⟨v,rfl,j⟩:=qiv i;obtain ⟨a,xs,rfl,hs,hr⟩:=j.lst_inv;obtain ⟨bs,rfl,hq⟩:=h;rw [hr.bools_inv] at hs;exact ⟨a,bs,rfl,s.seq hs,k _ _ F H (.refl s) (qdb _) hq⟩
end
section
variable {X:Cx}{elt target iter cnd:Expr}{scope:Scope}{pos py spos:Pos}{caps own:List Str}{ix:List Nat}{Wi:WF}{G:WG}{Wt:WT}{We:WE}{i:Nat}{y:Str}
end
end
section
section
variable {X:Cx}{b:Expr}{Wb:WE}{pos px:Pos}
end
end
section
section
variable {X:Cx}{Ex:St->XK}{pos:Pos}{Wt:WX->WS}
end
end
end L2
namespace L2
open PySem PySem.Spec PyProof.Rows PySem.W
section
structure OrdN (n:Nat) (lt:Nat->Nat->Bool):Prop where
 irr : ∀ i,lt i i=false
 tr : ∀ i j k,i<n->j<n->k<n->lt i j=true->lt j k=true->lt i k=true
 tot : ∀ i j,i<n->j<n->i≠j->lt i j=true\/lt j i=true
structure PmN (n:Nat) (p:Array Nat):Prop where
 s:p.size=n
 p:p.toList.Perm (Q1 n)
section
variable {n:Nat}{lt:Nat->Nat->Bool}{p:Array Nat}
def PmN.get (h:PmN n p) {k:Nat} (hk:k<n):p[k]?=some (p.getD k 0):=by
 have:k<p.size:=by rw [h.s];exact hk
 rw [Y0 this];simp [Qma,this]
def PmN.bd (h:PmN n p) {k:Nat} (hk:k<n):p.getD k 0<n:=by
 have e:=h.get hk;have:p.getD k 0 ∈ p.toList:=by
  rw [<- Qay] at e;exact Qj e
 exact Q6.mp (h.p.mem_iff.mp this)
def PmN.inj (h:PmN n p) {i j:Nat} (hi:i<n) (hj:j<n) (ne:i≠j):p.getD i 0≠p.getD j 0:=fun z=>by
 have nd:p.toList.Nodup:=(h.p.nodup_iff).mpr Qgi;have e1:=h.get hi;have e2:=h.get hj;rw [<- Qay] at e1 e2;rw [z] at e1;have l1:i<p.toList.length:=by rw [Z1,h.s];exact hi
 exact ne ((Qbb l1 nd).mp (by rw [e1,e2]))
def PmN.of (h:PmN n p) {q:Array Nat} (hq:q.Perm p):PmN n q:=by
 have e:=Array.perm_iff_toList_perm.mp hq;refine ⟨?_,e.trans h.p⟩;rw [<- h.s];have:=e.length_eq;rw [Z1,Z1] at this;exact this
def SrtN (lt:Nat->Nat->Bool) (p:Array Nat) (m:Nat):Prop := ∀ k,1<=k->k<m->lt (p.getD (k-1) 0) (p.getD k 0)=true
def DscN (lt:Nat->Nat->Bool) (p:Array Nat) (m:Nat):Prop := ∀ k,1<=k->k<m->lt (p.getD k 0) (p.getD (k-1) 0)=true
def SrtN.pair (o:OrdN n lt) (h:PmN n p) {m:Nat} (hm:m<=n) (s:SrtN lt p m) {i:Nat} : ∀ (d:Nat),i+d+1<m->lt (p.getD i 0) (p.getD (i+d+1) 0)=true
 | 0,hd=>by have:=s (i+1) (by omega) (by omega);exact this
 | d+1,hd=>by
  have a:=SrtN.pair o h hm s (i:=i) d (by omega);have b:=s (i+d+2) (by omega) (by omega);exact o.tr _ _ _ (h.bd (by omega)) (h.bd (by omega)) (h.bd (by omega)) a b
def SrtN.lt2 (o:OrdN n lt) (h:PmN n p) {m:Nat} (hm:m<=n) (s:SrtN lt p m) {i j:Nat} (hij:i<j) (hj:j<m):lt (p.getD i 0) (p.getD j 0)=true:=by
 have:=SrtN.pair o h hm s (i:=i) (j-i-1) (by omega);rw [show i+(j-i-1)+1=j by omega] at this;exact this
def OrdN.flip (o:OrdN n lt) {i j:Nat} (hi:i<n) (hj:j<n) (ne:i≠j) (a:lt i j=false):lt j i=true:=by
 rcases o.tot i j hi hj ne with z|z
 ·rw [a] at z;cases z
 ·exact z
def qyk {m k:Nat} (h:PmN n p) (hm:m<=n) (hk:k<n):(kas_rev p 0 m).getD k 0=if k<m then p.getD (m-1-k) 0 else p.getD k 0:=by
 have hz:(kas_rev p 0 m).size=n:=by unfold kas_rev;rw [mirror_size];exact h.s
 have e:(kas_rev p 0 m)[k]?=some ((kas_rev p 0 m).getD k 0):=by
  have:k<(kas_rev p 0 m).size:=by rw [hz];exact hk
  rw [Y0 this];simp [Qma,this]
 have e2:=getElem?_mirror_all (xs:=p) (i:=0) (j:=m) (by rw [h.s];exact hm) k;have e3:(kas_rev p 0 m)[k]?=if 0<=k/\k<m then p[0+m-1-k]? else p[k]?:=e2
 rw [e] at e3;by_cases q:k<m
 ·rw [if_pos ⟨Y9 _,q⟩,show 0+m-1-k=m-1-k by omega,h.get (show m-1-k<n by omega)] at e3;rw [if_pos q];exact Qx e3
 ·rw [if_neg (by omega),h.get hk] at e3;rw [if_neg q];exact Qx e3
def zagm {m:Nat} (h:PmN n p):PmN n (kas_rev p 0 m):=h.of (mirror_perm _ _ _ _)
def zaje {m:Nat} (h:PmN n p) (hm:m<=n) (d:DscN lt p m):SrtN lt (kas_rev p 0 m) m:=fun k h1 h2=>by
 rw [qyk h hm (by omega),qyk h hm (by omega),if_pos (by omega),if_pos h2];have:=d (m-k) (by omega) (by omega);rw [show m-1-(k-1)=m-k by omega,show m-1-k=m-k-1 by omega];exact this
end
section
variable {n:Nat}{lt:Nat->Nat->Bool}{cmp:Nat->Nat->(Bool->Ql->Prop)->Ql->Prop}{s:Ql}
def qxq (o:OrdN n lt) (hc : ∀ i j C,i<n->j<n->C (lt i j) s->cmp i j C s) {p:Array Nat} (h:PmN n p) {Q:Nat->Ql->Prop} : ∀ (f a:Nat),1<=a->a+f<=n->SrtN lt p a->(∀ m,a<=m->m<=a+f->SrtN lt p m->(m<a+f->lt (p.getD m 0) (p.getD (m-1) 0)=true)->Q m s)->(kas_asc p f a).kasWp cmp Q s
 | 0,a,h1,h2,hS,k=>k a (Qz _) (by omega) hS (by omega)
 | f+1,a,h1,h2,hS,k=>by
  refine hc _ _ _ (h.bd (by omega)) (h.bd (by omega)) ?_;cases e:lt (p.getD a 0) (p.getD (a-1) 0) with
  | true=>exact k a (Qz _) (by omega) hS (fun _=>e)
  | false =>
   show (kas_asc p f (a+1)).kasWp cmp Q s;refine qxq o hc h f (a+1) (by omega) (by omega) (fun k' q1 q2=>?_) fun m m1 m2 m3 m4=>k m (by omega) (by omega) m3 (fun z=>m4 (by omega));by_cases z:k'<a
   ·exact hS k' q1 z
   ·have:k'=a:=by omega
    subst this;exact o.flip (h.bd (by omega)) (h.bd (by omega)) (h.inj (by omega) (by omega) (by omega)) e
def qyj (o:OrdN n lt) (hc : ∀ i j C,i<n->j<n->C (lt i j) s->cmp i j C s) {p:Array Nat} (h:PmN n p) {Q:Array Nat×Nat×Nat->Ql->Prop} : ∀ (f a:Nat),1<=a->a+f<=n->DscN lt p a->(∀ m,a<=m->m<=a+f->DscN lt p m->Q (p,m,0) s)->(kas_desc f p a 0).kasWp cmp Q s
 | 0,a,h1,h2,hS,k=>k a (Qz _) (by omega) hS
 | f+1,a,h1,h2,hS,k=>by
  refine hc _ _ _ (h.bd (by omega)) (h.bd (by omega)) ?_;cases e:lt (p.getD a 0) (p.getD (a-1) 0) with
  | true =>
   show (kas_desc f p (a+1) 0).kasWp cmp Q s;refine qyj o hc h f (a+1) (by omega) (by omega) (fun k' q1 q2=>?_) fun m m1 m2 m3=>k m (by omega) (by omega) m3;by_cases z:k'<a
   ·exact hS k' q1 z
   ·have:k'=a:=by omega
    subst this;exact e
  | false =>
   refine hc _ _ _ (h.bd (by omega)) (h.bd (by omega)) ?_;rw [o.flip (h.bd (by omega)) (h.bd (by omega)) (h.inj (by omega) (by omega) (by omega)) e];exact k a (Qz _) (by omega) hS
def zaji (o:OrdN n lt) (hc : ∀ i j C,i<n->j<n->C (lt i j) s->cmp i j C s) {p:Array Nat} (h:PmN n p) {Q:Nat×Array Nat->Ql->Prop}{m:Nat} (h1:1<=m) (hm:m<=n) (d:DscN lt p m) (k : ∀ m' p',m'<=n->PmN n p'->SrtN lt p' m'->Q (m',p') s):(kas_tail3 m n p).kasWp cmp Q s:=by
 unfold kas_tail3;rw [Qcn];exact qxq o hc (zagm h) _ _ h1 (by omega) (zaje h hm d) fun m' q1 q2 q3 _=>k m' _ (by omega) (zagm h) q3
def zaet (o:OrdN n lt) (hc : ∀ i j C,i<n->j<n->C (lt i j) s->cmp i j C s) {p:Array Nat} (h:PmN n p) (hn:2<=n) {Q:Nat×Array Nat->Ql->Prop} (k : ∀ m' p',m'<=n->PmN n p'->SrtN lt p' m'->Q (m',p') s):(kas_count n p).kasWp cmp Q s:=by
 unfold kas_count;rw [Qcn];refine qxq o hc h _ 1 (Qz _) (by omega) (fun k' q1 q2=>by omega) fun m m1 m2 m3 m4=>?_;by_cases e:m=n
 ·subst e;rw [if_pos (beq_self_eq_true m)];exact k m p (Qz _) h m3
 ·rw [if_neg (by simpa using e)];by_cases g:m>1
  ·rw [if_pos g];refine hc _ _ _ (h.bd (by omega)) (h.bd (by omega)) ?_;rw [m3.lt2 o h (show m<=n by omega) (show 0<m-1 by omega) (by omega)];exact k m p (by omega) h m3
  ·rw [if_neg g];have e1:m=1:=by omega
   subst e1;unfold kas_descPart;rw [Qcn];have d2:DscN lt p 2:=fun k' q1 q2=>by
    have:k'=1:=by omega
    subst this;exact m4 (by omega)
   exact qyj o hc h (n-2) 2 (by omega) (by omega) d2 fun m' q1 q2 q3=>show (kas_tail3 m' n p).kasWp cmp Q s from zaji o hc h (by omega) (by omega) q3 k
def qoc (o:OrdN n lt) (hc : ∀ i j C,i<n->j<n->C (lt i j) s->cmp i j C s) {p:Array Nat} (h:PmN n p) {Q:Nat->Ql->Prop}{k:Nat} (hk:k<n) (hS:SrtN lt p k)
 (q : ∀ l,l<=k->(∀ i,i<l->lt (p.getD i 0) (p.getD k 0)=true)->(∀ i,l<=i->i<k->lt (p.getD k 0) (p.getD i 0)=true)->Q l s) : ∀ (f l r:Nat),l<=r->r<=k->r-l<=f->(∀ i,i<l->lt (p.getD i 0) (p.getD k 0)=true)->(∀ i,r<=i->i<k->lt (p.getD k 0) (p.getD i 0)=true)->(kas_place p k f l r).kasWp cmp Q s
  | 0,l,r,h1,h2,h3,h4,h5=>q l (by omega) h4 (fun i a b=>h5 i (by omega) b)
  | f+1,l,r,h1,h2,h3,h4,h5=>by
   unfold kas_place;by_cases z:l>=r
   ·rw [if_pos z];exact q l (by omega) h4 (fun i a b=>h5 i (by omega) b)
   ·rw [if_neg z];have c1:(l+r)/2<k:=by omega
    refine hc _ _ _ (h.bd hk) (h.bd (by omega)) ?_;cases e:lt (p.getD k 0) (p.getD ((l+r)/2) 0) with
    | true =>
     show (kas_place p k f l ((l+r)/2)).kasWp cmp Q s;refine qoc o hc h hk hS q f l _ (by omega) (by omega) (by omega) h4 fun i a b=>?_;by_cases z:i=(l+r)/2
     ·rw [z];exact e
     ·exact o.tr _ _ _ (h.bd hk) (h.bd (by omega)) (h.bd (by omega)) e (hS.lt2 o h (by omega) (show (l+r)/2<i by omega) b)
    | false =>
     show (kas_place p k f ((l+r)/2+1) r).kasWp cmp Q s;have e':=o.flip (h.bd hk) (h.bd (show (l+r)/2<n by omega)) (h.inj hk (by omega) (by omega)) e;refine qoc o hc h hk hS q f _ r (by omega) h2 (by omega) (fun i a=>?_) h5;by_cases z:i=(l+r)/2
     ·rw [z];exact e'
     ·exact o.tr _ _ _ (h.bd (by omega)) (h.bd (by omega)) (h.bd hk) (hS.lt2 o h (by omega) (show i<(l+r)/2 by omega) c1) e'
def qzl {p:Array Nat} (h:PmN n p) {k l i:Nat} (hk:k<n) (hl:l<=k) (hi:i<n):(bubble p k (k-l)).getD i 0=if i=l then p.getD k 0 else if l<i/\i<=k then p.getD (i-1) 0 else p.getD i 0:=by
 have hz:(bubble p k (k-l)).size=n:=by rw [bubble_size];exact h.s
 have e:(bubble p k (k-l))[i]?=some ((bubble p k (k-l)).getD i 0):=by
  have:i<(bubble p k (k-l)).size:=by rw [hz];exact hi
  rw [Y0 this];simp [Qma,this]
 have e2:=getElem?_bubble (xs:=p) (src:=k) (by rw [h.s];exact hk) (k-l) (by omega) i;rw [e,show k-(k-l)=l by omega] at e2;by_cases q1:i=l
 ·rw [if_pos q1,h.get hk] at e2;rw [if_pos q1];exact Qx e2
 ·rw [if_neg q1] at e2;rw [if_neg q1];by_cases q2:l<i/\i<=k
  ·rw [if_pos q2,h.get (show i-1<n by omega)] at e2;rw [if_pos q2];exact Qx e2
  ·rw [if_neg q2,h.get hi] at e2;rw [if_neg q2];exact Qx e2
def zafr (o:OrdN n lt) (hc : ∀ i j C,i<n->j<n->C (lt i j) s->cmp i j C s) {Q:Array Nat->Ql->Prop} (q : ∀ p,PmN n p->SrtN lt p n->Q p s) : ∀ (f:Nat) (p:Array Nat) (k:Nat),PmN n p->1<=k->k+f=n->SrtN lt p k->(kas_bin f p k).kasWp cmp Q s
 | 0,p,k,h,_,e,hS=>by
  have:k=n:=by omega
  subst this;exact q p h hS
 | f+1,p,k,h,h1,e,hS=>by
  unfold kas_bin;rw [Qcn];have hk:k<n:=by omega
  refine qoc o hc h hk hS (fun l hl a b=>?_) k 0 k (Y9 _) (Qz _) (by omega) (fun i z=>by omega) (fun i z1 z2=>by omega);refine zafr o hc q f _ (k+1) (h.of (bubble_perm _ _ _)) (by omega) (by omega) fun i i1 i2=>?_;rw [qzl h hk hl (show i-1<n by omega),qzl h hk hl (show i<n by omega)];by_cases c1:i<l
  ·rw [if_neg (by omega),if_neg (by omega),if_neg (by omega),if_neg (by omega)];exact hS i i1 (by omega)
  ·by_cases c2:i=l
   ·rw [if_neg (by omega),if_neg (by omega),if_pos c2];exact a (i-1) (by omega)
   ·by_cases c3:i-1=l
    ·rw [if_pos c3,if_neg c2,if_pos ⟨by omega,by omega⟩];exact b (i-1) (by omega) (by omega)
    ·rw [if_neg c3,if_pos ⟨by omega,by omega⟩,if_neg c2,if_pos ⟨by omega,by omega⟩];exact hS (i-1) (by omega) (by omega)
def qzq (o:OrdN n lt) (hc : ∀ i j C,i<n->j<n->C (lt i j) s->cmp i j C s) (hn:2<=n) {Q:Array Nat->Ql->Prop} (q : ∀ p,PmN n p->SrtN lt p n->Q p s):(kas_sort n).kasWp cmp Q s:=by
 unfold kas_sort;rw [Qcn];have h0:PmN n (Qcd (Q1 n)):=⟨by simp,by simp⟩
 refine zaet o hc h0 hn fun m p h1 hp hS=>?_;show ((if m<n then kas_bin (n-max m 1) p (max m 1) else .ret p).kasWp cmp Q s);by_cases z:m<n
 ·rw [if_pos z];refine zafr o hc q _ p _ hp (by omega) (by omega) fun k k1 k2=>hS k k1 (by omega)
 ·rw [if_neg z];have:m=n:=by omega
  subst this;exact q p hp hS
end
end
section
section
variable {prog:Zo}{w:World}{A:Z2}{R:Result->Ql->Prop}{s:Ql}
def zaax {a c:Addr}{args:Args}{o oc:Obj}{fd:Jo}{body:Expr}{vs:Array Value}{q:Str}{t:Tok} (room:A.depth<Qap) (h1:s.heap.get? a=some o) (h2:o.data = .func fd) (h3:fd.scope.isCoroutine=false) (h4:fd.scope.isGenerator=false)
 (h5:fd.body = .expr body) (h6:fd.code = .ref c) (h7:s.heap.get? c=some oc) (h8:oc.data = .fields vs) (h9:vs[1]?=some (.str q t))
 (k:wpAny (model prog w) A.in1 (Qhs fd args) (fun bs s1=>wpAny (model prog w) A.in1 (Qie fd.scope fd.globals fd.closure bs (q ++ ".<locals>.") (some a) (.ref c) none fd.builtins)
 (fun env s2=>s2.heap.NoLimit/\Qdv (model prog w) A (.expr body env) R s2) (fun e s'=>R (.error e) s') s1) (fun e s'=>R (.error e) s') s):Qdv (model prog w) A (.call (.ref a) args) R s:=by
  apply codeAny_of_tree;have go:wpAny (model prog w) A.in1 (callAny (.ref a) args) (fun r s'=>match r with | .done f=>R (.ok f) s' | .again c'=>c'.quiet=true/\Qdv (model prog w) A c' R s') (fun e s'=>R (.error e) s') s:=by
   simp only [callAny];refine Qd (wpAny_load h1 ?_);simp only [h2,callFunction,h3,h4,h5,h6];refine Qd (m:=field (.ref c) 1) (Yj h7 h8 h9 (Qd (Qo ?_)));refine Qd (Vo k (fun bs s1 k1=>?_) fun _ _ z=>z);refine Qd (Vo k1 (fun env s2 k2=>?_) fun _ _ z=>z);exact Qd (wpAny_enterFrame k2.1 room (Qo ⟨rfl,k2.2⟩))
  exact go
end
def cxL (P:Zo) (w:World) (K:Qe) (mg:Str->Option Value) (base:Heap) (q:Str) (scope:Scope) (f:Addr) (cd:Value) (cl:List (Str×Addr)) (N:List Str) (A:Z2) (outer:List Env) (s:Ql) (H:Hp):Cx where
 prog:=P
 w:=w
 K:=K
 mg:=mg
 base:=base
 A:=A.deeper (envX q scope s.heap.objs.size f cd cl)
 N:=N
 s₀:=s
 H₀:=H
 env:=envX q scope s.heap.objs.size f cd cl
 outer:=outer
 stack:=envX q scope s.heap.objs.size f cd cl::outer
 ex:=[]
 fn:=fun _=>false
 calm:=true
 pn:=[]
 xe:=fun _ _=>False
structure LamScope (scope:Scope) (x y:Str):Prop where
 kind:scope.kind = .function
 co:scope.isCoroutine=false
 gen:scope.isGenerator=false
 px:scope.names.lookup x=some .local
 py:scope.names.lookup y=some .free
 ne:x≠y
 nocell : ∀ z ∈ scope.names,z.2 ≠ .cell
 free : ∀ z,scope.names.lookup z=some .free->z=y
section
variable {P:Zo}{w:World}{K:Qe}{mg:Str->Option Value}{base:Heap}{q:Str}{scope:Scope}{f cg:Addr}{cd ug u:Value}{x y:Str}{A:Z2}{outer:List Env}{s:Ql}{H:Hp}{v vg:V}{h1:Heap}{tk:Nat}
def zaie (S:LamScope scope x y) (hd:A.handled=none) (e0:Env0 P w K mg base A outer s H) (hc:s.heap.IsCell cg (some ug)) (hn:H cg=none) (rg:RelV vg ug) (ru:RelV v u)
 (ns:h1.Ns s.heap.objs.size (fun z=>([(x,u)]:List (Str×Value)).reverse.lookup z)) (hk : ∀ b o,s.heap.get? b=some o->h1.get? b=some o) :
 Inv (cxL P w K mg base q scope f cd [(y,cg)] [x,y] A outer s H) [] [some v,some vg] H { s with heap:=h1,toks:=tk }:=by
  have noA : ∀ b:Addr,b ∉ (cxL P w K mg base q scope f cd [(y,cg)] [x,y] A outer s H).ex:=fun b z=>absurd (show b ∈ ([]:List Addr) from z) (by simp);have look : ∀ z c,(cxL P w K mg base q scope f cd [(y,cg)] [x,y] A outer s H).env.cells.lookup z=some c->z=y/\c=cg:=fun z c h=>by
   have h:([(y,cg)]:List (Str×Addr)).lookup z=some c:=h;rw [Yk] at h;cases e:z==y with
   | true=>rw [e] at h;exact ⟨eq_of_beq e,(Qx h).symm⟩
   | false=>rw [e] at h;cases h
  have lky:([(y,cg)]:List (Str×Addr)).lookup y=some cg:=by rw [Yk,beq_self_eq_true]
  refine ⟨⟨e0.mod,S.kind,rfl,rfl,Qz _,fun z z' c a b=>(look z c a).1.trans (look z' c b).1.symm,fun z hz=>?_,fun z c a b=>(by cases a),fun _=>hd,Qht e0.frames,.inr ⟨rfl,rfl⟩,fun b z=>absurd z (noA b),e0.bs,e0.bsz,fun b _ _=>noA b,fun b z=>absurd z (noA b),e0.funs,e0.frf⟩,
   rfl,e0.bare,Un.kept hk,⟨_,ns,fun i z v' a1 a2 a3=>?_⟩,fun z c a=>?_,e0.hok.fresh (Qz _),fun z c a=>?_,fun p hp=>absurd (show p ∈ ([]:List (Addr×Obj)) from hp) (by simp),e0.hok.kept hk,rfl⟩
  ·have hz:scope.names.lookup z=some .cell\/scope.names.lookup z=some .free:=hz;rcases hz with hz|hz
   ·exact absurd rfl (S.nocell _ (Vx hz))
   ·rw [S.free z hz];exact ⟨cg,lky⟩
  ·have a1:([x,y]:List Str)[i]?=some z:=a1
   match i,a1,a2 with
   | 0,a1,a2 =>
    have e1:x=z:=Qx a1;have e2:v=v':=Qx (Qx a2);subst e1;subst e2;refine ⟨u,ru,.inl ⟨S.px,?_⟩⟩;show ([(x,u)]:List (Str×Value)).lookup x=some u;rw [Yk,beq_self_eq_true]
   | 1,a1,a2 =>
    have e1:y=z:=Qx a1;have e2:vg=v':=Qx (Qx a2);subst e1;subst e2;obtain ⟨oc,ho,hd'⟩:=hc;exact ⟨ug,rg,.inr ⟨.inr S.py,cg,lky,oc,hk _ _ ho,hd'⟩⟩
   | i+2,a1,a2=>cases a1
  ·rw [(look z c a).2];obtain ⟨oc,ho,hd'⟩:=hc;exact ⟨_,oc,hk _ _ ho,hd'⟩
  ·rw [(look z c a).2];exact hn
def zakj {nm qual:Str}{params:Qen}{body:Expr}{pm ct:Value}{c:Addr}{o oc:Obj}{vs:Array Value}{t:Tok}{te:TE}{Q:VK}{E:XK} (S:LamScope scope x y) (hd:A.handled=none) (e0:Env0 P w K mg base A outer s H) (room:A.depth<Qap)
 (ho:s.heap.get? f=some o) (h2:o.data = .func (kla_fn nm qual params body scope [(y,cg)] pm (.ref c) ct)) (hb:Qhs (kla_fn nm qual params body scope [(y,cg)] pm (.ref c) ct) ⟨[u],[]⟩=pure [(x,u)])
 (h7:s.heap.get? c=some oc) (h8:oc.data = .fields vs) (h9:vs[1]?=some (.str q t)) (hc:s.heap.IsCell cg (some ug)) (hn:H cg=none) (rg:RelV vg ug) (ru:RelV v u)
 (he:PE (cxL P w K mg base q scope f (.ref c) [(y,cg)] [x,y] A outer s H) body te) (h:te [some v,some vg] H Q):Qdv (model P w) A (.call (.ref f) ⟨[u],[]⟩) (CR CX0 outer P w H s Q E) s:=by
  refine zaax room ho h2 S.co S.gen rfl rfl h7 h8 h9 ?_;rw [hb];refine Qo (wpAny_newFunctionEnv S.nocell (fun z hz=>by rw [Qw.mp hz];exact S.px) (fun h1 ns sb=>?_) S.kind);have hk : ∀ b o,s.heap.get? b=some o->h1.get? b=some o:=fun b o e=>sb.extBut b o (Qq (Qp e)) (Qf _ e);refine ⟨(e0.mod.nolimit.keeps fun b o e=>(e0.bs b o e).1).keeps hk,?_⟩;have I:=zaie (q:=q) (f:=f) (cd :=.ref c) (tk:=s.toks+([(x,u)]:List (Str×Value)).length) S hd e0 hc hn rg ru ns hk;refine kla_codeExpr (Vo (he [] _ _ H Q I h) (fun r s' z=>?_) fun _ _ z=>z.elim);obtain ⟨v',H',I',r',q'⟩:=z;exact ⟨v',H',I'.os,I'.bare,I'.base,I'.hok,r',q'⟩
end
end
section
def TbS (tb:Addr) (H:Hp):Prop := ∃ ps,H tb=some (.tbl ps)/\GoodT H ps
def TbS.of {X:Cx}{pins:List (Addr×Obj)}{σ:St}{H:Hp}{s:Ql}{tb:Addr} (I:Inv X pins σ H s) (h:TbS tb X.H₀):TbS tb H:=by
 obtain ⟨ps,e,g⟩:=h;obtain ⟨more,e',g'⟩:=I.base.tbls tb ps e;exact ⟨_,e',(g.mono I.base.frzs).app g'⟩
structure TbGo (tb:Addr) (H H':Hp):Prop where
 h : ∀ b o,b≠tb->H b=some o->H' b=some o
 ts:TbS tb H'
def TbGo.same {tb:Addr}{H H':Hp} (g:TbGo tb H H') (t:TbS tb H):Same H H':=fun b o e=>by
 by_cases z:b=tb
 ·subst z;obtain ⟨ps,e1,_⟩:=t;obtain ⟨ps',e2,_⟩:=g.ts;rw [e1] at e;cases e;rw [e2];exact ⟨fun n=>n.elim,fun _ _=>⟨ps',rfl⟩⟩
 ·exact .of (g.h b o z e)
section
variable {X:Cx}{pins:List (Addr×Obj)}{σ:St}{H:Hp}{s:Ql}{tb c0:Addr}{nm qual:Str}{params:Qen}{body:Expr}{scope:Scope}{clos:List (Str×Addr)}{pos:Pos}{line:Nat}{Q:Value->Ql->Prop}
def Inv.pinOne {f:Addr}{o:Obj} (I:Inv X pins σ H s) (h1:s.heap.get? f=some o) (h2:H f=none) (h3:f≠X.env.locals) (h4:f ∉ X.fs) (h5 : ∀ v,o.data ≠ .cell v):Inv X (pins++[(f,o)]) σ H s:=I.pins_of fun p hp=>by
 rcases Zl.mp hp with z|z
 ·exact I.pin p (Q8 _ z)
 ·rw [Qw.mp z];exact ⟨h1,h2,h3,h4,h5⟩
def zafk (I:Inv X pins σ H s) (T:TbS tb H) (hcode:X.env.code = .ref c0) (C:CodeHd X.base c0 tb) (hb:X.base.BuiltinsAt X.mg tb) (hcl:closureFor scope X.env=pure clos)
 (k : ∀ f c ct pm oc vs q t s' H',Inv X (pins++[(f,{ cls :=.type "function",data :=.func (kla_fn nm qual params body scope clos pm (.ref c) ct) })]) σ H' s'->TbGo tb H H'->(∀ b,H' b≠none->H b≠none\/s.heap.objs.size<=b)->s.heap.objs.size<=f->(∃ u,H' c=some (.frz oc u))->oc.data = .fields vs->vs[1]?=some (.str q t)->Q (.ref f) s') :
  wpAny (model X.prog X.w) X.A (makeFunction nm qual params (.expr body) scope X.env [] [] [] pos line) Q X.xe s:=by
  obtain ⟨ps,et,g⟩:=T;have gt:s.heap.get? tb=some (tabObj ps):=(I.hok tb _ et)
  have hg:s.heap.Ns Ze X.mg:=I.mod.glob.keeps I.bk;have gP:Ze≠tb:=fun z=>by
   obtain ⟨o,es,ep,ho,_⟩:=I.mod.glob;have:=(I.bs _ _ ho).2;rw [z,et] at this;cases this
  obtain ⟨bm,ob,b1,b2,b3,b4,b5,b6⟩:=hb;have hb':s.heap.BuiltinsAt X.mg tb:=⟨bm,ob,b1,b2,b3,b4,I.bk _ _ b5,b6⟩
  have nL:X.env.locals≠tb:=fun z=>by have:=I.free;rw [z,et] at this;cases this
  have lts : ∀ f:Addr,s.heap.objs.size<=f->f≠X.env.locals/\f ∉ X.fs:=fun f hf=>by
   refine ⟨fun z=>?_,fun z=>?_⟩
   ·obtain ⟨m,⟨o,es,ep,ho,_⟩,_⟩:=I.loc;have:=Qp ho;rw [<- z] at this;exact absurd this (Vy.mpr hf)
   ·obtain ⟨_,o,ho,_⟩:=I.ok.funs.mem z;have a1:=Qp ho;obtain ⟨o',ho'⟩:=I.base.there f o ho (fun zz=>(I.ok.exfs f zz) z);exact absurd (Qp ho') (Vy.mpr hf)
  cases ea:Qcs pos ps.toList with
  | some cv =>
   refine kla_makeFunctionHit (mg:=X.mg) hcl I.ok.glob hg hcode (C.keeps I.bk) gt g.tr ea hb' fun ct h' tk hk hs=>?_;obtain ⟨c,oc,u,ev,ec,vs,q,t,d1,d2⟩:=g.co pos cv ea;subst ev;have hk2 : ∀ b o,s.heap.get? b=some o->(h'.push { cls :=.type "function",data :=.func (kla_fn nm qual params body scope clos ((X.mg "__name__").getD .none) (.ref c) ct) }).get? b=some o:=fun b o e=>Qf _ (hk b o e);obtain ⟨l1,l2⟩:=lts _ hs;exact k h'.objs.size c ct _ oc vs q t _ H ((I.kept (t':=tk) hk2).pinOne (Qy _ rfl) (I.hok.fresh hs) l1 l2 (fun v z=>by cases z)) ⟨fun b o _ e=>e,ps,et,g⟩ (fun b hb => .inl hb) hs ⟨u,ec⟩ d1 d2
  | none =>
   refine kla_makeFunction (mg:=X.mg) hcl I.ok.glob hg hcode (C.keeps I.bk) gt g.tr ea gP hb' fun c ct h' tk hx hge hlt hrec htb=>?_;obtain ⟨c2,oc,vs,t,e2,hoc,d1,d2⟩:=hrec;cases e2;have ne:c≠tb:=fun z=>absurd (Qp gt) (Vy.mpr (z ▸ hge));have hc0:H c=none:=I.hok.fresh hge;obtain ⟨more,em⟩ : ∃ more,more = #[Qdr pos.line,Qdr pos.col,Z3 c]:=⟨_,rfl⟩
   rw [<- em] at htb;obtain ⟨H1,eH⟩ : ∃ H1,H1=upd (upd H tb (.tbl (ps++more))) c (.frz oc (.own 0)):=⟨_,rfl⟩
   have u1:H1 c=some (.frz oc (.own 0)):=by rw [eH,ql]
   have u2:H1 tb=some (.tbl (ps++more)):=by rw [eH,qj (Yb ne),ql]
   have u3 : ∀ b,b≠c->b≠tb->H1 b=H b:=fun b h1 h2=>by rw [eH,qj h1,qj h2]
   have old : ∀ b o,H b=some o->b≠c:=fun b o e z=>by rw [z,hc0] at e;cases e
   have gm:GoodT H1 more:=⟨by rw [em];exact trivial,fun p v h=>by
    rw [em] at h;have h:(if (pos.line:Int)==p.line&&(pos.col:Int)==p.col then some (Z3 c) else Qcs p [])=some v:=h;split at h
    ·exact ⟨c,oc,_,(Qx h).symm,u1,vs,qual,t,d1,d2⟩
    ·simp [Qcs] at h⟩
   have gf : ∀ b o u,H b=some (.frz o u)->H1 b=some (.frz o u):=fun b o u e=>by
    rw [u3 b (old b _ e) fun z=>by rw [z,et] at e;cases e];exact e
   have hk2 : ∀ b o,b≠tb->s.heap.get? b=some o->(h'.push (kla_obj nm qual params body scope clos ((X.mg "__name__").getD .none) c ct)).get? b=some o:=fun b o hb e=>Qf _ (hx b o hb e);have szs:s.heap.objs.size<=h'.objs.size:=Zr hge (Z6 hlt);have I1:Inv X pins σ H1 { s with heap:=h'.push (kla_obj nm qual params body scope clos ((X.mg "__name__").getD .none) c ct),toks:=tk }:=by
    refine Inv.step (g':=s.gens) (d':=s.drawn) (t':=tk) (ch:=[]) I (fun b z=>nomatch z) (fun b o _ _ _ e n=>hk2 b o (fun z=>by rw [z,et] at n;cases n) e) (fun b o _ _ _ e n=>⟨o.slots,hk2 b o (fun z=>by rw [z,et] at n;cases n) e⟩)
     (fun b o _ e n=>?_) (fun b o _ e=>?_) (fun b xs e=>?_) (fun b o u e=>gf b o u e) (fun b qs e=>?_) (fun m hm=>?_) (fun b u e=>?_) I.bare
    ·rw [u3 b (fun z=>absurd (Qp e) (Vy.mpr (z ▸ hge))) (fun z=>by rw [z,et] at n;cases n)];exact n
    ·by_cases z:b=tb
     ·rw [z];exact ⟨_,Qf _ htb⟩
     ·exact ⟨o,hk2 b o z e⟩
    ·rw [u3 b (old b _ e) fun z=>by rw [z,et] at e;cases e];exact e
    ·by_cases z:b=tb
     ·rw [z,et] at e;cases e;exact ⟨more,by rw [z];exact u2,gm⟩
     ·exact ⟨#[],by rw [u3 b (old b _ e) z,e];simp,.nil⟩
    ·exact (hm.extBut hx nL).push _
    ·by_cases zc:b=c
     ·subst zc;rw [u1] at e;cases e;exact ⟨Qf _ hoc,oc,Qf _ hoc⟩
     ·by_cases zt:b=tb
      ·subst zt;rw [u2] at e;cases e;exact Qf _ htb
      ·rw [u3 b zc zt] at e;refine (I.hok b u e).stay (fun d ob hd z=>hk2 d ob (fun y=>?_) z) (fun d z=>?_) fun d xs z=>?_
       ·rcases hd with y2|y2
        ·exact zt (y2.symm.trans y)
        ·rw [y,et] at y2;cases y2
       ·rw [u3 d (old d _ z) fun y=>by rw [y,et] at z;cases z];exact z
       ·rw [u3 d (old d _ z) fun y=>by rw [y,et] at z;cases z];exact z
   obtain ⟨l1,l2⟩:=lts _ szs;have fn:H1 h'.objs.size=none:=by
    rw [u3 _ (Yv hlt) fun z=>absurd (Qp gt) (Vy.mpr (z ▸ szs))];exact I.hok.fresh szs
   refine k h'.objs.size c ct _ oc vs qual t _ H1 (I1.pinOne (Qy _ rfl) fn l1 l2 (fun v z=>by cases z)) ⟨fun b o hb e=>?_,_,u2,(g.mono gf).app gm⟩ (fun b hb=>?_) szs ⟨_,u1⟩ d1 d2
   ·rw [u3 b (old b _ e) hb];exact e
   ·by_cases zc:b=c
    ·exact .inr (zc ▸ hge)
    ·by_cases zt:b=tb
     ·left;rw [zt,et];exact fun z=>by cases z
     ·left;rw [u3 b zc zt] at hb;exact hb
end
end
section
def qkh (x y:Nat->Int):Nat->Nat->Bool
 | 0,_=>false
 | k+1,i=>if x i==y i then qkh x y k (i+1) else decide (x i<y i)
open AutoSeq1 (wpAny_loadPart') in
open MeetsSeq MeetsSeq3 in
def zaig (l b:Addr) (items items2:Array Value) (n n2:Nat) (hsz:items.size=items2.size) (x y:Nat->Int) (hx : ∀ j (h:j<items.size),∃ t,items[j] = .int (x j) t) (hy : ∀ j (h:j<items2.size),∃ t,items2[j] = .int (y j) t) (k:Nat) :
 ∀ i:Nat,items.size-i=k->Meets (Builtin.«list.__eq__.loop» ⟨[.ref l,.ref b,Qdr i,Qdr 0],[]⟩)
 (fun _ R s=>s.heap.get? l=some { cls :=.type "list",dict:=none,data :=.seq items n,slots := #[] }/\s.heap.get? b=some { cls :=.type "list",dict:=none,data :=.seq items2 n2,slots := #[] } /\
  R (.ok (.ret (.bool (qkh x y k i)))) s):=by
  induction k with
  | zero =>
   rintro i hk prog w A R ⟨hp,g,d,tk,os⟩ ⟨hl,hb,h⟩
   wp_walk using Yp hl,Yp hb
   rw [show items[((i:Nat):Int).toNat]?=none by simp;omega,show items2[((i:Nat):Int).toNat]?=none by simp;omega]
   wp_walk using Yp hl,Yp hb
   have e:decide (items.size<items2.size)=false:=decide_eq_false (by omega);show R (.ok (.ret (.bool (decide (items.size<items2.size))))) _;rw [e];exact h
  | succ k ih =>
   rintro i hk prog w A R ⟨hp,g,d,tk,os⟩ ⟨hl,hb,h⟩;have l1:i<items.size:=by omega
   have l2:i<items2.size:=by omega
   obtain ⟨t1,e1⟩:=hx i l1;obtain ⟨t2,e2⟩:=hy i l2;have g1:items[((i:Nat):Int).toNat]?=some (.int (x i) t1):=by rw [<- e1];simp [l1]
   have g2:items2[((i:Nat):Int).toNat]?=some (.int (y i) t2):=by rw [<- e2];simp [l2]
   wp_walk using Yp hl,Yp hb
   rw [g1,g2];refine Qd (wpAny_eqBool_int ?_);unfold qkh at h;cases q:(x i==y i) with
   | true =>
    rw [q] at h
    wp_walk
    rw [show ((i:Int)+1)=((i+1:Nat):Int) by push_cast;rfl];exact ⟨Qec plain_eq_loop _,Qac entry_eq_loop (by
     rw [V6 plain_eq_loop _];exact ih (i+1) (by omega) prog w A R _ ⟨hl,hb,h⟩)⟩
   | false =>
    rw [q] at h
    wp_walk using Yp hl,Yp hb
    rw [g1,g2];dsimp only;refine Qd (wpAny_lt_int ?_)
    wp_walk
    exact h
open AutoSeq1 (wpAny_loadPart') in
open MeetsSeq MeetsSeq3 in
def zakl (l b:Addr) (items items2:Array Value) (n n2:Nat) (hsz:items.size=items2.size) (x y:Nat->Int) (hx : ∀ j (h:j<items.size),∃ t,items[j] = .int (x j) t) (hy : ∀ j (h:j<items2.size),∃ t,items2[j] = .int (y j) t) :
 Meets (Builtin.«list.__lt__» ⟨[.ref l,.ref b],[]⟩)
 (fun _ R s=>s.heap.get? l=some { cls :=.type "list",dict:=none,data :=.seq items n,slots := #[] }/\s.heap.get? b=some { cls :=.type "list",dict:=none,data :=.seq items2 n2,slots := #[] } /\
  R (.ok (.ret (.bool (qkh x y items.size 0)))) s):=by
  rintro prog w A R ⟨hp,g,d,tk,os⟩ ⟨hl,hb,h⟩;have f3:=AutoSeq1.sub_list_list
  wp_walk using Yp hl,Yp hb
  exact ⟨Qec plain_eq_loop _,Qac entry_eq_loop (by
   rw [V6 plain_eq_loop _];exact zaig l b items items2 n n2 hsz x y hx hy _ 0 (by omega) prog w A R _ ⟨hl,hb,h⟩)⟩
def zamw {prog:Zo}{w:World}{A:Z2}{E:Value->Ql->Prop}{s:Ql}{l b:Addr}{items items2:Array Value}{n n2:Nat}{x y:Nat->Int}{Q:Bool->Ql->Prop} (hu:A.units<cLine) (hl:s.heap.get? l=some { cls :=.type "list",data :=.seq items n }) (hb:s.heap.get? b=some { cls :=.type "list",data :=.seq items2 n2 })
 (hsz:items.size=items2.size) (hx : ∀ j (h:j<items.size),∃ t,items[j] = .int (x j) t) (hy : ∀ j (h:j<items2.size),∃ t,items2[j] = .int (y j) t) (h:Q (qkh x y items.size 0) s) :
 wpAny (model prog w) A (keyLt' oneType' (.ref l) (.ref b)) Q E s:=by
 rw [keyLt'_oneType,oneLt'_eq];simp only [if_true];refine Qd (wpAny_cRoomFor hu (Qd (wpAny_callSpecialIfBound?_slot (T := "list") ⟨_,hl,rfl⟩ F.slot_list_lt (Qfs F.slot_list_lt ⟨_,hl,rfl⟩ F.entry_list_lt (F.args_list_lt_2 _ _) (zakl l b items items2 n n2 hsz x y hx hy) ⟨hl,hb,?_⟩))));exact Vf h
end
section
structure OwnA (X:Cx) (pins:List (Addr×Obj)) (a:Addr):Prop where
 l:a≠X.env.locals
 s:X.s₀.heap.objs.size<=a
 c : ∀ x c,X.env.cells.lookup x=some c->c≠a
 p : ∀ p ∈ X.pn++pins,p.1≠a
 f:a ∉ frs X.stack
section
variable {X:Cx}{pins:List (Addr×Obj)}{σ:St}{H:Hp}{s:Ql}
def qvy (I:Inv X pins σ H s) {a:Addr} (h:s.heap.objs.size<=a):OwnA X pins a:=by
 have lt : ∀ b o,s.heap.get? b=some o->b≠a:=fun b o e z=>absurd (Qp e) (Vy.mpr (z ▸ h));refine ⟨fun z=>?_,Zr I.sz h,fun x c e z=>?_,fun p hp z=>?_,fun z=>?_⟩
 ·obtain ⟨m,⟨o,es,ep,ho,_⟩,_⟩:=I.loc;exact lt _ _ ho z.symm
 ·obtain ⟨v,o,ho,_⟩:=I.cell x c e;exact lt _ _ ho z
 ·exact lt _ _ (I.pin p hp).1 z
 ·obtain ⟨_,o,ho,_⟩:=I.stack.mem z;exact lt _ _ ho rfl
def Inv.own (I:Inv X pins σ H s) {a:Addr} (o:OwnA X pins a) (hn:H a=none) {h':Heap}{t':Nat} (k : ∀ b u,b≠a->s.heap.get? b=some u->h'.get? b=some u):Inv X pins σ H { s with heap:=h',toks:=t' } :=
 I.turned (it:=a) k hn o.l (.inr o.s) o.c o.p
def KeyAt (b:Bool) (kl:Nat->List Int) (i:Nat) (r:Value) (H:Hp):Prop:=match b with
 | true => ∃ p,r = .ref p/\H p=some (.lst ((kl i).map V.int))
 | false => ∃ n t,r = .int n t/\kl i=[n]
def KeyAt.mono {b:Bool}{kl:Nat->List Int}{i:Nat}{r:Value}{H H':Hp} (h:KeyAt b kl i r H) (s:Same H H'):KeyAt b kl i r H':=by
 cases b with
 | true=>obtain ⟨p,e,hp⟩:=h;exact ⟨p,e,s.at hp⟩
 | false=>exact h
def qce {h:Heap}{a b:Addr}{u:Obj} (g:Obj->Obj) (hb:b≠a) (e:h.get? b=some u):(h.update a g).get? b=some u:=(Vh _ _ (Yb hb)).trans e
def qmt (X:Cx) (pins:List (Addr×Obj)) (σ:St) (A:Z2) (f:Value) (vs:List Value) (b:Bool) (kl:Nat->List Int) (G:Hp->Prop):Prop := ∀ (i:Nat) (u:Value) (H:Hp) (s:Ql),vs[i]?=some u->Inv X pins σ H s->G H ->
 wpAny (model X.prog X.w) A (call f [u]) (fun r s' => ∃ H',Inv X pins σ H' s'/\Un (frs X.stack) [] H H' s.heap s'.heap/\Same H H'/\G H'/\KeyAt b kl i r H') (fun _ _=>False) s
def qE (kl:Nat->List Int) (m:Nat) (i j:Nat):Bool:=qkh (fun k=>(kl i).getD k 0) (fun k=>(kl j).getD k 0) m 0
variable {A:Z2}{E:Value->Ql->Prop}{f:Value}{vs:List Value}{kl:Nat->List Int}{G:Hp->Prop}{m:Nat}{a kS:Addr}{e1:Nat}{b:Bool}{P:Qiz->Ql->Prop}
def qnd (X:Cx) (pins:List (Addr×Obj)) (σ:St) (vs:List Value) (kl:Nat->List Int) (G:Hp->Prop) (m:Nat) (a:Addr) (H:Hp) (P:Qiz->Ql->Prop):Prop :=
 ∀ (p:Array Nat) (H':Hp) (s':Ql) (c:Nat),PmN vs.length p->SrtN (qE kl m) p vs.length->Inv X pins σ H' s'->Same H H'->G H'->H' a=none->s'.heap.get? a=some (Vp "list" (p.toList.map fun i=>vs.getD i .none).toArray c)->P (.done (.ret .none)) s'
def qqt {ks:List Value}{ek:Nat}{p:Array Nat}{st:SortSt}{H0:Hp} (I:Inv X pins σ H s) (oa:OwnA X pins a) (ok:OwnA X pins kS) (na:H a=none) (nk:H kS=none) (ne:kS≠a) (h64:vs.length<64) (kz:ks.length<64) (ha:s.heap.get? a=some (Vp "list" #[] e1)) (hk:s.heap.get? kS=some (Vp "list" ks.toArray ek))
 (hp:PmN vs.length p) (hs:SrtN (qE kl m) p vs.length) (sm:Same H0 H) (g:G H) (hout:(arrOf st).map (·.2)=(p.toList.map fun i=>vs.getD i .none).toArray) (hf:Qkv st=none) (h:qnd X pins σ vs kl G m a H0 P) :
 wpAny (model X.prog X.w) A (ksk_tail a false e1 (.ref kS) st) P E s:=by
  unfold ksk_tail;dsimp only;rw [hout];have I1:=I.own (a:=kS) (t':=s.toks) (h':=s.heap.update kS (Zx fun _=>(#[]:Array Value))) ok nk fun b u hb e=>qce _ hb e;have ha1:(s.heap.update kS (Zx fun _=>(#[]:Array Value))).get? a=some (Vp "list" #[] e1):=qce _ (Yb ne) ha;have lz:(p.toList.map fun i=>vs.getD i Vb).toArray.size=vs.length:=by rw [Qr,Qk,Z1,hp.s]
  refine Qd (Qcv hk rfl ?_ (by rw [Qr,Zf];omega) (Y9 _));refine Qd (Qim ?_);refine Qd (Qil ha1 rfl ?_);refine Qd (Qcv ha1 rfl ?_ (Y9 _) (Zr (Qey lz) (by rw [Zf];omega)));rw [hf];simp only [bne_self_eq_false,Vs,if_false];have I2:=I1.own (a:=a) (t':=s.toks) (h':=(s.heap.update kS (Zx fun _=>(#[]:Array Value))).update a (Zx fun _=>(p.toList.map fun i=>vs.getD i Vb).toArray)) oa na fun b u hb e=>qce _ hb e;exact Qo (h p H _ _ hp hs I2 sm g na (Qct ha1 fun _=>_))
def qsb {i:Nat}{r:Value} (I:Inv X pins σ H s) (hk:KeyAt true kl i r H) : ∃ p its n,r = .ref p/\s.heap.get? p=some { cls :=.type "list",data :=.seq its n }/\its.size=(kl i).length /\ ∀ j (h:j<its.size),∃ t,its[j] = .int ((kl i).getD j 0) t:=by
 obtain ⟨p,rfl,e⟩:=hk;obtain ⟨_,its,n,rv,ho⟩:=I.hok p _ e;have hl:its.length=(kl i).length:=by rw [<- rv.length,Qk]
 refine ⟨p,its.toArray,n,rfl,ho,by rw [Qr];exact hl,fun j h=>?_⟩;rw [Qr] at h;have hj:((kl i).map V.int)[j]?=some (.int ((kl i).getD j 0)):=by
  rw [Qc,Qa (by omega)];simp [Qgz,Qa (show j<(kl i).length by omega)]
 obtain ⟨u,hu,t,ru⟩:=rv.get hj;refine ⟨t,?_⟩;rw [Qa h] at hu;rw [List.getElem_toArray];rw [<- ru];exact Qx hu
def zadd {ks:List Value}{ek:Nat}{H0:Hp} (hu:A.units<cLine) (o:OrdN vs.length (qE kl m)) (hm : ∀ i,i<vs.length->(kl i).length=m) (I:Inv X pins σ H s) (oa:OwnA X pins a) (ok:OwnA X pins kS) (na:H a=none) (nk:H kS=none) (ne:kS≠a) (h64:vs.length<64) (kz:ks.length=vs.length)
 (ha:s.heap.get? a=some (Vp "list" #[] e1)) (hk:s.heap.get? kS=some (Vp "list" ks.toArray ek)) (hks : ∀ i,i<vs.length->KeyAt b kl i (ks.getD i .none) H) (sm:Same H0 H) (g:G H) (h:qnd X pins σ vs kl G m a H0 P) :
 wpAny (model X.prog X.w) A (ksk_end a false vs.toArray e1 (.ref kS) ks.toArray) P E s:=by
  unfold ksk_end;dsimp only;simp only [Vs,if_false];by_cases h2:vs.length<2
  ·have c:vs.toArray.size<2:=by rw [Qr];exact h2
   rw [if_pos c,if_pos c];refine Qd (Qo (Qd ?_));rw [Qlg];refine Qo ?_;refine qqt (p:=Qcd (Q1 vs.length)) (st:=Qna general' (ks.toArray.zip vs.toArray) #[] 7 none) I oa ok na nk ne h64 (by omega) ha hk ⟨by simp,by simp⟩ (fun k k1 k2=>by omega) sm g ?_ rfl h;show (ks.toArray.zip vs.toArray).map (·.2)=_;apply Qgh.mp;refine Zs fun i=>?_;simp only [Qkm,Qkn,Qc,Q2];by_cases hi:i<vs.length
   ·have e1:ks[i]?=some (ks[i]'(by omega)):=Qa _;have e2:vs[i]?=some vs[i]:=Qa hi;have e3:(ks.zip vs)[i]?=some (ks[i]'(by omega),vs[i]):=Yq.mpr ⟨e1,e2⟩;rw [e3];simp [hi]
   ·rw [Qt (by simp;omega)];simp [hi]
  ·have c : ¬ vs.toArray.size<2:=by rw [Qr];exact h2
   rw [if_neg c,if_neg c];have g2:2<=ks.length:=by omega
   have kindOk : ∃ T:Value,(∀ v ∈ ks,Looks (model X.prog X.w) s.heap (typeOf v) T)/\(T != J3 "tuple")=true/\(T==T)=true:=by
    have each : ∀ v ∈ ks,∃ i,i<vs.length/\ks.getD i .none=v:=fun v hv=>by
     obtain ⟨i,hi⟩:=List.getElem?_of_mem hv;have hlt:i<ks.length:=(Qg.mp hi).1;exact ⟨i,by omega,by simp [Qgz,hi]⟩
    cases b with
    | true =>
     refine ⟨.type "list",fun v hv=>?_,by decide,by decide⟩;obtain ⟨i,hi,eg⟩:=each v hv;obtain ⟨p,its,n,er,ho,_,_⟩:=qsb I (hks i hi);rw [<- eg,er];exact (Looks.ld ho).andThen .now
    | false =>
     refine ⟨.type "int",fun v hv=>?_,by decide,by decide⟩;obtain ⟨i,hi,eg⟩:=each v hv;obtain ⟨n,t,er,_⟩:=hks i hi;rw [<- eg,er];exact .now
   obtain ⟨T,hT,hT1,hT2⟩:=kindOk;refine Qd (kas_kind (T:=T) g2 hT hT1 hT2 ?_);refine Qd (Vo (kat_run (Q:=fun st' s'=>s'=s /\ ∃ p:Array Nat,PmN vs.length p/\SrtN (qE kl m) p vs.length/\arrOf st'=p.map (kas_item (ks.toArray.zip vs.toArray))/\Qkv st'=none) (G:=fun p s'=>s'=s/\PmN vs.length p/\SrtN (qE kl m) p vs.length) kz (by omega) h64 (fun p st' s' a1 a2 a3 a4=>⟨a4.1,p,a4.2.1,a4.2.2,a2,a3⟩) ?_) ?_ fun _ _ z=>z)
   ·refine qzq o (fun i j C hi hj hC=>?_) (by omega) fun p hp hs=>⟨rfl,hp,hs⟩
    cases b with
    | true =>
     obtain ⟨p,its,n,er,ho,z1,x1⟩:=qsb I (hks i hi);obtain ⟨p',its',n',er',ho',z2,x2⟩:=qsb I (hks j hj);unfold kas_ask;rw [er,er'];refine zamw hu ho ho' (by rw [z1,z2,hm i hi,hm j hj]) x1 x2 ?_;rw [z1,hm i hi];exact hC
    | false =>
     obtain ⟨n,t,er,z1⟩:=hks i hi;obtain ⟨n',t',er',z2⟩:=hks j hj;unfold kas_ask;rw [er,er'];refine kat_lt_int ?_;have m1:m=1:=by rw [<- hm i hi,z1];rfl
     have e:qE kl m i j=decide (n<n'):=by
      unfold qE;rw [m1,z1,z2];show (if n==n' then false else decide (n<n'))=_;split
      ·rename_i q;rw [decide_eq_false];have:=eq_of_beq q;omega
      ·rfl
     rw [e] at hC;exact hC
   ·rintro ⟨⟨⟩,st'⟩ s' ⟨rfl,p,hp,hs,har,hf⟩;exact qqt I oa ok na nk ne h64 (by omega) ha hk hp hs sm g (kat_snds kz har) hf h
def zabx {H0:Hp} (hu:A.units<cLine) (hc:qmt X pins σ A f vs b kl G) (o:OrdN vs.length (qE kl m)) (hm : ∀ i,i<vs.length->(kl i).length=m) (I:Inv X pins σ H s) (oa:OwnA X pins a) (ok:OwnA X pins kS) (na:H a=none) (nk:H kS=none) (ne:kS≠a) (h64:vs.length<64)
 (ha:s.heap.get? a=some (Vp "list" #[] e1)) (hk:s.heap.get? kS=some (Vp "list" #[] 0)) (sm:Same H0 H) (g:G H) (h:qnd X pins σ vs kl G m a H0 P) :
 wpAny (model X.prog X.w) A (ksk_rest a f false vs.toArray e1 (.ref kS)) P E s:=by
  unfold ksk_rest;refine Qd (Qbh ?_);rw [List.forIn_toArray];refine Qd (ksk_fold (fun i s' => ∃ (H':Hp) (ks:List Value) (ek:Nat),Inv X pins σ H' s'/\Same H0 H'/\G H'/\H' a=none/\H' kS=none/\s'.heap.get? a=some (Vp "list" #[] e1)/\s'.heap.get? kS=some (Vp "list" ks.toArray ek)/\ks.length=i /\ ∀ j,j<i->KeyAt b kl j (ks.getD j .none) H') vs 0 s
   ⟨H,[],0,I,sm,g,na,nk,ha,hk,rfl,fun j z=>absurd z (Nat.not_lt_zero _)⟩ ?_ ?_)
  ·rintro j x s1 hx ⟨H1,ks,ek,I1,sm1,g1,na1,nk1,ha1,hk1,kl1,ky1⟩;rw [Qdo] at kl1 ky1;have jl:j<vs.length:=(Qg.mp hx).1;refine Qd (Qbg (Vo (hc j x H1 s1 hx I1 g1) (fun r s2 z=>?_) fun _ _ z=>z.elim));obtain ⟨H2,I2,un,sm2,g2,ky2⟩:=z;have ha2:s2.heap.get? a=some (Vp "list" #[] e1):=un.keep a _ ha1 na1 oa.f (by simp);have hk2:s2.heap.get? kS=some (Vp "list" ks.toArray ek):=un.keep kS _ hk1 nk1 ok.f (by simp);have na2:H2 a=none:=un.free a _ ha1 na1 (by simp);have nk2:H2 kS=none:=un.free kS _ hk1 nk1 (by simp);dsimp only;refine Qd (Qcv hk2 rfl ?_ (by rw [Qr,Zf];omega) (Zr (Qey (Qlh ..)) (by rw [Qr,Zf];omega)));have I3:=I2.own (a:=kS) (t':=s2.toks) (h':=s2.heap.update kS (Zx (·.push r))) ok nk2 fun b u hb e=>qce _ hb e;have ea:ks.toArray.push r=(ks++[r]).toArray:=by simp
   refine Qo ⟨rfl,H2,ks++[r],_,I3,sm1.trans sm2,g2,na2,nk2,qce _ (Yb ne) ha2,by rw [<- ea];exact Qct hk2 (·.push r),by rw [Z4,kl1,Qdo];rfl,fun i hi=>?_⟩;rw [Qdo] at hi;by_cases z:i<j
   ·have:(ks++[r]).getD i Vb=ks.getD i .none:=by simp [Qgz,Zm (show i<ks.length by omega)]
    rw [this];exact (ky1 i z).mono sm2
   ·have:i=j:=by omega
    subst this;have:(ks++[r]).getD i Vb=r:=by simp [Qgz,<- kl1]
    rw [this];exact ky2
  ·rintro s1 ⟨H1,ks,ek,I1,sm1,g1,na1,nk1,ha1,hk1,kl1,ky1⟩;rw [Qdo] at kl1 ky1;refine Qd (Qkg hk1 rfl ?_);exact zadd hu o hm I1 oa ok na1 nk1 ne h64 kl1 ha1 hk1 ky1 sm1 g1 h
def qwj {n0:Nat} (hu:A.units<cLine) (hc:qmt X pins σ A f vs b kl G) (o:OrdN vs.length (qE kl m)) (hm : ∀ i,i<vs.length->(kl i).length=m) (I:Inv X pins σ H s) (oa:OwnA X pins a) (na:H a=none) (h64:vs.length<64) (ha:s.heap.get? a=some (Vp "list" vs.toArray n0)) (g:G H)
 (h:qnd X pins σ vs kl G m a H P):wpAny (model X.prog X.w) A (ksk_tree a f false) P E s:=by
  unfold ksk_tree;have I1:=I.own (a:=a) (t':=s.toks) (h':=s.heap.update a (Zx fun _=>(#[]:Array Value))) oa na fun b u hb e=>qce _ hb e;obtain ⟨e1,ha1⟩ : ∃ e1,(s.heap.update a (Zx fun _=>(#[]:Array Value))).get? a=some (Vp "list" #[] e1):=⟨_,Qct ha fun _ => #[]⟩
  refine Qd (Qkg ha rfl ?_);refine Qd (Qcv ha rfl ?_ (by rw [Qr,Zf];omega) (Y9 _));refine Qd (Qil ha1 rfl ?_);refine Qd (Qfk ?_ (by show vs.length<=_;rw [Zf];omega));refine Qd (Qge ?_ (Y9 _));refine Yx ?_;have kp : ∀ b u,(s.heap.update a (Zx fun _=>(#[]:Array Value))).get? b=some u->(((s.heap.update a (Zx fun _=>(#[]:Array Value))).push (Vp "tuple" vs.toArray 0)).push (Vp "list" #[] 0)).get? b=some u:=fun b u e=>Qf _ (Qf _ e);have I2:=I1.kept (t':=s.toks) (h':=((s.heap.update a (Zx fun _=>(#[]:Array Value))).push (Vp "tuple" vs.toArray 0)).push (Vp "list" #[] 0)) kp;have big:(s.heap.update a (Zx fun _=>(#[]:Array Value))).objs.size<=((s.heap.update a (Zx fun _=>(#[]:Array Value))).push (Vp "tuple" vs.toArray 0)).objs.size:=by rw [Yz];omega
  have okS:=qvy I1 big;have nkS:H ((s.heap.update a (Zx fun _=>(#[]:Array Value))).push (Vp "tuple" vs.toArray 0)).objs.size=none:=I1.hok.fresh big;exact zabx (s:={ s with heap:=((s.heap.update a (Zx fun _=>(#[]:Array Value))).push (Vp "tuple" vs.toArray 0)).push (Vp "list" #[] 0) }) hu hc o hm I2 oa okS na nkS (fun z=>absurd (Qp ha1) (Vy.mpr (Zr big (Qey z)))) h64 (kp _ _ ha1) (Qy _ rfl) (.refl _) g h
end
end
section
section
variable {X:Cx}{pins:List (Addr×Obj)}{σ:St}{H:Hp}{s:Ql}
def Inv.track {a:Addr}{u:HO} (I:Inv X pins σ H s) (o:OwnA X pins a) (hn:H a=none) (new:ObjOk X.prog X.w (upd H a u) s.heap a u):Inv X pins σ (upd H a u) s:=by
 have up : ∀ b v,H b=some v->upd H a u b=some v:=fun b v e=>by rw [qj (qv e hn)];exact e
 refine ⟨I.ok,I.os,I.bare,⟨I.base.keep,I.base.slot,fun b o' e n hx=>?_,I.base.there,fun b xs e=>up _ _ (I.base.tups b xs e),fun b o' xs e=>up _ _ (I.base.frzs b o' xs e),fun b ps e=>?_⟩,I.loc,I.cell,?_,fun x c e=>?_,fun p hp=>?_,fun b v e=>?_,I.len⟩
 ·have hb:b≠a:=fun z=>absurd (Qp e) (Vy.mpr (by rw [z];exact o.s));rw [qj hb];exact I.base.free b o' e n hx
 ·obtain ⟨more,q,gm⟩:=I.base.tbls b ps e;exact ⟨more,up _ _ q,gm.mono fun b o u z=>up _ _ z⟩
 ·rw [qj (Yb o.l)];exact I.free
 ·rw [qj (o.c x c e)];exact I.freeC x c e
 ·obtain ⟨a1,a2,a3⟩:=I.pin p hp;exact ⟨a1,(qj (o.p p hp)).trans a2,a3⟩
 ·by_cases z:b=a
  ·subst z;rw [ql] at e;cases e;exact new
  ·rw [qj z] at e;exact (I.hok b v e).stay (fun c ob _ q=>q) (fun c q=>up _ _ q) (fun c xs q=>up _ _ q)
variable {K':Type} [DecidableEq K'] {knd:KeyKind X.prog X.w K'}{E:Value->Ql->Prop}{f:Addr}{kvs:List (K'×Value)}{ep:Nat}{kl:Nat->List Int}{G:Hp->Prop}{m:Nat}{r d:Addr}{Q:Value->Ql->Prop}
end
end
section
def DictIs (h:Heap) (d:Addr) (es:Array Qeo) (ep:Nat):Prop := ∃ o,h.get? d=some o/\o.ExactDict/\o.data = .dict es ep
def DictIs.at {h h':Heap}{d:Addr}{es:Array Qeo}{ep:Nat} (x:DictIs h d es ep) (k : ∀ o,h.get? d=some o->h'.get? d=some o):DictIs h' d es ep:=let ⟨o,ho,r⟩:=x; ⟨o,k _ ho,r⟩
section
variable {prog:Zo}{w:World}{A:Z2}{E:Value->Ql->Prop}{s:Ql}{it v d:Addr}{es:Array Qeo}{i ep:Nat}
def zaai {Q:Value->Ql->Prop} (hv:s.heap.IsValuesView v d) (hD:DictIs s.heap d es ep)
 (h:Q (.ref s.heap.objs.size) { s with heap:=s.heap.push { cls :=.type "dict_valueiterator",data :=.fields #[.ref d,.int 0 0,.int es.size 0,.int ep 0] } }):wpAny (model prog w) A (pyIter (.ref v)) Q E s:=by
  obtain ⟨ov,g1,_,g2⟩:=id hv;obtain ⟨od,g3,_,g4⟩:=id hD;have own:Qav "dict_valueiterator" = false:=by decide
  refine wpAny_pyIter_slot hv.typeIs Qfx (Yn Qfx hv.typeIs F.entry_dict_values_iter ?_ (F.args_dict_values_iter_1 _));unfold Builtin.«dict_values.__iter__» Qlv Qkd;have step : ∀ (Q':Qiz->Ql->Prop),Q' (.done (.ret (.ref s.heap.objs.size))) { s with heap:=s.heap.push { cls :=.type "dict_valueiterator",data :=.fields #[.ref d,.int 0 0,.int es.size 0,.int ep 0] } }->True:=fun _ _=>trivial;refine Qd (Qo (Qd (Qd (Yj g1 g2 (x :=.ref d) rfl (Qo (Qd (Qd (Qdk g3 g4 (Qd (Qho g3 g4 ?_))))))))));simp only [own,Vs,if_false];refine Y3 (Qo ⟨_,rfl,"dict_valueiterator",_,⟨_,Qy _ rfl,rfl⟩,Vg.lookup,?_⟩);simpa [Qdr] using h
def zaad {Q:Option Value->Ql->Prop}{e:Qeo} (hit:s.heap.IsValIter it d i es.size ep) (hD:DictIs s.heap d es ep) (hx:es[i]?=some e)
 (h : ∀ h',h'.IsValIter it d (i+1) es.size ep->Vv it s.heap h'->Q (some e.val) { s with heap:=h' }):wpAny (model prog w) A (Qcw (.ref it)) Q E s:=by
  obtain ⟨o,g1,g2,g3⟩:=id hit;obtain ⟨od,g4,_,g5⟩:=id hD;have own:Qav "dict_valueiterator" = false:=by decide
  have lt:i<es.size:=(Array.getElem?_eq_some_iff.mp hx).1;unfold Qcw;refine Qd (Qbg (Z8 (name:=Qn "__next__") hit.typeIs Vg (Yn Vg hit.typeIs Qdf ?_ (Qcx _))))
  wp_walk using V5 hit.typeIs,wpAny_fieldsOf g1 g3,Qdk g4 g5,Qho g4 g5,Qba hit.typeIs
  rw [show (if ((i:Nat):Int)<0 then none else es[((i:Nat):Int).toNat]?)=some e by rw [if_neg (by omega),J9];exact hx];have it2:(s.heap.update it (Qmg (·.setIfInBounds 1 (Qdr ((i:Int)+1))))).IsValIter it d (i+1) es.size ep :=
   ⟨_,Vn _ g1 (Qgx (Qcm g3 _)),(Qjr ..).trans g2,by rw [Qcm g3];simp [Qdr]⟩
  refine Qd (Qd (V5 hit.typeIs (Qo (Qd (Qba hit.typeIs ?_)))));show wpAny _ _ (setField (.ref it) 1 (Qdr ((i:Int)+1)) >>= _) _ _ s;refine Qd (Qfl g1 g3 (by simp) ?_)
  wp_walk using Qba (s:={ s with heap:=s.heap.update it (Qmg (·.setIfInBounds 1 (Qdr ((i:Int)+1)))) }) it2.typeIs
  exact ⟨_,rfl,Qo (h _ it2 (Vz ..))⟩
def zaep {Q:Option Value->Ql->Prop} (hh:A.handled=none) (hit:s.heap.IsValIter it d i es.size ep) (hD:DictIs s.heap d es ep) (hx:es.size<=i)
 (h : ∀ h',Qle it s.heap h'->Q none { s with heap:=h' }):wpAny (model prog w) A (Qcw (.ref it)) Q E s:=by
  obtain ⟨o,g1,g2,g3⟩:=id hit;obtain ⟨od,g4,_,g5⟩:=id hD;have own:Qav "dict_valueiterator" = false:=by decide
  unfold Qcw;refine Qd (Qbg (Z8 (name:=Qn "__next__") hit.typeIs Vg (Yn Vg hit.typeIs Qdf ?_ (Qcx _))))
  wp_walk using V5 hit.typeIs,wpAny_fieldsOf g1 g3,Qdk g4 g5,Qho g4 g5,Qba hit.typeIs
  rw [show (if ((i:Nat):Int)<0 then none else es[((i:Nat):Int).toNat]?)=none by rw [if_neg (by omega),J9];exact Qda hx];refine Qd (Qd (V5 hit.typeIs (Qo ?_)));show wpAny _ _ (setField (.ref it) 0 .none >>= _) _ _ s;refine Qd (Qfl g1 g3 (by simp) ?_)
  wp_walk
  simp only [raiseNew];refine Qd (wpAny_handled ?_);rw [show A.in1.handled=none from hh];refine Qd (Qo (wpAny_throw ?_));refine Qd (Qgn (T := "StopIteration") (b:=true) ⟨_,Qy _ rfl,rfl⟩ Qid ?_);exact Qo (h _ (((Vz ..).extBut.push _).push _))
def qrc (hh:A.handled=none) (I d:Addr) (hne:d≠I) (es:Array Qeo) (ep:Nat):Walks prog w A I [I,d] [I] es.size (fun i v => ∃ e,es[i]?=some e/\e.val=v) (fun i h=>h.IsValIter I d i es.size ep/\DictIs h d es ep) where
 sub:=fun b hb=>by simp at hb;simp [hb]
 frame:=fun _ _ _ st hk=>⟨st.1.at fun o e=>hk I (by simp) o e,st.2.at fun o e=>hk d (by simp) o e⟩
 item:=fun i s Q E hi st hQ=>by
  have hx:es[i]?=some es[i]:=Y0 hi;refine zaad st.1 st.2 hx fun h' i2 sb=>hQ _ h' s.toks ⟨_,hx,rfl⟩ ⟨i2,st.2.at fun o e=>sb.extBut d o hne e⟩ fun b o hb e=>sb.extBut b o (fun z=>hb (by simp [z])) e
 done:=fun s Q E st hQ=>zaep hh st.1 st.2 (Qz _) fun h' k=>hQ h' s.toks fun b o hb e=>k b o (fun z=>hb (by simp [z])) e
 self:=fun _ _ _ _ st hQ=>wpAny_pyIter_valiter st.1 hQ
def qwu {r:Addr}:KdlSrc prog w "dict_values" r d es.size (fun i v => ∃ e,es[i]?=some e/\e.val=v) (fun h=>h.IsValuesView r d/\DictIs h d es ep) where
 type:=fun _ hm=>hm.1.typeIs
 there:=fun _ hm=>⟨let ⟨_,ho,_⟩:=hm.1;Qp ho,let ⟨_,ho,_⟩:=hm.2;Qp ho⟩
 keep:=fun _ _ hm hk=>⟨let ⟨o,ho,x⟩:=hm.1; ⟨o,hk r (.inl rfl) o ho,x⟩,hm.2.at fun o e=>hk d (.inr rfl) o e⟩
 notList:=by decide
 notTuple:=by decide
 hint:=fun _ _ _ _ hm hq=>kdl_hint_values hm.1.typeIs hq
 iter:=fun _ _ hh hm=>⟨_,_,(fun _ _ hq=>zaai hm.1 hm.2 hq),qrc hh _ d (Qq (let ⟨_,ho,_⟩:=hm.2;Qp ho)) es ep,⟨⟨_,Qy _ rfl,rfl,rfl⟩,hm.2.at fun o e=>Qf _ e⟩⟩
end
end
section
section
variable {prog:Zo}{w:World}{K:Type} [DecidableEq K] {knd:HeapKind prog w K}{A:Z2}{E:Value->Ql->Prop}{s:Ql}{d a:Addr}{xs:List (K×Addr×Value)}{k:K}{dv:Value}
def qtl {Q:Value->Ql->Prop} (hu:knd.room A) (hk:knd.is s.heap k a) (hm:s.heap.DictOfH knd d xs) (hz:xs.length<=Q9) (h1 : ∀ p,atKey xs k=some p->Q p.2 { s with toks:=s.toks+knd.draws k })
 (h2:atKey xs k=none -> ∀ h',h'.DictOfH knd d (storedH xs k a dv)->Vv d s.heap h'->Q dv { s with heap:=h',toks:=s.toks+knd.draws k }):wpAny (model prog w) A (Qib d (.ref a) dv) Q E s:=by
 obtain ⟨o,es,ep,ho,hx,hd,he,his,hn⟩:=hm;unfold Qib;refine Yx (Qd (knd.pyHash hu hk (Qd (wpAny_dictFind_heap (s:={ s with toks:=s.toks+knd.draws k }) hu hk ho hd he his hn (fun no=>?_) fun j p hj=>?_))))
 ·have an:=atKey_none_of_get no;have nm:=not_mem_keys_of_get no;refine Qd (Qbh (Qd (wpAny_updateDictKeys (hz:=by have e:=size_of_entries he;omega) (s:={ s with toks:=s.toks+knd.draws k }) ho hd (Qo (h2 an _ ?_ (Vz ..))))));rw [storedH_new an];refine ⟨_,_,ep+1,Vn _ ho (Obj.isFreed_of_dict (Qhw hd _)),hx.mapDictKeys _,Qhw hd _,by simp [he,entryOfKey],fun x mx=>?_,?_⟩
  ·rcases Zl.mp mx with m|m
   ·exact knd.keeps (his x m) ho hd (Vz ..)
   ·rw [Qw.mp m];exact knd.keeps hk ho hd (Vz ..)
  ·rw [Zu,Qbc];refine ⟨hn,by simp,fun x mx y my e=>nm ?_⟩;have:y=k:=by simpa using my
   rw [<- this,<- e];exact mx
 ·refine Qd (Qdk (s:={ s with toks:=s.toks+knd.draws k }) ho hd ?_);rw [entry_at he j,hj];exact Qd (Qbh (Qo (h1 p (atKey_of_get hn hj))))
def qtr {Q:Value->Ql->Prop} (hu:knd.room A.in1) (hk:knd.is s.heap k a) (hy:(d==Qaq)=false) (hm:s.heap.DictOfH knd d xs) (hz:xs.length<=Q9) (h1 : ∀ p,atKey xs k=some p->Q p.2 { s with toks:=s.toks+knd.draws k })
 (h2:atKey xs k=none -> ∀ h',h'.DictOfH knd d (storedH xs k a dv)->Vv d s.heap h'->Q dv { s with heap:=h',toks:=s.toks+knd.draws k }):wpAny (model prog w) A (call (.builtin "dict.setdefault") [.ref d,.ref a,dv]) Q E s:=by
 refine Yn F.slot_dict_setdefault hm.typeIs F.entry_dict_setdefault ?_ (F.args_dict_setdefault_3 _ _ _);unfold Builtin.«dict.setdefault» Builtin.Dict.keyAndDefault;refine Qd (Qd (Qhp hm.typeIs ?_));show wpAny _ _ (pure (d,Z3 a,some dv)) _ _ s;refine Qo ?_;show wpAny _ _ (if (d==Qaq)=true then _ else (Qib d (.ref a) dv >>= _)) _ _ s;rw [if_neg (by rw [hy];exact Zt)];exact Qd (qtl hu hk hm hz (fun p e=>Qo ⟨_,rfl,h1 p e⟩) fun an h' q sb=>Qo ⟨_,rfl,h2 an h' q sb⟩)
end
section
variable {X:Cx}{pins:List (Addr×Obj)}{σ:St}{H:Hp}{s:Ql}{a b:Addr}{A:Z2}{E:Value->Ql->Prop}{kvs:List (List Key×V)}{k:List Key}{dv:V}{r:Value}
def zada {Q:Value->Ql->Prop} (hu:A.units+1<cLine) (I:Inv X pins σ H s) (e:H a=some (.dT kvs)) (eb:H b=some (.tup (k.map kV))) (hl:kvs.length<Q9) (rd:RelV dv r)
 (h1 : ∀ v,qmh kvs k=some v -> ∀ u s',Inv X pins σ H s'->RelV v u->Q u s') (h2:qmh kvs k=none -> ∀ s',Inv X pins σ (upd H a (.dT (qup kvs k dv))) s'->Q r s') :
 wpAny (model X.prog X.w) A (call (.builtin "dict.setdefault") [.ref a,.ref b,r]) Q E s:=by
  obtain ⟨z,hd,xs,rel,dd⟩:=zahe I.hok e;have hz:xs.length<=Q9:=by rw [<- Qmc rel];exact z
  have rv:=rel.val k;refine qtr (tupleKind_room_in1 hu) (zafz I.hok eb) hd dd hz (fun p ep=>?_) fun an h' dd' sb=>?_
  ·rw [ep] at rv;cases ev:qmh kvs k with
   | none=>rw [ev] at rv;exact rv.elim
   | some v=>rw [ev] at rv;exact h1 v ev _ _ (I.tok _) rv
  ·rw [an] at rv;cases ev:qmh kvs k with
   | some v=>rw [ev] at rv;exact rv.elim
   | none =>
    have l2:(qup kvs k dv).length<=Q9:=by have:=qty kvs k dv;omega
    refine h2 ev _ ?_;obtain ⟨q,es,ep,hq,g2,g3,g4,_,g5⟩:=dd';refine zajf I (by rw [e];exact Qdd) sb ⟨q,hq⟩ ⟨l2,hd,_,(rel.put k eb rd).keeps fun c ys ec=>?_,q,es,ep,hq,g2,g3,g4,g5⟩;rw [qj (zapw ec e (fun z=>nomatch z))];exact ec
end
end
section
section
variable {X:Cx}{pins:List (Addr×Obj)}{σ:St}{H:Hp}{s:Ql}{E:Value->Ql->Prop}{f:Addr}{es:Array Qeo}{ep:Nat}{kl:Nat->List Int}{G:Hp->Prop}{m:Nat}{r d:Addr}{Q:Value->Ql->Prop}{vs:List Value}
def qwn {acc:Array Value} (h:ItemsOf (fun i v => ∃ e,es[i]?=some e/\e.val=v) acc es.size):acc.toList=es.toList.map (·.val):=by
 refine Zs fun i=>?_;obtain ⟨h1,h2⟩:=h;rw [Qay,Qc,Qay];by_cases hi:i<es.size
 ·have e:acc[i]?=some (acc[i]'(by omega)):=Y0 _;obtain ⟨k,hk,hv⟩:=h2 i _ e;rw [e,hk,<- hv];rfl
 ·rw [Qda (by omega),Qda (by omega)];rfl
def qtu (hu:X.A.in1.in1.units<cLine) (hh:X.A.handled=none) (I:Inv X pins σ H s) (hv:s.heap.IsValuesView r d) (hd:DictIs s.heap d es ep) (ev:es.toList.map (·.val)=vs) (hn:vs.length<64) (hc:qmt X pins σ X.A.in1.in1 (.ref f) vs true kl G) (o:OrdN vs.length (qE kl m))
 (hm : ∀ i,i<vs.length->(kl i).length=m) (g:G H)
 (k : ∀ (p:Array Nat) (l:Addr) (H':Hp) (s':Ql) (c:Nat),PmN vs.length p->SrtN (qE kl m) p vs.length->Inv X pins σ H' s'->Same H H'->G H'->OwnA X pins l->H' l=none->s'.heap.get? l=some (Vp "list" (p.toList.map fun i=>vs.getD i .none).toArray c)->Q (.ref l) s') :
 wpAny (model X.prog X.w) X.A (call (.builtin "sorted") [.ref r] [(Qn "key",.ref f)]) Q E s:=by
  subst ev;have zl:es.size=(es.toList.map (·.val)).length:=by rw [Qk,Z1]
  refine call_function_entry_kw kind_sorted plain_sorted entry_sorted (ksk_s1 _ _) ?_;unfold Builtin.«sorted»;refine Qd (m:=checkCount "sorted" 1 1 _) (Qo (Qd (kdu_collect (T := "dict_values") (qwu (es:=es) (ep:=ep)) hh ⟨hv,hd⟩ (by rw [Zf];omega) fun h1 tk acc keep items=>?_)));rw [qwn items];have I1:=I.kept (t':=tk) keep;have hL:(h1.push (Vp "list" (es.toList.map (·.val)).toArray 0)).get? h1.objs.size=some (Vp "list" (es.toList.map (·.val)).toArray 0):=Qy _ rfl;refine Qd (Qge ?_ (by rw [Zf];omega));have I2:=I1.kept (t':=tk) (h':=h1.push (Vp "list" (es.toList.map (·.val)).toArray 0)) fun b u e=>Qf _ e;have ow:=qvy I1 (Qz _);have nl:=I1.hok.fresh (Qz _);refine Qd (Yx (wpAny_call_entry_kw slot_list_sort ⟨_,hL,rfl⟩ entry_list_sort ?_ (ksk_l1 _ _)));show wpAny (model X.prog X.w) X.A.in1.in1 (Builtin.«list.sort» ⟨[.ref h1.objs.size],[(Qn "key",.ref f)]⟩) _ _ _;rw [ksk_t1];refine qwj hu hc o hm I2 ow nl hn hL g fun p H' s' c hp hs I' sm g' na ha=>?_;exact ⟨_,rfl,Qo ⟨_,rfl,k p _ H' s' c hp hs I' sm g' ow na ha⟩⟩
end
section
variable {X:Cx}{o e f:Expr}{apos cpos:Pos}{td ty tx:TE}
def zaga (td ty tx:TE):TE:=fun σ H Q=>td σ H fun x H1 => ∃ a,x = .ref a/\IsD H1 a/\ty σ H1 fun y H2=>tx σ H2 fun z H3 => ∃ kvs k b,H3 a=some (.dT kvs)/\y = .ref b/\H3 b=some (.tup (k.map kV))/\kvs.length<Q9 /\
 (∀ v,qmh kvs k=some v->Q v H3)/\(qmh kvs k=none->Q z (upd H3 a (.dT (qup kvs k z))))
def qwb (hu:X.A.units+1<cLine) (ho:PE X o td) (he:PE X e ty) (hf:PE X f tx) (m:M2 X o "setdefault" apos e f cpos):PE X (.Call (.Attribute o "setdefault" apos) [e,f] [] cpos) (zaga td ty tx):=by
 intro pins s σ H Q I h;refine wpAny_Call_method m.base m.few m.line Qfy PySem.F.slot_dict_setdefault PySem.F.type_dict_setdefault (thn (ho pins s σ H _ I h) fun u s1 xx183=>?_);obtain ⟨x,H1,I1,rx,a,ex,d,q1⟩:=xx183;subst ex;obtain rfl:u=Z3 a:=rx;obtain ⟨t1,t2,_⟩:=zafy I1 d;refine ⟨t1,t2,?_⟩;rw [m.trees];refine Qar rfl (Qbk (Qat (thn (he pins s1 σ H1 _ I1 q1) fun iv s2 ⟨y,H2,I2,ry,q2⟩=>Qat (thn (hf pins s2 σ H2 _ I2 q2) fun fv s3 ⟨z,H3,I3,rz,kvs,k,b,ea,ey,eb,hl,q3,q4⟩=>Qdc ?_))));subst ey;obtain rfl:iv=Z3 b:=ry;exact zada hu I3 ea eb hl rz (fun v ev u s4 I4 ru=>⟨_,H3,I4,ru,q3 v ev⟩) fun ev s4 I4=>⟨_,_,I4,rz,q4 ev⟩
end
end
section
section
variable {X:Cx}{pins:List (Addr×Obj)}{σ:St}{H:Hp}{s:Ql}{a:Addr}{A:Z2}{E:Value->Ql->Prop}{kvs:List (List Key×V)}
abbrev qwq (d:Addr):Obj:={ cls :=.type "dict_values",data :=.fields #[.ref d] }
def zaco {Q:Value->Ql->Prop} (I:Inv X pins σ H s) (e:H a=some (.dT kvs)) (h:Q (.ref s.heap.objs.size) { s with heap:=s.heap.push (qwq a) }):wpAny (model X.prog X.w) A (call (.builtin "dict.values") [.ref a]) Q E s:=by
 obtain ⟨_,hd,xs,_,dd⟩:=zahe I.hok e;refine Yn F.slot_dict_values dd.typeIs F.entry_dict_values ?_ (F.args_dict_values_1 _);refine Qd ?_;unfold Builtin.Dict.noArgs;refine Qd (Qhp dd.typeIs ?_);show wpAny _ _ (pure a) _ _ s;refine Qo ?_;show wpAny _ _ (Qha a >>= _) _ _ s;unfold Qha;rw [if_neg (by rw [hd];exact Zt)];exact Qd (Qo (Qd (Y3 (Qo ⟨_,rfl,h⟩))))
def zaip (I:Inv X pins σ H s) (e:H a=some (.dT kvs)) : ∃ es ep,DictIs s.heap a es ep/\Vals (kvs.map (·.2)) (es.toList.map (·.val)):=by
 obtain ⟨_,_,xs,rel,o,es,ep,h1,h2,h3,h4,_,_⟩:=zahe I.hok e;refine ⟨es,ep,⟨o,h1,h2,h3⟩,?_⟩;rw [h4,Zk];have : ∀ {l:List (List Key×V)}{m:List (List Key×Addr×Value)},KT H l m->Vals (l.map (·.2)) (m.map ((·.val) ∘ entryOfKey (Qhn (qch X.prog X.w)))):=by
  intro l m q
  induction q with
  | nil=>exact .nil
  | @cons p q ps qs hq t ih=>exact .cons hq.2.2 ih
 exact this rel
end
section
variable {X:Cx}{pins:List (Addr×Obj)}{σ:St}{x y:Str}{scope:Scope}{params:Qen}{body:Expr}{te:TE}{f cg c:Addr}{pm ct:Value}{vg:V}{vsV:List V}{vs:List Value}{kl:Nat->List Int}{G:Hp->Prop}{oc:Obj}{uu:HO}{fv:Array Value}{q:Str}{t:Tok}{nm qual:Str}{iy:Nat}
def zakc (S:LamScope scope x y) (hh:X.A.handled=none) (room:X.A.in1.in1.depth<Qap) (hpin:(f,({ cls :=.type "function",data :=.func (kla_fn nm qual params body scope [(y,cg)] pm (.ref c) ct) }:Obj)) ∈ pins)
 (hb : ∀ u,Qhs (kla_fn nm qual params body scope [(y,cg)] pm (.ref c) ct) ⟨[u],[]⟩=pure [(x,u)]) (d1:oc.data = .fields fv) (d2:fv[1]?=some (.str q t)) (hcl:X.env.cells.lookup y=some cg) (hyk:X.env.kindOf y=some .cell) (hN:X.N[iy]?=some y) (hv:σ[iy]?=some (some vg)) (rv:Vals vsV vs)
 (hfr:X.A.in1.in1.frames=X.A.frames) (hhd:X.A.in1.in1.handled=X.A.handled)
 (he : ∀ s H,PE (cxL X.prog X.w X.K X.mg X.base q scope f (.ref c) [(y,cg)] [x,y] X.A.in1.in1 X.stack s H) body te)
 (hk : ∀ (i:Nat) (v:V) (H:Hp),vsV[i]?=some v->G H->te [some v,some vg] H fun r H'=>Same H H'/\G H' /\ ∃ p,r = .ref p/\H' p=some (.lst ((kl i).map V.int))) :
 qmt X pins σ X.A.in1.in1 (.ref f) vs true kl (fun H=>G H/\H c=some (.frz oc uu)):=by
 intro i u H s hi I g;obtain ⟨g,ec⟩:=g;have li:i<vs.length:=(Qg.mp hi).1;have lv:i<vsV.length:=by rw [rv.length];exact li
 have ev:vsV[i]?=some vsV[i]:=Qa lv;obtain ⟨u',hu',ru⟩:=rv.get ev;rw [hi] at hu';have eu:=Qx hu';subst eu;obtain ⟨mm,ns,lk⟩:=I.loc;obtain ⟨ug,rg,look⟩:=lk iy y vg hN hv (.inr (.inl hyk));have hc:s.heap.IsCell cg (some ug):=by
  rcases look with ⟨z,_⟩|⟨_,c',e1,e2⟩
  ·rw [hyk] at z;cases z
  ·rw [hcl] at e1;rw [Qx e1];exact e2
 have e0:=I.env0;have e1:Env0 X.prog X.w X.K X.mg X.base X.A.in1.in1 X.stack s H:=⟨by rw [hfr];exact e0.frames,e0.mod,e0.bs,e0.bsz,e0.funs,e0.frf,e0.hok,e0.bare⟩
 have pf:=I.pin _ (Q8 _ hpin);refine wpAny_call (Qfc (zakj (E:=fun _ _ _=>False) S (by rw [hhd];exact hh) e1 room pf.1 rfl (hb u) (I.hok c _ ec).1 d1 d2 hc (I.freeC y cg hcl) rg ru (he s H) (hk i _ H ev g)) fun r s' hr=>?_);cases r with
 | error e=>exact hr.elim
 | ok fl =>
  cases fl with
  | ret u2 =>
   obtain ⟨v',H',os,bare,un,hok,r',sm,g',p,ep,hp⟩:=hr;subst ep;obtain rfl:u2=Z3 p:=r';exact ⟨H',I.call' os un hok bare (fun b z=>nomatch z),un,sm,⟨g',sm.at ec⟩,p,rfl,hp⟩
  | next=>exact hr.elim
  | brk=>exact hr.elim
  | cont=>exact hr.elim
end
def qko {vsV:List V}{vs:List Value} (h:Vals vsV vs) : ∀ {l:List Nat},(∀ i ∈ l,i<vs.length)->Vals (l.map fun i=>vsV.getD i V.non) (l.map fun i=>vs.getD i Vb)
 | [],_ => .nil
 | i::l,k=>by
  have hi:=k i (by simp);have ev:vsV[i]?=some (vsV[i]'(by rw [h.length];exact hi)):=Qa _;obtain ⟨u,hu,ru⟩:=h.get ev;refine .cons ?_ (qko h fun j hj=>k j (Qs _ hj));have a1:vsV.getD i V.non=(vsV[i]?).getD V.non:=by simp [Qgz]
  have a2:vs.getD i Vb=(vs[i]?).getD Vb:=by simp [Qgz]
  show RelV (vsV.getD i V.non) (vs.getD i Vb);rw [a1,a2,ev,hu];exact ru
def tSK (tb:Addr) (ig iy:Nat) (te:TE):TE:=fun σ H Q => ∃ (d:Addr) (kvs:List (List Key×V)) (vg:V) (kl:Nat->List Int) (m:Nat),(σ[ig]?=some (some (.ref d))/\σ[iy]?=some (some vg)/\H d=some (.dT kvs)/\kvs.length<64) /\
 OrdN (kvs.map (·.2)).length (qE kl m)/\(∀ i,i<(kvs.map (·.2)).length->(kl i).length=m) /\ ∀ H1,TbGo tb H H1->Same H H1 -> ∃ G:Hp->Prop,G H1 /\
  (∀ (i:Nat) (v:V) (H2:Hp),(kvs.map (·.2))[i]?=some v->G H2->te [some v,some vg] H2 fun r H3=>Same H2 H3/\G H3 /\ ∃ p,r = .ref p/\H3 p=some (.lst ((kl i).map V.int))) /\
  ∀ (p:Array Nat) (l:Addr) (H3:Hp),PmN (kvs.map (·.2)).length p->SrtN (qE kl m) p (kvs.map (·.2)).length->Same H1 H3->G H3->H3 l=none->H l=none->Q (.ref l) (upd H3 l (.lst (p.toList.map fun i=>(kvs.map (·.2)).getD i .non)))
section
variable {X:Cx}{x y g:Str}{scope:Scope}{params:Qen}{body:Expr}{te:TE}{cg c0 tb:Addr}{ig iy:Nat}{np gp ap cp lp kp pos:Pos}
def qws (hu:X.A.in1.in1.units<cLine) (hh:X.A.handled=none) (room:X.A.in1.in1.depth<Qap) (hT:TbS tb X.H₀) (hcode:X.env.code = .ref c0) (C:CodeHd X.base c0 tb) (hbt:X.base.BuiltinsAt X.mg tb) (hg:Gl X "sorted") (hm:X.mg "sorted" = none) (hvar:PE X (.Name g gp) (quh ig)) (S:LamScope scope x y)
 (hcl:closureFor scope X.env=pure [(y,cg)]) (hlk:X.env.cells.lookup y=some cg) (hyk:X.env.kindOf y=some .cell) (hN:X.N[iy]?=some y)
 (hb : ∀ nm qual pm c ct u,Qhs (kla_fn nm qual params body scope [(y,cg)] pm (.ref c) ct) ⟨[u],[]⟩=pure [(x,u)])
 (he : ∀ q f c s H,PE (cxL X.prog X.w X.K X.mg X.base q scope f (.ref c) [(y,cg)] [x,y] X.A.in1.in1 X.stack s H) body te)
 (hdef:defaultsOf params X.env=([],[]):=by rfl) (hfr:X.A.in1.in1.frames=X.A.frames:=by rfl) (hhd:X.A.in1.in1.handled=X.A.handled:=by rfl)
  (hbase:Qcr (.Name g gp) "values" X.env (eval (.Name g gp) X.env)=eval (.Name g gp) X.env:=by rfl)
  (hfew:((V8 cp (Qu [] X.env)).all (fun x => !x.1)&&(Qjk cp (Qep [] X.env)).all (fun x=>x.1.isSome)&&decide (([]:List Expr).length+([]:List Qdu).length+(if ([]:List Qdu).isEmpty then 0 else 1)<30))=true:=by rfl)
  (hline:(ap.endLine==cp.line)=true:=by rfl) :
  PE X (.Call (.Name "sorted" np) [.Call (.Attribute (.Name g gp) "values" ap) [] [] cp] [⟨some "key",.Lambda params body scope lp,kp⟩] pos) (tSK tb ig iy te):=by
  intro pins s σ H Q I h;obtain ⟨d,kvs,vg,kl,m,⟨e1,e2,ed,hn⟩,o,hm',rest⟩:=h;have T:=TbS.of I hT;refine Jv (qgj I hg hm boot_sorted ?_);refine callWith_kw ?_;show wpAny _ _ (spliced [(false,eval (.Call (.Attribute (.Name g gp) "values" ap) [] [] cp) X.env)]) _ _ s;refine Qat ?_;refine wpAny_Call_method hbase hfew hline Qfy PySem.F.slot_dict_values PySem.F.type_dict_values (thn (hvar pins s σ H (fun v H'=>v = .ref d/\H'=H) I ⟨_,e1,rfl,rfl⟩) fun u s1 xx185=>?_);obtain ⟨v1,H1,I1,r1,ev,eH⟩:=xx185;subst ev;subst eH;obtain rfl:u=Z3 d:=r1;obtain ⟨t1,t2,_⟩:=zafy I1 (.inr ⟨kvs,.inl ed⟩);refine ⟨t1,t2,?_⟩;refine Qar rfl (PySem.evalArgs_none ?_);refine zaco I1 ed ?_;have hkp : ∀ b u,s1.heap.get? b=some u->(s1.heap.push (qwq d)).get? b=some u:=fun b u e=>Qf _ e;have gv:(s1.heap.push (qwq d)).get? s1.heap.objs.size=some (qwq d):=Qy _ rfl;have ow:=qvy I1 (Qz _);have nv:=I1.hok.fresh (Qz _);have nfs:s1.heap.objs.size ∉ X.fs:=fun z=>ow.f (by
   rcases I1.ok.stk with q|⟨q,q2⟩
   ·rw [q];exact z
   ·rw [q];unfold frs;rw [Vk,q2];exact Qs _ z)
  have I2:=(I1.kept (t':=s1.toks) hkp).pinOne gv nv ow.l nfs (fun v z=>by cases z);refine Qdc ?_;refine kws_cons (kla_eval hdef (zafk I2 (TbS.of I2 hT) hcode C hbt hcl fun f c ct pm oc fv q t s3 H3 I3 go new hf xx184 d1 d2=>?_));obtain ⟨uu,ec⟩:=xx184;refine kws_nil ?_;show wpAny _ _ (call (.builtin "sorted") [.ref s1.heap.objs.size] [(Qn "key",.ref f)]) _ _ s3;obtain ⟨G,g0,hk,fin⟩:=rest H3 go (go.same (TbS.of I1 hT));have ne:d≠tb:=fun z=>by
   obtain ⟨ps,et,_⟩:=TbS.of I1 hT;rw [<- z,ed] at et;cases et
  have ed3:H3 d=some (.dT kvs):=go.h _ _ ne ed;obtain ⟨es,ep,hD,hV⟩:=zaip I3 ed3;have hvw:s3.heap.IsValuesView s1.heap.objs.size d:=⟨_,(I3.pin (s1.heap.objs.size,qwq d) (Q8 _ (Yg _ (Q8 _ (Qw.mpr rfl))))).1,rfl,rfl⟩
  have zl:(es.toList.map (·.val)).length=(kvs.map (·.2)).length:=hV.length.symm;refine qtu hu hh I3 hvw hD rfl (by rw [zl,Qk];exact hn) (zakc (G:=G) (kl:=kl) (uu:=uu) (oc:=oc) (vsV:=kvs.map (·.2)) (iy:=iy) S hh room (Q8 _ (Qw.mpr rfl)) (fun u=>hb _ _ _ _ _ u) d1 d2 hlk hyk hN e2 hV hfr hhd (fun s H=>he q f c s H) hk) (by rw [zl];exact o) (by rw [zl];exact hm') ⟨g0,ec⟩ fun p l H4 s4 cc hp hs I4 sm g4 ow4 nl hl=>?_;have hp':PmN (kvs.map (·.2)).length p:=by rw [<- zl];exact hp
  have hs':SrtN (qE kl m) p (kvs.map (·.2)).length:=by rw [<- zl];exact hs
  have nl0:H1 l=none:=by
   cases eq:H1 l with
   | none=>rfl
   | some o' =>
    exfalso;by_cases z:l=tb
    ·obtain ⟨ps,et,_⟩:=go.ts;rw [<- z] at et;obtain ⟨_,this⟩:=sm.any et;rw [nl] at this;cases this
    ·obtain ⟨_,this⟩:=sm.any (go.h _ _ z eq);rw [nl] at this;cases this
  have vp:Vals (p.toList.map fun i=>(kvs.map (·.2)).getD i V.non) (p.toList.map fun i=>(es.toList.map (·.val)).getD i Vb):=qko hV fun i hi=>by
   have:=hp.p.mem_iff.mp hi;exact Q6.mp this
  have I5:=I4.track (u :=.lst (p.toList.map fun i=>(kvs.map (·.2)).getD i V.non)) ow4 nl ⟨by rw [Qk,Z1,hp.s,zl,Qk,Zf];omega,_,cc,vp,hl⟩;exact ⟨.ref l,_,I5.unpinned.unpinned,rfl,fin p l H4 hp' hs' sm g4.1 nl nl0⟩
end
end
section
def Tbs (ts:List Addr) (H:Hp):Prop := ∀ t ∈ ts,TbS t H
def qow (ts:List Addr) (K:Qe):Sp:=fun vs H Q E=>Tbs ts H/\zaqx K vs H Q E
section
variable {P:Zo}{w:World}{K:Qe}{mg mb:Str->Option Value}{CX:CXT}{k:Nat}{fa a:Addr}{ts:List Addr}{fd:Jo}{x:Str}{sp:Sp}{s:Ql}{vs:List Value}{ns:List Int}
def qtz {H:Hp} (KX:K.In s.heap) (hns:s.heap.Ns Ze mg) (hb:s.heap.Ns Qeg mb) (hbb : ∀ x:Str,x ≠ "__name__" -> mb x=Z0 x) (hlim:s.heap.NoLimit) (hg:s.gens = #[]) (ha:s.heap.get? a=some { cls :=.type "list",data :=.seq vs.toArray })
 (hr:Room k Qij) (ht : ∀ b ∈ ts,∃ c,s.heap.TableAt c b #[]) (hKt : ∀ b ∈ ts,K.lookup b=none) (F : ∀ base:Heap,K.In base->base.Ns Ze mg->FnOk P w K mg base CX k fa fd [x] sp) (hbind : ∀ (s:Ql) (u:Value),Qjz s fd ⟨[u],[]⟩ [(x,u)])
 (hA : ∀ b,H b≠none->b=a\/b ∈ ts) (hF : ∀ u,H a=some u -> ∃ o xs,u = .frz o (.lst xs)) (hT : ∀ b ∈ ts,H b=some (.tbl #[])) (hok:HOk P w H s.heap) (hK:H a≠none->K.lookup a=none)
 (hsp:sp [.ref a] H (fun v _=>v = .bl true) fun _ _ _=>False) (hCX : ∀ e s',CX [] H s (fun _ _ _=>False) e s'->False) :
 Qdv (model P w) Qij (.call (.ref fa) ⟨[.ref a],[]⟩) (fun r s'=>r = .ok (.ret (.bool true))/\OldK s.heap s'.heap/\s'.os=s.os/\Qfi s'.gens) s:=by
 have bo : ∀ {b:Addr}{o:Obj},s.heap.get? b=some o->H b=none->(qxd s.heap H).get? b=some o:=fun e n=>zaeb e n;have nd : ∀ {b:Addr}{o:Obj}{es:Array Qeo}{ep:Nat},s.heap.get? b=some o->o.data = .dict es ep->H b=none:=fun {b o es ep} e d=>by
  cases q:H b with
  | none=>rfl
  | some u =>
   rcases hA b (by rw [q];simp) with z|z
   ·subst z;rw [ha] at e;cases e;have d':Qmw vs.toArray _=Data.dict es ep:=d;cases d'
   ·obtain ⟨c,ht⟩:=ht b z;rw [ht.2] at e;cases e;cases d
 have nsK : ∀ {b:Addr}{m:Str->Option Value},s.heap.Ns b m->(qxd s.heap H).Ns b m:=fun xx186=>by obtain ⟨o,es,ep,e,d,r⟩:=xx186;exact ⟨o,es,ep,bo e (nd e d),d,r⟩
 have kb:K.In (qxd s.heap H):=fun b o e=>bo (KX b o e) (by
  cases q:H b with
  | none=>rfl
  | some u =>
   rcases hA b (by rw [q];simp) with z|z
   ·subst z;rw [hK (by rw [q];simp)] at e;cases e
   ·rw [hKt b z] at e;cases e)
 have M:Mod K mg (qxd s.heap H):=⟨kb,nsK hns,⟨mb,nsK hb,hbb⟩,let ⟨mc,h1,h2⟩:=hlim; ⟨mc,nsK h1,h2⟩⟩
 have e0:Env0 P w K mg (qxd s.heap H) Qij [] s H:=⟨rfl,M,fun b o e=>zajz e,Qey (zaak _ _),trivial,fun b hb=>absurd (show b ∈ ([]:List Addr) from hb) (by simp),hok,.of_eq hg⟩
 refine Qfc ((F _ kb (nsK hns)).run Qij [] s H ⟨[.ref a],[]⟩ [.ref a] [.ref a] _ _ hr e0 (hbind s (.ref a)) (.cons rfl .nil) hsp) fun r s' h=>?_;cases r with
 | error e=>exact (hCX e s' h).elim
 | ok fl =>
  cases fl with
  | next=>exact Zh h
  | brk=>exact Zh h
  | cont=>exact Zh h
  | ret u =>
   obtain ⟨v,H',os,bare,un,hok',r',q⟩:=h;have q':v = .bl true:=q;subst q';obtain rfl:u=Qef true:=r';refine ⟨rfl,⟨fun b o e=>?_,fun b o e=>un.there b o e (by simp)⟩,os,bare⟩;cases qb:H b with
   | none=>exact .inl (un.keep b o e qb (by simp [frs]) (by simp))
   | some u =>
    rcases hA b (by rw [qb];simp) with z|z
    ·subst z;obtain ⟨o2,xs,e3⟩:=hF u qb;rw [e3] at qb;obtain ⟨e1,_⟩:=hok b _ qb;obtain ⟨e2,_⟩:=hok' b _ (un.frzs b _ _ qb);rw [e] at e1;cases e1;exact .inl e2
    ·obtain ⟨c,ht⟩:=ht b z;obtain ⟨more,e1,_⟩:=un.tbls b _ (hT b z);have e2:s'.heap.get? b=some (tabObj (#[]++more)):=hok' b _ e1;rw [ht.2] at e;cases e;exact .inr (.inl ⟨ht.isCodeTable,rfl,#[],more,rfl,e2⟩)
def zaao (KX:K.In s.heap) (hns:s.heap.Ns Ze mg) (hb:s.heap.Ns Qeg mb) (hbb : ∀ x:Str,x ≠ "__name__" -> mb x=Z0 x) (hlim:s.heap.NoLimit) (hg:s.gens = #[]) (ha:s.heap.get? a=some { cls :=.type "list",data :=.seq vs.toArray }) (hi:Qbl vs ns) (hl:ns.length<=Q9)
 (hr:Room k Qij) (ht : ∀ b ∈ ts,∃ c,s.heap.TableAt c b #[]) (hKt : ∀ b ∈ ts,K.lookup b=none) (F : ∀ base:Heap,K.In base->base.Ns Ze mg->FnOk P w K mg base CX k fa fd [x] sp) (hbind : ∀ (s:Ql) (u:Value),Qjz s fd ⟨[u],[]⟩ [(x,u)])
 (hsp : ∀ H:Hp,Tbs ts H->SqL K H a (ns.map V.int)->sp [.ref a] H (fun v _=>v = .bl true) fun _ _ _=>False) (hCX : ∀ H e s',CX [] H s (fun _ _ _=>False) e s'->False) :
 Qdv (model P w) Qij (.call (.ref fa) ⟨[.ref a],[]⟩) (fun r s'=>r = .ok (.ret (.bool true))/\OldK s.heap s'.heap/\s'.os=s.os/\Qfi s'.gens) s:=by
 have rv:=qkn hi;have lv:=hi.length;have ne:a ∉ ts:=fun z=>by
  obtain ⟨c,ht⟩:=ht a z;have:=ht.2;rw [ha] at this;cases this
 cases hk:K.lookup a with
 | some o =>
  have e:=KX a o hk;rw [ha] at e;cases e;refine qtz (H:=fun b=>if b ∈ ts then some (.tbl #[]) else none) KX hns hb hbb hlim hg ha hr ht hKt F hbind (fun b z=>?_) (fun u z=>?_) (fun b hb=>if_pos hb) (fun b u z=>?_) (fun z=>absurd (if_neg ne) z) (hsp _ (fun t ht=>⟨#[],if_pos ht,.nil⟩) ?_) (fun e s'=>hCX _ e s')
  ·by_cases q:b ∈ ts
   ·exact .inr q
   ·exact absurd (if_neg q) z
  ·have:=(if_neg ne).symm.trans z;cases this
  ·by_cases q:b ∈ ts
   ·have z':=(if_pos q).symm.trans z;cases z';obtain ⟨c,ht⟩:=ht b q;exact ht.2
   ·have z':=(if_neg q).symm.trans z;cases z'
  ·exact .inr ⟨_,vs.toArray,_,hk,rfl,rfl,rfl,by rw [Qr,lv];exact hl,by simpa using rv⟩
 | none =>
  refine qtz (H:=fun b=>if b ∈ ts then some (.tbl #[]) else if b=a then some (.frz { cls :=.type "list",data :=.seq vs.toArray } (.lst (ns.map V.int))) else none) KX hns hb hbb hlim hg ha hr ht hKt F hbind (fun b z=>?_) (fun u z=>?_) (fun b hb=>if_pos hb) (fun b u z=>?_) (fun _=>hk) (hsp _ (fun t ht=>⟨#[],if_pos ht,.nil⟩) ?_) (fun e s'=>hCX _ e s')
  ·by_cases q:b ∈ ts
   ·exact .inr q
   ·by_cases q2:b=a
    ·exact .inl q2
    ·exact absurd ((if_neg q).trans (if_neg q2)) z
  ·have z':=((if_neg ne).trans (if_pos rfl)).symm.trans z;exact ⟨_,_,(Qx z').symm⟩
  ·by_cases q:b ∈ ts
   ·have z':=(if_pos q).symm.trans z;cases z';obtain ⟨c,ht⟩:=ht b q;exact ht.2
   ·by_cases q2:b=a
    ·have z':=((if_neg q).trans (if_pos q2)).symm.trans z;cases z';subst q2;exact ⟨ha,by rw [Qk];exact hl,vs,_,rv,ha⟩
    ·have z':=((if_neg q).trans (if_neg q2)).symm.trans z;cases z'
  ·exact .inl (.inr ⟨{ cls :=.type "list",data :=.seq vs.toArray },(if_neg ne).trans (if_pos rfl)⟩)
end
def walk_ofT {l:Qhb}{n k:Nat}{q:Zo}{loose:List Str}{XP:(Str->Option Value)->Heap->Prop}{YP:World->Heap->Prop}{d:DefRec}{K:Jh->Qe}{tbs:Jh->List Addr}{CX:World->CXT}{sp:World->Sp}{x:Str}
 (hn:l.most=some n) (hn2:n<=Q9) (hdf:d.params.defaults=[]) (hr:Room k Qij) (hY : ∀ (w:World) (h:Heap),YP w h->(K w.params).In h /\ ∀ b ∈ tbs w.params,∃ c,h.TableAt c b #[]) (hKt : ∀ P,∀ b ∈ tbs P,(K P).lookup b=none)
 (F : ∀ (w:World) (mg:Str->Option Value) (fa:Addr) (h:Heap),(K w.params).In h->h.Ns Ze mg->mg d.name=some (.ref fa) ->
 ∃ fd:Jo,(∀ (s:Ql) (u:Value),Qjz s fd ⟨[u],[]⟩ [(x,u)]) /\ ∀ base:Heap,(K w.params).In base->base.Ns Ze mg->FnOk l.prog w (K w.params) mg base (CX w) k fa fd [x] (sp w))
 (hsp : ∀ (w:World) (H:Hp) (a:Addr) (ns:List Int),ns.length<=n->Tbs (tbs w.params) H->SqL (K w.params) H a (ns.map V.int)->sp w [.ref a] H (fun v _=>v = .bl true) fun _ _ _=>False)
 (hCX : ∀ (w:World) (H:Hp) (s:Ql) (e:Value) (s':Ql),CX w [] H s (fun _ _ _=>False) e s'->False):Qmh q loose XP YP l.row.toRowW d [] (fun f vs=>Qlz f vs):=by
  refine Att.attach_call hn hdf fun w s₀ s₁ mg mb fa o pm cd doc a vs ns G Y ho hd hcd hmg hobj hints hlen hg=>?_;obtain ⟨KX,ht⟩:=hY w _ Y;obtain ⟨fd,hb,hF⟩:=F w mg fa _ KX G.T.g hmg;exact zaao KX G.T.g G.T.b G.T.builtins G.T.nolimit hg hobj hints (Zr hlen hn2) hr ht (hKt w.params) hF hb (fun H hO hS=>hsp w H a ns hlen hO hS) fun H e s'=>hCX w H s₁ e s'
end
section
def zacc (K:Qe) (c tb:Addr):Bool:=match K.lookup c with
 | some ⟨.type "code",_,.fields vs,_⟩=>(vs[11]?==some (.ref tb))&&(match vs.getD 18 .none with | .str _ _=>true|_=>false)&&(match vs.getD 7 .none with | .int _ _=>true|_=>false)&&(match vs.getD 9 .none with | .bool _=>true|_=>false)&&(match vs.getD 10 .none with | .int _ _=>true|_=>false)&&c != tb
 | _=>false
def zaav {K:Qe}{h:Heap}{c tb:Addr} (X:K.In h) (q:zacc K c tb=true):CodeHd h c tb:=by
 unfold zacc at q;split at q
 case h_2=>cases q
 rename_i dd vs sl ho;simp only [Ys,beq_iff_eq,bne_iff_ne] at q;obtain ⟨⟨⟨⟨⟨e1,e2⟩,e3⟩,e4⟩,e5⟩,e6⟩:=q;have e7:vs.getD 11 .none = .ref tb:=by
  have:vs.getD 11 .none=(vs[11]?).getD .none:=by simp [Array.getD_eq_getD_getElem?]
  rw [this,e1];rfl
 split at e2
 case h_2=>cases e2
 rename_i x2 t2 g2;split at e3
 case h_2=>cases e3
 rename_i x3 t3 g3;split at e4
 case h_2=>cases e4
 rename_i x4 g4;split at e5
 case h_2=>cases e5
 rename_i x5 t5 g5;exact ⟨_,vs,x2,t2,x3,t3,x4,x5,t5,X _ _ ho,rfl,rfl,e1,e7,g2,g3,g4,g5,e6⟩
def blIn (K:Qe) (bm tb:Addr):Bool:=match K.lookup bm with
 | some ⟨.type "module",some d,.plain,_⟩=>d==Qeg&&bm != Qeg&&bm != Ze&&bm != tb
 | _=>false
def zaim {K:Qe}{h:Heap}{mg:Str->Option Value}{bm tb:Addr} (X:K.In h) (hm:mg "__builtins__" = some (.ref bm)) (q:blIn K bm tb=true):h.BuiltinsAt mg tb:=by
 unfold blIn at q;split at q
 case h_2=>cases q
 rename_i d sl ho;simp only [Ys,beq_iff_eq,bne_iff_ne] at q;obtain ⟨⟨⟨e1,e2⟩,e3⟩,e4⟩:=q;subst e1;exact ⟨bm,_,hm,e2,e3,e4,X _ _ ho,rfl,rfl,rfl⟩
structure DefT (K:Qe) (mg:Str->Option Value) (x:Str) (st:Stmt) (ps:List Str) (c0:Addr):Prop where
 ex : ∃ (f:Addr) (oc:Value) (od:Option Addr) (kV doc pm:Value) (an:Option Addr) (ct:Value) (osl:Array (Option Value)),K.lookup f=some ⟨oc,od,.func (Vm x x (defArgs st) (defBody st) (defScope st) .none kV doc pm an (.ref c0) ct),osl⟩/\Qao K (.ref c0) x=true /\
  Je K (.ref f)=true/\mg x=some (.ref f)/\Binds K (Vm x x (defArgs st) (defBody st) (defScope st) .none kV doc pm an (.ref c0) ct) ps []
def DefT.ok {P:Zo}{w:World}{K:Qe}{mg:Str->Option Value}{base:Heap}{x:Str}{st:Stmt}{N ps:List Str}{k:Nat}{sp:Sp}{c0:Addr} (F:DefT K mg x st ps c0) (S:FnScope N ps (defScope st)) (len : ∀ vs H Q E,sp vs H Q E->vs.length=ps.length)
 (hbody : ∀ (f:Addr) (A:Z2) (outer:List Env) (s:Ql) (H:Hp) (vs:List V) (Q:VK) (E:XK),Room k (A.deeper (Qch x (defScope st) s.heap.objs.size f (.ref c0)))->sp vs H Q E ->
 ∃ t,PSs (qdn CX0 P w K mg base N x (defScope st) f (.ref c0) A outer s H E).nox (defBody st) t/\t { nx:=fun _ H'=>Q .non H',rt:=Q } (start N vs) H):Ok P w K mg base x (k+1) ps sp:=by
  obtain ⟨f,oc,od,kV,doc,pm,an,ct,osl,lk,hcd,kp,hm,hb⟩:=F.ex;refine ⟨f,_,zacb lk hcd S len fun A outer s H vs Q E hr hsp=>?_,hm,kp,hb⟩;obtain ⟨t,h,q⟩:=hbody f A outer s H vs Q E hr hsp;exact ⟨t,h.nox,q⟩
def qmg (ts:List Addr) (sp:Sp):Sp:=fun vs H Q E=>Tbs ts H/\sp vs H Q E
def Ok.t {X:Cx}{x:Str}{k:Nat}{ps:List Str}{sp:Sp}{ts:List Addr} (O:Ok X.prog X.w X.K X.mg X.base x k ps (qmg ts sp)) (h:Tbs ts X.H₀):OkC X x k ps sp :=
 ⟨_,O,fun _ _ _ _ _ _ _ I q=>⟨fun t ht=>TbS.of I (h t ht),q⟩⟩
def OkX.t {X:Cx}{x:Str}{k:Nat}{ps:List Str}{sp:Sp}{ts:List Addr} (O:OkX X.prog X.w X.K X.mg X.base x k ps (qmg ts sp)) (h:Tbs ts X.H₀):OkXC X x k ps sp :=
 ⟨_,O,fun _ _ _ _ _ _ _ I q=>⟨fun t ht=>TbS.of I (h t ht),q⟩⟩
section
variable {P:Zo}{w:World}{K:Qe}{mg:Str->Option Value}{base:Heap}{ts:List Addr}
def Def.tvok {x:Str}{st:Stmt}{N ps:List Str}{k:Nat}{sp:DC} (F:Def K mg x st ps) (S:FnScope N ps (defScope st)) (len : ∀ ds q,sp ds q->ds.length=ps.length)
 (hbody : ∀ (f:Addr) (cdv:Value) (A:Z2) (outer:List Env) (s:Ql) (H:Hp) (E:XK),Room k (A.deeper (Qch x (defScope st) s.heap.objs.size f cdv))->Tbs ts H -> ∀ ds q,sp ds q ->
 ∃ W,VSs (qdn CX0 P w K mg base N x (defScope st) f cdv A outer s H E).nox (defBody st) W/\W { nx:=fun _=>q .none,rt:=fun r _=>q r.data } (qU N ds)):Ok P w K mg base x (k+1) ps (qmg ts (PSp K sp)) :=
  F.ok S (fun vs H Q E xx188=>by obtain ⟨_,F,ds,q,_,i,h,_⟩:=xx188;rw [i.len];exact len ds q h) fun f cdv A outer s H vs Q E hr xx187=>by
   obtain ⟨hT,F,ds,q,sm,i,h,kk⟩:=xx187;obtain ⟨W,hW,hq⟩:=hbody f cdv A outer s H E hr hT ds q h;refine ⟨_,hW,⟨H,H,F⟩,qU N ds,F,_,qcf sm i,hq,⟨fun e1 F1 H1 σ1 I1 s1 q1=>kk _ _ F1 H1 I1.goOf qjd q1,fun r v e1 F1 H1 σ1 I1 s1 r1 q1=>?_,fun _ _ _ _ _ _ h=>h.elim,fun _ _ _ _ _ _ h=>h.elim⟩⟩;obtain ⟨F2,g,j⟩:=r1.is I1;exact kk _ _ F2 H1 g j q1
def Def.tvokF {x:Str}{st:Stmt}{N ps:List Str}{k:Nat}{sp:List Qi->(List Qi->Prop)->Prop} (F:Def K mg x st ps) (S:FnScope N ps (defScope st)) (len : ∀ ds q,sp ds q->ds.length=ps.length)
 (hbody : ∀ (f:Addr) (cdv:Value) (A:Z2) (outer:List Env) (s:Ql) (H:Hp) (E:XK),Room k (A.deeper (Qch x (defScope st) s.heap.objs.size f cdv))->Tbs ts H -> ∀ ds q,sp ds q ->
 ∃ W,VSs (qdn CX0 P w K mg base N x (defScope st) f cdv A outer s H E).nox (defBody st) W/\W { nx:=fun _=>False,rt:=fun r _ => ∃ l,r = .own l/\q l } (qU N ds)):Ok P w K mg base x (k+1) ps (qmg ts (FSp K sp)) :=
  F.ok S (fun vs H Q E xx190=>by obtain ⟨_,F,ds,q,_,i,h,_⟩:=xx190;rw [i.len];exact len ds q h) fun f cdv A outer s H vs Q E hr xx189=>by
   obtain ⟨hT,F,ds,q,sm,i,h,kk⟩:=xx189;obtain ⟨W,hW,hq⟩:=hbody f cdv A outer s H E hr hT ds q h;refine ⟨_,hW,⟨H,H,F⟩,qU N ds,F,_,qcf sm i,hq,⟨fun e1 F1 H1 σ1 I1 s1 q1=>q1.elim,fun r v e1 F1 H1 σ1 I1 s1 r1 q1=>?_,fun _ _ _ _ _ _ h=>h.elim,fun _ _ _ _ _ _ h=>h.elim⟩⟩;obtain ⟨l,rfl,q1⟩:=q1;obtain ⟨a,vs,rfl,h1,h2,h3,h4,h5⟩:=r1;exact kk l a vs F1 H1 I1.goOf h4 h2 h1 h5 q1
def Def.tvokX {x:Str}{st:Stmt}{N ps:List Str}{k:Nat}{sp:DE} (F:Def K mg x st ps) (S:FnScope N ps (defScope st)) (len : ∀ ds q e,sp ds q e->ds.length=ps.length)
 (hbody : ∀ (f:Addr) (cdv:Value) (A:Z2) (outer:List Env) (s:Ql) (H:Hp) (E:XK),Room k (A.deeper (Qch x (defScope st) s.heap.objs.size f cdv)) ->
 (∀ σ,qfi (qdn (CX1 P w) P w K mg base N x (defScope st) f cdv A outer s H E) σ E)->qou (qdn (CX1 P w) P w K mg base N x (defScope st) f cdv A outer s H E) E->Tbs ts H -> ∀ ds q e,sp ds q e ->
 ∃ W,qvt (qdn (CX1 P w) P w K mg base N x (defScope st) f cdv A outer s H E) (fun _=>E) (defBody st) W/\W (fun C _=>e C) { nx:=fun _=>q .none,rt:=fun r _=>q r.data } (qU N ds)):OkX P w K mg base x (k+1) ps (qmg ts (XSp K sp)):=by
  obtain ⟨f,fd,Fn,hm,hb⟩:=F.ex;refine ⟨f,fd,?_,hm,Fn.kp,hb⟩;obtain ⟨oc,od,kV,doc,pm,an,cdv,ct,osl,rfl,lk,hcd⟩:=Fn.ex;refine zacb lk hcd S (fun vs H Q E xx192=>by obtain ⟨_,F,ds,q,e,_,i,h,_⟩:=xx192;rw [i.len];exact len ds q e h) fun A outer s H vs Q E hr xx191=>?_;obtain ⟨hT,F,ds,q,e,sm,i,h,kk,kx⟩:=xx191;obtain ⟨W,hW,hq⟩:=hbody f cdv A outer s H E hr (fun σ pins H1 s1 e1 s' I c=>qqm pins σ H1 s1 e1 s' I c) qqw hT ds q e h;refine ⟨_,hW,⟨H,H,F⟩,qU N ds,F,_,_,qcf sm i,hq,fun C e1 F1 H1 σ1 I1 s1 q1=>kx C F1 H1 I1.goOf q1,⟨fun e1 F1 H1 σ1 I1 s1 q1=>kk _ _ F1 H1 I1.goOf qjd q1,fun r v e1 F1 H1 σ1 I1 s1 r1 q1=>?_,fun _ _ _ _ _ _ h=>h.elim,fun _ _ _ _ _ _ h=>h.elim⟩⟩;obtain ⟨F2,g,j⟩:=r1.is I1;exact kk _ _ F2 H1 g j q1
end
end
end L2
namespace L2
open PySem PySem.Spec PyProof.Rows
section
def qlf : ∀ {us:List Value}{ns:List Int},Qbl us ns -> ∀ (i:Nat) (v:Value),us[i]?=some v -> ∃ n t,ns[i]?=some n/\v = .int n t
 | _,_,.nil,i,v,h=>by simp at h
 | _,_,.cons n t r,0,v,h=>by
  rw [Qfz,Qjs] at h;exact ⟨n,t,by rw [Qfz],h.symm⟩
 | _,_,.cons n t r,i+1,v,h=>by
  rw [Vc] at h;obtain ⟨m,k,e,z⟩:=qlf r i v h;exact ⟨m,k,by rw [Vc];exact e,z⟩
def qku : ∀ {us:List Value}{ns:List Int},Qbl us ns->us.length=ns.length
 | _,_,.nil=>rfl
 | _,_,.cons n t r=>by rw [Zp,Zp,qku r]
def zaat {us:List Value}{ns:List Int} (hb:Qbl us ns):((Q1 us.toArray.size).any fun i=>((ns[i]?).getD 1) != 0)=ns.any (· != 0):=by
 have hlen:us.toArray.size=ns.length:=by rw [Qr];exact qku hb
 rw [hlen,Qgv,Ym,Ym];constructor
 ·rintro ⟨i,hi,z⟩;have hi':=Q6.mp hi;refine ⟨ns[i],Za hi',?_⟩;simpa [hi'] using z
 ·rintro ⟨b,hb',z⟩;obtain ⟨i,hi,rfl⟩:=Qeh hb';exact ⟨i,Q6.mpr hi,by simpa [hi] using z⟩
section
variable {X:Cx}
def zaqf (K:Qe):List V->Hp->VK->Prop:=fun xs H Q => ∃ (a:Addr) (ns:List Int),xs=[.ref a]/\SqL K H a (ns.map V.int)/\Q (.bl (ns.any (· != 0))) H
def zaay (hc:X.calm=true):CallR X (.builtin "any") (zaqf X.K):=by
 intro pins s σ H xs us Q I r h;obtain ⟨a,ns,rfl,ha,q⟩:=h;obtain ⟨u,rfl,rx⟩:=qhp r;cases rx;obtain ⟨its,rv,pl,_⟩:=I.list ha;have hl:=pl.isList;have hb:=qin rv;have hlt:a<s.heap.objs.size:=pl.lt;refine call_any_walk (Qae hl ?_);refine ⟨s.heap.objs.size,[s.heap.objs.size,a],[s.heap.objs.size],its.toArray.size,_,_,fun i=>((ns[i]?).getD 1) != 0,rfl,Qjq (A:=X.A.in1) (I.ok.hd hc) _ a (Qq hlt) its.toArray,
  ⟨⟨_,Qy _ rfl,rfl,rfl⟩,hl.push _⟩,fun i v s' Q' E' hP hQ=>?_,fun h' tk hk=>?_⟩
 ·obtain ⟨n,t,e,rfl⟩:=qlf hb i v (by simpa using hP);simp only [e,Qbr] at hQ;exact P.truthy_int hQ
 ·rw [zaat hb];refine ⟨.bl (ns.any (· != 0)),H,I.kept (t':=tk) (fun b o z=>hk b o (fun hm=>?_) (Qf _ z)),rfl,q⟩;rw [Qw.mp hm] at z;exact Ja _ (Qp z)
def zaqc:DC
 | [.list l],q => ∃ ns:List Int,l=ns.map .int/\q (.bool (ns.any (· != 0)))
 | _,_=>False
def zame (hc:X.calm=true):qig X (.builtin "any") zaqc:=(zaay hc).imp fun xs H Q xx193=>by
 obtain ⟨F,ds,q,s,i,h,k⟩:=xx193
 match ds,h,i with
 | [.list l],h,i =>
  obtain ⟨v,rfl,j⟩:=qiv i;obtain ⟨a,xs,rfl,hs,hr⟩:=j.lst_inv;obtain ⟨ns,rfl,hq⟩:=h;rw [hr.ints_inv] at hs;exact ⟨a,ns,rfl,s.seq hs,k _ _ F H (.refl s) (qdb _) hq⟩
end
end
section
abbrev Grp:=List Int×Addr×List Nat
def qlg (x:Grp):List Key×V:=(x.1.map Qcj,V.ref x.2.1)
def grL (G:List Nat):List V:=G.map fun i=>V.int ((i:Nat):Int)
structure GrAt (H0 F H:Hp) (d:Addr) (ks:List Grp):Prop where
 hd:H d=some (.dT (ks.map qlg))
 fd:F d=none
 nd:H0 d=none
 hl : ∀ x ∈ ks,H x.2.1=some (.lst (grL x.2.2))
 fl : ∀ x ∈ ks,F x.2.1=none
 nl : ∀ x ∈ ks,H0 x.2.1=none
 dl : ∀ x ∈ ks,x.2.1≠d
 ad:(ks.map (·.2.1)).Nodup
 ky:(ks.map (·.1)).Nodup
def qnj (ks:List Grp) (k:List Int) (s:Nat):List Grp:=ks.map fun x=>if x.1=k then (x.1,x.2.1,x.2.2++[s]) else x
def zaka {a b:List Int} (h:(a.map Qcj:List Key)=b.map Qcj):a=b:=by
 induction a generalizing b with
 | nil=>cases b with
  | nil=>rfl
  | cons _ _=>cases h
 | cons x a ih=>cases b with
  | nil=>cases h
  | cons y b =>
   rw [Q7,Q7] at h;injection h with h1 h2;injection h1 with h1;rw [h1,ih h2]
def qkl {α β:Type}{f:α->β} : ∀ {l:List α},(l.map f).Nodup -> ∀ x ∈ l,∀ y ∈ l,f x=f y->x=y
 | [],_,x,hx,_,_,_=>by cases hx
 | a::l,h,x,hx,y,hy,e=>by
  rw [Q7,Jj] at h;rcases Q3.mp hx with zx|zx
  ·rcases Q3.mp hy with zy|zy
   ·rw [zx,zy]
   ·exact (h.1 (Qm.mpr ⟨y,zy,by rw [<- e,zx]⟩)).elim
  ·rcases Q3.mp hy with zy|zy
   ·exact (h.1 (Qm.mpr ⟨x,zx,by rw [e,zy]⟩)).elim
   ·exact qkl h.2 x zx y zy e
def qsr {k:List Int} : ∀ (ks:List Grp),qmh (ks.map qlg) (k.map Qcj)=(ks.find? fun x=>decide (x.1=k)).map fun x=>V.ref x.2.1
 | []=>rfl
 | x::ks=>by
  rw [Q7];by_cases e:x.1=k
  ·rw [qog (by show x.1.map Qcj=_;rw [e]),List.find?_cons_of_pos (by simpa using e)];rfl
  ·rw [qol (fun z=>e (zaka z)),List.find?_cons_of_neg (by simpa using e),qsr ks]
def Go.at {F0 H0 F H:Hp}{a:Addr}{o:HO} (g:Go F0 H0 F H) (h1:F a=none) (h2:H0 a=none):Go F0 H0 F (upd H a o) :=
 ⟨g.f,fun b u e=>by rw [qj fun z=>by rw [z,h2] at e;cases e];exact g.h b u e,fun b u e=>by rw [qj fun z=>by rw [z,h1] at e;cases e];exact g.fh b u e,g.new⟩
section
variable {F0 H0 F H:Hp}{d l p:Addr}{ks:List Grp}{k:List Int}{G:List Nat}{s:Nat}
def GrAt.hit (h:GrAt H0 F H d ks) (m:(k,l,G) ∈ ks):GrAt H0 F (upd H l (.lst (grL (G++[s])))) d (qnj ks k s):=by
 have ne:d≠l:=fun z=>h.dl _ m z.symm;have addr : ∀ y:Grp,(if y.1=k then (y.1,y.2.1,y.2.2++[s]) else y).2.1=y.2.1:=fun y=>by split <;> rfl
 have key : ∀ y:Grp,(if y.1=k then (y.1,y.2.1,y.2.2++[s]) else y).1=y.1:=fun y=>by split <;> rfl
 have nodup_at:=qkl (f:=fun x:Grp=>x.2.1) h.ad;have nodup_key:=qkl (f:=fun x:Grp=>x.1) h.ky;refine ⟨?_,h.fd,h.nd,fun x hx=>?_,fun x hx=>?_,fun x hx=>?_,fun x hx=>?_,?_,?_⟩
 ·rw [qj ne,h.hd];unfold qnj;rw [Zk]
  congr 2
  refine Zv fun x _=>?_;show qlg x=qlg _;unfold qlg;rw [addr,key]
 ·obtain ⟨y,hy,rfl⟩:=Qm.mp hx;rw [addr];by_cases e:y.1=k
  ·have:=nodup_key y hy _ m e;subst this;rw [ql,if_pos rfl]
  ·rw [qj fun z=>e ?_,if_neg e]
   ·exact h.hl y hy
   ·have:=nodup_at y hy _ m z;rw [this]
 ·obtain ⟨y,hy,rfl⟩:=Qm.mp hx;rw [addr];exact h.fl y hy
 ·obtain ⟨y,hy,rfl⟩:=Qm.mp hx;rw [addr];exact h.nl y hy
 ·obtain ⟨y,hy,rfl⟩:=Qm.mp hx;rw [addr];exact h.dl y hy
 ·have:(qnj ks k s).map (·.2.1)=ks.map (·.2.1):=by
   unfold qnj;rw [Zk];exact Zv fun x _=>addr x
  rw [this];exact h.ad
 ·have:(qnj ks k s).map (·.1)=ks.map (·.1):=by
   unfold qnj;rw [Zk];exact Zv fun x _=>key x
  rw [this];exact h.ky
def GrAt.miss (h:GrAt H0 F H d ks) (hp:H p=none) (fp:F p=none) (np:H0 p=none) (hk : ∀ x ∈ ks,x.1≠k):GrAt H0 F (upd (upd (upd H p (.lst [])) d (.dT ((ks++[(k,p,[s])]).map qlg))) p (.lst (grL [s]))) d (ks++[(k,p,[s])]):=by
 have pd:p≠d:=fun z=>by rw [z,h.hd] at hp;cases hp
 have pl : ∀ x ∈ ks,x.2.1≠p:=fun x hx z=>by have:=h.hl x hx;rw [z,hp] at this;cases this
 have two : ∀ {P:Grp->Prop},(∀ x ∈ ks,P x)->P (k,p,[s]) -> ∀ x ∈ ks++[(k,p,[s])],P x:=fun a b x hx=>by
  rcases Zl.mp hx with z|z
  ·exact a x z
  ·rw [Qw.mp z];exact b
 refine ⟨?_,h.fd,h.nd,two (fun x hx=>?_) ?_,two h.fl fp,two h.nl np,two h.dl pd,?_,?_⟩
 ·rw [qj (Yb pd),ql]
 ·rw [qj (pl x hx),qj (h.dl x hx),qj (pl x hx)];exact h.hl x hx
 ·exact ql
 ·rw [Zu,Q7,Qaf,Qbc];refine ⟨h.ad,by simp,fun a ha b hb=>?_⟩;obtain ⟨x,hx,rfl⟩:=Qm.mp ha;rw [Qw.mp hb];exact pl x hx
 ·rw [Zu,Q7,Qaf,Qbc];refine ⟨h.ky,by simp,fun a ha b hb=>?_⟩;obtain ⟨x,hx,rfl⟩:=Qm.mp ha;rw [Qw.mp hb];exact hk x hx
def zafl:grL G++[V.int ((s:Nat):Int)]=grL (G++[s]):=by unfold grL;rw [Zu];rfl
end
def qvp (ks:List Grp) (k:List Int) (p:Addr) (s:Nat):List Grp:=if (ks.any fun x=>decide (x.1=k))=true then qnj ks k s else ks++[(k,p,[s])]
def zals {K:Qe}{F0 H0 F H:Hp}{d b:Addr}{ks:List Grp}{k:List Int}{s ig ia is:Nat}{σ:St}{D:Ends} (g:Go F0 H0 F H) (h:GrAt H0 F H d ks) (e1:σ[ig]?=some (some (.ref d))) (e2:σ[ia]?=some (some (.ref b))) (e3:σ[is]?=some (some (.int ((s:Nat):Int))))
 (hb:F b=some (.tup (k.map V.int))) (hn:ks.length<900) (hs : ∀ x ∈ ks,x.2.2.length<900)
 (q : ∀ p H',Go F0 H0 F H'->GrAt H0 F H' d (qvp ks k p s)->D.nx σ H'):zakz (tBM K "list" qse (zaga (quh ig) (quh ia) (tLst tNil)) (qww (quh is) tNil)) D σ H:=by
  have hb':=g.fh.at hb;have ekv:(k.map Qcj:List Key).map kV=k.map V.int:=by rw [Zk];rfl
  refine ⟨_,e1,d,rfl,.inr ⟨_,.inl h.hd⟩,_,e2,Y9 _,fun p hp=>?_⟩;have pd:d≠p:=fun z=>by rw [<- z,h.hd] at hp;cases hp
  have fp:F p=none:=qB g.fh hp;have np:H0 p=none:=qB g.h hp;have pb:b≠p:=fun z=>by rw [<- z,hb'] at hp;cases hp
  refine ⟨ks.map qlg,k.map Qcj,b,by rw [qj pd];exact h.hd,rfl,by rw [qj pb,ekv];exact hb',by rw [Qk,Zf];omega,fun v ev=>?_,fun ev=>?_⟩
  ·rw [qsr] at ev;cases ef:ks.find? fun x=>decide (x.1=k) with
   | none=>rw [ef] at ev;cases ev
   | some x =>
    rw [ef] at ev;cases ev;have xm:=List.mem_of_find?_eq_some ef;have xk:x.1=k:=by simpa using List.find?_some ef
    obtain ⟨k',l,G⟩:=x;have xk:k'=k:=xk;subst xk;have lp:l≠p:=fun z=>by have:=h.hl _ xm;rw [z] at this;rw [show H p=_ from this] at hp;cases hp
    have hl:=h.hl _ xm;have ha:(ks.any fun x=>decide (x.1=k'))=true:=Ym.mpr ⟨_,xm,by simp⟩;have h1:GrAt H0 F (upd H p (.lst [])) d ks:=⟨by rw [qj pd];exact h.hd,h.fd,h.nd,fun x hx=>by
     rw [qj fun z=>by have:=h.hl x hx;rw [z,hp] at this;cases this];exact h.hl x hx,h.fl,h.nl,h.dl,h.ad,h.ky⟩
    have z1:=(h1.hit (s:=s) xm)
    have hp':=q p (upd (upd H p (.lst [])) l (.lst (grL (G++[s])))) ((g.at fp np).at (h.fl _ xm) (h.nl _ xm)) (by unfold qvp;rw [if_pos ha];exact z1);refine ⟨?_,_,e3,l,grL G,_,rfl,rfl,by rw [qj lp];exact hl,?_,?_⟩
    ·exact .inl ⟨rfl,grL G,SqL.of (by rw [qj lp];exact hl)⟩
    ·have:=hs _ xm;rw [Zf];show (grL G).length<_;unfold grL;rw [Qk];show G.length<_;have:G.length<900:=this;omega
    ·rw [zafl];exact hp'
  ·rw [qsr] at ev;have ef : ∀ x ∈ ks,x.1≠k:=fun x hx z=>by
    cases ef:ks.find? fun x=>decide (x.1=k) with
    | none=>exact (by simpa using List.find?_eq_none.mp ef x hx : ¬ x.1=k) z
    | some y=>rw [ef] at ev;cases ev
   have ha : ¬ (ks.any fun x=>decide (x.1=k))=true:=fun z=>by
    obtain ⟨x,hx,z⟩:=Ym.mp z;exact ef x hx (by simpa using z)
   have eput:qup (ks.map qlg) (k.map Qcj) (.ref p)=(ks++[(k,p,[s])]).map qlg:=by
    rw [zafm _ (by rw [qsr];exact ev),Zu];rfl
   rw [eput];have z1:=h.miss (s:=s) hp fp np ef;have hp':=q p _ (((g.at fp np).at h.fd h.nd).at fp np) (by unfold qvp;rw [if_neg ha];exact z1);have hl:upd (upd H p (.lst [])) d (.dT ((ks++[(k,p,[s])]).map qlg)) p=some (.lst []):=by rw [qj (Yb pd),ql]
   refine ⟨.inl ⟨rfl,[],SqL.of hl⟩,_,e3,p,[],_,rfl,rfl,hl,by rw [Zf];decide,?_⟩;exact hp'
def Room.lam {k:Nat}{A:Z2} (r:Room (k+1) A) (env:Env):Room k (A.in1.in1.deeper env) :=
 ⟨r.hd,by have:=r.dp;show A.depth+1+3*k+5<_;omega,by have:=r.un;show A.units+1+1+3+16*k+200<_;omega⟩
def Room.sort {k:Nat}{A:Z2} (r:Room k A):A.units+1<cLine/\A.in1.in1.units<cLine/\A.in1.in1.depth<Qap :=
 ⟨by have:=r.un;omega,by have:=r.un;show A.units+1+1<_;omega,by have:=r.dp;show A.depth<_;omega⟩
def qqs {y:Str} : ∀ {l:List (Str×Qbe)},(∀ p ∈ l,p.2 = .free->p.1=y) -> ∀ z,l.lookup z=some .free->z=y
 | [],_,z,h=>by cases h
 | (a,k)::l,g,z,h=>by
  rw [Yk] at h;cases e:z==a with
  | true =>
   rw [e] at h;have hk:k = .free:=Qx h;have:=eq_of_beq e;rw [this];exact g (a,k) (by simp) hk
  | false =>
   rw [e] at h;exact qqs (fun p hp=>g p (Qs _ hp)) z h
def GrAt.go {H0 F H F' H':Hp}{d:Addr}{ks:List Grp} (h:GrAt H0 F H d ks) (g:Go F H F' H'):GrAt H0 F' H' d ks :=
 ⟨g.h _ _ h.hd,qxx g h.hd h.fd,h.nd,fun x hx=>g.h _ _ (h.hl x hx),fun x hx=>qxx g (h.hl x hx) (h.fl x hx),h.nl,h.dl,h.ad,h.ky⟩
def qmi (gs:List (List Int×List Nat)) (k:List Int) (s:Nat):List (List Int×List Nat):=if (gs.any fun x=>decide (x.1=k))=true then gs.map (fun x=>if x.1=k then (x.1,x.2++[s]) else x) else gs++[(k,[s])]
def qid (ks:List Grp):List (List Int×List Nat):=ks.map fun x=>(x.1,x.2.2)
def zabq {ks:List Grp}{k:List Int}{p:Addr}{s:Nat}:qid (qvp ks k p s)=qmi (qid ks) k s:=by
 have e:((qid ks).any fun x=>decide (x.1=k))=ks.any fun x=>decide (x.1=k):=by unfold qid;rw [Qmo];rfl
 unfold qmi qvp;rw [e];split
 ·unfold qnj qid;rw [Zk,Zk];refine Zv fun x _=>?_;by_cases z:x.1=k
  ·simp [z]
  ·simp [z]
 ·unfold qid;rw [Zu];rfl
end
end L2
namespace L2
open PySem PySem.Spec PyProof.Rows PySem.W
section
section
variable {X:Cx}{t u:TS}
end
section
variable {K:Qe}{M:Frm}{F H:Hp}{env:Sto}{σ:St}{W:WS}{u:TS}
end
section
variable {P:Zo}{w:World}{K:Qe}{mg:Str->Option Value}{base:Heap}
def Fun.vlawT {x:Str}{st:Stmt}{f:Addr}{ts:List Addr}{fd:Jo}{N ps:List Str}{k:Nat} (F:Fun K x x st f fd) (S:FnScope N ps (defScope st)) (hp:ps.length=1)
 (hbody : ∀ (cdv:Value) (A:Z2) (outer:List Env) (s:Ql) (H:Hp) (E:XK),Room k (A.deeper (Qch x (defScope st) s.heap.objs.size f cdv))->Tbs ts H -> ∀ ns:List Int,ns.length<=63 ->
 ∃ W,VSs (qdn CX0 P w K mg base N x (defScope st) f cdv A outer s H E).nox (defBody st) W/\W { nx:=fun _=>False,rt:=fun r _=>r.data = .bool true } (qU N [.list (ns.map .int)])):FnOk P w K mg base CX0 (k+1) f fd ps (qow ts K):=by
  refine F.ok S (fun vs H Q E h=>?_) (fun cdv A outer s H vs Q E hr h=>?_)
  ·obtain ⟨_,a,ns,rfl,_⟩:=h;exact hp.symm
  ·obtain ⟨tss,a,ns,rfl,hS,hlen,kk⟩:=h;have hi:Iss K H [.list (ns.map .int)] [.ref a]:=qI (qez hS (qjm ns)) qZ;obtain ⟨W,hW,hq⟩:=hbody cdv A outer s H E hr tss ns hlen;refine ⟨_,hW,⟨H,H,H⟩,qU N _,H,_,qcf (.refl _) hi,hq,⟨fun e1 F1 H1 σ1 I1 s1 q1=>q1.elim,fun r v e1 F1 H1 σ1 I1 s1 r1 q1=>?_,fun _ _ _ _ _ _ h=>h.elim,fun _ _ _ _ _ _ h=>h.elim⟩⟩;obtain ⟨F2,g,j⟩:=r1.is I1;have q1:r.data = .bool true:=q1;rw [q1] at j;rw [j.bl_inv];exact kk H1
end
def zagn (K:Qe) (c tb:Addr):Bool:=match K.lookup c with
 | some ⟨.type "code",_,.fields vs,_⟩=>vs[11]?==some (.ref tb)
 | _=>false
abbrev emT:Obj:=⟨.none,none,.fields #[],#[]⟩
def qkq {K:Qe}{b:Addr} : ∀ (ts:List (Addr×Addr)),(b ∈ ts.map (·.1)/\(ts.map (fun p=>(p.1,emT))++K).lookup b=some emT)\/(b ∉ ts.map (·.1)/\(ts.map (fun p=>(p.1,emT))++K).lookup b=K.lookup b)
 | [] => .inr ⟨by simp,rfl⟩
 | p::ts=>by
  show (b ∈ p.1::ts.map (·.1)/\((p.1,emT)::(ts.map (fun p=>(p.1,emT))++K)).lookup b=some emT)\/(b ∉ p.1::ts.map (·.1)/\((p.1,emT)::(ts.map (fun p=>(p.1,emT))++K)).lookup b=K.lookup b);rw [Yk];by_cases e:b=p.1
  ·subst e;rw [beq_self_eq_true];exact .inl ⟨Qas,rfl⟩
  ·have hb:(b==p.1)=false:=by simpa using e
   rw [hb];rcases qkq (K:=K) (b:=b) ts with ⟨h1,h2⟩|⟨h1,h2⟩
   ·exact .inl ⟨Qs _ h1,h2⟩
   ·exact .inr ⟨fun z=>(Q3.mp z).elim e h1,h2⟩
def tabs_in {K:Qe}{ts:List (Addr×Addr)}{h:Heap} (n:(ts.all fun p=>(K.lookup p.1).isNone)=true) (q:(ts.all fun p=>zagn K p.2 p.1)=true) (Y:Qe.In (ts.map (fun p=>(p.1,emT))++K) h):K.In h /\ ∀ b ∈ ts.map (·.1),∃ c,h.TableAt c b #[]:=by
 have kin:K.In h:=fun b o e=>by
  rcases qkq (K:=K) (b:=b) ts with ⟨h1,h2⟩|⟨h1,h2⟩
  ·obtain ⟨p,hp,rfl⟩:=Qm.mp h1;have:=Zi.mp n p hp;rw [e] at this;cases this
  ·exact Y b o (h2.trans e)
 refine ⟨kin,fun b hb=>?_⟩;rcases qkq (K:=K) (b:=b) ts with ⟨h1,h2⟩|⟨h1,h2⟩
 ·obtain ⟨p,hp,rfl⟩:=Qm.mp hb;have q:=Zi.mp q p hp;refine ⟨p.2,?_,Y _ _ h2⟩;unfold zagn at q;split at q
  case h_2=>cases q
  rename_i dd vs sl ho;exact ⟨_,vs,kin _ _ ho,rfl,rfl,by simpa using q⟩
 ·exact (h1 hb).elim
def none_all {K:Qe}{ts:List (Addr×Addr)} (n:(ts.all fun p=>(K.lookup p.1).isNone)=true) : ∀ b ∈ ts.map (·.1),K.lookup b=none:=fun b hb=>by
 obtain ⟨p,hp,rfl⟩:=Qm.mp hb;exact Qbn.mp (Zi.mp n p hp)
end
section
section
variable {a:Addr}{F H F1 H1 F2 H2:Hp}
end
end
section
def zafu (x y:Nat->Int) : ∀ (ns ms:List Int) (i:Nat),ns.length=ms.length->(∀ k,x (i+k)=ns.getD k 0)->(∀ k,y (i+k)=ms.getD k 0)->HT.lexLt ns ms=qkh x y ns.length i
 | [],[],i,_,_,_=>rfl
 | [],_::_,i,h,_,_=>by cases h
 | _::_,[],i,h,_,_=>by cases h
 | a::ns,b::ms,i,h,hx,hy=>by
  have e1:x i=a:=hx 0;have e2:y i=b:=hy 0;have ih:=zafu x y ns ms (i+1) (Qhc h) (fun k=>by have:=hx (k+1);rw [show i+(k+1)=i+1+k by omega] at this;rw [this];rfl) (fun k=>by have:=hy (k+1);rw [show i+(k+1)=i+1+k by omega] at this;rw [this];rfl);rw [HT.lexLt_cons,Zp,qkh,e1,e2];by_cases z:a=b
  ·rw [if_pos z,if_pos (by simpa using z),ih]
  ·rw [if_neg z,if_neg (by simpa using z)]
section
variable {prog:Zo}{w:World}{A:Z2}{E:Value->Ql->Prop}{s:Ql}
def zajj {v:Value}{Q:Bool->Ql->Prop} (h:Q true s):wpAny (model prog w) A (eqBool v v) Q E s:=by
 unfold eqBool;refine Yx ?_;show wpAny _ _ (if (v==v)=true then _ else _) Q E s;rw [if_pos (beq_self_eq_true v)];exact Qd (Qbh (Qo h))
def qva {b:Bool}{Q:Bool->Ql->Prop} (h:Q false s) : ∀ (l:List Value) (i:Nat),KatLex prog w A b false Q (l.zip l) i s
 | [],_=>h
 | v::l,i=>kat_cons (zajj (kat_yes (qva h l (i+1))))
def qik : ∀ {vs:List Value}{ns:List Int},Qbl vs ns->ItemsAre (intKind prog w) ns vs
 | [],[],_ => .nil
 | _::_,_::_,.cons i t h => .cons (intKind_is prog w _ _) (qik h)
end
section
variable {X:Cx}{pins:List (Addr×Obj)}{σ:St}{H:Hp}{s:Ql}{A:Z2}{E:Value->Ql->Prop}{vs:List Value}{kl:Nat->List Int}{m:Nat}{a:Addr}{P:Qiz->Ql->Prop}
def TupAt (K:Qe) (kl:Nat->List Int) (i:Nat) (v:Value) (H:Hp):Prop := ∃ t c rest,v = .ref t/\SqT K H t (.ref c::rest)/\SqT K H c ((kl i).map V.int)
def TupAt.obj {i:Nat}{v:Value} (I:Inv X pins σ H s) (h:TupAt X.K kl i v H) : ∃ t c its,v = .ref t/\IsTup s.heap t (Qcd (Z3 c::its)) /\ ∃ xs,IsTup s.heap c (Qcd xs)/\Qbl xs (kl i):=by
 obtain ⟨t,c,rest,e,h1,h2⟩:=h;obtain ⟨its,r,p,_⟩:=I.tuple h1;obtain ⟨xs,r2,p2,_⟩:=I.tuple h2;cases r with
 | cons r1 r3 =>
  cases r1;exact ⟨t,c,_,e,p,xs,p2,qin r2⟩
def qwz {n0:Nat} (hu:A.units<cLine) (o:OrdN vs.length (qE kl m)) (hm : ∀ i,i<vs.length->(kl i).length=m) (hd : ∀ i j,i<vs.length->j<vs.length->i≠j->kl i≠kl j) (hk : ∀ i,i<vs.length->TupAt X.K kl i (vs.getD i .none) H) (I:Inv X pins σ H s) (oa:OwnA X pins a) (na:H a=none) (h64:vs.length<64)
 (ha:s.heap.get? a=some (Vp "list" vs.toArray n0)) (h : ∀ (p:Array Nat) (s':Ql) (c:Nat),PmN vs.length p->SrtN (qE kl m) p vs.length->Inv X pins σ H s'->s'.heap.get? a=some (Vp "list" (p.toList.map fun i=>vs.getD i .none).toArray c)->P (.done (.ret .none)) s') :
 wpAny (model X.prog X.w) A (Builtin.«list.sort» ⟨[.ref a],[]⟩) P E s:=by
  rw [list_sort_plain];have I1:=I.own (a:=a) (t':=s.toks) (h':=s.heap.update a (Zx fun _=>(#[]:Array Value))) oa na fun b u hb e=>qce _ hb e;obtain ⟨e1,ha1⟩ : ∃ e1,(s.heap.update a (Zx fun _=>(#[]:Array Value))).get? a=some (Vp "list" #[] e1):=⟨_,Qct ha fun _ => #[]⟩
  refine Qd (Qkg ha rfl ?_);refine Qd (Qcv ha rfl ?_ (by rw [Qr,Zf];omega) (Y9 _));refine Qd (Qil ha1 rfl ?_);refine Qd (Qfk ?_ (by show vs.length<=_;rw [Zf];omega));refine Qd (Qge ?_ (Y9 _));refine Yx ?_;have kp : ∀ b u,(s.heap.update a (Zx fun _=>(#[]:Array Value))).get? b=some u->(((s.heap.update a (Zx fun _=>(#[]:Array Value))).push (Vp "tuple" vs.toArray 0)).push (Vp "list" #[] 0)).get? b=some u:=fun b u e=>Qf _ (Qf _ e);have I2:=I1.kept (t':=s.toks) (h':=((s.heap.update a (Zx fun _=>(#[]:Array Value))).push (Vp "tuple" vs.toArray 0)).push (Vp "list" #[] 0)) kp;have ha2:=kp _ _ ha1;show wpAny (model X.prog X.w) A _ P E { s with heap:=((s.heap.update a (Zx fun _=>(#[]:Array Value))).push (Vp "tuple" vs.toArray 0)).push (Vp "list" #[] 0) };generalize ((s.heap.update a (Zx fun _=>(#[]:Array Value))).push (Vp "tuple" vs.toArray 0)).push (Vp "list" #[] 0)=h2 at I2 ha2;dsimp only;have fin : ∀ {st:SortSt}{p:Array Nat},PmN vs.length p->SrtN (qE kl m) p vs.length->(arrOf st).map (·.2)=(p.toList.map fun i=>vs.getD i .none).toArray->Qkv st=none ->
   wpAny (model X.prog X.w) A (do
    let touched:=(<- seqEpoch a) != e1
    Builtin.List.listUpdate (.ref a) fun _=>(arrOf st).map (·.2)
    if let some e:=Qkv st then rule "list.sort.comparison-raised";throw e
    if touched then rule "list.sort.modified";raiseError "ValueError" "list modified during sort"
    ret .none) P E { s with heap:=h2 }:=fun {st p} hp hs hout hf=>by
   have lz:(p.toList.map fun i=>vs.getD i Vb).toArray.size=vs.length:=by rw [Qr,Qk,Z1,hp.s]
   rw [hout];refine Qd (Qil ha2 rfl ?_);refine Qd (Qcv ha2 rfl ?_ (Y9 _) (Zr (Qey lz) (by rw [Zf];omega)));rw [hf];simp only [bne_self_eq_false,Vs,if_false];have I3:=I2.own (a:=a) (t':=s.toks) (h':=h2.update a (Zx fun _=>(p.toList.map fun i=>vs.getD i Vb).toArray)) oa na fun b u hb e=>qce _ hb e;exact Qo (h p _ _ hp hs I3 (Qct ha2 fun _=>_))
  by_cases c2:vs.length<2
  ·have c:vs.toArray.size<2:=by rw [Qr];exact c2
   rw [if_pos c,if_pos c];refine Qd (Qo (Qd ?_));rw [Qlg];refine Qo ?_;refine fin (p:=Qcd (Q1 vs.length)) (st:=Qna general' (vs.toArray.zip vs.toArray) #[] 7 none) ⟨by simp,by simp⟩ (fun k k1 k2=>by omega) ?_ rfl;show (vs.toArray.zip vs.toArray).map (·.2)=_;apply Qgh.mp;refine Zs fun i=>?_;simp only [Qkm,Qkn,Qc,Q2];by_cases hi:i<vs.length
   ·have e2:vs[i]?=some vs[i]:=Qa hi;have e3:(vs.zip vs)[i]?=some (vs[i],vs[i]):=Yq.mpr ⟨e2,e2⟩;rw [e3];simp [hi]
   ·rw [Qt (by simp;omega)];simp [hi]
  ·have c : ¬ vs.toArray.size<2:=by rw [Qr];exact c2
   rw [if_neg c,if_neg c];have tups : ∀ (l:List Value) (f:Nat->Nat),(∀ (i:Nat) v,l[i]?=some v->TupAt X.K kl (f i) v H) -> ∃ fs,KatTups h2 l fs/\fs.length=l.length /\ ∀ v ∈ fs,Looks (model X.prog X.w) h2 (typeOf v) (.type "tuple"):=by
    intro l
    induction l with
    | nil=>intro f _;exact ⟨[],.nil,rfl,fun v hv=>by cases hv⟩
    | cons v l ih =>
     intro f hl;obtain ⟨fs,k1,k2,k3⟩:=ih (fun i=>f (i+1)) fun i u hu=>hl (i+1) u (by simpa using hu);obtain ⟨t,c,its,rfl,⟨o1,ho,hc,n,hd'⟩,xs,⟨o2,ho2,hc2,n2,hd2⟩,_⟩:=(hl 0 v rfl).obj I2;refine ⟨.ref c::fs,KatTups.cons ho hc hd' (by simp) k1,by simp [k2],fun u hu=>?_⟩;rcases Q3.mp hu with rfl|hu
     ·have q:Looks (model X.prog X.w) h2 (typeOf (.ref c)) o2.cls:=(Looks.ld ho2).andThen .now;rw [hc2] at q;exact q
     ·exact k3 u hu
   obtain ⟨fs,k1,k2,k3⟩:=tups vs id fun i v hv=>by
    have hi:=(Qg.mp hv).1;have:=hk i hi;rw [Zb,hv] at this;exact this
   refine Qd (kat_kind k1 (by omega) k3 (by decide) ?_);have eb:(J3 "tuple" != J3 "tuple")=false:=by decide
   rw [eb];refine Qd (Vo (kat_run (Q:=fun st' s'=>s'={ s with heap:=h2 } /\ ∃ p:Array Nat,PmN vs.length p/\SrtN (qE kl m) p vs.length/\arrOf st'=p.map (kas_item (vs.toArray.zip vs.toArray))/\Qkv st'=none) (G:=fun p s'=>s'={ s with heap:=h2 }/\PmN vs.length p/\SrtN (qE kl m) p vs.length) rfl (by omega) h64 (fun p st' s' a1 a2 a3 a4=>⟨a4.1,p,a4.2.1,a4.2.2,a2,a3⟩) ?_) ?_ fun _ _ z=>z)
   ·refine qzq o (fun i j C hi hj hC=>?_) (by omega) fun p hp hs=>⟨rfl,hp,hs⟩
    obtain ⟨t,c,its,er,⟨o1,ho,hc,n,hd1⟩,xs,p1,i1⟩:=(hk i hi).obj I2;obtain ⟨t',c',its',er',⟨o1',ho',hc',n',hd1'⟩,xs',p2,i2⟩:=(hk j hj).obj I2;unfold kas_ask;rw [er,er'];refine kat_lt ho hd1 ho' hd1' ?_;by_cases ij:i=j
    ·subst ij;rw [er] at er';cases er';rw [ho] at ho';cases ho';rw [hd1] at hd1';have eL:(Qcd (Z3 c::its))=Qcd (Z3 c'::its'):=by injection hd1'
     rw [<- eL];rw [decide_eq_false (by omega)];rw [o.irr] at hC;exact qva hC _ 0
    ·have k1:IsTupleKey (intKind X.prog X.w) h2 (kl i) c:=by
      obtain ⟨o2,q1,q2,n2,q3⟩:=p1;exact ⟨o2,_,n2,q1,q2,q3,qik i1⟩
     have k2:IsTupleKey (intKind X.prog X.w) h2 (kl j) c':=by
      obtain ⟨o2,q1,q2,n2,q3⟩:=p2;exact ⟨o2,_,n2,q1,q2,q3,qik i2⟩
     refine kat_cons (wpAny_eqBool_tuple hu k1 k2 ?_);rw [decide_eq_false (hd i j hi hj ij)];refine kat_no (kat_one _ _ (HT.lt_tupInts p1 p2 i1 i2 hu ?_));have e:=zafu (fun k=>(kl i).getD k 0) (fun k=>(kl j).getD k 0) (kl i) (kl j) 0 (by rw [hm i hi,hm j hj]) (fun k=>by rw [Qdo]) (fun k=>by rw [Qdo]);show C (HT.lexLt (kl i) (kl j)) _;rw [e,hm i hi];exact hC
   ·rintro ⟨⟨⟩,st'⟩ s' ⟨rfl,p,hp,hs,har,hf⟩;exact fin hp hs (kat_snds rfl har) hf
end
end
section
section
variable {X:Cx}
def qvb {K:Qe}{H H':Hp}{a:Addr}{xs:List V} (e:Same H H') (h:SqT K H a xs):SqT K H' a xs:=by
 rcases h with (h|⟨o,h⟩)|h
 ·exact .inl (.inl (e.at h))
 ·exact .inl (.inr ⟨o,e.at h⟩)
 ·exact .inr h
def quo {K:Qe}{F:Hp}{l:List Qi}{xs:List V} (h:Iss K F l xs) : ∀ {js:List Nat},(∀ j ∈ js,j<l.length)->Iss K F (js.map fun j=>l.getD j .none) (js.map fun j=>xs.getD j .non)
 | [],_=>qZ
 | j::js,hj=>by
  have e:l[j]?=some (l[j]'(hj j (by simp))):=Qa _;obtain ⟨x,ex,ix⟩:=h.get e;refine qI ?_ (quo h fun k hk=>hj k (Qs _ hk));show Is K F (l.getD j .none) (xs.getD j .non);rw [Zb,Zb,e,ex];exact ix
end
end
section
section
variable {X:Cx}{elt target iter cnd:Expr}{scope:Scope}{pos py spos:Pos}{caps own:List Str}{ix:List Nat}{Wi:WF}{G:WG}{Wt:WT}{We:WE}{i:Nat}{y:Str}
end
end
section
end
section
abbrev qfd (h:Heap) (z TI TO a:Addr) (f:Bool):Prop:=h.get? z=some { cls :=.type "zip",dict:=none,data :=.fields #[Qdr a,.bool f,.bool false,.ref TI,.ref TO],slots := #[] }
section
variable {prog:Zo}{w:World}{A:Z2}{E:Value->Ql->Prop}{s:Ql}{b c f:Bool}{z TI TO j1 j2 l1 l2 a:Addr}{oa:Obj}{k1 k2:Nat}{us vs:Array Value}
def qvg {Q:Bool->Ql->Prop} (a0:qfd s.heap z TI TO a f) (ha:s.heap.get? a=some oa)
 (q : ∀ h',qfd h' z TI TO a true->Vv z s.heap h'->Q false { s with heap:=h' }):wpAny (model prog w) A (Zd (.ref z)) Q E s:=by
  unfold Zd;refine Qd (Yj a0 rfl (x:=Qdr a) rfl ?_);show wpAny _ _ (loadIfAlive ((a:Int).toNat) >>= _) _ _ _;rw [J9];refine Qd (kdx_alive ha ?_);simp only [Option.isNone_some,Vs,if_false];refine Qd (Yj a0 rfl (x :=.bool f) rfl ?_);cases f with
  | true =>
   rw [if_neg (show ¬ ((Qef true != Qef true)=true) from Zt)];exact Qo (q _ a0 (Vv.refl _ _))
  | false =>
   rw [if_pos (show (Qef false != Qef true)=true from rfl)];exact Qd (V4 a0 (by simp) fun h3 e3 m3=>Qo (q h3 e3 m3))
def zacp {u v:Value}{Q:Value->Ql->Prop} (D:Qbv z TI TO j1 j2 l1 l2) (a0:qfd s.heap z TI TO a f) (ha:s.heap.get? a=some oa) (a1:V7 s.heap TI (.ref j1) (.ref j2))
 (e1:SqIt b s.heap j1 l1 k1) (e2:SqIt c s.heap j2 l2 k2) (g1:SqOf b s.heap l1 us) (g2:SqOf c s.heap l2 vs) (hu:us[k1]?=some u) (hv:vs[k2]?=some v)
 (q : ∀ h',qfd h' z TI TO a true->SqIt b h' j1 l1 (k1+1)->SqIt c h' j2 l2 (k2+1)->V7 h' s.heap.objs.size u v->h'.objs.size=s.heap.objs.size+1 ->
 (∀ x o,x≠z->x≠j1->x≠j2->s.heap.get? x=some o->h'.get? x=some o)->Q (.ref s.heap.objs.size) { s with heap:=h' }) :
  wpAny (model prog w) A (Builtin.«zip.__next__» ⟨[.ref z],[]⟩) (fun r s' => ∃ y,r = .done (.ret y)/\Q y s') E s:=by
  show wpAny _ _ (field (.ref z) 2 >>= _) _ _ _;refine Qd (Yj a0 rfl (x :=.bool false) rfl ?_);show wpAny _ _ (field (.ref z) 3 >>= _) _ _ _;refine Qd (Yj a0 rfl (x :=.ref TI) rfl ?_);refine Qd (V2 a1 rfl ?_);show wpAny _ _ (Zd (.ref z) >>= _) _ _ _;refine Qd (qvg a0 ha fun p1 b0 m1=>?_);simp only [Vs,if_false];refine Qd (?_:_);simp only [<- Qja,Qej,Qdm];refine Qd (Qd (Yx (?_:_)));show wpAny _ _ (Zj (.ref j1) >>= _) _ _ _;refine Qd (qfg (e1.but m1 D.i1z) (g1.but m1 D.l1z) hu fun p2 f1 m2=>Qo (Qo ?_));refine Qd (Qd (Yx (?_:_)));show wpAny _ _ (Zj (.ref j2) >>= _) _ _ _;refine Qd (qfg ((e2.but m1 D.i2z).but m2 D.i12.symm) ((g2.but m1 D.l2z).but m2 D.l2i1) hv fun p3 f2 m3=>Qo (Qo (Qo ?_)));have sz:p3.objs.size=s.heap.objs.size:=by rw [m3.1,m2.1,m1.1]
  have b3:qfd p3 z TI TO a true:=m3.extBut _ _ D.i2z.symm (m2.extBut _ _ D.i1z.symm b0);refine Qd (Qfk (?_:_) (by show 2<=Q9;rw [Zf];omega));have t:V7 (p3.push { cls :=.type "tuple",data :=.seq #[u,v] }) p3.objs.size u v:=Qy _ rfl;refine Qo ⟨_,rfl,(?_:Q (.ref p3.objs.size) _)⟩;rw [sz] at t ⊢;exact q _ (Qf _ b3) ((f1.but m3 D.i12).at' fun o e=>Qf _ e) (f2.at' fun o e=>Qf _ e) t (by rw [Yz,sz])
   fun x o n1 n2 n3 e=>Qf _ (m3.extBut _ _ n3 (m2.extBut _ _ n2 (m1.extBut _ _ n1 e)))
def zadi {Q:Qiz->Ql->Prop} (hh:A.handled=none) (D:Qbv z TI TO j1 j2 l1 l2) (a0:qfd s.heap z TI TO a f) (ha:s.heap.get? a=some oa) (a1:V7 s.heap TI (.ref j1) (.ref j2))
 (e1:SqIt b s.heap j1 l1 k1) (e2:SqIt c s.heap j2 l2 k2) (g1:SqOf b s.heap l1 us) (g2:SqOf c s.heap l2 vs) (hend:us[k1]?=none\/vs[k2]?=none)
 (q : ∀ h' e,(∀ x o,x≠z->x≠j1->x≠j2->s.heap.get? x=some o->h'.get? x=some o)->(∃ o,h'.get? e=some o/\o.cls = .type "StopIteration")->E (.ref e) { s with heap:=h' }) :
  wpAny (model prog w) A (Builtin.«zip.__next__» ⟨[.ref z],[]⟩) Q E s:=by
  show wpAny _ _ (field (.ref z) 2 >>= _) _ _ _;refine Qd (Yj a0 rfl (x :=.bool false) rfl ?_);show wpAny _ _ (field (.ref z) 3 >>= _) _ _ _;refine Qd (Yj a0 rfl (x :=.ref TI) rfl ?_);refine Qd (V2 a1 rfl ?_);show wpAny _ _ (Zd (.ref z) >>= _) _ _ _;refine Qd (qvg a0 ha fun p1 b0 m1=>?_);simp only [Vs,if_false];refine Qd (?_:_);simp only [<- Qja,Qej,Qdm];refine Qd (Qd (Yx (?_:_)));show wpAny _ _ (Zj (.ref j1) >>= _) _ _ _;cases hu:us[k1]? with
  | none=>exact Qd (qnh hh (e1.but m1 D.i1z) (g1.but m1 D.l1z) hu fun p2 e m2 he=>q p2 e (fun x o n1 n2 n3 h=>m2 _ _ n2 (m1.extBut _ _ n1 h)) he)
  | some u =>
   have hv:vs[k2]?=none:=by
    rcases hend with h|h
    ·rw [hu] at h;cases h
    ·exact h
   refine Qd (qfg (e1.but m1 D.i1z) (g1.but m1 D.l1z) hu fun p2 f1 m2=>Qo (Qo ?_));refine Qd (Qd (Yx (?_:_)));show wpAny _ _ (Zj (.ref j2) >>= _) _ _ _;exact Qd (qnh hh ((e2.but m1 D.i2z).but m2 D.i12.symm) ((g2.but m1 D.l2z).but m2 D.l2i1) hv fun p3 e m3 he=>q p3 e (fun x o n1 n2 n3 h=>m3 _ _ n3 (m2.extBut _ _ n2 (m1.extBut _ _ n1 h))) he)
def zacw {u v:Value}{Q:Option Value->Ql->Prop} (D:Qbv z TI TO j1 j2 l1 l2) (a0:qfd s.heap z TI TO a f) (ha:s.heap.get? a=some oa) (a1:V7 s.heap TI (.ref j1) (.ref j2))
 (e1:SqIt b s.heap j1 l1 k1) (e2:SqIt c s.heap j2 l2 k2) (g1:SqOf b s.heap l1 us) (g2:SqOf c s.heap l2 vs) (hu:us[k1]?=some u) (hv:vs[k2]?=some v)
 (q : ∀ h',qfd h' z TI TO a true->SqIt b h' j1 l1 (k1+1)->SqIt c h' j2 l2 (k2+1)->V7 h' s.heap.objs.size u v->h'.objs.size=s.heap.objs.size+1 ->
 (∀ x o,x≠z->x≠j1->x≠j2->s.heap.get? x=some o->h'.get? x=some o)->Q (some (.ref s.heap.objs.size)) { s with heap:=h' }) :
  wpAny (model prog w) A (Qcw (.ref z)) Q E s:=by
  have ty:s.TypeIs (.ref z) "zip":=⟨_,a0,rfl⟩
  unfold Qcw;exact Qd (Qbg (Z8 (name:=Qn "__next__") ty Jl (Yn Jl ty Qds
   (zacp D a0 ha a1 e1 e2 g1 g2 hu hv fun h' r1 r3 r4 r5 r6 r7=>Qo (q h' r1 r3 r4 r5 r6 r7)) (Qde _))))
def zadu {Q:Option Value->Ql->Prop} (hh:A.handled=none) (D:Qbv z TI TO j1 j2 l1 l2) (a0:qfd s.heap z TI TO a f) (ha:s.heap.get? a=some oa) (a1:V7 s.heap TI (.ref j1) (.ref j2))
 (e1:SqIt b s.heap j1 l1 k1) (e2:SqIt c s.heap j2 l2 k2) (g1:SqOf b s.heap l1 us) (g2:SqOf c s.heap l2 vs) (hend:us[k1]?=none\/vs[k2]?=none)
 (q : ∀ h',(∀ x o,x≠z->x≠j1->x≠j2->s.heap.get? x=some o->h'.get? x=some o)->Q none { s with heap:=h' }):wpAny (model prog w) A (Qcw (.ref z)) Q E s:=by
  have ty:s.TypeIs (.ref z) "zip":=⟨_,a0,rfl⟩
  unfold Qcw;refine Qd (Qbg (Z8 (name:=Qn "__next__") ty Jl (Yn Jl ty Qds (zadi hh D a0 ha a1 e1 e2 g1 g2 hend fun h' e hk he=>?_) (Qde _))));obtain ⟨o,ho,hc⟩:=he;exact Qd (Qgn (T := "StopIteration") (b:=true) ⟨o,ho,hc⟩ Qid (Qo (q _ hk)))
end
def hiA {a x M:Addr} (h1:x<M) (h2:M<=a):a≠x:=Yv (Zg h1 h2)
structure ZSt (b c:Bool) (z TI TO j1 j2 l1 l2 M:Addr) (us vs:Array Value) (i:Nat) (h:Heap):Prop where
 zip:(IsZip h z TI TO .none /\ ∃ x0 y0,V7 h TO x0 y0) \/ ∃ a f oa,qfd h z TI TO a f/\h.get? a=some oa/\M<=a
 ti:V7 h TI (.ref j1) (.ref j2)
 i1:SqIt b h j1 l1 i
 i2:SqIt c h j2 l2 i
 o1:SqOf b h l1 us
 o2:SqOf c h l2 vs
structure ZLow (z TI TO j1 j2 l1 l2 M:Addr):Prop where
 z:z<M
 ti:TI<M
 t:TO<M
 j1:j1<M
 j2:j2<M
 l1:l1<M
 l2:l2<M
structure ZG (us vs:Array Value) (M:Addr) (h:Heap) (as:List Addr):Prop where
 rise:as.Pairwise (· < ·)
 above : ∀ a ∈ as,M<=a
 pairs : ∀ (j:Nat) (a:Addr),as[j]?=some a -> ∃ u v,us[j]?=some u/\vs[j]?=some v/\V7 h a u v
def ZG.there {us vs:Array Value}{M:Addr}{h:Heap}{as:List Addr} (g:ZG us vs M h as) {a:Addr} (ha:a ∈ as):a<h.objs.size:=by
 obtain ⟨j,hj⟩:=Yw.mp ha;obtain ⟨_,_,_,_,e⟩:=g.pairs j a hj;exact Qp e
def ZG.keep {us vs:Array Value}{M:Addr}{h h':Heap}{as:List Addr} (g:ZG us vs M h as) (k : ∀ x o,M<=x->h.get? x=some o->h'.get? x=some o):ZG us vs M h' as :=
 ⟨g.rise,g.above,fun j a hj=>let ⟨u,v,h1,h2,h3⟩:=g.pairs j a hj; ⟨u,v,h1,h2,k _ _ (g.above a (Qj hj)) h3⟩⟩
section
variable {prog:Zo}{w:World}{A:Z2}{E:Value->Ql->Prop}{s:Ql}{b c:Bool}{z TI TO j1 j2 l1 l2 M S:Addr}{us vs:Array Value}{i:Nat}{h h':Heap}
def ZSt.keep (x:ZSt b c z TI TO j1 j2 l1 l2 M us vs i h) (L:ZLow z TI TO j1 j2 l1 l2 M) (k : ∀ y o,y≠S->h.get? y=some o->h'.get? y=some o) (hS:S<M) (n0:z≠S) (n1:TI≠S) (n2:TO≠S) (n3:j1≠S) (n4:j2≠S) (n5:l1≠S) (n6:l2≠S):ZSt b c z TI TO j1 j2 l1 l2 M us vs i h':=by
 refine ⟨?_,k _ _ n1 x.ti,x.i1.at' fun o e=>k _ o n3 e,x.i2.at' fun o e=>k _ o n4 e,x.o1.at' fun o e=>k _ o n5 e,x.o2.at' fun o e=>k _ o n6 e⟩;rcases x.zip with ⟨h1,x0,y0,h2⟩|⟨a,f,oa,h1,h2,h3⟩
 ·exact .inl ⟨k _ _ n0 h1,x0,y0,k _ _ n2 h2⟩
 ·exact .inr ⟨a,f,oa,k _ _ n0 h1,k _ _ (hiA hS h3) h2,h3⟩
def zadw {u v:Value}{Q:Option Value->Ql->Prop} (D:Qbv z TI TO j1 j2 l1 l2) (L:ZLow z TI TO j1 j2 l1 l2 M) (x:ZSt b c z TI TO j1 j2 l1 l2 M us vs i s.heap) (hM:M<=s.heap.objs.size) (hu:us[i]?=some u) (hv:vs[i]?=some v)
 (q : ∀ h',ZSt b c z TI TO j1 j2 l1 l2 M us vs (i+1) h'->V7 h' s.heap.objs.size u v->h'.objs.size=s.heap.objs.size+1->(∀ x o,x≠z->x≠TO->x≠j1->x≠j2->s.heap.get? x=some o->h'.get? x=some o)->Q (some (.ref s.heap.objs.size)) { s with heap:=h' }) :
  wpAny (model prog w) A (Qcw (.ref z)) Q E s:=by
  rcases x.zip with ⟨h1,x0,y0,h2⟩|⟨a,f,oa,h1,h2,h3⟩
  ·refine quy D h1 x.ti h2 x.i1 x.i2 x.o1 x.o2 hu hv fun h' r1 r2 r3 r4 r5 r6 r7=>?_;exact q h' ⟨.inr ⟨_,false,_,r1,r5,hM⟩,r7 _ _ D.TIz D.TITO D.TIi1 D.TIi2 x.ti,r3,r4,x.o1.at' fun o e=>r7 _ o D.l1z D.l1TO D.l1i1 D.l1i2 e,x.o2.at' fun o e=>r7 _ o D.l2z D.l2TO D.l2i1 D.l2i2 e⟩ r5 r6 r7
  ·refine zacw D h1 h2 x.ti x.i1 x.i2 x.o1 x.o2 hu hv fun h' r1 r3 r4 r5 r6 r7=>?_;have lz:=L.z;have l1':=L.j1;have l2':=L.j2;exact q h' ⟨.inr ⟨a,true,oa,r1,r7 _ _ (hiA lz h3) (hiA l1' h3) (hiA l2' h3) h2,h3⟩,r7 _ _ D.TIz D.TIi1 D.TIi2 x.ti,r3,r4,x.o1.at' fun o e=>r7 _ o D.l1z D.l1i1 D.l1i2 e,x.o2.at' fun o e=>r7 _ o D.l2z D.l2i1 D.l2i2 e⟩ r5 r6 fun y o n1 _ n3 n4 e=>r7 y o n1 n3 n4 e
def zafq {Q:Option Value->Ql->Prop} (hh:A.handled=none) (D:Qbv z TI TO j1 j2 l1 l2) (x:ZSt b c z TI TO j1 j2 l1 l2 M us vs i s.heap) (hend:us[i]?=none\/vs[i]?=none)
 (q : ∀ h',(∀ x o,x≠z->x≠TO->x≠j1->x≠j2->s.heap.get? x=some o->h'.get? x=some o)->Q none { s with heap:=h' }):wpAny (model prog w) A (Qcw (.ref z)) Q E s:=by
  rcases x.zip with ⟨h1,x0,y0,h2⟩|⟨a,f,oa,h1,h2,h3⟩
  ·exact qyc hh D h1 x.ti h2 x.i1 x.i2 x.o1 x.o2 hend q
  ·exact zadu hh D h1 h2 x.ti x.i1 x.i2 x.o1 x.o2 hend fun h' k=>q h' fun y o n1 _ n3 n4 e=>k y o n1 n3 n4 e
def zakf {R:Result->Ql->Prop}{h₁:Heap} (hh:A.handled=none) (D:Qbv z TI TO j1 j2 l1 l2) (L:ZLow z TI TO j1 j2 l1 l2 M) (hS:S<M) (n0:z≠S) (n1:TI≠S) (n2:TO≠S) (n3:j1≠S) (n4:j2≠S) (n5:l1≠S) (n6:l2≠S)
 (n:Nat) (en:n=min us.size vs.size) (hn:n<=Q9) (res:Value)
 (hR : ∀ h' acc c' as,(∀ y o,y≠S->y≠z->y≠TO->y≠j1->y≠j2->h₁.get? y=some o->h'.get? y=some o)->h'.get? S=some { cls :=.type "list",dict:=none,data :=.seq acc c',slots := #[] }->as.length=n->ZG us vs M h' as->acc.toList=as.map Z3->R (.ok (.ret res)) { s with heap:=h' }) :
  ∀ (k i:Nat) (h:Heap) (c':Nat) (acc:Array Value) (as:List Addr),n-i=k->i<=n->ZSt b c z TI TO j1 j2 l1 l2 M us vs i h->(∀ y o,y≠S->y≠z->y≠TO->y≠j1->y≠j2->h₁.get? y=some o->h.get? y=some o) ->
   h.get? S=some { cls :=.type "list",dict:=none,data :=.seq acc c',slots := #[] }->acc.toList=as.map Z3->as.length=i->ZG us vs M h as->M<=h.objs.size ->
   Qdv (model prog w) A (.builtin "list.extend.loop" ⟨[.ref S,.ref z,res],[]⟩) R { s with heap:=h }:=by
  intro k;have lz:=L.z;have lt:=L.t;have l1':=L.j1;have l2':=L.j2
  induction k with
  | zero =>
   intro i h c' acc as hk hi st hkeep hSo hacc hal hG hM;have hin:i=n:=by omega
   refine Qac Qff ?_;rw [V6 Jx _];show wpAny _ A.in1 (Qcw (.ref z) >>= _) _ _ _;refine Qd (zafq (s:={ s with heap:=h }) (A:=A.in1) hh D st (by rw [hin,en];simp only [Array.getElem?_eq_none_iff];omega) fun h' he=>?_);exact Qo (hR h' acc c' as (fun y o h1 h2 h3 h4 h5 e=>he y o h2 h3 h4 h5 (hkeep y o h1 h2 h3 h4 h5 e)) (he S _ (Yb n0) (Yb n2) (Yb n3) (Yb n4) hSo) (by omega) (hG.keep fun x o hx e=>he x o (hiA lz hx) (hiA lt hx) (hiA l1' hx) (hiA l2' hx) e) hacc)
  | succ k ih =>
   intro i h c' acc as hk hi st hkeep hSo hacc hal hG hM;have hlt:i<n:=by omega
   have hsz:acc.size=i:=by rw [<- Z1,hacc,Qk,hal]
   have hu:us[i]?=some (us[i]'(by omega)):=Y0 _;have hv:vs[i]?=some (vs[i]'(by omega)):=Y0 _;refine Qac Qff ?_;rw [V6 Jx _];show wpAny _ A.in1 (Qcw (.ref z) >>= _) _ _ _;refine Qd (zadw (s:={ s with heap:=h }) D L st hM hu hv fun h' st' ht hz hkp=>?_);dsimp only at ht hz hkp ⊢;have hS':=hkp S _ (Yb n0) (Yb n2) (Yb n3) (Yb n4) hSo;have up : ∀ y o,y≠S->h'.get? y=some o->(h'.update S (Zx (·.push (Z3 h.objs.size)))).get? y=some o:=fun y o hb e=>(Vh _ _ (Yb hb)).trans e;show wpAny _ A.in1 (updateSeq S (·.push (Z3 h.objs.size)) >>= _) _ _ _;refine Qd ?_;refine Qhr hS' rfl (Qo ⟨Qec Jx _,ih (i+1) _ _ (acc.push (Z3 h.objs.size)) (as++[h.objs.size]) (by omega) hlt (st'.keep L up hS n0 n1 n2 n3 n4 n5 n6)
    (fun y o h1 h2 h3 h4 h5 e=>up y o h1 (hkp y o h2 h3 h4 h5 (hkeep y o h1 h2 h3 h4 h5 e))) (Vn _ hS' rfl) (by rw [Array.toList_push,hacc,Zu];rfl) (by rw [Z4,hal];rfl) ⟨?_,?_,?_⟩ ?_⟩) (by rw [hsz];omega) (by show (acc.push (Z3 h.objs.size)).size<=Q9+1;rw [Qlh,hsz];omega)
   ·refine List.pairwise_append.mpr ⟨hG.rise,List.pairwise_singleton _ _,fun x hx y hy=>?_⟩;rw [Qw.mp hy];exact hG.there hx
   ·intro x hx;rcases Zl.mp hx with hx|hx
    ·exact hG.above x hx
    ·rw [Qw.mp hx];exact hM
   ·intro j y hj;by_cases h1:j<as.length
    ·rw [Zm h1] at hj;obtain ⟨u,v,e1,e2,e3⟩:=hG.pairs j y hj;have hb:=hG.above y (Qj hj);exact ⟨u,v,e1,e2,up y _ (hiA hS hb) (hkp y _ (hiA lz hb) (hiA lt hb) (hiA l1' hb) (hiA l2' hb) e3)⟩
    ·rw [Yi (by omega)] at hj;have hj0:j-as.length=0:=by
      have:=(Qg.mp hj).1;simp at this;omega
     rw [hj0] at hj;cases hj;have ej:j=i:=by omega
     subst ej;exact ⟨_,_,hu,hv,up _ _ (hiA hS hM) ht⟩
   ·rw [Qgj,hz];exact Qjt hM
def qwr:typeLookup (.type "zip") "__len__" = pure none:=by rw [typeLookup_type,Qhj];kernel_rfl
def qte:typeLookup (.type "zip") "__length_hint__" = pure none:=by rw [typeLookup_type,Qhj];kernel_rfl
def qwo {R:List Value->Ql->Prop} (hh:A.handled=none) (D:Qbv z TI TO j1 j2 l1 l2) (L:ZLow z TI TO j1 j2 l1 l2 s.heap.objs.size) (st:ZSt b c z TI TO j1 j2 l1 l2 (s.heap.objs.size+1) us vs 0 s.heap) (hn:min us.size vs.size<=Q9)
 (q : ∀ h' as,(∀ y o,y≠z->y≠TO->y≠j1->y≠j2->s.heap.get? y=some o->h'.get? y=some o)->as.length=min us.size vs.size->ZG us vs (s.heap.objs.size+1) h' as->R (as.map Z3) { s with heap:=h' }) :
  wpAny (model prog w) A (collect (.ref z)) R E s:=by
  obtain ⟨q0,q1,q2,q3,q4,q5,q6⟩:=id L;have L':ZLow z TI TO j1 j2 l1 l2 (s.heap.objs.size+1):=⟨Yy q0,Yy q1,Yy q2,Yy q3,Yy q4,Yy q5,Yy q6⟩
  have zt : ∀ {h:Heap},ZSt b c z TI TO j1 j2 l1 l2 (s.heap.objs.size+1) us vs 0 h->Ql.TypeIs { s with heap:=h } (.ref z) "zip":=fun x=>by
   rcases x.zip with ⟨h1,_⟩|⟨a,f,oa,h1,_⟩
   ·exact ⟨_,h1,rfl⟩
   ·exact ⟨_,h1,rfl⟩
  unfold collect;refine Qd (wpAny_runValue (Qac PySem.F.entry_proto_collect ?_));rw [V6 PySem.F.plain_proto_collect _];show wpAny _ A.in1 (newList [] >>= fun l=>again (.builtin "list.__iadd__" ⟨[l,.ref z],[]⟩)) _ _ s;refine Qd (Y3 ?_);refine Qo ⟨Qec Qga _,Qac PySem.F.entry_list_iadd ?_⟩;rw [V6 Qga _];have st1:=st.keep (S:=s.heap.objs.size) (h':=s.heap.push { cls :=.type "list",data :=.seq ([]:List Value).toArray }) L' (fun y o _ e=>Qf _ e) (Qam _) (Qq q0) (Qq q1) (Qq q2) (Qq q3) (Qq q4) (Qq q5) (Qq q6);have sz1:(s.heap.push { cls :=.type "list",data :=.seq ([]:List Value).toArray }).objs.size=s.heap.objs.size+1:=Yz ..;have hS₁:(s.heap.push { cls :=.type "list",data :=.seq ([]:List Value).toArray }).get? s.heap.objs.size=some { cls :=.type "list",data :=.seq ([]:List Value).toArray }:=Qy _ rfl;have k1 : ∀ y o,s.heap.get? y=some o->(s.heap.push { cls :=.type "list",data :=.seq ([]:List Value).toArray }).get? y=some o:=fun y o e=>Qf _ e;show wpAny _ A.in1 (Qel (.ref s.heap.objs.size) (.ref z) (.ref s.heap.objs.size)) _ _ _;generalize s.heap.push { cls :=.type "list",data :=.seq ([]:List Value).toArray }=p1 at st1 sz1 hS₁ k1;unfold Qel;refine Qd (Qhq (zt st1) ?_);have h1:Qfp (.ref s.heap.objs.size) (.ref z)=false:=by simp [Qfp];exact Yv q0
  have h2:(J3 "zip" == J3 "list")=false:=by decide
  have h3:(J3 "zip" == J3 "tuple")=false:=by decide
  simp only [h1,h2,h3,Qme,Vs,if_false];have self : ∀ {Q:Value->Ql->Prop}{E:Value->Ql->Prop},Q (.ref z) { s with heap:=p1 }->wpAny (model prog w) A.in1 (pyIter (.ref z)) Q E { s with heap:=p1 }:=fun h=>by
   rcases st1.zip with ⟨h1,_⟩|⟨a,f,oa,h1,_,h3⟩
   ·exact Qgo h1 h
   ·rcases st.zip with ⟨h4,_⟩|⟨a',f',oa',h4,h5,h6⟩
    ·have:=k1 _ _ h4;rw [h1] at this;simp [Qdr] at this
    ·exact absurd (Qp h5) (Vy.mpr (Nat.le_of_succ_le h6))
  refine Qd (self ?_);refine Qd (Yx ?_);unfold Builtin.List.listLengthHint;refine Qd (wpAny_specialOf (zt st1) qwr ?_);show wpAny _ A.in1 (specialOf (Z3 z) (Qn "__length_hint__") >>= _) _ _ _;refine Qd (wpAny_specialOf (zt st1) qte ?_);refine Qo ?_;show wpAny _ A.in1 (rule "list.extend.makes-room" >>= fun _=>Builtin.List.listTouch (.ref s.heap.objs.size) >>= fun _=>again (.builtin "list.extend.loop" ⟨[.ref s.heap.objs.size,.ref z,.ref s.heap.objs.size],[]⟩)) _ _ _;refine Qd (Qbh ?_);refine Qd ?_;show wpAny _ A.in1 (updateSeq s.heap.objs.size (·.push .none) >>= fun _=>updateSeq s.heap.objs.size (·.pop)) _ _ _;refine Qd (Qhr hS₁ rfl ?_);have hS₂:=Vn (Zx (·.push Vb)) hS₁ rfl;refine Qhr hS₂ rfl ?_;have hS₃:=Vn (Zx (·.pop)) hS₂ rfl;have oth : ∀ y o,y≠s.heap.objs.size->p1.get? y=some o->((p1.update s.heap.objs.size (Zx (·.push Vb))).update s.heap.objs.size (Zx (·.pop))).get? y=some o :=
   fun y o hb e=>(Vh _ _ (Yb hb)).trans ((Vh _ _ (Yb hb)).trans e)
  have st3:=st1.keep L' oth (Qam _) (Qq q0) (Qq q1) (Qq q2) (Qq q3) (Qq q4) (Qq q5) (Qq q6);refine Qo ⟨Qec Jx _,zakf (s:=s) (h₁:=s.heap) hh D L' (Qam _) (Qq q0) (Qq q1) (Qq q2) (Qq q3) (Qq q4) (Qq q5) (Qq q6) _ rfl hn _ ?_ _ 0 _ _ #[] [] rfl (Y9 _) st3 (fun y o _ _ _ _ _ e=>oth y o (Qq (Qp e)) (k1 y o e)) hS₃ rfl rfl ⟨.nil,(fun _ h=>by cases h),(fun j a h=>by simp at h)⟩ (by rw [Qgj,Qgj,sz1];exact Qz _)⟩;intro h' acc c' as hk hS' hal hG hacc;show wpAny _ A (load s.heap.objs.size >>= _) _ _ _;refine Qd (wpAny_load hS' ?_);show wpAny _ A (pure acc.toList) _ _ _;rw [hacc];exact Qo (q h' as (fun y o n1 n2 n3 n4 e=>hk y o (Qq (Qp e)) n1 n2 n3 n4 e) hal hG)
end
end
section
section
variable {X:Cx}{pins:List (Addr×Obj)}{σ:St}{s:Ql}
def qqb : ∀ (ps:List (Addr×V×V)) {F H:Hp},Same F H->Inv X pins σ H s->(∀ p ∈ ps,OwnA X pins p.1/\H p.1=none /\ ∃ u v,RelV p.2.1 u/\RelV p.2.2 v/\V7 s.heap p.1 u v)->(ps.map (·.1)).Nodup ->
 ∃ F' H',Inv X pins σ H' s/\Go F H F' H'/\(∀ b,b ∉ ps.map (·.1)->H' b=H b) /\ ∀ p ∈ ps,F' p.1=some (.tup [p.2.1,p.2.2])
  | [],F,H,sm,I,_,_=>⟨F,H,I,.refl sm,fun _ _=>rfl,fun p hp=>by cases hp⟩
  | p::ps,F,H,sm,I,h,nd=>by
   obtain ⟨ow,hn,u,v,r1,r2,hp⟩:=h p (by simp);rw [Q7,Jj] at nd;have g0:=Go.put (o:=HO.tup [p.2.1,p.2.2]) sm hn;have I1:=I.track (u :=.tup [p.2.1,p.2.2]) ow hn ⟨by show 2<=Q9;rw [Zf];omega,[u,v],.cons r1 (.cons r2 .nil),_,hp,rfl,0,rfl⟩;obtain ⟨F',H',I',g,q1,q2⟩:=qqb ps g0.fh I1 (fun q hq=>by
    obtain ⟨ow',hn',r⟩:=h q (Qs _ hq);refine ⟨ow',?_,r⟩;rw [qj (fun z:q.1=p.1=>nd.1 (Qm.mpr ⟨q,hq,z⟩))];exact hn') nd.2
   refine ⟨F',H',I',g0.trans g,fun b hb=>?_,fun q hq=>?_⟩
   ·rw [Q7,Q3,not_or] at hb;rw [q1 b hb.2,qj hb.1]
   ·rcases Q3.mp hq with rfl|hq
    ·exact g.f.at ql
    ·exact q2 q hq
def zaoi (K:Qe):List V->Hp->VK->Prop:=fun vs H Q => ∃ (F:Hp) (b c:Bool) (l m:Addr) (xs ys:List V) (kl:Nat->List Int) (mm:Nat),vs=[.ref l,.ref m]/\Same F H/\SqX b K H l xs/\SqX c K H m ys/\xs.length=ys.length/\xs.length<64 /\
 (∀ (i:Nat) x,xs[i]?=some x->(kl i).length=mm /\ ∃ t,x = .ref t/\SqT K H t ((kl i).map V.int))/\OrdN xs.length (qE kl mm)/\(∀ i j,i<xs.length->j<xs.length->i≠j->kl i≠kl j) /\
 ∀ (p:Array Nat) (r:Addr) (as:List Addr) (F' H':Hp),PmN xs.length p->SrtN (qE kl mm) p xs.length->Go F H F' H'->as.length=xs.length->(∀ (i:Nat) a x y,as[i]?=some a->xs[i]?=some x->ys[i]?=some y->F' a=some (.tup [x,y])) ->
  H' r=none->Q (.ref r) (upd H' r (.lst (p.toList.map fun i=>(as.map V.ref).getD i .non)))
def qqx : ∀ as:List Addr,Vals (as.map V.ref) (as.map Z3)
 | [] => .nil
 | a::as => .cons rfl (qqx as)
def zaex {a b:Expr}{ta:TA}{p p2 pos pos2:Pos} (hu:X.A.in1.in1.units<cLine) (hh:X.A.handled=none) (hg:Gl X "sorted") (hm:X.mg "sorted" = none) (hg2:Gl X "zip") (hm2:X.mg "zip" = none) (ha:PA X [a,b] ta)
 (hs0:Qu [.Call (.Name "zip" p2) [a,b] [] pos2] X.env=[(false,eval (.Call (.Name "zip" p2) [a,b] [] pos2) X.env)]:=by rfl) (hs:Qu [a,b] X.env=[(false,eval a X.env),(false,eval b X.env)]:=by rfl) (hs2:Qu [b] X.env=[(false,eval b X.env)]:=by rfl) :
  PE X (.Call (.Name "sorted" p) [.Call (.Name "zip" p2) [a,b] [] pos2] [] pos) (fun σ H Q=>ta σ H fun vs H1=>zaoi X.K vs H1 Q):=by
  intro pins s σ H Q I h;refine Jv (qgj I hg hm boot_sorted ?_);rw [hs0];refine Qar rfl (Qbk ?_);show wpAny _ _ (spliced ((false,eval (.Call (.Name "zip" p2) [a,b] [] pos2) X.env)::[])) _ _ s;refine Qat (Call_ (qgj I hg2 hm2 qvf (Vq (thn (ha pos2 pins s σ H _ I h) fun us s1 xx194=>?_) (by rw [hs,hs2]) (by rw [hs2];rfl))));obtain ⟨vs,H1,I1,r1,q1⟩:=xx194;obtain ⟨F,kb,kc,l,m,xs,ys,kl,mm,e,sm,hq,hq',el,h64,hk,o,hd,q⟩:=q1;subst e;obtain ⟨u1,u2,rfl,r1,r2⟩:=Vals.two r1;cases r1;cases r2;obtain ⟨its,rv,pl⟩:=I1.sqx hq;obtain ⟨its',rv',pl'⟩:=I1.sqx hq';have zl:its.length=xs.length:=rv.length.symm;have zl':its'.length=xs.length:=by rw [el];exact rv'.length.symm
  refine qzn pl pl' fun h' a0 a1 a2 a3 a4 hk0=>Qdc ?_;have D:=zipApart_new pl.lt pl'.lt;have lt4:s1.heap.objs.size+4<h'.objs.size:=Qp a0;have hle:s1.heap.objs.size<=h'.objs.size:=by omega
  refine Calls.call_function_entry kind_sorted plain_sorted entry_sorted (args_sorted1 _) ?_;unfold Builtin.«sorted»;refine Qd (m:=checkCount "sorted" 1 1 _) (Qo ?_);refine Qd (qwo (s:={ s1 with heap:=h' }) (b:=kb) (c:=kc) hh D ⟨lt4,Qau (by omega) lt4,Qau (by omega) lt4,Qau (by omega) lt4,Qau (by omega) lt4,Zg pl.lt hle,Zg pl'.lt hle⟩
   ⟨.inl ⟨a0,_,_,a2⟩,a1,a3,a4,pl.at' fun o e=>hk0 _ o e,pl'.at' fun o e=>hk0 _ o e⟩ (by rw [Zf];simp;omega) fun h2 as kp al zg=>?_)
  have la:as.length=xs.length:=by rw [al];simp;omega
  have old : ∀ y ob,s1.heap.get? y=some ob->h2.get? y=some ob:=fun y ob e=>by
   have hy:=Qp e;exact kp y ob (Qq (Zg hy (Jr _ 4))) (Qq (Zg hy (Jr _ 3))) (Qq hy) (Qq (Zg hy (Jr _ 1))) (hk0 y ob e)
  have I2:=I1.kept (t':=s1.toks) old;have hi : ∀ x ∈ as,s1.heap.objs.size<=x:=fun x hx=>Zr (Qjt hle) (zg.above x hx);have nd:as.Nodup:=zg.rise.imp fun h=>Qq h
  let ps:List (Addr×V×V):=as.zip (xs.zip ys)
  have mp:ps.map (·.1)=as:=by
   show (as.zip (xs.zip ys)).map Prod.fst=as;rw [List.map_fst_zip];rw [List.length_zip];omega
  obtain ⟨F',H',I3,g,q1,q2⟩:=qqb ps sm I2 (fun pr hp=>by
   obtain ⟨j,hj⟩:=Yw.mp hp;obtain ⟨ja,jp⟩:=Yq.mp hj;obtain ⟨jx,jy⟩:=Yq.mp jp;obtain ⟨u,v,e1,e2,e3⟩:=zg.pairs j _ ja;obtain ⟨u',eu,ru⟩:=rv.get jx;obtain ⟨v',ev,rw'⟩:=rv'.get jy;simp at e1 e2;rw [eu] at e1;rw [ev] at e2;cases e1;cases e2;have hx:=hi pr.1 (Qj ja);exact ⟨qvy I1 hx,I1.hok.fresh hx,u,v,ru,rw',e3⟩) (by rw [mp];exact nd)
  have tup : ∀ (i:Nat) a x y,as[i]?=some a->xs[i]?=some x->ys[i]?=some y->F' a=some (.tup [x,y]):=fun i a x y e1 e2 e3 =>
   q2 (a,x,y) (Qj (i:=i) (Yq.mpr ⟨e1,Yq.mpr ⟨e2,e3⟩⟩))
  have hsz:(as.map Z3).length=xs.length:=by rw [Qk,la]
  refine Qd (Qge ?_ (by rw [Zf];omega));have hoL:(h2.push (Vp "list" (as.map Z3).toArray 0)).get? h2.objs.size=some (Vp "list" (as.map Z3).toArray 0):=Qy _ rfl;have I4:=I3.kept (t':=s1.toks) (h':=h2.push (Vp "list" (as.map Z3).toArray 0)) fun b u e=>Qf _ e;have ow:=qvy I3 (Qz h2.objs.size);have nl:=I3.hok.fresh (Qz h2.objs.size);refine Qd (Yx (Yn slot_list_sort ⟨_,hoL,rfl⟩ entry_list_sort ?_ (args_list_sort _)));refine qwz (s:={ s1 with heap:=h2.push (Vp "list" (as.map Z3).toArray 0) }) (kl:=kl) (m:=mm) hu (by rw [hsz];exact o) (fun i hi=>?_) (by rw [hsz];exact hd) (fun i hi=>?_) I4 ow nl (by omega) hoL fun pm s' cc hp hs I' hl=>?_
  ·have e:xs[i]?=some (xs[i]'(by omega)):=Qa _;exact (hk i _ e).1
  ·have e:xs[i]?=some (xs[i]'(by omega)):=Qa _;have e':ys[i]?=some (ys[i]'(by omega)):=Qa _;have ea:as[i]?=some (as[i]'(by omega)):=Qa _;obtain ⟨_,t,ex,st⟩:=hk i _ e;have tt:=tup i _ _ _ ea e e';rw [ex] at tt;exact ⟨_,t,_,by rw [Zb,Qc,ea];rfl,SqT.of (g.fh.at tt),qvb g.h st⟩
  have vp:=qko (qqx as) (l:=pm.toList) fun i hi=>by
   have:=Q6.mp (hp.p.mem_iff.mp hi);simpa using this
  have I5:=I'.track (u :=.lst (pm.toList.map fun i=>(as.map V.ref).getD i V.non)) ow nl ⟨by rw [Qk,Z1,hp.s,hsz,Zf];omega,_,cc,vp,hl⟩;exact ⟨_,rfl,Qo ⟨_,rfl,.ref h2.objs.size,_,I5,rfl,q pm _ as F' H' (by rw [<- hsz];exact hp) (by rw [<- hsz];exact hs) g la tup nl⟩⟩
def zamn (Wa Wb:WE):WF:=fun env Q=>Wa env fun x e1=>Wb e1 fun y e => ∃ (l m:List Qi) (kl:Nat->List Int) (mm:Nat),qcs x=some l/\qcs y=some m/\l.length=m.length/\l.length<64/\(∀ (i:Nat) d,l[i]?=some d->(kl i).length=mm/\d = .tuple ((kl i).map .int)) /\
 OrdN l.length (qE kl mm)/\(∀ i j,i<l.length->j<l.length->i≠j->kl i≠kl j) /\ ∀ p:Array Nat,PmN l.length p->SrtN (qE kl mm) p l.length->Q (p.toList.map fun i=>(qrp l m).getD i .none) e
def zaeh {a b:Expr}{Wa Wb:WE}{p p2 pos pos2:Pos} (hu:X.A.in1.in1.units<cLine) (hh:X.A.handled=none) (hm:X.mg "sorted" = none) (hm2:X.mg "zip" = none) (ha:VE X a Wa) (hb:VE X b Wb) (hg:Gl X "sorted":=by rfl) (hg2:Gl X "zip":=by rfl)
 (hs0:Qu [.Call (.Name "zip" p2) [a,b] [] pos2] X.env=[(false,eval (.Call (.Name "zip" p2) [a,b] [] pos2) X.env)]:=by rfl) (hs:Qu [a,b] X.env=[(false,eval a X.env),(false,eval b X.env)]:=by rfl) (hs2:Qu [b] X.env=[(false,eval b X.env)]:=by rfl)
 (hs3:Qu [a,b] X.env=(false,eval a X.env)::Qu [b] X.env:=by rfl) (hs4:Qu [b] X.env=(false,eval b X.env)::Qu [] X.env:=by rfl) :
 VF X (.Call (.Name "sorted" p) [.Call (.Name "zip" p2) [a,b] [] pos2] [] pos) (zamn Wa Wb) :=
 (zaex hu hh hg hm hg2 hm2 (qV ha (qV hb qcq hs4) hs3) hs0 hs hs2).imp fun σ H R xx196=>by
  obtain ⟨M,env,F,Q,I,h,k⟩:=xx196;refine ⟨M,env,F,_,I,h,fun d v F1 H1 e1 I1 s1 i1 h1=>⟨M,e1,F1,_,I1,h1,fun d2 v2 F2 H2 e2 I2 s2 i2 xx195=>?_⟩⟩;obtain ⟨l,m,kl,mm,z1,z2,el,h64,hk,o,hd,hq⟩:=xx195;obtain ⟨kb,a1,xs,rfl,y1,y2⟩:=qsv z1 (i1.mono s2);obtain ⟨kc,a2,ys,rfl,y3,y4⟩:=qsv z2 i2;have n1:=y2.len;have n2:=y4.len;refine ⟨F2,kb,kc,a1,a2,xs,ys,kl,mm,rfl,I2.fh,qbf I2.fh y1,qbf I2.fh y3,by omega,by omega,fun i x hx=>?_,by rw [n1];exact o,by rw [n1];exact hd,fun pm r as F' H' hp hs g la tup hr=>?_⟩
  ·have hi:=(Qg.mp hx).1;have e:l[i]?=some (l[i]'(by omega)):=Qa _;obtain ⟨km,ed⟩:=hk i _ e;obtain ⟨x',ex,ix⟩:=y2.get e;rw [hx] at ex;cases ex;rw [ed] at ix;obtain ⟨t,zs,et,st,iz⟩:=ix.tup_inv;rw [iz.ints_inv] at st;exact ⟨km,t,et,qvb I2.fh st⟩
  ·rw [n1] at hp hs;have zi:Iss X.K F' (qrp l m) (as.map V.ref):=by
    have gen : ∀ (l m:List Qi) (xs ys:List V) (as:List Addr),Iss X.K F' l xs->Iss X.K F' m ys->l.length=m.length->as.length=xs.length->(∀ (i:Nat) a x y,as[i]?=some a->xs[i]?=some x->ys[i]?=some y->F' a=some (.tup [x,y]))->Iss X.K F' (qrp l m) (as.map V.ref):=by
     intro l
     induction l with
     | nil =>
      intro m xs ys as h1 h2 e1 e2 h3;have:=h1.len;have e0:as=[]:=Jb.mp (by rw [e2,this];rfl);subst e0;exact qZ
     | cons d l ih =>
      intro m xs ys as h1 h2 e1 e2 h3;cases m with
      | nil=>cases e1
      | cons d' m =>
       obtain ⟨x,xs,rfl,ix,h1⟩:=h1.cons_inv;obtain ⟨y,ys,rfl,iy,h2⟩:=h2.cons_inv;cases as with
       | nil=>cases e2
       | cons a as=>exact qI (qjg (SqT.of (h3 0 a x y rfl rfl rfl)) (qI ix (qI iy qZ))) (ih m xs ys as h1 h2 (Qhc e1) (Qhc e2) fun i a x y q1 q2 q3=>h3 (i+1) a x y (by simpa using q1) (by simpa using q2) (by simpa using q3))
    exact gen l m xs ys as (y2.mono g.f) (y4.mono g.f) el la tup
   have g':Go F2 H2 F' (upd H' r (.lst (pm.toList.map fun i=>(as.map V.ref).getD i .non))):=g.trans (.side g.fh hr);have hr2:=qB g.h hr;exact k r _ _ F' _ e2 (I2.go g') ((s1.trans s2).trans g.f) ql (qB g.fh hr) (qB I2.bh hr2) (I2.he hr2) (qgp I2 hr2) (quo zi fun j hj=>by rw [qfa];have:=Q6.mp (hp.p.mem_iff.mp hj);omega) (hq pm hp hs)
end
end
section
section
variable {P:Zo}{w:World}{K:Qe}{mg:Str->Option Value}{base:Heap}{q:Str}{scope:Scope}{f cg:Addr}{cd ug u:Value}{x y:Str}{A:Z2}{outer:List Env}{s:Ql}{H:Hp}{v vg:V}{h1:Heap}{tk:Nat}
end
end
section
section
variable {X:Cx}{pins:List (Addr×Obj)}{σ:St}{H:Hp}{s:Ql}{E:Value->Ql->Prop}{f a:Addr}{xs:List V}{its:List Value}{b:Bool}{kl:Nat->List Int}{G:Hp->Prop}{m:Nat}{Q:Value->Ql->Prop}
end
section
variable {X:Cx}{pins:List (Addr×Obj)}{σ:St}{x y:Str}{scope:Scope}{params:Qen}{body:Expr}{te:TE}{f cg c:Addr}{pm ct:Value}{vg:V}{vsV:List V}{vs:List Value}{kn:Nat->Int}{G:Hp->Prop}{oc:Obj}{uu:HO}{fv:Array Value}{q:Str}{t:Tok}{nm qual:Str}{iy:Nat}
end
section
variable {X:Cx}{x y:Str}{scope:Scope}{params:Qen}{body:Expr}{te:TE}{cg c0 tb:Addr}{iy:Nat}{np gp lp kp pos:Pos}
end
section
variable {X:Cx}{elt target iter cnd:Expr}{scope:Scope}{pos py spos:Pos}{caps own:List Str}{ix:List Nat}{Wi:WF}{G:WG}{Wt:WT}{We:WE}{i:Nat}{y:Str}
end
end
end L2
namespace HT
open PySem PySem.Spec PyProof.Rows
section
variable {prog:Zo}{w:World}{A:Z2}{E:Value->Ql->Prop}{s:Ql}
end
end HT
namespace L2
open PySem PySem.Spec PyProof.Rows PySem.W
section
def zahj {xs:List V}{its:List Value} (h:Vals xs its) (f:Nat->Nat) : ∀ js:List Nat,Vals (js.filterMap fun k=>xs[f k]?) (js.filterMap fun k=>its[f k]?)
 | [] => .nil
 | k::js=>by
  have ih:=zahj h f js;rw [Vk,Vk];cases e:xs[f k]? with
  | none =>
   have:its[f k]?=none:=Qt (by rw [<- h.length];exact Qfg.mp e);rw [this];exact ih
  | some x =>
   obtain ⟨u,hu,r⟩:=h.get e;rw [hu];exact .cons r ih
section
variable {X:Cx}{e:Expr}{te:TE}{p2 pos:Pos}
end
section
variable {X:Cx}{e:Expr}{W:WE}{p2 p3 p4 pos:Pos}
end
section
variable {X:Cx}{x:Str}{px pos p pT:Pos}
end
def wOrX (W1 W2:WX->WS):WX->WS:=fun Wx D env=>W1 Wx D env\/W2 Wx D env
def zank {X:Cx}{Ex:St->XK}{st:Stmt}{W1 W2:WX->WS} (h1:VSX X Ex st W1) (h2:VSX X Ex st W2):VSX X Ex st (wOrX W1 W2):=fun pins s σ H D I xx197=>by
 obtain ⟨M,env,F,Wx,DD,J,h,hx,k⟩:=xx197;rcases h with h|h
 ·exact h1 pins s σ H D I ⟨M,env,F,Wx,DD,J,h,hx,k⟩
 ·exact h2 pins s σ H D I ⟨M,env,F,Wx,DD,J,h,hx,k⟩
end
end L2
def L2.Room.m {j k:Nat}{A:PySem.Around} (r:L2.Room k A) (h:j<=k:=by decide):L2.Room j A:=r.mono h
namespace My
open PySem L2
seal VE VF VA VT VW VS VSs VG VGs VI VO OpV qig qpi VN VFN VST VSsT VEX VSX qvt
def top (i:Nat):Stmt:=Qh.main.body.getD i (.Pass ⟨0,0,0,0⟩)
abbrev qhn:Stmt:=top 14
abbrev qdc:Stmt:=top 31
abbrev qbd:Stmt:=top 30
abbrev qjn:Stmt:=top 32
abbrev qmq:Stmt:=top 33
abbrev qbk:Stmt:=top 27
abbrev qhq:Stmt:=top 29
abbrev qcj:Stmt:=top 28
abbrev qfq:Stmt:=top 35
abbrev qjj:Stmt:=top 34
abbrev qbx:Stmt:=top 41
abbrev qbu:Stmt:=top 39
abbrev qX:Stmt:=top 38
abbrev qbl:Stmt:=top 40
abbrev qfp:Stmt:=top 42
abbrev qfz:Stmt:=top 13
abbrev qhh:Stmt:=top 16
abbrev qng:Stmt:=top 15
abbrev qgd:Stmt:=top 43
abbrev qnu:Stmt:=top 37
abbrev qea:Stmt:=top 47
abbrev qby:Stmt:=top 48
abbrev qhg:Stmt:=top 46
abbrev qfr:Stmt:=top 53
abbrev qec:Stmt:=top 54
abbrev qel:Stmt:=top 55
abbrev qcm:Stmt:=top 56
abbrev qcl:Stmt:=top 58
abbrev qfy:Stmt:=top 59
abbrev qdz:Stmt:=top 60
abbrev qeb:Stmt:=top 61
abbrev qdx:Stmt:=top 46
abbrev qga:Stmt:=top 17
abbrev qck:Stmt:=top 18
abbrev qnq:Stmt:=top 19
abbrev qjk:Stmt:=top 22
abbrev qnr:Stmt:=top 21
abbrev qeo:Stmt:=top 50
abbrev qnt:Stmt:=top 20
abbrev qgb:Stmt:=top 51
abbrev qfx:Stmt:=top 49
abbrev qdh:Stmt:=top 49
abbrev qem:Stmt:=top 64
abbrev qen:Stmt:=top 65
abbrev qav:Stmt:=top 66
abbrev qbv:Stmt:=top 67
abbrev qdy:Stmt:=top 57
abbrev qbw:Stmt:=top 68
abbrev qlt:Stmt:=top 69
def sc0 {N P:List Str}{sc:Scope} (a:sc.kind = .function:=by rfl) (b:sc.isCoroutine=false:=by rfl) (c:sc.isGenerator=false:=by rfl) (d:N.Nodup:=by decide +kernel) (e:N.take P.length=P:=by rfl) (f : ∀ x ∈ P,sc.names.lookup x=some .local\/sc.names.lookup x=some .cell:=by decide +kernel) (g : ∀ y ∈ sc.names,y.2 ≠ .free:=by decide +kernel):FnScope N P sc:=⟨a,b,c,d,e,f,g⟩
def pv {X:Cx} (i:Nat) {x:Str}{pos:Pos} (hN:X.N[i]?=some x:=by rfl) (hv:Vis X.env.scope x:=by first|exact V0 rfl|exact Y6 (V0 rfl)|exact Y6 (Y6 rfl)) (hd:Nd0 x:=by decide) (hc:Nd1 x:=by decide):PE X (.Name x pos) (quh i):=qcp hN hv hd hc
structure Cs where
 Full:Addr
 GlassError:Addr
 NoBeliefs:Addr
 NoDulling:Addr
 NoFit:Addr
 NoGlass:Addr
 NoName:Addr
 NoRow:Addr
 NoShare:Addr
 NoText:Addr
 TooMany:Addr
 tb:Addr
 c0:Addr
 bm:Addr
structure Txt (K:Qe) (mg:Str->Option Value) (cs:Cs):Prop where
 Full_:mg "Full" = some (.ref cs.Full)
 GlassError_:mg "GlassError" = some (.ref cs.GlassError)
 NoBeliefs_:mg "NoBeliefs" = some (.ref cs.NoBeliefs)
 NoDulling_:mg "NoDulling" = some (.ref cs.NoDulling)
 NoFit_:mg "NoFit" = some (.ref cs.NoFit)
 NoGlass_:mg "NoGlass" = some (.ref cs.NoGlass)
 NoName_:mg "NoName" = some (.ref cs.NoName)
 NoRow_:mg "NoRow" = some (.ref cs.NoRow)
 NoShare_:mg "NoShare" = some (.ref cs.NoShare)
 NoText_:mg "NoText" = some (.ref cs.NoText)
 TooMany_:mg "TooMany" = some (.ref cs.TooMany)
 GlassError_e:Ve K cs.GlassError qjx "ValueError.__new__" = true
 NoBeliefs_e:Ve K cs.NoBeliefs qjx "ValueError.__new__" = true
 NoFit_e:Ve K cs.NoFit qjx "ValueError.__new__" = true
 NoBeliefs_x:XCls K cs.NoBeliefs
 u_NoBeliefs_GlassError:zaca K cs.NoBeliefs cs.GlassError
 k_NoBeliefs_Full_NoDulling_NoGlass_NoName_NoRow_NoShare_NoText_TooMany:Qbo K (.ref cs.NoBeliefs) [.ref cs.Full,.ref cs.NoDulling,.ref cs.NoGlass,.ref cs.NoName,.ref cs.NoRow,.ref cs.NoShare,.ref cs.NoText,.ref cs.TooMany]=some false
 k_NoBeliefs_ValueError:Yh K (.ref cs.NoBeliefs) (.type "ValueError")=some true
 k_NoBeliefs_NoFit:Yh K (.ref cs.NoBeliefs) (.ref cs.NoFit)=some false
 k_NoBeliefs_NoBeliefs:Yh K (.ref cs.NoBeliefs) (.ref cs.NoBeliefs)=some true
 NoFit_x:XCls K cs.NoFit
 u_NoFit_GlassError:zaca K cs.NoFit cs.GlassError
 k_NoFit_Full_NoDulling_NoGlass_NoName_NoRow_NoShare_NoText_TooMany:Qbo K (.ref cs.NoFit) [.ref cs.Full,.ref cs.NoDulling,.ref cs.NoGlass,.ref cs.NoName,.ref cs.NoRow,.ref cs.NoShare,.ref cs.NoText,.ref cs.TooMany]=some false
 k_NoFit_ValueError:Yh K (.ref cs.NoFit) (.type "ValueError")=some true
 k_NoFit_NoFit:Yh K (.ref cs.NoFit) (.ref cs.NoFit)=some true
 k_NoFit_NoBeliefs:Yh K (.ref cs.NoFit) (.ref cs.NoBeliefs)=some false
 tab_h:zacc K cs.c0 cs.tb=true
 bm_h:blIn K cs.bm cs.tb=true
 bm_:mg "__builtins__" = some (.ref cs.bm)
 ValueError_:mg "ValueError" = none
 abs_:mg "abs" = none
 all_:mg "all" = none
 any_:mg "any" = none
 bool_:mg "bool" = none
 enumerate_:mg "enumerate" = none
 int_:mg "int" = none
 isinstance_:mg "isinstance" = none
 len_:mg "len" = none
 list_:mg "list" = none
 range_:mg "range" = none
 sorted_:mg "sorted" = none
 sum_:mg "sum" = none
 tuple_:mg "tuple" = none
 zip_:mg "zip" = none
 FEWEST_STANDS_ : ∃ t,mg "FEWEST_STANDS" = some (.int 2 t)
 MOST_SIGNS_ : ∃ t,mg "MOST_SIGNS" = some (.int 12 t)
 MOST_STANDS_ : ∃ t,mg "MOST_STANDS" = some (.int 4 t)
 MOST_WEIGHT_ : ∃ t,mg "MOST_WEIGHT" = some (.int 1000 t)
section
variable {P:Zo}{w:World}{K:Qe}{mg:Str->Option Value}{base:Heap}{cs:Cs}
def quq {a b:Int}{g:Nat} (h0:0<=a) (hb:0<=b) (h1:b≠0) (h:Qaa a.toNat b.toNat=g) :
 0<=a%b/\a%b<b/\Qaa b.toNat (a%b).toNat=g:=by
  have hp:0<b:=by omega
  have e1:=Qco a h1;have e2:=Qaw a hp;refine ⟨e1,e2,?_⟩;have e3:(a%b).toNat=a.toNat%b.toNat:=by
   have:((a.toNat%b.toNat:Nat):Int)=a%b:=by
    rw [Int.natCast_emod,Qah h0,Qah hb]
   rw [<- this];rfl
  rw [e3,<- h,Qke b.toNat,Qke a.toNat];exact (Nat.gcd_rec _ _).symm
def qys {a:Int}{b:Int}{g:Nat} (h0:0<=a) (h1:b=0) (h:Qaa a.toNat b.toNat=g):a=(g:Int):=by
 subst h1;rw [<- h];have:Qaa a.toNat (Qmp 0)=a.toNat:=Qjb _;rw [this];omega
def zabb (a b:Int):Qaa (if a<0 then -a else a).toNat (if b<0 then -b else b).toNat=Yr a b:=by
 have e : ∀ x:Int,(if x<0 then -x else x).toNat=x.natAbs:=fun x=>by split <;> omega
 rw [e,e];rfl
structure Shr (p q:Int):Prop where
 pos:1<=q
 gcd:Yr p q=1
def cm (t b:Int):Int:=if b<0 then -(Yr t b:Int) else (Yr t b:Int)
def shT (t b:Int):Int:=t.fdiv (cm t b)
def shB (t b:Int):Int:=b.fdiv (cm t b)
def qsc {t b:Int} (hb:b≠0):0<Yr t b:=Qeb t hb
def zalj {t b:Int} (hb:b≠0):cm t b≠0:=by
 have:=qsc (t:=t) hb;unfold cm;split <;> omega
def zafg (t b:Int):cm t b∣t:=by
 have h:(Yr t b:Int)∣t:=Qko ..;unfold cm;split
 ·exact Int.neg_dvd.mpr h
 ·exact h
def zady (t b:Int):cm t b∣b:=by
 have h:(Yr t b:Int)∣b:=Qju ..;unfold cm;split
 ·exact Int.neg_dvd.mpr h
 ·exact h
def qln {c t:Int} (h:c∣t):c*(t.fdiv c)=t:=Int.mul_fdiv_cancel' h
def zahq (t b:Int):cm t b*shT t b=t:=qln (zafg t b)
def qke (t b:Int):cm t b*shB t b=b:=qln (zady t b)
def qqz (t b:Int):(cm t b).natAbs=Yr t b:=by unfold cm;split <;> omega
def qdp {t b:Int} (hb:b≠0):Shr (shT t b) (shB t b)/\shT t b*b=t*shB t b:=by
 have h1:=zahq t b;have h2:=qke t b;have hc:=zalj (t:=t) hb;have hg:=qsc (t:=t) hb;refine ⟨⟨?_,?_⟩,?_⟩
 ·by_cases hn:b<0
  ·have hcn:cm t b<0:=by unfold cm;rw [if_pos hn];omega
   have:0<shB t b:=by
    rcases Qce 0 (shB t b) with h|h
    ·exact h
    ·have:=Int.mul_nonneg_of_nonpos_of_nonpos (Qag hcn) h;omega
   omega
  ·have hcn:0<cm t b:=by unfold cm;rw [if_neg hn];omega
   have hbp:0<b:=by omega
   have:0<shB t b:=by
    rcases Qce 0 (shB t b) with h|h
    ·exact h
    ·have:=Int.mul_nonpos_of_nonneg_of_nonpos (Qag hcn) h;omega
   omega
 ·have e:Yr (cm t b*shT t b) (cm t b*shB t b)=(cm t b).natAbs*Yr (shT t b) (shB t b):=Qkp ..;rw [h1,h2,qqz] at e;have e2:Yr t b*1=Yr t b*Yr (shT t b) (shB t b):=by omega
  exact (Qbp hg e2).symm
 ·have e:shT t b*(cm t b*shB t b)=(cm t b*shT t b)*shB t b:=by
   rw [<- Qjc,Zw (shT t b)]
  rw [h2,h1] at e;exact e
def qnv {k m n:Int} (h:Yr m k=1) (e:k∣m*n):k∣n:=by
 have e':k.natAbs∣m.natAbs*n.natAbs:=by rw [<- Qia];exact V3.mpr e
 have c:Nat.Coprime k.natAbs m.natAbs:=by
  show Qaa k.natAbs m.natAbs=1;rw [Qke];exact h
 exact V3.mp (c.dvd_of_dvd_mul_left e')
def qrw {p q p' q':Int} (h:Shr p q) (h':Shr p' q') (e:p*q'=p'*q):p=p'/\q=q':=by
 have d1:q∣q':=qnv h.gcd (e ▸ Qbt p' q);have d2:q'∣q:=qnv h'.gcd (e ▸ Qbt p q');have hq:q=q':=Int.dvd_antisymm (by have:=h.pos;omega) (by have:=h'.pos;omega) d1 d2;subst hq;exact ⟨Zc (by have:=h.pos;omega) e,rfl⟩
def qdi:DC
 | [.int a,.int b],q=>q (.int (Yr a b))
 | _,_=>False
def zafw (x:Int):0<=(if x<0 then -x else x):=by split <;> omega
def qdd:FnScope ["one","other","rest"] ["one","other"] (defScope qhn):=sc0
def qvn (F:Def K mg "divisor" qhn ["one","other"]) (T:Txt K mg cs)
 : Ok P w K mg base "divisor" 1 ["one","other"] (PSp K qdi):=by
  refine F.vok qdd (fun ds q h=>by unfold qdi at h;split at h;all_goals first|rfl|exact h.elim) fun f cdv A outer s H E hr ds q h=>?_
  match ds,h with
  | [.int a,.int b],h =>
  refine ⟨_,(qg (qq (i:=0) qdd.nd (qm zahh T.abs_ L2.boot_abs (qa (qc 0) qe)))
   (qg (qq (i:=1) qdd.nd (qm zahh T.abs_ L2.boot_abs (qa (qc 1) qe)))
   (qg (qvd (qA (qyr hr.units) (qc 1) qf) (qg (qq (i:=2) qdd.nd (qt qgk (qc 0) (qc 1)))
   (qg (qq (i:=0) qdd.nd (qc 1))
   (qh (qq (i:=1) qdd.nd (qc 2))))))
   (qh (qp (qc 0)))))),?_⟩
  refine ⟨fun m e => ∃ x y r,e=[.val (.int x),.val (.int y),r]/\0<=x/\0<=y/\Qaa x.toNat y.toNat=Yr a b/\m=y.toNat,⟨_,_,_,_,rfl,zafw a,zafw b,zabb a b,rfl⟩,?_⟩;rintro m e ⟨x,y,r,rfl,hx,hy,hg,rfl⟩;refine ⟨rfl,rfl,qsk (fun hne=>?_) (fun he=>?_)⟩
  ·obtain ⟨t1,t2,t3⟩:=quq hx hy hne hg;exact ⟨by omega,(x%y).toNat,by omega,y,x%y,_,rfl,hy,t1,t3,rfl⟩
  ·subst he;have:=qys hx rfl hg;rw [this];exact h
open Builtin.Int (intBits)
def zaia {t b:Int}{m:Nat} (hb:b≠0) (h:intBits b<=m):intBits (cm t b)<=m:=by
 refine Y5 ?_ h;rw [qqz];exact Qcp (by omega) (Qjv t.natAbs b.natAbs)
def qcu {t b:Int}{m:Nat} (h:intBits t<=m):intBits (shT t b)<=m:=intBits_fdiv_le h
def qfj {t b:Int}{m:Nat} (h:intBits b<=m):intBits (shB t b)<=m:=intBits_fdiv_le h
def qif {a b:Int} (ha:intBits a<=4000) (hb:intBits b<=4000):IntMulOk a b :=.of_le ha hb (by decide)
def qk {x:Int}{m n:Nat} (h:intBits x<=m) (e:m<=n):intBits x<=n:=Zr h e
def qao {x:Int} (h1 : -(2^64)<x) (h2:x<2^64):intBits x<=64:=intBits_le_64 h1 h2
def qqj {zs:List Int}{i:Nat}{z:Int} (h:zs[i]?=some z):zs.take (i+1)=zs.take i++[z]:=by
 rw [Vd,h];rfl
def qdt {zs:List Int}{i:Nat}{x:Qi} (h:(zs.map Zq)[i]?=some x) : ∃ z,x = .int z/\zs[i]?=some z/\z ∈ zs:=by
 rw [Qc] at h;cases e:zs[i]? with
 | none=>rw [e] at h;cases h
 | some z =>
  rw [e] at h;exact ⟨z,(Qx h).symm,rfl,Qj e⟩
structure Tab (b:Int) (R:List (List Int)) (n:Nat):Prop where
 pos:1<=b
 len : ∀ r ∈ R,r.length=n
 nn : ∀ r ∈ R,∀ x ∈ r,0<=x
 sum : ∀ r ∈ R,r.sum=b
def qkb (r:List Int):Qi :=.list (r.map .int)
def qim (r:List Int):Qi :=.tuple (r.map .int)
def qer {α:Type}{l:List α}{i:Nat}{x:α} (h:l[i]?=some x):x ∈ l:=Qj h
def qve {n:Nat} (h:n<=1000):n<=Q9:=Z6 (qi h)
def qjo {α:Type} (y:α) (l:List α):atI (y::l) 0=some y:=qdv (j:=0) rfl
def qst (R:List (List Int)):Qi :=.list (R.map qkb)
def zaft : ∀ {r:List Int},(∀ n ∈ r,0<=n)->0<=r.sum
 | [],_=>by simp
 | n::r,h=>by
  rw [Q5];have a:=h n (by simp);have b:=zaft fun m hm=>h m (Qs _ hm);omega
def qcz : ∀ {r:List Int}{x:Int},(∀ n ∈ r,0<=n)->x ∈ r->x<=r.sum
 | n::r,x,h,hx=>by
  rw [Q5];have a:=h n (by simp);have b:=zaft fun m hm=>h m (Qs _ hm);rcases Q3.mp hx with rfl|hx
  ·omega
  ·have:=qcz (fun m hm=>h m (Qs _ hm)) hx;omega
def Tab.le {b:Int}{R:List (List Int)}{n:Nat}{r:List Int}{x:Int} (h:Tab b R n) (hr:r ∈ R) (hx:x ∈ r):0<=x/\x<=b :=
 ⟨h.nn r hr x hx,h.sum r hr ▸ qcz (h.nn r hr) hx⟩
def iteN {b:Bool}{A B:Prop} (h:b=true) (k:B):if (!b)=true then A else B:=by rw [h];exact qrz k
def iteY {b:Bool}{A B:Prop} (h:b=true) (k:A):if b=true then A else B:=by rw [h];exact qwd k
def iteZ {b:Bool}{A B:Prop} (h:b=false) (k:B):if b=true then A else B:=by rw [h];exact qrz k
def at2 (Ls:List (List Int)) (k j:Nat):Int:=(((Ls[k]?).getD [])[j]?).getD 0
structure Bd (m w:Nat) (Ls:List (List Int)) (ss:List Int):Prop where
 l:Ls.length=m
 s:ss.length=m
 w : ∀ r ∈ Ls,r.length=w
 z : ∀ r ∈ Ls,∀ x ∈ r,intBits x<=2000
def zagw {l:Nat}{j:Int} (h0:0<=j) (h:j<l):ixN l j=some j.toNat:=by
 unfold ixN;rw [if_pos h0,if_pos h]
section
variable {Ls:List (List Int)}{ss:List Int}{w p i r:Nat}
end
def qO:Nat->(Nat->Int)->Int
 | 0,_=>0
 | n+1,f=>qO n f+f n
def qH {f g:Nat->Int} : ∀ {n:Nat},(∀ i,i<n->f i=g i)->qO n f=qO n g
 | 0,_=>rfl
 | n+1,h=>by
  show qO n f+f n=qO n g+g n;rw [qH fun i hi=>h i (by omega),h n (by omega)]
def qed {f:Nat->Int}{n:Nat} (h : ∀ i,i<n->f i=0):qO n f=0:=by
 induction n with
 | zero=>rfl
 | succ n ih =>
  show qO n f+f n=0;rw [ih fun i hi=>h i (by omega),h n (by omega)];rfl
def qof (k l:Int) (f g:Nat->Int) : ∀ n:Nat,qO n (fun i=>k*f i+l*g i)=k*qO n f+l*qO n g
 | 0=>by show (0:Int)=k*0+l*0;omega
 | n+1=>by
  show qO n (fun i=>k*f i+l*g i)+(k*f n+l*g n)=k*(qO n f+f n)+l*(qO n g+g n);rw [qof k l f g n];grind
def qaq (k:Int) (f:Nat->Int) (n:Nat):qO n (fun i=>k*f i)=k*qO n f:=by
 have:=qof k 0 f (fun _=>0) n;simpa using this
def qub (f g:Nat->Int) (n:Nat):qO n (fun i=>f i+g i)=qO n f+qO n g:=by
 have:=qof 1 1 f g n;simpa using this
def qjl {f:Nat->Int}{n r:Nat} (hr:r<n) (h : ∀ i,i<n->i≠r->f i=0):qO n f=f r:=by
 induction n with
 | zero=>omega
 | succ n ih =>
  show qO n f+f n=f r;by_cases e:r=n
  ·subst e;rw [qed fun i hi=>h i (by omega) (by omega)];omega
  ·rw [ih (by omega) fun i hi=>h i (by omega),h n (by omega) (by omega)];omega
def skip (i x:Nat):Nat:=if x<i then x else x+1
def zacs {f:Nat->Int} : ∀ {n:Nat},qO n f<0 -> ∃ k,k<n/\f k<0
 | 0,h=>absurd h (by show ¬ (0:Int)<0;omega)
 | n+1,h=>by
  have h':qO n f+f n<0:=h;by_cases q:f n<0
  ·exact ⟨n,by omega,q⟩
  ·obtain ⟨k,hk,z⟩:=zacs (f:=f) (n:=n) (by omega);exact ⟨k,by omega,z⟩
def qgq {f:Nat->Int} : ∀ {n:Nat},(∀ k,k<n->0<=f k)->0<=qO n f
 | 0,_=>by show (0:Int)<=0;omega
 | n+1,h=>by
  have a:=qgq (f:=f) (n:=n) fun k hk=>h k (by omega);have b:=h n (by omega);show 0<=qO n f+f n;omega
def enc (B:Nat) (st:Nat->Nat):Nat->Nat
 | 0=>0
 | k+1=>enc B st k+st k*B^k
def qbp (f:Nat->Int) : ∀ n:Nat,((Q1 n).map f).sum=qO n f
 | 0=>rfl
 | n+1=>by rw [Qli,Zu,Yd,qbp f n];simp [qO]
def qny {B q d:Int} (hB:0<B) (hq:0<q) (h1:B∣d) (h2:q∣d):0<B*q/(Yr B q:Int)/\B*q/(Yr B q:Int)∣d/\B∣B*q/(Yr B q:Int)/\q∣B*q/(Yr B q:Int):=by
 obtain ⟨x,rfl⟩:=Vt (Qag hB);obtain ⟨y,rfl⟩:=Vt (Qag hq);have e:(x:Int)*(y:Int)/(Yr x y:Int)=((Nat.lcm x y:Nat):Int):=by
  unfold Nat.lcm;rw [Int.gcd_natCast_natCast,Int.natCast_ediv,Qhd]
 rw [e];have p:0<Nat.lcm x y:=Nat.lcm_pos (by omega) (by omega);refine ⟨by omega,?_,Qaj.mpr (Nat.dvd_lcm_left x y),Qaj.mpr (Nat.dvd_lcm_right x y)⟩;rw [Int.ofNat_dvd_left] at h1 h2 ⊢;exact Nat.lcm_dvd h1 h2
def qW (g:Nat) (r:List Int):Nat:=r.foldl (fun (g:Nat) (n:Int)=>Yr g n) g
def qR (R:List (List Int)):Nat:=R.foldl qW 0
def qfo : ∀ (r:List Int) (g:Nat),qW g r∣g
 | [],g=>Nat.dvd_refl _
 | n::r,g=>Qmi (qfo r (Yr g n)) (by have:=Int.gcd_dvd_natAbs_left (g:Int) n;simpa using this)
def qfl : ∀ (r:List Int) (g:Nat),∀ n ∈ r,(qW g r:Int)∣n
 | m::r,g,n,h=>by
  rcases Q3.mp h with rfl|h
  ·exact Jc (Qaj.mpr (qfo r (Yr g n))) (Qju ..)
  ·exact qfl r (Yr g m) n h
def qhr : ∀ (R:List (List Int)) (g:Nat),R.foldl qW g∣g
 | [],g=>Nat.dvd_refl _
 | r::R,g=>Qmi (qhr R (qW g r)) (qfo r g)
def qqk : ∀ (R:List (List Int)) (g:Nat),∀ r ∈ R,∀ n ∈ r,((R.foldl qW g:Nat):Int)∣n
 | s::R,g,r,h,n,hn=>by
  rcases Q3.mp h with rfl|h
  ·exact Jc (Qaj.mpr (qhr R (qW g r))) (qfl r g n hn)
  ·exact qqk R (qW g s) r h n hn
def qfm {R:List (List Int)}{r:List Int}{n:Int} (h:r ∈ R) (hn:n ∈ r):(qR R:Int)∣n:=qqk R 0 r h n hn
def qfh (k:Nat) : ∀ (r:List Int) (g:Nat),qW (k*g) (r.map fun n=>(k:Int)*n)=k*qW g r
 | [],g=>rfl
 | n::r,g=>by
  have e:Yr ((k*g:Nat):Int) ((k:Int)*n)=k*Yr g n:=by
   rw [Qhd,Qkp];rfl
  show qW (Yr ((k*g:Nat):Int) ((k:Int)*n)) (r.map fun n=>(k:Int)*n)=_;rw [e];exact qfh k r (Yr g n)
def qqu (k:Nat) : ∀ (R:List (List Int)) (g:Nat),(R.map fun r=>r.map fun n=>(k:Int)*n).foldl qW (k*g)=k*R.foldl qW g
 | [],g=>rfl
 | r::R,g=>by
  show (R.map fun r=>r.map fun n=>(k:Int)*n).foldl qW (qW (k*g) (r.map fun n=>(k:Int)*n))=_;rw [qfh];exact qqu k R (qW g r)
def qul (k:Nat) (R:List (List Int)):qR (R.map fun r=>r.map fun n=>(k:Int)*n)=k*qR R:=qqu k R 0
def qbe (R:List (List Int)) (g:Int):List (List Int):=R.map fun r=>r.map fun n=>n/g
def qbi {α:Type}{f:α->α} : ∀ {l:List α},(∀ x ∈ l,f x=x)->l.map f=l
 | [],_=>rfl
 | x::l,h=>by rw [Q7,h x (by simp),qbi fun y hy=>h y (Qs _ hy)]
def zacq {R:List (List Int)}:(qbe R (qR R)).map (fun r=>r.map fun n=>(qR R:Int)*n)=R:=by
 unfold qbe;rw [Zk];refine qbi fun r hr=>?_;show (r.map fun n=>n/(qR R:Int)).map (fun n=>(qR R:Int)*n)=r;rw [Zk];exact qbi fun n hn=>Y4 (qfm hr hn)
def zadg {R:List (List Int)} (h:0<qR R):qR (qbe R (qR R))=1:=by
 have e:=qul (qR R) (qbe R (qR R));rw [zacq] at e;have e2:qR R*1=qR R*qR (qbe R (qR R)):=by omega
 exact (Qbp h e2).symm
def qug : ∀ {r:List Int},(∀ n ∈ r,n=0)->r.sum=0
 | [],_=>rfl
 | n::r,h=>by rw [Q5,h n (by simp),qug fun m hm=>h m (Qs _ hm)];rfl
def Tab.gpos {b:Int}{R:List (List Int)}{n:Nat} (h:Tab b R n) (hR:R≠[]):0<qR R:=by
 rcases Qax (qR R) with e|e
 ·exfalso;obtain ⟨r,R',rfl⟩:=Zy hR;have h1:=h.sum r (by simp);have h2 : ∀ m ∈ r,m=0:=fun m hm=>by
   have:=qfm (R:=r::R') (by simp) hm;rw [e] at this;exact Int.zero_dvd.mp this
  rw [qug h2] at h1;have:=h.pos;omega
 ·exact e
def qzw {g:Int} : ∀ {r:List Int},(∀ n ∈ r,g∣n)->g∣r.sum
 | [],_=>by simp
 | n::r,h=>by rw [Q5];exact Int.dvd_add (h n (by simp)) (qzw fun m hm=>h m (Qs _ hm))
def Tab.gdvd {b:Int}{R:List (List Int)}{n:Nat} (h:Tab b R n) (hR:R≠[]):(qR R:Int)∣b:=by
 obtain ⟨r,R',rfl⟩:=Zy hR;rw [<- h.sum r (by simp)];exact qzw fun m hm=>qfm (by simp) hm
def qyq {g:Int} : ∀ {r:List Int},(∀ n ∈ r,g∣n)->(r.map fun n=>n/g).sum=r.sum/g
 | [],_=>by simp
 | n::r,h=>by
  rw [Q7,Q5,Q5,qyq fun m hm=>h m (Qs _ hm)];exact (Int.add_ediv_of_dvd_left (h n (by simp))).symm
def Tab.low {b:Int}{R:List (List Int)}{n:Nat} (h:Tab b R n) (hR:R≠[]):Tab (b/qR R) (qbe R (qR R)) n:=by
 have hp:=h.gpos hR;have hd:=h.gdvd hR;have hb:=h.pos;have hgb:(qR R:Int)<=b:=Qmj (by omega) hd;refine ⟨?_,?_,?_,?_⟩
 ·exact (Int.le_ediv_iff_mul_le (by omega)).mpr (by omega)
 ·intro r hr;obtain ⟨s,hs,rfl⟩:=Qm.mp hr;rw [Qk];exact h.len s hs
 ·intro r hr x hx;obtain ⟨s,hs,rfl⟩:=Qm.mp hr;obtain ⟨y,hy,rfl⟩:=Qm.mp hx;exact Qlj (h.nn s hs y hy) (by omega)
 ·intro r hr;obtain ⟨s,hs,rfl⟩:=Qm.mp hr;rw [qyq fun m hm=>qfm hs hm,h.sum s hs]
def qpw (g:Nat) (r:List Int) (n:Int):qW g (r++[n])=Yr (qW g r) n:=by unfold qW;rw [Qjw];rfl
def qxc (R:List (List Int)) (r:List Int):qR (R++[r])=qW (qR R) r:=by unfold qR;rw [Qjw];rfl
def RowsD (d:Qi) (R:List (List Int)):Prop := ∃ l,qcs d=some l/\l.map (fun x=>(qcs x).getD [])=R.map (fun r=>r.map Zq) /\ ∀ x ∈ l,(qcs x).isSome=true
def RowsD.len {d:Qi}{R:List (List Int)}{l:List Qi} (h:RowsD d R) (e:qcs d=some l):l.length=R.length:=by
 obtain ⟨m,e',h1,_⟩:=h;rw [e] at e';cases e';have:=congrArg Qlc h1;simpa using this
def RowsD.get {d:Qi}{R:List (List Int)}{l:List Qi}{i:Nat}{x:Qi} (h:RowsD d R) (e:qcs d=some l) (hx:l[i]?=some x) : ∃ r,R[i]?=some r/\qcs x=some (r.map .int):=by
 obtain ⟨m,e',h1,h2⟩:=h;rw [e] at e';cases e';have h3:(l.map fun x=>(qcs x).getD [])[i]?=some ((qcs x).getD []):=by rw [Qc,hx];rfl
 rw [h1,Qc] at h3;obtain ⟨y,hy⟩:=J4.mp (h2 x (Qj hx));cases q:R[i]? with
 | none=>rw [q] at h3;cases h3
 | some r =>
  rw [q] at h3;refine ⟨r,rfl,?_⟩;rw [hy] at h3 ⊢;exact h3.symm
def RowsD.of {d:Qi}{R:List (List Int)}{f:List Qi->Qi} (hf : ∀ l,qcs (f l)=some l) (e:qcs d=some (R.map fun r=>f (r.map .int))):RowsD d R:=by
 refine ⟨_,e,?_,?_⟩
 ·rw [Zk];refine Zv fun r _=>?_;simp [hf]
 ·intro x hx;obtain ⟨r,_,rfl⟩:=Qm.mp hx;simp [hf]
def qbq (b:Int) (R:List (List Int)):Qi :=.tuple [.int b,.tuple (R.map qim)]
def qkr (R:List (List Int)):RowsD (.tuple (R.map qim)) R:=RowsD.of (f :=.tuple) (fun _=>rfl) rfl
def qpx (R:List (List Int)):RowsD (.list (R.map qkb)) R:=RowsD.of (f :=.list) (fun _=>rfl) rfl
def dSh (p q:Int):Qi :=.tuple [.int p,.int q]
structure ShW (p q:Int):Prop where
 s:Shr p q
 b1:intBits p<=4000
 b2:intBits q<=4000
def ShW.bot {p q r s:Int} (h:ShW p q) (k:ShW r s):q*s≠0/\intBits (q*s)<=9000:=by
 have h1:=h.s.pos;have h2:=k.s.pos;have:=Z5 (show 0<q by omega) (show 0<s by omega);exact ⟨by omega,qk (J0 h.b2 k.b2) (by decide)⟩
section
variable {b:Int}{R:List (List Int)}{m:Nat}{c:Int}{S:List (List Int)}{n:Nat}
structure Dul (b:Int) (R:List (List Int)) (m:Nat) (c:Int) (S:List (List Int)) (n:Nat) (B:Int) (D:List (List Int)):Prop where
 t:Tab B D n
 l:D.length=m
 e : ∀ s j,s<R.length->j<n->c*(qO m fun i=>at2 R s i*at2 D i j)=at2 S s j*b*B
structure LcmB (V:List (List (Int×Int))) (B:Int):Prop where
 pos:0<B
 dv : ∀ r ∈ V,∀ x ∈ r,x.2∣B
 un : ∀ d:Int,(∀ r ∈ V,∀ x ∈ r,x.2∣d)->B∣d
def qP (B:Int) (r:List (Int×Int)):List Int:=r.map fun x=>x.1*(B/x.2)
def zaiw {V:List (List (Int×Int))}{B g:Int} (h:LcmB V B) (hs : ∀ r ∈ V,∀ x ∈ r,Shr x.1 x.2) (g0:0<g) (gB:g∣B) (hg : ∀ r ∈ V,∀ y ∈ qP B r,g∣y):g=1:=by
 obtain ⟨t,e⟩:=gB;have hB:=h.pos;have t0:0<t:=by
  rcases Qce 0 t with q|q
  ·exact q
  ·have:=Z9 (Qag g0) (show 0 <= -t by omega);rw [Int.mul_neg] at this;omega
 have hd:B∣t:=h.un t fun r hr x hx=>by
  have s:=hs r hr x hx;obtain ⟨k,hk⟩:=hg r hr _ (Qm.mpr ⟨x,hx,rfl⟩);obtain ⟨u,hu⟩:=h.dv r hr x hx;have q0:x.2≠0:=by have:=s.pos;omega
  rw [hu,Qfq _ q0] at hk;refine qnv s.gcd ⟨k,?_⟩;have:g*(x.1*t)=g*(x.2*k):=by
   have e':x.2*u=g*t:=by rw [<- hu,e]
   calc g*(x.1*t)=x.1*(g*t):=by grind
    _=x.1*(x.2*u):=by rw [e']
    _=x.2*(x.1*u):=by grind
    _=x.2*(g*k):=by rw [hk]
    _=g*(x.2*k):=by grind
  exact Y1 (by omega) this
 have le1:=Qmj t0 hd;rw [e] at le1;rcases Qce 1 g with q|q
 ·have:=Int.mul_lt_mul_of_pos_right q t0;omega
 ·omega
end
def dS (x:Int×Int):Qi:=dSh x.1 x.2
def shG {vs:List (Int×Int)}{i:Nat}{x:Qi} (h:(vs.map dS)[i]?=some x) : ∃ y,vs[i]?=some y/\x=dSh y.1 y.2:=by
 rw [Qc] at h;cases q:vs[i]? with
 | none=>rw [q] at h;cases h
 | some y=>rw [q] at h;exact ⟨y,rfl,(Qx h).symm⟩
def dvdB {x d:Int}{m:Nat} (h:x∣d) (d0:0<d) (z:intBits d<=m):intBits x<=m :=
 Y5 (Qcp (by omega) (V3.mpr h)) z
def zarc (d:Qi) (V:List (List (Int×Int))):Prop := ∃ l,qcs d=some l/\l.length=V.length /\ ∀ (i:Nat) (x:Qi),l[i]?=some x -> ∃ r:List (Int×Int),V[i]?=some r/\qcs x=some (r.map dS)
structure LcmL (xs:List (Int×Int)) (B:Int):Prop where
 pos:0<B
 dv : ∀ x ∈ xs,x.2∣B
 un : ∀ d:Int,(∀ x ∈ xs,x.2∣d)->B∣d
def LcmL.nil:LcmL [] 1:=⟨by decide,fun x hx=>by simp at hx,fun d _=>⟨d,by omega⟩⟩
def LcmL.snoc {xs:List (Int×Int)}{B:Int}{y:Int×Int} (h:LcmL xs B) (hy:0<y.2):LcmL (xs++[y]) (B*y.2/(Yr B y.2:Int)):=by
 have k:=qny (d:=B*y.2) h.pos hy ⟨_,rfl⟩ ⟨B,Zw _ _⟩;refine ⟨k.1,fun x hx=>?_,fun d hd=>(qny h.pos hy (h.un d fun x hx=>hd x (Zl.mpr (.inl hx))) (hd y (by simp))).2.1⟩;rcases Zl.mp hx with q|q
 ·exact Jc (h.dv x q) k.2.2.1
 ·rw [Qw.mp q];exact k.2.2.2
def LcmL.b {V:List (List (Int×Int))}{B:Int} (h:LcmL V.flatten B):LcmB V B :=
 ⟨h.pos,fun r hr x hx=>h.dv x (Qkq.mpr ⟨r,hr,hx⟩),fun d hd=>h.un d fun x hx=>by
  obtain ⟨r,hr,hx⟩:=Qkq.mp hx;exact hd r hr x hx⟩
def zaqa {V:List (List (Int×Int))}{i:Nat}{r:List (Int×Int)} (h:V[i]?=some r):(V.take (i+1)).flatten=(V.take i).flatten++r:=by
 rw [Vd,h];simp
def zakv {α:Type}{zs:List α}{i:Nat}{z:α} (h:zs[i]?=some z):zs.take (i+1)=zs.take i++[z]:=by
 rw [Vd,h];rfl
def qgo (ds:List Qi) (q:Qi->Prop):Prop := ∃ (d:Qi) (r:List (Int×Int)) (B:Int),ds=[d,.int B]/\(qcs d=some (r.map dS)/\r.length<=900/\(∀ x ∈ r,Shr x.1 x.2/\intBits x.1<=4000/\x.2∣B)/\0<B/\intBits B<=4000)/\q (qim (qP B r))
def qmm:FnScope ["row","bottom"] ["row","bottom"] (defScope qdc):=sc0
def qmn (F:Def K mg "over_bottom" qdc ["row","bottom"]) (T:Txt K mg cs)
 : Ok P w K mg base "over_bottom" 1 ["row","bottom"] (PSp K qgo):=by
  refine F.vok qmm (by rintro ds q ⟨_,_,_,h,_⟩;rw [h];rfl) fun f cdv A outer s H E hr ds q h=>?_;obtain ⟨d,r,B,rfl,⟨e,hl,hx,B0,zB⟩,h⟩:=h;refine ⟨_,(qh (qp (qad qdu T.tuple_ L2.boot_tuple (qa (qw (qK (caps:=["bottom"]) (own:=["part"]) (ix:=[1]) rfl ⟨rfl,rfl,rfl,rfl,rfl,rfl⟩ (qQ (qc 0)) (fun _ _ _ _=>(qo (i:=1) (show Zn (["bottom","part"]:List Str) by decide))) (fun _ _ _ _=>(qt qbg (qx (qc 1) qf) (qt qhf (qc 0) (qx (qc 1) qf)))))) qe)))),?_⟩;refine qax e (qC ((qP B r).map .int) (by simp [qP]) (qi (by simp [qP];omega)) (fun e => ∃ s,e=[.val (.int B),s]) ⟨_,rfl⟩ ?_ h);rintro i x ys e hx' hys ⟨s,rfl⟩;obtain ⟨y,hy,rfl⟩:=shG hx';obtain ⟨s1,s2,s3⟩:=hx y (Qj hy);have q0:=s1.pos;refine ⟨.int y.1,rfl,.int y.2,rfl,⟨by omega,qk (dvdB s3 B0 zB) (by decide)⟩,qif s2 (dvdB (x:=B/y.2) ⟨y.2,(Int.ediv_mul_cancel s3).symm⟩ B0 zB),qu ?_ hys,_,rfl⟩;unfold qP;rw [Qc,Qc,hy];rfl
def qac (ds:List Qi) (q:Qi->Prop):Prop := ∃ (d:Qi) (V:List (List (Int×Int))) (D0:Int),ds=[d]/\(zarc d V/\V.length<=900/\(∀ r ∈ V,r.length<=900 /\ ∀ x ∈ r,Shr x.1 x.2/\intBits x.1<=4000/\x.2∣D0)/\0<D0/\intBits D0<=4000) /\ ∀ B,LcmB V B->q (qbq B (V.map (qP B)))
def qab:FnScope ["rows","bottom","row","part"] ["rows"] (defScope qbd):=sc0
def qic (F:Def K mg "table_of_shares" qbd ["rows"]) (T:Txt K mg cs)
 (O_divisor:Ok P w K mg base "divisor" 1 ["one","other"] (PSp K qdi))
 (O_over_bottom:Ok P w K mg base "over_bottom" 1 ["row","bottom"] (PSp K qgo))
 : Ok P w K mg base "table_of_shares" 2 ["rows"] (PSp K qac):=by
  refine F.vok qab (by rintro ds q ⟨_,_,_,h,_⟩;rw [h];rfl) fun f cdv A outer s H E hr ds q h=>?_;obtain ⟨d,V,D0,rfl,⟨⟨l,e,el,hV⟩,hl,hx,d0,zd⟩,h⟩:=h;refine ⟨_,(qg (qq (i:=1) qab.nd qf)
   (qg (qef rfl (qQ (qc 0)) (qo (i:=2) qab.nd) (qh (qef rfl (qQ (qc 2)) (qo (i:=3) qab.nd) (qh (qq (i:=1) qab.nd (qt qhf (qt qbg (qc 1) (qx (qc 3) qf)) (qy O_divisor.c hr.m (qa (qc 1) (qa (qx (qc 3) qf) qe)))))))))
   (qh (qp (qT (qa (qc 1) (qa (qad qdu T.tuple_ L2.boot_tuple (qa (qw (qK (caps:=["bottom"]) (own:=["row"]) (ix:=[1]) rfl ⟨rfl,rfl,rfl,rfl,rfl,rfl⟩ (qQ (qc 0)) (fun _ _ _ _=>(qo (i:=1) (show Zn (["bottom","row"]:List Str) by decide))) (fun _ _ _ _=>(qy O_over_bottom.c hr.m (qa (qc 1) (qa (qc 0) qe)))))) qe)) qe))))))),?_⟩
  refine qax e ⟨fun i e => ∃ t1 t2 B,e=[.val d,.val (.int B),t1,t2]/\LcmL (V.take i).flatten B/\B∣D0,⟨_,_,_,rfl,by simpa using LcmL.nil,⟨D0,by omega⟩⟩,?_,?_⟩
  ·rintro i x e' hxi ⟨t1,t2,B,rfl,hB,Bd⟩;obtain ⟨r,hr,er⟩:=hV i x hxi;refine qax er ⟨fun j e => ∃ t2 B,e=[.val d,.val (.int B),.val x,t2]/\LcmL ((V.take i).flatten++r.take j) B/\B∣D0,⟨_,_,rfl,by simpa using hB,Bd⟩,?_,?_⟩
   ·rintro j y e hy ⟨t2,B,rfl,hB,Bd⟩;obtain ⟨z,hz,rfl⟩:=shG hy;obtain ⟨s1,s2,s3⟩:=(hx r (Qj hr)).2 z (Qj hz);have q0:=s1.pos;have B0:=hB.pos;have gp:(0:Int)<(Yr B z.2:Nat):=by have:=Qeb B (show z.2≠0 by omega);omega
    refine ⟨.int z.2,rfl,qif (dvdB Bd d0 zd) (dvdB s3 d0 zd),.int z.2,rfl,⟨gp,qk (dvdB (Jc (Qko ..) Bd) d0 zd) (by decide)⟩,_,_,rfl,?_,(qny B0 (show 0<z.2 by omega) Bd s3).2.1⟩;rw [zakv hz,<- Qfn];exact hB.snoc (by omega)
   ·rintro e ⟨t2,B,rfl,hB,Bd⟩;refine ⟨_,_,_,rfl,?_,Bd⟩;rw [Qk,Yt] at hB;rw [zaqa hr];exact hB
  rintro e' ⟨t1,t2,B,rfl,hB,Bd⟩;rw [el,Yt] at hB;have hB':=hB.b;have B0:=hB.pos;have zB:=dvdB Bd d0 zd;refine qax e (qC ((V.map (qP B)).map qim) (by simp [el]) (qi (by simp;omega)) (fun e => ∃ s,e=[.val (.int B),s]) ⟨_,rfl⟩ ?_ ⟨szl,h B hB'⟩);rintro i x ys e' hxi hys ⟨s,rfl⟩;obtain ⟨r,hr,er⟩:=hV i x hxi;obtain ⟨rl,rx⟩:=hx r (Qj hr);refine ⟨x,r,B,rfl,⟨er,rl,fun y hy=>⟨(rx y hy).1,(rx y hy).2.1,hB'.dv r (Qj hr) y hy⟩,B0,zB⟩,qu ?_ hys,_,rfl⟩;rw [Qc,Qc,hr];rfl
def qks (ds:List Qi) (q:Qi->Prop):Prop := ∃ b R,ds=[qbq b R]/\q (.int (R.length:Nat))
def zabh:FnScope ["glass"] ["glass"] (defScope qjn):=sc0
def zabj (F:Def K mg "stands" qjn ["glass"]) (T:Txt K mg cs)
 : Ok P w K mg base "stands" 1 ["glass"] (PSp K qks):=by
  refine F.vok zabh (by rintro ds q ⟨_,_,h,_⟩;rw [h];rfl) fun f cdv A outer s H E hr ds q h=>?_;obtain ⟨b,R,rfl,h⟩:=h;refine ⟨_,(qh (qp (qm qbh T.len_ L2.boot_len (qa (qx (qc 0) qf) qe)))),?_⟩;refine ⟨_,rfl,?_⟩;have e:(R.map qim).length=R.length:=by simp
  show q (.int ((R.map qim).length:Nat));rw [e];exact h
def qgx (ds:List Qi) (q:Qi->Prop):Prop := ∃ b r R,ds=[qbq b (r::R)]/\q (.int (r.length:Nat))
def zafp:FnScope ["glass"] ["glass"] (defScope qmq):=sc0
def zadr (F:Def K mg "signs" qmq ["glass"]) (T:Txt K mg cs)
 : Ok P w K mg base "signs" 1 ["glass"] (PSp K qgx):=by
  refine F.vok zafp (by rintro ds q ⟨_,_,_,h,_⟩;rw [h];rfl) fun f cdv A outer s H E hr ds q h=>?_;obtain ⟨b,r,R,rfl,h⟩:=h;refine ⟨_,(qh (qp (qm qbh T.len_ L2.boot_len (qa (qx (qx (qc 0) qf) qf) qe)))),?_⟩;refine ⟨_,rfl,_,qjo _ _,?_⟩;have e:(r.map Zq).length=r.length:=by simp
  show q (.int ((r.map Zq).length:Nat));rw [e];exact h
def qci (ds:List Qi) (q:Qi->Prop):Prop := ∃ d R,ds=[d]/\RowsD d R/\q (.int (qR R))
def qag:FnScope ["rows","common","row","number"] ["rows"] (defScope qbk):=sc0
def qis (F:Def K mg "common_divisor" qbk ["rows"]) (T:Txt K mg cs)
 (O_divisor:Ok P w K mg base "divisor" 1 ["one","other"] (PSp K qdi))
 : Ok P w K mg base "common_divisor" 2 ["rows"] (PSp K qci):=by
  refine F.vok qag (by rintro ds q ⟨_,_,h,_⟩;rw [h];rfl) fun f cdv A outer s H E hr ds q h=>?_;obtain ⟨d,R,rfl,hR,h⟩:=h;refine ⟨_,(qg (qq (i:=1) qag.nd qf)
   (qg (qef rfl (qQ (qc 0)) (qo (i:=2) qag.nd) (qh (qef rfl (qQ (qc 2)) (qo (i:=3) qag.nd) (qh (qq (i:=1) qag.nd (qy O_divisor.c hr.m (qa (qc 1) (qa (qc 3) qe))))))))
   (qh (qp (qc 1))))),?_⟩
  obtain ⟨l,e,_⟩:=id hR;refine qax e ⟨fun i e => ∃ t1 t2 c,e=[.val d,.val (.int c),t1,t2]/\c=(qR (R.take i):Int),⟨_,_,_,rfl,rfl⟩,?_,?_⟩
  ·rintro i x e' hx ⟨t1,t2,_,rfl,rfl⟩;obtain ⟨r,hr,er⟩:=hR.get e hx;refine qax er ⟨fun j e => ∃ t2 c,e=[.val d,.val (.int c),.val x,t2]/\c=(qW (qR (R.take i)) (r.take j):Int),⟨_,_,rfl,rfl⟩,?_,?_⟩
   ·rintro j y e hy ⟨t2,_,rfl,rfl⟩;obtain ⟨z,rfl,hz,_⟩:=qdt hy;refine ⟨_,_,rfl,?_⟩;rw [qqj hz,qpw]
   ·rintro e ⟨t2,_,rfl,rfl⟩;refine ⟨_,_,_,rfl,?_⟩;rw [Qk,Yt,Vd,hr];show _=((qR (R.take i++[r]):Nat):Int);rw [qxc]
  ·rintro e' ⟨t1,t2,_,rfl,rfl⟩;rw [hR.len e,Yt];exact h
def qij (ds:List Qi) (q:Qi->Prop):Prop := ∃ (d:Qi) (r:List Int) (g:Int),ds=[d,.int g]/\(qcs d=some (r.map .int)/\r.length<=900/\0<g/\intBits g<=9000)/\q (qim (r.map fun n=>n/g))
def qwp:FnScope ["row","common"] ["row","common"] (defScope qhq):=sc0
def qvz (F:Def K mg "divided" qhq ["row","common"]) (T:Txt K mg cs)
 : Ok P w K mg base "divided" 1 ["row","common"] (qpt K qij):=by
  refine F.vokN qwp (by rintro ds q ⟨_,_,_,h,_⟩;rw [h];rfl) fun f cdv A outer s H E hr ds q h=>?_;obtain ⟨d,r,g,rfl,⟨e,hl,g0,g1⟩,h⟩:=h;refine ⟨_,(qh (zaiq (zahu T.tuple_ (qw (qK (caps:=["common"]) (own:=["number"]) (ix:=[1]) rfl ⟨rfl,rfl,rfl,rfl,rfl,rfl⟩ (qQ (qc 0)) (fun _ _ _ _=>(qo (i:=1) (show Zn (["common","number"]:List Str) by decide))) (fun _ _ _ _=>(qt qhf (qc 1) (qc 0)))))))),?_⟩;refine qax e (qC ((r.map fun n=>n/g).map .int) (by simp) (qi (by simp;omega)) (fun e => ∃ s,e=[.val (.int g),s]) ⟨_,rfl⟩ ?_ ?_)
  ·rintro i x ys e hx hys ⟨s,rfl⟩;obtain ⟨z,rfl,hz,_⟩:=qdt hx;refine ⟨⟨g0,g1⟩,qu ?_ hys,_,rfl⟩;rw [Qc,Qc,hz];rfl
  ·exact ⟨Zi.mpr fun x hx=>by obtain ⟨n,_,rfl⟩:=Qm.mp hx;rfl,_,rfl,h⟩
def qfw (ds:List Qi) (q:Qi->Prop):Prop := ∃ (b:Int) (d:Qi) (R:List (List Int)) (n:Nat),ds=[.int b,d]/\(RowsD d R/\Tab b R n/\R≠[]/\R.length<=900/\n<=900/\intBits b<=9000)/\q (qbq (b/qR R) (qbe R (qR R)))
def zaef {g b:Int}{m:Nat} (hb:0<b) (h:g∣b) (hz:intBits b<=m):intBits g<=m:=by
 refine Y5 ?_ hz;exact Qcp (by omega) (V3.mpr h)
def qft:FnScope ["bottom","rows","common"] ["bottom","rows"] (defScope qcj):=sc0
def qlw (F:Def K mg "lowest_table" qcj ["bottom","rows"]) (T:Txt K mg cs)
 (O_common_divisor:Ok P w K mg base "common_divisor" 2 ["rows"] (PSp K qci))
 (O_divided:Ok P w K mg base "divided" 1 ["row","common"] (qpt K qij))
 : Ok P w K mg base "lowest_table" 3 ["bottom","rows"] (PSp K qfw):=by
  refine F.vok qft (by rintro ds q ⟨_,_,_,_,h,_⟩;rw [h];rfl) fun f cdv A outer s H E hr ds q h=>?_;obtain ⟨b,d,R,n,rfl,⟨hR,hT,hn,hl,hn2,hz⟩,h⟩:=h;refine ⟨_,(qg (qq (i:=2) qft.nd (qy O_common_divisor.c hr.m (qa (qc 1) qe)))
   (qh (qp (qT (qa (qt qhf (qc 0) (qc 2)) (qa (qad qdu T.tuple_ L2.boot_tuple (qa (qw (qK (caps:=["common"]) (own:=["row"]) (ix:=[2]) rfl ⟨rfl,rfl,rfl,rfl,rfl,rfl⟩ (qQ (qc 1)) (fun _ _ _ _=>(qo (i:=1) (show Zn (["common","row"]:List Str) by decide))) (fun _ _ _ _=>(vn_e (zall O_divided.c hr.m (qa (qc 1) (qa (qc 0) qe))))))) qe)) qe)))))),?_⟩
  have g0:=hT.gpos hn;have g1:intBits (qR R:Int)<=9000:=zaef (by have:=hT.pos;omega) (hT.gdvd hn) hz;refine ⟨d,R,rfl,hR,⟨by omega,g1⟩,?_⟩;obtain ⟨l,e,_⟩:=id hR;refine qax e (qC ((qbe R (qR R)).map qim) (by unfold qbe;simp [hR.len e]) (qi (by unfold qbe;simp;omega)) (fun e => ∃ s,e=[.val (.int (qR R)),s]) ⟨_,rfl⟩ ?_ ⟨szl,h⟩);rintro i x ys e' hx hys ⟨s,rfl⟩;obtain ⟨r,hr,er⟩:=hR.get e hx;refine ⟨x,r,qR R,rfl,⟨er,by rw [hT.len r (qer hr)];exact hn2,by omega,g1⟩,qu ?_ hys,_,rfl⟩;unfold qbe;rw [Qc,Qc,hr];rfl
def qhv (p n:Nat):List Int:=(Q1 n).map fun k=>if k=p then 1 else 0
def qlp (ds:List Qi) (q:Qi->Prop):Prop := ∃ p n:Nat,ds=[.int p,.int n]/\n<=900/\q (qim (qhv p n))
def qtj:FnScope ["place","many"] ["place","many"] (defScope qfq):=sc0
def qtk (F:Def K mg "one_sign" qfq ["place","many"]) (T:Txt K mg cs)
 : Ok P w K mg base "one_sign" 1 ["place","many"] (PSp K qlp):=by
  refine F.vok qtj (by rintro ds q ⟨_,_,h,_⟩;rw [h];rfl) fun f cdv A outer s H E hr ds q h=>?_;obtain ⟨p,n,rfl,hn,h⟩:=h;refine ⟨_,(qh (qp (qad qdu T.tuple_ L2.boot_tuple (qa (qw (qK (caps:=["place"]) (own:=["sign"]) (ix:=[0]) rfl ⟨rfl,rfl,rfl,rfl,rfl,rfl⟩ (qam T.range_ (qc 1)) (fun _ _ _ _=>(qo (i:=1) (show Zn (["place","sign"]:List Str) by decide))) (fun _ _ _ _=>(qua (qA (qgw hr.units) (qc 1) (qc 0)) qf qf)))) qe)))),?_⟩;refine ⟨⟨by omega,by omega⟩,qC ((qhv p n).map .int) (by unfold qhv;simp [qN]) (qi (by unfold qhv;simp;omega)) (fun e => ∃ s,e=[.val (.int p),s]) ⟨_,rfl⟩ ?_ h⟩;rintro i x ys e hx hys ⟨s,rfl⟩;obtain ⟨hi,rfl⟩:=qct hx;have hi':i<n:=by omega
  refine ⟨rfl,rfl,qcr (fun z=>?_) (fun z=>?_)⟩
  ·refine ⟨qu ?_ hys,_,rfl⟩;unfold qhv;rw [Qc,Qc,Q2 hi'];have:i=p:=by omega
   simp [this]
  ·refine ⟨qu ?_ hys,_,rfl⟩;unfold qhv;rw [Qc,Qc,Q2 hi'];have : ¬ i=p:=by omega
   simp [this]
def qL (D:List (List Int)) (k:Nat):List Int:=D.map fun r=>(r[k]?).getD 0
def qtx {α:Type} (f g:α->Int) : ∀ l:List α,(l.map fun k=>f k+g k).sum=(l.map f).sum+(l.map g).sum
 | []=>by simp
 | x::l=>by
  simp only [Q7,Q5,qtx f g l];omega
def qgt {α:Type} (c:Int) (f:α->Int) : ∀ l:List α,(l.map fun k=>c*f k).sum=c*(l.map f).sum
 | []=>by simp
 | x::l=>by
  simp only [Q7,Q5,qgt c f l,Qdg]
def zaah : ∀ (r:List Int),(Q1 r.length).map (fun k=>(r[k]?).getD 0)=r:=by
 intro r;apply Zs;intro i;rw [Qc];by_cases h:i<r.length
 ·rw [Q2 h,Qa h];simp [h]
 ·have h1:r.length<=i:=by omega
  rw [Qt (by simpa using h1),Qt h1];rfl
def qrm {D:List (List Int)}{k:Nat}{x:Int} (h:x ∈ qL D k):x=0 \/ ∃ d ∈ D,x ∈ d:=by
 obtain ⟨d,hd,rfl⟩:=Qm.mp h;cases e:d[k]? with
 | none=>exact .inl (by simp)
 | some y=>exact .inr ⟨d,hd,by simpa using Qj e⟩
def qzm {x b:Int}{m:Nat} (h0:0<=x) (h:x<=b) (hz:intBits b<=m):intBits x<=m:=Y5 (by omega) hz
def Tab.bits {b:Int}{R:List (List Int)}{n m:Nat}{r:List Int}{x:Int} (h:Tab b R n) (hz:intBits b<=m) (hr:r ∈ R) (hx:x ∈ r):intBits x<=m:=qzm (h.le hr hx).1 (h.le hr hx).2 hz
def qyw {a b:List Int}{i:Nat}{x y:Int} (h1:a[i]?=some x) (h2:b[i]?=some y):(Qez (· * ·) a b)[i]?=some (x*y):=by
 rw [Qhe,h1,h2]
def zajh {D:List (List Int)}{k i:Nat}{d:List Int}{x:Int} (h:D[i]?=some d) (hx:d[k]?=some x):(qL D k)[i]?=some x:=by
 unfold qL;rw [Qc,h];simp [hx]
def qsg (D:List (List Int)) (k:Nat):(qL D k).length=D.length:=by simp [qL]
structure Gls (b:Int) (R:List (List Int)) (n:Nat):Prop where
 t:Tab b R n
 g:qR R=1
def Tab.gls {b:Int}{R:List (List Int)}{n:Nat} (h:Tab b R n) (hR:R≠[]):Gls (b/qR R) (qbe R (qR R)) n:=⟨h.low hR,zadg (h.gpos hR)⟩
def zakd (R:List (List Int)):qbe R 1=R:=by
 unfold qbe;refine qbi fun r _=>qbi fun n _=>?_;exact Qkb n
def zafa {b:Int}{R:List (List Int)}{n:Nat} (h:Gls b R n):qbq (b/qR R) (qbe R (qR R))=qbq b R:=by
 rw [h.g];show qbq (b/1) (qbe R 1)=_;rw [Qkb,zakd]
abbrev qwm (b:Int) (P:List (List Int)):Qi:=qbq (b/qR P) (qbe P (qR P))
def qho (ds:List Qi) (q:List Qi->Prop):Prop := ∃ (d:Qi) (R:List (List Int)) (k:Nat),ds=[d,.int k]/\(RowsD d R/\R.length<=900 /\ ∀ r ∈ R,k<r.length)/\q ((qL R k).map .int)
def zabw:FnScope ["rows","place"] ["rows","place"] (defScope qjj):=sc0
def zabs (F:Def K mg "column" qjj ["rows","place"]) (T:Txt K mg cs)
 : Ok P w K mg base "column" 1 ["rows","place"] (FSp K qho):=by
  refine F.vokF zabw (by rintro ds q ⟨_,_,_,h,_⟩;rw [h];rfl) fun f cdv A outer s H E hr ds q h=>?_;obtain ⟨d,R,k,rfl,⟨hR,hl,hk⟩,h⟩:=h;refine ⟨_,(qh (qjq (qK (caps:=["place"]) (own:=["row"]) (ix:=[1]) rfl ⟨rfl,rfl,rfl,rfl,rfl,rfl⟩ (qQ (qc 0)) (fun _ _ _ _=>(qo (i:=1) (show Zn (["place","row"]:List Str) by decide))) (fun _ _ _ _=>(qx (qc 1) (qc 0)))))),?_⟩;obtain ⟨l,e,_⟩:=id hR;refine qax e (qC ((qL R k).map .int) (by simp [qL,hR.len e]) (qi (by simp [qL];omega)) (fun e => ∃ s,e=[.val (.int k),s]) ⟨_,rfl⟩ ?_ ?_)
  ·rintro i x ys e' hx hys ⟨s,rfl⟩;obtain ⟨r,hr,er⟩:=hR.get e hx;have hk':=hk r (qer hr);have hx:=Qa hk';refine qyx er (qdv (by rw [Qc,hx];rfl)) ⟨qu ?_ hys,_,rfl⟩;rw [Qc,zajh hr hx];rfl
  ·exact ⟨_,rfl,h⟩
def nrm (c:List Int):List Int:=c.map fun n=>n/(qW 0 c:Int)
structure Col (c:List Int):Prop where
 nn : ∀ n ∈ c,0<=n
 nz : ∃ n ∈ c,n≠0
def qqa : ∀ {c:List Int},qW 0 c=0 -> ∀ n ∈ c,n=0:=fun {c} h n hn=>by
 have:=qfl c 0 n hn;rw [h] at this;exact Int.zero_dvd.mp (by simpa using this)
def Col.g {c:List Int} (h:Col c):0<qW 0 c:=by
 rcases Qax (qW 0 c) with e|e
 ·obtain ⟨n,hn,z⟩:=h.nz;exact (z (qqa e n hn)).elim
 ·exact e
def qht {c:List Int}:(nrm c).map (fun n=>(qW 0 c:Int)*n)=c:=by
 unfold nrm;rw [Zk];exact qbi fun n hn=>Y4 (qfl c 0 n hn)
def qrl {c:List Int} (h:0<qW 0 c):qW 0 (nrm c)=1:=by
 have e:=qfh (qW 0 c) (nrm c) 0;rw [qht,Qhf] at e;exact (Qbp h (show qW 0 c*1=qW 0 c*qW 0 (nrm c) by omega)).symm
def Col.nrm {c:List Int} (h:Col c):Col (nrm c):=by
 have g:=h.g;constructor
 ·intro n hn;obtain ⟨m,hm,rfl⟩:=Qm.mp hn;exact Qlj (h.nn m hm) (by omega)
 ·obtain ⟨n,hn,z⟩:=h.nz;refine ⟨n/(qW 0 c:Int),Qm.mpr ⟨n,hn,rfl⟩,fun e=>z ?_⟩;have:=Y4 (qfl c 0 n hn);rw [e,Jg] at this;exact this.symm
def zaau {w:List Int}{k:Nat} (h:qW 0 w=1) (hk:0<k):nrm (w.map fun n=>(k:Int)*n)=w:=by
 have e:=qfh k w 0;rw [Qhf,h,Qlk] at e;unfold nrm;rw [e,Zk];refine qbi fun n _=>?_;show (k:Int)*n/(k:Int)=n;exact Qfq n (by omega)
def Prp (u v:List Int):Prop := ∀ (i j:Nat) (a b c d:Int),u[i]?=some a->u[j]?=some b->v[i]?=some c->v[j]?=some d->a*d=b*c
def qwa {u v:List Int} (e:nrm u=nrm v):Prp u v:=by
 intro i j a b c d ha hb hc hd;have hu:=qht (c:=u);have hv:=qht (c:=v);rw [<- hu] at ha hb;rw [<- hv,<- e] at hc hd;rw [Qc] at ha hb hc hd;cases h1:(nrm u)[i]? with
 | none=>rw [h1] at ha;cases ha
 | some x =>
  cases h2:(nrm u)[j]? with
  | none=>rw [h2] at hb;cases hb
  | some y =>
   rw [h1] at ha hc;rw [h2] at hb hd;simp only [Qll,Qjs] at ha hb hc hd;subst ha hb hc hd;grind
def qvq {u v:List Int} (hu:Col u) (hv:Col v) (hl:u.length=v.length) (h:Prp u v):nrm u=nrm v:=by
 have lu:(nrm u).length=u.length:=Qk _;have lv:(nrm v).length=v.length:=Qk _;have gu:(0:Int)<qW 0 u:=by have:=hu.g;omega
 have gv:(0:Int)<qW 0 v:=by have:=hv.g;omega
 have one : ∀ {c:List Int}{i:Nat}{x:Int},(nrm c)[i]?=some x->c[i]?=some ((qW 0 c:Int)*x):=fun {c i x} e=>by
  have:=qht (c:=c);rw [<- this,Qc,this,e];rfl
 have key : ∀ (i j:Nat) (a b c d:Int),(nrm u)[i]?=some a->(nrm u)[j]?=some b->(nrm v)[i]?=some c->(nrm v)[j]?=some d->a*d=b*c:=fun i j a b c d h1 h2 h3 h4=>by
  have z:=h i j _ _ _ _ (one h1) (one h2) (one h3) (one h4);have z2:((qW 0 u:Int)*(qW 0 v:Int))*(a*d)=((qW 0 u:Int)*(qW 0 v:Int))*(b*c):=by grind
  exact Y1 (Qdp (Z5 gu gv)) z2
 refine Zs fun i=>?_;by_cases hi:i<u.length
 ·obtain ⟨a,ha⟩ : ∃ a,(nrm u)[i]?=some a:=⟨_,Qa (by omega)⟩
  obtain ⟨c,hc⟩ : ∃ c,(nrm v)[i]?=some c:=⟨_,Qa (by omega)⟩
  have a0:=hu.nrm.nn a (Qj ha);have c0:=hv.nrm.nn c (Qj hc);have e:(nrm v).map (fun n=>(a.toNat:Int)*n)=(nrm u).map (fun n=>(c.toNat:Int)*n):=by
   refine Zs fun j=>?_;rw [Qc,Qc];by_cases hj:j<u.length
   ·obtain ⟨b,hb⟩ : ∃ b,(nrm u)[j]?=some b:=⟨_,Qa (by omega)⟩
    obtain ⟨d,hd⟩ : ∃ d,(nrm v)[j]?=some d:=⟨_,Qa (by omega)⟩
    rw [hb,hd,Qah a0,Qah c0];show some (a*d)=some (c*b);rw [key i j a b c d ha hb hc hd,Zw]
   ·rw [Qt (by omega),Qt (by omega)];rfl
  have e1:=qfh a.toNat (nrm v) 0;have e2:=qfh c.toNat (nrm u) 0;rw [Qhf,qrl hv.g,Qlk] at e1;rw [Qhf,qrl hu.g,Qlk] at e2;rw [e] at e1;rw [ha,hc]
  congr 1
  omega
 ·rw [Qt (by omega),Qt (by omega)]
def jc (R:List (List Int)) (G:List Nat):List Int:=R.map fun r=>(G.map fun i=>(r[i]?).getD 0).sum
def zalx (R:List (List Int)) (j:Nat):jc R [j]=qL R j:=by
 unfold jc qL;refine Zv fun r _=>?_;simp
def zajm (R:List (List Int)) (j:Nat) (G:List Nat):jc R (j::G)=Qez (· + ·) (qL R j) (jc R G):=by
 unfold jc qL
 induction R with
 | nil=>rfl
 | cons r R ih =>
  show ((j::G).map fun i=>(r[i]?).getD 0).sum::_=(_+_)::_;rw [ih,Q7,Q5]
def qep (R:List (List Int)) (G:List Nat):(jc R G).length=R.length:=Qk _
def qvi {l l':List Int} (h:l.Perm l'):l.sum=l'.sum:=by
 induction h with
 | nil=>rfl
 | cons x _ ih=>rw [Q5,Q5,ih]
 | swap x y l=>rw [Q5,Q5,Q5,Q5];omega
 | trans _ _ a b=>rw [a,b]
def zabp (w:List Int) (a b:Int):Qez (· + ·) (w.map fun n=>a*n) (w.map fun n=>b*n)=w.map fun n=>(a+b)*n:=by
 induction w with
 | nil=>rfl
 | cons x w ih=>rw [Q7,Q7,List.zipWith_cons_cons,ih,Q7,Qii]
def qun {R:List (List Int)}{κ:List Int} : ∀ {G:List Nat},G≠[]->(∀ i ∈ G,Col (qL R i)/\nrm (qL R i)=κ) -> ∃ k:Nat,0<k/\jc R G=κ.map fun n=>(k:Int)*n
 | [i],_,h=>by
  obtain ⟨c,e⟩:=h i (by simp);exact ⟨qW 0 (qL R i),c.g,by rw [zalx,<- e,qht]⟩
 | i::j::G,_,h=>by
  obtain ⟨k,hk,e⟩:=qun (G:=j::G) (by simp) fun x hx=>h x (Qs _ hx);obtain ⟨c,e2⟩:=h i (by simp);refine ⟨qW 0 (qL R i)+k,by omega,?_⟩;have e3:qL R i=κ.map fun n=>(qW 0 (qL R i):Int)*n:=by rw [<- e2,qht]
  rw [zajm,e,e3,zabp,<- e3];simp
def qsl {R:List (List Int)}{κ:List Int}{G:List Nat} (hG:G≠[]) (h : ∀ i ∈ G,Col (qL R i)/\nrm (qL R i)=κ):nrm (jc R G)=κ/\Col (jc R G):=by
 obtain ⟨k,hk,e⟩:=qun hG h;obtain ⟨i,hi⟩:=List.exists_mem_of_ne_nil G hG;obtain ⟨c,e2⟩:=h i hi;have g1:qW 0 κ=1:=by rw [<- e2];exact qrl c.g
 have cκ:Col κ:=e2 ▸ c.nrm;rw [e];refine ⟨zaau g1 hk,fun n hn=>?_,?_⟩
 ·obtain ⟨m,hm,rfl⟩:=Qm.mp hn;exact Z9 (by omega) (cκ.nn m hm)
 ·obtain ⟨m,hm,z⟩:=cκ.nz;exact ⟨_,Qm.mpr ⟨m,hm,rfl⟩,Int.mul_ne_zero (by omega) z⟩
def sgD (G:List Nat):List Qi:=G.map fun i => .int ((i:Nat):Int)
def zajl {G:List Nat}{i:Nat}{x:Qi} (h:(sgD G)[i]?=some x) : ∃ s:Nat,G[i]?=some s/\x = .int (s:Nat):=by
 unfold sgD at h;rw [Qc] at h;cases e:G[i]? with
 | none=>rw [e] at h;cases h
 | some s=>rw [e] at h;cases h;exact ⟨s,rfl,rfl⟩
def qvk (G:List Nat):qcs (.list (sgD G))=some ((G.map fun i=>((i:Nat):Int)).map .int):=by
 unfold sgD qcs;rw [Zk];rfl
def qsp {G:List Nat}{s:Nat}:((G.map fun i=>((i:Nat):Int)).any (· == (s:Int)))=true↔s ∈ G:=by
 rw [Ym];constructor
 ·rintro ⟨x,hx,e⟩;obtain ⟨i,hi,rfl⟩:=Qm.mp hx;have:i=s:=by have:=eq_of_beq e;omega
  exact this ▸ hi
 ·intro h;exact ⟨_,Qm.mpr ⟨s,h,rfl⟩,by simp⟩
def qcn (r:List Int) (G:List Nat):Int:=(G.map fun i=>(r[i]?).getD 0).sum
def grD (Gs:List (List Nat)):List Qi:=Gs.map fun G => .list (sgD G)
def qyz {Gs:List (List Nat)}{i:Nat}{x:Qi} (h:(grD Gs)[i]?=some x) : ∃ G,Gs[i]?=some G/\x = .list (sgD G):=by
 unfold grD at h;rw [Qc] at h;cases e:Gs[i]? with
 | none=>rw [e] at h;cases h
 | some s=>rw [e] at h;cases h;exact ⟨s,rfl,rfl⟩
def grs (R:List (List Int)):Nat->List (List Int×List Nat)
 | 0=>[]
 | i+1=>if (qL R i).any (· != 0)=true then qmi (grs R i) (nrm (qL R i)) i else grs R i
def qco (R:List (List Int)) (n i:Nat):List Nat:=((grs R n)[i]?.getD ([],[])).2
def zacy {gs:List (List Int×List Nat)}{k:List Int}{s:Nat}:(qmi gs k s).length<=gs.length+1:=by
 unfold qmi;split
 ·rw [Qk];omega
 ·simp
def qna (R:List (List Int)) : ∀ i,(grs R i).length<=i
 | 0=>Qz _
 | i+1=>by
  have:=qna R i;unfold grs;split
  ·exact Zr zacy (by omega)
  ·omega
def qmb (R:List (List Int)) : ∀ i,∀ x ∈ grs R i,x.2.length<=i
 | 0,x,hx=>by cases hx
 | i+1,x,hx=>by
  unfold grs at hx;split at hx
  ·unfold qmi at hx;split at hx
   ·obtain ⟨y,hy,rfl⟩:=Qm.mp hx;have:=qmb R i y hy;split
    ·simp;omega
    ·omega
   ·rcases Zl.mp hx with z|z
    ·have:=qmb R i x z;omega
    ·rw [Qw.mp z];simp
  ·have:=qmb R i x hx;omega
def qmf (R:List (List Int)) : ∀ i,∀ x ∈ grs R i,∀ s ∈ x.2,s<i
 | 0,x,hx=>by cases hx
 | i+1,x,hx=>by
  unfold grs at hx;split at hx
  ·unfold qmi at hx;split at hx
   ·obtain ⟨y,hy,rfl⟩:=Qm.mp hx;have ih:=qmf R i y hy;split
    ·intro s hs;rcases Zl.mp hs with z|z
     ·have:=ih s z;omega
     ·have:=Qw.mp z;omega
    ·intro s hs;have:=ih s hs;omega
   ·rcases Zl.mp hx with z|z
    ·intro s hs;have:=qmf R i x z s hs;omega
    ·rw [Qw.mp z];intro s hs;have:=Qw.mp hs;omega
  ·intro s hs;have:=qmf R i x hx s hs;omega
def zaab {K:Qe}{F:Hp} (G:List Nat):Iss K F (sgD G) (grL G):=by
 have e:=qjm (K:=K) (H:=F) (G.map fun i=>((i:Nat):Int));unfold sgD grL;rw [Zk,Zk] at e;exact e
def FL (F H:Hp) (ks:List Grp):Hp:=fun b=>if b ∈ ks.map (·.2.1) then H b else F b
section
variable {F H:Hp}{ks:List Grp}
def FL.le (h : ∀ x ∈ ks,F x.2.1=none):Same F (FL F H ks):=fun b o e=>by
 unfold FL;rw [if_neg fun z=>?_]
 ·exact .of e
 ·obtain ⟨x,hx,rfl⟩:=Qm.mp z;rw [h x hx] at e;cases e
def FL.fh (h:Same F H):Same (FL F H ks) H:=fun b o e=>by
 unfold FL at e;split at e
 ·exact .of e
 ·exact h b o e
def FL.at {x:Grp}{o:HO} (hx:x ∈ ks) (h:H x.2.1=some o):FL F H ks x.2.1=some o:=by
 unfold FL;rw [if_pos (Qm.mpr ⟨x,hx,rfl⟩)];exact h
end
def qcw (ds:List Qi) (q:Qi->Prop):Prop := ∃ (d g:Qi) (r:List Int) (G:List Nat),ds=[d,g]/\(qcs d=some (r.map .int)/\qcs g=some (sgD G)/\G.length<=900 /\ ∀ i ∈ G,i<r.length)/\q (.int (qcn r G))
def qkg:FnScope ["row","group"] ["row","group"] (defScope qbx):=sc0
def qju (F:Def K mg "joined_number" qbx ["row","group"]) (T:Txt K mg cs)
 : Ok P w K mg base "joined_number" 1 ["row","group"] (PSp K qcw):=by
  refine F.vok qkg (by rintro ds q ⟨_,_,_,_,h,_⟩;rw [h];rfl) fun f cdv A outer s H E hr ds q h=>?_;obtain ⟨d,g,r,G,rfl,⟨e1,e2,hl,hk⟩,h⟩:=h;refine ⟨_,(qh (qp (qm (qmy rfl) T.sum_ L2.boot_sum (qa (qw (qK (caps:=["row"]) (own:=["sign"]) (ix:=[0]) rfl ⟨rfl,rfl,rfl,rfl,rfl,rfl⟩ (qQ (qc 1)) (fun _ _ _ _=>(qo (i:=1) (show Zn (["row","sign"]:List Str) by decide))) (fun _ _ _ _=>(qx (qc 0) (qc 1))))) qe)))),?_⟩;refine qax e2 (qC ((G.map fun i=>(r[i]?).getD 0).map .int) (by simp [sgD]) (qi (by simp;omega)) (fun e => ∃ s,e=[.val d,s]) ⟨_,rfl⟩ ?_ ⟨_,rfl,h⟩);rintro i x ys e hx hys ⟨s,rfl⟩;obtain ⟨k,hi,rfl⟩:=zajl hx;have hk':=hk k (qer hi);have hx:=Qa hk';refine qyx e1 (qdv (by rw [Qc,hx];rfl)) ⟨qu ?_ hys,_,rfl⟩;rw [Qc,Qc,hi];show some (Zq ((r[k]?).getD 0))=_;rw [hx];rfl
def qcx (ds:List Qi) (q:List Qi->Prop):Prop := ∃ (b:Int) (R:List (List Int)) (g:Qi) (G:List Nat),ds=[qbq b R,g]/\(R.length<=900/\qcs g=some (sgD G)/\G.length<=900 /\ ∀ r ∈ R,∀ i ∈ G,i<r.length)/\q ((jc R G).map .int)
def qkf:FnScope ["glass","group"] ["glass","group"] (defScope qbu):=sc0
def qjr (F:Def K mg "joined_column" qbu ["glass","group"]) (T:Txt K mg cs)
 (O_joined_number:Ok P w K mg base "joined_number" 1 ["row","group"] (PSp K qcw))
 : Ok P w K mg base "joined_column" 2 ["glass","group"] (FSp K qcx):=by
  refine F.vokF qkf (by rintro ds q ⟨_,_,_,_,h,_⟩;rw [h];rfl) fun f cdv A outer s H E hr ds q h=>?_;obtain ⟨b,R,g,G,rfl,⟨hR,eg,hl,hk⟩,h⟩:=h;refine ⟨_,(qh (qjq (qK (caps:=["group"]) (own:=["row"]) (ix:=[1]) rfl ⟨rfl,rfl,rfl,rfl,rfl,rfl⟩ (qQ (qx (qc 0) qf)) (fun _ _ _ _=>(qo (i:=1) (show Zn (["group","row"]:List Str) by decide))) (fun _ _ _ _=>(qy O_joined_number.c hr.m (qa (qc 1) (qa (qc 0) qe))))))),?_⟩;refine ⟨_,rfl,?_⟩;refine qC ((jc R G).map .int) (by simp [qep]) (qi (by simp [qep];omega)) (fun e => ∃ s,e=[.val g,s]) ⟨_,rfl⟩ ?_ ⟨_,rfl,h⟩;rintro i x ys e hx hys ⟨s,rfl⟩;rw [Qc] at hx;cases er:R[i]? with
  | none=>rw [er] at hx;cases hx
  | some r =>
   rw [er] at hx;cases hx;refine ⟨_,_,r,G,rfl,⟨rfl,eg,hl,hk r (qer er)⟩,qu ?_ hys,_,rfl⟩;unfold jc;rw [Qc,Qc,er];rfl
def qus (x:Nat->Int) : ∀ k i,qkh x x k i=false
 | 0,_=>rfl
 | k+1,i=>by unfold qkh;rw [if_pos (by simp)];exact qus x k (i+1)
def qzs {x y z:Nat->Int} : ∀ k i,qkh x y k i=true->qkh y z k i=true->qkh x z k i=true
 | 0,_,h,_=>by cases h
 | k+1,i,h1,h2=>by
  unfold qkh at h1 h2 ⊢;by_cases a:x i=y i
  ·rw [if_pos (by simpa using a)] at h1;by_cases b:y i=z i
   ·rw [if_pos (by simpa using b)] at h2;rw [if_pos (by simpa using a.trans b)];exact qzs k (i+1) h1 h2
   ·rw [if_neg (by simpa using b)] at h2;rw [a,if_neg (by simpa using b)];exact h2
  ·rw [if_neg (by simpa using a)] at h1;have h1:=of_decide_eq_true h1;by_cases b:y i=z i
   ·rw [<- b,if_neg (by simpa using a)];exact decide_eq_true h1
   ·rw [if_neg (by simpa using b)] at h2;have h2:=of_decide_eq_true h2;rw [if_neg (by simp;omega)];exact decide_eq_true (by omega)
def qvh {x y:Nat->Int} : ∀ k i,(∃ j,i<=j/\j<i+k/\x j≠y j)->qkh x y k i=true\/qkh y x k i=true
 | 0,i,⟨j,h1,h2,_⟩=>by omega
 | k+1,i,⟨j,h1,h2,h3⟩=>by
  unfold qkh;by_cases a:x i=y i
  ·rw [if_pos (by simpa using a),if_pos (by simpa using a.symm)];have:j≠i:=fun z=>h3 (z ▸ a);exact qvh k (i+1) ⟨j,by omega,by omega,h3⟩
  ·rw [if_neg (by simpa using a),if_neg (by simpa using Yb a)];by_cases b:x i<y i
   ·exact .inl (decide_eq_true b)
   ·exact .inr (decide_eq_true (by omega))
def qqd {n m:Nat}{kl:Nat->List Int} (hl : ∀ i,i<n->(kl i).length=m) (hd : ∀ i j,i<n->j<n->i≠j->kl i≠kl j):OrdN n (qE kl m):=by
 refine ⟨fun i=>qus _ _ _,fun i j k _ _ _ h1 h2=>qzs _ _ h1 h2,fun i j hi hj ne=>qvh _ _ ?_⟩;refine Jy fun z=>hd i j hi hj ne (Zs fun k=>?_);by_cases hk:k<m
 ·have e:(kl i).getD k 0=(kl j).getD k 0:=Jy fun w=>z ⟨k,Y9 _,by omega,w⟩;have l1:=hl i hi;have l2:=hl j hj;rw [Zb,Zb,Qa (by omega),Qa (by omega)] at e;rw [Qa (by omega),Qa (by omega)];exact congrArg some e
 ·rw [Qt (by rw [hl i hi];omega),Qt (by rw [hl j hj];omega)]
structure GrsOk (R:List (List Int)) (gs:List (List Int×List Nat)):Prop where
 ky:(gs.map (·.1)).Nodup
 ne : ∀ x ∈ gs,x.2≠[]
 me : ∀ x ∈ gs,∀ s ∈ x.2,Col (qL R s)/\nrm (qL R s)=x.1
def GrsOk.put {R:List (List Int)}{gs:List (List Int×List Nat)}{s:Nat} (h:GrsOk R gs) (c:Col (qL R s)):GrsOk R (qmi gs (nrm (qL R s)) s):=by
 unfold qmi;split
 ·have key : ∀ y:List Int×List Nat,(if y.1=nrm (qL R s) then (y.1,y.2++[s]) else y).1=y.1:=fun y=>by split <;> rfl
  refine ⟨?_,fun x hx=>?_,fun x hx=>?_⟩
  ·rw [Zk];have:gs.map ((·.1) ∘ fun x=>if x.1=nrm (qL R s) then (x.1,x.2++[s]) else x)=gs.map (·.1):=Zv fun y _=>key y;rw [this];exact h.ky
  ·obtain ⟨y,hy,rfl⟩:=Qm.mp hx;split
   ·simp
   ·exact h.ne y hy
  ·obtain ⟨y,hy,rfl⟩:=Qm.mp hx;split
   ·rename_i e;intro t ht;rcases Zl.mp ht with z|z
    ·exact h.me y hy t z
    ·rw [Qw.mp z];exact ⟨c,e.symm⟩
   ·exact h.me y hy
 ·rename_i na;have two : ∀ {P:List Int×List Nat->Prop},(∀ x ∈ gs,P x)->P (nrm (qL R s),[s]) -> ∀ x ∈ gs++[(nrm (qL R s),[s])],P x:=fun a b x hx=>by
   rcases Zl.mp hx with z|z
   ·exact a x z
   ·rw [Qw.mp z];exact b
  refine ⟨?_,two h.ne (by simp),two h.me fun t ht=>?_⟩
  ·rw [Zu,Q7,Qaf,Qbc];refine ⟨h.ky,by simp,fun a ha b hb=>?_⟩;obtain ⟨x,hx,rfl⟩:=Qm.mp ha;rw [Qw.mp hb];exact fun z=>na (Ym.mpr ⟨x,hx,by simpa using z⟩)
  ·rw [Qw.mp ht];exact ⟨c,rfl⟩
def zaoc {R:List (List Int)}{s:Nat} (hn : ∀ r ∈ R,∀ x ∈ r,0<=x) (ea:(qL R s).any (· != 0)=true):Col (qL R s):=by
 refine ⟨fun x hx=>?_,?_⟩
 ·rcases qrm hx with rfl|⟨r,hr,hx⟩
  ·exact Qdh _
  ·exact hn r hr x hx
 ·obtain ⟨x,hx,z⟩:=Ym.mp ea;exact ⟨x,hx,by simpa using z⟩
def qjc {R:List (List Int)} (hn : ∀ r ∈ R,∀ x ∈ r,0<=x) : ∀ i,GrsOk R (grs R i)
 | 0=>⟨Qfe,fun x hx=>(by cases hx),fun x hx=>(by cases hx)⟩
 | i+1=>by
  unfold grs;split
  ·rename_i ea;exact (qjc hn i).put (zaoc hn ea)
  ·exact qjc hn i
def zajn {R:List (List Int)} (hn : ∀ r ∈ R,∀ x ∈ r,0<=x) (n:Nat):OrdN (grs R n).length (qE (fun i=>jc R (qco R n i)) R.length):=by
 have h:=qjc hn n;have at_ : ∀ {i:Nat} (hi:i<(grs R n).length),nrm (jc R (qco R n i))=(grs R n)[i].1:=fun {i} hi=>by
  have e:qco R n i=(grs R n)[i].2:=by unfold qco;rw [Qa hi];rfl
  have m:=Za hi;rw [e];exact (qsl (h.ne _ m) (h.me _ m)).1
 refine qqd (fun i _=>qep _ _) fun i j hi hj ne e=>ne ?_;have z:(grs R n)[i].1=(grs R n)[j].1:=by rw [<- at_ hi,<- at_ hj];exact congrArg nrm e
 have:=h.ky;rw [List.nodup_iff_pairwise_ne,List.pairwise_iff_getElem] at this;rcases Nat.lt_trichotomy i j with q|q|q
 ·exact (this i j (by simpa using hi) (by simpa using hj) q (by simpa using z)).elim
 ·exact q
 ·exact (this j i (by simpa using hj) (by simpa using hi) q (by simpa using z.symm)).elim
def qev (ds:List Qi) (q:Qi->Prop):Prop := ∃ (b:Int) (R:List (List Int)) (n:Nat),ds=[qbq b R]/\(Tab b R n/\R≠[]/\R.length<=900/\n<=60/\intBits b<=9000) /\ ∀ p,PmN (grs R n).length p->SrtN (qE (fun i=>jc R (qco R n i)) R.length) p (grs R n).length->q (.list (grD (p.toList.map fun i=>qco R n i)))
def zaqu {b:Int}{R:List (List Int)}{n i:Nat} (hT:Tab b R n) (ea:(qL R i).any (· != 0)=true) (bz:intBits b<=9000):0<(qW 0 (qL R i):Int)/\intBits (qW 0 (qL R i):Int)<=9000:=by
 obtain ⟨x,hx,z⟩:=Ym.mp ea;have z:x≠0:=by simpa using z
 have dv:=qfl (qL R i) 0 x hx;have hz:intBits x<=9000:=by
  rcases qrm hx with rfl|⟨r,hr,hx⟩
  ·exact (z rfl).elim
  ·exact hT.bits bz hr hx
 have g0:qW 0 (qL R i)≠0:=fun e=>z (qqa e x hx);refine ⟨by omega,Y5 ?_ hz⟩;exact Qcp (by omega) (V3.mpr dv)
def SgW (R:List (List Int)) (vg:V) (d:Addr) (F0 H0 Fi:Hp) (n i m:Nat) (σ:St) (H:Hp):Prop:=m+i=n /\ ∃ F ks o2 o3 o4,σ=[some vg,some (.ref d),o2,o3,o4]/\Go F0 H0 F H/\Same Fi F/\GrAt H0 F H d ks/\qid ks=grs R i
def qat:FnScope ["glass","groups","sign","numbers","alone"] ["glass"] (defScope qX):=sc0
def qkc (F:DefT K mg "sorted_groups" qX ["glass"] cs.c0) (T:Txt K mg cs) (KB:K.In base)
 (O_signs:Ok P w K mg base "signs" 1 ["glass"] (PSp K qgx))
 (O_common_divisor:Ok P w K mg base "common_divisor" 2 ["rows"] (PSp K qci))
 (O_divided:Ok P w K mg base "divided" 1 ["row","common"] (qpt K qij))
 (O_column:Ok P w K mg base "column" 1 ["rows","place"] (FSp K qho))
 (O_joined_column:Ok P w K mg base "joined_column" 2 ["glass","group"] (FSp K qcx))
 : Ok P w K mg base "sorted_groups" 4 ["glass"] (qmg [cs.tb] (PSp K qev)):=by
  refine F.ok qat (by rintro vs H Q E ⟨_,F,ds,q,_,i,⟨_,_,_,h,_⟩,_⟩;rw [i.len,h];rfl) fun f A outer s H vs Q E hr h=>?_;obtain ⟨tss,F0,ds,q,sm,hi,⟨b,R,n,rfl,⟨hT,hR,hl,n9,bz⟩,hq⟩,kk⟩:=h;have ts:TbS cs.tb H:=tss _ (by simp);have ho:=zajn hT.nn n;obtain ⟨hu1,hu2,hd2⟩:=hr.sort;refine ⟨_,qej (qjf (i:=1) qat.nd rfl (by first|exact V0 rfl|exact Y6 rfl) zacn) (qej (zagu Qgu rfl (VI.pi (qam T.range_ (qy O_signs.c hr.m (qa (qc 0) qe)))) (qyb (i:=2) qat.nd rfl (by first|exact V0 rfl|exact Y6 rfl) (by first|exact .inl rfl|exact .inr rfl)) (qej (qjf (i:=3) qat.nd rfl (by first|exact V0 rfl|exact Y6 rfl) (VE.pe (qw (qmu O_column.c hr.m (qa (qx (qc 0) qf) (qa (qc 2) qe)))))) (qmr (zahc (VT.pt (qan (qm (zame rfl) T.any_ L2.boot_any (qa (qc 3) qe)))) (qej (qjf (i:=4) qat.nd rfl (by first|exact V0 rfl|exact Y6 rfl) (VN.pe (zall O_divided.c hr.m (qa (qc 3) (qa (qy O_common_divisor.c hr.m (qa (qw (qaw (qa (qc 3) qe))) qe)) qe))))) (qmr (qns
   (qqf (qwb hu1 (pv 1) (pv 4) (zagc qcq) ⟨rfl,rfl,rfl,rfl⟩)
    (pv 2))))) qzp))))
   (qmr (qta (qws (tb:=cs.tb) (c0:=cs.c0) (ig:=1) (iy:=0) (x := "group") (y := "glass") hu2 hr.hd hd2 ts rfl (zaav KB T.tab_h) (zaim KB T.bm_ T.bm_h) rfl T.sorted_ (pv 1)
    ⟨rfl,rfl,rfl,rfl,rfl,by decide,by decide +kernel,qqs (by decide +kernel)⟩ rfl rfl rfl rfl (fun _ _ _ _ _ _=>rfl) (fun q f c s H=>qsy O_joined_column.c (hr.lam _) (qV (qcp (i:=1) rfl (Y6 (Y6 rfl)) (by decide) (by decide)) (qV (qcp (i:=0) rfl (V0 rfl) (by decide) (by decide)) qcq))))))),?_⟩
  obtain ⟨r0,R0,eR⟩:=Zy hR;have l0:r0.length=n:=hT.len r0 (by rw [eR];simp);obtain ⟨vg,rfl,ig⟩:=qiv hi;refine fun d hd=>?_;have g0:Go F0 H F0 (upd H d (.dT [])):=Go.side sm hd;have gr0:GrAt H F0 (upd H d (.dT [])) d []:=⟨ql,qB sm hd,hd,fun x hx=>(by cases hx),fun x hx=>(by cases hx),fun x hx=>(by cases hx),fun x hx=>(by cases hx),Qfe,Qfe⟩
  have hE:EnvOk K ⟨upd H d (.dT []),upd H d (.dT []),F0⟩ F0 (upd H d (.dT [])) [.val (qbq b R),.non,.non,.non,.non] [some vg,some (.ref d),none,none,none] :=
   qsu g0.fh ⟨_,_,rfl,⟨⟨vg,rfl,ig⟩,rfl⟩,_,_,rfl,⟨trivial,rfl⟩,_,_,rfl,⟨trivial,rfl⟩,_,_,rfl,⟨trivial,rfl⟩,_,_,rfl,⟨trivial,rfl⟩,rfl⟩
  refine ⟨⟨upd H d (.dT []),upd H d (.dT []),F0⟩,_,F0,fun ds e=>ds=qym 0 n/\e=[.val (qbq b R),.non,.non,.non,.non],hE,?_,fun ds J F1 H1 e1 I1 s1 hJ q1=>?_⟩
  ·refine ⟨b,r0,R0,by rw [eR],?_⟩;rw [l0];exact ⟨⟨by omega,by omega⟩,rfl,rfl⟩
  obtain ⟨rfl,rfl⟩:=q1;have g1:=g0.trans I1.goOf;refine ⟨SgW R vg d F0 H F1 n,⟨n,by omega,F1,[],none,none,none,rfl,g1,.refl _,gr0.go I1.goOf,rfl⟩,?_⟩;rintro i m σ H2 ⟨him,F2,ks,o2,o3,o4,rfl,g2,s2,gr,es⟩;by_cases hin:i=n
  ·left;subst hin;refine ⟨by have:=hJ.stop H2 (s2.trans g2.fh);rwa [qN] at this,?_⟩;clear hJ I1 s1 g1;have len:ks.length=(grs R i).length:=by rw [<- es];unfold qid;rw [Qk]
   have lenV:((ks.map qlg).map (·.2)).length=(grs R i).length:=by rw [Qk,Qk,len]
   have at_ : ∀ {j:Nat}{x:Grp},ks[j]?=some x->qco R i j=x.2.2:=fun {j x} e=>by
    unfold qco;rw [<- es];unfold qid;rw [Qc,e];rfl
   have inG : ∀ x ∈ ks,x.2.2.length<=i /\ ∀ s ∈ x.2.2,s<i:=fun x hx=>by
    have z:(x.1,x.2.2) ∈ grs R i:=by rw [<- es];exact Qm.mpr ⟨x,hx,rfl⟩
    exact ⟨qmb R i _ z,qmf R i _ z⟩
   have ht0:H cs.tb≠none:=by obtain ⟨ps,e,_⟩:=ts;rw [e];exact fun z=>by cases z
   have tbl : ∀ x ∈ ks,x.2.1≠cs.tb:=fun x hx z=>ht0 (z ▸ gr.nl x hx);refine ⟨d,ks.map qlg,vg,fun j=>jc R (qco R i j),R.length,⟨rfl,rfl,gr.hd,?_⟩,?_,fun j _=>qep _ _,fun H3 go gs=>?_⟩
   ·rw [Qk,len];have:=qna R i;omega
   ·rw [lenV];exact ho
   refine ⟨fun H'=>Same F2 H' /\ ∀ x ∈ ks,H' x.2.1=some (.lst (grL x.2.2)),⟨g2.fh.trans gs,fun x hx=>go.h _ _ (tbl x hx) (gr.hl x hx)⟩,fun j v H4 ev gg=>?_,fun p l H4 hp hs sm4 gg nl4 nl2=>?_⟩
   ·obtain ⟨sF,sL⟩:=gg;rw [Qc,Qc] at ev;cases ek:ks[j]? with
    | none=>rw [ek] at ev;cases ev
    | some x =>
     rw [ek] at ev;cases ev;have xm:=Qj ek;have hx:=inG x xm;refine ⟨vg,rfl,_,rfl,FL F2 H4 ks,[qbq b R,.list (sgD x.2.2)],fun l=>l=(jc R x.2.2).map .int,FL.fh sF,qI ((ig.mono g2.f).mono (FL.le gr.fl)) (qI (qez (SqL.of (FL.at xm (sL x xm))) (zaab _)) qZ),⟨b,R,_,x.2.2,rfl,⟨hl,rfl,by omega,fun r hr s hs=>by rw [hT.len r hr];exact hx.2 s hs⟩,rfl⟩,?_⟩;rintro l a xs F5 H5 g5 na fa ha hx5 rfl;have e5:=hx5.ints_inv;subst e5;refine ⟨g5.h,⟨sF.trans g5.h,fun y hy=>g5.h.at (sL y hy)⟩,a,rfl,?_⟩;show H5 a=some (.lst ((jc R (qco R i j)).map V.int));rw [at_ ek];exact ha
   ·obtain ⟨sF,sL⟩:=gg;have nl0:H l=none:=qB g2.h nl2;rw [lenV] at hp hs;have ltb:cs.tb≠l:=fun z=>ht0 (z ▸ nl0);have fl0:FL F2 H4 ks l=none:=by
     cases e:FL F2 H4 ks l with
     | none=>rfl
     | some o =>
      obtain ⟨_,this⟩:=(FL.fh (ks:=ks) sF).any e;rw [nl4] at this;cases this
    have key : ∀ js:List Nat,(∀ j ∈ js,j<ks.length) -> ∀ ys,Iss K (upd (FL F2 H4 ks) l (.lst ys)) (grD (js.map fun j=>qco R i j)) (js.map fun j=>((ks.map qlg).map (·.2)).getD j .non):=by
     intro js
     induction js with
     | nil=>intro _ _;exact qZ
     | cons j js ih =>
      intro hj ys;obtain ⟨x,ej⟩ : ∃ x,ks[j]?=some x:=⟨_,Qa (hj j (by simp))⟩
      have xm:=Qj ej;have e1:((ks.map qlg).map (·.2)).getD j V.non = .ref x.2.1:=by
       rw [Zb,Qc,Qc,ej];rfl
      have ne:x.2.1≠l:=fun z=>by have:=sL _ xm;rw [z,nl4] at this;cases this
      show Iss K _ (Qgb (sgD (qco R i j))::grD (js.map fun j=>qco R i j)) (((ks.map qlg).map (·.2)).getD j V.non::_);rw [e1,at_ ej];exact qI (qez (SqL.of (by rw [qj ne];exact FL.at xm (sL _ xm))) (zaab _)) (ih (fun k hk=>hj k (Qs _ hk)) ys)
    refine kk (.list (grD (p.toList.map fun j=>qco R i j))) (.ref l) (upd (FL F2 H4 ks) l (.lst (p.toList.map fun j=>((ks.map qlg).map (·.2)).getD j .non))) _ ⟨(g2.f.trans (FL.le gr.fl)).trans (qbn fl0),((g2.h.trans gs).trans sm4).trans (qbn nl4),fun c o e=>?_,fun c o e=>?_⟩ (qez (SqL.of ql) (key _ (fun j hj=>?_) _)) (hq p hp hs)
    ·by_cases z:c=l
     ·subst z;rw [ql] at e;rw [ql];exact .of e
     ·rw [qj z] at e;rw [qj z];exact FL.fh sF c o e
    ·by_cases z:c=l
     ·rw [z];exact .inr nl0
     ·rw [qj z] at e;unfold FL at e;split at e
      ·rename_i zz;obtain ⟨x,hx,rfl⟩:=Qm.mp zz;exact .inr (gr.nl x hx)
      ·exact g2.new c o e
    ·rw [len];exact Q6.mp (hp.p.mem_iff.mp hj)
  have hin':i<n:=by omega
  right;refine ⟨hJ.go i H2 (s2.trans g2.fh) (by rw [qN];exact hin'),fun σ' H' => ∃ m',m'<m/\SgW R vg d F0 H F1 n (i+1) m' σ' H',fun _ _ z=>z,fun x H3 hy=>?_⟩;obtain ⟨dx,F3,ex,g3,ix⟩:=hJ.yld i H2 x H3 F2 s2 g2.fh (by rw [qN];exact hin') hy;obtain ⟨_,rfl⟩:=qct ex;rw [Qcf] at ix;obtain rfl:=ix.int_inv;have gr3:=gr.go g3;have g23:=g2.trans g3;have s3:=s2.trans g3.f;clear g2 g3 gr s2 hy;have hE:EnvOk K ⟨H3,H3,F3⟩ F3 H3 [.val (qbq b R),.non,.val (.int i),.non,.non] [some vg,some (.ref d),some (.int i),o3,o4] :=
   qsu g23.fh ⟨_,_,rfl,⟨⟨vg,rfl,ig.mono g23.f⟩,rfl⟩,_,_,rfl,⟨trivial,rfl⟩,_,_,rfl,⟨⟨_,rfl,qae _⟩,rfl⟩,_,_,rfl,⟨trivial,rfl⟩,_,_,rfl,⟨trivial,rfl⟩,rfl⟩
  refine ⟨⟨H3,H3,F3⟩,_,F3,fun dd e=>dd = .list ((qL R i).map .int)/\e=[.val (qbq b R),.non,.val (.int i),.non,.non],hE,?_,fun dd v3 F4 H4 e4 I4 s4 i4 q4=>?_⟩
  ·exact ⟨_,rfl,_,R,i,rfl,⟨qkr _,hl,fun r hr=>by rw [hT.len r hr];exact hin'⟩,rfl,rfl⟩
  obtain ⟨rfl,rfl⟩:=q4;have g4:=I4.goOf;have gr4:=gr3.go g4;have g24:=g23.trans g4;have s24:=s3.trans g4.f;clear g23 gr3 s3 hE I4 g4;have hE:EnvOk K ⟨H4,H4,F4⟩ F4 H4 [.val (qbq b R),.non,.val (.int i),.val (.list ((qL R i).map .int)),.non] [some vg,some (.ref d),some (.int i),some v3,o4] :=
   qsu g24.fh ⟨_,_,rfl,⟨⟨vg,rfl,ig.mono g24.f⟩,rfl⟩,_,_,rfl,⟨trivial,rfl⟩,_,_,rfl,⟨⟨_,rfl,qae _⟩,rfl⟩,_,_,rfl,⟨⟨_,rfl,i4⟩,rfl⟩,_,_,rfl,⟨trivial,rfl⟩,rfl⟩
  refine ⟨⟨H4,H4,F4⟩,_,F4,fun bb e=>bb=(qL R i).any (· != 0)/\e=[.val (qbq b R),.non,.val (.int i),.val (.list ((qL R i).map .int)),.non],hE,?_,fun bb F5 H5 e5 I5 s5 q5=>?_⟩
  ·exact ⟨_,rfl,rfl,rfl⟩
  obtain ⟨rfl,rfl⟩:=q5;have g5:=I5.goOf;have gr5:=gr4.go g5;have g25:=g24.trans g5;have s25:=s24.trans g5.f;have i5:=i4.mono g5.f;clear g24 gr4 s24 hE I5 g5 i4;cases ea:(qL R i).any (· != 0) with
  | false =>
   refine ⟨m-1,by omega,by omega,F5,ks,_,_,_,rfl,g25,s25,gr5,?_⟩;rw [es];show _=if (qL R i).any (· != 0)=true then _ else _
   rw [ea];rfl
  | true =>
   obtain ⟨gp,gz⟩:=zaqu hT ea bz;have hE:EnvOk K ⟨H5,H5,F5⟩ F5 H5 [.val (qbq b R),.non,.val (.int i),.val (.list ((qL R i).map .int)),.non] [some vg,some (.ref d),some (.int i),some v3,o4] :=
    qsu g25.fh ⟨_,_,rfl,⟨⟨vg,rfl,ig.mono g25.f⟩,rfl⟩,_,_,rfl,⟨trivial,rfl⟩,_,_,rfl,⟨⟨_,rfl,qae _⟩,rfl⟩,_,_,rfl,⟨⟨_,rfl,i5⟩,rfl⟩,_,_,rfl,⟨trivial,rfl⟩,rfl⟩
   refine ⟨⟨H5,H5,F5⟩,_,F5,fun dd e=>dd=qim (nrm (qL R i))/\e=[.val (qbq b R),.non,.val (.int i),.val (.list ((qL R i).map .int)),.non],hE,?_,fun dd v4 F6 H6 e6 I6 s6 i6 q6=>?_⟩
   ·have eg:qR [qL R i]=qW 0 (qL R i):=rfl;refine ⟨by simp [Zf],_,[qL R i],rfl,qpx [qL R i],?_⟩;exact ⟨_,qL R i,_,rfl,⟨rfl,by rw [qsg];exact hl,gp,gz⟩,rfl,rfl⟩
   obtain ⟨rfl,rfl⟩:=q6;have g6:=I6.goOf;have gr6:=gr5.go g6;have g26:=g25.trans g6;unfold qim IsN at i6;obtain ⟨b4,xs4,rfl,hb4,hx4⟩:=i6;have hb4:=qge.at hb4;have ex4:xs4=(nrm (qL R i)).map V.int:=(IssN.is qge hx4).ints_inv;subst ex4;refine zals (s:=i) g26 gr6 rfl rfl rfl hb4 ?_ ?_ fun p H' g' gr'=>⟨m-1,by omega,by omega,F6,_,_,_,_,rfl,g',s25.trans g6.f,gr',?_⟩
   ·have:(qid ks).length=ks.length:=by unfold qid;rw [Qk]
    have:=qna R i;rw [<- es] at this;omega
   ·intro x hx;have:(x.1,x.2.2) ∈ grs R i:=by rw [<- es];exact Qm.mpr ⟨x,hx,rfl⟩
    have:=qmb R i _ this;show x.2.2.length<900;have:x.2.2.length<=i:=this;omega
   ·rw [zabq,es];show _=if (qL R i).any (· != 0)=true then _ else _
    rw [ea];rfl
def qek (ds:List Qi) (q:Qi->Prop):Prop := ∃ (d:Qi) (r:List Int) (Gs:List (List Nat)),ds=[d,.list (grD Gs)]/\(qcs d=some (r.map .int)/\Gs.length<=900 /\ ∀ G ∈ Gs,G.length<=900 /\ ∀ i ∈ G,i<r.length)/\q (.list ((Gs.map fun G=>qcn r G).map .int))
def qir:FnScope ["row","groups"] ["row","groups"] (defScope qbl):=sc0
def qiq (F:Def K mg "joined_numbers" qbl ["row","groups"]) (T:Txt K mg cs)
 (O_joined_number:Ok P w K mg base "joined_number" 1 ["row","group"] (PSp K qcw))
 : Ok P w K mg base "joined_numbers" 2 ["row","groups"] (PSp K qek):=by
  refine F.vok qir (by rintro ds q ⟨_,_,_,h,_⟩;rw [h];rfl) fun f cdv A outer s H E hr ds q h=>?_;obtain ⟨d,r,Gs,rfl,⟨e1,hl,hk⟩,h⟩:=h;refine ⟨_,(qh (qp (qw (qK (caps:=["row"]) (own:=["group"]) (ix:=[0]) rfl ⟨rfl,rfl,rfl,rfl,rfl,rfl⟩ (qQ (qc 1)) (fun _ _ _ _=>(qo (i:=1) (show Zn (["row","group"]:List Str) by decide))) (fun _ _ _ _=>(qy O_joined_number.c hr.m (qa (qc 0) (qa (qc 1) qe)))))))),?_⟩;refine qC ((Gs.map fun G=>qcn r G).map .int) (by simp [grD]) (qi (by simp;omega)) (fun e => ∃ s,e=[.val d,s]) ⟨_,rfl⟩ ?_ h;rintro i x ys e hx hys ⟨s,rfl⟩;unfold grD at hx;rw [Qc] at hx;cases er:Gs[i]? with
  | none=>rw [er] at hx;cases hx
  | some G =>
   rw [er] at hx;cases hx;refine ⟨_,_,r,G,rfl,⟨e1,rfl,(hk G (qer er)).1,(hk G (qer er)).2⟩,qu ?_ hys,_,rfl⟩;rw [Qc,Qc,er];rfl
def qbj (Gs:List (List Nat)) (s:Nat):Nat:=(Gs.findIdx? fun G=>G.contains s).getD 0
def qwf {Gs:List (List Nat)}{s i:Nat}{G:List Nat} (e:Gs[i]?=some G) (h:s ∈ G) (hI : ∀ j (G':List Nat),j<i->Gs[j]?=some G'->s ∉ G'):qbj Gs s=i:=by
 unfold qbj;have:Gs.findIdx? (fun G=>G.contains s)=some i:=by
  rw [Qcq];obtain ⟨hi,rfl⟩:=Qg.mp e;exact ⟨hi,by simpa using h,fun j hj=>by simpa using hI j _ hj (Qa (by omega))⟩
 rw [this];rfl
def qiu {Gs:List (List Nat)}{s:Nat} (hI : ∀ G ∈ Gs,s ∉ G):qbj Gs s=0:=by
 unfold qbj;have:Gs.findIdx? (fun G=>G.contains s)=none:=by
  rw [Qfh];intro G hG;simpa using hI G hG
 rw [this];rfl
def qlk (ds:List Qi) (q:Qi->Prop):Prop := ∃ (s:Nat) (Gs:List (List Nat)),ds=[.int s,.list (grD Gs)]/\q (.int (qbj Gs s:Nat))
def qgr:FnScope ["sign","groups","place","group"] ["sign","groups"] (defScope qfp):=sc0
def qtg (F:Def K mg "place_of" qfp ["sign","groups"]) (T:Txt K mg cs)
 : Ok P w K mg base "place_of" 1 ["sign","groups"] (PSp K qlk):=by
  refine F.vok qgr (by rintro ds q ⟨_,_,h,_⟩;rw [h];rfl) fun f cdv A outer s H E hr ds q h=>?_;obtain ⟨s,Gs,rfl,h⟩:=h;refine ⟨_,(qg (qef rfl (zajy T.enumerate_ (qc 1)) (qje (n:=2) rfl (qar (qo (i:=2) qgr.nd) (qar (qo (i:=3) qgr.nd) qgh))) (qh (qY (qA zaks (qc 0) (qc 3)) (qh (qp (qc 2))) qr)))
   (qh (qp qf))),?_⟩
  refine ⟨fun i e => ∃ t1 t2,e=[.val (.int s),.val (.list (grD Gs)),t1,t2] /\ ∀ j (G:List Nat),j<i->Gs[j]?=some G->s ∉ G,⟨_,_,rfl,fun j y hj=>by omega⟩,?_,?_⟩
  ·rintro i x e hx ⟨t1,t2,rfl,hI⟩;obtain ⟨x,hx',rfl⟩:=zaar hx;obtain ⟨G,hG,rfl⟩:=qyz hx';refine ⟨rfl,rfl,_,_,rfl,qvk G,?_⟩;cases a:(G.map fun i=>((i:Nat):Int)).any (· == (s:Int)) with
   | true =>
    have hm:=qsp.mp a;rw [qwf hG hm hI] at h;exact h
   | false =>
    refine ⟨_,_,rfl,fun j y hj hy=>?_⟩;by_cases e:j=i
    ·subst e;rw [hG] at hy;cases hy;exact fun m=>by rw [qsp.mpr m] at a;cases a
    ·exact hI j y (by omega) hy
  ·rintro e ⟨t1,t2,rfl,hI⟩;rw [qhd,grD,Qk] at hI;rw [qiu fun G hG=>?_] at h
   ·exact h
   ·obtain ⟨j,hj,rfl⟩:=List.mem_iff_getElem.mp hG;exact hI j _ hj (Qa hj)
def zamj:Qi->Bool
 | .int _=>true
 | _=>false
def qdm:DC
 | [d],q=>q (.bool (zamj d))
 | _,_=>False
def qts:FnScope ["thing"] ["thing"] (defScope qfz):=sc0
def qto (F:Def K mg "is_whole" qfz ["thing"]) (T:Txt K mg cs)
 : Ok P w K mg base "is_whole" 1 ["thing"] (PSp K qdm):=by
  refine F.vok qts (fun ds q h=>by unfold qdm at h;split at h;all_goals first|rfl|exact h.elim) fun f cdv A outer s H E hr ds q h=>?_
  match ds,h with
  | [d],h =>
  refine ⟨_,(qh (qp (qor (qja T.isinstance_ T.int_ L2.boot_int (qc 0)) (qos (qxk (qja T.isinstance_ T.bool_ L2.boot_bool (qc 0))))))),?_⟩;cases d <;> exact h
def qeg:DC
 | [.int t,.int b],q=>(b≠0/\intBits b<=9000)/\q (dSh (shT t b) (shB t b))
 | _,_=>False
def qil:FnScope ["top","bottom","common"] ["top","bottom"] (defScope qhh):=sc0
def qvv (F:Def K mg "reduced" qhh ["top","bottom"]) (T:Txt K mg cs)
 (O_divisor:Ok P w K mg base "divisor" 1 ["one","other"] (PSp K qdi))
 : Ok P w K mg base "reduced" 2 ["top","bottom"] (PSp K qeg):=by
  refine F.vok qil (fun ds q h=>by unfold qeg at h;split at h;all_goals first|rfl|exact h.elim) fun f cdv A outer s H E hr ds q h=>?_
  match ds,h with
  | [.int t,.int b],⟨⟨hb,hz⟩,h⟩ =>
  refine ⟨_,(qg (qq (i:=2) qil.nd (qy O_divisor.c hr.m (qa (qc 0) (qa (qc 1) qe))))
   (qew (qY (qA o_lt (qc 1) qf) (qh (qq (i:=2) qil.nd (zamk (qc 2)))) qr)
   (qh (qp (qT (qa (qt zagr (qc 0) (qc 2)) (qa (qt zagr (qc 1) (qc 2)) qe))))))),?_⟩
  have hc:=zalj (t:=t) hb;have hcz:=zaia (t:=t) hb hz;refine ⟨fun e=>e=[.val (.int t),.val (.int b),.val (.int (cm t b))],?_,?_⟩
  ·refine qey (fun hn=>?_) (fun hn=>?_)
   ·show _=_;unfold cm;rw [if_pos hn];rfl
   ·show _=_;unfold cm;rw [if_neg hn];rfl
  ·rintro e rfl;exact ⟨⟨hc,hcz⟩,⟨hc,hcz⟩,szl,h⟩
def qfe:DC
 | [.int t,.int b],q=>(b≠0/\intBits b<=9000)/\q (dSh (shT t b) (shB t b))
 | _,_=>False
def zaeu:FnScope ["top","bottom"] ["top","bottom"] (defScope qng):=sc0
def zadf (F:Def K mg "share" qng ["top","bottom"]) (T:Txt K mg cs)
 (O_is_whole:Ok P w K mg base "is_whole" 1 ["thing"] (PSp K qdm))
 (O_reduced:Ok P w K mg base "reduced" 2 ["top","bottom"] (PSp K qeg))
 : Ok P w K mg base "share" 3 ["top","bottom"] (PSp K qfe):=by
  refine F.vok zaeu (fun ds q h=>by unfold qfe at h;split at h;all_goals first|rfl|exact h.elim) fun f cdv A outer s H E hr ds q h=>?_
  match ds,h with
  | [.int t,.int b],h =>
  refine ⟨_,(qg (qY (VW.pt (qei (qap (qan (qy O_is_whole.c hr.m (qa (qc 0) qe)))) (qei (qap (qan (qy O_is_whole.c hr.m (qa (qc 1) qe)))) (qdw (qA (qgw hr.units) (qc 1) qf))))) qdj qr)
   (qh (qp (qy O_reduced.c hr.m (qa (qc 0) (qa (qc 1) qe)))))),?_⟩
  exact ⟨rfl,rfl,qcr (fun z=>(h.1.1 z).elim) (fun _=>h)⟩
def qG (R:List (List Int)) (G:List Nat) (k:Nat):Int:=if k ∈ G then (qL R k).sum else 0
def qJ (R:List (List Int)) (G:List Nat) (n:Nat):List (Int×Int):=(Q1 n).map fun k=>(shT (qG R G k) (jc R G).sum,shB (qG R G k) (jc R G).sum)
def qkx (ds:List Qi) (q:Qi->Prop):Prop := ∃ (b:Int) (R:List (List Int)) (n:Nat) (G:List Nat),ds=[.list (sgD G),qbq b R]/\((∀ r ∈ R,r.length=n)/\R≠[]/\R.length<=900/\n<=900/\G.length<=900/\(∀ i ∈ G,i<n)/\(jc R G).sum≠0/\intBits (jc R G).sum<=9000)/\q (.list ((qJ R G n).map dS))
def qkt:FnScope ["group","glass","whole"] ["group","glass"] (defScope qgd):=sc0
def qtn (F:Def K mg "parts_of" qgd ["group","glass"]) (T:Txt K mg cs)
 (O_signs:Ok P w K mg base "signs" 1 ["glass"] (PSp K qgx))
 (O_column:Ok P w K mg base "column" 1 ["rows","place"] (FSp K qho))
 (O_joined_column:Ok P w K mg base "joined_column" 2 ["glass","group"] (FSp K qcx))
 (O_share:Ok P w K mg base "share" 3 ["top","bottom"] (PSp K qfe))
 : Ok P w K mg base "parts_of" 4 ["group","glass"] (PSp K qkx):=by
  refine F.vok qkt (by rintro ds q ⟨_,_,_,_,h,_⟩;rw [h];rfl) fun f cdv A outer s H E hr ds q h=>?_;obtain ⟨b,R,n,G,rfl,⟨hn,hR,hl,n9,g9,hG,w0,wz⟩,h⟩:=h;refine ⟨_,(qg (qq (i:=2) qkt.nd (qm (qmy rfl) T.sum_ L2.boot_sum (qa (qw (qmu O_joined_column.c hr.m (qa (qc 1) (qa (qc 0) qe)))) qe)))
   (qh (qp (qw (qK (caps:=["group","glass","whole"]) (own:=["sign"]) (ix:=[0,1,2]) rfl ⟨rfl,rfl,rfl,rfl,rfl,rfl⟩ (qam T.range_ (qy O_signs.c hr.m (qa (qc 1) qe))) (fun _ _ _ _=>(qo (i:=3) (show Zn (["group","glass","whole","sign"]:List Str) by decide))) (fun _ _ _ _=>(qy O_share.c hr.m (qa (qua (qA zaks (qc 3) (qc 0)) (qm (qmy rfl) T.sum_ L2.boot_sum (qa (qw (qmu O_column.c hr.m (qa (qx (qc 1) qf) (qa (qc 3) qe)))) qe)) qf) (qa (qc 2) qe))))))))),?_⟩
  obtain ⟨r0,R0,rfl⟩:=Zy hR;have l0:r0.length=n:=hn r0 (by simp);refine ⟨b,_,_,G,rfl,⟨hl,rfl,g9,fun r hr i hi=>by rw [hn r hr];exact hG i hi⟩,?_⟩;refine ⟨_,rfl,?_⟩;refine ⟨b,r0,R0,rfl,?_⟩;rw [l0];refine ⟨⟨by omega,by omega⟩,qC ((qJ (r0::R0) G n).map dS) (by simp [qN,qJ]) (qi (by simp [qJ];omega)) (fun e => ∃ s,e=[.val (.list (sgD G)),.val (qbq b (r0::R0)),.val (.int (jc (r0::R0) G).sum),s]) ⟨_,rfl⟩ ?_ h⟩;rintro i x ys e hx hys ⟨s,rfl⟩;obtain ⟨hi,rfl⟩:=qct hx;rw [Qcf];have hi':i<n:=by omega
  have g:((qJ (r0::R0) G n).map dS)[i]?=some (dS (shT (qG (r0::R0) G i) (jc (r0::R0) G).sum,shB (qG (r0::R0) G i) (jc (r0::R0) G).sum)):=by
   unfold qJ;rw [Qc,Qc,Q2 hi'];rfl
  refine ⟨_,_,rfl,qvk G,?_⟩;cases a:(G.map fun k=>((k:Nat):Int)).any (· == (i:Int)) with
  | true =>
   have hm:=qsp.mp a;have e:qG (r0::R0) G i=(qL (r0::R0) i).sum:=if_pos hm;rw [e] at g;exact ⟨_,rfl,_,_,i,rfl,⟨qkr _,hl,fun r hr=>by rw [hn r hr];exact hi'⟩,_,rfl,⟨w0,wz⟩,qu g hys,_,rfl⟩
  | false =>
   have e:qG (r0::R0) G i=0:=if_neg fun m=>by rw [qsp.mpr m] at a;cases a
   rw [e] at g;exact ⟨⟨w0,wz⟩,qu g hys,_,rfl⟩
def zaan (r:List Int) (G:List Nat) (s:Nat):qcn r (G++[s])=qcn r G+(r[s]?).getD 0:=by
 unfold qcn;rw [Zu,Yd];simp
def qyh (r:List Int) (k:List Int) (s:Nat) : ∀ gs:List (List Int×List Nat),(gs.map (·.1)).Nodup->(gs.any fun x=>decide (x.1=k))=true->((gs.map fun x=>if x.1=k then (x.1,x.2++[s]) else x).map fun x=>qcn r x.2).sum=(gs.map fun x=>qcn r x.2).sum+(r[s]?).getD 0
 | [],_,h=>by cases h
 | x::gs,hn,h=>by
  rw [Q7,Jj] at hn;rw [Q7,Q7,Q5,Q7,Q5];by_cases e:x.1=k
  ·have rest:gs.map (fun x=>if x.1=k then (x.1,x.2++[s]) else x)=gs.map id:=Zv fun y hy=>if_neg fun z=>hn.1 (Qm.mpr ⟨y,hy,by rw [z,e]⟩);rw [rest,List.map_id,if_pos e];show qcn r (x.2++[s])+_=_;rw [zaan];omega
  ·rw [Qcl,decide_eq_false e,Qmf] at h;rw [qyh r k s gs hn.2 h,if_neg e];omega
def zael {R:List (List Int)}{gs:List (List Int×List Nat)} (h:GrsOk R gs) (r k:List Int) (s:Nat):((qmi gs k s).map fun x=>qcn r x.2).sum=(gs.map fun x=>qcn r x.2).sum+(r[s]?).getD 0:=by
 unfold qmi;split
 ·rename_i ha;exact qyh r k s gs h.ky ha
 ·rw [Zu,Yd];simp [qcn]
def zadp (r:List Int) (i:Nat):(r.take (i+1)).sum=(r.take i).sum+(r[i]?).getD 0:=by
 rw [Vd,Yd];cases r[i]? <;> simp
def qyt {R:List (List Int)} (hn : ∀ r ∈ R,∀ x ∈ r,0<=x) {r:List Int} (hr:r ∈ R) : ∀ i,((grs R i).map fun x=>qcn r x.2).sum=(r.take i).sum
 | 0=>by simp [grs]
 | i+1=>by
  rw [zadp,<- qyt hn hr i];show ((if (qL R i).any (· != 0)=true then qmi (grs R i) (nrm (qL R i)) i else grs R i).map fun x=>qcn r x.2).sum=_;split
  ·exact zael (qjc hn i) r _ i
  ·rename_i ea;have:(r[i]?).getD 0=0:=Jy fun z=>ea (Ym.mpr ⟨_,by unfold qL;exact Qm.mpr ⟨r,hr,rfl⟩,by simpa using z⟩);omega
def qxo {α:Type}{n:Nat}{p:Array Nat} (h:PmN n p) (f:Nat->α):(p.toList.map f).Perm ((Q1 n).map f):=h.p.map f
def qqp (R:List (List Int)) (n:Nat):(Q1 (grs R n).length).map (fun i=>qco R n i)=(grs R n).map (·.2):=by
 refine Zs fun i=>?_;by_cases hi:i<(grs R n).length
 ·rw [Qc,Q2 hi,Qc,Qa hi];show some (qco R n i)=some _;unfold qco;rw [Qa hi];rfl
 ·rw [Qt (by simp;omega),Qt (by simp;omega)]
structure GsOk (R:List (List Int)) (n:Nat) (Gs:List (List Nat)):Prop where
 len:Gs.length<=n
 ne : ∀ G ∈ Gs,G≠[]
 le : ∀ G ∈ Gs,G.length<=n
 lt : ∀ G ∈ Gs,∀ s ∈ G,s<n
 co : ∀ G ∈ Gs,Col (jc R G)
 sum : ∀ r ∈ R,r.length=n->(Gs.map fun G=>qcn r G).sum=r.sum
def zaku {R:List (List Int)} (hn : ∀ r ∈ R,∀ x ∈ r,0<=x) {n:Nat}{p:Array Nat} (hp:PmN (grs R n).length p):GsOk R n (p.toList.map fun i=>qco R n i):=by
 have pm:=qxo hp fun i=>qco R n i;rw [qqp] at pm;have h:=qjc hn n;have mem : ∀ G ∈ p.toList.map (fun i=>qco R n i),∃ x ∈ grs R n,x.2=G:=fun G hG=>Qm.mp (pm.mem_iff.mp hG);refine ⟨?_,fun G hG=>?_,fun G hG=>?_,fun G hG=>?_,fun G hG=>?_,fun r hr hl=>?_⟩
 ·rw [pm.length_eq,Qk];exact qna R n
 ·obtain ⟨x,hx,rfl⟩:=mem G hG;exact h.ne x hx
 ·obtain ⟨x,hx,rfl⟩:=mem G hG;exact qmb R n x hx
 ·obtain ⟨x,hx,rfl⟩:=mem G hG;exact qmf R n x hx
 ·obtain ⟨x,hx,rfl⟩:=mem G hG;exact (qsl (h.ne x hx) (h.me x hx)).2
 ·rw [qvi (pm.map fun G=>qcn r G),Zk];have e:=qyt hn hr n;rw [<- hl,Yt] at e;rw [<- hl];exact e
def qdl (Gs:List (List Nat)) (r:List Int):List Int:=Gs.map fun G=>qcn r G
def GrsOf (R:List (List Int)) (n:Nat) (Gs:List (List Nat)):Prop := ∃ p:Array Nat,PmN (grs R n).length p/\SrtN (qE (fun i=>jc R (qco R n i)) R.length) p (grs R n).length/\Gs=p.toList.map fun i=>qco R n i
def qxh (b:Int) (R:List (List Int)) (Gs:List (List Nat)):Qi:=qbq (b/qR (R.map (qdl Gs))) (qbe (R.map (qdl Gs)) (qR (R.map (qdl Gs))))
def zaho (n:Nat) (Gs:List (List Nat)):Qi:=qbq 1 ((Q1 n).map fun s=>qhv (qbj Gs s) Gs.length)
def qvj (ds:List Qi) (q:Qi->Prop):Prop := ∃ (b:Int) (R:List (List Int)) (n:Nat),ds=[qbq b R]/\(Tab b R n/\R≠[]/\R.length<=12/\1<=n/\n<=12/\intBits b<=200) /\ ∀ Gs B,GrsOf R n Gs->LcmB (Gs.map fun G=>qJ R G n) B->q (.tuple [qxh b R Gs,zaho n Gs,qbq B ((Gs.map fun G=>qJ R G n).map (qP B))])
def qsd {r:List Int} (h : ∀ x ∈ r,0<=x) : ∀ G:List Nat,0<=qcn r G
 | []=>by simp [qcn]
 | i::G=>by
  have e:qcn r (i::G)=(r[i]?).getD 0+qcn r G:=by unfold qcn;rw [Q7,Q5]
  have:=qsd h G;have:0<=(r[i]?).getD 0:=by
   cases q:r[i]? with
   | none=>exact Qdh _
   | some x=>exact h x (Qj q)
  omega
def jTab {b:Int}{R:List (List Int)}{n:Nat}{Gs:List (List Nat)} (hT:Tab b R n) (g:GsOk R n Gs):Tab b (R.map (qdl Gs)) Gs.length:=by
 refine ⟨hT.pos,fun r hr=>?_,fun r hr x hx=>?_,fun r hr=>?_⟩
 ·obtain ⟨r0,_,rfl⟩:=Qm.mp hr;unfold qdl;rw [Qk]
 ·obtain ⟨r0,h0,rfl⟩:=Qm.mp hr;obtain ⟨G,_,rfl⟩:=Qm.mp hx;exact qsd (hT.nn r0 h0) G
 ·obtain ⟨r0,h0,rfl⟩:=Qm.mp hr;exact (g.sum r0 h0 (hT.len r0 h0)).trans (hT.sum r0 h0)
def qme {b:Int}{R:List (List Int)}{n:Nat}{Gs:List (List Nat)} (hT:Tab b R n) (g:GsOk R n Gs) {G:List Nat} (hG:G ∈ Gs):0<(jc R G).sum/\(jc R G).sum<=b*R.length:=by
 have c:=g.co G hG;constructor
 ·obtain ⟨x,hx,z⟩:=c.nz;have:=c.nn x hx;have:=qcz c.nn hx;omega
 ·have key : ∀ R':List (List Int),(∀ r ∈ R',r ∈ R)->(jc R' G).sum<=b*R'.length:=by
   intro R'
   induction R' with
   | nil=>intro _;simp [jc]
   | cons r R' ih =>
    intro h;have h1:qcn r G<=b:=by
     have hr:=h r (by simp);have e:=(g.sum r hr (hT.len r hr)).trans (hT.sum r hr);rw [<- e];exact qcz (r:=Gs.map fun G=>qcn r G) (fun x hx=>by obtain ⟨G',_,rfl⟩:=Qm.mp hx;exact qsd (hT.nn r hr) G') (Qm.mpr ⟨G,hG,rfl⟩)
    have h2:=ih fun r hr=>h r (Qs _ hr);have e:(jc (r::R') G).sum=qcn r G+(jc R' G).sum:=by unfold jc;rw [Q7,Q5];rfl
    rw [e,Zp]
    push_cast
    rw [Qdg,Qbx];omega
  exact key R fun r hr=>hr
def qxw : ∀ (ws:List Int),(∀ w ∈ ws,0<w/\w<=2^204)->0<ws.foldr (· * ·) 1/\(ws.foldr (· * ·) 1).natAbs<=(2^204)^ws.length /\ ∀ w ∈ ws,w∣ws.foldr (· * ·) 1
 | [],_=>⟨by decide,by decide,fun w hw=>by cases hw⟩
 | w::ws,h=>by
  obtain ⟨a1,a2,a3⟩:=qxw ws fun x hx=>h x (Qs _ hx);obtain ⟨w0,w1⟩:=h w (by simp);rw [Qlm];refine ⟨Z5 w0 a1,?_,fun x hx=>?_⟩
  ·rw [Qia,Zp,Nat.pow_succ,Qkc];exact Qlw a2 (by omega)
  ·rcases Q3.mp hx with rfl|z
   ·exact Qfr _ _
   ·exact Jc (a3 x z) (Qbt _ _)
def zagp {b:Int}{R:List (List Int)}{n:Nat} (hT:Tab b R n) (G:List Nat) (k:Nat):0<=qG R G k/\qG R G k<=b*R.length:=by
 have b0:=hT.pos;have p:0<=b*(R.length:Int):=Z9 (by omega) (by omega);unfold qG;split
 ·have key : ∀ R':List (List Int),(∀ r ∈ R',r ∈ R)->0<=(qL R' k).sum/\(qL R' k).sum<=b*R'.length:=by
   intro R'
   induction R' with
   | nil=>intro _;simp [qL]
   | cons r R' ih =>
    intro h;have hr:=h r (by simp);have h1:0<=(r[k]?).getD 0/\(r[k]?).getD 0<=b:=by
     cases q:r[k]? with
     | none=>exact ⟨Qdh _,by show (0:Int)<=b;omega⟩
     | some x =>
      have xm:=Qj q;refine ⟨hT.nn r hr x xm,?_⟩;rw [<- hT.sum r hr];exact qcz (hT.nn r hr) xm
    have h2:=ih fun r hr=>h r (Qs _ hr);have e:(qL (r::R') k).sum=(r[k]?).getD 0+(qL R' k).sum:=by unfold qL;rw [Q7,Q5]
    rw [e,Zp]
    push_cast
    rw [Qdg,Qbx];omega
  exact key R fun r hr=>hr
 ·exact ⟨Qdh _,p⟩
def qha:FnScope ["glass","groups","form","there","back"] ["glass"] (defScope qnu):=sc0
def zaey (F:Def K mg "least" qnu ["glass"]) (T:Txt K mg cs)
 (O_table_of_shares:Ok P w K mg base "table_of_shares" 2 ["rows"] (PSp K qac))
 (O_signs:Ok P w K mg base "signs" 1 ["glass"] (PSp K qgx))
 (O_lowest_table:Ok P w K mg base "lowest_table" 3 ["bottom","rows"] (PSp K qfw))
 (O_one_sign:Ok P w K mg base "one_sign" 1 ["place","many"] (PSp K qlp))
 (O_sorted_groups:Ok P w K mg base "sorted_groups" 4 ["glass"] (qmg [cs.tb] (PSp K qev)))
 (O_joined_numbers:Ok P w K mg base "joined_numbers" 2 ["row","groups"] (PSp K qek))
 (O_place_of:Ok P w K mg base "place_of" 1 ["sign","groups"] (PSp K qlk))
 (O_parts_of:Ok P w K mg base "parts_of" 4 ["group","glass"] (PSp K qkx))
 : Ok P w K mg base "least" 5 ["glass"] (qmg [cs.tb] (PSp K qvj)):=by
  refine F.tvok qha (by rintro ds q ⟨_,_,_,h,_⟩;rw [h];rfl) fun f cdv A outer s H E hr hTb ds q h=>?_;obtain ⟨b,R,n,rfl,⟨hT,hR,hl,n1,n9,bz⟩,hq⟩:=h;have b0:=hT.pos;have b9:b<=2^200:=by have:=intBits_le_iff.mp bz;omega
  have bl : ∀ {x:Int},0<=x->x<=2^204->intBits x<=205:=fun h1 h2=>intBits_le_iff.mpr (by omega);refine ⟨_,(qg (qq (i:=1) qha.nd (qy (O_sorted_groups.t hTb) hr.m (qa (qc 0) qe)))
   (qg (qq (i:=2) qha.nd (qy O_lowest_table.c hr.m (qa (qx (qc 0) qf) (qa (qw (qK (caps:=["groups"]) (own:=["row"]) (ix:=[1]) rfl ⟨rfl,rfl,rfl,rfl,rfl,rfl⟩ (qQ (qx (qc 0) qf)) (fun _ _ _ _=>(qo (i:=1) (show Zn (["groups","row"]:List Str) by decide))) (fun _ _ _ _=>(qy O_joined_numbers.c hr.m (qa (qc 1) (qa (qc 0) qe)))))) qe))))
   (qg (qq (i:=3) qha.nd (qT (qa qf (qa (qad qdu T.tuple_ L2.boot_tuple (qa (qw (qK (caps:=["groups"]) (own:=["sign"]) (ix:=[1]) rfl ⟨rfl,rfl,rfl,rfl,rfl,rfl⟩ (qam T.range_ (qy O_signs.c hr.m (qa (qc 0) qe))) (fun _ _ _ _=>(qo (i:=1) (show Zn (["groups","sign"]:List Str) by decide))) (fun _ _ _ _=>(qy O_one_sign.c hr.m (qa (qy O_place_of.c hr.m (qa (qc 1) (qa (qc 0) qe))) (qa (qm qbh T.len_ L2.boot_len (qa (qc 0) qe)) qe)))))) qe)) qe))))
   (qg (qq (i:=4) qha.nd (qy O_table_of_shares.c hr.m (qa (qw (qK (caps:=["glass"]) (own:=["group"]) (ix:=[0]) rfl ⟨rfl,rfl,rfl,rfl,rfl,rfl⟩ (qQ (qc 1)) (fun _ _ _ _=>(qo (i:=1) (show Zn (["glass","group"]:List Str) by decide))) (fun _ _ _ _=>(qy O_parts_of.c hr.m (qa (qc 1) (qa (qc 0) qe)))))) qe)))
   (qh (qp (qT (qa (qc 2) (qa (qc 3) (qa (qc 4) qe)))))))))),?_⟩
  refine ⟨b,R,n,rfl,⟨hT,hR,by omega,by omega,by omega⟩,fun p0 hp0 hs0=>?_⟩;obtain ⟨Gs,eGs⟩ : ∃ Gs,Gs=p0.toList.map fun i=>qco R n i:=⟨_,rfl⟩
  have hG:GrsOf R n Gs:=⟨p0,hp0,hs0,eGs⟩
  rw [<- eGs];clear eGs hs0 hp0;obtain ⟨p,hp,hs,eG⟩:=id hG;have gok:GsOk R n Gs:=by rw [eG];exact zaku hT.nn hp
  have gl:=gok.len;have tj:=jTab hT gok;obtain ⟨r0,R0,eR⟩:=Zy hR;have l0:r0.length=n:=hT.len r0 (by rw [eR];simp);refine ⟨_,rfl,_,rfl,qC ((R.map (qdl Gs)).map qkb) (by simp) (qi (by simp;omega)) (fun e => ∃ s,e=[.val (.list (grD Gs)),s]) ⟨_,rfl⟩ ?_ ?_⟩
  ·rintro i x ys e hx hys ⟨s,rfl⟩;rw [Qc] at hx;cases er:R[i]? with
   | none=>rw [er] at hx;cases hx
   | some r =>
    rw [er] at hx;cases hx;have rm:=Qj er;refine ⟨_,r,Gs,rfl,⟨rfl,by omega,fun G hG=>⟨by have:=gok.le G hG;omega,fun s hs=>by rw [hT.len r rm];exact gok.lt G hG s hs⟩⟩,qu ?_ hys,_,rfl⟩;rw [Qc,Qc,er];rfl
  refine ⟨b,_,R.map (qdl Gs),Gs.length,rfl,⟨qpx _,tj,by simpa using hR,by simp;omega,by omega,by omega⟩,?_⟩;refine ⟨b,r0,R0,by rw [eR],?_⟩;rw [l0];have lg:(grD Gs).length=Gs.length:=by unfold grD;rw [Qk]
  refine ⟨⟨by omega,by omega⟩,qC (((Q1 n).map fun s=>qhv (qbj Gs s) Gs.length).map qim) (by simp [qN]) (qi (by simp;omega)) (fun e => ∃ s,e=[.val (.list (grD Gs)),s]) ⟨_,rfl⟩ ?_ ?_⟩
  ·rintro i x ys e hx hys ⟨s,rfl⟩;obtain ⟨hi',rfl⟩:=qct hx;rw [Qcf];have hi2:i<n:=by omega
   refine ⟨i,Gs,rfl,qbj Gs i,Gs.length,by rw [lg],by omega,qu ?_ hys,_,rfl⟩;rw [Qc,Qc,Q2 hi2];rfl
  refine ⟨by rw [Zf];simp,?_⟩;have wb : ∀ G ∈ Gs,0<(jc R G).sum/\(jc R G).sum<=2^204:=fun G hG=>by
   obtain ⟨a1,a2⟩:=qme hT gok hG;refine ⟨a1,Int.le_trans a2 ?_⟩;have:b*R.length<=2^200*12:=Jz b9 (by omega) (by omega) (by omega);omega
  refine qC ((Gs.map fun G=>qJ R G n).map fun V => .list (V.map dS)) (by simp [grD]) (qi (by simp;omega)) (fun e => ∃ s,e=[.val (qbq b R),s]) ⟨_,rfl⟩ ?_ ?_
  ·rintro i x ys e hx hys ⟨s,rfl⟩;obtain ⟨G,hG,rfl⟩:=qyz hx;have gm:=Qj hG;obtain ⟨w0,w1⟩:=wb G gm;refine ⟨b,R,n,G,rfl,⟨hT.len,hR,by omega,by omega,by have:=gok.le G gm;omega,gok.lt G gm,by omega,qk (bl (by omega) w1) (by decide)⟩,qu ?_ hys,_,rfl⟩;rw [Qc,Qc,hG];rfl
  obtain ⟨d1,d2,d3⟩:=qxw (Gs.map fun G=>(jc R G).sum) fun w hw=>by
   obtain ⟨G,hG,rfl⟩:=Qm.mp hw;exact wb G hG
  refine ⟨_,Gs.map fun G=>qJ R G n,(Gs.map fun G=>(jc R G).sum).foldr (· * ·) 1,rfl,⟨⟨_,rfl,by simp,fun i x hx=>?_⟩,by simp;omega,fun r hr=>?_,d1,?_⟩,fun B hB=>⟨by rw [Zf];simp,hq Gs B hG hB⟩⟩
  ·rw [Qc] at hx;cases e:(Gs.map fun G=>qJ R G n)[i]? with
   | none=>rw [e] at hx;cases hx
   | some r=>rw [e] at hx;cases hx;exact ⟨r,rfl,rfl⟩
  ·obtain ⟨G,hG,rfl⟩:=Qm.mp hr;obtain ⟨w0,w1⟩:=wb G hG;refine ⟨by simp [qJ];omega,fun x hx=>?_⟩;obtain ⟨k,_,rfl⟩:=Qm.mp hx;obtain ⟨t0,t1⟩:=zagp hT G k;have t2:b*R.length<=2^200*12:=Jz b9 (by omega) (by omega) (by omega);refine ⟨(qdp (by omega)).1,qcu (qk (bl t0 (by omega)) (by decide)),Jc ⟨_,((Zw _ _).trans (qke _ _)).symm⟩ (d3 _ (Qm.mpr ⟨G,hG,rfl⟩))⟩
  ·refine Y5 (y:=(2^204)^12) ?_ (by decide);refine Zr d2 ?_;rw [Qk];exact Zr (Qhx (by decide) (show Gs.length<=12 by omega)) (by decide)
section
variable {b:Int}{R:List (List Int)}{m:Nat}{c:Int}{S:List (List Int)}{n:Nat}{B:Int}{D:List (List Int)}
def qhc {T:List (List Int)}{i j:Nat}{r:List Int}{x:Int} (h:T[i]?=some r) (k:r[j]?=some x):at2 T i j=x:=by
 unfold at2;rw [h];show (r[j]?).getD 0=x;rw [k];rfl
def qff {T:List (List Int)} (h : ∀ r ∈ T,∀ x ∈ r,0<=x) (i j:Nat):0<=at2 T i j:=by
 unfold at2;cases e:T[i]? with
 | none=>exact Qdh _
 | some r =>
  show 0<=(r[j]?).getD 0;cases e':r[j]? with
  | none=>exact Qdh _
  | some x=>exact h r (Qj e) x (Qj e')
def zacr {r:List Int}{T:List (List Int)}{i:Nat} (h:T[i]?=some r):(qO r.length fun j=>at2 T i j)=r.sum:=by
 have e1:(Q1 r.length).map (fun j=>at2 T i j)=r:=by
  refine Zs fun j=>?_;rw [Qc];by_cases hj:j<r.length
  ·rw [Q2 hj,Qa hj];show some (at2 T i j)=_;rw [qhc h (Qa hj)]
  ·rw [Qt (l:=r) (by omega),Qt (by simp;omega)];rfl
 have e2:=qbp (fun j=>at2 T i j) r.length;rw [e1] at e2;exact e2.symm
def Tab.rs {T:List (List Int)} (h:Tab B T n) {i:Nat} (hi:i<T.length):(qO n fun j=>at2 T i j)=B:=by
 have e:T[i]?=some T[i]:=Qa hi;rw [<- h.len _ (Za hi),zacr e,h.sum _ (Za hi)]
def mkT (m n:Nat) (f:Nat->Nat->Int):List (List Int):=(Q1 m).map fun i=>(Q1 n).map fun j=>f i j
def zagg {m n:Nat}{f:Nat->Nat->Int}{i j:Nat} (hi:i<m) (hj:j<n):at2 (mkT m n f) i j=f i j:=by
 refine qhc (r:=(Q1 n).map fun j=>f i j) ?_ ?_
 ·unfold mkT;rw [Qc,Q2 hi];rfl
 ·rw [Qc,Q2 hj];rfl
def qzo (m n:Nat) (f:Nat->Nat->Int):(mkT m n f).length=m:=by simp [mkT]
def qzt {m n:Nat}{f:Nat->Nat->Int}{B:Int} (hB:1<=B) (h0 : ∀ i j,i<m->j<n->0<=f i j) (hs : ∀ i,i<m->qO n (f i)=B):Tab B (mkT m n f) n where
 pos:=hB
 len:=fun r hr=>by
  obtain ⟨i,_,rfl⟩:=Qm.mp hr;simp
 nn:=fun r hr x hx=>by
  obtain ⟨i,hi,rfl⟩:=Qm.mp hr;obtain ⟨j,hj,rfl⟩:=Qm.mp hx;exact h0 i j (Q6.mp hi) (Q6.mp hj)
 sum:=fun r hr=>by
  obtain ⟨i,hi,rfl⟩:=Qm.mp hr;rw [qbp];exact hs i (Q6.mp hi)
def qrr (p q:Nat) (f:Nat->Nat->Int):(qO p fun i=>qO q fun j=>f i j)=qO q fun j=>qO p fun i=>f i j:=by
 induction p with
 | zero=>exact (qed fun j _=>rfl).symm
 | succ p ih =>
  show (qO p fun i=>qO q fun j=>f i j)+qO q (fun j=>f p j)=qO q fun j=>(qO p fun i=>f i j)+f p j;rw [ih,qub]
def qkk {f g:Nat->Int} : ∀ {n:Nat},(∀ i,i<n->f i<=g i)->qO n f<=qO n g
 | 0,_=>Qdh _
 | n+1,h=>by
  show qO n f+f n<=qO n g+g n;have a:=qkk (f:=f) (g:=g) (n:=n) fun i hi=>h i (by omega);have b:=h n (by omega);omega
def Dul.trans {d:Int}{T:List (List Int)}{p:Nat}{C:Int}{E:List (List Int)} (hc:0<c) (hSR:S.length=R.length) (h:Dul b R m c S n B D) (k:Dul c S n d T p C E) :
 Dul b R m d T p (B*C) (mkT m p fun i l=>qO n fun j=>at2 D i j*at2 E j l):=by
  have hB:=h.t.pos;have hC:=k.t.pos;have hBC:0<B*C:=Z5 (by omega) (by omega);refine ⟨qzt (by omega) (fun i l hi hl=>qgq fun j hj=>Z9 (qff h.t.nn i j) (qff k.t.nn j l)) (fun i hi=>?_),qzo ..,fun s l hs hl=>?_⟩
  ·rw [qrr,qH (g:=fun j=>C*at2 D i j) fun j hj=>?_,qaq,h.t.rs (by rw [h.l];exact hi),Zw];rw [qaq,k.t.rs (by rw [k.l];exact hj),Zw]
  ·have e1:(qO m fun i=>at2 R s i*at2 (mkT m p fun i l=>qO n fun j=>at2 D i j*at2 E j l) i l)=qO n fun j=>at2 E j l*qO m fun i=>at2 R s i*at2 D i j:=by
    have a:(qO m fun i=>at2 R s i*at2 (mkT m p fun i l=>qO n fun j=>at2 D i j*at2 E j l) i l)=qO m fun i=>qO n fun j=>at2 E j l*(at2 R s i*at2 D i j):=qH fun i hi=>by
     rw [zagg hi hl,<- qaq];exact qH fun j _=>by grind
    rw [a,qrr];exact qH fun j _=>by rw [qaq]
   rw [e1];have e2:c*(qO n fun j=>at2 E j l*qO m fun i=>at2 R s i*at2 D i j)=b*B*qO n fun j=>at2 S s j*at2 E j l:=by
    rw [<- qaq,<- qaq];refine qH fun j hj=>?_;have:=h.e s j hs hj
    calc c*(at2 E j l*qO m fun i=>at2 R s i*at2 D i j)=at2 E j l*(c*qO m fun i=>at2 R s i*at2 D i j):=by grind
     _=at2 E j l*(at2 S s j*b*B):=by rw [this]
     _=_:=by grind
   have e3:=k.e s l (by rw [hSR];exact hs) hl;have:c*(d*qO n fun j=>at2 E j l*qO m fun i=>at2 R s i*at2 D i j)=c*(at2 T s l*b*(B*C)):=by
    calc c*(d*qO n fun j=>at2 E j l*qO m fun i=>at2 R s i*at2 D i j)=d*(c*qO n fun j=>at2 E j l*qO m fun i=>at2 R s i*at2 D i j):=by grind
     _=b*B*(d*qO n fun j=>at2 S s j*at2 E j l):=by rw [e2];grind
     _=b*B*(at2 T s l*c*C):=by rw [e3]
     _=_:=by grind
   exact Y1 (by omega) this
def Dul.pick {f:Nat->Nat} (hf : ∀ i,i<m->f i<n) (h : ∀ s j,s<R.length->j<n->c*(qO m fun i=>at2 R s i*if f i=j then 1 else 0)=at2 S s j*b):Dul b R m c S n 1 (mkT m n fun i j=>if f i=j then 1 else 0):=by
 refine ⟨qzt (by decide) (fun i j _ _=>by split <;> decide) (fun i hi=>?_),qzo ..,fun s j hs hj=>?_⟩
 ·rw [qjl (hf i hi) fun j _ ne=>if_neg (Yb ne),if_pos rfl]
 ·rw [Qbx,<- h s j hs hj]
  congr 1
  exact qH fun i hi=>by rw [zagg hi hj]
def Dul.same {b b':Int}{R R':List (List Int)}{m:Nat} (h : ∀ s j,s<R.length->j<m->b'*at2 R s j=at2 R' s j*b):Dul b R m b' R' m 1 (mkT m m fun i j=>if i=j then 1 else 0) :=
 Dul.pick (f:=id) (fun i hi=>hi) fun s j hs hj=>by
  rw [qjl hj fun i _ ne=>by rw [if_neg (show ¬ id i=j from ne),Jg],if_pos (show id j=j from rfl),Qbx,h s j hs hj]
end
def qnk (a:Int) (cs:List Int) (b:Int):List Int:=Qez (fun lo hi=>hi-lo) (a::cs) (cs++[b])
def quv : ∀ (cs:List Int) (a b:Int),cs.Pairwise (· <= ·)->(∀ c ∈ cs,a<=c/\c<=b)->a<=b->(qnk a cs b).length=cs.length+1/\(∀ x ∈ qnk a cs b,0<=x)/\(qnk a cs b).sum=b-a
 | [],a,b,_,_,hab=>by simp [qnk];omega
 | c::cs,a,b,hp,h,hab=>by
  have e:qnk a (c::cs) b=(c-a)::qnk c cs b:=rfl;obtain ⟨h1,h2⟩:=List.pairwise_cons.mp hp;obtain ⟨q1,q2⟩:=h c (by simp);obtain ⟨i1,i2,i3⟩:=quv cs c b h2 (fun x hx=>⟨h1 x hx,(h x (Qs _ hx)).2⟩) q2;rw [e];refine ⟨by simp [i1],fun x hx=>?_,by rw [Q5,i3];omega⟩;rcases Q3.mp hx with rfl|hx
  ·omega
  ·exact i2 x hx
def qde (r:List Int) (k s:Int) (at' to:Nat):List Int:=qio ((r.map fun n=>n*k).set at' ((r[at']?).getD 0*s)) to ((r[at']?).getD 0*(k-s))
def zahn {α:Type}{l:List α}{k:Nat}{y:α} (h:k<=l.length):(qio l k y).length=l.length+1:=by
 unfold qio;simp;omega
def zajq {l:List Int}{k:Nat}{y:Int}:(qio l k y).sum=l.sum+y:=by
 unfold qio;have:=congrArg Qmk (Qaz k l);rw [Yd] at this;rw [Yd,Q5];omega
def zake {l:List Int}{k:Nat}{x y:Int} (h:x ∈ qio l k y):x ∈ l\/x=y:=by
 unfold qio at h;rcases Zl.mp h with h|h
 ·exact .inl (Qdx h)
 ·rcases Q3.mp h with h|h
  ·exact .inr h
  ·exact .inl (Qdy h)
def set_sum' : ∀ {r:List Int}{i:Nat}{y:Int},i<r.length->(r.set i y).sum=r.sum-(r[i]?).getD 0+y
 | x::r,0,y,h=>by simp;omega
 | x::r,i+1,y,h=>by
  have h':i<r.length:=by simpa using h
  rw [Qix,Q5,Q5,set_sum' h',Vc];omega
def quk (k:Int) : ∀ (r:List Int),(r.map fun x=>x*k).sum=r.sum*k
 | []=>by simp
 | x::r=>by rw [Q7,Q5,Q5,quk k r,Qii]
def zaed {r:List Int}{k s:Int}{a t:Nat} (ha:a<r.length) (ht:t<=r.length) (hr : ∀ x ∈ r,0<=x) (s0:0<=s) (sk:s<=k):(qde r k s a t).length=r.length+1/\(∀ x ∈ qde r k s a t,0<=x)/\(qde r k s a t).sum=r.sum*k:=by
 unfold qde;have hl:((r.map fun n=>n*k).set a ((r[a]?).getD 0*s)).length=r.length:=by simp
 have hra:0<=(r[a]?).getD 0:=by rw [Qa ha];exact hr _ (Za ha)
 refine ⟨by rw [zahn (by omega),hl],fun x hx=>?_,?_⟩
 ·rcases zake hx with hx|rfl
  ·rcases List.mem_or_eq_of_mem_set hx with hx|rfl
   ·obtain ⟨y,hy,rfl⟩:=Qm.mp hx;exact Z9 (hr y hy) (by omega)
   ·exact Z9 hra s0
  ·exact Z9 hra (by omega)
 ·rw [zajq,set_sum' (by simpa using ha),quk,Qc,Qa ha];simp only [Qll,Qbr];grind
def zakk {R:List (List Int)}{g:Int} (g0:g≠0) (h : ∀ r ∈ R,∀ x ∈ r,g∣x) (s j:Nat):g*at2 (qbe R g) s j=at2 R s j:=by
 unfold at2 qbe;rw [Qc];cases e:R[s]? with
 | none=>simp
 | some r =>
  show g*((r.map fun n=>n/g)[j]?).getD 0=(r[j]?).getD 0;rw [Qc];cases e':r[j]? with
  | none=>simp
  | some x=>exact Y4 (h r (Qj e) x (Qj e'))
def zafs {b:Int}{R:List (List Int)}{m:Nat} (h:Tab b R m) (hn:R≠[]) : ∃ g:Int,0<g/\g*(b/qR R)=b /\ ∀ s j,g*at2 (qbe R (qR R)) s j=at2 R s j:=by
 have g0:=h.gpos hn;exact ⟨qR R,by omega,Y4 (h.gdvd hn),zakk (by omega) fun r hr x hx=>qfm hr hx⟩
def sc (k:Int) (R:List (List Int)):List (List Int):=R.map fun r=>r.map fun n=>k*n
def zamg {k:Int} (hk:0<k) (R:List (List Int)) (g:Int):qbe (sc k R) (k*g)=qbe R g:=by
 unfold qbe sc;rw [Zk];refine Zv fun r _=>?_;simp only [Qml,Zk];refine Zv fun n _=>?_;simp only [Qml];exact Qgc _ _ hk
def sc_g {k:Int} (hk:0<k) (R:List (List Int)):(qR (sc k R):Int)=k*qR R:=by
 obtain ⟨n,rfl⟩:=Vt (Qag hk);unfold sc;rw [qul n R,Qhd]
def zagh {k b:Int} (hk:0<k) (R:List (List Int)):qwm (k*b) (sc k R)=qwm b R:=by
 unfold qwm;rw [sc_g hk,zamg hk,Qgc _ _ hk]
def zaag {k l b c:Int}{R S:List (List Int)} (hk:0<k) (hl:0<l) (h1:k*b=l*c) (h2:sc k R=sc l S):qwm b R=qwm c S:=by
 have e1:=zagh (b:=b) hk R;have e2:=zagh (b:=c) hl S;rw [h1,h2] at e1;exact e1.symm.trans e2
def zakg {b:Int}{R:List (List Int)}{n:Nat} (h:Gls b R n):qwm b R=qbq b R:=zafa h
def inB (xs:List Int) (m:Int):Bool:=xs.all fun x=>decide (0<=x)&&decide (x<m)
section
variable {b:Int}{R:List (List Int)}{m:Nat}{c:Int}{S:List (List Int)}{n:Nat}{B:Int}{D:List (List Int)}{d:Int}{T:List (List Int)}{p:Nat}
def qdr {s j:Nat}{r:List Int} (h:T[s]?=some r):at2 T s j=(r[j]?).getD 0:=by
 unfold at2;rw [h];rfl
end
structure LowOf (b:Int) (R:List (List Int)) (b':Int) (R':List (List Int)):Prop where
 b:b'=b/qR R
 r:R'=qbe R (qR R)
section
variable {b:Int}{R:List (List Int)}{m:Nat}{c:Int}{S:List (List Int)}{n:Nat}{B:Int}{D:List (List Int)}{b' c':Int}{R' S':List (List Int)}
def LowOf.le (h:LowOf b R b' R') (t:Tab b R m):b'<=b:=by
 rw [h.b];exact Qgk _ (by have:=t.pos;omega)
end
def lkl (W:List Int) (T:List (List Int)) (j:Nat):List Int:=Qez (· * ·) W (qL T j)
def qS (W:List Int) (T:List (List Int)) (j:Nat):List (Int×Int):=(lkl W T j).map fun x=>(shT x (lkl W T j).sum,shB x (lkl W T j).sum)
def qF (W:List Int) (f:Int) (T:List (List Int)) (j:Nat):Int×Int:=(shT (lkl W T j).sum (W.sum*f),shB (lkl W T j).sum (W.sum*f))
def qnn (W:List Int) (f:Int) (T:List (List Int)) (j:Nat):Qi :=.tuple [dS (qF W f T j),.tuple ((qS W T j).map dS)]
structure Wgt (W:List Int):Prop where
 l2:2<=W.length
 l4:W.length<=4
 w1 : ∀ w ∈ W,1<=w
 w2 : ∀ w ∈ W,w<=1000
section
variable {W:List Int}{f:Int}{T:List (List Int)}{n j s:Nat}
def Wgt.at (h:Wgt W) (hs:s<W.length):1<=(W[s]?).getD 0/\(W[s]?).getD 0<=1000:=by
 rw [Qa hs];exact ⟨h.w1 _ (Za hs),h.w2 _ (Za hs)⟩
def qkj (l:List Int):l.sum=qO l.length fun s=>(l[s]?).getD 0:=by rw [<- qbp,zaah]
def Wgt.sum (h:Wgt W):1<=W.sum/\W.sum<=4000:=by
 have l2:=h.l2;have l4:=h.l4
 match W,h,l2,l4 with
 | [a,b],h,_,_ =>
  have a1:=h.w1 a (by simp);have a2:=h.w2 a (by simp);have b1:=h.w1 b (by simp);have b2:=h.w2 b (by simp);simp only [Q5,Qfa];omega
 | [a,b,c],h,_,_ =>
  have a1:=h.w1 a (by simp);have a2:=h.w2 a (by simp);have b1:=h.w1 b (by simp);have b2:=h.w2 b (by simp);have c1:=h.w1 c (by simp);have c2:=h.w2 c (by simp);simp only [Q5,Qfa];omega
 | [a,b,c,d],h,_,_ =>
  have a1:=h.w1 a (by simp);have a2:=h.w2 a (by simp);have b1:=h.w1 b (by simp);have b2:=h.w2 b (by simp);have c1:=h.w1 c (by simp);have c2:=h.w2 c (by simp);have d1:=h.w1 d (by simp);have d2:=h.w2 d (by simp);simp only [Q5,Qfa];omega
def qgg (h:W.length=T.length):(lkl W T j).length=T.length:=by unfold lkl;rw [List.length_zipWith,qsg,h,Nat.min_self]
def qmz (h:W.length=T.length) (hs:s<T.length):(lkl W T j)[s]?=some ((W[s]?).getD 0*at2 T s j):=by
 have e1:W[s]?=some (W[s]'(by omega)):=Qa _;have e2:T[s]?=some T[s]:=Qa hs;have e3:(qL T j)[s]?=some ((T[s][j]?).getD 0):=by unfold qL;rw [Qc,e2];rfl
 unfold lkl;rw [qyw e1 e3,qdr e2,e1];rfl
def qnb (h:W.length=T.length):(lkl W T j).sum=qO T.length fun s=>(W[s]?).getD 0*at2 T s j:=by
 rw [qkj,qgg h];exact qH fun s hs=>by rw [qmz h hs];rfl
def qoq (hT:Tab f T n) (s j:Nat):0<=at2 T s j/\at2 T s j<=f:=by
 refine ⟨qff hT.nn s j,?_⟩;have f1:=hT.pos;by_cases hs:s<T.length
 ·rw [qdr (Qa hs)];cases e:T[s][j]? with
  | none=>show (0:Int)<=f;omega
  | some x=>exact (hT.le (Za hs) (Qj e)).2
 ·have e:at2 T s j=0:=by unfold at2;rw [Qt (l:=T) (by omega)];rfl
  rw [e];omega
def qjp (hW:Wgt W) (h:W.length=T.length) (hT:Tab f T n) {x:Int} (hx:x ∈ lkl W T j):0<=x/\x<=1000*f:=by
 obtain ⟨s,es⟩:=Yw.mp hx;have hs:s<T.length:=by rw [<- qgg (j:=j) h];exact (Qg.mp es).1
 rw [qmz h hs] at es;obtain ⟨a1,a2⟩:=hW.at (s:=s) (by omega);obtain ⟨b1,b2⟩:=qoq hT s j;rw [<- Qx es];exact ⟨Z9 (by omega) b1,Jz a2 b2 b1 (by omega)⟩
def qpb (hW:Wgt W) (h:W.length=T.length) (hT:Tab f T n):0<=(lkl W T j).sum/\(lkl W T j).sum<=W.sum*f:=by
 have f1:=hT.pos;rw [qnb h,qkj W,h,Zw,<- qaq];refine ⟨qgq fun s hs=>Z9 (by have:=(hW.at (s:=s) (by omega)).1;omega) (qoq hT s j).1,qkk fun s hs=>?_⟩;rw [Zw];exact Qdq (qoq hT s j).2 (by have:=(hW.at (s:=s) (by omega)).1;omega)
def qrs (h:W.length=T.length) (hs:s<T.length):(qS W T j)[s]?=some (shT ((W[s]?).getD 0*at2 T s j) (lkl W T j).sum,shB ((W[s]?).getD 0*at2 T s j) (lkl W T j).sum):=by
 unfold qS;rw [Qc,qmz h hs];rfl
def qbm (h:W.length=T.length):(qS W T j).length=T.length:=by unfold qS;rw [Qk,qgg h]
end
def qgf:Qi->Bool
 | .int i=>decide (1<=i)&&decide (i<=1000)
 | _=>false
def wOk:Qi->Bool
 | .tuple l=>decide (2<=l.length)&&decide (l.length<=4)&&l.all qgf
 | _=>false
def qbt (ds:List Qi) (q:Qi->Prop):Prop := ∃ d:Qi,ds=[d]/\q (.bool (wOk d))
def qpl:FnScope ["thing"] ["thing"] (defScope qea):=sc0
def qpn (F:Def K mg "is_weights" qea ["thing"]) (T:Txt K mg cs)
 (O_is_whole:Ok P w K mg base "is_whole" 1 ["thing"] (PSp K qdm))
 : Ok P w K mg base "is_weights" 2 ["thing"] (PSp K qbt):=by
  refine F.vok qpl (by rintro ds q ⟨_,h,_⟩;rw [h];rfl) fun f cdv A outer s H E hr ds q h=>?_;obtain ⟨d,rfl,h⟩:=h;refine ⟨_,(qg (qY (VW.pt (qei (qap (qan (qja T.isinstance_ T.tuple_ L2.boot_tuple (qc 0)))) (qdw (qap (qnx qzr qzr (qgy T.FEWEST_STANDS_) (qm qbh T.len_ L2.boot_len (qa (qc 0) qe)) (qgy T.MOST_STANDS_)))))) (qh (qp qih)) qr)
   (qh (qp (qm (qxb rfl) T.all_ L2.boot_all (qa (qw (qK (caps:=[]) (own:=["weight"]) (ix:=[]) rfl ⟨rfl,rfl,rfl,rfl,rfl,rfl⟩ (qQ (qc 0)) (fun _ _ _ _=>(qo (i:=0) (show Zn (["weight"]:List Str) by decide))) (fun _ _ _ _=>(qor (qy O_is_whole.c hr.m (qa (qc 0) qe)) (qos (zads qzr qzr qf (qc 0) (qgy T.MOST_WEIGHT_))))))) qe))))),?_⟩
  cases d with
  | tuple l =>
   by_cases hl:2<=l.length/\l.length<=4
   ·refine qey (fun _=>?_) (fun z=>(z (by omega)).elim);refine zacg (by omega) ?_;refine qC (l.map fun x=>Va (qgf x)) (by simp) (qi (by simp;omega)) (fun e => ∃ s,e=[s]) ⟨_,rfl⟩ ?_ ?_
    ·rintro i x ys e hx hys ⟨s,rfl⟩;have fin : ∀ v,v=qgf x->(ys++[Va v]=(l.map fun x=>Va (qgf x)).take (i+1) /\ ∃ s',[Sl.val x]=[s']):=fun v hv=>⟨by rw [hv];exact qu (by rw [Qc,hx];rfl) hys,_,rfl⟩
     cases x with
     | int i =>
      refine qey (fun a=>?_) (fun a=>?_)
      ·exact fin _ (by show decide (i<=1000)=(decide (1<=i)&&decide (i<=1000));rw [decide_eq_true a];rfl)
      ·exact fin _ (by show false=(decide (1<=i)&&decide (i<=1000));rw [decide_eq_false a];rfl)
     | _=>exact fin _ rfl
    ·refine ⟨l.map qgf,by rw [Zk];rfl,?_⟩;have e:wOk (.tuple l)=(l.map qgf).all id:=by
      show (decide (2<=l.length)&&decide (l.length<=4)&&l.all qgf)=_;rw [decide_eq_true hl.1,decide_eq_true hl.2,Qhg];rfl
     rw [<- e];exact h
   ·have e:wOk (.tuple l)=false:=by
     show (decide (2<=l.length)&&decide (l.length<=4)&&l.all qgf)=false;by_cases a:2<=l.length
     ·rw [decide_eq_false (fun z=>hl ⟨a,z⟩),Ya];rfl
     ·rw [decide_eq_false a];rfl
    rw [e] at h;refine qey (fun a=>?_) (fun a=>h);exact iteY (by rw [decide_eq_false (fun z=>hl ⟨by omega,by omega⟩)];rfl) h
  | _=>exact h
def qeu (ds:List Qi) (q:Qi->Prop):Prop := ∃ (b:Int) (R:List (List Int)) (W:List Int) (n j:Nat),ds=[qbq b R,.tuple (W.map .int),.int (j:Nat)]/\(Tab b R n/\W.length=R.length/\Wgt W/\j<n/\b<=100000/\0<(lkl W R j).sum)/\q (qnn W b R j)
def qcv:FnScope ["glass","weights","sign","likely","belief"] ["glass","weights","sign"] (defScope qby):=sc0
def qjz (F:Def K mg "belief_behind" qby ["glass","weights","sign"]) (T:Txt K mg cs)
 (O_column:Ok P w K mg base "column" 1 ["rows","place"] (FSp K qho))
 (O_share:Ok P w K mg base "share" 3 ["top","bottom"] (PSp K qfe))
 : Ok P w K mg base "belief_behind" 4 ["glass","weights","sign"] (PSp K qeu):=by
  refine F.vok qcv (by rintro ds q ⟨_,_,_,_,_,h,_⟩;rw [h];rfl) fun f cdv A outer s H E hr ds q h=>?_;obtain ⟨b,R,W,n,j,rfl,⟨hT,hl,hW,hj,hb,hs⟩,h⟩:=h;refine ⟨_,(qg (qq (i:=3) qcv.nd (qw (qK (caps:=[]) (own:=["weight","number"]) (ix:=[]) rfl ⟨rfl,rfl,rfl,rfl,rfl,rfl⟩ (qya T.zip_ (qc 1) (qw (qmu O_column.c hr.m (qa (qx (qc 0) qf) (qa (qc 2) qe))))) (fun _ _ _ _=>(qje (n:=2) rfl (qar (qo (i:=0) (show Zn (["weight","number"]:List Str) by decide)) (qar (qo (i:=1) (show Zn (["weight","number"]:List Str) by decide)) qgh)))) (fun _ _ _ _=>(qt qbg (qc 0) (qc 1))))))
   (qg (qq (i:=4) qcv.nd (qad qdu T.tuple_ L2.boot_tuple (qa (qw (qK (caps:=["likely"]) (own:=["number"]) (ix:=[3]) rfl ⟨rfl,rfl,rfl,rfl,rfl,rfl⟩ (qQ (qc 3)) (fun _ _ _ _=>(qo (i:=1) (show Zn (["likely","number"]:List Str) by decide))) (fun _ _ _ _=>(qy O_share.c hr.m (qa (qc 1) (qa (qm (qmy rfl) T.sum_ L2.boot_sum (qa (qc 0) qe)) qe)))))) qe)))
   (qh (qp (qT (qa (qy O_share.c hr.m (qa (qm (qmy rfl) T.sum_ L2.boot_sum (qa (qc 3) qe)) (qa (qt qbg (qm (qmy rfl) T.sum_ L2.boot_sum (qa (qc 1) qe)) (qx (qc 0) qf)) qe))) (qa (qc 4) qe))))))),?_⟩
  have f0:=hT.pos;have l4:=hW.l4;obtain ⟨w1,w4⟩:=hW.sum;obtain ⟨s0,s1⟩:=qpb (j:=j) hW hl hT;have wb:W.sum*b<=4000*100000:=Jz w4 hb (by omega) (by omega);have up : ∀ {x:Int},0<=x->x<=1000000000->intBits x<=64:=fun h1 h2=>qao (by omega) (by omega);refine ⟨_,rfl,_,R,j,rfl,⟨qkr _,by omega,fun r hr=>by rw [hT.len r hr];exact hj⟩,?_⟩;refine qC ((lkl W R j).map .int) (by simp [qfa,lkl,qsg]) (qi (by rw [Qk,qgg hl];omega)) (fun e => ∃ s t,e=[s,t]) ⟨_,_,rfl⟩ ?_ ?_
  ·rintro i x ys e hx hys ⟨s,t,rfl⟩;obtain ⟨x,y,h3,h4,rfl⟩:=qum hx;obtain ⟨x,rfl,h5,m5⟩:=qdt h3;obtain ⟨y,rfl,h6,m6⟩:=qdt h4;have a1:=hW.w1 x m5;have a2:=hW.w2 x m5;have zy:0<=y/\y<=b:=by
    rcases qrm m6 with rfl|⟨d,hd,hy⟩
    ·omega
    ·exact hT.le hd hy
   refine ⟨rfl,rfl,qif (qk (up (by omega) (by omega)) (by decide)) (qk (up (by omega) (by omega)) (by decide)),qu ?_ hys,_,_,rfl⟩;rw [Qc];unfold lkl;rw [qyw h5 h6];rfl
  refine qC ((qS W R j).map dS) (by simp [qS]) (qi (by rw [Qk,qbm hl];omega)) (fun e => ∃ t,e=[.val (.list ((lkl W R j).map .int)),t]) ⟨_,rfl⟩ ?_ ?_
  ·rintro i x ys e hx hys ⟨t,rfl⟩;obtain ⟨x,rfl,h5,m5⟩:=qdt hx;refine ⟨_,rfl,⟨by omega,qk (up (by omega) (by omega)) (by decide)⟩,qu ?_ hys,_,rfl⟩;rw [Qc];unfold qS;rw [Qc,h5];rfl
  exact ⟨_,rfl,_,rfl,_,rfl,qif (qk (up (by omega) (by omega)) (by decide)) (qk (up (by omega) (by omega)) (by decide)),⟨Qdp (Z5 (by omega) (by omega)),qk (up (Z9 (by omega) (by omega)) (by omega)) (by decide)⟩,szl,h⟩
def quz {gs:List (List Int×List Nat)}{k:List Int}{s t:Nat} (h:(∃ x ∈ gs,s ∈ x.2)\/s=t) : ∃ x ∈ qmi gs k t,s ∈ x.2:=by
 unfold qmi;split
 ·rename_i ha;rcases h with ⟨x,hx,hs⟩|rfl
  ·refine ⟨_,Qm.mpr ⟨x,hx,rfl⟩,?_⟩;split
   ·exact Yg _ hs
   ·exact hs
  ·obtain ⟨x,hx,e⟩:=Ym.mp ha;refine ⟨_,Qm.mpr ⟨x,hx,rfl⟩,?_⟩;rw [if_pos (of_decide_eq_true e)];simp
 ·rcases h with ⟨x,hx,hs⟩|rfl
  ·exact ⟨x,Yg _ hx,hs⟩
  ·exact ⟨_,Q8 _ (Qw.mpr rfl),by simp⟩
def qzj (R:List (List Int)) : ∀ n s,s<n->(qL R s).any (· != 0)=true -> ∃ x ∈ grs R n,s ∈ x.2
 | 0,s,h,_=>by omega
 | n+1,s,h,ea=>by
  unfold grs;by_cases e:s=n
  ·subst e;rw [if_pos ea];exact quz (.inr rfl)
  ·have ih:=qzj R n s (by omega) ea;split
   ·exact quz (.inl ih)
   ·exact ih
def qsw (R:List (List Int)) : ∀ n,∀ x ∈ grs R n,x.2.Nodup
 | 0,x,hx=>by cases hx
 | n+1,x,hx=>by
  unfold grs at hx;split at hx
  ·unfold qmi at hx;split at hx
   ·obtain ⟨y,hy,rfl⟩:=Qm.mp hx;have ih:=qsw R n y hy;have lt:=qmf R n y hy;split
    ·refine Qbc.mpr ⟨ih,by simp,fun a ha b hb=>?_⟩;have:=lt a ha;have:=Qw.mp hb;omega
    ·exact ih
   ·rcases Zl.mp hx with z|z
    ·exact qsw R n x z
    ·rw [Qw.mp z];simp
  ·exact qsw R n x hx
structure GsPart (R:List (List Int)) (n:Nat) (Gs:List (List Nat)):Prop where
 nd : ∀ G ∈ Gs,G.Nodup
 all : ∀ s,s<n->(qL R s).any (· != 0)=true -> ∃ G ∈ Gs,s ∈ G
 one : ∀ (a b:Nat) (G G':List Nat) (s:Nat),Gs[a]?=some G->Gs[b]?=some G'->s ∈ G->s ∈ G'->a=b
 pr : ∀ G ∈ Gs,∀ s ∈ G,Col (qL R s)/\nrm (qL R s)=nrm (jc R G)
def zakh {R:List (List Int)} (hn : ∀ r ∈ R,∀ x ∈ r,0<=x) {n:Nat}{p:Array Nat} (hp:PmN (grs R n).length p):GsPart R n (p.toList.map fun i=>qco R n i):=by
 have pm:=qxo hp fun i=>qco R n i;rw [qqp] at pm;have h:=qjc hn n;have mem : ∀ G ∈ p.toList.map (fun i=>qco R n i),∃ x ∈ grs R n,x.2=G:=fun G hG=>Qm.mp (pm.mem_iff.mp hG);have nd:p.toList.Nodup:=hp.p.nodup_iff.mpr Qgi;refine ⟨fun G hG=>?_,fun s hs ea=>?_,fun a b G G' s ea eb ha hb=>?_,fun G hG s hs=>?_⟩
 ·obtain ⟨x,hx,rfl⟩:=mem G hG;exact qsw R n x hx
 ·obtain ⟨x,hx,hs⟩:=qzj R n s hs ea;exact ⟨x.2,pm.mem_iff.mpr (Qm.mpr ⟨x,hx,rfl⟩),hs⟩
 ·rw [Qc] at ea eb;cases e1:p.toList[a]? with
  | none=>rw [e1] at ea;cases ea
  | some i =>
   cases e2:p.toList[b]? with
   | none=>rw [e2] at eb;cases eb
   | some j =>
    rw [e1] at ea;rw [e2] at eb;cases ea;cases eb;have hi:i<(grs R n).length:=Q6.mp (hp.p.mem_iff.mp (Qj e1));have hj:j<(grs R n).length:=Q6.mp (hp.p.mem_iff.mp (Qj e2));have gi : ∀ {i:Nat} (hi:i<(grs R n).length),qco R n i=(grs R n)[i].2:=fun {i} hi=>by unfold qco;rw [Qa hi];rfl
    have ha:s ∈ qco R n i:=ha;have hb:s ∈ qco R n j:=hb;rw [gi hi] at ha;rw [gi hj] at hb;have k1:=(h.me _ (Za hi) s ha).2;have k2:=(h.me _ (Za hj) s hb).2;have ij:i=j:=by
     have q:(grs R n)[i].1=(grs R n)[j].1:=k1.symm.trans k2;have z:=h.ky;refine (Qbb (i:=i) (j:=j) (by simpa using hi) z).mp ?_;rw [Qc,Qc,Qa hi,Qa hj];exact congrArg some q
    subst ij;exact (Qbb (Qg.mp e1).1 nd).mp (e1.trans e2.symm)
 ·obtain ⟨x,hx,rfl⟩:=mem G hG;obtain ⟨c,e⟩:=h.me x hx s hs;exact ⟨c,e.trans (qsl (h.ne x hx) (h.me x hx)).1.symm⟩
def qob (r:List Int) {n:Nat} : ∀ {G:List Nat},G.Nodup->(∀ s ∈ G,s<n)->qcn r G=qO n fun i=>if i ∈ G then (r[i]?).getD 0 else 0
 | [],_,_=>by rw [qed fun i _=>by rw [if_neg (by simp)]];simp [qcn]
 | s::G,nd,lt=>by
  rw [Jj] at nd;have ih:=qob r (n:=n) nd.2 fun x hx=>lt x (Qs _ hx);have e:qcn r (s::G)=(r[s]?).getD 0+qcn r G:=by unfold qcn;rw [Q7,Q5]
  have q:(qO n fun i=>if i ∈ s::G then (r[i]?).getD 0 else 0)=qO n fun i=>(if i=s then (r[i]?).getD 0 else 0)+if i ∈ G then (r[i]?).getD 0 else 0:=qH fun i _=>by
   by_cases e1:i=s
   ·subst e1;rw [if_pos (by simp),if_pos rfl,if_neg nd.1,Qkf]
   ·rw [if_neg e1,Qcf];by_cases e2:i ∈ G
    ·rw [if_pos (Qs _ e2),if_pos e2]
    ·rw [if_neg (by simp [e1,e2]),if_neg e2]
  rw [e,ih,q,qub,qjl (lt s (by simp)) fun i _ ne=>if_neg ne,if_pos rfl]
def qrt {R:List (List Int)}{Gs:List (List Nat)}{s l:Nat}{r:List Int}{G:List Nat} (hs:R[s]?=some r) (hl:Gs[l]?=some G):at2 (R.map (qdl Gs)) s l=qcn r G:=by
 refine qhc (r:=qdl Gs r) (by rw [Qc,hs];rfl) ?_;unfold qdl;rw [Qc,hl];rfl
def zagt {R:List (List Int)}{i s:Nat} (h : ¬ (qL R i).any (· != 0)=true) (hs:s<R.length):at2 R s i=0:=by
 have e:R[s]?=some R[s]:=Qa hs;rw [qdr e];refine Jy fun z=>h (Ym.mpr ⟨_,?_,by simpa using z⟩);unfold qL;exact Qm.mpr ⟨_,Za hs,rfl⟩
def qii {Gs:List (List Nat)}{s:Nat} (h : ∃ G ∈ Gs,s ∈ G) : ∃ G,Gs[qbj Gs s]?=some G/\s ∈ G:=by
 unfold qbj;cases e:Gs.findIdx? (fun G=>G.contains s) with
 | none =>
  rw [Qfh] at e;obtain ⟨G,hG,hs⟩:=h;have:=e G hG;simp at this;exact (this hs).elim
 | some i =>
  rw [Qcq] at e;obtain ⟨hi,q,_⟩:=e;exact ⟨Gs[i],Qa hi,by simpa using q⟩
def qxe {Gs:List (List Nat)}{s:Nat} (h:Gs≠[]):qbj Gs s<Gs.length:=by
 by_cases e : ∃ G ∈ Gs,s ∈ G
 ·obtain ⟨G,hG,_⟩:=qii e;exact (Qg.mp hG).1
 ·rw [qiu fun G hG z=>e ⟨G,hG,z⟩];exact Qem.mpr h
section
variable {b:Int}{R:List (List Int)}{n:Nat}{Gs:List (List Nat)}
def zakq (hT:Tab b R n) (hR:R≠[]) (g:GsOk R n Gs):Gs≠[]:=fun z=>by
 obtain ⟨r,R',rfl⟩:=Zy hR;have:=g.sum r (by simp) (hT.len r (by simp));rw [z,hT.sum r (by simp)] at this;have:=hT.pos;simp at *;omega
def zaam (hT:Tab b R n) (hR:R≠[]) (g:GsOk R n Gs) (h:GsPart R n Gs):Dul b R n b (R.map (qdl Gs)) Gs.length 1 (mkT n Gs.length fun i j=>if qbj Gs i=j then 1 else 0):=by
 refine Dul.pick (fun i hi=>qxe (zakq hT hR g)) fun s l hs hl=>?_;have e1:R[s]?=some R[s]:=Qa hs;have e2:Gs[l]?=some Gs[l]:=Qa hl;have m2:=Za hl;rw [qrt e1 e2,qob R[s] (n:=n) (h.nd _ m2) (g.lt _ m2),Zw]
 congr 1
 refine qH fun i hi=>?_;rw [qdr e1];by_cases hm:i ∈ Gs[l]
 ·have:qbj Gs i=l:=by
   obtain ⟨G,hG,hi'⟩:=qii ⟨_,m2,hm⟩;exact h.one _ _ _ _ i hG e2 hi' hm
  rw [if_pos hm,if_pos this,Qbx]
 ·rw [if_neg hm];by_cases hp:qbj Gs i=l
  ·rw [if_pos hp,Qbx];have:=zagt (R:=R) (i:=i) (s:=s) (fun ea=>hm ?_) hs
   ·rw [qdr e1] at this;exact this
   ·obtain ⟨G,hG,hi'⟩:=qii (h.all i hi ea);rw [hp,e2] at hG;cases hG;exact hi'
  ·rw [if_neg hp,Jg]
def zaiu (h:GsPart R n Gs) (g:GsOk R n Gs) {G:List Nat} (hG:G ∈ Gs) {i:Nat} (hi:i ∈ G) {s:Nat}{r:List Int} (hs:R[s]?=some r):qcn r G*(qL R i).sum=(r[i]?).getD 0*(jc R G).sum:=by
 obtain ⟨c,e⟩:=h.pr G hG i hi;have pr:=qwa e;have k1:(jc R G)[s]?=some (qcn r G):=by unfold jc;rw [Qc,hs];rfl
 have k2:(qL R i)[s]?=some ((r[i]?).getD 0):=by unfold qL;rw [Qc,hs];rfl
 have key : ∀ (u v:List Int) (x y:Int),u.length=v.length->(∀ (j:Nat) (a d:Int),u[j]?=some a->v[j]?=some d->x*a=y*d)->x*u.sum=y*v.sum:=by
  intro u
  induction u with
  | nil=>intro v x y hl _;cases v with
   | nil=>simp
   | cons _ _=>simp at hl
  | cons a u ih =>
   intro v x y hl hh;cases v with
   | nil=>simp at hl
   | cons d v =>
    rw [Q5,Q5,Qdg,Qdg,hh 0 a d rfl rfl,ih v x y (by simpa using hl) fun j a d h1 h2=>hh (j+1) a d (by simpa using h1) (by simpa using h2)]
 refine key _ _ _ _ (by unfold qL jc;rw [Qk,Qk]) fun j a d ha hd=>?_;have:=pr s j _ _ _ _ k2 ha k1 hd;grind
def qwe (hT:Tab b R n) (hR:R≠[]) (g:GsOk R n Gs) (h:GsPart R n Gs) {B:Int} (B0:0<B) (hdv : ∀ r ∈ Gs.map (fun G=>qJ R G n),∀ x ∈ r,x.2∣B):Dul b (R.map (qdl Gs)) Gs.length b R n B ((Gs.map fun G=>qJ R G n).map (qP B)):=by
 have jp : ∀ G ∈ Gs,0<(jc R G).sum:=fun G hG=>(qme hT g hG).1;have atD : ∀ {l i:Nat}{G:List Nat},Gs[l]?=some G->i<n->at2 ((Gs.map fun G=>qJ R G n).map (qP B)) l i*(jc R G).sum=B*qG R G i:=fun {l i G} hl hi=>by
  have hG:=Qj hl;have w0:=jp G hG;obtain ⟨s1,e1⟩:=qdp (t:=qG R G i) (b:=(jc R G).sum) (by omega);have dv:shB (qG R G i) (jc R G).sum∣B:=hdv _ (Qm.mpr ⟨G,hG,rfl⟩) (shT (qG R G i) (jc R G).sum,shB (qG R G i) (jc R G).sum) (Qm.mpr ⟨i,Q6.mpr hi,rfl⟩);rw [qhc (r:=qP B (qJ R G n)) (x:=shT (qG R G i) (jc R G).sum*(B/shB (qG R G i) (jc R G).sum)) (by rw [Qc,Qc,hl];rfl) (by unfold qP qJ;rw [Qc,Qc,Q2 hi];rfl)];have q1:=s1.pos;have e2:=Y4 dv;generalize shT (qG R G i) (jc R G).sum=x at *;generalize shB (qG R G i) (jc R G).sum=y at *;generalize B/y=k at *;rw [<- e2];grind
 have tsum : ∀ G ∈ Gs,(qO n fun i=>qG R G i)=(jc R G).sum:=fun G hG=>by
  have e:(qO n fun i=>qG R G i)=qO n fun i=>qO R.length fun s=>if i ∈ G then at2 R s i else 0:=qH fun i hi=>by
   unfold qG;split
   ·unfold qL;rw [<- qbp]
    congr 1
    refine Zs fun s=>?_;rw [Qc,Qc];by_cases hs:s<R.length
    ·rw [Q2 hs,Qa hs];show some _=some (at2 R s i);rw [qdr (Qa hs)]
    ·rw [Qt (by omega),Qt (by simp;omega)];rfl
   ·exact (qed fun _ _=>rfl).symm
  rw [e,qrr];unfold jc;rw [<- qbp]
  congr 1
  refine Zs fun s=>?_;rw [Qc,Qc];by_cases hs:s<R.length
  ·rw [Q2 hs,Qa hs];show some _=some (qcn R[s] G);rw [qob R[s] (n:=n) (h.nd G hG) (g.lt G hG)];refine congrArg some (qH fun i hi=>?_);rw [qdr (Qa hs)]
  ·rw [Qt (l:=R) (by omega),Qt (by simp;omega)];rfl
 have rowOf : ∀ r ∈ (Gs.map fun G=>qJ R G n).map (qP B),∃ (l:Nat) (G:List Nat),Gs[l]?=some G/\r=(Q1 n).map fun i=>at2 ((Gs.map fun G=>qJ R G n).map (qP B)) l i:=fun r hr=>by
  obtain ⟨l,hl⟩:=Yw.mp hr;rw [Zk,Qc] at hl;cases e:Gs[l]? with
  | none=>rw [e] at hl;cases hl
  | some G =>
   rw [e] at hl;cases hl;refine ⟨l,G,e,Zs fun i=>?_⟩;show (qP B (qJ R G n))[i]?=_;rw [Qc];by_cases hi:i<n
   ·rw [Q2 hi];have g1:(qP B (qJ R G n))[i]?=some (shT (qG R G i) (jc R G).sum*(B/shB (qG R G i) (jc R G).sum)):=by unfold qP qJ;rw [Qc,Qc,Q2 hi];rfl
    rw [g1,<- qhc (T:=(Gs.map fun G=>qJ R G n).map (qP B)) (i:=l) (by rw [Qc,Qc,e];rfl) g1];rfl
   ·rw [Qt (by unfold qP qJ;simp;omega),Qt (by simp;omega)];rfl
 refine ⟨⟨by omega,fun r hr=>?_,fun r hr x hx=>?_,fun r hr=>?_⟩,by simp,fun s i hs hi=>?_⟩
 ·obtain ⟨l,G,hl,e⟩:=rowOf r hr;rw [e];simp
 ·obtain ⟨l,G,hl,e⟩:=rowOf r hr;rw [e] at hx;obtain ⟨i,hi,rfl⟩:=Qm.mp hx;have k:=atD hl (Q6.mp hi);have w0:=jp G (Qj hl);have t0:=(zagp hT G i).1;have:0*(jc R G).sum<=at2 ((Gs.map fun G=>qJ R G n).map (qP B)) l i*(jc R G).sum:=by rw [k,Qcg];exact Z9 (by omega) t0
  exact Qbj this w0
 ·obtain ⟨l,G,hl,e⟩:=rowOf r hr;have hG:=Qj hl;have w0:=jp G hG;rw [e,qbp];have:(jc R G).sum*(qO n fun i=>at2 ((Gs.map fun G=>qJ R G n).map (qP B)) l i)=(jc R G).sum*B:=by
   rw [<- qaq,qH (g:=fun i=>B*qG R G i) fun i hi=>by rw [Zw];exact atD hl hi,qaq,tsum G hG,Zw]
  exact Y1 (by omega) this
 ·have hs':s<R.length:=by simpa using hs
  have e1:R[s]?=some R[s]:=Qa hs';rw [qdr e1];by_cases ea:(qL R i).any (· != 0)=true
  ·obtain ⟨G,hG,hm⟩:=h.all i hi ea;obtain ⟨l,hl⟩:=Yw.mp hG;have ll:=(Qg.mp hl).1;have w0:=jp G hG;rw [qjl ll fun l' hl' ne=>?_]
   ·rw [qrt e1 hl];have k1:=atD hl hi;have k2:=zaiu h g hG hm e1;have k3:qG R G i=(qL R i).sum:=if_pos hm;rw [k3] at k1;refine Zc (show (jc R G).sum≠0 by omega) ?_;generalize at2 ((Gs.map fun G=>qJ R G n).map (qP B)) l i=x at *;generalize (jc R G).sum=w at *
    calc b*(qcn R[s] G*x)*w=b*(qcn R[s] G*(x*w)):=by grind
     _=b*B*(qcn R[s] G*(qL R i).sum):=by rw [k1];grind
     _=_:=by rw [k2];grind
   ·have el:Gs[l']?=some Gs[l']:=Qa hl';have k1:=atD el hi;have nm:i ∉ Gs[l']:=fun z=>ne (h.one _ _ _ _ i el hl z hm);rw [show qG R Gs[l'] i=0 from if_neg nm,Jg] at k1;have w1:=jp _ (Za hl');rcases Qln.mp k1 with z|z
    ·rw [z,Jg]
    ·omega
  ·have z:=zagt ea hs';rw [qdr e1] at z;rw [z,Qcg,Qcg,qed fun l hl=>?_,Jg];have el:Gs[l]?=some Gs[l]:=Qa hl;have k1:=atD el hi;have pz:qG R Gs[l] i=0:=by
    unfold qG;split
    ·rename_i hm;obtain ⟨⟨_,x,hx,nx⟩,_⟩:=h.pr _ (Za hl) i hm;exact (ea (Ym.mpr ⟨x,hx,by simpa using nx⟩)).elim
    ·rfl
   rw [pz,Jg] at k1;have w1:=jp _ (Za hl);rcases Qln.mp k1 with z2|z2
   ·rw [z2,Jg]
   ·omega
end
def qza (w:Nat->Int) : ∀ m:Nat,(∀ i,i<m->0<w i) -> ∃ Q:Int,0<Q /\ ∀ i,i<m->w i∣Q
 | 0,_=>⟨1,by decide,fun i hi=>by omega⟩
 | m+1,h=>by
  obtain ⟨Q,q0,hQ⟩:=qza w m fun i hi=>h i (by omega);refine ⟨Q*w m,Z5 q0 (h m (by omega)),fun i hi=>?_⟩;by_cases z:i=m
  ·subst z;exact Qbt _ _
  ·exact Jc (hQ i (by omega)) (Qfr _ _)
def qjw (J:List (List Int)) (i:Nat):Int:=qO J.length fun s=>at2 J s i
structure Ind (J:List (List Int)) (m:Nat):Prop where
 p : ∀ i,i<m->0<qjw J i
 d : ∀ i j,i<m->j<m->(∀ s,s<J.length->at2 J s i*qjw J j=at2 J s j*qjw J i)->i=j
section
variable {b c:Int}{J K:List (List Int)}{m n:Nat}{B C:Int}{D E:List (List Int)}
end
def zarb {R:List (List Int)} (hn : ∀ r ∈ R,∀ x ∈ r,0<=x) {n:Nat}{p:Array Nat} (hp:PmN (grs R n).length p) {a b:Nat}{G G':List Nat} (ea:(p.toList.map fun i=>qco R n i)[a]?=some G) (eb:(p.toList.map fun i=>qco R n i)[b]?=some G') (e:nrm (jc R G)=nrm (jc R G')):a=b:=by
 have h:=qjc hn n;have nd:p.toList.Nodup:=hp.p.nodup_iff.mpr Qgi;rw [Qc] at ea eb;cases e1:p.toList[a]? with
 | none=>rw [e1] at ea;cases ea
 | some i =>
  cases e2:p.toList[b]? with
  | none=>rw [e2] at eb;cases eb
  | some j =>
   rw [e1] at ea;rw [e2] at eb;cases ea;cases eb;have hi:i<(grs R n).length:=Q6.mp (hp.p.mem_iff.mp (Qj e1));have hj:j<(grs R n).length:=Q6.mp (hp.p.mem_iff.mp (Qj e2));have at_ : ∀ {i:Nat} (hi:i<(grs R n).length),nrm (jc R (qco R n i))=(grs R n)[i].1:=fun {i} hi=>by
    have e:qco R n i=(grs R n)[i].2:=by unfold qco;rw [Qa hi];rfl
    have m:=Za hi;rw [e];exact (qsl (h.ne _ m) (h.me _ m)).1
   have e:nrm (jc R (qco R n i))=nrm (jc R (qco R n j)):=e;rw [at_ hi,at_ hj] at e;have ij:i=j:=by
    refine (Qbb (i:=i) (j:=j) (by simpa using hi) h.ky).mp ?_;rw [Qc,Qc,Qa hi,Qa hj];exact congrArg some e
   subst ij;exact (Qbb (Qg.mp e1).1 nd).mp (e1.trans e2.symm)
section
variable {b c:Int}{R S:List (List Int)}{m n:Nat}{Gs Hs:List (List Nat)}
def GrsOf.ok (hT:Tab b R m) (h:GrsOf R m Gs):GsOk R m Gs/\GsPart R m Gs:=by
 obtain ⟨p,hp,hs,rfl⟩:=h;exact ⟨zaku hT.nn hp,zakh hT.nn hp⟩
def qpj {G:List Nat}{l s:Nat} (hl:Gs[l]?=some G) (hs:s<R.length):(jc R G).getD s 0=at2 (R.map (qdl Gs)) s l:=by
 rw [qrt (Qa hs) hl,Zb];unfold jc;rw [Qc,Qa hs];rfl
def qjs {G:List Nat}{l:Nat} (hl:Gs[l]?=some G):qjw (R.map (qdl Gs)) l=(jc R G).sum:=by
 unfold qjw;rw [<- qbp]
 congr 1
 refine Zs fun s=>?_;rw [Qc];by_cases hs:s<R.length
 ·rw [Q2 (by simpa using hs)];show some (at2 (R.map (qdl Gs)) s l)=_;rw [<- qpj hl hs,Qa (by rw [qep];exact hs),Zb,Qa (by rw [qep];exact hs)];rfl
 ·rw [Qt (by simp;omega),Qt (by rw [qep];omega)];rfl
def GrsOf.ind (hT:Tab b R m) (h:GrsOf R m Gs):Ind (R.map (qdl Gs)) Gs.length:=by
 have ok:=(h.ok hT).1;have at_ : ∀ {i:Nat} (hi:i<Gs.length),Gs[i]?=some Gs[i]:=fun hi=>Qa hi;refine ⟨fun i hi=>?_,fun i j hi hj he=>?_⟩
 ·rw [qjs (at_ hi)];exact (qme hT ok (Za hi)).1
 ·have w1:=(qme hT ok (Za hi)).1;have w2:=(qme hT ok (Za hj)).1;have e:nrm (jc R Gs[i])=nrm (jc R Gs[j]):=by
   refine qvq (ok.co _ (Za hi)) (ok.co _ (Za hj)) (by rw [qep,qep]) fun s t x y u v hx hy hu hv=>?_;have hs:s<R.length:=by rw [<- qep R Gs[i]];exact (Qg.mp hx).1
   have ht:t<R.length:=by rw [<- qep R Gs[i]];exact (Qg.mp hy).1
   have r1:=he s (by simpa using hs);have r2:=he t (by simpa using ht);rw [qjs (at_ hi),qjs (at_ hj),<- qpj (at_ hi) hs,<- qpj (at_ hj) hs,Zb,Zb,hx,hu] at r1;rw [qjs (at_ hi),qjs (at_ hj),<- qpj (at_ hi) ht,<- qpj (at_ hj) ht,Zb,Zb,hy,hv] at r2;have r1:x*(jc R Gs[j]).sum=u*(jc R Gs[i]).sum:=r1;have r2:y*(jc R Gs[j]).sum=v*(jc R Gs[i]).sum:=r2;generalize (jc R Gs[i]).sum=w at *;generalize (jc R Gs[j]).sum=z at *;refine Zc (show w*z≠0 from Qdp (Z5 w1 w2)) ?_
   calc x*v*(w*z)=(x*z)*(v*w):=by grind
    _=(u*w)*(y*z):=by rw [r1,r2]
    _=_:=by grind
  obtain ⟨p,hp,_,eG⟩:=h;exact zarb hT.nn hp (eG ▸ at_ hi) (eG ▸ at_ hj) e
end
def Ind.low {b:Int}{J:List (List Int)}{m:Nat} (hJ:Tab b J m) (Jn:J≠[]) (h:Ind J m):Ind (qbe J (qR J)) m:=by
 obtain ⟨g,g0,_,e2⟩:=zafs hJ Jn;have el:(qbe J (qR J)).length=J.length:=by simp [qbe]
 have ec : ∀ i,g*qjw (qbe J (qR J)) i=qjw J i:=fun i=>by
  unfold qjw;rw [el,<- qaq];exact qH fun s _=>e2 s i
 refine ⟨fun i hi=>?_,fun i j hi hj e=>h.d i j hi hj fun s hs=>?_⟩
 ·have:=h.p i hi;rw [<- ec] at this;exact Int.lt_of_mul_lt_mul_left (by rw [Jg];exact this) (Qag g0)
 ·have:=e s (by omega);rw [<- e2 s i,<- e2 s j,<- ec i,<- ec j]
  calc g*at2 (qbe J (qR J)) s i*(g*qjw (qbe J (qR J)) j)=g*g*(at2 (qbe J (qR J)) s i*qjw (qbe J (qR J)) j):=by grind
   _=_:=by rw [this];grind
structure Frm (b:Int) (R:List (List Int)) (n:Nat) (f:Int) (T:List (List Int)) (k:Nat):Prop where
 g : ∃ Gs,GrsOf R n Gs/\qxh b R Gs=qbq f T
 gls:Gls f T k
 len:T.length=R.length
 k1:1<=k
 kn:k<=n
 fb:f<=b
 ind:Ind T k
 d1 : ∃ B D,Dul b R n f T k B D
 d2 : ∃ B D,Dul f T k b R n B D
def frm {b:Int}{R:List (List Int)}{n:Nat}{Gs:List (List Nat)} (hT:Tab b R n) (hR:R≠[]) (hG:GrsOf R n Gs) : ∃ f T k,qxh b R Gs=qbq f T/\Frm b R n f T k:=by
 obtain ⟨ok,pt⟩:=hG.ok hT;have b0:=hT.pos;have tJ:=jTab hT ok;have Jn:R.map (qdl Gs)≠[]:=by simpa using hR
 have g:=tJ.gls Jn;have gp:=g.t.pos;obtain ⟨⟨_,_,d1⟩,⟨_,_,d2⟩⟩:(∃ B D,Dul b (R.map (qdl Gs)) Gs.length (b/qR (R.map (qdl Gs))) (qbe (R.map (qdl Gs)) (qR (R.map (qdl Gs)))) Gs.length B D) /\ ∃ B D,Dul (b/qR (R.map (qdl Gs))) (qbe (R.map (qdl Gs)) (qR (R.map (qdl Gs)))) Gs.length b (R.map (qdl Gs)) Gs.length B D:=by
  obtain ⟨g,g0,e1,e2⟩:=zafs tJ Jn;refine ⟨⟨_,_,Dul.same fun s j _ _=>?_⟩,⟨_,_,Dul.same fun s j _ _=>?_⟩⟩
  ·rw [<- e2 s j];generalize at2 (qbe (R.map (qdl Gs)) (qR (R.map (qdl Gs)))) s j=x;generalize b/qR (R.map (qdl Gs))=b' at e1;rw [<- e1];grind
  ·rw [<- e2 s j];generalize at2 (qbe (R.map (qdl Gs)) (qR (R.map (qdl Gs)))) s j=x;generalize b/qR (R.map (qdl Gs))=b' at e1;rw [<- e1];grind
 obtain ⟨Q,q0,hQ⟩:=qza (fun i=>(jc R ((Gs[i]?).getD [])).sum) Gs.length fun i hi=>by
  show 0<(jc R ((Gs[i]?).getD [])).sum;rw [Qa hi];exact (qme hT ok (Za hi)).1
 have J1:=zaam hT hR ok pt;have J2:=qwe hT hR ok pt q0 fun r hr x hx=>by
  obtain ⟨G,hG,rfl⟩:=Qm.mp hr;obtain ⟨i,hi⟩:=Yw.mp hG;obtain ⟨j,_,rfl⟩:=Qm.mp hx;have:=hQ i (Qg.mp hi).1;rw [hi] at this;exact Jc ⟨_,((Zw _ _).trans (qke _ _)).symm⟩ this
 have lT:(qbe (R.map (qdl Gs)) (qR (R.map (qdl Gs)))).length=R.length:=by simp [qbe]
 have k1:1<=Gs.length:=Qem.mpr (zakq hT hR ok);exact ⟨_,_,Gs.length,rfl,⟨Gs,hG,rfl⟩,g,lT,k1,ok.len,Qgk _ (by omega),(hG.ind hT).low tJ Jn,⟨_,_,J1.trans (by omega) (by simp) d1⟩,⟨_,_,d2.trans (by omega) (by simp [qbe]) J2⟩⟩
section
variable {b c f g:Int}{R S T U:List (List Int)}{m n k l:Nat}
end
def zafj {a b c d:Int} (hb:0<b) (hd:0<d):(shT a b,shB a b)=(shT c d,shB c d)↔a*d=c*b:=by
 obtain ⟨s1,e1⟩:=qdp (t:=a) (b:=b) (by omega);obtain ⟨s2,e2⟩:=qdp (t:=c) (b:=d) (by omega);have q1:=s1.pos;have q2:=s2.pos;constructor
 ·intro h;obtain ⟨h1,h2⟩:=Prod.mk.inj h;rw [<- h1,<- h2] at e2;refine Zc (show shB a b≠0 by omega) ?_
  calc a*d*shB a b=(a*shB a b)*d:=by grind
   _=shT a b*d*b:=by rw [<- e1];grind
   _=_:=by rw [e2];grind
 ·intro h;obtain ⟨h1,h2⟩:=qrw s1 s2 (by
   refine Zc (show b*d≠0 from Qdp (Z5 hb hd)) ?_
   calc shT a b*shB c d*(b*d)=(shT a b*b)*shB c d*d:=by grind
    _=(a*d)*(shB a b*shB c d):=by rw [e1];grind
    _=(c*shB c d)*b*shB a b:=by rw [h];grind
    _=_:=by rw [<- e2];grind)
  rw [h1,h2]
section
variable {W:List Int}{f g:Int}{T U:List (List Int)}{k l j i:Nat}
def zabg (hW:Wgt W) (h:W.length=T.length) (hU:U.length=T.length) (si:0<(lkl W T i).sum) (sj:0<(lkl W U j).sum) (e:qS W T i=qS W U j) : ∀ s,s<T.length->at2 T s i*(lkl W U j).sum=at2 U s j*(lkl W T i).sum:=fun s hs=>by
 have e1:=qrs (j:=i) h hs;have e2:=qrs (W:=W) (T:=U) (j:=j) (by omega) (s:=s) (by omega);rw [e,e2] at e1;have e3:=(zafj sj si).mp (Qx e1);have w:=(hW.at (s:=s) (by omega)).1;refine (Y1 (show (W[s]?).getD 0≠0 by omega) ?_).symm;rw [<- Qjc,<- Qjc];exact e3
def qjy (hW:Wgt W) (h:W.length=T.length) (hT:Tab f T k) (hI:Ind T k) (hj:j<k):0<(lkl W T j).sum:=by
 rw [qnb h];have p:=hI.p j hj;unfold qjw at p;have:(qO T.length fun s=>at2 T s j)<=qO T.length fun s=>(W[s]?).getD 0*at2 T s j:=qkk fun s hs=>by
  have a:=(hW.at (s:=s) (by omega)).1;have b:=qff hT.nn s j;have:=Qdq a b;omega
 omega
def zakm (hW:Wgt W) (h:W.length=T.length) (hT:Tab f T k) (hI:Ind T k) (hi:i<k) (hj:j<k) (e:qS W T i=qS W T j):i=j:=by
 have si:=qjy hW h hT hI hi;have sj:=qjy hW h hT hI hj;have c:=zabg hW h rfl si sj e;refine hI.d i j hi hj fun s hs=>?_;have c2:qjw T i*(lkl W T j).sum=qjw T j*(lkl W T i).sum:=by
  unfold qjw;rw [Zw,<- qaq,Zw (qO _ _),<- qaq];exact qH fun s hs=>by rw [Zw,c s hs,Zw]
 refine Zc (show (lkl W T i).sum≠0 by omega) ?_
 calc at2 T s i*qjw T j*(lkl W T i).sum=at2 T s i*(qjw T j*(lkl W T i).sum):=by grind
  _=at2 T s i*(lkl W T j).sum*qjw T i:=by rw [<- c2];grind
  _=_:=by rw [c s hs];grind
def zact {B:Int}{r r':List (Int×Int)} (B0:0<B) (h : ∀ x ∈ r,Shr x.1 x.2/\x.2∣B) (h' : ∀ x ∈ r',Shr x.1 x.2/\x.2∣B) (e:qP B r=qP B r'):r=r':=by
 refine Zs fun i=>?_;have ei:(qP B r)[i]?=(qP B r')[i]?:=by rw [e]
 unfold qP at ei;rw [Qc,Qc] at ei;cases ex:r[i]? with
 | none =>
  cases ey:r'[i]? with
  | none=>rfl
  | some y=>rw [ex,ey] at ei;cases ei
 | some x =>
  cases ey:r'[i]? with
  | none=>rw [ex,ey] at ei;cases ei
  | some y =>
   rw [ex,ey] at ei;have ei:x.1*(B/x.2)=y.1*(B/y.2):=Qx ei;obtain ⟨s1,d1⟩:=h x (Qj ex);obtain ⟨s2,d2⟩:=h' y (Qj ey);have m1:=Y4 d1;have m2:=Y4 d2;generalize B/x.2=u at *;generalize B/y.2=v at *;obtain ⟨z1,z2⟩:=qrw s1 s2 (by
    refine Zc (show B≠0 by omega) ?_
    calc x.1*y.2*B=(x.1*u)*(x.2*y.2):=by rw [<- m1];grind
     _=y.1*x.2*(y.2*v):=by rw [ei];grind
     _=_:=by rw [m2])
   rw [show x=y from Qmu z1 z2]
def qlo (W:List Int) (T:List (List Int)) (k:Nat):List (List (Int×Int)):=(Q1 k).map (qS W T)
def BlOf (W:List Int) (f:Int) (T:List (List Int)) (k:Nat) (L:List Qi):Prop := ∃ (B:Int) (p:Array Nat),LcmB (qlo W T k) B/\PmN k p/\SrtN (qE (fun i=>qP B (qS W T i)) W.length) p k/\L=p.toList.map (qnn W f T)
def qyn (sj:0<(lkl W T j).sum) {x:Int×Int} (hx:x ∈ qS W T j):Shr x.1 x.2:=by
 obtain ⟨y,_,rfl⟩:=Qm.mp hx;exact (qdp (by omega)).1
def zahl (hW:Wgt W) (h:W.length=T.length) (hT:Tab f T k) (hI:Ind T k) {B:Int} (hB:LcmB (qlo W T k) B):OrdN k (qE (fun i=>qP B (qS W T i)) W.length) /\ ∀ i j,i<k->j<k->i≠j->qP B (qS W T i)≠qP B (qS W T j):=by
 have hd : ∀ i j,i<k->j<k->i≠j->qP B (qS W T i)≠qP B (qS W T j):=fun i j hi hj ne e=>by
  have all : ∀ j,j<k -> ∀ x ∈ qS W T j,Shr x.1 x.2/\x.2∣B:=fun j hj x hx=>⟨qyn (qjy hW h hT hI hj) hx,hB.dv _ (Qm.mpr ⟨j,Q6.mpr hj,rfl⟩) x hx⟩
  exact ne (zakm hW h hT hI hi hj (zact hB.pos (all i hi) (all j hj) e))
 exact ⟨qqd (fun i _=>by unfold qP;rw [Qk,qbm h];omega) hd,hd⟩
end
def qtb {W:List Int} (h:Wgt W):wOk (.tuple (W.map .int))=true:=by
 have l2:=h.l2;have l4:=h.l4;show (decide (2<=(W.map Zq).length)&&decide ((W.map Zq).length<=4)&&(W.map Zq).all qgf)=true;rw [Qk,decide_eq_true l2,decide_eq_true l4,Qhg];show (W.all fun w=>decide (1<=w)&&decide (w<=1000))=true;rw [Zi];intro w hw;rw [decide_eq_true (h.w1 w hw),decide_eq_true (h.w2 w hw)];rfl
def qnc (ds:List Qi) (q:List Qi->Prop):Prop := ∃ (b:Int) (R:List (List Int)) (n:Nat) (W:List Int),ds=[qbq b R,.tuple (W.map .int)]/\(Tab b R n/\W.length=R.length/\Wgt W/\1<=n/\n<=12/\b<=100000) /\ ∀ f T k L,Frm b R n f T k->BlOf W f T k L->q L
def qvc : ∀ (ws:List Int),(∀ w ∈ ws,0<w/\w<=400000000)->0<ws.foldr (· * ·) 1/\(ws.foldr (· * ·) 1).natAbs<=400000000^ws.length /\ ∀ w ∈ ws,w∣ws.foldr (· * ·) 1
 | [],_=>⟨by decide,by decide,fun w hw=>by cases hw⟩
 | w::ws,h=>by
  obtain ⟨a1,a2,a3⟩:=qvc ws fun x hx=>h x (Qs _ hx);obtain ⟨w0,w1⟩:=h w (by simp);rw [Qlm];refine ⟨Z5 w0 a1,?_,fun x hx=>?_⟩
  ·rw [Qia,Zp,Nat.pow_succ,Qkc];exact Qlw a2 (by omega)
  ·rcases Q3.mp hx with rfl|z
   ·exact Qfr _ _
   ·exact Jc (a3 x z) (Qbt _ _)
def qfv:FnScope ["glass","weights","form","found","order"] ["glass","weights"] (defScope qhg):=sc0
def qwi (F:Def K mg "beliefs" qhg ["glass","weights"]) (T:Txt K mg cs)
 (O_table_of_shares:Ok P w K mg base "table_of_shares" 2 ["rows"] (PSp K qac))
 (O_stands:Ok P w K mg base "stands" 1 ["glass"] (PSp K qks))
 (O_signs:Ok P w K mg base "signs" 1 ["glass"] (PSp K qgx))
 (O_least:Ok P w K mg base "least" 5 ["glass"] (qmg [cs.tb] (PSp K qvj)))
 (O_is_weights:Ok P w K mg base "is_weights" 2 ["thing"] (PSp K qbt))
 (O_belief_behind:Ok P w K mg base "belief_behind" 4 ["glass","weights","sign"] (PSp K qeu))
 : Ok P w K mg base "beliefs" 6 ["glass","weights"] (qmg [cs.tb] (FSp K qnc)):=by
  refine F.tvokF qfv (by rintro ds q ⟨_,_,_,_,h,_⟩;rw [h];rfl) fun f cdv A outer s H E hr hTb ds q h=>?_;obtain ⟨b,R,n,W,rfl,⟨hT,hl,hW,n1,n2,hb⟩,h⟩:=h;refine ⟨_,(qg (qY (VW.pt (qei (qap (qan (qy O_is_weights.c hr.m (qa (qc 1) qe)))) (qdw (qA (qyr hr.units) (qm qbh T.len_ L2.boot_len (qa (qc 1) qe)) (qy O_stands.c hr.m (qa (qc 0) qe)))))) qdj qr)
   (qg (qq (i:=2) qfv.nd (qx (qy (O_least.t hTb) hr.m (qa (qc 0) qe)) qf))
   (qg (qsh (caps:=["weights","form"]) (own:=["sign"]) (ix:=[1,2]) (i:=3) qfv.nd rfl ⟨rfl,rfl,rfl,rfl,rfl,rfl⟩ (qam T.range_ (qy O_signs.c hr.m (qa (qc 2) qe))) (fun _ _ _ _=>(qo (i:=2) (show Zn (["weights","form","sign"]:List Str) by decide))) (fun _ _ _ _=>(qy O_belief_behind.c hr.m (qa (qc 1) (qa (qc 0) (qa (qc 2) qe))))))
   (qg (qq (i:=4) qfv.nd (qx (qy O_table_of_shares.c hr.m (qa (qw (qK (caps:=[]) (own:=["part","belief"]) (ix:=[]) rfl ⟨rfl,rfl,rfl,rfl,rfl,rfl⟩ (qQ (qc 3)) (fun _ _ _ _=>(qje (n:=2) rfl (qar (qo (i:=0) (show Zn (["part","belief"]:List Str) by decide)) (qar (qo (i:=1) (show Zn (["part","belief"]:List Str) by decide)) qgh)))) (fun _ _ _ _=>(qc 1)))) qe)) qf))
   (qh (qjq (qK (caps:=[]) (own:=["numbers","row"]) (ix:=[]) rfl ⟨rfl,rfl,rfl,rfl,rfl,rfl⟩ (qQ (qw (zaeh hr.sort.2.1 hr.hd T.sorted_ T.zip_ (qc 4) (qc 3)))) (fun _ _ _ _=>(qje (n:=2) rfl (qar (qo (i:=0) (show Zn (["numbers","row"]:List Str) by decide)) (qar (qo (i:=1) (show Zn (["numbers","row"]:List Str) by decide)) qgh)))) (fun _ _ _ _=>(qc 1))))))))),?_⟩
  have l2:=hW.l2;have l4:=hW.l4;have b0:=hT.pos;have Rn:R≠[]:=fun z=>by rw [z] at hl;rw [hl] at l2;simp at l2
  refine ⟨_,rfl,?_⟩;rw [qtb hW];refine ⟨b,R,rfl,rfl,rfl,qsk (fun z=>(z (by simp [hl])).elim) (fun _=>?_)⟩;refine ⟨b,R,n,rfl,⟨hT,Rn,by omega,n1,n2,qk (qao (by omega) (by omega)) (by decide)⟩,fun Gs B0 hG _=>?_⟩;obtain ⟨f',T',k,ef,fr⟩:=frm hT Rn hG;have tt:=fr.gls.t;have lT:=fr.len;have k1:=fr.k1;have kn:=fr.kn;have fb:=fr.fb;have f0:=tt.pos;have hl':W.length=T'.length:=by omega
  obtain ⟨r0,T0,eT⟩:=Zy (show T'≠[] from fun z=>by rw [z] at hl';rw [hl'] at l2;simp at l2);have lr:r0.length=k:=tt.len r0 (by rw [eT];simp);have sp : ∀ j,j<k->0<(lkl W T' j).sum:=fun j hj=>qjy hW hl' tt fr.ind hj;refine ⟨qbq f' T',by rw [<- ef];rfl,f',r0,T0,by rw [eT],?_⟩;rw [lr];refine ⟨⟨by omega,by omega⟩,qC ((Q1 k).map (qnn W f' T')) (by simp [qN]) (qi (by simp;omega)) (fun e => ∃ s,e=[.val (.tuple (W.map .int)),.val (qbq f' T'),s]) ⟨_,rfl⟩ ?_ ?_⟩
  ·rintro i x ys e hx hys ⟨s,rfl⟩;obtain ⟨hi',rfl⟩:=qct hx;rw [Qcf];have hi2:i<k:=by omega
   refine ⟨f',T',W,k,i,rfl,⟨tt,hl',hW,hi2,by omega,sp i hi2⟩,qu ?_ hys,_,rfl⟩;rw [Qc,Q2 hi2];rfl
  refine qC ((qlo W T' k).map fun r=>Qi.tuple (r.map dS)) (by simp [qlo]) (qi (by simp [qlo];omega)) (fun e => ∃ s t,e=[s,t]) ⟨_,_,rfl⟩ ?_ ?_
  ·rintro i x ys e hx hys ⟨s,t,rfl⟩;rw [Qc] at hx;cases er:(Q1 k)[i]? with
   | none=>rw [er] at hx;cases hx
   | some j =>
    rw [er] at hx;cases hx;refine ⟨rfl,rfl,qu ?_ hys,_,_,rfl⟩;unfold qlo;rw [Qc,Qc,er];rfl
  obtain ⟨w1,w4⟩:=hW.sum;have wb:W.sum*f'<=4000*100000:=Jz w4 (by omega) (by omega) (by omega);have sb : ∀ j,j<k->(lkl W T' j).sum<=400000000:=fun j hj=>by have:=(qpb (j:=j) hW hl' tt).2;omega
  have mem : ∀ {r},r ∈ qlo W T' k -> ∃ j,j<k/\r=qS W T' j:=fun hr=>by
   obtain ⟨j,hj,rfl⟩:=Qm.mp hr;exact ⟨j,Q6.mp hj,rfl⟩
  obtain ⟨d1,d2,d3⟩:=qvc ((Q1 k).map fun j=>(lkl W T' j).sum) fun w hw=>by
   obtain ⟨j,hj,rfl⟩:=Qm.mp hw;exact ⟨sp j (Q6.mp hj),sb j (Q6.mp hj)⟩
  refine ⟨_,qlo W T' k,((Q1 k).map fun j=>(lkl W T' j).sum).foldr (· * ·) 1,rfl,⟨⟨_,rfl,by simp,fun i x hx=>?_⟩,by simp [qlo];omega,fun r hr=>?_,d1,?_⟩,fun B hB=>?_⟩
  ·rw [Qc] at hx;cases e:(qlo W T' k)[i]? with
   | none=>rw [e] at hx;cases hx
   | some r=>rw [e] at hx;cases hx;exact ⟨r,rfl,rfl⟩
  ·obtain ⟨j,hj,rfl⟩:=mem hr;refine ⟨by rw [qbm hl'];omega,fun x hx=>⟨qyn (sp j hj) hx,?_⟩⟩;obtain ⟨y,hy,rfl⟩:=Qm.mp hx;obtain ⟨y0,y1⟩:=qjp hW hl' tt hy;exact ⟨qcu (qk (qao (by omega) (by omega)) (by decide)),Jc ⟨_,((Zw _ _).trans (qke _ _)).symm⟩ (d3 _ (Qm.mpr ⟨j,Q6.mpr hj,rfl⟩))⟩
  ·refine Y5 (y:=400000000^12) ?_ (by decide);refine Zr d2 ?_;rw [Qk,Qjx];exact Qhx (by decide) (by omega)
  obtain ⟨od,df⟩:=zahl hW hl' tt fr.ind hB;have ll:(((qlo W T' k).map (qP B)).map qim).length=k:=by simp [qlo]
  have at_ : ∀ {i:Nat},i<k->(((qlo W T' k).map (qP B)).map qim)[i]?=some (qim (qP B (qS W T' i))):=fun {i} hi=>by
   unfold qlo;rw [Qc,Qc,Qc,Q2 hi];rfl
  refine ⟨_,rfl,((qlo W T' k).map (qP B)).map qim,(Q1 k).map (qnn W f' T'),fun i=>qP B (qS W T' i),W.length,rfl,rfl,by rw [ll];simp,by rw [ll];omega,fun i d hd=>?_,by rw [ll];exact od,fun i j hi hj=>df i j (by rw [ll] at hi;exact hi) (by rw [ll] at hj;exact hj),fun p hp hs=>?_⟩
  ·have hi:i<k:=by rw [<- ll];exact (Qg.mp hd).1
   rw [at_ hi] at hd;cases hd;exact ⟨by unfold qP;rw [Qk,qbm hl'];omega,rfl⟩
  rw [ll] at hp hs;refine qC (p.toList.map (qnn W f' T')) (by simp) (qi (by rw [Qk,Z1,hp.s];omega)) (fun e => ∃ s t,e=[s,t]) ⟨_,_,rfl⟩ ?_ ⟨_,rfl,h f' T' k _ fr ⟨B,p,hB,hp,hs,rfl⟩⟩;rintro i x ys e hx hys ⟨s,t,rfl⟩;rw [Qc] at hx;cases er:p.toList[i]? with
  | none=>rw [er] at hx;cases hx
  | some j =>
   have hj:j<k:=Q6.mp (hp.p.mem_iff.mp (Qj er));have m2:((Q1 k).map (qnn W f' T'))[j]?=some (qnn W f' T' j):=by rw [Qc,Q2 hj];rfl
   rw [er] at hx;have hx:some ((qrp (((qlo W T' k).map (qP B)).map qim) ((Q1 k).map (qnn W f' T'))).getD j .none)=some x:=hx;rw [Zb,qnw (at_ hj) m2] at hx;cases hx;refine ⟨rfl,rfl,qu ?_ hys,_,_,rfl⟩;rw [Qc,er];rfl
def penD (h:Int) (ns:List Int) (pos rest cnt:Int):List Qi:=[.int h,.list (ns.map .int),.int pos,.int rest,.int cnt]
def qcb (p:List Qi):Prop := ∃ (h:Int) (ns:List Int) (pos rest cnt:Int),p=penD h ns pos rest cnt/\(h=0\/(h=1/\ns≠[]))/\ns.length<=63/\0<=pos
def qkw (ds:List Qi) (q:List Qi->Prop):Prop := ∃ ns:List Int,ds=[.list (ns.map .int)]/\ns.length<=63 /\ ∀ p,qcb p->q p
def qgu:FnScope ["_law_script","_law_head"] ["_law_script"] (defScope qfr):=sc0
def qtw (F:Def K mg "_law_pen" qfr ["_law_script"]) (T:Txt K mg cs)
 : Ok P w K mg base "_law_pen" 1 ["_law_script"] (FSp K qkw):=by
  refine F.vokF qgu (by rintro ds q ⟨_,h,_⟩;rw [h];rfl) fun f cdv A outer s H E hr ds q h=>?_;obtain ⟨ns,rfl,hl,h⟩:=h;refine ⟨_,(qg (qq (i:=1) qgu.nd qf)
   (qew (qY (qA o_gt (qm qbh T.len_ L2.boot_len (qa (qc 0) qe)) qf) (qh (qq (i:=1) qgu.nd (qx (qc 0) qf))) qr)
   (qh (qjq (qaw (qa (qt qgk (qc 1) qf) (qa (qc 0) (qa qf (qa (qt qhf (qc 1) qf) (qa qf qe)))))))))),?_⟩
  refine ⟨fun e => ∃ c:Int,e=[.val (.list (ns.map .int)),.val (.int c)]/\(ns=[]->c=0),?_,?_⟩
  ·refine qey (fun z=>?_) (fun z=>⟨0,rfl,fun _=>rfl⟩);have hn:0<ns.length:=by simpa using z
   obtain ⟨n,en⟩:=qoe (ns:=ns) (i:=0) (by decide) (by omega);refine ⟨_,en,n,rfl,fun z=>?_⟩;rw [z] at hn;simp at hn
  ·rintro e ⟨c,rfl,hc⟩;refine ⟨by decide,⟨by decide,by decide⟩,szl,_,rfl,h _ ⟨c%2,ns,0,c/2,0,rfl,?_,hl,by decide⟩⟩;by_cases hn:ns=[]
   ·left;rw [hc hn];rfl
   ·have:c%2=0\/c%2=1:=by omega
    rcases this with z|z
    ·exact .inl z
    ·exact .inr ⟨z,hn⟩
def qhs (ds0 ds:List Qi) (q:Qi->List Qi->Prop):Prop := ∃ (h:Int) (ns:List Int) (pos rest cnt:Int),ds0=penD h ns pos rest cnt/\ds=[]/\(ns≠[]/\ns.length<=63/\0<=pos) /\ ∀ x:Int,q (.int x) (penD h ns (pos+1) rest cnt)
def qda:FnScope ["_law_pen_here","_law_cell","_law_number"] ["_law_pen_here"] (defScope qec):=sc0
def qph (F:Def K mg "_law_mixed" qec ["_law_pen_here"]) (T:Txt K mg cs)
 : Ok P w K mg base "_law_mixed" 1 ["_law_pen_here"] (NSp K qhs):=by
  refine F.vokP qda (by rintro ds0 ds q ⟨_,_,_,_,_,_,h,_⟩;rw [h];rfl) (by decide) fun f cdv A outer s H E hr ds0 ds q h=>?_;obtain ⟨hh,ns,pos,rest,cnt,rfl,rfl,⟨hn,hl,hp⟩,h⟩:=h;refine ⟨_,(qg (qfb 0 (qt qbc (qcc 0 qf) qf) qf)
   (qg (qq (i:=1) qda.nd (qx (qcc 0 qf) (qt qgk (qcc 0 qf) (qm qbh T.len_ L2.boot_len (qa (qcc 0 qf) qe)))))
   (qg (qq (i:=2) qda.nd (qt qgk (qt qbg (qt qbc (qt qbc (qt qgk (qc 1) qf) (qt qbg qf (qcc 0 qf))) qf) qf) qf))
   (qg (qq (i:=2) qda.nd (qt qgk (qt qbg (qc 2) (qt qbc (qt qbc (qt qgk (qc 2) qf) (qcc 0 qf)) qf)) qf))
   (qh (qp (qt qhf (qt qgk (qt qbg (qc 2) qf) qf) qf))))))),?_⟩
  have hn0:0<(((ns.map Zq).length:Nat):Int):=by
   have:=Qem.mpr hn;simp;omega
  have hm0:=Qco (pos+1) (show (((ns.map Zq).length:Nat):Int)≠0 by omega);have hm1:=Qaw (pos+1) hn0;obtain ⟨c,ec⟩:=qoe (ns:=ns) (i:=(pos+1)%(((ns.map Zq).length:Nat):Int)) hm0 (by simpa using hm1);refine ⟨rfl,rfl,_,rfl,rfl,rfl,2,rfl,?_⟩;refine ⟨rfl,rfl,_,rfl,rfl,rfl,_,rfl,rfl,rfl,_,rfl,hn0,_,ec,?_⟩;refine ⟨by decide,rfl,rfl,_,rfl,Qbu (by decide),Qjy (by decide),by decide,?_⟩;have b0:0<=(c%2147483629+40503*(pos+1)+1)*48271%2147483647/\(c%2147483629+40503*(pos+1)+1)*48271%2147483647<2147483647:=⟨Qco _ (by decide),Qaw _ (by decide)⟩
  refine ⟨by decide,rfl,rfl,_,rfl,Qbu (qao (by omega) (by omega)),by decide,?_⟩;exact ⟨Qjy (by decide),by decide,⟨by decide,by decide⟩,_,_,rfl,rfl,h _⟩
def qay (ds0 ds:List Qi) (q:Qi->List Qi->Prop):Prop := ∃ m:Int,ds=[.int m]/\qcb ds0/\(0<m/\intBits m<=9000) /\ ∀ (x:Int) (p:List Qi),0<=x->x<m->qcb p->q (.int x) p
def qit:FnScope ["_law_pen_here","_law_many","_law_found"] ["_law_pen_here","_law_many"] (defScope qel):=sc0
def qrb (F:Def K mg "_law_next" qel ["_law_pen_here","_law_many"]) (T:Txt K mg cs)
 (O__law_mixed:Ok P w K mg base "_law_mixed" 1 ["_law_pen_here"] (NSp K qhs))
 : Ok P w K mg base "_law_next" 2 ["_law_pen_here","_law_many"] (NSp K qay):=by
  refine F.vokP qit (by rintro ds0 ds q ⟨_,h,_⟩;rw [h];rfl) (by decide) fun f cdv A outer s H E hr ds0 ds q h=>?_;obtain ⟨m,rfl,⟨hh,ns,pos,rest,cnt,rfl,h01,hl,hp⟩,⟨m0,mz⟩,h⟩:=h;refine ⟨_,(qg (qY (qA (qgw hr.units) (qcc 0 qf) qf) (qh (qp (qt qgk (qaf 0 O__law_mixed.c hr.m qe) (qc 1)))) qr)
   (qew (qY (qA (qgw hr.units) (qcc 0 qf) qf) (qg (qfb 0 (qt qbc (qcc 0 qf) qf) qf)
   (qg (qfb 0 qf qf)
   (qew (qY (qA o_lt (qcc 0 qf) (qm qbh T.len_ L2.boot_len (qa (qcc 0 qf) qe))) (qh (qfb 0 (qx (qcc 0 qf) (qcc 0 qf)) qf)) qr)
   (qh (qfb 0 qf qf))))) qr)
   (qg (qfb 0 (qt qbc (qcc 0 qf) qf) qf)
   (qg (qq (i:=2) qit.nd (qt qgk (qcc 0 qf) (qc 1)))
   (qg (qfb 0 (qt qhf (qcc 0 qf) (qc 1)) qf)
   (qh (qp (qc 2)))))))),?_⟩
  refine ⟨rfl,rfl,_,rfl,rfl,rfl,qcr (fun z=>?_) (fun z=>?_)⟩
  ·have hn:ns≠[]:=by
    rcases h01 with q|⟨_,q⟩
    ·omega
    ·exact q
   refine ⟨rfl,rfl,hh,ns,pos,rest,cnt,rfl,rfl,⟨hn,hl,hp⟩,fun x=>⟨m0,_,_,rfl,rfl,h _ _ (Qco _ (by omega)) (Qaw _ m0) ⟨hh,ns,pos+1,rest,cnt,rfl,h01,hl,by omega⟩⟩⟩
  ·refine ⟨fun e => ∃ pos rest cnt t,e=[.pen (penD hh ns pos rest cnt),.val (.int m),t]/\0<=pos,?_,?_⟩
   ·refine ⟨rfl,rfl,_,rfl,rfl,rfl,qcr (fun _=>?_) (fun _=>⟨pos,rest,cnt,_,rfl,hp⟩)⟩;refine ⟨rfl,rfl,_,rfl,rfl,rfl,2,rfl,rfl,rfl,3,rfl,?_⟩;refine ⟨fun e => ∃ rest t,e=[.pen (penD hh ns (pos+1) rest cnt),.val (.int m),t],?_,?_⟩
    ·refine ⟨rfl,rfl,_,rfl,rfl,rfl,_,rfl,qey (fun hlt=>?_) (fun _=>⟨_,_,rfl⟩)⟩;obtain ⟨c,ec⟩:=qoe (ns:=ns) (i:=pos+1) (by omega) (by simpa using hlt);exact ⟨rfl,rfl,_,rfl,rfl,rfl,_,rfl,_,ec,rfl,rfl,3,rfl,_,_,rfl⟩
    ·rintro e ⟨rest,t,rfl⟩;exact ⟨rfl,rfl,4,rfl,_,_,_,_,rfl,by omega⟩
   ·rintro e ⟨pos,rest,cnt,t,rfl,hp⟩;refine ⟨rfl,rfl,_,rfl,rfl,rfl,4,rfl,?_⟩;refine ⟨rfl,rfl,_,rfl,m0,?_⟩;refine ⟨rfl,rfl,_,rfl,⟨m0,mz⟩,rfl,rfl,3,rfl,?_⟩;exact ⟨_,_,rfl,rfl,h _ _ (Qco _ (by omega)) (Qaw _ m0) ⟨hh,ns,pos,_,_,rfl,h01,hl,hp⟩⟩
def qux (g:Nat) : ∀ (r:List Int) (h:Nat),qW (Qaa g h) r=Qaa g (qW h r)
 | [],h=>rfl
 | n::r,h=>by
  have e:Yr ((Qaa g h:Nat):Int) n=Qaa g (Yr (h:Int) n):=by
   show Qaa (Qaa g h) n.natAbs=Qaa g (Qaa h n.natAbs);exact Nat.gcd_assoc g h n.natAbs
  show qW (Yr ((Qaa g h:Nat):Int) n) r=Qaa g (qW (Yr (h:Int) n) r);rw [e,qux g r]
def zaen (g:Nat) (r:List Int):qW g r=Qaa g (qW 0 r):=by
 have:=qux g r 0
 rwa [Qjb] at this
def qqo : ∀ (R:List (List Int)) (g:Nat),qW g (R.map fun r=>((qW 0 r:Nat):Int))=R.foldl qW g
 | [],g=>rfl
 | r::R,g=>by
  show qW (Yr (g:Int) ((qW 0 r:Nat):Int)) (R.map fun r=>((qW 0 r:Nat):Int))=R.foldl qW (qW g r);rw [zaen g r];exact qqo R _
def qdq (ds:List Qi) (q:Qi->Prop):Prop := ∃ (d:Qi) (ns:List Int),ds=[d]/\qcs d=some (ns.map .int)/\q (.int (qW 0 ns:Nat))
def qba:FnScope ["_law_numbers","_law_found","_law_number","_law_other"] ["_law_numbers"] (defScope qcm):=sc0
def qlu (F:Def K mg "_law_divisor" qcm ["_law_numbers"]) (T:Txt K mg cs)
 : Ok P w K mg base "_law_divisor" 1 ["_law_numbers"] (PSp K qdq):=by
  refine F.vok qba (by rintro ds q ⟨_,_,h,_⟩;rw [h];rfl) fun f cdv A outer s H E hr ds q h=>?_;obtain ⟨d,ns,rfl,hd,h⟩:=h;refine ⟨_,(qg (qq (i:=1) qba.nd qf)
   (qg (qef rfl (qQ (qc 0)) (qo (i:=2) qba.nd) (qg (qq (i:=3) qba.nd (qm zahh T.abs_ L2.boot_abs (qa (qc 2) qe)))
   (qh (qvd (qA o_gt (qc 3) qf) (qh (zamz (i:=1) (j:=3) rfl qba.nd (qa (qc 3) (qa (qt qgk (qc 1) (qc 3)) qe))))))))
   (qh (qp (qc 1))))),?_⟩
  refine qax hd ⟨fun i e => ∃ t2 t3,e=[.val d,.val (.int (qW 0 (ns.take i):Nat)),t2,t3],⟨_,_,rfl⟩,?_,?_⟩
  ·rintro i x e hx ⟨t2,t3,rfl⟩;obtain ⟨n,rfl,h5,_⟩:=qdt hx;refine ⟨fun m e => ∃ x y:Int,e=[.val d,.val (.int x),.val (.int n),.val (.int y)]/\0<=x/\0<=y/\Qaa x.toNat y.toNat=qW 0 (ns.take (i+1))/\m=y.toNat,⟨_,_,_,rfl,by omega,by split <;> omega,?_,rfl⟩,?_⟩
   ·rw [qqj h5,qpw];have e1:(if n<0 then -n else n).toNat=n.natAbs:=by split <;> omega
    rw [e1];rfl
   ·rintro m e ⟨x,y,rfl,hx0,hy0,hg,rfl⟩;refine qey (fun hgt=>?_) (fun hle=>?_)
    ·obtain ⟨t1,t2,t3⟩:=quq hx0 hy0 (by omega) hg;exact ⟨by omega,(x%y).toNat,by omega,y,x%y,rfl,hy0,t1,t3,rfl⟩
    ·have hy:y=0:=by omega
     have:=qys hx0 hy hg;exact ⟨_,_,by rw [this]⟩
  ·rintro e ⟨t2,t3,rfl⟩;rw [Qk,Yt];exact h
def qoo {R:List (List Int)}{i:Nat}{x:Qi}{f:List Int->Qi} (h:(R.map f)[i]?=some x) : ∃ r,R[i]?=some r/\x=f r:=by
 rw [Qc] at h;cases hr:R[i]? with
 | none=>rw [hr] at h;cases h
 | some r=>rw [hr] at h;exact ⟨r,rfl,(Qx h).symm⟩
def qfs (ds:List Qi) (q:Qi->Prop):Prop := ∃ (b:Int) (R:List (List Int)) (n:Nat),ds=[.int b,qst R]/\(Tab b R n/\R≠[]/\R.length<=900/\n<=900/\intBits b<=9000)/\q (qwm b R)
def qca:FnScope ["_law_bottom","_law_rows","_law_both","_law_found","_law_row_here"] ["_law_bottom","_law_rows"] (defScope qcl):=sc0
def qlz (F:Def K mg "_law_reduced" qcl ["_law_bottom","_law_rows"]) (T:Txt K mg cs)
 (O__law_divisor:Ok P w K mg base "_law_divisor" 1 ["_law_numbers"] (PSp K qdq))
 : Ok P w K mg base "_law_reduced" 2 ["_law_bottom","_law_rows"] (PSp K qfs):=by
  refine F.vok qca (by rintro ds q ⟨_,_,_,h,_⟩;rw [h];rfl) fun f cdv A outer s H E hr ds q h=>?_;obtain ⟨b,R,n,rfl,⟨hT,hR,hl,hn,zb⟩,h⟩:=h;refine ⟨_,(qg (qq (i:=2) qca.nd (qy O__law_divisor.c hr.m (qa (qw (qK (caps:=[]) (own:=["_law_row_here"]) (ix:=[]) rfl ⟨rfl,rfl,rfl,rfl,rfl,rfl⟩ (qQ (qc 1)) (fun _ _ _ _=>(qo (i:=0) (show Zn (["_law_row_here"]:List Str) by decide))) (fun _ _ _ _=>(qy O__law_divisor.c hr.m (qa (qc 0) qe))))) qe)))
   (qg (qrx (i:=3) qca.nd (qaw qe))
   (qg (qef rfl (qQ (qc 1)) (qo (i:=4) qca.nd) (qh (qqn 3 (qad qdu T.tuple_ L2.boot_tuple (qa (qw (qK (caps:=["_law_both"]) (own:=["_law_number"]) (ix:=[2]) rfl ⟨rfl,rfl,rfl,rfl,rfl,rfl⟩ (qQ (qc 4)) (fun _ _ _ _=>(qo (i:=1) (show Zn (["_law_both","_law_number"]:List Str) by decide))) (fun _ _ _ _=>(qt qhf (qc 1) (qc 0))))) qe)))))
   (qsm 3 (qh (qp (qT (qa (qt qhf (qc 0) (qc 2)) (qa (qad qdu T.tuple_ L2.boot_tuple (qa (qc 3) qe)) qe))))))))),?_⟩
  have g0:=hT.gpos hR;have zg:intBits (qR R:Int)<=9000:=by
   refine Y5 ?_ zb;have:=hT.pos;exact Qcp (by omega) (V3.mpr (hT.gdvd hR))
  show _/\_;refine qC (ds:=R.map qkb) ((R.map fun r=>((qW 0 r:Nat):Int)).map .int) (by simp) (qi (by simp;omega)) (fun e => ∃ s,e=[s]) ⟨_,rfl⟩ ?_ ?_
  ·rintro i x ys e hx hys ⟨s,rfl⟩;obtain ⟨r,hr',rfl⟩:=qoo hx;refine ⟨_,r,rfl,rfl,qu ?_ hys,_,rfl⟩;rw [Qc,Qc,hr'];rfl
  ·refine ⟨_,_,rfl,rfl,?_⟩;rw [qqo R 0];show (fun z=>z) _;refine ⟨szl,⟨fun i e => ∃ t4 l,e=[.val (.int b),.val (qst R),.val (.int (qR R)),.own l,t4]/\l=((qbe R (qR R)).take i).map qim,⟨_,_,rfl,rfl⟩,?_,?_⟩⟩
   ·rintro i x e hx ⟨t4,l,rfl,rfl⟩;obtain ⟨r,hr',rfl⟩:=qoo hx;have hrl:=hT.len r (qer hr');refine ⟨rfl,?_⟩;show _/\_;refine qC ((r.map fun n=>n/(qR R:Int)).map .int) (by simp) (qi (by simp;omega)) (fun e => ∃ s,e=[.val (.int (qR R)),s]) ⟨_,rfl⟩ ?_ ⟨rfl,?_,?_⟩
    ·rintro j y ys e hy hys ⟨s,rfl⟩;obtain ⟨z,rfl,hz,_⟩:=qdt hy;refine ⟨⟨by omega,zg⟩,qu ?_ hys,_,rfl⟩;rw [Qc,Qc,hz];rfl
    ·show (Qmx qim _).length<_;rw [Qk];refine qi (Zr (Qhy _ _) ?_);unfold qbe;rw [Qk];omega
    ·refine ⟨_,_,rfl,?_⟩;have e2:(qbe R (qR R))[i]?=some (r.map fun n=>n/(qR R:Int)):=by unfold qbe;rw [Qc,hr'];rfl
     rw [Vd,e2];simp only [Qjd,Zu,Q7,Qaf];rfl
   ·rintro e ⟨t4,l,rfl,rfl⟩;have e3:(R.map qkb).length=(qbe R (qR R)).length:=by simp [qbe]
    rw [e3,Yt];exact ⟨⟨by omega,zg⟩,szl,h⟩
def qlh (ds0 ds:List Qi) (q:Qi->List Qi->Prop):Prop := ∃ (wd:Nat) (b:Int),ds=[.int wd,.int b]/\qcb ds0/\(1<=wd/\wd<=60/\1<=b/\b<=999999) /\ ∀ (r:List Int) (p:List Qi),r.length=wd->(∀ x ∈ r,0<=x)->r.sum=b->qcb p->q (qkb r) p
def qle:FnScope ["_law_pen_here","_law_width","_law_bottom","_law_cuts"] ["_law_pen_here","_law_width","_law_bottom"] (defScope qfy):=sc0
def qtt (F:Def K mg "_law_row" qfy ["_law_pen_here","_law_width","_law_bottom"]) (T:Txt K mg cs)
 (O__law_next:Ok P w K mg base "_law_next" 2 ["_law_pen_here","_law_many"] (NSp K qay))
 : Ok P w K mg base "_law_row" 3 ["_law_pen_here","_law_width","_law_bottom"] (NSp K qlh):=by
  refine F.vokP qle (by rintro ds0 ds q ⟨_,_,h,_⟩;rw [h];rfl) (by decide) fun f cdv A outer s H E hr ds0 ds q h=>?_;obtain ⟨wd,b,rfl,hP,⟨w1,w2,b1,b2⟩,h⟩:=h;refine ⟨_,(qg (qq (i:=3) qle.nd (qw (zadj zaeo T.sorted_ L2.boot_sorted (qa (qw (quf (caps:=["_law_pen_here","_law_bottom"]) (own:=["_law_k"]) (ix:=[0,2]) (i0:=0) (j0:=0) rfl ⟨rfl,rfl,rfl,rfl,rfl,rfl⟩ (qam T.range_ (qt qmw (qc 1) qf)) (fun _ _ _ _=>(qo (i:=2) (show Zn (["_law_pen_here","_law_bottom","_law_k"]:List Str) by decide))) (fun _ _ _ _=>(qaf 0 O__law_next.c hr.m (qa (qt qbc (qc 1) qf) qe))) (qon rfl))) qe))))
   (qh (qp (qw (qK (caps:=[]) (own:=["_law_low","_law_high"]) (ix:=[]) rfl ⟨rfl,rfl,rfl,rfl,rfl,rfl⟩ (qya T.zip_ (qw (qcy (qw (qaw (qa qf qe))) (qc 3))) (qw (qcy (qc 3) (qw (qaw (qa (qc 2) qe)))))) (fun _ _ _ _=>(qje (n:=2) rfl (qar (qo (i:=0) (show Zn (["_law_low","_law_high"]:List Str) by decide)) (qar (qo (i:=1) (show Zn (["_law_low","_law_high"]:List Str) by decide)) qgh)))) (fun _ _ _ _=>(qt qmw (qc 1) (qc 0)))))))),?_⟩
  refine ⟨⟨by omega,by omega⟩,?_⟩;refine ⟨qi (by rw [qN];omega),rfl,fun i ys e => ∃ cs:List Int,ys=cs.map .int/\cs.length=i/\(∀ c ∈ cs,0<=c/\c<=b) /\ ∃ p t,qcb p/\e=[.pen p,.val (.int b),t],⟨[],rfl,rfl,by simp,_,_,hP,rfl⟩,?_,?_⟩
  ·rintro i d ys e hd ⟨cs,rfl,hc1,hc2,p,t,hp,rfl⟩;refine ⟨rfl,rfl,b+1,rfl,hp,⟨by omega,qk (qao (by omega) (by omega)) (by decide)⟩,fun x p' x0 x1 hp'=>?_⟩;refine ⟨cs++[x],by simp,by simp [hc1],fun c hc=>?_,p',_,hp',rfl⟩;rcases Zl.mp hc with hc|hc
   ·exact hc2 c hc
   ·rw [Qw.mp hc];omega
  ·rintro ys e ⟨cs,rfl,hc1,hc2,p,t,hp,rfl⟩;rw [qN] at hc1;refine ⟨p,rfl,cs,rfl,by omega,fun ns hperm hsort=>?_⟩;have hn : ∀ c ∈ ns,0<=c/\c<=b:=fun c hc=>hc2 c (hperm.mem_iff.mp hc);have hl:=hperm.length_eq;obtain ⟨d1,d2,d3⟩:=quv ns 0 b hsort hn (by omega);refine ⟨szl,?_,szl,?_,?_⟩
   ·simp only [Qk,Zp,J5];exact qve (by omega)
   ·simp only [Qk,Zp,J5];exact qve (by omega)
   show _/\_;have ea:[Zq 0]++ns.map Zq=(0::ns).map Zq:=rfl;have eb:ns.map Zq++[Zq b]=(ns++[b]).map Zq:=by simp
   rw [ea,eb];refine qC ((qnk 0 ns b).map .int) (by simp [qfa,d1]) (qi (by rw [Qk,d1];omega)) (fun e => ∃ s t,e=[s,t]) ⟨_,_,rfl⟩ ?_ ⟨_,_,rfl,rfl,h _ p (by omega) d2 (by omega) hp⟩;rintro i x ys e hx hys ⟨s,t,rfl⟩;obtain ⟨x,y,h3,h4,rfl⟩:=qum hx;obtain ⟨x,rfl,h5,_⟩:=qdt h3;obtain ⟨y,rfl,h6,_⟩:=qdt h4;refine ⟨rfl,rfl,qu ?_ hys,_,_,rfl⟩;unfold qnk;rw [Qc,Qhe,h5,h6];rfl
def qhx (ds0 ds:List Qi) (q:Qi->List Qi->Prop):Prop := ∃ (b:Int) (R:List (List Int)) (n:Nat),ds=[qst R]/\qcb ds0/\(Tab b R n/\1<=R.length/\R.length<=60/\1<=n/\n<=60/\b<=999999) /\ ∀ (k:Int) (R':List (List Int)) (p:List Qi),2<=k->k<=4->Tab (b*k) R' (n+1)->R'.length=R.length->qcb p->q (qst R') p
def qaa:FnScope ["_law_pen_here","_law_rows","_law_at","_law_parts","_law_some","_law_to","_law_found","_law_row_here","_law_wide"] ["_law_pen_here","_law_rows"] (defScope qdz):=sc0
def qpp (F:Def K mg "_law_split" qdz ["_law_pen_here","_law_rows"]) (T:Txt K mg cs)
 (O__law_next:Ok P w K mg base "_law_next" 2 ["_law_pen_here","_law_many"] (NSp K qay))
 : Ok P w K mg base "_law_split" 3 ["_law_pen_here","_law_rows"] (NSp K qhx):=by
  refine F.vokP qaa (by rintro ds0 ds q ⟨_,_,_,h,_⟩;rw [h];rfl) (by decide) fun f cdv A outer s H E hr ds0 ds q h=>?_;obtain ⟨b,R,n,rfl,hP,⟨hT,r1,r2,n1,n2,hb⟩,h⟩:=h;refine ⟨_,(qg (qq (i:=2) qaa.nd (qaf 0 O__law_next.c hr.m (qa (qm qbh T.len_ L2.boot_len (qa (qx (qc 1) qf) qe)) qe)))
   (qg (qq (i:=3) qaa.nd (qt qbc qf (qaf 0 O__law_next.c hr.m (qa qf qe))))
   (qg (qq (i:=4) qaa.nd (qt qbc qf (qaf 0 O__law_next.c hr.m (qa (qt qmw (qc 3) qf) qe))))
   (qg (qq (i:=5) qaa.nd (qaf 0 O__law_next.c hr.m (qa (qt qbc (qm qbh T.len_ L2.boot_len (qa (qx (qc 1) qf) qe)) qf) qe)))
   (qg (qrx (i:=6) qaa.nd (qaw qe))
   (qg (qef rfl (qQ (qc 1)) (qo (i:=7) qaa.nd) (qg (que (caps:=["_law_parts"]) (own:=["_law_number"]) (ix:=[3]) (i:=8) qaa.nd rfl ⟨rfl,rfl,rfl,rfl,rfl,rfl⟩ (qQ (qc 7)) (fun _ _ _ _=>(qo (i:=1) (show Zn (["_law_parts","_law_number"]:List Str) by decide))) (fun _ _ _ _=>(qt qbg (qc 1) (qc 0))))
   (qg (qfb 8 (qt qbg (qx (qc 7) (qc 2)) (qc 4)) (qc 2))
   (qg (zaaj 8 (qc 5) (qt qbg (qx (qc 7) (qc 2)) (qt qmw (qc 3) (qc 4))))
   (qsm 8 (qh (qqn 6 (qc 8))))))))
   (qsm 6 (qh (qp (qc 6)))))))))),?_⟩
  have hRn:R≠[]:=fun z=>by rw [z] at r1;simp at r1
  obtain ⟨r0,R0,eR⟩:=Zy hRn;have l0:r0.length=n:=hT.len r0 (by rw [eR];simp);have aR:atI (R.map qkb) 0=some (qkb r0):=by rw [eR];exact qjo _ _
  have eN:(((r0.map Zq).length:Nat):Int)=(n:Int):=by simp [l0]
  have sm : ∀ {z:Int},0<z->z<=1000000->intBits z<=9000:=fun h1 h2=>qk (qao (by omega) (by omega)) (by decide);refine ⟨rfl,_,aR,rfl,_,rfl,hP,⟨by omega,sm (by omega) (by omega)⟩,fun xa p1 xa0 xa1 hp1=>?_⟩;refine ⟨rfl,rfl,3,rfl,hp1,⟨by decide,by decide⟩,fun xk p2 xk0 xk1 hp2=>?_⟩;refine ⟨rfl,rfl,_,rfl,hp2,⟨by omega,sm (by omega) (by omega)⟩,fun xs p3 xs0 xs1 hp3=>?_⟩;refine ⟨rfl,_,aR,rfl,_,rfl,hp3,⟨by omega,sm (by omega) (by omega)⟩,fun xt p4 xt0 xt1 hp4=>?_⟩;obtain ⟨a,rfl⟩:=Vt xa0;obtain ⟨to,rfl⟩:=Vt xt0;have ha:a<n:=by omega
  have hto:to<=n:=by omega
  have hsp : ∀ r ∈ R,(qde r (2+xk) (1+xs) a to).length=n+1/\(∀ x ∈ qde r (2+xk) (1+xs) a to,0<=x)/\(qde r (2+xk) (1+xs) a to).sum=b*(2+xk):=fun r hr=>by
   have e1:=hT.len r hr;obtain ⟨q1,q2,q3⟩:=zaed (r:=r) (k:=2+xk) (s:=1+xs) (a:=a) (t:=to) (by omega) (by omega) (hT.nn r hr) (by omega) (by omega);exact ⟨by omega,q2,by rw [q3,hT.sum r hr]⟩
  have hT':Tab (b*(2+xk)) (R.map fun r=>qde r (2+xk) (1+xs) a to) (n+1):=by
   have bp:=hT.pos;refine ⟨?_,fun r hr=>?_,fun r hr=>?_,fun r hr=>?_⟩
   ·have:=Z5 (show 0<b by omega) (show 0<2+xk by omega);omega
   all_goals (obtain ⟨s',hs',rfl⟩:=Qm.mp hr)
   ·exact (hsp s' hs').1
   ·exact (hsp s' hs').2.1
   ·exact (hsp s' hs').2.2
  refine ⟨szl,⟨fun i e => ∃ t7 t8 l,e=[.pen p4,.val (qst R),.val (.int a),.val (.int (2+xk)),.val (.int (1+xs)),.val (.int to),.own l,t7,t8]/\l=((R.map fun r=>qde r (2+xk) (1+xs) a to).take i).map qkb,⟨_,_,_,rfl,rfl⟩,?_,?_⟩⟩
  ·rintro i x e hx ⟨t7,t8,l,rfl,rfl⟩;obtain ⟨r,hr',rfl⟩:=qoo hx;have hrm:=qer hr';have hrl:=hT.len r hrm;have bz : ∀ x ∈ r,intBits x<=64:=fun x hx=>by
    have:=hT.le hrm hx;exact qao (by omega) (by omega)
   show _/\_;refine ⟨qi (by simp;omega),fun j ys e=>ys=(((r.map fun n=>n*(2+xk)).map Zq).take j) /\ ∃ s,e=[.val (.int (2+xk)),s],⟨by simp,_,rfl⟩,?_,?_⟩
   ·rintro j y ys e hy ⟨hys,s,rfl⟩;obtain ⟨z,rfl,hz,hzm⟩:=qdt hy;refine ⟨Qbu (bz z hzm),qu ?_ hys,_,rfl⟩;rw [Qc,Qc,hz];rfl
   rintro ys0 e0 ⟨hys0,s0,rfl⟩;rw [show (r.map Zq).length=((r.map fun n=>n*(2+xk)).map Zq).length by simp,Yt] at hys0;subst hys0;have har:a<r.length:=by omega
   have era:=Qa har;have zra:=bz _ (Za har);have aa:atI (r.map Zq) (a:Int)=some (.int r[a]):=qdv (by rw [Qc,era];rfl);have ix:ixN (((r.map fun n=>n*(2+xk)).map Zq)).length (a:Int)=some a:=by
    unfold ixN;rw [Qk,Qk,if_pos (by omega),if_pos (by omega)];rfl
   refine ⟨_,aa,Qbu zra,rfl,rfl,a,ix,?_⟩;refine ⟨rfl,_,aa,Qbu zra,rfl,⟨by omega,?_,?_⟩,?_⟩
   ·show (to:Int)<=(((((r.map fun n=>n*(2+xk)).map Zq).set a (.int (r[a]*(1+xs))))).length:Nat);simp;omega
   ·show (((r.map fun n=>n*(2+xk)).map Zq).set a (.int (r[a]*(1+xs)))).length<_;exact qi (by simp;omega)
   have es:qio (((r.map fun n=>n*(2+xk)).map Zq).set a (.int (r[a]*(1+xs)))) (Qmp (to:Int)) (.int (r[a]*(2+xk-(1+xs))))=(qde r (2+xk) (1+xs) a to).map .int:=by
    unfold qde qio;rw [era];simp only [Qbr,J9,Zu,Q7,Qje,Qgd,Qhh]
   refine ⟨rfl,rfl,?_,_,_,_,rfl,?_⟩
   ·show (Qmx qkb _).length<_;rw [Qk];exact qi (Zr (Qhy _ _) (by simp;omega))
   ·have e3:(R.map fun r=>qde r (2+xk) (1+xs) a to)[i]?=some (qde r (2+xk) (1+xs) a to):=by rw [Qc,hr'];rfl
    rw [Vd,e3];simp only [Qjd,Zu,Q7,Qaf];show Qmx qkb _++[Qgb (qio (((r.map fun n=>n*(2+xk)).map Zq).set a (.int (r[a]*(1+xs)))) (Qmp (to:Int)) (.int (r[a]*(2+xk-(1+xs)))))]=_;rw [es];rfl
  ·rintro e ⟨t7,t8,l,rfl,rfl⟩;have e3:(R.map qkb).length=(R.map fun r=>qde r (2+xk) (1+xs) a to).length:=by simp
   rw [e3,Yt];exact ⟨_,_,rfl,rfl,h _ _ p4 (by omega) (by omega) hT' (by simp) hp4⟩
def qhy (ds0 ds:List Qi) (q:Qi->List Qi->Prop):Prop := ∃ (many most far:Int),ds=[.int many,.int most,.int far]/\qcb ds0/\(1<=many/\many<=4/\1<=most/\most<=12/\1<=far/\far<=60) /\
 ∀ (b:Int) (R:List (List Int)) (n:Nat) (p:List Qi),Gls b R n->b<=9999->R.length=many->1<=n->n<=most->qcb p->q (qbq b R) p
def qbb:FnScope ["_law_pen_here","_law_many","_law_most","_law_far","_law_width","_law_bottom","_law_rows","_law_time"] ["_law_pen_here","_law_many","_law_most","_law_far"] (defScope qeb):=sc0
def qot (F:Def K mg "_law_table" qeb ["_law_pen_here","_law_many","_law_most","_law_far"]) (T:Txt K mg cs)
 (O__law_next:Ok P w K mg base "_law_next" 2 ["_law_pen_here","_law_many"] (NSp K qay))
 (O__law_reduced:Ok P w K mg base "_law_reduced" 2 ["_law_bottom","_law_rows"] (PSp K qfs))
 (O__law_row:Ok P w K mg base "_law_row" 3 ["_law_pen_here","_law_width","_law_bottom"] (NSp K qlh))
 (O__law_split:Ok P w K mg base "_law_split" 3 ["_law_pen_here","_law_rows"] (NSp K qhx))
 : Ok P w K mg base "_law_table" 4 ["_law_pen_here","_law_many","_law_most","_law_far"] (NSp K qhy):=by
  refine F.vokP qbb (by rintro ds0 ds q ⟨_,_,_,h,_⟩;rw [h];rfl) (by decide) fun f cdv A outer s H E hr ds0 ds q h=>?_;obtain ⟨many,most,far,rfl,hP,⟨m1,m2,o1,o2,f1,f2⟩,h⟩:=h;refine ⟨_,(qg (qq (i:=4) qbb.nd (qt qbc qf (qaf 0 O__law_next.c hr.m (qa (qc 2) qe))))
   (qg (qq (i:=5) qbb.nd (qt qbc qf (qaf 0 O__law_next.c hr.m (qa (qc 3) qe))))
   (qg (zafd (caps:=["_law_pen_here","_law_width","_law_bottom"]) (own:=["_law_k"]) (ix:=[0,4,5]) (i0:=0) (j0:=0) (i:=6) qbb.nd rfl ⟨rfl,rfl,rfl,rfl,rfl,rfl⟩ (qam T.range_ (qc 1)) (fun _ _ _ _=>(qo (i:=3) (show Zn (["_law_pen_here","_law_width","_law_bottom","_law_k"]:List Str) by decide))) (fun _ _ _ _=>(qaf 0 O__law_row.c hr.m (qa (qc 1) (qa (qc 2) qe)))) (qon rfl))
   (qg (qef rfl (qam T.range_ (qt qhf (qaf 0 O__law_next.c hr.m (qa qf qe)) qf)) (qo (i:=7) qbb.nd) (qh (qY (qA o_lt (qm qbh T.len_ L2.boot_len (qa (qx (qc 6) qf) qe)) (qc 2)) (qh (qq (i:=6) qbb.nd (qaf 0 O__law_split.c hr.m (qa (qc 6) qe)))) qr)))
   (qh (qp (qy O__law_reduced.c hr.m (qa (qm (qmy rfl) T.sum_ L2.boot_sum (qa (qx (qc 6) qf) qe)) (qa (qc 6) qe))))))))),?_⟩
  have sm : ∀ {z:Int},0<z->z<=1000000->intBits z<=9000:=fun h1 h2=>qk (qao (by omega) (by omega)) (by decide);refine ⟨rfl,rfl,most,rfl,hP,⟨by omega,sm (by omega) (by omega)⟩,fun xw p1 w0 w1 hp1=>?_⟩;refine ⟨rfl,rfl,far,rfl,hp1,⟨by omega,sm (by omega) (by omega)⟩,fun xb p2 b0 b1 hp2=>?_⟩;obtain ⟨wd,ew⟩:=Vt (show 0<=1+xw by omega);refine ⟨⟨by omega,by omega⟩,qi (by rw [qN];omega),rfl,fun i ys e => ∃ R:List (List Int),ys=R.map qkb/\R.length=i/\Tab (1+xb) R wd /\ ∃ p t,qcb p/\e=[.pen p,.val (.int (1+xw)),.val (.int (1+xb)),t],⟨[],rfl,rfl,⟨by omega,by simp,by simp,by simp⟩,_,_,hp2,rfl⟩,?_,?_⟩
  ·rintro i d ys e hd ⟨R,rfl,hR,hT,p,t,hp,rfl⟩;refine ⟨rfl,rfl,wd,1+xb,by rw [<- ew],hp,⟨by omega,by omega,by omega,by omega⟩,fun r p' r1 r2 r3 hp'=>?_⟩;refine ⟨R++[r],by simp,by simp [hR],⟨by omega,?_,?_,?_⟩,p',_,hp',rfl⟩
   ·intro r' hr';rcases Zl.mp hr' with h|h
    ·exact hT.len r' h
    ·rw [Qw.mp h];exact r1
   ·intro r' hr';rcases Zl.mp hr' with h|h
    ·exact hT.nn r' h
    ·rw [Qw.mp h];exact r2
   ·intro r' hr';rcases Zl.mp hr' with h|h
    ·exact hT.sum r' h
    ·rw [Qw.mp h];exact r3
  ·rintro ys e ⟨R,rfl,hR,hT,p3,t,hp3,rfl⟩;rw [qN] at hR;refine ⟨p3,rfl,rfl,rfl,6,rfl,hp3,⟨by decide,by decide⟩,fun xt p4 t0 t1 hp4=>?_⟩;refine ⟨⟨by decide,by decide⟩,⟨by omega,by omega⟩,?_⟩;refine ⟨fun i e => ∃ (b:Int) (R':List (List Int)) (n:Nat) (p:List Qi) (t:Sl),e=[.pen p,.val (.int many),.val (.int most),.val (.int far),.val (.int (1+xw)),.val (.int (1+xb)),.val (qst R'),t]/\qcb p/\Tab b R' n/\R'.length=R.length/\1<=n/\n<=most/\b<=60*4^i,⟨_,R,wd,_,_,rfl,hp4,hT,rfl,by omega,by omega,by omega⟩,?_,?_⟩
   ·rintro i d e hd ⟨b,R',n,p,t,rfl,hp,hT',hl,n1,n2,hb⟩;obtain ⟨hi,rfl⟩:=qct hd;have hRn:R'≠[]:=fun z=>by rw [z] at hl;simp at hl;omega
    obtain ⟨r0,R0,eR⟩:=Zy hRn;have l0:r0.length=n:=hT'.len r0 (by rw [eR];simp);have aR:atI (R'.map qkb) 0=some (qkb r0):=by rw [eR];exact qjo _ _
    have eN:(((r0.map Zq).length:Nat):Int)=(n:Int):=by simp [l0]
    have hi3:i<3:=by omega
    have hb3:b<=999999:=by
     have:i=0\/i=1\/i=2:=by omega
     rcases this with rfl|rfl|rfl <;> omega
    refine ⟨_,aR,qey (fun hlt=>?_) (fun hge=>?_)⟩
    ·refine ⟨rfl,rfl,b,R',n,rfl,hp,⟨hT',by omega,by omega,n1,by omega,hb3⟩,fun k R2 p' k1 k2 hT2 hl2 hp'=>?_⟩;refine ⟨b*k,R2,n+1,p',_,rfl,hp',hT2,by omega,by omega,by omega,?_⟩;have bp:=hT'.pos;have e1:b*k<=b*4:=Qdt k2 (by omega);have:i=0\/i=1\/i=2:=by omega
     rcases this with rfl|rfl|rfl <;> omega
    ·refine ⟨b,R',n,p,_,rfl,hp,hT',hl,n1,n2,?_⟩;have:i=0\/i=1\/i=2:=by omega
     rcases this with rfl|rfl|rfl <;> omega
   ·rintro e ⟨b,R',n,p,t,rfl,hp,hT',hl,n1,n2,hb⟩;rw [qN] at hb;have hRn:R'≠[]:=fun z=>by rw [z] at hl;simp at hl;omega
    obtain ⟨r0,R0,eR⟩:=Zy hRn;have aR:atI (R'.map qkb) 0=some (qkb r0):=by rw [eR];exact qjo _ _
    have hs0:r0.sum=b:=hT'.sum r0 (by rw [eR];simp);have hb3:b<=9999:=by
     have:(xt/2).toNat=0\/(xt/2).toNat=1\/(xt/2).toNat=2:=by omega
     rcases this with z|z|z <;> rw [z] at hb <;> omega
    have bp:=hT'.pos;have hL:=hT'.gls hRn;refine ⟨_,aR,r0,rfl,r0.sum,R',n,rfl,⟨by rw [hs0];exact hT',hRn,by omega,by omega,by rw [hs0];exact sm (by omega) (by omega)⟩,?_⟩;rw [hs0];refine ⟨_,_,rfl,rfl,h _ _ n p hL (Int.le_trans (Qgk _ (by omega)) hb3) ?_ n1 n2 hp⟩;unfold qbe;rw [Qk];omega
def qkz (C:Addr) (ds:List Qi) (q:Qi->Prop) (e:Addr->Prop):Prop := ∃ (b:Int) (R:List (List Int)) (d:Qi),ds=[qbq b R,d]/\(wOk d=false \/ ∃ l,d = .tuple l/\wOk d=true/\l.length≠R.length)/\e C
def qpd:FnScope ["glass","weights","form","found","order"] ["glass","weights"] (defScope qdx):=sc0
def qpc (F:Def K mg "beliefs" qdx ["glass","weights"]) (T:Txt K mg cs)
 (O_stands:Ok P w K mg base "stands" 1 ["glass"] (PSp K qks))
 (O_is_weights:Ok P w K mg base "is_weights" 2 ["thing"] (PSp K qbt))
 : OkX P w K mg base "beliefs" 3 ["glass","weights"] (qmg [cs.tb] (XSp K (qkz cs.NoFit))):=by
  refine F.tvokX qpd (by rintro ds q e ⟨_,_,_,h,_⟩;rw [h];rfl) fun f cdv A outer s H E hr hp ht hTb ds q e h=>?_;obtain ⟨b,R,d,rfl,h1,h⟩:=h;refine ⟨_,(qal (qov (VW.pt (qei (qap (qan (qy O_is_weights.c hr.m (qa (qc 1) qe)))) (qdw (qA (qyr hr.units) (qm qbh T.len_ L2.boot_len (qa (qc 1) qe)) (qy O_stands.c hr.m (qa (qc 0) qe)))))) (qal (qhi ht rfl T.NoFit_ T.NoFit_x.exc (qa qcd qe))
   (qbs qr)) (qbs qr))
   (qbs qdj)),?_⟩
  refine ⟨d,rfl,?_⟩;rcases h1 with h1|⟨l,rfl,h1,h2⟩
  ·rw [h1];exact ⟨szl,h⟩
  ·rw [h1];exact ⟨b,R,rfl,rfl,rfl,qsk (fun _=>⟨szl,h⟩) (fun z=>(h2 (by omega)).elim)⟩
def qky (ds:List Qi) (k:Qi->Prop):Prop := ∃ p q,ds=[dSh p q]/\Shr p q/\k (.bool true)
def qtf:FnScope ["thing"] ["thing"] (defScope qga):=sc0
def qti (F:Def K mg "is_share" qga ["thing"]) (T:Txt K mg cs)
 (O_divisor:Ok P w K mg base "divisor" 1 ["one","other"] (PSp K qdi))
 (O_is_whole:Ok P w K mg base "is_whole" 1 ["thing"] (PSp K qdm))
 : Ok P w K mg base "is_share" 2 ["thing"] (PSp K qky):=by
  refine F.vok qtf (by rintro ds q ⟨_,_,h,_⟩;rw [h];rfl) fun f cdv A outer s H E hr ds k h=>?_;obtain ⟨p,q,rfl,hp,h⟩:=h;refine ⟨_,(qg (qY (VW.pt (qei (qap (qan (qja T.isinstance_ T.tuple_ L2.boot_tuple (qc 0)))) (qdw (qA (qyr hr.units) (qm qbh T.len_ L2.boot_len (qa (qc 0) qe)) qf)))) (qh (qp qih)) qr)
   (qg (qY (VW.pt (qei (qap (qan (qy O_is_whole.c hr.m (qa (qx (qc 0) qf) qe)))) (qdw (qap (qan (qy O_is_whole.c hr.m (qa (qx (qc 0) qf) qe))))))) (qh (qp qih)) qr)
   (qh (qp (qor (qgi o_ge (qx (qc 0) qf) qf) (qos (qgi (qgw hr.units) (qy O_divisor.c hr.m (qa (qx (qc 0) qf) (qa (qx (qc 0) qf) qe))) qf))))))),?_⟩
  have hq:=hp.pos;refine ⟨rfl,rfl,_,rfl,_,rfl,_,rfl,?_⟩;refine qey (fun _=>⟨_,rfl,_,rfl,rfl,rfl,?_⟩) (fun z=>(z hq).elim);rw [hp.gcd];exact h
def qbz (ds:List Qi) (k:Qi->Prop):Prop := ∃ p q r s,ds=[dSh p q,dSh r s]/\(Shr p q/\Shr r s)/\k .none
def qlv:FnScope ["one","other"] ["one","other"] (defScope qck):=sc0
def qls (F:Def K mg "check_shares" qck ["one","other"]) (T:Txt K mg cs)
 (O_is_share:Ok P w K mg base "is_share" 2 ["thing"] (PSp K qky))
 : Ok P w K mg base "check_shares" 3 ["one","other"] (PSp K qbz):=by
  refine F.vok qlv (by rintro ds q ⟨_,_,_,_,h,_⟩;rw [h];rfl) fun f cdv A outer s H E hr ds k h=>?_;obtain ⟨p,q,r,s,rfl,⟨hp,hr'⟩,h⟩:=h;refine ⟨_,(qh (qY (VW.pt (qei (qap (qan (qy O_is_share.c hr.m (qa (qc 0) qe)))) (qdw (qap (qan (qy O_is_share.c hr.m (qa (qc 1) qe))))))) qdj qr)),?_⟩;exact ⟨p,q,rfl,hp,r,s,rfl,hr',h⟩
def quu (ds:List Qi) (k:Qi->Prop):Prop := ∃ p q r s,ds=[dSh p q,dSh r s]/\(ShW p q/\ShW r s)/\k (dSh (shT (p*s+r*q) (q*s)) (shB (p*s+r*q) (q*s)))
def zafe:FnScope ["one","other"] ["one","other"] (defScope qnq):=sc0
def zaej (F:Def K mg "added" qnq ["one","other"]) (T:Txt K mg cs)
 (O_reduced:Ok P w K mg base "reduced" 2 ["top","bottom"] (PSp K qeg))
 (O_check_shares:Ok P w K mg base "check_shares" 3 ["one","other"] (PSp K qbz))
 : Ok P w K mg base "added" 4 ["one","other"] (PSp K quu):=by
  refine F.vok zafe (by rintro ds q ⟨_,_,_,_,h,_⟩;rw [h];rfl) fun f cdv A outer s H E hr ds k h=>?_;obtain ⟨p,q,r,s,rfl,⟨hp,hr'⟩,h⟩:=h;refine ⟨_,(qg (qrq (qy O_check_shares.c hr.m (qa (qc 0) (qa (qc 1) qe))))
   (qh (qp (qy O_reduced.c hr.m (qa (qt qbc (qt qbg (qx (qc 0) qf) (qx (qc 1) qf)) (qt qbg (qx (qc 1) qf) (qx (qc 0) qf))) (qa (qt qbg (qx (qc 0) qf) (qx (qc 1) qf)) qe)))))),?_⟩
  exact ⟨p,q,r,s,rfl,⟨hp.s,hr'.s⟩,_,rfl,_,rfl,qif hp.b1 hr'.b2,_,rfl,_,rfl,qif hr'.b1 hp.b2,_,rfl,_,rfl,qif hp.b2 hr'.b2,hp.bot hr',h⟩
def qhe (ds:List Qi) (q:Qi->Prop):Prop := ∃ (d:Qi) (l:List (Int×Int)) (x:List Int) (w:Int),ds=[d]/\(qcs d=some (l.map dS)/\l.length<=900/\x.length=l.length/\(∀ (i:Nat) (a:Int×Int) (y:Int),l[i]?=some a->x[i]?=some y->Shr a.1 a.2/\a.1*w=a.2*y/\0<=y/\intBits a.1<=400/\intBits a.2<=400)/\x.sum<=2*w/\0<w/\intBits w<=400) /\ ∀ P Q,Shr P Q->P*w=Q*x.sum->q (dSh P Q)
def take_le' {x:List Int} (h : ∀ y ∈ x,0<=y) (i:Nat):0<=(x.take i).sum/\(x.take i).sum<=x.sum:=by
 have e:(x.take i).sum+(x.drop i).sum=x.sum:=by rw [<- Yd,Qaz]
 have nn : ∀ l:List Int,(∀ y ∈ l,0<=y)->0<=l.sum:=fun l hl=>by
  induction l with
  | nil=>simp
  | cons y l ih=>rw [Q5];have:=hl y (by simp);have:=ih fun z hz=>hl z (Qs _ hz);omega
 have a:=nn (x.take i) fun y hy=>h y (Qdx hy);have b:=nn (x.drop i) fun y hy=>h y (Qdy hy);omega
def shr_le' {P Q w X:Int} (s:Shr P Q) (e:P*w=Q*X) (w0:0<w) (x0:0<=X) (xw:X<=2*w):Q∣w/\0<=P/\P<=2*Q:=by
 have q:=s.pos;refine ⟨qnv s.gcd ⟨X,e⟩,?_,?_⟩
 ·refine Qbj ?_ w0;rw [Qcg,e];exact Z9 (by omega) x0
 ·refine Qbj ?_ w0;rw [e];have:=Qdt xw (show 0<=Q by omega);have e2:Q*(2*w)=2*Q*w:=by grind
  omega
def qhl:FnScope ["some","total","one"] ["some"] (defScope qjk):=sc0
def zabd (F:Def K mg "summed" qjk ["some"]) (T:Txt K mg cs)
 (O_added:Ok P w K mg base "added" 4 ["one","other"] (PSp K quu))
 : Ok P w K mg base "summed" 5 ["some"] (PSp K qhe):=by
  refine F.vok qhl (by rintro ds q ⟨_,_,_,_,h,_⟩;rw [h];rfl) fun f cdv A outer s H E hr ds q h=>?_;obtain ⟨d,l,x,w,rfl,⟨e,hl,xl,hx,xw,w0,zw⟩,h⟩:=h;refine ⟨_,(qg (qq (i:=1) qhl.nd (qT (qa qf (qa qf qe))))
   (qg (qef rfl (qQ (qc 0)) (qo (i:=2) qhl.nd) (qh (qq (i:=1) qhl.nd (qy O_added.c hr.m (qa (qc 1) (qa (qc 2) qe))))))
   (qh (qp (qc 1))))),?_⟩
  have nn : ∀ y ∈ x,0<=y:=fun y hy=>by
   obtain ⟨i,hi⟩:=Yw.mp hy;have hi':i<l.length:=by rw [<- xl];exact (Qg.mp hi).1
   exact (hx i l[i] y (Qa hi') hi).2.2.1
  refine ⟨szl,qax e ⟨fun i e => ∃ P Q t,e=[.val d,.val (dSh P Q),t]/\Shr P Q/\P*w=Q*(x.take i).sum,⟨0,1,_,rfl,⟨by decide,rfl⟩,by simp⟩,?_,?_⟩⟩
  ·rintro i y e hy ⟨P,Q,t,rfl,s,eq⟩;obtain ⟨a,ha,rfl⟩:=shG hy;have hi:i<x.length:=by rw [xl];exact (Qg.mp ha).1
   obtain ⟨a0,ea,y0,z1,z2⟩:=hx i a x[i] ha (Qa hi);have a1:=a0.pos;obtain ⟨t0,t1⟩:=take_le' nn i;obtain ⟨qd,P0,PQ⟩:=shr_le' s eq w0 t0 (by omega);have q1:=s.pos;have zQ:intBits Q<=400:=dvdB qd w0 zw;have zP:intBits P<=410:=qzm P0 PQ (qk (J0 (m:=2) (by decide) zQ) (by decide));have up : ∀ {x:Int},intBits x<=400->intBits x<=4000:=fun h=>qk h (by decide);have n0:0<Q*a.2:=Z5 (by omega) (by omega);refine ⟨P,Q,a.1,a.2,rfl,⟨⟨s,qk zP (by decide),up zQ⟩,⟨a0,up z1,up z2⟩⟩,_,_,_,rfl,(qdp (by omega)).1,?_⟩;have e2:=(qdp (t:=P*a.2+a.1*Q) (b:=Q*a.2) (by omega)).2;rw [zakv (Qa hi),Yd];simp only [Q5,Qfa,Qkf];generalize shT (P*a.2+a.1*Q) (Q*a.2)=u at *;generalize shB (P*a.2+a.1*Q) (Q*a.2)=v at *;generalize (x.take i).sum=X at *;generalize x[i]=y at *;refine Zc (show Q*a.2≠0 by omega) ?_
   calc u*w*(Q*a.2)=(u*(Q*a.2))*w:=by grind
    _=(P*w*a.2+a.1*w*Q)*v:=by rw [e2];grind
    _=(Q*X*a.2+a.2*y*Q)*v:=by rw [eq,ea]
    _=_:=by grind
  ·rintro e ⟨P,Q,t,rfl,s,eq⟩;rw [Qk,<- xl,Yt] at eq;exact h P Q s eq
structure ShD (p q:Int):Prop where
 s:Shr p q
 b1:intBits p<=1000
 b2:intBits q<=1000
def ShD.ok {p q r s:Int} (h:ShD p q) (k:ShD r s):IntMulOk p s:=qif (qk h.b1 (by decide)) (qk k.b2 (by decide))
def qud (ds:List Qi) (k:Qi->Prop):Prop := ∃ p q r s,ds=[dSh p q,dSh r s]/\(ShD p q/\ShD r s)/\k (.bool (decide (p*s<r*q)))
def zadv:FnScope ["one","other"] ["one","other"] (defScope qnr):=sc0
def zadt (F:Def K mg "below" qnr ["one","other"]) (T:Txt K mg cs)
 (O_check_shares:Ok P w K mg base "check_shares" 3 ["one","other"] (PSp K qbz))
 : Ok P w K mg base "below" 4 ["one","other"] (PSp K qud):=by
  refine F.vok zadv (by rintro ds q ⟨_,_,_,_,h,_⟩;rw [h];rfl) fun f cdv A outer s H E hr ds k h=>?_;obtain ⟨p,q,r,s,rfl,⟨hp,hr'⟩,h⟩:=h;refine ⟨_,(qg (qrq (qy O_check_shares.c hr.m (qa (qc 0) (qa (qc 1) qe))))
   (qh (qp (qgi o_lt (qt qbg (qx (qc 0) qf) (qx (qc 1) qf)) (qt qbg (qx (qc 1) qf) (qx (qc 0) qf)))))),?_⟩
  exact ⟨p,q,r,s,rfl,⟨hp.s,hr'.s⟩,_,rfl,_,rfl,hp.ok hr',_,rfl,_,rfl,hr'.ok hp,h⟩
def Shp (n:Nat) (d:Qi):Prop:=d.canLay0=true/\d.depth<=n
def qzk {n:Nat} : ∀ {l:List Qi},(∀ x ∈ l,Shp n x)->J8 l=true/\Qhi l<=n
 | [],_=>by simp [J8,Qhi]
 | x::l,h=>by
  obtain ⟨a,b⟩:=qzk fun y hy=>h y (Qs _ hy);obtain ⟨c,d⟩:=h x (by simp);rw [J8,Qhi,a,c];exact ⟨rfl,by omega⟩
def zajd (i:Int) (n:Nat):Shp n (.int i):=by simp [Shp,Qdl,Qmq]
def zaio {n:Nat}{l:List Qi} (h : ∀ x ∈ l,Shp n x):Shp (n+1) (.tuple l):=by
 obtain ⟨a,b⟩:=qzk h;rw [Shp,Qdl,Qmq];exact ⟨a,by omega⟩
def zaeq (ns:List Int) (n:Nat) : ∀ x ∈ ns.map Zq,Shp n x:=fun x hx=>by
 obtain ⟨i,_,rfl⟩:=Qm.mp hx;exact zajd i n
def Shp.ok {n:Nat}{d:Qi} (h:Shp n d) (hn:n<=64:=by decide):Js d=true:=by
 unfold Js;rw [h.1,decide_eq_true (Zr h.2 hn)];rfl
def Shp.refl {n:Nat}{d:Qi} (h:Shp n d):Vi d d=true:=SeqAt.eqv_refl d h.1
def qpf (p q:Int):Shp 1 (dSh p q):=zaio (zaeq [p,q] 0)
def Wgt.le (h:Wgt W) {x:Int} (hx:x ∈ W):x<=W.sum:=qcz (fun y hy=>by have:=h.w1 y hy;omega) hx
section
variable {W:List Int}{f:Int}{T:List (List Int)}{k:Nat}{p:Array Nat}
def zaae (hT:Tab f T k) (hp:PmN k p) {s:Nat} (hs:s<T.length) (w:Int):(p.toList.map fun j=>w*at2 T s j).sum=w*f:=by
 rw [qvi (qxo hp fun j=>w*at2 T s j),qbp,qaq,hT.rs hs]
end
abbrev Rw:=(Int×Int)×List (Int×Int)
def dR (r:Rw):Qi :=.tuple [dS r.1,.tuple (r.2.map dS)]
structure RwOk (r:Rw) (x:List Int) (w:Int):Prop where
 a:Shr r.1.1 r.1.2
 za:intBits r.1.1<=100/\intBits r.1.2<=100
 l:x.length=r.2.length
 l5:r.2.length<=5
 w0:0<w
 zw:intBits w<=100
 s:x.sum<=2*w
 o : ∀ (i:Nat) (b:Int×Int) (y:Int),r.2[i]?=some b->x[i]?=some y->Shr b.1 b.2/\b.1*w=b.2*y/\intBits b.1<=100/\intBits b.2<=100
def isB (r:Rw) (x:List Int) (w:Int) (n:Int):Bool:=decide (0<r.1.1)&&(decide ((r.2.length:Int)=n)&&((x.all fun y=>decide (0<=y))&&decide (x.sum=w)))
def sg {b w q y:Int} (w0:0<w) (q0:0<q) (e:b*w=q*y):b<0↔y<0:=by
 constructor
 ·intro h;have:=Int.mul_neg_of_neg_of_pos h w0;rcases Qce y 0 with z|z
  ·exact z
  ·have:=Z9 (show 0<=q by omega) z;omega
 ·intro h;have:=Int.mul_neg_of_pos_of_neg q0 h;rcases Qce b 0 with z|z
  ·exact z
  ·have:=Z9 z (show 0<=w by omega);omega
def qxz {r:Rw}{x:List Int}{w n:Int} (h:isB r x w n=true):(r.2.length:Int)=n:=by
 unfold isB at h;rw [Ys,Ys] at h;exact of_decide_eq_true h.2.1
def qro {P Q w X:Int} (w0:0<w) (s:Shr P Q) (e:P*w=Q*X):(P=1/\Q=1)↔X=w:=by
 have q1:=s.pos;constructor
 ·rintro ⟨rfl,rfl⟩;omega
 ·rintro rfl;have PQ:P=Q:=Zc (show X≠0 by omega) e;have g:=s.gcd;rw [PQ,Int.gcd_self] at g;omega
def qyv (P Q:Int):Vi (dSh P Q) (dSh 1 1)=(decide (P=1)&&decide (Q=1)):=by
 unfold dSh;rw [Vi,Qjf,Qjf,Qjf,Vi,Vi,Bool.and_true];rfl
def qfn (ds:List Qi) (q:Qi->Prop):Prop := ∃ (r:Rw) (x:List Int) (w n:Int),ds=[dR r,.int n]/\RwOk r x w/\q (.bool (isB r x w n))
def qiz:FnScope ["row","many","none"] ["row","many"] (defScope qeo):=sc0
def qrj (F:Def K mg "is_belief" qeo ["row","many"]) (T:Txt K mg cs)
 (O_share:Ok P w K mg base "share" 3 ["top","bottom"] (PSp K qfe))
 (O_summed:Ok P w K mg base "summed" 5 ["some"] (PSp K qhe))
 (O_below:Ok P w K mg base "below" 4 ["one","other"] (PSp K qud))
 : Ok P w K mg base "is_belief" 6 ["row","many"] (PSp K qfn):=by
  refine F.vok qiz (by rintro ds q ⟨_,_,_,_,h,_⟩;rw [h];rfl) fun f cdv A outer s H E hr ds q h=>?_;obtain ⟨r,x,w,n,rfl,ok,h⟩:=h;refine ⟨_,(qg (qq (i:=2) qiz.nd (qy O_share.c hr.m (qa qf (qa qf qe))))
   (qg (qY (VW.pt (qei (qap (qan (qy O_below.c hr.m (qa (qc 2) (qa (qx (qc 0) qf) qe))))) (qdw (qA (qyr hr.units) (qm qbh T.len_ L2.boot_len (qa (qx (qc 0) qf) qe)) (qc 1))))) (qh (qp qih)) qr)
   (qh (qp (qor (qxk (qm (zapy rfl) T.any_ L2.boot_any (qa (qw (qK (caps:=["none"]) (own:=["part"]) (ix:=[2]) rfl ⟨rfl,rfl,rfl,rfl,rfl,rfl⟩ (qQ (qx (qc 0) qf)) (fun _ _ _ _=>(qo (i:=1) (show Zn (["none","part"]:List Str) by decide))) (fun _ _ _ _=>(qy O_below.c hr.m (qa (qc 1) (qa (qc 0) qe)))))) qe))) (qos (qgi (qgw hr.units) (qy O_summed.c hr.m (qa (qx (qc 0) qf) qe)) (qT (qa qf (qa qf qe)))))))))),?_⟩
  have e0:shT 0 1=0/\shB 0 1=1:=by decide
  have z0:ShD (shT 0 1) (shB 0 1):=⟨(qdp (by decide)).1,by rw [e0.1];decide,by rw [e0.2];decide⟩
  have zp:ShD r.1.1 r.1.2:=⟨ok.a,qk ok.za.1 (by decide),qk ok.za.2 (by decide)⟩
  have ll:=ok.l5;refine ⟨⟨by decide,by decide⟩,_,rfl,shT 0 1,shB 0 1,r.1.1,r.1.2,rfl,⟨z0,zp⟩,?_⟩;have iff:shT 0 1*r.1.2<r.1.1*shB 0 1↔0<r.1.1:=by rw [e0.1,e0.2];omega
  by_cases c1:0<r.1.1
  ·refine zacg (iff.mpr c1) ?_;refine ⟨_,rfl,rfl,rfl,qsk (fun z=>?_) (fun c2=>?_)⟩
   ·have e:isB r x w n=false:=by
     unfold isB;rw [decide_eq_false (p:=(r.2.length:Int)=n) (fun y=>z (by rw [Qk];exact y)),Jd,Ya]
    rw [e] at h;exact h
   have c2:(r.2.length:Int)=n:=by rw [Qk] at c2;exact c2
   refine ⟨_,rfl,qC (x.map fun y=>Va (decide (y<0))) (by simp [ok.l]) (qi (by simp [ok.l];omega)) (fun e => ∃ s,e=[.val (dSh (shT 0 1) (shB 0 1)),s]) ⟨_,rfl⟩ ?_ ?_⟩
   ·rintro i y ys e hx hys ⟨s,rfl⟩;obtain ⟨a,ha,rfl⟩:=shG hx;have hi:i<x.length:=by rw [ok.l];exact (Qg.mp ha).1
    obtain ⟨a1,a2,a3,a4⟩:=ok.o i a x[i] ha (Qa hi);have q1:=a1.pos;refine ⟨a.1,a.2,shT 0 1,shB 0 1,rfl,⟨⟨a1,qk a3 (by decide),qk a4 (by decide)⟩,z0⟩,qu ?_ hys,_,rfl⟩;rw [Qc,Qa hi,e0.1,e0.2];show some (Va (decide (x[i]<0)))=some (Va (decide (a.1*1<0*a.2)));have:=sg ok.w0 (show 0<a.2 by omega) a2;rw [Qbx,Qcg,decide_eq_decide.mpr this]
   refine ⟨x.map fun y=>decide (y<0),by rw [Zk];rfl,?_⟩;have en:(x.map fun y=>decide (y<0)).any id = !(x.all fun y=>decide (0<=y)):=by
    rw [Qmo,List.not_all_eq_any_not]
    congr 1
    funext y
    show decide (y<0) = !decide (0<=y);by_cases z:y<0
    ·rw [decide_eq_true z,decide_eq_false (by omega)];rfl
    ·rw [decide_eq_false z,decide_eq_true (by omega)];rfl
   rw [en];cases al:x.all fun y=>decide (0<=y) with
   | false =>
    have e:isB r x w n=false:=by
     unfold isB;rw [al,Jd,Ya,Ya]
    rw [e] at h;exact h
   | true =>
    have nn : ∀ y ∈ x,0<=y:=fun y hy=>of_decide_eq_true (Zi.mp al y hy);refine ⟨_,rfl,_,r.2,x,w,rfl,⟨rfl,by omega,ok.l,fun i a y ha hy=>?_,ok.s,ok.w0,qk ok.zw (by decide)⟩,fun P Q sh eq=>?_⟩
    ·obtain ⟨a1,a2,a3,a4⟩:=ok.o i a y ha hy;exact ⟨a1,a2,nn y (Qj hy),qk a3 (by decide),qk a4 (by decide)⟩
    refine ⟨szl,(qpf P Q).ok,(qpf 1 1).ok,?_⟩;show q (Va (Vi (dSh P Q) (dSh 1 1)));have e:isB r x w n=Vi (dSh P Q) (dSh 1 1):=by
     unfold isB;rw [decide_eq_true c1,decide_eq_true c2,al,Qjg,Qjg,Qjg,qyv];have:=qro ok.w0 sh eq;by_cases z:x.sum=w
     ·obtain ⟨z1,z2⟩:=this.mpr z;rw [decide_eq_true z,decide_eq_true z1,decide_eq_true z2];rfl
     ·rw [decide_eq_false z];by_cases z1:P=1
      ·by_cases z2:Q=1
       ·exact absurd (this.mp ⟨z1,z2⟩) z
       ·rw [decide_eq_false z2,Ya]
      ·rw [decide_eq_false z1,Jd]
    rw [<- e];exact h
  ·have e:isB r x w n=false:=by
    unfold isB;rw [decide_eq_false c1,Jd]
   rw [e] at h;exact iteY (by rw [decide_eq_false (fun z=>c1 (iff.mp z))];rfl) h
def qur (ds:List Qi) (k:Qi->Prop):Prop := ∃ p q r s,ds=[dSh p q,dSh r s]/\(ShW p q/\ShW r s)/\k (dSh (shT (p*r) (q*s)) (shB (p*r) (q*s)))
def zacz:FnScope ["one","other"] ["one","other"] (defScope qnt):=sc0
def zadm (F:Def K mg "times" qnt ["one","other"]) (T:Txt K mg cs)
 (O_reduced:Ok P w K mg base "reduced" 2 ["top","bottom"] (PSp K qeg))
 (O_check_shares:Ok P w K mg base "check_shares" 3 ["one","other"] (PSp K qbz))
 : Ok P w K mg base "times" 4 ["one","other"] (PSp K qur):=by
  refine F.vok zacz (by rintro ds q ⟨_,_,_,_,h,_⟩;rw [h];rfl) fun f cdv A outer s H E hr ds k h=>?_;obtain ⟨p,q,r,s,rfl,⟨hp,hr'⟩,h⟩:=h;refine ⟨_,(qg (qrq (qy O_check_shares.c hr.m (qa (qc 0) (qa (qc 1) qe))))
   (qh (qp (qy O_reduced.c hr.m (qa (qt qbg (qx (qc 0) qf) (qx (qc 1) qf)) (qa (qt qbg (qx (qc 0) qf) (qx (qc 1) qf)) qe)))))),?_⟩
  exact ⟨p,q,r,s,rfl,⟨hp.s,hr'.s⟩,_,rfl,_,rfl,qif hp.b1 hr'.b1,_,rfl,_,rfl,qif hp.b2 hr'.b2,hp.bot hr',h⟩
def qmj (f:Int) (T:List (List Int)) (s:Nat) (js:List Nat):List (Int×Int):=js.map fun j=>(shT (at2 T s j) f,shB (at2 T s j) f)
def pkT (T:List (List Int)) (js:List Nat):List (List Int):=T.map fun r=>js.map fun j=>(r[j]?).getD 0
def zann (T:List (List Int)) (js:List Nat):pkT T js=(Q1 T.length).map fun s=>js.map fun j=>at2 T s j:=by
 refine Zs fun s=>?_;unfold pkT;rw [Qc,Qc];by_cases hs:s<T.length
 ·rw [Q2 hs,Qa hs];refine congrArg some (Zv fun j _=>?_);rw [qdr (Qa hs)]
 ·rw [Qt (by omega),Qt (by simp;omega)];rfl
def zabt {f:Int}{T:List (List Int)}{k:Nat}{js:List Nat}{B:Int} (hT:Tab f T k) (Tn:T≠[]) (hf : ∀ s,s<T.length->(js.map fun j=>at2 T s j).sum=f) (hB:LcmB ((Q1 T.length).map fun s=>qmj f T s js) B):qbq B (((Q1 T.length).map fun s=>qmj f T s js).map (qP B))=qwm f (pkT T js):=by
 have f0:=hT.pos;have B0:=hB.pos;obtain ⟨x,ex⟩ : ∃ x:Nat->Nat->Int,x=fun s j=>shT (at2 T s j) f*(B/shB (at2 T s j) f):=⟨_,rfl⟩
 have eX:((Q1 T.length).map fun s=>qmj f T s js).map (qP B)=(Q1 T.length).map fun s=>js.map fun j=>x s j:=by
  rw [Zk];refine Zv fun s _=>?_;show qP B (qmj f T s js)=_;unfold qP qmj;rw [Zk,ex];rfl
 have key : ∀ s j,s<T.length->j ∈ js->f*x s j=B*at2 T s j:=fun s j hs hj=>by
  have d:=hB.dv _ (Qm.mpr ⟨s,Q6.mpr hs,rfl⟩) _ (Qm.mpr ⟨j,hj,rfl⟩);have d:shB (at2 T s j) f∣B:=d;have e:=(qdp (t:=at2 T s j) (b:=f) (by omega)).2;have m:=Y4 d;rw [ex];show f*(shT (at2 T s j) f*(B/shB (at2 T s j) f))=_;generalize B/shB (at2 T s j) f=u at *;generalize shT (at2 T s j) f=p at *;generalize shB (at2 T s j) f=q at *;generalize at2 T s j=t at *
  calc f*(p*u)=(p*f)*u:=by grind
   _=t*(q*u):=by rw [e];grind
   _=_:=by rw [m,Zw]
 have tX:Tab B ((Q1 T.length).map fun s=>js.map fun j=>x s j) js.length:=by
  refine ⟨by omega,fun r hr=>?_,fun r hr y hy=>?_,fun r hr=>?_⟩
  ·obtain ⟨s,_,rfl⟩:=Qm.mp hr;rw [Qk]
  ·obtain ⟨s,hs,rfl⟩:=Qm.mp hr;obtain ⟨j,hj,rfl⟩:=Qm.mp hy;have e:=key s j (Q6.mp hs) hj;have n:=Z9 (Qag B0) (qff hT.nn s j);rw [<- e] at n;exact Int.le_of_mul_le_mul_left (a:=f) (by rw [Jg];exact n) (by omega)
  ·obtain ⟨s,hs,rfl⟩:=Qm.mp hr;have hs:=Q6.mp hs;refine Y1 (show f≠0 by omega) ?_;rw [<- qgt f];have e:(js.map fun j=>f*x s j)=js.map fun j=>B*at2 T s j:=Zv fun j hj=>key s j hs hj;rw [e,qgt B,hf s hs,Zw]
 have Xn:((Q1 T.length).map fun s=>js.map fun j=>x s j)≠[]:=fun z=>by
  have:=congrArg Qlc z;rw [Qk,Qjx] at this;exact Tn (Jb.mp this)
 have g1:qR ((Q1 T.length).map fun s=>js.map fun j=>x s j)=1:=by
  have gp:=tX.gpos Xn;have gd:=tX.gdvd Xn;have:=zaiw hB (fun r hr y hy=>by
   obtain ⟨s,_,rfl⟩:=Qm.mp hr;obtain ⟨j,_,rfl⟩:=Qm.mp hy;exact (qdp (by omega)).1) (g:=qR ((Q1 T.length).map fun s=>js.map fun j=>x s j)) (by omega) gd (fun r hr y hy=>by
   refine qfm (r:=qP B r) ?_ hy;rw [<- eX];exact Qm.mpr ⟨r,hr,rfl⟩)
  omega
 rw [eX,<- zakg ⟨tX,g1⟩];refine zaag (k:=f) (l:=B) (by omega) B0 (Zw _ _) ?_;rw [zann];unfold sc;rw [Zk,Zk];refine Zv fun s hs=>?_;show (js.map fun j=>x s j).map (fun n=>f*n)=(js.map fun j=>at2 T s j).map fun n=>B*n;rw [Zk,Zk];exact Zv fun j hj=>key s j (Q6.mp hs) hj
def tm (p q:Int×Int):Int×Int:=(shT (p.1*q.1) (p.2*q.2),shB (p.1*q.1) (p.2*q.2))
def zale {p q:Int×Int}{m:Nat} (hp:Shr p.1 p.2) (hq:Shr q.1 q.2) (zp:intBits (p.1*q.1)<=m) (zq:intBits (p.2*q.2)<=m):Shr (tm p q).1 (tm p q).2/\(tm p q).1*(p.2*q.2)=p.1*q.1*(tm p q).2/\intBits (tm p q).1<=m/\intBits (tm p q).2<=m:=by
 have p1:=hp.pos;have q1:=hq.pos;have:=Z5 (show 0<p.2 by omega) (show 0<q.2 by omega);obtain ⟨e1,e2⟩:=qdp (t:=p.1*q.1) (b:=p.2*q.2) (by omega);exact ⟨e1,e2,qcu zp,qfj zq⟩
def qgs (ds:List Qi) (q:List Qi->Prop):Prop := ∃ (W:List Int) (i:Nat) (rs:List Rw) (d:Qi),ds=[.int (i:Nat),.tuple (W.map .int),d]/\(qcs d=some (rs.map dR)/\Wgt W/\i<W.length/\rs.length<=12 /\ ∀ r ∈ rs,(Shr r.1.1 r.1.2/\intBits r.1.1<=100/\intBits r.1.2<=100) /\ ∃ b,r.2[i]?=some b/\Shr b.1 b.2/\intBits b.1<=100/\intBits b.2<=100) /\
 ∀ L:List (Int×Int),L.length=rs.length->(∀ (j:Nat) (r:Rw) (b v:Int×Int),rs[j]?=some r->r.2[i]?=some b->L[j]?=some v->Shr v.1 v.2/\v.1*(r.1.2*b.2*(W[i]?).getD 0)=v.2*(r.1.1*b.1*W.sum)/\intBits v.1<=400/\intBits v.2<=400)->q (L.map dS)
def qli:FnScope ["stand","weights","rows","back"] ["stand","weights","rows"] (defScope qgb):=sc0
def qth (F:Def K mg "shown_at" qgb ["stand","weights","rows"]) (T:Txt K mg cs)
 (O_share:Ok P w K mg base "share" 3 ["top","bottom"] (PSp K qfe))
 (O_times:Ok P w K mg base "times" 4 ["one","other"] (PSp K qur))
 : Ok P w K mg base "shown_at" 5 ["stand","weights","rows"] (FSp K qgs):=by
  refine F.vokF qli (by rintro ds q ⟨_,_,_,_,h,_⟩;rw [h];rfl) fun f cdv A outer s H E hr ds q h=>?_;obtain ⟨W,i,rs,d,rfl,⟨ed,hW,hiW,lj,hs⟩,h⟩:=h;refine ⟨_,(qg (qq (i:=3) qli.nd (qy O_share.c hr.m (qa (qm (qmy rfl) T.sum_ L2.boot_sum (qa (qc 1) qe)) (qa (qx (qc 1) (qc 0)) qe))))
   (qh (qjq (qK (caps:=["stand","back"]) (own:=["part","belief"]) (ix:=[0,3]) rfl ⟨rfl,rfl,rfl,rfl,rfl,rfl⟩ (qQ (qc 2)) (fun _ _ _ _=>(qje (n:=2) rfl (qar (qo (i:=2) (show Zn (["stand","back","part","belief"]:List Str) by decide)) (qar (qo (i:=3) (show Zn (["stand","back","part","belief"]:List Str) by decide)) qgh)))) (fun _ _ _ _=>(qy O_times.c hr.m (qa (qy O_times.c hr.m (qa (qc 2) (qa (qx (qc 3) (qc 0)) qe))) (qa (qc 1) qe)))))))),?_⟩
  obtain ⟨w1,w4⟩:=hW.sum;have up : ∀ {x:Int},0<=x->x<=1000000000->intBits x<=64:=fun h1 h2=>qao (by omega) (by omega);obtain ⟨v1,v2⟩:=hW.at hiW;have eW:W[i]?=some ((W[i]?).getD 0):=by rw [Qa hiW];rfl
  obtain ⟨v,ev⟩ : ∃ v,v=(W[i]?).getD 0:=⟨_,rfl⟩
  rw [<- ev] at v1 v2 eW h;refine ⟨_,rfl,.int v,qdv (by rw [Qc,eW];rfl),⟨by omega,qk (up (by omega) (by omega)) (by decide)⟩,?_⟩;obtain ⟨k1,k2⟩:=qdp (t:=W.sum) (b:=v) (by omega);have zk1:intBits (shT W.sum v)<=64:=qcu (up (by omega) (by omega));have zk2:intBits (shB W.sum v)<=64:=qfj (up (by omega) (by omega));have g1:=k1.pos;obtain ⟨kk,ek⟩ : ∃ kk:Int×Int,kk=(shT W.sum v,shB W.sum v):=⟨_,rfl⟩
  have k1:Shr kk.1 kk.2:=by rw [ek];exact k1
  have k2:kk.1*v=W.sum*kk.2:=by rw [ek];exact k2
  have zk1:intBits kk.1<=64:=by rw [ek];exact zk1
  have zk2:intBits kk.2<=64:=by rw [ek];exact zk2
  have eS:dSh (shT W.sum v) (shB W.sum v)=dS kk:=by rw [ek];rfl
  rw [eS];have all : ∀ r ∈ rs,∀ b,r.2[i]?=some b->(Shr (tm r.1 b).1 (tm r.1 b).2/\(tm r.1 b).1*(r.1.2*b.2)=r.1.1*b.1*(tm r.1 b).2/\intBits (tm r.1 b).1<=200/\intBits (tm r.1 b).2<=200)/\Shr (tm (tm r.1 b) kk).1 (tm (tm r.1 b) kk).2/\(tm (tm r.1 b) kk).1*((tm r.1 b).2*kk.2)=(tm r.1 b).1*kk.1*(tm (tm r.1 b) kk).2/\intBits (tm (tm r.1 b) kk).1<=400/\intBits (tm (tm r.1 b) kk).2<=400:=fun r hr b hb=>by
   obtain ⟨⟨a1,a2,a3⟩,b',eb,b1,b2,b3⟩:=hs r hr;rw [hb] at eb;cases eb;have t1:=zale a1 b1 (m:=200) (qk (J0 a2 b2) (by decide)) (qk (J0 a3 b3) (by decide));exact ⟨t1,zale t1.1 k1 (m:=400) (qk (J0 t1.2.2.1 zk1) (by decide)) (qk (J0 t1.2.2.2 zk2) (by decide))⟩
  refine qax ed (qC ((rs.map fun r=>tm (tm r.1 ((r.2[i]?).getD (0,1))) kk).map dS) (by simp) (qi (by simp;omega)) (fun e => ∃ s t,e=[.val (.int i),.val (dS kk),s,t]) ⟨_,_,rfl⟩ ?_ ⟨_,rfl,h _ (by simp) fun j r b z hr hb hz=>?_⟩)
  ·rintro i2 x ys e hx hys ⟨s,t,rfl⟩;rw [Qc] at hx;cases er:rs[i2]? with
   | none=>rw [er] at hx;cases hx
   | some r =>
    rw [er] at hx;cases hx;have rm:=Qj er;obtain ⟨⟨a1,a2,a3⟩,b,eb,b1,b2,b3⟩:=hs r rm;obtain ⟨⟨t1,t2,t3,t4⟩,u1,u2,u3,u4⟩:=all r rm b eb;have bat:atI (r.2.map dS) (i:Int)=some (dS b):=qdv (by rw [Qc,eb];rfl);refine ⟨rfl,rfl,_,bat,r.1.1,r.1.2,b.1,b.2,rfl,⟨⟨a1,qk a2 (by decide),qk a3 (by decide)⟩,⟨b1,qk b2 (by decide),qk b3 (by decide)⟩⟩,?_⟩;refine ⟨(tm r.1 b).1,(tm r.1 b).2,kk.1,kk.2,rfl,⟨⟨t1,qk t3 (by decide),qk t4 (by decide)⟩,⟨k1,qk zk1 (by decide),qk zk2 (by decide)⟩⟩,qu ?_ hys,_,_,rfl⟩;rw [Qc,Qc,er];show some (dS (tm (tm r.1 ((r.2[i]?).getD (0,1))) kk))=_;rw [eb];rfl
  ·rw [Qc,hr] at hz;cases hz;show Shr (tm (tm r.1 ((r.2[i]?).getD (0,1))) kk).1 (tm (tm r.1 ((r.2[i]?).getD (0,1))) kk).2/\(tm (tm r.1 ((r.2[i]?).getD (0,1))) kk).1*(r.1.2*b.2*v)=(tm (tm r.1 ((r.2[i]?).getD (0,1))) kk).2*(r.1.1*b.1*W.sum)/\intBits (tm (tm r.1 ((r.2[i]?).getD (0,1))) kk).1<=400/\intBits (tm (tm r.1 ((r.2[i]?).getD (0,1))) kk).2<=400;rw [hb];show Shr (tm (tm r.1 b) kk).1 (tm (tm r.1 b) kk).2/\_;have rm:=Qj hr;obtain ⟨⟨t1,t2,t3,t4⟩,u1,u2,u3,u4⟩:=all r rm b hb;refine ⟨u1,?_,u3,u4⟩;have p1:=t1.pos;have p2:=k1.pos;have np:=Z5 (show 0<(tm r.1 b).2 by omega) (show 0<kk.2 by omega);refine Zc (show (tm r.1 b).2*kk.2≠0 by omega) ?_;show (tm (tm r.1 b) kk).1*(r.1.2*b.2*v)*((tm r.1 b).2*kk.2)=(tm (tm r.1 b) kk).2*(r.1.1*b.1*W.sum)*((tm r.1 b).2*kk.2);generalize (tm (tm r.1 b) kk).1=z1 at *;generalize (tm (tm r.1 b) kk).2=z2 at *;generalize (tm r.1 b).1=u1' at *;generalize (tm r.1 b).2=u2' at *
   calc z1*(r.1.2*b.2*v)*(u2'*kk.2)=(z1*(u2'*kk.2))*(r.1.2*b.2)*v:=by grind
    _=(u1'*(r.1.2*b.2))*(kk.1*v)*z2:=by rw [u2];grind
    _=_:=by rw [t2,k2];grind
def qyy {W:List Int}{f:Int}{T:List (List Int)}{k j:Nat} (hW:Wgt W) (hl:W.length=T.length) (hT:Tab f T k) (hf:f<=100000) (s0:0<(lkl W T j).sum) {i:Nat}{a:Int×Int}{y:Int} (ha:(qS W T j)[i]?=some a) (hy:(lkl W T j)[i]?=some y):Shr a.1 a.2/\a.1*(lkl W T j).sum=a.2*y/\0<=y/\y<=100000000/\intBits a.1<=64/\intBits a.2<=64:=by
 obtain ⟨y0,y1⟩:=qjp hW hl hT (Qj hy);have s1:=(qpb (j:=j) hW hl hT).2;obtain ⟨w1,w4⟩:=hW.sum;have f0:=hT.pos;have wb:W.sum*f<=4000*100000:=Jz w4 hf (by omega) (by omega);unfold qS at ha;rw [Qc,hy] at ha;cases ha;obtain ⟨q1,q2⟩:=qdp (t:=y) (b:=(lkl W T j).sum) (by omega);exact ⟨q1,by rw [Zw (shB _ _)];exact q2,y0,by omega,qcu (qao (by omega) (by omega)),qfj (qao (by omega) (by omega))⟩
def rwB (W:List Int) (f:Int) (T:List (List Int)) (j:Nat):Rw:=(qF W f T j,qS W T j)
section
variable {W:List Int}{f:Int}{T:List (List Int)}{k j:Nat}
def qjb (hW:Wgt W) (hl:W.length=T.length) (hT:Tab f T k) (hf:f<=100000) (s0:0<(lkl W T j).sum):(Shr (qF W f T j).1 (qF W f T j).2/\(qF W f T j).1*(W.sum*f)=(lkl W T j).sum*(qF W f T j).2/\0<(qF W f T j).1)/\intBits (qF W f T j).1<=64/\intBits (qF W f T j).2<=64:=by
 have f0:=hT.pos;obtain ⟨w1,w4⟩:=hW.sum;have wb:W.sum*f<=4000*100000:=Jz w4 hf (by omega) (by omega);have w0:0<W.sum*f:=Z5 (by omega) (by omega);have s1:=(qpb (j:=j) hW hl hT).2;obtain ⟨p1,p2⟩:=qdp (t:=(lkl W T j).sum) (b:=W.sum*f) (by omega);refine ⟨⟨p1,p2,?_⟩,qcu (qao (by omega) (by omega)),qfj (qao (by omega) (by omega))⟩;have q1:=p1.pos;refine Qev (a:=W.sum*f) ?_ (by omega);rw [Qcg];show 0<shT (lkl W T j).sum (W.sum*f)*(W.sum*f);rw [p2];exact Z5 s0 (by omega)
def qeq (hW:Wgt W) (hl:W.length=T.length) (hT:Tab f T k) (hf:f<=100000) (s0:0<(lkl W T j).sum):RwOk (rwB W f T j) (lkl W T j) (lkl W T j).sum:=by
 obtain ⟨⟨p1,_,_⟩,p2,p3⟩:=qjb hW hl hT hf s0;have f0:=hT.pos;have l4:=hW.l4;obtain ⟨w1,w4⟩:=hW.sum;have wb:W.sum*f<=4000*100000:=Jz w4 hf (by omega) (by omega);have s1:=(qpb (j:=j) hW hl hT).2;refine ⟨p1,⟨qk p2 (by decide),qk p3 (by decide)⟩,?_,?_,s0,qk (qao (by omega) (by omega)) (by decide),by omega,fun i b y hb hy=>?_⟩
 ·show (lkl W T j).length=(qS W T j).length;rw [qbm hl,qgg hl]
 ·show (qS W T j).length<=5;rw [qbm hl];omega
 ·obtain ⟨a1,a2,a3,a4,a5,a6⟩:=qyy hW hl hT hf s0 hb hy;exact ⟨a1,a2,qk a5 (by decide),qk a6 (by decide)⟩
def qxp (hW:Wgt W) (hl:W.length=T.length) (hT:Tab f T k) (hf:f<=100000) (s0:0<(lkl W T j).sum):isB (rwB W f T j) (lkl W T j) (lkl W T j).sum W.length=true:=by
 obtain ⟨⟨_,_,pp⟩,_⟩:=qjb hW hl hT hf s0;unfold isB;have e:(lkl W T j).all (fun y=>decide (0<=y))=true:=by
  rw [Zi];intro y hy;exact decide_eq_true (qjp hW hl hT hy).1
 have l:((rwB W f T j).2.length:Int)=W.length:=by
  show ((qS W T j).length:Int)=W.length;rw [qbm hl,hl]
 rw [e,decide_eq_true (p:=0<(rwB W f T j).1.1) pp,decide_eq_true l,decide_eq_true rfl];rfl
def zaci (hW:Wgt W) (hl:W.length=T.length) (hT:Tab f T k) (hf:f<=100000) (s0:0<(lkl W T j).sum) {i:Nat}{b:Int×Int} (hb:(rwB W f T j).2[i]?=some b):at2 T i j*((rwB W f T j).1.2*b.2*(W[i]?).getD 0)=f*((rwB W f T j).1.1*b.1*W.sum):=by
 obtain ⟨⟨p1,p2,pp⟩,_⟩:=qjb hW hl hT hf s0;have hi:i<T.length:=by
  have:=(Qg.mp hb).1;have e:(rwB W f T j).2.length=T.length:=qbm hl;omega
 have e:=qrs (j:=j) hl hi;have hb:(qS W T j)[i]?=some b:=hb;rw [hb] at e;have e:=Qx e;obtain ⟨b1,b2⟩:=qdp (t:=(W[i]?).getD 0*at2 T i j) (b:=(lkl W T j).sum) (by omega);rw [show shT ((W[i]?).getD 0*at2 T i j) (lkl W T j).sum=b.1 by rw [e],show shB ((W[i]?).getD 0*at2 T i j) (lkl W T j).sum=b.2 by rw [e]] at b2;show at2 T i j*((qF W f T j).2*b.2*(W[i]?).getD 0)=f*((qF W f T j).1*b.1*W.sum);refine Zc (show (lkl W T j).sum≠0 by omega) ?_;generalize (qF W f T j).1=p at *;generalize (qF W f T j).2=q at *;generalize (lkl W T j).sum=S at *;generalize (W[i]?).getD 0=v at *;generalize at2 T i j=t at *
 calc t*(q*b.2*v)*S=(S*q)*(v*t*b.2):=by grind
  _=(p*(W.sum*f))*(b.1*S):=by rw [p2,b2]
  _=_:=by grind
end
def qlm (ds:List Qi) (q:Qi->Prop):Prop := ∃ (W:List Int) (f:Int) (T:List (List Int)) (k:Nat) (js:List Nat),ds=[.tuple (W.map .int),.list (js.map (qnn W f T))]/\(Tab f T k/\W.length=T.length/\Wgt W/\f<=100000/\1<=js.length/\js.length<=12/\(∀ j ∈ js,0<(lkl W T j).sum) /\ ∀ s,s<T.length->(js.map fun j=>at2 T s j).sum=f)/\q (qwm f (pkT T js))
def qkv:FnScope ["weights","rows","shown"] ["weights","rows"] (defScope qfx):=sc0
def qtm (F:Def K mg "glass_by" qfx ["weights","rows"]) (T:Txt K mg cs)
 (O_table_of_shares:Ok P w K mg base "table_of_shares" 2 ["rows"] (PSp K qac))
 (O_is_weights:Ok P w K mg base "is_weights" 2 ["thing"] (PSp K qbt))
 (O_summed:Ok P w K mg base "summed" 5 ["some"] (PSp K qhe))
 (O_is_belief:Ok P w K mg base "is_belief" 6 ["row","many"] (PSp K qfn))
 (O_shown_at:Ok P w K mg base "shown_at" 5 ["stand","weights","rows"] (FSp K qgs))
 : Ok P w K mg base "glass_by" 7 ["weights","rows"] (PSp K qlm):=by
  refine F.vok qkv (by rintro ds q ⟨_,_,_,_,_,h,_⟩;rw [h];rfl) fun f cdv A outer s H E hr ds q h=>?_;obtain ⟨W,f',U,k,js,rfl,⟨hT,hl,hW,hf,j1,j2,hs,hf'⟩,h⟩:=h;refine ⟨_,(qg (qY (qap (qan (qy O_is_weights.c hr.m (qa (qc 0) qe)))) qdj qr)
   (qg (qY (VW.pt (qei (qap (qnx qzr qzr qf (qm qbh T.len_ L2.boot_len (qa (qc 1) qe)) (qgy T.MOST_SIGNS_))) (qdw (qap (qan (qm (qxb rfl) T.all_ L2.boot_all (qa (qw (qK (caps:=["weights"]) (own:=["row"]) (ix:=[0]) rfl ⟨rfl,rfl,rfl,rfl,rfl,rfl⟩ (qQ (qc 1)) (fun _ _ _ _=>(qo (i:=1) (show Zn (["weights","row"]:List Str) by decide))) (fun _ _ _ _=>(qy O_is_belief.c hr.m (qa (qc 1) (qa (qm qbh T.len_ L2.boot_len (qa (qc 0) qe)) qe)))))) qe))))))) qdj qr)
   (qg (qsh (caps:=["weights","rows"]) (own:=["stand"]) (ix:=[0,1]) (i:=2) qkv.nd rfl ⟨rfl,rfl,rfl,rfl,rfl,rfl⟩ (qam T.range_ (qm qbh T.len_ L2.boot_len (qa (qc 0) qe))) (fun _ _ _ _=>(qo (i:=2) (show Zn (["weights","rows","stand"]:List Str) by decide))) (fun _ _ _ _=>(qw (qmu O_shown_at.c hr.m (qa (qc 2) (qa (qc 0) (qa (qc 1) qe)))))))
   (qg (qY (qap (qan (qm (qxb rfl) T.all_ L2.boot_all (qa (qw (qK (caps:=[]) (own:=["row"]) (ix:=[]) rfl ⟨rfl,rfl,rfl,rfl,rfl,rfl⟩ (qQ (qc 2)) (fun _ _ _ _=>(qo (i:=0) (show Zn (["row"]:List Str) by decide))) (fun _ _ _ _=>(qgi (qgw hr.units) (qy O_summed.c hr.m (qa (qc 0) qe)) (qT (qa qf (qa qf qe))))))) qe)))) qdj qr)
   (qh (qp (qy O_table_of_shares.c hr.m (qa (qc 2) qe)))))))),?_⟩
  have f0:=hT.pos;have l2:=hW.l2;have l4:=hW.l4;have Un:U≠[]:=fun z=>by rw [z,J5] at hl;omega
  have ln:(((js.map (qnn W f' U)).length:Nat):Int)=js.length:=by simp
  have zf:intBits f'<=64:=qao (by omega) (by omega);refine ⟨_,rfl,?_⟩;rw [qtb hW];refine qey (fun _=>?_) (fun z=>(z (by omega)).elim);refine zacg (by omega) ?_;refine qC (js.map fun _=>Va true) (by simp) (qi (by simp;omega)) (fun e => ∃ s,e=[.val (.tuple (W.map .int)),s]) ⟨_,rfl⟩ ?_ ?_
  ·rintro i x ys e hx hys ⟨s,rfl⟩;rw [Qc] at hx;cases er:js[i]? with
   | none=>rw [er] at hx;cases hx
   | some j =>
    rw [er] at hx;cases hx;have s0:=hs j (Qj er);refine ⟨rwB W f' U j,lkl W U j,(lkl W U j).sum,_,rfl,qeq hW hl hT hf s0,qu ?_ hys,_,rfl⟩;rw [Qc,er,Qk,qxp hW hl hT hf s0];rfl
  refine ⟨js.map fun _=>true,by rw [Zk];rfl,?_⟩;have ea:(js.map fun _=>true).all id=true:=by rw [Qhg];simp
  rw [ea];refine ⟨⟨by omega,by simp;omega⟩,qC ((Q1 U.length).map fun s=>Qgb ((qmj f' U s js).map dS)) (by simp [qN,hl]) (qi (by simp;omega)) (fun e => ∃ t,e=[.val (.tuple (W.map .int)),.val (.list (js.map (qnn W f' U))),t]) ⟨_,rfl⟩ ?_ ?_⟩
  ·rintro i x ys e hx hys ⟨t,rfl⟩;obtain ⟨hi',rfl⟩:=qct hx;rw [Qcf];have hi:i<U.length:=by simp at hi';omega
   have eR:js.map (qnn W f' U)=(js.map (rwB W f' U)).map dR:=by rw [Zk];rfl
   refine ⟨W,i,js.map (rwB W f' U),_,rfl,⟨by rw [<- eR];rfl,hW,by omega,by rw [Qk];exact j2,fun r hr=>?_⟩,fun L l1 l2=>?_⟩
   ·obtain ⟨j,hj,rfl⟩:=Qm.mp hr;have ok:=qeq hW hl hT hf (hs j hj);have il:i<(rwB W f' U j).2.length:=by show i<(qS W U j).length;rw [qbm hl];exact hi
    have ix:i<(lkl W U j).length:=by rw [qgg hl];exact hi
    obtain ⟨a1,a2,a3,a4⟩:=ok.o i _ _ (Qa il) (Qa ix);exact ⟨⟨ok.a,ok.za.1,ok.za.2⟩,_,Qa il,a1,a3,a4⟩
   have eL:L=qmj f' U i js:=by
    refine Zs fun j=>?_;unfold qmj;rw [Qc];cases ej:js[j]? with
    | none =>
     have:=Qfg.mp ej;rw [Qt (by rw [l1,Qk];exact this)];rfl
    | some m =>
     have jl:j<L.length:=by rw [l1,Qk];exact (Qg.mp ej).1
     have s0:=hs m (Qj ej);have il:i<(rwB W f' U m).2.length:=by show i<(qS W U m).length;rw [qbm hl];exact hi
     have eb:=Qa il;obtain ⟨v1,v2,_,_⟩:=l2 j (rwB W f' U m) _ L[j] (by rw [Qc,ej];rfl) eb (Qa jl);have n1:=zaci hW hl hT hf s0 eb;have ok:=qeq hW hl hT hf s0;have ix:i<(lkl W U m).length:=by rw [qgg hl];exact hi
     obtain ⟨a1,_⟩:=ok.o i _ _ eb (Qa ix);have p1:=ok.a.pos;have p2:=a1.pos;obtain ⟨x1,x2⟩:=hW.at (show i<W.length by omega);have pz:0<(rwB W f' U m).1.2*((rwB W f' U m).2[i]).2*(W[i]?).getD 0:=Z5 (Z5 (by omega) (by omega)) (by omega);obtain ⟨q1,q2⟩:=qdp (t:=at2 U i m) (b:=f') (by omega);have q3:=q1.pos;obtain ⟨u1,u2⟩:=qrw v1 q1 (by
      refine Zc (show f'*((rwB W f' U m).1.2*((rwB W f' U m).2[i]).2*(W[i]?).getD 0)≠0 from Qdp (Z5 (by omega) pz)) ?_;generalize (rwB W f' U m).1.2*((rwB W f' U m).2[i]).2*(W[i]?).getD 0=Z at *;generalize (rwB W f' U m).1.1*((rwB W f' U m).2[i]).1*W.sum=Y at *;generalize shT (at2 U i m) f'=P at *;generalize shB (at2 U i m) f'=Q at *
      calc L[j].1*Q*(f'*Z)=(L[j].1*Z)*Q*f':=by grind
       _=L[j].2*Q*(f'*Y):=by rw [v2];grind
       _=L[j].2*(at2 U i m*Q)*Z:=by rw [<- n1];grind
       _=_:=by rw [<- q2];grind)
     rw [Qa jl];exact congrArg some (Qmu u1 u2)
   subst eL;refine ⟨qu ?_ hys,_,rfl⟩;rw [Qc,Q2 hi];rfl
  refine qC ((Q1 U.length).map fun _=>Va true) (by simp) (qi (by simp;omega)) (fun e => ∃ s,e=[s]) ⟨_,rfl⟩ ?_ ?_
  ·rintro i x ys e hx hys ⟨s,rfl⟩;have hi:i<U.length:=by have:=(Qg.mp hx).1;simpa using this
   rw [Qc,Q2 hi] at hx;cases hx;refine ⟨_,qmj f' U i js,js.map fun j=>at2 U i j,f',rfl,⟨rfl,by unfold qmj;rw [Qk];omega,by simp [qmj],fun i2 a y ha hy=>?_,by rw [hf' i hi];omega,by omega,qk zf (by decide)⟩,fun P Q sh eq=>?_⟩
   ·unfold qmj at ha;rw [Qc] at ha hy;cases er:js[i2]? with
    | none=>rw [er] at ha;cases ha
    | some j =>
     rw [er] at ha hy;cases ha;cases hy;obtain ⟨t0,t1⟩:=qoq hT i j;obtain ⟨q1,q2⟩:=qdp (t:=at2 U i j) (b:=f') (by omega);exact ⟨q1,by rw [Zw (shB _ _)];exact q2,t0,qcu (qk (qao (by omega) (by omega)) (by decide)),qfj (qk zf (by decide))⟩
   rw [hf' i hi] at eq;obtain ⟨rfl,rfl⟩:=(qro (show 0<f' by omega) sh eq).mpr rfl;refine ⟨szl,rfl,rfl,?_⟩;show ys++[Va (Vi (dSh 1 1) (dSh 1 1))]=_/\_;rw [(qpf 1 1).refl];refine ⟨qu ?_ hys,_,rfl⟩;rw [Qc,Q2 hi];rfl
  refine ⟨(Q1 U.length).map fun _=>true,by rw [Zk];rfl,?_⟩;have eb:((Q1 U.length).map fun _=>true).all id=true:=by rw [Qhg];simp
  rw [eb];refine ⟨_,(Q1 U.length).map fun s=>qmj f' U s js,f',rfl,⟨⟨_,rfl,by simp,fun i x hx=>?_⟩,by simp;omega,fun r hr=>?_,by omega,qk zf (by decide)⟩,fun B hB=>?_⟩
  ·have hi:i<U.length:=by have:=(Qg.mp hx).1;simpa using this
   rw [Qc,Q2 hi] at hx;cases hx;exact ⟨qmj f' U i js,by rw [Qc,Q2 hi];rfl,rfl⟩
  ·obtain ⟨s,hs',rfl⟩:=Qm.mp hr;refine ⟨by unfold qmj;rw [Qk];omega,fun x hx=>?_⟩;obtain ⟨j,hj,rfl⟩:=Qm.mp hx;obtain ⟨t0,t1⟩:=qoq hT s j;exact ⟨(qdp (by omega)).1,qcu (qk (qao (by omega) (by omega)) (by decide)),⟨_,((Zw _ _).trans (qke _ _)).symm⟩⟩
  ·rw [zabt hT Un hf' hB];exact h
def qlc (W:List Int) (l:List Qi):Prop:=l.length=0\/12<l.length \/
 ∃ (rs:List Rw) (x:Nat->List Int) (w:Nat->Int),l=rs.map dR/\1<=rs.length/\rs.length<=12/\(∀ (j:Nat) (r:Rw),rs[j]?=some r->RwOk r (x j) (w j))/\((∃ (j:Nat) (r:Rw),rs[j]?=some r/\isB r (x j) (w j) W.length=false) \/
  ((∀ (j:Nat) (r:Rw),rs[j]?=some r->isB r (x j) (w j) W.length=true) /\ ∃ (D:Int) (N:Nat->Nat->Int),(0<D/\intBits D<=400)/\(∀ (j:Nat) (r:Rw) (i:Nat) (b:Int×Int),rs[j]?=some r->r.2[i]?=some b->N i j*(r.1.2*b.2*(W[i]?).getD 0)=D*(r.1.1*b.1*W.sum)/\0<=N i j)/\(∀ i,i<W.length->((Q1 rs.length).map (N i)).sum<=2*D) /\ ∃ i,i<W.length/\((Q1 rs.length).map (N i)).sum≠D))
structure Bl (W:List Int) (f:Int) (T:List (List Int)) (k:Nat) (js:List Nat):Prop where
 t:Tab f T k
 l:W.length=T.length
 w:Wgt W
 z:f<=100000
 j1:1<=js.length
 j2:js.length<=12
 p : ∀ j ∈ js,0<(lkl W T j).sum
 s : ∀ s,s<T.length->(js.map fun j=>at2 T s j).sum=f
def qau (W:List Int) (f:Int) (T:List (List Int)) (js:List Nat):List Rw:=js.map (rwB W f T)
def xOf (W:List Int) (T:List (List Int)) (js:List Nat) (i:Nat):List Int:=lkl W T ((js[i]?).getD 0)
def qpg {r:Rw}{x:List Int}{w n:Int} (h:(r.2.length:Int)≠n):isB r x w n=false:=by
 unfold isB;rw [decide_eq_false h,Jd,Ya]
def zaew {r:Rw}{x:List Int}{w n:Int} (h : ¬ 0<r.1.1):isB r x w n=false:=by
 unfold isB;rw [decide_eq_false h,Jd]
def zajo {r:Rw}{x:List Int}{w n:Int}{y:Int} (hy:y ∈ x) (h:y<0):isB r x w n=false:=by
 unfold isB;have:(x.all fun y=>decide (0<=y))=false:=by
  cases z:x.all fun y=>decide (0<=y) with
  | false=>rfl
  | true=>have:=of_decide_eq_true (Zi.mp z y hy);omega
 rw [this,Jd,Ya,Ya]
def qyd {r:Rw}{x:List Int}{w n:Int} (h:x.sum≠w):isB r x w n=false:=by
 unfold isB;rw [decide_eq_false h,Ya,Ya,Ya]
section
variable {W W':List Int}{f:Int}{T:List (List Int)}{k a:Nat}{js:List Nat}{X:Rw}{xX:List Int}{wX:Int}
def qxv {i:Nat}{r:Rw} (h:(qau W f T js)[i]?=some r) : ∃ j,js[i]?=some j/\r=rwB W f T j/\xOf W T js i=lkl W T j:=by
 unfold qau at h;rw [Qc] at h;cases e:js[i]? with
 | none=>rw [e] at h;cases h
 | some j =>
  rw [e] at h;cases h;exact ⟨j,rfl,rfl,by unfold xOf;rw [e];rfl⟩
def Bl.ok (h:Bl W f T k js) {i:Nat}{r:Rw} (e:(qau W f T js)[i]?=some r):RwOk r (xOf W T js i) (xOf W T js i).sum:=by
 obtain ⟨j,ej,rfl,ex⟩:=qxv e;rw [ex];exact qeq h.w h.l h.t h.z (h.p j (Qj ej))
def Bl.is (h:Bl W f T k js) {i:Nat}{r:Rw} (e:(qau W f T js)[i]?=some r):isB r (xOf W T js i) (xOf W T js i).sum W.length=true:=by
 obtain ⟨j,ej,rfl,ex⟩:=qxv e;rw [ex];exact qxp h.w h.l h.t h.z (h.p j (Qj ej))
def Bl.wide (h:Bl W f T k js) {i:Nat}{r:Rw} (e:(qau W f T js)[i]?=some r):r.2.length=W.length:=by
 have:=qxz (h.is e);omega
def Bl.len (h:Bl W f T k js) (hn:W'.length≠W.length):qlc W' ((qau W f T js).map dR):=by
 have j1:=h.j1;have j2:=h.j2;have l:(qau W f T js).length=js.length:=by unfold qau;simp
 have e:(qau W f T js)[0]?=some ((qau W f T js)[0]'(by omega)):=Qa _;refine .inr (.inr ⟨_,xOf W T js,fun i=>(xOf W T js i).sum,rfl,by omega,by omega,fun j r er=>h.ok er,.inl ⟨0,_,e,qpg ?_⟩⟩);rw [h.wide e];omega
def Bl.set_ok (h:Bl W f T k js) (ok:RwOk X xX wX) {j:Nat}{r:Rw} (er:((qau W f T js).set a X)[j]?=some r):RwOk r (if j=a then xX else xOf W T js j) (if j=a then wX else (xOf W T js j).sum):=by
 by_cases e:j=a
 ·subst e;rw [if_pos rfl,if_pos rfl];rw [Yl] at er;split at er
  ·split at er
   ·cases er;exact ok
   ·cases er
  ·rename_i z;exact absurd rfl z
 ·rw [if_neg e,if_neg e];rw [Z7 (Yb e)] at er;exact h.ok er
def Bl.set (h:Bl W f T k js) (ha:a<js.length) (ok:RwOk X xX wX) (no:isB X xX wX W'.length=false):qlc W' (((qau W f T js).set a X).map dR):=by
 have j1:=h.j1;have j2:=h.j2;have l:((qau W f T js).set a X).length=js.length:=by unfold qau;simp
 refine .inr (.inr ⟨_,fun j=>if j=a then xX else xOf W T js j,fun j=>if j=a then wX else (xOf W T js j).sum,rfl,by omega,by omega,fun j r er=>h.set_ok ok er,.inl ⟨a,X,?_,?_⟩⟩)
 ·rw [Yl,if_pos rfl,if_pos (by unfold qau;rw [Qk];exact ha)]
 ·show isB X (if a=a then xX else xOf W T js a) (if a=a then wX else (xOf W T js a).sum) W'.length=false;rw [if_pos rfl,if_pos rfl];exact no
def Bl.other (h:Bl W f T k js) (ok:RwOk X xX wX) (j2':2<=js.length) (hn:W'.length≠W.length):qlc W' (((qau W f T js).set a X).map dR):=by
 have j2:=h.j2;have l0:(qau W f T js).length=js.length:=by unfold qau;simp
 have l:((qau W f T js).set a X).length=js.length:=by unfold qau;simp
 obtain ⟨o,ol,oa⟩ : ∃ o,o<js.length/\o≠a:=by
  by_cases z:a=0
  ·exact ⟨1,by omega,by omega⟩
  ·exact ⟨0,by omega,Yb z⟩
 have e:(qau W f T js)[o]?=some ((qau W f T js)[o]'(by omega)):=Qa _;refine .inr (.inr ⟨_,fun j=>if j=a then xX else xOf W T js j,fun j=>if j=a then wX else (xOf W T js j).sum,rfl,by omega,by omega,fun j r er=>h.set_ok ok er,.inl ⟨o,_,by rw [Z7 (Yb oa)];exact e,qpg ?_⟩⟩);rw [h.wide e];omega
end
def qiy (C1 C2:Addr) (ds:List Qi) (q:Qi->Prop) (e:Addr->Prop):Prop := ∃ (d:Qi) (l:List Qi),ds=[d,.list l]/\((wOk d=false/\e C1) \/ ∃ W:List Int,d = .tuple (W.map .int)/\Wgt W/\e C2/\qlc W l)
def qgn:FnScope ["weights","rows","shown"] ["weights","rows"] (defScope qdh):=sc0
def qmp (F:Def K mg "glass_by" qdh ["weights","rows"]) (T:Txt K mg cs)
 (O_table_of_shares:Ok P w K mg base "table_of_shares" 2 ["rows"] (PSp K qac))
 (O_is_weights:Ok P w K mg base "is_weights" 2 ["thing"] (PSp K qbt))
 (O_summed:Ok P w K mg base "summed" 5 ["some"] (PSp K qhe))
 (O_is_belief:Ok P w K mg base "is_belief" 6 ["row","many"] (PSp K qfn))
 (O_shown_at:Ok P w K mg base "shown_at" 5 ["stand","weights","rows"] (FSp K qgs))
 : OkX P w K mg base "glass_by" 7 ["weights","rows"] (XSp K (qiy cs.NoFit cs.NoBeliefs)):=by
  refine F.vokX qgn (by rintro ds q e ⟨_,_,h,_⟩;rw [h];rfl) fun f cdv A outer s H E hr hp ht ds q e h=>?_;obtain ⟨d,l,rfl,h⟩:=h;refine ⟨_,(qal (qov (qap (qan (qy O_is_weights.c hr.m (qa (qc 0) qe)))) (qal (qhi ht rfl T.NoFit_ T.NoFit_x.exc (qa qcd qe))
   (qbs qr)) (qbs qr))
   (qal (qov (VW.pt (qei (qap (qnx qzr qzr qf (qm qbh T.len_ L2.boot_len (qa (qc 1) qe)) (qgy T.MOST_SIGNS_))) (qdw (qap (qan (qm (qxb rfl) T.all_ L2.boot_all (qa (qw (qK (caps:=["weights"]) (own:=["row"]) (ix:=[0]) rfl ⟨rfl,rfl,rfl,rfl,rfl,rfl⟩ (qQ (qc 1)) (fun _ _ _ _=>(qo (i:=1) (show Zn (["weights","row"]:List Str) by decide))) (fun _ _ _ _=>(qy O_is_belief.c hr.m (qa (qc 1) (qa (qm qbh T.len_ L2.boot_len (qa (qc 0) qe)) qe)))))) qe))))))) (qal (qhi ht rfl T.NoBeliefs_ T.NoBeliefs_x.exc (qa qcd qe))
   (qbs qr)) (qbs qr))
   (qal (zage (qsh (caps:=["weights","rows"]) (own:=["stand"]) (ix:=[0,1]) (i:=2) qgn.nd rfl ⟨rfl,rfl,rfl,rfl,rfl,rfl⟩ (qam T.range_ (qm qbh T.len_ L2.boot_len (qa (qc 0) qe))) (fun _ _ _ _=>(qo (i:=2) (show Zn (["weights","rows","stand"]:List Str) by decide))) (fun _ _ _ _=>(qw (qmu O_shown_at.c hr.m (qa (qc 2) (qa (qc 0) (qa (qc 1) qe))))))))
   (qal (qov (qap (qan (qm (qxb rfl) T.all_ L2.boot_all (qa (qw (qK (caps:=[]) (own:=["row"]) (ix:=[]) rfl ⟨rfl,rfl,rfl,rfl,rfl,rfl⟩ (qQ (qc 2)) (fun _ _ _ _=>(qo (i:=0) (show Zn (["row"]:List Str) by decide))) (fun _ _ _ _=>(qgi (qgw hr.units) (qy O_summed.c hr.m (qa (qc 0) qe)) (qT (qa qf (qa qf qe))))))) qe)))) (qal (qhi ht rfl T.NoBeliefs_ T.NoBeliefs_x.exc (qa qcd qe))
   (qbs qr)) (qbs qr))
   (qbs (qh (qp (qy O_table_of_shares.c hr.m (qa (qc 2) qe))))))))),?_⟩
  refine ⟨d,rfl,?_⟩;rcases h with ⟨h1,h⟩|⟨W,rfl,hW,h,hc⟩
  ·rw [h1];exact ⟨szl,h⟩
  rw [qtb hW];have l2:=hW.l2;have l4:=hW.l4;rcases hc with hc|hc|⟨rs,x,w,rfl,j1,j2,ok,hc⟩
  ·exact qey (fun a=>by omega) (fun _=>⟨szl,h⟩)
  ·exact qey (fun a=>iteY (by rw [decide_eq_false (by omega)];rfl) ⟨szl,h⟩) (fun _=>⟨szl,h⟩)
  have ln:(((rs.map dR).length:Nat):Int)=rs.length:=by simp
  refine qey (fun _=>?_) (fun z=>(z (by omega)).elim);refine zacg (by omega) ?_;obtain ⟨bs,ebs⟩ : ∃ bs,bs=(Q1 rs.length).map fun j=>isB ((rs[j]?).getD ((0,0),[])) (x j) (w j) W.length:=⟨_,rfl⟩
  refine qC (bs.map Va) (by rw [ebs];simp) (qi (by rw [ebs];simp;omega)) (fun e => ∃ s,e=[.val (.tuple (W.map .int)),s]) ⟨_,rfl⟩ ?_ ?_
  ·rintro i y ys e hx hys ⟨s,rfl⟩;rw [Qc] at hx;cases er:rs[i]? with
   | none=>rw [er] at hx;cases hx
   | some r =>
    rw [er] at hx;cases hx;have il:=(Qg.mp er).1;refine ⟨r,x i,w i,_,rfl,ok i r er,qu ?_ hys,_,rfl⟩;rw [Qc,ebs,Qc,Q2 il];show some (Va (isB ((rs[i]?).getD ((0,0),[])) (x i) (w i) W.length))=some (Va (isB r (x i) (w i) ((W.map Zq).length:Nat)));rw [er,Qk];rfl
  refine ⟨bs,rfl,?_⟩;rcases hc with ⟨j,r,er,no⟩|⟨yes,D,N,⟨D0,zD⟩,hN,hS,i0,hi0,ne⟩
  ·have e:bs.all id=false:=by
    have il:=(Qg.mp er).1;cases z:bs.all id with
    | false=>rfl
    | true =>
     exfalso;have:false ∈ bs:=by
      rw [ebs];exact Qm.mpr ⟨j,Q6.mpr il,by rw [er];exact no⟩
     have:=Zi.mp z _ this;cases this
   rw [e];exact ⟨szl,h⟩
  have e:bs.all id=true:=by
   rw [Zi];intro v hv;rw [ebs] at hv;obtain ⟨j,hj,rfl⟩:=Qm.mp hv;have hj:=Q6.mp hj;rw [Qa hj];exact yes j rs[j] (Qa hj)
  rw [e];have at_ : ∀ (j:Nat) (r:Rw) (i:Nat),rs[j]?=some r->i<W.length -> ∃ b:Int×Int,r.2[i]?=some b/\Shr b.1 b.2/\intBits b.1<=100/\intBits b.2<=100:=fun j r i er hi=>by
   have:=qxz (yes j r er);have il:i<r.2.length:=by omega
   have o:=ok j r er;have ix:i<(x j).length:=by rw [o.l];exact il
   obtain ⟨a1,a2,a3,a4⟩:=o.o i r.2[i] (x j)[i] (Qa il) (Qa ix);exact ⟨_,Qa il,a1,a3,a4⟩
  refine ⟨⟨by omega,by simp;omega⟩,qi (by rw [qN];simp;omega),fun k ys e=>(∃ Ls:List (List (Int×Int)),Ls.length=k/\ys=Ls.map (fun L=>Qgb (L.map dS)) /\ ∀ (i:Nat) (L:List (Int×Int)),Ls[i]?=some L->L.length=rs.length /\ ∀ (j:Nat) (r:Rw) (b v:Int×Int),rs[j]?=some r->r.2[i]?=some b->L[j]?=some v->Shr v.1 v.2/\v.1*(r.1.2*b.2*(W[i]?).getD 0)=v.2*(r.1.1*b.1*W.sum)/\intBits v.1<=400/\intBits v.2<=400) /\ ∃ t,e=[.val (.tuple (W.map .int)),.val (.list (rs.map dR)),t],⟨⟨[],rfl,rfl,fun i L z=>by cases z⟩,_,rfl⟩,?_,?_⟩
  ·rintro k d ys e hd ⟨⟨Ls,lL,rfl,hL⟩,t,rfl⟩;obtain ⟨hk',rfl⟩:=qct hd;rw [Qcf];have hk:k<W.length:=by simp at hk';omega
   refine ⟨W,k,rs,_,rfl,⟨rfl,hW,hk,j2,fun r hr=>?_⟩,fun L l1 l2=>⟨⟨Ls++[L],by simp [lL],by rw [Zu];rfl,fun i L' hi=>?_⟩,_,rfl⟩⟩
   ·obtain ⟨j,er⟩:=Yw.mp hr;have o:=ok j r er;exact ⟨⟨o.a,o.za.1,o.za.2⟩,at_ j r k er hk⟩
   ·by_cases z:i<Ls.length
    ·rw [Zm z] at hi;exact hL i L' hi
    ·rw [Yi (by omega)] at hi;have e0:i-Ls.length=0:=by
      rcases Qax (i-Ls.length) with w|w
      ·exact w
      ·rw [Qt (by simp;omega)] at hi;cases hi
     rw [e0] at hi;cases hi;have:i=k:=by omega
     subst this;exact ⟨l1,l2⟩
  rintro ys e ⟨⟨Ls,lL,rfl,hL⟩,t,rfl⟩;have lL:Ls.length=W.length:=by rw [lL,qN];simp
  refine qC ((Q1 W.length).map fun i=>Va (decide (((Q1 rs.length).map (N i)).sum=D))) (by simp [lL]) (qi (by simp;omega)) (fun e => ∃ s,e=[s]) ⟨_,rfl⟩ ?_ ?_
  ·rintro i y ys e hx hys ⟨s,rfl⟩;rw [Qc] at hx;cases er:Ls[i]? with
   | none=>rw [er] at hx;cases hx
   | some L =>
    rw [er] at hx;cases hx;have il:=(Qg.mp er).1;have iW:i<W.length:=by omega
    obtain ⟨l1,l2⟩:=hL i L er;obtain ⟨v1,v2⟩:=hW.at iW;refine ⟨_,L,(Q1 rs.length).map (N i),D,rfl,⟨rfl,by omega,by simp [l1],fun j a y ha hy=>?_,hS i iW,D0,zD⟩,fun P Q sh eq=>?_⟩
    ·have jl:j<rs.length:=by rw [<- l1];exact (Qg.mp ha).1
     rw [Qc,Q2 jl] at hy;cases hy;have ej:=Qa jl;obtain ⟨b,eb,b1,b2,b3⟩:=at_ j rs[j] i ej iW;obtain ⟨s1,s2,s3,s4⟩:=l2 j rs[j] b a ej eb ha;obtain ⟨n1,n2⟩:=hN j rs[j] i b ej eb;have p1:=(ok j rs[j] ej).a.pos;have p2:=b1.pos;have pz:0<(rs[j]).1.2*b.2*(W[i]?).getD 0:=Z5 (Z5 (by omega) (by omega)) (by omega);refine ⟨s1,?_,n2,s3,s4⟩;refine Zc (show (rs[j]).1.2*b.2*(W[i]?).getD 0≠0 by omega) ?_;generalize (rs[j]).1.2*b.2*(W[i]?).getD 0=Z at *;generalize (rs[j]).1.1*b.1*W.sum=Y at *
     calc a.1*D*Z=(a.1*Z)*D:=by grind
      _=a.2*(D*Y):=by rw [s2];grind
      _=_:=by rw [<- n1];grind
    ·refine ⟨szl,(qpf P Q).ok,(qpf 1 1).ok,qu ?_ hys,_,rfl⟩;rw [Qc,Q2 iW];show some (Va (decide (((Q1 rs.length).map (N i)).sum=D)))=some (Va (Vi (dSh P Q) (dSh 1 1)));rw [qyv];have:=qro D0 sh eq
     congr 2
     by_cases z:((Q1 rs.length).map (N i)).sum=D
     ·obtain ⟨z1,z2⟩:=this.mpr z;rw [decide_eq_true z,decide_eq_true z1,decide_eq_true z2];rfl
     ·rw [decide_eq_false z];by_cases z1:P=1
      ·by_cases z2:Q=1
       ·exact absurd (this.mp ⟨z1,z2⟩) z
       ·rw [decide_eq_false z2,Ya]
      ·rw [decide_eq_false z1,Jd]
  refine ⟨(Q1 W.length).map fun i=>decide (((Q1 rs.length).map (N i)).sum=D),by rw [Zk];rfl,?_⟩;have e:((Q1 W.length).map fun i=>decide (((Q1 rs.length).map (N i)).sum=D)).all id=false:=by
   cases z:((Q1 W.length).map fun i=>decide (((Q1 rs.length).map (N i)).sum=D)).all id with
   | false=>rfl
   | true =>
    exfalso;have:=Zi.mp z false (Qm.mpr ⟨i0,Q6.mpr hi0,decide_eq_false ne⟩);cases this
  rw [e];exact ⟨szl,h⟩
def zaaa (C1 C2 C:Addr) (q:Qi->Prop):Prop:=(C=C1/\q (.str "fit"))\/(C=C2/\q (.str "beliefs"))
def qrf:FnScope ["_law_caught"] ["_law_caught"] (defScope qem):=sc0
def qrh (F:Def K mg "_law_word" qem ["_law_caught"]) (T:Txt K mg cs)
 : Ok P w K mg base "_law_word" 1 ["_law_caught"] (ESp K (zaaa cs.NoFit cs.NoBeliefs)):=by
  refine F.vokE qrf rfl fun f cdv A outer s H E hr C q h=>?_;refine ⟨_,(qg (qY (qan (zaif 0 T.isinstance_ (qzd (qcg (v :=.ref cs.Full) rfl T.Full_ rfl) (qzd (qcg (v :=.ref cs.NoDulling) rfl T.NoDulling_ rfl) (qzd (qcg (v :=.ref cs.NoGlass) rfl T.NoGlass_ rfl) (qzd (qcg (v :=.ref cs.NoName) rfl T.NoName_ rfl) (qzd (qcg (v :=.ref cs.NoRow) rfl T.NoRow_ rfl) (qzd (qcg (v :=.ref cs.NoShare) rfl T.NoShare_ rfl) (qzd (qcg (v :=.ref cs.NoText) rfl T.NoText_ rfl) (qzd (qcg (v :=.ref cs.TooMany) rfl T.TooMany_ rfl) zaqh)))))))) rfl (szl (h:=rfl)))) (qh (qp qcd)) qr)
   (qg (qY (VW.pt (qei (qA (qgw hr.units) (qsx 0 T.isinstance_ (qcg (v :=.ref cs.NoFit) rfl T.NoFit_ rfl) rfl) (qsx 0 T.isinstance_ (qcg (v :=.ref cs.NoBeliefs) rfl T.NoBeliefs_ rfl) rfl)) (qdw (qap (qan (qsx 0 T.isinstance_ (qzb (v :=.ty "ValueError") rfl T.ValueError_ L2.boot_ValueError rfl) rfl)))))) (qh (qp qcd)) qr)
   (qh (qp (qx (qw (qaw (qa qcd (qa qcd qe)))) (qad zagz T.int_ L2.boot_int (qa (qsx 0 T.isinstance_ (qcg (v :=.ref cs.NoFit) rfl T.NoFit_ rfl) rfl) qe))))))),?_⟩
  rcases h with ⟨rfl,h⟩|⟨rfl,h⟩
  ·exact ⟨T.NoFit_x,_,T.k_NoFit_Full_NoDulling_NoGlass_NoName_NoRow_NoShare_NoText_TooMany,T.NoFit_x,_,T.k_NoFit_NoFit,T.NoFit_x,_,T.k_NoFit_NoBeliefs,rfl,rfl,iteZ (by decide +kernel) ⟨T.NoFit_x,_,T.k_NoFit_ValueError,iteZ rfl ⟨szl,T.NoFit_x,_,T.k_NoFit_NoFit,_,rfl,h⟩⟩⟩
  ·exact ⟨T.NoBeliefs_x,_,T.k_NoBeliefs_Full_NoDulling_NoGlass_NoName_NoRow_NoShare_NoText_TooMany,T.NoBeliefs_x,_,T.k_NoBeliefs_NoFit,T.NoBeliefs_x,_,T.k_NoBeliefs_NoBeliefs,rfl,rfl,iteZ (by decide +kernel) ⟨T.NoBeliefs_x,_,T.k_NoBeliefs_ValueError,iteZ rfl ⟨szl,T.NoBeliefs_x,_,T.k_NoBeliefs_NoFit,_,rfl,h⟩⟩⟩
def qiw (ds:List Qi) (q:Qi->Prop):Prop := ∃ (b:Int) (R:List (List Int)) (d dr:Qi),ds=[qbq b R,d,dr] /\
 ((∃ (W:List Int) (f:Int) (T:List (List Int)) (k:Nat) (js:List Nat),d = .tuple (W.map .int)/\dr = .list (js.map (qnn W f T))/\(Tab f T k/\W.length=T.length/\Wgt W/\f<=100000/\1<=js.length/\js.length<=12/\(∀ j ∈ js,0<(lkl W T j).sum) /\ ∀ s,s<T.length->(js.map fun j=>at2 T s j).sum=f)/\q (.str "told")) \/
  (dr = .none/\(wOk d=false \/ ∃ l,d = .tuple l/\wOk d=true/\l.length≠R.length)/\q (.str "fit")) \/
  (∃ l,dr = .list l/\wOk d=false/\q (.str "fit")) \/
  (∃ l W,dr = .list l/\d = .tuple (W.map .int)/\Wgt W/\qlc W l/\q (.str "beliefs")))
def qah:FnScope ["_law_glass","_law_weights_here","_law_rows","_law_caught","_law_found","e"] ["_law_glass","_law_weights_here","_law_rows"] (defScope qen):=sc0
def qrg (F:Def K mg "_law_said" qen ["_law_glass","_law_weights_here","_law_rows"]) (T:Txt K mg cs)
 (O_beliefs__x:OkX P w K mg base "beliefs" 3 ["glass","weights"] (qmg [cs.tb] (XSp K (qkz cs.NoFit))))
 (O_glass_by:Ok P w K mg base "glass_by" 7 ["weights","rows"] (PSp K qlm))
 (O_glass_by__x:OkX P w K mg base "glass_by" 7 ["weights","rows"] (XSp K (qiy cs.NoFit cs.NoBeliefs)))
 (O__law_word:Ok P w K mg base "_law_word" 1 ["_law_caught"] (ESp K (zaaa cs.NoFit cs.NoBeliefs)))
 : Ok P w K mg base "_law_said" 8 ["_law_glass","_law_weights_here","_law_rows"] (qmg [cs.tb] (PSp K qiw)):=by
  refine F.tvok qah (by rintro ds q ⟨_,_,_,_,h,_⟩;rw [h];rfl) fun f cdv A outer s H E hr hTb ds q h=>?_;obtain ⟨b,R,d,dr,rfl,h⟩:=h;refine ⟨_,(qg (qq (i:=3) qah.nd qjh)
   (qg (qq (i:=4) qah.nd qjh)
   (qg (zamo (i:=5) (C':=cs.GlassError) rfl rfl qah.nd T.GlassError_ T.GlassError_e (fun _ _ _ hp=>(qal (qov (qA zalb (qc 2) qjh) (qal (qyu (i:=4) qah.nd (zagd hp (O_beliefs__x.t hTb) hr.m (qa (qc 0) (qa (qc 1) qe))))
   (qbs qr)) (qal (zank (qyu (i:=4) qah.nd (zagd hp O_glass_by__x.c hr.m (qa (qc 1) (qa (qc 2) qe)))) (zage (qq (i:=4) qah.nd (qy O_glass_by.c hr.m (qa (qc 1) (qa (qc 2) qe))))))
   (qbs qr)))
   (qbs qr))) (fun _ _=>(qh (zail (i:=3) 5 qah.nd))))
   (qg (qY (zaij 3) (qh (qp (qx (qw (qaw (qa qcd (qa qcd qe)))) (qad zagz T.int_ L2.boot_int (qa (qgi zalb (qc 4) qjh) qe))))) qr)
   (qh (qp (zamr 3 O__law_word.c hr.m))))))),?_⟩
  rcases h with ⟨W,f',U,k,js,rfl,rfl,pre,h⟩|⟨rfl,h1,h⟩|⟨l,rfl,h1,h⟩|⟨l,W,rfl,rfl,hW,hB,h⟩
  ·refine ⟨rfl,.inr ⟨W,f',U,k,js,rfl,pre,szl,rfl,_,rfl,h⟩⟩
  ·refine ⟨rfl,b,R,d,rfl,h1,T.u_NoFit_GlassError,.inl ⟨rfl,h⟩⟩
  ·refine ⟨rfl,.inl ⟨d,l,rfl,.inl ⟨h1,T.u_NoFit_GlassError,.inl ⟨rfl,h⟩⟩⟩⟩
  ·refine ⟨rfl,.inl ⟨_,l,rfl,.inr ⟨W,rfl,hW,⟨T.u_NoBeliefs_GlassError,.inr ⟨rfl,h⟩⟩,hB⟩⟩⟩
def qze {n d:Nat}{v:Int} (h:0<=v):HT.sIx n d (some v)=min v.toNat n:=by
 show (if v<0 then _ else _)=_;rw [if_neg (by omega)]
def qib {α:Type} (l:List α) {i:Int} (h:0<=i):qpr l (some i) none=l.drop i.toNat:=by
 unfold qpr;rw [qze h,HT.sIx_none];by_cases h1:i.toNat<=l.length
 ·rw [Qgy h1,Jm (by simp)]
 ·rw [Qkr (by omega),Qgq (Qz _),Qgq (by omega)];simp
def qsn {α:Type} (l:List α) {j:Int} (h:0<=j):qpr l none (some j)=l.take j.toNat:=by
 unfold qpr;rw [qze h,HT.sIx_none,List.drop_zero,Nat.sub_zero];by_cases h1:j.toNat<=l.length
 ·rw [Qgy h1]
 ·rw [Qkr (by omega),Jm (Qz _),Jm (by omega)]
def BadW (W:List Int) (d:Qi):Prop:=wOk d=false \/ ∃ W':List Int,d = .tuple (W'.map .int)/\Wgt W'/\(W'=W.drop 1\/W'=W++W.take 1)
def zajv {l r:List Qi}{x:Qi} (h:qgf x=false):wOk (.tuple (l++[x]++r))=false:=by
 show (decide (2<=(l++[x]++r).length)&&decide ((l++[x]++r).length<=4)&&(l++[x]++r).all qgf)=false;have:(l++[x]++r).all qgf=false:=by
  cases z:(l++[x]++r).all qgf with
  | false=>rfl
  | true=>have:=Zi.mp z x (by simp);rw [h] at this;cases this
 rw [this,Ya]
def qyp {W W':List Int} (hw : ∀ w ∈ W',1<=w/\w<=1000) (h:W'=W.drop 1\/W'=W++W.take 1):BadW W (.tuple (W'.map .int)):=by
 by_cases l:2<=W'.length/\W'.length<=4
 ·exact .inr ⟨W',rfl,⟨l.1,l.2,fun w h=>(hw w h).1,fun w h=>(hw w h).2⟩,h⟩
 ·refine .inl ?_;show (decide (2<=(W'.map Zq).length)&&decide ((W'.map Zq).length<=4)&&(W'.map Zq).all qgf)=false;rw [Qk];by_cases a:2<=W'.length
  ·rw [decide_eq_false (fun z=>l ⟨a,z⟩),Ya];rfl
  ·rw [decide_eq_false a];rfl
def qds (ds0 ds:List Qi) (q:Qi->List Qi->Prop):Prop := ∃ W:List Int,ds=[.tuple (W.map .int)]/\qcb ds0/\Wgt W /\ ∀ (d:Qi) (p:List Qi),BadW W d->qcb p->q d p
def qas:FnScope ["_law_pen_here","_law_weights_here","_law_way","_law_at","_law_bad"] ["_law_pen_here","_law_weights_here"] (defScope qav):=sc0
def qhb (F:Def K mg "_law_bad_weights" qav ["_law_pen_here","_law_weights_here"]) (T:Txt K mg cs)
 (O__law_next:Ok P w K mg base "_law_next" 2 ["_law_pen_here","_law_many"] (NSp K qay))
 : Ok P w K mg base "_law_bad_weights" 3 ["_law_pen_here","_law_weights_here"] (NSp K qds):=by
  refine F.vokP qas (by rintro ds0 ds q ⟨_,h,_⟩;rw [h];rfl) (by decide) fun f cdv A outer s H E hr ds0 ds q h=>?_;obtain ⟨W,rfl,hP,hW,h⟩:=h;refine ⟨_,(qg (qq (i:=2) qas.nd (qaf 0 O__law_next.c hr.m (qa qf qe)))
   (qg (qq (i:=3) qas.nd (qaf 0 O__law_next.c hr.m (qa (qm qbh T.len_ L2.boot_len (qa (qc 1) qe)) qe)))
   (qg (qY (qA (qgw hr.units) (qc 2) qf) (qh (qp (qw (qqg zagl T.list_ L2.boot_list (qa (qc 1) qe))))) qr)
   (qg (qY (qA (qgw hr.units) (qc 2) qf) (qh (qp (qdk (qc 1) (qaj qf) qai))) qr)
   (qg (qY (qA (qgw hr.units) (qc 2) qf) (qh (qp (qt qmd (qc 1) (qdk (qc 1) qai (qaj qf))))) qr)
   (qg (qY (qA (qgw hr.units) (qc 2) qf) (qh (qp (qx (qw (qaw (qa qjh (qa qf (qa (qT qe) (qa qcd (qa zajs qe))))))) (qaf 0 O__law_next.c hr.m (qa qf qe))))) qr)
   (qg (qq (i:=4) qas.nd (qx (qw (qaw (qa qf (qa (qt qbc qf (qaf 0 O__law_next.c hr.m (qa (qt zapa qf qf) qe))) (qa qih (qa (qT (qa qf (qa qf qe))) (qa qjh qe))))))) (qt qmw (qc 2) qf)))
   (qh (qp (qt qmd (qt qmd (qdk (qc 1) qai (qaj (qc 3))) (qT (qa (qc 4) qe))) (qdk (qc 1) (qaj (qt qbc (qc 3) qf)) qai))))))))))),?_⟩
  have l2:=hW.l2;have l4:=hW.l4;have one : ∀ w ∈ W,1<=w/\w<=1000:=fun w h=>⟨hW.w1 w h,hW.w2 w h⟩
  refine ⟨rfl,rfl,9,rfl,hP,⟨by decide,by decide⟩,fun xw p1 w0 w1 hp1=>?_⟩;refine ⟨rfl,rfl,((W.map Zq).length:Nat),rfl,hp1,⟨by simp;omega,qk (qao (by omega) (by simp;omega)) (by decide)⟩,fun xa p2 at0 at1 hp2=>?_⟩;have hxa:xa.toNat<W.length:=by simp at at1;omega
  refine ⟨rfl,rfl,qcr (fun z=>⟨_,_,rfl,rfl,h _ _ (.inl rfl) hp2⟩) (fun z0=>?_)⟩;refine ⟨rfl,rfl,qcr (fun z=>?_) (fun z1=>?_)⟩
  ·rintro r1 e1;rw [qib _ (by decide),<- Qgd] at e1;subst e1;exact ⟨_,_,rfl,rfl,h _ _ (qyp (fun w hw=>one w (Qdy hw)) (.inl rfl)) hp2⟩
  refine ⟨rfl,rfl,qcr (fun z=>?_) (fun z2=>?_)⟩
  ·rintro r1 e1;rw [qsn _ (by decide),<- Qje] at e1;subst e1;refine ⟨Z6 (qi (by simp;omega)),_,_,rfl,rfl,?_⟩;rw [<- Zu];refine h _ _ (qyp (fun w hw=>?_) (.inr rfl)) hp2;rcases Zl.mp hw with hw|hw
   ·exact one w hw
   ·exact one w (Qdx hw)
  refine ⟨rfl,rfl,qcr (fun z=>?_) (fun z3=>?_)⟩
  ·refine ⟨szl,szl,rfl,rfl,5,rfl,hp2,⟨by decide,by decide⟩,fun y p3 y0 y1 hp3=>?_⟩;have:y=0\/y=1\/y=2\/y=3\/y=4:=by omega
   rcases this with rfl|rfl|rfl|rfl|rfl <;> exact ⟨_,rfl,_,_,rfl,rfl,h _ _ (.inl rfl) hp3⟩
  have hw:xw=4\/xw=5\/xw=6\/xw=7\/xw=8:=by omega
  have fin : ∀ (x:Qi) (p:List Qi),qgf x=false->qcb p->q (.tuple ((W.take xa.toNat).map .int++[x]++(W.drop (xa+1).toNat).map .int)) p:=fun x p hx hp=>h _ _ (.inl (zajv hx)) hp;have e1 : ∀ r,r=qpr (W.map Zq) none (some xa)->r=(W.take xa.toNat).map .int:=fun r e=>by rw [e,qsn _ at0,Qje]
  have e2 : ∀ r,r=qpr (W.map Zq) (some (xa+1)) none->r=(W.drop (xa+1).toNat).map .int:=fun r e=>by rw [e,qib _ (by omega),Qgd]
  refine ⟨rfl,⟨by decide,by decide,by decide⟩,rfl,10^9,rfl,hp2,⟨by decide,by decide⟩,fun y p3 y0 y1 hp3=>?_⟩;have big:qgf (.int (1001+y))=false:=by
   show (decide (1<=1001+y)&&decide (1001+y<=1000))=false;rw [decide_eq_false (p:=1001+y<=1000) (by omega),Ya]
  rcases hw with rfl|rfl|rfl|rfl|rfl
  ·refine ⟨szl,szl,_,rfl,?_⟩;rintro r1 q1;have q1:=e1 r1 q1;subst q1;refine ⟨szl,Z6 (qi (by simp;omega)),?_⟩;rintro r2 q2;have q2:=e2 r2 q2;subst q2;exact ⟨Z6 (qi (by simp;omega)),_,_,rfl,rfl,fin _ _ rfl hp3⟩
  ·refine ⟨szl,szl,_,rfl,?_⟩;rintro r1 q1;have q1:=e1 r1 q1;subst q1;refine ⟨szl,Z6 (qi (by simp;omega)),?_⟩;rintro r2 q2;have q2:=e2 r2 q2;subst q2;exact ⟨Z6 (qi (by simp;omega)),_,_,rfl,rfl,fin _ _ big hp3⟩
  ·refine ⟨szl,szl,_,rfl,?_⟩;rintro r1 q1;have q1:=e1 r1 q1;subst q1;refine ⟨szl,Z6 (qi (by simp;omega)),?_⟩;rintro r2 q2;have q2:=e2 r2 q2;subst q2;exact ⟨Z6 (qi (by simp;omega)),_,_,rfl,rfl,fin _ _ rfl hp3⟩
  ·refine ⟨szl,szl,_,rfl,?_⟩;rintro r1 q1;have q1:=e1 r1 q1;subst q1;refine ⟨szl,Z6 (qi (by simp;omega)),?_⟩;rintro r2 q2;have q2:=e2 r2 q2;subst q2;exact ⟨Z6 (qi (by simp;omega)),_,_,rfl,rfl,fin _ _ rfl hp3⟩
  ·refine ⟨szl,szl,_,rfl,?_⟩;rintro r1 q1;have q1:=e1 r1 q1;subst q1;refine ⟨szl,Z6 (qi (by simp;omega)),?_⟩;rintro r2 q2;have q2:=e2 r2 q2;subst q2;exact ⟨Z6 (qi (by simp;omega)),_,_,rfl,rfl,fin _ _ rfl hp3⟩
def qet (ds:List Qi) (q:Qi->Prop):Prop := ∃ d:Qi,ds=[d]/\q (.bool (wOk d))
def qex:FnScope ["_law_weights_here","_law_weight"] ["_law_weights_here"] (defScope qbv):=sc0
def qjv (F:Def K mg "_law_are_some" qbv ["_law_weights_here"]) (T:Txt K mg cs)
 : Ok P w K mg base "_law_are_some" 1 ["_law_weights_here"] (PSp K qet):=by
  refine F.vok qex (by rintro ds q ⟨_,h,_⟩;rw [h];rfl) fun f cdv A outer s H E hr ds q h=>?_;obtain ⟨d,rfl,h⟩:=h;refine ⟨_,(qg (qY (VW.pt (qei (qap (qan (qja T.isinstance_ T.tuple_ L2.boot_tuple (qc 0)))) (qei (qA o_lt (qm qbh T.len_ L2.boot_len (qa (qc 0) qe)) qf) (qdw (qA o_gt (qm qbh T.len_ L2.boot_len (qa (qc 0) qe)) qf))))) (qh (qp qih)) qr)
   (qg (qef rfl (qQ (qc 0)) (qo (i:=1) qex.nd) (qh (qY (VW.pt (qei (qap (qan (qja T.isinstance_ T.int_ L2.boot_int (qc 1)))) (qei (qan (qja T.isinstance_ T.bool_ L2.boot_bool (qc 1))) (qei (qA o_lt (qc 1) qf) (qdw (qA o_gt (qc 1) qf)))))) (qh (qp qih)) qr)))
   (qh (qp qih)))),?_⟩
  cases d with
  | tuple l =>
   have ew:wOk (.tuple l)=(decide (2<=l.length)&&decide (l.length<=4)&&l.all qgf):=rfl;refine qey (fun z=>?_) (fun z=>qey (fun z2=>?_) (fun z2=>?_))
   ·rw [ew,decide_eq_false (p:=2<=l.length) (by omega)] at h;exact h
   ·rw [ew,decide_eq_false (p:=l.length<=4) (by omega),Ya] at h;exact h
   have fail : ∀ x ∈ l,qgf x=false->q (.bool false):=fun x hx hn=>by
    have:l.all qgf=false:=by
     cases y:l.all qgf with
     | false=>rfl
     | true=>have:=Zi.mp y x hx;rw [hn] at this;cases this
    rw [ew,this,Ya] at h;exact h
   refine ⟨fun i e => ∃ t,e=[.val (.tuple l),t]/\(l.take i).all qgf=true,⟨_,rfl,rfl⟩,?_,?_⟩
   ·rintro i x e hx ⟨t,rfl,ha⟩;have hm:=Qj hx;have go:qgf x=true->(l.take (i+1)).all qgf=true:=fun hy=>by
     rw [Vd,hx,List.all_append,ha];simp [hy]
    cases x with
    | int n =>
     refine qey (fun c1=>?_) (fun c1=>qey (fun c2=>?_) (fun c2=>?_))
     ·exact fail _ hm (by show (decide (1<=n)&&decide (n<=1000))=false;rw [decide_eq_false (p:=1<=n) (by omega)];rfl)
     ·exact fail _ hm (by show (decide (1<=n)&&decide (n<=1000))=false;rw [decide_eq_false (p:=n<=1000) (by omega),Ya])
     ·exact ⟨_,rfl,go (by show (decide (1<=n)&&decide (n<=1000))=true;rw [decide_eq_true (p:=1<=n) (by omega),decide_eq_true (p:=n<=1000) (by omega)];rfl)⟩
    | _=>exact fail _ hm rfl
   ·rintro e ⟨t,rfl,ha⟩;rw [Yt] at ha;rw [ew,ha,decide_eq_true (p:=2<=l.length) (by omega),decide_eq_true (p:=l.length<=4) (by omega)] at h;exact h
  | _=>exact h
def qhu (ds:List Qi) (q:Qi->Prop):Prop := ∃ t b:Int,ds=[.int t,.int b]/\(1<=b/\intBits b<=9000)/\q (dSh (shT t b) (shB t b))
def zand {t b:Int} (h:1<=b):shT t b=t/(Yr t b:Int)/\shB t b=b/(Yr t b:Int):=by
 unfold shT shB cm;rw [if_neg (by omega)];exact ⟨Qbi _ (by omega),Qbi _ (by omega)⟩
def qia:FnScope ["_law_top","_law_bottom","_law_both"] ["_law_top","_law_bottom"] (defScope qdy):=sc0
def qpk (F:Def K mg "_law_share" qdy ["_law_top","_law_bottom"]) (T:Txt K mg cs)
 (O__law_divisor:Ok P w K mg base "_law_divisor" 1 ["_law_numbers"] (PSp K qdq))
 : Ok P w K mg base "_law_share" 2 ["_law_top","_law_bottom"] (PSp K qhu):=by
  refine F.vok qia (by rintro ds q ⟨_,_,h,_⟩;rw [h];rfl) fun f cdv A outer s H E hr ds q h=>?_;obtain ⟨t,b,rfl,⟨hb,zb⟩,h⟩:=h;refine ⟨_,(qg (qq (i:=2) qia.nd (qy O__law_divisor.c hr.m (qa (qw (qaw (qa (qc 0) (qa (qc 1) qe)))) qe)))
   (qh (qp (qT (qa (qt qhf (qc 0) (qc 2)) (qa (qt qhf (qc 1) (qc 2)) qe)))))),?_⟩
  have eg:qW 0 [t,b]=Yr t b:=by
   show Yr ((Yr ((0:Nat):Int) t:Nat):Int) b=Yr t b;simp;show Qaa (Int.natAbs (t.natAbs:Int)) b.natAbs=Qaa t.natAbs b.natAbs;rw [Int.natAbs_natCast]
  have g0:=qsc (t:=t) (b:=b) (by omega);have zg:intBits (Yr t b:Int)<=9000:=by
   refine Y5 ?_ zb;exact Qcp (by omega) (Qjv t.natAbs b.natAbs)
  refine ⟨szl,_,[t,b],rfl,rfl,?_⟩;rw [eg];obtain ⟨e1,e2⟩:=zand (t:=t) hb;rw [e1,e2] at h;exact ⟨⟨by omega,zg⟩,⟨by omega,zg⟩,szl,h⟩
def qzy {g:Nat->Int}{a:Nat}{u:Int} : ∀ {n:Nat},((Q1 n).map fun j=>if j=a then u else g j).sum=((Q1 n).map g).sum+(if a<n then u-g a else 0)
 | 0=>by simp
 | n+1=>by
  have ih:=qzy (g:=g) (a:=a) (u:=u) (n:=n);rw [Qli,Zu,Yd,ih,Zu,Yd];simp only [Q7,Qaf,Q5,Qfa,Qkf];by_cases e:n=a
  ·subst e;rw [if_pos rfl,if_neg (by omega),if_pos (by omega)];omega
  ·rw [if_neg e];by_cases z:a<n
   ·rw [if_pos z,if_pos (by omega)];omega
   ·rw [if_neg z,if_neg (by omega)];omega
def zaoa (g:Nat->Int) (js:List Nat):((Q1 js.length).map fun j=>g ((js[j]?).getD 0)).sum=(js.map g).sum:=by
 congr 1
 refine Zs fun j=>?_;rw [Qc,Qc];by_cases z:j<js.length
 ·rw [Q2 z];show some (g ((js[j]?).getD 0))=_;rw [Qa z];rfl
 ·rw [Qt (l:=Q1 _) (by simp;omega),Qt (l:=js) (by omega)];rfl
def zacu {p q:Int} (h:Shr p q):Shr (p+q) q:=⟨h.pos,by have:=h.gcd;rw [Int.gcd_add_self_left];exact this⟩
section
variable {W W':List Int}{f:Int}{T:List (List Int)}{k a j:Nat}{js:List Nat}
def Bl.more (h:Bl W f T k js) (ej:js[a]?=some j) {st:Nat}{b:Int×Int} (eb:(qS W T j)[st]?=some b) (W':List Int):qlc W' (((qau W f T js).set a (qF W f T j,(qS W T j).set st (b.1+b.2,b.2))).map dR):=by
 have s0:=h.p j (Qj ej);have ok:=qeq h.w h.l h.t h.z s0;have sl:=(Qg.mp eb).1;have lx:(lkl W T j).length=(qS W T j).length:=ok.l;have l5:(qS W T j).length<=5:=ok.l5;have ex:(lkl W T j)[st]?=some ((lkl W T j)[st]'(by omega)):=Qa _;obtain ⟨y,ey⟩ : ∃ y,(lkl W T j)[st]?=some y:=⟨_,ex⟩
 have sum:((lkl W T j).set st (y+(lkl W T j).sum)).sum=2*(lkl W T j).sum:=by
  have e1:=Jt (l:=lkl W T j) (i:=st) (a:=y+(lkl W T j).sum);rw [if_pos (by omega)] at e1;rw [e1,Yd,Q5];have e2:lkl W T j=(lkl W T j).take st++y::(lkl W T j).drop (st+1):=by
   conv=>lhs;rw [<- Qaz st (lkl W T j)]
   rw [Qbq (by omega)];rw [Qa (by omega)] at ey;rw [Qx ey]
  have e3:=congrArg Qmk e2;rw [Yd,Q5] at e3;omega
 refine h.set (a:=a) (X:=(qF W f T j,(qS W T j).set st (b.1+b.2,b.2))) (xX:=(lkl W T j).set st (y+(lkl W T j).sum)) (wX:=(lkl W T j).sum) (Qg.mp ej).1 ⟨ok.a,ok.za,by simp [lx],by simp;exact l5,s0,ok.zw,by omega,fun i c z hc hz=>?_⟩ (qyd (by rw [sum];omega));have hc:((qS W T j).set st (b.1+b.2,b.2))[i]?=some c:=hc;by_cases e:st=i
 ·subst e;rw [Yl,if_pos rfl,if_pos (by omega)] at hc hz;cases hc;cases hz;obtain ⟨a1,a2,_,a4,a5,a6⟩:=qyy h.w h.l h.t h.z s0 eb ey;have q1:=a1.pos;refine ⟨zacu a1,?_,qk (Qic a5 a6) (by decide),qk a6 (by decide)⟩;show (b.1+b.2)*(lkl W T j).sum=b.2*(y+(lkl W T j).sum);rw [Qii,Qdg,a2]
 ·rw [Z7 e] at hc hz;exact ok.o i c z hc hz
def Bl.bent (h:Bl W f T k js) (ej:js[a]?=some j) {st ot n:Nat} (hs:st<n) (ho:ot<n) (ne:st≠ot) (n5:n<=5) (W':List Int):qlc W' (((qau W f T js).set a (qF W f T j,((Q4 n ((0:Int),(1:Int))).set st (-1,2)).set ot (3,2))).map dR):=by
 have s0:=h.p j (Qj ej);have ok:=qeq h.w h.l h.t h.z s0;have sum:(((Q4 n (0:Int)).set st (-1)).set ot 3).sum<=4:=by
  have le : ∀ (l:List Int) (i:Nat) (v m:Int),0<=m->v<=m->(l.set i v).sum<=l.sum+m-(l[i]?).getD 0\/l.length<=i:=fun l i v m m0 vm=>by
   by_cases z:i<l.length
   ·left;have e1:=Jt (l:=l) (i:=i) (a:=v);rw [if_pos z] at e1;rw [e1,Yd,Q5];have e2:l=l.take i++l[i]::l.drop (i+1):=by
     conv=>lhs;rw [<- Qaz i l]
     rw [Qbq z]
    have e3:=congrArg Qmk e2;rw [Yd,Q5] at e3;rw [Qa z];show _<=l.sum+m-l[i];omega
   ·right;omega
  have z0:(Q4 n (0:Int)).sum=0:=by simp
  rcases le (Q4 n (0:Int)) st (-1) 0 (by decide) (by decide) with q|q
  ·rw [z0,Vr,if_pos hs] at q;rcases le ((Q4 n (0:Int)).set st (-1)) ot 3 3 (by decide) (by decide) with r|r
   ·rw [Z7 ne,Vr,if_pos ho] at r;have q:((Q4 n (0:Int)).set st (-1)).sum<=0+0-0:=q;have r:(((Q4 n (0:Int)).set st (-1)).set ot 3).sum<=((Q4 n (0:Int)).set st (-1)).sum+3-0:=r;omega
   ·simp at r;omega
  ·simp at q;omega
 refine h.set (a:=a) (X:=(qF W f T j,((Q4 n ((0:Int),(1:Int))).set st (-1,2)).set ot (3,2))) (xX:=((Q4 n (0:Int)).set st (-1)).set ot 3) (wX:=2) (Qg.mp ej).1 ⟨ok.a,ok.za,by simp,by simp;exact n5,by decide,by decide,by omega,fun i c z hc hz=>?_⟩ (zajo (y := -1) ?_ (by decide))
 ·have hc:(((Q4 n ((0:Int),(1:Int))).set st (-1,2)).set ot (3,2))[i]?=some c:=hc;by_cases e:ot=i
  ·subst e;rw [Yl,if_pos rfl,if_pos (by simp;exact ho)] at hc hz;cases hc;cases hz;exact ⟨⟨by decide,by decide⟩,by decide,by decide,by decide⟩
  ·rw [Z7 e] at hc hz;by_cases e2:st=i
   ·subst e2;rw [Yl,if_pos rfl,if_pos (by simp;exact hs)] at hc hz;cases hc;cases hz;exact ⟨⟨by decide,by decide⟩,by decide,by decide,by decide⟩
   ·rw [Z7 e2] at hc hz;rw [Vr] at hc hz;split at hc
    ·rename_i z2;rw [if_pos z2] at hz;cases hc;cases hz;exact ⟨⟨by decide,by decide⟩,by decide,by decide,by decide⟩
    ·cases hc
 ·refine Yw.mpr ⟨st,?_⟩;rw [Z7 (Yb ne),Yl,if_pos rfl,if_pos (by simp;exact hs)]
def Bl.app (h:Bl W f T k js) (ej:js[a]?=some j) {s:Int×Int} (hs:Shr s.1 s.2) (z:intBits s.1<=100/\intBits s.2<=100) (no : ¬ 0<s.1) (W':List Int):qlc W' ((qau W f T js++[(s,qS W T j)]).map dR):=by
 have s0:=h.p j (Qj ej);have ok:=qeq h.w h.l h.t h.z s0;have j1:=h.j1;have j2:=h.j2;have l:(qau W f T js).length=js.length:=by unfold qau;simp
 by_cases m:js.length=12
 ·exact .inr (.inl (by simp [l];omega))
 refine .inr (.inr ⟨_,fun i=>if i=js.length then lkl W T j else xOf W T js i,fun i=>if i=js.length then (lkl W T j).sum else (xOf W T js i).sum,rfl,by simp,by simp [l];omega,fun i r er=>?_,.inl ⟨js.length,(s,qS W T j),by rw [Yi (by omega)];simp [l],zaew no⟩⟩);by_cases e:i=js.length
 ·subst e;dsimp only;rw [if_pos rfl,if_pos rfl];rw [Yi (by omega)] at er;simp [l] at er;subst er;exact ⟨hs,z,ok.l,ok.l5,ok.w0,ok.zw,ok.s,ok.o⟩
 ·dsimp only;rw [if_neg e,if_neg e];by_cases w:i<js.length
  ·rw [Zm (by omega)] at er;exact h.ok er
  ·rw [Qt (by simp [l];omega)] at er;cases er
def Bl.one (h:Bl W f T k js) (h1:js.length=1) (ej:js[a]?=some j) : ∀ s,s<T.length->at2 T s j=f:=fun s hs=>by
 have e:=h.s s hs
 match js,h1,ej with
 | [i],_,ej =>
  have a0:a=0:=by
   have:=(Qg.mp ej).1;simp at this;exact this
  subst a0;cases ej;simpa using e
def Bl.fewer (h:Bl W f T k js) (ej:js[a]?=some j) (hw:W'.length=W.length\/W'.length=W.length-1\/W'.length=W.length+1):qlc W' (((qau W f T js).set a (qF W f T j,(qS W T j).drop 1)).map dR):=by
 have s0:=h.p j (Qj ej);have ok:=qeq h.w h.l h.t h.z s0;have lx:(lkl W T j).length=(qS W T j).length:=ok.l;have lb:(qS W T j).length=W.length:=by rw [qbm h.l,h.l]
 have l2:=h.w.l2;have l4:=h.w.l4;have j1:=h.j1;have hT:0<T.length:=by have:=h.l;omega
 have x0:=qmz (j:=j) h.l hT;have nn : ∀ y ∈ lkl W T j,0<=y:=fun y hy=>(qjp h.w h.l h.t hy).1;obtain ⟨v1,v2⟩:=h.w.at (show 0<W.length by omega);have t0:=qff h.t.nn 0 j;have y0:0<=(W[0]?).getD 0*at2 T 0 j:=Z9 (by omega) t0;have sum:((lkl W T j).drop 1).sum=(lkl W T j).sum-(W[0]?).getD 0*at2 T 0 j:=by
  have e:lkl W T j=(W[0]?).getD 0*at2 T 0 j::(lkl W T j).drop 1:=by
   have:=Qbq (l:=lkl W T j) (i:=0) (by omega);rw [Qa (by omega)] at x0;rw [Qx x0] at this;exact this
  have e:=congrArg Qmk e;rw [Q5] at e;omega
 have rk:RwOk (qF W f T j,(qS W T j).drop 1) ((lkl W T j).drop 1) (lkl W T j).sum:=⟨ok.a,ok.za,by simp [lx],by simp;omega,s0,ok.zw,by omega,fun i c z hc hz=>by
  have hc:((qS W T j).drop 1)[i]?=some c:=hc;rw [List.getElem?_drop] at hc hz;exact ok.o (1+i) c z hc hz⟩
 have al:=(Qg.mp ej).1;by_cases n:W'.length=W.length-1
 ·by_cases j2:2<=js.length
  ·exact h.other rk j2 (by omega)
  ·refine h.set al rk (qyd ?_);have:=h.one (by omega) ej 0 hT;have f0:=h.t.pos;rw [sum,this];have:=Z5 (show 0<(W[0]?).getD 0 by omega) (show 0<f by omega);omega
 ·refine h.set al rk (qpg ?_);show (((qS W T j).drop 1).length:Int)≠W'.length;rw [Qal,lb];omega
def Bl.part (h:Bl W f T k js) (ej:js[a]?=some j) (hw:W'=W\/W'.length≠W.length):qlc W' (((qau W f T js).set a ((shT (qF W f T j).1 ((qF W f T j).2+1),shB (qF W f T j).1 ((qF W f T j).2+1)),qS W T j)).map dR):=by
 have s0:=h.p j (Qj ej);have ok:=qeq h.w h.l h.t h.z s0;have is:=qxp h.w h.l h.t h.z s0;obtain ⟨⟨p1,p2,pp⟩,zp,zq⟩:=qjb h.w h.l h.t h.z s0;have al:=(Qg.mp ej).1;have q1:=p1.pos;have z1:intBits ((qF W f T j).2+1)<=65:=qk (Qic zq (show intBits 1<=64 by decide)) (by decide);obtain ⟨e1,e2⟩:=qdp (t:=(qF W f T j).1) (b:=(qF W f T j).2+1) (by omega);have e3:=e1.pos;have rp:0<shT (qF W f T j).1 ((qF W f T j).2+1):=by
  refine Qev (a:=(qF W f T j).2+1) ?_ (by omega);rw [Qcg,e2];exact Z5 pp (by omega)
 have rk:RwOk ((shT (qF W f T j).1 ((qF W f T j).2+1),shB (qF W f T j).1 ((qF W f T j).2+1)),qS W T j) (lkl W T j) (lkl W T j).sum:=⟨e1,⟨qk (qcu zp) (by decide),qk (qfj z1) (by decide)⟩,ok.l,ok.l5,ok.w0,ok.zw,ok.s,ok.o⟩
 rcases hw with rfl|hw
 ·have rb:isB ((shT (qF W' f T j).1 ((qF W' f T j).2+1),shB (qF W' f T j).1 ((qF W' f T j).2+1)),qS W' T j) (lkl W' T j) (lkl W' T j).sum W'.length=true:=by
   unfold isB at is ⊢;rw [Ys] at is ⊢;exact ⟨decide_eq_true rp,is.2⟩
  have j1:=h.j1;have j2:=h.j2;have f0:=h.t.pos;have l0:(qau W' f T js).length=js.length:=by unfold qau;simp
  have sums : ∀ i,i<W'.length->((Q1 js.length).map fun l=>if l=a then at2 T i j*(qF W' f T j).2 else at2 T i ((js[l]?).getD 0)*((qF W' f T j).2+1)).sum=f*((qF W' f T j).2+1)-at2 T i j:=fun i hi=>by
   rw [qzy (g:=fun l=>at2 T i ((js[l]?).getD 0)*((qF W' f T j).2+1)),if_pos al,zaoa (fun l=>at2 T i l*((qF W' f T j).2+1))];have e:(js.map fun l=>at2 T i l*((qF W' f T j).2+1)).sum=(js.map fun l=>at2 T i l).sum*((qF W' f T j).2+1):=by
    clear al ej j1 j2 h l0
    induction js with
    | nil=>simp
    | cons x js ih=>rw [Q7,Q5,ih,Q7,Q5,Qii]
   rw [e,h.s i (by rw [<- h.l];exact hi),ej];show f*((qF W' f T j).2+1)+(at2 T i j*(qF W' f T j).2-at2 T i j*((qF W' f T j).2+1))=_;rw [Qdg (at2 T i j)];omega
  refine .inr (.inr ⟨_,fun l=>if l=a then lkl W' T j else xOf W' T js l,fun l=>if l=a then (lkl W' T j).sum else (xOf W' T js l).sum,rfl,by rw [Yc,l0];exact j1,by rw [Yc,l0];exact j2,fun l r er=>h.set_ok rk er,.inr ⟨fun l r er=>?_,f*((qF W' f T j).2+1),fun i l=>if l=a then at2 T i j*(qF W' f T j).2 else at2 T i ((js[l]?).getD 0)*((qF W' f T j).2+1),⟨Z5 (by omega) (by omega),qk (J0 (qao (by omega) (by have:=h.z;omega)) z1) (by decide)⟩,fun l r i b er eb=>?_,fun i hi=>?_,?_⟩⟩)
  ·by_cases e:l=a
   ·subst e;rw [Yl,if_pos rfl,if_pos (by omega)] at er;cases er;dsimp only;rw [if_pos rfl,if_pos rfl];exact rb
   ·dsimp only;rw [if_neg e,if_neg e];rw [Z7 (Yb e)] at er;exact h.is er
  ·by_cases e:l=a
   ·subst e;rw [Yl,if_pos rfl,if_pos (by omega)] at er;cases er;dsimp only;rw [if_pos rfl];have t0:=qff h.t.nn i j;refine ⟨?_,Z9 t0 (by omega)⟩;have n1:=zaci h.w h.l h.t h.z s0 (i:=i) (b:=b) eb;have n1:at2 T i j*((qF W' f T j).2*b.2*(W'[i]?).getD 0)=f*((qF W' f T j).1*b.1*W'.sum):=n1;show at2 T i j*(qF W' f T j).2*(shB (qF W' f T j).1 ((qF W' f T j).2+1)*b.2*(W'[i]?).getD 0)=f*((qF W' f T j).2+1)*(shT (qF W' f T j).1 ((qF W' f T j).2+1)*b.1*W'.sum);generalize shT (qF W' f T j).1 ((qF W' f T j).2+1)=u at *;generalize shB (qF W' f T j).1 ((qF W' f T j).2+1)=v at *;generalize (qF W' f T j).1=P at *;generalize (qF W' f T j).2=Q at *;generalize at2 T i j=t at *;generalize (W'[i]?).getD 0=w at *
    calc t*Q*(v*b.2*w)=v*(t*(Q*b.2*w)):=by grind
     _=(P*v)*f*b.1*W'.sum:=by rw [n1];grind
     _=_:=by rw [<- e2];grind
   ·dsimp only;rw [if_neg e];rw [Z7 (Yb e)] at er;obtain ⟨j',ej',rfl,ex⟩:=qxv er;have t0:=qff h.t.nn i j';rw [ej'];show at2 T i j'*((qF W' f T j).2+1)*_=_/\0<=at2 T i j'*((qF W' f T j).2+1);refine ⟨?_,Z9 t0 (by omega)⟩;have n1:=zaci h.w h.l h.t h.z (h.p j' (Qj ej')) (i:=i) (b:=b) eb;generalize (rwB W' f T j').1.2*b.2*(W'[i]?).getD 0=Z at *;generalize (rwB W' f T j').1.1*b.1*W'.sum=Y at *
    calc at2 T i j'*((qF W' f T j).2+1)*Z=(at2 T i j'*Z)*((qF W' f T j).2+1):=by grind
     _=_:=by rw [n1];grind
  ·rw [Yc,l0,sums i hi];have t0:=qff h.t.nn i j;have:=Z5 (show 0<f by omega) (show 0<(qF W' f T j).2+1 by omega);omega
  ·have ex : ∃ i,i<T.length/\0<at2 T i j:=by
    rcases Classical.em (∃ i,i<T.length/\0<at2 T i j) with z|z
    ·exact z
    ·exfalso;have e:(lkl W' T j).sum=0:=by
      rw [qnb h.l];refine qed fun s hs=>?_;have t0:=qff h.t.nn s j;have:at2 T s j=0:=by
       rcases Qce 0 (at2 T s j) with y|y
       ·exact absurd ⟨s,hs,y⟩ z
       ·omega
      rw [this,Jg]
     omega
   obtain ⟨i,hi,ti⟩:=ex;refine ⟨i,by rw [h.l];exact hi,?_⟩;rw [Yc,l0,sums i (by rw [h.l];exact hi)];omega
 ·refine h.set al rk (qpg ?_);show ((qS W T j).length:Int)≠W'.length;rw [qbm h.l,<- h.l];omega
def Bl.wider (h:Bl W f T k js) (ej:js[a]?=some j) (hw:W'.length=W.length\/W'.length=W.length-1\/W'=W++W.take 1):qlc W' (((qau W f T js).set a (qF W f T j,qS W T j++[(0,1)])).map dR):=by
 have s0:=h.p j (Qj ej);have ok:=qeq h.w h.l h.t h.z s0;have lx:(lkl W T j).length=(qS W T j).length:=ok.l;have lb:(qS W T j).length=W.length:=by rw [qbm h.l,h.l]
 have l2:=h.w.l2;have l4:=h.w.l4;have j1:=h.j1;have al:=(Qg.mp ej).1;have sum:(lkl W T j++[0]).sum=(lkl W T j).sum:=by simp
 have rk:RwOk (qF W f T j,qS W T j++[(0,1)]) (lkl W T j++[0]) (lkl W T j).sum:=⟨ok.a,ok.za,by simp [lx],by simp;omega,s0,ok.zw,by omega,fun i c z hc hz=>by
  have hc:(qS W T j++[(0,1)])[i]?=some c:=hc;by_cases e:i<(qS W T j).length
  ·rw [Zm e] at hc;rw [Zm (by omega)] at hz;exact ok.o i c z hc hz
  ·rw [Yi (by omega)] at hc hz;have e0:i-(qS W T j).length=0:=by
    rcases Qax (i-(qS W T j).length) with w|w
    ·exact w
    ·rw [Qt (by simp;omega)] at hc;cases hc
   rw [lx] at hz;rw [e0] at hc hz;cases hc;cases hz;exact ⟨⟨by decide,by decide⟩,by simp,by decide,by decide⟩⟩
 by_cases n:W'.length=W.length+1
 ·have hw:W'=W++W.take 1:=by
   rcases hw with z|z|z
   ·omega
   ·omega
   ·exact z
  by_cases j2:2<=js.length
  ·exact h.other rk j2 (by omega)
  ·have h1:js.length=1:=by omega
   have one:=h.one h1 ej;have f0:=h.t.pos;obtain ⟨w1,w4⟩:=h.w.sum;have a0:a=0:=by omega
   subst a0;have l0:(qau W f T js).length=1:=by unfold qau;simp [h1]
   have Sf:(lkl W T j).sum=W.sum*f:=by
    rw [qnb h.l,qkj W,Zw,<- qaq,h.l];refine qH fun s hs=>?_;rw [one s hs,Zw]
   obtain ⟨⟨p1,p2,pp⟩,zp,zq⟩:=qjb h.w h.l h.t h.z s0;have q1:=p1.pos;have pq:(qF W f T j).1=(qF W f T j).2:=by
    rw [Sf] at p2;refine Zc (show W.sum*f≠0 from Qdp (Z5 (by omega) (by omega))) ?_;rw [p2,Zw]
   obtain ⟨v1,v2⟩:=h.w.at (show 0<W.length by omega);have ws:W'.sum=W.sum+(W[0]?).getD 0:=by
    rw [hw,Yd];cases W with
    | nil=>simp at l2
    | cons x W=>simp
   have wle:(W[0]?).getD 0<=W.sum:=by
    cases W with
    | nil=>simp at l2
    | cons x W=>exact h.w.le (by simp)
   refine .inr (.inr ⟨_,fun l=>if l=0 then lkl W T j++[0] else xOf W T js l,fun l=>if l=0 then (lkl W T j).sum else (xOf W T js l).sum,rfl,by simp [l0],by simp [l0],fun l r er=>h.set_ok rk er,.inr ⟨fun l r er=>?_,W.sum,fun i l=>if i<W.length then W'.sum else 0,⟨by omega,qk (qao (by omega) (by omega)) (by decide)⟩,fun l r i b er eb=>?_,fun i hi=>?_,?_⟩⟩)
   ·have e:l=0:=by have:=(Qg.mp er).1;simp [l0] at this;exact this
    subst e;rw [Yl,if_pos rfl,if_pos (by omega)] at er;cases er;dsimp only;rw [if_pos rfl,if_pos rfl];unfold isB;have e:(lkl W T j++[0]).all (fun y=>decide (0<=y))=true:=by
     rw [Zi];intro y hy;rcases Zl.mp hy with hy|hy
     ·exact decide_eq_true (qjp h.w h.l h.t hy).1
     ·rw [Qw.mp hy];rfl
    have l:((qS W T j++[((0:Int),(1:Int))]).length:Int)=W'.length:=by rw [Z4,lb,n];rfl
    rw [e,decide_eq_true (p:=0<(qF W f T j).1) pp,decide_eq_true l,decide_eq_true sum];rfl
   ·have e:l=0:=by have:=(Qg.mp er).1;simp [l0] at this;exact this
    subst e;rw [Yl,if_pos rfl,if_pos (by omega)] at er;cases er;have eb:(qS W T j++[((0:Int),(1:Int))])[i]?=some b:=eb;by_cases z:i<W.length
    ·dsimp only;rw [if_pos z];rw [Zm (by omega)] at eb;have n1:at2 T i j*((qF W f T j).2*b.2*(W[i]?).getD 0)=f*((qF W f T j).1*b.1*W.sum):=zaci h.w h.l h.t h.z s0 (i:=i) (b:=b) eb;rw [one i (by rw [<- h.l];exact z)] at n1;have n1:=Y1 (show f≠0 by omega) n1;have eW:W'[i]?=W[i]?:=by rw [hw,Zm z]
     refine ⟨?_,by omega⟩;show W'.sum*((qF W f T j).2*b.2*(W'[i]?).getD 0)=W.sum*((qF W f T j).1*b.1*W'.sum);rw [eW,n1];grind
    ·dsimp only;rw [if_neg z];rw [Yi (by omega)] at eb;have e0:i-(qS W T j).length=0:=by
      rcases Qax (i-(qS W T j).length) with w|w
      ·exact w
      ·rw [Qt (by simp;omega)] at eb;cases eb
     rw [e0] at eb;cases eb;refine ⟨?_,by omega⟩;show 0*_=W.sum*((qF W f T j).1*0*W'.sum);simp
   ·show ((Q1 _).map fun l=>if i<W.length then W'.sum else 0).sum<=2*W.sum;rw [Yc,l0];simp;split <;> omega
   ·refine ⟨W.length,by omega,?_⟩;show ((Q1 _).map fun l=>if W.length<W.length then W'.sum else 0).sum≠W.sum;rw [Yc,l0];simp;omega
 ·refine h.set al rk (qpg ?_);show ((qS W T j++[((0:Int),(1:Int))]).length:Int)≠W'.length;rw [Z4,lb];simp;omega
end
def qyo {α β:Type}{g:α->β}{l:List α}{a:Nat}{x:α} (h:a<l.length):(l.map g).take a++[g x]++(l.map g).drop (a+1)=(l.set a x).map g:=by
 rw [Qhh,Jt,if_pos (by rw [Qk];exact h),Qfn];rfl
def qes (ds0 ds:List Qi) (q:Qi->List Qi->Prop):Prop := ∃ (W:List Int) (f:Int) (T:List (List Int)) (k:Nat) (js:List Nat),ds=[.list ((qau W f T js).map dR)]/\qcb ds0/\Bl W f T k js /\ ∀ (l p:List Qi),(∀ W',(W'=W\/W'=W.drop 1\/W'=W++W.take 1)->qlc W' l)->qcb p->q (.list l) p
def qz:FnScope ["_law_pen_here","_law_rows","_law_way","_law_at","_law_part","_law_belief_here","_law_stand","_law_parts","_law_other","_law_bent","_law_more"] ["_law_pen_here","_law_rows"] (defScope qbw):=sc0
def qkd (F:Def K mg "_law_bad_rows" qbw ["_law_pen_here","_law_rows"]) (T:Txt K mg cs)
 (O__law_next:Ok P w K mg base "_law_next" 2 ["_law_pen_here","_law_many"] (NSp K qay))
 (O__law_share:Ok P w K mg base "_law_share" 2 ["_law_top","_law_bottom"] (PSp K qhu))
 : Ok P w K mg base "_law_bad_rows" 3 ["_law_pen_here","_law_rows"] (NSp K qes):=by
  refine F.vokP qz (by rintro ds0 ds q ⟨_,_,_,_,_,h,_⟩;rw [h];rfl) (by decide) fun f cdv A outer s H E hr ds0 ds q h=>?_;obtain ⟨W,f',T',k,js,rfl,hP,hB,h⟩:=h;refine ⟨_,(qg (qq (i:=2) qz.nd (qaf 0 O__law_next.c hr.m (qa qf qe)))
   (qg (qq (i:=3) qz.nd (qaf 0 O__law_next.c hr.m (qa (qm qbh T.len_ L2.boot_len (qa (qc 1) qe)) qe)))
   (qg (zamx (qx (qc 1) (qc 3)) (qje (n:=2) rfl (qar (qo (i:=4) qz.nd) (qar (qo (i:=5) qz.nd) qgh))))
   (qg (qq (i:=6) qz.nd (qaf 0 O__law_next.c hr.m (qa (qm qbh T.len_ L2.boot_len (qa (qc 5) qe)) qe)))
   (qg (qY (qA (qgw hr.units) (qc 2) qf) (qh (qp (qw (qaw qe)))) qr)
   (qg (qY (qA (qgw hr.units) (qc 2) qf) (qg (qq (i:=7) qz.nd (qt qmw qf (qm qbh T.len_ L2.boot_len (qa (qc 1) qe))))
   (qh (qp (qw (qcy (qw (zanq (qaw (qa (qT (qa (qy O__law_share.c hr.m (qa (qx (qx (qx (qc 1) qf) qf) qf) (qa (qt qbg (qx (qx (qx (qc 1) qf) qf) qf) (qc 7)) qe))) (qa (qx (qx (qc 1) qf) qf) qe))) qe)) (qc 7))) (qw (qbo (qc 1) (qaj qf) qai))))))) qr)
   (qg (qY (qA (qgw hr.units) (qc 2) qf) (qh (qp (qw (qcy (qc 1) (qw (qaw (qa (qT (qa (qx (qw (qaw (qa (qT (qa qf (qa qf qe))) (qa (qT (qa (qt qmw qf qf) (qa qf qe))) qe)))) (qt qgk (qc 3) qf)) (qa (qc 5) qe))) qe))))))) qr)
   (qg (qY (qA (qgw hr.units) (qc 2) qf) (qg (qq (i:=8) qz.nd (qt qgk (qt qbc (qc 6) qf) (qm qbh T.len_ L2.boot_len (qa (qc 5) qe))))
   (qg (que (caps:=[]) (own:=["_law_one"]) (ix:=[]) (i:=9) qz.nd rfl ⟨rfl,rfl,rfl,rfl,rfl,rfl⟩ (qQ (qc 5)) (fun _ _ _ _=>(qo (i:=0) (show Zn (["_law_one"]:List Str) by decide))) (fun _ _ _ _=>(qT (qa qf (qa qf qe)))))
   (qg (qfb 9 (qT (qa (qt qmw qf qf) (qa qf qe))) (qc 6))
   (qg (qfb 9 (qT (qa qf (qa qf qe))) (qc 8))
   (qsm 9 (qh (qp (qw (qcy (qw (qcy (qw (qbo (qc 1) qai (qaj (qc 3)))) (qw (qaw (qa (qT (qa (qc 4) (qa (qad qdu T.tuple_ L2.boot_tuple (qa (qc 9) qe)) qe))) qe))))) (qw (qbo (qc 1) (qaj (qt qbc (qc 3) qf)) qai))))))))))) qr)
   (qg (qY (qA (qgw hr.units) (qc 2) qf) (qg (qq (i:=10) qz.nd (qT (qa (qt qbc (qx (qx (qc 5) (qc 6)) qf) (qx (qx (qc 5) (qc 6)) qf)) (qa (qx (qx (qc 5) (qc 6)) qf) qe))))
   (qh (qp (qw (qcy (qw (qcy (qw (qbo (qc 1) qai (qaj (qc 3)))) (qw (qaw (qa (qT (qa (qc 4) (qa (qt qmd (qt qmd (qdk (qc 5) qai (qaj (qc 6))) (qT (qa (qc 10) qe))) (qdk (qc 5) (qaj (qt qbc (qc 6) qf)) qai)) qe))) qe))))) (qw (qbo (qc 1) (qaj (qt qbc (qc 3) qf)) qai))))))) qr)
   (qg (qY (qA (qgw hr.units) (qc 2) qf) (qh (qp (qw (qcy (qw (qcy (qw (qbo (qc 1) qai (qaj (qc 3)))) (qw (qaw (qa (qT (qa (qc 4) (qa (qdk (qc 5) (qaj qf) qai) qe))) qe))))) (qw (qbo (qc 1) (qaj (qt qbc (qc 3) qf)) qai)))))) qr)
   (qg (qY (qA (qgw hr.units) (qc 2) qf) (qh (qp (qw (qcy (qw (qcy (qw (qbo (qc 1) qai (qaj (qc 3)))) (qw (qaw (qa (qT (qa (qc 4) (qa (qt qmd (qc 5) (qT (qa (qT (qa qf (qa qf qe))) qe))) qe))) qe))))) (qw (qbo (qc 1) (qaj (qt qbc (qc 3) qf)) qai)))))) qr)
   (qh (qp (qw (qcy (qw (qcy (qw (qbo (qc 1) qai (qaj (qc 3)))) (qw (qaw (qa (qT (qa (qy O__law_share.c hr.m (qa (qx (qc 4) qf) (qa (qt qbc (qx (qc 4) qf) qf) qe))) (qa (qc 5) qe))) qe))))) (qw (qbo (qc 1) (qaj (qt qbc (qc 3) qf)) qai))))))))))))))))),?_⟩
  have j1:=hB.j1;have j2:=hB.j2;have l2:=hB.w.l2;have l4:=hB.w.l4;have lr:(qau W f' T' js).length=js.length:=by unfold qau;simp
  obtain ⟨L,eL⟩ : ∃ L,L=(qau W f' T' js).map dR:=⟨_,rfl⟩
  have lL:L.length=js.length:=by rw [eL,Qk,lr]
  rw [<- eL];refine ⟨rfl,rfl,8,rfl,hP,⟨by decide,by decide⟩,fun xw p1 w0 w1 hp1=>?_⟩;refine ⟨rfl,rfl,(L.length:Nat),rfl,hp1,⟨by omega,qk (qao (by omega) (by omega)) (by decide)⟩,fun xa p2 a0 a1 hp2=>?_⟩;obtain ⟨a,ea⟩ : ∃ a:Nat,xa=a:=⟨xa.toNat,by omega⟩
  subst ea;have al:a<js.length:=by omega
  obtain ⟨j,ej⟩ : ∃ j,js[a]?=some j:=⟨_,Qa al⟩
  have er:(qau W f' T' js)[a]?=some (rwB W f' T' j):=by unfold qau;rw [Qc,ej];rfl
  have aL:atI L (a:Int)=some (dR (rwB W f' T' j)):=qdv (by rw [eL,Qc,er];rfl);have s0:=hB.p j (Qj ej);have ok:=qeq hB.w hB.l hB.t hB.z s0;have lb:(qS W T' j).length=W.length:=by rw [qbm hB.l,hB.l]
  have lb2:(rwB W f' T' j).2.length=W.length:=lb;have lbm:(((qS W T' j).map dS).length:Int)=W.length:=by rw [Qk,lb]
  have tk:qpr L none (some (a:Int))=L.take a:=qsn _ (by omega);have dr:qpr L (some ((a:Int)+1)) none=L.drop (a+1):=by rw [qib _ (by omega)];congr 1
  have fin : ∀ (X:Rw) (p:List Qi),(∀ W',(W'=W\/W'=W.drop 1\/W'=W++W.take 1)->qlc W' (((qau W f' T' js).set a X).map dR))->qcb p->q (.list (L.take a++[dR X]++L.drop (a+1))) p:=fun X p hX hp=>by
   rw [eL,qyo (by omega)];exact h _ _ hX hp
  have wl : ∀ {W':List Int},(W'=W\/W'=W.drop 1\/W'=W++W.take 1)->W'.length=W.length\/W'.length=W.length-1\/W'.length=W.length+1:=fun {W'} z=>by
   rcases z with rfl|rfl|rfl
   ·exact .inl rfl
   ·exact .inr (.inl (by simp))
   ·exact .inr (.inr (by simp;omega))
  refine ⟨_,aL,rfl,rfl,?_⟩;refine ⟨rfl,rfl,(((qS W T' j).map dS).length:Nat),rfl,hp2,⟨by omega,qk (qao (by omega) (by omega)) (by decide)⟩,fun xs p3 t0 t1 hp3=>?_⟩;obtain ⟨st,es⟩ : ∃ st:Nat,xs=st:=⟨xs.toNat,by omega⟩
  subst es;have sl:st<(qS W T' j).length:=by omega
  obtain ⟨b,eb⟩ : ∃ b,(qS W T' j)[st]?=some b:=⟨_,Qa sl⟩
  refine ⟨rfl,rfl,qcr (fun z=>⟨szl,_,_,rfl,rfl,h [] p3 (fun W' _ => .inl rfl) hp3⟩) (fun z0=>?_)⟩;refine ⟨rfl,rfl,qcr (fun z=>?_) (fun z1=>?_)⟩
  ·obtain ⟨j0,ej0⟩ : ∃ j,js[0]?=some j:=⟨_,Qa (by omega)⟩
   have a0L:atI L 0=some (dR (rwB W f' T' j0)):=qdv (j:=0) (by rw [eL,Qc];unfold qau;rw [Qc,ej0];rfl);obtain ⟨⟨u1,_,_⟩,u2,u3⟩:=qjb hB.w hB.l hB.t hB.z (hB.p j0 (Qj ej0));have u4:=u1.pos;have pb:intBits (14-(L.length:Int))<=64:=qao (by omega) (by omega);have pp:0<(qF W f' T' j0).2*(14-(L.length:Int)):=Z5 (by omega) (by omega);refine ⟨_,a0L,_,rfl,_,rfl,_,a0L,_,rfl,_,rfl,qif (qk u3 (by decide)) (qk pb (by decide)),_,_,rfl,⟨by exact pp,qk (J0 u3 pb) (by decide)⟩,_,a0L,_,rfl,szl,szl,⟨by omega,by omega,by rw [Zf];simp;omega⟩,?_⟩;rintro l0 e0 r1 q1;rw [qib _ (by decide)] at q1;subst e0;subst q1;refine ⟨by rw [Zf];simp;omega,_,_,rfl,rfl,h _ p3 (fun W' _ => .inr (.inl ?_)) hp3⟩;simp;omega
  refine ⟨rfl,rfl,qcr (fun z=>?_) (fun z2=>?_)⟩
  ·obtain ⟨s,es,s1,s2,s3⟩ : ∃ s:Int×Int,atI [dS (0,1),dS (0-1,3)] ((a:Int)%2)=some (dS s)/\Shr s.1 s.2/\(intBits s.1<=100/\intBits s.2<=100) /\ ¬ 0<s.1:=by
    have:(a:Int)%2=0\/(a:Int)%2=1:=by omega
    rcases this with e|e <;> rw [e]
    ·exact ⟨(0,1),rfl,⟨by decide,by decide⟩,by decide,by decide⟩
    ·exact ⟨(0-1,3),rfl,⟨by decide,by decide⟩,by decide,by decide⟩
   refine ⟨szl,szl,szl,by decide,_,es,szl,szl,by rw [Zf];simp;omega,_,_,rfl,rfl,?_⟩;have:=h ((qau W f' T' js++[(s,qS W T' j)]).map dR) p3 (fun W' _=>hB.app ej s1 s2 s3 W') hp3;rw [Zu,<- eL] at this;exact this
  refine ⟨rfl,rfl,qcr (fun z=>?_) (fun z3=>?_)⟩
  ·have dn:0<(((rwB W f' T' j).2.map dS).length:Int):=by show 0<(((qS W T' j).map dS).length:Int);omega
   obtain ⟨ot,eo,ol,on⟩ : ∃ ot:Nat,((st:Int)+1)%(((rwB W f' T' j).2.map dS).length:Int)=ot/\ot<W.length/\st≠ot:=by
    rw [show (((rwB W f' T' j).2.map dS).length:Int)=W.length from lbm];by_cases z:st+1<W.length
    ·exact ⟨st+1,by rw [Int.emod_eq_of_lt (by omega) (by omega)];omega,z,by omega⟩
    ·exact ⟨0,by rw [show (st:Int)+1=(W.length:Int) by omega,Int.emod_self];rfl,by omega,by omega⟩
   refine ⟨dn,?_⟩;rw [eo];refine ⟨qi (by rw [Qk,lb2];omega),fun k ys e=>ys=(Q4 W.length (dS (0,1))).take k /\ ∃ v,e=[v],⟨by simp,_,rfl⟩,?_,?_⟩
   ·rintro i x ys e hx ⟨hys,s,rfl⟩;have il:i<W.length:=by have:=(Qg.mp hx).1;rw [Qk,lb2] at this;exact this
    exact ⟨szl,qu (by rw [Vr,if_pos il];rfl) hys,_,rfl⟩
   rintro ys0 e0 ⟨hys0,s0',rfl⟩;rw [Qk,lb2,Jm (by simp)] at hys0;subst hys0;refine ⟨szl,rfl,rfl,st,zagw (by omega) (by show (st:Int)<((Q4 W.length (dS (0,1))).length:Nat);simp;omega),szl,rfl,rfl,ot,zagw (by omega) (by show (ot:Int)<(((Q4 W.length (dS (0,1))).set st (dS (0-1,2))).length:Nat);simp;exact ol),?_⟩;rintro r1 q1;rw [tk] at q1;subst q1;refine ⟨szl,szl,by rw [Zf];simp;omega,?_⟩;rintro r3 q3;rw [dr] at q3;subst q3;refine ⟨by rw [Zf];simp;omega,_,_,rfl,rfl,?_⟩;have:=fin (qF W f' T' j,((Q4 W.length ((0:Int),(1:Int))).set st (-1,2)).set ot (3,2)) p3 (fun W' _=>hB.bent ej (by omega) ol on (by omega) W') hp3;unfold dR at this;rw [Qhh,Qhh,List.map_replicate] at this;exact this
  refine ⟨rfl,rfl,qcr (fun z=>?_) (fun z4=>?_)⟩
  ·have ab:atI ((qS W T' j).map dS) (st:Int)=some (dS b):=qdv (by rw [Qc,eb];rfl);refine ⟨_,ab,_,rfl,_,ab,_,rfl,_,ab,_,rfl,szl,?_⟩;rintro r1 q1;rw [tk] at q1;subst q1;rintro r2 q2;rw [qsn _ (by omega)] at q2;refine ⟨szl,by rw [Zf,q2];simp;omega,?_⟩;rintro r3 q3;rw [qib _ (by omega)] at q3;have eX:r2++[dS (b.1+b.2,b.2)]++r3=((qS W T' j).set st (b.1+b.2,b.2)).map dS:=by
    rw [q2,q3,<- qyo sl]
    congr 1
   refine ⟨by rw [Zf,q2,q3];simp;omega,szl,szl,by rw [Zf];simp;omega,?_⟩;rintro r4 q4;rw [dr] at q4;subst q4;refine ⟨by rw [Zf];simp;omega,_,_,rfl,rfl,?_⟩;have:=fin (qF W f' T' j,(qS W T' j).set st (b.1+b.2,b.2)) p3 (fun W' _=>hB.more ej eb W') hp3;unfold dR at this;rw [<- eX] at this;exact this
  refine ⟨rfl,rfl,qcr (fun z=>?_) (fun z5=>?_)⟩
  ·rintro r1 q1;rw [tk] at q1;subst q1;rintro r2 q2;rw [qib _ (by decide),<- Qgd] at q2;subst q2;refine ⟨szl,szl,by rw [Zf];simp;omega,?_⟩;rintro r3 q3;rw [dr] at q3;subst q3;exact ⟨by rw [Zf];simp;omega,_,_,rfl,rfl,fin _ _ (fun W' hW=>hB.fewer ej (wl hW)) hp3⟩
  refine ⟨rfl,rfl,qcr (fun z=>?_) (fun z6=>?_)⟩
  ·rintro r1 q1;rw [tk] at q1;subst q1;refine ⟨szl,szl,by rw [Zf];simp;omega,szl,szl,by rw [Zf];simp;omega,?_⟩;rintro r3 q3;rw [dr] at q3;subst q3;refine ⟨by rw [Zf];simp;omega,_,_,rfl,rfl,?_⟩;have:=fin (qF W f' T' j,qS W T' j++[(0,1)]) p3 (fun W' hW=>hB.wider ej (by
    rcases hW with rfl|rfl|rfl
    ·exact .inl rfl
    ·exact .inr (.inl (by simp))
    ·exact .inr (.inr rfl))) hp3
   unfold dR at this;rw [Zu] at this;exact this
  rintro r1 q1;rw [tk] at q1;subst q1;obtain ⟨⟨u1,_,_⟩,u2,u3⟩:=qjb hB.w hB.l hB.t hB.z s0;have u4:=u1.pos;have z8:intBits ((qF W f' T' j).2+1)<=65:=qk (Qic u3 (show intBits 1<=64 by decide)) (by decide);refine ⟨_,rfl,_,rfl,_,_,rfl,⟨by show 1<=(qF W f' T' j).2+1;omega,qk z8 (by decide)⟩,szl,szl,by rw [Zf];simp;omega,?_⟩;rintro r3 q3;rw [dr] at q3;subst q3;refine ⟨by rw [Zf];simp;omega,_,_,rfl,rfl,fin ((shT (qF W f' T' j).1 ((qF W f' T' j).2+1),shB (qF W f' T' j).1 ((qF W f' T' j).2+1)),qS W T' j) p3 (fun W' hW=>hB.part ej (by
   rcases hW with rfl|rfl|rfl
   ·exact .inl rfl
   ·exact .inr (by rw [Qal];omega)
   ·exact .inr (by rw [Z4,Qak];omega))) hp3⟩
def zapj {W:List Int}{b f:Int}{R T:List (List Int)}{n k:Nat}{L:List Qi} (fr:Frm b R n f T k) (hB:BlOf W f T k L) (hW:Wgt W) (hl:W.length=R.length) (n2:n<=12) (hb:b<=100000) : ∃ js:List Nat,L=(qau W f T js).map dR/\Bl W f T k js:=by
 obtain ⟨B,pm,_,hp,_,rfl⟩:=hB;have t:=fr.gls.t;have l:W.length=T.length:=by rw [fr.len];exact hl
 have lp:pm.toList.length=k:=by rw [Z1,hp.s]
 have k1:=fr.k1;have kn:=fr.kn;have fb:=fr.fb;refine ⟨pm.toList,by unfold qau;rw [Zk];rfl,t,l,hW,by omega,by omega,by omega,fun j hj=>qjy hW l t fr.ind (Q6.mp (hp.p.mem_iff.mp hj)),fun s hs=>?_⟩;have:=zaae t hp hs 1;simpa using this
def qyl (W:List Int) (f:Int) (T:List (List Int)) (js:List Nat):Qgb ((qau W f T js).map dR) = .list (js.map (qnn W f T)):=by unfold qau;rw [Zk];rfl
def zaff {W W':List Int} (h2:2<=W.length) (h:W'=W.drop 1\/W'=W++W.take 1):W'.length≠W.length:=by
 rcases h with rfl|rfl
 ·rw [Qal];omega
 ·rw [Z4,Qak];omega
def qee:FnScope ["_law_script","_law_pen_here","_law_many","_law_glass","_law_weights_here","_law_rows","_law_k","_law_way","_law_bad","_law_some"] ["_law_script"] (defScope qlt):=sc0
def zanx {f:Addr}{fd:Jo} (F:Fun K "law" "law" qlt f fd) (T:Txt K mg cs)
 (O_beliefs:Ok P w K mg base "beliefs" 6 ["glass","weights"] (qmg [cs.tb] (FSp K qnc)))
 (O__law_pen:Ok P w K mg base "_law_pen" 1 ["_law_script"] (FSp K qkw))
 (O__law_next:Ok P w K mg base "_law_next" 2 ["_law_pen_here","_law_many"] (NSp K qay))
 (O__law_table:Ok P w K mg base "_law_table" 4 ["_law_pen_here","_law_many","_law_most","_law_far"] (NSp K qhy))
 (O__law_said:Ok P w K mg base "_law_said" 8 ["_law_glass","_law_weights_here","_law_rows"] (qmg [cs.tb] (PSp K qiw)))
 (O__law_bad_weights:Ok P w K mg base "_law_bad_weights" 3 ["_law_pen_here","_law_weights_here"] (NSp K qds))
 (O__law_are_some:Ok P w K mg base "_law_are_some" 1 ["_law_weights_here"] (PSp K qet))
 (O__law_bad_rows:Ok P w K mg base "_law_bad_rows" 3 ["_law_pen_here","_law_rows"] (NSp K qes))
 : FnOk P w K mg base CX0 9 f fd ["_law_script"] (qow [cs.tb] K):=by
  refine F.vlawT qee rfl fun cdv A outer s H E hr hTb ns hlen=>?_;refine ⟨_,(qg (qrx (i:=1) qee.nd (qmu O__law_pen.c hr.m (qa (qc 0) qe)))
   (qg (qq (i:=2) qee.nd (qt qbc qf (qaf 1 O__law_next.c hr.m (qa qf qe))))
   (qg (qq (i:=3) qee.nd (qaf 1 O__law_table.c hr.m (qa (qc 2) (qa qf (qa qf qe)))))
   (qew (qq (i:=4) qee.nd (qad qdu T.tuple_ L2.boot_tuple (qa (qw (quf (caps:=["_law_pen_here"]) (own:=["_law_stand"]) (ix:=[1]) (i0:=1) (j0:=0) rfl ⟨rfl,rfl,rfl,rfl,rfl,rfl⟩ (qam T.range_ (qc 2)) (fun _ _ _ _=>(qo (i:=1) (show Zn (["_law_pen_here","_law_stand"]:List Str) by decide))) (fun _ _ _ _=>(qt qbc qf (qaf 0 O__law_next.c hr.m (qa qf qe)))) (qon rfl))) qe)))
   (qew (qq (i:=5) qee.nd (qw (qmu (O_beliefs.t hTb) hr.m (qa (qc 3) (qa (qc 4) qe)))))
   (qg (qY (qA (qyr hr.units) (qy (O__law_said.t hTb) hr.m (qa (qc 3) (qa (qc 4) (qa (qc 5) qe)))) qcd) (qh (qp qih)) qr)
   (qg (qef rfl (qam T.range_ qf) (qo (i:=6) qee.nd) (qg (qq (i:=7) qee.nd (qaf 1 O__law_next.c hr.m (qa qf qe)))
   (qg (qq (i:=8) qee.nd (qc 4))
   (qew (qY (qA o_gt (qc 7) qf) (qh (qq (i:=8) qee.nd (qaf 1 O__law_bad_weights.c hr.m (qa (qc 4) qe)))) qr)
   (qg (qq (i:=9) qee.nd (qw (qqg zagl T.list_ L2.boot_list (qa (qc 5) qe))))
   (qew (qY (qA o_lt (qc 7) qf) (qh (qq (i:=9) qee.nd (qaf 1 O__law_bad_rows.c hr.m (qa (qc 5) qe)))) qr)
   (qg (qY (qA (qyr hr.units) (qy (O__law_said.t hTb) hr.m (qa (qc 3) (qa (qc 8) (qa (qc 9) qe)))) (qx (qw (qaw (qa qcd (qa qcd qe)))) (qad zagz T.int_ L2.boot_int (qa (qor (qgi o_gt (qc 7) qf) (qos (qxk (qy O__law_are_some.c hr.m (qa (qc 8) qe))))) qe)))) (qh (qp qih)) qr)
   (qh (qY (VW.pt (zaom (qA o_gt (qc 7) qf) (zajc (qA (qyr hr.units) (qy (O__law_said.t hTb) hr.m (qa (qc 3) (qa (qc 8) (qa qjh qe)))) qcd)))) (qh (qp qih)) qr)))))))))
   (qh (qp (qgi (qgw hr.units) (qy (O__law_said.t hTb) hr.m (qa (qc 3) (qa (qc 4) (qa (qc 5) qe)))) qcd)))))))))),?_⟩
  refine ⟨ns,rfl,hlen,fun p hp=>?_⟩;refine ⟨rfl,rfl,3,rfl,hp,⟨by decide,by decide⟩,fun x p1 x0 x1 hp1=>?_⟩;refine ⟨rfl,rfl,2+x,5,12,rfl,hp1,⟨by omega,by omega,by decide,by decide,by decide,by decide⟩,fun b R n p2 G hb lR n1 n2 hp2=>?_⟩;have Rn:R≠[]:=fun z=>by rw [z] at lR;simp at lR;omega
  refine ⟨fun e => ∃ (W:List Int) (p:List Qi),(Wgt W/\W.length=R.length/\qcb p)/\e=[.val (.list (ns.map .int)),.own p,.val (.int (2+x)),.val (qbq b R),.val (.tuple (W.map .int)),.non,.non,.non,.non,.non],?_,?_⟩
  ·refine ⟨⟨by omega,by omega⟩,qi (by rw [qN];omega),rfl,fun i ys e => ∃ cs:List Int,ys=cs.map .int/\cs.length=i/\(∀ c ∈ cs,1<=c/\c<=1000) /\ ∃ p t,qcb p/\e=[.pen p,t],⟨[],rfl,rfl,by simp,_,_,hp2,rfl⟩,?_,?_⟩
   ·rintro i d ys e hd ⟨cs,rfl,hc1,hc2,p,t,hp,rfl⟩;refine ⟨rfl,rfl,9,rfl,hp,⟨by decide,by decide⟩,fun x p' x0 x1 hp'=>?_⟩;refine ⟨cs++[1+x],by simp,by simp [hc1],fun c hc=>?_,p',_,hp',rfl⟩;rcases Zl.mp hc with hc|hc
    ·exact hc2 c hc
    ·rw [Qw.mp hc];omega
   ·rintro ys e ⟨cs,rfl,hc1,hc2,p,t,hp,rfl⟩;rw [qN] at hc1;have hl:cs.length=R.length:=by rw [hc1];omega
    exact ⟨p,rfl,cs,p,⟨⟨by omega,by omega,fun w hw=>(hc2 w hw).1,fun w hw=>(hc2 w hw).2⟩,hl,hp⟩,rfl⟩
  rintro e ⟨W,p3,⟨hW,lW,hp3⟩,rfl⟩;have l2:=hW.l2;refine ⟨fun e => ∃ (f:Int) (T:List (List Int)) (k:Nat) (js:List Nat),Bl W f T k js/\e=[.val (.list (ns.map .int)),.own p3,.val (.int (2+x)),.val (qbq b R),.val (.tuple (W.map .int)),.val (.list ((qau W f T js).map dR)),.non,.non,.non,.non],?_,?_⟩
  ·refine ⟨b,R,n,W,rfl,⟨G.t,lW,hW,n1,by omega,by omega⟩,fun f T' k L fr hB=>?_⟩;obtain ⟨js,rfl,bl⟩:=zapj fr hB hW lW (by omega) (by omega);exact ⟨f,T',k,js,bl,rfl⟩
  rintro e ⟨f',T',k,js,bl,rfl⟩;have told:Vi (.str "told") (.str "told")=true:=by decide +kernel
  refine ⟨b,R,_,_,rfl,.inl ⟨W,f',T',k,js,rfl,qyl W f' T' js,⟨bl.t,bl.l,bl.w,bl.z,bl.j1,bl.j2,bl.p,bl.s⟩,by decide +kernel,by decide +kernel,iteN told ?_⟩⟩;refine ⟨⟨by decide,by decide⟩,fun i e => ∃ (p:List Qi) (t6 t7 t8 t9:Sl),qcb p/\e=[.val (.list (ns.map .int)),.own p,.val (.int (2+x)),.val (qbq b R),.val (.tuple (W.map .int)),.val (.list ((qau W f' T' js).map dR)),t6,t7,t8,t9],⟨_,_,_,_,_,hp3,rfl⟩,?_,?_⟩
  ·rintro i y e hy ⟨p,t6,t7,t8,t9,hp,rfl⟩;obtain ⟨_,rfl⟩:=qct hy;clear hy;refine ⟨rfl,rfl,3,rfl,hp,⟨by decide,by decide⟩,fun xw p1 w0 w1 hp1=>?_⟩;refine ⟨fun e => ∃ (d:Qi) (p:List Qi),(qcb p/\((xw=0/\d = .tuple (W.map .int))\/(0<xw/\BadW W d)))/\e=[.val (.list (ns.map .int)),.own p,.val (.int (2+x)),.val (qbq b R),.val (.tuple (W.map .int)),.val (.list ((qau W f' T' js).map dR)),.val (.int (0+i)),.val (.int xw),.val d,t9],?_,?_⟩
   ·exact qey (fun z=>⟨rfl,rfl,W,rfl,hp1,hW,fun d p hd hp=>⟨d,p,⟨hp,.inr ⟨z,hd⟩⟩,rfl⟩⟩) (fun z=>⟨_,p1,⟨hp1,.inl ⟨by omega,rfl⟩⟩,rfl⟩)
   rintro e ⟨d,p4,⟨hp4,hd⟩,rfl⟩;refine ⟨fun e => ∃ (l p:List Qi),(qcb p/\((2<=xw/\l=(qau W f' T' js).map dR)\/(xw<2 /\ ∀ W',(W'=W\/W'=W.drop 1\/W'=W++W.take 1)->qlc W' l)))/\e=[.val (.list (ns.map .int)),.own p,.val (.int (2+x)),.val (qbq b R),.val (.tuple (W.map .int)),.val (.list ((qau W f' T' js).map dR)),.val (.int (0+i)),.val (.int xw),.val d,.val (.list l)],?_,?_⟩
   ·exact qey (fun z=>⟨rfl,rfl,W,f',T',k,js,rfl,hp4,bl,fun l p hl hp=>⟨l,p,⟨hp,.inr ⟨z,hl⟩⟩,rfl⟩⟩) (fun z=>⟨_,p4,⟨hp4,.inl ⟨by omega,rfl⟩⟩,rfl⟩)
   rintro e ⟨l,p5,⟨hp5,hl⟩,rfl⟩;have eF:Vi (.str "fit") (.str "fit")=true:=by decide +kernel
   have eB:Vi (.str "beliefs") (.str "beliefs")=true:=by decide +kernel
   rcases hd with ⟨xz,rfl⟩|⟨xp,hd⟩
   ·have bad:qlc W l:=by
     rcases hl with ⟨z,_⟩|⟨_,hl⟩
     ·omega
     ·exact hl W (.inl rfl)
    refine ⟨b,R,_,_,rfl,.inr (.inr (.inr ⟨l,W,rfl,rfl,hW,bad,szl,?_⟩))⟩;refine qey (fun z=>absurd z (by omega)) (fun _=>⟨_,rfl,by decide +kernel,by decide +kernel,iteN eB ?_⟩);exact qey (fun z=>absurd z (by omega)) (fun _=>⟨_,_,_,_,_,hp5,rfl⟩)
   ·rcases hd with no|⟨W',rfl,hW',hw⟩
    ·refine ⟨b,R,_,_,rfl,.inr (.inr (.inl ⟨l,rfl,no,szl,?_⟩))⟩;refine qey (fun _=>⟨d,rfl,?_⟩) (fun z=>(z xp).elim);rw [no];refine ⟨_,rfl,by decide +kernel,by decide +kernel,iteN eF ?_⟩;exact qey (fun _=>⟨b,R,d,_,rfl,.inr (.inl ⟨rfl,.inl no,by decide +kernel,by decide +kernel,iteN eF ⟨_,_,_,_,_,hp5,rfl⟩⟩)⟩) (fun z=>(z xp).elim)
    ·have ne:=zaff l2 hw;have yes:=qtb hW';have bad:qlc W' l:=by
      rcases hl with ⟨_,rfl⟩|⟨_,hl⟩
      ·exact bl.len ne
      ·exact hl W' (.inr hw)
     refine ⟨b,R,_,_,rfl,.inr (.inr (.inr ⟨l,W',rfl,rfl,hW',bad,szl,?_⟩))⟩;refine qey (fun _=>⟨_,rfl,?_⟩) (fun z=>(z xp).elim);rw [yes];refine ⟨_,rfl,by decide +kernel,by decide +kernel,iteN eB ?_⟩;exact qey (fun _=>⟨b,R,_,_,rfl,.inr (.inl ⟨rfl,.inr ⟨_,rfl,yes,by rw [Qk,<- lW];exact ne⟩,by decide +kernel,by decide +kernel,iteN eF ⟨_,_,_,_,_,hp5,rfl⟩⟩)⟩) (fun z=>(z xp).elim)
  ·rintro e ⟨p,t6,t7,t8,t9,hp,rfl⟩;refine ⟨b,R,_,_,rfl,.inl ⟨W,f',T',k,js,rfl,qyl W f' T' js,⟨bl.t,bl.l,bl.w,bl.z,bl.j1,bl.j2,bl.p,bl.s⟩,by decide +kernel,by decide +kernel,?_⟩⟩;show Va (Vi (.str "told") (.str "told"))=Va true;rw [told]
end
def quj {α:Type}{n:Nat}{us:List α} (h:us.length=n+1) : ∃ a r,us=a::r/\r.length=n:=by
 cases us with
 | nil=>cases h
 | cons a r=>exact ⟨a,r,rfl,Qhc h⟩
def us1 {α:Type}{us:List α} (h:us.length=1) : ∃ a0:α,us=[a0]:=by
 obtain ⟨a0,u0,rfl,h0⟩:=quj h;cases u0 with
 | nil=>exact ⟨a0,rfl⟩
 | cons _ _=>cases h0
def us2 {α:Type}{us:List α} (h:us.length=2) : ∃ a0 a1:α,us=[a0,a1]:=by
 obtain ⟨a0,u0,rfl,h0⟩:=quj h;obtain ⟨a1,u1,rfl,h1⟩:=quj h0;cases u1 with
 | nil=>exact ⟨a0,a1,rfl⟩
 | cons _ _=>cases h1
def us3 {α:Type}{us:List α} (h:us.length=3) : ∃ a0 a1 a2:α,us=[a0,a1,a2]:=by
 obtain ⟨a0,u0,rfl,h0⟩:=quj h;obtain ⟨a1,u1,rfl,h1⟩:=quj h0;obtain ⟨a2,u2,rfl,h2⟩:=quj h1;cases u2 with
 | nil=>exact ⟨a0,a1,a2,rfl⟩
 | cons _ _=>cases h2
def us4 {α:Type}{us:List α} (h:us.length=4) : ∃ a0 a1 a2 a3:α,us=[a0,a1,a2,a3]:=by
 obtain ⟨a0,u0,rfl,h0⟩:=quj h;obtain ⟨a1,u1,rfl,h1⟩:=quj h0;obtain ⟨a2,u2,rfl,h2⟩:=quj h1;obtain ⟨a3,u3,rfl,h3⟩:=quj h2;cases u3 with
 | nil=>exact ⟨a0,a1,a2,a3,rfl⟩
 | cons _ _=>cases h3
inductive LK (K:Qe) (x q:Str) (st:Stmt) (f:Addr):Prop
 | mk {oc kV dc pm cd ct:Value}{od an:Option Addr}{sl:Array (Option Value)} (l:K.lookup f=some ⟨oc,od,.func (Vm x q (defArgs st) (defBody st) (defScope st) .none kV dc pm an cd ct),sl⟩) (c:Qao K cd q=true) (k:Je K (.ref f)=true):LK K x q st f
def LK.fn {K:Qe}{x q:Str}{st:Stmt}{f:Addr} (h:LK K x q st f):(∃ fd,Fun K x q st f fd)/\Je K (.ref f)=true:=by
 cases h with
 | mk l c k=>exact ⟨⟨_,qxm l c k⟩,k⟩
inductive DK (K:Qe) (x:Str) (st:Stmt):Prop
 | mk {f:Addr} (a:Yf K Ze x=some (some (.ref f))) (l:LK K x x st f):DK K x st
def DK.df {K:Qe}{x:Str}{st:Stmt}{ps:List Str}{h:Heap}{mg:Str->Option Value} (d:DK K x st) (X:K.In h) (G:h.Ns Ze mg)
 (hb : ∀ (kV doc pm:Value) (an:Option Addr) (cdv ct:Value) (us:List Value),us.length=ps.length->Qhs (Vm x x (defArgs st) (defBody st) (defScope st) .none kV doc pm an cdv ct) ⟨us,[]⟩=pure (ps.zip us):=by (intro _ _ _ _ _ _ us hl;first|(obtain ⟨_,rfl⟩:=us1 hl;rfl)|(obtain ⟨_,_,rfl⟩:=us2 hl;rfl)|(obtain ⟨_,_,_,rfl⟩:=us3 hl;rfl)|(obtain ⟨_,_,_,_,rfl⟩:=us4 hl;rfl))):Def K mg x st ps:=by
  cases d with
  | mk a l =>
   obtain ⟨⟨_,F⟩,_⟩:=l.fn;exact ⟨_,_,F,Ye X G a,F.binds hb⟩
abbrev Nq0 (K:Qe) (x:Str) (y:Addr):Prop:=Yf K Ze x=some (some (.ref y))
def all_mk {l:Qhb}{w:World}{K:Qe}{h:Heap}{mg:Str->Option Value}{fa:Addr} (X:K.In h) (G:h.Ns Ze mg) (hfa:mg "law" = some (.ref fa))
 {c_tb c_c0 c_bm:Addr} (b_bm:Nq0 K "__builtins__" c_bm)
 (l0:DK K "divisor" qhn)
 (l1:DK K "over_bottom" qdc)
 (l2:DK K "table_of_shares" qbd)
 (l3:DK K "stands" qjn)
 (l4:DK K "signs" qmq)
 (l5:DK K "common_divisor" qbk)
 (l6:DK K "divided" qhq)
 (l7:DK K "lowest_table" qcj)
 (l8:DK K "one_sign" qfq)
 (l9:DK K "column" qjj)
 (l10:DK K "joined_number" qbx)
 (l11:DK K "joined_column" qbu)
 {f12:Addr}{od12 an12:Option Addr}{sl12:Array (Option Value)}{oc12 kV12 dc12 pm12 ct12:Value}
 (a12:Nq0 K "sorted_groups" f12) (l12:K.lookup f12=some ⟨oc12,od12,.func (Vm "sorted_groups" "sorted_groups" (defArgs qX) (defBody qX) (defScope qX) .none kV12 dc12 pm12 an12 (.ref c_c0) ct12),sl12⟩) (c12:Qao K (.ref c_c0) "sorted_groups" = true) (k12:Je K (.ref f12)=true)
 (l13:DK K "joined_numbers" qbl)
 (l14:DK K "place_of" qfp)
 (l15:DK K "is_whole" qfz)
 (l16:DK K "reduced" qhh)
 (l17:DK K "share" qng)
 (l18:DK K "parts_of" qgd)
 (l19:DK K "least" qnu)
 (l20:DK K "is_weights" qea)
 (l21:DK K "belief_behind" qby)
 (l22:DK K "beliefs" qhg)
 (l23:DK K "_law_pen" qfr)
 (l24:DK K "_law_mixed" qec)
 (l25:DK K "_law_next" qel)
 (l26:DK K "_law_divisor" qcm)
 (l27:DK K "_law_reduced" qcl)
 (l28:DK K "_law_row" qfy)
 (l29:DK K "_law_split" qdz)
 (l30:DK K "_law_table" qeb)
 (l31:DK K "beliefs" qdx)
 (l32:DK K "is_share" qga)
 (l33:DK K "check_shares" qck)
 (l34:DK K "added" qnq)
 (l35:DK K "summed" qjk)
 (l36:DK K "below" qnr)
 (l37:DK K "is_belief" qeo)
 (l38:DK K "times" qnt)
 (l39:DK K "shown_at" qgb)
 (l40:DK K "glass_by" qfx)
 (l41:DK K "glass_by" qdh)
 (l42:DK K "_law_word" qem)
 (l43:DK K "_law_said" qen)
 (l44:DK K "_law_bad_weights" qav)
 (l45:DK K "_law_are_some" qbv)
 (l46:DK K "_law_share" qdy)
 (l47:DK K "_law_bad_rows" qbw)
 {f48:Addr}{od48 an48:Option Addr}{sl48:Array (Option Value)}{oc48 kV48 dc48 pm48 cd48 ct48:Value}
 (a48:Nq0 K "law" f48) (l48:K.lookup f48=some ⟨oc48,od48,.func (Vm "law" "law" (defArgs qlt) (defBody qlt) (defScope qlt) .none kV48 dc48 pm48 an48 cd48 ct48),sl48⟩) (c48:Qao K cd48 "law" = true) (k48:Je K (.ref f48)=true)
 (z_ValueError:Yf K Ze "ValueError" = some none)
 (z_abs:Yf K Ze "abs" = some none)
 (z_all:Yf K Ze "all" = some none)
 (z_any:Yf K Ze "any" = some none)
 (z_bool:Yf K Ze "bool" = some none)
 (z_enumerate:Yf K Ze "enumerate" = some none)
 (z_int:Yf K Ze "int" = some none)
 (z_isinstance:Yf K Ze "isinstance" = some none)
 (z_len:Yf K Ze "len" = some none)
 (z_list:Yf K Ze "list" = some none)
 (z_range:Yf K Ze "range" = some none)
 (z_sorted:Yf K Ze "sorted" = some none)
 (z_sum:Yf K Ze "sum" = some none)
 (z_tuple:Yf K Ze "tuple" = some none)
 (z_zip:Yf K Ze "zip" = some none)
 {t_FEWEST_STANDS:Tok} (y_FEWEST_STANDS:Yf K Ze "FEWEST_STANDS" = some (some (.int 2 t_FEWEST_STANDS)))
 {t_MOST_SIGNS:Tok} (y_MOST_SIGNS:Yf K Ze "MOST_SIGNS" = some (some (.int 12 t_MOST_SIGNS)))
 {t_MOST_STANDS:Tok} (y_MOST_STANDS:Yf K Ze "MOST_STANDS" = some (some (.int 4 t_MOST_STANDS)))
 {t_MOST_WEIGHT:Tok} (y_MOST_WEIGHT:Yf K Ze "MOST_WEIGHT" = some (some (.int 1000 t_MOST_WEIGHT)))
 {c_Full:Addr} (b_Full:Nq0 K "Full" c_Full)
 {c_GlassError:Addr} (b_GlassError:Nq0 K "GlassError" c_GlassError)
 {c_NoBeliefs:Addr} (b_NoBeliefs:Nq0 K "NoBeliefs" c_NoBeliefs)
 {c_NoDulling:Addr} (b_NoDulling:Nq0 K "NoDulling" c_NoDulling)
 {c_NoFit:Addr} (b_NoFit:Nq0 K "NoFit" c_NoFit)
 {c_NoGlass:Addr} (b_NoGlass:Nq0 K "NoGlass" c_NoGlass)
 {c_NoName:Addr} (b_NoName:Nq0 K "NoName" c_NoName)
 {c_NoRow:Addr} (b_NoRow:Nq0 K "NoRow" c_NoRow)
 {c_NoShare:Addr} (b_NoShare:Nq0 K "NoShare" c_NoShare)
 {c_NoText:Addr} (b_NoText:Nq0 K "NoText" c_NoText)
 {c_TooMany:Addr} (b_TooMany:Nq0 K "TooMany" c_TooMany)
 (f_GlassError_e:Ve K c_GlassError qjx "ValueError.__new__" = true)
 (f_NoBeliefs_e:Ve K c_NoBeliefs qjx "ValueError.__new__" = true)
 (f_NoFit_e:Ve K c_NoFit qjx "ValueError.__new__" = true)
 (f_NoBeliefs_x_ga:V1 K (.ref c_NoBeliefs) "__getattribute__" = some (some (.builtin "BaseException.__getattribute__")))
 (f_NoBeliefs_x_na:V1 K (.ref c_NoBeliefs) "__getattr__" = some none)
 (f_NoBeliefs_x_cl:V1 K (.ref c_NoBeliefs) "__class__" = some (some (.builtin "object.__class__")))
 (f_u_NoBeliefs_GlassError:(qvu K c_NoBeliefs).contains (.ref c_GlassError)=true)
 (f_k_NoBeliefs_Full_NoDulling_NoGlass_NoName_NoRow_NoShare_NoText_TooMany:Qbo K (.ref c_NoBeliefs) [.ref c_Full,.ref c_NoDulling,.ref c_NoGlass,.ref c_NoName,.ref c_NoRow,.ref c_NoShare,.ref c_NoText,.ref c_TooMany]=some false)
 (f_k_NoBeliefs_ValueError:Yh K (.ref c_NoBeliefs) (.type "ValueError")=some true)
 (f_k_NoBeliefs_NoFit:Yh K (.ref c_NoBeliefs) (.ref c_NoFit)=some false)
 (f_k_NoBeliefs_NoBeliefs:Yh K (.ref c_NoBeliefs) (.ref c_NoBeliefs)=some true)
 (f_NoFit_x_ga:V1 K (.ref c_NoFit) "__getattribute__" = some (some (.builtin "BaseException.__getattribute__")))
 (f_NoFit_x_na:V1 K (.ref c_NoFit) "__getattr__" = some none)
 (f_NoFit_x_cl:V1 K (.ref c_NoFit) "__class__" = some (some (.builtin "object.__class__")))
 (f_u_NoFit_GlassError:(qvu K c_NoFit).contains (.ref c_GlassError)=true)
 (f_k_NoFit_Full_NoDulling_NoGlass_NoName_NoRow_NoShare_NoText_TooMany:Qbo K (.ref c_NoFit) [.ref c_Full,.ref c_NoDulling,.ref c_NoGlass,.ref c_NoName,.ref c_NoRow,.ref c_NoShare,.ref c_NoText,.ref c_TooMany]=some false)
 (f_k_NoFit_ValueError:Yh K (.ref c_NoFit) (.type "ValueError")=some true)
 (f_k_NoFit_NoFit:Yh K (.ref c_NoFit) (.ref c_NoFit)=some true)
 (f_k_NoFit_NoBeliefs:Yh K (.ref c_NoFit) (.ref c_NoBeliefs)=some false)
 (f_tab_h:zacc K c_c0 c_tb=true)
 (f_bm_h:blIn K c_bm c_tb=true)
 : ∃ fd:Jo,(∀ (s:Ql) (v:Value),Qjz s fd ⟨[v],[]⟩ [("_law_script",v)]) /\ ∀ base:Heap,K.In base->base.Ns Ze mg->FnOk l.prog w K mg base CX0 9 fa fd ["_law_script"] (qow [c_tb] K):=by
  have e:=hfa.symm.trans (Ye X G a48);cases e;have T:Txt K mg ⟨c_Full,c_GlassError,c_NoBeliefs,c_NoDulling,c_NoFit,c_NoGlass,c_NoName,c_NoRow,c_NoShare,c_NoText,c_TooMany,c_tb,c_c0,c_bm⟩:=⟨Ye X G b_Full,Ye X G b_GlassError,Ye X G b_NoBeliefs,Ye X G b_NoDulling,Ye X G b_NoFit,Ye X G b_NoGlass,Ye X G b_NoName,Ye X G b_NoRow,Ye X G b_NoShare,Ye X G b_NoText,Ye X G b_TooMany,f_GlassError_e,f_NoBeliefs_e,f_NoFit_e,⟨f_NoBeliefs_e,f_NoBeliefs_x_ga,f_NoBeliefs_x_na,f_NoBeliefs_x_cl⟩,⟨f_NoBeliefs_e,f_u_NoBeliefs_GlassError⟩,f_k_NoBeliefs_Full_NoDulling_NoGlass_NoName_NoRow_NoShare_NoText_TooMany,f_k_NoBeliefs_ValueError,f_k_NoBeliefs_NoFit,f_k_NoBeliefs_NoBeliefs,⟨f_NoFit_e,f_NoFit_x_ga,f_NoFit_x_na,f_NoFit_x_cl⟩,⟨f_NoFit_e,f_u_NoFit_GlassError⟩,f_k_NoFit_Full_NoDulling_NoGlass_NoName_NoRow_NoShare_NoText_TooMany,f_k_NoFit_ValueError,f_k_NoFit_NoFit,f_k_NoFit_NoBeliefs,f_tab_h,f_bm_h,Ye X G b_bm,Zz X G z_ValueError,Zz X G z_abs,Zz X G z_all,Zz X G z_any,Zz X G z_bool,Zz X G z_enumerate,Zz X G z_int,Zz X G z_isinstance,Zz X G z_len,Zz X G z_list,Zz X G z_range,Zz X G z_sorted,Zz X G z_sum,Zz X G z_tuple,Zz X G z_zip,⟨_,Ye X G y_FEWEST_STANDS⟩,⟨_,Ye X G y_MOST_SIGNS⟩,⟨_,Ye X G y_MOST_STANDS⟩,⟨_,Ye X G y_MOST_WEIGHT⟩⟩
  have D0:Def K mg "divisor" qhn ["one","other"]:=l0.df X G;have D1:Def K mg "over_bottom" qdc ["row","bottom"]:=l1.df X G;have D2:Def K mg "table_of_shares" qbd ["rows"]:=l2.df X G;have D3:Def K mg "stands" qjn ["glass"]:=l3.df X G;have D4:Def K mg "signs" qmq ["glass"]:=l4.df X G;have D5:Def K mg "common_divisor" qbk ["rows"]:=l5.df X G;have D6:Def K mg "divided" qhq ["row","common"]:=l6.df X G;have D7:Def K mg "lowest_table" qcj ["bottom","rows"]:=l7.df X G;have D8:Def K mg "one_sign" qfq ["place","many"]:=l8.df X G;have D9:Def K mg "column" qjj ["rows","place"]:=l9.df X G;have D10:Def K mg "joined_number" qbx ["row","group"]:=l10.df X G;have D11:Def K mg "joined_column" qbu ["glass","group"]:=l11.df X G;have F12:=qxm (st:=qX) l12 c12 k12;have D12:DefT K mg "sorted_groups" qX ["glass"] c_c0:=⟨_,_,_,_,_,_,_,_,_,l12,c12,k12,Ye X G a12,F12.binds (ps:=["glass"]) fun _ _ _ _ _ _ us hl=>by obtain ⟨_,rfl⟩:=us1 hl;rfl⟩
  have D13:Def K mg "joined_numbers" qbl ["row","groups"]:=l13.df X G;have D14:Def K mg "place_of" qfp ["sign","groups"]:=l14.df X G;have D15:Def K mg "is_whole" qfz ["thing"]:=l15.df X G;have D16:Def K mg "reduced" qhh ["top","bottom"]:=l16.df X G;have D17:Def K mg "share" qng ["top","bottom"]:=l17.df X G;have D18:Def K mg "parts_of" qgd ["group","glass"]:=l18.df X G;have D19:Def K mg "least" qnu ["glass"]:=l19.df X G;have D20:Def K mg "is_weights" qea ["thing"]:=l20.df X G;have D21:Def K mg "belief_behind" qby ["glass","weights","sign"]:=l21.df X G;have D22:Def K mg "beliefs" qhg ["glass","weights"]:=l22.df X G;have D23:Def K mg "_law_pen" qfr ["_law_script"]:=l23.df X G;have D24:Def K mg "_law_mixed" qec ["_law_pen_here"]:=l24.df X G;have D25:Def K mg "_law_next" qel ["_law_pen_here","_law_many"]:=l25.df X G;have D26:Def K mg "_law_divisor" qcm ["_law_numbers"]:=l26.df X G;have D27:Def K mg "_law_reduced" qcl ["_law_bottom","_law_rows"]:=l27.df X G;have D28:Def K mg "_law_row" qfy ["_law_pen_here","_law_width","_law_bottom"]:=l28.df X G;have D29:Def K mg "_law_split" qdz ["_law_pen_here","_law_rows"]:=l29.df X G;have D30:Def K mg "_law_table" qeb ["_law_pen_here","_law_many","_law_most","_law_far"]:=l30.df X G;have D31:Def K mg "beliefs" qdx ["glass","weights"]:=l31.df X G;have D32:Def K mg "is_share" qga ["thing"]:=l32.df X G;have D33:Def K mg "check_shares" qck ["one","other"]:=l33.df X G;have D34:Def K mg "added" qnq ["one","other"]:=l34.df X G;have D35:Def K mg "summed" qjk ["some"]:=l35.df X G;have D36:Def K mg "below" qnr ["one","other"]:=l36.df X G;have D37:Def K mg "is_belief" qeo ["row","many"]:=l37.df X G;have D38:Def K mg "times" qnt ["one","other"]:=l38.df X G;have D39:Def K mg "shown_at" qgb ["stand","weights","rows"]:=l39.df X G;have D40:Def K mg "glass_by" qfx ["weights","rows"]:=l40.df X G;have D41:Def K mg "glass_by" qdh ["weights","rows"]:=l41.df X G;have D42:Def K mg "_law_word" qem ["_law_caught"]:=l42.df X G;have D43:Def K mg "_law_said" qen ["_law_glass","_law_weights_here","_law_rows"]:=l43.df X G;have D44:Def K mg "_law_bad_weights" qav ["_law_pen_here","_law_weights_here"]:=l44.df X G;have D45:Def K mg "_law_are_some" qbv ["_law_weights_here"]:=l45.df X G;have D46:Def K mg "_law_share" qdy ["_law_top","_law_bottom"]:=l46.df X G;have D47:Def K mg "_law_bad_rows" qbw ["_law_pen_here","_law_rows"]:=l47.df X G;have F48:=qxm (st:=qlt) l48 c48 k48;refine ⟨Vm "law" "law" (defArgs qlt) (defBody qlt) (defScope qlt) .none kV48 dc48 pm48 an48 cd48 ct48,fun s v => .of_eq rfl,fun base KB _=>?_⟩;have O0:=qvn (P:=l.prog) (w:=w) (base:=base) D0 T;have O1:=qmn (P:=l.prog) (w:=w) (base:=base) D1 T;have O2:=qic D2 T O0 O1;have O3:=zabj (P:=l.prog) (w:=w) (base:=base) D3 T;have O4:=zadr (P:=l.prog) (w:=w) (base:=base) D4 T;have O5:=qis D5 T O0;have O6:=qvz (P:=l.prog) (w:=w) (base:=base) D6 T;have O7:=qlw D7 T O5 O6;have O8:=qtk (P:=l.prog) (w:=w) (base:=base) D8 T;have O9:=zabs (P:=l.prog) (w:=w) (base:=base) D9 T;have O10:=qju (P:=l.prog) (w:=w) (base:=base) D10 T;have O11:=qjr D11 T O10;have O12:=qkc D12 T KB O4 O5 O6 O9 O11;have O13:=qiq D13 T O10;have O14:=qtg (P:=l.prog) (w:=w) (base:=base) D14 T;have O15:=qto (P:=l.prog) (w:=w) (base:=base) D15 T;have O16:=qvv D16 T O0;have O17:=zadf D17 T O15 O16;have O18:=qtn D18 T O4 O9 O11 O17;have O19:=zaey D19 T O2 O4 O7 O8 O12 O13 O14 O18;have O20:=qpn D20 T O15;have O21:=qjz D21 T O9 O17;have O22:=qwi D22 T O2 O3 O4 O19 O20 O21;have O23:=qtw (P:=l.prog) (w:=w) (base:=base) D23 T;have O24:=qph (P:=l.prog) (w:=w) (base:=base) D24 T;have O25:=qrb D25 T O24;have O26:=qlu (P:=l.prog) (w:=w) (base:=base) D26 T;have O27:=qlz D27 T O26;have O28:=qtt D28 T O25;have O29:=qpp D29 T O25;have O30:=qot D30 T O25 O27 O28 O29;have O31:=qpc D31 T O3 O20;have O32:=qti D32 T O0 O15;have O33:=qls D33 T O32;have O34:=zaej D34 T O16 O33;have O35:=zabd D35 T O34;have O36:=zadt D36 T O33;have O37:=qrj D37 T O17 O35 O36;have O38:=zadm D38 T O16 O33;have O39:=qth D39 T O17 O38;have O40:=qtm D40 T O2 O20 O35 O37 O39;have O41:=qmp D41 T O2 O20 O35 O37 O39;have O42:=qrh (P:=l.prog) (w:=w) (base:=base) D42 T;have O43:=qrg D43 T O31 O40 O41 O42;have O44:=qhb D44 T O25;have O45:=qjv (P:=l.prog) (w:=w) (base:=base) D45 T;have O46:=qpk D46 T O26;have O47:=qkd D47 T O25 O46;exact zanx (P:=l.prog) (w:=w) (K:=K) (mg:=mg) (base:=base) F48 T O22 O23 O25 O30 O43 O44 O45 O47
def walk {l:Qhb}{q:Zo}{loose:List Str}{XP:(Str->Option Value)->Heap->Prop}{YP:World->Heap->Prop}{d:DefRec}{K:Jh->Qe}{tbs:List Addr} (hn:l.most=some 63) (hdf:d.params.defaults=[])
 (hY : ∀ (w:World) (h:Heap),YP w h->(K w.params).In h /\ ∀ b ∈ tbs,∃ c,h.TableAt c b #[]) (hKt : ∀ P,∀ b ∈ tbs,(K P).lookup b=none)
 (F : ∀ (w:World) (mg:Str->Option Value) (fa:Addr) (h:Heap),(K w.params).In h->h.Ns Ze mg->mg d.name=some (.ref fa) ->
 ∃ fd:Jo,(∀ (s:Ql) (u:Value),Qjz s fd ⟨[u],[]⟩ [("_law_script",u)]) /\ ∀ base:Heap,(K w.params).In base->base.Ns Ze mg->FnOk l.prog w (K w.params) mg base CX0 9 fa fd ["_law_script"] (qow tbs (K w.params))) :
 Qmh q loose XP YP l.row.toRowW d [] (fun f vs=>Qlz f vs) :=
  L2.walk_ofT (n:=63) (k:=9) (x := "_law_script") (tbs:=fun _=>tbs) (CX:=fun _=>CX0) (sp:=fun w=>qow tbs (K w.params)) hn (by decide) hdf ⟨rfl,by decide,by decide⟩ hY hKt F (fun _ _ a ns hl ht hS=>⟨ht,a,ns,rfl,hS,hl,fun _=>rfl⟩) fun _ _ _ _ _ z=>z
noncomputable section
open PySem PySem.W PySem.Calls PyProof.Rows
abbrev N0:=BT.node
abbrev nl0:=BT.nil
abbrev xs9:Value:=.str "law_dullglass_k40_beliefs_refused" 612
abbrev xl9 (o:Obj):=N0 o nl0 nl0
def en0 (P:Jh) (x:Str) (t:Nat) (v:Value):Qeo:=⟨Qi.keyHash P x,.str x t,v⟩
def tu0 (vs:List Value):Obj:=⟨.type "tuple",none,.seq vs.toArray 0,#[]⟩
def em0:Obj:=⟨.none,none,.fields #[],#[]⟩
def fo0 (n q:Str) (s:Stmt) (pm:Value) (c:Nat):Obj:=⟨.type "function",none,.func (Vm n q (L2.defArgs s) (L2.defBody s) (L2.defScope s) .none .none .none pm none (.ref c) .none),#[]⟩
def pr0 (n q:Str) (s:Stmt):Obj:=⟨.none,none,.func ⟨n,q,L2.defArgs s,.stmts (L2.defBody s),L2.defScope s,0,[],.none,.none,.none,.none,none,.none,.none,0⟩,#[]⟩
def co0 (n q:Str) (t:Nat) (l ac fl:Int) (a:Nat) (b:Bool) (x y z:Value) (u:Nat):Obj:=⟨.type "code",none,.fields #[.str n t,.str q (t+1),.str "/claim/cut.py" (t+2),.int l 0,.int ac 0,.int 0 0,.int 0 0,.int fl 0,.ref a,.bool b,.int 181 0,.ref (a+1),.none,x,y,z,.int u 0,.int l 0,.str "/claim/cut.py" (u+1)],#[]⟩
def co1 (n:Str) (t:Nat) (l ac fl:Int) (a:Nat) (b:Bool) (u:Nat):Obj:=co0 n n t l ac fl a b (.ref (a+2)) (.ref (a+3)) (.ref (a+4)) u
def fo1 (n:Str) (s:Nat) (pm:Value) (c:Nat):Obj:=fo0 n n (top s) pm c
lay_quick Qh
def env0:Env:={ scope:=Qh.main.scope,locals:=mainNs,globals:=mainNs,cells:=[],code:=(.ref 13),frame:=some 14 }
def cE0:Code :=.body (behindTheImports Qh) env0
def ls0:List Str:=[Qn "GlassError",Qn "NoShare",Qn "NoGlass",Qn "NoDulling",Qn "NoFit",Qn "NoBeliefs",Qn "TooMany",Qn "NoText",Qn "NoRow",Qn "NoName",Qn "Full",Qn "is_whole",Qn "divisor",Qn "share",Qn "reduced",Qn "is_share",Qn "check_shares",Qn "added",Qn "times",Qn "below",Qn "summed",Qn "FEWEST_STANDS",Qn "MOST_STANDS",Qn "MOST_SIGNS",Qn "common_divisor",Qn "lowest_table",Qn "divided",Qn "table_of_shares",Qn "over_bottom",Qn "stands",Qn "signs",Qn "column",Qn "one_sign",Qn "least",Qn "sorted_groups",Qn "joined_column",Qn "joined_numbers",Qn "joined_number",Qn "place_of",Qn "parts_of",Qn "MOST_WEIGHT",Qn "beliefs",Qn "is_weights",Qn "belief_behind",Qn "glass_by",Qn "is_belief",Qn "shown_at",Qn "_law_pen",Qn "_law_mixed",Qn "_law_next",Qn "_law_divisor",Qn "_law_share",Qn "_law_reduced",Qn "_law_row",Qn "_law_split",Qn "_law_table",Qn "_law_weights",Qn "_law_belief",Qn "_law_word",Qn "_law_said",Qn "_law_bad_weights",Qn "_law_are_some",Qn "_law_bad_rows"]
def lf0:Life:=⟨[],[],[],0,[],[],false,#[],[],0,false,false,false,0,[2000,10,10],false,0,true,[],[],0,false⟩
def o13a:Obj:=co0 "<module>" "<module>" 182 1 0 0 11 false .none .none .none 185
def o14a:Obj:=⟨(.type "frame"),none,.plain,#[(some (.ref 13)),(some (.ref 3)),(some (.ref 3)),none,(some (.str "__main__" 164)),none,(some (.ref 0))]⟩
def o3 (P:Jh):Obj:=⟨(.type "dict"),none,(.dict #[en0 P "__name__" 165 xs9,en0 P "__doc__" 166 .none,en0 P "__package__" 167 .none,en0 P "__loader__" 168 (.builtin "__main__.__loader__#opaque"),en0 P "__spec__" 169 .none,en0 P "__annotations__" 170 (.ref 6),en0 P "__builtins__" 171 (.ref 4),en0 P "__file__" 173 (.str "/claim/cut.py" 172),en0 P "__cached__" 174 .none,en0 P "GlassError" 206 (.ref 24),en0 P "NoShare" 222 (.ref 37),en0 P "NoGlass" 238 (.ref 49),en0 P "NoDulling" 254 (.ref 61),en0 P "NoFit" 270 (.ref 73),en0 P "NoBeliefs" 286 (.ref 85),en0 P "TooMany" 302 (.ref 97),en0 P "NoText" 318 (.ref 109),en0 P "NoRow" 334 (.ref 121),en0 P "NoName" 350 (.ref 133),en0 P "Full" 366 (.ref 145),en0 P "is_whole" 375 (.ref 154),en0 P "divisor" 384 (.ref 161),en0 P "share" 392 (.ref 168),en0 P "reduced" 401 (.ref 175),en0 P "is_share" 408 (.ref 182),en0 P "check_shares" 416 (.ref 189),en0 P "added" 424 (.ref 196),en0 P "times" 432 (.ref 203),en0 P "below" 440 (.ref 210),en0 P "summed" 449 (.ref 217),en0 P "FEWEST_STANDS" 453 (.int (2) 452),en0 P "MOST_STANDS" 455 (.int (4) 454),en0 P "MOST_SIGNS" 457 (.int (12) 456),en0 P "common_divisor" 467 (.ref 224),en0 P "lowest_table" 473 (.ref 229),en0 P "divided" 479 (.ref 234),en0 P "table_of_shares" 485 (.ref 239),en0 P "over_bottom" 491 (.ref 244),en0 P "stands" 498 (.ref 251),en0 P "signs" 505 (.ref 258),en0 P "column" 511 (.ref 263),en0 P "one_sign" 517 (.ref 268),en0 P "least" 525 (.ref 273),en0 P "sorted_groups" 537 (.ref 280),en0 P "joined_column" 543 (.ref 285),en0 P "joined_numbers" 549 (.ref 290),en0 P "joined_number" 555 (.ref 295),en0 P "place_of" 565 (.ref 302),en0 P "parts_of" 571 (.ref 307),en0 P "MOST_WEIGHT" 575 (.int (1000) 574),en0 P "beliefs" 581 (.ref 312),en0 P "is_weights" 587 (.ref 317),en0 P "belief_behind" 593 (.ref 322),en0 P "glass_by" 599 (.ref 327),en0 P "is_belief" 605 (.ref 332),en0 P "shown_at" 611 (.ref 337),en0 P "_law_pen" 621 (.ref 344),en0 P "_law_mixed" 630 (.ref 351),en0 P "_law_next" 639 (.ref 358),en0 P "_law_divisor" 649 (.ref 365),en0 P "_law_share" 658 (.ref 372),en0 P "_law_reduced" 664 (.ref 377),en0 P "_law_row" 670 (.ref 382),en0 P "_law_split" 676 (.ref 387),en0 P "_law_table" 682 (.ref 392),en0 P "_law_weights" 688 (.ref 397),en0 P "_law_belief" 694 (.ref 402),en0 P "_law_word" 701 (.ref 409),en0 P "_law_said" 713 (.ref 416),en0 P "_law_bad_weights" 724 (.ref 423),en0 P "_law_are_some" 732 (.ref 430),en0 P "_law_bad_rows" 738 (.ref 435),en0 P "law" 744 (.ref 440)] 73),#[]⟩
def o12:Obj:=⟨.none,none,(.fields #[(.int (2) 0),(.int (0) 0),(.ref 20),(.int (4) 0),(.int (0) 0),(.ref 33),(.int (6) 0),(.int (0) 0),(.ref 45),(.int (8) 0),(.int (0) 0),(.ref 57),(.int (10) 0),(.int (0) 0),(.ref 69),(.int (12) 0),(.int (0) 0),(.ref 81),(.int (14) 0),(.int (0) 0),(.ref 93),(.int (16) 0),(.int (0) 0),(.ref 105),(.int (18) 0),(.int (0) 0),(.ref 117),(.int (20) 0),(.int (0) 0),(.ref 129),(.int (22) 0),(.int (0) 0),(.ref 141),(.int (25) 0),(.int (0) 0),(.ref 153),(.int (27) 0),(.int (0) 0),(.ref 160),(.int (35) 0),(.int (0) 0),(.ref 167),(.int (39) 0),(.int (0) 0),(.ref 174),(.int (44) 0),(.int (0) 0),(.ref 181),(.int (50) 0),(.int (0) 0),(.ref 188),(.int (53) 0),(.int (0) 0),(.ref 195),(.int (56) 0),(.int (0) 0),(.ref 202),(.int (59) 0),(.int (0) 0),(.ref 209),(.int (62) 0),(.int (0) 0),(.ref 216),(.int (71) 0),(.int (0) 0),(.ref 223),(.int (77) 0),(.int (0) 0),(.ref 228),(.int (80) 0),(.int (0) 0),(.ref 233),(.int (82) 0),(.int (0) 0),(.ref 238),(.int (88) 0),(.int (0) 0),(.ref 243),(.int (90) 0),(.int (0) 0),(.ref 250),(.int (92) 0),(.int (0) 0),(.ref 257),(.int (94) 0),(.int (0) 0),(.ref 262),(.int (96) 0),(.int (0) 0),(.ref 267),(.int (99) 0),(.int (0) 0),(.ref 272),(.int (105) 0),(.int (0) 0),(.ref 279),(.int (113) 0),(.int (0) 0),(.ref 284),(.int (115) 0),(.int (0) 0),(.ref 289),(.int (117) 0),(.int (0) 0),(.ref 294),(.int (119) 0),(.int (0) 0),(.ref 301),(.int (124) 0),(.int (0) 0),(.ref 306),(.int (129) 0),(.int (0) 0),(.ref 311),(.int (136) 0),(.int (0) 0),(.ref 316),(.int (140) 0),(.int (0) 0),(.ref 321),(.int (144) 0),(.int (0) 0),(.ref 326),(.int (153) 0),(.int (0) 0),(.ref 331),(.int (158) 0),(.int (0) 0),(.ref 336),(.int (162) 0),(.int (0) 0),(.ref 343),(.int (167) 0),(.int (0) 0),(.ref 350),(.int (173) 0),(.int (0) 0),(.ref 357),(.int (186) 0),(.int (0) 0),(.ref 364),(.int (193) 0),(.int (0) 0),(.ref 371),(.int (196) 0),(.int (0) 0),(.ref 376),(.int (202) 0),(.int (0) 0),(.ref 381),(.int (205) 0),(.int (0) 0),(.ref 386),(.int (217) 0),(.int (0) 0),(.ref 391),(.int (225) 0),(.int (0) 0),(.ref 396),(.int (228) 0),(.int (0) 0),(.ref 401),(.int (231) 0),(.int (0) 0),(.ref 408),(.int (237) 0),(.int (0) 0),(.ref 415),(.int (250) 0),(.int (0) 0),(.ref 422),(.int (263) 0),(.int (0) 0),(.ref 429),(.int (270) 0),(.int (0) 0),(.ref 434),(.int (296) 0),(.int (0) 0),(.ref 439)]),#[]⟩
def o16:Obj:=⟨(.type "builtin_function_or_method"),none,(.fields #[(.builtin "type.__prepare__"),(.type "type")]),#[]⟩
def o17 (P:Jh):Obj:=⟨(.type "dict"),none,(.dict #[en0 P "__module__" 196 (.str "dullglass.errors" 187),en0 P "__qualname__" 198 (.str "GlassError" 197),en0 P "__firstlineno__" 200 (.int (2) 199),en0 P "__static_attributes__" 201 (.ref 22)] 4),#[]⟩
def o20:Obj:=co0 "GlassError" "GlassError" 191 2 0 0 18 false .none .none .none 194
def o21:Obj:=⟨(.type "frame"),none,.plain,#[(some (.ref 20)),(some (.ref 3)),(some (.ref 17)),none,(some (.str "dullglass.errors" 187)),none,(some (.ref 0))]⟩
def o23 (P:Jh):Obj:=⟨(.type "dict"),none,(.dict #[en0 P "__module__" 196 (.str "dullglass.errors" 187),en0 P "__firstlineno__" 200 (.int (2) 199),en0 P "__static_attributes__" 201 (.ref 22),en0 P "__weakref__" 203 (.ref 25),en0 P "__doc__" 204 .none] 3),#[]⟩
def o24:Obj:=⟨(.type "type"),none,(.cls ⟨"GlassError",[(.type "ValueError")],[(.ref 24),(.type "ValueError"),(.type "Exception"),(.type "BaseException"),(.type "object")],23,"GlassError",true,[],[(.ref 37),(.ref 49),(.ref 61),(.ref 73),(.ref 85),(.ref 97),(.ref 109),(.ref 121),(.ref 133),(.ref 145)],false,none,false⟩),#[(some (.ref 15)),none,(some (.str "GlassError" 189)),(some (.str "GlassError" 197)),(some (.builtin "ValueError.__new__")),(some (.bool true))]⟩
def o25:Obj:=⟨(.type "getset_descriptor"),none,(.fields #[(.str "__weakref__" 202),(.ref 24),(.builtin "ExceptionGroup.__weakref__"),.none]),#[]⟩
def o26:Obj:=⟨(.type "super"),none,(.fields #[(.ref 24),(.ref 24),(.ref 24)]),#[]⟩
def o27:Obj:=⟨(.type "builtin_function_or_method"),none,(.fields #[(.builtin "object.__init_subclass__"),(.ref 24)]),#[]⟩
def o29:Obj:=⟨(.type "builtin_function_or_method"),none,(.fields #[(.builtin "type.__prepare__"),(.type "type")]),#[]⟩
def o30 (P:Jh):Obj:=⟨(.type "dict"),none,(.dict #[en0 P "__module__" 214 (.str "dullglass.errors" 187),en0 P "__qualname__" 216 (.str "NoShare" 215),en0 P "__firstlineno__" 218 (.int (4) 217),en0 P "__static_attributes__" 219 (.ref 35)] 4),#[]⟩
def o33:Obj:=co0 "NoShare" "NoShare" 209 4 0 0 31 false .none .none .none 212
def o34:Obj:=⟨(.type "frame"),none,.plain,#[(some (.ref 33)),(some (.ref 3)),(some (.ref 30)),none,(some (.str "dullglass.errors" 187)),none,(some (.ref 0))]⟩
def o36 (P:Jh):Obj:=⟨(.type "dict"),none,(.dict #[en0 P "__module__" 214 (.str "dullglass.errors" 187),en0 P "__firstlineno__" 218 (.int (4) 217),en0 P "__static_attributes__" 219 (.ref 35),en0 P "__doc__" 220 .none] 2),#[]⟩
def o37:Obj:=⟨(.type "type"),none,(.cls ⟨"NoShare",[(.ref 24)],[(.ref 37),(.ref 24),(.type "ValueError"),(.type "Exception"),(.type "BaseException"),(.type "object")],36,"NoShare",true,[],[],false,none,false⟩),#[(some (.ref 28)),none,(some (.str "NoShare" 207)),(some (.str "NoShare" 215)),(some (.builtin "ValueError.__new__")),(some (.bool true))]⟩
def o38:Obj:=⟨(.type "super"),none,(.fields #[(.ref 37),(.ref 37),(.ref 37)]),#[]⟩
def o39:Obj:=⟨(.type "builtin_function_or_method"),none,(.fields #[(.builtin "object.__init_subclass__"),(.ref 37)]),#[]⟩
def o41:Obj:=⟨(.type "builtin_function_or_method"),none,(.fields #[(.builtin "type.__prepare__"),(.type "type")]),#[]⟩
def o42 (P:Jh):Obj:=⟨(.type "dict"),none,(.dict #[en0 P "__module__" 230 (.str "dullglass.errors" 187),en0 P "__qualname__" 232 (.str "NoGlass" 231),en0 P "__firstlineno__" 234 (.int (6) 233),en0 P "__static_attributes__" 235 (.ref 47)] 4),#[]⟩
def o45:Obj:=co0 "NoGlass" "NoGlass" 225 6 0 0 43 false .none .none .none 228
def o46:Obj:=⟨(.type "frame"),none,.plain,#[(some (.ref 45)),(some (.ref 3)),(some (.ref 42)),none,(some (.str "dullglass.errors" 187)),none,(some (.ref 0))]⟩
def o48 (P:Jh):Obj:=⟨(.type "dict"),none,(.dict #[en0 P "__module__" 230 (.str "dullglass.errors" 187),en0 P "__firstlineno__" 234 (.int (6) 233),en0 P "__static_attributes__" 235 (.ref 47),en0 P "__doc__" 236 .none] 2),#[]⟩
def o49:Obj:=⟨(.type "type"),none,(.cls ⟨"NoGlass",[(.ref 24)],[(.ref 49),(.ref 24),(.type "ValueError"),(.type "Exception"),(.type "BaseException"),(.type "object")],48,"NoGlass",true,[],[],false,none,false⟩),#[(some (.ref 40)),none,(some (.str "NoGlass" 223)),(some (.str "NoGlass" 231)),(some (.builtin "ValueError.__new__")),(some (.bool true))]⟩
def o50:Obj:=⟨(.type "super"),none,(.fields #[(.ref 49),(.ref 49),(.ref 49)]),#[]⟩
def o51:Obj:=⟨(.type "builtin_function_or_method"),none,(.fields #[(.builtin "object.__init_subclass__"),(.ref 49)]),#[]⟩
def o53:Obj:=⟨(.type "builtin_function_or_method"),none,(.fields #[(.builtin "type.__prepare__"),(.type "type")]),#[]⟩
def o54 (P:Jh):Obj:=⟨(.type "dict"),none,(.dict #[en0 P "__module__" 246 (.str "dullglass.errors" 187),en0 P "__qualname__" 248 (.str "NoDulling" 247),en0 P "__firstlineno__" 250 (.int (8) 249),en0 P "__static_attributes__" 251 (.ref 59)] 4),#[]⟩
def o57:Obj:=co0 "NoDulling" "NoDulling" 241 8 0 0 55 false .none .none .none 244
def o58:Obj:=⟨(.type "frame"),none,.plain,#[(some (.ref 57)),(some (.ref 3)),(some (.ref 54)),none,(some (.str "dullglass.errors" 187)),none,(some (.ref 0))]⟩
def o60 (P:Jh):Obj:=⟨(.type "dict"),none,(.dict #[en0 P "__module__" 246 (.str "dullglass.errors" 187),en0 P "__firstlineno__" 250 (.int (8) 249),en0 P "__static_attributes__" 251 (.ref 59),en0 P "__doc__" 252 .none] 2),#[]⟩
def o61:Obj:=⟨(.type "type"),none,(.cls ⟨"NoDulling",[(.ref 24)],[(.ref 61),(.ref 24),(.type "ValueError"),(.type "Exception"),(.type "BaseException"),(.type "object")],60,"NoDulling",true,[],[],false,none,false⟩),#[(some (.ref 52)),none,(some (.str "NoDulling" 239)),(some (.str "NoDulling" 247)),(some (.builtin "ValueError.__new__")),(some (.bool true))]⟩
def o62:Obj:=⟨(.type "super"),none,(.fields #[(.ref 61),(.ref 61),(.ref 61)]),#[]⟩
def o63:Obj:=⟨(.type "builtin_function_or_method"),none,(.fields #[(.builtin "object.__init_subclass__"),(.ref 61)]),#[]⟩
def o65:Obj:=⟨(.type "builtin_function_or_method"),none,(.fields #[(.builtin "type.__prepare__"),(.type "type")]),#[]⟩
def o66 (P:Jh):Obj:=⟨(.type "dict"),none,(.dict #[en0 P "__module__" 262 (.str "dullglass.errors" 187),en0 P "__qualname__" 264 (.str "NoFit" 263),en0 P "__firstlineno__" 266 (.int (10) 265),en0 P "__static_attributes__" 267 (.ref 71)] 4),#[]⟩
def o69:Obj:=co0 "NoFit" "NoFit" 257 10 0 0 67 false .none .none .none 260
def o70:Obj:=⟨(.type "frame"),none,.plain,#[(some (.ref 69)),(some (.ref 3)),(some (.ref 66)),none,(some (.str "dullglass.errors" 187)),none,(some (.ref 0))]⟩
def o72 (P:Jh):Obj:=⟨(.type "dict"),none,(.dict #[en0 P "__module__" 262 (.str "dullglass.errors" 187),en0 P "__firstlineno__" 266 (.int (10) 265),en0 P "__static_attributes__" 267 (.ref 71),en0 P "__doc__" 268 .none] 2),#[]⟩
def o73:Obj:=⟨(.type "type"),none,(.cls ⟨"NoFit",[(.ref 24)],[(.ref 73),(.ref 24),(.type "ValueError"),(.type "Exception"),(.type "BaseException"),(.type "object")],72,"NoFit",true,[],[],false,none,false⟩),#[(some (.ref 64)),none,(some (.str "NoFit" 255)),(some (.str "NoFit" 263)),(some (.builtin "ValueError.__new__")),(some (.bool true))]⟩
def o74:Obj:=⟨(.type "super"),none,(.fields #[(.ref 73),(.ref 73),(.ref 73)]),#[]⟩
def o75:Obj:=⟨(.type "builtin_function_or_method"),none,(.fields #[(.builtin "object.__init_subclass__"),(.ref 73)]),#[]⟩
def o77:Obj:=⟨(.type "builtin_function_or_method"),none,(.fields #[(.builtin "type.__prepare__"),(.type "type")]),#[]⟩
def o78 (P:Jh):Obj:=⟨(.type "dict"),none,(.dict #[en0 P "__module__" 278 (.str "dullglass.errors" 187),en0 P "__qualname__" 280 (.str "NoBeliefs" 279),en0 P "__firstlineno__" 282 (.int (12) 281),en0 P "__static_attributes__" 283 (.ref 83)] 4),#[]⟩
def o81:Obj:=co0 "NoBeliefs" "NoBeliefs" 273 12 0 0 79 false .none .none .none 276
def o82:Obj:=⟨(.type "frame"),none,.plain,#[(some (.ref 81)),(some (.ref 3)),(some (.ref 78)),none,(some (.str "dullglass.errors" 187)),none,(some (.ref 0))]⟩
def o84 (P:Jh):Obj:=⟨(.type "dict"),none,(.dict #[en0 P "__module__" 278 (.str "dullglass.errors" 187),en0 P "__firstlineno__" 282 (.int (12) 281),en0 P "__static_attributes__" 283 (.ref 83),en0 P "__doc__" 284 .none] 2),#[]⟩
def o85:Obj:=⟨(.type "type"),none,(.cls ⟨"NoBeliefs",[(.ref 24)],[(.ref 85),(.ref 24),(.type "ValueError"),(.type "Exception"),(.type "BaseException"),(.type "object")],84,"NoBeliefs",true,[],[],false,none,false⟩),#[(some (.ref 76)),none,(some (.str "NoBeliefs" 271)),(some (.str "NoBeliefs" 279)),(some (.builtin "ValueError.__new__")),(some (.bool true))]⟩
def o86:Obj:=⟨(.type "super"),none,(.fields #[(.ref 85),(.ref 85),(.ref 85)]),#[]⟩
def o87:Obj:=⟨(.type "builtin_function_or_method"),none,(.fields #[(.builtin "object.__init_subclass__"),(.ref 85)]),#[]⟩
def o89:Obj:=⟨(.type "builtin_function_or_method"),none,(.fields #[(.builtin "type.__prepare__"),(.type "type")]),#[]⟩
def o90 (P:Jh):Obj:=⟨(.type "dict"),none,(.dict #[en0 P "__module__" 294 (.str "dullglass.errors" 187),en0 P "__qualname__" 296 (.str "TooMany" 295),en0 P "__firstlineno__" 298 (.int (14) 297),en0 P "__static_attributes__" 299 (.ref 95)] 4),#[]⟩
def o93:Obj:=co0 "TooMany" "TooMany" 289 14 0 0 91 false .none .none .none 292
def o94:Obj:=⟨(.type "frame"),none,.plain,#[(some (.ref 93)),(some (.ref 3)),(some (.ref 90)),none,(some (.str "dullglass.errors" 187)),none,(some (.ref 0))]⟩
def o96 (P:Jh):Obj:=⟨(.type "dict"),none,(.dict #[en0 P "__module__" 294 (.str "dullglass.errors" 187),en0 P "__firstlineno__" 298 (.int (14) 297),en0 P "__static_attributes__" 299 (.ref 95),en0 P "__doc__" 300 .none] 2),#[]⟩
def o97:Obj:=⟨(.type "type"),none,(.cls ⟨"TooMany",[(.ref 24)],[(.ref 97),(.ref 24),(.type "ValueError"),(.type "Exception"),(.type "BaseException"),(.type "object")],96,"TooMany",true,[],[],false,none,false⟩),#[(some (.ref 88)),none,(some (.str "TooMany" 287)),(some (.str "TooMany" 295)),(some (.builtin "ValueError.__new__")),(some (.bool true))]⟩
def o98:Obj:=⟨(.type "super"),none,(.fields #[(.ref 97),(.ref 97),(.ref 97)]),#[]⟩
def o99:Obj:=⟨(.type "builtin_function_or_method"),none,(.fields #[(.builtin "object.__init_subclass__"),(.ref 97)]),#[]⟩
def o101:Obj:=⟨(.type "builtin_function_or_method"),none,(.fields #[(.builtin "type.__prepare__"),(.type "type")]),#[]⟩
def o102 (P:Jh):Obj:=⟨(.type "dict"),none,(.dict #[en0 P "__module__" 310 (.str "dullglass.errors" 187),en0 P "__qualname__" 312 (.str "NoText" 311),en0 P "__firstlineno__" 314 (.int (16) 313),en0 P "__static_attributes__" 315 (.ref 107)] 4),#[]⟩
def o105:Obj:=co0 "NoText" "NoText" 305 16 0 0 103 false .none .none .none 308
def o106:Obj:=⟨(.type "frame"),none,.plain,#[(some (.ref 105)),(some (.ref 3)),(some (.ref 102)),none,(some (.str "dullglass.errors" 187)),none,(some (.ref 0))]⟩
def o108 (P:Jh):Obj:=⟨(.type "dict"),none,(.dict #[en0 P "__module__" 310 (.str "dullglass.errors" 187),en0 P "__firstlineno__" 314 (.int (16) 313),en0 P "__static_attributes__" 315 (.ref 107),en0 P "__doc__" 316 .none] 2),#[]⟩
def o109:Obj:=⟨(.type "type"),none,(.cls ⟨"NoText",[(.ref 24)],[(.ref 109),(.ref 24),(.type "ValueError"),(.type "Exception"),(.type "BaseException"),(.type "object")],108,"NoText",true,[],[],false,none,false⟩),#[(some (.ref 100)),none,(some (.str "NoText" 303)),(some (.str "NoText" 311)),(some (.builtin "ValueError.__new__")),(some (.bool true))]⟩
def o110:Obj:=⟨(.type "super"),none,(.fields #[(.ref 109),(.ref 109),(.ref 109)]),#[]⟩
def o111:Obj:=⟨(.type "builtin_function_or_method"),none,(.fields #[(.builtin "object.__init_subclass__"),(.ref 109)]),#[]⟩
def o113:Obj:=⟨(.type "builtin_function_or_method"),none,(.fields #[(.builtin "type.__prepare__"),(.type "type")]),#[]⟩
def o114 (P:Jh):Obj:=⟨(.type "dict"),none,(.dict #[en0 P "__module__" 326 (.str "dullglass.errors" 187),en0 P "__qualname__" 328 (.str "NoRow" 327),en0 P "__firstlineno__" 330 (.int (18) 329),en0 P "__static_attributes__" 331 (.ref 119)] 4),#[]⟩
def o117:Obj:=co0 "NoRow" "NoRow" 321 18 0 0 115 false .none .none .none 324
def o118:Obj:=⟨(.type "frame"),none,.plain,#[(some (.ref 117)),(some (.ref 3)),(some (.ref 114)),none,(some (.str "dullglass.errors" 187)),none,(some (.ref 0))]⟩
def o120 (P:Jh):Obj:=⟨(.type "dict"),none,(.dict #[en0 P "__module__" 326 (.str "dullglass.errors" 187),en0 P "__firstlineno__" 330 (.int (18) 329),en0 P "__static_attributes__" 331 (.ref 119),en0 P "__doc__" 332 .none] 2),#[]⟩
def o121:Obj:=⟨(.type "type"),none,(.cls ⟨"NoRow",[(.ref 24)],[(.ref 121),(.ref 24),(.type "ValueError"),(.type "Exception"),(.type "BaseException"),(.type "object")],120,"NoRow",true,[],[],false,none,false⟩),#[(some (.ref 112)),none,(some (.str "NoRow" 319)),(some (.str "NoRow" 327)),(some (.builtin "ValueError.__new__")),(some (.bool true))]⟩
def o122:Obj:=⟨(.type "super"),none,(.fields #[(.ref 121),(.ref 121),(.ref 121)]),#[]⟩
def o123:Obj:=⟨(.type "builtin_function_or_method"),none,(.fields #[(.builtin "object.__init_subclass__"),(.ref 121)]),#[]⟩
def o125:Obj:=⟨(.type "builtin_function_or_method"),none,(.fields #[(.builtin "type.__prepare__"),(.type "type")]),#[]⟩
def o126 (P:Jh):Obj:=⟨(.type "dict"),none,(.dict #[en0 P "__module__" 342 (.str "dullglass.errors" 187),en0 P "__qualname__" 344 (.str "NoName" 343),en0 P "__firstlineno__" 346 (.int (20) 345),en0 P "__static_attributes__" 347 (.ref 131)] 4),#[]⟩
def o129:Obj:=co0 "NoName" "NoName" 337 20 0 0 127 false .none .none .none 340
def o130:Obj:=⟨(.type "frame"),none,.plain,#[(some (.ref 129)),(some (.ref 3)),(some (.ref 126)),none,(some (.str "dullglass.errors" 187)),none,(some (.ref 0))]⟩
def o132 (P:Jh):Obj:=⟨(.type "dict"),none,(.dict #[en0 P "__module__" 342 (.str "dullglass.errors" 187),en0 P "__firstlineno__" 346 (.int (20) 345),en0 P "__static_attributes__" 347 (.ref 131),en0 P "__doc__" 348 .none] 2),#[]⟩
def o133:Obj:=⟨(.type "type"),none,(.cls ⟨"NoName",[(.ref 24)],[(.ref 133),(.ref 24),(.type "ValueError"),(.type "Exception"),(.type "BaseException"),(.type "object")],132,"NoName",true,[],[],false,none,false⟩),#[(some (.ref 124)),none,(some (.str "NoName" 335)),(some (.str "NoName" 343)),(some (.builtin "ValueError.__new__")),(some (.bool true))]⟩
def o134:Obj:=⟨(.type "super"),none,(.fields #[(.ref 133),(.ref 133),(.ref 133)]),#[]⟩
def o135:Obj:=⟨(.type "builtin_function_or_method"),none,(.fields #[(.builtin "object.__init_subclass__"),(.ref 133)]),#[]⟩
def o137:Obj:=⟨(.type "builtin_function_or_method"),none,(.fields #[(.builtin "type.__prepare__"),(.type "type")]),#[]⟩
def o138 (P:Jh):Obj:=⟨(.type "dict"),none,(.dict #[en0 P "__module__" 358 (.str "dullglass.errors" 187),en0 P "__qualname__" 360 (.str "Full" 359),en0 P "__firstlineno__" 362 (.int (22) 361),en0 P "__static_attributes__" 363 (.ref 143)] 4),#[]⟩
def o141:Obj:=co0 "Full" "Full" 353 22 0 0 139 false .none .none .none 356
def o142:Obj:=⟨(.type "frame"),none,.plain,#[(some (.ref 141)),(some (.ref 3)),(some (.ref 138)),none,(some (.str "dullglass.errors" 187)),none,(some (.ref 0))]⟩
def o144 (P:Jh):Obj:=⟨(.type "dict"),none,(.dict #[en0 P "__module__" 358 (.str "dullglass.errors" 187),en0 P "__firstlineno__" 362 (.int (22) 361),en0 P "__static_attributes__" 363 (.ref 143),en0 P "__doc__" 364 .none] 2),#[]⟩
def o145:Obj:=⟨(.type "type"),none,(.cls ⟨"Full",[(.ref 24)],[(.ref 145),(.ref 24),(.type "ValueError"),(.type "Exception"),(.type "BaseException"),(.type "object")],144,"Full",true,[],[],false,none,false⟩),#[(some (.ref 136)),none,(some (.str "Full" 351)),(some (.str "Full" 359)),(some (.builtin "ValueError.__new__")),(some (.bool true))]⟩
def o146:Obj:=⟨(.type "super"),none,(.fields #[(.ref 145),(.ref 145),(.ref 145)]),#[]⟩
def o147:Obj:=⟨(.type "builtin_function_or_method"),none,(.fields #[(.builtin "object.__init_subclass__"),(.ref 145)]),#[]⟩
def o153:Obj:=co1 "is_whole" 369 25 1 3 148 true 373
def o154:Obj:=fo1 "is_whole" 13 (.str "dullglass.shares" 367) 153
def o160:Obj:=co1 "divisor" 376 27 2 3 155 true 382
def o161:Obj:=fo1 "divisor" 14 (.str "dullglass.shares" 367) 160
def o167:Obj:=co1 "share" 385 35 2 3 162 true 390
def o168:Obj:=fo1 "share" 15 (.str "dullglass.shares" 367) 167
def o174:Obj:=co1 "reduced" 393 39 2 3 169 true 399
def o175:Obj:=fo1 "reduced" 16 (.str "dullglass.shares" 367) 174
def o181:Obj:=co1 "is_share" 402 44 1 3 176 true 406
def o182:Obj:=fo1 "is_share" 17 (.str "dullglass.shares" 367) 181
def o188:Obj:=co1 "check_shares" 409 50 2 3 183 true 414
def o189:Obj:=fo1 "check_shares" 18 (.str "dullglass.shares" 367) 188
def o195:Obj:=co1 "added" 417 53 2 3 190 true 422
def o196:Obj:=fo1 "added" 19 (.str "dullglass.shares" 367) 195
def o202:Obj:=co1 "times" 425 56 2 3 197 true 430
def o203:Obj:=fo1 "times" 20 (.str "dullglass.shares" 367) 202
def o209:Obj:=co1 "below" 433 59 2 3 204 true 438
def o210:Obj:=fo1 "below" 21 (.str "dullglass.shares" 367) 209
def o216:Obj:=co1 "summed" 441 62 1 3 211 true 447
def o217:Obj:=fo1 "summed" 22 (.str "dullglass.shares" 367) 216
def o223:Obj:=co1 "common_divisor" 458 71 1 3 218 true 465
def o224:Obj:=fo1 "common_divisor" 27 (.str "dullglass.glasses" 450) 223
def o228:Obj:=co0 "lowest_table" "lowest_table" 468 77 2 3 225 true .none .none (.ref 227) 471
def o229:Obj:=fo1 "lowest_table" 28 (.str "dullglass.glasses" 450) 228
def o233:Obj:=co0 "divided" "divided" 474 80 2 3 230 true .none .none (.ref 232) 477
def o234:Obj:=fo1 "divided" 29 (.str "dullglass.glasses" 450) 233
def o238:Obj:=co0 "table_of_shares" "table_of_shares" 480 82 1 3 235 true .none .none (.ref 237) 483
def o239:Obj:=fo1 "table_of_shares" 30 (.str "dullglass.glasses" 450) 238
def o243:Obj:=co0 "over_bottom" "over_bottom" 486 88 2 3 240 true .none .none (.ref 242) 489
def o244:Obj:=fo1 "over_bottom" 31 (.str "dullglass.glasses" 450) 243
def o250:Obj:=co1 "stands" 492 90 1 3 245 true 496
def o251:Obj:=fo1 "stands" 32 (.str "dullglass.glasses" 450) 250
def o257:Obj:=co1 "signs" 499 92 1 3 252 true 503
def o258:Obj:=fo1 "signs" 33 (.str "dullglass.glasses" 450) 257
def o262:Obj:=co0 "column" "column" 506 94 2 3 259 true .none .none (.ref 261) 509
def o263:Obj:=fo1 "column" 34 (.str "dullglass.glasses" 450) 262
def o267:Obj:=co0 "one_sign" "one_sign" 512 96 2 3 264 true .none .none (.ref 266) 515
def o268:Obj:=fo1 "one_sign" 35 (.str "dullglass.glasses" 450) 267
def o272:Obj:=co0 "least" "least" 520 99 1 3 269 true .none .none (.ref 271) 523
def o273:Obj:=fo1 "least" 37 (.str "dullglass.least" 518) 272
def o279:Obj:=co1 "sorted_groups" 526 105 1 3 274 true 535
def o280:Obj:=fo1 "sorted_groups" 38 (.str "dullglass.least" 518) 279
def o284:Obj:=co0 "joined_column" "joined_column" 538 113 2 3 281 true .none .none (.ref 283) 541
def o285:Obj:=fo1 "joined_column" 39 (.str "dullglass.least" 518) 284
def o289:Obj:=co0 "joined_numbers" "joined_numbers" 544 115 2 3 286 true .none .none (.ref 288) 547
def o290:Obj:=fo1 "joined_numbers" 40 (.str "dullglass.least" 518) 289
def o294:Obj:=co0 "joined_number" "joined_number" 550 117 2 3 291 true .none .none (.ref 293) 553
def o295:Obj:=fo1 "joined_number" 41 (.str "dullglass.least" 518) 294
def o301:Obj:=co1 "place_of" 556 119 2 3 296 true 563
def o302:Obj:=fo1 "place_of" 42 (.str "dullglass.least" 518) 301
def o306:Obj:=co0 "parts_of" "parts_of" 566 124 2 3 303 true .none .none (.ref 305) 569
def o307:Obj:=fo1 "parts_of" 43 (.str "dullglass.least" 518) 306
def o311:Obj:=co0 "beliefs" "beliefs" 576 129 2 3 308 true .none .none (.ref 310) 579
def o312:Obj:=fo1 "beliefs" 46 (.str "dullglass.beliefs" 572) 311
def o316:Obj:=co0 "is_weights" "is_weights" 582 136 1 3 313 true .none .none (.ref 315) 585
def o317:Obj:=fo1 "is_weights" 47 (.str "dullglass.beliefs" 572) 316
def o321:Obj:=co0 "belief_behind" "belief_behind" 588 140 3 3 318 true .none .none (.ref 320) 591
def o322:Obj:=fo1 "belief_behind" 48 (.str "dullglass.beliefs" 572) 321
def o326:Obj:=co0 "glass_by" "glass_by" 594 144 2 3 323 true .none .none (.ref 325) 597
def o327:Obj:=fo1 "glass_by" 49 (.str "dullglass.beliefs" 572) 326
def o331:Obj:=co0 "is_belief" "is_belief" 600 153 2 3 328 true .none .none (.ref 330) 603
def o332:Obj:=fo1 "is_belief" 50 (.str "dullglass.beliefs" 572) 331
def o336:Obj:=co0 "shown_at" "shown_at" 606 158 3 3 333 true .none .none (.ref 335) 609
def o337:Obj:=fo1 "shown_at" 51 (.str "dullglass.beliefs" 572) 336
def o343:Obj:=co1 "_law_pen" 614 162 1 3 338 true 619
def o344:Obj:=fo1 "_law_pen" 53 xs9 343
def o350:Obj:=co1 "_law_mixed" 622 167 1 3 345 true 628
def o351:Obj:=fo1 "_law_mixed" 54 xs9 350
def o357:Obj:=co1 "_law_next" 631 173 2 3 352 true 637
def o358:Obj:=fo1 "_law_next" 55 xs9 357
def o364:Obj:=co1 "_law_divisor" 640 186 1 3 359 true 647
def o365:Obj:=fo1 "_law_divisor" 56 xs9 364
def o371:Obj:=co1 "_law_share" 650 193 2 3 366 true 656
def o372:Obj:=fo1 "_law_share" 57 xs9 371
def o376:Obj:=co0 "_law_reduced" "_law_reduced" 659 196 2 3 373 true .none .none (.ref 375) 662
def o377:Obj:=fo1 "_law_reduced" 58 xs9 376
def o381:Obj:=co0 "_law_row" "_law_row" 665 202 3 3 378 true .none .none (.ref 380) 668
def o382:Obj:=fo1 "_law_row" 59 xs9 381
def o386:Obj:=co0 "_law_split" "_law_split" 671 205 2 3 383 true .none .none (.ref 385) 674
def o387:Obj:=fo1 "_law_split" 60 xs9 386
def o391:Obj:=co0 "_law_table" "_law_table" 677 217 4 3 388 true .none .none (.ref 390) 680
def o392:Obj:=fo1 "_law_table" 61 xs9 391
def o396:Obj:=co0 "_law_weights" "_law_weights" 683 225 2 3 393 true .none .none (.ref 395) 686
def o397:Obj:=fo1 "_law_weights" 62 xs9 396
def o401:Obj:=co0 "_law_belief" "_law_belief" 689 228 2 3 398 true .none .none (.ref 400) 692
def o402:Obj:=fo1 "_law_belief" 63 xs9 401
def o408:Obj:=co1 "_law_word" 695 231 1 3 403 true 699
def o409:Obj:=fo1 "_law_word" 64 xs9 408
def o415:Obj:=co1 "_law_said" 702 237 3 3 410 true 711
def o416:Obj:=fo1 "_law_said" 65 xs9 415
def o422:Obj:=co1 "_law_bad_weights" 714 250 2 3 417 true 722
def o423:Obj:=fo1 "_law_bad_weights" 66 xs9 422
def o429:Obj:=co1 "_law_are_some" 725 263 1 3 424 true 730
def o430:Obj:=fo1 "_law_are_some" 67 xs9 429
def o434:Obj:=co0 "_law_bad_rows" "_law_bad_rows" 733 270 2 3 431 true .none .none (.ref 433) 736
def o435:Obj:=fo1 "_law_bad_rows" 68 xs9 434
def o439:Obj:=co0 "law" "law" 739 296 1 3 436 true .none .none (.ref 438) 742
def o440:Obj:=fo1 "law" 69 xs9 439
def tA0 (P:Jh):BT:=(N0 (boot_o_0 P) (N0 (boot_o_1 P) (N0 (boot_o_3 P) (xl9 (boot_o_7 P)) (xl9 (tu0 []))) (N0 (boot_o_5 P) (xl9 (boot_o_9 P)) (xl9 o13a))) (N0 (boot_o_2 P) (N0 (boot_o_4 P) (xl9 (boot_o_8 P)) (xl9 em0)) (N0 (boot_o_6 P) (xl9 (boot_o_10 P)) (xl9 o14a))))
def tE0 (P:Jh):BT:=(N0 (boot_o_0 P) (N0 (boot_o_1 P) (N0 (o3 P) (N0 (boot_o_7 P) (N0 (tu0 [(.type "ValueError")]) (N0 (tu0 []) (N0 o63 (N0 (tu0 []) (xl9 (tu0 [])) (xl9 (tu0 []))) (N0 em0 (xl9 em0) nl0)) (N0 (tu0 []) (N0 (pr0 "divisor" "divisor" (top 14)) (xl9 em0) (xl9 o415)) (N0 o223 (xl9 o351) nl0))) (N0 (tu0 []) (N0 (tu0 []) (N0 (tu0 []) (xl9 (pr0 "least" "least" (top 37))) (xl9 em0)) (N0 (tu0 []) (xl9 (pr0 "shown_at" "shown_at" (top 51))) nl0)) (N0 o111 (N0 o175 (xl9 (tu0 [])) (xl9 (tu0 []))) (N0 o239 (xl9 em0) nl0)))) (N0 (o23 P) (N0 o39 (N0 (tu0 []) (N0 o135 (xl9 o263) (xl9 o391)) (N0 (tu0 [(.str "one" 428),(.str "other" 429)]) (xl9 o327) nl0)) (N0 (tu0 []) (N0 o167 (xl9 o295) (xl9 o423)) (N0 em0 (xl9 (tu0 [])) nl0))) (N0 (tu0 []) (N0 o87 (N0 (tu0 []) (xl9 o279) (xl9 (pr0 "_law_word" "_law_word" (top 64)))) (N0 (pr0 "summed" "summed" (top 22)) (xl9 o343) nl0)) (N0 (tu0 []) (N0 (tu0 []) (xl9 o311) (xl9 o439)) (N0 (tu0 [(.str "glass" 495)]) (xl9 (pr0 "_law_reduced" "_law_reduced" (top 58))) nl0))))) (N0 (tu0 []) (N0 em0 (N0 (tu0 []) (N0 (tu0 []) (N0 (tu0 []) (xl9 (tu0 [])) (xl9 o387)) (N0 o195 (xl9 (tu0 [])) nl0)) (N0 o99 (N0 em0 (xl9 (tu0 [])) (xl9 (tu0 [(.str "_law_pen_here" 717),(.str "_law_weights_here" 718),(.str "_law_way" 719),(.str "_law_at" 720),(.str "_law_bad" 721)]))) (N0 (pr0 "lowest_table" "lowest_table" (top 28)) (xl9 (tu0 [])) nl0))) (N0 o51 (N0 (tu0 []) (N0 o147 (xl9 em0) (xl9 (tu0 []))) (N0 (tu0 []) (xl9 em0) nl0)) (N0 (tu0 []) (N0 (tu0 []) (xl9 o307) (xl9 o435)) (N0 o243 (xl9 o371) nl0)))) (N0 o27 (N0 (tu0 []) (N0 o75 (N0 (tu0 []) (xl9 o267) (xl9 (pr0 "_law_weights" "_law_weights" (top 62)))) (N0 o203 (xl9 o331) nl0)) (N0 (tu0 []) (N0 (tu0 [(.str "top" 396),(.str "bottom" 397),(.str "common" 398)]) (xl9 (tu0 [])) (xl9 (tu0 []))) (N0 (tu0 []) (xl9 (pr0 "_law_divisor" "_law_divisor" (top 56))) nl0))) (N0 (tu0 []) (N0 (tu0 []) (N0 (tu0 []) (xl9 (pr0 "joined_column" "joined_column" (top 39))) (xl9 em0)) (N0 em0 (xl9 (tu0 [(.str "_law_pen_here" 625),(.str "_law_cell" 626),(.str "_law_number" 627)])) nl0)) (N0 o123 (N0 (pr0 "check_shares" "check_shares" (top 18)) (xl9 (pr0 "is_weights" "is_weights" (top 47))) nl0) (N0 o251 (xl9 em0) nl0)))))) (N0 (boot_o_5 P) (N0 (boot_o_9 P) (N0 (o17 P) (N0 o33 (N0 o65 (N0 o129 (xl9 o257) (xl9 (pr0 "_law_split" "_law_split" (top 60)))) (N0 (tu0 []) (xl9 o321) nl0)) (N0 o97 (N0 o161 (xl9 o289) (xl9 (tu0 []))) (N0 (tu0 []) (xl9 em0) nl0))) (N0 o49 (N0 o81 (N0 o145 (xl9 o273) (xl9 o401)) (N0 o209 (xl9 o337) nl0)) (N0 o113 (N0 em0 (xl9 (pr0 "parts_of" "parts_of" (top 43))) (xl9 (pr0 "_law_bad_rows" "_law_bad_rows" (top 68)))) (N0 em0 (xl9 (tu0 [])) nl0)))) (N0 o25 (N0 o41 (N0 o73 (N0 o137 (xl9 em0) (xl9 (tu0 []))) (N0 (pr0 "times" "times" (top 20)) (xl9 em0) nl0)) (N0 o105 (N0 (tu0 []) (xl9 em0) (xl9 em0)) (N0 o233 (xl9 (tu0 [(.str "_law_numbers" 643),(.str "_law_found" 644),(.str "_law_number" 645),(.str "_law_other" 646)])) nl0))) (N0 o57 (N0 o89 (N0 o153 (xl9 (tu0 [])) (xl9 o409)) (N0 o217 (xl9 (tu0 [])) nl0)) (N0 o121 (N0 (tu0 [(.str "one" 412),(.str "other" 413)]) (xl9 (tu0 [])) nl0) (N0 (pr0 "stands" "stands" (top 32)) (xl9 o377) nl0))))) (N0 o13a (N0 o21 (N0 o37 (N0 o69 (N0 o133 (xl9 (pr0 "column" "column" (top 34))) (xl9 em0)) (N0 (tu0 []) (xl9 (pr0 "glass_by" "glass_by" (top 49))) nl0)) (N0 o101 (N0 (tu0 []) (xl9 (pr0 "joined_number" "joined_number" (top 41))) (xl9 (pr0 "_law_bad_weights" "_law_bad_weights" (top 66)))) (N0 o229 (xl9 o357) nl0))) (N0 o53 (N0 o85 (N0 em0 (xl9 (tu0 [(.str "glass" 534)])) (xl9 (tu0 [(.str "_law_caught" 698)]))) (N0 (tu0 [(.str "some" 444),(.str "total" 445),(.str "one" 446)]) (xl9 (tu0 [])) nl0)) (N0 o117 (N0 o181 (xl9 em0) (xl9 em0)) (N0 (tu0 []) (xl9 (tu0 [])) nl0)))) (N0 o29 (N0 o45 (N0 o77 (N0 o141 (xl9 (tu0 [])) (xl9 o397)) (N0 em0 (xl9 (tu0 [])) nl0)) (N0 o109 (N0 (pr0 "reduced" "reduced" (top 16)) (xl9 o301) (xl9 o429)) (N0 (pr0 "table_of_shares" "table_of_shares" (top 30)) (xl9 o365) nl0))) (N0 o61 (N0 o93 (N0 (tu0 [(.str "one" 379),(.str "other" 380),(.str "rest" 381)]) (xl9 o285) (xl9 (tu0 []))) (N0 (tu0 []) (xl9 (pr0 "_law_mixed" "_law_mixed" (top 54))) nl0)) (N0 o125 (N0 o189 (xl9 o317) nl0) (N0 em0 (xl9 o381) nl0))))))) (N0 (boot_o_2 P) (N0 (boot_o_4 P) (N0 (boot_o_8 P) (N0 o16 (N0 em0 (N0 (tu0 [(.ref 24)]) (N0 em0 (xl9 (pr0 "signs" "signs" (top 33))) (xl9 em0)) (N0 (tu0 [(.str "one" 420),(.str "other" 421)]) (xl9 (pr0 "belief_behind" "belief_behind" (top 48))) nl0)) (N0 (o96 P) (N0 o160 (xl9 (pr0 "joined_numbers" "joined_numbers" (top 40))) (xl9 o416)) (N0 o224 (xl9 (tu0 [])) nl0))) (N0 (o48 P) (N0 em0 (N0 (o144 P) (xl9 o272) (xl9 (pr0 "_law_belief" "_law_belief" (top 63)))) (N0 (pr0 "below" "below" (top 21)) (xl9 o336) nl0)) (N0 (tu0 [(.ref 24)]) (N0 (tu0 []) (xl9 em0) (xl9 em0)) (N0 (tu0 []) (xl9 (tu0 [(.str "_law_top" 653),(.str "_law_bottom" 654),(.str "_law_both" 655)])) nl0)))) (N0 o24 (N0 (tu0 [(.ref 24)]) (N0 (o72 P) (N0 (tu0 [(.ref 24)]) (xl9 (tu0 [])) (xl9 o392)) (N0 (tu0 []) (xl9 (tu0 [])) nl0)) (N0 em0 (N0 o168 (xl9 (tu0 [])) (xl9 (tu0 []))) (N0 (pr0 "divided" "divided" (top 29)) (xl9 em0) nl0))) (N0 em0 (N0 (tu0 [(.ref 24)]) (N0 (pr0 "is_whole" "is_whole" (top 13)) (xl9 o280) (xl9 o408)) (N0 o216 (xl9 o344) nl0)) (N0 (o120 P) (N0 em0 (xl9 o312) (xl9 o440)) (N0 (tu0 []) (xl9 o376) nl0))))) (N0 o12 (N0 o20 (N0 (o36 P) (N0 em0 (N0 (o132 P) (xl9 em0) (xl9 (tu0 []))) (N0 o196 (xl9 em0) nl0)) (N0 (tu0 [(.ref 24)]) (N0 (tu0 [(.str "top" 388),(.str "bottom" 389)]) (xl9 em0) (xl9 (tu0 []))) (N0 o228 (xl9 (pr0 "_law_next" "_law_next" (top 55))) nl0))) (N0 (tu0 [(.ref 24)]) (N0 (o84 P) (N0 (tu0 []) (xl9 (tu0 [(.str "glass" 529),(.str "groups" 530),(.str "sign" 531),(.str "numbers" 532),(.str "alone" 533)])) (xl9 em0)) (N0 em0 (xl9 (tu0 [(.str "_law_script" 617),(.str "_law_head" 618)])) nl0)) (N0 em0 (N0 (pr0 "is_share" "is_share" (top 17)) (xl9 (tu0 [])) (xl9 (tu0 []))) (N0 o244 (xl9 o372) nl0)))) (N0 (tu0 [(.ref 24)]) (N0 em0 (N0 (tu0 [(.ref 24)]) (N0 em0 (xl9 o268) (xl9 o396)) (N0 (tu0 []) (xl9 o332) nl0)) (N0 (o108 P) (N0 (tu0 []) (xl9 (pr0 "place_of" "place_of" (top 42))) (xl9 (pr0 "_law_are_some" "_law_are_some" (top 67)))) (N0 em0 (xl9 o364) nl0))) (N0 (o60 P) (N0 em0 (N0 em0 (xl9 o284) (xl9 (tu0 [(.str "_law_glass" 705),(.str "_law_weights_here" 706),(.str "_law_rows" 707),(.str "_law_caught" 708),(.str "_law_found" 709),(.str "e" 710)]))) (N0 (tu0 [(.str "rows" 461),(.str "common" 462),(.str "row" 463),(.str "number" 464)]) (xl9 (tu0 [])) nl0)) (N0 (tu0 [(.ref 24)]) (N0 o188 (xl9 o316) nl0) (N0 (tu0 []) (xl9 (pr0 "_law_row" "_law_row" (top 59))) nl0)))))) (N0 (boot_o_6 P) (N0 (boot_o_10 P) (N0 (tu0 []) (N0 o34 (N0 (o66 P) (N0 o130 (xl9 o258) (xl9 o386)) (N0 (pr0 "added" "added" (top 19)) (xl9 o322) nl0)) (N0 o98 (N0 (tu0 []) (xl9 o290) (xl9 em0)) (N0 em0 (xl9 (tu0 [(.str "_law_pen_here" 634),(.str "_law_many" 635),(.str "_law_found" 636)])) nl0))) (N0 o50 (N0 o82 (N0 o146 (xl9 (tu0 [])) (xl9 o402)) (N0 o210 (xl9 (tu0 [])) nl0)) (N0 (o114 P) (N0 (tu0 [(.str "thing" 405)]) (xl9 o306) (xl9 o434)) (N0 (pr0 "over_bottom" "over_bottom" (top 31)) (xl9 (pr0 "_law_share" "_law_share" (top 57))) nl0)))) (N0 o26 (N0 (o42 P) (N0 o74 (N0 (o138 P) (xl9 (pr0 "one_sign" "one_sign" (top 35))) (xl9 em0)) (N0 o202 (xl9 (pr0 "is_belief" "is_belief" (top 50))) nl0)) (N0 o106 (N0 em0 (xl9 (tu0 [(.str "sign" 559),(.str "groups" 560),(.str "place" 561),(.str "group" 562)])) (xl9 (tu0 [(.str "_law_weights_here" 728),(.str "_law_weight" 729)]))) (N0 o234 (xl9 (tu0 [])) nl0))) (N0 o58 (N0 (o90 P) (N0 o154 (xl9 em0) (xl9 (tu0 []))) (N0 (tu0 []) (xl9 em0) nl0)) (N0 o122 (N0 (tu0 []) (xl9 em0) nl0) (N0 o250 (xl9 (tu0 [])) nl0))))) (N0 o14a (N0 (tu0 []) (N0 o38 (N0 o70 (N0 o134 (xl9 o262) (xl9 (pr0 "_law_table" "_law_table" (top 61)))) (N0 em0 (xl9 o326) nl0)) (N0 (o102 P) (N0 (pr0 "share" "share" (top 15)) (xl9 o294) (xl9 o422)) (N0 (tu0 []) (xl9 o358) nl0))) (N0 (o54 P) (N0 o86 (N0 (tu0 [(.str "thing" 372)]) (xl9 (pr0 "sorted_groups" "sorted_groups" (top 38))) (xl9 (tu0 []))) (N0 (tu0 []) (xl9 (pr0 "_law_pen" "_law_pen" (top 53))) nl0)) (N0 o118 (N0 o182 (xl9 (pr0 "beliefs" "beliefs" (top 46))) (xl9 (pr0 "law" "law" (top 69)))) (N0 em0 (xl9 em0) nl0)))) (N0 (o30 P) (N0 o46 (N0 (o78 P) (N0 o142 (xl9 em0) (xl9 (tu0 []))) (N0 (tu0 [(.str "one" 436),(.str "other" 437)]) (xl9 em0) nl0)) (N0 o110 (N0 o174 (xl9 o302) (xl9 o430)) (N0 o238 (xl9 (tu0 [])) nl0))) (N0 o62 (N0 o94 (N0 (tu0 []) (xl9 (tu0 [])) (xl9 (pr0 "_law_said" "_law_said" (top 65)))) (N0 (pr0 "common_divisor" "common_divisor" (top 27)) (xl9 o350) nl0)) (N0 (o126 P) (N0 (tu0 []) (xl9 (tu0 [])) nl0) (N0 (tu0 [(.str "glass" 502)]) (xl9 o382) nl0))))))))
lay_quick My.cE0 My.env0 My.ls0
def zaps (w:World):(fun os=>topGo Qhm Qh w 11 (some (.ref 6)) 12 (Qlo (boot_heap w.params) (Qbd []) boot_drawn boot_toks os) (topStub Qh))=fun os=>some ((Qdi (tA0 w.params) 15 lf0 (Qbd []) boot_drawn 187 os).abs,Thread.mk (denote Qhm cE0) cE0 ⟨0,0,0,0⟩ [topFrame ⟨0,0,0,0⟩]):=by
 rewrite [PySem.W.Fast.te15667345088766844465,Vl,PySem.W.Fast.te7542726499137890643,PySem.W.Fast.te11892475500146522536,PySem.W.Fast.te2665708160071446767]
 kernel_rfl
def zahs (w:World):(fun os=>segRun Qhm Qh w 11 (some (.ref 6)) 1 1 (Qdi (tA0 w.params) 15 lf0 (Qbd []) boot_drawn 187 os).abs (blockOf (behindTheImports Qh) env0 cE0 ⟨0,0,0,0⟩ [topFrame ⟨0,0,0,0⟩]))=fun os=>some (.next,(Qdi (tA0 w.params) 15 lf0 (Qbd []) boot_drawn 187 os).abs,cE0,⟨0,0,0,0⟩):=by
 rewrite [PySem.W.Fast.te14374325043358763698,Vl,PySem.W.Fast.te7542726499137890643,PySem.W.Fast.te2665708160071446767,PySem.W.Fast.te13849342267361746138]
 kernel_rfl
def zapm (w:World):(fun os=>segRunT Qhm Qh w 11 (some (.ref 6)) 1 3795 (Qdi (tA0 w.params) 15 lf0 (Qbd []) boot_drawn 187 os) (piecesOf (behindTheImports Qh) env0 cE0 ⟨0,0,0,0⟩ [topFrame ⟨0,0,0,0⟩]))=fun os=>some (.next,(Qdi (tE0 w.params) 441 lf0 (Qbd []) boot_drawn 745 os),cE0,⟨296,0,316,72⟩):=by
 rewrite [PySem.W.Fast.te10110043849684766642,Vl,PySem.W.Fast.te7542726499137890643,PySem.W.Fast.te2665708160071446767,PySem.W.Fast.te13849342267361746138]
 kernel_rfl
def zaox (w:World):(fun os=>topRun Qhm Qh w 11 (some (.ref 6)) 2 (Qdi (tE0 w.params) 441 lf0 (Qbd []) boot_drawn 745 os).abs ⟨doneF .next,cE0,⟨296,0,316,72⟩,[topFrame ⟨0,0,0,0⟩]⟩)=fun os=>some (Qdi (tE0 w.params) 441 lf0 (Qbd []) boot_drawn 745 os).abs:=by
 rewrite [PySem.W.Fast.te14082659384304107361,Vl,PySem.W.Fast.te7542726499137890643,PySem.W.Fast.te2665708160071446767]
 kernel_rfl
def zapo (w:World) (os:OsState):topRun Qhm Qh w 11 (some (.ref 6)) (12+(1+(3795+2))) (Qlo (boot_heap w.params) (Qbd []) boot_drawn boot_toks os) (topStub Qh)=some (Qdi (tE0 w.params) 441 lf0 (Qbd []) boot_drawn 745 os).abs :=
 go_top (congrFun (zaps w) os) (piece_block (congrFun (zahs w) os) (by
  have q:=piece_app (rest:=[]) (segRun_of (congrFun (zapm w) os)) (piece_nil (congrFun (zaox w) os))
  rwa [Vj] at q))
def zaof:opening Qh=plainProg Qh.main.scope.names:=by kernel_rfl
def zajg (s:Ql):fenceModules? Qh s=some s:=by kernel_rfl
def zano (w:World):((boot_heap w.params).isNs Ze&&(Qbd []:Array Qkt).size==0,(boot_heap w.params).objs.size,(boot_heap w.params).nsMap Ze "__annotations__")=(true,11,(some (.ref 6))):=by kernel_rfl
def zapq (w:World):(fun os=>(staticsOk (importedModules Qh.main.body) (boot_heap w.params) (absHeap (tE0 w.params) 441 lf0)&&namesBound Qh (absHeap (tE0 w.params) 441 lf0)&&gensDone (Qlo (absHeap (tE0 w.params) 441 lf0) (Qbd []) boot_drawn 745 os)&&laidKept (boot_heap w.params) (absHeap (tE0 w.params) 441 lf0)))=fun _=>true:=by
 rewrite [Qci,PySem.W.Fast.te7542726499137890643]
 kernel_rfl
def zapf (w:World):(fun os=>openSeen (view Qh [69]) ls0 (importedModules Qh.main.body) (fun _=>true) true (Qlo (absHeap (tE0 w.params) 441 lf0) (Qbd []) boot_drawn 745 os))=fun _=>openGood (view Qh [69]) ls0:=by
 rewrite [PySem.W.Fast.te4187177175401517315,Qci,PySem.W.Fast.te7542726499137890643,PySem.W.Fast.te4294247251607483543]
 kernel_rfl
def K0 (P:Jh):Frag:=(nat_lit 2,(boot_o_2 P))::(nat_lit 3,(o3 P))::(nat_lit 23,(o23 P))::(nat_lit 24,o24)::(nat_lit 25,o25)::(nat_lit 36,(o36 P))::(nat_lit 37,o37)::(nat_lit 48,(o48 P))::(nat_lit 49,o49)::(nat_lit 60,(o60 P))::(nat_lit 61,o61)::(nat_lit 72,(o72 P))::(nat_lit 73,o73)::(nat_lit 84,(o84 P))::(nat_lit 85,o85)::(nat_lit 96,(o96 P))::(nat_lit 97,o97)::(nat_lit 108,(o108 P))::(nat_lit 109,o109)::(nat_lit 120,(o120 P))::(nat_lit 121,o121)::(nat_lit 132,(o132 P))::(nat_lit 133,o133)::(nat_lit 144,(o144 P))::(nat_lit 145,o145)::(nat_lit 153,o153)::(nat_lit 154,o154)::(nat_lit 160,o160)::(nat_lit 161,o161)::(nat_lit 167,o167)::(nat_lit 168,o168)::(nat_lit 174,o174)::(nat_lit 175,o175)::(nat_lit 181,o181)::(nat_lit 182,o182)::(nat_lit 188,o188)::(nat_lit 189,o189)::(nat_lit 195,o195)::(nat_lit 196,o196)::(nat_lit 202,o202)::(nat_lit 203,o203)::(nat_lit 209,o209)::(nat_lit 210,o210)::(nat_lit 216,o216)::(nat_lit 217,o217)::(nat_lit 223,o223)::(nat_lit 224,o224)::(nat_lit 228,o228)::(nat_lit 229,o229)::(nat_lit 233,o233)::(nat_lit 234,o234)::(nat_lit 238,o238)::(nat_lit 239,o239)::(nat_lit 243,o243)::(nat_lit 244,o244)::(nat_lit 250,o250)::(nat_lit 251,o251)::(nat_lit 257,o257)::(nat_lit 258,o258)::(nat_lit 262,o262)::(nat_lit 263,o263)::(nat_lit 267,o267)::(nat_lit 268,o268)::(nat_lit 272,o272)::(nat_lit 273,o273)::(nat_lit 279,o279)::(nat_lit 280,o280)::(nat_lit 284,o284)::(nat_lit 285,o285)::(nat_lit 289,o289)::(nat_lit 290,o290)::(nat_lit 294,o294)::(nat_lit 295,o295)::(nat_lit 301,o301)::(nat_lit 302,o302)::(nat_lit 306,o306)::(nat_lit 307,o307)::(nat_lit 311,o311)::(nat_lit 312,o312)::(nat_lit 316,o316)::(nat_lit 317,o317)::(nat_lit 321,o321)::(nat_lit 322,o322)::(nat_lit 326,o326)::(nat_lit 327,o327)::(nat_lit 331,o331)::(nat_lit 332,o332)::(nat_lit 336,o336)::(nat_lit 337,o337)::(nat_lit 343,o343)::(nat_lit 344,o344)::(nat_lit 350,o350)::(nat_lit 351,o351)::(nat_lit 357,o357)::(nat_lit 358,o358)::(nat_lit 364,o364)::(nat_lit 365,o365)::(nat_lit 371,o371)::(nat_lit 372,o372)::(nat_lit 376,o376)::(nat_lit 377,o377)::(nat_lit 381,o381)::(nat_lit 382,o382)::(nat_lit 386,o386)::(nat_lit 387,o387)::(nat_lit 391,o391)::(nat_lit 392,o392)::(nat_lit 408,o408)::(nat_lit 409,o409)::(nat_lit 415,o415)::(nat_lit 416,o416)::(nat_lit 422,o422)::(nat_lit 423,o423)::(nat_lit 429,o429)::(nat_lit 430,o430)::(nat_lit 434,o434)::(nat_lit 435,o435)::(nat_lit 439,o439)::(nat_lit 440,o440)::(nat_lit 4,(boot_o_4 P))::[]
def K1 (P:Jh):Frag:=(nat_lit 275,em0)::K0 P
def as0:List Addr:=[275,2,3,23,24,25,36,37,48,49,60,61,72,73,84,85,96,97,108,109,120,121,132,133,144,145,153,154,160,161,167,168,174,175,181,182,188,189,195,196,202,203,209,210,216,217,223,224,228,229,233,234,238,239,243,244,250,251,257,258,262,263,267,268,272,273,279,280,284,285,289,290,294,295,301,302,306,307,311,312,316,317,321,322,326,327,331,332,336,337,343,344,350,351,357,358,364,365,371,372,376,377,381,382,386,387,391,392,408,409,415,416,422,423,429,430,434,435,439,440,4]
def zaiv (w:World):(fun (os:OsState)=>as0.map (absHeap (tE0 w.params) 441 lf0).get?)=fun _=>(K1 w.params).map fun p=>some p.2:=by kernel_rfl
def left0:LeftO Qh (view Qh [69]) ls0 (fun _=>true) (fun s=>as0.map s.heap.get?) (fun w=>(K1 w.params).map fun p=>some p.2) 100000 :=
 LeftO.of_pieces (H₀:=boot_heap) (H₁:=fun P=>absHeap (tE0 P) 441 lf0) (gs₁:=Qbd []) (d₁:=boot_drawn) (k₁:=745) (boot_open zaof rfl zajg) zano zapo rfl fun w=>by
  funext os
  exact congr (congrArg Prod.mk (congrFun (zapq w) os)) (congr (congrArg Prod.mk (congrFun (zapf w) os)) (congrFun (zaiv w) os))
end
end My
open PySem PySem.W PyProof.Rows
set_option maxRecDepth 100000 in
set_option maxHeartbeats 0 in
theorem PySem.Challenge.cw_dullglass_k40_beliefs_refused_holds : PySem.Challenge.rw_dullglass_k40_beliefs_refused.Holds := by
 w_on;o_law
 refine holds_open (q:=view Qh [69]) (XP:=fun _ _=>True) (YP:=InK My.K1) My.left0 (InK.of fun _=>by kernel_rfl) InK.keeps (fun _ _=>Qdd) (fun _ _ _ _ _=>Qdd) (by rfl) (by rfl) (by rfl) (fun s _=>recFacts_nil rfl) (by rfl) (by assumption) (by decide +kernel) ⟨rfl,rfl,rfl,rfl,rfl,by decide +kernel⟩ ?hw ?hc
 case hw=>w_witness2
 k_fill
 refine My.walk (l:=Ju) (K:=My.K0) (tbs:=[275]) rfl rfl (fun w h Y=>L2.tabs_in (ts:=[(275,279)]) (by rfl) (by rfl) Y) (fun _=>L2.none_all (ts:=[(275,279)]) (by rfl)) ?F
 case F =>
  k_fill
  intro w mg fa h KX G hmg;refine' My.all_mk (c_tb:=275) KX G hmg ..
  iterate 3 all_goals try first|k_is|k_exc|rfl|(refine' My.DK.mk ?a (My.LK.mk ?l ?c ?k); (case a=>k_is); (case l=>k_is); (case c=>k_is); (case k=>k_is))|(refine' My.LK.mk ?l ?c ?k; (case l=>k_is); (case c=>k_is); (case k=>k_is))
