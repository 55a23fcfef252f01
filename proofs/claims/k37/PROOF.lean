import PyProof.Rows.All
import Wide.All
import OpenK.AllK
import Wide.FinOn
import Lean
import PyProof.EqAt
import PyProof.EqKinds
import PyProof.TupleCall
import PySem.Challenge.RW_dullglass_k37_whole_alike_just_where_the
set_option Elab.async false
set_option linter.all false
set_option maxRecDepth 100000
set_option maxHeartbeats 4000000
set_option genSizeOf false
set_option genInjectivity false
open List renaming getElem?_map->Qa,getElem?_eq_getElem->Qc,length_map->Qf,mem_of_getElem?->Qg,mem_map->Qk,getElem?_eq_some_iff->Qm,getElem?_range->Qn,getElem?_eq_none->Qo,size_toArray->Qs,exists_cons_of_ne_nil->Qt,mem_cons_of_mem->Qu,mem_singleton->Qy,range->Q1,map_cons->Q2,mem_cons->Q5,getElem_mem->Q7,mem_append_right->Q8,sum_cons->Za,length_cons->Zb,Nodup->Ze,mem_append->Zf,getElem?_append_left->Zg,mem_range->Zh,ext_getElem?->Zl,map_append->Zm,lookup_cons->Zp,take_length->Zq,take_of_length_le->Zx,map_map->Zy,getD_eq_getElem?_getD->Zz,length_append->Z1,getElem?_append_right->Z5,getElem?_cons_succ->Z7,map_congr_left->Z9,mem_append_left->Ya,length_set->Ye,take_add_one->Yf,any_eq_true->Yn,length_range->Yz,mem_or_eq_of_mem_set->Y4,all_eq_true->Y5,replicate->Vd,append_nil->Ve,not_mem_nil->Vi,length_take->Vz,getElem?_replicate->V2,getElem?_of_mem->Jj,mem_iff_getElem->Jk,nodup_cons->Jl,sum_append->Jr,map_nil->Jw,any_cons->Jz,length_eq_zero_iff->J4,length_replicate->Qaj,flatten_cons->Qap,getElem?_set->Qaq,getElem?_inj->Qar,nodup_append->Qas,mem_of_mem_take->Qay,getElem?_zip_eq_some->Qba,mem_flatten->Qbg,filterMap_cons->Qbh,replicate_succ->Qbi,getElem?_take_of_lt->Qbk,mem_cons_self->Qbs,findIdx?_eq_some_iff_getElem->Qby,map_take->Qbz,getElem?_set_self->Qcf,lookup->Qcl,take_append_drop->Qcu,getElem?_zipWith->Qcv,mem_iff_getElem?->Qcw,length_drop->Qcy,mem_of_mem_drop->Qdf,length_take_le'->Qdg,find?_cons->Qds,length_nil->Qdt,set_cons_succ->Qeb,zipWith->Qee,map_set->Qef,nodup_nil->Qeo,findIdx?_eq_none_iff->Qer,getElem?_cons_zero->Qfl,map_drop->Qfm,cons_append->Qft,nodup_range->Qfu,drop_of_length_le->Qfz,of_mem_zip->Qgd,getD->Qgh,getElem?_set_ne->Qhc,getElem?_mapIdx->Qhm,forIn_nil->Qho,toList_toArray->Qht,length_pos_iff->Qhv,mem_filterMap->Qic,all_cons->Qid,getElem?_drop->Qik,foldl_append->Qiw,zipIdx_cons->Qjm,mem_filter->Qjx,length->Qjz,zipIdx_nil->Qkc,forIn_cons->Qkd,range_succ->Qkg,map->Qle,set_set->Qli,toArray->Qlj
open PySem.W renaming Frag->Qd,findIn->Zr,mg_none_of->Z2,nsIn->Yh,keepIn->Yw,emptyDict->Y9,fnOf->Va,instObj->V7,kia_one->Jp,isFn->Jv,mg_of->J6,codeIn->J9,plainGet->Qbe,cellsFrom_some->Qcg,hasDictIn->Qck,plainGet_of->Qdn,makesIn->Qdo,callWith_K->Qea,lookIn->Qem,methodObj->Qex,plainOver->Qey,takerIn->Qgb,methodCall_KW->Qgc,OpenLaw->Qgj,kitOne->Qhn,handedIn->Qjj,WalkO->Qla
open PySem.Challenge renaming pw_dullglass_k37_whole_alike_just_where_the->Qe,rw_dullglass_k37_whole_alike_just_where_the->Vp
open PySem renaming PyData->Qh,wpAny_bind->Qi,Shared->Ql,starEach->Qw,wpAny_pure->Q4,sizeLine->Q6,mainGlobals->Zc,Program->Zj,bootBuiltins->Zv,Around->Z4,wpAny_loadPart'->Z8,foldedSetIterable->Yg,sizeLine_eq->Yr,intBits_le_of_natAbs->Y0,compareOp->Vc,wpAny_callSpecial?_slot->Vf,backTo->Vl,wpAny_call_entry->Vm,mem_of_lookup->Vn,wpAny_field->Vq,attributeBase->Vt,wpAny_mono->Vy,wpAny_typeNameOfWhole_valiter->V0,cellsFrom->V1,FuncData->V4,wpAny_truthy_bool->V6,binaryOp->Je,swapsWith->Jf,wpAny_setField_rec->Jg,keywordEach->Jh,wpAny_seqItems->Ji,wpAny_newObj_type->Jt,wpAny_passesOwn->Ju,assignEach->Qab,recursionLimit->Qac,sysModules->Qad,wpAny_Call_Name_kw->Qai,wpAny_isOneOf_valiter->Qan,NameKind->Qax,Keyword->Qaz,IsPair->Qbd,Params->Qbo,behindInMarks->Qca,codeAmong->Qcb,letOwnedTupleGo->Qcc,wpAny_holding->Qcd,sliceBounds->Qcq,wpAny_dictEntries->Qcr,wpAny_pyIter_list->Qcs,backToKw->Qct,codeAny->Qdc,holding->Qdd,wpAny_updateSeq_pair->Qdh,wpAny_attempt->Qdk,builtinsNs->Qdl,wpAny_rule->Qdm,DictEntry->Qdv,wpAny_execs_nil->Qdw,codeAny_mono->Qej,rawInt->Qek,wpAny_pyIter_tuple->Qel,intBits_mul_le->Qes,notedBy->Qet,wpAny_setField->Qeu,Spec->Qev,call_meets->Qfe,pushCells->Qfg,swappedStores->Qfp,swapsWithSole->Qfq,wpAny_onRaise->Qfr,wpAny_standAt->Qfs,Arguments->Qgq,assign->Qgs,pushCells_keeps->Qgu,pyNext->Qgv,standAt->Qgw,treeTable->Qgx,tupleKind->Qgy,wpAny_dictEpoch->Qgz,wpAny_notOrdered_dict->Qha,bindArgs->Qhb,dictSetDefault->Qhp,newFunctionEnv->Qhq,callerA->Qhw,wpAny_letGo->Qhx,TriplesOk->Qim,assignInOrder->Qin,comprehension->Qio,getMethod->Qip,list_append->Qir,BindsTo->Qiy,Within->Qiz,concat_meets->Qjh,seqIndex_neg->Qji,ZipApart->Qju,Str->Qjv,PassesOwn->Qkm,relabel->Qkn,seqIndex_of->Qko,wpAny_BinOp->Qkp,call->Qku,Fin->Qlk
open PySem.Heap renaming get?_push_of_some->Qj,lt_size->Qx,get?_push_size->Qz,size_push->Yo,SameBut->Vh,get?_update_other->Qae,get?_update_self->Qak,ExtBut->Qkb
open Option.some renaming inj->Qp,injEq->Qiu
open PySem.Str renaming ofString->Qq
open Nat renaming le_refl->Qr,ne_of_lt->Q9,le_trans->Zk,lt_of_lt_of_le->Zw,zero_le->Yc,ne_of_gt->Yu,lt_trans->Yv,mul_le_mul->Yx,le_of_lt->Y8,min_eq_left->Ja,not_lt->Jq,lt_irrefl->Jy,gcd->Qaf,le_of_dvd->Qau,lt_trichotomy->Qav,eq_of_mul_eq_mul_left->Qbb,lt_succ_self->Qbf,zero_add->Qbl,mul_comm->Qbn,eq_zero_or_pos->Qbx,lt_succ_of_lt->Qcm,le_add_right->Qcz,min_eq_right->Qda,mul_le_mul_right->Qde,le_of_eq->Qdz,succ_mul->Qed,le_succ->Qfh,div_eq_of_lt->Qfw,add_sub_add_right->Qge,mul_zero->Qgm,not_succ_le_self->Qhg,add_mul_div_left->Qhk,pow_le_pow_right->Qhl,gcd_zero_right->Qih,lt_or_gt_of_ne->Qii,gcd_comm->Qjd,pow_succ->Qje,one_mul->Qkf,mul_one->Qki,dvd_trans->Qlb
open PySem.PyData renaming int->Q3,eqv->Y3,eqvAll->V3,canLayAll0->Jo,canLay0->Qaa,tuple->Qeg,depthAll->Qgn,depth->Qgo,list->Qlp
open False renaming elim->Zd
open Int renaming eq_of_mul_eq_mul_left->Zi,mul_nonneg->Zn,eq_ofNat_of_zero_le->Zt,mul_comm->Zu,mul_ediv_cancel'->Yb,toNat_natCast->Yd,eq_of_mul_eq_mul_right->Yi,le_refl->Yk,mul_pos->Yl,gcd->Yq,mul_zero->Y2,natAbs_dvd_natAbs->Vb,zero_mul->Vj,zero_add->Vk,dvd_trans->Vs,le_of_lt->Vu,mul_ediv_cancel_left->Vx,toNat_of_nonneg->V9,mul_nonneg_of_nonpos_of_nonpos->Jb,mul_le_mul_of_nonneg_right->Jx,natCast_dvd_natCast->J5,emod_lt_of_pos->Qah,natCast_mul->Qal,mul_eq_zero->Qam,mul_assoc->Qat,lt_of_mul_lt_mul_left->Qbc,lt_or_le->Qbm,mul_nonpos_of_nonneg_of_nonpos->Qbp,emod_nonneg->Qbw,mul_one->Qcj,mul_add->Qco,mul_le_mul_of_nonneg_left->Qdb,gcd_pos_of_ne_zero_right->Qdj,mul_lt_mul_of_pos_right->Qdu,mul_lt_mul_of_pos_left->Qdy,natAbs_mul->Qep,le_of_mul_le_mul_left->Qeq,mul_ediv_mul_of_pos->Qfn,natCast_ediv->Qfx,ediv_nonneg->Qgk,mul_dvd_mul->Qgl,ediv_mul_cancel->Qhu,ofNat_dvd_left->Qij,lt_or_eq_of_le->Qil,gcd_dvd_right->Qiv,dvd_mul_right->Qix,dvd_refl->Qjf,le_trans->Qjg,natCast_emod->Qjp,gcd_dvd_left->Qjq,gcd_mul_left->Qjr,dvd_mul_left->Qjs,ediv_le_self->Qjt,toNat->Qke,mul_neg->Qkh,add_mul->Qkk,mul_le_mul->Qks,le_of_dvd->Qlc
open Bool renaming false_ne_true->Zo,and_eq_true->Ym,and_eq_true_iff->Vg,false_eq_true->Qec,or_eq_false_iff->Qhh,and_false->Qkq,false_or->Qky
open PySem.Builtin.SmallTypes renaming nextOf->Zs,ownedTupleIsFree->Z3,ownedTupleHandOut->V5
open Ne renaming symm->Z0
open Or renaming inr->Z6,inl->Yy
open Array renaming length_toList->Yj,getElem?_eq_getElem->Vr,getElem?_toList->Vv,mk->Qaw,getElem?_eq_none->Qci,toList_append->Qhr,toList_inj->Qjo,getD->Qkv,toList->Qlg
open Classical renaming byContradiction->Yp
open PySem.Obj renaming mapSeq->Ys,data_mapFields->Qbu,isFreed_of_fields->Qgf,data_mapDictKeys->Qhj,cls_mapFields->Qis,mapFields->Qkz
open PySem.Value renaming ref->Yt,none->Y7,int->Qew,str->Qjw,bool->Qkt,isStrOf->Qkw,isInt->Qll,bytes->Qlm,float->Qln
open PySem.F renaming slot_dict_valueiterator_next->Y1,slot_tuple_iterator_next->Jc,plainAttrs_list->J0,args_dict_valueiterator_next_1->Qce,entry_dict_valueiterator_next->Qcn,args_tuple_iterator_next_1->Qdi,entry_tuple_iterator_next->Qdq,slot_zip_next->Qdr,args_tuple_add_2->Qfa,slot_list_append->Qfb,slot_list_extend->Qfc,type_list_extend->Qfd,entry_tuple_add->Qfi,slot_dict_values_iter->Qfj,plainAttrs_dict->Qfk,slot_tuple_add->Qfy,args_list_extend_2->Qhf,entry_list_extend->Qhs,slot_list_extend->Qie,args_zip_next_1->Qit,entry_zip_next->Qjn
open PySem.W.Fast renaming te14364793385576792824->Y6,te5923862056798008813->Qbq
open PySem.Heap.SameBut renaming update->Vo
open PySem.Builtin.List renaming listTooLong->Vw
open PyProof.Rows renaming callWith_type1->V8,seqObj->J8,envOfC->Qcx,assignInOrder_cons->Qei,kindOf->Qff,listUpdate_at->Qfo,subscriptTail_builtinR->Qga,AllBare->Qgp,IntsAre->Qgr,get?_update_seq->Qgt
open PySem.SeqAt renaming shaped->Jd
open Option renaming isSome_iff_exists->Jm,toList_some->Qeh,isNone_iff_eq_none->Qen,getD_some->Qfv,isSome_some->Qig,getD_none->Qjk,none->Qka,map_some->Qkj
open PySem.IntMulOk renaming of_right->Js,of_left->J7
open PySem.NameKind renaming cell->J3,free->Qif
open PySem.Builtin.Dict_items renaming ownsTuple->Qag,newIterator->Qjc,dictOf->Qkr
open True renaming intro->Qao
open PySem.Builtin.Int renaming intBits->Qbj
open Sum renaming inl->Qbr,inr->Qiq
open PySem.Calls renaming spliced_cons->Qbt,callWith_builtin->Qch,Name_function_global->Qdx,spliced_nil->Qez,evalArgs_plain->Qhe
open PySem.W.KasT renaming kasWp_bind->Qbv
open PySem.W.SharedT renaming mk->Qcp
open PySem.PassesOwn renaming never->Qdp
open Nat.succ renaming inj->Qgg
open PySem.Builtin.Dict renaming showsAll->Qgi
open PySem.Around renaming frames_deeper->Qhd,under_plainId->Qhi,under->Qja
open PySem.SeqAt.EqAt renaming int_str->Qhy,str_int->Qhz
open PySem.Paired renaming length->Qia
open PySem.Data renaming cell->Qib,fields->Qjy,seq->Qls
open PySem.Code renaming isFrame->Qjb
open PySem.IsL renaming update->Qjl
open PySem.Shared renaming mk->Qkl,heap->Qlo
open PySem.Builtin.Range renaming rangeSize->Qkx
open Prod.mk renaming injEq->Qld
open Function renaming comp->Qlf
open PyProof.Rows.IsTup renaming new->Qlh
open PySem.W.Looks renaming here->Qlq
open PySem.Heap.IsSliceOf renaming new->Qlr
open PySem.W.WShape renaming has->Qlt
open List.Pairwise renaming nil->Qlu
abbrev Nd0 (x:Qjv):Prop:=(x==("__debug__":Qjv))=false
abbrev Nd1 (x:Qjv):Prop:=(x==("__classdict__":Qjv))=false
namespace L2
open PySem PySem.Spec PyProof.Rows
section
abbrev Key:=Sum Int Str
def qvz:Key->Value->Bool
 | .inl k,v=>Qll k v
 | .inr x,v=>Qkw x v
def keyH (w:World):Key->Int
 | .inl k=>hashInt k
 | .inr x=>hashStr w x
def qax : ∀ {k:Key}{v:Value},qvz k v=true->(∃ i t,k=Qbr i/\v=Qew i t)\/(∃ x t,k=Qiq x/\v=Qjw x t)
 | .inl i,v,h=>by
  obtain ⟨t,e⟩:=Value.isInt_shape (k:=i) (v:=v) h;exact .inl ⟨i,t,rfl,e⟩
 | .inr x,v,h=>by
  obtain ⟨t,e⟩:=Value.isStrOf_shape (x:=x) (v:=v) h;exact .inr ⟨x,t,rfl,e⟩
def zael (i:Int) (t:Tok):qvz (.inl i) (.int i t)=true:=by simp [qvz,Qll]
def zaeb (x:Str) (t:Tok):qvz (.inr x) (.str x t)=true:=by simp [qvz,Qkw]
def zarc (a b:Int):decide ((Qbr a:Key)=Qbr b)=(a==b):=by
 by_cases e:a=b
 ·subst e;simp
 ·have h : ¬ (Qbr a:Key)=Qbr b:=fun q=>e (Qbr.inj q);rw [decide_eq_false h];exact (beq_eq_false_iff_ne.mpr e).symm
def zaqe (a b:Str):decide ((Qiq a:Key)=Qiq b)=decide (a=b):=by
 by_cases e:a=b
 ·subst e;simp
 ·have h : ¬ (Qiq a:Key)=Qiq b:=fun q=>e (Qiq.inj q);rw [decide_eq_false h,decide_eq_false e]
def zaqm (a:Int) (b:Str):decide ((Qbr a:Key)=Qiq b)=false:=decide_eq_false (fun q=>nomatch q)
def zapc (a:Str) (b:Int):decide ((Qiq a:Key)=Qbr b)=false:=decide_eq_false (fun q=>nomatch q)
def qcg (prog:Zj) (w:World):PySem.KeyKind prog w Key where
 is:=qvz
 hash:=keyH w
 inj:=fun v a b ha hb=>by
  rcases qax ha with ⟨i,t,rfl,rfl⟩|⟨x,t,rfl,rfl⟩
  ·rcases qax hb with ⟨j,u,rfl,e⟩|⟨y,u,rfl,e⟩
   ·injection e with e1 _;rw [e1]
   ·exact nomatch e
  ·rcases qax hb with ⟨j,u,rfl,e⟩|⟨y,u,rfl,e⟩
   ·exact nomatch e
   ·injection e with e1 _;rw [e1]
 byValue:=fun k v h=>by
  rcases qax h with ⟨i,t,rfl,rfl⟩|⟨x,t,rfl,rfl⟩ <;> rfl
 pyHash:=fun hv h=>by
  rcases qax hv with ⟨i,t,rfl,rfl⟩|⟨x,t,rfl,rfl⟩
  ·exact wpAny_pyHash_int h
  ·exact wpAny_pyHash_str h
 eqBool:=fun hu hv h=>by
  rcases qax hu with ⟨i,t,rfl,rfl⟩|⟨x,t,rfl,rfl⟩
  ·rcases qax hv with ⟨j,u,rfl,rfl⟩|⟨y,u,rfl,rfl⟩
   ·rw [zarc] at h;exact wpAny_eqBool_int h
   ·rw [zaqm] at h;exact Qhy i t y u _ _ _ _ h
  ·rcases qax hv with ⟨j,u,rfl,rfl⟩|⟨y,u,rfl,rfl⟩
   ·rw [zapc] at h;exact Qhz x t j u _ _ _ _ h
   ·rw [zaqe] at h;exact wpAny_eqBool_str h
 «strs»:=fun k x t v h=>by
  rcases qax h with ⟨i,u,rfl,e⟩|⟨y,u,rfl,e⟩
  ·exact nomatch e
  ·injection e with e1 _;subst e1;cases v <;> rfl
def qwr (prog:Zj) (w:World) (i:Int) (t:Tok):(qcg prog w).is (.inl i) (.int i t)=true:=zael i t
def qwj (prog:Zj) (w:World) (x:Str) (t:Tok):(qcg prog w).is (.inr x) (.str x t)=true:=zaeb x t
end
section
inductive V where
 | non|bl (b:Bool)|int (i:Int)|str (x:Str)|byt (b:Array UInt8)|flt (b:UInt64)|ref (a:Addr)|ty (n:String)
 deriving DecidableEq
def RelV:V->Value->Prop
 | .non,u=>u=Y7
 | .bl b,u=>u=Qkt b
 | .int i,u => ∃ t,u=Qew i t
 | .str x,u => ∃ t,u=Qjw x t
 | .byt b,u => ∃ t,u=Qlm b t
 | .flt b,u => ∃ t,u=Qln b t
 | .ref a,u=>u=Yt a
 | .ty n,u=>u=Value.type n
abbrev Vals:List V->List Value->Prop:=Paired RelV
def Vals.length {xs:List V}{us:List Value} (r:Vals xs us):xs.length=us.length:=Qia r
def Vals.get : ∀ {xs:List V}{us:List Value}{i:Nat}{x:V},Vals xs us->xs[i]?=some x -> ∃ u,us[i]?=some u/\RelV x u
 | _,_,_,_,.nil,e=>by simp at e
 | _,_,0,_,.cons r _,e=>by simp at e;subst e;exact ⟨_,rfl,r⟩
 | _,_,i+1,x,.cons _ t,e=>by
  obtain ⟨u,h1,h2⟩:=Vals.get (i:=i) (x:=x) t (by simpa using e);exact ⟨u,by simpa using h1,h2⟩
def Vals.set {x:V}{u:Value} (r:RelV x u) : ∀ {xs:List V}{us:List Value} (i:Nat),Vals xs us->Vals (xs.set i x) (us.set i u)
 | _,_,_,.nil => .nil
 | _,_,0,.cons _ t => .cons r t
 | _,_,i+1,.cons q t => .cons q (Vals.set r i t)
def Vals.append : ∀ {xs ys:List V}{us ws:List Value},Vals xs us->Vals ys ws->Vals (xs++ys) (us++ws)
 | _,_,_,_,.nil,s=>s
 | _,_,_,_,.cons r t,s => .cons r (Vals.append t s)
def Vals.take : ∀ {xs:List V}{us:List Value} (n:Nat),Vals xs us->Vals (xs.take n) (us.take n)
 | _,_,0,_ => .nil
 | _,_,_+1,.nil => .nil
 | _,_,n+1,.cons r t => .cons r (Vals.take n t)
def Vals.drop : ∀ {xs:List V}{us:List Value} (n:Nat),Vals xs us->Vals (xs.drop n) (us.drop n)
 | _,_,0,r=>r
 | _,_,_+1,.nil => .nil
 | _,_,n+1,.cons _ t=>Vals.drop n t
def RelO:Option V->Option Value->Prop
 | some v,some u=>RelV v u
 | none,none=>True
 | _,_=>False
def KV {κ:Type}:List (κ×V)->List (κ×Value)->Prop:=Paired fun (p:κ×V) (q:κ×Value)=>p.1=q.1/\RelV p.2 q.2
def kV:Key->V
 | .inl i => .int i
 | .inr x => .str x
inductive HO where
 | lst (xs:List V)
 | tup (xs:List V)
 | dK (kvs:List (Key×V))|dT (kvs:List (List Key×V))
 | set (S:Int->Bool) (n:Nat)
 | ins (C dx:Addr) (fs:List (Str×V))
 | own (x:Addr)
 | xd (fs:List (Str×V))
 | met (f x:Addr)
 | rng (lo hi:Int)
 | frz (o:Obj) (u:HO)
 | tbl (ps:Array Value)
 | ext (φ:Heap->Prop)
abbrev Hp:=Addr->Option HO
def upd (H:Hp) (a:Addr) (o:HO):Hp:=fun b=>if b=a then some o else H b
def ql {H:Hp}{a:Addr}{o:HO}:upd H a o a=some o:=by unfold upd;rw [if_pos rfl]
def qi {H:Hp}{a b:Addr}{o:HO} (h:b≠a):upd H a o b=H b:=by unfold upd;rw [if_neg h]
def zabf {H:Hp}{a:Addr}{o u:HO}:upd (upd H a o) a u=upd H a u:=by
 funext b;unfold upd;split <;> rfl
def zash {H:Hp}{a b:Addr}{o u:HO} (h:H a=some o) (h':H b=some u) (d:o≠u):a≠b:=by
 intro e;subst e;rw [h] at h';exact d (Qp h')
def qm {H:Hp}{a b:Addr}{o:HO} (h:H a=some o) (h':H b=none):a≠b:=by
 intro e;subst e;rw [h] at h';cases h'
section
variable (P:Zj) (w:World)
def ObjOk (H:Hp) (h:Heap) (a:Addr):HO->Prop
 | .lst xs=>xs.length<=Q6 /\ ∃ (its:List Value) (n:Nat),Vals xs its/\h.get? a=some { cls :=.type "list",data :=.seq its.toArray n }
 | .tup xs=>xs.length<=Q6 /\ ∃ its:List Value,Vals xs its/\IsTup h a its.toArray
 | .dK kvs=>kvs.length<=Q6/\(a==Qad)=false /\ ∃ vs,KV kvs vs/\h.DictOf (qcg P w) a vs
 | .dT kvs=>kvs.length<=Q6/\(a==Qad)=false /\ ∃ xs:List (List Key×Addr×Value),
  Paired (fun (p:List Key×V) (q:List Key×Addr×Value)=>p.1=q.1/\H q.2.1=some (.tup (p.1.map kV))/\RelV p.2 q.2.2) kvs xs /\
  ∃ o es ep,h.get? a=some o/\o.ExactDict/\o.data = .dict es ep/\es.toList=xs.map (entryOfKey (Qgy (qcg P w)))/\(xs.map (·.1)).Nodup
 | .set S n=>h.SetOf (intKind P w) a S n
 | .ins C dx fs=>H dx=some (.own a)/\fs.length<=1000/\dx≠a/\h.get? a=some (V7 C dx) /\
  ∃ mA,h.Ns1 dx mA/\(∀ f,RelO (fs.lookup f) (mA f))/\Qiz mA (fs.map (·.1))
 | .own _ => ∃ o,h.get? a=some o
 | .xd fs => ∃ mA,h.Ns1 a mA /\ ∀ f,RelO (fs.lookup f) (mA f)
 | .rng lo hi => ∃ t u v,h.get? a=some { cls :=.type "range",data :=.fields #[.int lo t,.int hi u,.int 1 v] }
 | .frz o u=>h.get? a=some o/\ObjOk H h a u
 | .tbl ps=>h.get? a=some { cls :=.none,data :=.fields ps }
 | .met f x=>h.get? a=some (Qex (.ref f) (.ref x))
 | .ext φ=>φ h/\(∃ o,h.get? a=some o) /\ ∀ h1 h2:Heap,φ h1->(∀ o,h1.get? a=some o->h2.get? a=some o)->φ h2
def HOk (H:Hp) (h:Heap):Prop := ∀ a o,H a=some o->ObjOk P w H h a o
end
section
variable {P:Zj}{w:World}{H H':Hp}{h h':Heap}{a:Addr}{o:HO}
def ObjOk.lt (x:ObjOk P w H h a o):a<h.objs.size:=by
 cases o with
 | lst xs=>obtain ⟨_,_,_,_,e⟩:=x;exact Qx e
 | tup xs=>obtain ⟨_,_,_,p⟩:=x;exact p.lt
 | dK kvs=>obtain ⟨_,_,_,_,o,_,_,e,_⟩:=x;exact Qx e
 | dT kvs=>obtain ⟨_,_,_,_,o,_,_,e,_⟩:=x;exact Qx e
 | set S n=>obtain ⟨o,_,_,_,e,_⟩:=x;exact Qx e
 | ins C dx fs=>obtain ⟨_,_,_,e,_⟩:=x;exact Qx e
 | own y=>obtain ⟨_,e⟩:=x;exact Qx e
 | xd fs=>obtain ⟨_,⟨_,_,_,e,_⟩,_⟩:=x;exact Qx e
 | rng lo hi=>obtain ⟨_,_,_,e⟩:=x;exact Qx e
 | frz ob u=>obtain ⟨e,_⟩:=x;exact Qx e
 | tbl ps=>exact Qx (show h.get? a=some _ from x)
 | met f y=>exact Qx (show h.get? a=some _ from x)
 | ext φ=>obtain ⟨_,⟨_,e⟩,_⟩:=x;exact Qx e
def Paired.mapP {α β:Type}{F G:α->β->Prop} : ∀ {l₁:List α}{l₂:List β},Paired F l₁ l₂->(∀ a b,F a b->G a b)->Paired G l₁ l₂
 | _,_,.nil,_ => .nil
 | _,_,.cons r t,f => .cons (f _ _ r) (Paired.mapP t f)
def ObjOk.stay (x:ObjOk P w H h a o) (k : ∀ b u,(b=a\/H b=some (.own a))->h.get? b=some u->h'.get? b=some u)
 (ho : ∀ b,H b=some (.own a)->H' b=some (.own a)) (ht : ∀ b xs,H b=some (.tup xs)->H' b=some (.tup xs)):ObjOk P w H' h' a o:=by
  induction o with
  | lst xs=>obtain ⟨z,its,n,r,e⟩:=x;exact ⟨z,its,n,r,k _ _ (.inl rfl) e⟩
  | tup xs=>obtain ⟨z,its,r,ob,e,c⟩:=x;exact ⟨z,its,r,ob,k _ _ (.inl rfl) e,c⟩
  | dK kvs=>obtain ⟨z,y,vs,r,ob,es,ep,e,c⟩:=x;exact ⟨z,y,vs,r,ob,es,ep,k _ _ (.inl rfl) e,c⟩
  | dT kvs =>
   obtain ⟨z,y,xs,r,ob,es,ep,e,c⟩:=x;exact ⟨z,y,xs,Paired.mapP r fun p q z=>⟨z.1,ht _ _ z.2.1,z.2.2⟩,ob,es,ep,k _ _ (.inl rfl) e,c⟩
  | set S n=>obtain ⟨ob,es,ep,t,e,c⟩:=x;exact ⟨ob,es,ep,t,k _ _ (.inl rfl) e,c⟩
  | ins C dx fs =>
   obtain ⟨d,z,ne,e,mA,⟨od,es,ep,e2,c⟩,r⟩:=x;exact ⟨ho _ d,z,ne,k _ _ (.inl rfl) e,mA,⟨od,es,ep,k _ _ (.inr d) e2,c⟩,r⟩
  | own y=>obtain ⟨ob,e⟩:=x;exact ⟨ob,k _ _ (.inl rfl) e⟩
  | xd fs=>obtain ⟨mA,⟨od,es,ep,e,c⟩,r⟩:=x;exact ⟨mA,⟨od,es,ep,k _ _ (.inl rfl) e,c⟩,r⟩
  | rng lo hi=>obtain ⟨t,u,v,e⟩:=x;exact ⟨t,u,v,k _ _ (.inl rfl) e⟩
  | frz ob u ih=>obtain ⟨e,q⟩:=x;exact ⟨k _ _ (.inl rfl) e,ih q⟩
  | tbl ps =>
   have e:h.get? a=some { cls :=.none,data :=.fields ps }:=x;show h'.get? a=some { cls :=.none,data :=.fields ps };exact k a _ (.inl rfl) e
  | met f y =>
   have e:h.get? a=some (Qex (.ref f) (.ref y)):=x;show h'.get? a=some (Qex (.ref f) (.ref y));exact k a _ (.inl rfl) e
  | ext φ=>obtain ⟨p,⟨o,e⟩,st⟩:=x;exact ⟨st _ _ p fun o q=>k _ _ (.inl rfl) q,⟨o,k _ _ (.inl rfl) e⟩,st⟩
def HOk.lt (x:HOk P w H h) (e:H a=some o):a<h.objs.size:=(x a o e).lt
def HOk.fresh (x:HOk P w H h) (e:h.objs.size<=a):H a=none:=by
 cases q:H a with
 | none=>rfl
 | some u=>exact absurd (Zw (x.lt q) e) (Jy _)
def HOk.kept (x:HOk P w H h) (k : ∀ b u,h.get? b=some u->h'.get? b=some u):HOk P w H h':=fun a o e =>
 (x a o e).stay (fun b u _ q=>k b u q) (fun _ q=>q) fun _ _ q=>q
def HOk.laid (x:HOk P w H h) (k : ∀ b u,h.get? b=some u->h'.get? b=some u) (hp:h.objs.size<=a) (new:ObjOk P w (upd H a o) h' a o):HOk P w (upd H a o) h':=fun b u e=>by
 have hn:=x.fresh hp;by_cases hb:b=a
 ·subst hb;rw [ql] at e;cases e;exact new
 ·rw [qi hb] at e;exact (x b u e).stay (fun c v _ q=>k c v q) (fun c q=>by rw [qi (qm q hn)];exact q) fun c xs q=>by rw [qi (qm q hn)];exact q
end
def Rd (H:Hp) (a:Addr) (u:HO):Prop:=H a=some u \/ ∃ o,H a=some (.frz o u)
def Rd.ok {P:Zj}{w:World}{H:Hp}{h:Heap}{a:Addr}{u:HO} (r:Rd H a u) (x:HOk P w H h):ObjOk P w H h a u:=by
 rcases r with r|⟨o,r⟩
 ·exact x a u r
 ·obtain ⟨_,q⟩:=x a _ r;exact q
def Mut:Option HO->Prop
 | some (.lst _)=>True
 | some (.dK _)=>True
 | some (.dT _)=>True
 | some (.set _ _)=>True
 | some (.ins _ _ _)=>True
 | some (.ext _)=>True
 | _=>False
section
variable {P:Zj}{w:World}{H:Hp}{h h':Heap}{x e:Addr}{o':HO}
def HOk.write (ok:HOk P w H h) (mu:Mut (H x)) (he:e=x\/H e=some (.own x)) (k : ∀ b u,b≠e->h.get? b=some u->h'.get? b=some u) (heo : ∃ u,h'.get? e=some u)
 (new:ObjOk P w (upd H x o') h' x o'):HOk P w (upd H x o') h':=fun b u q=>by
  have nown : ∀ c y,H c=some (.own y)->c≠x:=fun c y r z=>by subst z;rw [r] at mu;exact mu
  have ntup : ∀ c xs,H c=some (.tup xs)->c≠x:=fun c xs r z=>by subst z;rw [r] at mu;exact mu
  by_cases hb:b=x
  ·subst hb;rw [ql] at q;cases q;exact new
  ·rw [qi hb] at q;by_cases hbe:b=e
   ·have q':H b=some (.own x):=by
     rcases he with z|z
     ·exact absurd (hbe.trans z) hb
     ·rw [hbe];exact z
    rw [q] at q';cases q';obtain ⟨v,hv⟩:=heo;exact ⟨v,by rw [hbe];exact hv⟩
   ·refine (ok b u q).stay (fun c v hc r=>k c v ?_ r) (fun c r=>by rw [qi (nown c b r)];exact r) fun c xs r=>by rw [qi (ntup c xs r)];exact r
    rcases hc with rfl|hc
    ·exact hbe
    ·rintro rfl;rcases he with z|z
     ·exact nown c b hc z
     ·rw [hc] at z;cases z;exact hb rfl
end
def zatm (o:Obj):Prop := ∃ vs q t,o.data = .fields vs/\vs[1]?=some (.str q t)
structure GoodT (H:Hp) (ps:Array Value):Prop where
 tr:Qim ps.toList
 co : ∀ (pos:Pos) (v:Value),Qcb pos ps.toList=some v -> ∃ c o u,v = .ref c/\H c=some (.frz o u)/\zatm o
def GoodT.nil {H:Hp}:GoodT H #[]:=⟨trivial,fun pos v h=>by simp [Qcb] at h⟩
def GoodT.mono {H H':Hp}{ps:Array Value} (g:GoodT H ps) (f : ∀ b o u,H b=some (.frz o u)->H' b=some (.frz o u)):GoodT H' ps:=⟨g.tr,fun pos v h=>by
 obtain ⟨c,o,u,z,e,k⟩:=g.co pos v h;exact ⟨c,o,u,z,f _ _ _ e,k⟩⟩
def qnq : ∀ {a b:List Value},Qim a->Qim b->Qim (a++b)
 | [],_,_,h=>h
 | .int _ _ :: .int _ _::_::r,_,g,h=>qnq (a:=r) g h
def qts {pos:Pos}{v:Value} : ∀ {a b:List Value},Qim a->Qcb pos (a++b)=some v->Qcb pos a=some v\/Qcb pos b=some v
 | [],_,_,h => .inr h
 | .int i _ :: .int j _::x::r,b,g,h=>by
  have h:(if i==pos.line&&j==pos.col then some x else Qcb pos (r++b))=some v:=h;show (if i==pos.line&&j==pos.col then some x else Qcb pos r)=some v\/_;split at h
  ·left;rw [if_pos (by assumption)];exact h
  ·rw [if_neg (by assumption)];exact qts (a:=r) g h
def GoodT.app {H:Hp}{a b:Array Value} (g:GoodT H a) (k:GoodT H b):GoodT H (a++b):=⟨by rw [Qhr];exact qnq g.tr k.tr,fun pos v h=>by
 rw [Qhr] at h;rcases qts g.tr h with h|h
 ·exact g.co pos v h
 ·exact k.co pos v h⟩
structure Un (fs ex:List Addr) (H H':Hp) (h h':Heap):Prop where
 keep : ∀ b o,h.get? b=some o->H b=none->b ∉ fs->b ∉ ex->h'.get? b=some o
 slot : ∀ b o,h.get? b=some o->H b=none->b ∈ fs->b ∉ ex -> ∃ sl,h'.get? b=some { o with slots:=sl }
 free : ∀ b o,h.get? b=some o->H b=none->b ∉ ex->H' b=none
 there : ∀ b o,h.get? b=some o->b ∉ ex -> ∃ o',h'.get? b=some o'
 tups : ∀ b xs,H b=some (.tup xs)->H' b=some (.tup xs)
 frzs : ∀ b o u,H b=some (.frz o u)->H' b=some (.frz o u)
 tbls : ∀ b ps,H b=some (.tbl ps) -> ∃ more,H' b=some (.tbl (ps++more))/\GoodT H' more
section
variable {fs fs' ex ex':List Addr}{H H1 H2:Hp}{h h1 h2 h':Heap}{a x e:Addr}{o:HO}
def Un.any (u:Un fs ex H H1 h h1) {b:Addr}{ob:Obj} (q:h.get? b=some ob) (n:H b=none) (hx:b ∉ ex) : ∃ sl,h1.get? b=some { ob with slots:=sl }:=by
 by_cases hb:b ∈ fs
 ·exact u.slot b ob q n hb hx
 ·exact ⟨ob.slots,u.keep b ob q n hb hx⟩
def Un.kept (k : ∀ b u,h.get? b=some u->h'.get? b=some u):Un fs ex H H h h' :=
 ⟨fun b ob q _ _ _=>k b ob q,fun b ob q _ _ _=>⟨ob.slots,k b ob q⟩,fun _ _ _ n _=>n,fun b ob q _=>⟨ob,k b ob q⟩,fun _ _ q=>q,fun _ _ _ q=>q,fun _ ps q=>⟨#[],by rw [q];simp,.nil⟩⟩
def Un.refl:Un fs ex H H h h:=Un.kept fun _ _ q=>q
def Un.laid (k : ∀ b u,h.get? b=some u->h'.get? b=some u) (hp:h.objs.size<=a) (hn:H a=none):Un fs ex H (upd H a o) h h' where
 keep:=fun b u q _ _ _=>k b u q
 slot:=fun b u q _ _ _=>⟨u.slots,k b u q⟩
 free:=fun b u q n _=>by rw [qi (Q9 (Zw (Qx q) hp))];exact n
 there:=fun b u q _=>⟨u,k b u q⟩
 tups:=fun b xs q=>by rw [qi (qm q hn)];exact q
 frzs:=fun b u xs q=>by rw [qi (qm q hn)];exact q
 tbls:=fun b ps q=>⟨#[],by rw [qi (qm q hn),q];simp,.nil⟩
def Un.write (mu:Mut (H x)) (he:e=x\/H e=some (.own x)) (k : ∀ b u,b≠e->h.get? b=some u->h'.get? b=some u) (heo : ∃ u,h'.get? e=some u):Un fs ex H (upd H x o) h h':=by
 have hx : ∀ b,H b=none->b≠x:=fun b n z=>by subst z;rw [n] at mu;exact mu
 have hb : ∀ b,H b=none->b≠e:=fun b n z=>by
  subst z;rcases he with r|r
  ·exact hx b n r
  ·rw [n] at r;cases r
 have hm : ∀ b u,H b=some u -> ¬ Mut (some u)->b≠x:=fun b u q nm z=>by subst z;rw [q] at mu;exact nm mu
 refine ⟨fun b u q n _ _=>k b u (hb b n) q,fun b u q n _ _=>⟨u.slots,k b u (hb b n) q⟩,fun b u q n _=>by rw [qi (hx b n)];exact n,fun b u q _=>?_,
  fun b xs q=>by rw [qi (hm b _ q fun z=>z)];exact q,fun b u xs q=>by rw [qi (hm b _ q fun z=>z)];exact q,fun b ps q=>⟨#[],by rw [qi (hm b _ q fun z=>z),q];simp,.nil⟩⟩
 by_cases hbe:b=e
 ·subst hbe;exact heo
 ·exact ⟨u,k b u hbe q⟩
end
def trk (h:Heap) (H:Hp):List Addr:=(Q1 h.objs.size).filter fun a=>(H a).isSome
def qzx (h:Heap) (H:Hp):Heap:=PySem.W.hideAll h (trk h H)
def zadr (h:Heap) (H:Hp):(qzx h H).objs.size=h.objs.size:=PySem.W.hideAll_size _ _
def zagr {h:Heap}{H:Hp}{b:Addr}{o:Obj} (e:h.get? b=some o) (n:H b=none):(qzx h H).get? b=some o :=
 PySem.W.hideAll_get _ e fun hm=>by
  have q:(H b).isSome=true:=(Qjx.mp hm).2;rw [n] at q;simp at q
def zamg {h:Heap}{H:Hp}{b:Addr}{o:Obj} (e:(qzx h H).get? b=some o):h.get? b=some o/\H b=none:=by
 have e':h.get? b=some o:=PySem.W.of_hideAll (trk h H) e;refine ⟨e',?_⟩;cases q:H b with
 | none=>rfl
 | some x =>
  have hm:b ∈ trk h H:=Qjx.mpr ⟨Zh.mpr (Qx e'),by simp [q]⟩;have z:(qzx h H).get? b=none:=PySem.W.hideAll_none (trk h H) hm;rw [z] at e;cases e
def zakp (g h:Heap) (L:Addr):List (Addr×Obj):=(Q1 h.objs.size).filterMap fun a=>if a=L\/(g.get? a).isSome=true then none else (h.get? a).map fun o=>(a,o)
def rest (g h:Heap) (L d:Addr):List (Addr×Obj):=(zakp g h L).filter fun p=>decide (p.1≠d)
end
section
structure Mod (K:Qd) (mg:Str->Option Value) (base:Heap):Prop where
 kin:K.In base
 glob:base.Ns Zc mg
 blt : ∃ mb,base.Ns Qdl mb /\ ∀ x:Str,x ≠ "__name__" -> mb x=Zv x
 nolimit:base.NoLimit
structure Cx where
 prog:Zj
 w:World
 K:Qd
 mg:Str->Option Value
 base:Heap
 A:Z4
 N:List Str
 s₀:Ql
 H₀:Hp
 env:Env
 outer:List Env
 stack:List Env
 ex:List Addr
 fn:Str->Bool
 calm:Bool
 pn:List (Addr×Obj)
 xe:Value->Ql->Prop
def frs (l:List Env):List Addr:=l.filterMap (·.frame)
abbrev Cx.fs (X:Cx):List Addr:=frs X.outer
def Vis (sc:Scope) (x:Str):Prop:=sc.names.lookup x=some .local\/sc.names.lookup x=some .cell\/sc.names.lookup x=some .free
def Loc (sc:Scope) (x:Str):Prop:=sc.names.lookup x=some .local\/sc.names.lookup x=some .cell
def Look (env:Env) (h:Heap) (m:Str->Option Value) (x:Str) (u:Value):Prop :=
 (env.kindOf x=some .local/\m x=some u)\/((env.kindOf x=some .cell\/env.kindOf x=some .free) /\ ∃ c,env.cells.lookup x=some c/\h.IsCell c (some u))
structure Cx.Ok (X:Cx):Prop where
 mod:Mod X.K X.mg X.base
 kind:X.env.scope.kind = .function
 glob:X.env.globals=Zc
 blt:X.env.builtins=Qdl
 above:X.s₀.heap.objs.size<=X.env.locals
 inj : ∀ x y c,X.env.cells.lookup x=some c->X.env.cells.lookup y=some c->x=y
 has : ∀ x,(X.env.kindOf x=some .cell\/X.env.kindOf x=some .free) -> ∃ c,X.env.cells.lookup x=some c
 cab : ∀ x c,X.fn x=true->X.env.cells.lookup x=some c->X.s₀.heap.objs.size<=c
 hd:X.calm=true->X.A.handled=none
 frames:X.A.frames=some X.stack
 stk:X.stack=X.outer\/(X.stack=X.env::X.outer/\X.env.frame=some X.env.locals)
 exf : ∀ b ∈ X.ex,b≠X.env.locals /\ ∀ x c,X.env.cells.lookup x=some c->c≠b
 bs : ∀ b o,X.base.get? b=some o->X.s₀.heap.get? b=some o/\X.H₀ b=none
 bsz:X.base.objs.size<=X.s₀.heap.objs.size
 noex : ∀ b o,X.base.get? b=some o->b ∉ X.ex
 exfs : ∀ b ∈ X.ex,b ∉ X.fs
 funs:X.s₀.heap.FunFrames X.base X.outer
 frf : ∀ b ∈ X.fs,X.H₀ b=none
structure Inv (X:Cx) (pins:List (Addr×Obj)) (σ:List (Option V)) (H:Hp) (s:Ql):Prop where
 ok:X.Ok
 os:s.os=X.s₀.os
 bare:Qgp s.gens
 base:Un X.fs X.ex X.H₀ H X.s₀.heap s.heap
 loc : ∃ m,s.heap.Ns X.env.locals m /\ ∀ (i:Nat) (x:Str) (v:V),X.N[i]?=some x->σ[i]?=some (some v)->Vis X.env.scope x -> ∃ u,RelV v u/\Look X.env s.heap m x u
 cell : ∀ x c,X.env.cells.lookup x=some c -> ∃ v,s.heap.IsCell c v
 free:H X.env.locals=none
 freeC : ∀ x c,X.env.cells.lookup x=some c->H c=none
 pin : ∀ p ∈ X.pn++pins,s.heap.get? p.1=some p.2/\H p.1=none/\p.1≠X.env.locals/\p.1 ∉ X.fs /\ ∀ v,p.2.data ≠ .cell v
 hok:HOk X.prog X.w H s.heap
 len:σ.length=X.N.length
section
variable {X:Cx}{pins:List (Addr×Obj)}{σ:List (Option V)}{H H':Hp}{s:Ql}{h':Heap}
def Cx.Ok.nofr (ok:X.Ok) {b:Addr}{o:Obj} (e:X.base.get? b=some o):b ∉ X.fs:=fun hb=>by
 have:=(ok.funs.mem hb).1;rw [e] at this;cases this
def Inv.bs (I:Inv X pins σ H s) : ∀ b o,X.base.get? b=some o->s.heap.get? b=some o/\H b=none:=fun b o e =>
 ⟨I.base.keep b o (I.ok.bs b o e).1 (I.ok.bs b o e).2 (I.ok.nofr e) (I.ok.noex b o e),I.base.free b o (I.ok.bs b o e).1 (I.ok.bs b o e).2 (I.ok.noex b o e)⟩
def Inv.bk (I:Inv X pins σ H s) : ∀ b o,X.base.get? b=some o->s.heap.get? b=some o:=fun b o e=>(I.bs b o e).1
def Inv.mod (I:Inv X pins σ H s):Mod X.K X.mg X.base:=I.ok.mod
def Inv.kIn (I:Inv X pins σ H s):X.K.In s.heap:=I.ok.mod.kin.keeps I.bk
def Inv.lt (I:Inv X pins σ H s):X.env.locals<s.heap.objs.size:=let ⟨_,hn,_⟩:=I.loc;hn.lt
def Inv.sz (I:Inv X pins σ H s):X.s₀.heap.objs.size<=s.heap.objs.size:=Zk I.ok.above (Y8 I.lt)
def Inv.nofs (I:Inv X pins σ H s) {a:Addr} (h:s.heap.objs.size<=a):a ∉ X.fs:=fun hb=>by
 obtain ⟨_,o,ho,_⟩:=I.ok.funs.mem hb;exact absurd (Zw (Qx ho) (Zk I.sz h)) (Jy _)
def Inv.cne (I:Inv X pins σ H s) : ∀ x c,X.env.cells.lookup x=some c->c≠X.env.locals:=fun x c e z=>by
 obtain ⟨v,o,ho,hd⟩:=I.cell x c e;obtain ⟨m,⟨o',es,ep,ho',hd',_⟩,_⟩:=I.loc;rw [z,ho'] at ho;cases ho;rw [hd'] at hd;cases hd
def Inv.funs (I:Inv X pins σ H s):s.heap.FunFrames X.base X.outer:=by
 have all : ∀ (l:List Env),(∀ b ∈ frs l,b ∈ X.fs)->X.s₀.heap.FunFrames X.base l->s.heap.FunFrames X.base l:=by
  intro l
  induction l with
  | nil=>intro _ _;trivial
  | cons env r ih =>
   intro hs hl;obtain ⟨hk,⟨L,o,hf,hn,ho,hd⟩,hr⟩:=hl;have hL:L ∈ X.fs:=hs L (by unfold frs;rw [Qbh,hf];exact Qbs);obtain ⟨sl,e⟩:=I.base.slot L o ho (I.ok.frf L hL) hL fun z=>I.ok.exfs L z hL;exact ⟨hk,⟨L,_,hf,hn,e,hd⟩,ih (fun b hb=>hs b (by unfold frs;rw [Qbh,hf];exact Qu _ hb)) hr⟩
 exact all X.outer (fun _ hb=>hb) I.ok.funs
def Inv.stack (I:Inv X pins σ H s):s.heap.FunFrames X.base X.stack:=by
 rcases I.ok.stk with e|⟨e,hf⟩
 ·rw [e];exact I.funs
 ·rw [e];obtain ⟨m,hn,_⟩:=I.loc;refine .cons (by rw [I.ok.kind];decide) hf hn ?_ I.funs;exact Heap.get?_none_of_le (Zk I.ok.bsz I.ok.above)
def Inv.stkSub (I:Inv X pins σ H s) : ∀ b ∈ frs X.stack,b ∈ X.env.locals::X.fs:=fun b hb=>by
 rcases I.ok.stk with e|⟨e,hf⟩
 ·rw [e] at hb;exact Qu _ hb
 ·rw [e] at hb;unfold frs at hb;rw [Qbh,hf] at hb;exact hb
def Inv.stkFree (I:Inv X pins σ H s) : ∀ b ∈ frs X.stack,H b=none:=fun b hb=>by
 rcases Q5.mp (I.stkSub b hb) with e|hb
 ·rw [e];exact I.free
 ·obtain ⟨_,o,ho,_⟩:=I.ok.funs.mem hb;exact I.base.free b o ho (I.ok.frf b hb) fun z=>I.ok.exfs b z hb
def Inv.step {g':Array GenState}{t':Nat}{d':Drawn}{ch:List Addr} (I:Inv X pins σ H s)
 (hch : ∀ b ∈ ch,(b ∈ X.ex\/X.s₀.heap.objs.size<=b)/\b≠X.env.locals/\(∀ x c,X.env.cells.lookup x=some c->c≠b) /\ ∀ p ∈ X.pn++pins,p.1≠b)
 (keep : ∀ b o,b≠X.env.locals->b ∉ X.fs->b ∉ ch->s.heap.get? b=some o->H b=none->h'.get? b=some o)
 (slot : ∀ b o,b≠X.env.locals->b ∈ X.fs->b ∉ ch->s.heap.get? b=some o->H b=none -> ∃ sl,h'.get? b=some { o with slots:=sl }) (free : ∀ b o,b ∉ ch->s.heap.get? b=some o->H b=none->H' b=none)
  (there : ∀ b o,b ∉ ch->s.heap.get? b=some o -> ∃ o',h'.get? b=some o')
  (tups : ∀ b xs,H b=some (.tup xs)->H' b=some (.tup xs)) (frzs : ∀ b o u,H b=some (.frz o u)->H' b=some (.frz o u)) (tbls : ∀ b ps,H b=some (.tbl ps) -> ∃ more,H' b=some (.tbl (ps++more))/\GoodT H' more)
  (ns : ∀ m,s.heap.Ns X.env.locals m->h'.Ns X.env.locals m) (hok:HOk X.prog X.w H' h') (hg:Qgp g') :
  Inv X pins σ H' { s with heap:=h',gens:=g',drawn:=d',toks:=t' }:=by
  have neL : ∀ b o,X.s₀.heap.get? b=some o->b≠X.env.locals:=fun b o e=>Q9 (Zw (Qx e) I.ok.above);have neC : ∀ b o,X.s₀.heap.get? b=some o->b ∉ X.ex->b ∉ ch:=fun b o e hx hb=>by
   rcases (hch b hb).1 with z|z
   ·exact hx z
   ·exact absurd (Zw (Qx e) z) (Jy _)
  have cellK : ∀ x c,X.env.cells.lookup x=some c -> ∀ v,s.heap.IsCell c v->h'.IsCell c v:=fun x c e v xx1=>by
   obtain ⟨o,ho,hd⟩:=xx1;have nch:c ∉ ch:=fun z=>(hch c z).2.2.1 x c e rfl;by_cases hc:c ∈ X.fs
   ·obtain ⟨sl,q⟩:=slot c o (I.cne x c e) hc nch ho (I.freeC x c e);exact ⟨_,q,hd⟩
   ·exact ⟨o,keep c o (I.cne x c e) hc nch ho (I.freeC x c e),hd⟩
  refine ⟨I.ok,I.os,hg,⟨fun b o e n hb hx=>?_,fun b o e n hb hx=>?_,fun b o e n hx=>?_,fun b o e hx=>?_,fun b xs e=>tups b xs (I.base.tups b xs e),fun b o xs e=>frzs b o xs (I.base.frzs b o xs e),fun b ps e=>?_⟩,?_,fun x c e=>?_,?_,fun x c e=>?_,fun p hp=>?_,hok,I.len⟩
  ·exact keep b o (neL b o e) hb (neC b o e hx) (I.base.keep b o e n hb hx) (I.base.free b o e n hx)
  ·obtain ⟨sl,e1⟩:=I.base.slot b o e n hb hx;obtain ⟨sl',e2⟩:=slot b _ (neL b o e) hb (neC b o e hx) e1 (I.base.free b o e n hx);exact ⟨sl',e2⟩
  ·obtain ⟨o',e1⟩:=I.base.there b o e hx;exact free b o' (neC b o e hx) e1 (I.base.free b o e n hx)
  ·obtain ⟨o',e1⟩:=I.base.there b o e hx;exact there b o' (neC b o e hx) e1
  ·obtain ⟨m1,e1,g1⟩:=I.base.tbls b ps e;obtain ⟨m2,e2,g2⟩:=tbls b _ e1;exact ⟨m1++m2,by rw [e2,Array.append_assoc],(g1.mono frzs).app g2⟩
  ·obtain ⟨m,hn,hl⟩:=I.loc;refine ⟨m,ns m hn,fun i x v e1 e2 e3=>?_⟩;obtain ⟨u,r,l⟩:=hl i x v e1 e2 e3;refine ⟨u,r,?_⟩;rcases l with l|⟨k,c,e,z⟩
   ·exact .inl l
   ·exact .inr ⟨k,c,e,cellK x c e _ z⟩
  ·obtain ⟨v,z⟩:=I.cell x c e;exact ⟨v,cellK x c e v z⟩
  ·obtain ⟨m,⟨o,_,_,ho,_⟩,_⟩:=I.loc;exact free _ o (fun z=>(hch _ z).2.1 rfl) ho I.free
  ·obtain ⟨v,o,ho,hd⟩:=I.cell x c e;exact free c o (fun z=>(hch c z).2.2.1 x c e rfl) ho (I.freeC x c e)
  ·obtain ⟨e,n,ne,nf,d⟩:=I.pin p hp;have nch:p.1 ∉ ch:=fun z=>(hch p.1 z).2.2.2 p hp rfl;exact ⟨keep p.1 p.2 ne nf nch e n,free p.1 p.2 nch e n,ne,nf,d⟩
def Inv.un {t':Nat} (I:Inv X pins σ H s) (u:Un X.fs [] H H' s.heap h') (hok:HOk X.prog X.w H' h'):Inv X pins σ H' { s with heap:=h',toks:=t' }:=by
 obtain ⟨m,⟨o,es,ep,ho,r⟩,_⟩:=id I.loc;obtain ⟨sl,hL⟩:=u.any ho I.free (by simp);exact I.step (g':=s.gens) (d':=s.drawn) (ch:=[]) (fun _ z=>nomatch z) (fun b o _ hb _ e n=>u.keep b o e n hb (by simp)) (fun b o _ hb _ e n=>u.slot b o e n hb (by simp)) (fun b o _ e n=>u.free b o e n (by simp)) (fun b o _ e=>u.there b o e (by simp)) u.tups u.frzs u.tbls (fun m' hm=>by
  obtain ⟨o',es',ep',ho',r'⟩:=hm;rw [ho] at ho';cases ho';exact ⟨_,es',ep',hL,r'⟩) hok I.bare
def Inv.call {g':Array GenState}{t':Nat}{d':Drawn}{ch:List Addr} (I:Inv X pins σ H s) (u:Un (frs X.stack) ch H H' s.heap h') (hok:HOk X.prog X.w H' h') (hg:Qgp g')
 (hch : ∀ b ∈ ch,(b ∈ X.ex\/X.s₀.heap.objs.size<=b)/\b≠X.env.locals/\(∀ x c,X.env.cells.lookup x=some c->c≠b) /\ ∀ p ∈ X.pn++pins,p.1≠b) :
 Inv X pins σ H' { s with heap:=h',gens:=g',drawn:=d',toks:=t' }:=by
  obtain ⟨m,⟨o,es,ep,ho,r⟩,_⟩:=id I.loc;obtain ⟨sl,hL⟩:=u.any ho I.free fun z=>(hch _ z).2.1 rfl;exact I.step (ch:=ch) hch (fun b o hL hb hc e n=>u.keep b o e n (fun z=>(Q5.mp (I.stkSub b z)).elim hL hb) hc) (fun b o _ _ hc e n=>u.any e n hc) (fun b o hc e n=>u.free b o e n hc) (fun b o hc e=>u.there b o e hc) u.tups u.frzs u.tbls (fun m' hm=>by
   obtain ⟨o',es',ep',ho',r'⟩:=hm;rw [ho] at ho';cases ho';exact ⟨_,es',ep',hL,r'⟩) hok hg
def Inv.turned {t':Nat}{it:Addr} (I:Inv X pins σ H s) (k : ∀ b o,b≠it->s.heap.get? b=some o->h'.get? b=some o) (hn:H it=none) (hL:it≠X.env.locals)
 (h1:it ∈ X.ex\/X.s₀.heap.objs.size<=it) (h2 : ∀ x c,X.env.cells.lookup x=some c->c≠it) (h3 : ∀ p ∈ X.pn++pins,p.1≠it):Inv X pins σ H { s with heap:=h',toks:=t' }:=by
  have nit : ∀ b u,H b=some u->b≠it:=fun b u e z=>by rw [z,hn] at e;cases e
  refine I.step (g':=s.gens) (d':=s.drawn) (ch:=[it]) (fun b hb=>?_) (fun b o _ _ hc e _=>k b o (fun z=>hc (by simp [z])) e) (fun b o _ _ hc e _=>⟨o.slots,k b o (fun z=>hc (by simp [z])) e⟩) (fun _ _ _ _ n=>n)
   (fun b o hc e=>⟨o,k b o (fun z=>hc (by simp [z])) e⟩) (fun _ _ e=>e) (fun _ _ _ e=>e) (fun b ps e=>⟨#[],by rw [e];simp,.nil⟩) (fun m hm=>?_) (fun b u e=>?_) I.bare
  ·have e:b=it:=by simpa using hb
   subst e;exact ⟨h1,hL,h2,h3⟩
  ·obtain ⟨o,es,ep,ho,r⟩:=hm;exact ⟨o,es,ep,k _ o (Z0 hL) ho,r⟩
  ·refine (I.hok b u e).stay (fun c v hc q=>k c v ?_ q) (fun _ q=>q) fun _ _ q=>q;rcases hc with z|z
   ·rw [z];exact nit b u e
   ·exact nit c _ z
def Inv.tok (I:Inv X pins σ H s) (t:Nat):Inv X pins σ H { s with toks:=t }:=I.un (h':=s.heap) (t':=t) Un.refl I.hok
def Inv.kept {t':Nat} (I:Inv X pins σ H s) (k : ∀ b u,s.heap.get? b=some u->h'.get? b=some u):Inv X pins σ H { s with heap:=h',toks:=t' }:=I.un (Un.kept k) (I.hok.kept k)
def Inv.laid {a:Addr}{o:HO}{t':Nat} (I:Inv X pins σ H s) (k : ∀ b u,s.heap.get? b=some u->h'.get? b=some u) (hp:s.heap.objs.size<=a) (new:ObjOk X.prog X.w (upd H a o) h' a o) :
 Inv X pins σ (upd H a o) { s with heap:=h',toks:=t' }:=I.un (Un.laid k hp (I.hok.fresh hp)) (I.hok.laid k hp new)
def Inv.write {x e:Addr}{o:HO}{t':Nat} (I:Inv X pins σ H s) (mu:Mut (H x)) (he:e=x\/H e=some (.own x)) (k : ∀ b u,b≠e->s.heap.get? b=some u->h'.get? b=some u) (heo : ∃ u,h'.get? e=some u)
 (new:ObjOk X.prog X.w (upd H x o) h' x o):Inv X pins σ (upd H x o) { s with heap:=h',toks:=t' }:=I.un (Un.write mu he k heo) (I.hok.write mu he k heo new)
def Inv.pins_of {pins':List (Addr×Obj)} (I:Inv X pins σ H s) (h : ∀ p ∈ pins',s.heap.get? p.1=some p.2/\H p.1=none/\p.1≠X.env.locals/\p.1 ∉ X.fs /\ ∀ v,p.2.data ≠ .cell v):Inv X pins' σ H s :=
 ⟨I.ok,I.os,I.bare,I.base,I.loc,I.cell,I.free,I.freeC,fun p hp=>(Zf.mp hp).elim (fun z=>I.pin p (Ya _ z)) (h p),I.hok,I.len⟩
def qyd {N:List Str} (hN:N.Nodup) {i j:Nat}{x:Str} (a:N[i]?=some x) (b:N[j]?=some x):i=j:=by
 obtain ⟨h1,e1⟩:=Qm.mp a;obtain ⟨h2,e2⟩:=Qm.mp b;exact (List.getElem_inj hN).mp (e1.trans e2.symm)
def zaer {M:Model}{A:Z4}{E:Value->Ql->Prop}{i:Nat}{x:Str}{v:V}{u:Value}{Q:Unit->Ql->Prop} (I:Inv X pins σ H s) (hN:X.N.Nodup) (hi:X.N[i]?=some x) (hx:Loc X.env.scope x) (r:RelV v u)
 (h : ∀ s',Inv X pins (σ.set i (some v)) H s'->(∃ a,Vh a s.heap s'.heap/\(a=X.env.locals\/X.env.cells.lookup x=some a))->Q () s') (hf:X.fn x=true\/X.env.scope.names.lookup x=some .local:=by first|exact .inl rfl|exact .inr rfl|assumption):wpAny M A (storeName X.env x u) Q E s:=by
  obtain ⟨m,hn,hl⟩:=id I.loc;have hcls:(X.env.scope.kind == .class||(X.env.scope.kind == .module&&X.env.locals != X.env.globals))=false:=by rw [I.ok.kind];rfl
  have hiσ:i<σ.length:=by rw [I.len];exact (Qm.mp hi).1
  have cne:=I.cne;have tracked : ∀ {a:Addr}{h':Heap},(∃ o,s.heap.get? a=some o/\H a=none)->Vh a s.heap h'->HOk X.prog X.w H h':=fun {a h'} ha hs b ob e=>by
   obtain ⟨_,_,hfree⟩:=ha;refine (I.hok b ob e).stay (fun c w' hc q=>(hs.2 c ?_).trans q) (fun _ q=>q) fun _ _ q=>q;rintro rfl;rcases hc with rfl|hc
   ·rw [hfree] at e;cases e
   ·rw [hfree] at hc;cases hc
  rcases hx with hk|hk
  ·refine wpAny_storeName_local hk hn (fun h' hn' hs=>?_) hcls;obtain ⟨oL,_,_,hoL,_⟩:=id hn;refine h _ ⟨I.ok,I.os,I.bare,⟨fun b o e n hb hx=>?_,fun b o e n hb hx=>?_,I.base.free,fun b o e hx=>?_,I.base.tups,I.base.frzs,I.base.tbls⟩,⟨_,hn',fun j y v' e1 e2 e3=>?_⟩,fun y c e=>?_,I.free,I.freeC,fun p hp=>?_,tracked ⟨oL,hoL,I.free⟩ hs,by simpa using I.len⟩ ⟨_,hs,.inl rfl⟩
   ·exact (hs.2 b (Q9 (Zw (Qx e) I.ok.above))).trans (I.base.keep b o e n hb hx)
   ·obtain ⟨sl,e1⟩:=I.base.slot b o e n hb hx;exact ⟨sl,(hs.2 b (Q9 (Zw (Qx e) I.ok.above))).trans e1⟩
   ·obtain ⟨o',e1⟩:=I.base.there b o e hx;exact ⟨o',(hs.2 b (Q9 (Zw (Qx e) I.ok.above))).trans e1⟩
   ·by_cases hj:j=i
    ·subst hj;rw [hi] at e1;cases e1;rw [Qcf hiσ] at e2;cases e2;exact ⟨u,r,.inl ⟨hk,by simp⟩⟩
    ·rw [Qhc (Z0 hj)] at e2;obtain ⟨u',r',q⟩:=hl j y v' e1 e2 e3;refine ⟨u',r',?_⟩;rcases q with ⟨k,e⟩|⟨k,c,e,z⟩
     ·refine .inl ⟨k,?_⟩;have:y≠x:=fun e=>hj (qyd hN e1 (e ▸ hi));simp [this,e]
     ·exact .inr ⟨k,c,e,z.sameBut hs (cne y c e)⟩
   ·obtain ⟨w',z⟩:=I.cell y c e;exact ⟨w',z.sameBut hs (cne y c e)⟩
   ·obtain ⟨e,n,ne,nf,d⟩:=I.pin p hp;exact ⟨(hs.2 p.1 ne).trans e,n,ne,nf,d⟩
  ·have hfn:X.fn x=true:=by
    rcases hf with z|z
    ·exact z
    ·rw [z] at hk;cases hk
   obtain ⟨c,hc⟩:=I.ok.has x (.inl hk);obtain ⟨w',z⟩:=I.cell x c hc;refine wpAny_storeName_cell I.ok.kind hk hc z (fun h' hc' hs=>?_);obtain ⟨oc,hoc,hocd⟩:=id z;refine h { s with heap:=h' } ⟨I.ok,I.os,I.bare,⟨fun b o e n hb hx=>?_,fun b o e n hb hx=>?_,I.base.free,fun b o e hx=>?_,I.base.tups,I.base.frzs,I.base.tbls⟩,⟨m,hn.sameBut hs (Z0 (cne x c hc)),fun j y v' e1 e2 e3=>?_⟩,fun y c' e=>?_,I.free,I.freeC,fun p hp=>?_,tracked ⟨oc,hoc,I.freeC x c hc⟩ hs,by simpa using I.len⟩ ⟨c,hs,.inr hc⟩
   ·exact (hs.2 b (Q9 (Zw (Qx e) (I.ok.cab x c hfn hc)))).trans (I.base.keep b o e n hb hx)
   ·obtain ⟨sl,e1⟩:=I.base.slot b o e n hb hx;exact ⟨sl,(hs.2 b (Q9 (Zw (Qx e) (I.ok.cab x c hfn hc)))).trans e1⟩
   ·obtain ⟨o',e1⟩:=I.base.there b o e hx;exact ⟨o',(hs.2 b (Q9 (Zw (Qx e) (I.ok.cab x c hfn hc)))).trans e1⟩
   ·by_cases hj:j=i
    ·subst hj;rw [hi] at e1;cases e1;rw [Qcf hiσ] at e2;cases e2;exact ⟨u,r,.inr ⟨.inl hk,c,hc,hc'⟩⟩
    ·rw [Qhc (Z0 hj)] at e2;obtain ⟨u',r',q⟩:=hl j y v' e1 e2 e3;refine ⟨u',r',?_⟩;rcases q with q|⟨k,c',e,z'⟩
     ·exact .inl q
     ·refine .inr ⟨k,c',e,z'.sameBut hs ?_⟩;rintro rfl;exact hj (qyd hN e1 (I.ok.inj _ _ _ e hc ▸ hi))
   ·by_cases hcc:c'=c
    ·subst hcc;exact ⟨_,hc'⟩
    ·obtain ⟨w2,z2⟩:=I.cell y c' e;exact ⟨w2,z2.sameBut hs hcc⟩
   ·obtain ⟨e,n,ne,nf,d⟩:=I.pin p hp;refine ⟨(hs.2 p.1 ?_).trans e,n,ne,nf,d⟩;intro q;rw [q,hoc] at e;have q':oc=p.2:=Qp e;exact d w' (by rw [<- q'];exact hocd)
def qil {M:Model}{A:Z4}{E:Value->Ql->Prop}{i:Nat}{x:Str}{v:V}{u:Value}{Q:Unit->Ql->Prop} (I:Inv X pins σ H s) (hN:X.N.Nodup) (hi:X.N[i]?=some x) (hx:Loc X.env.scope x) (r:RelV v u)
 (h : ∀ s',Inv X pins (σ.set i (some v)) H s'->Q () s') (hf:X.fn x=true\/X.env.scope.names.lookup x=some .local:=by first|exact .inl rfl|exact .inr rfl|assumption):wpAny M A (storeName X.env x u) Q E s :=
  zaer I hN hi hx r (fun s' I' _=>h s' I') hf
def Inv.call' {s':Ql}{ch:List Addr} (I:Inv X pins σ H s) (ho:s'.os=s.os) (u:Un (frs X.stack) ch H H' s.heap s'.heap) (hok:HOk X.prog X.w H' s'.heap) (hg:Qgp s'.gens)
 (hch : ∀ b ∈ ch,(b ∈ X.ex\/X.s₀.heap.objs.size<=b)/\b≠X.env.locals/\(∀ x c,X.env.cells.lookup x=some c->c≠b) /\ ∀ p ∈ X.pn++pins,p.1≠b):Inv X pins σ H' s':=by
  obtain ⟨h',g',d',t',o'⟩:=s';have e:o'=s.os:=ho;subst e;exact I.call (g':=g') (t':=t') (d':=d') u hok hg hch
end
abbrev XK:=Value->Option Addr->Hp->Prop
abbrev St:=List (Option V)
abbrev VK:=V->Hp->Prop
abbrev TE:=St->Hp->VK->Prop
abbrev TT:=St->Hp->(Bool->Hp->Prop)->Prop
abbrev TA:=St->Hp->(List V->Hp->Prop)->Prop
structure Ends where
 nx:St->Hp->Prop
 rt:VK
 bk:St->Hp->Prop:=fun _ _=>False
 ct:St->Hp->Prop:=fun _ _=>False
abbrev TS:=Ends->St->Hp->Prop
def EP (X:Cx) (pins:List (Addr×Obj)) (σ:St) (Q:VK) (u:Value) (s':Ql):Prop := ∃ v H',Inv X pins σ H' s'/\RelV v u/\Q v H'
def TP (X:Cx) (pins:List (Addr×Obj)) (σ:St) (Q:Bool->Hp->Prop) (b:Bool) (s':Ql):Prop := ∃ H',Inv X pins σ H' s'/\Q b H'
def AP (X:Cx) (pins:List (Addr×Obj)) (σ:St) (Q:List V->Hp->Prop) (us:List Value) (s':Ql):Prop := ∃ vs H',Inv X pins σ H' s'/\Vals vs us/\Q vs H'
def SP (X:Cx) (pins:List (Addr×Obj)) (D:Ends) (f:Flow) (s':Ql):Prop :=
 match f with
 | .next => ∃ σ' H',Inv X pins σ' H' s'/\D.nx σ' H'
 | .brk => ∃ σ' H',Inv X pins σ' H' s'/\D.bk σ' H'
 | .cont => ∃ σ' H',Inv X pins σ' H' s'/\D.ct σ' H'
 | .ret u => ∃ v σ' H',Inv X pins σ' H' s'/\RelV v u/\D.rt v H'
def PE (X:Cx) (e:Expr) (t:TE):Prop :=
 ∀ (pins:List (Addr×Obj)) (s:Ql) (σ:St) (H:Hp) (Q:VK),Inv X pins σ H s->t σ H Q->wpAny (model X.prog X.w) X.A (eval e X.env) (EP X pins σ Q) X.xe s
def PT (X:Cx) (e:Expr) (t:TT):Prop :=
 ∀ (pins:List (Addr×Obj)) (s:Ql) (σ:St) (H:Hp) (Q:Bool->Hp->Prop),Inv X pins σ H s->t σ H Q->wpAny (model X.prog X.w) X.A (isTrue e X.env (eval e X.env)) (TP X pins σ Q) X.xe s
def PW (X:Cx) (e:Expr) (t:TT):Prop :=
 ∀ (whole:Sem Value) (pins:List (Addr×Obj)) (s:Ql) (σ:St) (H:Hp) (Q:Bool->Hp->Prop),Inv X pins σ H s->t σ H Q->wpAny (model X.prog X.w) X.A (isTrue e X.env whole) (TP X pins σ Q) X.xe s
def PW.pt {X:Cx}{e:Expr}{t:TT} (h:PW X e t):PT X e t:=h _
def PA (X:Cx) (es:List Expr) (t:TA):Prop :=
 ∀ (pos:Pos) (pins:List (Addr×Obj)) (s:Ql) (σ:St) (H:Hp) (Q:List V->Hp->Prop),Inv X pins σ H s->t σ H Q->wpAny (model X.prog X.w) X.A (spliced (Vl pos (Qw es X.env))) (AP X pins σ Q) X.xe s
def PS (X:Cx) (st:Stmt) (t:TS):Prop :=
 ∀ (pins:List (Addr×Obj)) (s:Ql) (σ:St) (H:Hp) (D:Ends),Inv X pins σ H s->t D σ H->wpAny (model X.prog X.w) X.A (exec st X.env) (SP X pins D) X.xe s
def PSs (X:Cx) (st:List Stmt) (t:TS):Prop :=
 ∀ (pins:List (Addr×Obj)) (s:Ql) (σ:St) (H:Hp) (D:Ends),Inv X pins σ H s->t D σ H->wpAny (model X.prog X.w) X.A (execs st X.env) (SP X pins D) X.xe s
def thn {α:Type}{t:Sem α}{Q Q':α->Ql->Prop}{M:Model}{A:Z4}{E:Value->Ql->Prop}{s:Ql} (h:wpAny M A t Q E s) (hQ : ∀ a s,Q a s->Q' a s):wpAny M A t Q' E s:=Vy h hQ fun _ _ x=>x
end
section
section
variable {X:Cx}
def bin {a b:Expr}{ta tb:TE} (ha:PE X a ta) (hb:PE X b tb) {pins:List (Addr×Obj)}{s:Ql}{σ:St}{H:Hp}{R:V->V->Hp->Prop} (I:Inv X pins σ H s) (h:ta σ H fun x H1=>tb σ H1 fun y H2=>R x y H2)
 {α:Type}{Q:α->Ql->Prop}{f:Value->Value->Sem α}
 (hf : ∀ v u s2 x y H2,Inv X pins σ H2 s2->RelV x v->RelV y u->R x y H2->wpAny (model X.prog X.w) X.A (f v u) Q X.xe s2) :
 wpAny (model X.prog X.w) X.A (eval a X.env) (fun v s₁=>wpAny (model X.prog X.w) X.A (eval b X.env) (fun u s₂=>wpAny (model X.prog X.w) X.A (f v u) Q X.xe s₂) X.xe s₁) X.xe s:=by
  refine thn (ha pins s σ H _ I h) fun v s1 xx3=>?_;obtain ⟨x,H1,I1,r1,q1⟩:=xx3;refine thn (hb pins s1 σ H1 _ I1 q1) fun u s2 xx2=>?_;obtain ⟨y,H2,I2,r2,q2⟩:=xx2;exact hf v u s2 x y H2 I2 r1 r2 q2
def qvj (i:Nat):TE:=fun σ H Q => ∃ v,σ[i]?=some (some v)/\Q v H
def tC (v:V):TE:=fun _ H Q=>Q v H
def qcx {i:Nat}{x:Str}{pos:Pos} (hN:X.N[i]?=some x) (hv:Vis X.env.scope x) (hd:Nd0 x:=by decide) (hcd:Nd1 x:=by decide):PE X (.Name x pos) (qvj i):=by
 intro pins s σ H Q I h;obtain ⟨v,e,h⟩:=h;obtain ⟨m,hn,hl⟩:=I.loc;obtain ⟨u,r,l⟩:=hl i x v hN e hv;have fin:EP X pins σ Q u s:=⟨v,H,I,r,h⟩
 rcases l with ⟨hk,hm⟩|⟨hk,c,hc,hcell⟩
 ·exact wpAny_Name (wpAny_loadName_local I.ok.kind hk hn hm fin) hd
 ·rcases hk with hk|hk
  ·exact wpAny_Name (wpAny_loadName_cell I.ok.kind hk hc hcell fin) hd
  ·exact wpAny_Name (wpAny_loadName_free I.ok.kind hk hc hcell fin hcd) hd
def qom {i j pos}:PE X (.Constant (.int i) j pos) (tC (.int i)):=fun _ _ _ H _ I h=>wpAny_Constant_int ⟨.int i,H,I.tok _,⟨_,rfl⟩,h⟩
def zary {b j pos}:PE X (.Constant (.bool b) j pos) (tC (.bl b)):=fun _ _ _ H _ I h=>Constant_bool ⟨.bl b,H,I,rfl,h⟩
def zaqg {j pos}:PE X (.Constant .none j pos) (tC .non):=fun _ _ _ H _ I h=>Constant_none ⟨.non,H,I,rfl,h⟩
def zaaq {x j pos}:PE X (.Constant (.str x) j pos) (tC (.str x)):=fun _ _ _ H _ I h=>Calls.Constant_str ⟨.str x,H,I.tok _,⟨_,rfl⟩,h⟩
def Gl (X:Cx) (x:Str):Prop:=X.env.kindOf x=some .globalImplicit
def qun {E:Value->Ql->Prop}{pins:List (Addr×Obj)}{s:Ql}{σ:St}{H:Hp}{x:Str}{u:Value}{pos:Pos}{Q:Value->Ql->Prop} (I:Inv X pins σ H s) (hg:Gl X x) (hm:X.mg x=some u) (h:Q u s)
 (hd:Nd0 x:=by decide):wpAny (model X.prog X.w) X.A (eval (.Name x pos) X.env) Q E s :=
  Qdx I.ok.kind hg (Calls.loadGlobal_global (by rw [I.ok.glob];exact I.mod.glob.keeps I.bk) hm h) hd
def qlc {E:Value->Ql->Prop}{pins:List (Addr×Obj)}{s:Ql}{σ:St}{H:Hp}{x:Str}{u:Value}{pos:Pos}{Q:Value->Ql->Prop} (I:Inv X pins σ H s) (hg:Gl X x) (hm:X.mg x=none) (hv:Zv x=some u) (h:Q u s)
 (hn:x ≠ "__name__":=by decide) (hd:Nd0 x:=by decide):wpAny (model X.prog X.w) X.A (eval (.Name x pos) X.env) Q E s:=by
  obtain ⟨mb,h1,h2⟩:=I.mod.blt;exact Qdx I.ok.kind hg (Calls.loadGlobal_builtin (by rw [I.ok.glob];exact I.mod.glob.keeps I.bk) hm (by rw [I.ok.blt];exact h1.keeps I.bk) ((h2 x hn).trans hv) h) hd
def zall {x:Str}{v:V}{u:Value}{pos:Pos} (hg:Gl X x) (hm:X.mg x=some u) (r:RelV v u) (hd:Nd0 x:=by decide):PE X (.Name x pos) (tC v) :=
 fun _ _ _ H _ I h=>qun I hg hm ⟨v,H,I,r,h⟩ hd
def zanl {x:Str}{v:V}{u:Value}{pos:Pos} (hg:Gl X x) (hm:X.mg x=none) (hv:Zv x=some u) (r:RelV v u) (hn:x ≠ "__name__":=by decide) (hd:Nd0 x:=by decide):PE X (.Name x pos) (tC v) :=
 fun _ _ _ H _ I h=>qlc I hg hm hv ⟨v,H,I,r,h⟩ hn hd
def t2I (ta tb:TE) (k:Int->Int->Hp->Prop):St->Hp->Prop:=fun σ H=>ta σ H fun x H1=>tb σ H1 fun y H2 => ∃ i j,x = .int i/\y = .int j/\k i j H2
def tAdd (ta tb:TE):TE:=fun σ H Q=>t2I ta tb (fun i j H2=>Q (.int (i+j)) H2) σ H
def tSub (ta tb:TE):TE:=fun σ H Q=>t2I ta tb (fun i j H2=>Q (.int (i-j)) H2) σ H
variable {a b:Expr}{ta tb:TE}{pos:Pos}
def zaii (ha:PE X a ta) (hb:PE X b tb):PE X (.BinOp a .Add b pos) (tAdd ta tb):=by
 intro pins s σ H Q I h;refine Qkp (bin ha hb I h fun v u s2 x y H2 I2 rx ry q=>?_);obtain ⟨i,j,rfl,rfl,q⟩:=q;obtain ⟨t,rfl⟩:=rx;obtain ⟨t',rfl⟩:=ry;exact add_int ⟨.int _,H2,I2.tok _,⟨_,rfl⟩,q⟩
def zaoz (ha:PE X a ta) (hb:PE X b tb):PE X (.BinOp a .Sub b pos) (tSub ta tb):=by
 intro pins s σ H Q I h;refine Qkp (bin ha hb I h fun v u s2 x y H2 I2 rx ry q=>?_);obtain ⟨i,j,rfl,rfl,q⟩:=q;obtain ⟨t,rfl⟩:=rx;obtain ⟨t',rfl⟩:=ry;exact sub_int ⟨.int _,H2,I2.tok _,⟨_,rfl⟩,q⟩
def tB (t:TE):TT:=fun σ H Q=>t σ H fun x H1 => ∃ c,x = .bl c/\Q c H1
def zapd {e:Expr}{t:TE} (h:PE X e t) (he : ∀ whole,isTrue e X.env whole=(do let v <- whole;Qgw e.pos;Qdd [v] (truthy v)):=by intro _;rfl):PT X e (tB t):=by
 intro pins s σ H Q I hw;refine isTrue_plain (thn (h pins s σ H _ I hw) fun v s1 xx4=>?_) (he _);obtain ⟨x,H1,I1,r1,q1⟩:=xx4;obtain ⟨d,rfl,q⟩:=q1;cases r1;exact V6 ⟨H1,I1,q⟩
variable {tA tB':TT}{rest:List Expr}
def tAnd (t u:TT):TT:=fun σ H Q=>t σ H fun c H1=>if c=true then u σ H1 Q else Q false H1
def tOr (t u:TT):TT:=fun σ H Q=>t σ H fun c H1=>if c=true then Q true H1 else u σ H1 Q
def tNot (t:TT):TT:=fun σ H Q=>t σ H fun c H1=>Q (!c) H1
def zans (ha:PT X a tA):PW X (.BoolOp .And [a] pos) tA:=by
 intro wh pins s σ H Q I h;refine isTrue_and (thn (ha pins s σ H Q I h) fun c s1 e=>?_);cases c with
 | true=>exact isTrue_and_nil e
 | false=>exact e
def zaqa (ha:PT X a tA):PW X (.BoolOp .Or [a] pos) tA:=by
 intro wh pins s σ H Q I h;refine isTrue_or (thn (ha pins s σ H Q I h) fun c s1 e=>?_);cases c with
 | false=>exact isTrue_or_nil e
 | true=>exact e
def zapr (ha:PT X a tA) (hb:PW X (.BoolOp .And (b::rest) pos) tB'):PW X (.BoolOp .And (a::b::rest) pos) (tAnd tA tB'):=by
 intro wh pins s σ H Q I h;refine isTrue_and (thn (ha pins s σ H _ I h) fun c s1 xx5=>?_);obtain ⟨H1,I1,q1⟩:=xx5;cases c with
 | true=>exact hb wh pins s1 σ H1 Q I1 q1
 | false=>exact ⟨H1,I1,q1⟩
def zasn (ha:PT X a tA) (hb:PW X (.BoolOp .Or (b::rest) pos) tB'):PW X (.BoolOp .Or (a::b::rest) pos) (tOr tA tB'):=by
 intro wh pins s σ H Q I h;refine isTrue_or (thn (ha pins s σ H _ I h) fun c s1 xx6=>?_);obtain ⟨H1,I1,q1⟩:=xx6;cases c with
 | true=>exact ⟨H1,I1,q1⟩
 | false=>exact hb wh pins s1 σ H1 Q I1 q1
def zaoy (ha:PT X a tA):PT X (.UnaryOp .Not a pos) (tNot tA):=by
 intro pins s σ H Q I h;exact isTrue_not (ha pins s σ H (fun c H1=>Q (!c) H1) I h)
def zasd (ta tb:TE):TE:=fun σ H Q=>ta σ H fun x H1 => ∃ c,x = .bl c/\if c=true then tb σ H1 Q else Q (.bl false) H1
def tOrV (ta tb:TE):TE:=fun σ H Q=>ta σ H fun x H1 => ∃ c,x = .bl c/\if c=true then Q (.bl true) H1 else tb σ H1 Q
def zarx (ta:TE):TE:=fun σ H Q=>ta σ H fun x H1 => ∃ c,x = .bl c/\Q (.bl (!c)) H1
def zapj {op}{t:TE} (h:PE X a t):PE X (.BoolOp op [a] pos) t:=fun pins s σ H Q I hw=>BoolOp_one (h pins s σ H Q I hw)
def zapp (ha:PE X a ta) (hb:PE X (.BoolOp .And (b::rest) pos) tb):PE X (.BoolOp .And (a::b::rest) pos) (zasd ta tb):=by
 intro pins s σ H Q I h;refine BoolOp_and (thn (ha pins s σ H _ I h) fun v s1 xx7=>?_);obtain ⟨x,H1,I1,r1,q1⟩:=xx7;obtain ⟨c,rfl,q1⟩:=q1;cases r1;refine V6 ?_;cases c with
 | true=>exact hb pins s1 σ H1 Q I1 q1
 | false=>exact ⟨.bl false,H1,I1,rfl,q1⟩
def zasv (ha:PE X a ta) (hb:PE X (.BoolOp .Or (b::rest) pos) tb):PE X (.BoolOp .Or (a::b::rest) pos) (tOrV ta tb):=by
 intro pins s σ H Q I h;refine BoolOp_or (thn (ha pins s σ H _ I h) fun v s1 xx8=>?_);obtain ⟨x,H1,I1,r1,q1⟩:=xx8;obtain ⟨c,rfl,q1⟩:=q1;cases r1;refine V6 ?_;cases c with
 | false=>exact hb pins s1 σ H1 Q I1 q1
 | true=>exact ⟨.bl true,H1,I1,rfl,q1⟩
def zaqo (ha:PE X a ta):PE X (.UnaryOp .Not a pos) (zarx ta):=by
 intro pins s σ H Q I h;refine UnaryOp_ (thn (ha pins s σ H _ I h) fun v s1 xx9=>?_);obtain ⟨x,H1,I1,r1,q1⟩:=xx9;obtain ⟨c,rfl,q1⟩:=q1;cases r1;exact not_of (V6 ⟨.bl (!c),H1,I1,rfl,q1⟩)
def tIf (t:TT) (ta tb:TE):TE:=fun σ H Q=>t σ H fun c H1=>if c=true then ta σ H1 Q else tb σ H1 Q
def zafp {c:Expr} (hc:PT X c tA) (ha:PE X a ta) (hb:PE X b tb):PE X (.IfExp c a b pos) (tIf tA ta tb):=by
 intro pins s σ H Q I h;refine wpAny_IfExp (thn (hc pins s σ H _ I h) fun d s1 xx10=>?_);obtain ⟨H1,I1,q1⟩:=xx10;cases d with
 | true=>exact ha pins s1 σ H1 Q I1 q1
 | false=>exact hb pins s1 σ H1 Q I1 q1
end
end
section
def SqL (K:Qd) (H:Hp) (a:Addr) (xs:List V):Prop :=
 Rd H a (.lst xs) \/
  ∃ (o:Obj) (its:Array Value) (n:Nat),K.lookup a=some o/\o.cls = .type "list" /\ o.dict=none/\o.data = .seq its n/\its.size<=Q6/\Vals xs its.toList
def SqT (K:Qd) (H:Hp) (a:Addr) (xs:List V):Prop :=
 Rd H a (.tup xs) \/
  ∃ (o:Obj) (its:Array Value) (n:Nat),K.lookup a=some o/\o.cls = .type "tuple" /\ o.data = .seq its n/\its.size<=Q6/\Vals xs its.toList
def absV:Value->Option V
 | .none=>some .non
 | .bool b=>some (.bl b)
 | .int i _=>some (.int i)
 | .str x _=>some (.str x)
 | .bytes b _=>some (.byt b)
 | .float b _=>some (.flt b)
 | .ref a=>some (.ref a)
 | .type n=>some (.ty n)
 | _=>none
def RelV.abs {x:V}{u:Value} (r:RelV x u):absV u=some x:=by
 cases x with
 | non=>cases r;rfl
 | bl _=>cases r;rfl
 | int _=>obtain ⟨t,rfl⟩:=r;rfl
 | str _=>obtain ⟨t,rfl⟩:=r;rfl
 | byt _=>obtain ⟨t,rfl⟩:=r;rfl
 | flt _=>obtain ⟨t,rfl⟩:=r;rfl
 | ref _=>cases r;rfl
 | ty _=>cases r;rfl
def RelV.inj {x y:V}{u:Value} (r:RelV x u) (q:RelV y u):x=y:=Qp (r.abs.symm.trans q.abs)
def Vals.inj : ∀ {xs ys:List V}{us:List Value},Vals xs us->Vals ys us->xs=ys
 | _,_,_,.nil,.nil=>rfl
 | _,_,_,.cons r t,.cons r' t'=>by rw [r.inj r',Vals.inj t t']
section
variable {X:Cx}{pins:List (Addr×Obj)}{σ:St}{H:Hp}{s:Ql}{a:Addr}{xs ys:List V}
def SqL.of {K:Qd} (h:H a=some (.lst xs)):SqL K H a xs :=.inl (.inl h)
def SqT.of {K:Qd} (h:H a=some (.tup xs)):SqT K H a xs :=.inl (.inl h)
def Inv.list (I:Inv X pins σ H s) (h:SqL X.K H a xs) : ∃ its:List Value,Vals xs its/\PlainL s.heap a its.toArray/\xs.length<=Q6:=by
 rcases h with h|⟨o,its,n,hk,hc,hd,hs,hz,r⟩
 ·obtain ⟨z,its,n,r,e⟩:=h.ok I.hok;exact ⟨its,r,⟨_,n,e,rfl,rfl,rfl⟩,z⟩
 ·refine ⟨its.toList,r,⟨o,n,I.kIn a o hk,hc,hd,by simpa using hs⟩,?_⟩;have e:=r.length;simp only [Yj] at e;omega
def Inv.tuple (I:Inv X pins σ H s) (h:SqT X.K H a xs) : ∃ its:List Value,Vals xs its/\IsTup s.heap a its.toArray/\xs.length<=Q6:=by
 rcases h with h|⟨o,its,n,hk,hc,hs,hz,r⟩
 ·obtain ⟨z,its,r,p⟩:=h.ok I.hok;exact ⟨its,r,p,z⟩
 ·refine ⟨its.toList,r,⟨o,I.kIn a o hk,hc,n,by simpa using hs⟩,?_⟩;have e:=r.length;simp only [Yj] at e;omega
def Inv.list_inj (I:Inv X pins σ H s) (h:SqL X.K H a xs) (h':SqL X.K H a ys):xs=ys:=by
 obtain ⟨its,r,⟨o,n,e,_,_,d⟩,_⟩:=I.list h;obtain ⟨its',r',⟨o',n',e',_,_,d'⟩,_⟩:=I.list h';rw [e] at e';cases e';rw [d] at d';injection d' with d1 _;have:its=its':=by simpa using congrArg Qlg d1
 subst this;exact r.inj r'
def Inv.tuple_inj (I:Inv X pins σ H s) (h:SqT X.K H a xs) (h':SqT X.K H a ys):xs=ys:=by
 obtain ⟨its,r,⟨o,e,_,n,d⟩,_⟩:=I.tuple h;obtain ⟨its',r',⟨o',e',_,n',d'⟩,_⟩:=I.tuple h';rw [e] at e';cases e';rw [d] at d';injection d' with d1 _;have:its=its':=by simpa using congrArg Qlg d1
 subst this;exact r.inj r'
end
abbrev Cx.wish (X:Cx) (E:Value->Ql->Prop):Cx:={ X with xe:=E }
abbrev Cx.nox (X:Cx):Cx:=X.wish fun _ _=>False
def Cx.Ok.wish {X:Cx} (ok:X.Ok) (E:Value->Ql->Prop):(X.wish E).Ok :=
 ⟨ok.mod,ok.kind,ok.glob,ok.blt,ok.above,ok.inj,ok.has,ok.cab,ok.hd,ok.frames,ok.stk,ok.exf,ok.bs,ok.bsz,ok.noex,ok.exfs,ok.funs,ok.frf⟩
def Cx.Ok.unwish {X:Cx}{E:Value->Ql->Prop} (ok:(X.wish E).Ok):X.Ok :=
 ⟨ok.mod,ok.kind,ok.glob,ok.blt,ok.above,ok.inj,ok.has,ok.cab,ok.hd,ok.frames,ok.stk,ok.exf,ok.bs,ok.bsz,ok.noex,ok.exfs,ok.funs,ok.frf⟩
section
variable {X:Cx}{pins:List (Addr×Obj)}{σ:St}{H:Hp}{s:Ql}{E:Value->Ql->Prop}
def Inv.wish (I:Inv X pins σ H s) (E:Value->Ql->Prop):Inv (X.wish E) pins σ H s:=⟨I.ok.wish E,I.os,I.bare,I.base,I.loc,I.cell,I.free,I.freeC,I.pin,I.hok,I.len⟩
def Inv.unwish (I:Inv (X.wish E) pins σ H s):Inv X pins σ H s:=⟨I.ok.unwish,I.os,I.bare,I.base,I.loc,I.cell,I.free,I.freeC,I.pin,I.hok,I.len⟩
def SP.unwish {D:Ends}{f:Flow}{s':Ql} (h:SP (X.wish E) pins D f s'):SP X pins D f s':=by
 cases f with
 | next=>obtain ⟨σ',H',I,q⟩:=h;exact ⟨σ',H',I.unwish,q⟩
 | brk=>obtain ⟨σ',H',I,q⟩:=h;exact ⟨σ',H',I.unwish,q⟩
 | cont=>obtain ⟨σ',H',I,q⟩:=h;exact ⟨σ',H',I.unwish,q⟩
 | ret u=>obtain ⟨v,σ',H',I,r,q⟩:=h;exact ⟨v,σ',H',I.unwish,r,q⟩
def PSs.nox {st:List Stmt}{t:TS} (h:PSs X.nox st t):PSs X st t:=fun pins s σ H D I hw =>
 Vy (h pins s σ H D (I.wish _) hw) (fun _ _ q=>q.unwish) fun _ _ z=>Zd z
end
section
variable {X:Cx}{st:Stmt}{rest:List Stmt}{t u:TS}{e:Expr}{te:TE}{pos:Pos}
def zarp:TS:=fun D σ H=>D.nx σ H
def tSeq (t u:TS):TS:=fun D σ H=>t { D with nx:=u D } σ H
def qvo:PSs X [] zarp:=fun _ _ σ H _ I h=>Qdw ⟨σ,H,I,h⟩
def qF (h1:PS X st t) (h2:PSs X rest u):PSs X (st::rest) (tSeq t u):=by
 intro pins s σ H D I h;refine wpAny_execs_cons (thn (h1 pins s σ H { D with nx:=u D } I h) fun f s1 q=>?_);cases f with
 | next =>
  obtain ⟨σ',H',I',q⟩:=q;exact h2 pins s1 σ' H' D I' q
 | ret v=>exact q
 | brk=>exact q
 | cont=>exact q
def qeh (h1:PS X st t):PSs X [st] t:=by
 intro pins s σ H D I h;refine wpAny_execs_cons (thn (h1 pins s σ H D I h) fun f s1 q=>?_);cases f with
 | next=>exact Qdw q
 | ret v=>exact q
 | brk=>exact q
 | cont=>exact q
def Inv.quiet {pins:List (Addr×Obj)}{σ:St}{H:Hp}{s:Ql} (I:Inv X pins σ H s):interactive X.env=false:=by simp [interactive,I.ok.kind]
def zaoq (te:TE):TS:=fun D σ H=>te σ H fun _ H1=>D.nx σ H1
def qhq (he:PE X e te) (hs:Jf e none pos.line X.env=pure false:=by rfl):PS X (.Expr e pos) (zaoq te):=by
 intro pins s σ H D I h;exact wpAny_Expr_any (thn (he pins s σ H _ I h) fun v s1 xx13=>by obtain ⟨x,H1,I1,r1,q1⟩:=xx13;exact ⟨σ,H1,I1,q1⟩) I.quiet hs
def tRet (te:TE):TS:=fun D σ H=>te σ H D.rt
def qji (he:PE X e te):PS X (.Return (some e) pos) (tRet te):=by
 intro pins s σ H D I h;exact wpAny_Return_some (thn (he pins s σ H _ I h) fun v s1 xx14=>by obtain ⟨x,H1,I1,r1,q1⟩:=xx14;exact ⟨x,σ,H1,I1,r1,q1⟩)
def tIfS (c:TT) (t u:TS):TS:=fun D σ H=>c σ H fun b H1=>if b=true then t D σ H1 else u D σ H1
def zajs {c:Expr}{a b:List Stmt}{tc:TT} (hc:PT X c tc) (ha:PSs X a t) (hb:PSs X b u):PS X (.If c a b pos) (tIfS tc t u):=by
 intro pins s σ H D I h;refine wpAny_If (thn (hc pins s σ H _ I h) fun d s1 xx15=>?_);obtain ⟨H1,I1,q1⟩:=xx15;cases d with
 | true=>exact ha pins s1 σ H1 D I1 q1
 | false=>exact hb pins s1 σ H1 D I1 q1
def zaqz:TS:=fun _ _ _=>False
def zaeq {sts:List Stmt}:PSs X sts zaqz:=fun _ _ _ _ _ _ h=>h.elim
end
abbrev TG:=V->St->Hp->(St->Hp->Prop)->Prop
abbrev TGs:=List V->St->Hp->(St->Hp->Prop)->Prop
def PG (X:Cx) (target:Expr) (t:TG):Prop :=
 ∀ (pins:List (Addr×Obj)) (s:Ql) (σ:St) (H:Hp) (v:V) (u:Value) (Q:St->Hp->Prop),Inv X pins σ H s->RelV v u->t v σ H Q ->
  wpAny (model X.prog X.w) X.A (Qgs target X.env u) (fun _ s' => ∃ σ' H',Inv X pins σ' H' s'/\Q σ' H') X.xe s
def PGs (X:Cx) (ts:List Expr) (t:TGs):Prop :=
 ∀ (pins:List (Addr×Obj)) (s:Ql) (σ:St) (H:Hp) (vs:List V) (us:List Value) (Q:St->Hp->Prop),Inv X pins σ H s->Vals vs us->t vs σ H Q ->
  wpAny (model X.prog X.w) X.A (Qin ((Qab ts X.env).map (·.2)) us) (fun _ s' => ∃ σ' H',Inv X pins σ' H' s'/\Q σ' H') X.xe s
abbrev TSet:=V->V->V->Hp->(Hp->Prop)->Prop
def PSet (X:Cx) (t:TSet):Prop :=
 ∀ (pins:List (Addr×Obj)) (s:Ql) (σ:St) (H:Hp) (o i v:V) (ov iv u:Value) (Q:Hp->Prop),Inv X pins σ H s->RelV o ov->RelV i iv->RelV v u->t o i v H Q ->
  wpAny (model X.prog X.w) X.A (setItem ov iv u) (fun _ s' => ∃ H',Inv X pins σ H' s'/\Q H') X.xe s
section
variable {X:Cx}{pos:Pos}
def qpd (i:Nat):TG:=fun v σ H Q=>Q (σ.set i (some v)) H
def qvn {i:Nat}{x:Str} (hN:X.N.Nodup) (hi:X.N[i]?=some x) (hx:Loc X.env.scope x) (hf:X.fn x=true\/X.env.scope.names.lookup x=some .local:=by first|exact .inl rfl|exact .inr rfl|assumption):PG X (.Name x pos) (qpd i):=by
 intro pins s σ H v u Q I r h;exact wpAny_assign_Name (qil I hN hi hx r (fun s' I'=>⟨_,H,I',h⟩) hf)
def gNil:TGs:=fun vs σ H Q=>vs=[]/\Q σ H
def zatl (t:TG) (u:TGs):TGs:=fun vs σ H Q => ∃ v r,vs=v::r/\t v σ H fun σ' H'=>u r σ' H' Q
def zakb:PGs X [] gNil:=by
 intro pins s σ H vs us Q I r h;obtain ⟨e,h⟩:=h;subst e;cases r;exact assignInOrder_nil ⟨σ,H,I,h⟩
def zahm {e:Expr}{es:List Expr}{t:TG}{u:TGs} (h1:PG X e t) (h2:PGs X es u)
 (hs:(Qab (e::es) X.env).map (·.2)=Qgs e X.env::(Qab es X.env).map (·.2):=by rfl):PGs X (e::es) (zatl t u):=by
  intro pins s σ H vs us Q I r h;obtain ⟨v,vr,e1,h⟩:=h;subst e1;cases r with
  | cons r rr =>
   rw [hs];refine Qei (thn (h1 pins s σ H _ _ _ I r h) fun _ s1 xx16=>?_);obtain ⟨σ1,H1,I1,q1⟩:=xx16;exact h2 pins s1 σ1 H1 _ _ Q I1 rr q1
def gTup (K:Qd) (n:Nat) (t:TGs):TG:=fun v σ H Q => ∃ a xs,v = .ref a/\SqT K H a xs/\xs.length=n/\t xs σ H Q
def zaps {es:List Expr}{k:Nat}{t:TGs}{n:Nat} (hc:X.calm=true) (h:PGs X es t)
 (hn:(Qab es X.env).length=n:=by rfl) (hst:(Qab es X.env).findIdx? (·.1)=none:=by rfl):PG X (.Tuple es k pos) (gTup X.K n t):=by
  intro pins s σ H v u Q I r hw;obtain ⟨a,xs,e1,hq,hl,hw⟩:=hw;subst e1;cases r;obtain ⟨its,rv,ht,hz⟩:=I.tuple hq;refine assign_Tuple_tuple (I.ok.hd hc) ht (by simp [hn,<- hl,rv.length]) hst fun h' hx=>?_;have I1:Inv X pins σ H { s with heap:=h' }:=I.kept (t':=s.toks) fun b o e=>hx b o (Q9 (Qx e)) e;exact h pins _ σ H xs _ Q I1 (by simpa using rv) hw
def gSub (to ti:TE) (t:TSet):TG:=fun v σ H Q=>to σ H fun o H1=>ti σ H1 fun i H2=>t o i v H2 fun H3=>Q σ H3
def qwb {o i:Expr}{to ti:TE}{t:TSet} (ho:PE X o to) (hi:PE X i ti) (hs:PSet X t)
 (ha : ∀ v,Qgs (.Subscript o i pos) X.env v=(do
 let ov <- Qdd [v] (eval o X.env)
 let iv <- Qdd [v,ov] (eval i X.env)
 Qgw pos
 Qdd [v,ov,iv] (setItem ov iv v)
 release [v,ov,iv] []):=by intro _;rfl):PG X (.Subscript o i pos) (gSub to ti t):=by
  intro pins s σ H v u Q I r h;rw [ha];refine Qi (Qcd (thn (ho pins s σ H _ I h) fun ov s1 xx19=>?_));obtain ⟨x,H1,I1,r1,q1⟩:=xx19;refine Qi (Qcd (thn (hi pins s1 σ H1 _ I1 q1) fun iv s2 xx18=>?_));obtain ⟨y,H2,I2,r2,q2⟩:=xx18;refine Qi (Qfs (Qi (Qcd (thn (hs pins s2 σ H2 x y v ov iv u _ I2 r1 r2 r q2) fun _ s3 xx17=>?_))));obtain ⟨H3,I3,q3⟩:=xx17;exact wpAny_release ⟨σ,H3,I3,q3⟩
def tAsg (te:TE) (g:TG):TS:=fun D σ H=>te σ H fun x H1=>g x σ H1 D.nx
def qwg {tg e:Expr}{te:TE}{g:TG} (he:PE X e te) (hg:PG X tg g) (hs:Qfq [tg] e pos.line X.env=pure false:=by rfl) (hw:Qfp [tg] e X.env=pure none:=by rfl)
 (h1:(Qab [tg] X.env).map (·.2)=[Qgs tg X.env]:=by rfl):PS X (.Assign [tg] e pos) (tAsg te g):=by
 intro pins s σ H D I h;refine wpAny_Assign_stores (thn (he pins s σ H _ I h) fun v s1 xx20=>?_) hs hw;obtain ⟨x,H1,I1,r1,q1⟩:=xx20;rw [h1];exact thn (hg pins s1 σ H1 x v _ I1 r1 q1) fun _ s2 q=>q
def qdx {i:Nat}{x:Str}{e:Expr}{te:TE}{pos':Pos} (hN:X.N.Nodup) (hi:X.N[i]?=some x) (hx:Loc X.env.scope x) (he:PE X e te) (hs:Jf e (some (.Name x pos')) pos.line X.env=pure false:=by rfl) (hf:X.fn x=true\/X.env.scope.names.lookup x=some .local:=by first|exact .inl rfl|exact .inr rfl|assumption) :
 PS X (.Assign [.Name x pos'] e pos) (tAsg te (qpd i)):=by
 intro pins s σ H D I h;refine wpAny_Assign_Name (thn (he pins s σ H _ I h) fun v s1 xx21=>?_) hs;obtain ⟨y,H1,I1,r1,q1⟩:=xx21;exact qil I1 hN hi hx r1 (fun s2 I2=>⟨_,H1,I2,q1⟩) hf
def tPar (i j:Nat) (ta:TA):TS:=fun D σ H=>ta σ H fun vs H1 => ∃ v w,vs=[v,w]/\D.nx ((σ.set i (some v)).set j (some w)) H1
def zapw {i j:Nat}{x y:Str}{a b:Expr}{ta:TA}{px py pt:Pos}{kt k2 pt2} (hc:X.calm=true) (hN:X.N.Nodup) (hi:X.N[i]?=some x) (hj:X.N[j]?=some y) (hij:i≠j)
 (hx:X.env.scope.names.lookup x=some .local) (hy:X.env.scope.names.lookup y=some .local) (ha:PA X [a,b] ta)
 (hw:Qfp [.Tuple [.Name x px,.Name y py] kt pt] (.Tuple [a,b] k2 pt2) X.env=pure (some [x,y]))
 (hs:Qfq [.Tuple [.Name x px,.Name y py] kt pt] (.Tuple [a,b] k2 pt2) pos.line X.env=pure false:=by rfl) :
  PS X (.Assign [.Tuple [.Name x px,.Name y py] kt pt] (.Tuple [a,b] k2 pt2) pos) (tPar i j ta):=by
  intro pins s σ H D I h;rw [exec_Assign_arm];refine Qi (Qfs ?_);rw [hs];refine Qi (Q4 ?_);rw [if_neg (by decide)];refine Qi (Tuple_ (thn (ha _ pins s σ H _ I h) fun us s1 xx22=>?_));obtain ⟨vs,H1,I1,r1,q1⟩:=xx22;obtain ⟨v,w,e1,q1⟩:=q1;subst e1;obtain ⟨u1,u2,rfl,rv,rw'⟩ : ∃ u1 u2,us=[u1,u2]/\RelV v u1/\RelV w u2:=by
   cases r1 with
   | cons p q =>
    cases q with
    | cons p' q' =>
     cases q';exact ⟨_,_,rfl,p,p'⟩
  refine Jt ?_ (by show 2<=Q6;decide);have I2:Inv X pins σ H1 { s1 with heap:=s1.heap.push { cls :=.type "tuple",data :=.seq [u1,u2].toArray } }:=I1.kept (t':=s1.toks) fun b o e=>Qj _ e;rw [hw];refine Qi (Q4 ?_);show wpAny (model X.prog X.w) X.A (do rule "assign.swapped-stores";let items <- unpackItems (.ref s1.heap.objs.size) 2 none;Qin [fun v=>bindName X.env y v,fun v=>bindName X.env x v] items.reverse;pure Flow.next) _ _ _;refine Qi (Qdm (Qi (unpackItems_tuple (items := #[u1,u2]) (I.ok.hd hc) (Qlh s1.heap _) fun h' hx'=>?_)));have I3:=I2.kept (h':=h') (t':=s1.toks) fun b o e=>hx' b o (Q9 (Qx e)) e;show wpAny _ _ (Qin [fun v=>bindName X.env y v,fun v=>bindName X.env x v] [u2,u1] >>= fun _=>pure Flow.next) _ _ _;refine Qi (Qei (wpAny_bindName (qil I3 hN hj (.inl hy) rw' (fun s2 I4=>?_) (.inr hy))));refine Qei (wpAny_bindName (qil I4 hN hi (.inl hx) rv (fun s3 I5=>assignInOrder_nil (Q4 ?_)) (.inr hx)));rw [List.set_comm _ _ (Z0 hij)] at I5;exact ⟨_,H1,I5,q1⟩
end
section
variable {X:Cx}{pos:Pos}
def zapu (c:TT) (tb:TS):TS:=fun D σ H => ∃ W:Nat->St->Hp->Prop,(∃ m,W m σ H) /\ ∀ m σ H,W m σ H ->
 c σ H fun b H1=>if b=true then ∃ N:St->Hp->Prop,(∀ σ' H',N σ' H' -> ∃ m',m'<m/\W m' σ' H')/\tb { D with nx:=N,ct:=N,bk:=D.nx } σ H1 else D.nx σ H1
def qxc {c:Expr}{body:List Stmt}{tc:TT}{tb:TS} (hp:Qkm (model X.prog X.w) X.A X.env X.xe) (hc:PT X c tc) (hb:PSs X body tb):PS X (.While c body [] pos) (zapu tc tb):=by
 intro pins s σ H D I h;obtain ⟨W,⟨m0,w0⟩,turn⟩:=h;refine wpAny_While (codeAny_whileLoop (fun n s' => ∃ σ' H',Inv X pins σ' H' s'/\W n σ' H') ?_ m0 ⟨σ,H,I,w0⟩);rintro n s1 ⟨σ1,H1,I1,w1⟩;refine Ju hp (thn (hc pins s1 σ1 H1 _ I1 (turn n σ1 H1 w1)) fun b s2 xx23=>?_);obtain ⟨H2,I2,q2⟩:=xx23;cases b with
 | true =>
  obtain ⟨N,hN,q2⟩:=q2;rw [if_pos rfl];refine Ju hp (thn (hb pins s2 σ1 H2 _ I2 q2) fun f s3 q3=>?_);cases f with
  | next =>
   obtain ⟨σ3,H3,I3,n3⟩:=q3;obtain ⟨m',hm,w3⟩:=hN σ3 H3 n3;exact ⟨m',hm,σ3,H3,I3,w3⟩
  | cont =>
   obtain ⟨σ3,H3,I3,n3⟩:=q3;obtain ⟨m',hm,w3⟩:=hN σ3 H3 n3;exact ⟨m',hm,σ3,H3,I3,w3⟩
  | brk=>exact q3
  | ret v=>exact q3
 | false =>
  rw [if_neg Zo];exact Qdw ⟨σ1,H2,I2,q2⟩
end
structure It where
 go:Nat->Hp->Prop
 yld:Nat->Hp->V->Hp->Prop
 stop:Nat->Hp->Prop
def FpOk (X:Cx) (pins:List (Addr×Obj)) (H:Hp) (b:Addr):Prop :=
 H b=none/\b≠X.env.locals/\b ∉ X.fs/\(b ∈ X.ex\/X.s₀.heap.objs.size<=b)/\(∀ x c,X.env.cells.lookup x=some c->c≠b) /\ ∀ p ∈ X.pn++pins,p.1≠b
def Inv.fpOk {X:Cx}{pins:List (Addr×Obj)}{σ:St}{H H':Hp}{s:Ql}{b:Addr} (I:Inv X pins σ H s) (hb:s.heap.objs.size<=b) (hn:H' b=none):FpOk X pins H' b:=by
 refine ⟨hn,Yu (Zw I.lt hb),I.nofs hb,.inr (Zk I.sz hb),fun x c e z=>?_,fun p hp z=>?_⟩
 ·obtain ⟨v,q⟩:=I.cell x c e;exact absurd (Zw q.lt (by rw [z];exact hb)) (Jy _)
 ·exact absurd (Zw (Qx (I.pin p hp).1) (by rw [z];exact hb)) (Jy _)
structure Turn (P:Zj) (w:World) (K:Qd) (tg:Expr) (J:It) (fp:List Addr) (it:Addr) (tn:Nat->Heap->Prop):Prop where
 mem:it ∈ fp
 obj : ∀ i h,tn i h -> ∀ b ∈ fp,∃ o,h.get? b=some o /\ ∀ v,o.data ≠ .cell v
 keep : ∀ i h h',tn i h->(∀ b ∈ fp,∀ o,h.get? b=some o->h'.get? b=some o)->tn i h'
 item : ∀ (X:Cx),X.prog=P->X.w=w->X.K=K->X.calm=true -> ∀ (i:Nat) (pins:List (Addr×Obj)) (s:Ql) (σ:St) (H:Hp) (E:Value->Ql->Prop),Inv X pins σ H s->(∀ b ∈ fp,FpOk X pins H b)->tn i s.heap->J.go i H ->
  wpAny (model P w) X.A (Qgv (.ref it)) (fun r s1 => ∃ u,r=some u /\
   wpAny (model P w) X.A (Qcc tg (.ref it) u) (fun _ s2 => ∃ x H',Inv X pins σ H' s2/\RelV x u/\J.yld i H x H'/\tn (i+1) s2.heap /\ ∀ b ∈ fp,H' b=none) E s1) E s
 done : ∀ (X:Cx),X.prog=P->X.w=w->X.K=K->X.calm=true -> ∀ (i:Nat) (pins:List (Addr×Obj)) (s:Ql) (σ:St) (H:Hp) (E:Value->Ql->Prop),Inv X pins σ H s->(∀ b ∈ fp,FpOk X pins H b)->tn i s.heap->J.stop i H ->
  wpAny (model P w) X.A (Qgv (.ref it)) (fun r s1=>r=none/\Inv X pins σ H s1) E s
 self : ∀ (A:Z4) (i:Nat) (s:Ql) (Q:Value->Ql->Prop) (E:Value->Ql->Prop),tn i s.heap->Q (.ref it) s->wpAny (model P w) A (pyIter (.ref it)) Q E s
abbrev TI:=St->Hp->(It->Hp->Prop)->Prop
def PIE (X:Cx) (pins:List (Addr×Obj)) (σ:St) (tg:Expr) (R:It->Hp->Prop) (itv:Value) (s2:Ql):Prop :=
 ∃ (it:Addr) (fp:List Addr) (tn:Nat->Heap->Prop) (J:It) (H':Hp),itv = .ref it/\Inv X pins σ H' s2/\Turn X.prog X.w X.K tg J fp it tn/\tn 0 s2.heap/\(∀ b ∈ fp,FpOk X pins H' b)/\R J H'
def PI (X:Cx) (tg iter:Expr) (wi:TI):Prop :=
 ∀ (pins:List (Addr×Obj)) (s:Ql) (σ:St) (H:Hp) (R:It->Hp->Prop),Inv X pins σ H s->wi σ H R ->
  wpAny (model X.prog X.w) X.A (eval iter X.env) (fun v s1=>wpAny (model X.prog X.w) X.A (pyIter v) (PIE X pins σ tg R) X.xe s1) X.xe s
def zajy {M:Model}{A:Z4}{E:Value->Ql->Prop}{s:Ql}{tg:Expr}{it:Addr}{u:Value}{o:Obj}{n:String}{vs:Array Value}{Q:Unit->Ql->Prop} (ho:s.heap.get? it=some o) (hc:o.cls = .type n) (hd:o.data = .fields vs)
 (hn:["enumerate","zip","dict_itemiterator","dict_reverseitemiterator","odict_iterator","itertools.zip_longest","itertools.pairwise"].contains n=false) (hQ:Q () s):wpAny M A (Qcc tg (.ref it) u) Q E s:=by
  unfold Qcc;cases tg <;> first
   | exact Q4 hQ
   | (cases u <;> first
    | exact Q4 hQ
    | (refine Qi (wpAny_load ho ?_)
       rw [hc,hd];show wpAny M A (if (["enumerate","zip","dict_itemiterator","dict_reverseitemiterator","odict_iterator","itertools.zip_longest","itertools.pairwise"].contains n&&vs[0]?==some (Qek _))=true then _ else _) Q E s;rw [if_neg (by intro h;rw [hn,Bool.false_and] at h;cases h)];exact Q4 hQ))
def Itl (K:Qd) (a:Addr):It :=
 ⟨fun i H => ∃ xs x,SqL K H a xs/\xs[i]?=some x,fun i H x H'=>H'=H /\ ∀ xs,SqL K H a xs->xs[i]?=some x,fun i H => ∃ xs,SqL K H a xs/\xs.length<=i⟩
def Itt (K:Qd) (a:Addr):It :=
 ⟨fun i H => ∃ xs x,SqT K H a xs/\xs[i]?=some x,fun i H x H'=>H'=H /\ ∀ xs,SqT K H a xs->xs[i]?=some x,fun i H => ∃ xs,SqT K H a xs/\xs.length<=i⟩
def Itr (lo:Int) (n:Nat):It:=⟨fun i _=>i<n,fun i H x H'=>H'=H/\x = .int (lo+i),fun i _=>n<=i⟩
def zacv {P:Zj}{w:World}{K:Qd}{tg:Expr} (a it:Addr):Turn P w K tg (Itl K a) [it] it (fun i h=>h.IsListIter it a i) where
 mem:=by simp
 obj:=fun i h st b hb=>by
  have e:b=it:=by simpa using hb
  subst e;obtain ⟨o,e,c,d⟩:=st;exact ⟨o,e,fun v z=>by rw [d] at z;cases z⟩
 keep:=fun i h h' st k=>st.at fun o e=>k it (by simp) o e
 item:=by
  intro X hP hw hK hc i pins s σ H E I hf st hg;subst hP hw hK;obtain ⟨xs,x,hq,hx⟩:=hg;obtain ⟨its,rv,p,hz⟩:=I.list hq;obtain ⟨u,hu,ru⟩:=rv.get hx;obtain ⟨f0,f1,f2,f3,f4,f5⟩:=hf it (by simp);refine wpAny_pyNext_list_item st p.isList (x:=u) (by simpa using hu) fun h' st' sb=>?_;have I1:Inv X pins σ H { s with heap:=h' }:=I.turned (t':=s.toks) (fun b o hb e=>(sb.2 b hb).trans e) f0 f1 f3 f4 f5;obtain ⟨o,e,c,d⟩:=id st';exact ⟨u,rfl,zajy (s:={ s with heap:=h' }) e c d (by decide) ⟨x,H,I1,ru,⟨rfl,fun ys hy=>by rw [I.list_inj hy hq];exact hx⟩,st',fun b hb=>(hf b hb).1⟩⟩
 done:=by
  intro X hP hw hK hc i pins s σ H E I hf st hg;subst hP hw hK;obtain ⟨xs,hq,hx⟩:=hg;obtain ⟨its,rv,p,hz⟩:=I.list hq;obtain ⟨f0,f1,f2,f3,f4,f5⟩:=hf it (by simp);have hl:=rv.length;exact wpAny_pyNext_list_end (I.ok.hd hc) st p.isList (by simp;omega) fun h' eb=>⟨rfl,I.turned (t':=s.toks) (fun b o hb e=>eb b o hb e) f0 f1 f3 f4 f5⟩
 self:=fun _ _ _ _ _ st h=>wpAny_pyIter_listiter st h
def qzh {P:Zj}{w:World}{K:Qd}{tg:Expr} (a it:Addr):Turn P w K tg (Itt K a) [it] it (fun i h=>h.IsTupleIter it a i) where
 mem:=by simp
 obj:=fun i h st b hb=>by
  have e:b=it:=by simpa using hb
  subst e;obtain ⟨o,e,c,d⟩:=st;exact ⟨o,e,fun v z=>by rw [d] at z;cases z⟩
 keep:=fun i h h' st k=>st.at fun o e=>k it (by simp) o e
 item:=by
  intro X hP hw hK hc i pins s σ H E I hf st hg;subst hP hw hK;obtain ⟨xs,x,hq,hx⟩:=hg;obtain ⟨its,rv,p,hz⟩:=I.tuple hq;obtain ⟨u,hu,ru⟩:=rv.get hx;obtain ⟨f0,f1,f2,f3,f4,f5⟩:=hf it (by simp);refine wpAny_pyNext_tuple_item st (show s.heap.IsTuple a its.toArray from p) (x:=u) (by simpa using hu) fun h' st' sb=>?_;have I1:Inv X pins σ H { s with heap:=h' }:=I.turned (t':=s.toks) (fun b o hb e=>(sb.2 b hb).trans e) f0 f1 f3 f4 f5;obtain ⟨o,e,c,d⟩:=id st';exact ⟨u,rfl,zajy (s:={ s with heap:=h' }) e c d (by decide) ⟨x,H,I1,ru,⟨rfl,fun ys hy=>by rw [I.tuple_inj hy hq];exact hx⟩,st',fun b hb=>(hf b hb).1⟩⟩
 done:=by
  intro X hP hw hK hc i pins s σ H E I hf st hg;subst hP hw hK;obtain ⟨xs,hq,hx⟩:=hg;obtain ⟨its,rv,p,hz⟩:=I.tuple hq;obtain ⟨f0,f1,f2,f3,f4,f5⟩:=hf it (by simp);have hl:=rv.length;exact wpAny_pyNext_tuple_end (I.ok.hd hc) st (show s.heap.IsTuple a its.toArray from p) (by simp;omega) fun h' eb=>⟨rfl,I.turned (t':=s.toks) (fun b o hb e=>eb b o hb e) f0 f1 f3 f4 f5⟩
 self:=fun _ _ _ _ _ st h=>wpAny_pyIter_tupleiter st h
def qzu {P:Zj}{w:World}{K:Qd}{tg:Expr} (it:Addr) (lo:Int) (n:Nat):Turn P w K tg (Itr lo n) [it] it (fun i h=>IsRangeIter h it (lo+(i:Nat)*1) ((n:Int)-(i:Nat)) 1) where
 mem:=by simp
 obj:=fun i h st b hb=>by
  have e:b=it:=by simpa using hb
  subst e;exact ⟨_,st,fun v z=>by
   have z':Qjy _=Qib v:=z;cases z'⟩
 keep:=fun i h h' st k=>k it (by simp) _ st
 item:=by
  intro X hP hw hK hc i pins s σ H E I hf st hg;subst hP hw hK;obtain ⟨f0,f1,f2,f3,f4,f5⟩:=hf it (by simp);have W:=Walks.range (prog:=X.prog) (w:=X.w) (I.ok.hd hc) it lo 1 n;refine W.item i s _ _ hg st fun v h' tk hv st' kk=>?_;obtain ⟨t,rfl⟩:=hv;have I1:Inv X pins σ H { s with heap:=h',toks:=tk }:=I.turned (fun b o hb e=>kk b o (by simpa using hb) e) f0 f1 f3 f4 f5;refine ⟨_,rfl,zajy (s:={ s with heap:=h',toks:=tk }) (n := "range_iterator") st' rfl rfl (by decide) ⟨.int (lo+i),H,I1,⟨t,?_⟩,⟨rfl,rfl⟩,st',fun b hb=>(hf b hb).1⟩⟩;rw [Qcj]
 done:=by
  intro X hP hw hK hc i pins s σ H E I hf st hg;subst hP hw hK;obtain ⟨f0,f1,f2,f3,f4,f5⟩:=hf it (by simp);exact wpAny_pyNext_range_end (I.ok.hd hc) st (by have:n<=i:=hg;omega) fun h' eb=>⟨rfl,I.turned (t':=s.toks) (fun b o hb e=>eb b o hb e) f0 f1 f3 f4 f5⟩
 self:=fun _ _ _ _ _ st h=>wpAny_pyIter_rangeiter st h
end
section
section
variable {X:Cx}{tg:Expr}
def zahx {pins:List (Addr×Obj)}{σ:St}{H:Hp}{s:Ql}{R:It->Hp->Prop}{E:Value->Ql->Prop}{lo hi:Int}{t u v:Tok}{tk:Nat} (I:Inv X pins σ H s) (h1 : -(2^62)<=lo) (h2:lo<2^62) (h3 : -(2^62)<=hi) (h4:hi<2^62)
 (q:R (Itr lo (hi-lo).toNat) H):wpAny (model X.prog X.w) X.A (pyIter (.ref s.heap.objs.size)) (PIE X pins σ tg R) E { s with heap:=s.heap.push { cls :=.type "range",data :=.fields #[.int lo t,.int hi u,.int 1 v] },toks:=tk }:=by
  refine wpAny_pyIter_range (IsRange.new ..) (small_one h1 h2 h3 h4) ?_;have I1:Inv X pins σ H { s with heap:=s.heap.push { cls :=.type "range",data :=.fields #[.int lo t,.int hi u,.int 1 v] },toks:=tk }:=I.kept fun b o e=>Qj _ e;refine ⟨(s.heap.push { cls :=.type "range",data :=.fields #[.int lo t,.int hi u,.int 1 v] }).objs.size,[(s.heap.push { cls :=.type "range",data :=.fields #[.int lo t,.int hi u,.int 1 v] }).objs.size],_,_,H,rfl,
   I1.kept (t':=tk) fun b o e=>Qj _ e,qzu _ lo (hi-lo).toNat,?_,fun b hb=>?_,q⟩
  ·have e1:lo+((0:Nat):Int)*1=lo:=by simp
   have e2:(((hi-lo).toNat:Nat):Int)-((0:Nat):Int)=Qkx lo hi 1:=by rw [rangeSize_one];split <;> omega
   show IsRangeIter _ _ (lo+((0:Nat):Int)*1) ((((hi-lo).toNat:Nat):Int)-((0:Nat):Int)) 1;rw [e1,e2];exact Qz _ rfl
  ·have e:b=(s.heap.push { cls :=.type "range",data :=.fields #[.int lo t,.int hi u,.int 1 v] }).objs.size:=by simpa using hb
   subst e;exact I1.fpOk (Qr _) (I1.hok.fresh (Qr _))
def zart (ta:TA):TI:=fun σ H R=>ta σ H fun vs H1 => ∃ j:Int,vs=[.int j] /\ -(2^62)<=j/\j<2^62/\R (Itr 0 j.toNat) H1
def zaee {a:Expr}{ta:TA}{p pos:Pos} (hg:Gl X "range") (hm:X.mg "range" = none) (ha:PA X [a] ta) (hs:Qw [a] X.env=[(false,eval a X.env)]:=by rfl):PI X tg (.Call (.Name "range" p) [a] [] pos) (zart ta):=by
 intro pins s σ H R I h;refine Call_ (qlc I hg hm boot_range (V8 (thn (ha pos pins s σ H _ I h) fun us s1 xx24=>?_) hs rfl));obtain ⟨vs,H1,I1,r1,q1⟩:=xx24;obtain ⟨j,e,q1,q2,q⟩:=q1;subst e;cases r1 with
 | cons r rr =>
  cases rr;obtain ⟨t,rfl⟩:=r;exact call_range_1 (zahx I1 (by omega) (by omega) q1 q2 (by simpa using q))
def tFor (wi:TI) (g:TG) (tb:TS):TS:=fun D σ H=>wi σ H fun J H1 => ∃ W:Nat->Nat->St->Hp->Prop,(∃ m,W 0 m σ H1) /\ ∀ i m σ H,W i m σ H ->
 (J.stop i H/\D.nx σ H)\/(J.go i H /\ ∃ N:St->Hp->Prop,(∀ σ' H',N σ' H' -> ∃ m',m'<m/\W (i+1) m' σ' H') /\ ∀ x H',J.yld i H x H'->g x σ H' fun σ2 H2=>tb { D with nx:=N,ct:=N,bk:=D.nx } σ2 H2)
def qvt (fp:List Addr) (h:Heap):List (Addr×Obj):=fp.filterMap fun b=>(h.get? b).map fun o=>(b,o)
def qha {fp:List Addr}{h:Heap}{b:Addr}{o:Obj} (hb:b ∈ fp) (e:h.get? b=some o):(b,o) ∈ qvt fp h:=Qic.mpr ⟨b,hb,by rw [e];rfl⟩
def zacy {fp:List Addr}{h:Heap}{p:Addr×Obj} (hp:p ∈ qvt fp h):p.1 ∈ fp/\h.get? p.1=some p.2:=by
 obtain ⟨b,hb,e⟩:=Qic.mp hp;cases q:h.get? b with
 | none=>rw [q] at e;cases e
 | some o =>
  rw [q] at e;have e':(b,o)=p:=Qp e;subst e';exact ⟨hb,q⟩
def Inv.pinned {pins:List (Addr×Obj)}{σ:St}{H:Hp}{s:Ql}{fp:List Addr} (I:Inv X pins σ H s) (hf : ∀ b ∈ fp,FpOk X pins H b) (ho : ∀ b ∈ fp,∃ o,s.heap.get? b=some o /\ ∀ v,o.data ≠ .cell v):Inv X (pins++qvt fp s.heap) σ H s :=
 I.pins_of fun p hp=>(Zf.mp hp).elim (fun z=>I.pin p (Q8 _ z)) fun z=>by
  obtain ⟨hb,e⟩:=zacy z;obtain ⟨f0,f1,f2,_⟩:=hf p.1 hb;obtain ⟨o,e',d⟩:=ho p.1 hb;rw [e] at e';cases e';exact ⟨e,f0,f1,f2,d⟩
def Inv.unpinned {pins pl:List (Addr×Obj)}{σ:St}{H:Hp}{s:Ql} (I:Inv X (pins++pl) σ H s):Inv X pins σ H s:=I.pins_of fun p hp=>I.pin p (Q8 _ (Ya _ hp))
def zaiq {iter:Expr}{body:List Stmt}{wi:TI}{g:TG}{tb:TS}{pos:Pos} (hp:Qkm (model X.prog X.w) X.A X.env X.xe) (hc:X.calm=true) (hi:PI X tg iter wi) (hg:PG X tg g) (hb:PSs X body tb)
 (hs : ∀ x,Yg iter X.env x=pure x:=by intro _;rfl):PS X (.For tg iter body [] pos) (tFor wi g tb):=by
  intro pins s σ H D I h;refine wpAny_For (thn (hi pins s σ H _ I h) fun v s1 h1=>thn h1 fun itv s2 h2=>?_) hs;obtain ⟨it,fp,tn,J,H2,e,I2,T,st2,f2,W,⟨m0,w0⟩,turn⟩:=h2;subst e;have stat : ∀ {H':Hp},(∀ b ∈ fp,H' b=none) -> ∀ b ∈ fp,FpOk X pins H' b:=fun hn b hb=>⟨hn b hb,(f2 b hb).2⟩
  refine codeAny_forLoop_any (fun n s' => ∃ i σ' H',Inv X pins σ' H' s'/\tn i s'.heap/\(∀ b ∈ fp,H' b=none)/\W i n σ' H') ?_ m0 ⟨0,σ,H2,I2,st2,fun b hb=>(f2 b hb).1,w0⟩;rintro n s3 ⟨i,σ3,H3,I3,st3,fr3,w3⟩;rcases turn i n σ3 H3 w3 with ⟨stop,qn⟩|⟨go,N,hN,step⟩
  ·refine Ju hp (thn (T.done X rfl rfl rfl hc i pins s3 σ3 H3 X.xe I3 (stat fr3) st3 stop) fun r s4 xx28=>?_);obtain ⟨hr,I4⟩:=xx28;subst hr;exact Qdw ⟨σ3,H3,I4,qn⟩
  ·refine Ju hp (thn (T.item X rfl rfl rfl hc i pins s3 σ3 H3 X.xe I3 (stat fr3) st3 go) fun r s4 xx27=>?_);obtain ⟨u,hr,h4⟩:=xx27;subst hr;refine Ju hp (thn h4 fun _ s5 xx26=>?_);obtain ⟨x,H5,I5,r5,y5,st5,fr5⟩:=xx26;have I5':=I5.pinned (stat fr5) (T.obj _ _ st5);refine Ju hp (thn (hg _ s5 σ3 H5 x u _ I5' r5 (step x H5 y5)) fun _ s6 xx25=>?_);obtain ⟨σ6,H6,I6,q6⟩:=xx25;refine Ju hp (thn (hb _ s6 σ6 H6 _ I6 q6) fun f s7 q7=>?_);have again : ∀ {σ7:St}{H7:Hp},Inv X (pins++qvt fp s5.heap) σ7 H7 s7->N σ7 H7 -> ∃ m,m<n /\ ∃ i σ' H',Inv X pins σ' H' s7/\tn i s7.heap/\(∀ b ∈ fp,H' b=none)/\W i m σ' H':=fun {σ7 H7} I7 n7=>by
    obtain ⟨m',hm,w7⟩:=hN σ7 H7 n7;refine ⟨m',hm,i+1,σ7,H7,I7.unpinned,T.keep _ _ _ st5 fun b hb o e=>(I7.pin (b,o) (Q8 _ (Q8 _ (qha hb e)))).1,fun b hb=>?_,w7⟩;obtain ⟨o,e,d⟩:=T.obj _ _ st5 b hb;exact (I7.pin (b,o) (Q8 _ (Q8 _ (qha hb e)))).2.1
   cases f with
   | next=>obtain ⟨σ7,H7,I7,n7⟩:=q7;exact again I7 n7
   | cont=>obtain ⟨σ7,H7,I7,n7⟩:=q7;exact again I7 n7
   | brk=>obtain ⟨σ7,H7,I7,q7⟩:=q7;exact ⟨σ7,H7,I7.unpinned,q7⟩
   | ret v=>obtain ⟨x7,σ7,H7,I7,r7,q7⟩:=q7;exact ⟨x7,σ7,H7,I7.unpinned,r7,q7⟩
end
end
section
abbrev R2:=V->V->Hp->VK->Prop
def OpR (X:Cx) (f:Value->Value->Sem Value) (r:R2):Prop :=
 ∀ (pins:List (Addr×Obj)) (s:Ql) (σ:St) (H:Hp) (x y:V) (v u:Value) (Q:VK),Inv X pins σ H s->RelV x v->RelV y u->r x y H Q ->
  wpAny (model X.prog X.w) X.A (f v u) (EP X pins σ Q) X.xe s
def UnR (X:Cx) (f:Value->Sem Value) (r:V->Hp->VK->Prop):Prop :=
 ∀ (pins:List (Addr×Obj)) (s:Ql) (σ:St) (H:Hp) (x:V) (v:Value) (Q:VK),Inv X pins σ H s->RelV x v->r x H Q ->
  wpAny (model X.prog X.w) X.A (f v) (EP X pins σ Q) X.xe s
def CallR (X:Cx) (f:Value) (r:List V->Hp->VK->Prop):Prop :=
 ∀ (pins:List (Addr×Obj)) (s:Ql) (σ:St) (H:Hp) (xs:List V) (us:List Value) (Q:VK),Inv X pins σ H s->Vals xs us->r xs H Q ->
  wpAny (model X.prog X.w) X.A (call f us) (EP X pins σ Q) X.xe s
def TruR (X:Cx) (r:V->Hp->(Bool->Hp->Prop)->Prop):Prop :=
 ∀ (pins:List (Addr×Obj)) (s:Ql) (σ:St) (H:Hp) (x:V) (v:Value) (Q:Bool->Hp->Prop),Inv X pins σ H s->RelV x v->r x H Q ->
  wpAny (model X.prog X.w) X.A (truthy v) (TP X pins σ Q) X.xe s
def tOp (r:R2) (ta tb:TE):TE:=fun σ H Q=>ta σ H fun x H1=>tb σ H1 fun y H2=>r x y H2 Q
def tUn (r:V->Hp->VK->Prop) (ta:TE):TE:=fun σ H Q=>ta σ H fun x H1=>r x H1 Q
def rI (C:Int->Int->Prop) (g:Int->Int->V):R2:=fun x y H Q => ∃ i j,x = .int i/\y = .int j/\C i j/\Q (g i j) H
def rI0 (g:Int->Int->V):R2:=fun x y H Q => ∃ i j,x = .int i/\y = .int j/\Q (g i j) H
def rU (g:Int->V):V->Hp->VK->Prop:=fun x H Q => ∃ i,x = .int i/\Q (g i) H
section
variable {X:Cx}{a b c:Expr}{ta tb tc:TE}{pos:Pos}
def binT (ha:PE X a ta) (hb:PE X b tb) {pins:List (Addr×Obj)}{s:Ql}{σ:St}{H:Hp}{R:V->V->Hp->Prop} (I:Inv X pins σ H s)
 (h:ta σ H fun x H1=>tb σ H1 fun y H2=>R x y H2) {Q:Value->Ql->Prop}{f:Value->Value->Sem Value}
 (hf : ∀ v u s2 x y H2,Inv X pins σ H2 s2->RelV x v->RelV y u->R x y H2->wpAny (model X.prog X.w) X.A (f v u) Q X.xe s2) :
 wpAny (model X.prog X.w) X.A (eval a X.env) (fun v s₁=>wpAny (model X.prog X.w) X.A (eval b X.env) (fun u s₂=>wpAny (model X.prog X.w) X.A (f v u) Q X.xe s₂) X.xe s₁) X.xe s:=by
  refine thn (ha pins s σ H _ I h) fun v s1 xx30=>?_;obtain ⟨x,H1,I1,r1,q1⟩:=xx30;refine thn (hb pins s1 σ H1 _ I1 q1) fun u s2 xx29=>?_;obtain ⟨y,H2,I2,r2,q2⟩:=xx29;exact hf v u s2 x y H2 I2 r1 r2 q2
def zaoo {op:Operator}{r:R2} (ho:OpR X (Je op) r) (ha:PE X a ta) (hb:PE X b tb):PE X (.BinOp a op b pos) (tOp r ta tb):=by
 intro pins s σ H Q I h;exact Qkp (binT ha hb I h fun v u s2 x y H2 I2 rx ry q=>ho pins s2 σ H2 x y v u Q I2 rx ry q)
def zany {op:UnaryOp}{r:V->Hp->VK->Prop} (ho:UnR X (unaryOp op) r) (ha:PE X a ta):PE X (.UnaryOp op a pos) (tUn r ta):=by
 intro pins s σ H Q I h;exact UnaryOp_ (thn (ha pins s σ H _ I h) fun v s1 xx31=>by obtain ⟨x,H1,I1,r1,q1⟩:=xx31;exact ho pins s1 σ H1 x v Q I1 r1 q1)
def opI {f:Value->Value->Sem Value}{C:Int->Int->Prop}{g:Int->Int->Int}
 (rule : ∀ (i j:Int) (t u:Tok) (s:Ql) (Q:Value->Ql->Prop) (E:Value->Ql->Prop),C i j->Q (.int (g i j) s.toks) { s with toks:=s.toks+1 }->wpAny (model X.prog X.w) X.A (f (.int i t) (.int j u)) Q E s) :
  OpR X f (rI C fun i j => .int (g i j)):=by
  intro pins s σ H x y v u Q I rx ry h;obtain ⟨i,j,rfl,rfl,hc,q⟩:=h;obtain ⟨t,rfl⟩:=rx;obtain ⟨t',rfl⟩:=ry;exact rule i j t t' s _ _ hc ⟨.int (g i j),H,I.tok _,⟨_,rfl⟩,q⟩
def opI0 {f:Value->Value->Sem Value}{g:Int->Int->Int}
 (rule : ∀ (i j:Int) (t u:Tok) (s:Ql) (Q:Value->Ql->Prop) (E:Value->Ql->Prop),Q (.int (g i j) s.toks) { s with toks:=s.toks+1 }->wpAny (model X.prog X.w) X.A (f (.int i t) (.int j u)) Q E s) :
  OpR X f (rI0 fun i j => .int (g i j)):=by
  intro pins s σ H x y v u Q I rx ry h;obtain ⟨i,j,rfl,rfl,q⟩:=h;obtain ⟨t,rfl⟩:=rx;obtain ⟨t',rfl⟩:=ry;exact rule i j t t' s _ _ ⟨.int (g i j),H,I.tok _,⟨_,rfl⟩,q⟩
def opB0 {f:Value->Value->Sem Value}{g:Int->Int->Bool}
 (rule : ∀ (i j:Int) (t u:Tok) (s:Ql) (Q:Value->Ql->Prop) (E:Value->Ql->Prop),Q (.bool (g i j)) s->wpAny (model X.prog X.w) X.A (f (.int i t) (.int j u)) Q E s) :
 OpR X f (rI0 fun i j => .bl (g i j)):=by
  intro pins s σ H x y v u Q I rx ry h;obtain ⟨i,j,rfl,rfl,q⟩:=h;obtain ⟨t,rfl⟩:=rx;obtain ⟨t',rfl⟩:=ry;exact rule i j t t' s _ _ ⟨.bl (g i j),H,I,rfl,q⟩
def zarg:OpR X (Je .Add) (rI0 fun i j => .int (i+j)):=opI0 fun _ _ _ _ _ _ _ q=>add_int q
def zaqc:OpR X (Je .Sub) (rI0 fun i j => .int (i-j)):=opI0 fun _ _ _ _ _ _ _ q=>sub_int q
def zaow:OpR X (Je .Mod) (rI (fun _ j=>0<j) fun i j => .int (i%j)):=opI fun i j _ _ _ _ _ hc q=>by
 have h1:(0:Int)<j:=hc;exact mod_int' (by omega) (by rw [Int.fmod_eq_emod_of_nonneg i (by omega)];exact q)
def unI {f:Value->Sem Value}{g:Int->Int}
 (rule : ∀ (i:Int) (t:Tok) (s:Ql) (Q:Value->Ql->Prop) (E:Value->Ql->Prop),Q (.int (g i) s.toks) { s with toks:=s.toks+1 }->wpAny (model X.prog X.w) X.A (f (.int i t)) Q E s) :
  UnR X f (rU fun i => .int (g i)):=by
  intro pins s σ H x v Q I rx h;obtain ⟨i,rfl,q⟩:=h;obtain ⟨t,rfl⟩:=rx;exact rule i t s _ _ ⟨.int (g i),H,I.tok _,⟨_,rfl⟩,q⟩
def zajm:UnR X (unaryOp .USub) (rU fun i => .int (-i)):=unI fun _ _ _ _ _ q=>neg_int q
end
section
variable {X:Cx}{a b c:Expr}{ta tb tc:TE}{pos:Pos}
def zaja {pins:List (Addr×Obj)}{σ:St}{H:Hp}{s:Ql}{Q:VK}{k k':Bool} (I:Inv X pins σ H s) (q:Q (.bl k) H) (e:k=k'):EP X pins σ Q (.bool k') s:=by
 subst e;exact ⟨.bl k,H,I,rfl,q⟩
def zatr:OpR X (Vc .Lt) (rI0 fun i j => .bl (decide (i<j))):=opB0 fun _ _ _ _ _ _ _ q=>lt_int q
def zars:OpR X (Vc .Gt) (rI0 fun i j => .bl (decide (j<i))):=opB0 fun _ _ _ _ _ _ _ q=>gt_int q
def zatw:OpR X (Vc .GtE) (rI0 fun i j => .bl (decide (j<=i))):=opB0 fun _ _ _ _ _ _ _ q=>ge_int q
def zaqf:OpR X (Vc .Is) (fun x y H Q=>y = .non/\Q (.bl (decide (x = .non))) H):=by
 intro pins s σ H x y v u Q I rx ry h;obtain ⟨rfl,q⟩:=h;cases ry;refine is_none_gen (zaja I q ?_);cases x <;> first
  | (cases rx;rfl)
  | (obtain ⟨t,rfl⟩:=rx;rfl)
def zajo (b:Expr) {op:CmpOp} (h:op ≠ .In:=by decide) (h2:op ≠ .NotIn:=by decide):Qca op b=false:=by
 have e1:(op==CmpOp.In)=false:=by cases op <;> first|rfl|exact absurd rfl h
 have e2:(op==CmpOp.NotIn)=false:=by cases op <;> first|rfl|exact absurd rfl h2
 cases b <;> simp [Qca,e1,e2]
def zamh {op:CmpOp}{r:R2} (ho:OpR X (Vc op) r) (ha:PE X a ta) (hb:PE X b tb) (hm:Qca op b=false):PE X (.Compare a [op] [b] pos) (tOp r ta tb):=by
 intro pins s σ H Q I h;exact wpAny_Compare1 (binT ha hb I h fun v u s2 x y H2 I2 rx ry q=>ho pins s2 σ H2 x y v u Q I2 rx ry q) hm
def zato (t:TE):TT:=fun σ H Q=>t σ H fun x H' => ∃ k,x = .bl k/\Q k H'
def zanm {op:CmpOp}{r:R2} (ho:OpR X (Vc op) r) (ha:PE X a ta) (hb:PE X b tb) (hm:Qca op b=false):PT X (.Compare a [op] [b] pos) (zato (tOp r ta tb)):=by
 intro pins s σ H Q I h;refine wpAny_isTrue_Compare1 (thn (ha pins s σ H _ I h) fun v s1 ⟨x,H1,I1,r1,q1⟩=>thn (hb pins s1 σ H1 _ I1 q1) fun u s2 ⟨y,H2,I2,r2,q2⟩ =>
  thn (ho pins s2 σ H2 x y v u _ I2 r1 r2 q2) fun c s3 ⟨z,H3,I3,r3,k,e,q3⟩=>?_) hm
 subst e;cases r3;exact V6 ⟨H3,I3,q3⟩
def TruV (K:Qd) (x:V) (H:Hp) (k:Bool):Prop :=
 match x with
 | .non=>k=false
 | .bl b=>k=b
 | .int i=>k=(i != 0)
 | .str y=>y.length<=Q6/\k=((y.length:Int) != 0)
 | .byt y=>y.size<=Q6/\k=((y.size:Int) != 0)
 | .ref p=>(∃ xs,SqL K H p xs/\k = !xs.isEmpty)\/(∃ xs,SqT K H p xs/\k = !xs.isEmpty) \/ ∃ kvs,H p=some (.dK kvs)/\k = !kvs.isEmpty
 | _=>False
def qyx {κ:Type}{kvs:List (κ×V)}{vs:List (κ×Value)} (r:KV kvs vs):(!vs.isEmpty) = !kvs.isEmpty:=by
 cases r <;> rfl
def qql {xs:List V}{its:List Value} (r:Vals xs its):(!its.toArray.isEmpty) = !xs.isEmpty:=by
 cases r <;> simp
def qlb:(Q6:Nat)<2^63:=by rw [Yr];decide
def zaqw:TruR X (fun x H Q => ∃ k,TruV X.K x H k/\Q k H):=by
 intro pins s σ H x v Q I rx h;obtain ⟨k,e,q⟩:=h;have hl:=qlb;have hs:Q6=16777216:=Yr;cases x with
 | non =>
  cases rx;have e':k=false:=e;subst e';exact truthy_none ⟨H,I,q⟩
 | bl b =>
  cases rx;have e':k=b:=e;subst e';exact V6 ⟨H,I,q⟩
 | int i =>
  obtain ⟨t,rfl⟩:=rx;have e':k=(i != 0):=e;subst e';exact PySem.P.truthy_int ⟨H,I,q⟩
 | str y =>
  obtain ⟨t,rfl⟩:=rx;obtain ⟨hy,e'⟩:y.length<=Q6/\k=((y.length:Int) != 0):=e;subst e';exact PySem.P.truthy_str (by omega) ⟨H,I.tok _,q⟩
 | byt y =>
  obtain ⟨t,rfl⟩:=rx;obtain ⟨hy,e'⟩:y.size<=Q6/\k=((y.size:Int) != 0):=e;subst e';exact PySem.W.truthy_bytes (by omega) ⟨H,I.tok _,q⟩
 | ref p =>
  cases rx;have e':(∃ xs,SqL X.K H p xs/\k = !xs.isEmpty)\/(∃ xs,SqT X.K H p xs/\k = !xs.isEmpty) \/ ∃ kvs,H p=some (.dK kvs)/\k = !kvs.isEmpty:=e;rcases e' with ⟨xs,hx,e'⟩|⟨xs,hx,e'⟩|⟨kvs,hx,e'⟩
  ·subst e';obtain ⟨its,r,pl,hz⟩:=I.list hx;have hlen:=r.length;exact wpAny_truthy_list pl.isList (by simp only [Qs];omega) ⟨H,I.tok _,by rw [qql r];exact q⟩
  ·subst e';obtain ⟨its,r,pl,hz⟩:=I.tuple hx;have hlen:=r.length;exact truthy_tuple pl (by simp only [Qs];omega) ⟨H,I.tok _,by rw [qql r];exact q⟩
  ·subst e';obtain ⟨hz,hS,vs,r,m⟩:kvs.length<=Q6/\(p==Qad)=false /\ ∃ vs,KV kvs vs/\s.heap.DictOf (qcg X.prog X.w) p vs:=I.hok p _ hx;have hlen:kvs.length=vs.length:=Qia r;exact wpAny_truthy_dict hS m (by omega) ⟨H,I.tok _,by rw [qyx r];exact q⟩
 | _=>exact (show False from e).elim
def zagz (ha:PE X a ta) (he : ∀ whole,isTrue a X.env whole=(do let v <- whole;Qgw a.pos;Qdd [v] (truthy v))) :
 PT X a (fun σ H Q=>ta σ H fun x H' => ∃ k,TruV X.K x H' k/\Q k H'):=by
  intro pins s σ H Q I h;exact isTrue_plain (thn (ha pins s σ H _ I h) fun v s1 xx35=>by obtain ⟨x,H1,I1,r1,q1⟩:=xx35;exact zaqw pins s1 σ H1 x v Q I1 r1 q1) (he _)
def qyz:OpR X (Je .Add) (fun x y H Q => ∃ i j,x = .str i/\y = .str j/\i.length+j.length<=Q6/\Q (.str (i++j)) H):=by
 intro pins s σ H x y v u Q I rx ry h;obtain ⟨i,j,rfl,rfl,hz,q⟩:=h;obtain ⟨t,rfl⟩:=rx;obtain ⟨t',rfl⟩:=ry;exact add_str (fun t' tk=>⟨.str (i++j),H,I.tok _,⟨_,rfl⟩,q⟩) hz
def qkk {x:V}{us:List Value} (r:Vals [x] us) : ∃ u,us=[u]/\RelV x u:=by
 cases r with
 | cons r1 r2=>cases r2;exact ⟨_,rfl,r1⟩
def zanz {x y:V}{us:List Value} (r:Vals [x,y] us) : ∃ u w',us=[u,w']/\RelV x u/\RelV y w':=by
 cases r with
 | cons r1 r2 =>
  cases r2 with
  | cons r3 r4=>cases r4;exact ⟨_,_,rfl,r1,r3⟩
def zafl:CallR X (.builtin "abs") (fun xs H Q => ∃ i,xs=[.int i]/\Q (.int (if i<0 then -i else i)) H):=by
 intro pins s σ H xs us Q I r h;obtain ⟨i,rfl,q⟩:=h;obtain ⟨u,rfl,t,rfl⟩:=qkk r;exact call_abs_int fun u tk=>⟨.int (if i<0 then -i else i),H,I.tok _,⟨_,rfl⟩,q⟩
def zaem:CallR X (.type "int") (fun xs H Q=>(∃ i,xs=[.int i]/\Q (.int i) H) \/ ∃ k,xs=[.bl k]/\Q (.int (if k then 1 else 0)) H):=by
 intro pins s σ H xs us Q I r h;rcases h with ⟨i,rfl,q⟩|⟨k,rfl,q⟩
 ·obtain ⟨u,rfl,t,rfl⟩:=qkk r;exact call_int_int ⟨.int i,H,I,⟨_,rfl⟩,q⟩
 ·obtain ⟨u,rfl,r1⟩:=qkk r;cases r1;exact call_int_bool ⟨.int (if k then 1 else 0),H,I.tok _,⟨_,rfl⟩,q⟩
end
end
section
structure ObjM (h:Heap) (x dx C:Addr) (mA:Str->Option Value):Prop where
 obj:h.get? x=some (V7 C dx)
 ns:h.Ns1 dx mA
 ne:dx≠x
def zaeo {h:Heap}{dx:Addr}{mA:Str->Option Value} (n:h.Ns1 dx mA) : ∃ od,h.get? dx=some od /\ ∀ name,Qem name od=some (mA name):=by
 obtain ⟨o,es,ep,ho,hd,hk,_,hm⟩:=n;refine ⟨o,ho,fun name=>?_⟩;have e:=hm name;unfold nsFind findBy at e;rw [<- Array.find?_toList] at e;unfold Qem;rw [hd];dsimp only;split
 ·rename_i y q;rw [q] at e;exact congrArg some e
 ·rename_i q;rw [q] at e;have a:es.toList.any (·.refKey)=false:=by
   rw [List.any_eq_false];intro y hy;obtain ⟨z,t,hkey⟩:=hk y (Array.mem_toList_iff.mp hy);simp [Qdv.refKey,hkey]
  have a' : ¬ es.toList.any (·.refKey)=true:=by rw [a];exact Zo
  rw [if_neg a'];exact congrArg some e
def ObjM.look {h:Heap}{x dx C:Addr}{mA:Str->Option Value} (I:ObjM h x dx C mA) : ∃ od,PySem.W.InstAt h x (V7 C dx) C (some od) /\ ∀ name,Qem name od=some (mA name) :=
 let ⟨od,ho,hl⟩:=zaeo I.ns
 ⟨od,⟨I.obj,rfl,rfl,ho⟩,hl⟩
section
variable {prog:Zj}{w:World}{A:Z4}{E:Value->Ql->Prop}{s:Ql}{K:Qd}{x dx C f:Addr}{mA:Str->Option Value}{name:Str}{v:Value}
def zalg {expr:Bool}{Q:Value->Ql->Prop} (X:K.In s.heap) (I:ObjM s.heap x dx C mA) (hg:Qbe K C name=true) (hh:Qck K C=true)
 (ha:Zr K (.ref C) name=some none) (hv:mA name=some v) (hv':Qjj v=true) (h:Q v { s with toks:=s.toks+1 }) :
  wpAny (model prog w) A (getAttr (.ref x) name expr) Q E s:=by
  obtain ⟨od,J,hl⟩:=I.look;exact PySem.W.get_value X J (Qdn hg).1 (PySem.W.findObj_own hh ha rfl (by rw [hl,hv])) hv' h
def zagf {pl:Sem Bool}{Q:Value×List Value->Ql->Prop} (X:K.In s.heap) (I:ObjM s.heap x dx C mA) (hg:Qbe K C name=true)
 (hf:Zr K (.ref C) name=some (some (.ref f))) (ht:Jv K (.ref f)=true) (hv:mA name=none) (h:Q (.ref f,[.ref x]) s) :
 wpAny (model prog w) A (Qip (.ref x) name pl) Q E s:=by
  obtain ⟨od,J,hl⟩:=I.look;exact PySem.W.method_fn X J (Qdn hg).1 (Qdn hg).2 hf (beq_iff_eq.mp ht) (by show (Qem name od).map (·.isSome)=some false;rw [hl,hv];rfl) h
def zank {ns:List Str}{Q:Unit->Ql->Prop} (X:K.In s.heap) (I:ObjM s.heap x dx C mA)
 (hs:Zr K (.ref C) "__setattr__" = some (some (.builtin "object.__setattr__"))) (hp:Qey K C=true) (ht:Qgb K C name=some none) (hh:Qck K C=true)
 (hw:Qiz mA ns) (hsz:ns.length<=Q6)
 (h : ∀ h',ObjM h' x dx C (fun y=>if y=name then some v else mA y)->Vh dx s.heap h'->Q () { s with heap:=h',toks:=s.toks+2 }) :
  wpAny (model prog w) A (setAttr (.ref x) name v) Q E s:=by
  obtain ⟨od,J,hl⟩:=I.look;refine PySem.W.set_plain X J hs (PySem.W.osa_open (s:={ s with toks:=s.toks+1 }) (r:=none) X J hp ht fun b=>?_);obtain ⟨cd,hc,hd'⟩:=PySem.W.any_some hh;have hx:s.heap.get? x=some ⟨.ref C,some dx,.plain,#[]⟩:=I.obj;refine Qi (Q4 (Qi (Qi (wpAny_loadPart hx (Qi (Qlq (s:={ s with toks:=s.toks+1 }) (PySem.W.looks_clsIn X hc) ?_))))));rw [hd'];refine Q4 (a:=some dx) (Qi (Q4 (Qi ?_)));refine wpAny_nsSet1 (s:={ s with toks:=s.toks+1 }) I.ns fun h' hn2 hs2=>?_;obtain ⟨oD,esD,epD,hoD,hdD,hcD⟩:=hn2.count (Qiz.cons name v hw);refine Qi (wpAny_lookBehind hoD (by rw [hdD];exact pastItsLine_dict (Zk hcD (by rw [Zb];omega))) ?_);exact Q4 (h _ ⟨(hs2.2 _ (Z0 I.ne)).trans I.obj,hn2,I.ne⟩ hs2)
def zagk {R:Result->Ql->Prop}{vs:List Value}{kw:List (Str×Value)} (X:K.In s.heap) (hm:Qdo K C=true)
 (hi:Zr K (.ref C) "__init__" = some (some (.ref f))) (hf:PySem.W.typeIn K (.ref f)=some (.type "function"))
 (h:Qdc (model prog w) (A.under (.builtin "type.__call__" ⟨.ref C::vs,kw⟩)) (.call (.ref f) ⟨.ref (s.heap.objs.size+1)::vs,kw⟩) (PySem.W.InitBack (s.heap.objs.size+1) R)
 { s with heap:=(s.heap.push Y9).push (V7 C s.heap.objs.size) }) :
  Qdc (model prog w) A (.call (.ref C) ⟨vs,kw⟩) R s:=by
  obtain ⟨hh,g,d,t,os⟩:=s;exact PySem.W.make_core (PySem.W.makes_of X hm) (PySem.W.looks_findIn X hi) (fun self=>PySem.W.bind_fn X self hf) (.inl rfl) h
end
def qmx (f:Str) (v:V):List (Str×V)->List (Str×V)
 | []=>[(f,v)]
 | (g,x)::r=>if g=f then (g,v)::r else (g,x)::qmx f v r
def qns (f g:Str) (v:V) : ∀ fs:List (Str×V),(qmx f v fs).lookup g=if g=f then some v else fs.lookup g
 | []=>by
  show Qcl g [(f,v)]=_;by_cases h:g=f
  ·have hb:(g==f)=true:=beq_iff_eq.mpr h;simp only [Qcl,hb,if_pos h]
  ·have hb:(g==f)=false:=beq_eq_false_iff_ne.mpr h;simp only [Qcl,hb,if_neg h]
 | (k,x)::r=>by
  have ih:=qns f g v r;rw [show qmx f v ((k,x)::r)=(if k=f then (k,v)::r else (k,x)::qmx f v r) from rfl];by_cases hk:k=f
  ·rw [if_pos hk];by_cases h:g=k
   ·have hb:(g==k)=true:=beq_iff_eq.mpr h;simp only [Qcl,hb,if_pos (h.trans hk)]
   ·have hb:(g==k)=false:=beq_eq_false_iff_ne.mpr h;simp only [Qcl,hb,if_neg (fun e:g=f=>h (e.trans hk.symm))]
  ·rw [if_neg hk];by_cases h:g=k
   ·have hb:(g==k)=true:=beq_iff_eq.mpr h;simp only [Qcl,hb,if_neg (fun e:g=f=>hk (h.symm.trans e))]
   ·have hb:(g==k)=false:=beq_eq_false_iff_ne.mpr h;simp only [Qcl,hb];exact ih
def qms (f:Str) (v:V) : ∀ fs:List (Str×V),f ∈ (qmx f v fs).map (·.1) /\ ∀ g,g ∈ fs.map (·.1)->g ∈ (qmx f v fs).map (·.1)
 | []=>⟨by simp [qmx],fun g h=>by simp at h⟩
 | (k,x)::r=>by
  obtain ⟨i1,i2⟩:=qms f v r;rw [show qmx f v ((k,x)::r)=(if k=f then (k,v)::r else (k,x)::qmx f v r) from rfl];by_cases hk:k=f
  ·rw [if_pos hk];subst hk;exact ⟨by simp,fun g h=>by simpa using h⟩
  ·rw [if_neg hk];refine ⟨?_,fun g h=>?_⟩
   ·rw [Q2];exact Qu _ i1
   ·rw [Q2] at h ⊢;rcases Q5.mp h with e|e
    ·exact Q5.mpr (.inl e)
    ·exact Qu _ (i2 g e)
def qnm (f:Str) (v:V) : ∀ fs:List (Str×V),(qmx f v fs).length<=fs.length+1
 | []=>by simp [qmx]
 | (k,x)::r=>by
  have ih:=qnm f v r;rw [show qmx f v ((k,x)::r)=(if k=f then (k,v)::r else (k,x)::qmx f v r) from rfl];by_cases hk:k=f
  ·rw [if_pos hk,Zb,Zb];omega
  ·rw [if_neg hk,Zb,Zb];omega
def RelO.some_of {v:V}{o:Option Value} (r:RelO (some v) o) : ∃ u,o=some u/\RelV v u:=by
 cases o with
 | none=>exact (show False from r).elim
 | some u=>exact ⟨u,rfl,r⟩
def RelO.none_of {o:Option Value} (r:RelO none o):o=none:=by
 cases o with
 | none=>rfl
 | some u=>exact (show False from r).elim
def zaef {v:V}{u:Value} (r:RelV v u):Qjj u=true:=by
 cases v with
 | non=>cases (show u=Y7 from r);rfl
 | bl b=>cases (show u=Qkt b from r);rfl
 | int i=>obtain ⟨t,e⟩:=(show ∃ t,u=Qew i t from r);cases e;rfl
 | str x=>obtain ⟨t,e⟩:=(show ∃ t,u=Qjw x t from r);cases e;rfl
 | byt b=>obtain ⟨t,e⟩:=(show ∃ t,u=Qlm b t from r);cases e;rfl
 | flt b=>obtain ⟨t,e⟩:=(show ∃ t,u=Qln b t from r);cases e;rfl
 | ref a=>cases (show u=Yt a from r);rfl
 | ty n=>cases (show u=Value.type n from r);rfl
section
variable {P:Zj}{w:World}{H H':Hp}{h h':Heap}{a C dx:Addr}{fs fs':List (Str×V)}
def qvg (hok:HOk P w H h) (e:H a=some (.ins C dx fs)) : ∃ mA,ObjM h a dx C mA/\(∀ f,RelO (fs.lookup f) (mA f))/\Qiz mA (fs.map (·.1))/\fs.length<=1000/\H dx=some (.own a):=by
 obtain ⟨d,z,ne,ob,mA,n,r,q⟩:=(show ObjOk P w H h a (.ins C dx fs) from hok a _ e)
 exact ⟨mA,⟨ob,n,ne⟩,r,q,z,d⟩
end
structure Cls (K:Qd) (C:Addr):Prop where
 pg:Qbe K C Str.empty=true
 hd:Qck K C=true
 po:Qey K C=true
 sa:Zr K (.ref C) "__setattr__" = some (some (.builtin "object.__setattr__"))
def Cls.get {K:Qd}{C:Addr} (c:Cls K C) (f:Str):Qbe K C f=true:=c.pg
def NoAttr (K:Qd) (C:Addr) (f:Str):Prop:=Zr K (.ref C) f=some none
def NoAttr.taker {K:Qd}{C:Addr}{f:Str} (n:NoAttr K C f):Qgb K C f=some none:=by
 unfold Qgb;rw [show Zr K (.ref C) f=some none from n];rfl
structure Meth (K:Qd) (C:Addr) (m:Str) (f:Addr):Prop where
 at_:Zr K (.ref C) m=some (some (.ref f))
 fn:Jv K (.ref f)=true
 kp:Yw K (.ref f)=true
section
variable {X:Cx}{pins:List (Addr×Obj)}{σ:St}{H:Hp}{s:Ql}{a C dx:Addr}{fs:List (Str×V)}{f:Str}{v:V}{A:Z4}{E:Value->Ql->Prop}
def qyp {b:Bool}{Q:Value->Ql->Prop} (I:Inv X pins σ H s) (e:H a=some (.ins C dx fs)) (c:Cls X.K C) (n:NoAttr X.K C f) (l:fs.lookup f=some v)
 (h : ∀ u s',Inv X pins σ H s'->RelV v u->Q u s'):wpAny (model X.prog X.w) A (getAttr (.ref a) f b) Q E s:=by
  obtain ⟨mA,O,r,_,_,_⟩:=qvg I.hok e;obtain ⟨u,hu,ru⟩:=RelO.some_of (v:=v) (o:=mA f) (by rw [<- l];exact r f);exact zalg I.kIn O (c.get f) c.hd n hu (zaef ru) (h u _ (I.tok _) ru)
def qpk {m:Str}{g:Addr}{pl:Sem Bool}{Q:Value×List Value->Ql->Prop} (I:Inv X pins σ H s) (e:H a=some (.ins C dx fs)) (c:Cls X.K C) (k:Meth X.K C m g) (l:fs.lookup m=none)
 (h:Q (.ref g,[.ref a]) s):wpAny (model X.prog X.w) A (Qip (.ref a) m pl) Q E s:=by
  obtain ⟨mA,O,r,_,_,_⟩:=qvg I.hok e;have hn:mA m=none:=RelO.none_of (by rw [<- l];exact r m);exact zagf I.kIn O (c.get m) k.at_ k.fn hn h
def qyt {y:V}{u:Value}{Q:Unit->Ql->Prop} (I:Inv X pins σ H s) (e:H a=some (.ins C dx fs)) (c:Cls X.K C) (n:NoAttr X.K C f) (hl:fs.length<1000) (ry:RelV y u)
 (h : ∀ s',Inv X pins σ (upd H a (.ins C dx (qmx f y fs))) s'->Q () s'):wpAny (model X.prog X.w) A (setAttr (.ref a) f u) Q E s:=by
  obtain ⟨mA,O,r,wi,_,ho⟩:=qvg I.hok e;have hz:(fs.map (·.1)).length<=Q6:=by rw [Qf,Yr];omega
  refine zank I.kIn O c.sa c.po n.taker c.hd wi hz fun h' O' sb=>h _ ?_;have hd : ∃ o,h'.get? dx=some o:=let ⟨o,_,_,e',_⟩:=O'.ns; ⟨o,e'⟩;refine I.write (x:=a) (e:=dx) (by rw [e];exact Qao) (.inr ho) (fun b q hb z=>(sb.2 b hb).trans z) hd ?_;refine ⟨by rw [qi O.ne];exact ho,?_,O.ne,O'.obj,_,O'.ns,fun g=>?_,fun g hg=>?_⟩
  ·have:=qnm f y fs;omega
  ·show RelO ((qmx f y fs).lookup g) (if g=f then some u else mA g);rw [qns];by_cases q:g=f
   ·rw [if_pos q,if_pos q];exact ry
   ·rw [if_neg q,if_neg q];exact r g
  ·by_cases q:g=f
   ·rw [q];exact (qms f y fs).1
   ·refine (qms f y fs).2 g (wi g fun z=>hg ?_);show (if g=f then some u else mA g)=none;rw [if_neg q];exact z
def Inv.made (I:Inv X pins σ H s):Inv X pins σ (upd (upd H s.heap.objs.size (.own (s.heap.objs.size+1))) (s.heap.objs.size+1) (.ins C s.heap.objs.size []))
 { s with heap:=(s.heap.push Y9).push (V7 C s.heap.objs.size) }:=by
  have e1:(s.heap.push Y9).get? s.heap.objs.size=some Y9:=Qz s.heap rfl;have e2:((s.heap.push Y9).push (V7 C s.heap.objs.size)).get? (s.heap.objs.size+1)=some (V7 C s.heap.objs.size):=by
   have:=Qz (s.heap.push Y9) (o:=V7 C s.heap.objs.size) rfl
   rwa [Yo] at this
  have e3:(s.heap.push Y9).Ns s.heap.objs.size (fun _=>none):=⟨Y9,#[],_,e1,rfl,(fun e he=>absurd he (by simp)),fun _=>rfl⟩
  have I1:=I.laid (a:=s.heap.objs.size) (o :=.own (s.heap.objs.size+1)) (h':=s.heap.push Y9) (t':=s.toks) (fun b u q=>Qj _ q) (Qr _) ⟨_,e1⟩;refine I1.laid (a:=s.heap.objs.size+1) (o :=.ins C s.heap.objs.size []) (t':=s.toks) (fun b u q=>Qj _ q) (Qdz (Yo _ _)) ?_;have ne:s.heap.objs.size≠s.heap.objs.size+1:=Q9 (Qbf _);refine ⟨by rw [qi ne,ql],Yc _,ne,e2,fun _=>none,(Heap.Ns1.of_empty e3).at fun o q=>Qj _ q,fun _=>Qao,fun y hy=>absurd rfl hy⟩
def zaml {prog:Zj}{w:World}{env:Env}{e:Expr}{f:Str}{pos:Pos}{s:Ql}{Q:Value->Ql->Prop} (hb:Vt e f env (eval e env)=eval e env)
 (h:wpAny (model prog w) A (eval e env) (fun o s₁=>wpAny (model prog w) A (getAttr o f true) Q E s₁) E s):wpAny (model prog w) A (eval (.Attribute e f pos) env) Q E s :=
  Attribute_any_ h (by rw [arm_eval_Attribute,hb])
end
def tFld (K:Qd) (ta:TE) (f:Str):TE:=fun σ H Q=>ta σ H fun x H1 => ∃ a C dx fs v,x = .ref a/\H1 a=some (.ins C dx fs)/\Cls K C/\NoAttr K C f/\fs.lookup f=some v/\Q v H1
def sFld (K:Qd) (ta tv:TE) (f:Str):TS:=fun D σ H=>tv σ H fun y H1=>ta σ H1 fun x H2 => ∃ a C dx fs,x = .ref a/\H2 a=some (.ins C dx fs)/\Cls K C/\NoAttr K C f/\fs.length<1000 /\
 D.nx σ (upd H2 a (.ins C dx (qmx f y fs)))
section
variable {X:Cx}{o e value:Expr}{f:Str}{pos pos' tpos:Pos}{ta tv:TE}
def qvw (he:PE X e ta) (hb:Vt e f X.env (eval e X.env)=eval e X.env):PE X (.Attribute e f pos) (tFld X.K ta f):=by
 intro pins s σ H Q I h;refine zaml hb (thn (he pins s σ H _ I h) fun u s1 xx36=>?_);obtain ⟨x,H1,I1,rx,a,C,dx,fs,v,ex,ea,c,n,l,q⟩:=xx36;subst ex;obtain rfl:u=Yt a:=rx;exact qyp I1 ea c n l fun u' s2 I2 ru=>⟨v,H1,I2,ru,q⟩
def qol (ha:PE X o ta) (hv:PE X value tv) (hs:Jf value (some (.Attribute o f pos')) pos.line X.env=pure false):PS X (.Assign [.Attribute o f pos'] value pos) (sFld X.K ta tv f):=by
 intro pins s σ H D I h;refine plainObj_wpAny_Assign_Attribute (thn (hv pins s σ H _ I h) fun u s1 ⟨y,H1,I1,ry,q⟩=>thn (ha pins s1 σ H1 _ I1 q) fun ov s2 xx37=>?_) hs;obtain ⟨x,H2,I2,rx,a,C,dx,fs,ex,ea,c,n,l,q2⟩:=xx37;subst ex;obtain rfl:ov=Yt a:=rx;exact qyt I2 ea c n l ry fun s3 I3=>⟨σ,_,I3,q2⟩
end
section
variable {X:Cx}{pins:List (Addr×Obj)}{σ:St}{H:Hp}{s:Ql}{A:Z4}{E:Value->Ql->Prop}{Q:Value->Ql->Prop}{c:Value}{b:Bool}
end
end
section
structure Room (k:Nat) (A:Z4):Prop where
 hd:A.handled=none
 dp:A.depth+3*k+5<Qac
 un:A.units+16*k+200<cLine
def Room.mono {j k:Nat}{A:Z4} (r:Room k A) (h:j<=k):Room j A:=⟨r.hd,by have:=r.dp;omega,by have:=r.un;omega⟩
def Room.deeper {k:Nat}{A:Z4} (r:Room (k+1) A) (env:Env):Room k (A.deeper env) :=
 ⟨r.hd,by have:=r.dp;show A.depth+1+3*k+5<_;omega,by have:=r.un;show A.units+3+16*k+200<_;omega⟩
def qzs {A:Z4}{C:Addr}{us:List Value}{kw:List (Str×Value)}:(A.under (.builtin "type.__call__" ⟨.ref C::us,kw⟩)).depth=A.depth+1:=by
 first|rfl|simp [Qja,Code.weight,Code.isCreation,Code.isGuard,Code.isCaller,Code.frames,Qjb,guardIds]
def qza {A:Z4}{C:Addr}{us:List Value}{kw:List (Str×Value)}:(A.under (.builtin "type.__call__" ⟨.ref C::us,kw⟩)).units=A.units+1:=by
 first|rfl|simp [Qja,Code.cUnits,Code.frames,Qjb]
def Room.make {k:Nat}{A:Z4} (r:Room (k+1) A) (C:Addr) (us:List Value) (kw:List (Str×Value)):Room k (A.under (.builtin "type.__call__" ⟨.ref C::us,kw⟩)) :=
 ⟨r.hd,by have:=r.dp;rw [qzs];omega,by have:=r.un;rw [qza];omega⟩
def Room.depth {k:Nat}{A:Z4} (r:Room k A):A.depth<Qac:=by have:=r.dp;omega
def Room.units {k:Nat}{A:Z4} (r:Room k A):A.units+64<cLine:=by have:=r.un;omega
def tNil:TA:=fun _ H Q=>Q [] H
def qze (ta:TE) (tr:TA):TA:=fun σ H Q=>ta σ H fun x H1=>tr σ H1 fun xs H2=>Q (x::xs) H2
section
variable {X:Cx}{e:Expr}{es:List Expr}{te:TE}{t:TA}{pos:Pos}
def qal:PA X [] tNil:=fun _ _ _ _ H Q I h=>Qez ⟨[],H,I,.nil,h⟩
def qz (ha:PE X e te) (hr:PA X es t) (hs:Qw (e::es) X.env=(false,eval e X.env)::Qw es X.env:=by rfl):PA X (e::es) (qze te t):=by
 intro pos pins s σ H Q I h;rw [hs];show wpAny _ _ (spliced ((false,eval e X.env)::Vl pos (Qw es X.env))) _ _ s;refine Qbt (thn (ha pins s σ H _ I h) fun u s1 xx40=>?_);obtain ⟨x,H1,I1,r1,q1⟩:=xx40;exact thn (hr pos pins s1 σ H1 _ I1 q1) fun us s2 xx39=>by obtain ⟨xs,H2,I2,r2,q2⟩:=xx39;exact ⟨x::xs,H2,I2,.cons r1 r2,q2⟩
def tTup (t:TA):TE:=fun σ H Q=>t σ H fun xs H1=>xs.length<=Q6 /\ ∀ p,H1 p=none->Q (.ref p) (upd H1 p (.tup xs))
def tLst (t:TA):TE:=fun σ H Q=>t σ H fun xs H1=>xs.length<=Q6 /\ ∀ p,H1 p=none->Q (.ref p) (upd H1 p (.lst xs))
def zaas {x1} (h:PA X es t):PE X (.Tuple es x1 pos) (tTup t):=by
 intro pins s σ H Q I hq;refine wpAny_Tuple_spliced (thn (h pos pins s σ H _ I hq) fun us s1 ⟨xs,H1,I1,r,z,q⟩=>⟨by rw [<- r.length];exact z,?_⟩);have hf:H1 s1.heap.objs.size=none:=I1.hok.fresh (Qr _);refine ⟨.ref s1.heap.objs.size,upd H1 s1.heap.objs.size (.tup xs),I1.laid (t':=s1.toks) (fun b u e=>Qj _ e) (Qr _) ?_,rfl,q _ hf⟩;exact ⟨z,us,r,⟨_,Qz _ rfl,rfl,_,rfl⟩⟩
def zaar (h:PA X es t):PE X (.List es pos) (tLst t):=by
 intro pins s σ H Q I hq;refine wpAny_List_spliced (thn (h pos pins s σ H _ I hq) fun us s1 ⟨xs,H1,I1,r,z,q⟩=>⟨by rw [<- r.length];exact z,?_⟩);have hf:H1 s1.heap.objs.size=none:=I1.hok.fresh (Qr _);refine ⟨.ref s1.heap.objs.size,upd H1 s1.heap.objs.size (.lst xs),I1.laid (t':=s1.toks) (fun b u e=>Qj _ e) (Qr _) ?_,rfl,q _ hf⟩;exact ⟨z,us,0,r,Qz _ rfl⟩
end
abbrev Sp:=List V->Hp->VK->XK->Prop
abbrev CXT:=List Env->Hp->Ql->XK->Value->Ql->Prop
structure Env0 (P:Zj) (w:World) (K:Qd) (mg:Str->Option Value) (base:Heap) (A:Z4) (outer:List Env) (s:Ql) (H:Hp):Prop where
 frames:A.frames=some outer
 mod:Mod K mg base
 bs : ∀ b o,base.get? b=some o->s.heap.get? b=some o/\H b=none
 bsz:base.objs.size<=s.heap.objs.size
 funs:s.heap.FunFrames base outer
 frf : ∀ b ∈ frs outer,H b=none
 hok:HOk P w H s.heap
 bare:Qgp s.gens
def CE (outer:List Env) (P:Zj) (w:World) (H:Hp) (s:Ql) (Q:VK) (u:Value) (s':Ql):Prop :=
 ∃ v H',s'.os=s.os/\Qgp s'.gens/\Un (frs outer) [] H H' s.heap s'.heap/\HOk P w H' s'.heap/\RelV v u/\Q v H'
def CR (CX:CXT) (outer:List Env) (P:Zj) (w:World) (H:Hp) (s:Ql) (Q:VK) (E:XK) (r:Result) (s':Ql):Prop :=
 match r with
 | .ok (.ret u)=>CE outer P w H s Q u s'
 | .ok _=>False
 | .error e=>CX outer H s E e s'
structure FnOk (P:Zj) (w:World) (K:Qd) (mg:Str->Option Value) (base:Heap) (CX:CXT) (k:Nat) (f:Addr) (fd:V4) (ps:List Str) (sp:Sp):Prop where
 len : ∀ vs H Q E,sp vs H Q E->vs.length=ps.length
 run : ∀ (A:Z4) (outer:List Env) (s:Ql) (H:Hp) (args:Args) (us:List Value) (vs:List V) (Q:VK) (E:XK),Room k A->Env0 P w K mg base A outer s H->Qiy s fd args (ps.zip us)->Vals vs us->sp vs H Q E ->
  Qdc (model P w) A (.call (.ref f) args) (CR CX outer P w H s Q E) s
def FnOk.imp {P:Zj}{w:World}{K:Qd}{mg:Str->Option Value}{base:Heap}{CX:CXT}{k:Nat}{f:Addr}{fd:V4}{ps:List Str}{sp sp':Sp} (F:FnOk P w K mg base CX k f fd ps sp)
 (h : ∀ vs H Q E,sp' vs H Q E->sp vs H Q E):FnOk P w K mg base CX k f fd ps sp' :=
  ⟨fun vs H Q E q=>F.len vs H Q E (h _ _ _ _ q),fun A outer s H args us vs Q E hr he hb hv hs=>F.run A outer s H args us vs Q E hr he hb hv (h _ _ _ _ hs)⟩
def Env0.make {P:Zj}{w:World}{K:Qd}{mg:Str->Option Value}{base:Heap}{A:Z4}{outer:List Env}{s:Ql}{H:Hp} (e:Env0 P w K mg base A outer s H) (C:Addr) (us:List Value) (kw:List (Str×Value)) :
 Env0 P w K mg base (A.under (.builtin "type.__call__" ⟨.ref C::us,kw⟩)) outer s H:=⟨by first|exact e.frames|(simpa [Qja,Code.envs,Qjb,pushEnvs] using e.frames),e.mod,e.bs,e.bsz,e.funs,e.frf,e.hok,e.bare⟩
section
variable {X:Cx}{pins:List (Addr×Obj)}{σ:St}{H:Hp}{s s':Ql}
def Inv.env0 (I:Inv X pins σ H s):Env0 X.prog X.w X.K X.mg X.base X.A X.stack s H :=
 ⟨I.ok.frames,I.ok.mod,I.bs,Zk I.ok.bsz I.sz,I.stack,I.stkFree,I.hok,I.bare⟩
def Inv.after {Q:VK}{u:Value} (I:Inv X pins σ H s) (h:CE X.stack X.prog X.w H s Q u s'):EP X pins σ Q u s':=by
 obtain ⟨v,H',os,bare,un,hok,r,q⟩:=h;obtain ⟨hh,g,d,t,os'⟩:=s';obtain rfl:os'=s.os:=os;exact ⟨v,H',I.call (h':=hh) (g':=g) (d':=d) (t':=t) (ch:=[]) un hok bare (fun b z=>absurd z (by simp)),r,q⟩
end
def qlq (sp:Sp) (dvs:List V) (E:XK) (t:TA):TE:=fun σ H Q=>t σ H fun vs H1=>sp (vs++dvs) H1 Q E
def zaeu (C:Addr) (m:Str) (sp:Sp) (dvs:List V) (E:XK) (ta:TE) (t:TA):TE:=fun σ H Q=>ta σ H fun x H1 => ∃ a dx fs,x = .ref a/\H1 a=some (.ins C dx fs)/\fs.lookup m=none /\
 t σ H1 fun vs H2=>sp (x::(vs++dvs)) H2 Q E
def zasr (C:Addr) (sp:Sp) (dvs:List V) (E:XK) (t:TA):TE:=fun σ H Q=>t σ H fun vs H1 => ∀ x dx,H1 x=none->H1 dx=none->dx≠x ->
 sp (.ref x::(vs++dvs)) (upd (upd H1 dx (.own x)) x (.ins C dx [])) (fun v H2=>v = .non/\Q (.ref x) H2) E
def Binds (K:Qd) (fd:V4) (ps:List Str) (ds:List Value):Prop :=
 ∀ (s:Ql) (us:List Value),K.In s.heap->(us++ds).length=ps.length->Qiy s fd ⟨us,[]⟩ (ps.zip (us++ds))
def Binds.all {K:Qd}{fd:V4}{ps:List Str} (h : ∀ us:List Value,us.length=ps.length->Qhb fd ⟨us,[]⟩=pure (ps.zip us)):Binds K fd ps []:=fun s us _ hl=>by
 rw [Ve] at hl ⊢;exact .of_eq (h us hl)
def qla (CX:CXT) (X:Cx) (E:XK):Prop := ∀ (pins:List (Addr×Obj)) (σ:St) (H:Hp) (s:Ql) (e:Value) (s':Ql),Inv X pins σ H s->CX X.stack H s E e s'->X.xe e s'
section
variable {X:Cx}{CX:CXT}{k:Nat}{f C:Addr}{fd:V4}{ps:List Str}{sp:Sp}{dvs:List V}{ds:List Value}{E:XK}{x m:Str}{p pos apos:Pos}{e o:Expr}{es:List Expr}{ta:TE}{t:TA}
def zaal {pins:List (Addr×Obj)}{σ:St}{H:Hp}{s:Ql}{Q:VK}{us:List Value}{vs:List V} (F:FnOk X.prog X.w X.K X.mg X.base CX k f fd ps sp) (hr:Room k X.A) (hb:Binds X.K fd ps ds) (hd:Vals dvs ds) (hx:qla CX X E)
 (I:Inv X pins σ H s) (r:Vals vs us) (h:sp (vs++dvs) H Q E):wpAny (model X.prog X.w) X.A (call (.ref f) us) (EP X pins σ Q) X.xe s:=by
  have r2:Vals (vs++dvs) (us++ds):=r.append hd;have hl:(us++ds).length=ps.length:=by rw [<- r2.length];exact F.len _ _ _ _ h
  refine wpAny_call (Qej (F.run X.A X.stack s H ⟨us,[]⟩ (us++ds) (vs++dvs) Q E hr I.env0 (hb s us I.kIn hl) r2 h) fun r s' hq=>?_);cases r with
  | error e=>exact hx pins σ H s e s' I hq
  | ok fl =>
   cases fl with
   | ret u=>exact I.after hq
   | next=>exact Zd hq
   | brk=>exact Zd hq
   | cont=>exact Zd hq
def zali (F:FnOk X.prog X.w X.K X.mg X.base CX k f fd ps sp) (hr:Room k X.A) (hg:Gl X x) (hm:X.mg x=some (.ref f)) (hk:Yw X.K (.ref f)=true) (hb:Binds X.K fd ps ds) (hd:Vals dvs ds) (hx:qla CX X E)
 (ha:PA X (e::es) t) (hdb:Nd0 x:=by decide) (he:Qw (e::es) X.env=(false,eval e X.env)::Qw es X.env:=by rfl) (hpl:(Vl pos (Qw es X.env)).any (·.1)=false:=by rfl) :
  PE X (.Call (.Name x p) (e::es) [] pos) (qlq sp dvs E t):=by
  intro pins s σ H Q I h;refine Qai (qun I hg hm ?_ hdb);refine Qea (h₀:=X.base) I.ok.mod.kin hk (thn (ha pos pins s σ H _ I h) fun us s1 ⟨vs,H1,I1,r,q⟩=>⟨I1.kIn,?_⟩) he hpl;exact zaal F hr hb hd hx I1 r q
def qut {pl:Sem Bool} (he:PE X o ta) (c:Cls X.K C) (hm:Meth X.K C m f) (F:FnOk X.prog X.w X.K X.mg X.base CX k f fd ps sp) (hr:Room k X.A) (hb:Binds X.K fd ps ds) (hd:Vals dvs ds) (hx:qla CX X E) (ha:PA X (e::es) t)
 (hst:Qw (e::es) X.env=(false,eval e X.env)::Qw es X.env:=by rfl) (hpl:(Vl pos (Qw es X.env)).any (·.1)=false:=by rfl)
  (ht:eval (.Call (.Attribute o m apos) (e::es) [] pos) X.env=(do
   let ov <- eval o X.env
   Qgw apos.atName
   let (f,first) <- Qdd [ov] (Qip ov m pl)
   callWith pos f first (Vl pos (Qw (e::es) X.env)) (Qct pos (Jh [] X.env))):=by rfl) :
  PE X (.Call (.Attribute o m apos) (e::es) [] pos) (zaeu C m sp dvs E ta t):=by
  intro pins s σ H Q I h;refine Qgc (pl:=pl) (thn (he pins s σ H _ I h) fun u s1 xx45=>?_) ht;obtain ⟨x,H1,I1,rx,a,dx,fs,ex,ea,l,q⟩:=xx45;subst ex;obtain rfl:u=Yt a:=rx;refine qpk I1 ea c hm l ?_;refine Qea (first:=[.ref a]) (h₀:=X.base) I.ok.mod.kin hm.kp (thn (ha pos pins s1 σ H1 _ I1 q) fun us s2 ⟨vs,H2,I2,r,q2⟩=>⟨I2.kIn,?_⟩) hst hpl;exact zaal (us :=.ref a::us) (vs :=.ref a::vs) F hr hb hd hx I2 (.cons rfl r) q2
def qrc {pl:Sem Bool} (he:PE X o ta) (c:Cls X.K C) (hm:Meth X.K C m f) (F:FnOk X.prog X.w X.K X.mg X.base CX k f fd ps sp) (hr:Room k X.A) (hb:Binds X.K fd ps ds) (hd:Vals dvs ds) (hx:qla CX X E)
 (ht:eval (.Call (.Attribute o m apos) [] [] pos) X.env=(do
 let ov <- eval o X.env
 Qgw apos.atName
 let (f,first) <- Qdd [ov] (Qip ov m pl)
 callWith pos f first (Vl pos (Qw [] X.env)) (Qct pos (Jh [] X.env))):=by rfl) :
  PE X (.Call (.Attribute o m apos) [] [] pos) (zaeu C m sp dvs E ta tNil):=by
  intro pins s σ H Q I h;refine Qgc (pl:=pl) (thn (he pins s σ H _ I h) fun u s1 xx46=>?_) ht;obtain ⟨x,H1,I1,rx,a,dx,fs,ex,ea,l,q⟩:=xx46;subst ex;obtain rfl:u=Yt a:=rx;refine qpk I1 ea c hm l ?_;exact PySem.W.callWith_K0 (first:=[.ref a]) I1.kIn hm.kp (zaal (us:=[.ref a]) (vs:=[.ref a]) F hr hb hd hx I1 (.cons rfl .nil) q)
structure Mk (K:Qd) (C f:Addr):Prop where
 makes:Qdo K C=true
 init:Zr K (.ref C) "__init__" = some (some (.ref f))
 fn:Jv K (.ref f)=true
 kp:Yw K (.ref C)=true
def zagv {pins:List (Addr×Obj)}{σ:St}{H:Hp}{s:Ql}{Q:VK}{us:List Value}{vs:List V} (M:Mk X.K C f) (F:FnOk X.prog X.w X.K X.mg X.base CX k f fd ps sp) (hr:Room (k+1) X.A) (hb:Binds X.K fd ps ds) (hd:Vals dvs ds)
 (hx:qla CX X E) (I:Inv X pins σ H s) (r:Vals vs us)
 (h : ∀ x dx,H x=none->H dx=none->dx≠x->sp (.ref x::(vs++dvs)) (upd (upd H dx (.own x)) x (.ins C dx [])) (fun v H2=>v = .non/\Q (.ref x) H2) E) :
 wpAny (model X.prog X.w) X.A (call (.ref C) us) (EP X pins σ Q) X.xe s:=by
  have hq:=h (s.heap.objs.size+1) s.heap.objs.size (I.hok.fresh (Qfh _)) (I.hok.fresh (Qr _)) (Q9 (Qbf _));have I2:=Inv.made (C:=C) I;have r2:Vals (V.ref (s.heap.objs.size+1)::(vs++dvs)) (Yt (s.heap.objs.size+1)::(us++ds)) :=.cons rfl (r.append hd);have hl:(Yt (s.heap.objs.size+1)::us++ds).length=ps.length:=by
   have e:=r2.length;rw [F.len _ _ _ _ hq] at e;exact e.symm
  refine wpAny_call (zagk (f:=f) I.kIn M.makes M.init (beq_iff_eq.mp M.fn) (Qej (F.run _ X.stack _ _ ⟨Yt (s.heap.objs.size+1)::us,[]⟩ (Yt (s.heap.objs.size+1)::(us++ds)) _ _ E (hr.make C us [])
   (I2.env0.make C us []) (hb _ (Yt (s.heap.objs.size+1)::us) I2.kIn hl) r2 hq) fun r s' hq'=>?_))
  cases r with
  | error e=>exact hx pins σ _ _ e s' I2 hq'
  | ok fl =>
   cases fl with
   | ret u =>
    obtain ⟨v,H',I3,rv,ev,q3⟩:=I2.after hq';subst ev;exact ⟨rv,⟨V.ref (s.heap.objs.size+1),H',I3,rfl,q3⟩⟩
   | next=>exact Zd hq'
   | brk=>exact Zd hq'
   | cont=>exact Zd hq'
def zaki (M:Mk X.K C f) (F:FnOk X.prog X.w X.K X.mg X.base CX k f fd ps sp) (hr:Room (k+1) X.A) (hg:Gl X x) (hm:X.mg x=some (.ref C)) (hb:Binds X.K fd ps ds) (hd:Vals dvs ds) (hx:qla CX X E)
 (ha:PA X (e::es) t) (hdb:Nd0 x:=by decide) (he:Qw (e::es) X.env=(false,eval e X.env)::Qw es X.env:=by rfl) (hpl:(Vl pos (Qw es X.env)).any (·.1)=false:=by rfl) :
  PE X (.Call (.Name x p) (e::es) [] pos) (zasr C sp dvs E t):=by
  intro pins s σ H Q I h;refine Qai (qun I hg hm ?_ hdb);refine Qea (h₀:=X.base) I.ok.mod.kin M.kp (thn (ha pos pins s σ H _ I h) fun us s1 ⟨vs,H1,I1,r,q⟩=>⟨I1.kIn,?_⟩) he hpl;exact zagv M F hr hb hd hx I1 r q
end
section
variable {X:Cx}{CX:CXT}{k:Nat}{f C:Addr}{fd:V4}{ps ks:List Str}{sp:Sp}{E:XK}{x m:Str}{p pos apos kpos:Pos}{e o:Expr}{es:List Expr}{kws:List Qaz}{te ta:TE}{t tk:TA}{nm:Option Str}
variable {g:List Value->List Value->List Value}{gV:List V->List V->List V}
end
structure FnScope (N P:List Str) (sc:Scope):Prop where
 kind:sc.kind = .function
 co:sc.isCoroutine=false
 gen:sc.isGenerator=false
 nd:N.Nodup
 pre:N.take P.length=P
 par : ∀ x ∈ P,sc.names.lookup x=some .local\/sc.names.lookup x=some .cell
 nofree : ∀ y ∈ sc.names,y.2 ≠ .free
def qtq {Qff:Str->Option Qax}{x:Str} : ∀ {binds:List (Str×Value)}{m:Str->Option Value},(∀ v,(x,v) ∉ binds)->bindL Qff binds m x=m x
 | [],_,_=>rfl
 | (n,v)::r,m,h=>by
  unfold bindL;rw [qtq fun w hw=>h w (Qu _ hw)];split
  ·have:x≠n:=by rintro rfl;exact h v Qbs
   simp [this]
  ·rfl
def qsr {Qff:Str->Option Qax}{x:Str} : ∀ {binds:List (Str×Value)}{m:Str->Option Value},(∀ v,(x,v) ∉ binds)->bindC Qff binds m x=m x
 | [],_,_=>rfl
 | (n,v)::r,m,h=>by
  unfold bindC;rw [qsr fun w hw=>h w (Qu _ hw)];split
  ·rfl
  ·have:x≠n:=by rintro rfl;exact h v Qbs
   simp [this]
def qtw {Qff:Str->Option Qax}{x:Str}{v:Value} : ∀ {P:List Str}{vs:List Value}{i:Nat}{m:Str->Option Value},P.Nodup->P[i]?=some x->vs[i]?=some v->Qff x=some .local ->
 bindL Qff (P.zip vs) m x=some v
  | [],_,_,_,_,h,_,_=>by simp at h
  | _::_,[],_,_,_,_,h,_=>by simp at h
  | p::P,w::vs,0,m,nd,h1,h2,hk=>by
   simp at h1 h2;subst h1;subst h2;show bindL Qff ((p,w)::P.zip vs) m p=_;unfold bindL;rw [qtq fun v hv=>(Jl.mp nd).1 (Qgd hv).1,if_pos hk];simp
  | p::P,w::vs,i+1,m,nd,h1,h2,hk=>by
   show bindL Qff ((p,w)::P.zip vs) m x=_;unfold bindL;exact qtw (i:=i) (Jl.mp nd).2 (by simpa using h1) (by simpa using h2) hk
def qtb {Qff:Str->Option Qax}{x:Str}{v:Value} : ∀ {P:List Str}{vs:List Value}{i:Nat}{m:Str->Option Value},P.Nodup->P[i]?=some x->vs[i]?=some v->Qff x≠some .local ->
 bindC Qff (P.zip vs) m x=some v
  | [],_,_,_,_,h,_,_=>by simp at h
  | _::_,[],_,_,_,_,h,_=>by simp at h
  | p::P,w::vs,0,m,nd,h1,h2,hk=>by
   simp at h1 h2;subst h1;subst h2;show bindC Qff ((p,w)::P.zip vs) m p=_;unfold bindC;rw [qsr fun v hv=>(Jl.mp nd).1 (Qgd hv).1,if_neg hk];simp
  | p::P,w::vs,i+1,m,nd,h1,h2,hk=>by
   show bindC Qff ((p,w)::P.zip vs) m x=_;unfold bindC;exact qtb (i:=i) (Jl.mp nd).2 (by simpa using h1) (by simpa using h2) hk
def start (N:List Str) (vs:List V):St:=vs.map some++Vd (N.length-vs.length) none
def qot (CX:CXT) (P:Zj) (w:World) (K:Qd) (mg:Str->Option Value) (base:Heap) (N:List Str) (qual:Str) (scope:Scope) (f:Addr) (cd:Value) (A:Z4) (outer:List Env) (s:Ql) (H:Hp) (E:XK):Cx where
 prog:=P
 w:=w
 K:=K
 mg:=mg
 base:=base
 A:=A.deeper (Qcx qual scope s.heap.objs.size f cd)
 N:=N
 s₀:=s
 H₀:=H
 env:=Qcx qual scope s.heap.objs.size f cd
 outer:=outer
 stack:=Qcx qual scope s.heap.objs.size f cd::outer
 ex:=[]
 calm:=true
 fn:=fun _=>true
 pn:=[]
 xe:=fun e s'=>wpAny (model P w) (A.deeper (Qcx qual scope s.heap.objs.size f cd)) (leaving (Qcx qual scope s.heap.objs.size f cd) e) (fun _ s''=>CX outer H s E e s'') (fun e' s''=>CX outer H s E e' s'') s'
def qxx {sc:Scope}{n:Nat}{x:Str} (h:sc.names.lookup x=some .cell) : ∃ c,(V1 n sc.names []).lookup x=some c:=by
 have q:=Qcg sc.names n [] (.inl h);exact Jm.mp q
def zaep {CX:CXT}{P:Zj}{w:World}{K:Qd}{mg:Str->Option Value}{base:Heap}{N ps:List Str}{qual:Str}{scope:Scope}{f:Addr}{cd:Value}{A:Z4}{outer:List Env}{s s1:Ql}{H:Hp}{E:XK}{us:List Value}{vs:List V}
 (S:FnScope N ps scope) (hd:A.handled=none) (e0:Env0 P w K mg base A outer s H) (hl:vs.length=ps.length) (r:Vals vs us)
 (x:InCallC s s.heap.objs.size (bindL (Qcx qual scope s.heap.objs.size f cd).kindOf (ps.zip us) fun _=>none) (V1 (s.heap.objs.size+1) scope.names []) (bindC (Qcx qual scope s.heap.objs.size f cd).kindOf (ps.zip us) fun _=>none) s1) :
 Inv (qot CX P w K mg base N qual scope f cd A outer s H E) [] (start N vs) H s1:=by
  have hpl:ps.length<=N.length:=by have:=congrArg Qjz S.pre;rw [Vz] at this;omega
  obtain ⟨h1,tk,rfl,hk⟩:=x.done;have noA : ∀ b:Addr,b ∉ (qot CX P w K mg base N qual scope f cd A outer s H E).ex:=fun b z=>absurd (show b ∈ ([]:List Addr) from z) (by simp);refine ⟨⟨e0.mod,S.kind,rfl,rfl,Qr _,fun y z c h1 h2=>?_,fun y hy=>?_,fun y c _ h=>?_,fun _=>hd,Qhd e0.frames,.inr ⟨rfl,rfl⟩,fun b z=>absurd z (noA b),e0.bs,e0.bsz,fun b _ _=>noA b,fun b z=>absurd z (noA b),e0.funs,e0.frf⟩,
   rfl,e0.bare,Un.kept hk,⟨_,x.toInCall.ns,fun i y v h1 h2 h3=>?_⟩,fun y c h=>⟨_,x.cell y c h⟩,e0.hok.fresh (Qr _),fun y c h=>?_,fun p hp=>absurd (show p ∈ ([]:List (Addr×Obj)) from hp) (by simp),e0.hok.kept hk,?_⟩
  ·exact name_of_addr x.apart (Vn h1) (Vn h2)
  ·have hy:scope.names.lookup y=some .cell\/scope.names.lookup y=some .free:=hy;rcases hy with hy|hy
   ·exact qxx hy
   ·exact absurd rfl (S.nofree _ (Vn hy))
  ·exact Y8 (x.above y c (Vn h))
  ·have hi:i<vs.length:=by
    unfold start at h2;by_cases hi:i<vs.length
    ·exact hi
    ·rw [Z5 (by simpa using hi)] at h2;rw [V2] at h2;split at h2 <;> cases h2
   have ha:vs[i]?=some v:=by
    unfold start at h2;rw [Zg (by simpa using hi),Qa] at h2;cases e:vs[i]? with
    | none=>rw [e] at h2;cases h2
    | some a=>rw [e] at h2;cases h2;rfl
   obtain ⟨u,hu,rv⟩:=r.get ha;have hp:ps[i]?=some y:=by
    rw [<- S.pre,Qbk (by omega)];exact h1
   have ndP:ps.Nodup:=by rw [<- S.pre];exact S.nd.sublist (List.take_sublist _ _)
   refine ⟨u,rv,?_⟩;rcases S.par y (Qg hp) with k|k
   ·exact .inl ⟨k,qtw ndP hp hu k⟩
   ·obtain ⟨c,e⟩:=qxx (n:=s.heap.objs.size+1) k;refine .inr ⟨.inl k,c,e,?_⟩;have q:=x.cell y c e;rw [qtb ndP hp hu (by show scope.names.lookup y≠_;rw [k];decide)] at q;exact q
  ·exact e0.hok.fresh (Y8 (x.above y c (Vn h)))
  ·unfold start;show _=N.length;rw [Z1,Qf,Qaj];omega
def zaor {CX:CXT}{P:Zj}{w:World}{K:Qd}{mg:Str->Option Value}{base:Heap}{k:Nat}{f:Addr}{name qual:Str}{params:Qgq}{body:List Stmt}{scope:Scope}{dV kV doc pm cdv ct oc:Value}{an od:Option Addr}
 {osl:Array (Option Value)}{N ps:List Str}{sp:Sp} (lk:K.lookup f=some ⟨oc,od,.func (Va name qual params body scope dV kV doc pm an cdv ct),osl⟩) (hcd:J9 K cdv qual=true) (S:FnScope N ps scope)
 (len : ∀ vs H Q E,sp vs H Q E->vs.length=ps.length)
 (hbody : ∀ (A:Z4) (outer:List Env) (s:Ql) (H:Hp) (vs:List V) (Q:VK) (E:XK),Room k (A.deeper (Qcx qual scope s.heap.objs.size f cdv))->sp vs H Q E ->
 ∃ t,PSs (qot CX P w K mg base N qual scope f cdv A outer s H E) body t/\t { nx:=fun _ H'=>Q .non H',rt:=Q } (start N vs) H) :
  FnOk P w K mg base CX (k+1) f (Va name qual params body scope dV kV doc pm an cdv ct) ps sp:=by
  refine ⟨len,fun A outer s H args us vs Q E hr e0 hb r hsp=>?_⟩;have hl:=len _ _ _ _ hsp;have KX:K.In s.heap:=e0.mod.kin.keeps fun b o e=>(e0.bs b o e).1;have lim:s.heap.NoLimit:=e0.mod.nolimit.keeps fun b o e=>(e0.bs b o e).1;have hkind : ∀ y ∈ ps.zip us,scope.names.lookup y.1=some .local\/(scope.names.lookup y.1=some .cell/\((V1 (s.heap.objs.size+1) scope.names []).lookup y.1).isSome=true):=fun xx48 hy=>by
   obtain ⟨n,v⟩:=xx48;rcases S.par n (Qgd hy).1 with q|q
   ·exact .inl q
   ·exact .inr ⟨q,Qcg _ _ _ (.inl q)⟩
  refine codeAny_call_function hr.depth (KX _ _ lk) rfl S.co S.gen rfl (PySem.W.codeRec_of KX hcd) (hb _ _ _ _ ?_);refine wpAny_newFunctionEnv_cells S.kind hkind fun env he s1 x=>?_;subst he;refine ⟨lim.keeps x.toInCall.keep,codeAny_func ?_⟩;obtain ⟨t,ht,hq⟩:=hbody A outer s H vs Q E (hr.deeper _) hsp;have I:Inv (qot CX P w K mg base N qual scope f cdv A outer s H E) [] (start N vs) H s1:=zaep S hr.hd e0 hl r x;refine Vy (ht [] s1 (start N vs) H _ I hq) (fun fl s' hs=>?_) fun e s' hs=>hs;have fin : ∀ {σ':St}{H':Hp}{v:V}{u:Value},Inv (qot CX P w K mg base N qual scope f cdv A outer s H E) [] σ' H' s'->RelV v u->Q v H'->CE outer P w H s Q u s' :=
   fun {σ' H' v u} J rv q=>⟨v,H',J.os,J.bare,J.base,J.hok,rv,q⟩
  cases fl with
  | ret u =>
   obtain ⟨v,σ',H',J,rv,q⟩:=hs;exact fin J rv q
  | next =>
   obtain ⟨σ',H',J,q⟩:=hs;exact fin (v:=V.non) (u:=Y7) J rfl q
  | brk =>
   obtain ⟨_,_,_,q⟩:=hs;exact Zd q
  | cont =>
   obtain ⟨_,_,_,q⟩:=hs;exact Zd q
end
section
section
variable {X:Cx}{x:Str}{p pos:Pos}{e:Expr}{es:List Expr}{t:TA}{id T:String}{r:List V->Hp->VK->Prop}
def tCB (r:List V->Hp->VK->Prop) (t:TA):TE:=fun σ H Q=>t σ H fun vs H1=>r vs H1 Q
def qip (hc:CallR X (.builtin id) r) (hg:Gl X x) (hm:X.mg x=none) (hv:Zv x=some (.builtin id)) (ha:PA X (e::es) t) (hn:x ≠ "__name__":=by decide) (hdb:Nd0 x:=by decide)
 (he:Qw (e::es) X.env=(false,eval e X.env)::Qw es X.env:=by rfl) (hpl:(Vl pos (Qw es X.env)).any (·.1)=false:=by rfl):PE X (.Call (.Name x p) (e::es) [] pos) (tCB r t):=by
 intro pins s σ H Q I h;refine Qai (qlc I hg hm hv ?_ hn hdb);exact PyProof.Rows.callWith_builtin1 (thn (ha pos pins s σ H _ I h) fun us s1 xx49=>by obtain ⟨vs,H1,I1,r1,q1⟩:=xx49;exact hc pins s1 σ H1 vs us Q I1 r1 q1) he hpl
def qgj (hc:CallR X (.type T) r) (hg:Gl X x) (hm:X.mg x=none) (hv:Zv x=some (.type T)) (ha:PA X (e::es) t) (hn:x ≠ "__name__":=by decide) (hdb:Nd0 x:=by decide)
 (he:Qw (e::es) X.env=(false,eval e X.env)::Qw es X.env:=by rfl) (hpl:(Vl pos (Qw es X.env)).any (·.1)=false:=by rfl):PE X (.Call (.Name x p) (e::es) [] pos) (tCB r t):=by
 intro pins s σ H Q I h;refine Qai (qlc I hg hm hv ?_ hn hdb);exact V8 (thn (ha pos pins s σ H _ I h) fun us s1 xx50=>by obtain ⟨vs,H1,I1,r1,q1⟩:=xx50;exact hc pins s1 σ H1 vs us Q I1 r1 q1) he hpl
end
end
end L2
namespace HT
open PySem PyProof.Rows
section
open PySem.SeqAt
open PySem.AutoSeq1 (wpAny_loadPart')
open PySem.MeetsSeq PySem.MeetsSeq2 PySem.MeetsSeq3
end
section
variable {prog:Zj}{w:World}{A:Z4}{E:Value->Ql->Prop}{s:Ql}
def cat_tup {t b:Addr}{vs ws:List Value}{Q:Value->Ql->Prop} (ht:IsTup s.heap t vs.toArray) (hb:IsTup s.heap b ws.toArray) (hv:vs≠[])
 (h1:ws=[]->Q (.ref t) s) (h2:ws≠[]->Q (.ref s.heap.objs.size) { s with heap:=s.heap.push { cls :=.type "tuple",data :=.seq (vs++ws).toArray } })
  (hsz:vs.length+ws.length<=Q6):wpAny (model prog w) A (Je .Add (.ref t) (.ref b)) Q E s:=by
  obtain ⟨⟨cls,dd,data,sl⟩,ho,hc,n,hd⟩:=id ht;obtain ⟨⟨cls2,dd2,data2,sl2⟩,ho2,hc2,n2,hd2⟩:=id hb;simp only at hc hd hc2 hd2;subst hc hd hc2 hd2;have e:vs.toArray++ws.toArray=(vs++ws).toArray:=by simp
  by_cases hw:ws=[]
  ·exact Qjh ⟨_,ho,rfl⟩ ⟨_,ho2,rfl⟩ noFill_tuple_add seq_tuple_add Qfy Qfi (Qfa _ _)
    (tuple_addW1 t b vs.toArray ws.toArray n n2 dd dd2 sl sl2 (by simpa using hv) (by simp [hw])) ⟨ho,ho2,h1 hw⟩
  ·refine Qjh ⟨_,ho,rfl⟩ ⟨_,ho2,rfl⟩ noFill_tuple_add seq_tuple_add Qfy Qfi (Qfa _ _)
    (tuple_addW2 t b vs.toArray ws.toArray n n2 dd dd2 sl sl2 (by simpa using hv) (by simpa using hw) (by rw [Qs,Qs];exact hsz)) ⟨ho,ho2,?_⟩
   rw [e];exact h2 hw
def sIx (n d:Nat):Option Int->Nat
 | none=>d
 | some v=>if v<0 then (v+(n:Int)).toNat else min v.toNat n
def sIx_none (n d:Nat):sIx n d none=d:=rfl
def sIx_nat (n d k:Nat):sIx n d (some (k:Int))=min k n:=by
 show (if (k:Int)<0 then ((k:Int)+(n:Int)).toNat else min (k:Int).toNat n)=min k n;rw [if_neg (by omega),Yd]
end
end HT
namespace L2
open PySem PySem.Spec PyProof.Rows
section
abbrev TO:=St->Hp->(Option Int->Hp->Prop)->Prop
def PO (X:Cx) (e:Option Expr) (t:TO):Prop :=
 ∀ (pins:List (Addr×Obj)) (s:Ql) (σ:St) (H:Hp) (Q:Option Int->Hp->Prop),Inv X pins σ H s->t σ H Q ->
  wpAny (model X.prog X.w) X.A (evalPart e X.env) (fun u s' => ∃ o H',Inv X pins σ H' s'/\IsPart u o/\Q o H') X.xe s
def zaky:TO:=fun _ H Q=>Q none H
def zatx (t:TE):TO:=fun σ H Q=>t σ H fun x H1 => ∃ i,x = .int i/\Q (some i) H1
def qpf {ns:List Int} : ∀ {us:List Value},Vals (ns.map V.int) us->Qgr us ns:=by
 induction ns with
 | nil=>intro us r;rw [Jw] at r;cases r;exact .nil
 | cons n ns ih =>
  intro us r;rw [Q2] at r;cases r with
  | cons r1 r2 =>
   obtain ⟨t,e⟩:=r1;subst e;exact .cons n t (ih r2)
section
variable {X:Cx}{e:Expr}{te:TE}{lo hi:Option Expr}{tl th:TO}{pos p2:Pos}
def zakv:PO X none zaky:=by
 intro pins s σ H Q I h;rw [evalPart_none];exact Q4 ⟨none,H,I,.none,h⟩
def zakw (h:PE X e te):PO X (some e) (zatx te):=by
 intro pins s σ H Q I hw;rw [evalPart_some];refine thn (h pins s σ H _ I hw) fun u s1 xx51=>?_;obtain ⟨x,H1,I1,r1,q1⟩:=xx51;obtain ⟨i,rfl,q⟩:=q1;obtain ⟨t,rfl⟩:=r1;exact ⟨some i,H1,I1,.int i t,q⟩
def SlR (X:Cx) (r:V->Option Int->Option Int->Hp->VK->Prop):Prop :=
 ∀ (pins:List (Addr×Obj)) (s:Ql) (σ:St) (H:Hp) (x:V) (v vl vu:Value) (lo hi:Option Int) (sl:Addr) (Q:VK),Inv X pins σ H s->RelV x v->s.heap.IsSliceOf sl vl vu .none->IsPart vl lo->IsPart vu hi->r x lo hi H Q ->
  ∃ T id,typeLookup (.type T) "__getitem__" = pure (some (.builtin id))/\s.TypeIs v T/\wpAny (model X.prog X.w) X.A (getItem v (.ref sl)) (EP X pins σ Q) X.xe s
def tSl (r:V->Option Int->Option Int->Hp->VK->Prop) (te:TE) (tl th:TO):TE:=fun σ H Q=>te σ H fun x H1=>tl σ H1 fun l H2=>th σ H2 fun u H3=>r x l u H3 Q
def zagb {r:V->Option Int->Option Int->Hp->VK->Prop} (hr:SlR X r) (he:PE X e te) (hl:PO X lo tl) (hu:PO X hi th):PE X (.Subscript e (.Slice lo hi none p2) pos) (tSl r te tl th):=by
 intro pins s σ H Q I h;refine Subscript_ (thn (he pins s σ H _ I h) fun v s1 xx54=>?_);obtain ⟨x,H1,I1,r1,q1⟩:=xx54;refine wpAny_Slice (thn (hl pins s1 σ H1 _ I1 q1) fun vl s2 ⟨l,H2,I2,pl,q2⟩=>thn (hu pins s2 σ H2 _ I2 q2) fun vu s3 xx52=>?_);obtain ⟨u,H3,I3,pu,q3⟩:=xx52;rw [evalPart_none];refine Q4 ?_;have I4:Inv X pins σ H3 { s3 with heap:=s3.heap.push { cls :=.type "slice",data :=.fields #[vl,vu,.none] } }:=I3.kept (t':=s3.toks) fun b ob q=>Qj _ q;obtain ⟨T,id,hT,ht,hg⟩:=hr pins { s3 with heap:=s3.heap.push { cls :=.type "slice",data :=.fields #[vl,vu,.none] } } σ H3 x v vl vu l u s3.heap.objs.size Q I4 r1 (Qlr ..) pl pu q3;show wpAny (model X.prog X.w) X.A (subscriptTail e (.Slice lo hi none p2) v (.ref s3.heap.objs.size)) (EP X pins σ Q) X.xe { s3 with heap:=s3.heap.push { cls :=.type "slice",data :=.fields #[vl,vu,.none] } };exact tail_any (ops:=[.ref s3.heap.objs.size,v]) ht hT hg (by with_unfolding_all rfl)
def cutV (xs:List V) (lo hi:Option Int):List V:=(xs.drop (HT.sIx xs.length 0 lo)).take (HT.sIx xs.length xs.length hi-HT.sIx xs.length 0 lo)
def qwk (xs:List V) (lo hi:Option Int):(cutV xs lo hi).length<=xs.length:=by
 unfold cutV;rw [Vz,Qcy];omega
def zast (K:Qd):R2:=fun x y H Q => ∃ a b xs ys,x = .ref a/\y = .ref b/\SqT K H a xs/\SqT K H b ys/\xs≠[]/\xs.length+ys.length<=Q6 /\
 (ys=[]->Q (.ref a) H)/\(ys≠[] -> ∀ p,H p=none->Q (.ref p) (upd H p (.tup (xs++ys))))
def Vals.nil_iff {xs:List V}{us:List Value} (r:Vals xs us):us=[]↔xs=[]:=by
 cases r with
 | nil=>simp
 | cons _ _=>simp
def zamv:OpR X (Je .Add) (zast X.K):=by
 intro pins s σ H x y v u Q I rx ry h;obtain ⟨a,b,xs,ys,rfl,rfl,ha,hb,hx,hz,q1,q2⟩:=h;cases rx;cases ry;obtain ⟨its,r1,p1,_⟩:=I.tuple ha;obtain ⟨its2,r2,p2,_⟩:=I.tuple hb;refine HT.cat_tup p1 p2 (fun z=>hx (r1.nil_iff.mp z)) (fun z=>⟨.ref a,H,I,rfl,q1 (r2.nil_iff.mp z)⟩) (fun z=>?_) (by rw [<- r1.length,<- r2.length];exact hz);refine ⟨.ref s.heap.objs.size,_,I.laid (t':=s.toks) (o :=.tup (xs++ys)) (fun b ob q=>Qj _ q) (Qr _) ?_,rfl,q2 (fun w=>z (r2.nil_iff.mpr w)) _ (I.hok.fresh (Qr _))⟩;exact ⟨by rw [Z1];exact hz,_,r1.append r2,Qlh _ _⟩
end
end
section
def ixN (n:Nat) (i:Int):Option Nat:=if 0<=i then (if i<n then some i.toNat else none) else if -(n:Int)<=i then some (i+n).toNat else none
def atI {α:Type} (xs:List α) (i:Int):Option α:=(ixN xs.length i).bind fun j=>xs[j]?
def zabn {n:Nat}{i:Int}{j:Nat} (h:ixN n i=some j):seqIndex? i n=some j/\j<n /\ -(n:Int)<=i/\i<n:=by
 unfold ixN at h;by_cases h0:0<=i
 ·rw [if_pos h0] at h;by_cases h1:i<n
  ·rw [if_pos h1] at h;have e:i.toNat=j:=Qp h;exact ⟨by rw [Qko h0 h1,e],by omega,by omega,h1⟩
  ·rw [if_neg h1] at h;cases h
 ·rw [if_neg h0] at h;by_cases h1 : -(n:Int)<=i
  ·rw [if_pos h1] at h;have e:(i+n).toNat=j:=Qp h;exact ⟨by rw [Qji (by omega) h1,e],by omega,h1,by omega⟩
  ·rw [if_neg h1] at h;cases h
def quq {α:Type}{xs:List α}{i:Int}{v:α} (h:atI xs i=some v) : ∃ j,seqIndex? i xs.length=some j/\xs[j]?=some v/\j<xs.length /\ -(xs.length:Int)<=i/\i<xs.length:=by
 unfold atI at h;cases e:ixN xs.length i with
 | none=>rw [e] at h;cases h
 | some j =>
  rw [e] at h;obtain ⟨h1,h2,h3,h4⟩:=zabn e;exact ⟨j,h1,h,h2,h3,h4⟩
def qaf {α:Type}{xs:List α}{j:Nat}{v:α} (h:xs[j]?=some v):atI xs (j:Int)=some v:=by
 have hj:j<xs.length:=(Qm.mp h).1;have e:ixN xs.length (j:Int)=some j:=by
  unfold ixN;rw [if_pos (by omega),if_pos (by omega)];simp
 unfold atI;rw [e];exact h
def atI_last {α:Type} (xs:List α) (v:α):atI (xs++[v]) (-1)=some v:=by
 have hl:(xs++[v]).length=xs.length+1:=by simp
 have e:ixN (xs++[v]).length (-1)=some xs.length:=by
  unfold ixN;rw [hl,if_neg (by decide),if_pos (by omega)]
  congr 1
  omega
 unfold atI;rw [e];show (xs++[v])[xs.length]?=some v;simp
def qvb (b:Expr):Prop := ∀ o i,subscripted b false o i=operate [o,i] (getItem o i)
def IxR (X:Cx) (r:R2):Prop :=
 ∀ (value slice:Expr) (pins:List (Addr×Obj)) (s:Ql) (σ:St) (H:Hp) (x y:V) (v u:Value) (Q:VK),Inv X pins σ H s->RelV x v->RelV y u->r x y H Q ->
  subscripted slice false v u=operate [v,u] (getItem v u)->wpAny (model X.prog X.w) X.A (subscriptTail value slice v u) (EP X pins σ Q) X.xe s
def MtR (X:Cx) (id:String) (r:V->List V->Hp->VK->Prop):Prop :=
 ∀ (pins:List (Addr×Obj)) (s:Ql) (σ:St) (H:Hp) (x:V) (xs:List V) (v:Value) (us:List Value) (Q:VK),Inv X pins σ H s->RelV x v->Vals xs us->r x xs H Q ->
  wpAny (model X.prog X.w) X.A (call (.builtin id) (v::us)) (EP X pins σ Q) X.xe s
section
variable {X:Cx}{a b:Expr}{ta tb:TE}{pos:Pos}
def IxR.or {r r':R2} (h:IxR X r) (h':IxR X r'):IxR X (fun x y H Q=>r x y H Q\/r' x y H Q):=by
 intro value slice pins s σ H x y v u Q I rx ry q hs;rcases q with q|q
 ·exact h value slice pins s σ H x y v u Q I rx ry q hs
 ·exact h' value slice pins s σ H x y v u Q I rx ry q hs
def qhh {r:R2} (hr:IxR X r) (ha:PE X a ta) (hb:PE X b tb) (hs:qvb b):PE X (.Subscript a b pos) (tOp r ta tb):=by
 intro pins s σ H Q I h;exact Subscript_ (binT ha hb I h fun v u s2 x y H2 I2 rx ry q=>hr a b pins s2 σ H2 x y v u Q I2 rx ry q (hs _ _))
def rIxL (K:Qd):R2:=fun x y H Q => ∃ p xs i v,x = .ref p/\y = .int i/\SqL K H p xs/\atI xs i=some v/\Q v H
def rIxT (K:Qd):R2:=fun x y H Q => ∃ p xs i v,x = .ref p/\y = .int i/\SqT K H p xs/\atI xs i=some v/\Q v H
def rIxS:R2:=fun x y H Q => ∃ z i c,x = .str z/\y = .int i/\z.length<=Q6/\atI z.cps.toList i=some c/\Q (.str ⟨#[c]⟩) H
def qcy:IxR X (rIxL X.K):=by
 intro value slice pins s σ H x y v u Q I rx ry h hs;obtain ⟨p,xs,i,z,rfl,rfl,hq,he,q⟩:=h;cases rx;obtain ⟨t,rfl⟩:=ry;obtain ⟨its,r,pl,hz⟩:=I.list hq;obtain ⟨j,h1,h2,h3,h4,h5⟩:=quq he;obtain ⟨w,ew,rw'⟩:=r.get h2;have hl:=r.length;have hn:=qlb;have fin:EP X pins σ Q w s:=⟨z,H,I,rw',q⟩
 by_cases h0:0<=i
 ·have hj:i.toNat=j:=by
   rw [Qko h0 h5] at h1;exact Qp h1
  exact item_listR pl.isList h0 (by omega) (by rw [hj];simpa using ew) fin hs
 ·have hj:(i+(its.toArray.size:Int)).toNat=j:=by
   rw [Qji (by omega) h4] at h1;rw [Qs,<- hl];exact Qp h1
  exact Qga (x:=w) pl.isList.typeIs slot_list_getitem.lookup
   (wpAny_getItem_list_neg (Q:=fun r s'=>r=w/\EP X pins σ Q r s') pl.isList (by omega) (by rw [Qs] <;> omega) (by omega) (by rw [hj];simpa using ew) ⟨rfl,fin⟩) hs
def zarf:IxR X (rIxT X.K):=by
 intro value slice pins s σ H x y v u Q I rx ry h hs;obtain ⟨p,xs,i,z,rfl,rfl,hq,he,q⟩:=h;cases rx;obtain ⟨t,rfl⟩:=ry;obtain ⟨its,r,pl,hz⟩:=I.tuple hq;obtain ⟨j,h1,h2,h3,h4,h5⟩:=quq he;obtain ⟨w,ew,rw'⟩:=r.get h2;have hl:=r.length;have hn:=qlb;have fin:EP X pins σ Q w s:=⟨z,H,I,rw',q⟩
 exact Qga (x:=w) pl.typeIs slot_tuple_getitem.lookup
  (getItem_tuple (j:=j) (Q:=fun r s'=>r=w/\EP X pins σ Q r s') pl (by omega) (by omega) (by rw [Qs,<- hl];exact h1) (by simpa using ew) ⟨rfl,fin⟩) hs
def zapn:IxR X rIxS:=by
 intro value slice pins s σ H x y v u Q I rx ry h hs;obtain ⟨z,i,c,rfl,rfl,hz,he,q⟩:=h;obtain ⟨t,rfl⟩:=rx;obtain ⟨t',rfl⟩:=ry;obtain ⟨j,h1,h2,h3,h4,h5⟩:=quq he;have hl:z.cps.toList.length=z.length:=by simp [Str.length]
 rw [hl] at h1 h4 h5;have hn:=qlb;exact tail_any (typeIs_str s z t) slot_str_getitem.lookup (getItem_str (c:=c) (by
  have e1:decide (i < -(2^63:Int))=false:=decide_eq_false (by omega);have e2:decide (i>=2^63)=false:=decide_eq_false (by omega);rw [e1,e2,Bool.or_false]) (by rw [h1];simpa using h2) ⟨.str ⟨#[c]⟩,H,I.tok _,⟨_,rfl⟩,q⟩) hs
def rIx (K:Qd):R2:=fun x y H Q=>rIxL K x y H Q\/rIxT K x y H Q\/rIxS x y H Q
def zapx:IxR X (rIx X.K):=qcy.or (zarf.or zapn)
def qzl (its:List Value) (n j:Nat) (u:Value):Ys (·.setIfInBounds j u) { cls :=.type "list",data :=.seq its.toArray n }={ cls :=.type "list",data :=.seq (its.set j u).toArray n }:=by
 simp [Ys]
def Inv.lst {pins:List (Addr×Obj)}{σ:St}{H:Hp}{s:Ql}{p:Addr}{xs:List V} (I:Inv X pins σ H s) (h:H p=some (.lst xs)) :
 ∃ (its:List Value) (n:Nat),Vals xs its/\s.heap.get? p=some { cls :=.type "list",data :=.seq its.toArray n }/\xs.length<=Q6:=by
  obtain ⟨z,its,n,r,e⟩:=I.hok p _ h;exact ⟨its,n,r,e,z⟩
def Inv.lstUpd {pins:List (Addr×Obj)}{σ:St}{H:Hp}{s:Ql}{p:Addr}{xs ys:List V}{its its':List Value}{n n':Nat}{f:Obj->Obj} (I:Inv X pins σ H s) (h:H p=some (.lst xs))
 (ho:s.heap.get? p=some { cls :=.type "list",data :=.seq its.toArray n }) (hf:f { cls :=.type "list",data :=.seq its.toArray n }={ cls :=.type "list",data :=.seq its'.toArray n' }) (r:Vals ys its') (hz:ys.length<=Q6) (t:Nat) :
  Inv X pins σ (upd H p (.lst ys)) { s with heap:=s.heap.update p f,toks:=t }:=by
  have e:(s.heap.update p f).get? p=some { cls :=.type "list",data :=.seq its'.toArray n' }:=by
   rw [Qak f ho (by rw [hf] <;> rfl),hf]
  refine I.write (x:=p) (e:=p) (by rw [h];trivial) (.inl rfl) (fun b u hb q=>(Qae _ _ (Z0 hb)).trans q) ⟨_,e⟩ ?_;exact ⟨hz,its',n',r,e⟩
def zasg:V->V->V->Hp->(Hp->Prop)->Prop:=fun o i v H Q => ∃ p xs k j,o = .ref p/\i = .int k/\H p=some (.lst xs)/\ixN xs.length k=some j/\Q (upd H p (.lst (xs.set j v)))
def qln:PSet X zasg:=by
 intro pins s σ H o i v ov iv u Q I ro ri rv h;obtain ⟨p,xs,k,j,rfl,rfl,hp,hj,q⟩:=h;cases ro;obtain ⟨t,rfl⟩:=ri;obtain ⟨its,n,r,ho,hz⟩:=I.lst hp;obtain ⟨h1,h2,h3,h4⟩:=zabn hj;have hl:=r.length;have hn:=qlb;have I':Inv X pins σ (upd H p (.lst (xs.set j v))) { s with heap:=s.heap.update p (Ys (·.setIfInBounds j u)) } :=
  I.lstUpd hp ho (qzl its n j u) (r.set rv j) (by rw [Ye];exact hz) s.toks
 by_cases h0:0<=k
 ·have hk:k.toNat=j:=by
   rw [Qko h0 h4] at h1;exact Qp h1
  exact PySem.W.ki_setAt ho h0 (by omega) (by rw [Qs,<- hl];exact h4) (by rw [hk];exact ⟨_,I',q⟩)
 ·have hk:(k+(its.toArray.size:Int)).toNat=j:=by
   rw [Qji (by omega) h3] at h1;rw [Qs,<- hl];exact Qp h1
  exact PySem.W.ki_setBack ho (by omega) (by rw [Qs,<- hl];exact h3) (by omega) (by rw [hk];exact ⟨_,I',q⟩)
def qty (lo hi:Option Int) (n:Nat):(Qcq lo hi none n).1=((HT.sIx n 0 lo:Nat):Int)/\(Qcq lo hi none n).2.1=((HT.sIx n n hi:Nat):Int)/\(Qcq lo hi none n).2.2=1:=by
 refine ⟨?_,?_,rfl⟩
 ·cases lo with
  | none=>simp [Qcq,HT.sIx]
  | some i =>
   simp only [Qcq,HT.sIx,Qjk,show (1:Int)>0 by decide,if_true];by_cases h:i<0
   ·simp only [h,if_true] <;> omega
   ·simp only [h,if_false] <;> omega
 ·cases hi with
  | none=>simp [Qcq,HT.sIx]
  | some i =>
   simp only [Qcq,HT.sIx,Qjk,show (1:Int)>0 by decide,if_true];by_cases h:i<0
   ·simp only [h,if_true] <;> omega
   ·simp only [h,if_false] <;> omega
def qry (its:List Value) (lo hi:Option Int):slicePick its.toArray lo hi none=((its.drop (HT.sIx its.length 0 lo)).take (HT.sIx its.length its.length hi-HT.sIx its.length 0 lo)).toArray:=by
 obtain ⟨h1,h2,h3⟩:=qty lo hi its.toArray.size;unfold slicePick;rw [h1,h2,h3];simp only [sliceRange_one,pick_run,Qs] <;> rfl
def rSlL (K:Qd):V->Option Int->Option Int->Hp->VK->Prop:=fun x lo hi H Q => ∃ a xs,x = .ref a/\SqL K H a xs /\ ∀ p,H p=none->Q (.ref p) (upd H p (.lst (cutV xs lo hi)))
def zala:SlR X (rSlL X.K):=by
 intro pins s σ H x v vl vu lo hi sl Q I rx hs pl pu h;obtain ⟨a,xs,rfl,hx,q⟩:=h;cases rx;obtain ⟨its,r,ht,hz⟩:=I.list hx;have hlen:=r.length;refine ⟨"list",_,slot_list_getitem.lookup,ht.isList.typeIs,?_⟩;refine wpAny_getItem_list_slice ht.isList hs pl pu .none (by simp) ?_ (by rw [Qs] <;> omega);rw [qry,<- hlen];refine ⟨.ref s.heap.objs.size,_,I.laid (t':=s.toks) (o :=.lst (cutV xs lo hi)) (fun b ob q=>Qj _ q) (Qr _) ?_,rfl,q _ (I.hok.fresh (Qr _))⟩;exact ⟨Zk (qwk xs lo hi) hz,_,0,(r.drop (HT.sIx xs.length 0 lo)).take (HT.sIx xs.length xs.length hi-HT.sIx xs.length 0 lo),Qz _ rfl⟩
def qll:V->Bool
 | .non=>true
 | .bl _=>true
 | .int _=>true
 | .str _=>true
 | _=>false
def eqV:V->V->Bool
 | .non,.non=>true
 | .bl a,.bl b=>a==b
 | .bl a,.int b=>(if a then 1 else 0)==b
 | .int a,.bl b=>a==(if b then 1 else 0)
 | .int a,.int b=>a==b
 | .str a,.str b=>a==b
 | _,_=>false
def zapa {A:Z4}{s:Ql}{y x:V}{u v:Value} (ry:RelV y u) (rx:RelV x v) (fy:qll y=true) (fx:qll x=true):SeqAt.EqAt A s u v (eqV y x):=by
 cases y with
 | non =>
  cases ry;cases x with
  | non=>cases rx;exact SeqAt.EqAt.same _
  | bl b=>cases rx;exact SeqAt.EqAt.none_bool b
  | int b=>obtain ⟨t,rfl⟩:=rx;exact SeqAt.EqAt.none_int b t
  | str b=>obtain ⟨t,rfl⟩:=rx;exact SeqAt.EqAt.none_str b t
  | _=>exact absurd (show false=true from fx) Zo
 | bl a =>
  cases ry;cases x with
  | non=>cases rx;exact SeqAt.EqAt.bool_none a
  | bl b=>cases rx;exact SeqAt.EqAt.bool_bool a b
  | int b=>obtain ⟨t,rfl⟩:=rx;exact SeqAt.EqAt.bool_int a b t
  | str b=>obtain ⟨t,rfl⟩:=rx;exact SeqAt.EqAt.bool_str a b t
  | _=>exact absurd (show false=true from fx) Zo
 | int a =>
  obtain ⟨t',rfl⟩:=ry;cases x with
  | non=>cases rx;exact SeqAt.EqAt.int_none a t'
  | bl b=>cases rx;exact SeqAt.EqAt.int_bool a t' b
  | int b=>obtain ⟨t,rfl⟩:=rx;exact SeqAt.EqAt.int_int a t' b t
  | str b=>obtain ⟨t,rfl⟩:=rx;exact Qhy a t' b t
  | _=>exact absurd (show false=true from fx) Zo
 | str a =>
  obtain ⟨t',rfl⟩:=ry;cases x with
  | non=>cases rx;exact SeqAt.EqAt.str_none a t'
  | bl b=>cases rx;exact SeqAt.EqAt.str_bool a t' b
  | int b=>obtain ⟨t,rfl⟩:=rx;exact Qhz a t' b t
  | str b=>obtain ⟨t,rfl⟩:=rx;exact SeqAt.EqAt.str_str a t' b t
  | _=>exact absurd (show false=true from fx) Zo
 | _=>exact absurd (show false=true from fy) Zo
def eqU (x:V) (u:Value):Bool:=match u with
 | .none=>eqV .non x
 | .bool b=>eqV (.bl b) x
 | .int i _=>eqV (.int i) x
 | .str z _=>eqV (.str z) x
 | _=>false
def zaik {x y:V}{u:Value} (r:RelV y u) (f:qll y=true):eqU x u=eqV y x:=by
 cases y with
 | non=>cases r;rfl
 | bl b=>cases r;rfl
 | int i=>obtain ⟨t,rfl⟩:=r;rfl
 | str z=>obtain ⟨t,rfl⟩:=r;rfl
 | _=>exact absurd (show false=true from f) Zo
def quy {x:V} : ∀ {xs:List V}{us:List Value},Vals xs us->xs.all qll=true->us.any (eqU x)=xs.any fun y=>eqV y x
 | _,_,.nil,_=>rfl
 | y::xs,u::us,.cons r t,f=>by
  rw [Qid,Ym] at f;rw [Jz,Jz,zaik r f.1,quy t f.2]
def qrj {A:Z4}{s:Ql}{x:V}{v:Value} (rx:RelV x v) (fx:qll x=true) : ∀ {xs:List V}{us:List Value},Vals xs us->xs.all qll=true -> ∀ u ∈ us,SeqAt.EqAt A s u v (eqU x u)
 | _,_,.nil,_=>fun u hu=>by cases hu
 | y::xs,u::us,.cons r t,f=>fun u' hu=>by
  rw [Qid,Ym] at f;rcases Q5.mp hu with rfl|hu
  ·rw [zaik r f.1];exact zapa r rx f.1 fx
  ·exact qrj rx fx t f.2 u' hu
def inV (x:V) (xs:List V):Bool:=xs.any fun y=>eqV y x
def rIn (K:Qd) (neg:Bool):R2:=fun x y H Q => ∃ p xs,y = .ref p/\(SqL K H p xs\/SqT K H p xs)/\qll x=true/\xs.all qll=true/\Q (.bl (if neg then !inV x xs else inV x xs)) H
def qso:OpR X (Vc .In) (rIn X.K false):=by
 intro pins s σ H x y v u Q I rx ry h;obtain ⟨p,xs,rfl,hq,fx,fs,q⟩:=h;cases ry;rcases hq with hq|hq
 ·obtain ⟨its,r,pl,hz⟩:=I.list hq;refine SeqAt.in_listAt (eqU x) pl.isList (fun w hw=>qrj rx fx r fs w (by simpa using hw)) ⟨.bl _,H,I,rfl,?_⟩;rw [show its.toArray.any (eqU x)=its.any (eqU x) by simp,quy r fs];exact q
 ·obtain ⟨its,r,pl,hz⟩:=I.tuple hq;refine SeqAt.in_tupleAt (eqU x) pl (fun w hw=>qrj rx fx r fs w (by simpa using hw)) ⟨.bl _,H,I,rfl,?_⟩;rw [show its.toArray.any (eqU x)=its.any (eqU x) by simp,quy r fs];exact q
def qgo:CallR X (.builtin "len") (fun xs H Q => ∃ p ys,xs=[.ref p]/\(SqL X.K H p ys\/SqT X.K H p ys)/\Q (.int ys.length) H):=by
 intro pins s σ H xs us Q I r h;obtain ⟨p,ys,rfl,hq,q⟩:=h;obtain ⟨u,rfl,rx⟩:=qkk r;cases rx;have hn:=qlb;rcases hq with hq|hq
 ·obtain ⟨its,r',pl,hz⟩:=I.list hq;have hlen:=r'.length;exact Calls.call_len_list pl.isList (by simp only [Qs] <;> omega) ⟨.int ys.length,H,I.tok _,⟨s.toks+1,by rw [Qs,hlen]⟩,q⟩
 ·obtain ⟨its,r',pl,hz⟩:=I.tuple hq;have hlen:=r'.length;exact len_tuple pl (by simp only [Qs] <;> omega) ⟨.int ys.length,H,I.tok _,⟨s.toks+1,by rw [Qs,hlen]⟩,q⟩
def quc:CallR X (.builtin "len") (fun xs H Q => ∃ z,xs=[.str z]/\z.length<=Q6/\Q (.int z.length) H):=by
 intro pins s σ H xs us Q I r h;obtain ⟨z,rfl,hz,q⟩:=h;obtain ⟨u,rfl,t,rfl⟩:=qkk r;have hn:=qlb;exact len_str (by omega) ⟨.int z.length,H,I.tok _,⟨_,rfl⟩,q⟩
def CallR.or {f:Value}{r r':List V->Hp->VK->Prop} (h:CallR X f r) (h':CallR X f r'):CallR X f (fun xs H Q=>r xs H Q\/r' xs H Q):=by
 intro pins s σ H xs us Q I rs q;rcases q with q|q
 ·exact h pins s σ H xs us Q I rs q
 ·exact h' pins s σ H xs us Q I rs q
def qua:CallR X (.type "list") (fun xs H Q => ∃ p ys,xs=[.ref p]/\(SqL X.K H p ys\/SqT X.K H p ys) /\ ∀ l,H l=none->Q (.ref l) (upd H l (.lst ys))):=by
 intro pins s σ H xs us Q I r h;obtain ⟨p,ys,rfl,hq,q⟩:=h;obtain ⟨u,rfl,rx⟩:=qkk r;cases rx;have fin : ∀ (its:List Value),Vals ys its->ys.length<=Q6 -> ∀ (h':Heap) (c':Nat),(∀ b o',s.heap.get? b=some o'->h'.get? b=some o') ->
  h'.get? s.heap.objs.size=some { cls :=.type "list",dict:=none,data :=.seq its.toArray c',slots := #[] }->EP X pins σ Q (.ref s.heap.objs.size) { s with heap:=h' }:=fun its r' hz h' c' kp e =>
  ⟨.ref s.heap.objs.size,_,I.laid (t':=s.toks) kp (Qr _) (show ObjOk X.prog X.w _ h' _ (.lst ys) from ⟨hz,its,c',r',e⟩),rfl,q _ (I.hok.fresh (Qr _))⟩
 rcases hq with hq|hq
 ·obtain ⟨its,r',pl,hz⟩:=I.list hq;have hlen:=r'.length;obtain ⟨o,ho,hc,n,hd⟩:=pl.isList;exact call_list_seq p (.inl rfl) ho hc hd (fun h' c' kp e=>fin its r' hz h' c' kp e) (by simp only [Qs] <;> omega)
 ·obtain ⟨its,r',pl,hz⟩:=I.tuple hq;have hlen:=r'.length;obtain ⟨o,ho,hc,n,hd⟩:=pl;exact call_list_seq p (.inr rfl) ho hc hd (fun h' c' kp e=>fin its r' hz h' c' kp e) (by simp only [Qs] <;> omega)
def qjp:CallR X (.type "tuple") (fun xs H Q => ∃ p ys,xs=[.ref p]/\((SqL X.K H p ys /\ ∀ l,H l=none->Q (.ref l) (upd H l (.tup ys)))\/(SqT X.K H p ys/\Q (.ref p) H))):=by
 intro pins s σ H xs us Q I r h;obtain ⟨p,ys,rfl,h⟩:=h;obtain ⟨u,rfl,rx⟩:=qkk r;cases rx;rcases h with ⟨hq,q⟩|⟨hq,q⟩
 ·obtain ⟨its,r',pl,hz⟩:=I.list hq;have hlen:=r'.length;refine call_tuple_list pl.isList (fun h' kp=>?_) (by simp only [Qs] <;> omega);have I1:Inv X pins σ H { s with heap:=h' }:=I.kept (t':=s.toks) kp;have I2:Inv X pins σ (upd H h'.objs.size (.tup ys)) { s with heap:=h'.push { cls :=.type "tuple",data :=.seq its.toArray } } :=
   I1.laid (t':=s.toks) (fun b o e=>Qj _ e) (Qr _) (show ObjOk X.prog X.w _ _ _ (.tup ys) from ⟨hz,its,r',Qlh _ _⟩)
  exact ⟨.ref h'.objs.size,_,I2,rfl,q _ (I1.hok.fresh (Qr _))⟩
 ·obtain ⟨its,r',pl,hz⟩:=I.tuple hq;exact call_tuple_same pl ⟨.ref p,H,I,rfl,q⟩
def tyV (K:Qd) (T:String) (x:V) (H:Hp):Prop:=match x with
 | .str _=>T = "str"
 | .int _=>T = "int"
 | .ref p=>(T = "list" /\ ∃ xs,SqL K H p xs)\/(T = "tuple" /\ ∃ o,K.lookup p=some o/\o.cls = .type "tuple" /\ o.dict=none) \/
  (T = "dict" /\ ((∃ kvs,H p=some (.dK kvs)) \/ ∃ kvs,H p=some (.dT kvs)))\/(T = "set" /\ ∃ S n,H p=some (.set S n))
 | _=>False
def zaov {pins:List (Addr×Obj)}{σ:St}{H:Hp}{s:Ql}{T:String}{x:V}{v:Value} (I:Inv X pins σ H s) (r:RelV x v) (ty:tyV X.K T x H) :
 s.TypeIs v T /\ ∀ a,v = .ref a -> ∃ ob,s.heap.get? a=some ob/\ob.dict=none:=by
  cases x with
  | str z =>
   obtain ⟨t,rfl⟩:=r;cases (show T = "str" from ty);exact ⟨typeIs_str s z t,fun _ e=>nomatch e⟩
  | int i =>
   obtain ⟨t,rfl⟩:=r;cases (show T = "int" from ty);exact ⟨typeIs_int s i t,fun _ e=>nomatch e⟩
  | ref p =>
   cases r;rcases ty with ⟨rfl,xs,hq⟩|⟨rfl,o,hk,hc,hd⟩|⟨rfl,hk⟩|⟨rfl,S,n,hk⟩
   ·obtain ⟨its,_,pl,_⟩:=I.list hq;refine ⟨pl.isList.typeIs,fun a e=>?_⟩;cases e;obtain ⟨o,n,e,c,hd,_⟩:=pl;exact ⟨o,e,hd⟩
   ·refine ⟨⟨o,I.kIn p o hk,hc⟩,fun a e=>?_⟩;cases e;exact ⟨o,I.kIn _ o hk,hd⟩
   ·have z : ∃ o,s.heap.get? p=some o/\o.ExactDict:=by
     rcases hk with ⟨kvs,hk⟩|⟨kvs,hk⟩
     ·obtain ⟨_,_,_,_,o,_,_,e,ex,_⟩:=I.hok p _ hk;exact ⟨o,e,ex⟩
     ·obtain ⟨_,_,_,_,o,_,_,e,ex,_⟩:=I.hok p _ hk;exact ⟨o,e,ex⟩
    obtain ⟨o,e,ex⟩:=z;refine ⟨⟨o,e,ex.1⟩,fun a e2=>?_⟩;cases e2;exact ⟨o,e,ex.2.1⟩
   ·obtain ⟨o,_,_,_,e,ex,_⟩:=I.hok p _ hk;refine ⟨⟨o,e,ex.1⟩,fun a e2=>?_⟩;cases e2;exact ⟨o,e,ex.2.1⟩
  | _=>exact Zd ty
def tBM (K:Qd) (T:String) (r:V->List V->Hp->VK->Prop) (to:TE) (t:TA):TE:=fun σ H Q=>to σ H fun x H1=>tyV K T x H1/\t σ H1 fun xs H2=>r x xs H2 Q
variable {o e:Expr}{es:List Expr}{to:TE}{t:TA}{name:Str}{apos cpos:Pos}{T id:String}{r:V->List V->Hp->VK->Prop}
def zaet (pa:PlainAttrs T) (slot:Slot T name id) (hty:typeOf (.builtin id)=pure (.type "method_descriptor")) (hm:MtR X id r) (ho:PE X o to) (ha:PA X (e::es) t)
 (hbase:Vt o name X.env (eval o X.env)=eval o X.env:=by rfl)
  (hfew:((Vl cpos (Qw (e::es) X.env)).all (fun x => !x.1)&&(Qct cpos (Jh [] X.env)).all (fun x=>x.1.isSome)
   && decide ((e::es).length+([]:List Qaz).length+(if ([]:List Qaz).isEmpty then 0 else 1)<30))=true:=by rfl)
  (hline:(apos.endLine==cpos.line)=true:=by rfl) (hs:Qw (e::es) X.env=(false,eval e X.env)::Qw es X.env:=by rfl) (hplain:(Vl cpos (Qw es X.env)).any (·.1)=false:=by rfl) :
  PE X (.Call (.Attribute o name apos) (e::es) [] cpos) (tBM X.K T r to t):=by
  intro pins s σ H Q I h;refine wpAny_Call_method_late hbase hfew hline rfl (thn (ho pins s σ H _ I h) fun v s1 xx56=>?_);obtain ⟨x,H1,I1,r1,ty,q1⟩:=xx56;obtain ⟨h1,h2⟩:=zaov I1 r1 ty;refine ⟨T,id,pa,slot,hty,h1,h2,?_⟩;have hA:=ha cpos pins s1 σ H1 _ I1 q1;rw [hs] at hA ⊢;refine Qch (by show (false||(Vl cpos (Qw es X.env)).any (·.1))=false;rw [hplain] <;> rfl) (Qhe ?_);exact thn hA fun us s2 xx55=>by obtain ⟨vs,H2,I2,r2,q2⟩:=xx55;exact hm pins s2 σ H2 x vs v us Q I2 r1 r2 q2
/- xs.append(e),list.index on a module's tuple .. are MtR facts of 06m -/
end
end
section
def MtM (X:Cx) (id:String) (r:V->List V->Hp->VK->Prop):Prop :=
 ∀ (pins:List (Addr×Obj)) (s:Ql) (σ:St) (H:Hp) (x:V) (xs:List V) (v:Value) (us:List Value) (Q:VK),Inv X pins σ H s->RelV x v->Vals xs us->r x xs H Q ->
  wpAny (model X.prog X.w) X.A (call (.builtin id) (v::us)) (EP X pins σ Q) X.xe s
def Vals.one : ∀ {x:V}{us:List Value},Vals [x] us -> ∃ u,us=[u]/\RelV x u
 | _,_,.cons r .nil=>⟨_,rfl,r⟩
def Vals.two : ∀ {x y:V}{us:List Value},Vals [x,y] us -> ∃ u v,us=[u,v]/\RelV x u/\RelV y v
 | _,_,_,.cons r (.cons q .nil)=>⟨_,_,rfl,r,q⟩
def Vals.rep {xs:List V}{us:List Value} (h:Vals xs us) : ∀ k:Nat,Vals (Vd k xs).flatten (Vd k us).flatten
 | 0 => .nil
 | k+1=>by
  rw [Qbi,Qbi,Qap,Qap];exact Vals.append h (Vals.rep h k)
section
variable {X:Cx}{pins:List (Addr×Obj)}{σ:St}{H:Hp}{s:Ql}{l b:Addr}{xs ys zs:List V}
def Inv.lset {its its':List Value}{n:Nat}{f:Array Value->Array Value}{t':Nat} (I:Inv X pins σ H s) (hH:H l=some (.lst xs))
 (e:s.heap.get? l=some { cls :=.type "list",data :=.seq its.toArray n }) (hf:f its.toArray=its'.toArray) (hv:Vals ys its') (hz:ys.length<=Q6) :
  Inv X pins σ (upd H l (.lst ys)) { s with heap:=s.heap.update l (Ys f),toks:=t' }:=by
  have q:=Qjl e f;rw [hf] at q;refine I.write (x:=l) (e:=l) (by rw [hH];exact trivial) (.inl rfl) (fun b' u hb hu=>(Qae s.heap (Ys f) (Z0 hb)).trans hu) ⟨_,q⟩ ?_;exact ⟨hz,its',_,hv,q⟩
def Inv.lnew {its:List Value}{t':Nat} (I:Inv X pins σ H s) (hv:Vals ys its) (hz:ys.length<=Q6) :
 Inv X pins σ (upd H s.heap.objs.size (.lst ys)) { s with heap:=s.heap.push { cls :=.type "list",data :=.seq its.toArray },toks:=t' } :=
  I.laid (fun _ _ q=>Qj _ q) (Qr _) ⟨hz,its,0,hv,Qz _ rfl⟩
def Inv.fresh (I:Inv X pins σ H s):H s.heap.objs.size=none:=I.hok.fresh (Qr _)
def Inv.lstM (I:Inv X pins σ H s) (hH:H l=some (.lst xs)):xs.length<=Q6 /\ ∃ (its:List Value) (n:Nat),Vals xs its/\xs.length=its.length/\s.heap.get? l=some { cls :=.type "list",data :=.seq its.toArray n }:=by
 obtain ⟨z,its,n,r,e⟩:=I.hok l _ hH;exact ⟨z,its,n,r,r.length,e⟩
def qxm {n:Nat} (h:n<=Q6):Vw n=false:=by
 unfold Vw;exact decide_eq_false (by omega)
end
section
variable {X:Cx}
def quj:V->List V->Hp->VK->Prop:=fun x vs H Q => ∃ l xs y,x = .ref l/\vs=[y]/\H l=some (.lst xs)/\xs.length<Q6/\Q .non (upd H l (.lst (xs++[y])))
def zaei:MtM X "list.append" quj:=by
 intro pins s σ H x vs v us Q I rx rv h;obtain ⟨l,xs,y,rfl,rfl,hH,hz,q⟩:=h;cases rx;obtain ⟨u,rfl,ru⟩:=rv.one;obtain ⟨z,its,n,r,hl,e⟩:=I.lstM hH;refine Qfe F.slot_list_append ⟨_,e,rfl⟩ F.entry_list_append (F.args_list_append_2 _ _) (Qir l its.toArray n u (by rw [Qs];omega)) ⟨e,?_⟩;refine ⟨.non,_,I.lset (its':=its++[u]) hH e (by simp) (r.append (.cons ru .nil)) ?_,rfl,q⟩;rw [Z1,List.length_singleton];omega
def zalm:V->List V->Hp->VK->Prop:=fun x vs H Q => ∃ l b xs zs,x = .ref l/\vs=[.ref b]/\H l=some (.lst xs)/\H b=some (.lst zs)/\xs.length+zs.length<=Q6/\Q .non (upd H l (.lst (xs++zs)))
def zacw:MtM X "list.extend" zalm:=by
 intro pins s σ H x vs v us Q I rx rv h;obtain ⟨l,b,xs,zs,rfl,rfl,hH,hB,hz,q⟩:=h;cases rx;obtain ⟨u,rfl,ru⟩:=rv.one;cases ru;obtain ⟨z,its,n,r,hl,e⟩:=I.lstM hH;obtain ⟨z2,its2,n2,r2,hl2,e2⟩:=I.lstM hB;have hsz:its.toArray.size+its2.toArray.size<=Q6:=by rw [Qs,Qs];omega
 have hlong : ¬ (!its.toArray.isEmpty&&Vw (its.toArray.size+its2.toArray.size))=true:=by
  rw [qxm hsz,Qkq];exact Zo
 refine Qfe Qie ⟨_,e,rfl⟩ Qhs (Qhf _ _)
  (AutoSeq1.list_extend_list_list_0 l its.toArray n b its2.toArray n2 hlong (by rw [Qs];omega) (by omega)) ⟨e,e2,?_⟩
 refine ⟨.non,_,I.lset (its':=its++its2) hH e (by simp) (r.append r2) ?_,rfl,q⟩;rw [Z1];omega
end
section
variable {prog:Zj}{w:World}{A:Z4}{E:Value->Ql->Prop}{s:Ql}
set_option maxRecDepth 100000 in
end
section
variable {X:Cx}
end
end
end L2
namespace Att
open PySem PySem.W PySem.Calls PyProof.Rows
def qnz {P:Qbo}{h:Heap} : ∀ (ns:List Int) (vs:List Value),WellAll P h vs (ns.map WData.int)->Qgr vs ns:=by
 intro ns
 induction ns with
 | nil =>
  intro vs w;rw [Jw] at w;cases w;exact .nil
 | cons n ns ih =>
  intro vs w;rw [Q2] at w;cases w with
  | cons a b =>
   cases a;exact .cons _ _ (ih _ b)
def zadn {l:OpenLaw}{n:Nat} (hn:l.most=some n) {P:Qbo}{h:Heap}{args:List WData}{vals:List Value}
 (hpre:l.row.toRowW.claim.pre args=true) (hwl:WellAll P h vals args) :
 ∃ a vs ns,vals=[Yt a]/\args=[WData.list (ns.map WData.int)]/\h.get? a=some { cls :=.type "list",data :=.seq vs.toArray }/\Qgr vs ns/\ns.length<=n:=by
  have hsh:WShape.hasAll [] args [.list .int]=true:=(pre_splitW hpre).1;have hc:l.pre.holds [] { args:=args }=true:=(pre_splitW hpre).2;obtain ⟨d,r,rfl,h1,h2⟩:=hasAllW_cons hsh;obtain rfl:=hasAllW_nil h2;obtain ⟨xs,rfl,h3⟩:=hasW_list h1;obtain ⟨ns,rfl⟩:=items_int h3;have hlen:ns.length<=n:=by
   unfold OpenLaw.pre at hc;have h4:(WTm.not (.lt (.lit (.int (n:Int))) (.len (.arg 0)))).holds [] { args:=[.list (ns.map .int)] }=true:=by
    have h4:=(holds_andW hc).1;rw [hn] at h4;exact h4
   have h5:=condW_of h4 (w_not (w_lt w_lit (w_len_list (w_arg rfl))));rw [Qf] at h5;refine Nat.le_of_not_lt fun q=>?_;have q':(n:Int)<((ns.length:Nat):Int):=by omega
   first
    | (rw [decide_eq_true q'] at h5;exact absurd h5 (by decide))
    | (simp at h5;omega)
  cases hwl with
  | cons w1 w2 =>
   cases w2;cases w1 with
   | list ho hall=>exact ⟨_,_,ns,rfl,rfl,ho,qnz ns _ hall,hlen⟩
def zadd (l:OpenLaw) (args:List WData):l.row.toRowW.claim.post args (.bool true) args=true :=
 postW_of (r:=l.row.toRowW) (X:=(true==true))
  (show Qlt [] (.bool true) .bool=true by first|rfl|decide|simp [Qlt,WShape.arms,WShape.armsAll])
  (show (WTm.eq .res (.lit (.bool true))).value [] { args:=args,res:=some (.bool true),after:=args }=some (.bool (true==true)) from w_eq_bool (w_res rfl) w_lit) rfl
def attach_call {l:OpenLaw}{n:Nat}{q:Zj}{loose:List Str}{XP:(Str->Option Value)->Heap->Prop}{YP:World->Heap->Prop}{d:DefRec}
 (hn:l.most=some n) (hdf:d.params.defaults=[])
 (call : ∀ (w:World) (s₀ s₁:Ql) (mg mb:Str->Option Value) (fa:Addr) (o:Obj) (pm cd doc:Value) (a:Addr) (vs:List Value) (ns:List Int),
 Ground q loose [] XP w s₀ mg mb s₁.heap->YP w s₁.heap ->
 s₁.heap.get? fa=some o->o.data = .func (docDef d.name d.params d.body d.scope pm cd doc)->s₁.heap.CodeRec cd d.name->mg d.name=some (.ref fa) ->
 s₁.heap.get? a=some { cls :=.type "list",data :=.seq vs.toArray }->Qgr vs ns->ns.length<=n->s₁.gens = #[] ->
  Qdc (model l.prog w) Qhw (.call (.ref fa) ⟨[.ref a],[]⟩) (fun r s'=>r = .ok (.ret (.bool true))/\OldK s₁.heap s'.heap/\s'.os=s₁.os/\Qgp s'.gens) s₁) :
  WalkO q loose XP YP l.row.toRowW d [] (fun f vs=>Qku f vs):=by
  intro w s₀ s₁ mg mb G Y fa o pm cd doc dV kV ho hd hcd hD hmg hg args vals as hpre hlay hrd hwl hlo;obtain rfl:dV = .none:=Dflts.none hD hdf;obtain rfl:kV = .none:=Dflts.noKw hD;obtain ⟨a,vs,ns,rfl,rfl,hobj,hints,hlen⟩:=zadn hn hpre hwl;refine enter_call (Qej (call w s₀ s₁ mg mb fa o pm cd doc a vs ns G Y ho (fd_plain hd) hcd hmg hobj hints hlen hg) fun r s' hq=>?_);obtain ⟨rfl,h2,h3,h4⟩:=hq;exact ⟨.inl ⟨.bool true,.bool true,[],rfl,fun _=>rfl,.bool true,zadd l _,fun _=>⟨Qlu,fun _ hm=>(nomatch hm)⟩⟩,h2,h3,h4⟩
section
variable {prog:Zj}{w:World}{A:Z4}{E:Value->Ql->Prop}{s:Ql}{K:Frag}
end
end Att
namespace L2
open PySem PySem.Spec PyProof.Rows
section
def qmv : ∀ {vs:List Value}{ns:List Int},Qgr vs ns->Vals (ns.map V.int) vs
 | _,_,.nil => .nil
 | _,_,.cons n t h => .cons ⟨t,rfl⟩ (qmv h)
end
section
end
section
def defArgs (s:Stmt):Qgq:=match s with
 | .FunctionDef _ a _ _ _ _ _ _ _ _=>a
 | _=>{ posonlyargs:=[],args:=[],vararg:=none,kwonlyargs:=[],kw_defaults:=[],kwarg:=none,defaults:=[] }
def defBody (s:Stmt):List Stmt:=match s with
 | .FunctionDef _ _ b _ _ _ _ _ _ _=>b
 | _=>[]
def defScope (s:Stmt):Scope:=match s with
 | .FunctionDef _ _ _ _ _ _ sc _ _ _=>sc
 | _=>{ kind :=.function,names:=[],isGenerator:=false,isCoroutine:=false }
abbrev CX0:CXT:=fun _ _ _ _ _ _=>False
abbrev E0:XK:=fun _ _ _=>False
def qpe {X:Cx}:qla CX0 X E0:=fun _ _ _ _ _ _ _ h=>h.elim
structure Fun (K:Qd) (x qual:Str) (st:Stmt) (f:Addr) (fd:V4):Prop where
 ex : ∃ (oc:Value) (od:Option Addr) (kV doc pm:Value) (an:Option Addr) (cdv ct:Value) (osl:Array (Option Value)),
  fd=Va x qual (defArgs st) (defBody st) (defScope st) .none kV doc pm an cdv ct/\K.lookup f=some ⟨oc,od,.func fd,osl⟩/\J9 K cdv qual=true
 kp:Yw K (.ref f)=true
section
variable {P:Zj}{w:World}{K:Qd}{mg:Str->Option Value}{base:Heap}
def Fun.ok {x qual:Str}{st:Stmt}{f:Addr}{fd:V4}{N ps:List Str}{k:Nat}{sp:Sp} (F:Fun K x qual st f fd) (S:FnScope N ps (defScope st)) (len : ∀ vs H Q E,sp vs H Q E->vs.length=ps.length)
 (hbody : ∀ (cdv:Value) (A:Z4) (outer:List Env) (s:Ql) (H:Hp) (vs:List V) (Q:VK) (E:XK),Room k (A.deeper (Qcx qual (defScope st) s.heap.objs.size f cdv))->sp vs H Q E ->
 ∃ t,PSs (qot CX0 P w K mg base N qual (defScope st) f cdv A outer s H E).nox (defBody st) t/\t { nx:=fun _ H'=>Q .non H',rt:=Q } (start N vs) H):FnOk P w K mg base CX0 (k+1) f fd ps sp:=by
  obtain ⟨oc,od,kV,doc,pm,an,cdv,ct,osl,rfl,lk,hcd⟩:=F.ex;refine zaor lk hcd S len fun A outer s H vs Q E hr hsp=>?_;obtain ⟨t,h,q⟩:=hbody cdv A outer s H vs Q E hr hsp;exact ⟨t,h.nox,q⟩
def Fun.binds {x qual:Str}{st:Stmt}{f:Addr}{fd:V4}{ps:List Str} (F:Fun K x qual st f fd)
 (h : ∀ (kV doc pm:Value) (an:Option Addr) (cdv ct:Value) (us:List Value),us.length=ps.length->Qhb (Va x qual (defArgs st) (defBody st) (defScope st) .none kV doc pm an cdv ct) ⟨us,[]⟩=pure (ps.zip us)):Binds K fd ps []:=by
  obtain ⟨oc,od,kV,doc,pm,an,cdv,ct,osl,rfl,lk,hcd⟩:=F.ex;exact .all (h kV doc pm an cdv ct)
def zaam {x qual:Str}{st:Stmt}{f:Addr}{oc:Value}{od an:Option Addr}{osl:Array (Option Value)}{kV doc pm cdv ct:Value} (l:K.lookup f=some ⟨oc,od,.func (Va x qual (defArgs st) (defBody st) (defScope st) .none kV doc pm an cdv ct),osl⟩)
 (c:J9 K cdv qual=true) (k:Yw K (.ref f)=true):Fun K x qual st f (Va x qual (defArgs st) (defBody st) (defScope st) .none kV doc pm an cdv ct):=⟨⟨oc,od,kV,doc,pm,an,cdv,ct,osl,rfl,l,c⟩,k⟩
end
def qo {n:Nat} (h:n<=1000):n<Q6:=Nat.lt_of_le_of_lt h (by decide)
section
variable {X:Cx}
def pv (i:Nat) {x:Str}{pos:Pos} (hN:X.N[i]?=some x:=by rfl) (hv:Vis X.env.scope x:=by first|exact Yy rfl|exact Z6 (Yy rfl)|exact Z6 (Z6 rfl)) (hd:Nd0 x:=by decide)
 (hcd:Nd1 x:=by decide):PE X (.Name x pos) (qvj i):=qcx hN hv hd hcd
end
def qyy {A B:Prop} (h:B):if false=true then A else B:=by
 rw [if_neg Zo];exact h
def qzp {A B:Prop} (h:A):if true=true then A else B:=by
 rw [if_pos rfl];exact h
def Same (H H':Hp):Prop := ∀ b o,H b=some o->H' b=some o
def Same.refl (H:Hp):Same H H:=fun _ _ h=>h
def Same.trans {H H1 H2:Hp} (a:Same H H1) (b:Same H1 H2):Same H H2:=fun c o h=>b c o (a c o h)
def Same.free {H H':Hp} (e:Same H H') {l:Addr} (h:H' l=Qka):H l=Qka:=by
 cases q:H l with
 | none=>rfl
 | some o =>
  rw [e l o q] at h;cases h
def Same.seq {K:Qd}{H H':Hp}{a:Addr}{xs:List V} (e:Same H H') (h:SqL K H a xs):SqL K H' a xs:=by
 rcases h with (h|⟨o,h⟩)|h
 ·exact .inl (.inl (e _ _ h))
 ·exact .inl (.inr ⟨o,e _ _ h⟩)
 ·exact .inr h
end
section
mutual
def Is (K:Qd) (H:Hp):Qh->V->Prop
 | .none,v=>v = .non
 | .bool b,v=>v = .bl b
 | .int i,v=>v = .int i
 | .str x,v=>v = .str x
 | .list l,v => ∃ a xs,v = .ref a/\SqL K H a xs/\Iss K H l xs
 | .tuple l,v => ∃ a xs,v = .ref a/\SqT K H a xs/\Iss K H l xs
 | .dict l,v => ∃ a kvs,v = .ref a/\H a=some (.dK kvs)/\(!l.isEmpty) = !kvs.isEmpty
def Iss (K:Qd) (H:Hp):List Qh->List V->Prop
 | [],xs=>xs=[]
 | d::l,xs => ∃ x r,xs=x::r/\Is K H d x/\Iss K H l r
end
def zalp {H H':Hp}{a:Addr}{u:HO} (s:Same H H') (h:Rd H a u):Rd H' a u:=by
 rcases h with h|⟨o,h⟩
 ·exact .inl (s _ _ h)
 ·exact .inr ⟨o,s _ _ h⟩
def qU {K:Qd}{H H':Hp}{a:Addr}{xs:List V} (s:Same H H') (h:SqT K H a xs):SqT K H' a xs:=by
 rcases h with h|h
 ·exact .inl (zalp s h)
 ·exact .inr h
def qcb {H:Hp}{p:Addr}{o:HO} (h:H p=none):Same H (upd H p o):=fun b u e=>by
 rw [qi (qm e h)];exact e
mutual
def Is.mono {K:Qd}{H H':Hp} (s:Same H H') : ∀ {d:Qh}{v:V},Is K H d v->Is K H' d v
 | .none,_,h=>by unfold Is at h ⊢;exact h
 | .bool _,_,h=>by unfold Is at h ⊢;exact h
 | .int _,_,h=>by unfold Is at h ⊢;exact h
 | .str _,_,h=>by unfold Is at h ⊢;exact h
 | .list l,_,h=>by
  unfold Is at h ⊢;obtain ⟨a,xs,e,q,r⟩:=h;exact ⟨a,xs,e,s.seq q,Iss.mono s r⟩
 | .tuple l,_,h=>by
  unfold Is at h ⊢;obtain ⟨a,xs,e,q,r⟩:=h;exact ⟨a,xs,e,qU s q,Iss.mono s r⟩
 | .dict _,_,h=>by
  unfold Is at h ⊢;obtain ⟨a,kvs,e,q,m⟩:=h;exact ⟨a,kvs,e,s _ _ q,m⟩
def Iss.mono {K:Qd}{H H':Hp} (s:Same H H') : ∀ {l:List Qh}{xs:List V},Iss K H l xs->Iss K H' l xs
 | [],_,h=>by unfold Iss at h ⊢;exact h
 | d::l,_,h=>by
  unfold Iss at h ⊢;obtain ⟨x,r,e,p,q⟩:=h;exact ⟨x,r,e,Is.mono s p,Iss.mono s q⟩
end
section
variable {K:Qd}{H H':Hp}
def qrs:Is K H .none .non:=by unfold Is;rfl
def qgi (b:Bool):Is K H (.bool b) (.bl b):=by unfold Is;rfl
def qJ (i:Int):Is K H (.int i) (.int i):=by unfold Is;rfl
def zaak (x:Str):Is K H (.str x) (.str x):=by unfold Is;rfl
def qcv {a:Addr}{xs:List V}{l:List Qh} (h:SqL K H a xs) (r:Iss K H l xs):Is K H (.list l) (.ref a):=by unfold Is;exact ⟨a,xs,rfl,h,r⟩
def qoh {a:Addr}{xs:List V}{l:List Qh} (h:SqT K H a xs) (r:Iss K H l xs):Is K H (.tuple l) (.ref a):=by unfold Is;exact ⟨a,xs,rfl,h,r⟩
def qQ:Iss K H [] []:=by unfold Iss;rfl
def qw {d:Qh}{l:List Qh}{x:V}{xs:List V} (h:Is K H d x) (r:Iss K H l xs):Iss K H (d::l) (x::xs):=by unfold Iss;exact ⟨x,xs,rfl,h,r⟩
def Is.bl_inv {b:Bool}{v:V} (h:Is K H (.bool b) v):v = .bl b:=by unfold Is at h;exact h
def Is.int_inv {i:Int}{v:V} (h:Is K H (.int i) v):v = .int i:=by unfold Is at h;exact h
def Is.non_inv {v:V} (h:Is K H .none v):v = .non:=by unfold Is at h;exact h
def Is.lst_inv {l:List Qh}{v:V} (h:Is K H (.list l) v) : ∃ a xs,v = .ref a/\SqL K H a xs/\Iss K H l xs:=by unfold Is at h;exact h
def Is.tup_inv {l:List Qh}{v:V} (h:Is K H (.tuple l) v) : ∃ a xs,v = .ref a/\SqT K H a xs/\Iss K H l xs:=by unfold Is at h;exact h
def Is.dct_inv {l:List (Qh×Qh)}{v:V} (h:Is K H (.dict l) v) : ∃ a kvs,v = .ref a/\H a=some (.dK kvs)/\(!l.isEmpty) = !kvs.isEmpty:=by unfold Is at h;exact h
def Iss.nil_inv {xs:List V} (h:Iss K H [] xs):xs=[]:=by unfold Iss at h;exact h
def Iss.cons_inv {d:Qh}{l:List Qh}{xs:List V} (h:Iss K H (d::l) xs) : ∃ x r,xs=x::r/\Is K H d x/\Iss K H l r:=by unfold Iss at h;exact h
def Iss.len : ∀ {l:List Qh}{xs:List V},Iss K H l xs->xs.length=l.length
 | [],_,h=>by rw [h.nil_inv];rfl
 | d::l,_,h=>by
  obtain ⟨x,r,rfl,_,q⟩:=h.cons_inv;simp [Iss.len q]
def Iss.get : ∀ {l:List Qh}{xs:List V}{i:Nat}{d:Qh},Iss K H l xs->l[i]?=some d -> ∃ x,xs[i]?=some x/\Is K H d x
 | [],_,i,d,h,e=>by simp at e
 | d'::l,_,0,d,h,e=>by
  obtain ⟨x,r,rfl,p,q⟩:=h.cons_inv;simp at e;subst e;exact ⟨x,rfl,p⟩
 | d'::l,_,i+1,d,h,e=>by
  obtain ⟨x,r,rfl,p,q⟩:=h.cons_inv;obtain ⟨y,e1,e2⟩:=Iss.get q (show l[i]?=some d by simpa using e);exact ⟨y,by simpa using e1,e2⟩
def Iss.get' : ∀ {l:List Qh}{xs:List V}{i:Nat}{x:V},Iss K H l xs->xs[i]?=some x -> ∃ d,l[i]?=some d/\Is K H d x:=fun {l xs i x} h e=>by
 have hl:=h.len;have hi:i<xs.length:=(Qm.mp e).1;obtain ⟨d,hd⟩ : ∃ d,l[i]?=some d:=⟨l[i]'(by omega),Qc _⟩
 obtain ⟨y,e1,e2⟩:=h.get hd;rw [e] at e1;cases e1;exact ⟨d,hd,e2⟩
def qaz : ∀ {l m:List Qh}{xs ys:List V},Iss K H l xs->Iss K H m ys->Iss K H (l++m) (xs++ys)
 | [],m,_,ys,h,h'=>by rw [h.nil_inv];exact h'
 | d::l,m,_,ys,h,h'=>by
  obtain ⟨x,r,rfl,p,q⟩:=h.cons_inv;exact qw p (qaz q h')
def qqq : ∀ {l:List Qh}{xs:List V} (n:Nat),Iss K H l xs->Iss K H (l.take n) (xs.take n)
 | _,_,0,_=>qQ
 | [],_,n+1,h=>by rw [h.nil_inv];exact qQ
 | d::l,_,n+1,h=>by
  obtain ⟨x,r,rfl,p,q⟩:=h.cons_inv;exact qw p (qqq n q)
def qqz : ∀ {l:List Qh}{xs:List V} (n:Nat),Iss K H l xs->Iss K H (l.drop n) (xs.drop n)
 | _,_,0,h=>h
 | [],_,n+1,h=>by rw [h.nil_inv];exact qQ
 | d::l,_,n+1,h=>by
  obtain ⟨x,r,rfl,p,q⟩:=h.cons_inv;exact qqz n q
def qfp : ∀ ns:List Int,Iss K H (ns.map .int) (ns.map V.int)
 | []=>qQ
 | n::ns=>qw (qJ n) (qfp ns)
def Iss.ints_inv : ∀ {ns:List Int}{xs:List V},Iss K H (ns.map .int) xs->xs=ns.map V.int
 | [],_,h=>h.nil_inv
 | n::ns,_,h=>by
  obtain ⟨x,r,rfl,p,q⟩:=h.cons_inv;rw [p.int_inv,Iss.ints_inv q];rfl
end
section
variable {X:Cx}{pins:List (Addr×Obj)}{σ:St}{H:Hp}{s:Ql}
mutual
def Is.reads (I:Inv X pins σ H s) : ∀ {d:Qh}{x:V}{u:Value},d.canLay0=true->Is X.K H d x->RelV x u -> ∃ as,Reads s.heap u d as
 | .none,_,u,_,h,r=>by
  rw [h.non_inv] at r;cases r;exact ⟨_,.none⟩
 | .bool b,_,u,_,h,r=>by
  rw [h.bl_inv] at r;cases r;exact ⟨_,.bool b⟩
 | .int i,_,u,_,h,r=>by
  rw [h.int_inv] at r;obtain ⟨t,rfl⟩:=r;exact ⟨_,.int i t⟩
 | .str x,_,u,_,h,r=>by
  unfold Is at h;subst h;obtain ⟨t,rfl⟩:=r;exact ⟨_,.str x t⟩
 | .list l,_,u,z,h,r=>by
  obtain ⟨a,xs,rfl,q,p⟩:=h.lst_inv;cases r;obtain ⟨its,rv,pl,_⟩:=I.list q;obtain ⟨o,ho,hc,n,hd⟩:=pl.isList;obtain ⟨as,ra⟩:=Iss.reads I (by simpa [Qaa] using z) p rv;exact ⟨_,.list ho hc hd (by rw [Qht];exact ra)⟩
 | .tuple l,_,u,z,h,r=>by
  obtain ⟨a,xs,rfl,q,p⟩:=h.tup_inv;cases r;obtain ⟨its,rv,pl,_⟩:=I.tuple q;obtain ⟨o,ho,hc,n,hd⟩:=pl;obtain ⟨as,ra⟩:=Iss.reads I (by simpa [Qaa] using z) p rv;exact ⟨_,.tuple ho hc hd (by rw [Qht];exact ra)⟩
 | .dict _,_,u,z,h,r=>by simp [Qaa] at z
def Iss.reads (I:Inv X pins σ H s) : ∀ {l:List Qh}{xs:List V}{us:List Value},Jo l=true->Iss X.K H l xs->Vals xs us -> ∃ as,ReadsAll s.heap us l as
 | [],_,us,_,h,r=>by
  rw [h.nil_inv] at r;cases r;exact ⟨_,.nil⟩
 | d::l,_,us,z,h,r=>by
  have z':d.canLay0=true/\Jo l=true:=by simpa [Jo] using z
  obtain ⟨x,y,rfl,p,q⟩:=h.cons_inv;cases r with
  | cons r1 r2 =>
   obtain ⟨as,ra⟩:=Is.reads I z'.1 p r1;obtain ⟨bs,rb⟩:=Iss.reads I z'.2 q r2;exact ⟨_,.cons ra rb⟩
end
end
section
variable {X:Cx}
def rEqD (K:Qd):R2:=fun x y H Q => ∃ d e,Is K H d x/\Is K H e y/\Jd d=true/\Jd e=true/\Q (.bl (Y3 d e)) H
def rNeD (K:Qd):R2:=fun x y H Q => ∃ d e,Is K H d x/\Is K H e y/\Jd d=true/\Jd e=true/\Q (.bl (!PyData.eqv d e)) H
def zapt (hu:X.A.units+64<cLine):OpR X (Vc .Eq) (rEqD X.K):=by
 intro pins s σ H x y v u Q I rx ry h;obtain ⟨d,e,h1,h2,z1,z2,q⟩:=h;obtain ⟨as,ra⟩:=Is.reads I (Vg.mp z1).1 h1 rx;obtain ⟨bs,rb⟩:=Is.reads I (Vg.mp z2).1 h2 ry;exact SeqAt.compareEq_shaped ra rb z1 z2 hu ⟨.bl (Y3 d e),H,I,rfl,q⟩
def zaqu (hu:X.A.units+64<cLine):OpR X (Vc .NotEq) (rNeD X.K):=by
 intro pins s σ H x y v u Q I rx ry h;obtain ⟨d,e,h1,h2,z1,z2,q⟩:=h;obtain ⟨as,ra⟩:=Is.reads I (Vg.mp z1).1 h1 rx;obtain ⟨bs,rb⟩:=Is.reads I (Vg.mp z2).1 h2 ry;exact SeqAt.compareNe_shaped ra rb z1 z2 hu ⟨.bl (!PyData.eqv d e),H,I,rfl,q⟩
def zamx:OpR X (Je .Mult) (rI IntMulOk fun i j => .int (i*j)):=opI fun _ _ _ _ _ _ _ hc q=>mul_int q hc
def zaoj (_ j:Int):Prop:=j≠0/\Qbj j<=9000
def qxf:OpR X (Je .FloorDiv) (rI zaoj fun i j => .int (i.fdiv j)):=opI fun i j _ _ _ _ _ hc q=>by
 refine floordiv_int hc.1 q (.inl (PyProof.noPylong_of_log2 ?_));have h:=hc.2;unfold Qbj at h;rw [if_neg (by simpa using hc.1)] at h;omega
def zarw (K:Qd):R2:=fun x y H Q => ∃ a b xs zs,x = .ref a/\y = .ref b/\SqL K H a xs/\SqL K H b zs/\xs.length+zs.length<=Q6 /\
 ∀ p,H p=none->Q (.ref p) (upd H p (.lst (xs++zs)))
def zaci:OpR X (Je .Add) (zarw X.K):=by
 intro pins s σ H x y v u Q I rx ry h;obtain ⟨a,b,xs,zs,rfl,rfl,hA,hB,hz,q⟩:=h;cases rx;cases ry;obtain ⟨its,r,pl,z1⟩:=I.list hA;obtain ⟨its2,r2,pl2,z2⟩:=I.list hB;have l1:=r.length;have l2:=r2.length;obtain ⟨⟨cls,dd,data,sl⟩,ho,hc,n,hd⟩:=pl.isList;obtain ⟨⟨cls2,dd2,data2,sl2⟩,ho2,hc2,n2,hd2⟩:=pl2.isList;simp only at hc hd hc2 hd2;subst hc hd hc2 hd2;have e:its.toArray++its2.toArray=(its++its2).toArray:=by simp
 refine Qjh ⟨_,ho,rfl⟩ ⟨_,ho2,rfl⟩ noFill_list_add seq_list_add PySem.F.slot_list_add PySem.F.entry_list_add (PySem.F.args_list_add_2 _ _) (list_addW a b its.toArray its2.toArray n n2 dd dd2 sl sl2 (by simp only [Qs];omega)) ⟨ho,ho2,?_⟩;rw [e];exact ⟨.ref _,_,I.lnew (t':=s.toks) (r.append r2) (by rw [Z1];omega),rfl,q _ I.fresh⟩
def tyD:Qh->String
 | .none => "NoneType"
 | .bool _ => "bool"
 | .int _ => "int"
 | .str _ => "str"
 | .list _ => "list"
 | .tuple _ => "tuple"
 | .dict _ => "dict"
def zafr {pins:List (Addr×Obj)}{σ:St}{H:Hp}{s:Ql}{A:Z4}{E:Value->Ql->Prop}{Q:Value->Ql->Prop}{c:Value}{b:Bool}{d:Qh}{x:V}{u:Value}
 (I:Inv X pins σ H s) (hd:Is X.K H d x) (rx:RelV x u) (e:Qhn X.K (.type (tyD d)) c=some b) (h : ∀ tk,Q (.bool b) { s with toks:=tk }) :
  wpAny (model X.prog X.w) A (call (.builtin "isinstance") [u,c]) Q E s:=by
  cases d with
  | none=>rw [hd.non_inv] at rx;cases rx;exact Jp PySem.W.kitx_none I.kIn Qao e (fun z=>nomatch z) h
  | bool y=>rw [hd.bl_inv] at rx;cases rx;exact Jp PySem.W.kitx_bool I.kIn Qao e (fun z=>nomatch z) h
  | int i=>rw [hd.int_inv] at rx;obtain ⟨t,rfl⟩:=rx;exact Jp PySem.W.kitx_int I.kIn Qao e (fun z=>nomatch z) h
  | str y =>
   unfold Is at hd;subst hd;obtain ⟨t,rfl⟩:=rx;exact Jp PySem.W.kitx_str I.kIn Qao e (fun z=>nomatch z) h
  | list l =>
   obtain ⟨a,xs,rfl,q,_⟩:=hd.lst_inv;cases rx;obtain ⟨its,_,pl,_⟩:=I.list q;obtain ⟨o,ho,hc,_⟩:=pl.isList;exact Jp PySem.W.kitx_list I.kIn ⟨o,ho,hc⟩ e (fun z=>nomatch z) h
  | tuple l =>
   obtain ⟨a,xs,rfl,q,_⟩:=hd.tup_inv;cases rx;obtain ⟨its,_,pl,_⟩:=I.tuple q;obtain ⟨o,ho,hc,_⟩:=pl;exact Jp PySem.W.kitx_tuple I.kIn ⟨o,ho,hc⟩ e (fun z=>nomatch z) h
  | dict l =>
   obtain ⟨a,kvs,rfl,q,_⟩:=hd.dct_inv;cases rx;obtain ⟨_,_,vs,_,p⟩:=(show ObjOk X.prog X.w H s.heap a (.dK kvs) from I.hok a _ q)
   obtain ⟨o,es,ep,h1,h2,_⟩:=p;exact Jp PySem.W.kitx_dict I.kIn ⟨o,h1,h2.1⟩ e (fun z=>nomatch z) h
def rIsD (K:Qd):List V->Hp->VK->Prop:=fun xs H Q => ∃ d x n b,xs=[x,.ty n]/\Is K H d x/\Qhn K (.type (tyD d)) (.type n)=some b/\Q (.bl b) H
def zahw:CallR X (.builtin "isinstance") (rIsD X.K):=by
 intro pins s σ H xs us Q I r h;obtain ⟨d,x,n,b,rfl,hd,e,q⟩:=h;obtain ⟨u,c,rfl,rx,rc⟩:=zanz r;cases rc;exact zafr I hd rx e fun tk=>⟨.bl b,H,I.tok tk,rfl,q⟩
def Iss.atI {K:Qd}{H:Hp}{l:List Qh}{xs:List V}{i:Int}{d:Qh} (h:Iss K H l xs) (e:L2.atI l i=some d) : ∃ x,L2.atI xs i=some x/\Is K H d x:=by
 unfold L2.atI at e ⊢;rw [h.len];cases q:ixN l.length i with
 | none=>rw [q] at e;cases e
 | some j =>
  rw [q] at e;exact h.get e
end
def Ite (K:Qd) (a:Addr):It :=
 ⟨fun i H => ∃ xs x,SqL K H a xs/\xs[i]?=some x,fun i H v H' => ∃ p x,(∀ xs,SqL K H a xs->xs[i]?=some x)/\H p=none/\v = .ref p/\H'=upd H p (.tup [.int i,x]),fun i H => ∃ xs,SqL K H a xs/\xs.length<=i⟩
def zaea {P:Zj}{w:World}{K:Qd}{elts:List Expr}{x1:Nat}{tpos:Pos} (a e it:Addr) (hne:e≠it) :
 Turn P w K (.Tuple elts x1 tpos) (Ite K a) [e,it] e (fun i h=>(∃ old,IsEnum h e it (i:Nat) old)/\h.IsListIter it a i) where
  mem:=by simp
  obj:=fun i h st b hb=>by
   obtain ⟨⟨old,s1⟩,s2⟩:=st;have hb':b=e\/b=it:=by simpa using hb
   rcases hb' with rfl|rfl
   ·exact ⟨_,s1,fun v z=>by have z':Qjy _=Qib v:=z;cases z'⟩
   ·obtain ⟨o,q,c,d⟩:=s2;exact ⟨o,q,fun v z=>by rw [d] at z;cases z⟩
  keep:=fun i h h' st k=>by
   obtain ⟨⟨old,s1⟩,s2⟩:=st;exact ⟨⟨old,k e (by simp) _ s1⟩,s2.at fun o q=>k it (by simp) o q⟩
  item:=by
   intro X hP hw hK hc i pins s σ H E I hf st hg;subst hP hw hK;obtain ⟨xs,x,hq,hx⟩:=hg;obtain ⟨its,rv,p,hz⟩:=I.list hq;obtain ⟨u,hu,ru⟩:=rv.get hx;obtain ⟨⟨old,s1⟩,s2⟩:=st;obtain ⟨f0,f1,f2,f3,f4,f5⟩:=hf e (by simp);obtain ⟨g0,g1,g2,g3,g4,g5⟩:=hf it (by simp);have hel:e<s.heap.objs.size:=Qx s1;refine wpAny_pyNext_enum_item s1 s2 p.isList (x:=u) (by simpa using hu) hne fun h₁ ho hi ht hz₁ hk=>⟨_,rfl,?_⟩
   refine wpAny_letOwnedTupleGo_enum (s:={ s with heap:=h₁,toks:=s.toks+1 }) ho fun h₂ he₂ hs₂=>?_;replace hs₂:Vh e h₁ h₂:=hs₂
   have fresh:H s.heap.objs.size=none:=I.hok.fresh (Qr _);have kk : ∀ b o,b≠e->b≠it->s.heap.get? b=some o->h₂.get? b=some o:=fun b o b1 b2 q=>hs₂.extBut b o b1 (hk b o b1 b2 q);have nb : ∀ b v,H b=some v->b≠e/\b≠it:=fun b v q=>⟨fun z=>(by rw [z,f0] at q;cases q),fun z=>(by rw [z,g0] at q;cases q)⟩
   have ht₂:h₂.get? s.heap.objs.size=some { cls :=.type "tuple",data :=.seq #[.int i s.toks,u] }:=(hs₂.2 _ (Yu hel)).trans ht;have I1:Inv X pins σ (upd H s.heap.objs.size (.tup [.int i,x])) { s with heap:=h₂,toks:=s.toks+1 }:=by
    refine I.step (g':=s.gens) (d':=s.drawn) (ch:=[e,it]) (fun b hb=>?_) (fun b o _ _ hc q _=>kk b o (fun z=>hc (by simp [z])) (fun z=>hc (by simp [z])) q)
     (fun b o _ _ hc q _=>⟨o.slots,kk b o (fun z=>hc (by simp [z])) (fun z=>hc (by simp [z])) q⟩) (fun b o _ q n=>by rw [qi (Q9 (Qx q))];exact n)
     (fun b o hc q=>⟨o,kk b o (fun z=>hc (by simp [z])) (fun z=>hc (by simp [z])) q⟩) (fun b ys q=>by rw [qi (qm q fresh)];exact q) (fun b o v q=>by rw [qi (qm q fresh)];exact q)
     (fun b ps q=>⟨#[],by rw [qi (qm q fresh),q];simp,.nil⟩) (fun m hm=>?_) (fun b v q=>?_) I.bare
    ·have hb':b=e\/b=it:=by simpa using hb
     rcases hb' with rfl|rfl
     ·exact ⟨f3,f1,f4,f5⟩
     ·exact ⟨g3,g1,g4,g5⟩
    ·obtain ⟨o,es,ep,ho',r⟩:=hm;exact ⟨o,es,ep,kk _ o (Z0 f1) (Z0 g1) ho',r⟩
    ·by_cases hb:b=s.heap.objs.size
     ·subst hb;rw [ql] at q;cases q;exact ⟨(by show 2<=Q6;decide),[.int i s.toks,u],.cons ⟨s.toks,rfl⟩ (.cons ru .nil),⟨_,ht₂,rfl,_,rfl⟩⟩
     ·rw [qi hb] at q;refine (I.hok b v q).stay (fun c ob hc z=>?_) (fun c z=>by rw [qi (qm z fresh)];exact z) fun c ys z=>by rw [qi (qm z fresh)];exact z
      rcases hc with hc|hc
      ·subst hc;exact kk _ _ (nb _ _ q).1 (nb _ _ q).2 z
      ·exact kk _ _ (nb _ _ hc).1 (nb _ _ hc).2 z
   refine ⟨.ref s.heap.objs.size,_,I1,rfl,⟨s.heap.objs.size,x,fun ys hy=>by rw [I.list_inj hy hq];exact hx,fresh,rfl,rfl⟩,⟨⟨u,?_⟩,?_⟩,fun b hb=>?_⟩
   ·have e1:((i+1:Nat):Int)=(i:Int)+1:=by push_cast;rfl
    rw [e1];exact he₂
   ·exact hi.extBut hs₂.extBut (Z0 hne)
   ·have hb':b=e\/b=it:=by simpa using hb
    have hlt:b<s.heap.objs.size:=by
     rcases hb' with rfl|rfl
     ·exact hel
     ·obtain ⟨o,q,_⟩:=s2;exact Qx q
    rw [qi (Q9 hlt)];exact (hf b hb).1
  done:=by
   intro X hP hw hK hc i pins s σ H E I hf st hg;subst hP hw hK;obtain ⟨xs,hq,hx⟩:=hg;obtain ⟨its,rv,p,hz⟩:=I.list hq;obtain ⟨⟨old,s1⟩,s2⟩:=st;obtain ⟨g0,g1,g2,g3,g4,g5⟩:=hf it (by simp);have hl:=rv.length;exact wpAny_pyNext_enum_end (I.ok.hd hc) s1 s2 p.isList (by simp;omega) fun h' eb=>⟨rfl,I.turned (t':=s.toks) (fun b o hb q=>eb b o hb q) g0 g1 g3 g4 g5⟩
  self:=fun A i s Q E st h=>by
   obtain ⟨⟨old,s1⟩,s2⟩:=st;exact wpAny_pyIter_enum s1 h
section
variable {X:Cx}{elts:List Expr}{x1:Nat}{tpos:Pos}
def zatd (K:Qd) (ta:TA):TI:=fun σ H R=>ta σ H fun vs H1 => ∃ a,vs=[.ref a]/\(∃ xs,SqL K H1 a xs)/\R (Ite K a) H1
def zanq {a:Expr}{ta:TA}{p pos:Pos} (hg:Gl X "enumerate") (hm:X.mg "enumerate" = none) (ha:PA X [a] ta) (hs:Qw [a] X.env=[(false,eval a X.env)]:=by rfl) :
 PI X (.Tuple elts x1 tpos) (.Call (.Name "enumerate" p) [a] [] pos) (zatd X.K ta):=by
 intro pins s σ H R I h;refine Call_ (qlc I hg hm boot_enumerate (V8 (thn (ha pos pins s σ H _ I h) fun us s1 xx57=>?_) hs rfl));obtain ⟨vs,H1,I1,r1,q1⟩:=xx57;obtain ⟨l,e,⟨xs,hq⟩,q⟩:=q1;subst e;cases r1 with
 | cons r rr =>
  cases rr;cases r;obtain ⟨its,rv,pl,hz⟩:=I1.list hq;refine call_enumerate_list pl.isList fun h' he hi hz' hk=>?_;refine wpAny_pyIter_enum he ?_;have I2:Inv X pins σ H1 { s1 with heap:=h' }:=I1.kept (t':=s1.toks) hk;refine ⟨s1.heap.objs.size+1,[s1.heap.objs.size+1,s1.heap.objs.size],_,_,H1,rfl,I2,zaea l _ _ (Nat.succ_ne_self _),⟨⟨_,he⟩,hi⟩,fun b hb=>?_,q⟩;have hb':b=s1.heap.objs.size+1\/b=s1.heap.objs.size:=by simpa using hb
  have hle:s1.heap.objs.size<=b:=by
   rcases hb' with rfl|rfl
   ·exact Qfh _
   ·exact Qr _
  exact I1.fpOk hle (I1.hok.fresh hle)
end
def szl {α:Type}{l:List α} (h:decide (l.length<=1000)=true:=by rfl):l.length<=Q6:=Y8 (qo (of_decide_eq_true h))
def zabu (i j:Int):Y3 (.int i) (.int j)=(i==j):=by simp only [Y3]
def zajh {i j:Int}{A B:Prop} (h1:i≠j->A) (h2:i=j->B):if (!PyData.eqv (.int i) (.int j))=true then A else B:=by
 rw [zabu];by_cases h:i=j
 ·subst h;simpa using h2 rfl
 ·have e:(i==j)=false:=by simpa using h
  rw [e];simpa using h1 h
def qgc {i j:Int}{A B:Prop} (h1:i=j->A) (h2:i≠j->B):if (Y3 (.int i) (.int j))=true then A else B:=by
 rw [zabu];by_cases h:i=j
 ·subst h;simpa using h1 rfl
 ·have e:(i==j)=false:=by simpa using h
  rw [e];simpa using h2 h
def qkj {p A B:Prop} [Decidable p] (h1:p->A) (h2 : ¬ p->B):if decide p=true then A else B:=by
 by_cases h:p
 ·simpa [h] using h1 h
 ·simpa [h] using h2 h
def qrg {ns:List Int}{i:Int} (h0:0<=i) (h1:i<ns.length) : ∃ n,L2.atI (ns.map Q3) i=some (.int n):=by
 have hi:i.toNat<ns.length:=by omega
 refine ⟨ns[i.toNat],?_⟩;have e:(ns.map Q3)[i.toNat]?=some (.int ns[i.toNat]):=by simp [hi]
 have:=qaf e
 rwa [V9 h0] at this
def boot_abs:Zv "abs" = some (.builtin "abs"):=by decide +kernel
def boot_len:Zv "len" = some (.builtin "len"):=by decide +kernel
def qoe:Zv "isinstance" = some (.builtin "isinstance"):=by decide +kernel
def boot_int:Zv "int" = some (.type "int"):=by decide +kernel
def boot_bool:Zv "bool" = some (.type "bool"):=by decide +kernel
def boot_tuple:Zv "tuple" = some (.type "tuple"):=by decide +kernel
def boot_list:Zv "list" = some (.type "list"):=by decide +kernel
section
variable {K:Qd}
end
structure Def (K:Qd) (mg:Str->Option Value) (x:Str) (st:Stmt) (ps:List Str):Prop where
 ex : ∃ (f:Addr) (fd:V4),Fun K x x st f fd/\mg x=some (.ref f)/\Binds K fd ps []
structure Ok (P:Zj) (w:World) (K:Qd) (mg:Str->Option Value) (base:Heap) (x:Str) (k:Nat) (ps:List Str) (sp:Sp):Prop where
 ex : ∃ (f:Addr) (fd:V4),FnOk P w K mg base CX0 k f fd ps sp/\mg x=some (.ref f)/\Yw K (.ref f)=true/\Binds K fd ps []
section
variable {P:Zj}{w:World}{K:Qd}{mg:Str->Option Value}{base:Heap}
def Def.ok {x:Str}{st:Stmt}{N ps:List Str}{k:Nat}{sp:Sp} (F:Def K mg x st ps) (S:FnScope N ps (defScope st)) (len : ∀ vs H Q E,sp vs H Q E->vs.length=ps.length)
 (hbody : ∀ (f:Addr) (cdv:Value) (A:Z4) (outer:List Env) (s:Ql) (H:Hp) (vs:List V) (Q:VK) (E:XK),Room k (A.deeper (Qcx x (defScope st) s.heap.objs.size f cdv))->sp vs H Q E ->
 ∃ t,PSs (qot CX0 P w K mg base N x (defScope st) f cdv A outer s H E).nox (defBody st) t/\t { nx:=fun _ H'=>Q .non H',rt:=Q } (start N vs) H):Ok P w K mg base x (k+1) ps sp:=by
  obtain ⟨f,fd,Fn,hm,hb⟩:=F.ex;exact ⟨f,fd,Fn.ok S len (hbody f),hm,Fn.kp,hb⟩
end
section
variable {X:Cx}{x:Str}{k:Nat}{ps:List Str}{sp:Sp}{p pos:Pos}{e:Expr}{es:List Expr}{t:TA}
def qoc (O:Ok X.prog X.w X.K X.mg X.base x k ps sp) (hr:Room k X.A) (ha:PA X (e::es) t) (hg:Gl X x:=by rfl) (hdb:Nd0 x:=by decide)
 (he:Qw (e::es) X.env=(false,eval e X.env)::Qw es X.env:=by rfl) (hpl:(Vl pos (Qw es X.env)).any (·.1)=false:=by rfl):PE X (.Call (.Name x p) (e::es) [] pos) (qlq sp [] E0 t):=by
 obtain ⟨f,fd,F,hm,hk,hb⟩:=O.ex;exact zali F hr hg hm hk hb .nil qpe ha hdb he hpl
def qsm {o:Expr}{to:TE}{te:TE}{apos cpos:Pos} (ho:PE X o to) (he:PE X e te) (hbase:Vt o "append" X.env (eval o X.env)=eval o X.env:=by rfl)
 (hfew:((Vl cpos (Qw [e] X.env)).all (fun x => !x.1)&&(Qct cpos (Jh [] X.env)).all (fun x=>x.1.isSome)
  && decide ([e].length+([]:List Qaz).length+(if ([]:List Qaz).isEmpty then 0 else 1)<30))=true:=by rfl)
 (hline:(apos.endLine==cpos.line)=true:=by rfl) (hs:Qw [e] X.env=(false,eval e X.env)::Qw [] X.env:=by rfl) (hplain:(Vl cpos (Qw [] X.env)).any (·.1)=false:=by rfl) :
 PE X (.Call (.Attribute o "append" apos) [e] [] cpos) (tBM X.K "list" quj to (qze te tNil)) :=
 zaet J0 Qfb PySem.F.type_list_append zaei ho (qz he qal hs) hbase hfew hline hs hplain
end
end
section
def qog (cells:List (Str×Addr)):List (Str×Qax)->List (Str×Addr)->List (Str×Addr)
 | [],acc=>acc
 | (n,k)::r,acc=>if (k == .free)=true then (match cells.lookup n with|some c=>qog cells r ((n,c)::acc)|none=>qog cells r acc) else qog cells r acc
def qjb {cells:List (Str×Addr)} : ∀ {names:List (Str×Qax)}{acc:List (Str×Addr)}{p:Str×Addr},p ∈ qog cells names acc->p ∈ acc\/cells.lookup p.1=some p.2
 | [],acc,p,h => .inl h
 | (n,k)::r,acc,p,h=>by
  unfold qog at h;split at h
  ·split at h
   ·rename_i c hc;rcases qjb h with h|h
    ·rcases Q5.mp h with h|h
     ·subst h;exact .inr hc
     ·exact .inl h
    ·exact .inr h
   ·exact qjb h
  ·exact qjb h
def qiz {cells:List (Str×Addr)} : ∀ {names:List (Str×Qax)}{acc:List (Str×Addr)}{x:Str},((∃ c,(x,c) ∈ acc)\/((x,Qif) ∈ names /\ ∃ c,cells.lookup x=some c)) -> ∃ c,(x,c) ∈ qog cells names acc
 | [],acc,x,h=>by
  rcases h with h|h
  ·exact h
  ·exact absurd h.1 (by simp)
 | (n,k)::r,acc,x,h=>by
  unfold qog;split
  ·rename_i hk;split
   ·rename_i c hc;refine qiz ?_;rcases h with ⟨d,h⟩|⟨h,d,hd⟩
    ·exact .inl ⟨d,Qu _ h⟩
    ·rcases Q5.mp h with h|h
     ·cases h;exact .inl ⟨c,by simp⟩
     ·exact .inr ⟨h,d,hd⟩
   ·rename_i hc;refine qiz ?_;rcases h with h|⟨h,d,hd⟩
    ·exact .inl h
    ·rcases Q5.mp h with h|h
     ·cases h;rw [hd] at hc;cases hc
     ·exact .inr ⟨h,d,hd⟩
  ·rename_i hk;refine qiz ?_;rcases h with h|⟨h,d,hd⟩
   ·exact .inl h
   ·rcases Q5.mp h with h|h
    ·cases h;exact absurd rfl hk
    ·exact .inr ⟨h,d,hd⟩
def qsa {x:Str}{c:Addr} : ∀ {names:List (Str×Qax)}{n:Nat}{acc:List (Str×Addr)},(V1 n names acc).lookup x=some c->(n<=c/\(x,J3) ∈ names)\/acc.lookup x=some c
 | [],_,_,h => .inr h
 | (y,k)::r,n,acc,h=>by
  unfold V1 at h;split at h
  ·rename_i hk;rcases qsa h with ⟨h1,h2⟩|h1
   ·exact .inl ⟨by omega,Qu _ h2⟩
   ·by_cases e:x=y
    ·subst e;have hb:(x==x)=true:=by simp
     rw [Zp,hb] at h1;have hk':k = .cell:=by simpa using hk
     subst hk';cases h1;exact .inl ⟨Qr _,by simp⟩
    ·have hb:(x==y)=false:=by simpa using e
     rw [Zp,hb] at h1;exact .inr h1
  ·rcases qsa h with ⟨h1,h2⟩|h1
   ·exact .inl ⟨h1,Qu _ h2⟩
   ·exact .inr h1
def zaah {x:Str} : ∀ {names:List (Str×Qax)}{n:Nat}{acc:List (Str×Addr)},(x,J3) ∉ names->(V1 n names acc).lookup x=acc.lookup x
 | [],_,_,_=>rfl
 | (y,k)::r,n,acc,h=>by
  have hr:(x,J3) ∉ r:=fun z=>h (Qu _ z);unfold V1;split
  ·rename_i hk;have hk':k = .cell:=by simpa using hk
   subst hk';have e:x≠y:=fun z=>h (by rw [z];simp);have hb:(x==y)=false:=by simpa using e
   rw [zaah hr,Zp,hb]
  ·exact zaah hr
def qri {x:Str}{c lo:Nat} : ∀ {names:List (Str×Qax)}{n:Nat}{acc:List (Str×Addr)},lo<=n->((x,J3) ∈ names \/ ∃ a,acc.lookup x=some a/\lo<=a)->(V1 n names acc).lookup x=some c->lo<=c
 | [],_,acc,_,h,e=>by
  rcases h with h|⟨a,h1,h2⟩
  ·simp at h
  ·have e:acc.lookup x=some c:=e;rw [h1] at e;cases e;exact h2
 | (y,k)::r,n,acc,hn,h,e=>by
  unfold V1 at e;split at e
  ·rename_i hk;refine qri (lo:=lo) (by omega) ?_ e;by_cases z:x=y
   ·subst z;have hb:(x==x)=true:=by simp
    exact .inr ⟨n,by rw [Zp,hb],hn⟩
   ·have hb:(x==y)=false:=by simpa using z
    rcases h with h|⟨a,h1,h2⟩
    ·rcases Q5.mp h with h|h
     ·cases h;exact absurd rfl z
     ·exact .inl h
    ·exact .inr ⟨a,by rw [Zp,hb];exact h1,h2⟩
  ·rename_i hk;refine qri hn ?_ e;rcases h with h|h
   ·rcases Q5.mp h with h|h
    ·cases h;exact absurd rfl hk
    ·exact .inl h
   ·exact .inr h
def zaaj {x y:Str}{c:Addr} : ∀ {names:List (Str×Qax)}{n:Nat}{acc:List (Str×Addr)},(∀ z a,acc.lookup z=some a->a<n)->n<=c->(V1 n names acc).lookup x=some c->(V1 n names acc).lookup y=some c->x=y
 | [],n,acc,hA,hn,h,_=>absurd (hA x c h) (Jq.mpr hn)
 | (w,k)::r,n,acc,hA,hn,h,h'=>by
  unfold V1 at h h';split at h
  ·rename_i hk;rw [if_pos hk] at h';have hA' : ∀ z a,((w,n)::acc).lookup z=some a->a<n+1:=fun z a q=>by
    rw [Zp] at q;split at q
    ·cases q;exact Qbf _
    ·exact Qcm (hA z a q)
   have at_n : ∀ z,((w,n)::acc).lookup z=some n->z=w:=fun z q=>by
    rw [Zp] at q;split at q
    ·rename_i hb;exact beq_iff_eq.mp hb
    ·exact absurd (hA z n q) (Jy _)
   by_cases e:c=n
   ·subst e;have a1:x=w:=by
     rcases qsa h with ⟨q,_⟩|q
     ·exact absurd q (Qhg _)
     ·exact at_n x q
    have a2:y=w:=by
     rcases qsa h' with ⟨q,_⟩|q
     ·exact absurd q (Qhg _)
     ·exact at_n y q
    rw [a1,a2]
   ·exact zaaj hA' (Nat.lt_of_le_of_ne hn (Z0 e)) h h'
  ·rename_i hk;rw [if_neg hk] at h';exact zaaj hA hn h h'
def qvf {x:Str}{c:Addr} : ∀ {names:List (Str×Qax)}{h:Heap}{acc:List (Str×Addr)},(V1 h.objs.size names acc).lookup x=some c->acc.lookup x=some c\/(Qfg h names).IsCell c none
 | [],_,_,e => .inl e
 | (y,k)::r,h,acc,e=>by
  unfold V1 at e;unfold Qfg;split at e
  ·rename_i hk;rw [if_pos hk];have e':(V1 (h.push { cls :=.type "cell",data :=.cell none }).objs.size r ((y,h.objs.size)::acc)).lookup x=some c:=by rw [Yo];exact e
   rcases qvf e' with q|q
   ·rw [Zp] at q;split at q
    ·have q:=Qp q;subst q;exact .inr ⟨_,Qgu _ _ _ _ (Qz _ rfl),rfl⟩
    ·exact .inl q
   ·exact .inr q
  ·rename_i hk;rw [if_neg hk];exact qvf e
def zacs {M:Model}{A:Z4}{E:Value->Ql->Prop}{s:Ql}{scope:Scope}{globals:Addr}{cl:List (Str×Addr)}{qual:Str}{outer:Env}{Q:Env->Ql->Prop}
 (hQ:Q (newEnv scope s.heap.objs.size globals (V1 (s.heap.objs.size+1) scope.names cl) qual none .none (some outer) Qdl) { s with heap:=Qfg (s.heap.push { cls :=.type "dict",data :=.dict #[] }) scope.names }) :
  wpAny M A (Qhq scope globals cl [] qual none .none (some outer)) Q E s:=by
  simp only [Qhq,Qig,if_true];refine Qi (wpAny_alloc ?_);refine Qi (wpAny_layCells _ (fun name kind cells=>by cases hkc:kind==J3 <;> simp [hkc]) _ _ _ _ ?_);rw [show ({ s with heap:=s.heap.push { cls :=.type "dict",data :=.dict #[] } }:Ql).heap.objs.size=s.heap.objs.size+1 from Yo ..];rw [Qho];exact Qi (Q4 (Q4 hQ))
structure CompScope (env:Env) (scope:Scope) (caps:List Str):Prop where
 clos:closureFor scope env=pure (qog env.cells scope.names [])
 kind:scope.kind = .function
 cells:scope.names.all (fun y => !(y.2 == .cell)||scope.names.lookup y.1==some .cell)=true
 names:scope.names.all (fun y => !(y.2 == .local)||scope.names.lookup y.1==some .local)=true
 free:scope.names.all (fun y => !(y.2 == .free)||(env.cells.lookup y.1).isSome)=true
 cap:caps.all (fun x=>scope.names.lookup x==some .free&&(env.scope.names.lookup x==some .cell||env.scope.names.lookup x==some .free))=true
def qhf {β:Type} : ∀ {l:List (Str×β)}{x:Str}{c:β},l.lookup x=some c->(x,c) ∈ l:=fun h=>Vn h
def qpt : ∀ {l:List (Str×Addr)}{x:Str}{c:Addr},(x,c) ∈ l -> ∃ d,l.lookup x=some d
 | [],_,_,h=>by simp at h
 | (y,d)::r,x,c,h=>by
  by_cases e:x=y
  ·subst e;exact ⟨d,by simp⟩
  ·have hb:(x==y)=false:=by simpa using e
   rcases Q5.mp h with h|h
   ·cases h;exact absurd rfl e
   ·obtain ⟨d',hd⟩:=qpt h;exact ⟨d',by rw [Zp,hb];exact hd⟩
section
variable {env:Env}{scope:Scope}{caps:List Str}
abbrev clOf (scope:Scope) (env:Env):List (Str×Addr):=qog env.cells scope.names []
def CompScope.sub (S:CompScope env scope caps) {x:Str}{c:Addr} (h:(clOf scope env).lookup x=some c):env.cells.lookup x=some c:=by
 rcases qjb (qhf h) with h|h
 ·simp at h
 ·exact h
def qih {x:Str}{k:Qax} (h:(Qkn scope env).names.lookup x=some k) : ∃ k',(x,k') ∈ scope.names/\(k'=k\/(k' = .free/\k = .cell)):=by
 have hm:=qhf h;obtain ⟨⟨n,k0⟩,h1,h2⟩:=Qk.mp hm;dsimp only at h2;split at h2
 ·rename_i hc;cases h2;have:k0 = .free:=by
   have:=(Vg.mp (Vg.mp hc).1).1;simpa using this
  subst this;exact ⟨_,h1,.inr ⟨rfl,rfl⟩⟩
 ·cases h2;exact ⟨_,h1,.inl rfl⟩
abbrev qsj (scope:Scope) (env:Env) (n:Nat):List (Str×Addr):=V1 n scope.names (clOf scope env)
def CompScope.hasF (S:CompScope env scope caps) {x:Str} (key:(x,Qif) ∈ scope.names) : ∃ c,(clOf scope env).lookup x=some c:=by
 have:=Y5.mp S.free _ key;have hs:(env.cells.lookup x).isSome=true:=by simpa using this
 obtain ⟨c,hc⟩:=Jm.mp hs;obtain ⟨d,hd⟩:=qiz (cells:=env.cells) (names:=scope.names) (acc:=[]) (.inr ⟨key,c,hc⟩);exact qpt hd
def CompScope.isC (S:CompScope env scope caps) {x:Str} (h:(x,J3) ∈ scope.names):scope.names.lookup x=some .cell:=by
 have:=Y5.mp S.cells _ h;simpa using this
def CompScope.has (S:CompScope env scope caps) {x:Str} (n:Nat) (h:(Qkn scope env).names.lookup x=some .cell\/(Qkn scope env).names.lookup x=some .free) : ∃ c,(qsj scope env n).lookup x=some c:=by
 have key:scope.names.lookup x=some .cell\/(x,Qif) ∈ scope.names:=by
  rcases h with h|h
  ·obtain ⟨k',h1,h2⟩:=qih h;rcases h2 with rfl|⟨rfl,_⟩
   ·exact .inl (S.isC h1)
   ·exact .inr h1
  ·obtain ⟨k',h1,h2⟩:=qih h;rcases h2 with rfl|⟨_,h2⟩
   ·exact .inr h1
   ·cases h2
 refine Jm.mp (Qcg scope.names n _ ?_);rcases key with k|k
 ·exact .inl k
 ·obtain ⟨c,hc⟩:=S.hasF k;exact .inr (by rw [hc];rfl)
def CompScope.look (S:CompScope env scope caps) {x:Str}{n:Nat}{c:Addr} (h:(qsj scope env n).lookup x=some c):(n<=c/\(x,J3) ∈ scope.names)\/env.cells.lookup x=some c:=by
 rcases qsa h with q|q
 ·exact .inl q
 ·exact .inr (S.sub q)
end
def blk (X:Cx) (pins:List (Addr×Obj)) (scope:Scope) (N':List Str) (s3:Ql) (H:Hp) (ex:List Addr):Cx where
 prog:=X.prog
 w:=X.w
 K:=X.K
 mg:=X.mg
 base:=X.base
 A:=X.A
 N:=N'
 s₀:=s3
 H₀:=H
 env:=compEnvC scope (qsj scope X.env (s3.heap.objs.size+1)) s3.heap.objs.size X.env
 outer:=X.stack
 stack:=X.stack
 ex:=ex
 fn:=fun x=>scope.names.lookup x==some .cell
 calm:=X.calm
 pn:=X.pn++pins
 xe:=fun _ _=>False
def qsg (ix:List Nat) (k:Nat) (σ:St):St:=ix.map (fun i=>(σ[i]?).join)++Vd k none
def qpx (ix:List Nat) (k:Nat) (wi:TI) (g:TG) (te:TE):TE:=fun σ H Q=>wi σ H fun J H1 => ∃ W:Nat->Nat->List V->St->Hp->Prop,(∃ m,W 0 m [] (qsg ix k σ) H1) /\ ∀ i m ys σ1 H2,W i m ys σ1 H2 ->
 (J.stop i H2/\ys.length<=Q6 /\ ∀ p,H2 p=none->Q (.ref p) (upd H2 p (.lst ys))) \/
 (J.go i H2/\ys.length<Q6 /\ ∃ N:V->St->Hp->Prop,(∀ y σ2 H5,N y σ2 H5 -> ∃ m',m'<m/\W (i+1) m' (ys++[y]) σ2 H5) /\ ∀ x H3,J.yld i H2 x H3->g x σ1 H3 fun σ2 H4=>te σ2 H4 fun y H5=>N y σ2 H5)
def qht {prog:Zj}{w:World}{A:Z4}{R:Result->Ql->Prop}{s:Ql}{elt target iter:Expr}{scope:Scope}{pos:Pos}{it acc:Value}{env:Env} (I:Nat->Ql->Prop)
 (turn : ∀ n s,I n s->wpAny (model prog w) A (Qgv it) (fun r s₁=>match r with
  | none=>R (.ok .next) s₁
  | some v=>wpAny (model prog w) A (Qcc target it v) (fun _ s₁'=>wpAny (model prog w) A (Qgs target env v) (fun _ s₂=>wpAny (model prog w) A (eval elt env) (fun x s₃ =>
   wpAny (model prog w) A (call (.builtin "list.append") [acc,x]) (fun _ s₄ => ∃ m,m<n/\I m s₄) (Qet (model prog w) A env fun e s'=>R (.error e) s') s₃)
   (Qet (model prog w) A env fun e s'=>R (.error e) s') s₂) (Qet (model prog w) A env fun e s'=>R (.error e) s') s₁') (Qet (model prog w) A env fun e s'=>R (.error e) s') s₁) (Qet (model prog w) A env fun e s'=>R (.error e) s') s)
  (n:Nat) (h:I n s):Qdc (model prog w) A (.compLoop (.ListComp elt [⟨target,iter,[],0⟩] scope pos) 0 it acc env) R s:=by
  refine codeAny_loop rfl I (fun n s hI=>?_) n h;show wpAny _ _ ((compTurn (.ListComp elt [⟨target,iter,[],0⟩] scope pos) 0 it acc env).onRaise (fun x=>do noteFrame x env;theTreesLotGoes x)) _ _ s;refine wpAny_noted ?_;rw [compTurn_list1];refine Qi (Qfs (Qi (Vy (turn n s hI) (fun r s₁ h₁=>?_) fun _ _ h'=>h')));cases r with
  | none=>exact Q4 h₁
  | some v =>
   exact Qi (Vy h₁ (fun _ s₁' h₁'=>Qi (Vy h₁' (fun _ s₂ h₂=>Qi (Qi (Vy h₂ (fun x s₃ h₃=>Qi (Vy h₃
    (fun _ s₄ h₄=>Q4 (Q4 ⟨rfl,h₄⟩)) fun _ _ h'=>h')) fun _ _ h'=>h'))) fun _ _ h'=>h')) fun _ _ h'=>h')
section
variable {X:Cx}{elt target iter:Expr}{scope:Scope}{pos:Pos}{caps own:List Str}{ix:List Nat}{wi:TI}{g:TG}{te:TE}
def tYes:TT:=fun _ H Q=>Q true H
abbrev TstT:=Env->(Bool->Ql->Prop)->(Value->Ql->Prop)->Ql->Prop
def zatf (prog:Zj) (w:World) (A:Z4) (elt target iter:Expr) (cs:List Expr) (scope:Scope) (pos:Pos) (Tst:TstT):Prop := ∀ {R:Result->Ql->Prop}{s:Ql}{it acc:Value}{env:Env} (I:Nat->Ql->Prop)
 (turn : ∀ n s,I n s->wpAny (model prog w) A (Qgv it) (fun r s₁=>match r with
  | none=>R (.ok .next) s₁
  | some v=>wpAny (model prog w) A (Qcc target it v) (fun _ s₁'=>wpAny (model prog w) A (Qgs target env v) (fun _ s₂=>Tst env (fun b s₂'=>match b with
   | true=>wpAny (model prog w) A (eval elt env) (fun x s₃ =>
    wpAny (model prog w) A (call (.builtin "list.append") [acc,x]) (fun _ s₄ => ∃ m,m<n/\I m s₄) (Qet (model prog w) A env fun e s'=>R (.error e) s') s₃)
    (Qet (model prog w) A env fun e s'=>R (.error e) s') s₂'
   | false => ∃ m,m<n/\I m s₂') (Qet (model prog w) A env fun e s'=>R (.error e) s') s₂) (Qet (model prog w) A env fun e s'=>R (.error e) s') s₁') (Qet (model prog w) A env fun e s'=>R (.error e) s') s₁) (Qet (model prog w) A env fun e s'=>R (.error e) s') s)
 (n:Nat) (h:I n s),Qdc (model prog w) A (.compLoop (.ListComp elt [⟨target,iter,cs,0⟩] scope pos) 0 it acc env) R s
def zadb {cs:List Expr}{tt:TT}{Tst:TstT} (hloop:zatf X.prog X.w X.A elt target iter cs scope pos Tst) (hc:X.calm=true) (S:CompScope X.env scope caps) (hi:PI X target iter wi)
 (hg : ∀ pins s3 H ex,PG (blk X pins scope (caps++own) s3 H ex) target g)
 (he : ∀ pins s3 H ex,PE (blk X pins scope (caps++own) s3 H ex) elt te)
 (htst : ∀ pins s3 H ex pins' s σ H' Qb P E,Inv (blk X pins scope (caps++own) s3 H ex) pins' σ H' s->tt σ H' Qb->(∀ b s' H'',Inv (blk X pins scope (caps++own) s3 H ex) pins' σ H'' s'->Qb b H''->P b s')->Tst (blk X pins scope (caps++own) s3 H ex).env P E s)
 (hix:caps.length=ix.length) (hcapB:(caps.zip ix).all (fun p=>X.N[p.2]?==some p.1)=true)
 (hs : ∀ x,Yg iter X.env x=pure x) {use:Option (Value->Sem Unit)}{Q0:Value->Ql->Prop}{Qv:VK}{pins:List (Addr×Obj)}{s:Ql}{σ:St}{H:Hp}{pos':Pos} (I:Inv X pins σ H s) {Inner:It->Hp->Prop} (h:wi σ H Inner)
 (hin : ∀ J H1,Inner J H1 -> ∃ W:Nat->Nat->List V->St->Hp->Prop,(∃ m,W 0 m [] (qsg ix own.length σ) H1) /\ ∀ i m ys σ1 H2,W i m ys σ1 H2 ->
 (J.stop i H2/\ys.length<=Q6 /\ ∀ p,H2 p=none->Qv (.ref p) (upd H2 p (.lst ys))) \/
 (J.go i H2/\ys.length<Q6 /\ ∃ (N:V->St->Hp->Prop) (N0:St->Hp->Prop),(∀ y σ2 H5,N y σ2 H5 -> ∃ m',m'<m/\W (i+1) m' (ys++[y]) σ2 H5)/\(∀ σ2 H5,N0 σ2 H5 -> ∃ m',m'<m/\W (i+1) m' ys σ2 H5) /\
 ∀ x H3,J.yld i H2 x H3->g x σ1 H3 fun σ2 H4=>tt σ2 H4 fun b H5=>match b with|true=>te σ2 H5 fun y H6=>N y σ2 H6|false=>N0 σ2 H5))
 (fin : ∀ (D C:Addr) (s6:Ql) (H6:Hp) (m6:Str->Option Value),s6.heap.Ns C m6->Inv X pins σ H6 s6->H6 C=none->C≠X.env.locals->C ∉ X.fs->(C ∈ X.ex\/X.s₀.heap.objs.size<=C)->(∀ x c,X.env.cells.lookup x=some c->c≠C)->(∀ p ∈ X.pn++pins,p.1≠C)->Qv (.ref D) H6 ->
 compPost (model X.prog X.w) X.A X.xe use Q0 (.ref D) C (.ok .next) s6) :
 wpAny (model X.prog X.w) X.A (Qio (.ListComp elt [⟨target,iter,cs,0⟩] scope pos) scope X.env pos' (newList []) false (eval iter X.env) use) Q0 X.xe s:=by
  have hcap : ∀ (j:Nat) (x:Str) (i:Nat),caps[j]?=some x->ix[j]?=some i->X.N[i]?=some x:=fun j x i h1 h2=>by
   have hm:(x,i) ∈ caps.zip ix:=by
    have:(caps.zip ix)[j]?=some (x,i):=by rw [Qba];exact ⟨h1,h2⟩
    exact Qg this
   have:=Y5.mp hcapB _ hm;simpa using this
  have hnm : ∀ y ∈ scope.names,y.2 = .local->scope.names.lookup y.1=some .local:=fun y hy hl=>by
   have:=Y5.mp S.names y hy;rw [hl] at this;simpa using this
  refine wpAny_comprehension_free (use:=use) rfl hs S.clos S.kind hnm (thn (hi pins s σ H _ I h) fun v s1 h1=>thn h1 fun itv s2 h2=>?_);obtain ⟨it,fp,tn,J,H2,e,I2,T,st2,f2,hJ⟩:=h2;obtain ⟨W,⟨m0,w0⟩,turn⟩:=hin J H2 hJ;subst e;refine Jt (zacs ?_);dsimp only;generalize eh0:s2.heap.push { cls :=.type "list",data :=.seq #[] }=h3;have hns₁:(Qfg (h3.push { cls :=.type "dict",data :=.dict #[] }) scope.names).Ns h3.objs.size (fun _=>none):=(Heap.Ns.new h3 (.type "dict")).keeps (Qgu _ _);have hkp : ∀ b o,h3.get? b=some o->(Qfg (h3.push { cls :=.type "dict",data :=.dict #[] }) scope.names).get? b=some o:=fun b o q=>Qgu _ _ b o (Qj _ q);have hcl₁ : ∀ x c,(qsj scope X.env (h3.objs.size+1)).lookup x=some c->(clOf scope X.env).lookup x=some c\/(Qfg (h3.push { cls :=.type "dict",data :=.dict #[] }) scope.names).IsCell c none:=fun x c q=>by
   refine qvf (h:=h3.push { cls :=.type "dict",data :=.dict #[] }) ?_;rw [Yo];exact q
  generalize Qfg (h3.push { cls :=.type "dict",data :=.dict #[] }) scope.names=h₁ at hns₁ hkp hcl₁ ⊢;obtain ⟨s3,hs3⟩ : ∃ s3:Ql,s3={ s2 with heap:=h3 }:=⟨_,rfl⟩
  have e3:h3=s3.heap:=by rw [hs3]
  subst e3;have eh:s3.heap=s2.heap.push { cls :=.type "list",data :=.seq ([]:List Value).toArray }:=eh0.symm;have hC:s3.heap.objs.size=s2.heap.objs.size+1:=by rw [eh,Yo]
  have hDlt:s2.heap.objs.size<s3.heap.objs.size:=by omega
  have k23 : ∀ b o,s2.heap.get? b=some o->s3.heap.get? b=some o:=fun b o q=>by rw [eh];exact Qj _ q
  have hD3:s3.heap.get? s2.heap.objs.size=some { cls :=.type "list",data :=.seq ([]:List Value).toArray }:=by rw [eh];exact Qz _ rfl
  have I3:Inv X pins σ H2 s3:=by rw [hs3];exact I2.kept (t':=s2.toks) k23
  have k34 : ∀ b o,s3.heap.get? b=some o->h₁.get? b=some o:=hkp;have fpl : ∀ b ∈ fp,b<s2.heap.objs.size:=fun b hb=>by
   obtain ⟨o,q,_⟩:=T.obj 0 _ st2 b hb;exact Qx q
  have cel : ∀ x c,X.env.cells.lookup x=some c->c<s2.heap.objs.size:=fun x c q=>by
   obtain ⟨v,o,z,_⟩:=I2.cell x c q;exact Qx z
  have ncl : ∀ x c,(qsj scope X.env (s3.heap.objs.size+1)).lookup x=some c->X.env.cells.lookup x=some c\/s3.heap.objs.size<c:=fun x c q=>(S.look q).elim (fun z => .inr z.1) .inl;have pnl : ∀ p ∈ X.pn++pins,p.1<s2.heap.objs.size:=fun p hp=>Qx (I2.pin p hp).1;have hDn:H2 s2.heap.objs.size=none:=I2.hok.fresh (Qr _);have ok:(blk X pins scope (caps++own) s3 H2 (s2.heap.objs.size::fp)).Ok:=by
   refine ⟨I2.mod,S.kind,I2.ok.glob,I2.ok.blt,Qr _,fun x y c h1 h2=>?_,fun x hx=>S.has _ hx,fun x c hf q=>?_,I2.ok.hd,I2.ok.frames,.inl rfl,fun b hb=>?_,I3.bs,?_,fun b o q hb=>?_,fun b hb=>?_,I3.stack,I3.stkFree⟩
   ·rcases ncl x c h1 with q1|q1
    ·rcases ncl y c h2 with q2|q2
     ·exact I2.ok.inj x y c q1 q2
     ·exact absurd (Yv (cel x c q1) hDlt) (Jq.mpr (Y8 q2))
    ·exact zaaj (n:=s3.heap.objs.size+1) (acc:=clOf scope X.env) (fun z a q=>Qcm (Yv (cel z a (S.sub q)) hDlt)) q1 h1 h2
   ·exact Zk (Qfh _) (qri (lo:=s3.heap.objs.size+1) (Qr _) (.inl (qhf (beq_iff_eq.mp hf))) q)
   ·have hb':b=s2.heap.objs.size\/b ∈ fp:=Q5.mp hb;rcases hb' with rfl|hb'
    ·exact ⟨Q9 hDlt,fun x c q=>(ncl x c q).elim (fun z=>Q9 (cel x c z)) fun z=>Yu (Yv hDlt z)⟩
    ·exact ⟨Q9 (Yv (fpl b hb') hDlt),fun x c q=>(ncl x c q).elim (fun z=>(f2 b hb').2.2.2.2.1 x c z) fun z=>Yu (Yv (fpl b hb') (Yv hDlt z))⟩
   ·exact Zk I2.ok.bsz I3.sz
   ·have hlt:b<X.base.objs.size:=Qx q;have hb':b=s2.heap.objs.size\/b ∈ fp:=Q5.mp hb;have h1:=I2.ok.bsz;have h2:=I2.sz;rcases hb' with rfl|hb'
    ·exact absurd hlt (Jq.mpr (Zk h1 h2))
    ·rcases (f2 b hb').2.2.2.1 with z|z
     ·exact I2.ok.noex b o q z
     ·exact absurd hlt (Jq.mpr (Zk h1 z))
   ·have hb':b=s2.heap.objs.size\/b ∈ fp:=Q5.mp hb;intro z;have z':=I2.stkSub b z;rcases hb' with rfl|hb'
    ·rcases Q5.mp z' with z'|z'
     ·exact Yu I2.lt z'
     ·exact I2.nofs (Qr _) z'
    ·rcases Q5.mp z' with z'|z'
     ·exact (f2 b hb').2.1 z'
     ·exact (f2 b hb').2.2.1 z'
  have len0:(qsg ix own.length σ).length=(caps++own).length:=by unfold qsg;simp [hix]
  have I4:Inv (blk X pins scope (caps++own) s3 H2 (s2.heap.objs.size::fp)) [] (qsg ix own.length σ) H2 { s2 with heap:=h₁ }:=by
   obtain ⟨mX,nsX,lkX⟩:=I3.loc;refine ⟨ok,(by show s2.os=s3.os;rw [hs3]),I2.bare,Un.kept k34,⟨_,hns₁,fun j x v h1 h2 h3=>?_⟩,fun x c q=>?_,I3.hok.fresh (Qr _),fun x c q=>(ncl x c q).elim (fun z=>I3.freeC x c z) fun z=>I3.hok.fresh (Y8 z),fun p hp=>?_,I3.hok.kept k34,len0⟩
   ·-- a captured name
    have hj:j<ix.length:=by
     unfold qsg at h2;by_cases hj:j<ix.length
     ·exact hj
     ·rw [Z5 (by simpa using hj),V2] at h2;split at h2 <;> cases h2
    have h1':caps[j]?=some x:=by
     have:(caps++own)[j]?=some x:=h1
     rwa [Zg (by omega)] at this
    have hij:ix[j]?=some ix[j]:=Qc hj;have hv:σ[ix[j]]?=some (some v):=by
     unfold qsg at h2;rw [Zg (by simpa using hj),Qa,hij] at h2;have h2':(σ[ix[j]]?).join=some v:=by simpa using h2
     cases q:σ[ix[j]]? with
     | none=>rw [q] at h2';cases h2'
     | some o=>rw [q] at h2';cases o with
      | none=>cases h2'
      | some y=>have:y=v:=by simpa using h2'
                rw [this]
    have hk:=Y5.mp S.cap x (Qg h1');obtain ⟨k1,k2⟩:=Vg.mp hk;have k1':scope.names.lookup x=some .free:=by simpa using k1
    have k2':X.env.scope.names.lookup x=some .cell\/X.env.scope.names.lookup x=some .free:=by simpa using k2
    obtain ⟨u,ru,lk⟩:=lkX ix[j] x v (hcap j x _ h1' hij) hv (k2'.elim (fun z => .inr (.inl z)) (fun z => .inr (.inr z)));refine ⟨u,ru,?_⟩;have hrel:(Qkn scope X.env).names.lookup x=some .cell\/(Qkn scope X.env).names.lookup x=some .free:=by
     rcases h3 with h3|h3|h3
     ·have h3':(Qkn scope X.env).names.lookup x=some Qax.local:=h3;obtain ⟨k',m1,m2⟩:=qih h3';rcases m2 with rfl|⟨_,m2⟩
      ·have:=hnm _ m1 rfl;rw [k1'] at this;cases this
      ·cases m2
     ·exact .inl h3
     ·exact .inr h3
    have hxc:(x,J3) ∉ scope.names:=fun z=>by
     have:=S.isC z;rw [k1'] at this;cases this
    obtain ⟨c,hcl⟩:=S.hasF (qhf k1');have hcl':(qsj scope X.env (s3.heap.objs.size+1)).lookup x=some c:=(zaah hxc).trans hcl;rcases lk with ⟨kl,_⟩|⟨_,c',ec,ic⟩
    ·have kl':X.env.scope.names.lookup x=some .local:=kl;rcases k2' with z|z <;> (rw [kl'] at z;cases z)
    ·have:=S.sub hcl;have ee:c'=c:=by rw [ec] at this;exact Qp this
     exact .inr ⟨hrel,c,hcl',ee ▸ ic.keeps k34⟩
   ·rcases hcl₁ x c q with z|z
    ·obtain ⟨v,ic⟩:=I3.cell x c (S.sub z);exact ⟨v,ic.keeps k34⟩
    ·exact ⟨_,z⟩
   ·have hp':p ∈ X.pn++pins:=by simpa [blk] using hp
    obtain ⟨q1,q2,q3,q4,q5⟩:=I3.pin p hp';refine ⟨k34 _ _ q1,q2,Q9 (Yv (pnl p hp') hDlt),fun z=>?_,q5⟩;rcases Q5.mp (I3.stkSub p.1 z) with z'|z'
    ·exact q3 z'
    ·exact q4 z'
  have hD4:h₁.get? s2.heap.objs.size=some { cls :=.type "list",data :=.seq ([]:List Value).toArray }:=k34 _ _ hD3;have st4:tn 0 h₁:=T.keep _ _ _ st2 fun b _ o q=>k34 b o (k23 b o q);have fpk : ∀ {H':Hp}{ob:Obj},(∀ b ∈ fp,H' b=none) -> ∀ b ∈ fp,FpOk (blk X pins scope (caps++own) s3 H2 (s2.heap.objs.size::fp)) [(s2.heap.objs.size,ob)] H' b:=fun {H' ob} hn b hb=>by
   obtain ⟨_,a1,a2,a3,a4,a5⟩:=f2 b hb;refine ⟨hn b hb,Q9 (Yv (fpl b hb) hDlt),fun z=>?_,.inl (Qu _ hb),fun x c q=>(ncl x c q).elim (fun z=>a4 x c z) fun z=>Yu (Yv (fpl b hb) (Yv hDlt z)),fun p hp=>?_⟩
   ·rcases Q5.mp (I2.stkSub b z) with z'|z'
    ·exact a1 z'
    ·exact a2 z'
   ·have hp':p ∈ X.pn++pins\/p=(s2.heap.objs.size,ob):=by simpa [blk,or_assoc] using hp
    rcases hp' with hp'|rfl
    ·exact a5 p hp'
    ·exact Yu (fpl b hb)
  have loop : ∀ s5:Ql,s5=({ s2 with heap:=h₁ }:Ql) ->
   Qdc (model X.prog X.w) X.A (.compLoop (.ListComp elt [⟨target,iter,cs,0⟩] scope pos) 0 (.ref it) (.ref s2.heap.objs.size) (compEnvC scope (qsj scope X.env (s3.heap.objs.size+1)) s3.heap.objs.size X.env))
    (compPost (model X.prog X.w) X.A X.xe use Q0 (.ref s2.heap.objs.size) s3.heap.objs.size) s5:=by
   rintro s5 rfl;refine hloop (fun n s' => ∃ i ys its cp σ' H',Inv (blk X pins scope (caps++own) s3 H2 (s2.heap.objs.size::fp)) [] σ' H' s'/\tn i s'.heap/\(∀ b ∈ fp,H' b=none)/\H' s2.heap.objs.size=none /\
    s'.heap.get? s2.heap.objs.size=some { cls :=.type "list",data :=.seq (its:List Value).toArray cp }/\Vals ys its/\W i n ys σ' H') ?_ m0 ⟨0,[],[],_,_,H2,I4,st4,fun b hb=>(f2 b hb).1,hDn,hD4,.nil,w0⟩
   rintro n s5 ⟨i,ys,its,cp,σ5,H5,I5,st5,fr5,hD5,gD5,rv5,w5⟩;have Dfs:s2.heap.objs.size ∉ (blk X pins scope (caps++own) s3 H2 (s2.heap.objs.size::fp)).fs:=fun z=>by
    rcases Q5.mp (I2.stkSub _ z) with z'|z'
    ·exact Yu I2.lt z'
    ·exact I2.nofs (Qr _) z'
   have I5':Inv (blk X pins scope (caps++own) s3 H2 (s2.heap.objs.size::fp)) [(s2.heap.objs.size,{ cls :=.type "list",data :=.seq its.toArray cp })] σ5 H5 s5:=by
    refine I5.pins_of fun p hp=>?_;have hp':p ∈ (blk X pins scope (caps++own) s3 H2 (s2.heap.objs.size::fp)).pn++[]\/p=(s2.heap.objs.size,{ cls :=.type "list",data :=.seq its.toArray cp }):=by
     first
      | exact .inr (Qy.mp hp)
      | (rcases Zf.mp hp with z|z
         ·exact .inl (Ya _ z)
         ·exact .inr (Qy.mp z))
    rcases hp' with z|rfl
    ·exact I5.pin p z
    ·exact ⟨gD5,hD5,Q9 hDlt,Dfs,fun v z=>by cases z⟩
   rcases turn i n ys σ5 H5 w5 with ⟨stop,hz,qn⟩|⟨go,hz,N,N0,hN,hN0,step⟩
   ·refine thn (T.done (blk X pins scope (caps++own) s3 H2 (s2.heap.objs.size::fp)) rfl rfl rfl hc i _ s5 σ5 H5 _ I5' (fpk fr5) st5 stop) fun r s6 ⟨hr,I6⟩=>?_;subst hr;obtain ⟨m6,ns6,_⟩:=id I6.loc;have gD6:=(I6.pin _ (Q8 _ (Qy.mpr rfl))).1;have kC : ∀ b o,b≠s3.heap.objs.size->s6.heap.get? b=some o->s6.heap.get? b=some o:=fun b o _ q=>q;have bne : ∀ b o,s2.heap.get? b=some o->b≠s3.heap.objs.size:=fun b o q=>Q9 (Yv (Qx q) hDlt);have bnD : ∀ b o,s2.heap.get? b=some o->b≠s2.heap.objs.size:=fun b o q=>Q9 (Qx q);have nC : ∀ b u,H5 b=some u->b≠s3.heap.objs.size:=fun b u q z=>by
     have z1:H5 s3.heap.objs.size=none:=I6.free;rw [z,z1] at q;cases q
    have U:=I6.base;have IX:Inv X pins σ (upd H5 s2.heap.objs.size (.lst ys)) s6:=by
     refine I2.call' (ch:=s2.heap.objs.size::fp) ?_ ?_ ?_ I6.bare ?_
     ·show s6.os=s2.os;rw [I6.os];show s3.os=s2.os;rw [hs3]
     ·refine ⟨fun b o q n hb hx=>kC b o (bne b o q) (U.keep b o (k23 b o q) n hb hx),fun b o q n hb hx=>?_,fun b o q n hx=>?_,fun b o q hx=>?_,fun b xs q=>?_,fun b o u q=>?_,fun b ps q=>?_⟩
      ·obtain ⟨sl,z⟩:=U.slot b o (k23 b o q) n hb hx;exact ⟨sl,kC b _ (bne b o q) z⟩
      ·rw [qi (bnD b o q)];exact U.free b o (k23 b o q) n hx
      ·obtain ⟨o',z⟩:=U.there b o (k23 b o q) hx;exact ⟨o',kC b _ (bne b o q) z⟩
      ·have:=U.tups b xs q;rw [qi (qm this hD5)];exact this
      ·have:=U.frzs b o u q;rw [qi (qm this hD5)];exact this
      ·obtain ⟨more,z,gm⟩:=U.tbls b ps q;exact ⟨more,by rw [qi (qm z hD5)];exact z,gm.mono fun b o u q=>by rw [qi (qm q hD5)];exact q⟩
     ·intro b u q;by_cases hb:b=s2.heap.objs.size
      ·subst hb;rw [ql] at q;cases q;exact ⟨hz,its,cp,rv5,kC _ _ (Q9 hDlt) gD6⟩
      ·rw [qi hb] at q;refine (I6.hok b u q).stay (fun c ob hc z=>kC c ob ?_ z) (fun c z=>by rw [qi (qm z hD5)];exact z) fun c xs z=>by rw [qi (qm z hD5)];exact z
       rcases hc with hc|hc
       ·rw [hc];exact nC b u q
       ·exact nC c _ hc
     ·intro b hb;have hb':b=s2.heap.objs.size\/b ∈ fp:=Q5.mp hb;rcases hb' with rfl|hb'
      ·exact ⟨.inr I2.sz,Yu I2.lt,fun x c q=>Q9 (cel x c q),fun p hp=>Q9 (pnl p hp)⟩
      ·obtain ⟨_,a1,_,a3,a4,a5⟩:=f2 b hb';exact ⟨a3,a1,a4,a5⟩
    have hCH:(upd H5 s2.heap.objs.size (.lst ys)) s3.heap.objs.size=none:=by
     rw [qi (Yu hDlt)];exact I6.free
    exact fin _ _ s6 _ m6 ns6 IX hCH (Yu (Yv I2.lt hDlt)) (I2.nofs (Y8 hDlt)) (.inr (Zk I2.sz (Y8 hDlt))) (fun x c q=>Q9 (Yv (cel x c q) hDlt)) (fun p hp=>Q9 (Yv (pnl p hp) hDlt)) (qn _ hD5)
   ·refine thn (T.item (blk X pins scope (caps++own) s3 H2 (s2.heap.objs.size::fp)) rfl rfl rfl hc i _ s5 σ5 H5 _ I5' (fpk fr5) st5 go) fun r s6 ⟨u,hr,h6⟩=>?_;subst hr;refine thn h6 fun _ s7 xx62=>?_;obtain ⟨x,H7,I7,r7,y7,st7,fr7⟩:=xx62;have I7':=I7.pinned (fpk fr7) (T.obj _ _ st7);refine Vy (hg pins s3 H2 _ _ s7 σ5 H7 x u _ I7' r7 (step x H7 y7)) (fun _ s8 xx61=>?_) fun _ _ z=>z.elim;obtain ⟨σ8,H8,I8,q8⟩:=xx61;refine htst pins s3 H2 _ _ s8 σ8 H8 _ _ _ I8 q8 fun bt s8' H8' I8' q8'=>?_;cases bt with
    | false =>
     have q9:N0 σ8 H8':=q8';obtain ⟨m',hm',w9⟩:=hN0 σ8 H8' q9;have gD9:=(I8'.pin (s2.heap.objs.size,{ cls :=.type "list",data :=.seq its.toArray cp }) (Q8 _ (Ya _ (Qy.mpr rfl))))
     have pin8 : ∀ b ∈ fp,∀ o,s7.heap.get? b=some o->s8'.heap.get? b=some o/\H8' b=none:=fun b hb o q=>by
      have z:=I8'.pin (b,o) (Q8 _ (Q8 _ (qha hb q)));exact ⟨z.1,z.2.1⟩
     refine ⟨m',hm',i+1,ys,its,cp,σ8,H8',?_,?_,fun b hb=>?_,gD9.2.1,gD9.1,rv5,w9⟩
     ·exact (I8'.pins_of (pins':=[]) (fun p hp=>by
       first
        | exact absurd hp (by simp)
        | (rw [Ve] at hp;exact I8'.pin p (Ya _ hp))))
     ·exact T.keep _ _ _ st7 fun b hb o q=>(pin8 b hb o q).1
     ·obtain ⟨o,q,_⟩:=T.obj _ _ st7 b hb;exact (pin8 b hb o q).2
    | true =>
     refine Vy (he pins s3 H2 _ _ s8' σ8 H8' _ I8' q8') (fun uy s9 xx60=>?_) fun _ _ z=>z.elim;obtain ⟨y,H9,I9,r9,n9⟩:=xx60;obtain ⟨m',hm',w9⟩:=hN y σ8 H9 n9;have gD9:=(I9.pin (s2.heap.objs.size,{ cls :=.type "list",data :=.seq its.toArray cp }) (Q8 _ (Ya _ (Qy.mpr rfl))))
     have pin9 : ∀ b ∈ fp,∀ o,s7.heap.get? b=some o->s9.heap.get? b=some o/\H9 b=none:=fun b hb o q=>by
      have z:=I9.pin (b,o) (Q8 _ (Q8 _ (qha hb q)));exact ⟨z.1,z.2.1⟩
     have hl9:=rv5.length;refine Qfe Qfb ⟨_,gD9.1,rfl⟩ PySem.F.entry_list_append (PySem.F.args_list_append_2 _ _) (Qir s2.heap.objs.size its.toArray cp uy (by rw [Qs];omega)) ⟨gD9.1,?_⟩;have qD:=Qjl gD9.1 (fun xs=>xs.push uy);have ep:its.toArray.push uy=(its++[uy]).toArray:=by simp
     rw [ep] at qD;have up : ∀ b o,b≠s2.heap.objs.size->s9.heap.get? b=some o->(s9.heap.update s2.heap.objs.size (Ys fun xs=>xs.push uy)).get? b=some o:=fun b o hb q=>(Qae s9.heap _ (Z0 hb)).trans q;refine ⟨m',hm',i+1,ys++[y],its++[uy],_,σ8,H9,?_,?_,fun b hb=>?_,gD9.2.1,qD,rv5.append (.cons r9 .nil),w9⟩
     ·refine (I9.pins_of (pins':=[]) (fun p hp=>by
       first
        | exact absurd hp (by simp)
        | (rw [Ve] at hp;exact I9.pin p (Ya _ hp)))).turned (it:=s2.heap.objs.size) up gD9.2.1 (Q9 hDlt) (.inl (Qbs ..)) (fun x c q=>(ncl x c q).elim (fun z=>Q9 (cel x c z)) fun z=>Yu (Yv hDlt z)) fun p hp=>?_
      have hp':p ∈ X.pn++pins:=by simpa [blk] using hp
      exact Q9 (pnl p hp')
     ·exact T.keep _ _ _ st7 fun b hb o q=>up b o (Q9 (fpl b hb)) (pin9 b hb o q).1
     ·obtain ⟨o,q,_⟩:=T.obj _ _ st7 b hb;exact (pin9 b hb o q).2
  exact codeAny_compStart_list (loop _ rfl) (T.self _ 0 _ _ _ st4 (loop _ rfl))
def qqd (hc:X.calm=true) (S:CompScope X.env scope caps) (hi:PI X target iter wi)
 (hg : ∀ pins s3 H ex,PG (blk X pins scope (caps++own) s3 H ex) target g)
 (he : ∀ pins s3 H ex,PE (blk X pins scope (caps++own) s3 H ex) elt te)
 (hix:caps.length=ix.length) (hcapB:(caps.zip ix).all (fun p=>X.N[p.2]?==some p.1)=true)
 (hs : ∀ x,Yg iter X.env x=pure x) {use:Option (Value->Sem Unit)}{Q0:Value->Ql->Prop}{Qv:VK}{pins:List (Addr×Obj)}{s:Ql}{σ:St}{H:Hp}{pos':Pos} (I:Inv X pins σ H s) (h:qpx ix own.length wi g te σ H Qv)
 (fin : ∀ (D C:Addr) (s6:Ql) (H6:Hp) (m6:Str->Option Value),s6.heap.Ns C m6->Inv X pins σ H6 s6->H6 C=none->C≠X.env.locals->C ∉ X.fs->(C ∈ X.ex\/X.s₀.heap.objs.size<=C)->(∀ x c,X.env.cells.lookup x=some c->c≠C)->(∀ p ∈ X.pn++pins,p.1≠C)->Qv (.ref D) H6 ->
 compPost (model X.prog X.w) X.A X.xe use Q0 (.ref D) C (.ok .next) s6) :
 wpAny (model X.prog X.w) X.A (Qio (.ListComp elt [⟨target,iter,[],0⟩] scope pos) scope X.env pos' (newList []) false (eval iter X.env) use) Q0 X.xe s:=by
  refine zadb (cs:=[]) (tt:=tYes) (Tst:=fun _ P _ s=>P true s) (fun J turn n h=>qht J turn n h) hc S hi hg he (fun _ _ _ _ _ s _ H' _ _ _ I q k=>k true s H' I q) hix hcapB hs I h (fun J H1 z=>?_) fin;obtain ⟨W,w0,turn⟩:=z;refine ⟨W,w0,fun i m ys σ1 H2 w=>?_⟩;rcases turn i m ys σ1 H2 w with z|z
  ·exact .inl z
  ·obtain ⟨go,hz,N,hN,step⟩:=z;exact .inr ⟨go,hz,N,fun _ _=>False,hN,fun _ _ z=>z.elim,step⟩
def zacl (hc:X.calm=true) (S:CompScope X.env scope caps) (hi:PI X target iter wi)
 (hg : ∀ pins s3 H ex,PG (blk X pins scope (caps++own) s3 H ex) target g)
 (he : ∀ pins s3 H ex,PE (blk X pins scope (caps++own) s3 H ex) elt te)
 (hix:caps.length=ix.length:=by rfl) (hcapB:(caps.zip ix).all (fun p=>X.N[p.2]?==some p.1)=true:=by rfl)
  (hs : ∀ x,Yg iter X.env x=pure x:=by intro _;rfl):PE X (.ListComp elt [⟨target,iter,[],0⟩] scope pos) (qpx ix own.length wi g te):=by
  intro pins s σ H Q I h;rw [eval_ListComp];exact qqd (use:=none) (Q0:=EP X pins σ Q) hc S hi hg he hix hcapB hs I h fun D C s6 H6 m6 ns6 IX c1 c2 c3 c4 c5 c6 q=>⟨m6,ns6,fun h' sb=>⟨.ref D,H6,IX.turned (t':=s6.toks) (it:=C) (fun b o hb q=>sb.extBut b o hb q) c1 c2 c4 c5 c6,rfl,q⟩⟩
end
end
section
inductive Sl where
 | non
 | val (d:Qh)
 | own (ds:List Qh)
 | pen (ds:List Qh)
 | new (d:Qh)
 | exc (C:Addr)
  | obj (a C:Addr) (nm:List Str) (fs:List (Str×Qh))
abbrev Sto:=List Sl
def gS:Sto->Nat->Sl
 | [],_ => .non
 | s::_,0=>s
 | _::r,i+1=>gS r i
def Sl.mut:Sl->Bool
 | .own _=>true
 | .pen _=>true
 | _=>false
def vS (σ:St) (i:Nat):Option V:=(σ[i]?).join
def qdv : ∀ (e:Sto) (i j:Nat) (s:Sl),gS (e.set i s) j=if i=j/\i<e.length then s else gS e j
 | [],i,j,s=>by simp [gS]
 | x::e,0,0,s=>by simp [gS]
 | x::e,0,j+1,s=>by simp [gS]
 | x::e,i+1,0,s=>by simp [gS]
 | x::e,i+1,j+1,s=>by
  simp only [Qeb,gS,qdv e i j s,Zb,Nat.add_right_cancel_iff,Nat.add_lt_add_iff_right]
def zaap : ∀ {e:Sto}{i:Nat},e.length<=i->gS e i = .non
 | [],_,_=>by simp [gS]
 | x::e,0,h=>by simp at h
 | x::e,i+1,h=>by simp only [gS];exact zaap (by simpa using h)
def qoo (σ:St) (i j:Nat) (v:Option V):vS (σ.set i v) j=if i=j/\i<σ.length then v else vS σ j:=by
 unfold vS;rw [Qaq];by_cases h:i=j
 ·subst h;by_cases h2:i<σ.length
  ·simp [h2]
  ·simp [h2]
 ·simp [h]
def qcj {σ:St}{i:Nat}{v:V} (h:vS σ i=some v):σ[i]?=some (some v):=by
 unfold vS at h;cases e:σ[i]? with
 | none=>rw [e] at h;cases h
 | some o=>rw [e] at h;cases o with
  | none=>cases h
  | some u=>simpa using h
structure Frm where
 B:Hp
 He:Hp
 F0:Hp
mutual
def IsN (K:Qd) (H:Hp):Qh->V->Prop
 | .none,v=>v = .non
 | .bool b,v=>v = .bl b
 | .int i,v=>v = .int i
 | .str x,v=>v = .str x
 | .list l,v => ∃ a xs,v = .ref a/\H a=some (.lst xs)/\IssN K H l xs
 | .tuple l,v => ∃ a xs,v = .ref a/\H a=some (.tup xs)/\IssN K H l xs
 | .dict _,_=>False
def IssN (K:Qd) (H:Hp):List Qh->List V->Prop
 | [],xs=>xs=[]
 | d::l,xs => ∃ x r,xs=x::r/\IsN K H d x/\IssN K H l r
end
mutual
def IsN.is {K:Qd}{H H':Hp} (s:Same H H') : ∀ {d:Qh}{v:V},IsN K H d v->Is K H' d v
 | .none,_,h=>by unfold IsN at h;unfold Is;exact h
 | .bool _,_,h=>by unfold IsN at h;unfold Is;exact h
 | .int _,_,h=>by unfold IsN at h;unfold Is;exact h
 | .str _,_,h=>by unfold IsN at h;unfold Is;exact h
 | .list l,_,h=>by
  unfold IsN at h;unfold Is;obtain ⟨a,xs,e,q,r⟩:=h;exact ⟨a,xs,e,SqL.of (s _ _ q),IssN.is s r⟩
 | .tuple l,_,h=>by
  unfold IsN at h;unfold Is;obtain ⟨a,xs,e,q,r⟩:=h;exact ⟨a,xs,e,SqT.of (s _ _ q),IssN.is s r⟩
 | .dict _,_,h=>by unfold IsN at h;exact h.elim
def IssN.is {K:Qd}{H H':Hp} (s:Same H H') : ∀ {l:List Qh}{xs:List V},IssN K H l xs->Iss K H' l xs
 | [],_,h=>by unfold IssN at h;unfold Iss;exact h
 | d::l,_,h=>by
  unfold IssN at h;unfold Iss;obtain ⟨x,r,e,p,q⟩:=h;exact ⟨x,r,e,IsN.is s p,IssN.is s q⟩
end
mutual
def IsN.mono {K:Qd}{H H':Hp} (s:Same H H') : ∀ {d:Qh}{v:V},IsN K H d v->IsN K H' d v
 | .none,_,h=>by unfold IsN at h ⊢;exact h
 | .bool _,_,h=>by unfold IsN at h ⊢;exact h
 | .int _,_,h=>by unfold IsN at h ⊢;exact h
 | .str _,_,h=>by unfold IsN at h ⊢;exact h
 | .list l,_,h=>by
  unfold IsN at h ⊢;obtain ⟨a,xs,e,q,r⟩:=h;exact ⟨a,xs,e,s _ _ q,IssN.mono s r⟩
 | .tuple l,_,h=>by
  unfold IsN at h ⊢;obtain ⟨a,xs,e,q,r⟩:=h;exact ⟨a,xs,e,s _ _ q,IssN.mono s r⟩
 | .dict _,_,h=>by unfold IsN at h;exact h.elim
def IssN.mono {K:Qd}{H H':Hp} (s:Same H H') : ∀ {l:List Qh}{xs:List V},IssN K H l xs->IssN K H' l xs
 | [],_,h=>by unfold IssN at h ⊢;exact h
 | d::l,_,h=>by
  unfold IssN at h ⊢;obtain ⟨x,r,e,p,q⟩:=h;exact ⟨x,r,e,IsN.mono s p,IssN.mono s q⟩
end
def zahq {K:Qd}{H:Hp}:IssN K H [] []:=by unfold IssN;rfl
def zacu {K:Qd}{H:Hp}{d:Qh}{l:List Qh}{x:V}{xs:List V} (h:IsN K H d x) (r:IssN K H l xs):IssN K H (d::l) (x::xs):=by unfold IssN;exact ⟨x,xs,rfl,h,r⟩
def qnb (M:Frm) (F:Hp):Hp:=fun b=>if (M.He b).isNone=true/\(M.B b).isNone=true then F b else none
def qhp {M:Frm}{F:Hp}:Same (qnb M F) F:=fun b o e=>by
 unfold qnb at e;split at e
 ·exact e
 ·cases e
def qsz {M:Frm}{F F':Hp} (s:Same F F'):Same (qnb M F) (qnb M F'):=fun b o e=>by
 unfold qnb at e ⊢;split at e
 ·rename_i h;rw [if_pos h];exact s b o e
 ·cases e
def zaba {M:Frm}{F:Hp}{a:Addr}{o:HO} (h1:M.He a=none) (h2:M.B a=none) (h3:F a=some o):qnb M F a=some o:=by
 unfold qnb;rw [if_pos ⟨by rw [h1];rfl,by rw [h2];rfl⟩];exact h3
def zaht {M:Frm}{F:Hp}{a:Addr}{o:HO} (h:qnb M F a=some o):M.He a=none/\M.B a=none/\F a=some o:=by
 unfold qnb at h;split at h
 ·rename_i z;exact ⟨Qen.mp z.1,Qen.mp z.2,h⟩
 ·cases h
def excO (C ea:Addr):HO :=.ext fun h => ∃ o,h.get? ea=some o/\o.cls = .ref C
section
variable (K:Qd) (M:Frm) (F H:Hp)
def SlotOk:Sl->Option V->Prop
 | .non,_=>True
 | .val d,x => ∃ v,x=some v/\Is K F d v
 | .own ds,x => ∃ a vs,x=some (.ref a)/\H a=some (.lst vs)/\F a=none/\M.B a=none/\M.He a=none/\Iss K F ds vs
 | .pen ds,x => ∃ a vs,x=some (.ref a)/\H a=some (.lst vs)/\F a=none/\M.B a=none/\(∃ o,M.He a=some o)/\Iss K F ds vs
 | .new d,x => ∃ v,x=some v/\IsN K (qnb M F) d v
 | .exc C,x => ∃ ea,x=some (.ref ea)/\F ea=some (excO C ea)
 | .obj a C nm fs,x => ∃ dx vs,x=some (.ref a)/\M.B a=some (.ins C dx vs)/\vs.map (·.1)=nm /\ ∀ f d,(f,d) ∈ fs -> ∃ v,vs.lookup f=some v/\Is K F d v
structure EnvOk (env:Sto) (σ:St):Prop where
 len:env.length=σ.length
 slot : ∀ i,SlotOk K M F H (gS env i) (vS σ i)
 dis : ∀ i j a,i≠j->(gS env i).mut=true->(gS env j).mut=true->vS σ i=some (.ref a)->vS σ j=some (.ref a)->False
 f0:Same M.F0 F
 fe:Same M.F0 M.He
 fh:Same F H
 bh:Same M.B H
 new : ∀ b o,F b=some o->M.F0 b=some o\/M.He b=none
 dom : ∀ b o,M.He b=some o -> ∃ o',H b=some o'
end
structure Go (F H F' H':Hp):Prop where
 f:Same F F'
 h:Same H H'
 fh:Same F' H'
 new : ∀ b o,F' b=some o->F b=some o\/H b=none
def qu {H H':Hp} (s:Same H H') {b:Addr} (h:H' b=none):H b=none:=s.free h
def Go.refl {F H:Hp} (s:Same F H):Go F H F H:=⟨.refl _,.refl _,s,fun _ _ h => .inl h⟩
def Go.trans {F H F1 H1 F2 H2:Hp} (a:Go F H F1 H1) (b:Go F1 H1 F2 H2):Go F H F2 H2 :=
 ⟨a.f.trans b.f,a.h.trans b.h,b.fh,fun c o h=>(b.new c o h).elim (fun q=>a.new c o q) fun q => .inr (qu a.h q)⟩
def Go.put {F H:Hp}{p:Addr}{o:HO} (s:Same F H) (h:H p=none):Go F H (upd F p o) (upd H p o):=by
 refine ⟨qcb (qu s h),qcb h,fun b u e=>?_,fun b u e=>?_⟩
 ·unfold upd at e ⊢;split at e
  ·rename_i z;rw [if_pos z];exact e
  ·rename_i z;rw [if_neg z];exact s b u e
 ·unfold upd at e;split at e
  ·rename_i z;subst z;exact .inr h
  ·exact .inl e
def Go.side {F H:Hp}{p:Addr}{o:HO} (s:Same F H) (h:H p=none):Go F H F (upd H p o) :=
 ⟨.refl _,qcb h,s.trans (qcb h),fun _ _ e => .inl e⟩
section
variable {K:Qd}{M:Frm}{F H F' H':Hp}{env:Sto}{σ:St}
def SlotOk.go {s:Sl}{x:Option V} (h:SlotOk K M F H s x) (g:Go F H F' H'):SlotOk K M F' H' s x:=by
 have nf : ∀ {a:Addr}{o:HO},H a=some o->F a=none->F' a=none:=fun {a o} h1 h2=>by
  cases e:F' a with
  | none=>rfl
  | some u=>rcases g.new a u e with q|q
            ·rw [h2] at q;cases q
            ·rw [h1] at q;cases q
 cases s with
 | non=>trivial
 | val d=>obtain ⟨v,e,i⟩:=h;exact ⟨v,e,i.mono g.f⟩
 | own ds=>obtain ⟨a,vs,e,h1,h2,h3,h4,h5⟩:=h;exact ⟨a,vs,e,g.h _ _ h1,nf h1 h2,h3,h4,h5.mono g.f⟩
 | pen ds=>obtain ⟨a,vs,e,h1,h2,h3,hx,h5⟩:=h;exact ⟨a,vs,e,g.h _ _ h1,nf h1 h2,h3,hx,h5.mono g.f⟩
 | new d=>obtain ⟨v,e,i⟩:=h;exact ⟨v,e,i.mono (qsz g.f)⟩
 | exc C=>obtain ⟨ea,e,i⟩:=h;exact ⟨ea,e,g.f _ _ i⟩
 | obj a0 C nm fs=>obtain ⟨dx,vs,e,b,hn,i⟩:=h;exact ⟨dx,vs,e,b,hn,fun f d m=>let ⟨v,l,j⟩:=i f d m; ⟨v,l,j.mono g.f⟩⟩
def EnvOk.go (I:EnvOk K M F H env σ) (g:Go F H F' H'):EnvOk K M F' H' env σ where
 len:=I.len
 slot:=fun i=>(I.slot i).go g
 dis:=I.dis
 f0:=I.f0.trans g.f
 fe:=I.fe
 fh:=g.fh
 bh:=I.bh.trans g.h
 new:=fun b o e=>(g.new b o e).elim (fun q=>I.new b o q) fun q=>by
  refine .inr ?_;cases z:M.He b with
  | none=>rfl
  | some u=>obtain ⟨o',q'⟩:=I.dom b u z;rw [q] at q';cases q'
 dom:=fun b o e=>let ⟨o',q⟩:=I.dom b o e; ⟨o',g.h _ _ q⟩
def EnvOk.he (I:EnvOk K M F H env σ) {a:Addr} (h:H a=none):M.He a=none:=by
 cases z:M.He a with
 | none=>rfl
 | some u=>obtain ⟨o',q'⟩:=I.dom a u z;rw [h] at q';cases q'
def EnvOk.setv (I:EnvOk K M F H env σ) {i:Nat}{d:Qh}{v:V} (h:Is K F d v):EnvOk K M F H (env.set i (.val d)) (σ.set i (some v)) where
 len:=by rw [Ye,Ye];exact I.len
 slot:=fun j=>by
  rw [qdv,qoo,I.len];split
  ·exact ⟨v,rfl,h⟩
  ·exact I.slot j
 dis:=fun j k a hjk h1 h2 h3 h4=>by
  rw [qdv] at h1 h2;rw [qoo] at h3 h4;rw [I.len] at h1 h2;split at h1
  ·cases h1
  ·rename_i z1;split at h2
   ·cases h2
   ·rename_i z2;rw [if_neg z1] at h3;rw [if_neg z2] at h4;exact I.dis j k a hjk h1 h2 h3 h4
 f0:=I.f0
 fe:=I.fe
 fh:=I.fh
 bh:=I.bh
 new:=I.new
 dom:=I.dom
def EnvOk.seto (I:EnvOk K M F H env σ) {i:Nat}{ds:List Qh}{a:Addr}{vs:List V} (h1:H a=some (.lst vs)) (h2:F a=none) (h3:M.B a=none) (h4:M.He a=none)
 (h5 : ∀ j,(gS env j).mut=true->vS σ j≠some (.ref a)) (h6:Iss K F ds vs):EnvOk K M F H (env.set i (.own ds)) (σ.set i (some (.ref a))) where
  len:=by rw [Ye,Ye];exact I.len
  slot:=fun j=>by
   rw [qdv,qoo,I.len];split
   ·exact ⟨a,vs,rfl,h1,h2,h3,h4,h6⟩
   ·exact I.slot j
  dis:=fun j k b hjk m1 m2 e1 e2=>by
   rw [qdv] at m1 m2;rw [qoo] at e1 e2;rw [I.len] at m1 m2;by_cases z1:i=j/\i<σ.length
   ·rw [if_pos z1] at m1 e1;have z2 : ¬ (i=k/\i<σ.length):=fun z=>hjk (z1.1.symm.trans z.1);rw [if_neg z2] at m2 e2;injection e1 with e1;injection e1 with e1;subst e1;exact h5 k m2 e2
   ·rw [if_neg z1] at m1 e1;by_cases z2:i=k/\i<σ.length
    ·rw [if_pos z2] at m2 e2;injection e2 with e2;injection e2 with e2;subst e2;exact h5 j m1 e1
    ·rw [if_neg z2] at m2 e2;exact I.dis j k b hjk m1 m2 e1 e2
  f0:=I.f0
  fe:=I.fe
  fh:=I.fh
  bh:=I.bh
  new:=I.new
  dom:=I.dom
def Sl.upd:Sl->List Qh->Sl
 | .own _,ds => .own ds
 | .pen _,ds => .pen ds
 | s,_=>s
def Sl.cnt:Sl->List Qh
 | .own ds=>ds
 | .pen ds=>ds
 | _=>[]
def SlotOk.addr {s:Sl}{x:Option V} (h:SlotOk K M F H s x) (m:s.mut=true) : ∃ a vs,x=some (.ref a)/\H a=some (.lst vs)/\F a=none/\M.B a=none/\Iss K F s.cnt vs:=by
 cases s with
 | non=>cases m
 | val d=>cases m
 | own ds=>obtain ⟨a,vs,e,h1,h2,h3,h4,h5⟩:=h;exact ⟨a,vs,e,h1,h2,h3,h5⟩
 | pen ds=>obtain ⟨a,vs,e,h1,h2,h3,hx,h5⟩:=h;exact ⟨a,vs,e,h1,h2,h3,h5⟩
 | new d=>cases m
 | exc C=>cases m
 | obj a0 C nm fs=>cases m
def zaoi {e:Sto}{i:Nat} (h:(gS e i).mut=true):i<e.length:=by
 by_cases z:i<e.length
 ·exact z
 ·rw [zaap (by omega)] at h;cases h
def EnvOk.chg (I:EnvOk K M F H env σ) {i:Nat}{a:Addr}{ds:List Qh}{vs:List V} (m:(gS env i).mut=true) (ea:vS σ i=some (.ref a)) (h:Iss K F ds vs):EnvOk K M F (upd H a (.lst vs)) (env.set i ((gS env i).upd ds)) σ:=by
 obtain ⟨a',vs0,e,h1,h2,h3,h5⟩:=(I.slot i).addr m;rw [ea] at e;injection e with e;injection e with e;subst e;have hi:=zaoi m;have mu:((gS env i).upd ds).mut=true:=by
  cases q:gS env i with
  | non=>rw [q] at m;cases m
  | val d=>rw [q] at m;cases m
  | own d=>rfl
  | pen d=>rfl
  | new d=>rw [q] at m;cases m
  | exc C=>rw [q] at m;cases m
  | obj a0 C nm fs=>rw [q] at m;cases m
 have muj : ∀ j,(gS (env.set i ((gS env i).upd ds)) j).mut=(gS env j).mut:=fun j=>by
  rw [qdv];split
  ·rename_i z;rw [mu,<- z.1,m]
  ·rfl
 refine ⟨by rw [Ye];exact I.len,fun j=>?_,fun j k b hjk m1 m2 e1 e2=>I.dis j k b hjk (muj j ▸ m1) (muj k ▸ m2) e1 e2,I.f0,I.fe,fun b o e=>?_,fun b o e=>?_,I.new,fun b o e=>?_⟩
 ·rw [qdv];by_cases z:i=j
  ·subst z;rw [if_pos ⟨rfl,hi⟩];have S:=I.slot i;cases q:gS env i with
   | non=>rw [q] at m;cases m
   | val d=>rw [q] at m;cases m
   | own ds0 =>
    rw [q] at S;obtain ⟨a',vs',e,g1,g2,g3,g4,g5⟩:=S;rw [ea] at e;injection e with e;injection e with e;subst e;exact ⟨a,vs,ea,ql,g2,g3,g4,h⟩
   | pen ds0 =>
    rw [q] at S;obtain ⟨a',vs',e,g1,g2,g3,gx,g5⟩:=S;rw [ea] at e;injection e with e;injection e with e;subst e;exact ⟨a,vs,ea,ql,g2,g3,gx,h⟩
   | new d=>rw [q] at m;cases m
   | exc C=>rw [q] at m;cases m
   | obj a0 C nm fs=>rw [q] at m;cases m
  ·rw [if_neg (fun y=>z y.1)];have S:=I.slot j;cases q:gS env j with
   | non=>trivial
   | val d=>rw [q] at S;exact S
   | own ds0 =>
    rw [q] at S;obtain ⟨b,vs',e,g1,g2,g3,g4,g5⟩:=S;have hb:b≠a:=fun y=>by subst y;exact I.dis i j b z m (by rw [q];rfl) ea e
    exact ⟨b,vs',e,by rw [qi hb];exact g1,g2,g3,g4,g5⟩
   | pen ds0 =>
    rw [q] at S;obtain ⟨b,vs',e,g1,g2,g3,gx,g5⟩:=S;have hb:b≠a:=fun y=>by subst y;exact I.dis i j b z m (by rw [q];rfl) ea e
    exact ⟨b,vs',e,by rw [qi hb];exact g1,g2,g3,gx,g5⟩
   | new d=>rw [q] at S;exact S
   | exc C=>rw [q] at S;exact S
   | obj a0 C nm fs=>rw [q] at S;exact S
 ·rw [qi (qm e h2)];exact I.fh b o e
 ·rw [qi (qm e h3)];exact I.bh b o e
 ·obtain ⟨o',q⟩:=I.dom b o e;by_cases z:b=a
  ·subst z;exact ⟨_,ql⟩
  ·exact ⟨o',by rw [qi z];exact q⟩
def EnvOk.frz (I:EnvOk K M F H env σ) {a:Addr}{vs:List V} (h1:H a=some (.lst vs)) (h2:F a=none) (h4:M.He a=none) (h5 : ∀ j,(gS env j).mut=true->vS σ j≠some (.ref a)) :
 EnvOk K M (upd F a (.lst vs)) H env σ/\Same F (upd F a (.lst vs)):=by
  have sF:Same F (upd F a (.lst vs)):=qcb h2;refine ⟨⟨I.len,fun j=>?_,I.dis,I.f0.trans sF,I.fe,fun b o e=>?_,I.bh,fun b o e=>?_,I.dom⟩,sF⟩
  ·have S:=I.slot j;have n5:=h5 j;cases q:gS env j with
   | non=>trivial
   | val d=>rw [q] at S;obtain ⟨v,e,i⟩:=S;exact ⟨v,e,i.mono sF⟩
   | own ds0 =>
    rw [q] at S n5;obtain ⟨b,vs',e,g1,g2,g3,g4,g5⟩:=S;have hb:b≠a:=fun y=>by subst y;exact n5 rfl e
    exact ⟨b,vs',e,g1,by rw [qi hb];exact g2,g3,g4,g5.mono sF⟩
   | pen ds0 =>
    rw [q] at S n5;obtain ⟨b,vs',e,g1,g2,g3,gx,g5⟩:=S;have hb:b≠a:=fun y=>by subst y;exact n5 rfl e
    exact ⟨b,vs',e,g1,by rw [qi hb];exact g2,g3,gx,g5.mono sF⟩
   | new d=>rw [q] at S;obtain ⟨v,e,i⟩:=S;exact ⟨v,e,i.mono (qsz sF)⟩
   | exc C=>rw [q] at S;obtain ⟨ea,e,i⟩:=S;exact ⟨ea,e,sF _ _ i⟩
   | obj a0 C nm fs=>rw [q] at S;obtain ⟨dx,vs',e,b',hn,i⟩:=S;exact ⟨dx,vs',e,b',hn,fun f d m=>let ⟨v,l,j⟩:=i f d m; ⟨v,l,j.mono sF⟩⟩
  ·by_cases z:b=a
   ·subst z;rw [ql] at e;rw [h1];exact e
   ·rw [qi z] at e;exact I.fh b o e
  ·by_cases z:b=a
   ·subst z;exact .inr h4
   ·rw [qi z] at e;exact I.new b o e
def EnvOk.drop (I:EnvOk K M F H env σ) (i:Nat):EnvOk K M F H (env.set i .non) σ where
 len:=by rw [Ye];exact I.len
 slot:=fun j=>by
  rw [qdv];split
  ·trivial
  ·exact I.slot j
 dis:=fun j k a hjk h1 h2 h3 h4=>by
  rw [qdv] at h1 h2;split at h1
  ·cases h1
  ·split at h2
   ·cases h2
   ·exact I.dis j k a hjk h1 h2 h3 h4
 f0:=I.f0
 fe:=I.fe
 fh:=I.fh
 bh:=I.bh
 new:=I.new
 dom:=I.dom
def EnvOk.tell (I:EnvOk K M F H env σ) {i:Nat}{d:Qh}{v:V} (e:vS σ i=some v) (h:Is K F d v):EnvOk K M F H (env.set i (.val d)) σ where
 len:=by rw [Ye];exact I.len
 slot:=fun j=>by
  rw [qdv];split
  ·rename_i z;rw [<- z.1];exact ⟨v,e,h⟩
  ·exact I.slot j
 dis:=fun j k a hjk h1 h2 h3 h4=>by
  rw [qdv] at h1 h2;split at h1
  ·cases h1
  ·split at h2
   ·cases h2
   ·exact I.dis j k a hjk h1 h2 h3 h4
 f0:=I.f0
 fe:=I.fe
 fh:=I.fh
 bh:=I.bh
 new:=I.new
 dom:=I.dom
def Sl.fz:Sl->Sl
 | .own ds => .val (.list ds)
 | s=>s
def EnvOk.freeze (I:EnvOk K M F H env σ) (i:Nat) : ∃ F',EnvOk K M F' H (env.set i (gS env i).fz) σ/\Same F F':=by
 have same : ∀ s,gS env i=s->env.set i s=env:=fun s h=>by
  subst h;apply Zl;intro j;rw [Qaq];split
  ·rename_i z;subst z;split
   ·rename_i hi;have : ∀ (e:Sto) (n:Nat) (h:n<e.length),some (gS e n)=e[n]?:=by
     intro e
     induction e with
     | nil=>intro n h;simp at h
     | cons x e ih=>intro n h;cases n with
      | zero=>rfl
      | succ n=>simp only [gS,Z7];exact ih n (by simpa using h)
    exact this env i hi
   ·rename_i hi;rw [Qo (by omega)]
  ·rfl
 cases q:gS env i with
 | non=>exact ⟨F,by rw [show Sl.fz .non = .non from rfl,same _ q];exact I,.refl _⟩
 | val d=>exact ⟨F,by rw [show Sl.fz (.val d) = .val d from rfl,same _ q];exact I,.refl _⟩
 | pen ds=>exact ⟨F,by rw [show Sl.fz (.pen ds) = .pen ds from rfl,same _ q];exact I,.refl _⟩
 | new d=>exact ⟨F,by rw [show Sl.fz (.new d) = .new d from rfl,same _ q];exact I,.refl _⟩
 | exc C=>exact ⟨F,by rw [show Sl.fz (.exc C) = .exc C from rfl,same _ q];exact I,.refl _⟩
 | obj a0 C nm fs=>exact ⟨F,by rw [show Sl.fz (.obj a0 C nm fs) = .obj a0 C nm fs from rfl,same _ q];exact I,.refl _⟩
 | own ds =>
  have S:=I.slot i;rw [q] at S;obtain ⟨a,vs,e,h1,h2,h3,h4,h5⟩:=S;obtain ⟨J,s⟩:=(I.drop i).frz h1 h2 h4 (fun j m z=>by
   rw [qdv] at m;split at m
   ·cases m
   ·rename_i hn;by_cases hij:i=j
    ·subst hij;exact hn ⟨rfl,zaoi (by rw [q];rfl)⟩
    ·exact I.dis i j a hij (by rw [q];rfl) m e z)
  have T:=J.tell (i:=i) (d :=.list ds) e (qcv (SqL.of ql) (h5.mono s));rw [Qli] at T;exact ⟨_,T,s⟩
end
end
section
abbrev WE:=Sto->(Qh->Sto->Prop)->Prop
abbrev WF:=Sto->(List Qh->Sto->Prop)->Prop
abbrev WT:=Sto->(Bool->Sto->Prop)->Prop
inductive Ret where
 | val (d:Qh)
 | own (ds:List Qh)
 | new (d:Qh)
def Ret.data:Ret->Qh
 | .val d=>d
 | .own ds => .list ds
 | .new d=>d
structure WEnds where
 nx:Sto->Prop
 rt:Ret->Sto->Prop
 bk:Sto->Prop:=fun _=>False
 ct:Sto->Prop:=fun _=>False
abbrev WS:=WEnds->Sto->Prop
abbrev WG:=Qh->Sto->(Sto->Prop)->Prop
abbrev WGs:=List Qh->Sto->(Sto->Prop)->Prop
abbrev D2:=Qh->Qh->(Qh->Prop)->Prop
abbrev DC:=List Qh->(Qh->Prop)->Prop
section
variable (K:Qd)
def qfr (W:WE):TE:=fun σ H R => ∃ M env F Q,EnvOk K M F H env σ/\W env Q /\ ∀ d v F' H' env',EnvOk K M F' H' env' σ->Same F F'->Is K F' d v->Q d env'->R v H'
def qob (W:WF):TE:=fun σ H R => ∃ M env F Q,EnvOk K M F H env σ/\W env Q /\ ∀ a vs ds F' H' env',EnvOk K M F' H' env' σ->Same F F'->H' a=some (.lst vs)->F' a=none->M.B a=none->M.He a=none ->
 (∀ i,(gS env' i).mut=true->vS σ i≠some (.ref a))->Iss K F' ds vs->Q ds env'->R (.ref a) H'
def qgv (W:WF):TA:=fun σ H R => ∃ M env F Q,EnvOk K M F H env σ/\W env Q /\ ∀ ds vs F' H' env',EnvOk K M F' H' env' σ->Same F F'->Iss K F' ds vs->Q ds env'->R vs H'
def zaez (W:WT):TT:=fun σ H R => ∃ M env F Q,EnvOk K M F H env σ/\W env Q /\ ∀ b F' H' env',EnvOk K M F' H' env' σ->Same F F'->Q b env'->R b H'
def RetOk (M:Frm) (F H:Hp):Ret->V->Prop
 | .val d,v=>Is K F d v
 | .own ds,v => ∃ a vs,v = .ref a/\H a=some (.lst vs)/\F a=none/\M.B a=none/\M.He a=none/\Iss K F ds vs
 | .new d,v=>IsN K (qnb M F) d v
structure EndsOk (M:Frm) (F:Hp) (DD:WEnds) (D:Ends):Prop where
 nx : ∀ env' F' H' σ',EnvOk K M F' H' env' σ'->Same F F'->DD.nx env'->D.nx σ' H'
 rt : ∀ r v env' F' H' σ',EnvOk K M F' H' env' σ'->Same F F'->RetOk K M F' H' r v->DD.rt r env'->D.rt v H'
 bk : ∀ env' F' H' σ',EnvOk K M F' H' env' σ'->Same F F'->DD.bk env'->D.bk σ' H'
 ct : ∀ env' F' H' σ',EnvOk K M F' H' env' σ'->Same F F'->DD.ct env'->D.ct σ' H'
def qsl (W:WS):TS:=fun D σ H => ∃ M env F DD,EnvOk K M F H env σ/\W DD env/\EndsOk K M F DD D
def qpo (W:WG):TG:=fun v σ H R => ∃ M env F d Q,EnvOk K M F H env σ/\Is K F d v/\W d env Q /\ ∀ F' H' env' σ',EnvOk K M F' H' env' σ'->Same F F'->Q env'->R σ' H'
def zard (W:WGs):TGs:=fun vs σ H R => ∃ M env F ds Q,EnvOk K M F H env σ/\Iss K F ds vs/\W ds env Q /\ ∀ F' H' env' σ',EnvOk K M F' H' env' σ'->Same F F'->Q env'->R σ' H'
def zajt (r:D2):R2:=fun x y H Q => ∃ F dx dy q,Same F H/\Is K F dx x/\Is K F dy y/\r dx dy q /\ ∀ d v F' H',Go F H F' H'->Is K F' d v->q d->Q v H'
def zaev (r:DC):List V->Hp->VK->Prop:=fun vs H Q => ∃ F ds q,Same F H/\Iss K F ds vs/\r ds q /\ ∀ d v F' H',Go F H F' H'->Is K F' d v->q d->Q v H'
def qvx (r:List Qh->(List Qh->Prop)->Prop):List V->Hp->VK->Prop:=fun vs H Q => ∃ F ds q,Same F H/\Iss K F ds vs/\r ds q /\ ∀ l a xs F' H',Go F H F' H'->H a=none->F' a=none->H' a=some (.lst xs)->Iss K F' l xs->q l->Q (.ref a) H'
structure ItD (J:It) (F:Hp) (ds:List Qh):Prop where
 go : ∀ i H,Same F H->i<ds.length->J.go i H
 stop : ∀ H,Same F H->J.stop ds.length H
 yld : ∀ i H x H' F1,Same F F1->Same F1 H->i<ds.length->J.yld i H x H' -> ∃ d F2,ds[i]?=some d/\Go F1 H F2 H'/\Is K F2 d x
def qjg (W:WF):TI:=fun σ H R => ∃ M env F Q,EnvOk K M F H env σ/\W env Q /\ ∀ ds J F' H' env',EnvOk K M F' H' env' σ->Same F F'->ItD K J F' ds->Q ds env'->R J H'
end
section
variable {K:Qd}{M:Frm}{F F':Hp}{DD:WEnds}{D:Ends}
def EndsOk.mono (h:EndsOk K M F DD D) (s:Same F F'):EndsOk K M F' DD D :=
 ⟨fun e f g i j k=>h.nx e f g i j (s.trans k),fun r v e f g i j k=>h.rt r v e f g i j (s.trans k),fun e f g i j k=>h.bk e f g i j (s.trans k),fun e f g i j k=>h.ct e f g i j (s.trans k)⟩
end
def VE (X:Cx) (e:Expr) (W:WE):Prop:=PE X e (qfr X.K W)
def VF (X:Cx) (e:Expr) (W:WF):Prop:=PE X e (qob X.K W)
def VA (X:Cx) (e:List Expr) (W:WF):Prop:=PA X e (qgv X.K W)
def VT (X:Cx) (e:Expr) (W:WT):Prop:=PT X e (zaez X.K W)
def VW (X:Cx) (e:Expr) (W:WT):Prop:=PW X e (zaez X.K W)
def VW.pt {X:Cx}{e:Expr}{W:WT} (h:VW X e W):VT X e W:=PW.pt h
def VS (X:Cx) (st:Stmt) (W:WS):Prop:=PS X st (qsl X.K W)
def VSs (X:Cx) (st:List Stmt) (W:WS):Prop:=PSs X st (qsl X.K W)
def VG (X:Cx) (e:Expr) (W:WG):Prop:=PG X e (qpo X.K W)
def VGs (X:Cx) (e:List Expr) (W:WGs):Prop:=PGs X e (zard X.K W)
def VI (X:Cx) (tg e:Expr) (W:WF):Prop:=PI X tg e (qjg X.K W)
def OpV (X:Cx) (f:Value->Value->Sem Value) (r:D2):Prop:=OpR X f (zajt X.K r)
def qof (X:Cx) (f:Value) (r:DC):Prop:=CallR X f (zaev X.K r)
def qrz (X:Cx) (f:Value) (r:List Qh->(List Qh->Prop)->Prop):Prop:=CallR X f (qvx X.K r)
section
variable {X:Cx}
def PE.imp {e:Expr}{t t':TE} (h:PE X e t) (i : ∀ σ H Q,t' σ H Q->t σ H Q):PE X e t':=fun pins s σ H Q I q=>h pins s σ H Q I (i σ H Q q)
def PA.imp {e:List Expr}{t t':TA} (h:PA X e t) (i : ∀ σ H Q,t' σ H Q->t σ H Q):PA X e t':=fun pos pins s σ H Q I q=>h pos pins s σ H Q I (i σ H Q q)
def PT.imp {e:Expr}{t t':TT} (h:PT X e t) (i : ∀ σ H Q,t' σ H Q->t σ H Q):PT X e t':=fun pins s σ H Q I q=>h pins s σ H Q I (i σ H Q q)
def PW.imp {e:Expr}{t t':TT} (h:PW X e t) (i : ∀ σ H Q,t' σ H Q->t σ H Q):PW X e t':=fun wh pins s σ H Q I q=>h wh pins s σ H Q I (i σ H Q q)
def PS.imp {e:Stmt}{t t':TS} (h:PS X e t) (i : ∀ D σ H,t' D σ H->t D σ H):PS X e t':=fun pins s σ H D I q=>h pins s σ H D I (i D σ H q)
def PSs.imp {e:List Stmt}{t t':TS} (h:PSs X e t) (i : ∀ D σ H,t' D σ H->t D σ H):PSs X e t':=fun pins s σ H D I q=>h pins s σ H D I (i D σ H q)
def PG.imp {e:Expr}{t t':TG} (h:PG X e t) (i : ∀ v σ H Q,t' v σ H Q->t v σ H Q):PG X e t':=fun pins s σ H v u Q I r q=>h pins s σ H v u Q I r (i v σ H Q q)
def PGs.imp {e:List Expr}{t t':TGs} (h:PGs X e t) (i : ∀ v σ H Q,t' v σ H Q->t v σ H Q):PGs X e t':=fun pins s σ H v u Q I r q=>h pins s σ H v u Q I r (i v σ H Q q)
def PI.imp {tg e:Expr}{t t':TI} (h:PI X tg e t) (i : ∀ σ H Q,t' σ H Q->t σ H Q):PI X tg e t':=fun pins s σ H Q I q=>h pins s σ H Q I (i σ H Q q)
def OpR.imp {f:Value->Value->Sem Value}{r r':R2} (h:OpR X f r) (i : ∀ x y H Q,r' x y H Q->r x y H Q):OpR X f r':=fun pins s σ H x y v u Q I a b q=>h pins s σ H x y v u Q I a b (i x y H Q q)
def CallR.imp {f:Value}{r r':List V->Hp->VK->Prop} (h:CallR X f r) (i : ∀ x H Q,r' x H Q->r x H Q):CallR X f r':=fun pins s σ H x u Q I a q=>h pins s σ H x u Q I a (i x H Q q)
def IxR.imp {r r':R2} (h:IxR X r) (i : ∀ x y H Q,r' x y H Q->r x y H Q):IxR X r':=fun value slice pins s σ H x y v u Q I a b q=>h value slice pins s σ H x y v u Q I a b (i x y H Q q)
def wVar (i:Nat):WE:=fun env Q=>match gS env i with | .val d=>Q d env | .new d=>Q d env|_=>False
def qc (i:Nat) {x:Str}{pos:Pos} (hN:X.N[i]?=some x:=by rfl) (hv:Vis X.env.scope x:=by first|exact Yy rfl|exact Z6 (Yy rfl)|exact Z6 (Z6 rfl)) (hd:Nd0 x:=by decide)
 (hcd:Nd1 x:=by decide):VE X (.Name x pos) (wVar i):=(qcx hN hv hd hcd).imp fun σ H R xx65=>by
 obtain ⟨M,env,F,Q,I,h,k⟩:=xx65;have S:=I.slot i;unfold wVar at h;cases q:gS env i with
 | val d =>
  rw [q] at S h;obtain ⟨v,e,j⟩:=S;exact ⟨v,qcj e,k d v F H env I (.refl _) j h⟩
 | new d =>
  rw [q] at S h;obtain ⟨v,e,j⟩:=S;exact ⟨v,qcj e,k d v F H env I (.refl _) (j.is qhp) h⟩
 | non=>rw [q] at h;exact h.elim
 | own ds=>rw [q] at h;exact h.elim
 | pen ds=>rw [q] at h;exact h.elim
 | exc C=>rw [q] at h;exact h.elim
 | obj a0 C nm fs=>rw [q] at h;exact h.elim
def wC (d:Qh):WE:=fun env Q=>Q d env
def ve_c {e:Expr}{v:V}{d:Qh} (h:PE X e (tC v)) (i : ∀ F,Is X.K F d v):VE X e (wC d):=h.imp fun σ H R xx66=>by obtain ⟨M,env,F,Q,I,h,k⟩:=xx66;exact k d v F H env I (.refl _) (i F) h
def qf {i j pos}:VE X (.Constant (.int i) j pos) (wC (.int i)):=ve_c qom fun _=>qJ i
def qyu {b j pos}:VE X (.Constant (.bool b) j pos) (wC (.bool b)):=ve_c zary fun _=>qgi b
def qvu {j pos}:VE X (.Constant .none j pos) (wC .none):=ve_c zaqg fun _=>qrs
def qle {x j pos}:VE X (.Constant (.str x) j pos) (wC (.str x)):=ve_c zaaq fun _=>zaak x
def qqy {x:Str}{i:Int}{pos:Pos} (h : ∃ t,X.mg x=some (.int i t)) (hg:Gl X x:=by rfl) (hd:Nd0 x:=by decide):VE X (.Name x pos) (wC (.int i)):=by
 obtain ⟨t,hm⟩:=h;exact ve_c (zall (v :=.int i) hg hm ⟨t,rfl⟩ hd) fun _=>qJ i
def wOp (r:D2) (Wa Wb:WE):WE:=fun env Q=>Wa env fun x e1=>Wb e1 fun y e2=>r x y fun d=>Q d e2
def qqk {r:D2}{Wa Wb:WE}{σ:St}{H:Hp}{R:VK} (h:qfr X.K (wOp r Wa Wb) σ H R):tOp (zajt X.K r) (qfr X.K Wa) (qfr X.K Wb) σ H R:=by
 obtain ⟨M,env,F,Q,I,h,k⟩:=h;exact ⟨M,env,F,_,I,h,fun d v F1 H1 e1 I1 s1 i1 h1=>⟨M,e1,F1,_,I1,h1,fun d2 v2 F2 H2 e2 I2 s2 i2 h2 =>
  ⟨F2,d,d2,_,I2.fh,i1.mono s2,i2,h2,fun d3 v3 F3 H3 g i3 q=>k d3 v3 F3 H3 e2 (I2.go g) (s1.trans (s2.trans g.f)) i3 q⟩⟩⟩
section
variable {a b c:Expr}{Wa Wb Wc:WE}{pos:Pos}
def qy {op:Operator}{r:D2} (ho:OpV X (Je op) r) (ha:VE X a Wa) (hb:VE X b Wb):VE X (.BinOp a op b pos) (wOp r Wa Wb) :=
 (zaoo ho ha hb).imp fun _ _ _ h=>qqk h
def qfz {op:CmpOp}{r:D2} (ho:OpV X (Vc op) r) (ha:VE X a Wa) (hb:VE X b Wb) (hm:Qca op b=false:=by first|exact zajo _|with_unfolding_all rfl):VE X (.Compare a [op] [b] pos) (wOp r Wa Wb) :=
 (zamh ho ha hb hm).imp fun _ _ _ h=>qqk h
def zajv (W:WE):WT:=fun env Q=>W env fun d e=>match d with | .bool b=>Q b e|_=>False
def qtc {W:WE}{σ:St}{H:Hp}{R:Bool->Hp->Prop} (h:zaez X.K (zajv W) σ H R):qfr X.K W σ H fun x H' => ∃ k,x = .bl k/\R k H':=by
 obtain ⟨M,env,F,Q,I,h,k⟩:=h;refine ⟨M,env,F,_,I,h,fun d v F1 H1 e1 I1 s1 i1 h1=>?_⟩;cases d with
 | bool b=>exact ⟨b,i1.bl_inv,k b F1 H1 e1 I1 s1 h1⟩
 | _=>exact Zd h1
def qK {op:CmpOp}{r:D2} (ho:OpV X (Vc op) r) (ha:VE X a Wa) (hb:VE X b Wb) (hm:Qca op b=false:=by first|exact zajo _|with_unfolding_all rfl):VT X (.Compare a [op] [b] pos) (zajv (wOp r Wa Wb)) :=
 (zanm ho ha hb hm).imp fun σ H R h=>qqk (qtc h)
def qhy {e:Expr}{W:WE} (h:VE X e W) (he : ∀ whole,isTrue e X.env whole=(do let v <- whole;Qgw e.pos;Qdd [v] (truthy v)):=by intro _;rfl):VT X e (zajv W) :=
 (zapd h he).imp fun σ H R h=>qtc h
def truD:Qh->Bool
 | .none=>false
 | .bool b=>b
 | .int i=>i != 0
 | .str x=>(x.length:Int) != 0
 | .list l => !l.isEmpty
 | .tuple l => !l.isEmpty
 | .dict l => !l.isEmpty
def wTru (W:WE):WT:=fun env Q=>W env fun d e=>(∀ x,d = .str x->x.length<=Q6)/\Q (truD d) e
def Iss.emp {K:Qd}{H:Hp}{l:List Qh}{xs:List V} (h:Iss K H l xs):(!l.isEmpty) = !xs.isEmpty:=by
 cases l with
 | nil=>rw [h.nil_inv];rfl
 | cons d l=>obtain ⟨x,r,rfl,_⟩:=h.cons_inv;rfl
def zaqn {e:Expr}{W:WE} (h:VE X e W) (he : ∀ whole,isTrue e X.env whole=(do let v <- whole;Qgw e.pos;Qdd [v] (truthy v)):=by intro _;rfl):VT X e (wTru W) :=
 (zagz h he).imp fun σ H R xx67=>by
  obtain ⟨M,env,F,Q,I,h,k⟩:=xx67;refine ⟨M,env,F,_,I,h,fun d v F1 H1 e1 I1 s1 i1 h1=>⟨truD d,?_,k _ F1 H1 e1 I1 s1 h1.2⟩⟩;replace i1:=i1.mono I1.fh
  cases d with
  | none=>rw [i1.non_inv];rfl
  | bool b=>rw [i1.bl_inv];rfl
  | int i=>rw [i1.int_inv];rfl
  | str x=>unfold Is at i1;subst i1;exact ⟨h1.1 x rfl,rfl⟩
  | list l=>obtain ⟨a,xs,rfl,q,r⟩:=i1.lst_inv;exact .inl ⟨xs,q,r.emp⟩
  | tuple l=>obtain ⟨a,xs,rfl,q,r⟩:=i1.tup_inv;exact .inr (.inl ⟨xs,q,r.emp⟩)
  | dict l=>obtain ⟨a,kvs,rfl,q,m⟩:=i1.dct_inv;exact .inr (.inr ⟨kvs,q,m⟩)
end
section
variable {a b c:Expr}{Wa Wb Wc:WE}{Ta Tb Tc:WT}{pos:Pos}{rest:List Expr}
def wAnd (t u:WT):WT:=fun env Q=>t env fun k e=>if k=true then u e Q else Q false e
def wOr (t u:WT):WT:=fun env Q=>t env fun k e=>if k=true then Q true e else u e Q
def wNot (t:WT):WT:=fun env Q=>t env fun k e=>Q (!k) e
def zabm (ha:VT X a Ta):VW X (.BoolOp .And [a] pos) Ta:=zans ha
def qlg (ha:VT X a Ta):VW X (.BoolOp .Or [a] pos) Ta:=zaqa ha
def zajk (ha:VT X a Ta) (hb:VW X (.BoolOp .And (b::rest) pos) Tb):VW X (.BoolOp .And (a::b::rest) pos) (wAnd Ta Tb):=(zapr ha hb).imp fun σ H R xx68=>by
 obtain ⟨M,env,F,Q,I,h,k⟩:=xx68;refine ⟨M,env,F,_,I,h,fun x F1 H1 e1 I1 s1 h1=>?_⟩;cases x with
 | true=>exact qzp ⟨M,e1,F1,Q,I1,h1,fun y F2 H2 e2 I2 s2 h2=>k y F2 H2 e2 I2 (s1.trans s2) h2⟩
 | false=>exact qyy (k false F1 H1 e1 I1 s1 h1)
def qqg (ha:VT X a Ta) (hb:VW X (.BoolOp .Or (b::rest) pos) Tb):VW X (.BoolOp .Or (a::b::rest) pos) (wOr Ta Tb):=(zasn ha hb).imp fun σ H R xx69=>by
 obtain ⟨M,env,F,Q,I,h,k⟩:=xx69;refine ⟨M,env,F,_,I,h,fun x F1 H1 e1 I1 s1 h1=>?_⟩;cases x with
 | true=>exact qzp (k true F1 H1 e1 I1 s1 h1)
 | false=>exact qyy ⟨M,e1,F1,Q,I1,h1,fun y F2 H2 e2 I2 s2 h2=>k y F2 H2 e2 I2 (s1.trans s2) h2⟩
def qlh (ha:VT X a Ta):VT X (.UnaryOp .Not a pos) (wNot Ta):=(zaoy ha).imp fun σ H R xx70=>by
 obtain ⟨M,env,F,Q,I,h,k⟩:=xx70;exact ⟨M,env,F,_,I,h,fun x F1 H1 e1 I1 s1 h1=>k (!x) F1 H1 e1 I1 s1 h1⟩
def zarz (Wa Wb:WE):WE:=fun env Q=>Wa env fun d e=>match d with | .bool k=>if k=true then Wb e Q else Q (.bool false) e|_=>False
def wOrV (Wa Wb:WE):WE:=fun env Q=>Wa env fun d e=>match d with | .bool k=>if k=true then Q (.bool true) e else Wb e Q|_=>False
def zasw (Wa:WE):WE:=fun env Q=>Wa env fun d e=>match d with | .bool k=>Q (.bool (!k)) e|_=>False
def qlj {op} (h:VE X a Wa):VE X (.BoolOp op [a] pos) Wa:=zapj h
def qok (ha:VE X a Wa) (hb:VE X (.BoolOp .And (b::rest) pos) Wb):VE X (.BoolOp .And (a::b::rest) pos) (zarz Wa Wb):=(zapp ha hb).imp fun σ H R xx71=>by
 obtain ⟨M,env,F,Q,I,h,k⟩:=xx71;refine ⟨M,env,F,_,I,h,fun d v F1 H1 e1 I1 s1 i1 h1=>?_⟩;cases d with
 | bool x =>
  refine ⟨x,i1.bl_inv,?_⟩;cases x with
  | true=>exact qzp ⟨M,e1,F1,Q,I1,h1,fun d2 v2 F2 H2 e2 I2 s2 i2 h2=>k d2 v2 F2 H2 e2 I2 (s1.trans s2) i2 h2⟩
  | false=>exact qyy (k _ _ F1 H1 e1 I1 s1 (qgi false) h1)
 | _=>exact Zd h1
def zasz (ha:VE X a Wa) (hb:VE X (.BoolOp .Or (b::rest) pos) Wb):VE X (.BoolOp .Or (a::b::rest) pos) (wOrV Wa Wb):=(zasv ha hb).imp fun σ H R xx72=>by
 obtain ⟨M,env,F,Q,I,h,k⟩:=xx72;refine ⟨M,env,F,_,I,h,fun d v F1 H1 e1 I1 s1 i1 h1=>?_⟩;cases d with
 | bool x =>
  refine ⟨x,i1.bl_inv,?_⟩;cases x with
  | false=>exact qyy ⟨M,e1,F1,Q,I1,h1,fun d2 v2 F2 H2 e2 I2 s2 i2 h2=>k d2 v2 F2 H2 e2 I2 (s1.trans s2) i2 h2⟩
  | true=>exact qzp (k _ _ F1 H1 e1 I1 s1 (qgi true) h1)
 | _=>exact Zd h1
def zapv (ha:VE X a Wa):VE X (.UnaryOp .Not a pos) (zasw Wa):=(zaqo ha).imp fun σ H R xx73=>by
 obtain ⟨M,env,F,Q,I,h,k⟩:=xx73;refine ⟨M,env,F,_,I,h,fun d v F1 H1 e1 I1 s1 i1 h1=>?_⟩;cases d with
 | bool x=>exact ⟨x,i1.bl_inv,k _ _ F1 H1 e1 I1 s1 (qgi _) h1⟩
 | _=>exact Zd h1
def wIfE (t:WT) (Wa Wb:WE):WE:=fun env Q=>t env fun k e=>if k=true then Wa e Q else Wb e Q
def qej (hc:VT X c Tc) (ha:VE X a Wa) (hb:VE X b Wb):VE X (.IfExp c a b pos) (wIfE Tc Wa Wb):=(zafp hc ha hb).imp fun σ H R xx74=>by
 obtain ⟨M,env,F,Q,I,h,k⟩:=xx74;refine ⟨M,env,F,_,I,h,fun x F1 H1 e1 I1 s1 h1=>?_⟩;cases x with
 | true=>exact qzp ⟨M,e1,F1,Q,I1,h1,fun d2 v2 F2 H2 e2 I2 s2 i2 h2=>k d2 v2 F2 H2 e2 I2 (s1.trans s2) i2 h2⟩
 | false=>exact qyy ⟨M,e1,F1,Q,I1,h1,fun d2 v2 F2 H2 e2 I2 s2 i2 h2=>k d2 v2 F2 H2 e2 I2 (s1.trans s2) i2 h2⟩
end
section
variable {a b:Expr}{Wa Wb:WE}{pos p2:Pos}
def wUn (r:Qh->(Qh->Prop)->Prop) (W:WE):WE:=fun env Q=>W env fun d e=>r d fun y=>Q y e
def dNeg:Qh->(Qh->Prop)->Prop
 | .int i,q=>q (.int (-i))
 | _,_=>False
def qli (ha:VE X a Wa):VE X (.UnaryOp .USub a pos) (wUn dNeg Wa):=(zany zajm ha).imp fun σ H R xx75=>by
 obtain ⟨M,env,F,Q,I,h,k⟩:=xx75;refine ⟨M,env,F,_,I,h,fun d v F1 H1 e1 I1 s1 i1 h1=>?_⟩;cases d with
 | int i=>exact ⟨i,i1.int_inv,k _ _ F1 H1 e1 I1 s1 (qJ _) h1⟩
 | _=>exact Zd h1
def dIx:D2
 | .list l,.int i,q => ∃ d,atI l i=some d/\q d
 | .tuple l,.int i,q => ∃ d,atI l i=some d/\q d
 | _,_,_=>False
def ix_V:IxR X (zajt X.K dIx):=zapx.imp fun x y H Q xx76=>by
 obtain ⟨F,dx,dy,q,s,i1,i2,h,k⟩:=xx76;cases dx with
 | list l=>cases dy with
  | int i =>
   obtain ⟨d,e,hq⟩:=h;obtain ⟨a,xs,rfl,hs,hr⟩:=i1.lst_inv;obtain ⟨z,ez,hz⟩:=hr.atI e;exact .inl ⟨a,xs,i,z,rfl,i2.int_inv,s.seq hs,ez,k d z F H (.refl s) hz hq⟩
  | _=>exact Zd h
 | tuple l=>cases dy with
  | int i =>
   obtain ⟨d,e,hq⟩:=h;obtain ⟨a,xs,rfl,hs,hr⟩:=i1.tup_inv;obtain ⟨z,ez,hz⟩:=hr.atI e;exact .inr (.inl ⟨a,xs,i,z,rfl,i2.int_inv,qU s hs,ez,k d z F H (.refl s) hz hq⟩)
  | _=>exact Zd h
 | _=>exact Zd h
def qv (ha:VE X a Wa) (hb:VE X b Wb) (hs:qvb b:=by exact (fun _ _=>rfl)):VE X (.Subscript a b pos) (wOp dIx Wa Wb):=(qhh ix_V ha hb hs).imp fun _ _ _ h=>qqk h
abbrev WO:=Sto->(Option Int->Sto->Prop)->Prop
def zaso (K:Qd) (W:WO):TO:=fun σ H R => ∃ M env F Q,EnvOk K M F H env σ/\W env Q /\ ∀ o F' H' env',EnvOk K M F' H' env' σ->Same F F'->Q o env'->R o H'
def zaku:WO:=fun env Q=>Q none env
def zati (W:WE):WO:=fun env Q=>W env fun d e=>match d with | .int i=>Q (some i) e|_=>False
def VO (X:Cx) (e:Option Expr) (W:WO):Prop:=PO X e (zaso X.K W)
def PO.imp {e:Option Expr}{t t':TO} (h:PO X e t) (i : ∀ σ H Q,t' σ H Q->t σ H Q):PO X e t':=fun pins s σ H Q I q=>h pins s σ H Q I (i σ H Q q)
def zake:VO X none zaku:=zakv.imp fun σ H R xx77=>by obtain ⟨M,env,F,Q,I,h,k⟩:=xx77;exact k none F H env I (.refl _) h
def qmi (ha:VE X a Wa):VO X (some a) (zati Wa):=(zakw ha).imp fun σ H R xx78=>by
 obtain ⟨M,env,F,Q,I,h,k⟩:=xx78;refine ⟨M,env,F,_,I,h,fun d v F1 H1 e1 I1 s1 i1 h1=>?_⟩;cases d with
 | int i=>exact ⟨i,i1.int_inv,k (some i) F1 H1 e1 I1 s1 h1⟩
 | _=>exact Zd h1
def qxd {α:Type} (ds:List α) (lo hi:Option Int):List α:=(ds.drop (HT.sIx ds.length 0 lo)).take (HT.sIx ds.length ds.length hi-HT.sIx ds.length 0 lo)
def zamm {K:Qd}{H:Hp}{l:List Qh}{xs:List V} (h:Iss K H l xs) (lo hi:Option Int):Iss K H (qxd l lo hi) (cutV xs lo hi):=by
 have e:cutV xs lo hi=(xs.drop (HT.sIx l.length 0 lo)).take (HT.sIx l.length l.length hi-HT.sIx l.length 0 lo):=by unfold cutV;rw [h.len]
 rw [e];exact qqq _ (qqz _ h)
def wSlL (Wa:WE) (Wl Wh:WO):WF:=fun env Q=>Wa env fun d e1=>Wl e1 fun lo e2=>Wh e2 fun hi e3=>match d with | .list l => ∀ r,r=qxd l lo hi->Q r e3|_=>False
def qqr {lo hi:Option Expr}{Wl Wh:WO} (he:VE X a Wa) (hl:VO X lo Wl) (hu:VO X hi Wh):VF X (.Subscript a (.Slice lo hi none p2) pos) (wSlL Wa Wl Wh) :=
 (zagb zala he hl hu).imp fun σ H R xx79=>by
  obtain ⟨M,env,F,Q,I,h,k⟩:=xx79;refine ⟨M,env,F,_,I,h,fun d v F1 H1 e1 I1 s1 i1 h1=>⟨M,e1,F1,_,I1,h1,fun lo F2 H2 e2 I2 s2 h2=>⟨M,e2,F2,_,I2,h2,fun hi F3 H3 e3 I3 s3 h3=>?_⟩⟩⟩;cases d with
  | list l =>
   obtain ⟨a,xs,rfl,hs,hr⟩:=(i1.mono (s2.trans s3)).lst_inv;refine ⟨a,xs,rfl,I3.fh.seq hs,fun p hp=>?_⟩;have g:=Go.side (o:=HO.lst (cutV xs lo hi)) I3.fh hp;refine k p _ _ F3 _ e3 (I3.go g) (s1.trans (s2.trans s3)) ql (qu I3.fh hp) (qu I3.bh hp) (I3.he hp) (fun i m z=>?_) (zamm hr lo hi) (h3 _ rfl);obtain ⟨b,vs,e,q,_⟩:=(I3.slot i).addr m;rw [z] at e;injection e with e;injection e with e;subst e;rw [hp] at q;cases q
  | _=>exact Zd h3
end
def wL (W:WF):WE:=fun env Q=>W env fun ds e=>Q (.list ds) e
def qV {e:Expr}{W:WF} (h:VF X e W):VE X e (wL W):=h.imp fun σ H R xx80=>by
 obtain ⟨M,env,F,Q,I,h,k⟩:=xx80;refine ⟨M,env,F,_,I,h,fun a vs ds F1 H1 e1 I1 s1 h1 h2 h3 h4 h5 h6 h7=>?_⟩;obtain ⟨J,s⟩:=I1.frz h1 h2 h4 h5;exact k _ _ _ H1 e1 J (s1.trans s) (qcv (SqL.of ql) (h6.mono s)) h7
def qnp {K:Qd}{M:Frm}{F H:Hp}{env:Sto}{σ:St} (I:EnvOk K M F H env σ) {p:Addr} (hp:H p=none) : ∀ i,(gS env i).mut=true->vS σ i≠some (.ref p):=fun i m z=>by
 obtain ⟨b,vs,e,q,_⟩:=(I.slot i).addr m;rw [z] at e;injection e with e;injection e with e;subst e;rw [hp] at q;cases q
def qqc {K:Qd}{M:Frm}{F H:Hp}{env:Sto}{σ:St}{R:VK}{Q:List Qh->Sto->Prop}{F0:Hp}{l:List Qh}{xs:List V} (I:EnvOk K M F H env σ) (s:Same F0 F) (hi:Iss K F l xs) (h:Q l env)
 (k : ∀ a vs ds F' H' env',EnvOk K M F' H' env' σ->Same F0 F'->H' a=some (.lst vs)->F' a=none->M.B a=none->M.He a=none->(∀ i,(gS env' i).mut=true->vS σ i≠some (.ref a))->Iss K F' ds vs->Q ds env'->R (.ref a) H') :
 ∀ p,H p=none->R (.ref p) (upd H p (.lst xs)):=fun p hp =>
  k p xs l F _ env (I.go (.side I.fh hp)) s ql (qu I.fh hp) (qu I.bh hp) (I.he hp) (qnp I hp) hi h
section
variable {e:Expr}{es:List Expr}{W:WE}{Wr:WF}{pos:Pos}
def wNil:WF:=fun env Q=>Q [] env
def zasl (W:WE) (Wr:WF):WF:=fun env Q=>W env fun d e1=>Wr e1 fun ds e2=>Q (d::ds) e2
def qe:VA X [] wNil:=qal.imp fun σ H R xx81=>by obtain ⟨M,env,F,Q,I,h,k⟩:=xx81;exact k [] [] F H env I (.refl _) qQ h
def qd (ha:VE X e W) (hr:VA X es Wr) (hs:Qw (e::es) X.env=(false,eval e X.env)::Qw es X.env:=by rfl):VA X (e::es) (zasl W Wr) :=
 (qz ha hr hs).imp fun σ H R xx82=>by obtain ⟨M,env,F,Q,I,h,k⟩:=xx82;exact ⟨M,env,F,_,I,h,fun d v F1 H1 e1 I1 s1 i1 h1=>⟨M,e1,F1,_,I1,h1,fun ds vs F2 H2 e2 I2 s2 i2 h2=>k (d::ds) (v::vs) F2 H2 e2 I2 (s1.trans s2) (qw (i1.mono s2) i2) h2⟩⟩
def wTup (Wr:WF):WE:=fun env Q=>Wr env fun ds e=>ds.length<=Q6/\Q (.tuple ds) e
def qjt {x1} (h:VA X es Wr):VE X (.Tuple es x1 pos) (wTup Wr):=(zaas h).imp fun σ H R xx83=>by
 obtain ⟨M,env,F,Q,I,h,k⟩:=xx83;refine ⟨M,env,F,_,I,h,fun ds vs F1 H1 e1 I1 s1 i1 h1=>⟨by rw [i1.len];exact h1.1,fun p hp=>?_⟩⟩;have g:=Go.put (o:=HO.tup vs) I1.fh hp;exact k _ _ _ _ e1 (I1.go g) (s1.trans g.f) (qoh (SqT.of ql) (i1.mono g.f)) h1.2
def wLst (Wr:WF):WF:=fun env Q=>Wr env fun ds e=>ds.length<=Q6/\Q ds e
def qel (h:VA X es Wr):VF X (.List es pos) (wLst Wr):=(zaar h).imp fun σ H R xx84=>by
 obtain ⟨M,env,F,Q,I,h,k⟩:=xx84;exact ⟨M,env,F,_,I,h,fun ds vs F1 H1 e1 I1 s1 i1 h1=>⟨by rw [i1.len];exact h1.1,qqc I1 s1 i1 h1.2 k⟩⟩
end
end
end
section
section
variable {X:Cx}
def dI2 (g:Int->Int->(Qh->Prop)->Prop):D2
 | .int i,.int j,q=>g i j q
 | _,_,_=>False
def zaoc {g:Int->Int->(Qh->Prop)->Prop}{x y:Qh}{q:Qh->Prop} (h:dI2 g x y q) : ∃ i j,x = .int i/\y = .int j/\g i j q:=by
 cases x with
 | int i=>cases y with
  | int j=>exact ⟨i,j,rfl,rfl,h⟩
  | _=>exact Zd h
 | _=>exact Zd h
def zaew {f:Value->Value->Sem Value}{C:Int->Int->Prop}{g:Int->Int->Qh}{gv:Int->Int->V} (h:OpR X f (rI C gv)) (hg : ∀ i j F,Is X.K F (g i j) (gv i j)):OpV X f (dI2 fun i j q=>C i j/\q (g i j)):=h.imp fun x y H Q xx85=>by
 obtain ⟨F,dx,dy,q,s,i1,i2,h,k⟩:=xx85;obtain ⟨i,j,rfl,rfl,c,hq⟩:=zaoc h;exact ⟨i,j,i1.int_inv,i2.int_inv,c,k _ _ F H (.refl s) (hg i j F) hq⟩
def qwc {f:Value->Value->Sem Value}{g:Int->Int->Qh}{gv:Int->Int->V} (h:OpR X f (rI0 gv)) (hg : ∀ i j F,Is X.K F (g i j) (gv i j)):OpV X f (dI2 fun i j q=>q (g i j)):=h.imp fun x y H Q xx86=>by
 obtain ⟨F,dx,dy,q,s,i1,i2,h,k⟩:=xx86;obtain ⟨i,j,rfl,rfl,hq⟩:=zaoc h;exact ⟨i,j,i1.int_inv,i2.int_inv,k _ _ F H (.refl s) (hg i j F) hq⟩
abbrev dSub:D2:=dI2 fun i j q=>q (.int (i-j))
abbrev zasm:D2:=dI2 fun i j q=>IntMulOk i j/\q (.int (i*j))
abbrev zats:D2:=dI2 fun i j q=>zaoj i j/\q (.int (i.fdiv j))
abbrev dDiv:D2:=dI2 fun i j q=>(0<j/\Qbj j<=9000)/\q (.int (i/j))
abbrev dMod:D2:=dI2 fun i j q=>0<j/\q (.int (i%j))
abbrev dLt:D2:=dI2 fun i j q=>q (.bool (decide (i<j)))
abbrev dGt:D2:=dI2 fun i j q=>q (.bool (decide (j<i)))
abbrev dGe:D2:=dI2 fun i j q=>q (.bool (decide (j<=i)))
def qvy:OpV X (Je .Sub) dSub:=qwc zaqc fun _ _ _=>qJ _
def qbk:OpV X (Je .Mult) zasm:=zaew zamx fun _ _ _=>qJ _
def zaix:OpV X (Je .FloorDiv) zats:=zaew qxf fun _ _ _=>qJ _
def zakg:OpR X (Je .FloorDiv) (rI (fun _ j=>0<j/\Qbj j<=9000) fun i j => .int (i/j)):=qxf.imp fun x y H Q xx87=>by
 obtain ⟨i,j,e1,e2,c,q⟩:=xx87;exact ⟨i,j,e1,e2,⟨by have:=c.1;omega,c.2⟩,by show Q (V.int (i.fdiv j)) H;rw [Int.fdiv_eq_ediv_of_nonneg _ (Vu c.1)];exact q⟩
def qgu:OpV X (Je .FloorDiv) dDiv:=zaew zakg fun _ _ _=>qJ _
def qiu:OpV X (Je .Mod) dMod:=zaew zaow fun _ _ _=>qJ _
def o_lt:OpV X (Vc .Lt) dLt:=qwc zatr fun _ _ _=>qgi _
def quk:OpV X (Vc .Gt) dGt:=qwc zars fun _ _ _=>qgi _
def o_ge:OpV X (Vc .GtE) dGe:=qwc zatw fun _ _ _=>qgi _
def dEq:D2:=fun d e q=>Jd d=true/\Jd e=true/\q (.bool (Y3 d e))
def dNe:D2:=fun d e q=>Jd d=true/\Jd e=true/\q (.bool (!PyData.eqv d e))
def qmf (hu:X.A.units+64<cLine):OpV X (Vc .Eq) dEq:=(zapt hu).imp fun x y H Q xx88=>by
 obtain ⟨F,dx,dy,q,s,i1,i2,h,k⟩:=xx88;exact ⟨dx,dy,i1.mono s,i2.mono s,h.1,h.2.1,k _ _ F H (.refl s) (qgi _) h.2.2⟩
def o_ne (hu:X.A.units+64<cLine):OpV X (Vc .NotEq) dNe:=(zaqu hu).imp fun x y H Q xx89=>by
 obtain ⟨F,dx,dy,q,s,i1,i2,h,k⟩:=xx89;exact ⟨dx,dy,i1.mono s,i2.mono s,h.1,h.2.1,k _ _ F H (.refl s) (qgi _) h.2.2⟩
def qvi:Qh->Bool
 | .none=>true
 | _=>false
def dIsN:D2:=fun d e q=>e = .none/\q (.bool (qvi d))
def qwq {K:Qd}{F:Hp}{d:Qh}{x:V} (h:Is K F d x):decide (x = .non)=qvi d:=by
 cases d with
 | none=>rw [h.non_inv];rfl
 | bool b=>rw [h.bl_inv];rfl
 | int b=>rw [h.int_inv];rfl
 | str b=>unfold Is at h;rw [h];rfl
 | list l=>obtain ⟨a,xs,rfl,_⟩:=h.lst_inv;rfl
 | tuple l=>obtain ⟨a,xs,rfl,_⟩:=h.tup_inv;rfl
 | dict l=>obtain ⟨a,xs,rfl,_⟩:=h.dct_inv;rfl
def zaok:OpV X (Vc .Is) dIsN:=zaqf.imp fun x y H Q xx90=>by
 obtain ⟨F,dx,dy,q,s,i1,i2,h,k⟩:=xx90;obtain ⟨rfl,hq⟩:=h;exact ⟨i2.non_inv,by rw [qwq i1];exact k _ _ F H (.refl s) (qgi _) hq⟩
def dAdd:D2
 | .int i,.int j,q=>q (.int (i+j))
 | .list l,.list m,q=>l.length+m.length<=Q6/\q (.list (l++m))
 | .tuple l,.tuple m,q=>l≠[]/\l.length+m.length<=Q6/\q (.tuple (l++m))
 | .str x,.str y,q=>x.length+y.length<=Q6/\q (.str (x++y))
 | _,_,_=>False
def qec:OpV X (Je .Add) dAdd:=by
 rintro pins s σ H x y v u Q I rx ry ⟨F,dx,dy,q,sm,i1,i2,h,k⟩;cases dx with
 | int i=>cases dy with
  | int j=>exact zarg pins s σ H x y v u Q I rx ry ⟨i,j,i1.int_inv,i2.int_inv,k _ _ F H (.refl sm) (qJ _) h⟩
  | _=>exact Zd h
 | list l=>cases dy with
  | list m =>
   obtain ⟨a,xs,rfl,hs,hr⟩:=i1.lst_inv;obtain ⟨b,ys,rfl,ht,hq⟩:=i2.lst_inv;refine zaci pins s σ H _ _ v u Q I rx ry ⟨a,b,xs,ys,rfl,rfl,sm.seq hs,sm.seq ht,by rw [hr.len,hq.len];exact h.1,fun p hp=>?_⟩;have g:=Go.put (o:=HO.lst (xs++ys)) sm hp;exact k _ _ _ _ g (qcv (SqL.of ql) ((qaz hr hq).mono g.f)) h.2
  | _=>exact Zd h
 | tuple l=>cases dy with
  | tuple m =>
   obtain ⟨a,xs,rfl,hs,hr⟩:=i1.tup_inv;obtain ⟨b,ys,rfl,ht,hq⟩:=i2.tup_inv;refine zamv pins s σ H _ _ v u Q I rx ry ⟨a,b,xs,ys,rfl,rfl,qU sm hs,qU sm ht,fun z=>h.1 (J4.mp (by rw [<- hr.len,z];rfl)),by rw [hr.len,hq.len];exact h.2.1,fun z=>?_,fun _ p hp=>?_⟩
   ·have hm:m=[]:=J4.mp (by rw [<- hq.len,z];rfl);subst hm;refine k _ _ F H (.refl sm) i1 ?_;have:=h.2.2;rw [Ve] at this;exact this
   ·have g:=Go.put (o:=HO.tup (xs++ys)) sm hp;exact k _ _ _ _ g (qoh (SqT.of ql) ((qaz hr hq).mono g.f)) h.2.2
  | _=>exact Zd h
 | str x0=>cases dy with
  | str y0 =>
   unfold Is at i1 i2;exact qyz pins s σ H x y v u Q I rx ry ⟨x0,y0,i1,i2,h.1,k _ _ F H (.refl sm) (zaak _) h.2⟩
  | _=>exact Zd h
 | _=>exact Zd h
def wCat (Wa Wb:WE):WF:=fun env Q=>Wa env fun x e1=>Wb e1 fun y e2=>match x,y with
 | .list l,.list m=>l.length+m.length<=Q6/\Q (l++m) e2
 | _,_=>False
def qrw {a b:Expr}{Wa Wb:WE}{pos:Pos} (ha:VE X a Wa) (hb:VE X b Wb):VF X (.BinOp a .Add b pos) (wCat Wa Wb):=(zaoo zaci ha hb).imp fun σ H R xx91=>by
 obtain ⟨M,env,F,Q,I,h,k⟩:=xx91;refine ⟨M,env,F,_,I,h,fun d v F1 H1 e1 I1 s1 i1 h1=>⟨M,e1,F1,_,I1,h1,fun d2 v2 F2 H2 e2 I2 s2 i2 h2=>?_⟩⟩;cases d with
 | list l=>cases d2 with
  | list m =>
   obtain ⟨a,xs,rfl,hs,hr⟩:=(i1.mono s2).lst_inv;obtain ⟨b,ys,rfl,ht,hq⟩:=i2.lst_inv;exact ⟨a,b,xs,ys,rfl,rfl,I2.fh.seq hs,I2.fh.seq ht,by rw [hr.len,hq.len];exact h2.1,qqc I2 (s1.trans s2) (qaz hr hq) h2.2 k⟩
  | _=>exact Zd h2
 | _=>exact Zd h2
section
variable {x:Str}{p pos:Pos}{e:Expr}{es:List Expr}{Wr:WF}{id T:String}{r:DC}{rf:List Qh->(List Qh->Prop)->Prop}
def qzb (r:DC) (Wr:WF):WE:=fun env Q=>Wr env fun ds e=>r ds fun d=>Q d e
def qvr (r:List Qh->(List Qh->Prop)->Prop) (Wr:WF):WF:=fun env Q=>Wr env fun ds e=>r ds fun l=>Q l e
def qmw {σ:St}{H:Hp}{R:VK} (h:qfr X.K (qzb r Wr) σ H R):qgv X.K Wr σ H fun vs H1=>zaev X.K r vs H1 R:=by
 obtain ⟨M,env,F,Q,I,h,k⟩:=h;exact ⟨M,env,F,_,I,h,fun ds vs F1 H1 e1 I1 s1 i1 h1=>⟨F1,ds,_,I1.fh,i1,h1,fun d v F2 H2 g i2 q=>k d v F2 H2 e1 (I1.go g) (s1.trans g.f) i2 q⟩⟩
def qkd {σ:St}{H:Hp}{R:VK} (h:qob X.K (qvr rf Wr) σ H R):qgv X.K Wr σ H fun vs H1=>qvx X.K rf vs H1 R:=by
 obtain ⟨M,env,F,Q,I,h,k⟩:=h;refine ⟨M,env,F,_,I,h,fun ds vs F1 H1 e1 I1 s1 i1 h1=>⟨F1,ds,_,I1.fh,i1,h1,fun l a xs F2 H2 g ha hf hh hi q=>?_⟩⟩;exact k a xs l F2 H2 e1 (I1.go g) (s1.trans g.f) hh hf (qu I1.bh ha) (I1.he ha) (qnp I1 ha) hi q
def qx (hc:qof X (.builtin id) r) (hm:X.mg x=none) (hv:Zv x=some (.builtin id)) (ha:VA X (e::es) Wr) (hg:Gl X x:=by rfl) (hn:x ≠ "__name__":=by decide) (hdb:Nd0 x:=by decide)
 (he:Qw (e::es) X.env=(false,eval e X.env)::Qw es X.env:=by rfl) (hpl:(Vl pos (Qw es X.env)).any (·.1)=false:=by rfl):VE X (.Call (.Name x p) (e::es) [] pos) (qzb r Wr) :=
 (qip hc hg hm hv ha hn hdb he hpl).imp fun _ _ _ h=>qmw h
def qbp (hc:qof X (.type T) r) (hm:X.mg x=none) (hv:Zv x=some (.type T)) (ha:VA X (e::es) Wr) (hg:Gl X x:=by rfl) (hn:x ≠ "__name__":=by decide) (hdb:Nd0 x:=by decide)
 (he:Qw (e::es) X.env=(false,eval e X.env)::Qw es X.env:=by rfl) (hpl:(Vl pos (Qw es X.env)).any (·.1)=false:=by rfl):VE X (.Call (.Name x p) (e::es) [] pos) (qzb r Wr) :=
 (qgj hc hg hm hv ha hn hdb he hpl).imp fun _ _ _ h=>qmw h
def zahg (hc:qrz X (.builtin id) rf) (hm:X.mg x=none) (hv:Zv x=some (.builtin id)) (ha:VA X (e::es) Wr) (hg:Gl X x:=by rfl) (hn:x ≠ "__name__":=by decide) (hdb:Nd0 x:=by decide)
 (he:Qw (e::es) X.env=(false,eval e X.env)::Qw es X.env:=by rfl) (hpl:(Vl pos (Qw es X.env)).any (·.1)=false:=by rfl):VF X (.Call (.Name x p) (e::es) [] pos) (qvr rf Wr) :=
 (qip hc hg hm hv ha hn hdb he hpl).imp fun _ _ _ h=>qkd h
def qmk (hc:qrz X (.type T) rf) (hm:X.mg x=none) (hv:Zv x=some (.type T)) (ha:VA X (e::es) Wr) (hg:Gl X x:=by rfl) (hn:x ≠ "__name__":=by decide) (hdb:Nd0 x:=by decide)
 (he:Qw (e::es) X.env=(false,eval e X.env)::Qw es X.env:=by rfl) (hpl:(Vl pos (Qw es X.env)).any (·.1)=false:=by rfl):VF X (.Call (.Name x p) (e::es) [] pos) (qvr rf Wr) :=
 (qgj hc hg hm hv ha hn hdb he hpl).imp fun _ _ _ h=>qkd h
def PSp (K:Qd) (sp:DC):Sp:=fun vs H Q _=>zaev K sp vs H Q
def FSp (K:Qd) (sp:List Qh->(List Qh->Prop)->Prop):Sp:=fun vs H Q _=>qvx K sp vs H Q
def qB {k:Nat}{ps:List Str}{sp:DC} (O:Ok X.prog X.w X.K X.mg X.base x k ps (PSp X.K sp)) (hr:Room k X.A) (ha:VA X (e::es) Wr) (hg:Gl X x:=by rfl) (hdb:Nd0 x:=by decide)
 (he:Qw (e::es) X.env=(false,eval e X.env)::Qw es X.env:=by rfl) (hpl:(Vl pos (Qw es X.env)).any (·.1)=false:=by rfl):VE X (.Call (.Name x p) (e::es) [] pos) (qzb sp Wr) :=
 (qoc O hr ha hg hdb he hpl).imp fun σ H R h=>by
  have e:qlq (PSp X.K sp) [] E0 (qgv X.K Wr) σ H R=qgv X.K Wr σ H fun vs H1=>zaev X.K sp vs H1 R:=by unfold qlq PSp;simp only [Ve]
  rw [e];exact qmw h
def qkf {k:Nat}{ps:List Str}{sp:List Qh->(List Qh->Prop)->Prop} (O:Ok X.prog X.w X.K X.mg X.base x k ps (FSp X.K sp)) (hr:Room k X.A) (ha:VA X (e::es) Wr) (hg:Gl X x:=by rfl) (hdb:Nd0 x:=by decide)
 (he:Qw (e::es) X.env=(false,eval e X.env)::Qw es X.env:=by rfl) (hpl:(Vl pos (Qw es X.env)).any (·.1)=false:=by rfl):VF X (.Call (.Name x p) (e::es) [] pos) (qvr sp Wr) :=
 (qoc O hr ha hg hdb he hpl).imp fun σ H R h=>by
  have e:qlq (FSp X.K sp) [] E0 (qgv X.K Wr) σ H R=qgv X.K Wr σ H fun vs H1=>qvx X.K sp vs H1 R:=by unfold qlq FSp;simp only [Ve]
  rw [e];exact qkd h
end
def dAbs:DC
 | [.int i],q=>q (.int (if i<0 then -i else i))
 | _,_=>False
def zatp:DC
 | [.int i],q=>q (.int i)
 | [.bool b],q=>q (.int (if b then 1 else 0))
 | _,_=>False
def dLen:DC
 | [.list l],q=>q (.int l.length)
 | [.tuple l],q=>q (.int l.length)
 | [.str x],q=>x.length<=Q6/\q (.int x.length)
 | _,_=>False
def qkt {K:Qd}{H:Hp}{d:Qh}{vs:List V} (h:Iss K H [d] vs) : ∃ v,vs=[v]/\Is K H d v:=by
 obtain ⟨x,r,rfl,p,q⟩:=h.cons_inv;rw [q.nil_inv];exact ⟨x,rfl,p⟩
def iss2 {K:Qd}{H:Hp}{d e:Qh}{vs:List V} (h:Iss K H [d,e] vs) : ∃ v u,vs=[v,u]/\Is K H d v/\Is K H e u:=by
 obtain ⟨x,r,rfl,p,q⟩:=h.cons_inv;obtain ⟨y,rfl,q'⟩:=qkt q;exact ⟨x,y,rfl,p,q'⟩
def zajr:qof X (.builtin "abs") dAbs:=zafl.imp fun xs H Q xx92=>by
 obtain ⟨F,ds,q,s,i,h,k⟩:=xx92
 match ds,h,i with
 | [.int n],h,i =>
  obtain ⟨v,rfl,j⟩:=qkt i;exact ⟨n,by rw [j.int_inv],k _ _ F H (.refl s) (qJ _) h⟩
def zasb:qof X (.type "int") zatp:=zaem.imp fun xs H Q xx93=>by
 obtain ⟨F,ds,q,s,i,h,k⟩:=xx93
 match ds,h,i with
 | [.int n],h,i =>
  obtain ⟨v,rfl,j⟩:=qkt i;exact .inl ⟨n,by rw [j.int_inv],k _ _ F H (.refl s) (qJ _) h⟩
 | [.bool n],h,i =>
  obtain ⟨v,rfl,j⟩:=qkt i;exact .inr ⟨n,by rw [j.bl_inv],k _ _ F H (.refl s) (qJ _) h⟩
def qcf:qof X (.builtin "len") dLen:=(qgo.or quc).imp fun xs H Q xx94=>by
 obtain ⟨F,ds,q,s,i,h,k⟩:=xx94
 match ds,h,i with
 | [.list l],h,i =>
  obtain ⟨v,rfl,j⟩:=qkt i;obtain ⟨a,xs,rfl,hs,hr⟩:=j.lst_inv;exact .inl ⟨a,xs,rfl,.inl (s.seq hs),k _ _ F H (.refl s) (by rw [hr.len];exact qJ _) h⟩
 | [.tuple l],h,i =>
  obtain ⟨v,rfl,j⟩:=qkt i;obtain ⟨a,xs,rfl,hs,hr⟩:=j.tup_inv;exact .inl ⟨a,xs,rfl,.inr (qU s hs),k _ _ F H (.refl s) (by rw [hr.len];exact qJ _) h⟩
 | [.str z],h,i =>
  obtain ⟨v,rfl,j⟩:=qkt i;unfold Is at j;subst j;exact .inr ⟨z,rfl,h.1,k _ _ F H (.refl s) (qJ _) h.2⟩
def zaqb:List Qh->(List Qh->Prop)->Prop
 | [.list l],q=>q l
 | [.tuple l],q=>q l
 | _,_=>False
def zaat:qrz X (.type "list") zaqb:=qua.imp fun xs H Q xx95=>by
 obtain ⟨F,ds,q,s,i,h,k⟩:=xx95
 match ds,h,i with
 | [.list l],h,i =>
  obtain ⟨v,rfl,j⟩:=qkt i;obtain ⟨a,xs,rfl,hs,hr⟩:=j.lst_inv;exact ⟨a,xs,rfl,.inl (s.seq hs),fun p hp=>k l p xs F _ (.side s hp) hp (qu s hp) ql hr h⟩
 | [.tuple l],h,i =>
  obtain ⟨v,rfl,j⟩:=qkt i;obtain ⟨a,xs,rfl,hs,hr⟩:=j.tup_inv;exact ⟨a,xs,rfl,.inr (qU s hs),fun p hp=>k l p xs F _ (.side s hp) hp (qu s hp) ql hr h⟩
def zapb:DC
 | [.list l],q=>q (.tuple l)
 | [.tuple l],q=>q (.tuple l)
 | _,_=>False
def qfg:qof X (.type "tuple") zapb:=qjp.imp fun xs H Q xx96=>by
 obtain ⟨F,ds,q,s,i,h,k⟩:=xx96
 match ds,h,i with
 | [.list l],h,i =>
  obtain ⟨v,rfl,j⟩:=qkt i;obtain ⟨a,xs,rfl,hs,hr⟩:=j.lst_inv;refine ⟨a,xs,rfl,.inl ⟨s.seq hs,fun p hp=>?_⟩⟩;have g:=Go.put (o:=HO.tup xs) s hp;exact k _ _ _ _ g (qoh (SqT.of ql) (hr.mono g.f)) h
 | [.tuple l],h,i =>
  obtain ⟨v,rfl,j⟩:=qkt i;obtain ⟨a,xs,rfl,hs,hr⟩:=j.tup_inv;exact ⟨a,xs,rfl,.inr ⟨qU s hs,k _ _ F H (.refl s) j h⟩⟩
end
end
section
section
variable {X:Cx}
section
variable {a b c e o:Expr}{W Wa Wb:WE}{Tc:WT}{pos pos':Pos}{st:Stmt}{sts rest:List Stmt}{Wt Wu:WS}{WfF:WF}
def zatk:WS:=fun D env=>D.nx env
def wSeq (t u:WS):WS:=fun D env=>t { D with nx:=u D } env
def wMid (t u:WS):WS:=fun D env => ∃ Md:Sto->Prop,t { D with nx:=Md } env /\ ∀ e,Md e->u D e
def zapm:WS:=fun _ _=>False
def qW:VSs X [] zatk:=qvo.imp fun D σ H xx97=>by obtain ⟨M,env,F,DD,I,h,k⟩:=xx97;exact k.nx env F H σ I (.refl _) h
def qj (h:VS X st Wt):VSs X [st] Wt:=qeh h
def qg (h1:VS X st Wt) (h2:VSs X rest Wu):VSs X (st::rest) (wSeq Wt Wu):=(qF h1 h2).imp fun D σ H xx98=>by
 obtain ⟨M,env,F,DD,I,h,k⟩:=xx98;exact ⟨M,env,F,{ DD with nx:=Wu DD },I,h,fun e' F' H' σ' I' s' h'=>⟨M,e',F',DD,I',h',k.mono s'⟩,k.rt,k.bk,k.ct⟩
def qek (h1:VS X st Wt) (h2:VSs X rest Wu):VSs X (st::rest) (wMid Wt Wu):=(qF h1 h2).imp fun D σ H xx99=>by
 obtain ⟨M,env,F,DD,I,⟨Md,h,hm⟩,k⟩:=xx99;exact ⟨M,env,F,{ DD with nx:=Md },I,h,fun e' F' H' σ' I' s' h'=>⟨M,e',F',DD,I',hm e' h',k.mono s'⟩,k.rt,k.bk,k.ct⟩
def qgl:VSs X sts zapm:=zaeq.imp fun D σ H xx100=>by obtain ⟨M,env,F,DD,I,h,k⟩:=xx100;exact h.elim
def wFz (i:Nat) (t:WS):WS:=fun D env=>t D (env.set i (gS env i).fz)
def qkz (i:Nat) (h:VSs X sts Wt):VSs X sts (wFz i Wt):=h.imp fun D σ H xx101=>by
 obtain ⟨M,env,F,DD,I,h,k⟩:=xx101;obtain ⟨F',J,s⟩:=I.freeze i;exact ⟨M,_,F',DD,J,h,k.mono s⟩
def zasu (W:WE):WS:=fun D env=>W env fun _ e=>D.nx e
def qqi (he:VE X e W) (hs:Jf e none pos.line X.env=pure false:=by rfl):VS X (.Expr e pos) (zasu W):=(qhq he hs).imp fun D σ H xx102=>by
 obtain ⟨M,env,F,DD,I,h,k⟩:=xx102;exact ⟨M,env,F,_,I,h,fun d v F1 H1 e1 I1 s1 i1 h1=>k.nx e1 F1 H1 σ I1 s1 h1⟩
def wRet (W:WE):WS:=fun D env=>W env fun d e=>D.rt (.val d) e
def qC (he:VE X e W):VS X (.Return (some e) pos) (wRet W):=(qji he).imp fun D σ H xx103=>by
 obtain ⟨M,env,F,DD,I,h,k⟩:=xx103;exact ⟨M,env,F,_,I,h,fun d v F1 H1 e1 I1 s1 i1 h1=>k.rt (.val d) v e1 F1 H1 σ I1 s1 i1 h1⟩
def zatg (W:WF):WS:=fun D env=>W env fun l e=>D.rt (.own l) e
def qfl (he:VF X e WfF):VS X (.Return (some e) pos) (zatg WfF):=(qji he).imp fun D σ H xx104=>by
 obtain ⟨M,env,F,DD,I,h,k⟩:=xx104;exact ⟨M,env,F,_,I,h,fun p vs l F1 H1 e1 I1 s1 g1 g2 g3 g4 g5 g6 h1=>k.rt (.own l) _ e1 F1 H1 σ I1 s1 ⟨p,vs,rfl,g1,g2,g3,g4,g6⟩ h1⟩
def zanw (i:Nat):WS:=fun D env=>match gS env i with | .own ds=>D.rt (.own ds) env|_=>False
def quw (i:Nat) {x:Str}{px:Pos} (hN:X.N[i]?=some x:=by rfl) (hv:Vis X.env.scope x:=by first|exact Yy rfl|exact Z6 (Yy rfl)|exact Z6 (Z6 rfl)) (hd:Nd0 x:=by decide)
 (hcd:Nd1 x:=by decide):VS X (.Return (some (.Name x px)) pos) (zanw i):=(qji (qcx hN hv hd hcd)).imp fun D σ H xx105=>by
 obtain ⟨M,env,F,DD,I,h,k⟩:=xx105;have S:=I.slot i;unfold zanw at h;cases q:gS env i with
 | own ds =>
  rw [q] at S h;obtain ⟨p,vs,e,g1,g2,g3,g4,g5⟩:=S;exact ⟨_,qcj e,k.rt (.own ds) _ env F H σ I (.refl _) ⟨p,vs,rfl,g1,g2,g3,g4,g5⟩ h⟩
 | non=>rw [q] at h;exact h.elim
 | val d=>rw [q] at h;exact h.elim
 | pen ds=>rw [q] at h;exact h.elim
 | new d=>rw [q] at h;exact h.elim
 | exc C=>rw [q] at h;exact h.elim
 | obj a0 C nm fs=>rw [q] at h;exact h.elim
def wIf (Tc:WT) (t u:WS):WS:=fun D env=>Tc env fun k e=>if k=true then t D e else u D e
def qcm {A B:List Stmt} (hc:VT X c Tc) (ha:VSs X A Wt) (hb:VSs X B Wu):VS X (.If c A B pos) (wIf Tc Wt Wu):=(zajs hc ha hb).imp fun D σ H xx106=>by
 obtain ⟨M,env,F,DD,I,h,k⟩:=xx106;refine ⟨M,env,F,_,I,h,fun x F1 H1 e1 I1 s1 h1=>?_⟩;cases x with
 | true=>exact qzp ⟨M,e1,F1,DD,I1,h1,k.mono s1⟩
 | false=>exact qyy ⟨M,e1,F1,DD,I1,h1,k.mono s1⟩
def wSet (i:Nat) (W:WE):WS:=fun D env=>W env fun d e=>D.nx (e.set i (.val d))
def qt {i:Nat}{x:Str} (hN:X.N.Nodup) (he:VE X e W) (hi:X.N[i]?=some x:=by rfl) (hx:Loc X.env.scope x:=by first|exact Yy rfl|exact Z6 rfl) (hs:Jf e (some (.Name x pos')) pos.line X.env=pure false:=by rfl)
 (hf:X.fn x=true\/X.env.scope.names.lookup x=some .local:=by first|exact .inl rfl|exact .inr rfl):VS X (.Assign [.Name x pos'] e pos) (wSet i W):=(qdx hN hi hx he hs hf).imp fun D σ H xx107=>by
 obtain ⟨M,env,F,DD,I,h,k⟩:=xx107;exact ⟨M,env,F,_,I,h,fun d v F1 H1 e1 I1 s1 i1 h1=>k.nx _ F1 H1 _ (I1.setv i1) s1 h1⟩
def zaos (i:Nat) (W:WF):WS:=fun D env=>W env fun l e=>D.nx (e.set i (.own l))
def qho {i:Nat}{x:Str} (hN:X.N.Nodup) (he:VF X e WfF) (hi:X.N[i]?=some x:=by rfl) (hx:Loc X.env.scope x:=by first|exact Yy rfl|exact Z6 rfl) (hs:Jf e (some (.Name x pos')) pos.line X.env=pure false:=by rfl)
 (hf:X.fn x=true\/X.env.scope.names.lookup x=some .local:=by first|exact .inl rfl|exact .inr rfl):VS X (.Assign [.Name x pos'] e pos) (zaos i WfF):=(qdx hN hi hx he hs hf).imp fun D σ H xx108=>by
 obtain ⟨M,env,F,DD,I,h,k⟩:=xx108;exact ⟨M,env,F,_,I,h,fun p vs l F1 H1 e1 I1 s1 g1 g2 g3 g4 g5 g6 h1=>k.nx _ F1 H1 _ (I1.seto g1 g2 g3 g4 g5 g6) s1 h1⟩
def zaph (i:Nat):WG:=fun d env Q=>Q (env.set i (.val d))
def qp {i:Nat}{x:Str} (hN:X.N.Nodup) (hi:X.N[i]?=some x:=by rfl) (hx:Loc X.env.scope x:=by first|exact Yy rfl|exact Z6 rfl) (hf:X.fn x=true\/X.env.scope.names.lookup x=some .local:=by first|exact .inl rfl|exact .inr rfl):VG X (.Name x pos) (zaph i) :=
 (qvn hN hi hx hf).imp fun v σ H R xx109=>by obtain ⟨M,env,F,d,Q,I,j,h,k⟩:=xx109;exact k F H _ _ (I.setv j) (.refl _) h
def zase:WGs:=fun ds env Q=>ds=[]/\Q env
def zaqi (G:WG) (Gs:WGs):WGs:=fun ds env Q=>match ds with|[]=>False|d::r=>G d env fun e=>Gs r e Q
def qfk:VGs X [] zase:=zakb.imp fun v σ H R xx110=>by
 obtain ⟨M,env,F,ds,Q,I,j,h,k⟩:=xx110;obtain ⟨rfl,h⟩:=h;exact ⟨j.nil_inv,k F H env σ I (.refl _) h⟩
def qad {es:List Expr}{G:WG}{Gs:WGs} (h1:VG X e G) (h2:VGs X es Gs) (hs:(Qab (e::es) X.env).map (·.2)=Qgs e X.env::(Qab es X.env).map (·.2):=by rfl):VGs X (e::es) (zaqi G Gs) :=
 (zahm h1 h2 hs).imp fun v σ H R xx111=>by
  obtain ⟨M,env,F,ds,Q,I,j,h,k⟩:=xx111;cases ds with
  | nil=>exact Zd h
  | cons d r =>
   obtain ⟨x,xs,rfl,j1,j2⟩:=j.cons_inv;exact ⟨x,xs,rfl,M,env,F,d,_,I,j1,h,fun F1 H1 e1 σ1 I1 s1 q1=>⟨M,e1,F1,r,Q,I1,j2.mono s1,q1,fun F2 H2 e2 σ2 I2 s2 q2=>k F2 H2 e2 σ2 I2 (s1.trans s2) q2⟩⟩
def zaty (n:Nat) (Gs:WGs):WG:=fun d env Q=>match d with | .tuple l=>l.length=n/\Gs l env Q|_=>False
def qhv {es:List Expr}{kk n:Nat}{Gs:WGs} (hc:X.calm=true) (h:VGs X es Gs) (hn:(Qab es X.env).length=n:=by rfl) (hst:(Qab es X.env).findIdx? (·.1)=none:=by rfl):VG X (.Tuple es kk pos) (zaty n Gs) :=
 (zaps hc h hn hst).imp fun v σ H R xx112=>by
  obtain ⟨M,env,F,d,Q,I,j,h,k⟩:=xx112;cases d with
  | tuple l =>
   obtain ⟨a,xs,rfl,hs,hr⟩:=j.tup_inv;exact ⟨a,xs,rfl,qU I.fh hs,by rw [hr.len];exact h.1,M,env,F,l,Q,I,hr,h.2,k⟩
  | _=>exact Zd h
def wApp (i:Nat) (W:WE):WS:=fun D env=>(gS env i).mut=true/\W env fun d e=>(gS e i).mut=true/\(gS e i).cnt.length<Q6/\D.nx (e.set i ((gS e i).upd ((gS e i).cnt++[d])))
def qmp (i:Nat) {x:Str}{px apos cpos:Pos} (he:VE X e W) (hN:X.N[i]?=some x:=by rfl) (hv:Vis X.env.scope x:=by first|exact Yy rfl|exact Z6 (Yy rfl)|exact Z6 (Z6 rfl)) (hd:Nd0 x:=by decide)
 (hcd:Nd1 x:=by decide)
 (hbase:Vt (.Name x px) "append" X.env (eval (.Name x px) X.env)=eval (.Name x px) X.env:=by rfl)
 (hfew:((Vl cpos (Qw [e] X.env)).all (fun x => !x.1)&&(Qct cpos (Jh [] X.env)).all (fun x=>x.1.isSome)
  && decide ([e].length+([]:List Qaz).length+(if ([]:List Qaz).isEmpty then 0 else 1)<30))=true:=by rfl)
 (hline:(apos.endLine==cpos.line)=true:=by rfl) (hst:Qw [e] X.env=(false,eval e X.env)::Qw [] X.env:=by rfl) (hplain:(Vl cpos (Qw [] X.env)).any (·.1)=false:=by rfl)
 (hs:Jf (.Call (.Attribute (.Name x px) "append" apos) [e] [] cpos) none pos.line X.env=pure false:=by rfl):VS X (.Expr (.Call (.Attribute (.Name x px) "append" apos) [e] [] cpos) pos) (wApp i W) :=
 (qhq (qsm (qcx hN hv hd hcd) he hbase hfew hline hst hplain) hs).imp fun D σ H xx113=>by
  obtain ⟨M,env,F,DD,I,⟨hm,h⟩,k⟩:=xx113;obtain ⟨p,vs,ep,g1,g2,g3,g4⟩:=(I.slot i).addr hm;refine ⟨_,qcj ep,.inl ⟨rfl,_,SqL.of g1⟩,M,env,F,_,I,h,fun d v F1 H1 e1 I1 s1 i1 h1=>?_⟩;obtain ⟨m1,z1,q1⟩:=h1;obtain ⟨p',vs1,ep',f1,f2,f3,f4⟩:=(I1.slot i).addr m1;rw [ep] at ep';injection ep' with ep';injection ep' with ep';subst ep';exact ⟨p,vs1,v,rfl,rfl,f1,by rw [f4.len];exact z1,k.nx _ F1 _ σ (I1.chg m1 ep (qaz f4 (qw i1 qQ))) s1 q1⟩
def wPut (i:Nat) (W Wj:WE):WS:=fun D env=>W env fun d e1=>(gS e1 i).mut=true/\Wj e1 fun y e2=>match y with
 | .int n=>(gS e2 i).mut=true /\ ∃ j,ixN (gS e2 i).cnt.length n=some j/\D.nx (e2.set i ((gS e2 i).upd ((gS e2 i).cnt.set j d)))
 | _=>False
def zacc {K:Qd}{H:Hp}{d:Qh}{v:V} (h:Is K H d v) : ∀ {l:List Qh}{xs:List V} (j:Nat),Iss K H l xs->Iss K H (l.set j d) (xs.set j v)
 | [],_,j,r=>by rw [r.nil_inv];simpa using qQ
 | x::l,_,0,r=>by obtain ⟨y,ys,rfl,p,q⟩:=r.cons_inv;exact qw h q
 | x::l,_,j+1,r=>by obtain ⟨y,ys,rfl,p,q⟩:=r.cons_inv;exact qw p (zacc h j q)
def qhx (i:Nat) {x:Str}{px:Pos} (he:VE X e W) (hj:VE X b Wb) (hN:X.N[i]?=some x:=by rfl) (hv:Vis X.env.scope x:=by first|exact Yy rfl|exact Z6 (Yy rfl)|exact Z6 (Z6 rfl)) (hd:Nd0 x:=by decide)
 (hcd:Nd1 x:=by decide)
 (ha : ∀ v,Qgs (.Subscript (.Name x px) b pos') X.env v=(do
  let ov <- Qdd [v] (eval (.Name x px) X.env)
  let iv <- Qdd [v,ov] (eval b X.env)
  Qgw pos'
  Qdd [v,ov,iv] (setItem ov iv v)
  release [v,ov,iv] []):=by intro _;rfl)
 (hs:Qfq [.Subscript (.Name x px) b pos'] e pos.line X.env=pure false:=by rfl) (hw:Qfp [.Subscript (.Name x px) b pos'] e X.env=pure none:=by rfl)
 (h1:(Qab [.Subscript (.Name x px) b pos'] X.env).map (·.2)=[Qgs (.Subscript (.Name x px) b pos') X.env]:=by rfl):VS X (.Assign [.Subscript (.Name x px) b pos'] e pos) (wPut i W Wb) :=
 (qwg he (qwb (qcx hN hv hd hcd) hj qln ha) hs hw h1).imp fun D σ H xx114=>by
  obtain ⟨M,env,F,DD,I,h,k⟩:=xx114;refine ⟨M,env,F,_,I,h,fun d v F1 H1 e1 I1 s1 i1 h1=>?_⟩;obtain ⟨m1,h1⟩:=h1;obtain ⟨p,vs,ep,g1,g2,g3,g4⟩:=(I1.slot i).addr m1;refine ⟨_,qcj ep,M,e1,F1,_,I1,h1,fun d2 v2 F2 H2 e2 I2 s2 i2 h2=>?_⟩;cases d2 with
  | int n =>
   obtain ⟨m2,j,hj,q⟩:=h2;obtain ⟨p',vs1,ep',f1,f2,f3,f4⟩:=(I2.slot i).addr m2;rw [ep] at ep';injection ep' with ep';injection ep' with ep';subst ep';exact ⟨p,vs1,n,j,rfl,i2.int_inv,f1,by rw [f4.len];exact hj,k.nx _ F2 _ σ (I2.chg m2 ep (zacc (i1.mono s2) j f4)) (s1.trans s2) q⟩
  | _=>exact Zd h2
def wIxO (i:Nat) (Wj:WE):WE:=fun env Q=>(gS env i).mut=true/\Wj env fun y e=>match y with
 | .int n=>(gS e i).mut=true /\ ∃ d,atI (gS e i).cnt n=some d/\Q d e
 | _=>False
def qct (i:Nat) {x:Str}{px:Pos} (hj:VE X b Wb) (hN:X.N[i]?=some x:=by rfl) (hv:Vis X.env.scope x:=by first|exact Yy rfl|exact Z6 (Yy rfl)|exact Z6 (Z6 rfl)) (hd:Nd0 x:=by decide)
 (hcd:Nd1 x:=by decide) (hs:qvb b:=by exact (fun _ _=>rfl)):VE X (.Subscript (.Name x px) b pos) (wIxO i Wb) :=
 (qhh qcy (qcx hN hv hd hcd) hj hs).imp fun σ H R xx115=>by
  obtain ⟨M,env,F,Q,I,⟨m,h⟩,k⟩:=xx115;obtain ⟨p,vs,ep,g1,g2,g3,g4⟩:=(I.slot i).addr m;refine ⟨_,qcj ep,M,env,F,_,I,h,fun d2 v2 F2 H2 e2 I2 s2 i2 h2=>?_⟩;cases d2 with
  | int n =>
   obtain ⟨m2,d,hd,q⟩:=h2;obtain ⟨p',vs1,ep',f1,f2,f3,f4⟩:=(I2.slot i).addr m2;rw [ep] at ep';injection ep' with ep';injection ep' with ep';subst ep';obtain ⟨z,ez,hz⟩:=f4.atI hd;exact ⟨p,vs1,n,z,rfl,i2.int_inv,SqL.of f1,ez,k d z F2 H2 e2 I2 s2 hz q⟩
  | _=>exact Zd h2
def zass (i:Nat):WE:=fun env Q=>(gS env i).mut=true/\Q (.int (gS env i).cnt.length) env
def zalh (i:Nat) {x:Str}{px p:Pos} (hm:X.mg "len" = none) (hN:X.N[i]?=some x:=by rfl) (hv:Vis X.env.scope x:=by first|exact Yy rfl|exact Z6 (Yy rfl)|exact Z6 (Z6 rfl)) (hd:Nd0 x:=by decide)
 (hcd:Nd1 x:=by decide) (hg:Gl X "len":=by rfl) (hs:Qw [.Name x px] X.env=(false,eval (.Name x px) X.env)::Qw [] X.env:=by rfl) (hpl:(Vl pos (Qw [] X.env)).any (·.1)=false:=by rfl) :
 VE X (.Call (.Name "len" p) [.Name x px] [] pos) (zass i) :=
 (qip qgo hg hm boot_len (qz (qcx hN hv hd hcd) qal hs) (by decide) (by decide) hs hpl).imp fun σ H R xx116=>by
  obtain ⟨M,env,F,Q,I,⟨m,h⟩,k⟩:=xx116;obtain ⟨a,vs,ep,g1,g2,g3,g4⟩:=(I.slot i).addr m;exact ⟨_,qcj ep,a,vs,rfl,.inl (SqL.of g1),k _ _ F H env I (.refl _) (by rw [g4.len];exact qJ _) h⟩
def zapq (Tc:WT) (t:WS):WS:=fun D env => ∃ P:Nat->Sto->Prop,(∃ m,P m env) /\ ∀ m e,P m e->Tc e fun k e1=>if k=true then t { D with nx:=fun e2 => ∃ m',m'<m/\P m' e2,ct:=fun e2 => ∃ m',m'<m/\P m' e2,bk:=D.nx } e1 else D.nx e1
def qxb {body:List Stmt} (hc:VT X c Tc) (hb:VSs X body Wt) (hp:Qkm (model X.prog X.w) X.A X.env X.xe:=by exact Qdp):VS X (.While c body [] pos) (zapq Tc Wt) :=
 (qxc hp hc hb).imp fun D σ H xx120=>by
  obtain ⟨M,env,F,DD,I,⟨P,⟨m0,p0⟩,turn⟩,k⟩:=xx120;refine ⟨fun m σ' H' => ∃ e' F',EnvOk X.K M F' H' e' σ'/\Same F F'/\P m e',⟨m0,env,F,I,.refl _,p0⟩,fun m σ1 H1 xx119=>?_⟩;obtain ⟨e1,F1,I1,s1,p1⟩:=xx119;refine ⟨M,e1,F1,_,I1,turn m e1 p1,fun x F2 H2 e2 I2 s2 h2=>?_⟩;cases x with
  | true =>
   refine qzp ⟨fun σ' H' => ∃ m',m'<m /\ ∃ e' F',EnvOk X.K M F' H' e' σ'/\Same F F'/\P m' e',fun σ' H' z=>z,M,e2,F2,_,I2,h2,?_⟩;have s02:=s1.trans s2;exact ⟨fun e3 F3 H3 σ3 I3 s3 xx118=>by obtain ⟨m',l,p3⟩:=xx118;exact ⟨m',l,e3,F3,I3,s02.trans s3,p3⟩,fun r v e3 F3 H3 σ3 I3 s3=>k.rt r v e3 F3 H3 σ3 I3 (s02.trans s3),
    fun e3 F3 H3 σ3 I3 s3=>k.nx e3 F3 H3 σ3 I3 (s02.trans s3),fun e3 F3 H3 σ3 I3 s3 xx117=>by obtain ⟨m',l,p3⟩:=xx117;exact ⟨m',l,e3,F3,I3,s02.trans s3,p3⟩⟩
  | false=>exact qyy (k.nx e2 F2 H2 σ1 I2 (s1.trans s2) h2)
def wFor (Wi:WF) (G:WG) (t:WS):WS:=fun D env=>Wi env fun ds e0 => ∃ P:Nat->Sto->Prop,P 0 e0 /\
 (∀ i d e,ds[i]?=some d->P i e->G d e fun e1=>t { D with nx:=P (i+1),ct:=P (i+1),bk:=D.nx } e1) /\ ∀ e,P ds.length e->D.nx e
def qby {tg iter:Expr}{body:List Stmt}{Wi:WF}{G:WG} (hc:X.calm=true) (hi:VI X tg iter Wi) (hg:VG X tg G) (hb:VSs X body Wt)
 (hs : ∀ x,Yg iter X.env x=pure x:=by intro _;rfl) (hp:Qkm (model X.prog X.w) X.A X.env X.xe:=by exact Qdp):VS X (.For tg iter body [] pos) (wFor Wi G Wt) :=
  (zaiq hp hc hi hg hb hs).imp fun D σ H xx123=>by
   obtain ⟨M,env,F,DD,I,h,k⟩:=xx123;refine ⟨M,env,F,_,I,h,fun ds J F1 H1 e1 I1 s1 jt xx122=>?_⟩;obtain ⟨P,p0,turn,fin⟩:=xx122;refine ⟨fun i m σ' H'=>m=ds.length-i/\i<=ds.length /\ ∃ e' F',EnvOk X.K M F' H' e' σ'/\Same F1 F'/\P i e',⟨ds.length,by simp,Yc _,e1,F1,I1,.refl _,p0⟩,fun i m σ2 H2 xx121=>?_⟩;obtain ⟨hm,hi,e2,F2,I2,s2,p2⟩:=xx121;by_cases hl:i=ds.length
   ·subst hl;exact .inl ⟨jt.stop H2 (s2.trans I2.fh),k.nx e2 F2 H2 σ2 I2 (s1.trans s2) (fin e2 p2)⟩
   ·have hlt:i<ds.length:=by omega
    refine .inr ⟨jt.go i H2 (s2.trans I2.fh) hlt,fun σ' H' => ∃ e' F',EnvOk X.K M F' H' e' σ'/\Same F1 F'/\P (i+1) e',fun σ' H' z=>⟨ds.length-(i+1),by omega,rfl,hlt,z⟩,fun x H3 hy=>?_⟩;obtain ⟨d,F3,hd,g,j⟩:=jt.yld i H2 x H3 F2 s2 I2.fh hlt hy;refine ⟨M,e2,F3,d,_,I2.go g,j,turn i d e2 hd p2,fun F4 H4 e4 σ4 I4 s4 h4=>⟨M,e4,F4,_,I4,h4,?_⟩⟩;have s14:=s2.trans (g.f.trans s4);exact ⟨fun e5 F5 H5 σ5 I5 s5 p5=>⟨e5,F5,I5,s14.trans s5,p5⟩,fun r v e5 F5 H5 σ5 I5 s5=>k.rt r v e5 F5 H5 σ5 I5 ((s1.trans s14).trans s5),
     fun e5 F5 H5 σ5 I5 s5=>k.nx e5 F5 H5 σ5 I5 ((s1.trans s14).trans s5),fun e5 F5 H5 σ5 I5 s5 p5=>⟨e5,F5,I5,s14.trans s5,p5⟩⟩
end
end
end
section
section
variable {X:Cx}
def qnh : ∀ (ns:List Int) (n:Nat),n<=ns.length->preSum (fun i=>(ns[i]?).getD 0) n=(ns.take n).sum
 | ns,0,_=>by simp [preSum]
 | ns,n+1,h=>by
  have hn:n<ns.length:=h;have e:(ns[n]?).getD 0=ns[n]:=by rw [Qc hn];rfl
  have e2:(ns.take n++[ns[n]]).sum=(ns.take n).sum+ns[n]:=by rw [Jr];simp
  rw [preSum,qnh ns n (Y8 hn),e,Yf,Qc hn];exact e2.symm
def qqt : ∀ {ns:List Int}{us:List Value},Vals (ns.map V.int) us -> ∀ (i:Nat) (v:Value),us[i]?=some v -> ∃ t,v = .int ((ns[i]?).getD 0) t
 | [],_,h,i,v,e=>by cases h;simp at e
 | n::ns,_,h,i,v,e=>by
  cases h with
  | cons r t =>
   cases i with
   | zero =>
    obtain ⟨k,rfl⟩:=r;have:Qew n k=v:=by simpa using e
    exact ⟨k,by rw [<- this];rfl⟩
   | succ i =>
    obtain ⟨k,hk⟩:=qqt t i v (by simpa using e);exact ⟨k,by simpa using hk⟩
def rSum (K:Qd):List V->Hp->VK->Prop:=fun xs H Q => ∃ (a:Addr) (ns:List Int),xs=[.ref a]/\(SqL K H a (ns.map V.int)\/SqT K H a (ns.map V.int))/\Q (.int ns.sum) H
def zags (hc:X.calm=true):CallR X (.builtin "sum") (rSum X.K):=by
 intro pins s σ H xs us Q I r h;obtain ⟨a,ns,rfl,ha,q⟩:=h;obtain ⟨u,rfl,rx⟩:=qkk r;cases rx;have fin : ∀ (its:List Value) (h':Heap) (tk t':Nat),its.length=ns.length->(∀ b o,s.heap.get? b=some o->h'.get? b=some o)->EP X pins σ Q (.int (preSum (fun i=>(ns[i]?).getD 0) its.toArray.size) t') { s with heap:=h',toks:=tk }:=fun its h' tk t' hl hk=>by
  have e:preSum (fun i=>(ns[i]?).getD 0) its.toArray.size=ns.sum:=by
   rw [Qs,hl,qnh ns _ (Qr _),Zq]
  rw [e];exact ⟨.int ns.sum,H,I.kept (t':=tk) hk,⟨t',rfl⟩,q⟩
 have old : ∀ {h':Heap}{ob:Obj},(∀ b o,b ∉ [s.heap.objs.size]->(s.heap.push ob).get? b=some o->h'.get? b=some o) -> ∀ b o,s.heap.get? b=some o->h'.get? b=some o:=fun hk b o z =>
  hk b o (fun hm=>by rw [Qy.mp hm] at z;exact Jy _ (Qx z)) (Qj _ z)
 rcases ha with ha|ha
 ·obtain ⟨its,rv,pl,_⟩:=I.list ha;have hl:=pl.isList;have hlt:a<s.heap.objs.size:=pl.lt;have hlen:its.length=ns.length:=by rw [<- rv.length,Qf]
  refine call_sum_walkG (Qcs hl ?_);refine ⟨s.heap.objs.size,[s.heap.objs.size,a],[s.heap.objs.size],its.toArray.size,_,_,fun i=>(ns[i]?).getD 0,rfl,Walks.list (A:=X.A.in1) (I.ok.hd hc) _ a (Q9 hlt) its.toArray,
   ⟨⟨_,Qz _ rfl,rfl,rfl⟩,hl.push _⟩,fun b hb=>?_,fun i v hP=>qqt rv i v (by simpa using hP),fun h' tk t' hk=>fin its h' tk t' hlen (old hk)⟩
  have hb':b=s.heap.objs.size\/b=a:=by simpa using hb
  rw [Yo];rcases hb' with rfl|rfl
  ·exact Qbf _
  ·exact Qcm hlt
 ·obtain ⟨its,rv,pl,_⟩:=I.tuple ha;have hl:s.heap.IsTuple a its.toArray:=pl;have hlt:a<s.heap.objs.size:=IsTup.lt pl;have hlen:its.length=ns.length:=by rw [<- rv.length,Qf]
  refine call_sum_walkG (Qel hl ?_);refine ⟨s.heap.objs.size,[s.heap.objs.size,a],[s.heap.objs.size],its.toArray.size,_,_,fun i=>(ns[i]?).getD 0,rfl,Walks.tuple (A:=X.A.in1) (I.ok.hd hc) _ a (Q9 hlt) its.toArray,
   ⟨⟨_,Qz _ rfl,rfl,rfl⟩,pl.push _⟩,fun b hb=>?_,fun i v hP=>qqt rv i v (by simpa using hP),fun h' tk t' hk=>fin its h' tk t' hlen (old hk)⟩
  have hb':b=s.heap.objs.size\/b=a:=by simpa using hb
  rw [Yo];rcases hb' with rfl|rfl
  ·exact Qbf _
  ·exact Qcm hlt
def zalv (K:Qd):List V->Hp->VK->Prop:=fun xs H Q => ∃ (a:Addr) (ns:List Int),xs=[.ref a]/\SqL K H a (ns.map V.int)/\ns.length<64 /\ ∀ (p:Addr) (ns':List Int),H p=none->ns'.Perm ns->ns'.Pairwise (· <= ·)->Q (.ref p) (upd H p (.lst (ns'.map V.int)))
def qwl:CallR X (.builtin "sorted") (zalv X.K):=by
 intro pins s σ H xs us Q I r h;obtain ⟨a,ns,rfl,ha,h64,q⟩:=h;obtain ⟨u,rfl,rx⟩:=qkk r;cases rx;obtain ⟨its,rv,pl,_⟩:=I.list ha;have hlen:its.length=ns.length:=by rw [<- rv.length,Qf]
 refine sorted_ints pl.isList (qpf rv) (by omega) fun out ns' a1 a2 a3=>?_;obtain ⟨e,he⟩:=sortedAll_at s.heap its out;have hl':ns'.length=ns.length:=a2.length_eq;refine ⟨.ref (s.heap.objs.size+1),_,I.laid (t':=s.toks) (a:=s.heap.objs.size+1) (o :=.lst (ns'.map V.int)) (fun b o z=>sortedAll_old z) (Qfh _) ?_,rfl,q _ ns' (I.hok.fresh (Qfh _)) a2 a3⟩;exact ⟨Y8 (qo (by rw [Qf];omega)),out.toList,e,qmv a1,by rw [Array.toArray_toList];exact he⟩
def iAny (K:Qd) (tl:TE):TI:=fun σ H R=>tl σ H fun x H1 => ∃ a,x = .ref a/\(((∃ xs,SqL K H1 a xs)/\R (Itl K a) H1)\/((∃ xs,SqT K H1 a xs)/\R (Itt K a) H1))
def zaqt {tg l:Expr}{tl:TE} (hl:PE X l tl):PI X tg l (iAny X.K tl):=by
 intro pins s σ H R I h;refine thn (hl pins s σ H _ I h) fun v s1 xx124=>?_;obtain ⟨x,H1,I1,r1,q1⟩:=xx124;obtain ⟨a,e,q1⟩:=q1;subst e;cases r1;rcases q1 with ⟨⟨xs,hq⟩,q⟩|⟨⟨xs,hq⟩,q⟩
 ·obtain ⟨its,rv,p,hz⟩:=I1.list hq;refine Qcs p.isList ?_;refine ⟨s1.heap.objs.size,[s1.heap.objs.size],_,_,H1,rfl,I1.kept (t':=s1.toks) fun b o e=>Qj _ e,zacv a _,⟨_,Qz _ rfl,rfl,rfl⟩,fun b hb=>?_,q⟩;have e:b=s1.heap.objs.size:=by simpa using hb
  subst e;exact I1.fpOk (Qr _) (I1.hok.fresh (Qr _))
 ·obtain ⟨its,rv,p,hz⟩:=I1.tuple hq;refine Qel (show s1.heap.IsTuple a its.toArray from p) ?_;refine ⟨s1.heap.objs.size,[s1.heap.objs.size],_,_,H1,rfl,I1.kept (t':=s1.toks) fun b o e=>Qj _ e,qzh a _,⟨_,Qz _ rfl,rfl,rfl⟩,fun b hb=>?_,q⟩;have e:b=s1.heap.objs.size:=by simpa using hb
  subst e;exact I1.fpOk (Qr _) (I1.hok.fresh (Qr _))
end
def boot_sum:Zv "sum" = some (.builtin "sum"):=by decide +kernel
def boot_sorted:Zv "sorted" = some (.builtin "sorted"):=by decide +kernel
end
section
section
variable {X:Cx}
def zams {K:Qd}{F:Hp}{a:Addr}{xs:List V}{l:List Qh} (hs:SqL K F a xs) (hr:Iss K F l xs):ItD K (Itl K a) F l where
 go:=fun i H s hi=>⟨xs,xs[i]'(by rw [hr.len];exact hi),s.seq hs,Qc _⟩
 stop:=fun H s=>⟨xs,s.seq hs,by rw [hr.len];exact Qr _⟩
 yld:=fun i H x H' F1 s1 s2 hi hy=>by
  obtain ⟨rfl,hy⟩:=hy;obtain ⟨d,e1,e2⟩:=hr.get' (hy xs ((s1.trans s2).seq hs));exact ⟨d,F1,e1,.refl s2,e2.mono s1⟩
def zale {K:Qd}{F:Hp}{a:Addr}{xs:List V}{l:List Qh} (hs:SqT K F a xs) (hr:Iss K F l xs):ItD K (Itt K a) F l where
 go:=fun i H s hi=>⟨xs,xs[i]'(by rw [hr.len];exact hi),qU s hs,Qc _⟩
 stop:=fun H s=>⟨xs,qU s hs,by rw [hr.len];exact Qr _⟩
 yld:=fun i H x H' F1 s1 s2 hi hy=>by
  obtain ⟨rfl,hy⟩:=hy;obtain ⟨d,e1,e2⟩:=hr.get' (hy xs (qU (s1.trans s2) hs));exact ⟨d,F1,e1,.refl s2,e2.mono s1⟩
def qth (lo:Int) (n:Nat):List Qh:=(Q1 n).map fun (k:Nat) => .int (lo+(k:Int))
def qE (lo:Int) (n:Nat):(qth lo n).length=n:=by simp [qth]
def qxy {lo:Int}{n i:Nat} (h:i<n):(qth lo n)[i]?=some (.int (lo+i)):=by simp [qth,h]
def qam {lo:Int}{n i:Nat}{d:Qh} (h:(qth lo n)[i]?=some d):i<n/\d = .int (lo+i):=by
 have hi:i<n:=by
  have:=(Qm.mp h).1
  rwa [qE] at this
 rw [qxy hi] at h;exact ⟨hi,(Qp h).symm⟩
def zalu {K:Qd}{F:Hp}{lo:Int}{n:Nat}:ItD K (Itr lo n) F (qth lo n) where
 go:=fun i H s hi=>by rw [qE] at hi;exact hi
 stop:=fun H s=>by rw [qE];exact Qr _
 yld:=fun i H x H' F1 s1 s2 hi hy=>by
  obtain ⟨rfl,rfl⟩:=hy;rw [qE] at hi;exact ⟨_,F1,qxy hi,.refl s2,qJ _⟩
def qsk (l:List Qh):List Qh:=(Q1 l.length).map fun (k:Nat) => .tuple [.int k,(l[k]?).getD .none]
def qdy (l:List Qh):(qsk l).length=l.length:=by simp [qsk]
def qsq {l:List Qh}{i:Nat}{d:Qh} (h:l[i]?=some d):(qsk l)[i]?=some (.tuple [.int i,d]):=by
 have hi:=(Qm.mp h).1;have e:l[i]=d:=by rw [Qc hi] at h;exact Qp h
 simp [qsk,hi,e]
def qiw {l:List Qh}{i:Nat}{d:Qh} (h:(qsk l)[i]?=some d) : ∃ x,l[i]?=some x/\d = .tuple [.int i,x]:=by
 have hi:i<l.length:=by
  have:=(Qm.mp h).1
  rwa [qdy] at this
 have e:=qsq (Qc hi);rw [h] at e;exact ⟨_,Qc hi,Qp e⟩
def zaho {K:Qd}{F:Hp}{a:Addr}{xs:List V}{l:List Qh} (hs:SqL K F a xs) (hr:Iss K F l xs):ItD K (Ite K a) F (qsk l) where
 go:=fun i H s hi=>by rw [qdy] at hi;exact ⟨xs,xs[i]'(by rw [hr.len];exact hi),s.seq hs,Qc _⟩
 stop:=fun H s=>by rw [qdy];exact ⟨xs,s.seq hs,by rw [hr.len];exact Qr _⟩
 yld:=fun i H x H' F1 s1 s2 hi hy=>by
  obtain ⟨p,y,hy,hp,rfl,rfl⟩:=hy;obtain ⟨d,e1,e2⟩:=hr.get' (hy xs ((s1.trans s2).seq hs));have g:=Go.put (o:=HO.tup [.int i,y]) s2 hp;exact ⟨_,_,qsq e1,g,qoh (SqT.of ql) (qw (qJ _) (qw ((e2.mono s1).mono g.f) qQ))⟩
section
variable {tg a b c:Expr}{W:WE}{Wr:WF}{p pos:Pos}
def isTy (T:String):Qh->Bool
 | .none=>false
 | .bool _=>T == "bool" || T == "int"
 | .int _=>T == "int"
 | .str _=>T == "str"
 | .list _=>T == "list"
 | .tuple _=>T == "tuple"
 | .dict _=>T == "dict"
def dSum:DC
 | [.list l],q => ∃ ns:List Int,l=ns.map .int/\q (.int ns.sum)
 | [.tuple l],q => ∃ ns:List Int,l=ns.map .int/\q (.int ns.sum)
 | _,_=>False
def qea:Qh->Option (List Qh)
 | .list l=>some l
 | .tuple l=>some l
 | _=>none
def qca {d:Qh}{l:List Qh}{Q:List Qh->Prop} (h:qea d=some l) (q:Q l):(qea d).elim False Q:=by rw [h];exact q
def zacp {d:Qh}{l:List Qh}{i:Int}{x:Qh}{q:Qh->Prop} (h:qea d=some l) (e:atI l i=some x) (hq:q x):dIx d (.int i) q:=by
 cases d with
 | list m=>cases h;exact ⟨x,e,hq⟩
 | tuple m=>cases h;exact ⟨x,e,hq⟩
 | _=>cases h
def zasf (W:WE):WF:=fun env Q=>W env fun d e=>(qea d).elim False fun l=>Q l e
def qY (h:VE X a W):VI X tg a (zasf W):=(zaqt h).imp fun σ H R xx125=>by
 obtain ⟨M,env,F,Q,I,h,k⟩:=xx125;refine ⟨M,env,F,_,I,h,fun d v F1 H1 e1 I1 s1 i1 h1=>?_⟩;cases d with
 | list l =>
  obtain ⟨b,xs,rfl,hs,hr⟩:=i1.lst_inv;exact ⟨b,rfl,.inl ⟨⟨xs,I1.fh.seq hs⟩,k l _ F1 H1 e1 I1 s1 (zams hs hr) h1⟩⟩
 | tuple l =>
  obtain ⟨b,xs,rfl,hs,hr⟩:=i1.tup_inv;exact ⟨b,rfl,.inr ⟨⟨xs,qU I1.fh hs⟩,k l _ F1 H1 e1 I1 s1 (zale hs hr) h1⟩⟩
 | _=>exact Zd h1
def wiR1 (W:WE):WF:=fun env Q=>W env fun d e=>match d with
 | .int j=>(-(2^62)<=j/\j<2^62)/\Q (qth 0 j.toNat) e
 | _=>False
def qS (hm:X.mg "range" = none) (ha:VE X a W) (hg:Gl X "range":=by rfl) (hs:Qw [a] X.env=[(false,eval a X.env)]:=by rfl) (hs':Qw [a] X.env=(false,eval a X.env)::Qw [] X.env:=by rfl):VI X tg (.Call (.Name "range" p) [a] [] pos) (wiR1 W) :=
 (zaee hg hm (qz ha qal hs') hs).imp fun σ H R xx126=>by
  obtain ⟨M,env,F,Q,I,h,k⟩:=xx126;refine ⟨M,env,F,_,I,h,fun d v F1 H1 e1 I1 s1 i1 h1=>?_⟩;cases d with
  | int j=>exact ⟨j,by rw [i1.int_inv],h1.1.1,h1.1.2,k _ _ F1 H1 e1 I1 s1 zalu h1.2⟩
  | _=>exact Zd h1
def wiEn (W:WE):WF:=fun env Q=>W env fun d e=>match d with
 | .list l=>Q (qsk l) e
 | _=>False
def qqa {elts:List Expr}{x1:Nat}{tpos:Pos} (hm:X.mg "enumerate" = none) (ha:VE X a W) (hg:Gl X "enumerate":=by rfl) (hs:Qw [a] X.env=[(false,eval a X.env)]:=by rfl) (hs':Qw [a] X.env=(false,eval a X.env)::Qw [] X.env:=by rfl) :
 VI X (.Tuple elts x1 tpos) (.Call (.Name "enumerate" p) [a] [] pos) (wiEn W) :=
 (zanq hg hm (qz ha qal hs') hs).imp fun σ H R xx127=>by
  obtain ⟨M,env,F,Q,I,h,k⟩:=xx127;refine ⟨M,env,F,_,I,h,fun d v F1 H1 e1 I1 s1 i1 h1=>?_⟩;cases d with
  | list l =>
   obtain ⟨b,xs,rfl,hs,hr⟩:=i1.lst_inv;exact ⟨b,rfl,⟨xs,I1.fh.seq hs⟩,k _ _ F1 H1 e1 I1 s1 (zaho hs hr) h1⟩
  | _=>exact Zd h1
end
def Sl.seen:Sl->Sl
 | .val d => .val d
 | .new d => .val d
 | _ => .non
def capE (ix:List Nat) (k:Nat) (env:Sto):Sto:=ix.map (fun i=>(gS env i).seen)++Vd k .non
def zaey (ix:List Nat) (k:Nat) (Wi:WF) (G:WG) (We:WE):WF:=fun env Q=>Wi env fun ds e0=>ds.length<Q6 /\ ∃ P:Nat->List Qh->Sto->Prop,P 0 [] (capE ix k e0) /\
 (∀ i d ys e,ds[i]?=some d->P i ys e->G d e fun e1=>We e1 fun y e2=>P (i+1) (ys++[y]) e2) /\ ∀ ys e,P ds.length ys e->Q ys e0
def qrn : ∀ (ix:List Nat) (f:Nat->Sl) (r:Sto) (j:Nat),gS (ix.map f++r) j=match ix[j]? with|some i=>f i|none=>gS r (j-ix.length)
 | [],f,r,j=>by simp
 | i::ix,f,r,0=>by simp [gS]
 | i::ix,f,r,j+1=>by simp only [Q2,Qft,gS,Z7,Zb,Qge];exact qrn ix f r j
def qjx (k j:Nat):gS (Vd k .non) j = .non:=by
 induction k generalizing j with
 | zero=>simp [gS]
 | succ k ih=>cases j with
  | zero=>simp [Qbi,gS]
  | succ j=>simp only [Qbi,gS];exact ih j
def zajg (ix:List Nat) (k:Nat) (σ:St) (j i:Nat) (h:ix[j]?=some i):vS (qsg ix k σ) j=vS σ i:=by
 have hj:=(Qm.mp h).1;unfold vS qsg;rw [Zg (by simpa using hj),Qa,h];rfl
def EnvOk.cap {K:Qd}{M:Frm}{F H:Hp}{env:Sto}{σ:St} (I:EnvOk K M F H env σ) (ix:List Nat) (k:Nat):EnvOk K ⟨H,H,F⟩ F H (capE ix k env) (qsg ix k σ) where
 len:=by simp [capE,qsg]
 slot:=fun j=>by
  unfold capE;rw [qrn];cases h:ix[j]? with
  | none=>rw [qjx];trivial
  | some i =>
   show SlotOk K _ F H (gS env i).seen _;rw [zajg ix k σ j i h];have S:=I.slot i;cases q:gS env i with
   | val d=>rw [q] at S;exact S
   | non=>trivial
   | own ds=>trivial
   | pen ds=>trivial
   | new d=>rw [q] at S;obtain ⟨v,e,j⟩:=S;exact ⟨v,e,j.is qhp⟩
   | exc C=>trivial
   | obj a0 C nm fs=>trivial
 dis:=fun i j a _ h1=>by
  unfold capE at h1;rw [qrn] at h1;cases h:ix[i]? with
  | none=>rw [h,qjx] at h1;cases h1
  | some n =>
   rw [h] at h1;replace h1:(gS env n).seen.mut=true:=h1
   cases q:gS env n <;> rw [q] at h1 <;> cases h1
 f0 :=.refl _
 fe:=I.fh
 fh:=I.fh
 bh :=.refl _
 new:=fun b o e => .inl e
 dom:=fun b o e=>⟨o,e⟩
def EnvOk.goOf {K:Qd}{F H F' H':Hp}{env:Sto}{σ:St} (I:EnvOk K ⟨H,H,F⟩ F' H' env σ):Go F H F' H':=⟨I.f0,I.bh,I.fh,I.new⟩
section
variable {K:Qd}{ix:List Nat}{n:Nat}{Wi:WF}{G:WG}{We:WE}{σ:St}{H:Hp}{R:VK}
def qml (h:qob K (zaey ix n Wi G We) σ H R):qpx ix n (qjg K Wi) (qpo K G) (qfr K We) σ H R:=by
 obtain ⟨M,env,F,Q,I,h,k⟩:=h;refine ⟨M,env,F,_,I,h,fun ds J F1 H1 e1 I1 s1 jt xx129=>?_⟩;obtain ⟨hz,P,p0,turn,fin⟩:=xx129;refine ⟨fun i m ys σ1 H'=>m=ds.length-i/\i<=ds.length /\ ∃ e' F' l,EnvOk K ⟨H1,H1,F1⟩ F' H' e' σ1/\Iss K F' l ys/\ys.length=i/\P i l e',⟨ds.length,by simp,Yc _,capE ix n e1,F1,[],I1.cap ix n,qQ,rfl,p0⟩,?_⟩;rintro i m ys σ1 H2 ⟨hm,hi,e2,F2,l,I2,i2,hl,p2⟩;have g2:=I2.goOf;by_cases he:i=ds.length
 ·subst he;exact .inl ⟨jt.stop H2 (g2.f.trans g2.fh),by omega,qqc (I1.go g2) (s1.trans g2.f) i2 (fin l e2 p2) k⟩
 ·have hlt:i<ds.length:=by omega
  refine .inr ⟨jt.go i H2 (g2.f.trans g2.fh) hlt,by omega,fun y σ' H' => ∃ e' F' l',EnvOk K ⟨H1,H1,F1⟩ F' H' e' σ'/\Iss K F' l' (ys++[y])/\P (i+1) l' e',
   fun y σ' H' xx128=>by obtain ⟨e',F',l',I',i',p'⟩:=xx128;exact ⟨ds.length-(i+1),by omega,rfl,hlt,e',F',l',I',i',by simp [hl],p'⟩,fun x H3 hy=>?_⟩
  obtain ⟨d,F3,hd,g,j⟩:=jt.yld i H2 x H3 F2 g2.f g2.fh hlt hy;refine ⟨_,e2,F3,d,_,I2.go g,j,turn i d l e2 hd p2,fun F4 H4 e4 σ4 I4 s4 h4=>⟨_,e4,F4,_,I4,h4,fun d5 v5 F5 H5 e5 I5 s5 i5 h5=>?_⟩⟩;exact ⟨e5,F5,l++[d5],I5,qaz ((i2.mono (g.f.trans s4)).mono s5) (qw i5 qQ),h5⟩
end
def qN {elt target iter:Expr}{scope:Scope}{pos:Pos}{caps own:List Str}{ix:List Nat}{Wi:WF}{G:WG}{We:WE} (hc:X.calm=true) (S:CompScope X.env scope caps) (hi:VI X target iter Wi)
 (hg : ∀ pins s3 H ex,VG (blk X pins scope (caps++own) s3 H ex) target G)
 (he : ∀ pins s3 H ex,VE (blk X pins scope (caps++own) s3 H ex) elt We)
 (hix:caps.length=ix.length:=by rfl) (hcapB:(caps.zip ix).all (fun p=>X.N[p.2]?==some p.1)=true:=by rfl)
  (hs : ∀ x,Yg iter X.env x=pure x:=by intro _;rfl):VF X (.ListComp elt [⟨target,iter,[],0⟩] scope pos) (zaey ix own.length Wi G We) :=
  (zacl (g:=qpo X.K G) (te:=qfr X.K We) hc S hi hg he hix hcapB hs).imp fun _ _ _ h=>qml h
def qO {ix:List Nat}{k:Nat}{G:WG}{We:WE}{Q:List Qh->Sto->Prop}{ds:List Qh}{e0:Sto} (L:List Qh) (hl:L.length=ds.length) (hz:L.length<Q6) (Iv:Sto->Prop) (h0:Iv (capE ix k e0))
 (h : ∀ (i:Nat) d ys e,ds[i]?=some d->ys=L.take i->Iv e->G d e fun e1=>We e1 fun y e2=>ys++[y]=L.take (i+1)/\Iv e2) (q:Q L e0) :
 ds.length<Q6 /\ ∃ P:Nat->List Qh->Sto->Prop,P 0 [] (capE ix k e0)/\(∀ i d ys e,ds[i]?=some d->P i ys e->G d e fun e1=>We e1 fun y e2=>P (i+1) (ys++[y]) e2) /\ ∀ ys e,P ds.length ys e->Q ys e0 :=
  ⟨by omega,fun i ys e=>ys=L.take i/\Iv e,⟨by simp,h0⟩,fun i d ys e hd hp=>h i d ys e hd hp.1 hp.2,fun ys e hp=>by rw [hp.1,<- hl,Zq];exact q⟩
def qq {α:Type}{L ys:List α}{y:α}{i:Nat} (e:L[i]?=some y) (h:ys=L.take i):ys++[y]=L.take (i+1):=by
 rw [h,Yf,e];rfl
def wIsi (T:String) (W:WE):WE:=fun env Q=>W env fun d e=>Q (.bool (isTy T d)) e
section
variable {a:Expr}{W:WE}{p pos pT:Pos}{T:String}{t:Str}
def zaai (hm:X.mg "isinstance" = none) (ht:X.mg t=none) (hv:Zv t=some (.type T)) (ha:VE X a W) (hk : ∀ d,Qhn X.K (.type (tyD d)) (.type T)=some (isTy T d):=by intro d;cases d <;> rfl)
 (hg:Gl X "isinstance":=by rfl) (hgt:Gl X t:=by rfl) (hn:t ≠ "__name__":=by decide) (hdt:Nd0 t:=by decide)
 (hs:Qw [a,.Name t pT] X.env=(false,eval a X.env)::Qw [.Name t pT] X.env:=by rfl) (hs2:Qw [.Name t pT] X.env=(false,eval (.Name t pT) X.env)::Qw [] X.env:=by rfl) (hpl:(Vl pos (Qw [.Name t pT] X.env)).any (·.1)=false:=by rfl) :
 VE X (.Call (.Name "isinstance" p) [a,.Name t pT] [] pos) (wIsi T W) :=
 (qip zahw hg hm qoe (qz ha (qz (zanl (v :=.ty T) hgt ht hv rfl hn hdt) qal hs2) hs) (by decide) (by decide) hs hpl).imp fun σ H R xx130=>by
  obtain ⟨M,env,F,Q,I,h,k⟩:=xx130;exact ⟨M,env,F,_,I,h,fun d v F1 H1 e1 I1 s1 i1 h1=>⟨d,v,T,isTy T d,rfl,i1.mono I1.fh,hk d,k _ _ F1 H1 e1 I1 s1 (qgi _) h1⟩⟩
end
def zaac (hc:X.calm=true):qof X (.builtin "sum") dSum:=(zags hc).imp fun xs H Q xx131=>by
 obtain ⟨F,ds,q,s,i,h,k⟩:=xx131
 match ds,h,i with
 | [.list l],h,i =>
  obtain ⟨v,rfl,j⟩:=qkt i;obtain ⟨a,xs,rfl,hs,hr⟩:=j.lst_inv;obtain ⟨ns,rfl,hq⟩:=h;rw [hr.ints_inv] at hs;exact ⟨a,ns,rfl,.inl (s.seq hs),k _ _ F H (.refl s) (qJ _) hq⟩
 | [.tuple l],h,i =>
  obtain ⟨v,rfl,j⟩:=qkt i;obtain ⟨a,xs,rfl,hs,hr⟩:=j.tup_inv;obtain ⟨ns,rfl,hq⟩:=h;rw [hr.ints_inv] at hs;exact ⟨a,ns,rfl,.inr (qU s hs),k _ _ F H (.refl s) (qJ _) hq⟩
def zaqq:List Qh->(List Qh->Prop)->Prop
 | [.list l],q => ∃ ns:List Int,l=ns.map .int/\ns.length<64 /\ ∀ ns':List Int,ns'.Perm ns->ns'.Pairwise (· <= ·)->q (ns'.map .int)
 | _,_=>False
def zaid:qrz X (.builtin "sorted") zaqq:=qwl.imp fun xs H Q xx132=>by
 obtain ⟨F,ds,q,s,i,h,k⟩:=xx132
 match ds,h,i with
 | [.list l],h,i =>
  obtain ⟨v,rfl,j⟩:=qkt i;obtain ⟨a,xs,rfl,hs,hr⟩:=j.lst_inv;obtain ⟨ns,rfl,hz,hq⟩:=h;rw [hr.ints_inv] at hs;exact ⟨a,ns,rfl,s.seq hs,hz,fun p ns' hp h1 h2=>k _ p _ F _ (.side s hp) hp (qu s hp) ql (qfp ns') (hq ns' h1 h2)⟩
end
def qas (N:List Str) (ds:List Qh):Sto:=ds.map .val++Vd (N.length-ds.length) .non
def qrt : ∀ (ds:List Qh) (r:Sto) (j:Nat),gS (ds.map .val++r) j=match ds[j]? with|some d => .val d|none=>gS r (j-ds.length)
 | [],r,j=>by simp
 | i::ix,r,0=>by simp [gS]
 | i::ix,r,j+1=>by simp only [Q2,Qft,gS,Z7,Zb,Qge];exact qrt ix r j
def qqn {N:List Str}{vs:List V}{j:Nat}{v:V} (h:vs[j]?=some v):vS (start N vs) j=some v:=by
 have hj:=(Qm.mp h).1;unfold vS start;rw [Zg (by simpa using hj),Qa,h];rfl
def qfd {K:Qd}{F H:Hp}{N:List Str}{ds:List Qh}{vs:List V} (s:Same F H) (i:Iss K F ds vs):EnvOk K ⟨H,H,F⟩ F H (qas N ds) (start N vs) where
 len:=by simp [qas,start,i.len]
 slot:=fun j=>by
  unfold qas;rw [qrt];cases h:ds[j]? with
  | none=>rw [qjx];trivial
  | some d =>
   obtain ⟨x,e1,e2⟩:=i.get h;exact ⟨x,qqn e1,e2⟩
 dis:=fun i j a _ h1=>by
  unfold qas at h1;rw [qrt] at h1;cases h:ds[i]? with
  | none=>rw [h,qjx] at h1;cases h1
  | some d=>rw [h] at h1;cases h1
 f0 :=.refl _
 fe:=s
 fh:=s
 bh :=.refl _
 new:=fun b o e => .inl e
 dom:=fun b o e=>⟨o,e⟩
section
variable {P:Zj}{w:World}{K:Qd}{mg:Str->Option Value}{base:Heap}
def RetOk.is {F H F' H':Hp}{env:Sto}{σ:St}{r:Ret}{v:V} (I:EnvOk K ⟨H,H,F⟩ F' H' env σ) (h:RetOk K ⟨H,H,F⟩ F' H' r v) : ∃ F'',Go F H F'' H'/\Is K F'' r.data v:=by
 have g:=I.goOf;cases r with
 | val d=>exact ⟨F',g,h⟩
 | new d=>exact ⟨F',g,IsN.is qhp h⟩
 | own ds =>
  obtain ⟨a,vs,rfl,h1,h2,h3,h4,h5⟩:=h;have s:Same F' (upd F' a (.lst vs)):=qcb h2;refine ⟨upd F' a (.lst vs),⟨g.f.trans s,g.h,fun b o e=>?_,fun b o e=>?_⟩,qcv (SqL.of ql) (h5.mono s)⟩
  ·by_cases z:b=a
   ·subst z;rw [ql] at e;rw [h1];exact e
   ·rw [qi z] at e;exact g.fh b o e
  ·by_cases z:b=a
   ·subst z;exact .inr h4
   ·rw [qi z] at e;exact g.new b o e
def Def.vok {x:Str}{st:Stmt}{N ps:List Str}{k:Nat}{sp:DC} (F:Def K mg x st ps) (S:FnScope N ps (defScope st)) (len : ∀ ds q,sp ds q->ds.length=ps.length)
 (hbody : ∀ (f:Addr) (cdv:Value) (A:Z4) (outer:List Env) (s:Ql) (H:Hp) (E:XK),Room k (A.deeper (Qcx x (defScope st) s.heap.objs.size f cdv)) -> ∀ ds q,sp ds q ->
 ∃ W,VSs (qot CX0 P w K mg base N x (defScope st) f cdv A outer s H E).nox (defBody st) W/\W { nx:=fun _=>q .none,rt:=fun r _=>q r.data } (qas N ds)):Ok P w K mg base x (k+1) ps (PSp K sp) :=
  F.ok S (fun vs H Q E xx134=>by obtain ⟨F,ds,q,_,i,h,_⟩:=xx134;rw [i.len];exact len ds q h) fun f cdv A outer s H vs Q E hr xx133=>by
   obtain ⟨F,ds,q,sm,i,h,kk⟩:=xx133;obtain ⟨W,hW,hq⟩:=hbody f cdv A outer s H E hr ds q h;refine ⟨_,hW,⟨H,H,F⟩,qas N ds,F,_,qfd sm i,hq,⟨fun e1 F1 H1 σ1 I1 s1 q1=>kk _ _ F1 H1 I1.goOf qrs q1,fun r v e1 F1 H1 σ1 I1 s1 r1 q1=>?_,fun _ _ _ _ _ _ h=>h.elim,fun _ _ _ _ _ _ h=>h.elim⟩⟩;obtain ⟨F2,g,j⟩:=r1.is I1;exact kk _ _ F2 H1 g j q1
def Def.vokF {x:Str}{st:Stmt}{N ps:List Str}{k:Nat}{sp:List Qh->(List Qh->Prop)->Prop} (F:Def K mg x st ps) (S:FnScope N ps (defScope st)) (len : ∀ ds q,sp ds q->ds.length=ps.length)
 (hbody : ∀ (f:Addr) (cdv:Value) (A:Z4) (outer:List Env) (s:Ql) (H:Hp) (E:XK),Room k (A.deeper (Qcx x (defScope st) s.heap.objs.size f cdv)) -> ∀ ds q,sp ds q ->
 ∃ W,VSs (qot CX0 P w K mg base N x (defScope st) f cdv A outer s H E).nox (defBody st) W/\W { nx:=fun _=>False,rt:=fun r _ => ∃ l,r = .own l/\q l } (qas N ds)):Ok P w K mg base x (k+1) ps (FSp K sp) :=
  F.ok S (fun vs H Q E xx136=>by obtain ⟨F,ds,q,_,i,h,_⟩:=xx136;rw [i.len];exact len ds q h) fun f cdv A outer s H vs Q E hr xx135=>by
   obtain ⟨F,ds,q,sm,i,h,kk⟩:=xx135;obtain ⟨W,hW,hq⟩:=hbody f cdv A outer s H E hr ds q h;refine ⟨_,hW,⟨H,H,F⟩,qas N ds,F,_,qfd sm i,hq,⟨fun e1 F1 H1 σ1 I1 s1 q1=>q1.elim,fun r v e1 F1 H1 σ1 I1 s1 r1 q1=>?_,fun _ _ _ _ _ _ h=>h.elim,fun _ _ _ _ _ _ h=>h.elim⟩⟩;obtain ⟨l,rfl,q1⟩:=q1;obtain ⟨a,vs,rfl,h1,h2,h3,h4,h5⟩:=r1;exact kk l a vs F1 H1 I1.goOf h4 h2 h1 h5 q1
def zatz (K:Qd):Sp:=fun vs H Q _ => ∃ (a:Addr) (ns:List Int),vs=[.ref a]/\SqL K H a (ns.map V.int)/\ns.length<=63 /\ ∀ H',Q (.bl true) H'
end
end
section
section
variable (K:Qd)
def zafa (W:WE):TE:=fun σ H R => ∃ M env F Q,EnvOk K M F H env σ/\W env Q /\ ∀ d v F' H' env',EnvOk K M F' H' env' σ->Same F F'->IsN K (qnb M F') d v->Q d env'->R v H'
def zaqv (W:WF):TE:=fun σ H R => ∃ M env F Q,EnvOk K M F H env σ/\W env Q /\ ∀ a vs ds F' H' env',EnvOk K M F' H' env' σ->Same F F'->H' a=some (.lst vs)->F' a=none->M.B a=none->M.He a=none ->
 (∀ i,(gS env' i).mut=true->vS σ i≠some (.ref a))->IssN K (qnb M F') ds vs->Q ds env'->R (.ref a) H'
def zaih (r:DC):List V->Hp->VK->Prop:=fun vs H Q => ∃ F ds q,Same F H/\Iss K F ds vs/\r ds q /\ ∀ d v F' H',Go F H F' H'->IsN K (qnb ⟨H,H,F⟩ F') d v->q d->Q v H'
def qsi (sp:DC):Sp:=fun vs H Q _=>zaih K sp vs H Q
structure EndsT (M:Frm) (DD:WEnds) (D:Ends):Prop where
 nx : ∀ env' F' H' σ',EnvOk K M F' H' env' σ'->DD.nx env'->D.nx σ' H'
 rt : ∀ r v env' F' H' σ',EnvOk K M F' H' env' σ'->RetOk K M F' H' r v->DD.rt r env'->D.rt v H'
 bk : ∀ env' F' H' σ',EnvOk K M F' H' env' σ'->DD.bk env'->D.bk σ' H'
 ct : ∀ env' F' H' σ',EnvOk K M F' H' env' σ'->DD.ct env'->D.ct σ' H'
def zajn (W:WS):TS:=fun D σ H => ∃ M env F DD,EnvOk K M F H env σ/\W DD env/\EndsT K M DD D
end
def VN (X:Cx) (e:Expr) (W:WE):Prop:=PE X e (zafa X.K W)
def VFN (X:Cx) (e:Expr) (W:WF):Prop:=PE X e (zaqv X.K W)
def VST (X:Cx) (st:Stmt) (W:WS):Prop:=PS X st (zajn X.K W)
def VSsT (X:Cx) (st:List Stmt) (W:WS):Prop:=PSs X st (zajn X.K W)
def zaju:Qh->Bool
 | .none=>true
 | .bool _=>true
 | .int _=>true
 | .str _=>true
 | _=>false
def zapf {K:Qd}{F F':Hp}{d:Qh}{v:V} (h:zaju d=true) (i:Is K F d v):IsN K F' d v:=by
 cases d with
 | none=>unfold Is at i;unfold IsN;exact i
 | bool b=>unfold Is at i;unfold IsN;exact i
 | int b=>unfold Is at i;unfold IsN;exact i
 | str b=>unfold Is at i;unfold IsN;exact i
 | _=>cases h
def zabt {K:Qd}{F F':Hp} : ∀ {ds:List Qh}{vs:List V},ds.all zaju=true->Iss K F ds vs->IssN K F' ds vs
 | [],_,_,i=>by rw [i.nil_inv];exact zahq
 | d::l,_,h,i=>by
  obtain ⟨x,r,rfl,p,q⟩:=i.cons_inv;rw [Qid,Ym] at h;exact zacu (zapf h.1 p) (zabt h.2 q)
def EnvOk.newUp {K:Qd}{M:Frm}{F H F':Hp}{env:Sto}{σ:St} (I:EnvOk K M F H env σ):Same (qnb ⟨H,H,F⟩ F') (qnb M F'):=fun b o e=>by
 obtain ⟨z1,_,z3⟩:=zaht e;exact zaba (I.he z1) (qu I.bh z1) z3
section
variable {X:Cx}{a b e:Expr}{W:WE}{Wf:WF}{pos p:Pos}
def zate (W:WE):WE:=fun env Q=>W env fun d e=>match d with | .list l=>l.all zaju=true/\Q (.tuple l) e|_=>False
def zamy (hm:X.mg "tuple" = none) (ha:VE X a W) (hg:Gl X "tuple":=by rfl) (hs:Qw [a] X.env=(false,eval a X.env)::Qw [] X.env:=by rfl) (hpl:(Vl pos (Qw [] X.env)).any (·.1)=false:=by rfl) :
 VN X (.Call (.Name "tuple" p) [a] [] pos) (zate W) :=
 (qgj qjp hg hm boot_tuple (qz (te:=qfr X.K W) ha qal hs) (by decide) (by decide) hs hpl).imp fun σ H R xx137=>by
  obtain ⟨M,env,F,Q,I,h,k⟩:=xx137;refine ⟨M,env,F,_,I,h,fun d v F1 H1 e1 I1 s1 i1 h1=>?_⟩;cases d with
  | list l =>
   obtain ⟨a,xs,rfl,hs,hr⟩:=i1.lst_inv;refine ⟨a,xs,rfl,.inl ⟨I1.fh.seq hs,fun p hp=>?_⟩⟩;have g:=Go.put (o:=HO.tup xs) I1.fh hp;refine k _ _ _ _ e1 (I1.go g) (s1.trans g.f) ?_ h1.2;unfold IsN;exact ⟨p,xs,rfl,zaba (I1.he hp) (qu I1.bh hp) ql,zabt h1.1 hr⟩
  | _=>exact Zd h1
def zaof {x:Str}{es:List Expr}{Wr:WF}{k:Nat}{ps:List Str}{sp:DC} (O:Ok X.prog X.w X.K X.mg X.base x k ps (qsi X.K sp)) (hr:Room k X.A) (ha:VA X (e::es) Wr) (hg:Gl X x:=by rfl) (hdb:Nd0 x:=by decide)
 (he:Qw (e::es) X.env=(false,eval e X.env)::Qw es X.env:=by rfl) (hpl:(Vl pos (Qw es X.env)).any (·.1)=false:=by rfl):VN X (.Call (.Name x p) (e::es) [] pos) (qzb sp Wr) :=
 (qoc (t:=qgv X.K Wr) O hr ha hg hdb he hpl).imp fun σ H R xx138=>by
  obtain ⟨M,env,F,Q,I,h,k⟩:=xx138;have e:qlq (qsi X.K sp) [] E0 (qgv X.K Wr) σ H R=qgv X.K Wr σ H fun vs H1=>zaih X.K sp vs H1 R:=by unfold qlq qsi;simp only [Ve]
  rw [e];exact ⟨M,env,F,_,I,h,fun ds vs F1 H1 e1 I1 s1 i1 h1=>⟨F1,ds,_,I1.fh,i1,h1,fun d v F2 H2 g i2 q=>k d v F2 H2 e1 (I1.go g) (s1.trans g.f) (i2.mono I1.newUp) q⟩⟩
def vn_e (h:VN X e W):VE X e W:=PE.imp (t:=zafa X.K W) h fun σ H R xx139=>by
 obtain ⟨M,env,F,Q,I,h,k⟩:=xx139;exact ⟨M,env,F,_,I,h,fun d v F1 H1 e1 I1 s1 i1 h1=>k d v F1 H1 e1 I1 s1 (i1.is qhp) h1⟩
def zarq (W:WE):WS:=fun D env=>W env fun d e=>D.rt (.new d) e
def zakm (he:VN X e W):VS X (.Return (some e) pos) (zarq W):=(qji (te:=zafa X.K W) he).imp fun D σ H xx140=>by
 obtain ⟨M,env,F,DD,I,h,k⟩:=xx140;exact ⟨M,env,F,_,I,h,fun d v F1 H1 e1 I1 s1 i1 h1=>k.rt (.new d) v e1 F1 H1 σ I1 s1 i1 h1⟩
end
section
variable {P:Zj}{w:World}{K:Qd}{mg:Str->Option Value}{base:Heap}
def Def.vokN {x:Str}{st:Stmt}{N ps:List Str}{k:Nat}{sp:DC} (F:Def K mg x st ps) (S:FnScope N ps (defScope st)) (len : ∀ ds q,sp ds q->ds.length=ps.length)
 (hbody : ∀ (f:Addr) (cdv:Value) (A:Z4) (outer:List Env) (s:Ql) (H:Hp) (E:XK),Room k (A.deeper (Qcx x (defScope st) s.heap.objs.size f cdv)) -> ∀ ds q,sp ds q ->
 ∃ W,VSs (qot CX0 P w K mg base N x (defScope st) f cdv A outer s H E).nox (defBody st) W/\W { nx:=fun _=>False,rt:=fun r _ => ∃ d,r = .new d/\q d } (qas N ds)):Ok P w K mg base x (k+1) ps (qsi K sp) :=
  F.ok S (fun vs H Q E xx142=>by obtain ⟨F,ds,q,_,i,h,_⟩:=xx142;rw [i.len];exact len ds q h) fun f cdv A outer s H vs Q E hr xx141=>by
   obtain ⟨F,ds,q,sm,i,h,kk⟩:=xx141;obtain ⟨W,hW,hq⟩:=hbody f cdv A outer s H E hr ds q h;refine ⟨_,hW,⟨H,H,F⟩,qas N ds,F,_,qfd sm i,hq,⟨fun e1 F1 H1 σ1 I1 s1 q1=>q1.elim,fun r v e1 F1 H1 σ1 I1 s1 r1 q1=>?_,fun _ _ _ _ _ _ h=>h.elim,fun _ _ _ _ _ _ h=>h.elim⟩⟩;obtain ⟨d,rfl,q1⟩:=q1;exact kk d v F1 H1 I1.goOf r1 q1
end
section
variable {X:Cx}{c e:Expr}{Tc:WT}{W:WE}{Wt Wu:WS}{st:Stmt}{sts rest:List Stmt}{pos pos':Pos}
mutual
def immD:Qh->Bool
 | .list _=>false
 | .tuple l=>qvp l
 | .dict _=>false
 | _=>true
def qvp:List Qh->Bool
 | []=>true
 | d::l=>immD d&&qvp l
end
mutual
def Is.imm {K:Qd}{F F':Hp} (s : ∀ b o,F b=some o->(∀ xs,o ≠ .lst xs)->F' b=some o) : ∀ {d:Qh}{v:V},immD d=true->Is K F d v->Is K F' d v
 | .none,_,_,h=>by unfold Is at h ⊢;exact h
 | .bool _,_,_,h=>by unfold Is at h ⊢;exact h
 | .int _,_,_,h=>by unfold Is at h ⊢;exact h
 | .str _,_,_,h=>by unfold Is at h ⊢;exact h
 | .list l,_,m,h=>by unfold immD at m;cases m
 | .dict l,_,m,h=>by unfold immD at m;cases m
 | .tuple l,_,m,h=>by
  unfold immD at m;unfold Is at h ⊢;obtain ⟨a,xs,e,q,r⟩:=h;refine ⟨a,xs,e,?_,Iss.imm s m r⟩;rcases q with (q|⟨o,q⟩)|q
  ·exact .inl (.inl (s _ _ q (fun _ z=>nomatch z)))
  ·exact .inl (.inr ⟨o,s _ _ q (fun _ z=>nomatch z)⟩)
  ·exact .inr q
def Iss.imm {K:Qd}{F F':Hp} (s : ∀ b o,F b=some o->(∀ xs,o ≠ .lst xs)->F' b=some o) : ∀ {l:List Qh}{xs:List V},qvp l=true->Iss K F l xs->Iss K F' l xs
 | [],_,_,h=>by unfold Iss at h ⊢;exact h
 | d::l,_,m,h=>by
  unfold qvp at m;rw [Ym] at m;unfold Iss at h ⊢;obtain ⟨x,r,e,p,q⟩:=h;exact ⟨x,r,e,Is.imm s m.1 p,Iss.imm s m.2 q⟩
end
end
section
variable {X:Cx}
def dInI:D2:=fun x y q => ∃ (i:Int) (ns:List Int),x = .int i/\qea y=some (ns.map .int)/\q (.bool (ns.any (· == i)))
def qra (i:Int) : ∀ ns:List Int,inV (.int i) (ns.map V.int)=ns.any (· == i)
 | []=>rfl
 | n::ns=>by
  have:=qra i ns;unfold inV at this ⊢;rw [Q2,Jz,Jz,this];rfl
def qti (ns:List Int):(ns.map V.int).all qll=true:=by
 rw [Y5];intro x hx;obtain ⟨i,_,rfl⟩:=Qk.mp hx;rfl
def zakt {neg:Bool}{x y:V}{H:Hp}{Q:VK}{F:Hp}{dy:Qh}{i:Int}{ns:List Int} (s:Same F H) (i1:Is X.K F (.int i) x) (i2:Is X.K F dy y) (e:qea dy=some (ns.map .int)) (q:Q (.bl (if neg then !ns.any (· == i) else ns.any (· == i))) H):rIn X.K neg x y H Q:=by
 rw [i1.int_inv];cases dy with
 | list l =>
  cases e;obtain ⟨a,xs,rfl,hs,hr⟩:=i2.lst_inv;rw [hr.ints_inv] at hs;exact ⟨a,_,rfl,.inl (s.seq hs),rfl,qti ns,by rw [qra];exact q⟩
 | tuple l =>
  cases e;obtain ⟨a,xs,rfl,hs,hr⟩:=i2.tup_inv;rw [hr.ints_inv] at hs;exact ⟨a,_,rfl,.inr (qU s hs),rfl,qti ns,by rw [qra];exact q⟩
 | _=>cases e
def zaod:OpV X (Vc .In) dInI:=OpR.imp qso fun x y H Q xx143=>by
 obtain ⟨F,dx,dy,q,s,i1,i2,⟨i,ns,e1,e2,hq⟩,k⟩:=xx143;subst e1;exact zakt s i1 i2 e2 (k _ _ F H (.refl s) (qgi _) hq)
end
end
section
section
variable {X:Cx}{elt target iter:Expr}{scope:Scope}{pos:Pos}{caps own:List Str}{ix:List Nat}{wi:TI}{g:TG}{te:TE}
def qpj {i:Nat}{y:Str}{py spos:Pos} (hN:X.N.Nodup) (hiy:X.N[i]?=some y) (hy:X.env.scope.names.lookup y=some .local) (hsw:Jf (.ListComp elt [⟨target,iter,[],0⟩] scope pos) (some (.Name y py)) spos.line X.env=pure true) (hc:X.calm=true) (S:CompScope X.env scope caps) (hi:PI X target iter wi)
 (hg : ∀ pins s3 H ex,PG (blk X pins scope (caps++own) s3 H ex) target g)
 (he : ∀ pins s3 H ex,PE (blk X pins scope (caps++own) s3 H ex) elt te)
 (hix:caps.length=ix.length:=by rfl) (hcapB:(caps.zip ix).all (fun p=>X.N[p.2]?==some p.1)=true:=by rfl)
  (hs : ∀ x,Yg iter X.env x=pure x:=by intro _;rfl):PS X (.Assign [.Name y py] (.ListComp elt [⟨target,iter,[],0⟩] scope pos) spos) (tAsg (qpx ix own.length wi g te) (qpd i)):=by
  intro pins s σ H D I h;rw [exec_Assign_Name_used _ _ _ _ hsw];refine Qi (Qfs (Qi ?_));show wpAny _ _ (do let _ <- Qio (.ListComp elt [⟨target,iter,[],0⟩] scope pos) scope X.env _ (newList []) false (eval iter X.env) (some (Qgs (.Name y py) X.env))) _ _ s;refine Qi (thn (qqd (use:=some (Qgs (.Name y py) X.env)) (Q0:=fun _ s'=>SP X pins D .next s') hc S hi hg he hix hcapB hs I h fun D' C s6 H6 m6 ns6 IX c1 c2 c3 c4 c5 c6 q=>?_) (fun _ s' hq=>Q4 (Q4 hq)));obtain ⟨oC,esC,epC,hoC,hdC,rC⟩:=id ns6;have IX':Inv X (pins++[(C,oC)]) σ H6 s6:=IX.pins_of fun p hp=>by
   rcases Zf.mp hp with z|z
   ·exact IX.pin p (Q8 _ z)
   ·rw [Qy.mp z];exact ⟨hoC,c1,c2,c3,fun v q=>by rw [hdC] at q;cases q⟩
  show wpAny _ _ (Qgs (.Name y py) X.env (.ref D')) _ _ _;refine wpAny_assign_Name (qil IX' hN hiy (Yy hy) (v :=.ref D') rfl (fun s7 I7=>?_) (.inr hy));have gC:s7.heap.get? C=some oC:=(I7.pin (C,oC) (Q8 _ (Q8 _ (Qy.mpr rfl)))).1;refine ⟨m6,⟨oC,esC,epC,gC,hdC,rC⟩,fun h' sb=>?_⟩;exact ⟨_,_,I7.unpinned.turned (t':=s7.toks) (it:=C) (fun b o hb q=>sb.extBut b o hb q) c1 c2 c4 c5 c6,q⟩
end
section
variable {K:Qd}{ix:List Nat}{n:Nat}{Wi:WF}{G:WG}{We:WE}{σ:St}{H:Hp}{R:VK}
end
section
variable {X:Cx}{elt target iter:Expr}{scope:Scope}{pos py spos:Pos}{caps own:List Str}{ix:List Nat}{Wi:WF}{G:WG}{We:WE}{i:Nat}{y:Str}
def qug (hN:X.N.Nodup) (hc:X.calm=true) (S:CompScope X.env scope caps) (hi:VI X target iter Wi) (hg : ∀ pins s3 H ex,VG (blk X pins scope (caps++own) s3 H ex) target G) (he : ∀ pins s3 H ex,VE (blk X pins scope (caps++own) s3 H ex) elt We)
 (hiy:X.N[i]?=some y:=by rfl) (hy:X.env.scope.names.lookup y=some .local:=by rfl) (hsw:Jf (.ListComp elt [⟨target,iter,[],0⟩] scope pos) (some (.Name y py)) spos.line X.env=pure true:=by rfl)
  (hix:caps.length=ix.length:=by rfl) (hcapB:(caps.zip ix).all (fun p=>X.N[p.2]?==some p.1)=true:=by rfl) (hs : ∀ x,Yg iter X.env x=pure x:=by intro _;rfl) :
  VS X (.Assign [.Name y py] (.ListComp elt [⟨target,iter,[],0⟩] scope pos) spos) (wSet i (wL (zaey ix own.length Wi G We))) :=
  (qpj (wi:=qjg X.K Wi) (g:=qpo X.K G) (te:=qfr X.K We) hN hiy hy hsw hc S hi hg he hix hcapB hs).imp fun D σ H ⟨M,env,F,DD,I,h,k⟩=>qml ⟨M,env,F,_,I,h,fun a vs ds F1 H1 e1 I1 s1 h1 h2 h3 h4 h5 h6 h7=>by
   obtain ⟨J,s⟩:=I1.frz h1 h2 h4 h5;exact k.nx _ _ H1 _ (J.setv (qcv (SqL.of ql) (h6.mono s))) (s1.trans s) h7⟩
def qlo (hN:X.N.Nodup) (hc:X.calm=true) (S:CompScope X.env scope caps) (hi:VI X target iter Wi) (hg : ∀ pins s3 H ex,VG (blk X pins scope (caps++own) s3 H ex) target G) (he : ∀ pins s3 H ex,VE (blk X pins scope (caps++own) s3 H ex) elt We)
 (hiy:X.N[i]?=some y:=by rfl) (hy:X.env.scope.names.lookup y=some .local:=by rfl) (hsw:Jf (.ListComp elt [⟨target,iter,[],0⟩] scope pos) (some (.Name y py)) spos.line X.env=pure true:=by rfl)
  (hix:caps.length=ix.length:=by rfl) (hcapB:(caps.zip ix).all (fun p=>X.N[p.2]?==some p.1)=true:=by rfl) (hs : ∀ x,Yg iter X.env x=pure x:=by intro _;rfl) :
  VS X (.Assign [.Name y py] (.ListComp elt [⟨target,iter,[],0⟩] scope pos) spos) (zaos i (zaey ix own.length Wi G We)) :=
  (qpj (wi:=qjg X.K Wi) (g:=qpo X.K G) (te:=qfr X.K We) hN hiy hy hsw hc S hi hg he hix hcapB hs).imp fun D σ H ⟨M,env,F,DD,I,h,k⟩=>qml ⟨M,env,F,_,I,h,fun a vs ds F1 H1 e1 I1 s1 h1 h2 h3 h4 h5 h6 h7 =>
   k.nx _ F1 H1 _ (I1.seto h1 h2 h3 h4 h5 h6) s1 h7⟩
end
end
section
section
variable {X:Cx}{tg:Expr}
end
def qbb (H:Hp) (a:Addr):Hp:=fun b=>if b=a then none else H b
structure GoP (a:Addr) (F H F' H':Hp):Prop where
 f:Same F F'
 h:Same (qbb H a) H'
 fh:Same F' H'
 new : ∀ b o,F' b=some o->F b=some o\/H b=none
 fa:F' a=none
def EnvOk.goP {K:Qd}{M:Frm}{F H F' H':Hp}{env:Sto}{σ:St}{i:Nat}{a:Addr}{ps ps':List V}{ds':List Qh} (I:EnvOk K M F H env σ) (m:(gS env i).mut=true) (ea:vS σ i=some (.ref a)) (ha:H a=some (.lst ps))
 (g:GoP a F H F' H') (h':H' a=some (.lst ps')) (hi:Iss K F' ds' ps'):EnvOk K M F' H' (env.set i ((gS env i).upd ds')) σ:=by
  have g1:Go F H F' (upd H' a (.lst ps)):=by
   refine ⟨g.f,fun b o e=>?_,fun b o e=>?_,g.new⟩
   ·by_cases z:b=a
    ·subst z;rw [ql,<- e,ha]
    ·rw [qi z];exact g.h b o (by unfold qbb;rw [if_neg z];exact e)
   ·rw [qi (qm e g.fa)];exact g.fh b o e
  have J:=(I.go g1).chg m ea hi;have e:upd (upd H' a (.lst ps)) a (.lst ps')=H':=by
   rw [zabf]
   funext b
   by_cases z:b=a
   ·subst z;rw [ql,h']
   ·rw [qi z]
  rw [e] at J;exact J
abbrev DP:=List Qh->List Qh->(Qh->List Qh->Prop)->Prop
def zajf (K:Qd) (r:DP):List V->Hp->VK->Prop:=fun vs H Q => ∃ F a ps rest ds0 ds q,vs = .ref a::rest/\Same F H/\F a=none/\H a=some (.lst ps)/\Iss K F ds0 ps/\Iss K F ds rest/\r ds0 ds q /\
 ∀ d v F' H' ps' ds',GoP a F H F' H'->H' a=some (.lst ps')->Iss K F' ds' ps'->Is K F' d v->q d ds'->Q v H'
def NSp (K:Qd) (sp:DP):Sp:=fun vs H Q _=>zajf K sp vs H Q
section
variable {X:Cx}
def zapl (i:Nat) (r:DP) (Wr:WF):WE:=fun env Q=>(gS env i).mut=true/\Wr env fun ds e=>(gS e i).mut=true/\r (gS e i).cnt ds fun d ds'=>Q d (e.set i ((gS e i).upd ds'))
def qay (i:Nat) {x y:Str}{p py pos:Pos}{es:List Expr}{Wr:WF}{k:Nat}{ps:List Str}{sp:DP} (O:Ok X.prog X.w X.K X.mg X.base x k ps (NSp X.K sp)) (hr:Room k X.A) (ha:VA X es Wr)
 (hN:X.N[i]?=some y:=by rfl) (hv:Vis X.env.scope y:=by first|exact Yy rfl|exact Z6 (Yy rfl)|exact Z6 (Z6 rfl)) (hd:Nd0 y:=by decide) (hcd:Nd1 y:=by decide)
  (hg:Gl X x:=by rfl) (hdb:Nd0 x:=by decide)
  (he:Qw (.Name y py::es) X.env=(false,eval (.Name y py) X.env)::Qw es X.env:=by rfl) (hpl:(Vl pos (Qw es X.env)).any (·.1)=false:=by rfl):VE X (.Call (.Name x p) (.Name y py::es) [] pos) (zapl i sp Wr) :=
  (qoc O hr (qz (t:=qgv X.K Wr) (qcx hN hv hd hcd) ha he) hg hdb he hpl).imp fun σ H R xx146=>by
   obtain ⟨M,env,F,Q,I,⟨m,h⟩,k⟩:=xx146;obtain ⟨a,vs,ea,g1,g2,g3,g4⟩:=(I.slot i).addr m;have e:qlq (NSp X.K sp) [] E0 (qze (qvj i) (qgv X.K Wr)) σ H R=qze (qvj i) (qgv X.K Wr) σ H fun vs H1=>zajf X.K sp vs H1 R:=by unfold qlq NSp;simp only [Ve]
   rw [e];refine ⟨_,qcj ea,M,env,F,_,I,h,fun ds us F1 H1 e1 I1 s1 i1 h1=>?_⟩;obtain ⟨m1,h1⟩:=h1;obtain ⟨a',vs1,ea',f1,f2,f3,f4⟩:=(I1.slot i).addr m1;rw [ea] at ea';injection ea' with ea';injection ea' with ea';subst ea';exact ⟨F1,a,vs1,us,_,ds,_,rfl,I1.fh,f2,f1,f4,i1,h1,fun d v F2 H2 ps2 ds2 g e2 i2 j2 q=>k d v F2 H2 _ (I1.goP m1 ea f1 g e2 i2) (s1.trans g.f) j2 q⟩
end
def qoz {K:Qd}{F H:Hp}{N:List Str}{a:Addr}{ps:List V}{ds0 ds:List Qh}{vs:List V} (s:Same F H) (fa:F a=none) (ha:H a=some (.lst ps)) (i0:Iss K F ds0 ps) (i:Iss K F ds vs) :
 EnvOk K ⟨qbb H a,H,F⟩ F H (.pen ds0::qas N.tail ds) (start N (.ref a::vs))↔(qas N.tail ds).length+1=(start N (.ref a::vs)).length:=by
  constructor
  ·intro I;exact I.len
  intro hl;refine ⟨by simpa using hl,fun j=>?_,fun i j b hij h1 h2=>?_,.refl _,s,s,fun b o e=>?_,fun b o e => .inl e,fun b o e=>⟨o,e⟩⟩
  ·cases j with
   | zero =>
    exact ⟨a,ps,qqn (N:=N) (vs :=.ref a::vs) (j:=0) rfl,ha,fa,by show qbb H a a=none;unfold qbb;rw [if_pos rfl],⟨_,ha⟩,i0⟩
   | succ j =>
    show SlotOk K _ F H (gS (qas N.tail ds) j) _;unfold qas;rw [qrt];cases h:ds[j]? with
    | none=>rw [qjx];trivial
    | some d =>
     obtain ⟨x,e1,e2⟩:=i.get h;exact ⟨x,qqn (N:=N) (vs :=.ref a::vs) (j:=j+1) (by simpa using e1),e2⟩
  ·have no : ∀ k,(gS (qas N.tail ds) k).mut=false:=fun k=>by
    unfold qas;rw [qrt];cases h:ds[k]? with
    | none=>rw [qjx];rfl
    | some d=>rfl
   cases i with
   | zero=>cases j with
    | zero=>exact absurd rfl hij
    | succ j=>have h2':(gS (qas N.tail ds) j).mut=true:=h2
              rw [no] at h2';cases h2'
   | succ i=>have h1':(gS (qas N.tail ds) i).mut=true:=h1
             rw [no] at h1';cases h1'
  ·have e:qbb H a b=some o:=e;unfold qbb at e;split at e
   ·cases e
   ·exact e
section
variable {P:Zj}{w:World}{K:Qd}{mg:Str->Option Value}{base:Heap}
def Def.vokP {x:Str}{st:Stmt}{N ps:List Str}{k:Nat}{sp:DP} (F:Def K mg x st ps) (S:FnScope N ps (defScope st)) (len : ∀ ds0 ds q,sp ds0 ds q->ds.length+1=ps.length) (hNp:ps.length<=N.length)
 (hbody : ∀ (f:Addr) (cdv:Value) (A:Z4) (outer:List Env) (s:Ql) (H:Hp) (E:XK),Room k (A.deeper (Qcx x (defScope st) s.heap.objs.size f cdv)) -> ∀ ds0 ds q,sp ds0 ds q ->
 ∃ W,VSs (qot CX0 P w K mg base N x (defScope st) f cdv A outer s H E).nox (defBody st) W /\
 W { nx:=fun e => ∃ ds',gS e 0 = .pen ds'/\q .none ds',rt:=fun r e => ∃ d ds',r = .val d/\gS e 0 = .pen ds'/\q d ds' } (.pen ds0::qas N.tail ds)):Ok P w K mg base x (k+1) ps (NSp K sp) :=
  F.ok S (fun vs H Q E xx148=>by obtain ⟨F,a,ps',rest,ds0,ds,q,e,_,_,_,_,i,h,_⟩:=xx148;rw [e,Zb,i.len];exact len ds0 ds q h) fun f cdv A outer s H vs Q E hr xx147=>by
   obtain ⟨F,a,ps',rest,ds0,ds,q,e,sm,fa,ha,i0,i,h,kk⟩:=xx147;subst e;obtain ⟨W,hW,hq⟩:=hbody f cdv A outer s H E hr ds0 ds q h;have hl:=len ds0 ds q h;have hlen:(qas N.tail ds).length+1=(start N (.ref a::rest)).length:=by
    simp only [qas,start,Z1,Qf,Qaj,List.length_tail,Zb,i.len];omega
   have same : ∀ {e1:Sto}{F1 H1:Hp}{σ1:St}{ds':List Qh},EnvOk K ⟨qbb H a,H,F⟩ F1 H1 e1 σ1->gS e1 0 = .pen ds'->GoP a F H F1 H1 /\ ∃ ps2,H1 a=some (.lst ps2)/\Iss K F1 ds' ps2:=fun {e1 F1 H1 σ1 ds'} I1 e0=>by
    have T:=I1.slot 0;rw [e0] at T;obtain ⟨b,vs2,eb,h1,h2,h3,⟨o,h4⟩,h5⟩:=T;have hb:b=a:=by
     rcases Nat.decEq b a with z|z
     ·have h3':qbb H a b=none:=h3;unfold qbb at h3';rw [if_neg z] at h3';have h4':H b=some o:=h4;rw [h4'] at h3';cases h3'
     ·exact z
    subst hb;exact ⟨⟨I1.f0,I1.bh,I1.fh,I1.new,h2⟩,vs2,h1,h5⟩
   refine ⟨_,hW,⟨qbb H a,H,F⟩,_,F,_,(qoz sm fa ha i0 i).mpr hlen,hq,⟨fun e1 F1 H1 σ1 I1 s1 q1=>?_,fun r v e1 F1 H1 σ1 I1 s1 r1 q1=>?_,fun _ _ _ _ _ _ h=>h.elim,fun _ _ _ _ _ _ h=>h.elim⟩⟩
   ·obtain ⟨ds',e0,q1⟩:=q1;obtain ⟨g,ps2,h1,h5⟩:=same I1 e0;exact kk _ _ F1 H1 ps2 ds' g h1 h5 qrs q1
   ·obtain ⟨d,ds',rfl,e0,q1⟩:=q1;obtain ⟨g,ps2,h1,h5⟩:=same I1 e0;exact kk _ _ F1 H1 ps2 ds' g h1 h5 r1 q1
end
end
section
def capP (i0:Nat) (ix:List Nat) (k:Nat) (env:Sto):Sto:=ix.map (fun i=>if i=i0 then .pen (gS env i0).cnt else (gS env i).seen)++Vd k .non
def zaan (i0 j0:Nat) (ix:List Nat) (k:Nat) (Wi:WF) (G:WG) (We:WE):WF:=fun env Q=>Wi env fun ds e0=>ds.length<Q6/\(gS e0 i0).mut=true /\ ∃ P:Nat->List Qh->Sto->Prop,P 0 [] (capP i0 ix k e0) /\
 (∀ i d ys e,ds[i]?=some d->P i ys e->G d e fun e1=>We e1 fun y e2=>P (i+1) (ys++[y]) e2) /\ ∀ ys e,P ds.length ys e -> ∃ ds',gS e j0 = .pen ds'/\Q ys (e0.set i0 ((gS e0 i0).upd ds'))
def EnvOk.capP {K:Qd}{M:Frm}{F H:Hp}{env:Sto}{σ:St}{i0:Nat}{a:Addr} (I:EnvOk K M F H env σ) (m:(gS env i0).mut=true) (ea:vS σ i0=some (.ref a)) (ix:List Nat) (k:Nat) (nd : ∀ j j':Nat,ix[j]?=some i0->ix[j']?=some i0->j=j') :
 EnvOk K ⟨qbb H a,H,F⟩ F H (L2.capP i0 ix k env) (qsg ix k σ) where
  len:=by simp [L2.capP,qsg]
  slot:=fun j=>by
   unfold L2.capP;rw [qrn];cases h:ix[j]? with
   | none=>rw [qjx];trivial
   | some i =>
    show SlotOk K _ F H (if i=i0 then .pen (gS env i0).cnt else (gS env i).seen) _;rw [zajg ix k σ j i h];by_cases z:i=i0
    ·subst z;rw [if_pos rfl];obtain ⟨a',vs,e,h1,h2,h3,h5⟩:=(I.slot i).addr m;rw [ea] at e;injection e with e;injection e with e;subst e;exact ⟨a,vs,ea,h1,h2,by show qbb H a a=none;unfold qbb;rw [if_pos rfl],⟨_,h1⟩,h5⟩
    ·rw [if_neg z];have S:=I.slot i;cases q:gS env i with
     | val d=>rw [q] at S;exact S
     | non=>trivial
     | own ds=>trivial
     | pen ds=>trivial
     | new d=>rw [q] at S;obtain ⟨v,e,j⟩:=S;exact ⟨v,e,j.is qhp⟩
     | exc C=>trivial
     | obj a0 C nm fs=>trivial
  dis:=fun i j b hij h1 h2=>by
   have key : ∀ n,(gS (L2.capP i0 ix k env) n).mut=true->ix[n]?=some i0:=fun n hn=>by
    unfold L2.capP at hn;rw [qrn] at hn;cases h:ix[n]? with
    | none=>rw [h,qjx] at hn;cases hn
    | some c =>
     rw [h] at hn;replace hn:(if c=i0 then Sl.pen (gS env i0).cnt else (gS env c).seen).mut=true:=hn
     by_cases z:c=i0
     ·rw [z]
     ·rw [if_neg z] at hn;cases q:gS env c <;> rw [q] at hn <;> cases hn
   exact absurd (nd i j (key i h1) (key j h2)) hij
  f0 :=.refl _
  fe:=I.fh
  fh:=I.fh
  bh:=fun b o e=>by
   have e:qbb H a b=some o:=e;unfold qbb at e;split at e
   ·cases e
   ·exact e
  new:=fun b o e => .inl e
  dom:=fun b o e=>⟨o,e⟩
def EnvOk.penGo {K:Qd}{F H F1 H1:Hp}{a:Addr}{e1:Sto}{σ1:St}{j:Nat}{ds':List Qh} (I1:EnvOk K ⟨qbb H a,H,F⟩ F1 H1 e1 σ1) (e0:gS e1 j = .pen ds'):GoP a F H F1 H1 /\ ∃ ps2,H1 a=some (.lst ps2)/\Iss K F1 ds' ps2:=by
 have T:=I1.slot j;rw [e0] at T;obtain ⟨b,vs2,eb,h1,h2,h3,⟨o,h4⟩,h5⟩:=T;have hb:b=a:=by
  rcases Nat.decEq b a with z|z
  ·have h3':qbb H a b=none:=h3;unfold qbb at h3';rw [if_neg z] at h3';have h4':H b=some o:=h4;rw [h4'] at h3';cases h3'
  ·exact z
 subst hb;exact ⟨⟨I1.f0,I1.bh,I1.fh,I1.new,h2⟩,vs2,h1,h5⟩
def qpg {K:Qd}{ix:List Nat}{n i0 j0:Nat}{Wi:WF}{G:WG}{We:WE}{σ:St}{H:Hp}{R:VK} (nd : ∀ j j':Nat,ix[j]?=some i0->ix[j']?=some i0->j=j') (h:qob K (zaan i0 j0 ix n Wi G We) σ H R):qpx ix n (qjg K Wi) (qpo K G) (qfr K We) σ H R:=by
 obtain ⟨M,env,F,Q,I,h,k⟩:=h;refine ⟨M,env,F,_,I,h,fun ds J F1 H1 e1 I1 s1 jt xx150=>?_⟩;obtain ⟨hz,hm,P,p0,turn,fin⟩:=xx150;obtain ⟨a,vs,ea,a1,a2,a3,a4⟩:=(I1.slot i0).addr hm;refine ⟨fun i m ys σ1 H'=>m=ds.length-i/\i<=ds.length /\ ∃ e' F' l,EnvOk K ⟨qbb H1 a,H1,F1⟩ F' H' e' σ1/\Iss K F' l ys/\ys.length=i/\P i l e',⟨ds.length,by simp,Yc _,capP i0 ix n e1,F1,[],I1.capP hm ea ix n nd,qQ,rfl,p0⟩,?_⟩;rintro i m ys σ1 H2 ⟨hm',hi,e2,F2,l,I2,i2,hl,p2⟩;by_cases he:i=ds.length
 ·subst he;obtain ⟨ds',e0,q⟩:=fin l e2 p2;obtain ⟨g,ps2,h1,h5⟩:=I2.penGo e0;exact .inl ⟨jt.stop H2 (I2.f0.trans I2.fh),by omega,qqc (I1.goP hm ea a1 g h1 h5) (s1.trans g.f) i2 q k⟩
 ·have hlt:i<ds.length:=by omega
  refine .inr ⟨jt.go i H2 (I2.f0.trans I2.fh) hlt,by omega,fun y σ' H' => ∃ e' F' l',EnvOk K ⟨qbb H1 a,H1,F1⟩ F' H' e' σ'/\Iss K F' l' (ys++[y])/\P (i+1) l' e',
   fun y σ' H' xx149=>by obtain ⟨e',F',l',I',i',p'⟩:=xx149;exact ⟨ds.length-(i+1),by omega,rfl,hlt,e',F',l',I',i',by simp [hl],p'⟩,fun x H3 hy=>?_⟩
  obtain ⟨d,F3,hd,g,j⟩:=jt.yld i H2 x H3 F2 I2.f0 I2.fh hlt hy;refine ⟨_,e2,F3,d,_,I2.go g,j,turn i d l e2 hd p2,fun F4 H4 e4 σ4 I4 s4 h4=>⟨_,e4,F4,_,I4,h4,fun d5 v5 F5 H5 e5 I5 s5 i5 h5=>?_⟩⟩;exact ⟨e5,F5,l++[d5],I5,qaz ((i2.mono (g.f.trans s4)).mono s5) (qw i5 qQ),h5⟩
section
variable {X:Cx}{elt target iter:Expr}{scope:Scope}{pos py spos:Pos}{caps own:List Str}{ix:List Nat}{Wi:WF}{G:WG}{We:WE}{i i0 j0:Nat}{y:Str}
def zafh (hc:X.calm=true) (S:CompScope X.env scope caps) (hi:VI X target iter Wi) (hg : ∀ pins s3 H ex,VG (blk X pins scope (caps++own) s3 H ex) target G) (he : ∀ pins s3 H ex,VE (blk X pins scope (caps++own) s3 H ex) elt We)
 (nd : ∀ j j':Nat,ix[j]?=some i0->ix[j']?=some i0->j=j')
 (hix:caps.length=ix.length:=by rfl) (hcapB:(caps.zip ix).all (fun p=>X.N[p.2]?==some p.1)=true:=by rfl) (hs : ∀ x,Yg iter X.env x=pure x:=by intro _;rfl):VF X (.ListComp elt [⟨target,iter,[],0⟩] scope pos) (zaan i0 j0 ix own.length Wi G We) :=
  (zacl (wi:=qjg X.K Wi) (g:=qpo X.K G) (te:=qfr X.K We) hc S hi hg he hix hcapB hs).imp fun σ H R h=>qpg nd h
def zagw (hN:X.N.Nodup) (hc:X.calm=true) (S:CompScope X.env scope caps) (hi:VI X target iter Wi) (hg : ∀ pins s3 H ex,VG (blk X pins scope (caps++own) s3 H ex) target G) (he : ∀ pins s3 H ex,VE (blk X pins scope (caps++own) s3 H ex) elt We)
 (nd : ∀ j j':Nat,ix[j]?=some i0->ix[j']?=some i0->j=j')
 (hiy:X.N[i]?=some y:=by rfl) (hy:X.env.scope.names.lookup y=some .local:=by rfl) (hsw:Jf (.ListComp elt [⟨target,iter,[],0⟩] scope pos) (some (.Name y py)) spos.line X.env=pure true:=by rfl)
  (hix:caps.length=ix.length:=by rfl) (hcapB:(caps.zip ix).all (fun p=>X.N[p.2]?==some p.1)=true:=by rfl) (hs : ∀ x,Yg iter X.env x=pure x:=by intro _;rfl) :
  VS X (.Assign [.Name y py] (.ListComp elt [⟨target,iter,[],0⟩] scope pos) spos) (wSet i (wL (zaan i0 j0 ix own.length Wi G We))) :=
  (qpj (wi:=qjg X.K Wi) (g:=qpo X.K G) (te:=qfr X.K We) hN hiy hy hsw hc S hi hg he hix hcapB hs).imp fun D σ H ⟨M,env,F,DD,I,h,k⟩=>qpg nd ⟨M,env,F,_,I,h,fun a vs ds F1 H1 e1 I1 s1 h1 h2 h3 h4 h5 h6 h7=>by
   obtain ⟨J,s⟩:=I1.frz h1 h2 h4 h5;exact k.nx _ _ H1 _ (J.setv (qcv (SqL.of ql) (h6.mono s))) (s1.trans s) h7⟩
end
def qxi {ix:List Nat}{i0:Nat} (h:(Q1 ix.length).all (fun j=>(Q1 ix.length).all fun j' => !(ix[j]?==some i0&&ix[j']?==some i0)||j==j')=true) : ∀ j j':Nat,ix[j]?=some i0->ix[j']?=some i0->j=j':=fun j j' h1 h2=>by
 have a:=(Qm.mp h1).1;have b:=(Qm.mp h2).1;have q:=Y5.mp (Y5.mp h j (Zh.mpr a)) j' (Zh.mpr b);simpa [h1,h2] using q
end
section
section
variable {X:Cx}{pins:List (Addr×Obj)}{σ:St}{H:Hp}{s:Ql}
end
section
variable {P:Zj}{w:World}{K:Qd}{mg:Str->Option Value}{base:Heap}{N:List Str}{qual:Str}{scope:Scope}{f:Addr}{cd:Value}{A:Z4}{outer:List Env}{s:Ql}{H:Hp}{E:XK}
end
end
section
section
variable {X:Cx}{x:Str}{C:Addr}{E:XK}{e:Expr}{es:List Expr}{t:TA}{np cpos pos:Pos}
end
end
section
section
variable {M:Model}{A:Z4}{E:Value->Ql->Prop}{C N C' N':Addr}{nm nm' q q':Str}{bs bm bs' bm':List Value}
end
section
variable {X:Cx}{pins:List (Addr×Obj)}{σ:St}{H1 H2:Hp}{s1 s':Ql}{B h5:Heap}
end
section
variable {X:Cx}{pins:List (Addr×Obj)}{σ:St}{H:Hp}{s:Ql}
end
end
section
section
variable {X:Cx}{pins pins0:List (Addr×Obj)}{σ:St}{H:Hp}{s:Ql}
end
section
variable {X:Cx}{body suite:List Stmt}{b₀:Stmt}{x n:Str}{np hpos pos:Pos}{C':Addr}{i:Nat}{tb:(St->XK)->TS}{ts:TS}
end
end
section
section
variable {K:Qd}{M:Frm}{F H:Hp}{env:Sto}{σ:St}
def EnvOk.sets (I:EnvOk K M F H env σ) {i:Nat}{s:Sl}{v:Option V} (m:s.mut=false) (h:SlotOk K M F H s v):EnvOk K M F H (env.set i s) (σ.set i v) where
 len:=by rw [Ye,Ye];exact I.len
 slot:=fun j=>by
  rw [qdv,qoo,I.len];split
  ·exact h
  ·exact I.slot j
 dis:=fun j k a hjk h1 h2 h3 h4=>by
  rw [qdv] at h1 h2;rw [qoo] at h3 h4;rw [I.len] at h1 h2;split at h1
  ·rw [m] at h1;cases h1
  ·rename_i z1;split at h2
   ·rw [m] at h2;cases h2
   ·rename_i z2;rw [if_neg z1] at h3;rw [if_neg z2] at h4;exact I.dis j k a hjk h1 h2 h3 h4
 f0:=I.f0
 fe:=I.fe
 fh:=I.fh
 bh:=I.bh
 new:=I.new
 dom:=I.dom
end
abbrev WX:=Addr->Sto->Prop
def ExOk (K:Qd) (M:Frm) (F:Hp) (Wx:WX) (Ex:St->XK):Prop := ∀ C env' F' H' σ',EnvOk K M F' H' env' σ'->Same F F'->Wx C env'->Ex σ' (.ref C) none H'
def zaqs (K:Qd) (Ex:St->XK) (W:WX->WE):TE:=fun σ H R => ∃ M env F Wx Q,EnvOk K M F H env σ/\W Wx env Q/\ExOk K M F Wx Ex /\ ∀ d v F' H' env',EnvOk K M F' H' env' σ->Same F F'->Is K F' d v->Q d env'->R v H'
def zajq (K:Qd) (Ex:St->XK) (W:WX->WS):TS:=fun D σ H => ∃ M env F Wx DD,EnvOk K M F H env σ/\W Wx DD env/\ExOk K M F Wx Ex/\EndsOk K M F DD D
def VEX (X:Cx) (Ex:St->XK) (e:Expr) (W:WX->WE):Prop:=PE X e (zaqs X.K Ex W)
def VSX (X:Cx) (Ex:St->XK) (st:Stmt) (W:WX->WS):Prop:=PS X st (zajq X.K Ex W)
def VSsX (X:Cx) (Ex:St->XK) (st:List Stmt) (W:WX->WS):Prop:=PSs X st (zajq X.K Ex W)
abbrev DE:=List Qh->(Qh->Prop)->(Addr->Prop)->Prop
section
variable {X:Cx}{Ex:St->XK}{x:Str}{k:Nat}{ps:List Str}{sp:DE}{e c:Expr}{es:List Expr}{p pos:Pos}{Wr:WF}{st:Stmt}{rest A B:List Stmt}{Tc:WT}{W:WX->WE}{Wt Wu:WX->WS}{W0:WS}
end
end
section
section
variable {X:Cx}{Ex:St->XK}{E:XK}{x y n:Str}{k i j:Nat}{ps:List Str}{sp:DE}{e:Expr}{es:List Expr}{p np cpos hpos pos pos':Pos}{Wr:WF}{st b₀:Stmt}{body suite:List Stmt}{C C':Addr}{Wb:WX->WS}{Ws:WS}
end
section
variable {P:Zj}{w:World}{K:Qd}{mg:Str->Option Value}{base:Heap}
end
end
section
section
variable {prog:Zj}{w:World}{A:Z4}{E:Value->Ql->Prop}{h:Heap}{g:Array GenState}{d:Drawn}{t:Nat}{os:OsState}{a:Addr}{o:Obj}{K:Qd}
 {nm q:Str}{C N:Addr}{bs bm:List Value}{hdct:Bool}{sn:List Str}{sub:List Value}{ab:Bool}{col:Option Bool}{dd:Option Addr}{k0 k1 k2 k3 k5:Option Value}{newId:String}
end
end
section
section
variable {X:Cx}
section
variable {y:Str}{c:Expr}{cs:List Expr}{v:V}{vs:List V}{u:Value}{us:List Value}{p py pt pos:Pos}{x1:Nat}
end
end
end
section
section
variable {prog:Zj}{w:World}{A:Z4}{E:Value->Ql->Prop}{s:Ql}
def SqIt (b:Bool) (h:Heap) (j l:Addr) (i:Nat):Prop:=match b with
 | true=>h.IsTupleIter j l i
 | false=>h.IsListIter j l i
def SqOf (b:Bool) (h:Heap) (l:Addr) (us:Array Value):Prop:=match b with
 | true=>h.IsTuple l us
 | false=>h.IsList l us
def itTy:Bool->String
 | true => "tuple_iterator"
 | false => "list_iterator"
abbrev itO (b:Bool) (l:Addr):Obj:={ cls :=.type (itTy b),data :=.fields #[.ref l,.int 0 0] }
def SqIt.at' {b:Bool}{h h':Heap}{j l:Addr}{i:Nat} (x:SqIt b h j l i) (e : ∀ o,h.get? j=some o->h'.get? j=some o):SqIt b h' j l i:=by
 cases b with
 | true=>exact Heap.IsTupleIter.at x e
 | false=>exact Heap.IsListIter.at x e
def SqIt.but {b:Bool}{h h':Heap}{j l c:Addr}{i:Nat} (x:SqIt b h j l i) (e:Vh c h h') (n:j≠c):SqIt b h' j l i:=x.at' fun o q=>e.extBut j o n q
def SqIt.obj {b:Bool}{h:Heap}{j l:Addr}{i:Nat} (x:SqIt b h j l i) : ∃ o,h.get? j=some o /\ ∀ v,o.data ≠ .cell v:=by
 cases b with
 | true=>obtain ⟨o,q,_,d⟩:=x;exact ⟨o,q,fun v z=>by rw [d] at z;cases z⟩
 | false=>obtain ⟨o,q,_,d⟩:=x;exact ⟨o,q,fun v z=>by rw [d] at z;cases z⟩
def SqOf.at' {b:Bool}{h h':Heap}{l:Addr}{us:Array Value} (x:SqOf b h l us) (e : ∀ o,h.get? l=some o->h'.get? l=some o):SqOf b h' l us:=by
 cases b with
 | true=>obtain ⟨o,q,r⟩:=x;exact ⟨o,e o q,r⟩
 | false=>exact Heap.IsList.at x e
def SqOf.but {b:Bool}{h h':Heap}{l c:Addr}{us:Array Value} (x:SqOf b h l us) (e:Vh c h h') (n:l≠c):SqOf b h' l us:=x.at' fun o q=>e.extBut l o n q
def SqOf.lt {b:Bool}{h:Heap}{l:Addr}{us:Array Value} (x:SqOf b h l us):l<h.objs.size:=by
 cases b with
 | true=>obtain ⟨o,q,_⟩:=x;exact Qx q
 | false=>obtain ⟨o,q,_⟩:=x;exact Qx q
def zahn {j t:Addr}{k:Nat}{us:Array Value}{u:Value}{Q:Value->Ql->Prop} (hj:s.heap.IsTupleIter j t k) (ht:s.heap.IsTuple t us) (hu:us[k]?=some u)
 (q : ∀ h',h'.IsTupleIter j t (k+1)->Vh j s.heap h'->Q u { s with heap:=h' }):wpAny (model prog w) A (Zs (.ref j)) Q E s:=by
  obtain ⟨ob,e1,e2,e3⟩:=id hj;obtain ⟨ot,f1,_,nt,f3⟩:=ht;unfold Zs;refine Qi (Vf (name:=Qq "__next__") hj.typeIs Jc (Vm Jc hj.typeIs Qdq ?_ (Qdi _)));show wpAny _ _ (field (.ref j) 0 >>= _) _ _ s;refine Qi (Vq e1 e3 (x :=.ref t) rfl ?_);show wpAny _ _ (if (Yt t==Y7)=true then _ else _) _ _ s;rw [if_neg (fun z:(Yt t==Y7)=true=>Zo z)];show wpAny _ _ (field (.ref j) 1 >>= _) _ _ s;refine Qi (Vq e1 e3 (x :=.int k 0) rfl ?_);show wpAny _ _ (seqItems? (.ref t) >>= _) _ _ s;refine Qi (Ji f1 f3 ?_);simp only [Yd,hu];refine Qi (Qeu e1 e3 (by simp) (Q4 ⟨u,rfl,Q4 (q _ ?_ (Vo ..))⟩));exact ⟨_,Qak _ e1 (Qgf (Qbu e3 _)),(Qis ..).trans e2,by rw [Qbu e3];simp [Qek]⟩
def zakl {j t:Addr}{k:Nat}{us:Array Value}{Q:Value->Ql->Prop} (hh:A.handled=none) (hj:s.heap.IsTupleIter j t k) (ht:s.heap.IsTuple t us) (hu:us[k]?=none)
 (q : ∀ h' e,Qkb j s.heap h'->(∃ o,h'.get? e=some o/\o.cls = .type "StopIteration")->E (.ref e) { s with heap:=h' }):wpAny (model prog w) A (Zs (.ref j)) Q E s:=by
  obtain ⟨ob,e1,e2,e3⟩:=id hj;obtain ⟨ot,f1,_,nt,f3⟩:=ht;unfold Zs;refine Qi (Vf (name:=Qq "__next__") hj.typeIs Jc (Vm Jc hj.typeIs Qdq ?_ (Qdi _)));show wpAny _ _ (field (.ref j) 0 >>= _) _ _ s;refine Qi (Vq e1 e3 (x :=.ref t) rfl ?_);show wpAny _ _ (if (Yt t==Y7)=true then _ else _) _ _ s;rw [if_neg (fun z:(Yt t==Y7)=true=>Zo z)];show wpAny _ _ (field (.ref j) 1 >>= _) _ _ s;refine Qi (Vq e1 e3 (x :=.int k 0) rfl ?_);show wpAny _ _ (seqItems? (.ref t) >>= _) _ _ s;refine Qi (Ji f1 f3 ?_);simp only [Yd,hu];refine Qi (Qdm (Qi (Qeu e1 e3 (by simp) ?_)));show wpAny _ _ (newExc (.type "StopIteration") [] >>= _) _ _ _;refine Qi (?_:wpAny _ _ (newExc (.type "StopIteration") []) _ _ _);simp only [newExc,newTuple];refine Qi (Jt (?_:_) (by size_fits));refine Qi (m:=firstArgMember _ _) (wpAny_of_eq (a:=Y7) (by first|rfl|(simp only [firstArgMember];rfl)|skip) ?_);refine Jt (?_:_) (by size_fits);simp only [raiseNew];refine Qi (wpAny_handled (?_:_))
  first|rw [hh]|rw [show A.in1.handled=none from hh]
  refine Qi (Q4 (wpAny_throw (?_:_)));exact q _ _ (((Vo ..).extBut.push _).push _) ⟨_,Qz _ rfl,rfl⟩
def qrk {b:Bool}{j l:Addr}{k:Nat}{us:Array Value}{u:Value}{Q:Value->Ql->Prop} (hj:SqIt b s.heap j l k) (hl:SqOf b s.heap l us) (hu:us[k]?=some u)
 (q : ∀ h',SqIt b h' j l (k+1)->Vh j s.heap h'->Q u { s with heap:=h' }):wpAny (model prog w) A (Zs (.ref j)) Q E s:=by
  cases b with
  | true=>exact zahn hj hl hu q
  | false=>exact wpAny_nextOf_list_item hj hl hu q
def zabo {b:Bool}{j l:Addr}{k:Nat}{us:Array Value}{Q:Value->Ql->Prop} (hh:A.handled=none) (hj:SqIt b s.heap j l k) (hl:SqOf b s.heap l us) (hu:us[k]?=none)
 (q : ∀ h' e,Qkb j s.heap h'->(∃ o,h'.get? e=some o/\o.cls = .type "StopIteration")->E (.ref e) { s with heap:=h' }):wpAny (model prog w) A (Zs (.ref j)) Q E s:=by
  cases b with
  | true=>exact zakl hh hj hl hu q
  | false=>exact wpAny_nextOf_list_end hh hj hl hu q
def zabj {b:Bool}{l:Addr}{us:Array Value}{Q:Value->Ql->Prop} (hl:SqOf b s.heap l us) (q:Q (.ref s.heap.objs.size) { s with heap:=s.heap.push (itO b l) }):wpAny (model prog w) A (pyIter (.ref l)) Q E s:=by
 cases b with
 | true=>exact Qel hl q
 | false=>exact Qcs hl q
def zagy {b c:Bool}{z TI TO j1 j2 l1 l2:Addr}{k1 k2:Nat}{us vs:Array Value}{u v x0 y0:Value}{Q:Value->Ql->Prop} (D:Qju z TI TO j1 j2 l1 l2)
 (a0:IsZip s.heap z TI TO .none) (a1:Qbd s.heap TI (.ref j1) (.ref j2)) (a2:Qbd s.heap TO x0 y0)
 (e1:SqIt b s.heap j1 l1 k1) (e2:SqIt c s.heap j2 l2 k2) (g1:SqOf b s.heap l1 us) (g2:SqOf c s.heap l2 vs) (hu:us[k1]?=some u) (hv:vs[k2]?=some v)
 (q : ∀ h',IsZip h' z TI TO (Qek s.heap.objs.size)->Qbd h' TO u v->SqIt b h' j1 l1 (k1+1)->SqIt c h' j2 l2 (k2+1)->Qbd h' s.heap.objs.size u v->h'.objs.size=s.heap.objs.size+1 ->
 (∀ a o,a≠z->a≠TO->a≠j1->a≠j2->s.heap.get? a=some o->h'.get? a=some o)->Q (.ref s.heap.objs.size) { s with heap:=h' }) :
  wpAny (model prog w) A (Builtin.«zip.__next__» ⟨[.ref z],[]⟩) (fun r s' => ∃ y,r = .done (.ret y)/\Q y s') E s:=by
  show wpAny _ _ (field (.ref z) 2 >>= _) _ _ _;refine Qi (Vq a0 rfl (x :=.bool false) rfl ?_);show wpAny _ _ (field (.ref z) 3 >>= _) _ _ _;refine Qi (Vq a0 rfl (x :=.ref TI) rfl ?_);refine Qi (Ji a1 rfl ?_);show wpAny _ _ (Z3 (.ref z) >>= _) _ _ _;refine Qi (?_:wpAny _ _ (Z3 (.ref z)) _ _ _);unfold Z3;refine Qi (Vq a0 rfl (x :=.none) rfl (Q4 ?_));simp only [if_true];refine Qi (Qdm (?_:_));refine Qi (Vq a0 rfl (x :=.ref TO) rfl ?_);refine Qi (Jg a0 (by simp) fun p1 b0 m1=>?_);replace b0:IsZip p1 z TI TO .ellipsis:=b0
  refine Qi (?_:_);simp only [Qjm,Qkc,Qkd,Qho];refine Qi (Qi (Qfr (?_:_)));show wpAny _ _ (Zs (.ref j1) >>= _) _ _ _;refine Qi (qrk (e1.but m1 D.i1z) (g1.but m1 D.l1z) hu fun p2 f1 m2=>Q4 ?_);have c2:Qbd p2 TO x0 y0:=m2.extBut _ _ D.TOi1 (m1.extBut _ _ D.TOz a2);refine Qi (Ji c2 rfl ?_);refine Qi (Qdh c2 fun p3 c3 m3=>?_);replace c3:Qbd p3 TO u y0:=c3
  refine Qi (Qhx (Q4 (?_:_)));refine Qi (Qi (Qfr (?_:_)));show wpAny _ _ (Zs (.ref j2) >>= _) _ _ _;refine Qi (qrk (((e2.but m1 D.i2z).but m2 D.i12.symm).but m3 D.TOi2.symm) (((g2.but m1 D.l2z).but m2 D.l2i1).but m3 D.l2TO) hv fun p4 f2 m4=>Q4 ?_);have c4:Qbd p4 TO u y0:=m4.extBut _ _ D.TOi2 c3;refine Qi (Ji c4 rfl ?_);refine Qi (Qdh c4 fun p5 c5 m5=>?_);replace c5:Qbd p5 TO u v:=c5
  refine Qi (Qhx (Q4 (Q4 (?_:_))));refine Qi (Ji c5 rfl ?_);refine Qi (wpAny_newTuple (?_:_));have sz:p5.objs.size=s.heap.objs.size:=by rw [m5.1,m4.1,m3.1,m2.1,m1.1]
  have b5:IsZip p5 z TI TO .ellipsis:=m5.extBut _ _ D.TOz.symm (m4.extBut _ _ D.i2z.symm (m3.extBut _ _ D.TOz.symm (m2.extBut _ _ D.i1z.symm b0)));have k5 : ∀ a o,a≠z->a≠TO->a≠j1->a≠j2->s.heap.get? a=some o->p5.get? a=some o:=fun a o n1 n2 n3 n4 e =>
   m5.extBut _ _ n2 (m4.extBut _ _ n4 (m3.extBut _ _ n2 (m2.extBut _ _ n3 (m1.extBut _ _ n1 e))))
  have f5:SqIt b p5 j1 l1 (k1+1):=((f1.but m3 D.TOi1.symm).but m4 D.i12).but m5 D.TOi1.symm;have f6:SqIt c p5 j2 l2 (k2+1):=f2.but m5 D.TOi2.symm;have zlt:z<p5.objs.size:=Qx b5;show wpAny _ _ (V5 (.ref z) (.ref p5.objs.size) >>= _) _ _ _;refine Qi (?_:wpAny _ _ (V5 (.ref z) (.ref p5.objs.size)) _ _ _);unfold V5;have b6:IsZip (p5.push { cls :=.type "tuple",data :=.seq #[u,v] }) z TI TO .ellipsis:=Qj _ b5;refine Qi (Jg b6 (by simp) fun p7 b7 m7=>?_);replace b7:IsZip p7 z TI TO (Qek p5.objs.size):=b7
  refine Jg b7 (by simp) fun p8 b8 m8=>?_;replace b8:IsZip p8 z TI TO (Qek p5.objs.size):=b8
  have up : ∀ a o,a≠z->p5.get? a=some o->p8.get? a=some o:=fun a o n e=>m8.extBut _ _ n (m7.extBut _ _ n (Qj _ e));have t8:Qbd p8 p5.objs.size u v:=m8.extBut _ _ (Yu zlt) (m7.extBut _ _ (Yu zlt) (Qz _ rfl));have z8:p8.objs.size=p5.objs.size+1:=by rw [m8.1,m7.1,Yo]
  rw [sz] at b8 t8 z8;refine Q4 ⟨_,rfl,(?_:Q (.ref p5.objs.size) _)⟩;rw [sz];exact q p8 b8 (up _ _ D.TOz c5) (f5.at' fun o e=>up _ o D.i1z e) (f6.at' fun o e=>up _ o D.i2z e) t8 z8 fun a o n1 n2 n3 n4 e=>up a o n1 (k5 a o n1 n2 n3 n4 e)
def zame {b c:Bool}{z TI TO j1 j2 l1 l2:Addr}{k1 k2:Nat}{us vs:Array Value}{x0 y0:Value}{Q:Fin->Ql->Prop} (hh:A.handled=none) (D:Qju z TI TO j1 j2 l1 l2)
 (a0:IsZip s.heap z TI TO .none) (a1:Qbd s.heap TI (.ref j1) (.ref j2)) (a2:Qbd s.heap TO x0 y0)
 (e1:SqIt b s.heap j1 l1 k1) (e2:SqIt c s.heap j2 l2 k2) (g1:SqOf b s.heap l1 us) (g2:SqOf c s.heap l2 vs) (hend:us[k1]?=none\/vs[k2]?=none)
 (q : ∀ h' e,(∀ a o,a≠z->a≠TO->a≠j1->a≠j2->s.heap.get? a=some o->h'.get? a=some o)->(∃ o,h'.get? e=some o/\o.cls = .type "StopIteration")->E (.ref e) { s with heap:=h' }) :
  wpAny (model prog w) A (Builtin.«zip.__next__» ⟨[.ref z],[]⟩) Q E s:=by
  show wpAny _ _ (field (.ref z) 2 >>= _) _ _ _;refine Qi (Vq a0 rfl (x :=.bool false) rfl ?_);show wpAny _ _ (field (.ref z) 3 >>= _) _ _ _;refine Qi (Vq a0 rfl (x :=.ref TI) rfl ?_);refine Qi (Ji a1 rfl ?_);show wpAny _ _ (Z3 (.ref z) >>= _) _ _ _;refine Qi (?_:wpAny _ _ (Z3 (.ref z)) _ _ _);unfold Z3;refine Qi (Vq a0 rfl (x :=.none) rfl (Q4 ?_));simp only [if_true];refine Qi (Qdm (?_:_));refine Qi (Vq a0 rfl (x :=.ref TO) rfl ?_);refine Qi (Jg a0 (by simp) fun p1 b0 m1=>?_);replace b0:IsZip p1 z TI TO .ellipsis:=b0
  refine Qi (?_:_);simp only [Qjm,Qkc,Qkd,Qho];refine Qi (Qi (Qfr (?_:_)));show wpAny _ _ (Zs (.ref j1) >>= _) _ _ _;cases hu:us[k1]? with
  | none =>
   refine Qi (zabo hh (e1.but m1 D.i1z) (g1.but m1 D.l1z) hu fun p2 e m2 he=>?_);obtain ⟨oe,h3,h4⟩:=he;have b2:IsZip p2 z TI TO .ellipsis:=m2 _ _ D.i1z.symm b0;have nz:e≠z:=fun x=>by subst x;rw [b2] at h3;cases h3;simp at h4
   exact Jg b2 (by simp) fun p3 _ m3=>q p3 e (fun a o n1 _ n3 _ x=>m3.extBut _ _ n1 (m2 _ _ n3 (m1.extBut _ _ n1 x))) ⟨oe,m3.extBut _ _ nz h3,h4⟩
  | some u =>
   have hv:vs[k2]?=none:=by
    rcases hend with h|h
    ·rw [hu] at h;cases h
    ·exact h
   refine Qi (qrk (e1.but m1 D.i1z) (g1.but m1 D.l1z) hu fun p2 f1 m2=>Q4 ?_);have c2:Qbd p2 TO x0 y0:=m2.extBut _ _ D.TOi1 (m1.extBut _ _ D.TOz a2);refine Qi (Ji c2 rfl ?_);refine Qi (Qdh c2 fun p3 c3 m3=>?_);refine Qi (Qhx (Q4 (?_:_)));refine Qi (Qi (Qfr (?_:_)));show wpAny _ _ (Zs (.ref j2) >>= _) _ _ _;refine Qi (zabo hh (((e2.but m1 D.i2z).but m2 D.i12.symm).but m3 D.TOi2.symm) (((g2.but m1 D.l2z).but m2 D.l2i1).but m3 D.l2TO) hv fun p4 e m4 he=>?_);obtain ⟨oe,h3,h4⟩:=he;have b4:IsZip p4 z TI TO .ellipsis:=m4 _ _ D.i2z.symm (m3.extBut _ _ D.TOz.symm (m2.extBut _ _ D.i1z.symm b0));have nz:e≠z:=fun x=>by subst x;rw [b4] at h3;cases h3;simp at h4
   exact Jg b4 (by simp) fun p5 _ m5=>q p5 e (fun a o n1 n2 n3 n4 x=>m5.extBut _ _ n1 (m4 _ _ n4 (m3.extBut _ _ n2 (m2.extBut _ _ n3 (m1.extBut _ _ n1 x))))) ⟨oe,m5.extBut _ _ nz h3,h4⟩
def zafm {b c:Bool}{z TI TO j1 j2 l1 l2:Addr}{k1 k2:Nat}{us vs:Array Value}{u v x0 y0:Value}{Q:Option Value->Ql->Prop} (D:Qju z TI TO j1 j2 l1 l2)
 (a0:IsZip s.heap z TI TO .none) (a1:Qbd s.heap TI (.ref j1) (.ref j2)) (a2:Qbd s.heap TO x0 y0)
 (e1:SqIt b s.heap j1 l1 k1) (e2:SqIt c s.heap j2 l2 k2) (g1:SqOf b s.heap l1 us) (g2:SqOf c s.heap l2 vs) (hu:us[k1]?=some u) (hv:vs[k2]?=some v)
 (q : ∀ h',IsZip h' z TI TO (Qek s.heap.objs.size)->Qbd h' TO u v->SqIt b h' j1 l1 (k1+1)->SqIt c h' j2 l2 (k2+1)->Qbd h' s.heap.objs.size u v->h'.objs.size=s.heap.objs.size+1 ->
 (∀ a o,a≠z->a≠TO->a≠j1->a≠j2->s.heap.get? a=some o->h'.get? a=some o)->Q (some (.ref s.heap.objs.size)) { s with heap:=h' }) :
  wpAny (model prog w) A (Qgv (.ref z)) Q E s:=by
  have ty:s.TypeIs (.ref z) "zip":=⟨_,a0,rfl⟩
  unfold Qgv;exact Qi (Qdk (Vf (name:=Qq "__next__") ty Qdr (Vm Qdr ty Qjn
   (zagy D a0 a1 a2 e1 e2 g1 g2 hu hv fun h' r1 r2 r3 r4 r5 r6 r7=>Q4 (q h' r1 r2 r3 r4 r5 r6 r7)) (Qit _))))
def zakd {b c:Bool}{z TI TO j1 j2 l1 l2:Addr}{k1 k2:Nat}{us vs:Array Value}{x0 y0:Value}{Q:Option Value->Ql->Prop} (hh:A.handled=none) (D:Qju z TI TO j1 j2 l1 l2)
 (a0:IsZip s.heap z TI TO .none) (a1:Qbd s.heap TI (.ref j1) (.ref j2)) (a2:Qbd s.heap TO x0 y0)
 (e1:SqIt b s.heap j1 l1 k1) (e2:SqIt c s.heap j2 l2 k2) (g1:SqOf b s.heap l1 us) (g2:SqOf c s.heap l2 vs) (hend:us[k1]?=none\/vs[k2]?=none)
 (q : ∀ h',(∀ a o,a≠z->a≠TO->a≠j1->a≠j2->s.heap.get? a=some o->h'.get? a=some o)->Q none { s with heap:=h' }):wpAny (model prog w) A (Qgv (.ref z)) Q E s:=by
  have ty:s.TypeIs (.ref z) "zip":=⟨_,a0,rfl⟩
  unfold Qgv;refine Qi (Qdk (Vf (name:=Qq "__next__") ty Qdr (Vm Qdr ty Qjn (zame hh D a0 a1 a2 e1 e2 g1 g2 hend fun h' e hk he=>?_) (Qit _))));obtain ⟨o,ho,hc⟩:=he;exact Qi (wpAny_isInstance (T := "StopIteration") (b:=true) ⟨o,ho,hc⟩ isSubtype_stop (Q4 (q _ hk)))
abbrev zh1 (b:Bool) (h:Heap) (l:Addr):Heap:=h.push (itO b l)
abbrev zh2 (b c:Bool) (h:Heap) (l1 l2:Addr):Heap:=(zh1 b h l1).push (itO c l2)
abbrev zh3 (b c:Bool) (h:Heap) (l1 l2:Addr):Heap:=(zh2 b c h l1 l2).push { cls :=.type "tuple",data :=.seq #[.ref h.objs.size,.ref (zh1 b h l1).objs.size] }
abbrev zh4 (b c:Bool) (h:Heap) (l1 l2:Addr):Heap:=(zh3 b c h l1 l2).push { cls :=.type "tuple",data :=.seq #[.none,.none] }
abbrev zh5 (b c:Bool) (h:Heap) (l1 l2:Addr):Heap:=(zh4 b c h l1 l2).push { cls :=.type "zip",data :=.fields #[.none,.bool false,.bool false,.ref (zh2 b c h l1 l2).objs.size,.ref (zh3 b c h l1 l2).objs.size] }
def zare (b c:Bool) (l1 l2:Addr) (us vs:Array Value):Meets (Builtin.«zip.__new__» ⟨[.type "zip",.ref l1,.ref l2],[]⟩)
 (fun _ R s=>SqOf b s.heap l1 us/\SqOf c s.heap l2 vs/\R (.ok (.ret (.ref (zh4 b c s.heap l1 l2).objs.size))) { s with heap:=zh5 b c s.heap l1 l2 }) :=
  .of_wp fun prog w A R s h=>by
   obtain ⟨hp,g,d,tk,os⟩:=s;obtain ⟨g1,g2,h⟩:=h;have hsub:=sub_zip;have y1:SqOf b (Qlo ⟨hp,g,d,tk,os⟩) l1 us:=g1;have y2:SqOf c (Qlo ⟨hp.push (itO b l1),g,d,tk,os⟩) l2 vs:=SqOf.at' g2 fun o e=>Qj _ e
   wp_walk using zabj y1,zabj y2
   exact ⟨_,rfl,h⟩
def zamq {b c:Bool}{l1 l2:Addr}{us vs:Array Value}{Q:Value->Ql->Prop} (g1:SqOf b s.heap l1 us) (g2:SqOf c s.heap l2 vs)
 (q : ∀ h',IsZip h' (s.heap.objs.size+4) (s.heap.objs.size+2) (s.heap.objs.size+3) .none->Qbd h' (s.heap.objs.size+2) (.ref s.heap.objs.size) (.ref (s.heap.objs.size+1)) ->
 Qbd h' (s.heap.objs.size+3) .none .none->SqIt b h' s.heap.objs.size l1 0->SqIt c h' (s.heap.objs.size+1) l2 0->(∀ a o,s.heap.get? a=some o->h'.get? a=some o)->Q (.ref (s.heap.objs.size+4)) { s with heap:=h' }) :
  wpAny (model prog w) A (call (.type "zip") [.ref l1,.ref l2]) Q E s:=by
  refine callType_new F.called_zip (by decide) (F.typeCall_zip_2 _ _) (F.newCall_zip_2 _ _) (fun ob=>F.args_object_init_3 ob _ _) F.entry_zip_new (zare b c l1 l2 us vs) ⟨g1,g2,?_⟩;have n1:(zh1 b s.heap l1).objs.size=s.heap.objs.size+1:=Yo ..;have n2:(zh2 b c s.heap l1 l2).objs.size=s.heap.objs.size+2:=by rw [Yo,n1]
  have n3:(zh3 b c s.heap l1 l2).objs.size=s.heap.objs.size+3:=by rw [Yo,n2]
  have n4:(zh4 b c s.heap l1 l2).objs.size=s.heap.objs.size+4:=by rw [Yo,n3]
  have r5:(zh5 b c s.heap l1 l2).get? (zh4 b c s.heap l1 l2).objs.size=some _:=Qz _ rfl;have r4:(zh5 b c s.heap l1 l2).get? (zh3 b c s.heap l1 l2).objs.size=some _:=Qj _ (Qz _ rfl);have r3:(zh5 b c s.heap l1 l2).get? (zh2 b c s.heap l1 l2).objs.size=some _:=Qj _ (Qj _ (Qz _ rfl));have r2:(zh5 b c s.heap l1 l2).get? (zh1 b s.heap l1).objs.size=some (itO c l2):=Qj _ (Qj _ (Qj _ (Qz _ rfl)));have r1:(zh5 b c s.heap l1 l2).get? s.heap.objs.size=some (itO b l1):=Qj _ (Qj _ (Qj _ (Qj _ (Qz _ rfl))));show _/\_;rw [n2,n3,n4] at r5;rw [n1,n2] at r3;rw [n3] at r4;rw [n1] at r2;rw [n4];have si : ∀ {b:Bool}{h:Heap}{a l:Addr},h.get? a=some (itO b l)->SqIt b h a l 0:=fun {b}{h}{a}{l} e=>by
   cases b with
   | true=>exact ⟨_,e,rfl,rfl⟩
   | false=>exact ⟨_,e,rfl,rfl⟩
  exact ⟨⟨_,r5,rfl⟩,q _ r5 r3 r4 (si r1) (si r2) fun a o x=>Qj _ (Qj _ (Qj _ (Qj _ (Qj _ x))))⟩
end
end
section
def SqX (b:Bool) (K:Qd) (H:Hp) (a:Addr) (xs:List V):Prop:=match b with
 | true=>SqT K H a xs
 | false=>SqL K H a xs
section
variable {X:Cx}{pins:List (Addr×Obj)}{σ:St}{H:Hp}{s:Ql}{b:Bool}{a:Addr}{xs ys:List V}
def Inv.sqx (I:Inv X pins σ H s) (h:SqX b X.K H a xs) : ∃ its:List Value,Vals xs its/\SqOf b s.heap a its.toArray:=by
 cases b with
 | true =>
  obtain ⟨its,r,p,_⟩:=I.tuple h;obtain ⟨o,ho,hc,n,hd⟩:=p;exact ⟨its,r,o,ho,hc,n,hd⟩
 | false =>
  obtain ⟨its,r,p,_⟩:=I.list h;exact ⟨its,r,p.isList⟩
def Inv.sqx_inj (I:Inv X pins σ H s) (h:SqX b X.K H a xs) (h':SqX b X.K H a ys):xs=ys:=by
 cases b with
 | true=>exact I.tuple_inj h h'
 | false=>exact I.list_inj h h'
end
def Itz (K:Qd) (b c:Bool) (l m:Addr):It :=
 ⟨fun i H => ∃ xs ys x y,SqX b K H l xs/\SqX c K H m ys/\xs[i]?=some x/\ys[i]?=some y,fun i H v H' => ∃ p x y,(∀ xs,SqX b K H l xs->xs[i]?=some x)/\(∀ ys,SqX c K H m ys->ys[i]?=some y)/\H p=none/\v = .ref p/\H'=upd H p (.tup [x,y]),
  fun i H => ∃ xs ys,SqX b K H l xs/\SqX c K H m ys/\(xs.length<=i\/ys.length<=i)⟩
def zafq {P:Zj}{w:World}{K:Qd}{elts:List Expr}{x1:Nat}{tpos:Pos}{b c:Bool} (z TI TO j1 j2 l m:Addr) (D:Qju z TI TO j1 j2 l m) :
 Turn P w K (.Tuple elts x1 tpos) (Itz K b c l m) [z,TI,TO,j1,j2] z (fun i h=>IsZip h z TI TO .none/\Qbd h TI (.ref j1) (.ref j2)/\(∃ x0 y0,Qbd h TO x0 y0)/\SqIt b h j1 l i/\SqIt c h j2 m i) where
  mem:=by simp
  obj:=fun i h st a ha=>by
   obtain ⟨s0,s1,⟨x0,y0,s2⟩,s3,s4⟩:=st;simp only [Q5,Vi,or_false] at ha;rcases ha with rfl|rfl|rfl|rfl|rfl
   ·exact ⟨_,s0,fun v z=>by have z':Qjy _=Qib v:=z;cases z'⟩
   ·exact ⟨_,s1,fun v z=>by have z':Qls _ _=Qib v:=z;cases z'⟩
   ·exact ⟨_,s2,fun v z=>by have z':Qls _ _=Qib v:=z;cases z'⟩
   ·exact s3.obj
   ·exact s4.obj
  keep:=fun i h h' st k=>by
   obtain ⟨s0,s1,⟨x0,y0,s2⟩,s3,s4⟩:=st;exact ⟨k z (by simp) _ s0,k TI (by simp) _ s1,⟨x0,y0,k TO (by simp) _ s2⟩,s3.at' fun o q=>k j1 (by simp) o q,s4.at' fun o q=>k j2 (by simp) o q⟩
  item:=by
   intro X hP hw hK hc i pins s σ H E I hf st hg;subst hP hw hK;obtain ⟨xs,ys,x,y,hq,hq',hx,hy⟩:=hg;obtain ⟨us,rv,p1⟩:=I.sqx hq;obtain ⟨vs,rw',p2⟩:=I.sqx hq';obtain ⟨u,hu,ru⟩:=rv.get hx;obtain ⟨v,hv,rv'⟩:=rw'.get hy;obtain ⟨s0,s1,⟨x0,y0,s2⟩,s3,s4⟩:=st;obtain ⟨z0,z1,z2,z3,z4,z5⟩:=hf z (by simp);obtain ⟨o0,o1,o2,o3,o4,o5⟩:=hf TO (by simp);obtain ⟨f0,f1,f2,f3,f4,f5⟩:=hf j1 (by simp);obtain ⟨g0,g1,g2,g3,g4,g5⟩:=hf j2 (by simp);have zlt:z<s.heap.objs.size:=Qx s0;refine zafm D s0 s1 s2 s3 s4 p1 p2 (u:=u) (v:=v) (by simpa using hu) (by simpa using hv) fun h₁ a0 a2 a3 a4 ht hz₁ hk=>⟨_,rfl,?_⟩
   refine wpAny_letOwnedTupleGo_zip (s:={ s with heap:=h₁ }) a0 fun h₂ he₂ hs₂=>?_;replace hs₂:Vh z h₁ h₂:=hs₂
   have fresh:H s.heap.objs.size=none:=I.hok.fresh (Qr _);have kk : ∀ a o,a≠z->a≠TO->a≠j1->a≠j2->s.heap.get? a=some o->h₂.get? a=some o:=fun a o b1 b2 b3 b4 q=>hs₂.extBut a o b1 (hk a o b1 b2 b3 b4 q);have kc : ∀ a o,a ∉ [z,TO,j1,j2]->s.heap.get? a=some o->h₂.get? a=some o:=fun a o hc q=>kk a o (fun z=>hc (by simp [z])) (fun z=>hc (by simp [z])) (fun z=>hc (by simp [z])) (fun z=>hc (by simp [z])) q;have nb : ∀ a o v,s.heap.get? a=some o->H a=some v->h₂.get? a=some o:=fun a o v e q=>kk a o (fun n=>by rw [n,z0] at q;cases q) (fun n=>by rw [n,o0] at q;cases q) (fun n=>by rw [n,f0] at q;cases q) (fun n=>by rw [n,g0] at q;cases q) e;have ht₂:h₂.get? s.heap.objs.size=some { cls :=.type "tuple",data :=.seq #[u,v] }:=(hs₂.2 _ (Yu zlt)).trans ht;have I1:Inv X pins σ (upd H s.heap.objs.size (.tup [x,y])) { s with heap:=h₂ }:=by
    refine I.step (t':=s.toks) (g':=s.gens) (d':=s.drawn) (ch:=[z,TO,j1,j2]) (fun a ha=>?_) (fun a o _ _ hc q _=>kc a o hc q)
     (fun a o _ _ hc q _=>⟨o.slots,kc a o hc q⟩) (fun a o _ q n=>by rw [qi (Q9 (Qx q))];exact n)
     (fun a o hc q=>⟨o,kc a o hc q⟩) (fun a ys q=>by rw [qi (qm q fresh)];exact q) (fun a o v q=>by rw [qi (qm q fresh)];exact q)
     (fun a ps q=>⟨#[],by rw [qi (qm q fresh),q];simp,.nil⟩) (fun m hm=>?_) (fun a v' q=>?_) I.bare
    ·simp only [Q5,Vi,or_false] at ha;rcases ha with rfl|rfl|rfl|rfl
     ·exact ⟨z3,z1,z4,z5⟩
     ·exact ⟨o3,o1,o4,o5⟩
     ·exact ⟨f3,f1,f4,f5⟩
     ·exact ⟨g3,g1,g4,g5⟩
    ·obtain ⟨o,es,ep,ho',r⟩:=hm;exact ⟨o,es,ep,kk _ o (Z0 z1) (Z0 o1) (Z0 f1) (Z0 g1) ho',r⟩
    ·by_cases hb:a=s.heap.objs.size
     ·subst hb;rw [ql] at q;cases q;exact ⟨(by show 2<=Q6;decide),[u,v],.cons ru (.cons rv' .nil),⟨_,ht₂,rfl,_,rfl⟩⟩
     ·rw [qi hb] at q;refine (I.hok a v' q).stay (fun d ob hd e=>?_) (fun d e=>by rw [qi (qm e fresh)];exact e) fun d ws e=>by rw [qi (qm e fresh)];exact e
      rcases hd with hd|hd
      ·subst hd;exact nb _ _ _ e q
      ·exact nb _ _ _ e hd
   refine ⟨.ref s.heap.objs.size,_,I1,rfl,⟨s.heap.objs.size,x,y,fun ws hw=>by rw [I.sqx_inj hw hq];exact hx,fun ws hw=>by rw [I.sqx_inj hw hq'];exact hy,fresh,rfl,rfl⟩,⟨he₂,?_,⟨u,v,?_⟩,?_,?_⟩,fun a ha=>?_⟩
   ·exact hs₂.extBut _ _ D.TIz (hk _ _ D.TIz D.TITO D.TIi1 D.TIi2 s1)
   ·exact hs₂.extBut _ _ D.TOz a2
   ·exact a3.but hs₂ D.i1z
   ·exact a4.but hs₂ D.i2z
   ·have hlt:a<s.heap.objs.size:=by
     simp only [Q5,Vi,or_false] at ha;rcases ha with rfl|rfl|rfl|rfl|rfl
     ·exact zlt
     ·exact Qx s1
     ·exact Qx s2
     ·obtain ⟨o,q,_⟩:=s3.obj;exact Qx q
     ·obtain ⟨o,q,_⟩:=s4.obj;exact Qx q
    rw [qi (Q9 hlt)];exact (hf a ha).1
  done:=by
   intro X hP hw hK hc i pins s σ H E I hf st hg;subst hP hw hK;obtain ⟨xs,ys,hq,hq',hx⟩:=hg;obtain ⟨us,rv,p1⟩:=I.sqx hq;obtain ⟨vs,rw',p2⟩:=I.sqx hq';obtain ⟨s0,s1,⟨x0,y0,s2⟩,s3,s4⟩:=st;obtain ⟨z0,z1,z2,z3,z4,z5⟩:=hf z (by simp);obtain ⟨o0,o1,o2,o3,o4,o5⟩:=hf TO (by simp);obtain ⟨f0,f1,f2,f3,f4,f5⟩:=hf j1 (by simp);obtain ⟨g0,g1,g2,g3,g4,g5⟩:=hf j2 (by simp);have l1:=rv.length;have l2:=rw'.length;refine zakd (I.ok.hd hc) D s0 s1 s2 s3 s4 p1 p2 (by rcases hx with hx|hx;exact .inl (by simp;omega);exact .inr (by simp;omega)) fun h' hk=>⟨rfl,?_⟩
   have kc : ∀ a o,a ∉ [z,TO,j1,j2]->s.heap.get? a=some o->h'.get? a=some o:=fun a o hc q=>hk a o (fun z=>hc (by simp [z])) (fun z=>hc (by simp [z])) (fun z=>hc (by simp [z])) (fun z=>hc (by simp [z])) q;have nb : ∀ a o v,s.heap.get? a=some o->H a=some v->h'.get? a=some o:=fun a o v e q=>hk a o (fun n=>by rw [n,z0] at q;cases q) (fun n=>by rw [n,o0] at q;cases q) (fun n=>by rw [n,f0] at q;cases q) (fun n=>by rw [n,g0] at q;cases q) e;refine I.step (t':=s.toks) (g':=s.gens) (d':=s.drawn) (ch:=[z,TO,j1,j2]) (fun a ha=>?_) (fun a o _ _ hc q _=>kc a o hc q)
    (fun a o _ _ hc q _=>⟨o.slots,kc a o hc q⟩) (fun a o _ q n=>n) (fun a o hc q=>⟨o,kc a o hc q⟩) (fun a ys q=>q) (fun a o v q=>q) (fun a ps q=>⟨#[],by rw [q];simp,.nil⟩) (fun m hm=>?_) (fun a v' q=>?_) I.bare
   ·simp only [Q5,Vi,or_false] at ha;rcases ha with rfl|rfl|rfl|rfl
    ·exact ⟨z3,z1,z4,z5⟩
    ·exact ⟨o3,o1,o4,o5⟩
    ·exact ⟨f3,f1,f4,f5⟩
    ·exact ⟨g3,g1,g4,g5⟩
   ·obtain ⟨o,es,ep,ho',r⟩:=hm;exact ⟨o,es,ep,hk _ o (Z0 z1) (Z0 o1) (Z0 f1) (Z0 g1) ho',r⟩
   ·refine (I.hok a v' q).stay (fun d ob hd e=>?_) (fun d e=>e) fun d ws e=>e;rcases hd with hd|hd
    ·subst hd;exact nb _ _ _ e q
    ·exact nb _ _ _ e hd
  self:=fun A i s Q E st h=>wpAny_pyIter_zip st.1 h
def zaie:Zv "zip" = some (.type "zip"):=by decide +kernel
section
variable {X:Cx}{elts:List Expr}{x1:Nat}{tpos:Pos}
def iZip (K:Qd) (ta:TA):TI:=fun σ H R=>ta σ H fun vs H1 => ∃ b c l m,vs=[.ref l,.ref m]/\(∃ xs,SqX b K H1 l xs)/\(∃ ys,SqX c K H1 m ys)/\R (Itz K b c l m) H1
def zapo {a b:Expr}{ta:TA}{p pos:Pos} (hg:Gl X "zip") (hm:X.mg "zip" = none) (ha:PA X [a,b] ta) (hs:Qw [a,b] X.env=[(false,eval a X.env),(false,eval b X.env)]:=by rfl) (hs2:Qw [b] X.env=[(false,eval b X.env)]:=by rfl) :
 PI X (.Tuple elts x1 tpos) (.Call (.Name "zip" p) [a,b] [] pos) (iZip X.K ta):=by
 intro pins s σ H R I h;refine Call_ (qlc I hg hm zaie (V8 (thn (ha pos pins s σ H _ I h) fun us s1 xx153=>?_) (by rw [hs,hs2]) (by rw [hs2];rfl)));obtain ⟨vs,H1,I1,r1,q1⟩:=xx153;obtain ⟨kb,kc,l,m,e,⟨xs,hq⟩,⟨ys,hq'⟩,q⟩:=q1;subst e;cases r1 with
 | cons r rr =>
  cases rr with
  | cons r' rr =>
   cases rr;cases r;cases r';obtain ⟨its,rv,pl⟩:=I1.sqx hq;obtain ⟨its',rv',pl'⟩:=I1.sqx hq';refine zamq pl pl' fun h' a0 a1 a2 a3 a4 hk=>?_;refine wpAny_pyIter_zip a0 ?_;have I2:Inv X pins σ H1 { s1 with heap:=h' }:=I1.kept (t':=s1.toks) hk;refine ⟨s1.heap.objs.size+4,[s1.heap.objs.size+4,s1.heap.objs.size+2,s1.heap.objs.size+3,s1.heap.objs.size,s1.heap.objs.size+1],_,_,H1,rfl,I2,zafq (b:=kb) (c:=kc) _ _ _ _ _ l m (zipApart_new pl.lt pl'.lt),⟨a0,a1,⟨_,_,a2⟩,a3,a4⟩,fun b hb=>?_,q⟩;have hle:s1.heap.objs.size<=b:=by
    simp only [Q5,Vi,or_false] at hb;rcases hb with rfl|rfl|rfl|rfl|rfl
    ·exact Qcz _ 4
    ·exact Qcz _ 2
    ·exact Qcz _ 3
    ·exact Qr _
    ·exact Qcz _ 1
   exact I1.fpOk hle (I1.hok.fresh hle)
end
def zipD (l m:List Qh):List Qh:=(l.zip m).map fun p => .tuple [p.1,p.2]
def qeg (l m:List Qh):(zipD l m).length=min l.length m.length:=by simp [zipD]
def qyb {l m:List Qh}{i:Nat}{x y:Qh} (h1:l[i]?=some x) (h2:m[i]?=some y):(zipD l m)[i]?=some (.tuple [x,y]):=by
 unfold zipD;rw [Qa,Qba (z:=(x,y)) |>.mpr ⟨h1,h2⟩];rfl
def qii {l m:List Qh}{i:Nat}{d:Qh} (h:(zipD l m)[i]?=some d) : ∃ x y,l[i]?=some x/\m[i]?=some y/\d = .tuple [x,y]:=by
 have hi:=(Qm.mp h).1;rw [qeg] at hi;have h1:i<l.length:=by omega
 have h2:i<m.length:=by omega
 have e:=qyb (Qc h1) (Qc h2);rw [h] at e;exact ⟨_,_,Qc h1,Qc h2,Qp e⟩
def qcz {b:Bool}{K:Qd}{F H:Hp}{a:Addr}{xs:List V} (s:Same F H) (h:SqX b K F a xs):SqX b K H a xs:=by
 cases b with
 | true=>exact qU s h
 | false=>exact s.seq h
def zalf {b c:Bool}{K:Qd}{F:Hp}{a a':Addr}{xs ys:List V}{l m:List Qh} (hs:SqX b K F a xs) (hr:Iss K F l xs) (hs':SqX c K F a' ys) (hr':Iss K F m ys):ItD K (Itz K b c a a') F (zipD l m) where
 go:=fun i H s hi=>by
  rw [qeg] at hi;exact ⟨xs,ys,xs[i]'(by rw [hr.len];omega),ys[i]'(by rw [hr'.len];omega),qcz s hs,qcz s hs',Qc _,Qc _⟩
 stop:=fun H s=>by
  rw [qeg];refine ⟨xs,ys,qcz s hs,qcz s hs',?_⟩;rw [hr.len,hr'.len];omega
 yld:=fun i H x H' F1 s1 s2 hi hy=>by
  obtain ⟨p,y,y',hy,hy',hp,rfl,rfl⟩:=hy;obtain ⟨d,e1,e2⟩:=hr.get' (hy xs (qcz (s1.trans s2) hs));obtain ⟨d',e1',e2'⟩:=hr'.get' (hy' ys (qcz (s1.trans s2) hs'));have g:=Go.put (o:=HO.tup [y,y']) s2 hp;exact ⟨_,_,qyb e1 e1',g,qoh (SqT.of ql) (qw ((e2.mono s1).mono g.f) (qw ((e2'.mono s1).mono g.f) qQ))⟩
def zaiw {K:Qd}{F:Hp}{d:Qh}{l:List Qh}{v:V} (e:qea d=some l) (i:Is K F d v) : ∃ b a xs,v = .ref a/\SqX b K F a xs/\Iss K F l xs:=by
 cases d with
 | list m=>cases e;obtain ⟨a,xs,rfl,hs,hr⟩:=i.lst_inv;exact ⟨false,a,xs,rfl,hs,hr⟩
 | tuple m=>cases e;obtain ⟨a,xs,rfl,hs,hr⟩:=i.tup_inv;exact ⟨true,a,xs,rfl,hs,hr⟩
 | _=>cases e
section
variable {X:Cx}{a b:Expr}{p pos:Pos}{elts:List Expr}{x1:Nat}{tpos:Pos}
def zatv (Wa Wb:WE):WF:=fun env Q=>Wa env fun x e1=>Wb e1 fun y e=>(qea x).elim False fun l=>(qea y).elim False fun m=>Q (zipD l m) e
def qmh {Wa Wb:WE} (hm:X.mg "zip" = none) (ha:VE X a Wa) (hb:VE X b Wb) (hg:Gl X "zip":=by rfl) (hs:Qw [a,b] X.env=[(false,eval a X.env),(false,eval b X.env)]:=by rfl) (hs2:Qw [b] X.env=[(false,eval b X.env)]:=by rfl)
 (hs3:Qw [a,b] X.env=(false,eval a X.env)::Qw [b] X.env:=by rfl) (hs4:Qw [b] X.env=(false,eval b X.env)::Qw [] X.env:=by rfl):VI X (.Tuple elts x1 tpos) (.Call (.Name "zip" p) [a,b] [] pos) (zatv Wa Wb) :=
 (zapo hg hm (qz ha (qz hb qal hs4) hs3) hs hs2).imp fun σ H R xx154=>by
  obtain ⟨M,env,F,Q,I,h,k⟩:=xx154;refine ⟨M,env,F,_,I,h,fun d v F1 H1 e1 I1 s1 i1 h1=>⟨M,e1,F1,_,I1,h1,fun d2 v2 F2 H2 e2 I2 s2 i2 h2=>?_⟩⟩;cases q1:qea d with
  | none=>rw [q1] at h2;exact h2.elim
  | some l =>
   cases q2:qea d2 with
   | none=>rw [q1,q2] at h2;exact h2.elim
   | some m =>
    rw [q1,q2] at h2;obtain ⟨kb,a1,xs,rfl,z1,z2⟩:=zaiw q1 (i1.mono s2);obtain ⟨kc,a2,ys,rfl,z3,z4⟩:=zaiw q2 i2;exact ⟨kb,kc,a1,a2,rfl,⟨xs,qcz I2.fh z1⟩,⟨ys,qcz I2.fh z3⟩,k _ _ F2 H2 e2 I2 (s1.trans s2) (zalf z1 z2 z3 z4) h2⟩
end
end
section
section
variable {X:Cx}
def zaqp:OpR X (Vc .Is) (fun x y H Q => ∃ b c,x = .bl b/\y = .bl c/\Q (.bl (b==c)) H):=by
 intro pins s σ H x y v u Q I rx ry h;obtain ⟨b,c,rfl,rfl,q⟩:=h;cases rx;cases ry;refine wpAny_is_plain (by cases b <;> cases c <;> rfl) (zaja I q ?_);cases b <;> cases c <;> rfl
def dIsB:D2
 | .bool b,.bool c,q=>q (.bool (b==c))
 | _,_,_=>False
def zalq {d e:Qh}{q:Qh->Prop} (h:dIsB d e q) : ∃ b c,d = .bool b/\e = .bool c/\q (.bool (b==c)):=by
 unfold dIsB at h;split at h
 ·exact ⟨_,_,rfl,rfl,h⟩
 ·exact h.elim
def zanx:OpV X (Vc .Is) dIsB:=zaqp.imp fun x y H Q xx155=>by
 obtain ⟨F,dx,dy,q,s,i1,i2,h,k⟩:=xx155;obtain ⟨b,c,rfl,rfl,hq⟩:=zalq h;exact ⟨b,c,i1.bl_inv,i2.bl_inv,k _ _ F H (.refl s) (qgi _) hq⟩
end
end
section
section
variable {X:Cx}{e:Expr}{W:WF}{We:WE}{pos:Pos}
def wExt (i:Nat) (W:WF):WS:=fun D env=>(gS env i).mut=true/\W env fun l e=>(gS e i).mut=true/\(gS e i).cnt.length+l.length<=Q6/\D.nx (e.set i ((gS e i).upd ((gS e i).cnt++l)))
def qtg (i:Nat) {x:Str}{px apos cpos:Pos} (he:VF X e W) (hN:X.N[i]?=some x:=by rfl) (hv:Vis X.env.scope x:=by first|exact Yy rfl|exact Z6 (Yy rfl)|exact Z6 (Z6 rfl)) (hd:Nd0 x:=by decide)
 (hcd:Nd1 x:=by decide)
 (hbase:Vt (.Name x px) "extend" X.env (eval (.Name x px) X.env)=eval (.Name x px) X.env:=by rfl)
 (hfew:((Vl cpos (Qw [e] X.env)).all (fun x => !x.1)&&(Qct cpos (Jh [] X.env)).all (fun x=>x.1.isSome)
  && decide ([e].length+([]:List Qaz).length+(if ([]:List Qaz).isEmpty then 0 else 1)<30))=true:=by rfl)
 (hline:(apos.endLine==cpos.line)=true:=by rfl) (hst:Qw [e] X.env=(false,eval e X.env)::Qw [] X.env:=by rfl) (hplain:(Vl cpos (Qw [] X.env)).any (·.1)=false:=by rfl)
 (hs:Jf (.Call (.Attribute (.Name x px) "extend" apos) [e] [] cpos) none pos.line X.env=pure false:=by rfl):VS X (.Expr (.Call (.Attribute (.Name x px) "extend" apos) [e] [] cpos) pos) (wExt i W) :=
 (qhq (zaet J0 Qfc Qfd zacw (qcx hN hv hd hcd) (qz he qal hst) hbase hfew hline hst hplain) hs).imp fun D σ H xx156=>by
  obtain ⟨M,env,F,DD,I,⟨hm,h⟩,k⟩:=xx156;obtain ⟨p,vs,ep,g1,g2,g3,g4⟩:=(I.slot i).addr hm;refine ⟨_,qcj ep,.inl ⟨rfl,_,SqL.of g1⟩,M,env,F,_,I,h,fun a us ds F1 H1 e1 I1 s1 hH hF _ _ _ i1 h1=>?_⟩;obtain ⟨m1,z1,q1⟩:=h1;obtain ⟨p',vs1,ep',f1,f2,f3,f4⟩:=(I1.slot i).addr m1;rw [ep] at ep';injection ep' with ep';injection ep' with ep';subst ep';exact ⟨p,a,vs1,us,rfl,rfl,f1,hH,by rw [f4.len,i1.len];exact z1,k.nx _ F1 _ σ (I1.chg m1 ep (qaz f4 i1)) s1 q1⟩
end
end
section
section
variable {prog:Zj}{w:World}{A:Z4}{E:Value->Ql->Prop}{s:Ql}
end
section
variable {X:Cx}
end
end
section
section
variable {X:Cx}{a b c d:Expr}{pos:Pos}{ta tb tc td:TE}
variable {Wa Wb Wc Wd:WE}
end
end
section
section
variable {X:Cx}{elt target iter cnd:Expr}{scope:Scope}{pos:Pos}{caps own:List Str}{ix:List Nat}{wi:TI}{g:TG}{te:TE}{tt:TT}
section
variable {K:Qd}{ix:List Nat}{n:Nat}{Wi:WF}{G:WG}{Wt:WT}{We:WE}{σ:St}{H:Hp}{R:VK}
end
end
end
section
section
variable {X:Cx}
end
section
variable {X:Cx}{e:Expr}{We:WE}{pos:Pos}
variable {x:Str}{px apos cpos:Pos}
end
end
section
section
variable {prog:Zj}{w:World}{A:Z4}{E:Value->Ql->Prop}{s:Ql}
end
section
variable {X:Cx}{elts:List Expr}{x1:Nat}{tpos:Pos}
end
section
variable {X:Cx}{a:Expr}{W:WE}{p pos:Pos}
def qgg {α:Type} (l:List α) (k:Nat) (y:α):List α:=l.take k++y::l.drop k
def Vals.ins {xs:List V}{us:List Value}{y:V}{u:Value} (k:Nat) (r:Vals xs us) (ry:RelV y u):Vals (qgg xs k y) (qgg us k u):=(r.take k).append (.cons ry (r.drop k))
def zann:V->List V->Hp->VK->Prop:=fun x vs H Q => ∃ l xs i y,x = .ref l/\vs=[.int i,y]/\H l=some (.lst xs)/\0<=i/\i<=xs.length/\xs.length<Q6/\Q .non (upd H l (.lst (qgg xs i.toNat y)))
def zadj:MtM X "list.insert" zann:=by
 intro pins s σ H x vs v us Q I rx rv h;obtain ⟨l,xs,i,y,rfl,rfl,hH,i0,i1,hz,q⟩:=h;cases rx;obtain ⟨u,w',rfl,ru,rw'⟩:=rv.two;obtain ⟨t,rfl⟩:=ru;obtain ⟨z,its,n,r,hl,e⟩:=I.lstM hH;have hsl:Q6<2^62:=by decide
 refine Qfe F.slot_list_insert ⟨_,e,rfl⟩ F.entry_list_insert (F.args_list_insert_3 _ _ _) (AutoSeq1.list_insert_list_int_val_1 l its.toArray n i t w' (by rw [fitsIndex_both (by omega) (by omega)];decide) (by rw [Qs];omega)) ⟨e,?_⟩;refine ⟨.non,_,I.lset (its':=qgg its i.toNat w') hH e ?_ (Vals.ins i.toNat r rw') ?_,rfl,q⟩
 ·have hk:(if i<0 then (i+(its.toArray.size:Int)).toNat else min i.toNat its.toArray.size)=i.toNat:=by
   rw [if_neg (by omega),Qs,Ja (by omega)]
  simp only [hk];unfold qgg;apply Qjo.mp;simp;exact Zx (by simp)
 ·unfold qgg;simp only [Z1,Zb,Vz,Qcy];omega
def zanb {K:Qd}{H:Hp}{l:List Qh}{xs:List V}{d:Qh}{y:V} (k:Nat) (r:Iss K H l xs) (h:Is K H d y):Iss K H (qgg l k d) (qgg xs k y):=qaz (qqq k r) (qw h (qqz k r))
variable {e1 e2:Expr}{W1 W2:WE}
def wIns (i:Nat) (W1 W2:WE):WS:=fun D env=>(gS env i).mut=true/\W1 env fun d e=>W2 e fun y e'=>match d with
 | .int n=>(gS e' i).mut=true/\(0<=n/\n<=(gS e' i).cnt.length/\(gS e' i).cnt.length<Q6)/\D.nx (e'.set i ((gS e' i).upd (qgg (gS e' i).cnt n.toNat y)))
 | _=>False
def qtd (i:Nat) {x:Str}{px apos cpos:Pos} (h1:VE X e1 W1) (h2:VE X e2 W2) (hN:X.N[i]?=some x:=by rfl) (hv:Vis X.env.scope x:=by first|exact Yy rfl|exact Z6 (Yy rfl)|exact Z6 (Z6 rfl)) (hd:Nd0 x:=by decide)
 (hcd:Nd1 x:=by decide)
 (hbase:Vt (.Name x px) "insert" X.env (eval (.Name x px) X.env)=eval (.Name x px) X.env:=by rfl)
 (hfew:((Vl cpos (Qw [e1,e2] X.env)).all (fun x => !x.1)&&(Qct cpos (Jh [] X.env)).all (fun x=>x.1.isSome)
  && decide ([e1,e2].length+([]:List Qaz).length+(if ([]:List Qaz).isEmpty then 0 else 1)<30))=true:=by rfl)
 (hline:(apos.endLine==cpos.line)=true:=by rfl) (hst:Qw [e1,e2] X.env=(false,eval e1 X.env)::Qw [e2] X.env:=by rfl) (hst2:Qw [e2] X.env=(false,eval e2 X.env)::Qw [] X.env:=by rfl) (hplain:(Vl cpos (Qw [e2] X.env)).any (·.1)=false:=by rfl)
 (hs:Jf (.Call (.Attribute (.Name x px) "insert" apos) [e1,e2] [] cpos) none pos.line X.env=pure false:=by rfl):VS X (.Expr (.Call (.Attribute (.Name x px) "insert" apos) [e1,e2] [] cpos) pos) (wIns i W1 W2) :=
 (qhq (zaet J0 PySem.F.slot_list_insert PySem.F.type_list_insert zadj (qcx hN hv hd hcd) (qz h1 (qz h2 qal hst2) hst) hbase hfew hline hst hplain) hs).imp fun D σ H xx157=>by
  obtain ⟨M,env,F,DD,I,⟨hm,h⟩,k⟩:=xx157;obtain ⟨p,vs,ep,g1,g2,g3,g4⟩:=(I.slot i).addr hm;refine ⟨_,qcj ep,.inl ⟨rfl,_,SqL.of g1⟩,M,env,F,_,I,h,fun d v F1 H1 e1 I1 s1 i1 h1=>⟨M,e1,F1,_,I1,h1,fun d2 v2 F2 H2 e2 I2 s2 i2 h2=>?_⟩⟩;cases d with
  | int n =>
   obtain ⟨m1,⟨n0,n1,z1⟩,q1⟩:=h2;obtain ⟨p',vs1,ep',f1,f2,f3,f4⟩:=(I2.slot i).addr m1;rw [ep] at ep';injection ep' with ep';injection ep' with ep';subst ep';have fl:=f4.len;exact ⟨p,vs1,n,v2,rfl,by rw [i1.int_inv],f1,n0,by omega,by omega,k.nx _ F2 _ σ (I2.chg m1 ep (zanb n.toNat f4 i2)) (s1.trans s2) q1⟩
  | _=>exact Zd h2
def wPar (i j:Nat) (Wr:WF):WS:=fun D env=>Wr env fun ds e=>match ds with
 | [d,d']=>D.nx ((e.set i (.val d)).set j (.val d'))
 | _=>False
def zapg {i j:Nat}{x y:Str}{a b:Expr}{Wr:WF}{px py pt pos:Pos}{kt k2 pt2} (hc:X.calm=true) (hN:X.N.Nodup) (ha:VA X [a,b] Wr) (hi:X.N[i]?=some x:=by rfl) (hj:X.N[j]?=some y:=by rfl) (hij:i≠j:=by decide)
 (hx:X.env.scope.names.lookup x=some .local:=by rfl) (hy:X.env.scope.names.lookup y=some .local:=by rfl)
 (hw:Qfp [.Tuple [.Name x px,.Name y py] kt pt] (.Tuple [a,b] k2 pt2) X.env=pure (some [x,y]):=by rfl)
 (hs:Qfq [.Tuple [.Name x px,.Name y py] kt pt] (.Tuple [a,b] k2 pt2) pos.line X.env=pure false:=by rfl) :
 VS X (.Assign [.Tuple [.Name x px,.Name y py] kt pt] (.Tuple [a,b] k2 pt2) pos) (wPar i j Wr) :=
 (zapw hc hN hi hj hij hx hy ha hw hs).imp fun D σ H xx158=>by
  obtain ⟨M,env,F,DD,I,h,k⟩:=xx158;refine ⟨M,env,F,_,I,h,fun ds vs F1 H1 e1 I1 s1 i1 h1=>?_⟩;cases ds with
  | nil=>exact h1.elim
  | cons d r=>cases r with
   | nil=>exact h1.elim
   | cons d' r=>cases r with
    | cons _ _=>exact h1.elim
    | nil =>
     obtain ⟨v,w',rfl,j1,j2⟩:=iss2 i1;exact ⟨v,w',rfl,k.nx _ F1 H1 _ ((I1.setv j1).setv j2) s1 h1⟩
end
end
section
section
variable {X:Cx}
end
end
section
section
variable {X:Cx}
end
end
section
section
variable {X:Cx}
end
section
variable {P:Zj}{w:World}{K:Qd}{mg:Str->Option Value}{base:Heap}
end
end
section
section
variable {X:Cx}{elt target iter cnd:Expr}{scope:Scope}{pos:Pos}{caps own:List Str}{ix:List Nat}{wi:TI}{g:TG}{te:TE}{tt:TT}
end
section
variable {X:Cx}{elt target iter cnd:Expr}{scope:Scope}{pos py spos:Pos}{caps own:List Str}{ix:List Nat}{Wi:WF}{G:WG}{Wt:WT}{We:WE}{i:Nat}{y:Str}
end
end
section
section
variable {κ:Type} [DecidableEq κ]
def qoq (kvs:List (κ×V)) (k:κ):Option V:=(kvs.find? fun kv=>decide (kv.1=k)).map (·.2)
def qxr (kvs:List (κ×V)) (k:κ) (v:V):List (κ×V) :=
 if (kvs.any fun kv=>decide (kv.1=k))=true then kvs.map (fun kv=>if kv.1=k then (kv.1,v) else kv) else kvs++[(k,v)]
def qqw {p:κ×V}{r:List (κ×V)}{k:κ} (e:p.1=k):qoq (p::r) k=some p.2:=by simp [qoq,Qds,e]
def qqv {p:κ×V}{r:List (κ×V)}{k:κ} (e : ¬ p.1=k):qoq (p::r) k=qoq r k:=by simp [qoq,Qds,e]
def qre (k:κ) : ∀ kvs:List (κ×V),(kvs.any fun kv=>decide (kv.1=k))=(qoq kvs k).isSome
 | []=>rfl
 | p::r=>by
  rw [Jz];by_cases e:p.1=k
  ·simp only [qqw e,decide_eq_true e,Bool.true_or,Qig]
  ·rw [qqv e,decide_eq_false e,Qky];exact qre k r
def qww (kvs:List (κ×V)) (k:κ) (v:V):(qxr kvs k v).length<=kvs.length+1:=by
 unfold qxr;split
 ·rw [Qf];omega
 ·rw [Z1,Zb,Qdt];omega
def zaga {kvs:List (κ×V)}{k:κ} (v:V) (h:qoq kvs k=none):qxr kvs k v=kvs++[(k,v)]:=by
 unfold qxr;rw [qre,h];exact if_neg (by decide)
def RelO.isSome_eq {o:Option V}{u:Option Value} (r:RelO o u):o.isSome=u.isSome:=by
 cases o with
 | none=>cases u with
  | none=>rfl
  | some _=>exact (show False from r).elim
 | some _=>cases u with
  | none=>exact (show False from r).elim
  | some _=>rfl
end
def zata {P:Zj}{w:World}{k:Key}{u:Value} (r:RelV (kV k) u):(qcg P w).is k u=true:=by
 cases k with
 | inl i=>obtain ⟨t,e⟩:=(show ∃ t,u=Qew i t from r);subst e;exact qwr P w i t
 | inr x=>obtain ⟨t,e⟩:=(show ∃ t,u=Qjw x t from r);subst e;exact qwj P w x t
def qtf {P:Zj}{w:World} : ∀ {ks:List Key}{us:List Value},Vals (ks.map kV) us->ItemsAre (qcg P w) ks us
 | [],_,r=>by rw [Jw] at r;cases r;exact .nil
 | k::ks,_,r=>by
  rw [Q2] at r;cases r with
  | cons h t=>exact .cons (zata h) (qtf t)
abbrev KT (H:Hp):List (List Key×V)->List (List Key×Addr×Value)->Prop:=Paired fun p q=>p.1=q.1/\H q.2.1=some (.tup (p.1.map kV))/\RelV p.2 q.2.2
def KT.val {H:Hp}{kvs:List (List Key×V)}{xs:List (List Key×Addr×Value)} (r:KT H kvs xs) (k:List Key):RelO (qoq kvs k) ((atKey xs k).map (·.2)):=by
 induction r with
 | nil=>exact Qao
 | @cons p q ps qs h t ih =>
  obtain ⟨h1,_,h2⟩:=h;by_cases e:p.1=k
  ·have e':q.1=k:=h1.symm.trans e;have b:atKey (q::qs) k=some q.2:=by simp [atKey,Qds,e']
   rw [qqw e,b];exact h2
  ·have e' : ¬ q.1=k:=fun z=>e (h1.trans z);have b:atKey (q::qs) k=atKey qs k:=by simp [atKey,Qds,e']
   rw [qqv e,b];exact ih
def KT.repl {H:Hp}{kvs:List (List Key×V)}{xs:List (List Key×Addr×Value)} (r:KT H kvs xs) (k:List Key) {y:V}{u:Value} (ry:RelV y u) :
 KT H (kvs.map fun kv=>if kv.1=k then (kv.1,y) else kv) (xs.map (putAt k u)):=by
  induction r with
  | nil=>exact .nil
  | @cons p q ps qs h t ih =>
   rw [Q2,Q2];refine .cons ?_ ih;obtain ⟨h1,h2,h3⟩:=h;unfold putAt;by_cases e:p.1=k
   ·rw [if_pos e,if_pos (h1.symm.trans e)];exact ⟨h1,h2,ry⟩
   ·rw [if_neg e,if_neg (fun z=>e (h1.trans z))];exact ⟨h1,h2,h3⟩
def KT.put {H:Hp}{kvs:List (List Key×V)}{xs:List (List Key×Addr×Value)} (r:KT H kvs xs) (k:List Key) {b:Addr}{y:V}{u:Value} (hb:H b=some (.tup (k.map kV))) (ry:RelV y u) :
 KT H (qxr kvs k y) (storedH xs k b u):=by
  have e:(kvs.any fun kv=>decide (kv.1=k))=(atKey xs k).isSome:=by
   rw [qre,(r.val k).isSome_eq,Option.isSome_map]
  unfold qxr storedH;rw [e];by_cases q:(atKey xs k).isSome=true
  ·rw [if_pos q,if_pos q];exact r.repl k ry
  ·rw [if_neg q,if_neg q];exact Paired.snoc r ⟨rfl,hb,ry⟩
def KT.keeps {H H':Hp}{kvs:List (List Key×V)}{xs:List (List Key×Addr×Value)} (r:KT H kvs xs) (ht : ∀ b ys,H b=some (.tup ys)->H' b=some (.tup ys)):KT H' kvs xs :=
 Paired.mapP r fun _ _ z=>⟨z.1,ht _ _ z.2.1,z.2.2⟩
section
variable {P:Zj}{w:World}{H:Hp}{h:Heap}{a:Addr}
def zaom {u:HO} (ok:HOk P w H h) (e:Rd H a u):ObjOk P w H h a u:=e.ok ok
def zatn {kvs:List (Key×V)} (ok:HOk P w H h) (e:Rd H a (.dK kvs)):kvs.length<=Q6/\(a==Qad)=false /\ ∃ vs,KV kvs vs/\h.DictOf (qcg P w) a vs :=
 show ObjOk P w H h a (.dK kvs) from zaom ok e
def zaiu {ks:List Key} (ok:HOk P w H h) (e:H a=some (.tup (ks.map kV))):(Qgy (qcg P w)).is h ks a:=by
 obtain ⟨_,its,r,o,h1,h2,n,h3⟩:=(show ObjOk P w H h a (.tup (ks.map kV)) from ok a _ e)
 exact ⟨o,its.toArray,n,h1,h2,h3,by simpa using qtf r⟩
def zaon {kvs:List (List Key×V)} (ok:HOk P w H h) (e:Rd H a (.dT kvs)):kvs.length<=Q6/\(a==Qad)=false /\
 ∃ xs,KT H kvs xs/\h.DictOfH (Qgy (qcg P w)) a xs:=by
  obtain ⟨z,y,xs,r,o,es,ep,h1,h2,h3,h4,h5⟩:=(show ObjOk P w H h a (.dT kvs) from zaom ok e)
  refine ⟨z,y,xs,r,o,es,ep,h1,h2,h3,h4,fun x hx=>?_,h5⟩;have all : ∀ {l:List (List Key×V)}{m:List (List Key×Addr×Value)},KT H l m -> ∀ x ∈ m,(Qgy (qcg P w)).is h x.1 x.2.1:=by
   intro l m q
   induction q with
   | nil=>intro x hx;exact nomatch hx
   | @cons p q ps qs hq t ih =>
    intro x hx;rcases Q5.mp hx with e|hx
    ·subst e;exact zaiu ok (by rw [<- hq.1];exact hq.2.1)
    ·exact ih x hx
  exact all r x hx
def zaka {kvs:List (List Key×V)} (ok:HOk P w H h) (e:H a=some (.dT kvs)):kvs.length<=Q6/\(a==Qad)=false /\
 ∃ xs,KT H kvs xs/\h.DictOfH (Qgy (qcg P w)) a xs:=zaon ok (.inl e)
end
section
variable {X:Cx}{pins:List (Addr×Obj)}{σ:St}{H:Hp}{s:Ql}{a:Addr}{y v:V}{u r:Value}{o:Option V}{A:Z4}{E:Value->Ql->Prop}
def Inv.big (I:Inv X pins σ H s):Qad<s.heap.objs.size:=by
 have h:Zc<s.heap.objs.size:=(I.mod.glob.keeps I.bk).lt;exact Yv (by decide) h
def zakf {h':Heap}{t':Nat}{ob:HO} (I:Inv X pins σ H s) (mu:Mut (H a)) (hs:Vh a s.heap h') (he : ∃ q,h'.get? a=some q) (new:ObjOk X.prog X.w (upd H a ob) h' a ob) :
 Inv X pins σ (upd H a ob) { s with heap:=h',toks:=t' } :=
  I.write (x:=a) (e:=a) mu (.inl rfl) (fun b q hb z=>(hs.2 b hb).trans z) he new
end
section
variable {X:Cx}{pins:List (Addr×Obj)}{σ:St}{H:Hp}{s:Ql}{a:Addr}{kvs:List (Key×V)}{k:Key}{u:Value}{A:Z4}{E:Value->Ql->Prop}
end
section
variable {X:Cx}{o i e value:Expr}{pos pos' tpos:Pos}{td ty tv:TE}
end
def zahy {P:Zj}{w:World}{H:Hp} (h:Heap) (hb:Qad<h.objs.size):ObjOk P w H (h.push { cls :=.type "dict",data :=.dict #[] }) h.objs.size (.dT []) :=
 ⟨Yc _,beq_eq_false_iff_ne.mpr (Z0 (Q9 hb)),[],.nil,_,#[],0,Qz _ rfl,⟨rfl,rfl,rfl⟩,rfl,rfl,Qeo⟩
def zaqr:TE:=fun _ H Q => ∀ p,H p=none->Q (.ref p) (upd H p (.dT []))
section
variable {X:Cx}{pos:Pos}
def zagu:PE X (.Dict [] [] pos) zaqr:=fun pins s σ H Q I h =>
 wpAny_Dict_empty ⟨.ref s.heap.objs.size,_,I.laid (a:=s.heap.objs.size) (o :=.dT []) (t':=s.toks) (fun _ _ q=>Qj _ q) (Qr _) (zahy s.heap I.big),rfl,h _ (I.hok.fresh (Qr _))⟩
end
structure M2 (X:Cx) (o:Expr) (m:Str) (apos:Pos) (e f:Expr) (cpos:Pos):Prop where
 base:Vt o m X.env (eval o X.env)=eval o X.env
 few:((Vl cpos (Qw [e,f] X.env)).all (fun x => !x.1)&&(Qct cpos (Jh [] X.env)).all (fun x=>x.1.isSome)
  && decide (([e,f]:List Expr).length+([]:List Qaz).length+(if ([]:List Qaz).isEmpty then 0 else 1)<30))=true
 line:(apos.endLine==cpos.line)=true
 trees:Vl cpos (Qw [e,f] X.env)=[(false,eval e X.env),(false,eval f X.env)]
def IsD (H:Hp) (a:Addr):Prop:=(∃ kvs,Rd H a (.dK kvs)) \/ ∃ kvs,Rd H a (.dT kvs)
def zain {X:Cx}{pins:List (Addr×Obj)}{σ:St}{H:Hp}{s:Ql}{a:Addr} (I:Inv X pins σ H s) (d:IsD H a) :
 s.TypeIs (.ref a) "dict" /\ (∀ b,Yt a = .ref b -> ∃ ob,s.heap.get? b=some ob/\ob.dict=none)/\(a==Qad)=false:=by
  rcases d with ⟨kvs,e⟩|⟨kvs,e⟩
  ·obtain ⟨_,hd,vs,_,dd⟩:=zatn I.hok e;refine ⟨dd.typeIs,fun b q=>?_,hd⟩;cases q;obtain ⟨ob,_,_,h1,h2,_⟩:=dd;exact ⟨ob,h1,h2.2.1⟩
  ·obtain ⟨_,hd,xs,_,dd⟩:=zaon I.hok e;refine ⟨dd.typeIs,fun b q=>?_,hd⟩;cases q;obtain ⟨ob,_,_,h1,h2,_⟩:=dd;exact ⟨ob,h1,h2.2.1⟩
section
variable {X:Cx}{pins:List (Addr×Obj)}{σ:St}{H:Hp}{s:Ql}{a:Addr}{y d:V}{u r:Value}{o:Option V}{A:Z4}{E:Value->Ql->Prop}
end
section
variable {X:Cx}{o e f:Expr}{apos cpos:Pos}{td ty tx:TE}
end
end
section
section
variable {X:Cx}
end
end
section
abbrev DO:=List Str->List (Str×Qh)->List Qh->(Qh->Prop)->Prop
abbrev DOF:=List Str->List (Str×Qh)->List Qh->(List Qh->Prop)->Prop
def Flds (K:Qd) (F:Hp) (us:List (Str×V)) (nm:List Str) (fs:List (Str×Qh)):Prop:=us.map (·.1)=nm /\ ∀ f d,(f,d) ∈ fs -> ∃ v,us.lookup f=some v/\Is K F d v
def OSp (K:Qd) (C:Addr) (sp:DO):Sp:=fun vs H Q _ => ∃ a dx us rest F nm fs ds q,vs = .ref a::rest/\H a=some (.ins C dx us)/\Same F H/\Flds K F us nm fs/\Iss K F ds rest/\sp nm fs ds q /\
 ∀ d v F' H',Go F H F' H'->Is K F' d v->q d->Q v H'
def OFSp (K:Qd) (C:Addr) (sp:DOF):Sp:=fun vs H Q _ => ∃ a dx us rest F nm fs ds q,vs = .ref a::rest/\H a=some (.ins C dx us)/\Same F H/\Flds K F us nm fs/\Iss K F ds rest/\sp nm fs ds q /\
 ∀ l b xs F' H',Go F H F' H'->H b=none->F' b=none->H' b=some (.lst xs)->Iss K F' l xs->q l->Q (.ref b) H'
structure OkM (P:Zj) (w:World) (K:Qd) (mg:Str->Option Value) (base:Heap) (C:Addr) (m:Str) (k:Nat) (ps:List Str) (sp:Sp):Prop where
 ex : ∃ (f:Addr) (fd:V4),FnOk P w K mg base CX0 k f fd ps sp/\Meth K C m f/\Binds K fd ps []
structure MDef (K:Qd) (C:Addr) (m qual:Str) (st:Stmt) (ps:List Str):Prop where
 ex : ∃ (f:Addr) (fd:V4),Fun K m qual st f fd/\Meth K C m f/\Binds K fd ps []
def qab {α:Type} : ∀ {l:List (Str×α)}{f:Str}{d:α},l.lookup f=some d->(f,d) ∈ l
 | (g,e)::l,f,d,h=>by
  rw [Zp] at h;cases q:f==g with
  | true =>
   rw [q] at h;have e1:f=g:=beq_iff_eq.mp q;have e2:e=d:=Qp h;subst e1 e2;simp
  | false =>
   rw [q] at h;exact Qu _ (qab h)
def qky {α:Type} : ∀ {l:List (Str×α)}{nm:List Str}{f:Str},l.map (·.1)=nm->nm.contains f=false->l.lookup f=none
 | [],_,f,_,_=>rfl
 | (g,e)::l,nm,f,h,q=>by
  subst h;rw [Q2,List.contains_cons,Qhh] at q;rw [Zp];have q1:(f==g)=false:=q.1;rw [q1];exact qky rfl q.2
section
variable {P:Zj}{w:World}{K:Qd}{mg:Str->Option Value}{base:Heap}
def qrm (N:List Str) (a C:Addr) (nm:List Str) (fs:List (Str×Qh)) (ds:List Qh):Sto:=(qas N (.none::ds)).set 0 (.obj a C nm fs)
def qhc {F H:Hp}{N:List Str}{C:Addr}{nm:List Str}{fs:List (Str×Qh)}{us:List (Str×V)}{a dx:Addr}{ds:List Qh}{rest:List V} (s:Same F H) (ha:H a=some (.ins C dx us)) (hf:Flds K F us nm fs) (i:Iss K F ds rest) :
 EnvOk K ⟨H,H,F⟩ F H (qrm N a C nm fs ds) (start N (.ref a::rest)):=by
  have I:=qfd (K:=K) (N:=N) s (qw qrs i);have e:start N (.ref a::rest)=(start N (.non::rest)).set 0 (some (.ref a)):=rfl;rw [e];exact I.sets (i:=0) (s :=.obj a C nm fs) rfl ⟨dx,us,rfl,ha,hf.1,hf.2⟩
def MDef.vok {C:Addr}{m qual:Str}{st:Stmt}{N ps:List Str}{k:Nat}{sp:DO} (F:MDef K C m qual st ps) (S:FnScope N ps (defScope st)) (len : ∀ nm fs ds q,sp nm fs ds q->ds.length+1=ps.length)
 (hbody : ∀ (f:Addr) (cdv:Value) (A:Z4) (outer:List Env) (s:Ql) (H:Hp) (E:XK),Room k (A.deeper (Qcx qual (defScope st) s.heap.objs.size f cdv)) -> ∀ a nm fs ds q,sp nm fs ds q ->
 ∃ W,VSs (qot CX0 P w K mg base N qual (defScope st) f cdv A outer s H E).nox (defBody st) W/\W { nx:=fun _=>q .none,rt:=fun r _=>q r.data } (qrm N a C nm fs ds)):OkM P w K mg base C m (k+1) ps (OSp K C sp):=by
  obtain ⟨f,fd,Fn,hm,hb⟩:=F.ex;refine ⟨f,fd,Fn.ok S (fun vs H Q E xx160=>by obtain ⟨a,dx,us,rest,F,nm,fs,ds,q,e,_,_,_,i,h,_⟩:=xx160;rw [e,Zb,i.len];exact len nm fs ds q h) fun cdv A outer s H vs Q E hr xx159=>?_,hm,hb⟩;obtain ⟨a,dx,us,rest,F,nm,fs,ds,q,e,ha,sm,hf,i,h,kk⟩:=xx159;subst e;obtain ⟨W,hW,hq⟩:=hbody f cdv A outer s H E hr a nm fs ds q h;refine ⟨_,hW,⟨H,H,F⟩,qrm N a C nm fs ds,F,_,qhc sm ha hf i,hq,⟨fun e1 F1 H1 σ1 I1 s1 q1=>kk _ _ F1 H1 I1.goOf qrs q1,fun r v e1 F1 H1 σ1 I1 s1 r1 q1=>?_,fun _ _ _ _ _ _ h=>h.elim,fun _ _ _ _ _ _ h=>h.elim⟩⟩;obtain ⟨F2,g,j⟩:=r1.is I1;exact kk _ _ F2 H1 g j q1
def MDef.vokF {C:Addr}{m qual:Str}{st:Stmt}{N ps:List Str}{k:Nat}{sp:DOF} (F:MDef K C m qual st ps) (S:FnScope N ps (defScope st)) (len : ∀ nm fs ds q,sp nm fs ds q->ds.length+1=ps.length)
 (hbody : ∀ (f:Addr) (cdv:Value) (A:Z4) (outer:List Env) (s:Ql) (H:Hp) (E:XK),Room k (A.deeper (Qcx qual (defScope st) s.heap.objs.size f cdv)) -> ∀ a nm fs ds q,sp nm fs ds q ->
 ∃ W,VSs (qot CX0 P w K mg base N qual (defScope st) f cdv A outer s H E).nox (defBody st) W/\W { nx:=fun _=>False,rt:=fun r _ => ∃ l,r = .own l/\q l } (qrm N a C nm fs ds)):OkM P w K mg base C m (k+1) ps (OFSp K C sp):=by
  obtain ⟨f,fd,Fn,hm,hb⟩:=F.ex;refine ⟨f,fd,Fn.ok S (fun vs H Q E xx162=>by obtain ⟨a,dx,us,rest,F,nm,fs,ds,q,e,_,_,_,i,h,_⟩:=xx162;rw [e,Zb,i.len];exact len nm fs ds q h) fun cdv A outer s H vs Q E hr xx161=>?_,hm,hb⟩;obtain ⟨a,dx,us,rest,F,nm,fs,ds,q,e,ha,sm,hf,i,h,kk⟩:=xx161;subst e;obtain ⟨W,hW,hq⟩:=hbody f cdv A outer s H E hr a nm fs ds q h;refine ⟨_,hW,⟨H,H,F⟩,qrm N a C nm fs ds,F,_,qhc sm ha hf i,hq,⟨fun e1 F1 H1 σ1 I1 s1 q1=>q1.elim,fun r v e1 F1 H1 σ1 I1 s1 r1 q1=>?_,fun _ _ _ _ _ _ h=>h.elim,fun _ _ _ _ _ _ h=>h.elim⟩⟩;obtain ⟨l,rfl,q1⟩:=q1;obtain ⟨b,xs,rfl,h1,h2,h3,h4,h5⟩:=r1;exact kk l b xs F1 H1 I1.goOf h4 h2 h1 h5 q1
end
section
variable {X:Cx}
def wFld (C:Addr) (i:Nat) (f:Str):WE:=fun env Q=>match gS env i with | .obj _ C' _ fs=>C'=C /\ ∃ d,fs.lookup f=some d/\Q d env|_=>False
def qcs (i:Nat) {C:Addr}{x f:Str}{px pos:Pos} (c:Cls X.K C) (n:NoAttr X.K C f) (hN:X.N[i]?=some x:=by rfl) (hv:Vis X.env.scope x:=by first|exact Yy rfl|exact Z6 (Yy rfl)|exact Z6 (Z6 rfl)) (hd:Nd0 x:=by decide)
 (hcd:Nd1 x:=by decide) (hb:Vt (.Name x px) f X.env (eval (.Name x px) X.env)=eval (.Name x px) X.env:=by rfl):VE X (.Attribute (.Name x px) f pos) (wFld C i f) :=
 (qvw (qcx hN hv hd hcd) hb).imp fun σ H R xx163=>by
  obtain ⟨M,env,F,Q,I,h,k⟩:=xx163;have S:=I.slot i;unfold wFld at h;cases q:gS env i with
  | obj a C' nm0 fs =>
   rw [q] at S h;obtain ⟨rfl,d,hl,h⟩:=h;obtain ⟨dx,vs,e,hB,nm,hfs⟩:=S;obtain ⟨v,l,j⟩:=hfs f d (qab hl);exact ⟨_,qcj e,a,C',dx,vs,v,rfl,I.bh _ _ hB,c,n,l,k d v F H env I (.refl _) j h⟩
  | non=>rw [q] at h;exact h.elim
  | val d=>rw [q] at h;exact h.elim
  | own ds=>rw [q] at h;exact h.elim
  | pen ds=>rw [q] at h;exact h.elim
  | new d=>rw [q] at h;exact h.elim
  | exc C=>rw [q] at h;exact h.elim
def zajw (C:Addr) (i:Nat) (m:Str) (sp:DO) (Wr:WF):WE:=fun env Q=>match gS env i with
 | .obj _ C' nm fs=>C'=C/\nm.contains m=false/\Wr env fun ds e=>match gS e i with | .obj _ C2 nm2 fs2=>C2=C/\sp nm2 fs2 ds fun d=>Q d e|_=>False
 | _=>False
def zaej {C:Addr}{i:Nat}{m:Str}{sp:DO}{Wr:WF}{σ:St}{H:Hp}{R:VK} (h:qfr X.K (zajw C i m sp Wr) σ H R):zaeu C m (OSp X.K C sp) [] E0 (qvj i) (qgv X.K Wr) σ H R:=by
 obtain ⟨M,env,F,Q,I,h,k⟩:=h;have S:=I.slot i;unfold zajw at h;cases q:gS env i with
 | obj a C' nm0 fs =>
  rw [q] at S h;obtain ⟨rfl,hl,h⟩:=h;obtain ⟨dx,vs,e,hB,nm,hfs⟩:=S;refine ⟨_,qcj e,a,dx,vs,rfl,I.bh _ _ hB,qky nm hl,M,env,F,_,I,h,fun ds us F1 H1 e1 I1 s1 i1 h1=>?_⟩;have S1:=I1.slot i;cases q1:gS e1 i with
  | obj a2 C2 nm3 fs2 =>
   rw [q1] at S1 h1;obtain ⟨rfl,h1⟩:=h1;obtain ⟨dx2,vs2,e2,hB2,nm2,hfs2⟩:=S1;rw [e] at e2;injection e2 with e2;injection e2 with e2;subst e2;show OSp X.K C2 sp (V.ref a::(us++[])) H1 R E0;rw [Ve];exact ⟨a,dx2,vs2,us,F1,nm3,fs2,ds,_,rfl,I1.bh _ _ hB2,I1.fh,⟨nm2,hfs2⟩,i1,h1,fun d v F2 H2 g i2 q=>k d v F2 H2 e1 (I1.go g) (s1.trans g.f) i2 q⟩
  | non=>rw [q1] at h1;exact h1.elim
  | val d=>rw [q1] at h1;exact h1.elim
  | own ds=>rw [q1] at h1;exact h1.elim
  | pen ds=>rw [q1] at h1;exact h1.elim
  | new d=>rw [q1] at h1;exact h1.elim
  | exc C=>rw [q1] at h1;exact h1.elim
 | non=>rw [q] at h;exact h.elim
 | val d=>rw [q] at h;exact h.elim
 | own ds=>rw [q] at h;exact h.elim
 | pen ds=>rw [q] at h;exact h.elim
 | new d=>rw [q] at h;exact h.elim
 | exc C=>rw [q] at h;exact h.elim
def zama (i:Nat) {C:Addr}{x m:Str}{px apos pos:Pos}{pl:Sem Bool}{e:Expr}{es:List Expr}{Wr:WF}{k:Nat}{ps:List Str}{sp:DO} (O:OkM X.prog X.w X.K X.mg X.base C m k ps (OSp X.K C sp)) (c:Cls X.K C) (hr:Room k X.A) (ha:VA X (e::es) Wr)
 (hN:X.N[i]?=some x:=by rfl) (hv:Vis X.env.scope x:=by first|exact Yy rfl|exact Z6 (Yy rfl)|exact Z6 (Z6 rfl)) (hd:Nd0 x:=by decide) (hcd:Nd1 x:=by decide)
  (hst:Qw (e::es) X.env=(false,eval e X.env)::Qw es X.env:=by rfl) (hpl:(Vl pos (Qw es X.env)).any (·.1)=false:=by rfl)
  (ht:eval (.Call (.Attribute (.Name x px) m apos) (e::es) [] pos) X.env=(do
   let ov <- eval (.Name x px) X.env
   Qgw apos.atName
   let (f,first) <- Qdd [ov] (Qip ov m pl)
   callWith pos f first (Vl pos (Qw (e::es) X.env)) (Qct pos (Jh [] X.env))):=by rfl) :
  VE X (.Call (.Attribute (.Name x px) m apos) (e::es) [] pos) (zajw C i m sp Wr):=by
  obtain ⟨f,fd,F,hm,hb⟩:=O.ex;exact (qut (pl:=pl) (qcx hN hv hd hcd) c hm F hr hb .nil qpe ha hst hpl ht).imp fun σ H R h=>zaej h
end
end
section
section
variable {X:Cx}
def VE.pe {e:Expr}{W:WE} (h:VE X e W):PE X e (qfr X.K W):=h
def VF.pe {e:Expr}{W:WF} (h:VF X e W):PE X e (qob X.K W):=h
def VT.pt {e:Expr}{W:WT} (h:VT X e W):PT X e (zaez X.K W):=h
def VS.ps {st:Stmt}{W:WS} (h:VS X st W):PS X st (qsl X.K W):=h
def VSs.pss {st:List Stmt}{W:WS} (h:VSs X st W):PSs X st (qsl X.K W):=h
end
structure GoX (a b:Addr) (F H F' H':Hp):Prop where
 f:Same F F'
 h : ∀ c o,c≠a->c≠b->H c=some o->H' c=some o
 fh:Same F' H'
 new : ∀ c o,F' c=some o->F c=some o\/H c=none
def zajb {a:Addr}{o:HO}{F H F' H':Hp} (hF:F a=none) (hH:H a=some o) (g:Go (upd F a o) H F' H'):Go F H (qbb F' a) H':=by
 refine ⟨fun b u e=>?_,g.h,fun b u e=>?_,fun b u e=>?_⟩
 ·have hb:b≠a:=qm e hF;unfold qbb;rw [if_neg hb];exact g.f b u (by rw [qi hb];exact e)
 ·unfold qbb at e;split at e
  ·cases e
  ·exact g.fh b u e
 ·unfold qbb at e;split at e
  ·cases e
  ·rename_i hb;rcases g.new b u e with q|q
   ·rw [qi hb] at q;exact .inl q
   ·exact .inr q
mutual
def qsh:Qh->Bool
 | .list _=>false
 | .dict _=>false
 | .tuple l=>qjv l
 | _=>true
def qjv:List Qh->Bool
 | []=>true
 | d::l=>qsh d&&qjv l
end
mutual
def Is.off {K:Qd}{F:Hp}{a:Addr}{xs:List V} (hF:F a=some (.lst xs)) : ∀ {d:Qh}{v:V},qsh d=true->Is K F d v->Is K (qbb F a) d v
 | .none,_,_,h=>by unfold Is at h ⊢;exact h
 | .bool _,_,_,h=>by unfold Is at h ⊢;exact h
 | .int _,_,_,h=>by unfold Is at h ⊢;exact h
 | .str _,_,_,h=>by unfold Is at h ⊢;exact h
 | .list l,_,z,h=>by simp [qsh] at z
 | .dict l,_,z,h=>by simp [qsh] at z
 | .tuple l,_,z,h=>by
  unfold Is at h ⊢;obtain ⟨b,ys,e,q,r⟩:=h;refine ⟨b,ys,e,?_,Iss.off hF (by simpa [qsh] using z) r⟩;rcases q with q|q
  ·refine .inl ?_;rcases q with q|⟨o,q⟩
   ·refine .inl ?_;unfold qbb;rw [if_neg (fun y=>by subst y;rw [hF] at q;cases q)];exact q
   ·refine .inr ⟨o,?_⟩;unfold qbb;rw [if_neg (fun y=>by subst y;rw [hF] at q;cases q)];exact q
  ·exact .inr q
def Iss.off {K:Qd}{F:Hp}{a:Addr}{xs:List V} (hF:F a=some (.lst xs)) : ∀ {l:List Qh}{vs:List V},qjv l=true->Iss K F l vs->Iss K (qbb F a) l vs
 | [],_,_,h=>by unfold Iss at h ⊢;exact h
 | d::l,_,z,h=>by
  unfold Iss at h ⊢;obtain ⟨x,r,e,p,q⟩:=h;have z':qsh d=true/\qjv l=true:=by simpa [qjv] using z
  exact ⟨x,r,e,Is.off hF z'.1 p,Iss.off hF z'.2 q⟩
end
section
variable {X:Cx}
def boot_rng:Zv "range" = some (.type "range"):=by decide +kernel
def zade:CallR X (.type "range") (fun xs H Q => ∃ i j,xs=[.int i,.int j] /\ ∀ l,H l=none->Q (.ref l) (upd H l (.rng i j))):=by
 intro pins s σ H xs us Q I r h;obtain ⟨i,j,rfl,q⟩:=h;obtain ⟨u,c,rfl,⟨t,rfl⟩,⟨t',rfl⟩⟩:=zanz r;refine call_range_2 ⟨.ref s.heap.objs.size,_,I.laid (a:=s.heap.objs.size) (o :=.rng i j) (t':=s.toks+1) (fun _ _ q=>Qj _ q) (Qr _) ?_,rfl,q _ (I.hok.fresh (Qr _))⟩;exact ⟨t,t',s.toks,Qz _ rfl⟩
def rngV (i:Int) (n:Nat):List V:=(Q1 n).map fun (k:Nat)=>V.int (i+k)
def zagm {i:Int}{n:Nat}{acc:Array Value} (h:ItemsOf (fun (k:Nat) (v:Value) => ∃ t,v=Qew (i+(k:Int)*1) t) acc n):Vals (rngV i n) acc.toList:=by
 have key : ∀ (m:Nat) (l:List Value),l.length=m -> ∀ o:Nat,(∀ k v,l[k]?=some v -> ∃ t,v=Qew (i+((o+k:Nat):Int)) t)->Vals ((List.range' o m).map fun (k:Nat)=>V.int (i+k)) l:=by
  intro m
  induction m with
  | zero =>
   intro l hl o _;cases l with
   | nil=>exact .nil
   | cons _ _=>cases hl
  | succ m ih =>
   intro l hl o hk;cases l with
   | nil=>cases hl
   | cons v l =>
    rw [List.range'_succ,Q2];refine .cons (hk 0 v rfl) (ih l (Qgg hl) (o+1) fun k w hw=>?_);obtain ⟨t,e⟩:=hk (k+1) w (by simpa using hw);exact ⟨t,by rw [e];congr 2 <;> omega⟩
 unfold rngV;rw [List.range_eq_range'];refine key n acc.toList (by rw [Yj];exact h.1) 0 fun k v hv=>?_;obtain ⟨t,e⟩:=h.2 k v (by rw [<- Vv];exact hv);exact ⟨t,by rw [e];congr 2 <;> omega⟩
def zads (hc:X.calm=true):CallR X (.type "list") (fun xs H Q => ∃ r i j,xs=[.ref r]/\H r=some (.rng i j)/\(-(2^62)<=i/\i<2^62 /\ -(2^62)<=j/\j<2^62)/\(j-i).toNat<=1000 /\ ∀ l,H l=none->Q (.ref l) (upd H l (.lst (rngV i (j-i).toNat)))):=by
 intro pins s σ H xs us Q I r h;obtain ⟨p,i,j,rfl,hp,⟨h1,h2,h3,h4⟩,hl,q⟩:=h;obtain ⟨u,rfl,rx⟩:=qkk r;cases rx;obtain ⟨t,t',v,ho⟩:=(show ObjOk X.prog X.w H s.heap p (.rng i j) from I.hok p _ hp)
 refine call_list_range (I.ok.hd hc) (a:=i) (b:=j) (c:=1) (t:=t) (u:=t') (v:=v) (n:=(j-i).toNat) ho (small_one h1 h2 h3 h4) (by rw [rangeSize_one];split <;> omega) (by omega) fun h' tk acc' c' kp hS hacc=>?_;refine ⟨.ref s.heap.objs.size,_,I.laid (t':=tk) kp (Qr _) (show ObjOk X.prog X.w _ h' _ (.lst (rngV i (j-i).toNat)) from ⟨?_,acc'.toList,c',zagm hacc,?_⟩),rfl,q _ (I.hok.fresh (Qr _))⟩
 ·unfold rngV;rw [Qf,Yz];exact Y8 (qo hl)
 ·rw [hS]
end
end
section
def qlp {F H:Hp}{a:Addr}{o:HO} (s:Same F H) (h:H a=some o):Same (upd F a o) H:=fun b u e=>by
 by_cases z:b=a
 ·subst z;rw [ql] at e;rw [<- e];exact h
 ·rw [qi z] at e;exact s b u e
def zabh {F H:Hp}{a:Addr}{o:HO} (s:Same F H) (h:H a=some o):Same F (upd F a o):=fun b u e=>by
 by_cases z:b=a
 ·subst z;rw [ql];have:=s _ _ e;rw [h] at this;exact this
 ·rw [qi z];exact e
def qmc {F H F' H':Hp}{a:Addr}{o:HO} (g:Go F H F' H') (h:H a=some o) (f:F a=none):F' a=none:=by
 cases e:F' a with
 | none=>rfl
 | some u =>
  rcases g.new a u e with q|q
  ·rw [f] at q;cases q
  ·rw [h] at q;cases q
def zaol {F H F' H':Hp}{b:Addr}{o:HO} (g:Go F H F' H') (hb:H b=none) (h':H' b=some o):Go F H (upd F' b o) H' where
 f:=g.f.trans (zabh g.fh h')
 h:=g.h
 fh:=qlp g.fh h'
 new:=fun c u e=>by
  by_cases z:c=b
  ·subst z;exact .inr hb
  ·rw [qi z] at e;exact g.new c u e
def GoX.go {F H F1 H1 F2 H2:Hp}{a b:Addr} (g:Go F H F1 H1) (x:GoX a b F1 H1 F2 H2) (na:H a=none) (nb:H b=none):Go F H F2 H2 where
 f:=g.f.trans x.f
 h:=fun c o e=>x.h c o (qm e na) (qm e nb) (g.h c o e)
 fh:=x.fh
 new:=fun c o e=>(x.new c o e).elim (fun q=>g.new c o q) fun q => .inr (qu g.h q)
section
variable {K:Qd}{M:Frm}{F H:Hp}
def Slots (K:Qd) (M:Frm) (F H:Hp):Sto->St->Prop
 | [],σ=>σ=[]
 | s::e,σ => ∃ x r,σ=x::r/\(SlotOk K M F H s x/\s.mut=false)/\Slots K M F H e r
def zaao (K:Qd) (M:Frm) (F H:Hp):Sto->St->Prop
 | [],σ=>σ=[]
 | s::e,σ => ∃ x r,σ=x::r/\SlotOk K M F H s x/\zaao K M F H e r
def Slots.len : ∀ {e:Sto}{σ:St},Slots K M F H e σ->e.length=σ.length
 | [],σ,h=>by
  have h:σ=[]:=h;subst h;rfl
 | s::e,σ,h=>by
  obtain ⟨x,r,rfl,_,h⟩:=h;rw [Zb,Zb,Slots.len h]
def Slots.at : ∀ {e:Sto}{σ:St},Slots K M F H e σ -> ∀ i,SlotOk K M F H (gS e i) (vS σ i)/\(gS e i).mut=false
 | [],σ,h,i=>by
  rw [zaap (Yc _)];exact ⟨trivial,rfl⟩
 | s::e,σ,h,0=>by
  obtain ⟨x,r,rfl,q,h⟩:=h;exact q
 | s::e,σ,h,i+1=>by
  obtain ⟨x,r,rfl,q,h⟩:=h;have e1:vS (x::r) (i+1)=vS r i:=by unfold vS;rw [Z7]
  rw [e1];exact Slots.at h i
def qhw {env:Sto}{σ:St} (s:Same F H) (h:Slots K ⟨H,H,F⟩ F H env σ):EnvOk K ⟨H,H,F⟩ F H env σ where
 len:=h.len
 slot:=fun i=>(h.at i).1
 dis:=fun i j a _ m _ _ _=>by rw [(h.at i).2] at m;cases m
 f0 :=.refl _
 fe:=s
 fh:=s
 bh :=.refl _
 new:=fun b o e => .inl e
 dom:=fun b o e=>⟨o,e⟩
def qtt : ∀ {env:Sto}{σ:St},env.length=σ.length->(∀ i,SlotOk K M F H (gS env i) (vS σ i))->zaao K M F H env σ
 | [],[],_,_=>rfl
 | [],_::_,h,_=>by cases h
 | _::_,[],h,_=>by cases h
 | s::e,x::σ,h,k=>⟨x,σ,rfl,k 0,qtt (Qgg h) fun i=>by
  have q:=k (i+1);have e1:vS (x::σ) (i+1)=vS σ i:=by unfold vS;rw [Z7]
  rw [e1] at q;exact q⟩
def EnvOk.all {env:Sto}{σ:St} (I:EnvOk K M F H env σ):zaao K M F H env σ:=qtt I.len I.slot
end
def SolSp (K:Qd) (sp:DC):Sp:=fun vs H Q _ => ∃ F ds q,Same F H/\Iss K F ds vs/\sp ds q /\
 ∀ d t p lb xs F' H',Go F H F' H'->Is K F' d (.ref p)->H' p=some (.tup [t,.ref lb])->H lb=none->H' lb=some (.lst xs)->xs.length<=900->q d->Q (.ref p) H'
def SolSp.psp {K:Qd}{sp:DC}{vs:List V}{H:Hp}{Q:VK}{E:XK} (h:PSp K sp vs H Q E):SolSp K sp vs H Q E:=by
 obtain ⟨F,ds,q,s,i,h,k⟩:=h;exact ⟨F,ds,q,s,i,h,fun d t p lb xs F' H' g j _ _ _ _ z=>k d (.ref p) F' H' g j z⟩
def zacd {K:Qd}{F H F1 H1:Hp}{p a:Addr}{xs:List V}{ds:List Qh}{w:Str} (g:Go F H F1 H1) (ha:H a=none) (h1:H1 a=some (.lst xs)) (i:Iss K F1 ds xs) (hp:H1 p=none) :
 ∃ F2,Go F H F2 (upd H1 p (.tup [.str w,.ref a]))/\Is K F2 (.tuple [.str w,.list ds]) (.ref p)/\upd H1 p (.tup [.str w,.ref a]) p=some (.tup [.str w,.ref a])/\upd H1 p (.tup [.str w,.ref a]) a=some (.lst xs):=by
  have g2:=zaol g ha h1;have g3:=Go.put (o:=HO.tup [.str w,.ref a]) g2.fh hp;have ne:a≠p:=qm h1 hp;refine ⟨_,g2.trans g3,qoh (SqT.of ql) (qw (zaak w) (qw (qcv (SqL.of ?_) (i.mono ((zabh g.fh h1).trans g3.f))) qQ)),ql,by rw [qi ne];exact h1⟩;rw [qi ne];exact ql
def Ok.imp' {P:Zj}{w:World}{K:Qd}{mg:Str->Option Value}{base:Heap}{x:Str}{k:Nat}{ps:List Str}{sp sp':Sp} (O:Ok P w K mg base x k ps sp) (h : ∀ vs H Q E,sp' vs H Q E->sp vs H Q E):Ok P w K mg base x k ps sp':=by
 obtain ⟨f,fd,F,a,b,c⟩:=O.ex;exact ⟨f,fd,F.imp h,a,b,c⟩
def zasi {P:Zj}{w:World}{K:Qd}{mg:Str->Option Value}{base:Heap}{x:Str}{k:Nat}{ps:List Str}{sp:DC} (O:Ok P w K mg base x k ps (SolSp K sp)):Ok P w K mg base x k ps (PSp K sp):=O.imp' fun _ _ _ _ z=>SolSp.psp z
section
variable {X:Cx}
def VN.pe {e:Expr}{W:WE} (h:VN X e W):PE X e (zafa X.K W):=h
end
section
variable {X:Cx}
end
end
section
section
variable {X:Cx}
def VI.pi {tg e:Expr}{W:WF} (h:VI X tg e W):PI X tg e (qjg X.K W):=h
end
def zacx {K:Qd}{W:WS}{D:Ends}{σ:St}{H:Hp}{M:Frm}{env:Sto}{F:Hp} (P:Sto->Prop) (I:EnvOk K M F H env σ) (hW:W { nx:=P,rt:=fun _ _=>False } env) (k : ∀ env' F' H' σ',EnvOk K M F' H' env' σ'->Same F F'->P env'->D.nx σ' H'):qsl K W D σ H :=
 ⟨M,env,F,_,I,hW,⟨k,fun _ _ _ _ _ _ _ _ _ q=>q.elim,fun _ _ _ _ _ _ q=>q.elim,fun _ _ _ _ _ _ q=>q.elim⟩⟩
structure OwnL (H0 H F:Hp) (a:Addr) (xs:List Int):Prop where
 h:H a=some (.lst (xs.map V.int))
 f:F a=none
 n:H0 a=none
def OwnL.go {H0 H F H' F':Hp}{a:Addr}{xs:List Int} (o:OwnL H0 H F a xs) (g:Go F H F' H'):OwnL H0 H' F' a xs:=⟨g.h _ _ o.h,qmc g o.h o.f,o.n⟩
structure Nest (H0 H F:Hp) (ra:Addr) (as:List Addr) (R:List (List Int)):Prop where
 h:H ra=some (.lst (as.map V.ref))
 f:F ra=none
 n:H0 ra=none
 l:as.length=R.length
 e : ∀ (k:Nat) a r,as[k]?=some a->R[k]?=some r->OwnL H0 H F a r
 ne:ra ∉ as
 nd : ∀ (i j:Nat) a,as[i]?=some a->as[j]?=some a->i=j
def Nest.get {H0 H F:Hp}{ra:Addr}{as:List Addr}{R:List (List Int)} (o:Nest H0 H F ra as R) {a:Addr} (h:a ∈ as) : ∃ (k:Nat) (r:List Int),as[k]?=some a/\R[k]?=some r/\OwnL H0 H F a r:=by
 obtain ⟨k,hk⟩:=Jj h;have hl:=(Qm.mp hk).1;have er:R[k]?=some (R[k]'(by rw [<- o.l];exact hl)):=Qc _;exact ⟨k,_,hk,er,o.e k _ _ hk er⟩
def Nest.keep {H0 H F H' F':Hp}{ra:Addr}{as:List Addr}{R:List (List Int)} (o:Nest H0 H F ra as R) (hr : ∀ c,(c=ra\/c ∈ as)->H' c=H c/\F' c=none):Nest H0 H' F' ra as R where
 h:=by rw [(hr ra (.inl rfl)).1];exact o.h
 f:=(hr ra (.inl rfl)).2
 n:=o.n
 l:=o.l
 e:=fun k a r h1 h2=>by
  have q:=o.e k a r h1 h2;have z:=hr a (.inr (Qg h1));exact ⟨by rw [z.1];exact q.h,z.2,q.n⟩
 ne:=o.ne
 nd:=o.nd
def OwnL.keep {H0 H F H' F':Hp}{a:Addr}{xs:List Int} (o:OwnL H0 H F a xs) (h:H' a=H a) (f:F' a=none):OwnL H0 H' F' a xs:=⟨by rw [h];exact o.h,f,o.n⟩
def Nest.put {H0 H F:Hp}{ra a:Addr}{as:List Addr}{R:List (List Int)}{r:List Int}{k:Nat} (o:Nest H0 H F ra as R) (ha:as[k]?=some a):Nest H0 (upd H a (.lst (r.map V.int))) F ra as (R.set k r) where
 h:=by
  rw [qi]
  ·exact o.h
  ·intro z;subst z;exact o.ne (Qg ha)
 f:=o.f
 n:=o.n
 l:=by rw [Ye];exact o.l
 e:=fun i c s g1 g2=>by
  rw [Qaq] at g2;by_cases hk:k=i
  ·subst hk;rw [if_pos rfl] at g2;split at g2
   ·have e1:=Qp g2;subst e1;rw [ha] at g1;have e2:=Qp g1;subst e2;obtain ⟨_,r',_,_,q⟩:=o.get (Qg ha);exact ⟨ql,q.f,q.n⟩
   ·cases g2
  ·rw [if_neg hk] at g2;have q:=o.e i c s g1 g2;exact q.keep (by rw [qi];intro z;subst z;exact hk (o.nd k i _ ha g1)) q.f
 ne:=o.ne
 nd:=o.nd
def qyc {K:Qd}{F:Hp} : ∀ {as:List Addr}{R:List (List Int)},as.length=R.length->(∀ (k:Nat) a r,as[k]?=some a->R[k]?=some r->F a=some (.lst (r.map V.int)))->Iss K F (R.map fun r => .list (r.map .int)) (as.map V.ref)
 | [],[],_,_=>qQ
 | [],_::_,h,_=>by cases h
 | _::_,[],h,_=>by cases h
 | a::as,r::R,h,k=>qw (qcv (SqL.of (k 0 a r rfl rfl)) (qfp r)) (qyc (Qgg h) fun i b s h1 h2=>k (i+1) b s (by simpa using h1) (by simpa using h2))
def qyk (F H:Hp) (ra:Addr) (as:List Addr):Hp:=fun c=>if c=ra\/c ∈ as then H c else F c
def Nest.frz {K:Qd}{H0 H F:Hp}{ra:Addr}{as:List Addr}{R:List (List Int)} (o:Nest H0 H F ra as R) (s:Same F H) :
 Same F (qyk F H ra as)/\Same (qyk F H ra as) H/\Is K (qyk F H ra as) (.list (R.map fun r => .list (r.map .int))) (.ref ra):=by
  have out : ∀ c u,F c=some u -> ¬ (c=ra\/c ∈ as):=fun c u e z=>by
   rcases z with z|z
   ·subst z;rw [o.f] at e;cases e
   ·obtain ⟨_,_,_,_,q⟩:=o.get z;rw [q.f] at e;cases e
  refine ⟨fun c u e=>?_,fun c u e=>?_,qcv (SqL.of ?_) (qyc o.l fun k a r h1 h2=>?_)⟩
  ·unfold qyk;rw [if_neg (out c u e)];exact e
  ·unfold qyk at e;split at e
   ·exact e
   ·exact s c u e
  ·unfold qyk;rw [if_pos (.inl rfl)];exact o.h
  ·unfold qyk;rw [if_pos (.inr (Qg h1))];exact (o.e k a r h1 h2).h
end
section
section
variable {X:Cx}
def zafx {elt target iter:Expr}{scope:Scope}{caps own:List Str}{ix:List Nat}{pos py spos:Pos}{i:Nat}{y:Str}{Wi Wf:WF}{g:TG} (hN:X.N.Nodup) (hc:X.calm=true) (S:CompScope X.env scope caps) (hi:VI X target iter Wi) (hg : ∀ pins s3 H ex,PG (blk X pins scope (caps++own) s3 H ex) target g) (he : ∀ pins s3 H ex,VF (blk X pins scope (caps++own) s3 H ex) elt Wf)
 (hiy:X.N[i]?=some y:=by rfl) (hy:X.env.scope.names.lookup y=some .local:=by rfl) (hsw:Jf (.ListComp elt [⟨target,iter,[],0⟩] scope pos) (some (.Name y py)) spos.line X.env=pure true:=by rfl)
  (hix:caps.length=ix.length:=by rfl) (hcapB:(caps.zip ix).all (fun p=>X.N[p.2]?==some p.1)=true:=by rfl) (hs : ∀ x,Yg iter X.env x=pure x:=by intro _;rfl) :
  PS X (.Assign [.Name y py] (.ListComp elt [⟨target,iter,[],0⟩] scope pos) spos) (tAsg (qpx ix own.length (qjg X.K Wi) g (qob X.K Wf)) (qpd i)) :=
  qpj (wi:=qjg X.K Wi) (g:=g) (te:=qob X.K Wf) hN hiy hy hsw hc S hi hg he hix hcapB hs
end
end
section
def zami (l:Addr) (its:Array Value) (n:Nat) (b:Addr) (dc:Option Addr) (its2:Array Value) (n2:Nat) (sl:Array (Option Value)) (h0 : ¬(!its.isEmpty&&Vw (its.size+its2.size))=true) (h1:its.size<=Q6) (h2:its.size+its2.size<=Q6+1) :
 Meets (Builtin.«list.extend» ⟨[.ref l,.ref b],[]⟩) (fun _ Rr s=>s.heap.get? l=some { cls :=.type "list",dict:=none,data :=.seq its n,slots := #[] }/\s.heap.get? b=some ⟨.type "tuple",dc,.seq its2 n2,sl⟩/\Rr (.ok (.ret Y7)) { s with heap:=s.heap.update l (Ys fun x=>x++its2),toks:=s.toks }) :=
  .of_wp fun prog w A Rr s h=>by
   obtain ⟨hp,g,d,tk,os⟩:=s;obtain ⟨hl,hb,h⟩:=h;have f2:=sub_tuple_tuple;have f3:=sub_list_list;have f4:=sub_tuple_list;have f5:=sub_list_tuple;have hz':(its++its2).size<=Q6+1:=by rw [Array.size_append];exact h2
   wp_walk using (wpAny_updateSeq hl rfl (hz:=h1) (_hz':=hz')),Z8 hl,Z8 hb
   exact ⟨_,rfl,h⟩
def zatb (K:Qd):V->List V->Hp->VK->Prop:=fun x vs H Q => ∃ l b xs zs,x = .ref l/\vs=[.ref b]/\H l=some (.lst xs)/\SqT K H b zs/\xs.length+zs.length<=Q6/\Q .non (upd H l (.lst (xs++zs)))
section
variable {X:Cx}{e:Expr}{We:WE}{pos:Pos}
def zakn:MtM X "list.extend" (zatb X.K):=by
 intro pins s σ H x vs v us Q I rx rv h;obtain ⟨l,b,xs,zs,rfl,rfl,hH,hB,hz,q⟩:=h;cases rx;obtain ⟨u,rfl,ru⟩:=rv.one;cases ru;obtain ⟨z,its,n,r,hl,e⟩:=I.lstM hH;obtain ⟨its2,r2,⟨o,e2,oc,n2,od⟩,z2⟩:=I.tuple hB;obtain ⟨c,dc,dd,sl⟩:=o;dsimp only at oc od;subst oc od;have hl2:=r2.length;have hsz:its.toArray.size+its2.toArray.size<=Q6:=by rw [Qs,Qs];omega
 have hlong : ¬ (!its.toArray.isEmpty&&Vw (its.toArray.size+its2.toArray.size))=true:=by
  rw [qxm hsz,Qkq];exact Zo
 refine Qfe Qie ⟨_,e,rfl⟩ Qhs (Qhf _ _) (zami l its.toArray n b dc its2.toArray n2 sl hlong (by rw [Qs];omega) (by omega)) ⟨e,e2,?_⟩;refine ⟨.non,_,I.lset (its':=its++its2) hH e (by simp) (r.append r2) ?_,rfl,q⟩;rw [Z1];omega
def zath (i:Nat) (We:WE):WS:=fun D env=>(gS env i).mut=true/\We env fun d e=>match d with
 | .tuple l=>(gS e i).mut=true/\(gS e i).cnt.length+l.length<=Q6/\D.nx (e.set i ((gS e i).upd ((gS e i).cnt++l)))
 | _=>False
def qzq (i:Nat) {x:Str}{px apos cpos:Pos} (he:VE X e We) (hN:X.N[i]?=some x:=by rfl) (hv:Vis X.env.scope x:=by first|exact Yy rfl|exact Z6 (Yy rfl)|exact Z6 (Z6 rfl)) (hd:Nd0 x:=by decide)
 (hcd:Nd1 x:=by decide)
 (hbase:Vt (.Name x px) "extend" X.env (eval (.Name x px) X.env)=eval (.Name x px) X.env:=by rfl)
 (hfew:((Vl cpos (Qw [e] X.env)).all (fun x => !x.1)&&(Qct cpos (Jh [] X.env)).all (fun x=>x.1.isSome)
  && decide ([e].length+([]:List Qaz).length+(if ([]:List Qaz).isEmpty then 0 else 1)<30))=true:=by rfl)
 (hline:(apos.endLine==cpos.line)=true:=by rfl) (hst:Qw [e] X.env=(false,eval e X.env)::Qw [] X.env:=by rfl) (hplain:(Vl cpos (Qw [] X.env)).any (·.1)=false:=by rfl)
 (hs:Jf (.Call (.Attribute (.Name x px) "extend" apos) [e] [] cpos) none pos.line X.env=pure false:=by rfl):VS X (.Expr (.Call (.Attribute (.Name x px) "extend" apos) [e] [] cpos) pos) (zath i We) :=
 (qhq (zaet J0 Qfc Qfd zakn (qcx hN hv hd hcd) (qz he qal hst) hbase hfew hline hst hplain) hs).imp fun D σ H xx164=>by
  obtain ⟨M,env,F,DD,I,⟨hm,h⟩,k⟩:=xx164;obtain ⟨p,vs,ep,g1,g2,g3,g4⟩:=(I.slot i).addr hm;refine ⟨_,qcj ep,.inl ⟨rfl,_,SqL.of g1⟩,M,env,F,_,I,h,fun d2 v2 F1 H1 e1 I1 s1 i1 h1=>?_⟩;cases d2 with
  | tuple l =>
   obtain ⟨m1,z1,q1⟩:=h1;obtain ⟨p',vs1,ep',f1,f2,f3,f4⟩:=(I1.slot i).addr m1;rw [ep] at ep';injection ep' with ep';injection ep' with ep';subst ep';obtain ⟨a,xs,rfl,hs',hr⟩:=i1.tup_inv;exact ⟨p,a,vs1,xs,rfl,rfl,f1,qU I1.fh hs',by rw [f4.len,hr.len];exact z1,k.nx _ F1 _ σ (I1.chg m1 ep (qaz f4 hr)) s1 q1⟩
  | _=>exact Zd h1
end
end
section
def Iss.strs_inv {K:Qd}{H:Hp} : ∀ {ns:List Str}{xs:List V},Iss K H (ns.map .str) xs->xs=ns.map V.str
 | [],_,h=>h.nil_inv
 | n::ns,_,h=>by
  obtain ⟨y,ys,rfl,p,q⟩:=h.cons_inv;have e:y = .str n:=by unfold Is at p;exact p
  rw [e,Iss.strs_inv q];rfl
section
variable {X:Cx}
def dInS:D2:=fun x y q => ∃ (i:Str) (ns:List Str),x = .str i/\qea y=some (ns.map .str)/\q (.bool (ns.any (· == i)))
def qqp (i:Str) : ∀ ns:List Str,inV (.str i) (ns.map V.str)=ns.any (· == i)
 | []=>rfl
 | n::ns=>by
  have:=qqp i ns;unfold inV at this ⊢;rw [Q2,Jz,Jz,this];rfl
def qtn (ns:List Str):(ns.map V.str).all qll=true:=by
 rw [Y5];intro x hx;obtain ⟨i,_,rfl⟩:=Qk.mp hx;rfl
def zasy:OpV X (Vc .In) dInS:=OpR.imp qso fun x y H Q xx165=>by
 obtain ⟨F,dx,dy,q,s,i1,i2,⟨i,ns,e1,e2,hq⟩,k⟩:=xx165;subst e1;have ex:x = .str i:=by unfold Is at i1;exact i1
 subst ex;have fin:=k _ _ F H (.refl s) (qgi _) hq;cases dy with
 | list l =>
  cases e2;obtain ⟨a,xs,rfl,hs,hr⟩:=i2.lst_inv;rw [hr.strs_inv] at hs;exact ⟨a,_,rfl,.inl (s.seq hs),rfl,qtn ns,by rw [qqp];exact fin⟩
 | tuple l =>
  cases e2;obtain ⟨a,xs,rfl,hs,hr⟩:=i2.tup_inv;rw [hr.strs_inv] at hs;exact ⟨a,_,rfl,.inr (qU s hs),rfl,qtn ns,by rw [qqp];exact fin⟩
 | _=>cases e2
end
end
section
section
variable {X:Cx}{pos:Pos}
end
end
section
mutual
def zaad:Qh->Bool
 | .list _=>false
 | .dict _=>false
 | .tuple l=>qvs l
 | _=>true
def qvs:List Qh->Bool
 | []=>true
 | d::l=>zaad d&&qvs l
end
mutual
def zaqh {K:Qd}{F:Hp}{a:Addr}{vs:List V} (h:F a=some (.lst vs)) : ∀ {d:Qh}{v:V},zaad d=true->Is K F d v->Is K (qbb F a) d v
 | .none,_,_,i=>by unfold Is at i ⊢;exact i
 | .bool _,_,_,i=>by unfold Is at i ⊢;exact i
 | .int _,_,_,i=>by unfold Is at i ⊢;exact i
 | .str _,_,_,i=>by unfold Is at i ⊢;exact i
 | .list l,_,z,_=>by unfold zaad at z;cases z
 | .dict l,_,z,_=>by unfold zaad at z;cases z
 | .tuple l,_,z,i=>by
  unfold zaad at z;unfold Is at i ⊢;obtain ⟨b,xs,e,q,r⟩:=i;refine ⟨b,xs,e,?_,zacg h z r⟩;rcases q with (q|⟨o,q⟩)|q
  ·exact .inl (.inl (by unfold qbb;rw [if_neg (fun c=>by rw [c,h] at q;cases q)];exact q))
  ·exact .inl (.inr ⟨o,by unfold qbb;rw [if_neg (fun c=>by rw [c,h] at q;cases q)];exact q⟩)
  ·exact .inr q
def zacg {K:Qd}{F:Hp}{a:Addr}{vs:List V} (h:F a=some (.lst vs)) : ∀ {l:List Qh}{xs:List V},qvs l=true->Iss K F l xs->Iss K (qbb F a) l xs
 | [],_,_,i=>by unfold Iss at i ⊢;exact i
 | d::l,_,z,i=>by
  unfold qvs at z;rw [Ym] at z;unfold Iss at i ⊢;obtain ⟨x,r,e,p,q⟩:=i;exact ⟨x,r,e,zaqh h z.1 p,zacg h z.2 q⟩
end
section
variable {X:Cx}
end
end
section
section
variable {X:Cx}{Ex:St->XK}{a b:Expr}{rest:List Expr}{pos:Pos}{Wa Wx2:WX->WE}{Wb:WE}
end
end
section
section
variable {X:Cx}
def boot_any:Zv "any" = some (.builtin "any"):=by decide +kernel
end
section
variable {X:Cx}{elt target iter cnd:Expr}{scope:Scope}{pos py spos:Pos}{caps own:List Str}{ix:List Nat}{Wi:WF}{G:WG}{Wt:WT}{We:WE}{i:Nat}{y:Str}
end
end
section
section
variable {X:Cx}{b:Expr}{Wb:WE}{pos px:Pos}
end
end
section
section
variable {X:Cx}{Ex:St->XK}{pos:Pos}{Wt:WX->WS}
end
end
end L2
namespace L2
open PySem PySem.Spec PyProof.Rows PySem.W
section
structure OrdN (n:Nat) (lt:Nat->Nat->Bool):Prop where
 irr : ∀ i,lt i i=false
 tr : ∀ i j k,i<n->j<n->k<n->lt i j=true->lt j k=true->lt i k=true
 tot : ∀ i j,i<n->j<n->i≠j->lt i j=true\/lt j i=true
structure PmN (n:Nat) (p:Array Nat):Prop where
 s:p.size=n
 p:p.toList.Perm (Q1 n)
section
variable {n:Nat}{lt:Nat->Nat->Bool}{p:Array Nat}
def PmN.get (h:PmN n p) {k:Nat} (hk:k<n):p[k]?=some (p.getD k 0):=by
 have:k<p.size:=by rw [h.s];exact hk
 rw [Vr this];simp [Qkv,this]
def PmN.bd (h:PmN n p) {k:Nat} (hk:k<n):p.getD k 0<n:=by
 have e:=h.get hk;have:p.getD k 0 ∈ p.toList:=by
  rw [<- Vv] at e;exact Qg e
 exact Zh.mp (h.p.mem_iff.mp this)
def PmN.inj (h:PmN n p) {i j:Nat} (hi:i<n) (hj:j<n) (ne:i≠j):p.getD i 0≠p.getD j 0:=fun z=>by
 have nd:p.toList.Nodup:=(h.p.nodup_iff).mpr Qfu;have e1:=h.get hi;have e2:=h.get hj;rw [<- Vv] at e1 e2;rw [z] at e1;have l1:i<p.toList.length:=by rw [Yj,h.s];exact hi
 exact ne ((Qar l1 nd).mp (by rw [e1,e2]))
def PmN.of (h:PmN n p) {q:Array Nat} (hq:q.Perm p):PmN n q:=by
 have e:=Array.perm_iff_toList_perm.mp hq;refine ⟨?_,e.trans h.p⟩;rw [<- h.s];have:=e.length_eq;rw [Yj,Yj] at this;exact this
def SrtN (lt:Nat->Nat->Bool) (p:Array Nat) (m:Nat):Prop := ∀ k,1<=k->k<m->lt (p.getD (k-1) 0) (p.getD k 0)=true
def DscN (lt:Nat->Nat->Bool) (p:Array Nat) (m:Nat):Prop := ∀ k,1<=k->k<m->lt (p.getD k 0) (p.getD (k-1) 0)=true
def SrtN.pair (o:OrdN n lt) (h:PmN n p) {m:Nat} (hm:m<=n) (s:SrtN lt p m) {i:Nat} : ∀ (d:Nat),i+d+1<m->lt (p.getD i 0) (p.getD (i+d+1) 0)=true
 | 0,hd=>by have:=s (i+1) (by omega) (by omega);exact this
 | d+1,hd=>by
  have a:=SrtN.pair o h hm s (i:=i) d (by omega);have b:=s (i+d+2) (by omega) (by omega);exact o.tr _ _ _ (h.bd (by omega)) (h.bd (by omega)) (h.bd (by omega)) a b
def SrtN.lt2 (o:OrdN n lt) (h:PmN n p) {m:Nat} (hm:m<=n) (s:SrtN lt p m) {i j:Nat} (hij:i<j) (hj:j<m):lt (p.getD i 0) (p.getD j 0)=true:=by
 have:=SrtN.pair o h hm s (i:=i) (j-i-1) (by omega);rw [show i+(j-i-1)+1=j by omega] at this;exact this
def OrdN.flip (o:OrdN n lt) {i j:Nat} (hi:i<n) (hj:j<n) (ne:i≠j) (a:lt i j=false):lt j i=true:=by
 rcases o.tot i j hi hj ne with z|z
 ·rw [a] at z;cases z
 ·exact z
def zabc {m k:Nat} (h:PmN n p) (hm:m<=n) (hk:k<n):(kas_rev p 0 m).getD k 0=if k<m then p.getD (m-1-k) 0 else p.getD k 0:=by
 have hz:(kas_rev p 0 m).size=n:=by unfold kas_rev;rw [mirror_size];exact h.s
 have e:(kas_rev p 0 m)[k]?=some ((kas_rev p 0 m).getD k 0):=by
  have:k<(kas_rev p 0 m).size:=by rw [hz];exact hk
  rw [Vr this];simp [Qkv,this]
 have e2:=getElem?_mirror_all (xs:=p) (i:=0) (j:=m) (by rw [h.s];exact hm) k;have e3:(kas_rev p 0 m)[k]?=if 0<=k/\k<m then p[0+m-1-k]? else p[k]?:=e2
 rw [e] at e3;by_cases q:k<m
 ·rw [if_pos ⟨Yc _,q⟩,show 0+m-1-k=m-1-k by omega,h.get (show m-1-k<n by omega)] at e3;rw [if_pos q];exact Qp e3
 ·rw [if_neg (by omega),h.get hk] at e3;rw [if_neg q];exact Qp e3
def zajj {m:Nat} (h:PmN n p):PmN n (kas_rev p 0 m):=h.of (mirror_perm _ _ _ _)
def zamc {m:Nat} (h:PmN n p) (hm:m<=n) (d:DscN lt p m):SrtN lt (kas_rev p 0 m) m:=fun k h1 h2=>by
 rw [zabc h hm (by omega),zabc h hm (by omega),if_pos (by omega),if_pos h2];have:=d (m-k) (by omega) (by omega);rw [show m-1-(k-1)=m-k by omega,show m-1-k=m-k-1 by omega];exact this
end
section
variable {n:Nat}{lt:Nat->Nat->Bool}{cmp:Nat->Nat->(Bool->Ql->Prop)->Ql->Prop}{s:Ql}
def zaav (o:OrdN n lt) (hc : ∀ i j C,i<n->j<n->C (lt i j) s->cmp i j C s) {p:Array Nat} (h:PmN n p) {Q:Nat->Ql->Prop} : ∀ (f a:Nat),1<=a->a+f<=n->SrtN lt p a->(∀ m,a<=m->m<=a+f->SrtN lt p m->(m<a+f->lt (p.getD m 0) (p.getD (m-1) 0)=true)->Q m s)->(kas_asc p f a).kasWp cmp Q s
 | 0,a,h1,h2,hS,k=>k a (Qr _) (by omega) hS (by omega)
 | f+1,a,h1,h2,hS,k=>by
  refine hc _ _ _ (h.bd (by omega)) (h.bd (by omega)) ?_;cases e:lt (p.getD a 0) (p.getD (a-1) 0) with
  | true=>exact k a (Qr _) (by omega) hS (fun _=>e)
  | false =>
   show (kas_asc p f (a+1)).kasWp cmp Q s;refine zaav o hc h f (a+1) (by omega) (by omega) (fun k' q1 q2=>?_) fun m m1 m2 m3 m4=>k m (by omega) (by omega) m3 (fun z=>m4 (by omega));by_cases z:k'<a
   ·exact hS k' q1 z
   ·have:k'=a:=by omega
    subst this;exact o.flip (h.bd (by omega)) (h.bd (by omega)) (h.inj (by omega) (by omega) (by omega)) e
def zaby (o:OrdN n lt) (hc : ∀ i j C,i<n->j<n->C (lt i j) s->cmp i j C s) {p:Array Nat} (h:PmN n p) {Q:Array Nat×Nat×Nat->Ql->Prop} : ∀ (f a:Nat),1<=a->a+f<=n->DscN lt p a->(∀ m,a<=m->m<=a+f->DscN lt p m->Q (p,m,0) s)->(kas_desc f p a 0).kasWp cmp Q s
 | 0,a,h1,h2,hS,k=>k a (Qr _) (by omega) hS
 | f+1,a,h1,h2,hS,k=>by
  refine hc _ _ _ (h.bd (by omega)) (h.bd (by omega)) ?_;cases e:lt (p.getD a 0) (p.getD (a-1) 0) with
  | true =>
   show (kas_desc f p (a+1) 0).kasWp cmp Q s;refine zaby o hc h f (a+1) (by omega) (by omega) (fun k' q1 q2=>?_) fun m m1 m2 m3=>k m (by omega) (by omega) m3;by_cases z:k'<a
   ·exact hS k' q1 z
   ·have:k'=a:=by omega
    subst this;exact e
  | false =>
   refine hc _ _ _ (h.bd (by omega)) (h.bd (by omega)) ?_;rw [o.flip (h.bd (by omega)) (h.bd (by omega)) (h.inj (by omega) (by omega) (by omega)) e];exact k a (Qr _) (by omega) hS
def zamk (o:OrdN n lt) (hc : ∀ i j C,i<n->j<n->C (lt i j) s->cmp i j C s) {p:Array Nat} (h:PmN n p) {Q:Nat×Array Nat->Ql->Prop}{m:Nat} (h1:1<=m) (hm:m<=n) (d:DscN lt p m) (k : ∀ m' p',m'<=n->PmN n p'->SrtN lt p' m'->Q (m',p') s):(kas_tail3 m n p).kasWp cmp Q s:=by
 unfold kas_tail3;rw [Qbv];exact zaav o hc (zajj h) _ _ h1 (by omega) (zamc h hm d) fun m' q1 q2 q3 _=>k m' _ (by omega) (zajj h) q3
def zahd (o:OrdN n lt) (hc : ∀ i j C,i<n->j<n->C (lt i j) s->cmp i j C s) {p:Array Nat} (h:PmN n p) (hn:2<=n) {Q:Nat×Array Nat->Ql->Prop} (k : ∀ m' p',m'<=n->PmN n p'->SrtN lt p' m'->Q (m',p') s):(kas_count n p).kasWp cmp Q s:=by
 unfold kas_count;rw [Qbv];refine zaav o hc h _ 1 (Qr _) (by omega) (fun k' q1 q2=>by omega) fun m m1 m2 m3 m4=>?_;by_cases e:m=n
 ·subst e;rw [if_pos (beq_self_eq_true m)];exact k m p (Qr _) h m3
 ·rw [if_neg (by simpa using e)];by_cases g:m>1
  ·rw [if_pos g];refine hc _ _ _ (h.bd (by omega)) (h.bd (by omega)) ?_;rw [m3.lt2 o h (show m<=n by omega) (show 0<m-1 by omega) (by omega)];exact k m p (by omega) h m3
  ·rw [if_neg g];have e1:m=1:=by omega
   subst e1;unfold kas_descPart;rw [Qbv];have d2:DscN lt p 2:=fun k' q1 q2=>by
    have:k'=1:=by omega
    subst this;exact m4 (by omega)
   exact zaby o hc h (n-2) 2 (by omega) (by omega) d2 fun m' q1 q2 q3=>show (kas_tail3 m' n p).kasWp cmp Q s from zamk o hc h (by omega) (by omega) q3 k
def qqo (o:OrdN n lt) (hc : ∀ i j C,i<n->j<n->C (lt i j) s->cmp i j C s) {p:Array Nat} (h:PmN n p) {Q:Nat->Ql->Prop}{k:Nat} (hk:k<n) (hS:SrtN lt p k)
 (q : ∀ l,l<=k->(∀ i,i<l->lt (p.getD i 0) (p.getD k 0)=true)->(∀ i,l<=i->i<k->lt (p.getD k 0) (p.getD i 0)=true)->Q l s) : ∀ (f l r:Nat),l<=r->r<=k->r-l<=f->(∀ i,i<l->lt (p.getD i 0) (p.getD k 0)=true)->(∀ i,r<=i->i<k->lt (p.getD k 0) (p.getD i 0)=true)->(kas_place p k f l r).kasWp cmp Q s
  | 0,l,r,h1,h2,h3,h4,h5=>q l (by omega) h4 (fun i a b=>h5 i (by omega) b)
  | f+1,l,r,h1,h2,h3,h4,h5=>by
   unfold kas_place;by_cases z:l>=r
   ·rw [if_pos z];exact q l (by omega) h4 (fun i a b=>h5 i (by omega) b)
   ·rw [if_neg z];have c1:(l+r)/2<k:=by omega
    refine hc _ _ _ (h.bd hk) (h.bd (by omega)) ?_;cases e:lt (p.getD k 0) (p.getD ((l+r)/2) 0) with
    | true =>
     show (kas_place p k f l ((l+r)/2)).kasWp cmp Q s;refine qqo o hc h hk hS q f l _ (by omega) (by omega) (by omega) h4 fun i a b=>?_;by_cases z:i=(l+r)/2
     ·rw [z];exact e
     ·exact o.tr _ _ _ (h.bd hk) (h.bd (by omega)) (h.bd (by omega)) e (hS.lt2 o h (by omega) (show (l+r)/2<i by omega) b)
    | false =>
     show (kas_place p k f ((l+r)/2+1) r).kasWp cmp Q s;have e':=o.flip (h.bd hk) (h.bd (show (l+r)/2<n by omega)) (h.inj hk (by omega) (by omega)) e;refine qqo o hc h hk hS q f _ r (by omega) h2 (by omega) (fun i a=>?_) h5;by_cases z:i=(l+r)/2
     ·rw [z];exact e'
     ·exact o.tr _ _ _ (h.bd (by omega)) (h.bd (by omega)) (h.bd hk) (hS.lt2 o h (by omega) (show i<(l+r)/2 by omega) c1) e'
def zabs {p:Array Nat} (h:PmN n p) {k l i:Nat} (hk:k<n) (hl:l<=k) (hi:i<n):(bubble p k (k-l)).getD i 0=if i=l then p.getD k 0 else if l<i/\i<=k then p.getD (i-1) 0 else p.getD i 0:=by
 have hz:(bubble p k (k-l)).size=n:=by rw [bubble_size];exact h.s
 have e:(bubble p k (k-l))[i]?=some ((bubble p k (k-l)).getD i 0):=by
  have:i<(bubble p k (k-l)).size:=by rw [hz];exact hi
  rw [Vr this];simp [Qkv,this]
 have e2:=getElem?_bubble (xs:=p) (src:=k) (by rw [h.s];exact hk) (k-l) (by omega) i;rw [e,show k-(k-l)=l by omega] at e2;by_cases q1:i=l
 ·rw [if_pos q1,h.get hk] at e2;rw [if_pos q1];exact Qp e2
 ·rw [if_neg q1] at e2;rw [if_neg q1];by_cases q2:l<i/\i<=k
  ·rw [if_pos q2,h.get (show i-1<n by omega)] at e2;rw [if_pos q2];exact Qp e2
  ·rw [if_neg q2,h.get hi] at e2;rw [if_neg q2];exact Qp e2
def zaip (o:OrdN n lt) (hc : ∀ i j C,i<n->j<n->C (lt i j) s->cmp i j C s) {Q:Array Nat->Ql->Prop} (q : ∀ p,PmN n p->SrtN lt p n->Q p s) : ∀ (f:Nat) (p:Array Nat) (k:Nat),PmN n p->1<=k->k+f=n->SrtN lt p k->(kas_bin f p k).kasWp cmp Q s
 | 0,p,k,h,_,e,hS=>by
  have:k=n:=by omega
  subst this;exact q p h hS
 | f+1,p,k,h,h1,e,hS=>by
  unfold kas_bin;rw [Qbv];have hk:k<n:=by omega
  refine qqo o hc h hk hS (fun l hl a b=>?_) k 0 k (Yc _) (Qr _) (by omega) (fun i z=>by omega) (fun i z1 z2=>by omega);refine zaip o hc q f _ (k+1) (h.of (bubble_perm _ _ _)) (by omega) (by omega) fun i i1 i2=>?_;rw [zabs h hk hl (show i-1<n by omega),zabs h hk hl (show i<n by omega)];by_cases c1:i<l
  ·rw [if_neg (by omega),if_neg (by omega),if_neg (by omega),if_neg (by omega)];exact hS i i1 (by omega)
  ·by_cases c2:i=l
   ·rw [if_neg (by omega),if_neg (by omega),if_pos c2];exact a (i-1) (by omega)
   ·by_cases c3:i-1=l
    ·rw [if_pos c3,if_neg c2,if_pos ⟨by omega,by omega⟩];exact b (i-1) (by omega) (by omega)
    ·rw [if_neg c3,if_pos ⟨by omega,by omega⟩,if_neg c2,if_pos ⟨by omega,by omega⟩];exact hS (i-1) (by omega) (by omega)
def zalk (o:OrdN n lt) (hc : ∀ i j C,i<n->j<n->C (lt i j) s->cmp i j C s) (hn:2<=n) {Q:Array Nat->Ql->Prop} (q : ∀ p,PmN n p->SrtN lt p n->Q p s):(kas_sort n).kasWp cmp Q s:=by
 unfold kas_sort;rw [Qbv];have h0:PmN n (Qlj (Q1 n)):=⟨by simp,by simp⟩
 refine zahd o hc h0 hn fun m p h1 hp hS=>?_;show ((if m<n then kas_bin (n-max m 1) p (max m 1) else .ret p).kasWp cmp Q s);by_cases z:m<n
 ·rw [if_pos z];refine zaip o hc q _ p _ hp (by omega) (by omega) fun k k1 k2=>hS k k1 (by omega)
 ·rw [if_neg z];have:m=n:=by omega
  subst this;exact q p hp hS
end
end
section
section
variable {prog:Zj}{w:World}{A:Z4}{R:Result->Ql->Prop}{s:Ql}
def zadp {a c:Addr}{args:Args}{o oc:Obj}{fd:V4}{body:Expr}{vs:Array Value}{q:Str}{t:Tok} (room:A.depth<Qac) (h1:s.heap.get? a=some o) (h2:o.data = .func fd) (h3:fd.scope.isCoroutine=false) (h4:fd.scope.isGenerator=false)
 (h5:fd.body = .expr body) (h6:fd.code = .ref c) (h7:s.heap.get? c=some oc) (h8:oc.data = .fields vs) (h9:vs[1]?=some (.str q t))
 (k:wpAny (model prog w) A.in1 (Qhb fd args) (fun bs s1=>wpAny (model prog w) A.in1 (Qhq fd.scope fd.globals fd.closure bs (q ++ ".<locals>.") (some a) (.ref c) none fd.builtins)
 (fun env s2=>s2.heap.NoLimit/\Qdc (model prog w) A (.expr body env) R s2) (fun e s'=>R (.error e) s') s1) (fun e s'=>R (.error e) s') s):Qdc (model prog w) A (.call (.ref a) args) R s:=by
  apply codeAny_of_tree;have go:wpAny (model prog w) A.in1 (callAny (.ref a) args) (fun r s'=>match r with | .done f=>R (.ok f) s' | .again c'=>c'.quiet=true/\Qdc (model prog w) A c' R s') (fun e s'=>R (.error e) s') s:=by
   simp only [callAny];refine Qi (wpAny_load h1 ?_);simp only [h2,callFunction,h3,h4,h5,h6];refine Qi (m:=field (.ref c) 1) (Vq h7 h8 h9 (Qi (Q4 ?_)));refine Qi (Vy k (fun bs s1 k1=>?_) fun _ _ z=>z);refine Qi (Vy k1 (fun env s2 k2=>?_) fun _ _ z=>z);exact Qi (wpAny_enterFrame k2.1 room (Q4 ⟨rfl,k2.2⟩))
  exact go
end
def cxL (P:Zj) (w:World) (K:Qd) (mg:Str->Option Value) (base:Heap) (q:Str) (scope:Scope) (f:Addr) (cd:Value) (cl:List (Str×Addr)) (N:List Str) (A:Z4) (outer:List Env) (s:Ql) (H:Hp):Cx where
 prog:=P
 w:=w
 K:=K
 mg:=mg
 base:=base
 A:=A.deeper (envX q scope s.heap.objs.size f cd cl)
 N:=N
 s₀:=s
 H₀:=H
 env:=envX q scope s.heap.objs.size f cd cl
 outer:=outer
 stack:=envX q scope s.heap.objs.size f cd cl::outer
 ex:=[]
 fn:=fun _=>false
 calm:=true
 pn:=[]
 xe:=fun _ _=>False
structure LamScope (scope:Scope) (x y:Str):Prop where
 kind:scope.kind = .function
 co:scope.isCoroutine=false
 gen:scope.isGenerator=false
 px:scope.names.lookup x=some .local
 py:scope.names.lookup y=some .free
 ne:x≠y
 nocell : ∀ z ∈ scope.names,z.2 ≠ .cell
 free : ∀ z,scope.names.lookup z=some .free->z=y
section
variable {P:Zj}{w:World}{K:Qd}{mg:Str->Option Value}{base:Heap}{q:Str}{scope:Scope}{f cg:Addr}{cd ug u:Value}{x y:Str}{A:Z4}{outer:List Env}{s:Ql}{H:Hp}{v vg:V}{h1:Heap}{tk:Nat}
def zani (S:LamScope scope x y) (hd:A.handled=none) (e0:Env0 P w K mg base A outer s H) (hc:s.heap.IsCell cg (some ug)) (hn:H cg=none) (rg:RelV vg ug) (ru:RelV v u)
 (ns:h1.Ns s.heap.objs.size (fun z=>([(x,u)]:List (Str×Value)).reverse.lookup z)) (hk : ∀ b o,s.heap.get? b=some o->h1.get? b=some o) :
 Inv (cxL P w K mg base q scope f cd [(y,cg)] [x,y] A outer s H) [] [some v,some vg] H { s with heap:=h1,toks:=tk }:=by
  have noA : ∀ b:Addr,b ∉ (cxL P w K mg base q scope f cd [(y,cg)] [x,y] A outer s H).ex:=fun b z=>absurd (show b ∈ ([]:List Addr) from z) (by simp);have look : ∀ z c,(cxL P w K mg base q scope f cd [(y,cg)] [x,y] A outer s H).env.cells.lookup z=some c->z=y/\c=cg:=fun z c h=>by
   have h:([(y,cg)]:List (Str×Addr)).lookup z=some c:=h;rw [Zp] at h;cases e:z==y with
   | true=>rw [e] at h;exact ⟨eq_of_beq e,(Qp h).symm⟩
   | false=>rw [e] at h;cases h
  have lky:([(y,cg)]:List (Str×Addr)).lookup y=some cg:=by rw [Zp,beq_self_eq_true]
  refine ⟨⟨e0.mod,S.kind,rfl,rfl,Qr _,fun z z' c a b=>(look z c a).1.trans (look z' c b).1.symm,fun z hz=>?_,fun z c a b=>(by cases a),fun _=>hd,Qhd e0.frames,.inr ⟨rfl,rfl⟩,fun b z=>absurd z (noA b),e0.bs,e0.bsz,fun b _ _=>noA b,fun b z=>absurd z (noA b),e0.funs,e0.frf⟩,
   rfl,e0.bare,Un.kept hk,⟨_,ns,fun i z v' a1 a2 a3=>?_⟩,fun z c a=>?_,e0.hok.fresh (Qr _),fun z c a=>?_,fun p hp=>absurd (show p ∈ ([]:List (Addr×Obj)) from hp) (by simp),e0.hok.kept hk,rfl⟩
  ·have hz:scope.names.lookup z=some .cell\/scope.names.lookup z=some .free:=hz;rcases hz with hz|hz
   ·exact absurd rfl (S.nocell _ (Vn hz))
   ·rw [S.free z hz];exact ⟨cg,lky⟩
  ·have a1:([x,y]:List Str)[i]?=some z:=a1
   match i,a1,a2 with
   | 0,a1,a2 =>
    have e1:x=z:=Qp a1;have e2:v=v':=Qp (Qp a2);subst e1;subst e2;refine ⟨u,ru,.inl ⟨S.px,?_⟩⟩;show ([(x,u)]:List (Str×Value)).lookup x=some u;rw [Zp,beq_self_eq_true]
   | 1,a1,a2 =>
    have e1:y=z:=Qp a1;have e2:vg=v':=Qp (Qp a2);subst e1;subst e2;obtain ⟨oc,ho,hd'⟩:=hc;exact ⟨ug,rg,.inr ⟨.inr S.py,cg,lky,oc,hk _ _ ho,hd'⟩⟩
   | i+2,a1,a2=>cases a1
  ·rw [(look z c a).2];obtain ⟨oc,ho,hd'⟩:=hc;exact ⟨_,oc,hk _ _ ho,hd'⟩
  ·rw [(look z c a).2];exact hn
def zamr {nm qual:Str}{params:Qgq}{body:Expr}{pm ct:Value}{c:Addr}{o oc:Obj}{vs:Array Value}{t:Tok}{te:TE}{Q:VK}{E:XK} (S:LamScope scope x y) (hd:A.handled=none) (e0:Env0 P w K mg base A outer s H) (room:A.depth<Qac)
 (ho:s.heap.get? f=some o) (h2:o.data = .func (kla_fn nm qual params body scope [(y,cg)] pm (.ref c) ct)) (hb:Qhb (kla_fn nm qual params body scope [(y,cg)] pm (.ref c) ct) ⟨[u],[]⟩=pure [(x,u)])
 (h7:s.heap.get? c=some oc) (h8:oc.data = .fields vs) (h9:vs[1]?=some (.str q t)) (hc:s.heap.IsCell cg (some ug)) (hn:H cg=none) (rg:RelV vg ug) (ru:RelV v u)
 (he:PE (cxL P w K mg base q scope f (.ref c) [(y,cg)] [x,y] A outer s H) body te) (h:te [some v,some vg] H Q):Qdc (model P w) A (.call (.ref f) ⟨[u],[]⟩) (CR CX0 outer P w H s Q E) s:=by
  refine zadp room ho h2 S.co S.gen rfl rfl h7 h8 h9 ?_;rw [hb];refine Q4 (wpAny_newFunctionEnv S.nocell (fun z hz=>by rw [Qy.mp hz];exact S.px) (fun h1 ns sb=>?_) S.kind);have hk : ∀ b o,s.heap.get? b=some o->h1.get? b=some o:=fun b o e=>sb.extBut b o (Q9 (Qx e)) (Qj _ e);refine ⟨(e0.mod.nolimit.keeps fun b o e=>(e0.bs b o e).1).keeps hk,?_⟩;have I:=zani (q:=q) (f:=f) (cd :=.ref c) (tk:=s.toks+([(x,u)]:List (Str×Value)).length) S hd e0 hc hn rg ru ns hk;refine kla_codeExpr (Vy (he [] _ _ H Q I h) (fun r s' z=>?_) fun _ _ z=>z.elim);obtain ⟨v',H',I',r',q'⟩:=z;exact ⟨v',H',I'.os,I'.bare,I'.base,I'.hok,r',q'⟩
end
end
section
def TbS (tb:Addr) (H:Hp):Prop := ∃ ps,H tb=some (.tbl ps)/\GoodT H ps
def TbS.of {X:Cx}{pins:List (Addr×Obj)}{σ:St}{H:Hp}{s:Ql}{tb:Addr} (I:Inv X pins σ H s) (h:TbS tb X.H₀):TbS tb H:=by
 obtain ⟨ps,e,g⟩:=h;obtain ⟨more,e',g'⟩:=I.base.tbls tb ps e;exact ⟨_,e',(g.mono I.base.frzs).app g'⟩
def TbS.same {tb:Addr}{H H':Hp} (h:TbS tb H) (k:Same H H'):TbS tb H':=by
 obtain ⟨ps,e,g⟩:=h;exact ⟨ps,k _ _ e,g.mono fun b o u z=>k _ _ z⟩
structure TbGo (tb:Addr) (H H':Hp):Prop where
 h : ∀ b o,b≠tb->H b=some o->H' b=some o
 ts:TbS tb H'
section
variable {X:Cx}{pins:List (Addr×Obj)}{σ:St}{H:Hp}{s:Ql}{tb c0:Addr}{nm qual:Str}{params:Qgq}{body:Expr}{scope:Scope}{clos:List (Str×Addr)}{pos:Pos}{line:Nat}{Q:Value->Ql->Prop}
def Inv.pinOne {f:Addr}{o:Obj} (I:Inv X pins σ H s) (h1:s.heap.get? f=some o) (h2:H f=none) (h3:f≠X.env.locals) (h4:f ∉ X.fs) (h5 : ∀ v,o.data ≠ .cell v):Inv X (pins++[(f,o)]) σ H s:=I.pins_of fun p hp=>by
 rcases Zf.mp hp with z|z
 ·exact I.pin p (Q8 _ z)
 ·rw [Qy.mp z];exact ⟨h1,h2,h3,h4,h5⟩
def zagn (I:Inv X pins σ H s) (T:TbS tb H) (hcode:X.env.code = .ref c0) (C:CodeHd X.base c0 tb) (hb:X.base.BuiltinsAt X.mg tb) (hcl:closureFor scope X.env=pure clos)
 (k : ∀ f c ct pm oc vs q t s' H',Inv X (pins++[(f,{ cls :=.type "function",data :=.func (kla_fn nm qual params body scope clos pm (.ref c) ct) })]) σ H' s'->TbGo tb H H'->(∀ b,H' b≠none->H b≠none\/s.heap.objs.size<=b)->s.heap.objs.size<=f->(∃ u,H' c=some (.frz oc u))->oc.data = .fields vs->vs[1]?=some (.str q t)->Q (.ref f) s') :
  wpAny (model X.prog X.w) X.A (makeFunction nm qual params (.expr body) scope X.env [] [] [] pos line) Q X.xe s:=by
  obtain ⟨ps,et,g⟩:=T;have gt:s.heap.get? tb=some (tabObj ps):=(I.hok tb _ et)
  have hg:s.heap.Ns Zc X.mg:=I.mod.glob.keeps I.bk;have gP:Zc≠tb:=fun z=>by
   obtain ⟨o,es,ep,ho,_⟩:=I.mod.glob;have:=(I.bs _ _ ho).2;rw [z,et] at this;cases this
  obtain ⟨bm,ob,b1,b2,b3,b4,b5,b6⟩:=hb;have hb':s.heap.BuiltinsAt X.mg tb:=⟨bm,ob,b1,b2,b3,b4,I.bk _ _ b5,b6⟩
  have nL:X.env.locals≠tb:=fun z=>by have:=I.free;rw [z,et] at this;cases this
  have lts : ∀ f:Addr,s.heap.objs.size<=f->f≠X.env.locals/\f ∉ X.fs:=fun f hf=>by
   refine ⟨fun z=>?_,fun z=>?_⟩
   ·obtain ⟨m,⟨o,es,ep,ho,_⟩,_⟩:=I.loc;have:=Qx ho;rw [<- z] at this;exact absurd this (Jq.mpr hf)
   ·obtain ⟨_,o,ho,_⟩:=I.ok.funs.mem z;have a1:=Qx ho;obtain ⟨o',ho'⟩:=I.base.there f o ho (fun zz=>(I.ok.exfs f zz) z);exact absurd (Qx ho') (Jq.mpr hf)
  cases ea:Qcb pos ps.toList with
  | some cv =>
   refine kla_makeFunctionHit (mg:=X.mg) hcl I.ok.glob hg hcode (C.keeps I.bk) gt g.tr ea hb' fun ct h' tk hk hs=>?_;obtain ⟨c,oc,u,ev,ec,vs,q,t,d1,d2⟩:=g.co pos cv ea;subst ev;have hk2 : ∀ b o,s.heap.get? b=some o->(h'.push { cls :=.type "function",data :=.func (kla_fn nm qual params body scope clos ((X.mg "__name__").getD .none) (.ref c) ct) }).get? b=some o:=fun b o e=>Qj _ (hk b o e);obtain ⟨l1,l2⟩:=lts _ hs;exact k h'.objs.size c ct _ oc vs q t _ H ((I.kept (t':=tk) hk2).pinOne (Qz _ rfl) (I.hok.fresh hs) l1 l2 (fun v z=>by cases z)) ⟨fun b o _ e=>e,ps,et,g⟩ (fun b hb => .inl hb) hs ⟨u,ec⟩ d1 d2
  | none =>
   refine kla_makeFunction (mg:=X.mg) hcl I.ok.glob hg hcode (C.keeps I.bk) gt g.tr ea gP hb' fun c ct h' tk hx hge hlt hrec htb=>?_;obtain ⟨c2,oc,vs,t,e2,hoc,d1,d2⟩:=hrec;cases e2;have ne:c≠tb:=fun z=>absurd (Qx gt) (Jq.mpr (z ▸ hge));have hc0:H c=none:=I.hok.fresh hge;obtain ⟨more,em⟩ : ∃ more,more = #[Qek pos.line,Qek pos.col,Yt c]:=⟨_,rfl⟩
   rw [<- em] at htb;obtain ⟨H1,eH⟩ : ∃ H1,H1=upd (upd H tb (.tbl (ps++more))) c (.frz oc (.own 0)):=⟨_,rfl⟩
   have u1:H1 c=some (.frz oc (.own 0)):=by rw [eH,ql]
   have u2:H1 tb=some (.tbl (ps++more)):=by rw [eH,qi (Z0 ne),ql]
   have u3 : ∀ b,b≠c->b≠tb->H1 b=H b:=fun b h1 h2=>by rw [eH,qi h1,qi h2]
   have old : ∀ b o,H b=some o->b≠c:=fun b o e z=>by rw [z,hc0] at e;cases e
   have gm:GoodT H1 more:=⟨by rw [em];exact trivial,fun p v h=>by
    rw [em] at h;have h:(if (pos.line:Int)==p.line&&(pos.col:Int)==p.col then some (Yt c) else Qcb p [])=some v:=h;split at h
    ·exact ⟨c,oc,_,(Qp h).symm,u1,vs,qual,t,d1,d2⟩
    ·simp [Qcb] at h⟩
   have gf : ∀ b o u,H b=some (.frz o u)->H1 b=some (.frz o u):=fun b o u e=>by
    rw [u3 b (old b _ e) fun z=>by rw [z,et] at e;cases e];exact e
   have hk2 : ∀ b o,b≠tb->s.heap.get? b=some o->(h'.push (kla_obj nm qual params body scope clos ((X.mg "__name__").getD .none) c ct)).get? b=some o:=fun b o hb e=>Qj _ (hx b o hb e);have szs:s.heap.objs.size<=h'.objs.size:=Zk hge (Y8 hlt);have I1:Inv X pins σ H1 { s with heap:=h'.push (kla_obj nm qual params body scope clos ((X.mg "__name__").getD .none) c ct),toks:=tk }:=by
    refine Inv.step (g':=s.gens) (d':=s.drawn) (t':=tk) (ch:=[]) I (fun b z=>nomatch z) (fun b o _ _ _ e n=>hk2 b o (fun z=>by rw [z,et] at n;cases n) e) (fun b o _ _ _ e n=>⟨o.slots,hk2 b o (fun z=>by rw [z,et] at n;cases n) e⟩)
     (fun b o _ e n=>?_) (fun b o _ e=>?_) (fun b xs e=>?_) (fun b o u e=>gf b o u e) (fun b qs e=>?_) (fun m hm=>?_) (fun b u e=>?_) I.bare
    ·rw [u3 b (fun z=>absurd (Qx e) (Jq.mpr (z ▸ hge))) (fun z=>by rw [z,et] at n;cases n)];exact n
    ·by_cases z:b=tb
     ·rw [z];exact ⟨_,Qj _ htb⟩
     ·exact ⟨o,hk2 b o z e⟩
    ·rw [u3 b (old b _ e) fun z=>by rw [z,et] at e;cases e];exact e
    ·by_cases z:b=tb
     ·rw [z,et] at e;cases e;exact ⟨more,by rw [z];exact u2,gm⟩
     ·exact ⟨#[],by rw [u3 b (old b _ e) z,e];simp,.nil⟩
    ·exact (hm.extBut hx nL).push _
    ·by_cases zc:b=c
     ·subst zc;rw [u1] at e;cases e;exact ⟨Qj _ hoc,oc,Qj _ hoc⟩
     ·by_cases zt:b=tb
      ·subst zt;rw [u2] at e;cases e;exact Qj _ htb
      ·rw [u3 b zc zt] at e;refine (I.hok b u e).stay (fun d ob hd z=>hk2 d ob (fun y=>?_) z) (fun d z=>?_) fun d xs z=>?_
       ·rcases hd with y2|y2
        ·exact zt (y2.symm.trans y)
        ·rw [y,et] at y2;cases y2
       ·rw [u3 d (old d _ z) fun y=>by rw [y,et] at z;cases z];exact z
       ·rw [u3 d (old d _ z) fun y=>by rw [y,et] at z;cases z];exact z
   obtain ⟨l1,l2⟩:=lts _ szs;have fn:H1 h'.objs.size=none:=by
    rw [u3 _ (Yu hlt) fun z=>absurd (Qx gt) (Jq.mpr (z ▸ szs))];exact I.hok.fresh szs
   refine k h'.objs.size c ct _ oc vs qual t _ H1 (I1.pinOne (Qz _ rfl) fn l1 l2 (fun v z=>by cases z)) ⟨fun b o hb e=>?_,_,u2,(g.mono gf).app gm⟩ (fun b hb=>?_) szs ⟨_,u1⟩ d1 d2
   ·rw [u3 b (old b _ e) hb];exact e
   ·by_cases zc:b=c
    ·exact .inr (zc ▸ hge)
    ·by_cases zt:b=tb
     ·left;rw [zt,et];exact fun z=>by cases z
     ·left;rw [u3 b zc zt] at hb;exact hb
end
end
section
def qik (x y:Nat->Int):Nat->Nat->Bool
 | 0,_=>false
 | k+1,i=>if x i==y i then qik x y k (i+1) else decide (x i<y i)
open AutoSeq1 (wpAny_loadPart') in
open MeetsSeq MeetsSeq3 in
def zand (l b:Addr) (items items2:Array Value) (n n2:Nat) (hsz:items.size=items2.size) (x y:Nat->Int) (hx : ∀ j (h:j<items.size),∃ t,items[j] = .int (x j) t) (hy : ∀ j (h:j<items2.size),∃ t,items2[j] = .int (y j) t) (k:Nat) :
 ∀ i:Nat,items.size-i=k->Meets (Builtin.«list.__eq__.loop» ⟨[.ref l,.ref b,Qek i,Qek 0],[]⟩)
 (fun _ R s=>s.heap.get? l=some { cls :=.type "list",dict:=none,data :=.seq items n,slots := #[] }/\s.heap.get? b=some { cls :=.type "list",dict:=none,data :=.seq items2 n2,slots := #[] } /\
  R (.ok (.ret (.bool (qik x y k i)))) s):=by
  induction k with
  | zero =>
   rintro i hk prog w A R ⟨hp,g,d,tk,os⟩ ⟨hl,hb,h⟩
   wp_walk using Z8 hl,Z8 hb
   rw [show items[((i:Nat):Int).toNat]?=none by simp;omega,show items2[((i:Nat):Int).toNat]?=none by simp;omega]
   wp_walk using Z8 hl,Z8 hb
   have e:decide (items.size<items2.size)=false:=decide_eq_false (by omega);show R (.ok (.ret (.bool (decide (items.size<items2.size))))) _;rw [e];exact h
  | succ k ih =>
   rintro i hk prog w A R ⟨hp,g,d,tk,os⟩ ⟨hl,hb,h⟩;have l1:i<items.size:=by omega
   have l2:i<items2.size:=by omega
   obtain ⟨t1,e1⟩:=hx i l1;obtain ⟨t2,e2⟩:=hy i l2;have g1:items[((i:Nat):Int).toNat]?=some (.int (x i) t1):=by rw [<- e1];simp [l1]
   have g2:items2[((i:Nat):Int).toNat]?=some (.int (y i) t2):=by rw [<- e2];simp [l2]
   wp_walk using Z8 hl,Z8 hb
   rw [g1,g2];refine Qi (wpAny_eqBool_int ?_);unfold qik at h;cases q:(x i==y i) with
   | true =>
    rw [q] at h
    wp_walk
    rw [show ((i:Int)+1)=((i+1:Nat):Int) by push_cast;rfl];exact ⟨plainId_quiet plain_eq_loop _,codeAny_builtin entry_eq_loop (by
     rw [Qhi plain_eq_loop _];exact ih (i+1) (by omega) prog w A R _ ⟨hl,hb,h⟩)⟩
   | false =>
    rw [q] at h
    wp_walk using Z8 hl,Z8 hb
    rw [g1,g2];dsimp only;refine Qi (wpAny_lt_int ?_)
    wp_walk
    exact h
open AutoSeq1 (wpAny_loadPart') in
open MeetsSeq MeetsSeq3 in
def zalr (l b:Addr) (items items2:Array Value) (n n2:Nat) (hsz:items.size=items2.size) (x y:Nat->Int) (hx : ∀ j (h:j<items.size),∃ t,items[j] = .int (x j) t) (hy : ∀ j (h:j<items2.size),∃ t,items2[j] = .int (y j) t) :
 Meets (Builtin.«list.__lt__» ⟨[.ref l,.ref b],[]⟩)
 (fun _ R s=>s.heap.get? l=some { cls :=.type "list",dict:=none,data :=.seq items n,slots := #[] }/\s.heap.get? b=some { cls :=.type "list",dict:=none,data :=.seq items2 n2,slots := #[] } /\
  R (.ok (.ret (.bool (qik x y items.size 0)))) s):=by
  rintro prog w A R ⟨hp,g,d,tk,os⟩ ⟨hl,hb,h⟩;have f3:=AutoSeq1.sub_list_list
  wp_walk using Z8 hl,Z8 hb
  exact ⟨plainId_quiet plain_eq_loop _,codeAny_builtin entry_eq_loop (by
   rw [Qhi plain_eq_loop _];exact zand l b items items2 n n2 hsz x y hx hy _ 0 (by omega) prog w A R _ ⟨hl,hb,h⟩)⟩
def zaqj {prog:Zj}{w:World}{A:Z4}{E:Value->Ql->Prop}{s:Ql}{l b:Addr}{items items2:Array Value}{n n2:Nat}{x y:Nat->Int}{Q:Bool->Ql->Prop} (hu:A.units<cLine) (hl:s.heap.get? l=some { cls :=.type "list",data :=.seq items n }) (hb:s.heap.get? b=some { cls :=.type "list",data :=.seq items2 n2 })
 (hsz:items.size=items2.size) (hx : ∀ j (h:j<items.size),∃ t,items[j] = .int (x j) t) (hy : ∀ j (h:j<items2.size),∃ t,items2[j] = .int (y j) t) (h:Q (qik x y items.size 0) s) :
 wpAny (model prog w) A (keyLt' oneType' (.ref l) (.ref b)) Q E s:=by
 rw [keyLt'_oneType,oneLt'_eq];simp only [if_true];refine Qi (wpAny_cRoomFor hu (Qi (wpAny_callSpecialIfBound?_slot (T := "list") ⟨_,hl,rfl⟩ F.slot_list_lt (Qfe F.slot_list_lt ⟨_,hl,rfl⟩ F.entry_list_lt (F.args_list_lt_2 _ _) (zalr l b items items2 n n2 hsz x y hx hy) ⟨hl,hb,?_⟩))));exact V6 h
end
section
structure OwnA (X:Cx) (pins:List (Addr×Obj)) (a:Addr):Prop where
 l:a≠X.env.locals
 s:X.s₀.heap.objs.size<=a
 c : ∀ x c,X.env.cells.lookup x=some c->c≠a
 p : ∀ p ∈ X.pn++pins,p.1≠a
 f:a ∉ frs X.stack
section
variable {X:Cx}{pins:List (Addr×Obj)}{σ:St}{H:Hp}{s:Ql}
def zajz (I:Inv X pins σ H s) {a:Addr} (h:s.heap.objs.size<=a):OwnA X pins a:=by
 have lt : ∀ b o,s.heap.get? b=some o->b≠a:=fun b o e z=>absurd (Qx e) (Jq.mpr (z ▸ h));refine ⟨fun z=>?_,Zk I.sz h,fun x c e z=>?_,fun p hp z=>?_,fun z=>?_⟩
 ·obtain ⟨m,⟨o,es,ep,ho,_⟩,_⟩:=I.loc;exact lt _ _ ho z.symm
 ·obtain ⟨v,o,ho,_⟩:=I.cell x c e;exact lt _ _ ho z
 ·exact lt _ _ (I.pin p hp).1 z
 ·obtain ⟨_,o,ho,_⟩:=I.stack.mem z;exact lt _ _ ho rfl
def Inv.own (I:Inv X pins σ H s) {a:Addr} (o:OwnA X pins a) (hn:H a=none) {h':Heap}{t':Nat} (k : ∀ b u,b≠a->s.heap.get? b=some u->h'.get? b=some u):Inv X pins σ H { s with heap:=h',toks:=t' } :=
 I.turned (it:=a) k hn o.l (.inr o.s) o.c o.p
def zaex (kl:Nat->List Int) (i:Nat) (r:Value) (H:Hp):Prop := ∃ p,r = .ref p/\H p=some (.lst ((kl i).map V.int))
def qfb {h:Heap}{a b:Addr}{u:Obj} (g:Obj->Obj) (hb:b≠a) (e:h.get? b=some u):(h.update a g).get? b=some u:=(Qae _ _ (Z0 hb)).trans e
def qpq (X:Cx) (pins:List (Addr×Obj)) (σ:St) (A:Z4) (f:Value) (vs:List Value) (kl:Nat->List Int) (G:Hp->Prop):Prop := ∀ (i:Nat) (u:Value) (H:Hp) (s:Ql),vs[i]?=some u->Inv X pins σ H s->G H ->
 wpAny (model X.prog X.w) A (call f [u]) (fun r s' => ∃ H',Inv X pins σ H' s'/\Un (frs X.stack) [] H H' s.heap s'.heap/\Same H H'/\G H'/\zaex kl i r H') (fun _ _=>False) s
def qbd (kl:Nat->List Int) (m:Nat) (i j:Nat):Bool:=qik (fun k=>(kl i).getD k 0) (fun k=>(kl j).getD k 0) m 0
variable {A:Z4}{E:Value->Ql->Prop}{f:Value}{vs:List Value}{kl:Nat->List Int}{G:Hp->Prop}{m:Nat}{a kS:Addr}{e1:Nat}{P:Qlk->Ql->Prop}
def qqb (X:Cx) (pins:List (Addr×Obj)) (σ:St) (vs:List Value) (kl:Nat->List Int) (G:Hp->Prop) (m:Nat) (a:Addr) (H:Hp) (P:Qlk->Ql->Prop):Prop :=
 ∀ (p:Array Nat) (H':Hp) (s':Ql) (c:Nat),PmN vs.length p->SrtN (qbd kl m) p vs.length->Inv X pins σ H' s'->Same H H'->G H'->H' a=none->s'.heap.get? a=some (J8 "list" (p.toList.map fun i=>vs.getD i .none).toArray c)->P (.done (.ret .none)) s'
def qsw {ks:List Value}{ek:Nat}{p:Array Nat}{st:SortSt}{H0:Hp} (I:Inv X pins σ H s) (oa:OwnA X pins a) (ok:OwnA X pins kS) (na:H a=none) (nk:H kS=none) (ne:kS≠a) (h64:vs.length<64) (kz:ks.length<64) (ha:s.heap.get? a=some (J8 "list" #[] e1)) (hk:s.heap.get? kS=some (J8 "list" ks.toArray ek))
 (hp:PmN vs.length p) (hs:SrtN (qbd kl m) p vs.length) (sm:Same H0 H) (g:G H) (hout:(arrOf st).map (·.2)=(p.toList.map fun i=>vs.getD i .none).toArray) (hf:failedOf st=none) (h:qqb X pins σ vs kl G m a H0 P) :
 wpAny (model X.prog X.w) A (ksk_tail a false e1 (.ref kS) st) P E s:=by
  unfold ksk_tail;dsimp only;rw [hout];have I1:=I.own (a:=kS) (t':=s.toks) (h':=s.heap.update kS (Ys fun _=>(#[]:Array Value))) ok nk fun b u hb e=>qfb _ hb e;have ha1:(s.heap.update kS (Ys fun _=>(#[]:Array Value))).get? a=some (J8 "list" #[] e1):=qfb _ (Z0 ne) ha;have lz:(p.toList.map fun i=>vs.getD i Y7).toArray.size=vs.length:=by rw [Qs,Qf,Yj,hp.s]
  refine Qi (Qfo hk rfl ?_ (by rw [Qs,Yr];omega) (Yc _));refine Qi (Qhx ?_);refine Qi (seqEpoch_at ha1 rfl ?_);refine Qi (Qfo ha1 rfl ?_ (Yc _) (Zk (Qdz lz) (by rw [Yr];omega)));rw [hf];simp only [bne_self_eq_false,Qec,if_false];have I2:=I1.own (a:=a) (t':=s.toks) (h':=(s.heap.update kS (Ys fun _=>(#[]:Array Value))).update a (Ys fun _=>(p.toList.map fun i=>vs.getD i Y7).toArray)) oa na fun b u hb e=>qfb _ hb e;exact Q4 (h p H _ _ hp hs I2 sm g na (Qgt ha1 fun _=>_))
def qvl {i:Nat}{r:Value} (I:Inv X pins σ H s) (hk:zaex kl i r H) : ∃ p its n,r = .ref p/\s.heap.get? p=some { cls :=.type "list",data :=.seq its n }/\its.size=(kl i).length /\ ∀ j (h:j<its.size),∃ t,its[j] = .int ((kl i).getD j 0) t:=by
 obtain ⟨p,rfl,e⟩:=hk;obtain ⟨_,its,n,rv,ho⟩:=I.hok p _ e;have hl:its.length=(kl i).length:=by rw [<- rv.length,Qf]
 refine ⟨p,its.toArray,n,rfl,ho,by rw [Qs];exact hl,fun j h=>?_⟩;rw [Qs] at h;have hj:((kl i).map V.int)[j]?=some (.int ((kl i).getD j 0)):=by
  rw [Qa,Qc (by omega)];simp [Qgh,Qc (show j<(kl i).length by omega)]
 obtain ⟨u,hu,t,ru⟩:=rv.get hj;refine ⟨t,?_⟩;rw [Qc h] at hu;rw [List.getElem_toArray];rw [<- ru];exact Qp hu
def zahu {ks:List Value}{ek:Nat}{H0:Hp} (hu:A.units<cLine) (o:OrdN vs.length (qbd kl m)) (hm : ∀ i,i<vs.length->(kl i).length=m) (I:Inv X pins σ H s) (oa:OwnA X pins a) (ok:OwnA X pins kS) (na:H a=none) (nk:H kS=none) (ne:kS≠a) (h64:vs.length<64) (kz:ks.length=vs.length)
 (ha:s.heap.get? a=some (J8 "list" #[] e1)) (hk:s.heap.get? kS=some (J8 "list" ks.toArray ek)) (hks : ∀ i,i<vs.length->zaex kl i (ks.getD i .none) H) (sm:Same H0 H) (g:G H) (h:qqb X pins σ vs kl G m a H0 P) :
 wpAny (model X.prog X.w) A (ksk_end a false vs.toArray e1 (.ref kS) ks.toArray) P E s:=by
  unfold ksk_end;dsimp only;simp only [Qec,if_false];by_cases h2:vs.length<2
  ·have c:vs.toArray.size<2:=by rw [Qs];exact h2
   rw [if_pos c,if_pos c];refine Qi (Q4 (Qi ?_));rw [StateT.run_pure];refine Q4 ?_;refine qsw (p:=Qlj (Q1 vs.length)) (st:=SortSt.mk' general' (ks.toArray.zip vs.toArray) #[] 7 none) I oa ok na nk ne h64 (by omega) ha hk ⟨by simp,by simp⟩ (fun k k1 k2=>by omega) sm g ?_ rfl h;show (ks.toArray.zip vs.toArray).map (·.2)=_;apply Qjo.mp;refine Zl fun i=>?_;simp only [Array.toList_map,Array.toList_zip,Qa,Qn];by_cases hi:i<vs.length
   ·have e1:ks[i]?=some (ks[i]'(by omega)):=Qc _;have e2:vs[i]?=some vs[i]:=Qc hi;have e3:(ks.zip vs)[i]?=some (ks[i]'(by omega),vs[i]):=Qba.mpr ⟨e1,e2⟩;rw [e3];simp [hi]
   ·rw [Qo (by simp;omega)];simp [hi]
  ·have c : ¬ vs.toArray.size<2:=by rw [Qs];exact h2
   rw [if_neg c,if_neg c];have g2:2<=ks.length:=by omega
   refine Qi (kas_kind (T :=.type "list") g2 (fun v hv=>?_) (by decide) (by decide) ?_)
   ·obtain ⟨i,hi⟩:=Jj hv;have hlt:i<ks.length:=(Qm.mp hi).1;have eg:ks.getD i .none=v:=by simp [Qgh,hi]
    obtain ⟨p,its,n,er,ho,_,_⟩:=qvl I (hks i (by omega));rw [<- eg,er];exact (Looks.ld ho).andThen .now
   ·refine Qi (Vy (kat_run (Q:=fun st' s'=>s'=s /\ ∃ p:Array Nat,PmN vs.length p/\SrtN (qbd kl m) p vs.length/\arrOf st'=p.map (kas_item (ks.toArray.zip vs.toArray))/\failedOf st'=none) (G:=fun p s'=>s'=s/\PmN vs.length p/\SrtN (qbd kl m) p vs.length) kz (by omega) h64 (fun p st' s' a1 a2 a3 a4=>⟨a4.1,p,a4.2.1,a4.2.2,a2,a3⟩) ?_) ?_ fun _ _ z=>z)
    ·refine zalk o (fun i j C hi hj hC=>?_) (by omega) fun p hp hs=>⟨rfl,hp,hs⟩
     obtain ⟨p,its,n,er,ho,z1,x1⟩:=qvl I (hks i hi);obtain ⟨p',its',n',er',ho',z2,x2⟩:=qvl I (hks j hj);unfold kas_ask;rw [er,er'];refine zaqj hu ho ho' (by rw [z1,z2,hm i hi,hm j hj]) x1 x2 ?_;rw [z1,hm i hi];exact hC
    ·rintro ⟨⟨⟩,st'⟩ s' ⟨rfl,p,hp,hs,har,hf⟩;exact qsw I oa ok na nk ne h64 (by omega) ha hk hp hs sm g (kat_snds kz har) hf h
def zaeh {H0:Hp} (hu:A.units<cLine) (hc:qpq X pins σ A f vs kl G) (o:OrdN vs.length (qbd kl m)) (hm : ∀ i,i<vs.length->(kl i).length=m) (I:Inv X pins σ H s) (oa:OwnA X pins a) (ok:OwnA X pins kS) (na:H a=none) (nk:H kS=none) (ne:kS≠a) (h64:vs.length<64)
 (ha:s.heap.get? a=some (J8 "list" #[] e1)) (hk:s.heap.get? kS=some (J8 "list" #[] 0)) (sm:Same H0 H) (g:G H) (h:qqb X pins σ vs kl G m a H0 P) :
 wpAny (model X.prog X.w) A (ksk_rest a f false vs.toArray e1 (.ref kS)) P E s:=by
  unfold ksk_rest;refine Qi (Qdm ?_);rw [List.forIn_toArray];refine Qi (ksk_fold (fun i s' => ∃ (H':Hp) (ks:List Value) (ek:Nat),Inv X pins σ H' s'/\Same H0 H'/\G H'/\H' a=none/\H' kS=none/\s'.heap.get? a=some (J8 "list" #[] e1)/\s'.heap.get? kS=some (J8 "list" ks.toArray ek)/\ks.length=i /\ ∀ j,j<i->zaex kl j (ks.getD j .none) H') vs 0 s
   ⟨H,[],0,I,sm,g,na,nk,ha,hk,rfl,fun j z=>absurd z (Nat.not_lt_zero _)⟩ ?_ ?_)
  ·rintro j x s1 hx ⟨H1,ks,ek,I1,sm1,g1,na1,nk1,ha1,hk1,kl1,ky1⟩;rw [Qbl] at kl1 ky1;have jl:j<vs.length:=(Qm.mp hx).1;refine Qi (Qdk (Vy (hc j x H1 s1 hx I1 g1) (fun r s2 z=>?_) fun _ _ z=>z.elim));obtain ⟨H2,I2,un,sm2,g2,ky2⟩:=z;have ha2:s2.heap.get? a=some (J8 "list" #[] e1):=un.keep a _ ha1 na1 oa.f (by simp);have hk2:s2.heap.get? kS=some (J8 "list" ks.toArray ek):=un.keep kS _ hk1 nk1 ok.f (by simp);have na2:H2 a=none:=un.free a _ ha1 na1 (by simp);have nk2:H2 kS=none:=un.free kS _ hk1 nk1 (by simp);dsimp only;refine Qi (Qfo hk2 rfl ?_ (by rw [Qs,Yr];omega) (Zk (Qdz (Array.size_push ..)) (by rw [Qs,Yr];omega)));have I3:=I2.own (a:=kS) (t':=s2.toks) (h':=s2.heap.update kS (Ys (·.push r))) ok nk2 fun b u hb e=>qfb _ hb e;have ea:ks.toArray.push r=(ks++[r]).toArray:=by simp
   refine Q4 ⟨rfl,H2,ks++[r],_,I3,sm1.trans sm2,g2,na2,nk2,qfb _ (Z0 ne) ha2,by rw [<- ea];exact Qgt hk2 (·.push r),by rw [Z1,kl1,Qbl];rfl,fun i hi=>?_⟩;rw [Qbl] at hi;by_cases z:i<j
   ·have:(ks++[r]).getD i Y7=ks.getD i .none:=by simp [Qgh,Zg (show i<ks.length by omega)]
    rw [this];obtain ⟨p,e,hp⟩:=ky1 i z;exact ⟨p,e,sm2 _ _ hp⟩
   ·have:i=j:=by omega
    subst this;have:(ks++[r]).getD i Y7=r:=by simp [Qgh,<- kl1]
    rw [this];exact ky2
  ·rintro s1 ⟨H1,ks,ek,I1,sm1,g1,na1,nk1,ha1,hk1,kl1,ky1⟩;rw [Qbl] at kl1 ky1;refine Qi (listItems_at hk1 rfl ?_);exact zahu hu o hm I1 oa ok na1 nk1 ne h64 kl1 ha1 hk1 ky1 sm1 g1 h
def qzc {n0:Nat} (hu:A.units<cLine) (hc:qpq X pins σ A f vs kl G) (o:OrdN vs.length (qbd kl m)) (hm : ∀ i,i<vs.length->(kl i).length=m) (I:Inv X pins σ H s) (oa:OwnA X pins a) (na:H a=none) (h64:vs.length<64) (ha:s.heap.get? a=some (J8 "list" vs.toArray n0)) (g:G H)
 (h:qqb X pins σ vs kl G m a H P):wpAny (model X.prog X.w) A (ksk_tree a f false) P E s:=by
  unfold ksk_tree;have I1:=I.own (a:=a) (t':=s.toks) (h':=s.heap.update a (Ys fun _=>(#[]:Array Value))) oa na fun b u hb e=>qfb _ hb e;obtain ⟨e1,ha1⟩ : ∃ e1,(s.heap.update a (Ys fun _=>(#[]:Array Value))).get? a=some (J8 "list" #[] e1):=⟨_,Qgt ha fun _ => #[]⟩
  refine Qi (listItems_at ha rfl ?_);refine Qi (Qfo ha rfl ?_ (by rw [Qs,Yr];omega) (Yc _));refine Qi (seqEpoch_at ha1 rfl ?_);refine Qi (wpAny_newTuple ?_ (by show vs.length<=_;rw [Yr];omega));refine Qi (wpAny_newList ?_ (Yc _));refine Qcd ?_;have kp : ∀ b u,(s.heap.update a (Ys fun _=>(#[]:Array Value))).get? b=some u->(((s.heap.update a (Ys fun _=>(#[]:Array Value))).push (J8 "tuple" vs.toArray 0)).push (J8 "list" #[] 0)).get? b=some u:=fun b u e=>Qj _ (Qj _ e);have I2:=I1.kept (t':=s.toks) (h':=((s.heap.update a (Ys fun _=>(#[]:Array Value))).push (J8 "tuple" vs.toArray 0)).push (J8 "list" #[] 0)) kp;have big:(s.heap.update a (Ys fun _=>(#[]:Array Value))).objs.size<=((s.heap.update a (Ys fun _=>(#[]:Array Value))).push (J8 "tuple" vs.toArray 0)).objs.size:=by rw [Yo];omega
  have okS:=zajz I1 big;have nkS:H ((s.heap.update a (Ys fun _=>(#[]:Array Value))).push (J8 "tuple" vs.toArray 0)).objs.size=none:=I1.hok.fresh big;exact zaeh (s:={ s with heap:=((s.heap.update a (Ys fun _=>(#[]:Array Value))).push (J8 "tuple" vs.toArray 0)).push (J8 "list" #[] 0) }) hu hc o hm I2 oa okS na nkS (fun z=>absurd (Qx ha1) (Jq.mpr (Zk big (Qdz z)))) h64 (kp _ _ ha1) (Qz _ rfl) (.refl _) g h
end
end
section
section
variable {X:Cx}{pins:List (Addr×Obj)}{σ:St}{H:Hp}{s:Ql}
def Inv.track {a:Addr}{u:HO} (I:Inv X pins σ H s) (o:OwnA X pins a) (hn:H a=none) (new:ObjOk X.prog X.w (upd H a u) s.heap a u):Inv X pins σ (upd H a u) s:=by
 have up : ∀ b v,H b=some v->upd H a u b=some v:=fun b v e=>by rw [qi (qm e hn)];exact e
 refine ⟨I.ok,I.os,I.bare,⟨I.base.keep,I.base.slot,fun b o' e n hx=>?_,I.base.there,fun b xs e=>up _ _ (I.base.tups b xs e),fun b o' xs e=>up _ _ (I.base.frzs b o' xs e),fun b ps e=>?_⟩,I.loc,I.cell,?_,fun x c e=>?_,fun p hp=>?_,fun b v e=>?_,I.len⟩
 ·have hb:b≠a:=fun z=>absurd (Qx e) (Jq.mpr (by rw [z];exact o.s));rw [qi hb];exact I.base.free b o' e n hx
 ·obtain ⟨more,q,gm⟩:=I.base.tbls b ps e;exact ⟨more,up _ _ q,gm.mono fun b o u z=>up _ _ z⟩
 ·rw [qi (Z0 o.l)];exact I.free
 ·rw [qi (o.c x c e)];exact I.freeC x c e
 ·obtain ⟨a1,a2,a3⟩:=I.pin p hp;exact ⟨a1,(qi (o.p p hp)).trans a2,a3⟩
 ·by_cases z:b=a
  ·subst z;rw [ql] at e;cases e;exact new
  ·rw [qi z] at e;exact (I.hok b v e).stay (fun c ob _ q=>q) (fun c q=>up _ _ q) (fun c xs q=>up _ _ q)
variable {K':Type} [DecidableEq K'] {knd:KeyKind X.prog X.w K'}{E:Value->Ql->Prop}{f:Addr}{kvs:List (K'×Value)}{ep:Nat}{kl:Nat->List Int}{G:Hp->Prop}{m:Nat}{r d:Addr}{Q:Value->Ql->Prop}
end
end
section
def DictIs (h:Heap) (d:Addr) (es:Array Qdv) (ep:Nat):Prop := ∃ o,h.get? d=some o/\o.ExactDict/\o.data = .dict es ep
def DictIs.at {h h':Heap}{d:Addr}{es:Array Qdv}{ep:Nat} (x:DictIs h d es ep) (k : ∀ o,h.get? d=some o->h'.get? d=some o):DictIs h' d es ep:=let ⟨o,ho,r⟩:=x; ⟨o,k _ ho,r⟩
section
variable {prog:Zj}{w:World}{A:Z4}{E:Value->Ql->Prop}{s:Ql}{it v d:Addr}{es:Array Qdv}{i ep:Nat}
def zadt {Q:Value->Ql->Prop} (hv:s.heap.IsValuesView v d) (hD:DictIs s.heap d es ep)
 (h:Q (.ref s.heap.objs.size) { s with heap:=s.heap.push { cls :=.type "dict_valueiterator",data :=.fields #[.ref d,.int 0 0,.int es.size 0,.int ep 0] } }):wpAny (model prog w) A (pyIter (.ref v)) Q E s:=by
  obtain ⟨ov,g1,_,g2⟩:=id hv;obtain ⟨od,g3,_,g4⟩:=id hD;have own:Qag "dict_valueiterator" = false:=by decide
  refine wpAny_pyIter_slot hv.typeIs Qfj (Vm Qfj hv.typeIs F.entry_dict_values_iter ?_ (F.args_dict_values_iter_1 _));unfold Builtin.«dict_values.__iter__» Qkr Qjc;have step : ∀ (Q':Qlk->Ql->Prop),Q' (.done (.ret (.ref s.heap.objs.size))) { s with heap:=s.heap.push { cls :=.type "dict_valueiterator",data :=.fields #[.ref d,.int 0 0,.int es.size 0,.int ep 0] } }->True:=fun _ _=>trivial;refine Qi (Q4 (Qi (Qi (Vq g1 g2 (x :=.ref d) rfl (Q4 (Qi (Qi (Qcr g3 g4 (Qi (Qgz g3 g4 ?_))))))))));simp only [own,Qec,if_false];refine Jt (Q4 ⟨_,rfl,"dict_valueiterator",_,⟨_,Qz _ rfl,rfl⟩,Y1.lookup,?_⟩);simpa [Qek] using h
def zadl {Q:Option Value->Ql->Prop}{e:Qdv} (hit:s.heap.IsValIter it d i es.size ep) (hD:DictIs s.heap d es ep) (hx:es[i]?=some e)
 (h : ∀ h',h'.IsValIter it d (i+1) es.size ep->Vh it s.heap h'->Q (some e.val) { s with heap:=h' }):wpAny (model prog w) A (Qgv (.ref it)) Q E s:=by
  obtain ⟨o,g1,g2,g3⟩:=id hit;obtain ⟨od,g4,_,g5⟩:=id hD;have own:Qag "dict_valueiterator" = false:=by decide
  have lt:i<es.size:=(Array.getElem?_eq_some_iff.mp hx).1;unfold Qgv;refine Qi (Qdk (Vf (name:=Qq "__next__") hit.typeIs Y1 (Vm Y1 hit.typeIs Qcn ?_ (Qce _))))
  wp_walk using V0 hit.typeIs,wpAny_fieldsOf g1 g3,Qcr g4 g5,Qgz g4 g5,Qan hit.typeIs
  rw [show (if ((i:Nat):Int)<0 then none else es[((i:Nat):Int).toNat]?)=some e by rw [if_neg (by omega),Yd];exact hx];have it2:(s.heap.update it (Qkz (·.setIfInBounds 1 (Qek ((i:Int)+1))))).IsValIter it d (i+1) es.size ep :=
   ⟨_,Qak _ g1 (Qgf (Qbu g3 _)),(Qis ..).trans g2,by rw [Qbu g3];simp [Qek]⟩
  refine Qi (Qi (V0 hit.typeIs (Q4 (Qi (Qan hit.typeIs ?_)))));show wpAny _ _ (setField (.ref it) 1 (Qek ((i:Int)+1)) >>= _) _ _ s;refine Qi (Qeu g1 g3 (by simp) ?_)
  wp_walk using Qan (s:={ s with heap:=s.heap.update it (Qkz (·.setIfInBounds 1 (Qek ((i:Int)+1)))) }) it2.typeIs
  exact ⟨_,rfl,Q4 (h _ it2 (Vo ..))⟩
def zaft {Q:Option Value->Ql->Prop} (hh:A.handled=none) (hit:s.heap.IsValIter it d i es.size ep) (hD:DictIs s.heap d es ep) (hx:es.size<=i)
 (h : ∀ h',Qkb it s.heap h'->Q none { s with heap:=h' }):wpAny (model prog w) A (Qgv (.ref it)) Q E s:=by
  obtain ⟨o,g1,g2,g3⟩:=id hit;obtain ⟨od,g4,_,g5⟩:=id hD;have own:Qag "dict_valueiterator" = false:=by decide
  unfold Qgv;refine Qi (Qdk (Vf (name:=Qq "__next__") hit.typeIs Y1 (Vm Y1 hit.typeIs Qcn ?_ (Qce _))))
  wp_walk using V0 hit.typeIs,wpAny_fieldsOf g1 g3,Qcr g4 g5,Qgz g4 g5,Qan hit.typeIs
  rw [show (if ((i:Nat):Int)<0 then none else es[((i:Nat):Int).toNat]?)=none by rw [if_neg (by omega),Yd];exact Qci hx];refine Qi (Qi (V0 hit.typeIs (Q4 ?_)));show wpAny _ _ (setField (.ref it) 0 .none >>= _) _ _ s;refine Qi (Qeu g1 g3 (by simp) ?_)
  wp_walk
  simp only [raiseNew];refine Qi (wpAny_handled ?_);rw [show A.in1.handled=none from hh];refine Qi (Q4 (wpAny_throw ?_));refine Qi (wpAny_isInstance (T := "StopIteration") (b:=true) ⟨_,Qz _ rfl,rfl⟩ isSubtype_stop ?_);exact Q4 (h _ (((Vo ..).extBut.push _).push _))
def qub (hh:A.handled=none) (I d:Addr) (hne:d≠I) (es:Array Qdv) (ep:Nat):Walks prog w A I [I,d] [I] es.size (fun i v => ∃ e,es[i]?=some e/\e.val=v) (fun i h=>h.IsValIter I d i es.size ep/\DictIs h d es ep) where
 sub:=fun b hb=>by simp at hb;simp [hb]
 frame:=fun _ _ _ st hk=>⟨st.1.at fun o e=>hk I (by simp) o e,st.2.at fun o e=>hk d (by simp) o e⟩
 item:=fun i s Q E hi st hQ=>by
  have hx:es[i]?=some es[i]:=Vr hi;refine zadl st.1 st.2 hx fun h' i2 sb=>hQ _ h' s.toks ⟨_,hx,rfl⟩ ⟨i2,st.2.at fun o e=>sb.extBut d o hne e⟩ fun b o hb e=>sb.extBut b o (fun z=>hb (by simp [z])) e
 done:=fun s Q E st hQ=>zaft hh st.1 st.2 (Qr _) fun h' k=>hQ h' s.toks fun b o hb e=>k b o (fun z=>hb (by simp [z])) e
 self:=fun _ _ _ _ st hQ=>wpAny_pyIter_valiter st.1 hQ
def qzr {r:Addr}:KdlSrc prog w "dict_values" r d es.size (fun i v => ∃ e,es[i]?=some e/\e.val=v) (fun h=>h.IsValuesView r d/\DictIs h d es ep) where
 type:=fun _ hm=>hm.1.typeIs
 there:=fun _ hm=>⟨let ⟨_,ho,_⟩:=hm.1;Qx ho,let ⟨_,ho,_⟩:=hm.2;Qx ho⟩
 keep:=fun _ _ hm hk=>⟨let ⟨o,ho,x⟩:=hm.1; ⟨o,hk r (.inl rfl) o ho,x⟩,hm.2.at fun o e=>hk d (.inr rfl) o e⟩
 notList:=by decide
 notTuple:=by decide
 hint:=fun _ _ _ _ hm hq=>kdl_hint_values hm.1.typeIs hq
 iter:=fun _ _ hh hm=>⟨_,_,(fun _ _ hq=>zadt hm.1 hm.2 hq),qub hh _ d (Q9 (let ⟨_,ho,_⟩:=hm.2;Qx ho)) es ep,⟨⟨_,Qz _ rfl,rfl,rfl⟩,hm.2.at fun o e=>Qj _ e⟩⟩
end
end
section
section
variable {prog:Zj}{w:World}{K:Type} [DecidableEq K] {knd:HeapKind prog w K}{A:Z4}{E:Value->Ql->Prop}{s:Ql}{d a:Addr}{xs:List (K×Addr×Value)}{k:K}{dv:Value}
def qwv {Q:Value->Ql->Prop} (hu:knd.room A) (hk:knd.is s.heap k a) (hm:s.heap.DictOfH knd d xs) (hz:xs.length<=Q6) (h1 : ∀ p,atKey xs k=some p->Q p.2 { s with toks:=s.toks+knd.draws k })
 (h2:atKey xs k=none -> ∀ h',h'.DictOfH knd d (storedH xs k a dv)->Vh d s.heap h'->Q dv { s with heap:=h',toks:=s.toks+knd.draws k }):wpAny (model prog w) A (Qhp d (.ref a) dv) Q E s:=by
 obtain ⟨o,es,ep,ho,hx,hd,he,his,hn⟩:=hm;unfold Qhp;refine Qcd (Qi (knd.pyHash hu hk (Qi (wpAny_dictFind_heap (s:={ s with toks:=s.toks+knd.draws k }) hu hk ho hd he his hn (fun no=>?_) fun j p hj=>?_))))
 ·have an:=atKey_none_of_get no;have nm:=not_mem_keys_of_get no;refine Qi (Qdm (Qi (wpAny_updateDictKeys (hz:=by have e:=size_of_entries he;omega) (s:={ s with toks:=s.toks+knd.draws k }) ho hd (Q4 (h2 an _ ?_ (Vo ..))))));rw [storedH_new an];refine ⟨_,_,ep+1,Qak _ ho (Obj.isFreed_of_dict (Qhj hd _)),hx.mapDictKeys _,Qhj hd _,by simp [he,entryOfKey],fun x mx=>?_,?_⟩
  ·rcases Zf.mp mx with m|m
   ·exact knd.keeps (his x m) ho hd (Vo ..)
   ·rw [Qy.mp m];exact knd.keeps hk ho hd (Vo ..)
  ·rw [Zm,Qas];refine ⟨hn,by simp,fun x mx y my e=>nm ?_⟩;have:y=k:=by simpa using my
   rw [<- this,<- e];exact mx
 ·refine Qi (Qcr (s:={ s with toks:=s.toks+knd.draws k }) ho hd ?_);rw [entry_at he j,hj];exact Qi (Qdm (Q4 (h1 p (atKey_of_get hn hj))))
def qwy {Q:Value->Ql->Prop} (hu:knd.room A.in1) (hk:knd.is s.heap k a) (hy:(d==Qad)=false) (hm:s.heap.DictOfH knd d xs) (hz:xs.length<=Q6) (h1 : ∀ p,atKey xs k=some p->Q p.2 { s with toks:=s.toks+knd.draws k })
 (h2:atKey xs k=none -> ∀ h',h'.DictOfH knd d (storedH xs k a dv)->Vh d s.heap h'->Q dv { s with heap:=h',toks:=s.toks+knd.draws k }):wpAny (model prog w) A (call (.builtin "dict.setdefault") [.ref d,.ref a,dv]) Q E s:=by
 refine Vm F.slot_dict_setdefault hm.typeIs F.entry_dict_setdefault ?_ (F.args_dict_setdefault_3 _ _ _);unfold Builtin.«dict.setdefault» Builtin.Dict.keyAndDefault;refine Qi (Qi (Qha hm.typeIs ?_));show wpAny _ _ (pure (d,Yt a,some dv)) _ _ s;refine Q4 ?_;show wpAny _ _ (if (d==Qad)=true then _ else (Qhp d (.ref a) dv >>= _)) _ _ s;rw [if_neg (by rw [hy];exact Zo)];exact Qi (qwv hu hk hm hz (fun p e=>Q4 ⟨_,rfl,h1 p e⟩) fun an h' q sb=>Q4 ⟨_,rfl,h2 an h' q sb⟩)
end
section
variable {X:Cx}{pins:List (Addr×Obj)}{σ:St}{H:Hp}{s:Ql}{a b:Addr}{A:Z4}{E:Value->Ql->Prop}{kvs:List (List Key×V)}{k:List Key}{dv:V}{r:Value}
def zafu {Q:Value->Ql->Prop} (hu:A.units+1<cLine) (I:Inv X pins σ H s) (e:H a=some (.dT kvs)) (eb:H b=some (.tup (k.map kV))) (hl:kvs.length<Q6) (rd:RelV dv r)
 (h1 : ∀ v,qoq kvs k=some v -> ∀ u s',Inv X pins σ H s'->RelV v u->Q u s') (h2:qoq kvs k=none -> ∀ s',Inv X pins σ (upd H a (.dT (qxr kvs k dv))) s'->Q r s') :
 wpAny (model X.prog X.w) A (call (.builtin "dict.setdefault") [.ref a,.ref b,r]) Q E s:=by
  obtain ⟨z,hd,xs,rel,dd⟩:=zaka I.hok e;have hz:xs.length<=Q6:=by rw [<- Qia rel];exact z
  have rv:=rel.val k;refine qwy (tupleKind_room_in1 hu) (zaiu I.hok eb) hd dd hz (fun p ep=>?_) fun an h' dd' sb=>?_
  ·rw [ep] at rv;cases ev:qoq kvs k with
   | none=>rw [ev] at rv;exact rv.elim
   | some v=>rw [ev] at rv;exact h1 v ev _ _ (I.tok _) rv
  ·rw [an] at rv;cases ev:qoq kvs k with
   | some v=>rw [ev] at rv;exact rv.elim
   | none =>
    have l2:(qxr kvs k dv).length<=Q6:=by have:=qww kvs k dv;omega
    refine h2 ev _ ?_;obtain ⟨q,es,ep,hq,g2,g3,g4,_,g5⟩:=dd';refine zakf I (by rw [e];exact Qao) sb ⟨q,hq⟩ ⟨l2,hd,_,(rel.put k eb rd).keeps fun c ys ec=>?_,q,es,ep,hq,g2,g3,g4,g5⟩;rw [qi (zash ec e (fun z=>nomatch z))];exact ec
end
end
section
section
variable {X:Cx}{pins:List (Addr×Obj)}{σ:St}{H:Hp}{s:Ql}{E:Value->Ql->Prop}{f:Addr}{es:Array Qdv}{ep:Nat}{kl:Nat->List Int}{G:Hp->Prop}{m:Nat}{r d:Addr}{Q:Value->Ql->Prop}{vs:List Value}
def qzd {acc:Array Value} (h:ItemsOf (fun i v => ∃ e,es[i]?=some e/\e.val=v) acc es.size):acc.toList=es.toList.map (·.val):=by
 refine Zl fun i=>?_;obtain ⟨h1,h2⟩:=h;rw [Vv,Qa,Vv];by_cases hi:i<es.size
 ·have e:acc[i]?=some (acc[i]'(by omega)):=Vr _;obtain ⟨k,hk,hv⟩:=h2 i _ e;rw [e,hk,<- hv];rfl
 ·rw [Qci (by omega),Qci (by omega)];rfl
def qwi (hu:X.A.in1.in1.units<cLine) (hh:X.A.handled=none) (I:Inv X pins σ H s) (hv:s.heap.IsValuesView r d) (hd:DictIs s.heap d es ep) (ev:es.toList.map (·.val)=vs) (hn:vs.length<64) (hc:qpq X pins σ X.A.in1.in1 (.ref f) vs kl G) (o:OrdN vs.length (qbd kl m))
 (hm : ∀ i,i<vs.length->(kl i).length=m) (g:G H)
 (k : ∀ (p:Array Nat) (l:Addr) (H':Hp) (s':Ql) (c:Nat),PmN vs.length p->SrtN (qbd kl m) p vs.length->Inv X pins σ H' s'->Same H H'->G H'->OwnA X pins l->H' l=none->s'.heap.get? l=some (J8 "list" (p.toList.map fun i=>vs.getD i .none).toArray c)->Q (.ref l) s') :
 wpAny (model X.prog X.w) X.A (call (.builtin "sorted") [.ref r] [(Qq "key",.ref f)]) Q E s:=by
  subst ev;have zl:es.size=(es.toList.map (·.val)).length:=by rw [Qf,Yj]
  refine call_function_entry_kw kind_sorted plain_sorted entry_sorted (ksk_s1 _ _) ?_;unfold Builtin.«sorted»;refine Qi (m:=checkCount "sorted" 1 1 _) (Q4 (Qi (kdu_collect (T := "dict_values") (qzr (es:=es) (ep:=ep)) hh ⟨hv,hd⟩ (by rw [Yr];omega) fun h1 tk acc keep items=>?_)));rw [qzd items];have I1:=I.kept (t':=tk) keep;have hL:(h1.push (J8 "list" (es.toList.map (·.val)).toArray 0)).get? h1.objs.size=some (J8 "list" (es.toList.map (·.val)).toArray 0):=Qz _ rfl;refine Qi (wpAny_newList ?_ (by rw [Yr];omega));have I2:=I1.kept (t':=tk) (h':=h1.push (J8 "list" (es.toList.map (·.val)).toArray 0)) fun b u e=>Qj _ e;have ow:=zajz I1 (Qr _);have nl:=I1.hok.fresh (Qr _);refine Qi (Qcd (wpAny_call_entry_kw slot_list_sort ⟨_,hL,rfl⟩ entry_list_sort ?_ (ksk_l1 _ _)));show wpAny (model X.prog X.w) X.A.in1.in1 (Builtin.«list.sort» ⟨[.ref h1.objs.size],[(Qq "key",.ref f)]⟩) _ _ _;rw [ksk_t1];refine qzc hu hc o hm I2 ow nl hn hL g fun p H' s' c hp hs I' sm g' na ha=>?_;exact ⟨_,rfl,Q4 ⟨_,rfl,k p _ H' s' c hp hs I' sm g' ow na ha⟩⟩
end
section
variable {X:Cx}{o e f:Expr}{apos cpos:Pos}{td ty tx:TE}
def zaij (td ty tx:TE):TE:=fun σ H Q=>td σ H fun x H1 => ∃ a,x = .ref a/\IsD H1 a/\ty σ H1 fun y H2=>tx σ H2 fun z H3 => ∃ kvs k b,H3 a=some (.dT kvs)/\y = .ref b/\H3 b=some (.tup (k.map kV))/\kvs.length<Q6 /\
 (∀ v,qoq kvs k=some v->Q v H3)/\(qoq kvs k=none->Q z (upd H3 a (.dT (qxr kvs k z))))
def zaag (hu:X.A.units+1<cLine) (ho:PE X o td) (he:PE X e ty) (hf:PE X f tx) (m:M2 X o "setdefault" apos e f cpos):PE X (.Call (.Attribute o "setdefault" apos) [e,f] [] cpos) (zaij td ty tx):=by
 intro pins s σ H Q I h;refine wpAny_Call_method m.base m.few m.line Qfk PySem.F.slot_dict_setdefault PySem.F.type_dict_setdefault (thn (ho pins s σ H _ I h) fun u s1 xx168=>?_);obtain ⟨x,H1,I1,rx,a,ex,d,q1⟩:=xx168;subst ex;obtain rfl:u=Yt a:=rx;obtain ⟨t1,t2,_⟩:=zain I1 d;refine ⟨t1,t2,?_⟩;rw [m.trees];refine Qch rfl (Qhe (Qbt (thn (he pins s1 σ H1 _ I1 q1) fun iv s2 ⟨y,H2,I2,ry,q2⟩=>Qbt (thn (hf pins s2 σ H2 _ I2 q2) fun fv s3 ⟨z,H3,I3,rz,kvs,k,b,ea,ey,eb,hl,q3,q4⟩=>Qez ?_))));subst ey;obtain rfl:iv=Yt b:=ry;exact zafu hu I3 ea eb hl rz (fun v ev u s4 I4 ru=>⟨_,H3,I4,ru,q3 v ev⟩) fun ev s4 I4=>⟨_,_,I4,rz,q4 ev⟩
end
end
section
section
variable {X:Cx}{pins:List (Addr×Obj)}{σ:St}{H:Hp}{s:Ql}{a:Addr}{A:Z4}{E:Value->Ql->Prop}{kvs:List (List Key×V)}
abbrev qzf (d:Addr):Obj:={ cls :=.type "dict_values",data :=.fields #[.ref d] }
def zafk {Q:Value->Ql->Prop} (I:Inv X pins σ H s) (e:H a=some (.dT kvs)) (h:Q (.ref s.heap.objs.size) { s with heap:=s.heap.push (qzf a) }):wpAny (model X.prog X.w) A (call (.builtin "dict.values") [.ref a]) Q E s:=by
 obtain ⟨_,hd,xs,_,dd⟩:=zaka I.hok e;refine Vm F.slot_dict_values dd.typeIs F.entry_dict_values ?_ (F.args_dict_values_1 _);refine Qi ?_;unfold Builtin.Dict.noArgs;refine Qi (Qha dd.typeIs ?_);show wpAny _ _ (pure a) _ _ s;refine Q4 ?_;show wpAny _ _ (Qgi a >>= _) _ _ s;unfold Qgi;rw [if_neg (by rw [hd];exact Zo)];exact Qi (Q4 (Qi (Jt (Q4 ⟨_,rfl,h⟩))))
def zamn (I:Inv X pins σ H s) (e:H a=some (.dT kvs)) : ∃ es ep,DictIs s.heap a es ep/\Vals (kvs.map (·.2)) (es.toList.map (·.val)):=by
 obtain ⟨_,_,xs,rel,o,es,ep,h1,h2,h3,h4,_,_⟩:=zaka I.hok e;refine ⟨es,ep,⟨o,h1,h2,h3⟩,?_⟩;rw [h4,Zy];have : ∀ {l:List (List Key×V)}{m:List (List Key×Addr×Value)},KT H l m->Vals (l.map (·.2)) (m.map ((·.val) ∘ entryOfKey (Qgy (qcg X.prog X.w)))):=by
  intro l m q
  induction q with
  | nil=>exact .nil
  | @cons p q ps qs hq t ih=>exact .cons hq.2.2 ih
 exact this rel
end
section
variable {X:Cx}{pins:List (Addr×Obj)}{σ:St}{x y:Str}{scope:Scope}{params:Qgq}{body:Expr}{te:TE}{f cg c:Addr}{pm ct:Value}{vg:V}{vsV:List V}{vs:List Value}{kl:Nat->List Int}{G:Hp->Prop}{oc:Obj}{uu:HO}{fv:Array Value}{q:Str}{t:Tok}{nm qual:Str}{iy:Nat}
def zaly (S:LamScope scope x y) (hh:X.A.handled=none) (room:X.A.in1.in1.depth<Qac) (hpin:(f,({ cls :=.type "function",data :=.func (kla_fn nm qual params body scope [(y,cg)] pm (.ref c) ct) }:Obj)) ∈ pins)
 (hb : ∀ u,Qhb (kla_fn nm qual params body scope [(y,cg)] pm (.ref c) ct) ⟨[u],[]⟩=pure [(x,u)]) (d1:oc.data = .fields fv) (d2:fv[1]?=some (.str q t)) (hcl:X.env.cells.lookup y=some cg) (hyk:X.env.kindOf y=some .cell) (hN:X.N[iy]?=some y) (hv:σ[iy]?=some (some vg)) (rv:Vals vsV vs)
 (hfr:X.A.in1.in1.frames=X.A.frames) (hhd:X.A.in1.in1.handled=X.A.handled)
 (he : ∀ s H,PE (cxL X.prog X.w X.K X.mg X.base q scope f (.ref c) [(y,cg)] [x,y] X.A.in1.in1 X.stack s H) body te)
 (hk : ∀ (i:Nat) (v:V) (H:Hp),vsV[i]?=some v->G H->te [some v,some vg] H fun r H'=>Same H H'/\G H' /\ ∃ p,r = .ref p/\H' p=some (.lst ((kl i).map V.int))) :
 qpq X pins σ X.A.in1.in1 (.ref f) vs kl (fun H=>G H/\H c=some (.frz oc uu)):=by
 intro i u H s hi I g;obtain ⟨g,ec⟩:=g;have li:i<vs.length:=(Qm.mp hi).1;have lv:i<vsV.length:=by rw [rv.length];exact li
 have ev:vsV[i]?=some vsV[i]:=Qc lv;obtain ⟨u',hu',ru⟩:=rv.get ev;rw [hi] at hu';have eu:=Qp hu';subst eu;obtain ⟨mm,ns,lk⟩:=I.loc;obtain ⟨ug,rg,look⟩:=lk iy y vg hN hv (.inr (.inl hyk));have hc:s.heap.IsCell cg (some ug):=by
  rcases look with ⟨z,_⟩|⟨_,c',e1,e2⟩
  ·rw [hyk] at z;cases z
  ·rw [hcl] at e1;rw [Qp e1];exact e2
 have e0:=I.env0;have e1:Env0 X.prog X.w X.K X.mg X.base X.A.in1.in1 X.stack s H:=⟨by rw [hfr];exact e0.frames,e0.mod,e0.bs,e0.bsz,e0.funs,e0.frf,e0.hok,e0.bare⟩
 have pf:=I.pin _ (Q8 _ hpin);refine wpAny_call (Qej (zamr (E:=fun _ _ _=>False) S (by rw [hhd];exact hh) e1 room pf.1 rfl (hb u) (I.hok c _ ec).1 d1 d2 hc (I.freeC y cg hcl) rg ru (he s H) (hk i _ H ev g)) fun r s' hr=>?_);cases r with
 | error e=>exact hr.elim
 | ok fl =>
  cases fl with
  | ret u2 =>
   obtain ⟨v',H',os,bare,un,hok,r',sm,g',p,ep,hp⟩:=hr;subst ep;obtain rfl:u2=Yt p:=r';exact ⟨H',I.call' os un hok bare (fun b z=>nomatch z),un,sm,⟨g',sm _ _ ec⟩,p,rfl,hp⟩
  | next=>exact hr.elim
  | brk=>exact hr.elim
  | cont=>exact hr.elim
end
def qtm {vsV:List V}{vs:List Value} (h:Vals vsV vs) : ∀ {l:List Nat},(∀ i ∈ l,i<vs.length)->Vals (l.map fun i=>vsV.getD i V.non) (l.map fun i=>vs.getD i Y7)
 | [],_ => .nil
 | i::l,k=>by
  have hi:=k i (by simp);have ev:vsV[i]?=some (vsV[i]'(by rw [h.length];exact hi)):=Qc _;obtain ⟨u,hu,ru⟩:=h.get ev;refine .cons ?_ (qtm h fun j hj=>k j (Qu _ hj));have a1:vsV.getD i V.non=(vsV[i]?).getD V.non:=by simp [Qgh]
  have a2:vs.getD i Y7=(vs[i]?).getD Y7:=by simp [Qgh]
  show RelV (vsV.getD i V.non) (vs.getD i Y7);rw [a1,a2,ev,hu];exact ru
def tSK (tb:Addr) (ig iy:Nat) (te:TE):TE:=fun σ H Q => ∃ (d:Addr) (kvs:List (List Key×V)) (vg:V) (kl:Nat->List Int) (m:Nat),(σ[ig]?=some (some (.ref d))/\σ[iy]?=some (some vg)/\H d=some (.dT kvs)/\kvs.length<64) /\
 OrdN (kvs.map (·.2)).length (qbd kl m)/\(∀ i,i<(kvs.map (·.2)).length->(kl i).length=m) /\ ∀ H1,TbGo tb H H1 -> ∃ G:Hp->Prop,G H1 /\
  (∀ (i:Nat) (v:V) (H2:Hp),(kvs.map (·.2))[i]?=some v->G H2->te [some v,some vg] H2 fun r H3=>Same H2 H3/\G H3 /\ ∃ p,r = .ref p/\H3 p=some (.lst ((kl i).map V.int))) /\
  ∀ (p:Array Nat) (l:Addr) (H3:Hp),PmN (kvs.map (·.2)).length p->SrtN (qbd kl m) p (kvs.map (·.2)).length->Same H1 H3->G H3->H3 l=none->H l=none->Q (.ref l) (upd H3 l (.lst (p.toList.map fun i=>(kvs.map (·.2)).getD i .non)))
section
variable {X:Cx}{x y g:Str}{scope:Scope}{params:Qgq}{body:Expr}{te:TE}{cg c0 tb:Addr}{ig iy:Nat}{np gp ap cp lp kp pos:Pos}
def qzy (hu:X.A.in1.in1.units<cLine) (hh:X.A.handled=none) (room:X.A.in1.in1.depth<Qac) (hT:TbS tb X.H₀) (hcode:X.env.code = .ref c0) (C:CodeHd X.base c0 tb) (hbt:X.base.BuiltinsAt X.mg tb) (hg:Gl X "sorted") (hm:X.mg "sorted" = none) (hvar:PE X (.Name g gp) (qvj ig)) (S:LamScope scope x y)
 (hcl:closureFor scope X.env=pure [(y,cg)]) (hlk:X.env.cells.lookup y=some cg) (hyk:X.env.kindOf y=some .cell) (hN:X.N[iy]?=some y)
 (hb : ∀ nm qual pm c ct u,Qhb (kla_fn nm qual params body scope [(y,cg)] pm (.ref c) ct) ⟨[u],[]⟩=pure [(x,u)])
 (he : ∀ q f c s H,PE (cxL X.prog X.w X.K X.mg X.base q scope f (.ref c) [(y,cg)] [x,y] X.A.in1.in1 X.stack s H) body te)
 (hdef:defaultsOf params X.env=([],[]):=by rfl) (hfr:X.A.in1.in1.frames=X.A.frames:=by rfl) (hhd:X.A.in1.in1.handled=X.A.handled:=by rfl)
  (hbase:Vt (.Name g gp) "values" X.env (eval (.Name g gp) X.env)=eval (.Name g gp) X.env:=by rfl)
  (hfew:((Vl cp (Qw [] X.env)).all (fun x => !x.1)&&(Qct cp (Jh [] X.env)).all (fun x=>x.1.isSome)&&decide (([]:List Expr).length+([]:List Qaz).length+(if ([]:List Qaz).isEmpty then 0 else 1)<30))=true:=by rfl)
  (hline:(ap.endLine==cp.line)=true:=by rfl) :
  PE X (.Call (.Name "sorted" np) [.Call (.Attribute (.Name g gp) "values" ap) [] [] cp] [⟨some "key",.Lambda params body scope lp,kp⟩] pos) (tSK tb ig iy te):=by
  intro pins s σ H Q I h;obtain ⟨d,kvs,vg,kl,m,⟨e1,e2,ed,hn⟩,o,hm',rest⟩:=h;have T:=TbS.of I hT;refine Qai (qlc I hg hm boot_sorted ?_);refine callWith_kw ?_;show wpAny _ _ (spliced [(false,eval (.Call (.Attribute (.Name g gp) "values" ap) [] [] cp) X.env)]) _ _ s;refine Qbt ?_;refine wpAny_Call_method hbase hfew hline Qfk PySem.F.slot_dict_values PySem.F.type_dict_values (thn (hvar pins s σ H (fun v H'=>v = .ref d/\H'=H) I ⟨_,e1,rfl,rfl⟩) fun u s1 xx170=>?_);obtain ⟨v1,H1,I1,r1,ev,eH⟩:=xx170;subst ev;subst eH;obtain rfl:u=Yt d:=r1;obtain ⟨t1,t2,_⟩:=zain I1 (.inr ⟨kvs,.inl ed⟩);refine ⟨t1,t2,?_⟩;refine Qch rfl (PySem.evalArgs_none ?_);refine zafk I1 ed ?_;have hkp : ∀ b u,s1.heap.get? b=some u->(s1.heap.push (qzf d)).get? b=some u:=fun b u e=>Qj _ e;have gv:(s1.heap.push (qzf d)).get? s1.heap.objs.size=some (qzf d):=Qz _ rfl;have ow:=zajz I1 (Qr _);have nv:=I1.hok.fresh (Qr _);have nfs:s1.heap.objs.size ∉ X.fs:=fun z=>ow.f (by
   rcases I1.ok.stk with q|⟨q,q2⟩
   ·rw [q];exact z
   ·rw [q];unfold frs;rw [Qbh,q2];exact Qu _ z)
  have I2:=(I1.kept (t':=s1.toks) hkp).pinOne gv nv ow.l nfs (fun v z=>by cases z);refine Qez ?_;refine kws_cons (kla_eval hdef (zagn I2 (TbS.of I2 hT) hcode C hbt hcl fun f c ct pm oc fv q t s3 H3 I3 go new hf xx169 d1 d2=>?_));obtain ⟨uu,ec⟩:=xx169;refine kws_nil ?_;show wpAny _ _ (call (.builtin "sorted") [.ref s1.heap.objs.size] [(Qq "key",.ref f)]) _ _ s3;obtain ⟨G,g0,hk,fin⟩:=rest H3 go;have ne:d≠tb:=fun z=>by
   obtain ⟨ps,et,_⟩:=TbS.of I1 hT;rw [<- z,ed] at et;cases et
  have ed3:H3 d=some (.dT kvs):=go.h _ _ ne ed;obtain ⟨es,ep,hD,hV⟩:=zamn I3 ed3;have hvw:s3.heap.IsValuesView s1.heap.objs.size d:=⟨_,(I3.pin (s1.heap.objs.size,qzf d) (Q8 _ (Ya _ (Q8 _ (Qy.mpr rfl))))).1,rfl,rfl⟩
  have zl:(es.toList.map (·.val)).length=(kvs.map (·.2)).length:=hV.length.symm;refine qwi hu hh I3 hvw hD rfl (by rw [zl,Qf];exact hn) (zaly (G:=G) (kl:=kl) (uu:=uu) (oc:=oc) (vsV:=kvs.map (·.2)) (iy:=iy) S hh room (Q8 _ (Qy.mpr rfl)) (fun u=>hb _ _ _ _ _ u) d1 d2 hlk hyk hN e2 hV hfr hhd (fun s H=>he q f c s H) hk) (by rw [zl];exact o) (by rw [zl];exact hm') ⟨g0,ec⟩ fun p l H4 s4 cc hp hs I4 sm g4 ow4 nl hl=>?_;have hp':PmN (kvs.map (·.2)).length p:=by rw [<- zl];exact hp
  have hs':SrtN (qbd kl m) p (kvs.map (·.2)).length:=by rw [<- zl];exact hs
  have nl0:H1 l=none:=by
   cases eq:H1 l with
   | none=>rfl
   | some o' =>
    exfalso;by_cases z:l=tb
    ·obtain ⟨ps,et,_⟩:=go.ts;rw [<- z] at et;have:=sm _ _ et;rw [nl] at this;cases this
    ·have:=sm _ _ (go.h _ _ z eq);rw [nl] at this;cases this
  have vp:Vals (p.toList.map fun i=>(kvs.map (·.2)).getD i V.non) (p.toList.map fun i=>(es.toList.map (·.val)).getD i Y7):=qtm hV fun i hi=>by
   have:=hp.p.mem_iff.mp hi;exact Zh.mp this
  have I5:=I4.track (u :=.lst (p.toList.map fun i=>(kvs.map (·.2)).getD i V.non)) ow4 nl ⟨by rw [Qf,Yj,hp.s,zl,Qf,Yr];omega,_,cc,vp,hl⟩;exact ⟨.ref l,_,I5.unpinned.unpinned,rfl,fin p l H4 hp' hs' sm g4.1 nl nl0⟩
end
end
section
def qrv (tb:Addr) (K:Qd):Sp:=fun vs H Q E=>TbS tb H/\zatz K vs H Q E
section
variable {P:Zj}{w:World}{K:Qd}{mg mb:Str->Option Value}{CX:CXT}{k:Nat}{fa a tb c0:Addr}{fd:V4}{x:Str}{sp:Sp}{s:Ql}{vs:List Value}{ns:List Int}
def qyi {H:Hp} (KX:K.In s.heap) (hns:s.heap.Ns Zc mg) (hb:s.heap.Ns Qdl mb) (hbb : ∀ x:Str,x ≠ "__name__" -> mb x=Zv x) (hlim:s.heap.NoLimit) (hg:s.gens = #[]) (ha:s.heap.get? a=some { cls :=.type "list",data :=.seq vs.toArray })
 (hr:Room k Qhw) (ht:s.heap.TableAt c0 tb #[]) (hKt:K.lookup tb=none) (F : ∀ base:Heap,K.In base->base.Ns Zc mg->FnOk P w K mg base CX k fa fd [x] sp) (hbind : ∀ (s:Ql) (u:Value),Qiy s fd ⟨[u],[]⟩ [(x,u)])
 (hA : ∀ b,H b≠none->b=a\/b=tb) (hF : ∀ u,H a=some u -> ∃ o xs,u = .frz o (.lst xs)) (hT:H tb=some (.tbl #[])) (hok:HOk P w H s.heap) (hK:H a≠none->K.lookup a=none)
 (hsp:sp [.ref a] H (fun v _=>v = .bl true) fun _ _ _=>False) (hCX : ∀ e s',CX [] H s (fun _ _ _=>False) e s'->False) :
 Qdc (model P w) Qhw (.call (.ref fa) ⟨[.ref a],[]⟩) (fun r s'=>r = .ok (.ret (.bool true))/\OldK s.heap s'.heap/\s'.os=s.os/\Qgp s'.gens) s:=by
 have bo : ∀ {b:Addr}{o:Obj},s.heap.get? b=some o->H b=none->(qzx s.heap H).get? b=some o:=fun e n=>zagr e n;have nd : ∀ {b:Addr}{o:Obj}{es:Array Qdv}{ep:Nat},s.heap.get? b=some o->o.data = .dict es ep->H b=none:=fun {b o es ep} e d=>by
  cases q:H b with
  | none=>rfl
  | some u =>
   rcases hA b (by rw [q];simp) with z|z
   ·subst z;rw [ha] at e;cases e;have d':Qls vs.toArray _=Data.dict es ep:=d;cases d'
   ·subst z;rw [ht.2] at e;cases e;cases d
 have nsK : ∀ {b:Addr}{m:Str->Option Value},s.heap.Ns b m->(qzx s.heap H).Ns b m:=fun xx171=>by obtain ⟨o,es,ep,e,d,r⟩:=xx171;exact ⟨o,es,ep,bo e (nd e d),d,r⟩
 have kb:K.In (qzx s.heap H):=fun b o e=>bo (KX b o e) (by
  cases q:H b with
  | none=>rfl
  | some u =>
   rcases hA b (by rw [q];simp) with z|z
   ·subst z;rw [hK (by rw [q];simp)] at e;cases e
   ·subst z;rw [hKt] at e;cases e)
 have M:Mod K mg (qzx s.heap H):=⟨kb,nsK hns,⟨mb,nsK hb,hbb⟩,let ⟨mc,h1,h2⟩:=hlim; ⟨mc,nsK h1,h2⟩⟩
 have e0:Env0 P w K mg (qzx s.heap H) Qhw [] s H:=⟨rfl,M,fun b o e=>zamg e,Qdz (zadr _ _),trivial,fun b hb=>absurd (show b ∈ ([]:List Addr) from hb) (by simp),hok,.of_eq hg⟩
 refine Qej ((F _ kb (nsK hns)).run Qhw [] s H ⟨[.ref a],[]⟩ [.ref a] [.ref a] _ _ hr e0 (hbind s (.ref a)) (.cons rfl .nil) hsp) fun r s' h=>?_;cases r with
 | error e=>exact (hCX e s' h).elim
 | ok fl =>
  cases fl with
  | next=>exact Zd h
  | brk=>exact Zd h
  | cont=>exact Zd h
  | ret u =>
   obtain ⟨v,H',os,bare,un,hok',r',q⟩:=h;have q':v = .bl true:=q;subst q';obtain rfl:u=Qkt true:=r';refine ⟨rfl,⟨fun b o e=>?_,fun b o e=>un.there b o e (by simp)⟩,os,bare⟩;cases qb:H b with
   | none=>exact .inl (un.keep b o e qb (by simp [frs]) (by simp))
   | some u =>
    rcases hA b (by rw [qb];simp) with z|z
    ·subst z;obtain ⟨o2,xs,e3⟩:=hF u qb;rw [e3] at qb;obtain ⟨e1,_⟩:=hok b _ qb;obtain ⟨e2,_⟩:=hok' b _ (un.frzs b _ _ qb);rw [e] at e1;cases e1;exact .inl e2
    ·subst z;obtain ⟨more,e1,_⟩:=un.tbls b _ hT;have e2:s'.heap.get? b=some (tabObj (#[]++more)):=hok' b _ e1;rw [ht.2] at e;cases e;exact .inr (.inl ⟨ht.isCodeTable,rfl,#[],more,rfl,e2⟩)
def zaen (KX:K.In s.heap) (hns:s.heap.Ns Zc mg) (hb:s.heap.Ns Qdl mb) (hbb : ∀ x:Str,x ≠ "__name__" -> mb x=Zv x) (hlim:s.heap.NoLimit) (hg:s.gens = #[]) (ha:s.heap.get? a=some { cls :=.type "list",data :=.seq vs.toArray }) (hi:Qgr vs ns) (hl:ns.length<=Q6)
 (hr:Room k Qhw) (ht:s.heap.TableAt c0 tb #[]) (hKt:K.lookup tb=none) (F : ∀ base:Heap,K.In base->base.Ns Zc mg->FnOk P w K mg base CX k fa fd [x] sp) (hbind : ∀ (s:Ql) (u:Value),Qiy s fd ⟨[u],[]⟩ [(x,u)])
 (hsp : ∀ H:Hp,TbS tb H->SqL K H a (ns.map V.int)->sp [.ref a] H (fun v _=>v = .bl true) fun _ _ _=>False) (hCX : ∀ H e s',CX [] H s (fun _ _ _=>False) e s'->False) :
 Qdc (model P w) Qhw (.call (.ref fa) ⟨[.ref a],[]⟩) (fun r s'=>r = .ok (.ret (.bool true))/\OldK s.heap s'.heap/\s'.os=s.os/\Qgp s'.gens) s:=by
 have rv:=qmv hi;have lv:=hi.length;have ne:a≠tb:=fun z=>by
  have:=ht.2;rw [<- z,ha] at this;cases this
 cases hk:K.lookup a with
 | some o =>
  have e:=KX a o hk;rw [ha] at e;cases e;refine qyi (H:=fun b=>if b=tb then some (.tbl #[]) else none) KX hns hb hbb hlim hg ha hr ht hKt F hbind (fun b z=>?_) (fun u z=>?_) (if_pos rfl) (fun b u z=>?_) (fun z=>absurd (if_neg ne) z) (hsp _ ⟨#[],if_pos rfl,.nil⟩ ?_) (fun e s'=>hCX _ e s')
  ·by_cases q:b=tb
   ·exact .inr q
   ·exact absurd (if_neg q) z
  ·have:=(if_neg ne).symm.trans z;cases this
  ·by_cases q:b=tb
   ·have z':=(if_pos q).symm.trans z;cases z';rw [q];exact ht.2
   ·have z':=(if_neg q).symm.trans z;cases z'
  ·exact .inr ⟨_,vs.toArray,_,hk,rfl,rfl,rfl,by rw [Qs,lv];exact hl,by simpa using rv⟩
 | none =>
  refine qyi (H:=fun b=>if b=tb then some (.tbl #[]) else if b=a then some (.frz { cls :=.type "list",data :=.seq vs.toArray } (.lst (ns.map V.int))) else none) KX hns hb hbb hlim hg ha hr ht hKt F hbind (fun b z=>?_) (fun u z=>?_) (if_pos rfl) (fun b u z=>?_) (fun _=>hk) (hsp _ ⟨#[],if_pos rfl,.nil⟩ ?_) (fun e s'=>hCX _ e s')
  ·by_cases q:b=tb
   ·exact .inr q
   ·by_cases q2:b=a
    ·exact .inl q2
    ·exact absurd ((if_neg q).trans (if_neg q2)) z
  ·have z':=((if_neg ne).trans (if_pos rfl)).symm.trans z;exact ⟨_,_,(Qp z').symm⟩
  ·by_cases q:b=tb
   ·have z':=(if_pos q).symm.trans z;cases z';rw [q];exact ht.2
   ·by_cases q2:b=a
    ·have z':=((if_neg q).trans (if_pos q2)).symm.trans z;cases z';subst q2;exact ⟨ha,by rw [Qf];exact hl,vs,_,rv,ha⟩
    ·have z':=((if_neg q).trans (if_neg q2)).symm.trans z;cases z'
  ·exact .inl (.inr ⟨{ cls :=.type "list",data :=.seq vs.toArray },(if_neg ne).trans (if_pos rfl)⟩)
end
def walk_ofT {l:Qgj}{n k:Nat}{q:Zj}{loose:List Str}{XP:(Str->Option Value)->Heap->Prop}{YP:World->Heap->Prop}{d:DefRec}{K:Qbo->Qd}{tb c0:Qbo->Addr}{CX:World->CXT}{sp:World->Sp}{x:Str}
 (hn:l.most=some n) (hn2:n<=Q6) (hdf:d.params.defaults=[]) (hr:Room k Qhw) (hY : ∀ (w:World) (h:Heap),YP w h->(K w.params).In h/\h.TableAt (c0 w.params) (tb w.params) #[]) (hKt : ∀ P,(K P).lookup (tb P)=none)
 (F : ∀ (w:World) (mg:Str->Option Value) (fa:Addr) (h:Heap),(K w.params).In h->h.Ns Zc mg->mg d.name=some (.ref fa) ->
 ∃ fd:V4,(∀ (s:Ql) (u:Value),Qiy s fd ⟨[u],[]⟩ [(x,u)]) /\ ∀ base:Heap,(K w.params).In base->base.Ns Zc mg->FnOk l.prog w (K w.params) mg base (CX w) k fa fd [x] (sp w))
 (hsp : ∀ (w:World) (H:Hp) (a:Addr) (ns:List Int),ns.length<=n->TbS (tb w.params) H->SqL (K w.params) H a (ns.map V.int)->sp w [.ref a] H (fun v _=>v = .bl true) fun _ _ _=>False)
 (hCX : ∀ (w:World) (H:Hp) (s:Ql) (e:Value) (s':Ql),CX w [] H s (fun _ _ _=>False) e s'->False):Qla q loose XP YP l.row.toRowW d [] (fun f vs=>Qku f vs):=by
  refine Att.attach_call hn hdf fun w s₀ s₁ mg mb fa o pm cd doc a vs ns G Y ho hd hcd hmg hobj hints hlen hg=>?_;obtain ⟨KX,ht⟩:=hY w _ Y;obtain ⟨fd,hb,hF⟩:=F w mg fa _ KX G.T.g hmg;exact zaen KX G.T.g G.T.b G.T.builtins G.T.nolimit hg hobj hints (Zk hlen hn2) hr ht (hKt w.params) hF hb (fun H hO hS=>hsp w H a ns hlen hO hS) fun H e s'=>hCX w H s₁ e s'
end
section
def zaes (K:Qd) (c tb:Addr):Bool:=match K.lookup c with
 | some ⟨.type "code",_,.fields vs,_⟩=>(vs[11]?==some (.ref tb))&&(match vs.getD 18 .none with | .str _ _=>true|_=>false)&&(match vs.getD 7 .none with | .int _ _=>true|_=>false)&&(match vs.getD 9 .none with | .bool _=>true|_=>false)&&(match vs.getD 10 .none with | .int _ _=>true|_=>false)&&c != tb
 | _=>false
def zadz {K:Qd}{h:Heap}{c tb:Addr} (X:K.In h) (q:zaes K c tb=true):CodeHd h c tb:=by
 unfold zaes at q;split at q
 case h_2=>cases q
 rename_i dd vs sl ho;simp only [Ym,beq_iff_eq,bne_iff_ne] at q;obtain ⟨⟨⟨⟨⟨e1,e2⟩,e3⟩,e4⟩,e5⟩,e6⟩:=q;have e7:vs.getD 11 .none = .ref tb:=by
  have:vs.getD 11 .none=(vs[11]?).getD .none:=by simp [Array.getD_eq_getD_getElem?]
  rw [this,e1];rfl
 split at e2
 case h_2=>cases e2
 rename_i x2 t2 g2;split at e3
 case h_2=>cases e3
 rename_i x3 t3 g3;split at e4
 case h_2=>cases e4
 rename_i x4 g4;split at e5
 case h_2=>cases e5
 rename_i x5 t5 g5;exact ⟨_,vs,x2,t2,x3,t3,x4,x5,t5,X _ _ ho,rfl,rfl,e1,e7,g2,g3,g4,g5,e6⟩
def blIn (K:Qd) (bm tb:Addr):Bool:=match K.lookup bm with
 | some ⟨.type "module",some d,.plain,_⟩=>d==Qdl&&bm != Qdl&&bm != Zc&&bm != tb
 | _=>false
def zakk {K:Qd}{h:Heap}{mg:Str->Option Value}{bm tb:Addr} (X:K.In h) (hm:mg "__builtins__" = some (.ref bm)) (q:blIn K bm tb=true):h.BuiltinsAt mg tb:=by
 unfold blIn at q;split at q
 case h_2=>cases q
 rename_i d sl ho;simp only [Ym,beq_iff_eq,bne_iff_ne] at q;obtain ⟨⟨⟨e1,e2⟩,e3⟩,e4⟩:=q;subst e1;exact ⟨bm,_,hm,e2,e3,e4,X _ _ ho,rfl,rfl,rfl⟩
structure DefT (K:Qd) (mg:Str->Option Value) (x:Str) (st:Stmt) (ps:List Str) (c0:Addr):Prop where
 ex : ∃ (f:Addr) (oc:Value) (od:Option Addr) (kV doc pm:Value) (an:Option Addr) (ct:Value) (osl:Array (Option Value)),K.lookup f=some ⟨oc,od,.func (Va x x (defArgs st) (defBody st) (defScope st) .none kV doc pm an (.ref c0) ct),osl⟩/\J9 K (.ref c0) x=true /\
  Yw K (.ref f)=true/\mg x=some (.ref f)/\Binds K (Va x x (defArgs st) (defBody st) (defScope st) .none kV doc pm an (.ref c0) ct) ps []
def DefT.ok {P:Zj}{w:World}{K:Qd}{mg:Str->Option Value}{base:Heap}{x:Str}{st:Stmt}{N ps:List Str}{k:Nat}{sp:Sp}{c0:Addr} (F:DefT K mg x st ps c0) (S:FnScope N ps (defScope st)) (len : ∀ vs H Q E,sp vs H Q E->vs.length=ps.length)
 (hbody : ∀ (f:Addr) (A:Z4) (outer:List Env) (s:Ql) (H:Hp) (vs:List V) (Q:VK) (E:XK),Room k (A.deeper (Qcx x (defScope st) s.heap.objs.size f (.ref c0)))->sp vs H Q E ->
 ∃ t,PSs (qot CX0 P w K mg base N x (defScope st) f (.ref c0) A outer s H E).nox (defBody st) t/\t { nx:=fun _ H'=>Q .non H',rt:=Q } (start N vs) H):Ok P w K mg base x (k+1) ps sp:=by
  obtain ⟨f,oc,od,kV,doc,pm,an,ct,osl,lk,hcd,kp,hm,hb⟩:=F.ex;refine ⟨f,_,zaor lk hcd S len fun A outer s H vs Q E hr hsp=>?_,hm,kp,hb⟩;obtain ⟨t,h,q⟩:=hbody f A outer s H vs Q E hr hsp;exact ⟨t,h.nox,q⟩
structure GoT (tb:Addr) (F H F' H':Hp):Prop where
 f:Same F F'
 h : ∀ b o,b≠tb->H b=some o->H' b=some o
 fh:Same F' H'
 new : ∀ b o,F' b=some o->F b=some o\/H b=none
 ts:TbS tb H'
 ft:F' tb=none
def TSp (tb:Addr) (K:Qd) (sp:DC):Sp:=fun vs H Q _=>TbS tb H /\ ∃ F ds q,F tb=none/\Same F H/\Iss K F ds vs/\sp ds q /\ ∀ d v F' H',GoT tb F H F' H'->Is K F' d v->q d->Q v H'
def GoT.go {tb:Addr}{F H F1 H1 F2 H2:Hp} (a:GoT tb F H F1 H1) (b:Go F1 H1 F2 H2):GoT tb F H F2 H2:=by
 have th:H1 tb≠none:=by obtain ⟨ps,e,_⟩:=a.ts;rw [e];exact fun z=>by cases z
 have nt:F2 tb=none:=by
  cases e:F2 tb with
  | none=>rfl
  | some o =>
   rcases b.new tb o e with z|z
   ·rw [a.ft] at z;cases z
   ·exact (th z).elim
 refine ⟨a.f.trans b.f,fun c o n e=>b.h _ _ (a.h c o n e),b.fh,fun c o e=>?_,a.ts.same b.h,nt⟩;rcases b.new c o e with z|z
 ·exact a.new c o z
 ·by_cases q:c=tb
  ·rw [q,nt] at e;cases e
  ·right;cases e3:H c with
   | none=>rfl
   | some o3=>have:=a.h c o3 q e3;rw [z] at this;cases this
end
end L2
namespace L2
open PySem PySem.Spec PyProof.Rows
section
def qni : ∀ {us:List Value}{ns:List Int},Qgr us ns -> ∀ (i:Nat) (v:Value),us[i]?=some v -> ∃ n t,ns[i]?=some n/\v = .int n t
 | _,_,.nil,i,v,h=>by simp at h
 | _,_,.cons n t r,0,v,h=>by
  rw [Qfl,Qiu] at h;exact ⟨n,t,by rw [Qfl],h.symm⟩
 | _,_,.cons n t r,i+1,v,h=>by
  rw [Z7] at h;obtain ⟨m,k,e,z⟩:=qni r i v h;exact ⟨m,k,by rw [Z7];exact e,z⟩
def qnn : ∀ {us:List Value}{ns:List Int},Qgr us ns->us.length=ns.length
 | _,_,.nil=>rfl
 | _,_,.cons n t r=>by rw [Zb,Zb,qnn r]
def zady {us:List Value}{ns:List Int} (hb:Qgr us ns):((Q1 us.toArray.size).any fun i=>((ns[i]?).getD 1) != 0)=ns.any (· != 0):=by
 have hlen:us.toArray.size=ns.length:=by rw [Qs];exact qnn hb
 rw [hlen,Bool.eq_iff_iff,Yn,Yn];constructor
 ·rintro ⟨i,hi,z⟩;have hi':=Zh.mp hi;refine ⟨ns[i],Q7 hi',?_⟩;simpa [hi'] using z
 ·rintro ⟨b,hb',z⟩;obtain ⟨i,hi,rfl⟩:=List.getElem_of_mem hb';exact ⟨i,Zh.mpr hi,by simpa [hi] using z⟩
section
variable {X:Cx}
def zasc (K:Qd):List V->Hp->VK->Prop:=fun xs H Q => ∃ (a:Addr) (ns:List Int),xs=[.ref a]/\SqL K H a (ns.map V.int)/\Q (.bl (ns.any (· != 0))) H
def zado (hc:X.calm=true):CallR X (.builtin "any") (zasc X.K):=by
 intro pins s σ H xs us Q I r h;obtain ⟨a,ns,rfl,ha,q⟩:=h;obtain ⟨u,rfl,rx⟩:=qkk r;cases rx;obtain ⟨its,rv,pl,_⟩:=I.list ha;have hl:=pl.isList;have hb:=qpf rv;have hlt:a<s.heap.objs.size:=pl.lt;refine call_any_walk (Qcs hl ?_);refine ⟨s.heap.objs.size,[s.heap.objs.size,a],[s.heap.objs.size],its.toArray.size,_,_,fun i=>((ns[i]?).getD 1) != 0,rfl,Walks.list (A:=X.A.in1) (I.ok.hd hc) _ a (Q9 hlt) its.toArray,
  ⟨⟨_,Qz _ rfl,rfl,rfl⟩,hl.push _⟩,fun i v s' Q' E' hP hQ=>?_,fun h' tk hk=>?_⟩
 ·obtain ⟨n,t,e,rfl⟩:=qni hb i v (by simpa using hP);simp only [e,Qfv] at hQ;exact P.truthy_int hQ
 ·rw [zady hb];refine ⟨.bl (ns.any (· != 0)),H,I.kept (t':=tk) (fun b o z=>hk b o (fun hm=>?_) (Qj _ z)),rfl,q⟩;rw [Qy.mp hm] at z;exact Jy _ (Qx z)
def zatj:DC
 | [.list l],q => ∃ ns:List Int,l=ns.map .int/\q (.bool (ns.any (· != 0)))
 | _,_=>False
def zaou (hc:X.calm=true):qof X (.builtin "any") zatj:=(zado hc).imp fun xs H Q xx172=>by
 obtain ⟨F,ds,q,s,i,h,k⟩:=xx172
 match ds,h,i with
 | [.list l],h,i =>
  obtain ⟨v,rfl,j⟩:=qkt i;obtain ⟨a,xs,rfl,hs,hr⟩:=j.lst_inv;obtain ⟨ns,rfl,hq⟩:=h;rw [hr.ints_inv] at hs;exact ⟨a,ns,rfl,s.seq hs,k _ _ F H (.refl s) (qgi _) hq⟩
end
end
section
abbrev Grp:=List Int×Addr×List Nat
def qnj (x:Grp):List Key×V:=(x.1.map Qbr,V.ref x.2.1)
def grL (G:List Nat):List V:=G.map fun i=>V.int ((i:Nat):Int)
structure GrAt (H0 F H:Hp) (d:Addr) (ks:List Grp):Prop where
 hd:H d=some (.dT (ks.map qnj))
 fd:F d=none
 nd:H0 d=none
 hl : ∀ x ∈ ks,H x.2.1=some (.lst (grL x.2.2))
 fl : ∀ x ∈ ks,F x.2.1=none
 nl : ∀ x ∈ ks,H0 x.2.1=none
 dl : ∀ x ∈ ks,x.2.1≠d
 ad:(ks.map (·.2.1)).Nodup
 ky:(ks.map (·.1)).Nodup
def qpz (ks:List Grp) (k:List Int) (s:Nat):List Grp:=ks.map fun x=>if x.1=k then (x.1,x.2.1,x.2.2++[s]) else x
def zals {a b:List Int} (h:(a.map Qbr:List Key)=b.map Qbr):a=b:=by
 induction a generalizing b with
 | nil=>cases b with
  | nil=>rfl
  | cons _ _=>cases h
 | cons x a ih=>cases b with
  | nil=>cases h
  | cons y b =>
   rw [Q2,Q2] at h;injection h with h1 h2;injection h1 with h1;rw [h1,ih h2]
def qmj {α β:Type}{f:α->β} : ∀ {l:List α},(l.map f).Nodup -> ∀ x ∈ l,∀ y ∈ l,f x=f y->x=y
 | [],_,x,hx,_,_,_=>by cases hx
 | a::l,h,x,hx,y,hy,e=>by
  rw [Q2,Jl] at h;rcases Q5.mp hx with zx|zx
  ·rcases Q5.mp hy with zy|zy
   ·rw [zx,zy]
   ·exact (h.1 (Qk.mpr ⟨y,zy,by rw [<- e,zx]⟩)).elim
  ·rcases Q5.mp hy with zy|zy
   ·exact (h.1 (Qk.mpr ⟨x,zx,by rw [e,zy]⟩)).elim
   ·exact qmj h.2 x zx y zy e
def qwe {k:List Int} : ∀ (ks:List Grp),qoq (ks.map qnj) (k.map Qbr)=(ks.find? fun x=>decide (x.1=k)).map fun x=>V.ref x.2.1
 | []=>rfl
 | x::ks=>by
  rw [Q2];by_cases e:x.1=k
  ·rw [qqw (by show x.1.map Qbr=_;rw [e]),List.find?_cons_of_pos (by simpa using e)];rfl
  ·rw [qqv (fun z=>e (zals z)),List.find?_cons_of_neg (by simpa using e),qwe ks]
def Go.at {F0 H0 F H:Hp}{a:Addr}{o:HO} (g:Go F0 H0 F H) (h1:F a=none) (h2:H0 a=none):Go F0 H0 F (upd H a o) :=
 ⟨g.f,fun b u e=>by rw [qi fun z=>by rw [z,h2] at e;cases e];exact g.h b u e,fun b u e=>by rw [qi fun z=>by rw [z,h1] at e;cases e];exact g.fh b u e,g.new⟩
section
variable {F0 H0 F H:Hp}{d l p:Addr}{ks:List Grp}{k:List Int}{G:List Nat}{s:Nat}
def GrAt.hit (h:GrAt H0 F H d ks) (m:(k,l,G) ∈ ks):GrAt H0 F (upd H l (.lst (grL (G++[s])))) d (qpz ks k s):=by
 have ne:d≠l:=fun z=>h.dl _ m z.symm;have addr : ∀ y:Grp,(if y.1=k then (y.1,y.2.1,y.2.2++[s]) else y).2.1=y.2.1:=fun y=>by split <;> rfl
 have key : ∀ y:Grp,(if y.1=k then (y.1,y.2.1,y.2.2++[s]) else y).1=y.1:=fun y=>by split <;> rfl
 have nodup_at:=qmj (f:=fun x:Grp=>x.2.1) h.ad;have nodup_key:=qmj (f:=fun x:Grp=>x.1) h.ky;refine ⟨?_,h.fd,h.nd,fun x hx=>?_,fun x hx=>?_,fun x hx=>?_,fun x hx=>?_,?_,?_⟩
 ·rw [qi ne,h.hd];unfold qpz;rw [Zy]
  congr 2
  refine Z9 fun x _=>?_;show qnj x=qnj _;unfold qnj;rw [addr,key]
 ·obtain ⟨y,hy,rfl⟩:=Qk.mp hx;rw [addr];by_cases e:y.1=k
  ·have:=nodup_key y hy _ m e;subst this;rw [ql,if_pos rfl]
  ·rw [qi fun z=>e ?_,if_neg e]
   ·exact h.hl y hy
   ·have:=nodup_at y hy _ m z;rw [this]
 ·obtain ⟨y,hy,rfl⟩:=Qk.mp hx;rw [addr];exact h.fl y hy
 ·obtain ⟨y,hy,rfl⟩:=Qk.mp hx;rw [addr];exact h.nl y hy
 ·obtain ⟨y,hy,rfl⟩:=Qk.mp hx;rw [addr];exact h.dl y hy
 ·have:(qpz ks k s).map (·.2.1)=ks.map (·.2.1):=by
   unfold qpz;rw [Zy];exact Z9 fun x _=>addr x
  rw [this];exact h.ad
 ·have:(qpz ks k s).map (·.1)=ks.map (·.1):=by
   unfold qpz;rw [Zy];exact Z9 fun x _=>key x
  rw [this];exact h.ky
def GrAt.miss (h:GrAt H0 F H d ks) (hp:H p=none) (fp:F p=none) (np:H0 p=none) (hk : ∀ x ∈ ks,x.1≠k):GrAt H0 F (upd (upd (upd H p (.lst [])) d (.dT ((ks++[(k,p,[s])]).map qnj))) p (.lst (grL [s]))) d (ks++[(k,p,[s])]):=by
 have pd:p≠d:=fun z=>by rw [z,h.hd] at hp;cases hp
 have pl : ∀ x ∈ ks,x.2.1≠p:=fun x hx z=>by have:=h.hl x hx;rw [z,hp] at this;cases this
 have two : ∀ {P:Grp->Prop},(∀ x ∈ ks,P x)->P (k,p,[s]) -> ∀ x ∈ ks++[(k,p,[s])],P x:=fun a b x hx=>by
  rcases Zf.mp hx with z|z
  ·exact a x z
  ·rw [Qy.mp z];exact b
 refine ⟨?_,h.fd,h.nd,two (fun x hx=>?_) ?_,two h.fl fp,two h.nl np,two h.dl pd,?_,?_⟩
 ·rw [qi (Z0 pd),ql]
 ·rw [qi (pl x hx),qi (h.dl x hx),qi (pl x hx)];exact h.hl x hx
 ·exact ql
 ·rw [Zm,Q2,Jw,Qas];refine ⟨h.ad,by simp,fun a ha b hb=>?_⟩;obtain ⟨x,hx,rfl⟩:=Qk.mp ha;rw [Qy.mp hb];exact pl x hx
 ·rw [Zm,Q2,Jw,Qas];refine ⟨h.ky,by simp,fun a ha b hb=>?_⟩;obtain ⟨x,hx,rfl⟩:=Qk.mp ha;rw [Qy.mp hb];exact hk x hx
def zafy:grL G++[V.int ((s:Nat):Int)]=grL (G++[s]):=by unfold grL;rw [Zm];rfl
end
def qzz (ks:List Grp) (k:List Int) (p:Addr) (s:Nat):List Grp:=if (ks.any fun x=>decide (x.1=k))=true then qpz ks k s else ks++[(k,p,[s])]
def zapz {K:Qd}{F0 H0 F H:Hp}{d b:Addr}{ks:List Grp}{k:List Int}{s ig ia is:Nat}{σ:St}{D:Ends} (g:Go F0 H0 F H) (h:GrAt H0 F H d ks) (e1:σ[ig]?=some (some (.ref d))) (e2:σ[ia]?=some (some (.ref b))) (e3:σ[is]?=some (some (.int ((s:Nat):Int))))
 (hb:F b=some (.tup (k.map V.int))) (hn:ks.length<900) (hs : ∀ x ∈ ks,x.2.2.length<900)
 (q : ∀ p H',Go F0 H0 F H'->GrAt H0 F H' d (qzz ks k p s)->D.nx σ H'):zaoq (tBM K "list" quj (zaij (qvj ig) (qvj ia) (tLst tNil)) (qze (qvj is) tNil)) D σ H:=by
  have hb':=g.fh _ _ hb;have ekv:(k.map Qbr:List Key).map kV=k.map V.int:=by rw [Zy];rfl
  refine ⟨_,e1,d,rfl,.inr ⟨_,.inl h.hd⟩,_,e2,Yc _,fun p hp=>?_⟩;have pd:d≠p:=fun z=>by rw [<- z,h.hd] at hp;cases hp
  have fp:F p=none:=qu g.fh hp;have np:H0 p=none:=qu g.h hp;have pb:b≠p:=fun z=>by rw [<- z,hb'] at hp;cases hp
  refine ⟨ks.map qnj,k.map Qbr,b,by rw [qi pd];exact h.hd,rfl,by rw [qi pb,ekv];exact hb',by rw [Qf,Yr];omega,fun v ev=>?_,fun ev=>?_⟩
  ·rw [qwe] at ev;cases ef:ks.find? fun x=>decide (x.1=k) with
   | none=>rw [ef] at ev;cases ev
   | some x =>
    rw [ef] at ev;cases ev;have xm:=List.mem_of_find?_eq_some ef;have xk:x.1=k:=by simpa using List.find?_some ef
    obtain ⟨k',l,G⟩:=x;have xk:k'=k:=xk;subst xk;have lp:l≠p:=fun z=>by have:=h.hl _ xm;rw [z] at this;rw [show H p=_ from this] at hp;cases hp
    have hl:=h.hl _ xm;have ha:(ks.any fun x=>decide (x.1=k'))=true:=Yn.mpr ⟨_,xm,by simp⟩;have h1:GrAt H0 F (upd H p (.lst [])) d ks:=⟨by rw [qi pd];exact h.hd,h.fd,h.nd,fun x hx=>by
     rw [qi fun z=>by have:=h.hl x hx;rw [z,hp] at this;cases this];exact h.hl x hx,h.fl,h.nl,h.dl,h.ad,h.ky⟩
    have z1:=(h1.hit (s:=s) xm)
    have hp':=q p (upd (upd H p (.lst [])) l (.lst (grL (G++[s])))) ((g.at fp np).at (h.fl _ xm) (h.nl _ xm)) (by unfold qzz;rw [if_pos ha];exact z1);refine ⟨?_,_,e3,l,grL G,_,rfl,rfl,by rw [qi lp];exact hl,?_,?_⟩
    ·exact .inl ⟨rfl,grL G,SqL.of (by rw [qi lp];exact hl)⟩
    ·have:=hs _ xm;rw [Yr];show (grL G).length<_;unfold grL;rw [Qf];show G.length<_;have:G.length<900:=this;omega
    ·rw [zafy];exact hp'
  ·rw [qwe] at ev;have ef : ∀ x ∈ ks,x.1≠k:=fun x hx z=>by
    cases ef:ks.find? fun x=>decide (x.1=k) with
    | none=>exact (by simpa using List.find?_eq_none.mp ef x hx : ¬ x.1=k) z
    | some y=>rw [ef] at ev;cases ev
   have ha : ¬ (ks.any fun x=>decide (x.1=k))=true:=fun z=>by
    obtain ⟨x,hx,z⟩:=Yn.mp z;exact ef x hx (by simpa using z)
   have eput:qxr (ks.map qnj) (k.map Qbr) (.ref p)=(ks++[(k,p,[s])]).map qnj:=by
    rw [zaga _ (by rw [qwe];exact ev),Zm];rfl
   rw [eput];have z1:=h.miss (s:=s) hp fp np ef;have hp':=q p _ (((g.at fp np).at h.fd h.nd).at fp np) (by unfold qzz;rw [if_neg ha];exact z1);have hl:upd (upd H p (.lst [])) d (.dT ((ks++[(k,p,[s])]).map qnj)) p=some (.lst []):=by rw [qi (Z0 pd),ql]
   refine ⟨.inl ⟨rfl,[],SqL.of hl⟩,_,e3,p,[],_,rfl,rfl,hl,by rw [Yr];decide,?_⟩;exact hp'
def Room.lam {k:Nat}{A:Z4} (r:Room (k+1) A) (env:Env):Room k (A.in1.in1.deeper env) :=
 ⟨r.hd,by have:=r.dp;show A.depth+1+3*k+5<_;omega,by have:=r.un;show A.units+1+1+3+16*k+200<_;omega⟩
def Room.sort {k:Nat}{A:Z4} (r:Room k A):A.units+1<cLine/\A.in1.in1.units<cLine/\A.in1.in1.depth<Qac :=
 ⟨by have:=r.un;omega,by have:=r.un;show A.units+1+1<_;omega,by have:=r.dp;show A.depth<_;omega⟩
def qsp {y:Str} : ∀ {l:List (Str×Qax)},(∀ p ∈ l,p.2 = .free->p.1=y) -> ∀ z,l.lookup z=some .free->z=y
 | [],_,z,h=>by cases h
 | (a,k)::l,g,z,h=>by
  rw [Zp] at h;cases e:z==a with
  | true =>
   rw [e] at h;have hk:k = .free:=Qp h;have:=eq_of_beq e;rw [this];exact g (a,k) (by simp) hk
  | false =>
   rw [e] at h;exact qsp (fun p hp=>g p (Qu _ hp)) z h
def GrAt.go {H0 F H F' H':Hp}{d:Addr}{ks:List Grp} (h:GrAt H0 F H d ks) (g:Go F H F' H'):GrAt H0 F' H' d ks :=
 ⟨g.h _ _ h.hd,qmc g h.hd h.fd,h.nd,fun x hx=>g.h _ _ (h.hl x hx),fun x hx=>qmc g (h.hl x hx) (h.fl x hx),h.nl,h.dl,h.ad,h.ky⟩
def qos (gs:List (List Int×List Nat)) (k:List Int) (s:Nat):List (List Int×List Nat):=if (gs.any fun x=>decide (x.1=k))=true then gs.map (fun x=>if x.1=k then (x.1,x.2++[s]) else x) else gs++[(k,[s])]
def qkc (ks:List Grp):List (List Int×List Nat):=ks.map fun x=>(x.1,x.2.2)
def zadi {ks:List Grp}{k:List Int}{p:Addr}{s:Nat}:qkc (qzz ks k p s)=qos (qkc ks) k s:=by
 have e:((qkc ks).any fun x=>decide (x.1=k))=ks.any fun x=>decide (x.1=k):=by unfold qkc;rw [List.any_map];rfl
 unfold qos qzz;rw [e];split
 ·unfold qpz qkc;rw [Zy,Zy];refine Z9 fun x _=>?_;by_cases z:x.1=k
  ·simp [z]
  ·simp [z]
 ·unfold qkc;rw [Zm];rfl
end
end L2
namespace L2
open PySem PySem.Spec PyProof.Rows PySem.W
section
def qtu {M:Model}{Γ:PySem.Ctx}{env:Env}{Q:Flow->Pos->Ql->Prop}{E:Value->Pos->Ql->Prop}{b:List Stmt} : ∀ (a:List Stmt) (p:Pos) (s:Ql),
 Sem.wp M Γ (execs a env) (fun f p' s'=>match f with | .next=>Sem.wp M Γ (execs b env) Q E p' s'|f=>Q f p' s') E p s->Sem.wp M Γ (execs (a++b) env) Q E p s
  | [],p,s,h=>h
  | st::a,p,s,h=>by
   rw [Qft,execs_cons,Sem.wp_bind'];rw [execs_cons,Sem.wp_bind'] at h;refine Sem.wp_mono M Γ _ (fun f p' s' h'=>?_) (fun _ _ _ h'=>h') _ _ h;cases f with
   | next=>exact qtu a p' s' h'
   | ret v=>exact h'
   | brk=>exact h'
   | cont=>exact h'
section
variable {X:Cx}{t u:TS}
def zako {a b:List Stmt} (h1:PSs X a t) (h2:PSs X b u):PSs X (a++b) (tSeq t u):=by
 intro pins s σ H D I h Γ p hΓ;refine qtu a p s (Sem.wp_mono _ Γ _ (fun f p' s' q=>?_) (fun _ _ _ h'=>h') _ _ (h1 pins s σ H { D with nx:=u D } I h Γ p hΓ));cases f with
 | next =>
  obtain ⟨σ',H',I',q⟩:=q;exact h2 pins s' σ' H' D I' q Γ p' hΓ
 | ret v=>exact q
 | brk=>exact q
 | cont=>exact q
def zaio (k:Nat) {b:List Stmt} (h1:PSs X (b.take k) t) (h2:PSs X (b.drop k) u):PSs X b (tSeq t u):=by
 have:=zako h1 h2
 rwa [Qcu] at this
end
def lawD:Ends:={ nx:=fun _ _=>False,rt:=fun v _=>v = .bl true }
section
variable {K:Qd}{M:Frm}{F H:Hp}{env:Sto}{σ:St}{W:WS}{u:TS}
def zafs (hE:EnvOk K ⟨H,H,F⟩ F H env σ) (P:Sto->Prop) (hW:W { nx:=P,rt:=fun r _=>r.data = .bool true } env) (hu : ∀ e F' H' σ',EnvOk K ⟨H,H,F⟩ F' H' e σ'->P e->u lawD σ' H'):tSeq (qsl K W) u lawD σ H:=by
 refine ⟨⟨H,H,F⟩,env,F,_,hE,hW,⟨fun e1 F1 H1 σ1 I1 s1 q1=>hu e1 F1 H1 σ1 I1 q1,fun r v e1 F1 H1 σ1 I1 s1 r1 q1=>?_,fun _ _ _ _ _ _ h=>h.elim,fun _ _ _ _ _ _ h=>h.elim⟩⟩;obtain ⟨F2,g,j⟩:=r1.is I1;have q1:r.data = .bool true:=q1;rw [q1] at j;exact j.bl_inv
def zant (hE:EnvOk K ⟨H,H,F⟩ F H env σ) (hW:W { nx:=fun _=>False,rt:=fun r _=>r.data = .bool true } env):qsl K W lawD σ H:=by
 refine ⟨⟨H,H,F⟩,env,F,_,hE,hW,⟨fun e1 F1 H1 σ1 I1 s1 q1=>q1.elim,fun r v e1 F1 H1 σ1 I1 s1 r1 q1=>?_,fun _ _ _ _ _ _ h=>h.elim,fun _ _ _ _ _ _ h=>h.elim⟩⟩;obtain ⟨F2,g,j⟩:=r1.is I1;have q1:r.data = .bool true:=q1;rw [q1] at j;exact j.bl_inv
end
def TbS.ne {tb:Addr}{H:Hp} (h:TbS tb H):H tb≠none:=by
 obtain ⟨ps,e,_⟩:=h;rw [e];exact fun z=>by cases z
def EnvOk.tab {K:Qd}{F H F' H':Hp}{env:Sto}{σ:St}{tb:Addr} (I:EnvOk K ⟨H,H,F⟩ F' H' env σ) (t:TbS tb H) (n:F tb=none):TbS tb H'/\F' tb=none:=by
 refine ⟨t.same I.bh,?_⟩;cases e:F' tb with
 | none=>rfl
 | some o =>
  rcases I.new tb o e with z|z
  ·have z:F tb=some o:=z;rw [n] at z;cases z
  ·exact (t.ne z).elim
def Go.tab {F H F' H':Hp}{tb:Addr} (g:Go F H F' H') (t:TbS tb H) (n:F tb=none):TbS tb H'/\F' tb=none:=by
 refine ⟨t.same g.h,?_⟩;cases e:F' tb with
 | none=>rfl
 | some o =>
  rcases g.new tb o e with z|z
  ·rw [n] at z;cases z
  ·exact (t.ne z).elim
section
variable {P:Zj}{w:World}{K:Qd}{mg:Str->Option Value}{base:Heap}
def Fun.vlawT {x:Str}{st:Stmt}{f tb:Addr}{fd:V4}{N ps:List Str}{k:Nat} (F:Fun K x x st f fd) (S:FnScope N ps (defScope st)) (hp:ps.length=1)
 (hbody : ∀ (cdv:Value) (A:Z4) (outer:List Env) (s:Ql) (H:Hp) (E:XK),Room k (A.deeper (Qcx x (defScope st) s.heap.objs.size f cdv))->TbS tb H -> ∀ (F0:Hp) (σ:St) (ns:List Int),ns.length<=63->F0 tb=none->EnvOk K ⟨H,H,F0⟩ F0 H (qas N [.list (ns.map .int)]) σ ->
 ∃ t,PSs (qot CX0 P w K mg base N x (defScope st) f cdv A outer s H E).nox (defBody st) t/\t lawD σ H):FnOk P w K mg base CX0 (k+1) f fd ps (qrv tb K):=by
  refine F.ok S (fun vs H Q E h=>?_) (fun cdv A outer s H vs Q E hr h=>?_)
  ·obtain ⟨_,a,ns,rfl,_⟩:=h;exact hp.symm
  ·obtain ⟨ts,a,ns,rfl,hS,hlen,kk⟩:=h;have sm:Same (qbb H tb) H:=fun b o e=>by
    unfold qbb at e;split at e
    ·cases e
    ·exact e
   have hS':SqL K (qbb H tb) a (ns.map V.int):=by
    rcases hS with (h|⟨o,h⟩)|h
    ·refine .inl (.inl ?_);unfold qbb;rw [if_neg fun z=>by obtain ⟨ps,e,_⟩:=ts;rw [z,e] at h;cases h];exact h
    ·refine .inl (.inr ⟨o,?_⟩);unfold qbb;rw [if_neg fun z=>by obtain ⟨ps,e,_⟩:=ts;rw [z,e] at h;cases h];exact h
    ·exact .inr h
   have hi:Iss K (qbb H tb) [.list (ns.map .int)] [.ref a]:=qw (qcv hS' (qfp ns)) qQ;obtain ⟨t,ht,hq⟩:=hbody cdv A outer s H E hr ts (qbb H tb) _ ns hlen (by unfold qbb;rw [if_pos rfl]) (qfd (N:=N) sm hi);refine ⟨fun D σ H=>t lawD σ H /\ ∀ H',D.rt (.bl true) H',?_,hq,kk⟩;intro pins s' σ' H' D I hw;refine thn (ht pins s' σ' H' lawD I hw.1) fun fl s2 q=>?_;cases fl with
   | next=>obtain ⟨_,_,_,q⟩:=q;exact q.elim
   | brk=>obtain ⟨_,_,_,q⟩:=q;exact q.elim
   | cont=>obtain ⟨_,_,_,q⟩:=q;exact q.elim
   | ret u =>
    obtain ⟨v,σ2,H2,I2,r2,q⟩:=q;have q:v = .bl true:=q;exact ⟨v,σ2,H2,I2,r2,by rw [q];exact hw.2 H2⟩
end
def zaiv (K:Qd) (c tb:Addr):Bool:=match K.lookup c with
 | some ⟨.type "code",_,.fields vs,_⟩=>vs[11]?==some (.ref tb)
 | _=>false
def tab_in {K:Qd}{tb c0:Addr}{h:Heap} (n:K.lookup tb=none) (q:zaiv K c0 tb=true) (Y:Qd.In ((tb,⟨.none,none,.fields #[],#[]⟩)::K) h):K.In h/\h.TableAt c0 tb #[]:=by
 have kin:K.In h:=fun b o e=>Y b o (by
  rw [Zp];split
  ·rename_i z;rw [eq_of_beq z,n] at e;cases e
  ·exact e)
 refine ⟨kin,?_,Y tb _ (by rw [Zp,beq_self_eq_true])⟩;unfold zaiv at q;split at q
 case h_2=>cases q
 rename_i dd vs sl ho;exact ⟨_,vs,kin _ _ ho,rfl,rfl,by simpa using q⟩
end
section
def qzo {K:Qd}{Wi Wf:WF}{σ:St}{H F F0 H0:Hp}{env:Sto}{ds0:List Qh}{Z:List (List Int)}{R:VK} (I:EnvOk K ⟨H,H,F⟩ F H env σ) (hW:Wi env fun ds e=>ds=ds0) (hz:ds0.length<Q6) (lz:Z.length=ds0.length)
 (he : ∀ (k:Nat) d z,ds0[k]?=some d->Z[k]?=some z->Wf [.val d] fun ys e=>ys=z.map .int) (g0:Go F0 H0 F H) (k : ∀ F' H' ra as,Go F0 H0 F' H'->Same F F'->Same H H'->Nest H0 H' F' ra as Z->R (.ref ra) H'):qpx [] 1 (qjg K Wi) (qpd 0) (qob K Wf) σ H R:=by
  refine ⟨⟨H,H,F⟩,env,F,_,I,hW,fun ds J F1 H1 e1 I1 s1 jt q=>?_⟩;have q:ds=ds0:=q;subst q;refine ⟨fun i m ys σ1 H2=>m=ds.length-i/\i<=ds.length /\ ∃ (as:List Addr) (F2:Hp) (x:Option V),σ1=[x]/\ys=as.map V.ref/\as.length=i/\Same F1 F2/\Same H H2/\Go F0 H0 F2 H2/\(∀ (k:Nat) a z,as[k]?=some a->Z[k]?=some z->OwnL H0 H2 F2 a z) /\ ∀ (i j:Nat) a,as[i]?=some a->as[j]?=some a->i=j,⟨ds.length,by simp,Yc _,[],F1,none,rfl,rfl,rfl,.refl _,I1.goOf.h,g0.trans I1.goOf,fun k a z h=>(by simp at h),fun i j a z=>by simp at z⟩,?_⟩;rintro i m ys σ1 H2 ⟨hm,hi,as,F2,x,rfl,rfl,la,s2,sH,g,ho,nd⟩;have own : ∀ a ∈ as,∃ z,OwnL H0 H2 F2 a z:=fun a ha=>by
   obtain ⟨k,hk⟩:=Jj ha;have hl:=(Qm.mp hk).1;exact ⟨_,ho k a _ hk (Qc (by omega))⟩
  by_cases hl:i=ds.length
  ·subst hl;refine .inl ⟨jt.stop H2 (s2.trans g.fh),by rw [Qf];omega,fun p hp=>?_⟩;have pn:p ∉ as:=fun z=>by
    obtain ⟨_,q⟩:=own p z;have:=q.h;rw [hp] at this;cases this
   refine k F2 _ p as (g.trans (Go.side g.fh hp)) (s1.trans s2) (sH.trans (qcb hp)) ⟨ql,qu g.fh hp,qu g.h hp,by omega,fun k a r h1 h2=>?_,pn,nd⟩;have q:=ho k a r h1 h2;exact q.keep (qi (fun y=>by subst y;exact pn (Qg h1))) q.f
  ·have hlt:i<ds.length:=by omega
   have ez:Z[i]?=some (Z[i]'(by omega)):=Qc _;refine .inr ⟨jt.go i H2 (s2.trans g.fh) hlt,by rw [Qf];omega,fun y σ2 H5 => ∃ (b:Addr) (F5:Hp) (x:Option V),y = .ref b/\σ2=[x]/\Same F2 F5/\Same H H5/\Go F0 H0 F5 H5/\(∀ (k:Nat) a z,as[k]?=some a->Z[k]?=some z->OwnL H0 H5 F5 a z)/\OwnL H0 H5 F5 b (Z[i]'(by omega))/\b ∉ as,?_,fun x H3 hy=>?_⟩
   ·rintro y σ2 H5 ⟨b,F5,x',rfl,rfl,s5,sH5,g5,ho5,ob,bn⟩;have key : ∀ {a:Addr}{i:Nat},(as++[b])[i]?=some a->(i<as.length/\as[i]?=some a)\/(i=as.length/\a=b):=fun {a i} g=>by
     by_cases hi:i<as.length
     ·rw [Zg hi] at g;exact .inl ⟨hi,g⟩
     ·rw [Z5 (by omega)] at g;cases hkk:i-as.length with
      | zero=>rw [hkk] at g;exact .inr ⟨by omega,(Qp g).symm⟩
      | succ m=>rw [hkk] at g;simp at g
    refine ⟨ds.length-(i+1),by omega,rfl,hlt,as++[b],F5,x',rfl,by rw [Zm];rfl,by simp [la],s2.trans s5,sH5,g5,fun k a z g1 g2=>?_,fun i' j' a g1 g2=>?_⟩
    ·rcases key g1 with ⟨a1,a2⟩|⟨a1,a2⟩
     ·exact ho5 k a z a2 g2
     ·subst a2;rw [a1,la,ez] at g2;rw [<- Qp g2];exact ob
    ·rcases key g1 with ⟨a1,a2⟩|⟨a1,a2⟩
     ·rcases key g2 with ⟨b1,b2⟩|⟨b1,b2⟩
      ·exact nd i' j' a a2 b2
      ·subst b2;exact (bn (Qg a2)).elim
     ·rcases key g2 with ⟨b1,b2⟩|⟨b1,b2⟩
      ·subst a2;exact (bn (Qg b2)).elim
      ·omega
   obtain ⟨d,F3,hd,g3,j⟩:=jt.yld i H2 x H3 F2 s2 g.fh hlt hy;have g03:=g.trans g3;refine ⟨⟨H3,H3,F3⟩,[.val d],F3,_,qhw g03.fh ⟨_,_,rfl,⟨⟨x,rfl,j⟩,rfl⟩,rfl⟩,he i d _ hd ez,fun b vs ds' F5 H5 e5 I5 s5 h1 h2 h3 h4 h5 h6 h7=>?_⟩;have h7:ds'=(Z[i]'(by omega)).map .int:=h7;subst h7;have ex:=h6.ints_inv;subst ex;have gI:=I5.goOf;refine ⟨b,F5,some x,rfl,rfl,g3.f.trans s5,sH.trans (g3.h.trans gI.h),g03.trans gI,fun k a z q1 q2=>((ho k a z q1 q2).go g3).go gI,⟨h1,h2,qu g03.h h4⟩,fun y=>?_⟩;obtain ⟨z,q⟩:=own b y;have q:=(q.go g3).h;rw [show H3 b=none from h4] at q;cases q
def zahs {K:Qd}{Wi Wf:WF}{σ:St}{H F:Hp}{env:Sto}{ds0:List Qh}{Z:List (List Int)}{D:Ends}{u:TS}{i n:Nat} (hn:n=1) (I:EnvOk K ⟨H,H,F⟩ F H env σ) (hW:Wi env fun ds e=>ds=ds0) (hz:ds0.length<Q6) (lz:Z.length=ds0.length)
 (he : ∀ (k:Nat) d z,ds0[k]?=some d->Z[k]?=some z->Wf [.val d] fun ys e=>ys=z.map .int) (s:Same F H) (k : ∀ F' H' ra as,Go F H F' H'->Same F F'->Same H H'->Nest H H' F' ra as Z->u D (σ.set i (some (.ref ra))) H'):tSeq (tAsg (qpx [] n (qjg K Wi) (qpd 0) (qob K Wf)) (qpd i)) u D σ H:=by
  subst hn;exact qzo (R:=fun v H1=>qpd i v σ H1 (u D)) I hW hz lz he (Go.refl s) k
section
variable {a:Addr}{F H F1 H1 F2 H2:Hp}
def GoP.trans (x:GoP a F H F1 H1) (y:GoP a F1 H1 F2 H2) (ha:H a≠none):GoP a F H F2 H2:=by
 refine ⟨x.f.trans y.f,fun b o e=>?_,y.fh,fun b o e=>?_,y.fa⟩
 ·unfold qbb at e;split at e
  ·cases e
  ·rename_i z;exact y.h b o (by unfold qbb;rw [if_neg z];exact x.h b o (by unfold qbb;rw [if_neg z];exact e))
 ·rcases y.new b o e with q|q
  ·exact x.new b o q
  ·by_cases z:b=a
   ·subst z;rw [y.fa] at e;cases e
   ·refine .inr ?_;cases e2:H b with
    | none=>rfl
    | some o2 =>
     have:=x.h b o2 (by unfold qbb;rw [if_neg z];exact e2);rw [q] at this;cases this
def GoP.go (x:GoP a F H F1 H1) (y:Go F1 H1 F2 H2) (h1:H1 a≠none):GoP a F H F2 H2:=by
 have fa:F2 a=none:=by
  cases e:F2 a with
  | none=>rfl
  | some o =>
   rcases y.new a o e with q|q
   ·rw [x.fa] at q;cases q
   ·exact (h1 q).elim
 refine ⟨x.f.trans y.f,fun b o e=>y.h b o (x.h b o e),y.fh,fun b o e=>?_,fa⟩;rcases y.new b o e with q|q
 ·exact x.new b o q
 ·by_cases z:b=a
  ·subst z;rw [fa] at e;cases e
  ·refine .inr ?_;cases e2:H b with
   | none=>rfl
   | some o2 =>
    have:=x.h b o2 (by unfold qbb;rw [if_neg z];exact e2);rw [q] at this;cases this
def Nest.goP {H0:Hp}{ra:Addr}{as:List Addr}{R:List (List Int)} (o:Nest H0 H1 F1 ra as R) (g:GoP a F1 H1 F2 H2) (ha:H0 a≠none):Nest H0 H2 F2 ra as R:=by
 have key : ∀ {c:Addr}{xs:List V},H1 c=some (.lst xs)->F1 c=none->H0 c=none->H2 c=H1 c/\F2 c=none:=fun {c xs} h f n=>by
  have ne:c≠a:=fun z=>ha (z ▸ n);refine ⟨by rw [h];exact g.h c _ (by unfold qbb;rw [if_neg ne];exact h),?_⟩;cases e:F2 c with
  | none=>rfl
  | some u =>
   rcases g.new c u e with q|q
   ·rw [f] at q;cases q
   ·rw [h] at q;cases q
 refine o.keep fun c hc=>?_;rcases hc with rfl|hc
 ·exact key o.h o.f o.n
 ·obtain ⟨_,_,_,_,q⟩:=o.get hc;exact key q.h q.f q.n
def Nest.back {H0 H0':Hp}{ra:Addr}{as:List Addr}{R:List (List Int)} (o:Nest H0 H1 F1 ra as R) (h : ∀ c,H0 c=none->H0' c=none):Nest H0' H1 F1 ra as R :=
 ⟨o.h,o.f,h _ o.n,o.l,fun k a r h1 h2=>let q:=o.e k a r h1 h2; ⟨q.h,q.f,h _ q.n⟩,o.ne,o.nd⟩
def GoP.none (g:GoP a F H F1 H1) (ha:H1 a≠none) {c:Addr} (h:H1 c=none):H c=none:=by
 cases e:H c with
 | none=>rfl
 | some o =>
  have ne:c≠a:=fun z=>ha (z ▸ h);have:=g.h c o (by unfold qbb;rw [if_neg ne];exact e);rw [h] at this;cases this
def zahj {K:Qd}{p:List Qh}{x:Option V} (h:SlotOk K ⟨qbb H a,H,F⟩ F1 H1 (.pen p) x):x=some (.ref a):=by
 obtain ⟨b,vs,e,h1,h2,h3,⟨o,h4⟩,_⟩:=h;have h3:qbb H a b=Qka:=h3;have h4:H b=some o:=h4;unfold qbb at h3;split at h3
 ·rename_i z;rw [e,z]
 ·rw [h4] at h3;cases h3
def Nest.goPF {ra:Addr}{as:List Addr}{R:List (List Int)} (o:Nest H H1 F1 ra as R) (g:GoP a F H F1 H1) (ha:H a≠none) (K:Qd):GoP a F H (qyk F1 H1 ra as) H1:=by
 obtain ⟨x,y,_⟩:=o.frz (K:=K) g.fh;have nn : ∀ c,(c=ra\/c ∈ as)->H c=none:=fun c hc=>by
  rcases hc with rfl|hc
  ·exact o.n
  ·obtain ⟨_,_,_,_,q⟩:=o.get hc;exact q.n
 refine ⟨g.f.trans x,g.h,y,fun c u e=>?_,?_⟩
 ·unfold qyk at e;split at e
  ·rename_i z;exact .inr (nn c z)
  ·exact g.new c u e
 ·unfold qyk;rw [if_neg fun z=>ha (nn a z)];exact g.fa
def GoP.put {ra p:Addr}{as:List Addr}{R:List (List Int)}{o2:HO} (g:GoP a F H F1 H1) (o:Nest H H1 F1 ra as R) (hp:p ∈ as):GoP a F H F1 (upd H1 p o2):=by
 obtain ⟨_,_,_,_,q⟩:=o.get hp;refine ⟨g.f,fun b u e=>?_,fun b u e=>?_,g.new,g.fa⟩
 ·rw [qi]
  ·exact g.h b u e
  ·intro z;subst z;unfold qbb at e;split at e
   ·cases e
   ·rw [q.n] at e;cases e
 ·rw [qi (qm e q.f)];exact g.fh b u e
end
end
end L2
def L2.Room.m {j k:Nat}{A:PySem.Around} (r:L2.Room k A) (h:j<=k:=by decide):L2.Room j A:=r.mono h
namespace My
open PySem L2
seal VE VF VA VT VW VS VSs VG VGs VI VO OpV qof qrz VN VFN VST VSsT VEX VSX VSsX
abbrev Sa:Str:="_law_pen_here"
abbrev Sb:Str:="other"
abbrev Sc:Str:="bottom"
abbrev Sd:Str:="place"
abbrev Se:Str:="one"
abbrev Sf:Str:="_law_rows"
abbrev Sg:Str:="glass"
abbrev Sh:Str:="row"
abbrev Si:Str:="rows"
abbrev Sj:Str:="self"
abbrev Sk:Str:="unknowns"
abbrev Sm:Str:="many"
abbrev So:Str:="_law_bottom"
abbrev Sq:Str:="_law_many"
abbrev Sr:Str:="group"
abbrev Ss:Str:="_law_script"
abbrev Su:Str:="_law_row_here"
abbrev Sv:Str:="_law_most"
abbrev Sw:Str:="groups"
abbrev Sx:Str:="common"
abbrev Sy:Str:="sign"
abbrev Sz:Str:="_law_next"
abbrev SA:Str:="sorted_groups"
abbrev SB:Str:="_law_found"
abbrev SC:Str:="_law_width"
abbrev SD:Str:="table_of_shares"
abbrev SE:Str:="sums"
abbrev SF:Str:="_law_other_here"
abbrev SG:Str:="decision"
abbrev SH:Str:="check_alike_stands"
abbrev SI:Str:="pivot"
abbrev SJ:Str:="stands_for"
abbrev SK:Str:="common_divisor"
abbrev SL:Str:="signs"
abbrev SM:Str:="thing"
abbrev SN:Str:="joined_number"
abbrev SO:Str:="joined_column"
abbrev SQ:Str:="line"
abbrev SR:Str:="check_few_signs"
abbrev SS:Str:="_law_numbers"
abbrev ST:Str:="_law_reduced"
abbrev SU:Str:="divisor"
abbrev SV:Str:="joined_numbers"
abbrev SW:Str:="_law_number"
abbrev SX:Str:="dulls"
abbrev SY:Str:="top"
abbrev SZ:Str:="is_tighter"
abbrev S2:Str:="_law_split"
abbrev S3:Str:="_law_table"
abbrev S4:Str:="_law_glass"
abbrev S5:Str:="lines"
abbrev S6:Str:="lowest_table"
abbrev S7:Str:="shown_in_all"
abbrev S8:Str:="check_shares"
abbrev S9:Str:="_law_divisor"
abbrev Ua:Str:="_law_far"
abbrev Ub:Str:="over_bottom"
abbrev Uc:Str:="first_above"
abbrev Ud:Str:="wanted_sums"
abbrev Ue:Str:="_law_turned"
abbrev Uf:Str:="number"
abbrev Ug:Str:="chosen"
abbrev Uh:Str:="numbers"
abbrev Ui:Str:="is_whole"
abbrev Uj:Str:="first_line"
abbrev Uk:Str:="__init__"
abbrev Ul:Str:="tightest"
abbrev Um:Str:="bring_in"
abbrev Uo:Str:="dulling_by"
abbrev Up:Str:="compared"
abbrev Uq:Str:="dulls_into"
abbrev Ur:Str:="_law_mixed"
abbrev Us:Str:="_law_moved"
abbrev Ut:Str:="_law_other"
abbrev Uu:Str:="equations"
abbrev Uv:Str:="_law_some"
abbrev Uw:Str:="_law_made"
abbrev Ux:Str:="divided"
abbrev Uy:Str:="reduced"
abbrev Uz:Str:="weights"
abbrev UA:Str:="Board.is_tighter"
abbrev UB:Str:="flat"
abbrev UC:Str:="wide"
abbrev UD:Str:="in_rows"
abbrev UE:Str:="one_sign"
abbrev UF:Str:="place_of"
abbrev UG:Str:="parts_of"
abbrev UH:Str:="is_share"
abbrev UI:Str:="_law_pen"
abbrev UJ:Str:="_law_row"
abbrev UK:Str:="_law_one"
abbrev UL:Str:="share"
abbrev UM:Str:="total"
abbrev UN:Str:="column"
abbrev UO:Str:="stands"
abbrev UP:Str:="values"
abbrev UQ:Str:="_law_stand"
def top (i:Nat):Stmt:=Qe.main.body.getD i (.Pass ⟨0,0,0,0⟩)
def qbz (s:Stmt) (j:Nat):Stmt:=match s with | .ClassDef _ _ _ body _ _ _ _ _ _ _=>body.getD j (.Pass ⟨0,0,0,0⟩)|s=>s
abbrev qjc:Stmt:=top 7
abbrev qbu:Stmt:=top 14
abbrev qiy:Stmt:=top 16
abbrev qdd:Stmt:=top 15
abbrev qdw:Stmt:=top 18
abbrev qbo:Stmt:=top 17
abbrev qpp:Stmt:=top 20
abbrev qgz:Stmt:=top 22
abbrev qlw:Stmt:=top 21
abbrev qco:Stmt:=top 28
abbrev qcn:Stmt:=top 26
abbrev qai:Stmt:=top 25
abbrev qbw:Stmt:=top 27
abbrev qhk:Stmt:=top 29
abbrev qgs:Stmt:=top 6
abbrev qix:Stmt:=top 9
abbrev qpc:Stmt:=top 8
abbrev qhl:Stmt:=top 30
abbrev qqe:Stmt:=top 24
abbrev qlt:Stmt:=top 19
abbrev qar:Stmt:=top 32
abbrev qdr:Stmt:=top 37
abbrev qlk:Stmt:=top 38
abbrev qep:Stmt:=top 40
abbrev qbx:Stmt:=qbz (top 39) 0
abbrev qew:Stmt:=qbz (top 39) 1
abbrev qbg:Stmt:=qbz (top 39) 4
abbrev qbs:Stmt:=qbz (top 39) 3
abbrev qja:Stmt:=top 41
abbrev qbt:Stmt:=qbz (top 39) 2
abbrev qen:Stmt:=qbz (top 39) 5
abbrev qlm:Stmt:=top 36
abbrev qbm:Stmt:=top 47
abbrev qjd:Stmt:=top 49
abbrev qde:Stmt:=top 50
abbrev qft:Stmt:=top 48
abbrev qdu:Stmt:=top 51
abbrev qhi:Stmt:=top 10
abbrev qdc:Stmt:=top 11
abbrev qps:Stmt:=top 12
abbrev qje:Stmt:=top 53
abbrev qem:Stmt:=top 52
abbrev qgx:Stmt:=top 44
abbrev qev:Stmt:=top 46
abbrev qpv:Stmt:=top 45
abbrev qgq:Stmt:=top 55
abbrev qeo:Stmt:=top 56
abbrev qfv:Stmt:=top 57
abbrev qdb:Stmt:=top 58
abbrev qdf:Stmt:=top 60
abbrev qhg:Stmt:=top 61
abbrev qeu:Stmt:=top 62
abbrev qet:Stmt:=top 63
abbrev qfs:Stmt:=top 64
abbrev qdn:Stmt:=top 65
abbrev qeq:Stmt:=top 66
abbrev qes:Stmt:=top 67
abbrev qnu:Stmt:=top 68
def sc0 {N P:List Str}{sc:Scope} (a:sc.kind = .function:=by rfl) (b:sc.isCoroutine=false:=by rfl) (c:sc.isGenerator=false:=by rfl) (d:N.Nodup:=by decide +kernel) (e:N.take P.length=P:=by rfl) (f : ∀ x ∈ P,sc.names.lookup x=some .local\/sc.names.lookup x=some .cell:=by decide +kernel) (g : ∀ y ∈ sc.names,y.2 ≠ .free:=by decide +kernel):FnScope N P sc:=⟨a,b,c,d,e,f,g⟩
def pv {X:Cx} (i:Nat) {x:Str}{pos:Pos} (hN:X.N[i]?=some x:=by rfl) (hv:Vis X.env.scope x:=by first|exact Yy rfl|exact Z6 (Yy rfl)|exact Z6 (Z6 rfl)) (hd:Nd0 x:=by decide) (hc:Nd1 x:=by decide):PE X (.Name x pos) (qvj i):=qcx hN hv hd hc
structure Cs where
 Board:Addr
 tb:Addr
 c0:Addr
 bm:Addr
structure Txt (K:Qd) (mg:Str->Option Value) (cs:Cs):Prop where
 Board_:mg "Board" = some (.ref cs.Board)
 Board_c:Cls K cs.Board
 Board_mk:Qdo K cs.Board=true
 Board_kp:Yw K (.ref cs.Board)=true
 Board_n_bottom:NoAttr K cs.Board Sc
 Board_n_lines:NoAttr K cs.Board S5
 Board_n_stands_for:NoAttr K cs.Board SJ
 Board_n_unknowns:NoAttr K cs.Board Sk
 tab_h:zaes K cs.c0 cs.tb=true
 bm_h:blIn K cs.bm cs.tb=true
 bm_:mg "__builtins__" = some (.ref cs.bm)
 abs_:mg "abs" = none
 any_:mg "any" = none
 bool_:mg "bool" = none
 enumerate_:mg "enumerate" = none
 int_:mg "int" = none
 isinstance_:mg "isinstance" = none
 len_:mg "len" = none
 list_:mg "list" = none
 range_:mg "range" = none
 sorted_:mg "sorted" = none
 sum_:mg "sum" = none
 tuple_:mg "tuple" = none
 zip_:mg "zip" = none
 MOST_COMPARED_ : ∃ t,mg "MOST_COMPARED" = some (.int 4 t)
 MOST_ROWS_ : ∃ t,mg "MOST_ROWS" = some (.int 24 t)
 MOST_UNKNOWNS_ : ∃ t,mg "MOST_UNKNOWNS" = some (.int 20 t)
section
variable {P:Zj}{w:World}{K:Qd}{mg:Str->Option Value}{base:Heap}{cs:Cs}
def qxz {a b:Int}{g:Nat} (h0:0<=a) (hb:0<=b) (h1:b≠0) (h:Qaf a.toNat b.toNat=g) :
 0<=a%b/\a%b<b/\Qaf b.toNat (a%b).toNat=g:=by
  have hp:0<b:=by omega
  have e1:=Qbw a h1;have e2:=Qah a hp;refine ⟨e1,e2,?_⟩;have e3:(a%b).toNat=a.toNat%b.toNat:=by
   have:((a.toNat%b.toNat:Nat):Int)=a%b:=by
    rw [Qjp,V9 h0,V9 hb]
   rw [<- this];rfl
  rw [e3,<- h,Qjd b.toNat,Qjd a.toNat];exact (Nat.gcd_rec _ _).symm
def zabr {a:Int}{b:Int}{g:Nat} (h0:0<=a) (h1:b=0) (h:Qaf a.toNat b.toNat=g):a=(g:Int):=by
 subst h1;rw [<- h];have:Qaf a.toNat (Qke 0)=a.toNat:=Qih _;rw [this];omega
def zadx (a b:Int):Qaf (if a<0 then -a else a).toNat (if b<0 then -b else b).toNat=Yq a b:=by
 have e : ∀ x:Int,(if x<0 then -x else x).toNat=x.natAbs:=fun x=>by split <;> omega
 rw [e,e];rfl
structure Shr (p q:Int):Prop where
 pos:1<=q
 gcd:Yq p q=1
def cm (t b:Int):Int:=if b<0 then -(Yq t b:Int) else (Yq t b:Int)
def shT (t b:Int):Int:=t.fdiv (cm t b)
def shB (t b:Int):Int:=b.fdiv (cm t b)
def zabz {t b:Int} (hb:b≠0):0<Yq t b:=Qdj t hb
def zaoe {t b:Int} (hb:b≠0):cm t b≠0:=by
 have:=zabz (t:=t) hb;unfold cm;split <;> omega
def zahe (t b:Int):cm t b∣t:=by
 have h:(Yq t b:Int)∣t:=Qjq ..;unfold cm;split
 ·exact Int.neg_dvd.mpr h
 ·exact h
def zahi (t b:Int):cm t b∣b:=by
 have h:(Yq t b:Int)∣b:=Qiv ..;unfold cm;split
 ·exact Int.neg_dvd.mpr h
 ·exact h
def qng {c t:Int} (h:c∣t):c*(t.fdiv c)=t:=Int.mul_fdiv_cancel' h
def zamu (t b:Int):cm t b*shT t b=t:=qng (zahe t b)
def qjs (t b:Int):cm t b*shB t b=b:=qng (zahi t b)
def qsu (t b:Int):(cm t b).natAbs=Yq t b:=by unfold cm;split <;> omega
def qvv {t b:Int} (hb:b≠0):Shr (shT t b) (shB t b)/\shT t b*b=t*shB t b:=by
 have h1:=zamu t b;have h2:=qjs t b;have hc:=zaoe (t:=t) hb;have hg:=zabz (t:=t) hb;refine ⟨⟨?_,?_⟩,?_⟩
 ·by_cases hn:b<0
  ·have hcn:cm t b<0:=by unfold cm;rw [if_pos hn];omega
   have:0<shB t b:=by
    rcases Qbm 0 (shB t b) with h|h
    ·exact h
    ·have:=Jb (Vu hcn) h;omega
   omega
  ·have hcn:0<cm t b:=by unfold cm;rw [if_neg hn];omega
   have hbp:0<b:=by omega
   have:0<shB t b:=by
    rcases Qbm 0 (shB t b) with h|h
    ·exact h
    ·have:=Qbp (Vu hcn) h;omega
   omega
 ·have e:Yq (cm t b*shT t b) (cm t b*shB t b)=(cm t b).natAbs*Yq (shT t b) (shB t b):=Qjr ..;rw [h1,h2,qsu] at e;have e2:Yq t b*1=Yq t b*Yq (shT t b) (shB t b):=by omega
  exact (Qbb hg e2).symm
 ·have e:shT t b*(cm t b*shB t b)=(cm t b*shT t b)*shB t b:=by
   rw [<- Qat,Zu (shT t b)]
  rw [h2,h1] at e;exact e
def zamz {k m n:Int} (h:Yq m k=1) (e:k∣m*n):k∣n:=by
 have e':k.natAbs∣m.natAbs*n.natAbs:=by rw [<- Qep];exact Vb.mpr e
 have c:Nat.Coprime k.natAbs m.natAbs:=by
  show Qaf k.natAbs m.natAbs=1;rw [Qjd];exact h
 exact Vb.mp (c.dvd_of_dvd_mul_left e')
def qcr:DC
 | [.int a,.int b],q=>q (.int (Yq a b))
 | _,_=>False
def zajp (x:Int):0<=(if x<0 then -x else x):=by split <;> omega
def qds:FnScope [Se,Sb,"rest"] [Se,Sb] (defScope qjc):=sc0
def qys (F:Def K mg SU qjc [Se,Sb]) (T:Txt K mg cs)
 : Ok P w K mg base SU 1 [Se,Sb] (PSp K qcr):=by
  refine F.vok qds (fun ds q h=>by unfold qcr at h;split at h;all_goals first|rfl|exact h.elim) fun f cdv A outer s H E hr ds q h=>?_
  match ds,h with
  | [.int a,.int b],h =>
  refine ⟨_,(qg (qt (i:=0) qds.nd (qx zajr T.abs_ L2.boot_abs (qd (qc 0) qe)))
   (qg (qt (i:=1) qds.nd (qx zajr T.abs_ L2.boot_abs (qd (qc 1) qe)))
   (qg (qxb (qK (o_ne hr.units) (qc 1) qf) (qg (qt (i:=2) qds.nd (qy qiu (qc 0) (qc 1)))
   (qg (qt (i:=0) qds.nd (qc 1))
   (qj (qt (i:=1) qds.nd (qc 2))))))
   (qj (qC (qc 0)))))),?_⟩
  refine ⟨fun m e => ∃ x y r,e=[.val (.int x),.val (.int y),r]/\0<=x/\0<=y/\Qaf x.toNat y.toNat=Yq a b/\m=y.toNat,⟨_,_,_,_,rfl,zajp a,zajp b,zadx a b,rfl⟩,?_⟩;rintro m e ⟨x,y,r,rfl,hx,hy,hg,rfl⟩;refine ⟨rfl,rfl,zajh (fun hne=>?_) (fun he=>?_)⟩
  ·obtain ⟨t1,t2,t3⟩:=qxz hx hy hne hg;exact ⟨by omega,(x%y).toNat,by omega,y,x%y,_,rfl,hy,t1,t3,rfl⟩
  ·subst he;have:=zabr hx rfl hg;rw [this];exact h
open Builtin.Int (intBits)
def zalj {t b:Int}{m:Nat} (hb:b≠0) (h:intBits b<=m):intBits (cm t b)<=m:=by
 refine Y0 ?_ h;rw [qsu];exact Qau (by omega) (Nat.gcd_dvd_right t.natAbs b.natAbs)
def qim {t b:Int}{m:Nat} (h:intBits t<=m):intBits (shT t b)<=m:=intBits_fdiv_le h
def zaif {t b:Int}{m:Nat} (h:intBits b<=m):intBits (shB t b)<=m:=intBits_fdiv_le h
def qqh {a b:Int} (ha:intBits a<=4000) (hb:intBits b<=4000):IntMulOk a b :=.of_le ha hb (by decide)
def qA {x:Int}{m n:Nat} (h:intBits x<=m) (e:m<=n):intBits x<=n:=Zk h e
def qbl {x:Int} (h1 : -(2^64)<x) (h2:x<2^64):intBits x<=64:=intBits_le_64 h1 h2
def qmo {zs:List Int}{i:Nat}{z:Int} (h:zs[i]?=some z):zs.take (i+1)=zs.take i++[z]:=by
 rw [Yf,h];rfl
def qbe {zs:List Int}{i:Nat}{x:Qh} (h:(zs.map Q3)[i]?=some x) : ∃ z,x = .int z/\zs[i]?=some z/\z ∈ zs:=by
 rw [Qa] at h;cases e:zs[i]? with
 | none=>rw [e] at h;cases h
 | some z =>
  rw [e] at h;exact ⟨z,(Qp h).symm,rfl,Qg e⟩
structure Tab (b:Int) (R:List (List Int)) (n:Nat):Prop where
 pos:1<=b
 len : ∀ r ∈ R,r.length=n
 nn : ∀ r ∈ R,∀ x ∈ r,0<=x
 sum : ∀ r ∈ R,r.sum=b
def qag (r:List Int):Qh :=.list (r.map .int)
def qei (r:List Int):Qh :=.tuple (r.map .int)
def qfi {α:Type}{l:List α}{i:Nat}{x:α} (h:l[i]?=some x):x ∈ l:=Qg h
def qee {n:Nat} (h:n<=1000):n<=Q6:=Y8 (qo h)
def qbq {α:Type} (y:α) (l:List α):atI (y::l) 0=some y:=qaf (j:=0) rfl
def zano {α:Type}{l:List α}{i:Int}{x:α} (h0:0<=i) (h:l[i.toNat]?=some x):atI l i=some x:=by
 have:=qaf h
 rwa [V9 h0] at this
def iteB {c:Bool}{A B:Prop} (h1:c=true->A) (h2:c=false->B):if c=true then A else B:=by
 cases c with
 | true=>exact qzp (h1 rfl)
 | false=>exact qyy (h2 rfl)
def qat (R:List (List Int)):Qh :=.list (R.map qag)
def zais : ∀ {r:List Int},(∀ n ∈ r,0<=n)->0<=r.sum
 | [],_=>by simp
 | n::r,h=>by
  rw [Za];have a:=h n (by simp);have b:=zais fun m hm=>h m (Qu _ hm);omega
def qfm : ∀ {r:List Int}{x:Int},(∀ n ∈ r,0<=n)->x ∈ r->x<=r.sum
 | n::r,x,h,hx=>by
  rw [Za];have a:=h n (by simp);have b:=zais fun m hm=>h m (Qu _ hm);rcases Q5.mp hx with rfl|hx
  ·omega
  ·have:=qfm (fun m hm=>h m (Qu _ hm)) hx;omega
def Tab.le {b:Int}{R:List (List Int)}{n:Nat}{r:List Int}{x:Int} (h:Tab b R n) (hr:r ∈ R) (hx:x ∈ r):0<=x/\x<=b :=
 ⟨h.nn r hr x hx,h.sum r hr ▸ qfm (h.nn r hr) hx⟩
def iteY {b:Bool}{A B:Prop} (h:b=true) (k:A):if b=true then A else B:=by rw [h];exact qzp k
def iteZ {b:Bool}{A B:Prop} (h:b=false) (k:B):if b=true then A else B:=by rw [h];exact qyy k
def qR (g:Nat) (r:List Int):Nat:=r.foldl (fun (g:Nat) (n:Int)=>Yq g n) g
def qac (R:List (List Int)):Nat:=R.foldl qR 0
def qgp : ∀ (r:List Int) (g:Nat),qR g r∣g
 | [],g=>Nat.dvd_refl _
 | n::r,g=>Qlb (qgp r (Yq g n)) (by have:=Int.gcd_dvd_natAbs_left (g:Int) n;simpa using this)
def qef : ∀ (r:List Int) (g:Nat),∀ n ∈ r,(qR g r:Int)∣n
 | m::r,g,n,h=>by
  rcases Q5.mp h with rfl|h
  ·exact Vs (J5.mpr (qgp r (Yq g n))) (Qiv ..)
  ·exact qef r (Yq g m) n h
def qjm : ∀ (R:List (List Int)) (g:Nat),R.foldl qR g∣g
 | [],g=>Nat.dvd_refl _
 | r::R,g=>Qlb (qjm R (qR g r)) (qgp r g)
def qta : ∀ (R:List (List Int)) (g:Nat),∀ r ∈ R,∀ n ∈ r,((R.foldl qR g:Nat):Int)∣n
 | s::R,g,r,h,n,hn=>by
  rcases Q5.mp h with rfl|h
  ·exact Vs (J5.mpr (qjm R (qR g r))) (qef r g n hn)
  ·exact qta R (qR g s) r h n hn
def qgm {R:List (List Int)}{r:List Int}{n:Int} (h:r ∈ R) (hn:n ∈ r):(qac R:Int)∣n:=qta R 0 r h n hn
def qgn (k:Nat) : ∀ (r:List Int) (g:Nat),qR (k*g) (r.map fun n=>(k:Int)*n)=k*qR g r
 | [],g=>rfl
 | n::r,g=>by
  have e:Yq ((k*g:Nat):Int) ((k:Int)*n)=k*Yq g n:=by
   rw [Qal,Qjr];rfl
  show qR (Yq ((k*g:Nat):Int) ((k:Int)*n)) (r.map fun n=>(k:Int)*n)=_;rw [e];exact qgn k r (Yq g n)
def qsn (k:Nat) : ∀ (R:List (List Int)) (g:Nat),(R.map fun r=>r.map fun n=>(k:Int)*n).foldl qR (k*g)=k*R.foldl qR g
 | [],g=>rfl
 | r::R,g=>by
  show (R.map fun r=>r.map fun n=>(k:Int)*n).foldl qR (qR (k*g) (r.map fun n=>(k:Int)*n))=_;rw [qgn];exact qsn k R (qR g r)
def qxk (k:Nat) (R:List (List Int)):qac (R.map fun r=>r.map fun n=>(k:Int)*n)=k*qac R:=qsn k R 0
def qdi (R:List (List Int)) (g:Int):List (List Int):=R.map fun r=>r.map fun n=>n/g
def qeb {α:Type}{f:α->α} : ∀ {l:List α},(∀ x ∈ l,f x=x)->l.map f=l
 | [],_=>rfl
 | x::l,h=>by rw [Q2,h x (by simp),qeb fun y hy=>h y (Qu _ hy)]
def zagd {R:List (List Int)}:(qdi R (qac R)).map (fun r=>r.map fun n=>(qac R:Int)*n)=R:=by
 unfold qdi;rw [Zy];refine qeb fun r hr=>?_;show (r.map fun n=>n/(qac R:Int)).map (fun n=>(qac R:Int)*n)=r;rw [Zy];exact qeb fun n hn=>Yb (qgm hr hn)
def zagi {R:List (List Int)} (h:0<qac R):qac (qdi R (qac R))=1:=by
 have e:=qxk (qac R) (qdi R (qac R));rw [zagd] at e;have e2:qac R*1=qac R*qac (qdi R (qac R)):=by omega
 exact (Qbb h e2).symm
def qyl : ∀ {r:List Int},(∀ n ∈ r,n=0)->r.sum=0
 | [],_=>rfl
 | n::r,h=>by rw [Za,h n (by simp),qyl fun m hm=>h m (Qu _ hm)];rfl
def Tab.gpos {b:Int}{R:List (List Int)}{n:Nat} (h:Tab b R n) (hR:R≠[]):0<qac R:=by
 rcases Qbx (qac R) with e|e
 ·exfalso;obtain ⟨r,R',rfl⟩:=Qt hR;have h1:=h.sum r (by simp);have h2 : ∀ m ∈ r,m=0:=fun m hm=>by
   have:=qgm (R:=r::R') (by simp) hm;rw [e] at this;exact Int.zero_dvd.mp this
  rw [qyl h2] at h1;have:=h.pos;omega
 ·exact e
def zabv {g:Int} : ∀ {r:List Int},(∀ n ∈ r,g∣n)->g∣r.sum
 | [],_=>by simp
 | n::r,h=>by rw [Za];exact Int.dvd_add (h n (by simp)) (zabv fun m hm=>h m (Qu _ hm))
def Tab.gdvd {b:Int}{R:List (List Int)}{n:Nat} (h:Tab b R n) (hR:R≠[]):(qac R:Int)∣b:=by
 obtain ⟨r,R',rfl⟩:=Qt hR;rw [<- h.sum r (by simp)];exact zabv fun m hm=>qgm (by simp) hm
def zabw {g:Int} : ∀ {r:List Int},(∀ n ∈ r,g∣n)->(r.map fun n=>n/g).sum=r.sum/g
 | [],_=>by simp
 | n::r,h=>by
  rw [Q2,Za,Za,zabw fun m hm=>h m (Qu _ hm)];exact (Int.add_ediv_of_dvd_left (h n (by simp))).symm
def Tab.low {b:Int}{R:List (List Int)}{n:Nat} (h:Tab b R n) (hR:R≠[]):Tab (b/qac R) (qdi R (qac R)) n:=by
 have hp:=h.gpos hR;have hd:=h.gdvd hR;have hb:=h.pos;have hgb:(qac R:Int)<=b:=Qlc (by omega) hd;refine ⟨?_,?_,?_,?_⟩
 ·exact (Int.le_ediv_iff_mul_le (by omega)).mpr (by omega)
 ·intro r hr;obtain ⟨s,hs,rfl⟩:=Qk.mp hr;rw [Qf];exact h.len s hs
 ·intro r hr x hx;obtain ⟨s,hs,rfl⟩:=Qk.mp hr;obtain ⟨y,hy,rfl⟩:=Qk.mp hx;exact Qgk (h.nn s hs y hy) (by omega)
 ·intro r hr;obtain ⟨s,hs,rfl⟩:=Qk.mp hr;rw [zabw fun m hm=>qgm hs hm,h.sum s hs]
def qmr (g:Nat) (r:List Int) (n:Int):qR g (r++[n])=Yq (qR g r) n:=by unfold qR;rw [Qiw];rfl
def qyr (R:List (List Int)) (r:List Int):qac (R++[r])=qR (qac R) r:=by unfold qac;rw [Qiw];rfl
def RowsD (d:Qh) (R:List (List Int)):Prop := ∃ l,qea d=some l/\l.map (fun x=>(qea x).getD [])=R.map (fun r=>r.map Q3) /\ ∀ x ∈ l,(qea x).isSome=true
def RowsD.len {d:Qh}{R:List (List Int)}{l:List Qh} (h:RowsD d R) (e:qea d=some l):l.length=R.length:=by
 obtain ⟨m,e',h1,_⟩:=h;rw [e] at e';cases e';have:=congrArg Qjz h1;simpa using this
def RowsD.get {d:Qh}{R:List (List Int)}{l:List Qh}{i:Nat}{x:Qh} (h:RowsD d R) (e:qea d=some l) (hx:l[i]?=some x) : ∃ r,R[i]?=some r/\qea x=some (r.map .int):=by
 obtain ⟨m,e',h1,h2⟩:=h;rw [e] at e';cases e';have h3:(l.map fun x=>(qea x).getD [])[i]?=some ((qea x).getD []):=by rw [Qa,hx];rfl
 rw [h1,Qa] at h3;obtain ⟨y,hy⟩:=Jm.mp (h2 x (Qg hx));cases q:R[i]? with
 | none=>rw [q] at h3;cases h3
 | some r =>
  rw [q] at h3;refine ⟨r,rfl,?_⟩;rw [hy] at h3 ⊢;exact h3.symm
def RowsD.of {d:Qh}{R:List (List Int)}{f:List Qh->Qh} (hf : ∀ l,qea (f l)=some l) (e:qea d=some (R.map fun r=>f (r.map .int))):RowsD d R:=by
 refine ⟨_,e,?_,?_⟩
 ·rw [Zy];refine Z9 fun r _=>?_;simp [hf]
 ·intro x hx;obtain ⟨r,_,rfl⟩:=Qk.mp hx;simp [hf]
def qaa (b:Int) (R:List (List Int)):Qh :=.tuple [.int b,.tuple (R.map qei)]
def qsy (R:List (List Int)):RowsD (.tuple (R.map qei)) R:=RowsD.of (f :=.tuple) (fun _=>rfl) rfl
def qtr (R:List (List Int)):RowsD (.list (R.map qag)) R:=RowsD.of (f :=.list) (fun _=>rfl) rfl
def qda (ds:List Qh) (q:Qh->Prop):Prop := ∃ d R,ds=[d]/\RowsD d R/\q (.int (qac R))
def qav:FnScope [Si,Sx,Sh,Uf] [Si] (defScope qbu):=sc0
def qkp (F:Def K mg SK qbu [Si]) (T:Txt K mg cs)
 (O_divisor:Ok P w K mg base SU 1 [Se,Sb] (PSp K qcr))
 : Ok P w K mg base SK 2 [Si] (PSp K qda):=by
  refine F.vok qav (by rintro ds q ⟨_,_,h,_⟩;rw [h];rfl) fun f cdv A outer s H E hr ds q h=>?_;obtain ⟨d,R,rfl,hR,h⟩:=h;refine ⟨_,(qg (qt (i:=1) qav.nd qf)
   (qg (qby rfl (qY (qc 0)) (qp (i:=2) qav.nd) (qj (qby rfl (qY (qc 2)) (qp (i:=3) qav.nd) (qj (qt (i:=1) qav.nd (qB O_divisor hr.m (qd (qc 1) (qd (qc 3) qe))))))))
   (qj (qC (qc 1))))),?_⟩
  obtain ⟨l,e,_⟩:=id hR;refine qca e ⟨fun i e => ∃ t1 t2 c,e=[.val d,.val (.int c),t1,t2]/\c=(qac (R.take i):Int),⟨_,_,_,rfl,rfl⟩,?_,?_⟩
  ·rintro i x e' hx ⟨t1,t2,_,rfl,rfl⟩;obtain ⟨r,hr,er⟩:=hR.get e hx;refine qca er ⟨fun j e => ∃ t2 c,e=[.val d,.val (.int c),.val x,t2]/\c=(qR (qac (R.take i)) (r.take j):Int),⟨_,_,rfl,rfl⟩,?_,?_⟩
   ·rintro j y e hy ⟨t2,_,rfl,rfl⟩;obtain ⟨z,rfl,hz,_⟩:=qbe hy;refine ⟨_,_,rfl,?_⟩;rw [qmo hz,qmr]
   ·rintro e ⟨t2,_,rfl,rfl⟩;refine ⟨_,_,_,rfl,?_⟩;rw [Qf,Zq,Yf,hr];show _=((qac (R.take i++[r]):Nat):Int);rw [qyr]
  ·rintro e' ⟨t1,t2,_,rfl,rfl⟩;rw [hR.len e,Zq];exact h
def qkg (ds:List Qh) (q:Qh->Prop):Prop := ∃ (d:Qh) (r:List Int) (g:Int),ds=[d,.int g]/\(qea d=some (r.map .int)/\r.length<=900/\0<g/\intBits g<=9000)/\q (qei (r.map fun n=>n/g))
def zaaf:FnScope [Sh,Sx] [Sh,Sx] (defScope qiy):=sc0
def qyq (F:Def K mg Ux qiy [Sh,Sx]) (T:Txt K mg cs)
 : Ok P w K mg base Ux 1 [Sh,Sx] (qsi K qkg):=by
  refine F.vokN zaaf (by rintro ds q ⟨_,_,_,h,_⟩;rw [h];rfl) fun f cdv A outer s H E hr ds q h=>?_;obtain ⟨d,r,g,rfl,⟨e,hl,g0,g1⟩,h⟩:=h;refine ⟨_,(qj (zakm (zamy T.tuple_ (qV (qN (caps:=[Sx]) (own:=[Uf]) (ix:=[1]) rfl ⟨rfl,rfl,rfl,rfl,rfl,rfl⟩ (qY (qc 0)) (fun _ _ _ _=>(qp (i:=1) (show Ze ([Sx,Uf]:List Str) by decide))) (fun _ _ _ _=>(qy qgu (qc 1) (qc 0)))))))),?_⟩;refine qca e (qO ((r.map fun n=>n/g).map .int) (by simp) (qo (by simp;omega)) (fun e => ∃ s,e=[.val (.int g),s]) ⟨_,rfl⟩ ?_ ?_)
  ·rintro i x ys e hx hys ⟨s,rfl⟩;obtain ⟨z,rfl,hz,_⟩:=qbe hx;refine ⟨⟨g0,g1⟩,qq ?_ hys,_,rfl⟩;rw [Qa,Qa,hz];rfl
  ·exact ⟨Y5.mpr fun x hx=>by obtain ⟨n,_,rfl⟩:=Qk.mp hx;rfl,_,rfl,h⟩
def qhe (ds:List Qh) (q:Qh->Prop):Prop := ∃ (b:Int) (d:Qh) (R:List (List Int)) (n:Nat),ds=[.int b,d]/\(RowsD d R/\Tab b R n/\R≠[]/\R.length<=900/\n<=900/\intBits b<=9000)/\q (qaa (b/qac R) (qdi R (qac R)))
def zage {g b:Int}{m:Nat} (hb:0<b) (h:g∣b) (hz:intBits b<=m):intBits g<=m:=by
 refine Y0 ?_ hz;exact Qau (by omega) (Vb.mpr h)
def qhj:FnScope [Sc,Si,Sx] [Sc,Si] (defScope qdd):=sc0
def qnw (F:Def K mg S6 qdd [Sc,Si]) (T:Txt K mg cs)
 (O_common_divisor:Ok P w K mg base SK 2 [Si] (PSp K qda))
 (O_divided:Ok P w K mg base Ux 1 [Sh,Sx] (qsi K qkg))
 : Ok P w K mg base S6 3 [Sc,Si] (PSp K qhe):=by
  refine F.vok qhj (by rintro ds q ⟨_,_,_,_,h,_⟩;rw [h];rfl) fun f cdv A outer s H E hr ds q h=>?_;obtain ⟨b,d,R,n,rfl,⟨hR,hT,hn,hl,hn2,hz⟩,h⟩:=h;refine ⟨_,(qg (qt (i:=2) qhj.nd (qB O_common_divisor hr.m (qd (qc 1) qe)))
   (qj (qC (qjt (qd (qy qgu (qc 0) (qc 2)) (qd (qbp qfg T.tuple_ L2.boot_tuple (qd (qV (qN (caps:=[Sx]) (own:=[Sh]) (ix:=[2]) rfl ⟨rfl,rfl,rfl,rfl,rfl,rfl⟩ (qY (qc 1)) (fun _ _ _ _=>(qp (i:=1) (show Ze ([Sx,Sh]:List Str) by decide))) (fun _ _ _ _=>(vn_e (zaof O_divided hr.m (qd (qc 1) (qd (qc 0) qe))))))) qe)) qe)))))),?_⟩
  have g0:=hT.gpos hn;have g1:intBits (qac R:Int)<=9000:=zage (by have:=hT.pos;omega) (hT.gdvd hn) hz;refine ⟨d,R,rfl,hR,⟨by omega,g1⟩,?_⟩;obtain ⟨l,e,_⟩:=id hR;refine qca e (qO ((qdi R (qac R)).map qei) (by unfold qdi;simp [hR.len e]) (qo (by unfold qdi;simp;omega)) (fun e => ∃ s,e=[.val (.int (qac R)),s]) ⟨_,rfl⟩ ?_ ⟨szl,h⟩);rintro i x ys e' hx hys ⟨s,rfl⟩;obtain ⟨r,hr,er⟩:=hR.get e hx;refine ⟨x,r,qac R,rfl,⟨er,by rw [hT.len r (qfi hr)];exact hn2,by omega,g1⟩,qq ?_ hys,_,rfl⟩;unfold qdi;rw [Qa,Qa,hr];rfl
def bFs (n d:Int) (Ls:List (List Int)) (ss:List Int):List (Str×Qh):=[(Sk,.int n),(Sc,.int d),(S5,.list (Ls.map qag)),(SJ,.list (ss.map .int))]
def bNm:List Str:=[Sk,Sc,S5,SJ]
def at2 (Ls:List (List Int)) (k j:Nat):Int:=(((Ls[k]?).getD [])[j]?).getD 0
structure Bd (m w:Nat) (Ls:List (List Int)) (ss:List Int):Prop where
 l:Ls.length=m
 s:ss.length=m
 w : ∀ r ∈ Ls,r.length=w
 z : ∀ r ∈ Ls,∀ x ∈ r,intBits x<=2000
def Bd.row {m w:Nat}{Ls:List (List Int)}{ss:List Int} (h:Bd m w Ls ss) {k:Int} (h0:0<=k) (h1:k<m) : ∃ r,Ls[k.toNat]?=some r/\atI (Ls.map qag) k=some (qag r)/\r.length=w:=by
 have hl:=h.l;have e:Ls[k.toNat]?=some (Ls[k.toNat]'(by omega)):=Qc _;exact ⟨_,e,zano h0 (by rw [Qa,e];rfl),h.w _ (Qg e)⟩
def Bd.at {m w:Nat}{Ls:List (List Int)}{ss:List Int} (h:Bd m w Ls ss) {k j:Nat}{r:List Int} (hr:Ls[k]?=some r) (hj:j<w):r[j]?=some (at2 Ls k j)/\intBits (at2 Ls k j)<=2000:=by
 have hl:=h.w r (Qg hr);have e:r[j]?=some (r[j]'(by omega)):=Qc _;have e2:at2 Ls k j=r[j]'(by omega):=by unfold at2;rw [hr];show (r[j]?).getD 0=_;rw [e];rfl
 rw [e2];exact ⟨e,h.z r (Qg hr) _ (Q7 _)⟩
def zaiy {l:Nat}{j:Int} (h0:0<=j) (h:j<l):ixN l j=some j.toNat:=by
 unfold ixN;rw [if_pos h0,if_pos h]
def atI_last {α:Type}{l:List α}{x:α} (h:l[l.length-1]?=some x):atI l (-1)=some x:=by
 have h0:0<l.length:=by
  rcases Qbx l.length with e|e
  ·rw [Qo (by omega)] at h;cases h
  ·exact e
 unfold atI ixN;rw [if_neg (by decide),if_pos (by omega)];show l[(-1+(l.length:Int)).toNat]?=some x;rw [show (-1+(l.length:Int)).toNat=l.length-1 by omega];exact h
def qhu (Ls:List (List Int)) (ss:List Int) (w k c p:Nat):Bool :=
 decide (at2 Ls k (w-1)*at2 Ls c p<at2 Ls c (w-1)*at2 Ls k p)||(decide (at2 Ls k (w-1)*at2 Ls c p=at2 Ls c (w-1)*at2 Ls k p)&&decide ((ss[k]?).getD 0<(ss[c]?).getD 0))
def Tg (Ls:List (List Int)) (ss:List Int) (w p i r:Nat):Prop:=0<at2 Ls r p /\ ∀ k,k<i->0<at2 Ls k p ->
 at2 Ls r (w-1)*at2 Ls k p<=at2 Ls k (w-1)*at2 Ls r p/\(at2 Ls r (w-1)*at2 Ls k p=at2 Ls k (w-1)*at2 Ls r p->(ss[r]?).getD 0<=(ss[k]?).getD 0)
section
variable {Ls:List (List Int)}{ss:List Int}{w p i r:Nat}
def Tg.skip (h:Tg Ls ss w p i r) (hn : ¬ 0<at2 Ls i p):Tg Ls ss w p (i+1) r:=⟨h.1,fun k hk hp=>by
 by_cases e:k=i
 ·subst e;exact (hn hp).elim
 ·exact h.2 k (by omega) hp⟩
def Tg.stay (h:Tg Ls ss w p i r) (ht:qhu Ls ss w i r p=false):Tg Ls ss w p (i+1) r:=⟨h.1,fun k hk hp=>by
 by_cases e:k=i
 ·subst e;unfold qhu at ht;rw [Qhh,Bool.and_eq_false_iff,decide_eq_false_iff_not,decide_eq_false_iff_not,decide_eq_false_iff_not] at ht;refine ⟨by omega,fun e=>?_⟩;rcases ht.2 with z|z
  ·exact (z e.symm).elim
  ·omega
 ·exact h.2 k (by omega) hp⟩
def Tg.first (hn : ∀ k,k<i -> ¬ 0<at2 Ls k p) (hp:0<at2 Ls i p):Tg Ls ss w p (i+1) i:=⟨hp,fun k hk hp'=>by
 by_cases e:k=i
 ·subst e;exact ⟨Yk _,fun _=>Yk _⟩
 ·exact (hn k (by omega) hp').elim⟩
def Tg.take (h:Tg Ls ss w p i r) (hp:0<at2 Ls i p) (ht:qhu Ls ss w i r p=true):Tg Ls ss w p (i+1) i:=⟨hp,fun k hk hk'=>by
 by_cases e:k=i
 ·subst e;exact ⟨Yk _,fun _=>Yk _⟩
 ·obtain ⟨a,b⟩:=h.2 k (by omega) hk';have hr:=h.1;unfold qhu at ht;rw [Bool.or_eq_true,Ym,decide_eq_true_eq,decide_eq_true_eq,decide_eq_true_eq] at ht;generalize at2 Ls k p=ak at *;generalize at2 Ls i p=ai at *;generalize at2 Ls r p=ar at *;generalize at2 Ls k (w-1)=sk at *;generalize at2 Ls i (w-1)=si at *;generalize at2 Ls r (w-1)=sr at *;have c1:si*ar<=sr*ai:=by omega
  have d1:(si*ar)*ak<=(sr*ai)*ak:=Jx c1 (by omega);have d2:(sr*ak)*ai<=(sk*ar)*ai:=Jx a (by omega);have e1:(sr*ai)*ak=(sr*ak)*ai:=by grind
  have e2:(si*ar)*ak=ar*(si*ak):=by grind
  have e3:(sk*ar)*ai=ar*(sk*ai):=by grind
  refine ⟨Qeq (a:=ar) (by omega) hr,fun e=>?_⟩;rw [e] at e2;have g1:(si*ar)*ak=(sr*ai)*ak:=by omega
  have g2:(sr*ak)*ai=(sk*ar)*ai:=by omega
  have g1:=Yi (by omega) g1;have g2:=Yi (by omega) g2;have:=b g2;omega⟩
end
def sgn (i:Nat):Int:=if i%2=0 then 1 else -1
def zagt (i:Nat):sgn (i+1) = - sgn i:=by
 unfold sgn;split <;> split <;> omega
def qk:Nat->(Nat->Int)->Int
 | 0,_=>0
 | n+1,f=>qk n f+f n
def qh {f g:Nat->Int} : ∀ {n:Nat},(∀ i,i<n->f i=g i)->qk n f=qk n g
 | 0,_=>rfl
 | n+1,h=>by
  show qk n f+f n=qk n g+g n;rw [qh fun i hi=>h i (by omega),h n (by omega)]
def qae {f:Nat->Int}{n:Nat} (h : ∀ i,i<n->f i=0):qk n f=0:=by
 induction n with
 | zero=>rfl
 | succ n ih =>
  show qk n f+f n=0;rw [ih fun i hi=>h i (by omega),h n (by omega)];rfl
def qfo (k l:Int) (f g:Nat->Int) : ∀ n:Nat,qk n (fun i=>k*f i+l*g i)=k*qk n f+l*qk n g
 | 0=>by show (0:Int)=k*0+l*0;omega
 | n+1=>by
  show qk n (fun i=>k*f i+l*g i)+(k*f n+l*g n)=k*(qk n f+f n)+l*(qk n g+g n);rw [qfo k l f g n];grind
def qr (k:Int) (f:Nat->Int) (n:Nat):qk n (fun i=>k*f i)=k*qk n f:=by
 have:=qfo k 0 f (fun _=>0) n;simpa using this
def qap (f g:Nat->Int) (n:Nat):qk n (fun i=>f i+g i)=qk n f+qk n g:=by
 have:=qfo 1 1 f g n;simpa using this
def qL {f:Nat->Int}{n r:Nat} (hr:r<n) (h : ∀ i,i<n->i≠r->f i=0):qk n f=f r:=by
 induction n with
 | zero=>omega
 | succ n ih =>
  show qk n f+f n=f r;by_cases e:r=n
  ·subst e;rw [qae fun i hi=>h i (by omega) (by omega)];omega
  ·rw [ih (by omega) fun i hi=>h i (by omega),h n (by omega) (by omega)];omega
def qqs {f:Nat->Int}{n r s:Nat} (hr:r<n) (hs:s<n) (hrs:r≠s) (h : ∀ i,i<n->i≠r->i≠s->f i=0):qk n f=f r+f s:=by
 have e:qk n f=qk n (fun i=>(if i=r then f r else 0)+(if i=s then f s else 0)):=qh fun i hi=>by
  by_cases e1:i=r
  ·subst e1;rw [if_pos rfl,if_neg hrs];omega
  ·by_cases e2:i=s
   ·subst e2;rw [if_neg e1,if_pos rfl];omega
   ·rw [if_neg e1,if_neg e2,h i hi e1 e2];rfl
 rw [e,qap,qL hr fun i _ z=>if_neg z,qL hs fun i _ z=>if_neg z,if_pos rfl,if_pos rfl]
def qyg {f:Nat->Nat->Int} : ∀ n:Nat,(∀ i j,i<=j->j<n->f (j+1) i = - f i j)->qk (n+1) (fun i=>qk n (f i))=0
 | 0,_=>rfl
 | n+1,h=>by
  have ih:=qyg n fun i j hi hj=>h i j hi (by omega);have e:qk (n+1) (fun i=>qk (n+1) (f i))=qk (n+1) (fun i=>qk n (f i))+qk (n+1) (fun i=>f i n):=by
   rw [<- qap];rfl
  have e2:qk (n+1) (f (n+1)) = - qk (n+1) (fun i=>f i n):=by
   rw [qh (g:=fun i => -1*f i n) fun i hi=>by rw [h i n (by omega) (by omega)];omega,qr];omega
  show qk (n+1) (fun i=>qk (n+1) (f i))+qk (n+1) (f (n+1))=0;rw [e,e2,ih];omega
def skip (i x:Nat):Nat:=if x<i then x else x+1
def qvk {i x m:Nat} (h:x<m):skip i x<m+1:=by unfold skip;split <;> omega
def zadh {i j x:Nat} (h:i<=j):skip (j+1) (skip i x)=skip i (skip j x):=by
 unfold skip;split <;> split <;> split <;> (try split) <;> omega
def det:Nat->(Nat->Nat->Int)->Int
 | 0,_=>1
 | m+1,a=>qk (m+1) fun i=>sgn i*a i 0*det m (fun x y=>a (skip i x) (y+1))
def qfe : ∀ {m:Nat}{a b:Nat->Nat->Int},(∀ x y,x<m->y<m->a x y=b x y)->det m a=det m b
 | 0,_,_,_=>rfl
 | m+1,a,b,h=>qh fun i hi=>by
  rw [h i 0 hi (by omega),qfe fun x y hx hy=>h (skip i x) (y+1) (qvk hx) (by omega)]
def qah (a:Nat->Nat->Int) (y:Nat) (v:Nat->Int):Nat->Nat->Int:=fun x z=>if z=y then v x else a x z
def qaj {a:Nat->Nat->Int}{y:Nat}{v:Nat->Int}{x:Nat}:qah a y v x y=v x:=if_pos rfl
def qba {a:Nat->Nat->Int}{y z:Nat}{v:Nat->Int}{x:Nat} (h:z≠y):qah a y v x z=a x z:=if_neg h
def qgh (k l:Int) (u v:Nat->Int) : ∀ {m:Nat} (a:Nat->Nat->Int) {y:Nat},y<m -> ∀ (u v:Nat->Int),
 det m (qah a y fun x=>k*u x+l*v x)=k*det m (qah a y u)+l*det m (qah a y v)
  | m+1,a,0,_,u,v=>by
   unfold det;rw [<- qfo];refine qh fun i _=>?_;have e : ∀ w,(fun x y=>qah a 0 w (skip i x) (y+1))=fun x y=>a (skip i x) (y+1):=fun w=>by
    funext x y;exact qba (by omega)
   rw [e,e,e,qaj,qaj,qaj];grind
  | m+1,a,y+1,hy,u,v=>by
   unfold det;rw [<- qfo];refine qh fun i _=>?_;have e : ∀ w:Nat->Int,(fun x z=>qah a (y+1) w (skip i x) (z+1))=qah (fun x z=>a (skip i x) (z+1)) y fun x=>w (skip i x):=fun w=>by
    funext x z
    unfold qah;by_cases h:z=y
    ·subst h;rw [if_pos rfl,if_pos rfl]
    ·rw [if_neg (by omega),if_neg h]
   rw [e,e,e,qba (by omega),qba (by omega),qba (by omega)];rw [qgh k l u v (fun x z=>a (skip i x) (z+1)) (show y<m by omega) (fun x=>u (skip i x)) (fun x=>v (skip i x))];grind
def qup : ∀ {m:Nat}{a:Nat->Nat->Int}{y:Nat},y+1<m->(∀ x,x<m->a x y=a x (y+1))->det m a=0
 | m+2,a,0,_,h=>by
  have e:det (m+2) a=qk (m+2) (fun i=>qk (m+1) (fun j=>sgn i*a i 0*(sgn j*a (skip i j) 1*det m (fun x y=>a (skip i (skip j x)) (y+2))))):=by
   show qk (m+2) _=_;refine qh fun i _=>?_;rw [qr];rfl
  rw [e];refine qyg (m+1) fun i j hi hj=>?_;have s1:skip (j+1) i=i:=by unfold skip;rw [if_pos (by omega)]
  have s2:skip i j=j+1:=by unfold skip;rw [if_neg (by omega)]
  rw [s1,s2,zagt,<- h i (by omega),<- h (j+1) (by omega)];have e3:(fun x y=>a (skip (j+1) (skip i x)) (y+2))=fun x y=>a (skip i (skip j x)) (y+2):=by
   funext x y;rw [zadh hi]
  rw [e3];grind
 | m+1,a,y+1,hy,h=>by
  show qk (m+1) _=0;refine qae fun i _=>?_;rw [qup (m:=m) (a:=fun x z=>a (skip i x) (z+1)) (y:=y) (by omega) fun x hx=>h (skip i x) (qvk hx)];omega
def qff {a:Nat->Nat->Int}{y z:Nat}{u v:Nat->Int} (h:y≠z):qah (qah a y u) z v=qah (qah a z v) y u:=by
 funext x t
 unfold qah;by_cases h1:t=z
 ·by_cases h2:t=y
  ·omega
  ·simp [h1,Z0 h]
 ·simp [h1]
def qdz {a:Nat->Nat->Int}{y:Nat}:qah a y (fun x=>a x y)=a:=by
 funext x t
 unfold qah;by_cases h:t=y
 ·subst h;rw [if_pos rfl]
 ·rw [if_neg h]
def zacf {m:Nat}{a:Nat->Nat->Int}{y z:Nat} (hy:y<m) (hz:z<m) (hyz:y≠z) (h0 : ∀ w:Nat->Int,det m (qah (qah a y w) z w)=0) (u v:Nat->Int) :
 det m (qah (qah a y u) z v) = - det m (qah (qah a y v) z u):=by
  have e:=h0 fun x=>1*u x+1*v x;rw [qgh 1 1 u v _ hz] at e;rw [qff hyz,qff hyz,qgh 1 1 u v _ hy,qgh 1 1 u v _ hy,<- qff hyz,<- qff hyz,<- qff hyz,<- qff hyz,h0 u,h0 v] at e;omega
def qvd : ∀ (d:Nat) {m:Nat}{a:Nat->Nat->Int}{y:Nat},y+d+1<m->(∀ x,x<m->a x y=a x (y+d+1))->det m a=0
 | 0,m,a,y,hm,h=>qup hm h
 | d+1,m,a,y,hm,h=>by
  have h0 : ∀ w:Nat->Int,det m (qah (qah a (y+d+1) w) (y+d+2) w)=0:=fun w=>qup (y:=y+d+1) (by omega) fun x _=>by
   rw [qba (by omega),qaj,qaj]
  have e:=zacf (by omega) (by omega) (by omega) h0 (fun x=>a x (y+d+1)) (fun x=>a x (y+d+2));rw [qdz,show qah a (y+d+2) (fun x=>a x (y+d+2))=a from qdz] at e;rw [e,qvd d (y:=y) (by omega) fun x hx=>?_]
  ·rfl
  ·rw [qba (by omega),qba (by omega),qba (by omega),qaj];exact h x hx
def qij {m:Nat}{a:Nat->Nat->Int}{y z:Nat} (hy:y<m) (hz:z<m) (hyz:y≠z) (h : ∀ x,x<m->a x y=a x z):det m a=0:=by
 rcases Qii hyz with g|g
 ·obtain ⟨d,rfl⟩ : ∃ d,z=y+d+1:=⟨z-y-1,by omega⟩
  exact qvd d hz h
 ·obtain ⟨d,rfl⟩ : ∃ d,y=z+d+1:=⟨y-z-1,by omega⟩
  exact qvd d hy fun x hx=>(h x hx).symm
def zafn {m:Nat}{a:Nat->Nat->Int}{y z:Nat} (hy:y<m) (hz:z<m) (hyz:y≠z) (u v:Nat->Int) :
 det m (qah (qah a y u) z v) = - det m (qah (qah a y v) z u) :=
  zacf hy hz hyz (fun w=>qij hy hz hyz fun x _=>by rw [qba hyz,qaj,qaj]) u v
def quv : ∀ m:Nat,det m (fun x y=>if x=y then 1 else 0)=1
 | 0=>rfl
 | m+1=>by
  show qk (m+1) _=1;rw [qL (r:=0) (by omega) fun i _ hi=>by show sgn i*(if i=0 then 1 else 0)*_=0;rw [if_neg hi,Y2,Vj]];have e:(fun x y=>if skip 0 x=y+1 then (1:Int) else 0)=fun x y=>if x=y then 1 else 0:=by
   funext x y
   have:skip 0 x=x+1:=by unfold skip;rw [if_neg (by omega)]
   rw [this];simp
  rw [e,quv m];rfl
def qlx {m:Nat} (a:Nat->Nat->Int) {y:Nat} (hy:y<m) (c:Nat->Int) (w:Nat->Nat->Int) : ∀ n:Nat,
 det m (qah a y fun x=>qk n fun i=>c i*w i x)=qk n fun i=>c i*det m (qah a y (w i))
  | 0=>by
   have e:=qgh 0 0 (fun _=>0) (fun _=>0) a hy (fun _=>0) (fun _=>0);simp at e;exact e
  | n+1=>by
   have e:(fun x=>qk (n+1) fun i=>c i*w i x)=fun x=>1*(qk n fun i=>c i*w i x)+c n*w n x:=by
    funext x;show (qk n fun i=>c i*w i x)+c n*w n x=_;omega
   rw [e,qgh 1 (c n) (w n) (w n) a hy,qlx a hy c w n];show _=(qk n fun i=>c i*det m (qah a y (w i)))+c n*det m (qah a y (w n));omega
structure InPre (n:Nat) (R:List (List Int)) (b:List Int):Prop where
 l:b.length=R.length
 w : ∀ r ∈ R,r.length=n
 hn:n<=20
 hm:R.length<=24
structure SvPre (n:Nat) (R:List (List Int)) (b:List Int):Prop where
 i:InPre n R b
 n1:1<=n
 m1:1<=R.length
 z : ∀ r ∈ R,∀ x ∈ r,x.natAbs<=20000000
 zb : ∀ x ∈ b,x.natAbs<=20000000
def FitV (n:Nat) (R:List (List Int)) (b:List Int) (vs:List (Int×Int)):Prop:=vs.length=n /\ ∃ d:Int,0<d/\intBits d<=2000/\(∀ x ∈ vs,Shr x.1 x.2/\0<=x.1/\x.2∣d/\intBits x.1<=2000) /\
 ∀ k,k<R.length->d*(b[k]?).getD 0=qk n fun u=>at2 R k u*(((vs[u]?).getD (0,1)).1*(d/((vs[u]?).getD (0,1)).2))
def zajx (n:Nat) (R:List (List Int)) (b:List Int) (ws:List Int):Prop:=ws.length=R.length/\(∀ j,j<n->(qk R.length fun l=>at2 R l j*(ws[l]?).getD 0)<=0)/\0<qk R.length fun l=>(b[l]?).getD 0*(ws[l]?).getD 0
def zaab {a:Nat->Nat->Int}{y:Nat}{u v:Nat->Int}:qah (qah a y u) y v=qah a y v:=by
 funext x t
 unfold qah;by_cases h:t=y
 ·rw [if_pos h,if_pos h]
 ·rw [if_neg h,if_neg h,if_neg h]
def qdq {m:Nat}{a:Nat->Nat->Int}{y:Nat}{u v:Nat->Int} (h : ∀ x,x<m->u x=v x):det m (qah a y u)=det m (qah a y v) :=
 qfe fun x z hx _=>by
  unfold qah;by_cases e:z=y
  ·rw [if_pos e,if_pos e,h x hx]
  ·rw [if_neg e,if_neg e]
structure Brd (m:Nat) (col:Nat->Nat->Int) (B:Nat->Nat->Int) (L:Nat->Nat->Int) (d:Int):Prop where
 pos:0<d
 hd:d=det m B
 hL : ∀ k,k<m -> ∀ j,L k j=det m (qah B k (col j))
 hI : ∀ j x,x<m->d*col j x=qk m fun k=>L k j*B x k
def zadc (m:Nat) (col:Nat->Nat->Int):Brd m col (fun x y=>if x=y then 1 else 0) (fun k j=>col j k) 1 where
 pos:=by omega
 hd:=(quv m).symm
 hL:=fun k hk j=>by
  have e:det m (qah (fun x y=>if x=y then 1 else 0) k (col j))=det m (qah (fun x y=>if x=y then 1 else 0) k fun x=>qk m fun i=>col j i*(if x=i then 1 else 0)) :=
   qdq fun x hx=>by
    rw [qL hx fun i _ hi=>by rw [if_neg (Z0 hi)];omega,if_pos rfl];omega
  rw [e,qlx _ hk (fun i=>col j i) (fun i x=>if x=i then 1 else 0)];rw [qL hk fun i hi hik=>?_]
  ·rw [show qah (fun x y=>if x=y then (1:Int) else 0) k (fun x=>if x=k then 1 else 0)=fun x y=>if x=y then 1 else 0 from qdz (a:=fun x y=>if x=y then (1:Int) else 0),quv];omega
  ·rw [qij hk hi (Z0 hik) fun x _=>by rw [qaj,qba hik]];omega
 hI:=fun j x hx=>by
  show 1*col j x=qk m fun k=>col j k*(if x=k then 1 else 0);rw [qL hx fun i _ hi=>by rw [if_neg (Z0 hi)];omega,if_pos rfl];omega
def piv (L:Nat->Nat->Int) (d:Int) (r c:Nat):Nat->Nat->Int:=fun k j=>if k=r then L r j else (L k j*L r c-L k c*L r j)/d
def Brd.exact {m:Nat}{col B L:Nat->Nat->Int}{d:Int} (h:Brd m col B L d) {r c:Nat} (hr:r<m) {k j:Nat} (hk:k<m) (hkr:k≠r) :
 d*det m (qah (qah B r (col c)) k (col j))=L k j*L r c-L k c*L r j:=by
  have e1:d*det m (qah (qah B r (col c)) k (col j))=det m (qah (qah B r (col c)) k fun x=>d*col j x):=by
   have:=qgh d 0 (col j) (col j) (qah B r (col c)) hk (col j) (col j);simp at this;exact this.symm
  rw [e1,qdq (v:=fun x=>qk m fun i=>L i j*B x i) fun x hx=>h.hI j x hx,qlx _ hk (fun i=>L i j) (fun i x=>B x i)];rw [qqs hk hr hkr fun i hi hik hir=>?_]
  ·have t1:det m (qah (qah B r (col c)) k fun x=>B x k)=L r c:=by
    rw [h.hL r hr c]
    congr 1
    have:(fun x=>B x k)=fun x=>qah B r (col c) x k:=by funext x;exact (qba hkr).symm
    rw [this,qdz]
   have t2:det m (qah (qah B r (col c)) k fun x=>B x r) = - L k c:=by
    rw [zafn hr hk (Z0 hkr),qdz,<- h.hL k hk c]
   rw [t1,t2];grind
  ·rw [qij hk hi (Z0 hik) fun x _=>by rw [qaj,qba hik,qba hir]];omega
def Brd.next {m:Nat}{col B L:Nat->Nat->Int}{d:Int} (h:Brd m col B L d) {r c:Nat} (hr:r<m) (hp:0<L r c) :
 Brd m col (qah B r (col c)) (piv L d r c) (L r c) /\ ∀ k,k<m->k≠r -> ∀ j,d*piv L d r c k j=L k j*L r c-L k c*L r j:=by
  have hd0:d≠0:=by have:=h.pos;omega
  have ex : ∀ k,k<m->k≠r -> ∀ j,piv L d r c k j=det m (qah (qah B r (col c)) k (col j)):=fun k hk hkr j=>by
   unfold piv;rw [if_neg hkr,<- h.exact hr hk hkr,Vx _ hd0]
  have ex2 : ∀ k,k<m->k≠r -> ∀ j,d*piv L d r c k j=L k j*L r c-L k c*L r j:=fun k hk hkr j=>by
   rw [ex k hk hkr j,h.exact hr hk hkr]
  refine ⟨⟨hp,h.hL r hr c,fun k hk j=>?_,fun j x hx=>?_⟩,ex2⟩
  ·by_cases e:k=r
   ·subst e;rw [zaab,<- h.hL k hk j];unfold piv;rw [if_pos rfl]
   ·exact ex k hk e j
  ·refine Zi hd0 ?_;rw [<- qr];have t : ∀ k,k<m->d*(piv L d r c k j*qah B r (col c) x k)=(L r c*(L k j*B x k)+(- L r j)*(L k c*B x k))+(if k=r then L r j*(d*col c x) else 0):=fun k hk=>by
    by_cases e:k=r
    ·subst e;rw [qaj,if_pos rfl];unfold piv;rw [if_pos rfl];grind
    ·rw [qba e,if_neg e,<- Qat,ex2 k hk e j];grind
   rw [qh t,qap,qfo,<- h.hI j x hx,<- h.hI c x hx,qL hr fun i _ hi=>if_neg hi,if_pos rfl];grind
def Brd.basic {m:Nat}{col B L:Nat->Nat->Int}{d:Int} (h:Brd m col B L d) {i j:Nat} (hi:i<m) (e : ∀ x,x<m->B x i=col j x) {k:Nat} (hk:k<m) :
 L k j=if k=i then d else 0:=by
  rw [h.hL k hk j,qdq (v:=fun x=>B x i) fun x hx=>(e x hx).symm];by_cases q:k=i
  ·subst q;rw [if_pos rfl,qdz,<- h.hd]
  ·rw [if_neg q];exact qij hk hi q fun x _=>by rw [qaj,qba (Z0 q)]
def Brd.comb {m:Nat}{col B L:Nat->Nat->Int}{d:Int} (h:Brd m col B L d) {j n:Nat} (f:Nat->Int) (at':Nat->Nat) (e : ∀ x,x<m->col j x=qk n fun l=>f l*col (at' l) x) {k:Nat} (hk:k<m) :
 L k j=qk n fun l=>f l*L k (at' l):=by
  rw [h.hL k hk j,qdq e,qlx _ hk f (fun l=>col (at' l))];exact qh fun l _=>by rw [h.hL k hk]
def qjf (f:Nat->Nat->Int) (n:Nat) : ∀ m:Nat,qk m (fun i=>qk n (f i))=qk n (fun k=>qk m fun i=>f i k)
 | 0=>(qae fun _ _=>rfl).symm
 | m+1=>by
  show qk m (fun i=>qk n (f i))+qk n (f m)=qk n (fun k=>(qk m fun i=>f i k)+f m k);rw [qjf f n m,qap]
def qyn {f:Nat->Int} : ∀ {n:Nat},qk n f<0 -> ∃ k,k<n/\f k<0
 | 0,h=>absurd h (by show ¬ (0:Int)<0;omega)
 | n+1,h=>by
  have h':qk n f+f n<0:=h;by_cases q:f n<0
  ·exact ⟨n,by omega,q⟩
  ·obtain ⟨k,hk,z⟩:=qyn (f:=f) (n:=n) (by omega);exact ⟨k,by omega,z⟩
def qio {f:Nat->Int} : ∀ {n:Nat},0<qk n f -> ∃ k,k<n/\0<f k
 | 0,h=>absurd h (by show ¬ (0:Int)<0;omega)
 | n+1,h=>by
  have h':0<qk n f+f n:=h;by_cases q:0<f n
  ·exact ⟨n,by omega,q⟩
  ·obtain ⟨k,hk,z⟩:=qio (f:=f) (n:=n) (by omega);exact ⟨k,by omega,z⟩
def qcw {f:Nat->Int} : ∀ {n:Nat},(∀ k,k<n->0<=f k)->0<=qk n f
 | 0,_=>by show (0:Int)<=0;omega
 | n+1,h=>by
  have a:=qcw (f:=f) (n:=n) fun k hk=>h k (by omega);have b:=h n (by omega);show 0<=qk n f+f n;omega
structure Sta where
 st:Nat->Int
 L:Nat->Nat->Int
 d:Int
def Bas (col:Nat->Nat->Int) (st:Nat->Int):Nat->Nat->Int:=fun x k=>if st k<0 then (if x=k then 1 else 0) else col (st k).toNat x
structure Good (m n:Nat) (col:Nat->Nat->Int) (b:Sta):Prop where
 brd:Brd m col (Bas col b.st) b.L b.d
 sum : ∀ k,k<m->0<=b.L k (n+m)
 top : ∀ k,k<m->b.st k<n
def lack (m:Nat) (b:Sta) (j:Nat):Int:=qk m fun k=>if b.st k<0 then b.L k j else 0
structure Stp (m n:Nat) (b:Sta) (c r:Nat) (b':Sta):Prop where
 c1:c<n
 c2:0<lack m b c
 c3 : ∀ j,j<c->lack m b j<=0
 r1:r<m
 r2:0<b.L r c
 r3 : ∀ k,k<m->0<b.L k c->b.L r (n+m)*b.L k c<=b.L k (n+m)*b.L r c
 r4 : ∀ k,k<m->0<b.L k c->b.L r (n+m)*b.L k c=b.L k (n+m)*b.L r c->b.st r<=b.st k
 st:b'.st=fun k=>if k=r then (c:Int) else b.st k
 L:b'.L=piv b.L b.d r c
 d:b'.d=b.L r c
def zaha {col:Nat->Nat->Int}{st:Nat->Int}{r c:Nat}:Bas col (fun k=>if k=r then (c:Int) else st k)=qah (Bas col st) r (col c):=by
 funext x k
 have e1 : ∀ v:Int,(fun k=>if k=r then (c:Int) else st k) k=v->Bas col (fun k=>if k=r then (c:Int) else st k) x k=if v<0 then (if x=k then 1 else 0) else col v.toNat x:=fun v hv=>by
  unfold Bas;rw [hv]
 by_cases e:k=r
 ·rw [e1 c (if_pos e),if_neg (by omega),e,qaj];rfl
 ·rw [e1 (st k) (if_neg e),qba e];rfl
def Good.basic {m n:Nat}{col:Nat->Nat->Int}{b:Sta} (h:Good m n col b) {i j:Nat} (hi:i<m) (e:b.st i=(j:Int)) {k:Nat} (hk:k<m):b.L k j=if k=i then b.d else 0 :=
 h.brd.basic hi (fun x _=>by unfold Bas;rw [e,if_neg (by omega)];rfl) hk
def Good.lack0 {m n:Nat}{col:Nat->Nat->Int}{b:Sta} (h:Good m n col b) {i j:Nat} (hi:i<m) (e:b.st i=(j:Int)):lack m b j=0 :=
 qae fun k hk=>by
  by_cases q:b.st k<0
  ·rw [if_pos q,h.basic hi e hk,if_neg (fun z=>by subst z;omega)]
  ·rw [if_neg q]
def Good.next {m n:Nat}{col:Nat->Nat->Int}{b b':Sta}{c r:Nat} (h:Good m n col b) (s:Stp m n b c r b') :
 Good m n col b' /\ ∀ k,k<m->k≠r -> ∀ j,b.d*b'.L k j=b.L k j*b.L r c-b.L k c*b.L r j:=by
  obtain ⟨h1,h2⟩:=h.brd.next s.r1 s.r2;have e:=zaha (col:=col) (st:=b.st) (r:=r) (c:=c);rw [<- s.L] at h2;refine ⟨⟨?_,fun k hk=>?_,fun k hk=>?_⟩,h2⟩
  ·rw [s.st,e,s.L,s.d];exact h1
  ·by_cases q:k=r
   ·subst q;rw [s.L];unfold piv;rw [if_pos rfl];exact h.sum k hk
   ·have z:=h2 k hk q (n+m);have dp:=h.brd.pos;have s0:=h.sum k hk;have s1:=h.sum r s.r1;have p0:=s.r2;have:0<=b.d*b'.L k (n+m):=by
     rw [z];by_cases g:0<b.L k c
     ·have:=s.r3 k hk g;have e2:b.L k c*b.L r (n+m)=b.L r (n+m)*b.L k c:=Zu ..;omega
     ·have a1:0<=b.L k (n+m)*b.L r c:=Zn s0 (by omega);have a2:b.L k c*b.L r (n+m)<=0:=Int.mul_nonpos_of_nonpos_of_nonneg (by omega) s1;omega
    exact Int.nonneg_of_mul_nonneg_right this dp
  ·rw [s.st];show (if k=r then (c:Int) else b.st k)<n;by_cases q:k=r
   ·rw [if_pos q];have:=s.c1;omega
   ·rw [if_neg q];exact h.top k hk
def zang {m n:Nat}{col:Nat->Nat->Int}{a b:Sta} (ha:Good m n col a) (hb:Good m n col b) (same : ∀ k,k<m->(a.st k<0↔b.st k<0)) (e:Nat) :
 a.d*lack m b e=b.d*lack m a e+qk m fun k=>if a.st k<0 then 0 else a.L k e*lack m b (a.st k).toNat:=by
  have one : ∀ i,i<m->a.d*b.L i e=qk m fun k=>a.L k e*det m (qah (Bas col b.st) i fun x=>Bas col a.st x k):=fun i hi=>by
   have e1:a.d*b.L i e=det m (qah (Bas col b.st) i fun x=>a.d*col e x):=by
    rw [hb.brd.hL i hi e];have:=qgh a.d 0 (col e) (col e) (Bas col b.st) hi (col e) (col e);simp at this;exact this.symm
   rw [e1,qdq (v:=fun x=>qk m fun k=>a.L k e*Bas col a.st x k) fun x hx=>ha.brd.hI e x hx,qlx _ hi (fun k=>a.L k e) (fun k x=>Bas col a.st x k)]
  have phi : ∀ i k,i<m->k<m->det m (qah (Bas col b.st) i fun x=>Bas col a.st x k)=if a.st k<0 then (if i=k then b.d else 0) else b.L i (a.st k).toNat:=fun i k hi hk=>by
   by_cases q:a.st k<0
   ·rw [if_pos q];have q2:=(same k hk).mp q;have e2:(fun x=>Bas col a.st x k)=fun x=>Bas col b.st x k:=by
     funext x;unfold Bas;rw [if_pos q,if_pos q2]
    rw [e2];by_cases g:i=k
    ·subst g;rw [if_pos rfl,qdz,<- hb.brd.hd]
    ·rw [if_neg g];exact qij hi hk g fun x _=>by rw [qaj,qba (Z0 g)]
   ·rw [if_neg q,hb.brd.hL i hi];exact qdq fun x _=>by unfold Bas;rw [if_neg q]
  have l1:a.d*lack m b e=qk m fun i=>qk m fun k=>if b.st i<0 then a.L k e*(if a.st k<0 then (if i=k then b.d else 0) else b.L i (a.st k).toNat) else 0:=by
   unfold lack;rw [<- qr];refine qh fun i hi=>?_;by_cases q:b.st i<0
   ·rw [if_pos q,one i hi];exact qh fun k hk=>by rw [if_pos q,phi i k hi hk]
   ·rw [if_neg q,qae fun k _=>if_neg q];omega
  rw [l1,qjf];have l2 : ∀ k,k<m->(qk m fun i=>if b.st i<0 then a.L k e*(if a.st k<0 then (if i=k then b.d else 0) else b.L i (a.st k).toNat) else 0)
   = b.d*(if a.st k<0 then a.L k e else 0)+(if a.st k<0 then 0 else a.L k e*lack m b (a.st k).toNat):=fun k hk=>by
   by_cases q:a.st k<0
   ·rw [if_pos q,if_pos q,qL hk fun i hi hik=>by
     by_cases g:b.st i<0
     ·rw [if_pos g,if_pos q,if_neg hik];omega
     ·rw [if_neg g],if_pos ((same k hk).mp q),if_pos q,if_pos rfl,Zu];omega
   ·rw [if_neg q,if_neg q];unfold lack;rw [<- qr,Y2,Vk];exact qh fun i _=>by
     by_cases g:b.st i<0
     ·rw [if_pos g,if_pos g,if_neg q]
     ·rw [if_neg g,if_neg g];omega
  rw [qh l2,qap,qr];rfl
def quo {Q:Nat->Prop}{a b:Nat} (hab:a<=b) (ha : ¬ Q a) (hb:Q b) : ∃ τ,a<=τ/\τ<b /\ ¬ Q τ/\Q (τ+1):=by
 induction b with
 | zero =>
  have:a=0:=by omega
  subst this;exact (ha hb).elim
 | succ b ih =>
  by_cases e:a=b+1
  ·subst e;exact (ha hb).elim
  ·by_cases q:Q b
   ·obtain ⟨τ,h1,h2,h3,h4⟩:=ih (by omega) q;exact ⟨τ,h1,by omega,h3,h4⟩
   ·exact ⟨b,by omega,by omega,q,hb⟩
def qxq {Q:Nat->Prop}{T a b:Nat} (hT:Q T↔Q 0) (ha:a<=T) (hb:b<=T) (h1 : ¬ Q a) (h2:Q b) : ∃ τ,τ<T /\ ¬ Q τ/\Q (τ+1):=by
 by_cases q:a<=b
 ·obtain ⟨τ,_,h,h3,h4⟩:=quo q h1 h2;exact ⟨τ,by omega,h3,h4⟩
 ·by_cases q0:Q T
  ·obtain ⟨τ,_,h,h3,h4⟩:=quo ha h1 q0;exact ⟨τ,h,h3,h4⟩
  ·have z : ¬ Q 0:=fun z=>q0 (hT.mpr z);obtain ⟨τ,_,h,h3,h4⟩:=quo (Yc b) z h2;exact ⟨τ,by omega,h3,h4⟩
def zaiz (f:Nat->Nat) : ∀ {T:Nat},0<T -> ∃ β,β<T /\ ∀ τ,τ<T->f τ<=f β
 | 1,_=>⟨0,by omega,fun τ h=>by have:τ=0:=by omega
                                subst this;exact Qr _⟩
 | T+2,_=>by
  obtain ⟨β,h1,h2⟩:=zaiz f (T:=T+1) (by omega);by_cases q:f β<=f (T+1)
  ·refine ⟨T+1,by omega,fun τ h=>?_⟩;by_cases e:τ=T+1
   ·subst e;exact Qr _
   ·exact Zk (h2 τ (by omega)) q
  ·refine ⟨β,by omega,fun τ h=>?_⟩;by_cases e:τ=T+1
   ·subst e;omega
   ·exact h2 τ (by omega)
def zasp {m n:Nat}{col:Nat->Nat->Int}{b:Nat->Sta}{cs rs:Nat->Nat}{T:Nat} (hT:0<T) (h0:Good m n col (b 0)) (hs : ∀ τ,τ<T->Stp m n (b τ) (cs τ) (rs τ) (b (τ+1)))
 (he : ∀ k,k<m->(b T).st k=(b 0).st k):False:=by
  have G : ∀ τ,τ<=T->Good m n col (b τ):=fun τ=>by
   induction τ with
   | zero=>exact fun _=>h0
   | succ τ ih=>exact fun h=>((ih (by omega)).next (hs τ (by omega))).1
  have bs : ∀ x k,k<m->Bas col (b T).st x k=Bas col (b 0).st x k:=fun x k hk=>by unfold Bas;rw [he k hk]
  have eL : ∀ k,k<m -> ∀ j,(b T).L k j=(b 0).L k j:=fun k hk j=>by
   rw [(G T (Qr _)).brd.hL k hk,h0.brd.hL k hk];exact qfe fun x y _ hy=>by
    unfold qah;by_cases e:y=k
    ·rw [if_pos e,if_pos e]
    ·rw [if_neg e,if_neg e,bs x y hy]
  have ed:(b T).d=(b 0).d:=by
   rw [(G T (Qr _)).brd.hd,h0.brd.hd];exact qfe fun x y _ hy=>bs x y hy
  have a1 : ∀ τ,τ<T -> ∀ k,(b (τ+1)).st k<0->(b τ).st k<0:=fun τ h k z=>by
   rw [(hs τ h).st] at z;by_cases e:k=rs τ
   ·have z':(if k=rs τ then (cs τ:Int) else (b τ).st k)<0:=z;rw [if_pos e] at z';omega
   ·have z':(if k=rs τ then (cs τ:Int) else (b τ).st k)<0:=z;rw [if_neg e] at z';exact z'
  have a2 : ∀ i τ,τ+i<=T -> ∀ k,(b (τ+i)).st k<0->(b τ).st k<0:=fun i=>by
   induction i with
   | zero=>exact fun τ _ k z=>z
   | succ i ih=>exact fun τ h k z=>ih τ (by omega) k (a1 (τ+i) (by omega) k z)
  have art : ∀ τ,τ<=T -> ∀ k,k<m->((b τ).st k<0↔(b 0).st k<0):=fun τ h k hk=>by
   constructor
   ·intro z;have:=a2 τ 0 (by omega) k (by rw [Qbl];exact z);exact this
   ·intro z;rw [<- he k hk] at z;exact a2 (T-τ) τ (by omega) k (by rw [show τ+(T-τ)=T by omega];exact z)
  have rn : ∀ τ,τ<T -> ¬ (b τ).st (rs τ)<0:=fun τ h z=>by
   have z1:=(art τ (by omega) _ (hs τ h).r1).mp z;have z2:=(art (τ+1) (by omega) _ (hs τ h).r1).mpr z1;rw [(hs τ h).st] at z2;have z3:(if rs τ=rs τ then (cs τ:Int) else (b τ).st (rs τ))<0:=z2;rw [if_pos rfl] at z3;omega
  have lk : ∀ τ,τ<T -> ∀ j,(b τ).d*lack m (b (τ+1)) j=lack m (b τ) j*(b τ).L (rs τ) (cs τ)-lack m (b τ) (cs τ)*(b τ).L (rs τ) j:=fun τ h j=>by
   have nx:=((G τ (by omega)).next (hs τ h)).2;have e1:(b τ).d*lack m (b (τ+1)) j=qk m fun k=>(b τ).L (rs τ) (cs τ)*(if (b τ).st k<0 then (b τ).L k j else 0)+(- (b τ).L (rs τ) j)*(if (b τ).st k<0 then (b τ).L k (cs τ) else 0):=by
    unfold lack;rw [<- qr];refine qh fun k hk=>?_;by_cases q:(b τ).st k<0
    ·have q2:(b (τ+1)).st k<0:=(art (τ+1) (by omega) k hk).mpr ((art τ (by omega) k hk).mp q);rw [if_pos q2,if_pos q,if_pos q,nx k hk (fun z=>rn τ h (z ▸ q)) j];grind
    ·have q2 : ¬ (b (τ+1)).st k<0:=fun z=>q (a1 τ h k z);rw [if_neg q2,if_neg q,if_neg q];grind
   rw [e1,qfo];unfold lack;grind
  have dp : ∀ τ,τ<=T->0<(b τ).d:=fun τ h=>(G τ h).brd.pos;have mono : ∀ τ,τ<=T->lack m (b τ) (n+m)*(b 0).d<=lack m (b 0) (n+m)*(b τ).d/\((∃ σ,σ<τ/\0<(b σ).L (rs σ) (n+m))->lack m (b τ) (n+m)*(b 0).d<lack m (b 0) (n+m)*(b τ).d):=fun τ=>by
   induction τ with
   | zero=>exact fun _=>⟨Yk _,fun xx178=>by obtain ⟨σ,h,_⟩:=xx178;exact absurd h (by omega)⟩
   | succ τ ih =>
    intro h;obtain ⟨i1,i2⟩:=ih (by omega);have s:=hs τ (by omega);have e:=lk τ (by omega) (n+m);rw [<- s.d] at e;have d0:=dp 0 (by omega);have d1:=dp τ (by omega);have d2:=dp (τ+1) h;have r0:=(G τ (by omega)).sum (rs τ) s.r1;have w0:0<=lack m (b τ) (cs τ)*(b τ).L (rs τ) (n+m):=Zn (by have:=s.c2;omega) r0;have key:(b τ).d*(lack m (b (τ+1)) (n+m)*(b 0).d)=(lack m (b τ) (n+m)*(b 0).d)*(b (τ+1)).d-(lack m (b τ) (cs τ)*(b τ).L (rs τ) (n+m))*(b 0).d:=by
     rw [<- Qat,e];grind
    have up:(lack m (b τ) (n+m)*(b 0).d)*(b (τ+1)).d<=(lack m (b 0) (n+m)*(b τ).d)*(b (τ+1)).d:=Jx i1 (by omega);have re:(lack m (b 0) (n+m)*(b τ).d)*(b (τ+1)).d=(b τ).d*(lack m (b 0) (n+m)*(b (τ+1)).d):=by grind
    have w1:0<=(lack m (b τ) (cs τ)*(b τ).L (rs τ) (n+m))*(b 0).d:=Zn w0 (by omega);refine ⟨Qeq (a:=(b τ).d) (by omega) d1,fun ⟨σ,h1,h2⟩=>Qbc (a:=(b τ).d) ?_ (by omega)⟩;by_cases q:σ=τ
    ·subst q;have:0<(lack m (b σ) (cs σ)*(b σ).L (rs σ) (n+m))*(b 0).d:=Yl (Yl s.c2 h2) d0;omega
    ·have:=Qdu (i2 ⟨σ,by omega,h2⟩) d2;omega
  have deg : ∀ τ,τ<T->(b τ).L (rs τ) (n+m)=0:=fun τ h=>by
   have r0:=(G τ (by omega)).sum (rs τ) (hs τ h).r1;by_cases q:0<(b τ).L (rs τ) (n+m)
   ·have z:=(mono T (Qr _)).2 ⟨τ,h,q⟩;have e1:lack m (b T) (n+m)=lack m (b 0) (n+m):=qh fun k hk=>by rw [he k hk,eL k hk]
    rw [e1,ed] at z;exact (Int.lt_irrefl _ z).elim
   ·omega
  have zr : ∀ (j:Int) τ,τ<T->(∀ k,k<m->(b τ).st k=j->(b τ).L k (n+m)=0) -> ∀ k,k<m->(b (τ+1)).st k=j->(b (τ+1)).L k (n+m)=0:=fun j τ h z k hk e=>by
   have nx:=((G τ (by omega)).next (hs τ h)).2;by_cases q:k=rs τ
   ·rw [(hs τ h).L];unfold piv;rw [if_pos q];exact deg τ h
   ·have e':(b τ).st k=j:=by
     rw [(hs τ h).st] at e;have e2:(if k=rs τ then (cs τ:Int) else (b τ).st k)=j:=e;rw [if_neg q] at e2;exact e2
    have w:=nx k hk q (n+m);rw [z k hk e',deg τ h,Vj,Y2] at w;have d1:=dp τ (by omega);rcases Qam.mp (show (b τ).d*(b (τ+1)).L k (n+m)=0 by omega) with g|g
    ·omega
    ·exact g
  have zr2 : ∀ (j:Int) i τ,τ+i<=T->(∀ k,k<m->(b τ).st k=j->(b τ).L k (n+m)=0) -> ∀ k,k<m->(b (τ+i)).st k=j->(b (τ+i)).L k (n+m)=0:=fun j i=>by
   induction i with
   | zero=>exact fun τ _ z=>z
   | succ i ih=>exact fun τ h z=>zr j (τ+i) (by omega) (ih τ (by omega) z)
  have zero : ∀ (j:Int) α β,α<=T->β<=T->(∀ k,k<m->(b β).st k≠j) -> ∀ k,k<m->(b α).st k=j->(b α).L k (n+m)=0:=fun j α β ha hb z k hk e=>by
   have z0 : ∀ k,k<m->(b β).st k=j->(b β).L k (n+m)=0:=fun k hk e=>(z k hk e).elim;have zT : ∀ k,k<m->(b T).st k=j->(b T).L k (n+m)=0:=by
    have:=zr2 j (T-β) β (by omega) z0;rw [show β+(T-β)=T by omega] at this;exact this
   have zs : ∀ k,k<m->(b 0).st k=j->(b 0).L k (n+m)=0:=fun k hk e=>by rw [<- eL k hk];exact zT k hk (by rw [he k hk];exact e)
   have:=zr2 j α 0 (by omega) zs;rw [Qbl] at this;exact this k hk e
  obtain ⟨β,hβ,hmax⟩:=zaiz cs hT
  let Q:Nat->Nat->Prop:=fun j τ => ∃ k,k<m/\(b τ).st k=(j:Int)
  have QT : ∀ j,Q j T↔Q j 0:=fun j=>⟨fun xx176=>by obtain ⟨k,hk,e⟩:=xx176;exact ⟨k,hk,by rw [<- he k hk];exact e⟩,fun xx175=>by obtain ⟨k,hk,e⟩:=xx175;exact ⟨k,hk,by rw [he k hk];exact e⟩⟩
  have inn : ∀ j τ,τ<T -> ¬ Q j τ->Q j (τ+1)->cs τ=j:=fun j τ h h1 xx174=>by
   obtain ⟨k,hk,e⟩:=xx174;rw [(hs τ h).st] at e;have e2:(if k=rs τ then (cs τ:Int) else (b τ).st k)=j:=e;by_cases q:k=rs τ
   ·rw [if_pos q] at e2;omega
   ·rw [if_neg q] at e2;exact (h1 ⟨k,hk,e2⟩).elim
  have nb : ∀ τ,τ<=T -> ∀ j,lack m (b τ) j≠0 -> ¬ Q j τ:=fun τ h j z xx173=>by obtain ⟨k,hk,e⟩:=xx173;exact z ((G τ h).lack0 hk e)
  have tn : ¬ Q (cs β) β:=nb β (by omega) _ (by have:=(hs β hβ).c2;omega);have tb:Q (cs β) (β+1):=⟨rs β,(hs β hβ).r1,by rw [(hs β hβ).st];exact if_pos rfl⟩
  obtain ⟨α,hα,o1,o2⟩:=qxq (Q:=fun τ => ¬ Q (cs β) τ) (T:=T) (a:=β+1) (b:=β) (by rw [QT]) (by omega) (by omega) (fun z=>z tb) tn;have o1:Q (cs β) α:=Yp o1;obtain ⟨k0,hk0,ek0⟩:=o1;have er:k0=rs α:=by
   by_cases q:k0=rs α
   ·exact q
   ·refine (o2 ⟨k0,hk0,?_⟩).elim;rw [(hs α hα).st];show (if k0=rs α then (cs α:Int) else (b α).st k0)=_;rw [if_neg q];exact ek0
  subst er;have e1:cs α<=cs β:=hmax α hα;have e2:cs α≠cs β:=fun z=>nb α (by omega) (cs α) (by have:=(hs α hα).c2;omega) ⟨rs α,hk0,by rw [ek0,z]⟩;have id:=zang (G α (by omega)) (G β (by omega)) (fun k hk=>(art α (by omega) k hk).trans (art β (by omega) k hk).symm) (cs α);have p1:0<(b β).d*lack m (b α) (cs α):=Yl (dp β (by omega)) (hs α hα).c2;have p2:(b α).d*lack m (b β) (cs α)<=0:=Qbp (by have:=dp α (by omega);omega) ((hs β hβ).c3 (cs α) (by omega));obtain ⟨k,hk,hneg⟩:=qyn (show (qk m fun k=>if (b α).st k<0 then 0 else (b α).L k (cs α)*lack m (b β) ((b α).st k).toNat)<0 by omega);by_cases q:(b α).st k<0
  ·rw [if_pos q] at hneg;omega
  ·rw [if_neg q] at hneg;obtain ⟨j,ej⟩ : ∃ j:Nat,(b α).st k=(j:Int):=⟨((b α).st k).toNat,by omega⟩
   rw [ej] at hneg;have hneg:(b α).L k (cs α)*lack m (b β) j<0:=hneg;have jl:lack m (b β) j≠0:=fun z=>by rw [z,Y2] at hneg;omega
   have jn:=nb β (by omega) j jl;obtain ⟨τ,hτ,u1,u2⟩:=qxq (Q:=Q j) (T:=T) (a:=β) (b:=α) (QT j) (by omega) (by omega) jn ⟨k,hk,ej⟩;have jle:j<=cs β:=by rw [<- inn j τ hτ u1 u2];exact hmax τ hτ
   by_cases jt:j=cs β
   ·subst jt;have ek:k=rs α:=by
     by_cases g:k=rs α
     ·exact g
     ·have w:=(G α (by omega)).basic hk ej hk;have w2:=(G α (by omega)).basic hk0 ek0 hk;rw [if_pos rfl] at w;rw [if_neg g,w] at w2;have:=dp α (by omega);omega
    subst ek;have:=Yl (hs α hα).r2 (hs β hβ).c2;omega
   ·have c3:=(hs β hβ).c3 j (by omega);have lp:0<(b α).L k (cs α):=by
     rcases Int.lt_trichotomy 0 ((b α).L k (cs α)) with g|g|g
     ·exact g
     ·rw [<- g,Vj] at hneg;omega
     ·have:=Jb (Vu g) c3;omega
    have z1:(b α).L k (n+m)=0:=zero j α β (by omega) (by omega) (fun k' hk' e=>jn ⟨k',hk',e⟩) k hk ej;have z2:=deg α hα;have tie:=(hs α hα).r4 k hk lp (by rw [z1,z2,Vj,Vj]);rw [ek0,ej] at tie;omega
def pig : ∀ (N T:Nat) (f:Nat->Nat),(∀ i,i<=T->f i<N)->(∀ i j,i<j->j<=T->f i≠f j)->T<N
 | 0,T,f,h,_=>absurd (h 0 (Yc _)) (by omega)
 | N+1,T,f,h,hd=>by
  by_cases q : ∃ i,i<=T/\f i=N
  ·obtain ⟨i0,hi0,e0⟩:=q;cases T with
   | zero=>omega
   | succ T =>
    have sl : ∀ i,i<=T->skip i0 i<=T+1:=fun i hi=>by unfold skip;split <;> omega
    have sn : ∀ i,skip i0 i≠i0:=fun i=>by unfold skip;split <;> omega
    have sm : ∀ i j,i<j->skip i0 i<skip i0 j:=fun i j hij=>by unfold skip;split <;> split <;> omega
    have:=pig N T (fun i=>f (skip i0 i)) (fun i hi=>by
     have a:=h (skip i0 i) (sl i hi);have b:f (skip i0 i)≠N:=fun z=>by
      rcases Qii (sn i) with g|g
      ·exact hd _ _ g hi0 (by rw [z,e0])
      ·exact hd _ _ g (sl i hi) (by rw [z,e0])
     show f (skip i0 i)<N;omega) fun i j hij hj=>hd _ _ (sm i j hij) (sl j hj)
    omega
  ·have:=pig N T f (fun i hi=>by
    have a:=h i hi;have b:f i≠N:=fun z=>q ⟨i,hi,z⟩;omega) hd
   omega
def enc (B:Nat) (st:Nat->Nat):Nat->Nat
 | 0=>0
 | k+1=>enc B st k+st k*B^k
def qvq {B:Nat}{st:Nat->Nat} : ∀ {m:Nat},(∀ k,k<m->st k<B)->enc B st m<B^m
 | 0,_=>by simp [enc]
 | m+1,h=>by
  have a:=qvq (B:=B) (st:=st) (m:=m) fun k hk=>h k (by omega);have b:=h m (by omega);show enc B st m+st m*B^m<B^(m+1);rw [Qje,Qbn (B^m) B];have:(st m+1)*B^m<=B*B^m:=Qde _ (by omega);rw [Nat.add_mul,Qkf] at this;omega
def zacn {B:Nat}{st st':Nat->Nat} : ∀ {m:Nat},(∀ k,k<m->st k<B)->(∀ k,k<m->st' k<B)->enc B st m=enc B st' m -> ∀ k,k<m->st k=st' k
 | 0,_,_,_,k,hk=>by omega
 | m+1,h,h',e,k,hk=>by
  have a:=qvq (B:=B) (st:=st) (m:=m) fun k hk=>h k (by omega);have a':=qvq (B:=B) (st:=st') (m:=m) fun k hk=>h' k (by omega);have e:enc B st m+st m*B^m=enc B st' m+st' m*B^m:=e;have top:st m=st' m:=by
   have p:0<B^m:=by omega
   have e1:(enc B st m+st m*B^m)/B^m=st m:=by
    rw [Qbn (st m),Qhk _ _ p,Qfw a];omega
   have e2:(enc B st' m+st' m*B^m)/B^m=st' m:=by
    rw [Qbn (st' m),Qhk _ _ p,Qfw a'];omega
   rw [<- e1,<- e2,e]
  by_cases q:k=m
  ·subst q;exact top
  ·rw [top] at e;exact zacn (m:=m) (fun k hk=>h k (by omega)) (fun k hk=>h' k (by omega)) (by omega) k (by omega)
structure Run (m n:Nat) (col:Nat->Nat->Int) (T:Nat) (b:Nat->Sta) (cs rs:Nat->Nat):Prop where
 good:Good m n col (b 0)
 low : ∀ k,k<m -> -(m:Int)<=(b 0).st k
 step : ∀ τ,τ<T->Stp m n (b τ) (cs τ) (rs τ) (b (τ+1))
def Run.at {m n:Nat}{col:Nat->Nat->Int}{T:Nat}{b:Nat->Sta}{cs rs:Nat->Nat} (h:Run m n col T b cs rs) : ∀ τ,τ<=T->Good m n col (b τ) /\ ∀ k,k<m -> -(m:Int)<=(b τ).st k
 | 0,_=>⟨h.good,h.low⟩
 | τ+1,hτ=>by
  obtain ⟨g,l⟩:=h.at τ (by omega);have s:=h.step τ (by omega);refine ⟨(g.next s).1,fun k hk=>?_⟩;rw [s.st];show _<=if k=rs τ then (cs τ:Int) else (b τ).st k
  by_cases q:k=rs τ
  ·rw [if_pos q];omega
  ·rw [if_neg q];exact l k hk
def Run.short {m n:Nat}{col:Nat->Nat->Int}{T:Nat}{b:Nat->Sta}{cs rs:Nat->Nat} (h:Run m n col T b cs rs):T<(n+m)^m:=by
 refine pig ((n+m)^m) T (fun τ=>enc (n+m) (fun k=>((b τ).st k+m).toNat) m) (fun i hi=>?_) fun i j hij hj e=>?_
 ·obtain ⟨g,l⟩:=h.at i hi;exact qvq fun k hk=>by have:=g.top k hk;have:=l k hk;omega
 ·obtain ⟨g,l⟩:=h.at i (by omega);obtain ⟨g',l'⟩:=h.at j hj;have e2:=zacn (fun k hk=>by have:=g.top k hk;have:=l k hk;omega) (fun k hk=>by have:=g'.top k hk;have:=l' k hk;omega) e;refine zasp (b:=fun τ=>b (i+τ)) (cs:=fun τ=>cs (i+τ)) (rs:=fun τ=>rs (i+τ)) (T:=j-i) (by omega) g (fun τ hτ=>h.step (i+τ) (by omega)) fun k hk=>?_;show (b (i+(j-i))).st k=(b i).st k;rw [show i+(j-i)=j by omega];have a:=e2 k hk;have:=l k hk;have:=l' k hk;have a:((b i).st k+m).toNat=((b j).st k+m).toNat:=a;omega
def Run.snoc {m n:Nat}{col:Nat->Nat->Int}{T:Nat}{b:Nat->Sta}{cs rs:Nat->Nat} (h:Run m n col T b cs rs) {c r:Nat}{b':Sta} (s:Stp m n (b T) c r b') :
 Run m n col (T+1) (fun τ=>if τ<=T then b τ else b') (fun τ=>if τ<T then cs τ else c) (fun τ=>if τ<T then rs τ else r) where
  good:=by rw [if_pos (Yc _)];exact h.good
  low:=by rw [if_pos (Yc _)];exact h.low
  step:=fun τ hτ=>by
   by_cases q:τ<T
   ·rw [if_pos (by omega),if_pos q,if_pos q,if_pos (by omega)];exact h.step τ q
   ·have:τ=T:=by omega
    subst this;rw [if_pos (Qr _),if_neg q,if_neg q,if_neg (by omega)];exact s
def Good.fits {m n:Nat}{col:Nat->Nat->Int}{b:Sta} (h:Good m n col b) (h0:lack m b (n+m)=0) {x:Nat} (hx:x<m) :
 b.d*col (n+m) x=qk m fun k=>if b.st k<0 then 0 else b.L k (n+m)*col (b.st k).toNat x:=by
  rw [h.brd.hI (n+m) x hx];refine qh fun k hk=>?_;by_cases q:b.st k<0
  ·rw [if_pos q];have:b.L k (n+m)=0:=by
    have s0:=h.sum k hk;by_cases g:b.L k (n+m)=0
    ·exact g
    ·exfalso;have:0<lack m b (n+m):=by
      unfold lack;have e:(qk m fun i=>if b.st i<0 then b.L i (n+m) else 0)=(qk m fun i=>if i=k then b.L k (n+m) else 0)+qk m fun i=>if i=k then 0 else if b.st i<0 then b.L i (n+m) else 0:=by
       rw [<- qap];refine qh fun i _=>?_;by_cases z:i=k
       ·subst z;rw [if_pos rfl,if_pos rfl,if_pos q];omega
       ·rw [if_neg z,if_neg z];omega
      rw [e,qL hk fun i _ z=>if_neg z,if_pos rfl];have:0<=qk m fun i=>if i=k then 0 else if b.st i<0 then b.L i (n+m) else 0:=qcw fun i hi=>by
       by_cases z:i=k
       ·rw [if_pos z];omega
       ·rw [if_neg z];by_cases y:b.st i<0
        ·rw [if_pos y];exact h.sum i hi
        ·rw [if_neg y];omega
      omega
     omega
   rw [this];omega
  ·rw [if_neg q];unfold Bas;rw [if_neg q]
def zagq {m:Nat}{b:Sta}{c:Nat} (h:0<lack m b c) : ∃ k,k<m/\0<b.L k c:=by
 obtain ⟨k,hk,z⟩:=qio h;by_cases q:b.st k<0
 ·rw [if_pos q] at z;exact ⟨k,hk,z⟩
 ·rw [if_neg q] at z;omega
def qrd {f:Nat->Int}{C:Nat} : ∀ {n:Nat},(∀ i,i<n->(f i).natAbs<=C)->(qk n f).natAbs<=n*C
 | 0,_=>by simp [qk]
 | n+1,h=>by
  have a:=qrd (f:=f) (C:=C) (n:=n) fun i hi=>h i (by omega);have b:=h n (by omega);show (qk n f+f n).natAbs<=_;rw [Nat.add_mul,Qkf];have:=Int.natAbs_add_le (qk n f) (f n);omega
def fct:Nat->Nat
 | 0=>1
 | n+1=>(n+1)*fct n
def qur {M:Nat} : ∀ {m:Nat}{a:Nat->Nat->Int},(∀ x y,x<m->y<m->(a x y).natAbs<=M)->(det m a).natAbs<=fct m*M^m
 | 0,_,_=>by simp [det,fct]
 | m+1,a,h=>by
  show (qk (m+1) _).natAbs<=(m+1)*fct m*M^(m+1);have e:(m+1)*fct m*M^(m+1)=(m+1)*(M*(fct m*M^m)):=by rw [Qje];grind
  rw [e];refine qrd fun i hi=>?_;have d:=qur (M:=M) (m:=m) (a:=fun x y=>a (skip i x) (y+1)) fun x y hx hy=>h _ _ (qvk hx) (by omega);have s:(sgn i).natAbs=1:=by unfold sgn;split <;> rfl
  rw [Qep,Qep,s,Qkf];exact Yx (h i 0 hi (by omega)) d
def qce (f:Nat->Int) : ∀ n:Nat,((Q1 n).map f).sum=qk n f
 | 0=>rfl
 | n+1=>by rw [Qkg,Zm,Jr,qce f n];simp [qk]
def qxn {f:Nat->Int}{n:Nat} (h : ∀ k,k<n->f k<=0):qk n f<=0:=by
 rcases Qbm 0 (qk n f) with z|z
 ·obtain ⟨k,hk,p⟩:=qio z;have:=h k hk;omega
 ·exact z
def qqx {B q d:Int} (hB:0<B) (hq:0<q) (h1:B∣d) (h2:q∣d):0<B*q/(Yq B q:Int)/\B*q/(Yq B q:Int)∣d/\B∣B*q/(Yq B q:Int)/\q∣B*q/(Yq B q:Int):=by
 obtain ⟨x,rfl⟩:=Zt (Vu hB);obtain ⟨y,rfl⟩:=Zt (Vu hq);have e:(x:Int)*(y:Int)/(Yq x y:Int)=((Nat.lcm x y:Nat):Int):=by
  unfold Nat.lcm;rw [Int.gcd_natCast_natCast,Qfx,Qal]
 rw [e];have p:0<Nat.lcm x y:=Nat.lcm_pos (by omega) (by omega);refine ⟨by omega,?_,J5.mpr (Nat.dvd_lcm_left x y),J5.mpr (Nat.dvd_lcm_right x y)⟩;rw [Qij] at h1 h2 ⊢;exact Nat.lcm_dvd h1 h2
def dSh (p q:Int):Qh :=.tuple [.int p,.int q]
structure ShW (p q:Int):Prop where
 s:Shr p q
 b1:intBits p<=4000
 b2:intBits q<=4000
def ShW.bot {p q r s:Int} (h:ShW p q) (k:ShW r s):q*s≠0/\intBits (q*s)<=9000:=by
 have h1:=h.s.pos;have h2:=k.s.pos;have:=Yl (show 0<q by omega) (show 0<s by omega);exact ⟨by omega,qA (Qes h.b2 k.b2) (by decide)⟩
def zaqd {t b:Int} (hb:b≠0) (h1:intBits t<=4000) (h2:intBits b<=4000):ShW (shT t b) (shB t b):=⟨(qvv hb).1,qim h1,zaif h2⟩
structure CmpPre (b:Int) (R:List (List Int)) (m:Nat) (c:Int) (S:List (List Int)) (n:Nat):Prop where
 r:Tab b R m
 s:Tab c S n
 l:R.length=S.length
 w1:1<=R.length
 w2:R.length<=4
 m1:1<=m
 m2:m<=4
 n1:1<=n
 n2:n<=4
 zb:b<=20000000
 zc:c<=20000000
def qck (r:List Int) (j n:Nat):List Int:=(Q1 (r.length*n)).map fun p=>if p%n=j then (r[p/n]?).getD 0 else 0
def qma (b:Int) (i m n:Nat):List Int:=(Q1 (m*n)).map fun p=>if p/n=i then b else 0
def eqL (b:Int) (R:List (List Int)) (m n:Nat):List (List Int):=(R.map fun r=>(Q1 n).map fun j=>qck r j n).flatten++(Q1 m).map fun i=>qma b i m n
def qfu (S:List (List Int)) (c:Int) (m:Nat):List Int:=S.flatten++(Q1 m).map fun _=>c
def qbf {α:Type}{n:Nat} : ∀ {L:List (List α)},(∀ l ∈ L,l.length=n)->L.flatten.length=L.length*n
 | [],_=>by simp
 | l::L,h=>by
  rw [Qap,Z1,qbf fun x hx=>h x (Qu _ hx),h l (by simp),Zb,Qed];omega
def qrh {α:Type}{n:Nat} : ∀ {L:List (List α)}{s j:Nat},(∀ l ∈ L,l.length=n)->j<n->L.flatten[s*n+j]?=(L[s]?).bind fun l=>l[j]?
 | [],s,j,_,_=>by simp
 | l::L,0,j,h,hj=>by
  have e:=h l (by simp);rw [Qap,Nat.zero_mul,Qbl,Zg (by omega)];rfl
 | l::L,s+1,j,h,hj=>by
  have e:=h l (by simp);rw [Qap,Z5 (by rw [e,Qed];omega),e,show (s+1)*n+j-n=s*n+j by rw [Qed];omega,qrh (fun x hx=>h x (Qu _ hx)) hj];rfl
def qin (f:Nat->Int) (a:Nat) : ∀ b:Nat,qk (a+b) f=qk a f+qk b fun j=>f (a+j)
 | 0=>by show qk a f=qk a f+0;omega
 | b+1=>by
  show qk (a+b) f+f (a+b)=qk a f+(qk b (fun j=>f (a+j))+f (a+b));rw [qin f a b];omega
def qgk (f:Nat->Int) (n:Nat) : ∀ m:Nat,qk (m*n) f=qk m fun i=>qk n fun j=>f (i*n+j)
 | 0=>by rw [Nat.zero_mul];rfl
 | m+1=>by
  rw [Qed,qin,qgk f n m];rfl
def qqu {i j n:Nat} (hj:j<n):(i*n+j)/n=i/\(i*n+j)%n=j:=by
 refine ⟨?_,?_⟩
 ·rw [Qbn,Nat.mul_add_div (by omega),Qfw hj,Nat.add_zero]
 ·rw [Qbn,Nat.mul_add_mod,Nat.mod_eq_of_lt hj]
def qfj {i j m n:Nat} (hi:i<m) (hj:j<n):i*n+j<m*n:=by
 have:(i+1)*n<=m*n:=Qde n hi;rw [Qed] at this;omega
def qlu {r:List Int}{j n i j':Nat} (hi:i<r.length) (hj:j'<n):((qck r j n)[i*n+j']?).getD 0=if j'=j then (r[i]?).getD 0 else 0:=by
 unfold qck;rw [Qa,Qn (qfj hi hj)];show (if (i*n+j')%n=j then _ else _)=_;rw [(qqu hj).1,(qqu hj).2]
def qpa {b:Int}{i m n i' j':Nat} (hi:i'<m) (hj:j'<n):((qma b i m n)[i'*n+j']?).getD 0=if i'=i then b else 0:=by
 unfold qma;rw [Qa,Qn (qfj hi hj)];show (if (i'*n+j')/n=i then _ else _)=_;rw [(qqu hj).1]
section
variable {b:Int}{R:List (List Int)}{m:Nat}{c:Int}{S:List (List Int)}{n:Nat}
def qcu (R:List (List Int)) (n:Nat) : ∀ l ∈ R.map fun r=>(Q1 n).map fun j=>qck r j n,l.length=n:=fun l hl=>by
 obtain ⟨r,_,rfl⟩:=Qk.mp hl;simp
def qjj (b:Int) (R:List (List Int)) (m n:Nat):(eqL b R m n).length=R.length*n+m:=by
 unfold eqL;rw [Z1,qbf (qcu R n),Qf,Qf,Yz]
def zadw (h:CmpPre b R m c S n):(qfu S c m).length=R.length*n+m:=by
 unfold qfu;rw [Z1,qbf h.s.len,Qf,Yz,h.l]
def qlv {s j:Nat} (hs:s<R.length) (hj:j<n):(eqL b R m n)[s*n+j]?=some (qck ((R[s]?).getD []) j n):=by
 unfold eqL;rw [Zg (by rw [qbf (qcu R n),Qf];exact qfj hs hj),qrh (qcu R n) hj,Qa,Qc hs];show ((Q1 n).map fun j=>qck R[s] j n)[j]?=_;rw [Qa,Qn hj];rfl
def qpr {i:Nat} (hi:i<m):(eqL b R m n)[R.length*n+i]?=some (qma b i m n):=by
 unfold eqL;rw [Z5 (by rw [qbf (qcu R n),Qf];omega),qbf (qcu R n),Qf,show R.length*n+i-R.length*n=i by omega,Qa,Qn hi];rfl
def qpb (h:CmpPre b R m c S n) {s j:Nat} (hs:s<R.length) (hj:j<n):((qfu S c m)[s*n+j]?).getD 0=at2 S s j:=by
 have hs':s<S.length:=by rw [<- h.l];exact hs
 unfold qfu at2;rw [Zg (by rw [qbf h.s.len];exact qfj hs' hj),qrh h.s.len hj,Qc hs'];rfl
def qtk (h:CmpPre b R m c S n) {i:Nat} (hi:i<m):((qfu S c m)[R.length*n+i]?).getD 0=c:=by
 unfold qfu;rw [Z5 (by rw [qbf h.s.len,h.l];omega),qbf h.s.len,h.l,show S.length*n+i-S.length*n=i by omega,Qa,Qn hi];rfl
def qpy (h:CmpPre b R m c S n) {s:Nat} (hs:s<R.length):((R[s]?).getD []).length=m:=by
 rw [Qc hs];exact h.r.len _ (Q7 hs)
def zafo (h:CmpPre b R m c S n) {s j:Nat} (hs:s<R.length) (hj:j<n) (X:Nat->Int):(qk (m*n) fun u=>at2 (eqL b R m n) (s*n+j) u*X u)=qk m fun i=>at2 R s i*X (i*n+j):=by
 rw [qgk];refine qh fun i hi=>?_;rw [qL hj fun j' hj' ne=>?_]
 ·show ((((eqL b R m n)[s*n+j]?).getD [])[i*n+j]?).getD 0*_=_;rw [qlv hs hj];show ((qck ((R[s]?).getD []) j n)[i*n+j]?).getD 0*_=_;rw [qlu (by rw [qpy h hs];exact hi) hj,if_pos rfl];rfl
 ·show ((((eqL b R m n)[s*n+j]?).getD [])[i*n+j']?).getD 0*_=_;rw [qlv hs hj];show ((qck ((R[s]?).getD []) j n)[i*n+j']?).getD 0*_=_;rw [qlu (by rw [qpy h hs];exact hi) hj',if_neg ne,Vj]
def zamb {i:Nat} (hi:i<m) (X:Nat->Int):(qk (m*n) fun u=>at2 (eqL b R m n) (R.length*n+i) u*X u)=b*qk n fun j=>X (i*n+j):=by
 rw [qgk,qL hi fun i' hi' ne=>?_,<- qr]
 ·refine qh fun j hj=>?_;show ((((eqL b R m n)[R.length*n+i]?).getD [])[i*n+j]?).getD 0*_=_;rw [qpr hi];show ((qma b i m n)[i*n+j]?).getD 0*_=_;rw [qpa hi hj,if_pos rfl]
 ·refine qae fun j hj=>?_;show ((((eqL b R m n)[R.length*n+i]?).getD [])[i'*n+j]?).getD 0*_=_;rw [qpr hi];show ((qma b i m n)[i'*n+j]?).getD 0*_=_;rw [qpa hi' hj,if_neg ne,Vj]
def zadg {r:List Int}{j n:Nat}{x:Int} (h:x ∈ qck r j n):x=0\/x ∈ r:=by
 obtain ⟨p,_,rfl⟩:=Qk.mp h;split
 ·cases e:r[p/n]? with
  | none=>exact .inl rfl
  | some y=>exact .inr (Qg e)
 ·exact .inl rfl
def zamo (h:CmpPre b R m c S n):SvPre (m*n) (eqL b R m n) (qfu S c m):=by
 have hb:=h.r.pos;have hc:=h.s.pos;have mn:m*n<=4*4:=Yx h.m2 h.n2;have wn:R.length*n<=4*4:=Yx h.w2 h.n2;have m1:=h.m1;have m2:=h.m2;have mn1:1*1<=m*n:=Yx h.m1 h.n1;have zb:=h.zb;have zc:=h.zc;refine ⟨⟨by rw [zadw h,qjj],fun r hr=>?_,by omega,by rw [qjj];omega⟩,by omega,by rw [qjj];omega,fun r hr x hx=>?_,fun x hx=>?_⟩
 ·unfold eqL at hr;rcases Zf.mp hr with q|q
  ·obtain ⟨l,hl,q⟩:=Qbg.mp q;obtain ⟨r0,h0,rfl⟩:=Qk.mp hl;obtain ⟨j,_,rfl⟩:=Qk.mp q;simp [qck,h.r.len r0 h0]
  ·obtain ⟨i,_,rfl⟩:=Qk.mp q;simp [qma]
 ·unfold eqL at hr;rcases Zf.mp hr with q|q
  ·obtain ⟨l,hl,q⟩:=Qbg.mp q;obtain ⟨r0,h0,rfl⟩:=Qk.mp hl;obtain ⟨j,_,rfl⟩:=Qk.mp q;rcases zadg hx with rfl|hx
   ·decide
   ·have:=h.r.le h0 hx;omega
  ·obtain ⟨i,_,rfl⟩:=Qk.mp q;obtain ⟨p,_,rfl⟩:=Qk.mp hx;split <;> omega
 ·unfold qfu at hx;rcases Zf.mp hx with q|q
  ·obtain ⟨l,hl,q⟩:=Qbg.mp q;have:=h.s.le hl q;omega
  ·obtain ⟨_,_,rfl⟩:=Qk.mp q;omega
structure Dul (b:Int) (R:List (List Int)) (m:Nat) (c:Int) (S:List (List Int)) (n:Nat) (B:Int) (D:List (List Int)):Prop where
 t:Tab B D n
 l:D.length=m
 e : ∀ s j,s<R.length->j<n->c*(qk m fun i=>at2 R s i*at2 D i j)=at2 S s j*b*B
structure Dls (b:Int) (R:List (List Int)) (m:Nat) (c:Int) (S:List (List Int)) (n:Nat) (B:Int) (D:List (List Int)):Prop where
 u:Dul b R m c S n B D
 g:qac D=1
 z:intBits B<=3000
structure Dcs (b:Int) (R:List (List Int)) (m:Nat) (c:Int) (S:List (List Int)) (n:Nat) (W:List (List Int)):Prop where
 l:W.length=R.length
 w : ∀ r ∈ W,r.length=n
 v : ∃ v:Nat->Int,(∀ i j,i<m->j<n->(qk R.length fun s=>at2 R s i*at2 W s j)+b*v i<=0)/\0<(qk R.length fun s=>qk n fun j=>at2 S s j*at2 W s j)+c*qk m v
def qG {α:Type} (l:List α) (n w:Nat):List (List α):=(Q1 w).map fun k=>(l.drop (k*n)).take n
def qdm {α:Type}{l:List α}{n w k:Nat} (hk:k<w):(qG l n w)[k]?=some ((l.drop (k*n)).take n):=by
 unfold qG;rw [Qa,Qn hk];rfl
def zabi {α:Type}{l:List α}{n k j:Nat} (hj:j<n):((l.drop (k*n)).take n)[j]?=l[k*n+j]?:=by
 rw [Qbk hj,Qik]
def qss {l:List Int}{n w k j:Nat} (hk:k<w) (hj:j<n):at2 (qG l n w) k j=(l[k*n+j]?).getD 0:=by
 unfold at2;rw [qdm hk];show (((l.drop (k*n)).take n)[j]?).getD 0=_;rw [zabi hj]
def zagp (h:CmpPre b R m c S n) {ws:List Int} (hw:zajx (m*n) (eqL b R m n) (qfu S c m) ws):Dcs b R m c S n (qG ws n R.length):=by
 obtain ⟨h1,h2,h3⟩:=hw;rw [qjj] at h1 h2 h3;have hcut : ∀ k,k<R.length->((ws.drop (k*n)).take n).length=n:=fun k hk=>by
  rw [Vz,Qcy,h1];have n1:=h.n1;have a:=qfj (i:=k) (j:=n-1) (m:=R.length) (n:=n) hk (by omega);omega
 refine ⟨by simp [qG],fun r hr=>?_,fun i=>(ws[R.length*n+i]?).getD 0,fun i j hi hj=>?_,?_⟩
 ·obtain ⟨k,hk,rfl⟩:=Qk.mp hr;exact hcut k (Zh.mp hk)
 ·have:=h2 (i*n+j) (qfj hi hj);rw [qin,qgk] at this;have e1:(qk R.length fun s=>qk n fun j'=>at2 (eqL b R m n) (s*n+j') (i*n+j)*(ws[s*n+j']?).getD 0)=qk R.length fun s=>at2 R s i*at2 (qG ws n R.length) s j:=qh fun s hs=>by
   rw [qL hj fun j' hj' ne=>?_]
   ·rw [qss hs hj];show ((((eqL b R m n)[s*n+j]?).getD [])[i*n+j]?).getD 0*_=_;rw [qlv hs hj];show ((qck ((R[s]?).getD []) j n)[i*n+j]?).getD 0*_=_;rw [qlu (by rw [qpy h hs];exact hi) hj,if_pos rfl];rfl
   ·show ((((eqL b R m n)[s*n+j']?).getD [])[i*n+j]?).getD 0*_=_;rw [qlv hs hj'];show ((qck ((R[s]?).getD []) j' n)[i*n+j]?).getD 0*_=_;rw [qlu (by rw [qpy h hs];exact hi) hj,if_neg (Z0 ne),Vj]
  have e2:(qk m fun j'=>at2 (eqL b R m n) (R.length*n+j') (i*n+j)*(ws[R.length*n+j']?).getD 0)=b*(ws[R.length*n+i]?).getD 0:=by
   rw [qL hi fun i' hi' ne=>?_]
   ·show ((((eqL b R m n)[R.length*n+i]?).getD [])[i*n+j]?).getD 0*_=_;rw [qpr hi];show ((qma b i m n)[i*n+j]?).getD 0*_=_;rw [qpa hi hj,if_pos rfl]
   ·show ((((eqL b R m n)[R.length*n+i']?).getD [])[i*n+j]?).getD 0*_=_;rw [qpr hi'];show ((qma b i' m n)[i*n+j]?).getD 0*_=_;rw [qpa hi hj,if_neg (Z0 ne),Vj]
  rw [e1,e2] at this;exact this
 ·rw [qin,qgk] at h3;have e1:(qk R.length fun s=>qk n fun j=>((qfu S c m)[s*n+j]?).getD 0*(ws[s*n+j]?).getD 0)=qk R.length fun s=>qk n fun j=>at2 S s j*at2 (qG ws n R.length) s j:=qh fun s hs=>qh fun j hj=>by
   rw [qpb h hs hj,qss hs hj]
  have e2:(qk m fun i=>((qfu S c m)[R.length*n+i]?).getD 0*(ws[R.length*n+i]?).getD 0)=c*qk m fun i=>(ws[R.length*n+i]?).getD 0:=by
   rw [<- qr];exact qh fun i hi=>by rw [qtk h hi]
  rw [e1,e2] at h3;exact h3
structure LcmB (V:List (List (Int×Int))) (B:Int):Prop where
 pos:0<B
 dv : ∀ r ∈ V,∀ x ∈ r,x.2∣B
 un : ∀ d:Int,(∀ r ∈ V,∀ x ∈ r,x.2∣d)->B∣d
def qX (B:Int) (r:List (Int×Int)):List Int:=r.map fun x=>x.1*(B/x.2)
def zanr {V:List (List (Int×Int))}{B g:Int} (h:LcmB V B) (hs : ∀ r ∈ V,∀ x ∈ r,Shr x.1 x.2) (g0:0<g) (gB:g∣B) (hg : ∀ r ∈ V,∀ y ∈ qX B r,g∣y):g=1:=by
 obtain ⟨t,e⟩:=gB;have hB:=h.pos;have t0:0<t:=by
  rcases Qbm 0 t with q|q
  ·exact q
  ·have:=Zn (Vu g0) (show 0 <= -t by omega);rw [Qkh] at this;omega
 have hd:B∣t:=h.un t fun r hr x hx=>by
  have s:=hs r hr x hx;obtain ⟨k,hk⟩:=hg r hr _ (Qk.mpr ⟨x,hx,rfl⟩);obtain ⟨u,hu⟩:=h.dv r hr x hx;have q0:x.2≠0:=by have:=s.pos;omega
  rw [hu,Vx _ q0] at hk;refine zamz s.gcd ⟨k,?_⟩;have:g*(x.1*t)=g*(x.2*k):=by
   have e':x.2*u=g*t:=by rw [<- hu,e]
   calc g*(x.1*t)=x.1*(g*t):=by grind
    _=x.1*(x.2*u):=by rw [e']
    _=x.2*(x.1*u):=by grind
    _=x.2*(g*k):=by rw [hk]
    _=g*(x.2*k):=by grind
  exact Zi (by omega) this
 have le1:=Qlc t0 hd;rw [e] at le1;rcases Qbm 1 g with q|q
 ·have:=Qdu q t0;omega
 ·omega
def qZ (b c:Int) (x:Int×Int):Int×Int:=(shT (x.1*shT b c) (x.2*shB b c),shB (x.1*shT b c) (x.2*shB b c))
def qqj {b c:Int}{x:Int×Int} (hb:0<b) (hc:0<c) (hx:Shr x.1 x.2):Shr (qZ b c x).1 (qZ b c x).2/\(qZ b c x).1*(x.2*c)=x.1*b*(qZ b c x).2/\(qZ b c x).2∣x.2*c:=by
 obtain ⟨s1,e1⟩:=qvv (t:=b) (b:=c) (by omega);have hx0:=hx.pos;have q0:x.2*shB b c≠0:=by
  have:=Yl (show 0<x.2 by omega) (show 0<shB b c by have:=s1.pos;omega);omega
 obtain ⟨s2,e2⟩:=qvv (t:=x.1*shT b c) (b:=x.2*shB b c) q0;refine ⟨s2,?_,?_⟩
 ·have hbb:shT b c≠0:=by
   intro z;rw [z,Vj] at e1;have:=Yl hb (show 0<shB b c by have:=s1.pos;omega);omega
  have s0:shB b c≠0:=by have:=s1.pos;omega
  show shT (x.1*shT b c) (x.2*shB b c)*(x.2*c)=x.1*b*shB (x.1*shT b c) (x.2*shB b c);generalize shT (x.1*shT b c) (x.2*shB b c)=P at e2;generalize shB (x.1*shT b c) (x.2*shB b c)=Q at e2;generalize shT b c=t at *;generalize shB b c=u at *;have:u*(P*(x.2*c))=u*(x.1*b*Q):=by
   calc u*(P*(x.2*c))=(P*(x.2*u))*c:=by grind
    _=(x.1*t*Q)*c:=by rw [e2]
    _=x.1*Q*(t*c):=by grind
    _=x.1*Q*(b*u):=by rw [e1]
    _=u*(x.1*b*Q):=by grind
  exact Zi s0 this
 ·refine Vs (b:=x.2*shB b c) ⟨cm (x.1*shT b c) (x.2*shB b c),?_⟩ ?_
  ·exact (qjs _ _).symm.trans (Zu _ _)
  ·exact Qgl (Qjf _) ⟨cm b c,(qjs _ _).symm.trans (Zu _ _)⟩
def zagh {f:List (Int×Int)->List Int}{V:List (List (Int×Int))}{i j:Nat}{r:List (Int×Int)} (h:V[i]?=some r):at2 (V.map f) i j=((f r)[j]?).getD 0:=by
 unfold at2;rw [Qa,h];rfl
def zalc (h:CmpPre b R m c S n) {vs:List (Int×Int)} (hv:FitV (m*n) (eqL b R m n) (qfu S c m) vs) {B:Int} (hB:LcmB (qG (vs.map (qZ b c)) n m) B) :
 Dls b R m c S n B ((qG (vs.map (qZ b c)) n m).map (qX B)):=by
  obtain ⟨vl,d,d0,zd,hx,he⟩:=hv;have hb:=h.r.pos;have hc:=h.s.pos;have n1:=h.n1;have hget : ∀ i j,i<m->j<n -> ∃ x,vs[i*n+j]?=some x/\x ∈ vs:=fun i j hi hj=>by
   have e:vs[i*n+j]?=some (vs[i*n+j]'(by rw [vl];exact qfj hi hj)):=Qc _;exact ⟨_,e,Qg e⟩
  have hrow : ∀ r ∈ qG (vs.map (qZ b c)) n m,r.length=n /\ ∀ y ∈ r,∃ x ∈ vs,y=qZ b c x:=fun r hr=>by
   obtain ⟨k,hk,rfl⟩:=Qk.mp hr;have hk:=Zh.mp hk;refine ⟨?_,fun y hy=>?_⟩
   ·rw [Vz,Qcy,Qf,vl];have a:=qfj (i:=k) (j:=n-1) (m:=m) (n:=n) hk (by omega);omega
   ·obtain ⟨x,hx,rfl⟩:=Qk.mp (Qdf (Qay hy));exact ⟨x,hx,rfl⟩
  have hsh : ∀ r ∈ qG (vs.map (qZ b c)) n m,∀ y ∈ r,Shr y.1 y.2/\0<=y.1:=fun r hr y hy=>by
   obtain ⟨x,hxm,rfl⟩:=(hrow r hr).2 y hy;obtain ⟨q1,q2,_,_⟩:=hx x hxm;obtain ⟨g1,g2,_⟩:=qqj (show 0<b by omega) (show 0<c by omega) q1;refine ⟨g1,?_⟩;have e0:0<=x.1*b*(qZ b c x).2:=Zn (Zn q2 (by omega)) (by have:=g1.pos;omega);rw [<- g2] at e0;have p0:0<x.2*c:=Yl (by have:=q1.pos;omega) (by omega);rcases Qbm (qZ b c x).1 0 with z|z
   ·have:=Int.mul_neg_of_neg_of_pos z p0;omega
   ·exact z
  have Bd:B∣d*c:=hB.un _ fun r hr y hy=>by
   obtain ⟨x,hxm,rfl⟩:=(hrow r hr).2 y hy;obtain ⟨q1,_,q3,_⟩:=hx x hxm;exact Vs (qqj (show 0<b by omega) (show 0<c by omega) q1).2.2 (Qgl q3 (Qjf _))
  have B0:=hB.pos;have key : ∀ i j,i<m->j<n->at2 ((qG (vs.map (qZ b c)) n m).map (qX B)) i j*(d*c)=B*b*(((vs[i*n+j]?).getD (0,1)).1*(d/((vs[i*n+j]?).getD (0,1)).2)):=fun i j hi hj=>by
   obtain ⟨x,ex,hxm⟩:=hget i j hi hj;obtain ⟨q1,q2,⟨e,he'⟩,_⟩:=hx x hxm;obtain ⟨g1,g2,_⟩:=qqj (show 0<b by omega) (show 0<c by omega) q1;have hy:((vs.map (qZ b c)).drop (i*n)).take n ∈ qG (vs.map (qZ b c)) n m:=Qg (qdm hi);have ey:(((vs.map (qZ b c)).drop (i*n)).take n)[j]?=some (qZ b c x):=by rw [zabi hj,Qa,ex];rfl
   obtain ⟨t,ht⟩:=hB.dv _ hy _ (Qg ey);rw [zagh (qdm hi),ex];unfold qX;rw [Qa,ey];show (qZ b c x).1*(B/(qZ b c x).2)*(d*c)=B*b*(x.1*(d/x.2));have y0:(qZ b c x).2≠0:=by have:=g1.pos;omega
   have x0:x.2≠0:=by have:=q1.pos;omega
   have e1:B/(qZ b c x).2=t:=by rw [ht,Vx _ y0]
   have e2:d/x.2=e:=by rw [he',Vx _ x0]
   rw [e1,e2,ht,he'];generalize (qZ b c x).1=P at *;generalize (qZ b c x).2=Q at *
   calc P*t*(x.2*e*c)=(P*(x.2*c))*(t*e):=by grind
    _=(x.1*b*Q)*(t*e):=by rw [g2]
    _=Q*t*b*(x.1*e):=by grind
  have dc0:d*c≠0:=by have:=Yl d0 (show 0<c by omega);omega
  have hlen : ∀ r ∈ (qG (vs.map (qZ b c)) n m).map (qX B),r.length=n:=fun r hr=>by
   obtain ⟨r0,h0,rfl⟩:=Qk.mp hr;unfold qX;rw [Qf];exact (hrow r0 h0).1
  have hnn : ∀ r ∈ (qG (vs.map (qZ b c)) n m).map (qX B),∀ x ∈ r,0<=x:=fun r hr x hx'=>by
   obtain ⟨r0,h0,rfl⟩:=Qk.mp hr;obtain ⟨y,hy,rfl⟩:=Qk.mp hx';obtain ⟨s1,s2⟩:=hsh r0 h0 y hy;exact Zn s2 (Qgk (by omega) (by have:=s1.pos;omega))
  have hsum : ∀ r ∈ (qG (vs.map (qZ b c)) n m).map (qX B),r.sum=B:=fun r hr=>by
   obtain ⟨i,hi⟩:=Jj hr;have hi':i<m:=by
    have:=(Qm.mp hi).1;simpa [qG] using this
   have er:r.sum=qk n fun j=>at2 ((qG (vs.map (qZ b c)) n m).map (qX B)) i j:=by
    have e1:r=(Q1 n).map fun j=>at2 ((qG (vs.map (qZ b c)) n m).map (qX B)) i j:=by
     refine Zl fun j=>?_;rw [Qa];by_cases hj:j<n
     ·rw [Qn hj,Qc (by rw [hlen r hr];exact hj)];unfold at2;rw [hi];simp [hlen r hr,hj]
     ·rw [Qo (by rw [hlen r hr];omega),Qo (by simp;omega)];rfl
    have e2:=qce (fun j=>at2 ((qG (vs.map (qZ b c)) n m).map (qX B)) i j) n;rw [<- e1] at e2;exact e2
   have e3:=he (R.length*n+i) (by rw [qjj];omega);rw [zamb hi',qtk h hi'] at e3;have e4:(d*c)*r.sum=(d*c)*B:=by
    rw [er,<- qr];have:(qk n fun j=>d*c*at2 ((qG (vs.map (qZ b c)) n m).map (qX B)) i j)=qk n fun j=>(B*b)*(((vs[i*n+j]?).getD (0,1)).1*(d/((vs[i*n+j]?).getD (0,1)).2)):=qh fun j hj=>by
     rw [Zu (d*c),key i j hi' hj]
    rw [this,qr,Qat B b,<- e3,Zu]
   exact Zi dc0 e4
  refine ⟨⟨⟨by omega,hlen,hnn,hsum⟩,by simp [qG],fun s j hs hj=>?_⟩,?_,?_⟩
  rotate_left
  ·have hT:Tab B ((qG (vs.map (qZ b c)) n m).map (qX B)) n:=⟨by omega,hlen,hnn,hsum⟩
   have hne:(qG (vs.map (qZ b c)) n m).map (qX B)≠[]:=fun z=>by
    have:=congrArg Qjz z;simp [qG] at this;have:=h.m1;omega
   have g0:=hT.gpos hne;have:=zanr hB (fun r hr x hx=>(hsh r hr x hx).1) (show (0:Int)<qac ((qG (vs.map (qZ b c)) n m).map (qX B)) by omega) (hT.gdvd hne) fun r hr y hy=>qgm (Qk.mpr ⟨r,hr,rfl⟩) hy;omega
  ·refine Y0 (Qau ?_ (Vb.mpr Bd)) (qA (Qes zd (qbl (x:=c) (by omega) (by have:=h.zc;omega))) (by decide));omega
  ·have e3:=he (s*n+j) (by rw [qjj];have:=qfj (m:=R.length) hs hj;omega);rw [zafo h hs hj,qpb h hs hj] at e3;have:d*(c*qk m fun i=>at2 R s i*at2 ((qG (vs.map (qZ b c)) n m).map (qX B)) i j)=d*(at2 S s j*b*B):=by
    have e4:(qk m fun i=>(d*c)*(at2 R s i*at2 ((qG (vs.map (qZ b c)) n m).map (qX B)) i j))=qk m fun i=>(B*b)*(at2 R s i*(((vs[i*n+j]?).getD (0,1)).1*(d/((vs[i*n+j]?).getD (0,1)).2))):=qh fun i hi=>by
     have k:=key i j hi hj
     calc (d*c)*(at2 R s i*at2 ((qG (vs.map (qZ b c)) n m).map (qX B)) i j)=at2 R s i*(at2 ((qG (vs.map (qZ b c)) n m).map (qX B)) i j*(d*c)):=by grind
      _=_:=by rw [k];grind
    rw [qr,qr,<- e3] at e4;rw [<- Qat,e4];grind
   exact Zi (by omega) this
def qpu {b:Int}{R:List (List Int)}{m:Nat}{c:Int}{S:List (List Int)}{n:Nat}{B:Int}{D W:List (List Int)} (hb:0<b) (hc:0<c) (h:Dul b R m c S n B D) (w:Dcs b R m c S n W):False:=by
 obtain ⟨v,h1,h2⟩:=w.v;have hB:=h.t.pos;have s1:(qk m fun i=>qk n fun j=>at2 D i j*((qk R.length fun s=>at2 R s i*at2 W s j)+b*v i))<=0:=qxn fun i hi=>qxn fun j hj=>by
  have d0:0<=at2 D i j:=by
   unfold at2;cases e:D[i]? with
   | none=>exact Yk _
   | some r =>
    show 0<=(r[j]?).getD 0;cases e':r[j]? with
    | none=>exact Yk _
    | some x=>exact h.t.nn r (Qg e) x (Qg e')
  have:=Zn d0 (show 0 <= -((qk R.length fun s=>at2 R s i*at2 W s j)+b*v i) by have:=h1 i j hi hj;omega);rw [Qkh] at this;omega
 have rs : ∀ i,i<m->(qk n fun j=>at2 D i j)=B:=fun i hi=>by
  have hi':i<D.length:=by rw [h.l];exact hi
  have er:D[i]?=some D[i]:=Qc hi';have hl:=h.t.len _ (Q7 hi');rw [<- h.t.sum _ (Q7 hi')];have e1:(Q1 n).map (fun j=>at2 D i j)=D[i]:=by
   refine Zl fun j=>?_;rw [Qa];by_cases hj:j<n
   ·rw [Qn hj,Qc (by rw [hl];exact hj)];unfold at2;rw [er];simp [hl,hj]
   ·rw [Qo (l:=D[i]) (by rw [hl];omega),Qo (by simp;omega)];rfl
  have e2:=qce (fun j=>at2 D i j) n;rw [e1] at e2;exact e2.symm
 have s2:(qk m fun i=>qk n fun j=>at2 D i j*((qk R.length fun s=>at2 R s i*at2 W s j)+b*v i))=(qk R.length fun s=>qk n fun j=>at2 W s j*qk m fun i=>at2 R s i*at2 D i j)+b*B*qk m v:=by
  have a1 : ∀ i,i<m->(qk n fun j=>at2 D i j*((qk R.length fun s=>at2 R s i*at2 W s j)+b*v i))=(qk n fun j=>qk R.length fun s=>at2 D i j*(at2 R s i*at2 W s j))+b*B*v i:=fun i hi=>by
   have:(qk n fun j=>at2 D i j*((qk R.length fun s=>at2 R s i*at2 W s j)+b*v i))=qk n fun j=>(qk R.length fun s=>at2 D i j*(at2 R s i*at2 W s j))+(b*v i)*at2 D i j:=qh fun j hj=>by
    rw [qr,Qco,Zu (at2 D i j) (b*v i)]
   rw [this,qap,qr,rs i hi];grind
  rw [qh a1,qap,qr]
  congr 1
  have sw : ∀ (p q:Nat) (f:Nat->Nat->Int),(qk p fun i=>qk q fun j=>f i j)=qk q fun j=>qk p fun i=>f i j:=fun p q f=>by
   induction p with
   | zero=>exact (qae fun j _=>rfl).symm
   | succ p ih =>
    show (qk p fun i=>qk q fun j=>f i j)+qk q (fun j=>f p j)=qk q fun j=>(qk p fun i=>f i j)+f p j;rw [ih,qap]
  rw [qh fun i _=>sw n R.length fun j s=>at2 D i j*(at2 R s i*at2 W s j),sw];refine qh fun s hs=>?_;rw [sw];refine qh fun j hj=>?_;rw [<- qr];exact qh fun i _=>by grind
 have s3:c*(qk R.length fun s=>qk n fun j=>at2 W s j*qk m fun i=>at2 R s i*at2 D i j)=b*B*qk R.length fun s=>qk n fun j=>at2 S s j*at2 W s j:=by
  rw [<- qr,<- qr];refine qh fun s hs=>?_;rw [<- qr,<- qr];refine qh fun j hj=>?_;have:=h.e s j hs hj
  calc c*(at2 W s j*qk m fun i=>at2 R s i*at2 D i j)=at2 W s j*(c*qk m fun i=>at2 R s i*at2 D i j):=by grind
   _=at2 W s j*(at2 S s j*b*B):=by rw [this]
   _=_:=by grind
 rw [s2] at s1;have bB:=Yl hb (show 0<B by omega);have s4:=Yl bB h2;have s5:=Zn (Vu hc) (show 0 <= -((qk R.length fun s=>qk n fun j=>at2 W s j*qk m fun i=>at2 R s i*at2 D i j)+b*B*qk m v) by omega);rw [Qkh,Qco,s3] at s5;rw [Qco] at s4;have e:c*(b*B*qk m v)=b*B*(c*qk m v):=by grind
 omega
end
def dS (x:Int×Int):Qh:=dSh x.1 x.2
def shG {vs:List (Int×Int)}{i:Nat}{x:Qh} (h:(vs.map dS)[i]?=some x) : ∃ y,vs[i]?=some y/\x=dSh y.1 y.2:=by
 rw [Qa] at h;cases q:vs[i]? with
 | none=>rw [q] at h;cases h
 | some y=>rw [q] at h;exact ⟨y,rfl,(Qp h).symm⟩
def dvdB {x d:Int}{m:Nat} (h:x∣d) (d0:0<d) (z:intBits d<=m):intBits x<=m :=
 Y0 (Qau (by omega) (Vb.mpr h)) z
def zatu (d:Qh) (V:List (List (Int×Int))):Prop := ∃ l,qea d=some l/\l.length=V.length /\ ∀ (i:Nat) (x:Qh),l[i]?=some x -> ∃ r:List (Int×Int),V[i]?=some r/\qea x=some (r.map dS)
structure LcmL (xs:List (Int×Int)) (B:Int):Prop where
 pos:0<B
 dv : ∀ x ∈ xs,x.2∣B
 un : ∀ d:Int,(∀ x ∈ xs,x.2∣d)->B∣d
def LcmL.nil:LcmL [] 1:=⟨by decide,fun x hx=>by simp at hx,fun d _=>⟨d,by omega⟩⟩
def LcmL.snoc {xs:List (Int×Int)}{B:Int}{y:Int×Int} (h:LcmL xs B) (hy:0<y.2):LcmL (xs++[y]) (B*y.2/(Yq B y.2:Int)):=by
 have k:=qqx (d:=B*y.2) h.pos hy ⟨_,rfl⟩ ⟨B,Zu _ _⟩;refine ⟨k.1,fun x hx=>?_,fun d hd=>(qqx h.pos hy (h.un d fun x hx=>hd x (Zf.mpr (.inl hx))) (hd y (by simp))).2.1⟩;rcases Zf.mp hx with q|q
 ·exact Vs (h.dv x q) k.2.2.1
 ·rw [Qy.mp q];exact k.2.2.2
def LcmL.b {V:List (List (Int×Int))}{B:Int} (h:LcmL V.flatten B):LcmB V B :=
 ⟨h.pos,fun r hr x hx=>h.dv x (Qbg.mpr ⟨r,hr,hx⟩),fun d hd=>h.un d fun x hx=>by
  obtain ⟨r,hr,hx⟩:=Qbg.mp hx;exact hd r hr x hx⟩
def zarr {V:List (List (Int×Int))}{i:Nat}{r:List (Int×Int)} (h:V[i]?=some r):(V.take (i+1)).flatten=(V.take i).flatten++r:=by
 rw [Yf,h];simp
def zatc {α:Type}{zs:List α}{i:Nat}{z:α} (h:zs[i]?=some z):zs.take (i+1)=zs.take i++[z]:=by
 rw [Yf,h];rfl
def zamp (b:Int) (R:List (List Int)) (m:Nat) (c:Int) (S:List (List Int)) (n:Nat) (q:Qh->Prop):Prop :=
 (∀ B D,Dls b R m c S n B D->q (.tuple [.str SX,qaa B D])) /\ ∀ W,Dcs b R m c S n W->q (.tuple [.str SG,.tuple (W.map qei)])
def qia (ds:List Qh) (q:Qh->Prop):Prop := ∃ (d:Qh) (r:List (Int×Int)) (B:Int),ds=[d,.int B]/\(qea d=some (r.map dS)/\r.length<=900/\(∀ x ∈ r,Shr x.1 x.2/\intBits x.1<=4000/\x.2∣B)/\0<B/\intBits B<=4000)/\q (qei (qX B r))
def qov:FnScope [Sh,Sc] [Sh,Sc] (defScope qdw):=sc0
def qow (F:Def K mg Ub qdw [Sh,Sc]) (T:Txt K mg cs)
 : Ok P w K mg base Ub 1 [Sh,Sc] (PSp K qia):=by
  refine F.vok qov (by rintro ds q ⟨_,_,_,h,_⟩;rw [h];rfl) fun f cdv A outer s H E hr ds q h=>?_;obtain ⟨d,r,B,rfl,⟨e,hl,hx,B0,zB⟩,h⟩:=h;refine ⟨_,(qj (qC (qbp qfg T.tuple_ L2.boot_tuple (qd (qV (qN (caps:=[Sc]) (own:=["part"]) (ix:=[1]) rfl ⟨rfl,rfl,rfl,rfl,rfl,rfl⟩ (qY (qc 0)) (fun _ _ _ _=>(qp (i:=1) (show Ze ([Sc,"part"]:List Str) by decide))) (fun _ _ _ _=>(qy qbk (qv (qc 1) qf) (qy qgu (qc 0) (qv (qc 1) qf)))))) qe)))),?_⟩;refine qca e (qO ((qX B r).map .int) (by simp [qX]) (qo (by simp [qX];omega)) (fun e => ∃ s,e=[.val (.int B),s]) ⟨_,rfl⟩ ?_ h);rintro i x ys e hx' hys ⟨s,rfl⟩;obtain ⟨y,hy,rfl⟩:=shG hx';obtain ⟨s1,s2,s3⟩:=hx y (Qg hy);have q0:=s1.pos;refine ⟨.int y.1,rfl,.int y.2,rfl,⟨by omega,qA (dvdB s3 B0 zB) (by decide)⟩,qqh s2 (dvdB (x:=B/y.2) ⟨y.2,(Qhu s3).symm⟩ B0 zB),qq ?_ hys,_,rfl⟩;unfold qX;rw [Qa,Qa,hy];rfl
def qcp (ds:List Qh) (q:Qh->Prop):Prop := ∃ (d:Qh) (V:List (List (Int×Int))) (D0:Int),ds=[d]/\(zatu d V/\V.length<=900/\(∀ r ∈ V,r.length<=900 /\ ∀ x ∈ r,Shr x.1 x.2/\intBits x.1<=4000/\x.2∣D0)/\0<D0/\intBits D0<=4000) /\ ∀ B,LcmB V B->q (qaa B (V.map (qX B)))
def qan:FnScope [Si,Sc,Sh,"part"] [Si] (defScope qbo):=sc0
def qjz (F:Def K mg SD qbo [Si]) (T:Txt K mg cs)
 (O_divisor:Ok P w K mg base SU 1 [Se,Sb] (PSp K qcr))
 (O_over_bottom:Ok P w K mg base Ub 1 [Sh,Sc] (PSp K qia))
 : Ok P w K mg base SD 2 [Si] (PSp K qcp):=by
  refine F.vok qan (by rintro ds q ⟨_,_,_,h,_⟩;rw [h];rfl) fun f cdv A outer s H E hr ds q h=>?_;obtain ⟨d,V,D0,rfl,⟨⟨l,e,el,hV⟩,hl,hx,d0,zd⟩,h⟩:=h;refine ⟨_,(qg (qt (i:=1) qan.nd qf)
   (qg (qby rfl (qY (qc 0)) (qp (i:=2) qan.nd) (qj (qby rfl (qY (qc 2)) (qp (i:=3) qan.nd) (qj (qt (i:=1) qan.nd (qy qgu (qy qbk (qc 1) (qv (qc 3) qf)) (qB O_divisor hr.m (qd (qc 1) (qd (qv (qc 3) qf) qe)))))))))
   (qj (qC (qjt (qd (qc 1) (qd (qbp qfg T.tuple_ L2.boot_tuple (qd (qV (qN (caps:=[Sc]) (own:=[Sh]) (ix:=[1]) rfl ⟨rfl,rfl,rfl,rfl,rfl,rfl⟩ (qY (qc 0)) (fun _ _ _ _=>(qp (i:=1) (show Ze ([Sc,Sh]:List Str) by decide))) (fun _ _ _ _=>(qB O_over_bottom hr.m (qd (qc 1) (qd (qc 0) qe)))))) qe)) qe))))))),?_⟩
  refine qca e ⟨fun i e => ∃ t1 t2 B,e=[.val d,.val (.int B),t1,t2]/\LcmL (V.take i).flatten B/\B∣D0,⟨_,_,_,rfl,by simpa using LcmL.nil,⟨D0,by omega⟩⟩,?_,?_⟩
  ·rintro i x e' hxi ⟨t1,t2,B,rfl,hB,Bd⟩;obtain ⟨r,hr,er⟩:=hV i x hxi;refine qca er ⟨fun j e => ∃ t2 B,e=[.val d,.val (.int B),.val x,t2]/\LcmL ((V.take i).flatten++r.take j) B/\B∣D0,⟨_,_,rfl,by simpa using hB,Bd⟩,?_,?_⟩
   ·rintro j y e hy ⟨t2,B,rfl,hB,Bd⟩;obtain ⟨z,hz,rfl⟩:=shG hy;obtain ⟨s1,s2,s3⟩:=(hx r (Qg hr)).2 z (Qg hz);have q0:=s1.pos;have B0:=hB.pos;have gp:(0:Int)<(Yq B z.2:Nat):=by have:=Qdj B (show z.2≠0 by omega);omega
    refine ⟨.int z.2,rfl,qqh (dvdB Bd d0 zd) (dvdB s3 d0 zd),.int z.2,rfl,⟨gp,qA (dvdB (Vs (Qjq ..) Bd) d0 zd) (by decide)⟩,_,_,rfl,?_,(qqx B0 (show 0<z.2 by omega) Bd s3).2.1⟩;rw [zatc hz,<- List.append_assoc];exact hB.snoc (by omega)
   ·rintro e ⟨t2,B,rfl,hB,Bd⟩;refine ⟨_,_,_,rfl,?_,Bd⟩;rw [Qf,Zq] at hB;rw [zarr hr];exact hB
  rintro e' ⟨t1,t2,B,rfl,hB,Bd⟩;rw [el,Zq] at hB;have hB':=hB.b;have B0:=hB.pos;have zB:=dvdB Bd d0 zd;refine qca e (qO ((V.map (qX B)).map qei) (by simp [el]) (qo (by simp;omega)) (fun e => ∃ s,e=[.val (.int B),s]) ⟨_,rfl⟩ ?_ ⟨szl,h B hB'⟩);rintro i x ys e' hxi hys ⟨s,rfl⟩;obtain ⟨r,hr,er⟩:=hV i x hxi;obtain ⟨rl,rx⟩:=hx r (Qg hr);refine ⟨x,r,B,rfl,⟨er,rl,fun y hy=>⟨(rx y hy).1,(rx y hy).2.1,hB'.dv r (Qg hr) y hy⟩,B0,zB⟩,qq ?_ hys,_,rfl⟩;rw [Qa,Qa,hr];rfl
def qcq (ds:List Qh) (q:Qh->Prop):Prop := ∃ b r R,ds=[qaa b (r::R)]/\q (.int (r.length:Nat))
def zago:FnScope [Sg] [Sg] (defScope qpp):=sc0
def zahf (F:Def K mg SL qpp [Sg]) (T:Txt K mg cs)
 : Ok P w K mg base SL 1 [Sg] (PSp K qcq):=by
  refine F.vok zago (by rintro ds q ⟨_,_,_,h,_⟩;rw [h];rfl) fun f cdv A outer s H E hr ds q h=>?_;obtain ⟨b,r,R,rfl,h⟩:=h;refine ⟨_,(qj (qC (qx qcf T.len_ L2.boot_len (qd (qv (qv (qc 0) qf) qf) qe)))),?_⟩;refine ⟨_,rfl,_,qbq _ _,?_⟩;have e:(r.map Q3).length=r.length:=by simp
  show q (.int ((r.map Q3).length:Nat));rw [e];exact h
def qjh (p n:Nat):List Int:=(Q1 n).map fun k=>if k=p then 1 else 0
def qnf (ds:List Qh) (q:Qh->Prop):Prop := ∃ p n:Nat,ds=[.int p,.int n]/\n<=900/\q (qei (qjh p n))
def qwm:FnScope [Sd,Sm] [Sd,Sm] (defScope qgz):=sc0
def qwu (F:Def K mg UE qgz [Sd,Sm]) (T:Txt K mg cs)
 : Ok P w K mg base UE 1 [Sd,Sm] (PSp K qnf):=by
  refine F.vok qwm (by rintro ds q ⟨_,_,h,_⟩;rw [h];rfl) fun f cdv A outer s H E hr ds q h=>?_;obtain ⟨p,n,rfl,hn,h⟩:=h;refine ⟨_,(qj (qC (qbp qfg T.tuple_ L2.boot_tuple (qd (qV (qN (caps:=[Sd]) (own:=[Sy]) (ix:=[0]) rfl ⟨rfl,rfl,rfl,rfl,rfl,rfl⟩ (qS T.range_ (qc 1)) (fun _ _ _ _=>(qp (i:=1) (show Ze ([Sd,Sy]:List Str) by decide))) (fun _ _ _ _=>(qej (qK (qmf hr.units) (qc 1) (qc 0)) qf qf)))) qe)))),?_⟩;refine ⟨⟨by omega,by omega⟩,qO ((qjh p n).map .int) (by unfold qjh;simp [qE]) (qo (by unfold qjh;simp;omega)) (fun e => ∃ s,e=[.val (.int p),s]) ⟨_,rfl⟩ ?_ h⟩;rintro i x ys e hx hys ⟨s,rfl⟩;obtain ⟨hi,rfl⟩:=qam hx;have hi':i<n:=by omega
  refine ⟨rfl,rfl,qgc (fun z=>?_) (fun z=>?_)⟩
  ·refine ⟨qq ?_ hys,_,rfl⟩;unfold qjh;rw [Qa,Qa,Qn hi'];have:i=p:=by omega
   simp [this]
  ·refine ⟨qq ?_ hys,_,rfl⟩;unfold qjh;rw [Qa,Qa,Qn hi'];have : ¬ i=p:=by omega
   simp [this]
def qT (D:List (List Int)) (k:Nat):List Int:=D.map fun r=>(r[k]?).getD 0
def zaca {D:List (List Int)}{k:Nat}{x:Int} (h:x ∈ qT D k):x=0 \/ ∃ d ∈ D,x ∈ d:=by
 obtain ⟨d,hd,rfl⟩:=Qk.mp h;cases e:d[k]? with
 | none=>exact .inl (by simp)
 | some y=>exact .inr ⟨d,hd,by simpa using Qg e⟩
def zalw {x b:Int}{m:Nat} (h0:0<=x) (h:x<=b) (hz:intBits b<=m):intBits x<=m:=Y0 (by omega) hz
def Tab.bits {b:Int}{R:List (List Int)}{n m:Nat}{r:List Int}{x:Int} (h:Tab b R n) (hz:intBits b<=m) (hr:r ∈ R) (hx:x ∈ r):intBits x<=m:=zalw (h.le hr hx).1 (h.le hr hx).2 hz
def zalb {D:List (List Int)}{k i:Nat}{d:List Int}{x:Int} (h:D[i]?=some d) (hx:d[k]?=some x):(qT D k)[i]?=some x:=by
 unfold qT;rw [Qa,h];simp [hx]
def zanp (D:List (List Int)) (k:Nat):(qT D k).length=D.length:=by simp [qT]
structure Gls (b:Int) (R:List (List Int)) (n:Nat):Prop where
 t:Tab b R n
 g:qac R=1
def Tab.gls {b:Int}{R:List (List Int)}{n:Nat} (h:Tab b R n) (hR:R≠[]):Gls (b/qac R) (qdi R (qac R)) n:=⟨h.low hR,zagi (h.gpos hR)⟩
abbrev lowT (b:Int) (P:List (List Int)):Qh:=qaa (b/qac P) (qdi P (qac P))
def qmn (ds:List Qh) (q:List Qh->Prop):Prop := ∃ (d:Qh) (R:List (List Int)) (k:Nat),ds=[d,.int k]/\(RowsD d R/\R.length<=900 /\ ∀ r ∈ R,k<r.length)/\q ((qT R k).map .int)
def zaec:FnScope [Si,Sd] [Si,Sd] (defScope qlw):=sc0
def zadq (F:Def K mg UN qlw [Si,Sd]) (T:Txt K mg cs)
 : Ok P w K mg base UN 1 [Si,Sd] (FSp K qmn):=by
  refine F.vokF zaec (by rintro ds q ⟨_,_,_,h,_⟩;rw [h];rfl) fun f cdv A outer s H E hr ds q h=>?_;obtain ⟨d,R,k,rfl,⟨hR,hl,hk⟩,h⟩:=h;refine ⟨_,(qj (qfl (qN (caps:=[Sd]) (own:=[Sh]) (ix:=[1]) rfl ⟨rfl,rfl,rfl,rfl,rfl,rfl⟩ (qY (qc 0)) (fun _ _ _ _=>(qp (i:=1) (show Ze ([Sd,Sh]:List Str) by decide))) (fun _ _ _ _=>(qv (qc 1) (qc 0)))))),?_⟩;obtain ⟨l,e,_⟩:=id hR;refine qca e (qO ((qT R k).map .int) (by simp [qT,hR.len e]) (qo (by simp [qT];omega)) (fun e => ∃ s,e=[.val (.int k),s]) ⟨_,rfl⟩ ?_ ?_)
  ·rintro i x ys e' hx hys ⟨s,rfl⟩;obtain ⟨r,hr,er⟩:=hR.get e hx;have hk':=hk r (qfi hr);have hx:=Qc hk';refine zacp er (qaf (by rw [Qa,hx];rfl)) ⟨qq ?_ hys,_,rfl⟩;rw [Qa,zalb hr hx];rfl
  ·exact ⟨_,rfl,h⟩
def nrm (c:List Int):List Int:=c.map fun n=>n/(qR 0 c:Int)
structure Col (c:List Int):Prop where
 nn : ∀ n ∈ c,0<=n
 nz : ∃ n ∈ c,n≠0
def qtj : ∀ {c:List Int},qR 0 c=0 -> ∀ n ∈ c,n=0:=fun {c} h n hn=>by
 have:=qef c 0 n hn;rw [h] at this;exact Int.zero_dvd.mp (by simpa using this)
def Col.g {c:List Int} (h:Col c):0<qR 0 c:=by
 rcases Qbx (qR 0 c) with e|e
 ·obtain ⟨n,hn,z⟩:=h.nz;exact (z (qtj e n hn)).elim
 ·exact e
def qjq {c:List Int}:(nrm c).map (fun n=>(qR 0 c:Int)*n)=c:=by
 unfold nrm;rw [Zy];exact qeb fun n hn=>Yb (qef c 0 n hn)
def qui {c:List Int} (h:0<qR 0 c):qR 0 (nrm c)=1:=by
 have e:=qgn (qR 0 c) (nrm c) 0;rw [qjq,Qgm] at e;exact (Qbb h (show qR 0 c*1=qR 0 c*qR 0 (nrm c) by omega)).symm
def Col.nrm {c:List Int} (h:Col c):Col (nrm c):=by
 have g:=h.g;constructor
 ·intro n hn;obtain ⟨m,hm,rfl⟩:=Qk.mp hn;exact Qgk (h.nn m hm) (by omega)
 ·obtain ⟨n,hn,z⟩:=h.nz;refine ⟨n/(qR 0 c:Int),Qk.mpr ⟨n,hn,rfl⟩,fun e=>z ?_⟩;have:=Yb (qef c 0 n hn);rw [e,Y2] at this;exact this.symm
def zaek {w:List Int}{k:Nat} (h:qR 0 w=1) (hk:0<k):nrm (w.map fun n=>(k:Int)*n)=w:=by
 have e:=qgn k w 0;rw [Qgm,h,Qki] at e;unfold nrm;rw [e,Zy];refine qeb fun n _=>?_;show (k:Int)*n/(k:Int)=n;exact Vx n (by omega)
def Prp (u v:List Int):Prop := ∀ (i j:Nat) (a b c d:Int),u[i]?=some a->u[j]?=some b->v[i]?=some c->v[j]?=some d->a*d=b*c
def qyw {u v:List Int} (e:nrm u=nrm v):Prp u v:=by
 intro i j a b c d ha hb hc hd;have hu:=qjq (c:=u);have hv:=qjq (c:=v);rw [<- hu] at ha hb;rw [<- hv,<- e] at hc hd;rw [Qa] at ha hb hc hd;cases h1:(nrm u)[i]? with
 | none=>rw [h1] at ha;cases ha
 | some x =>
  cases h2:(nrm u)[j]? with
  | none=>rw [h2] at hb;cases hb
  | some y =>
   rw [h1] at ha hc;rw [h2] at hb hd;simp only [Qkj,Qiu] at ha hb hc hd;subst ha hb hc hd;grind
def qzk {u v:List Int} (hu:Col u) (hv:Col v) (hl:u.length=v.length) (h:Prp u v):nrm u=nrm v:=by
 have lu:(nrm u).length=u.length:=Qf _;have lv:(nrm v).length=v.length:=Qf _;have gu:(0:Int)<qR 0 u:=by have:=hu.g;omega
 have gv:(0:Int)<qR 0 v:=by have:=hv.g;omega
 have one : ∀ {c:List Int}{i:Nat}{x:Int},(nrm c)[i]?=some x->c[i]?=some ((qR 0 c:Int)*x):=fun {c i x} e=>by
  have:=qjq (c:=c);rw [<- this,Qa,this,e];rfl
 have key : ∀ (i j:Nat) (a b c d:Int),(nrm u)[i]?=some a->(nrm u)[j]?=some b->(nrm v)[i]?=some c->(nrm v)[j]?=some d->a*d=b*c:=fun i j a b c d h1 h2 h3 h4=>by
  have z:=h i j _ _ _ _ (one h1) (one h2) (one h3) (one h4);have z2:((qR 0 u:Int)*(qR 0 v:Int))*(a*d)=((qR 0 u:Int)*(qR 0 v:Int))*(b*c):=by grind
  exact Zi (Int.ne_of_gt (Yl gu gv)) z2
 refine Zl fun i=>?_;by_cases hi:i<u.length
 ·obtain ⟨a,ha⟩ : ∃ a,(nrm u)[i]?=some a:=⟨_,Qc (by omega)⟩
  obtain ⟨c,hc⟩ : ∃ c,(nrm v)[i]?=some c:=⟨_,Qc (by omega)⟩
  have a0:=hu.nrm.nn a (Qg ha);have c0:=hv.nrm.nn c (Qg hc);have e:(nrm v).map (fun n=>(a.toNat:Int)*n)=(nrm u).map (fun n=>(c.toNat:Int)*n):=by
   refine Zl fun j=>?_;rw [Qa,Qa];by_cases hj:j<u.length
   ·obtain ⟨b,hb⟩ : ∃ b,(nrm u)[j]?=some b:=⟨_,Qc (by omega)⟩
    obtain ⟨d,hd⟩ : ∃ d,(nrm v)[j]?=some d:=⟨_,Qc (by omega)⟩
    rw [hb,hd,V9 a0,V9 c0];show some (a*d)=some (c*b);rw [key i j a b c d ha hb hc hd,Zu]
   ·rw [Qo (by omega),Qo (by omega)];rfl
  have e1:=qgn a.toNat (nrm v) 0;have e2:=qgn c.toNat (nrm u) 0;rw [Qgm,qui hv.g,Qki] at e1;rw [Qgm,qui hu.g,Qki] at e2;rw [e] at e1;rw [ha,hc]
  congr 1
  omega
 ·rw [Qo (by omega),Qo (by omega)]
def jc (R:List (List Int)) (G:List Nat):List Int:=R.map fun r=>(G.map fun i=>(r[i]?).getD 0).sum
def zaox (R:List (List Int)) (j:Nat):jc R [j]=qT R j:=by
 unfold jc qT;refine Z9 fun r _=>?_;simp
def zakx (R:List (List Int)) (j:Nat) (G:List Nat):jc R (j::G)=Qee (· + ·) (qT R j) (jc R G):=by
 unfold jc qT
 induction R with
 | nil=>rfl
 | cons r R ih =>
  show ((j::G).map fun i=>(r[i]?).getD 0).sum::_=(_+_)::_;rw [ih,Q2,Za]
def qfy (R:List (List Int)) (G:List Nat):(jc R G).length=R.length:=Qf _
def zagg {l l':List Int} (h:l.Perm l'):l.sum=l'.sum:=by
 induction h with
 | nil=>rfl
 | cons x _ ih=>rw [Za,Za,ih]
 | swap x y l=>rw [Za,Za,Za,Za];omega
 | trans _ _ a b=>rw [a,b]
def zada (w:List Int) (a b:Int):Qee (· + ·) (w.map fun n=>a*n) (w.map fun n=>b*n)=w.map fun n=>(a+b)*n:=by
 induction w with
 | nil=>rfl
 | cons x w ih=>rw [Q2,Q2,List.zipWith_cons_cons,ih,Q2,Qkk]
def qxh {R:List (List Int)}{κ:List Int} : ∀ {G:List Nat},G≠[]->(∀ i ∈ G,Col (qT R i)/\nrm (qT R i)=κ) -> ∃ k:Nat,0<k/\jc R G=κ.map fun n=>(k:Int)*n
 | [i],_,h=>by
  obtain ⟨c,e⟩:=h i (by simp);exact ⟨qR 0 (qT R i),c.g,by rw [zaox,<- e,qjq]⟩
 | i::j::G,_,h=>by
  obtain ⟨k,hk,e⟩:=qxh (G:=j::G) (by simp) fun x hx=>h x (Qu _ hx);obtain ⟨c,e2⟩:=h i (by simp);refine ⟨qR 0 (qT R i)+k,by omega,?_⟩;have e3:qT R i=κ.map fun n=>(qR 0 (qT R i):Int)*n:=by rw [<- e2,qjq]
  rw [zakx,e,e3,zada,<- e3];simp
def qwf {R:List (List Int)}{κ:List Int}{G:List Nat} (hG:G≠[]) (h : ∀ i ∈ G,Col (qT R i)/\nrm (qT R i)=κ):nrm (jc R G)=κ/\Col (jc R G):=by
 obtain ⟨k,hk,e⟩:=qxh hG h;obtain ⟨i,hi⟩:=List.exists_mem_of_ne_nil G hG;obtain ⟨c,e2⟩:=h i hi;have g1:qR 0 κ=1:=by rw [<- e2];exact qui c.g
 have cκ:Col κ:=e2 ▸ c.nrm;rw [e];refine ⟨zaek g1 hk,fun n hn=>?_,?_⟩
 ·obtain ⟨m,hm,rfl⟩:=Qk.mp hn;exact Zn (by omega) (cκ.nn m hm)
 ·obtain ⟨m,hm,z⟩:=cκ.nz;exact ⟨_,Qk.mpr ⟨m,hm,rfl⟩,Int.mul_ne_zero (by omega) z⟩
def sgD (G:List Nat):List Qh:=G.map fun i => .int ((i:Nat):Int)
def zakr {G:List Nat}{i:Nat}{x:Qh} (h:(sgD G)[i]?=some x) : ∃ s:Nat,G[i]?=some s/\x = .int (s:Nat):=by
 unfold sgD at h;rw [Qa] at h;cases e:G[i]? with
 | none=>rw [e] at h;cases h
 | some s=>rw [e] at h;cases h;exact ⟨s,rfl,rfl⟩
def qxv (G:List Nat):qea (.list (sgD G))=some ((G.map fun i=>((i:Nat):Int)).map .int):=by
 unfold sgD qea;rw [Zy];rfl
def qwa {G:List Nat}{s:Nat}:((G.map fun i=>((i:Nat):Int)).any (· == (s:Int)))=true↔s ∈ G:=by
 rw [Yn];constructor
 ·rintro ⟨x,hx,e⟩;obtain ⟨i,hi,rfl⟩:=Qk.mp hx;have:i=s:=by have:=eq_of_beq e;omega
  exact this ▸ hi
 ·intro h;exact ⟨_,Qk.mpr ⟨s,h,rfl⟩,by simp⟩
def qdg (r:List Int) (G:List Nat):Int:=(G.map fun i=>(r[i]?).getD 0).sum
def grD (Gs:List (List Nat)):List Qh:=Gs.map fun G => .list (sgD G)
def zabp {Gs:List (List Nat)}{i:Nat}{x:Qh} (h:(grD Gs)[i]?=some x) : ∃ G,Gs[i]?=some G/\x = .list (sgD G):=by
 unfold grD at h;rw [Qa] at h;cases e:Gs[i]? with
 | none=>rw [e] at h;cases h
 | some s=>rw [e] at h;cases h;exact ⟨s,rfl,rfl⟩
def grs (R:List (List Int)):Nat->List (List Int×List Nat)
 | 0=>[]
 | i+1=>if (qT R i).any (· != 0)=true then qos (grs R i) (nrm (qT R i)) i else grs R i
def qdh (R:List (List Int)) (n i:Nat):List Nat:=((grs R n)[i]?.getD ([],[])).2
def zagl {gs:List (List Int×List Nat)}{k:List Int}{s:Nat}:(qos gs k s).length<=gs.length+1:=by
 unfold qos;split
 ·rw [Qf];omega
 ·simp
def qpi (R:List (List Int)) : ∀ i,(grs R i).length<=i
 | 0=>Qr _
 | i+1=>by
  have:=qpi R i;unfold grs;split
  ·exact Zk zagl (by omega)
  ·omega
def qon (R:List (List Int)) : ∀ i,∀ x ∈ grs R i,x.2.length<=i
 | 0,x,hx=>by cases hx
 | i+1,x,hx=>by
  unfold grs at hx;split at hx
  ·unfold qos at hx;split at hx
   ·obtain ⟨y,hy,rfl⟩:=Qk.mp hx;have:=qon R i y hy;split
    ·simp;omega
    ·omega
   ·rcases Zf.mp hx with z|z
    ·have:=qon R i x z;omega
    ·rw [Qy.mp z];simp
  ·have:=qon R i x hx;omega
def qoj (R:List (List Int)) : ∀ i,∀ x ∈ grs R i,∀ s ∈ x.2,s<i
 | 0,x,hx=>by cases hx
 | i+1,x,hx=>by
  unfold grs at hx;split at hx
  ·unfold qos at hx;split at hx
   ·obtain ⟨y,hy,rfl⟩:=Qk.mp hx;have ih:=qoj R i y hy;split
    ·intro s hs;rcases Zf.mp hs with z|z
     ·have:=ih s z;omega
     ·have:=Qy.mp z;omega
    ·intro s hs;have:=ih s hs;omega
   ·rcases Zf.mp hx with z|z
    ·intro s hs;have:=qoj R i x z s hs;omega
    ·rw [Qy.mp z];intro s hs;have:=Qy.mp hs;omega
  ·intro s hs;have:=qoj R i x hx s hs;omega
def zabq {K:Qd}{F:Hp} (G:List Nat):Iss K F (sgD G) (grL G):=by
 have e:=qfp (K:=K) (H:=F) (G.map fun i=>((i:Nat):Int));unfold sgD grL;rw [Zy,Zy] at e;exact e
def FL (F H:Hp) (ks:List Grp):Hp:=fun b=>if b ∈ ks.map (·.2.1) then H b else F b
section
variable {F H:Hp}{ks:List Grp}
def FL.le (h : ∀ x ∈ ks,F x.2.1=none):Same F (FL F H ks):=fun b o e=>by
 unfold FL;rw [if_neg fun z=>?_]
 ·exact e
 ·obtain ⟨x,hx,rfl⟩:=Qk.mp z;rw [h x hx] at e;cases e
def FL.fh (h:Same F H):Same (FL F H ks) H:=fun b o e=>by
 unfold FL at e;split at e
 ·exact e
 ·exact h b o e
def FL.at {x:Grp}{o:HO} (hx:x ∈ ks) (h:H x.2.1=some o):FL F H ks x.2.1=some o:=by
 unfold FL;rw [if_pos (Qk.mpr ⟨x,hx,rfl⟩)];exact h
end
def qdl (ds:List Qh) (q:Qh->Prop):Prop := ∃ (d g:Qh) (r:List Int) (G:List Nat),ds=[d,g]/\(qea d=some (r.map .int)/\qea g=some (sgD G)/\G.length<=900 /\ ∀ i ∈ G,i<r.length)/\q (.int (qdg r G))
def qmd:FnScope [Sh,Sr] [Sh,Sr] (defScope qco):=sc0
def qmb (F:Def K mg SN qco [Sh,Sr]) (T:Txt K mg cs)
 : Ok P w K mg base SN 1 [Sh,Sr] (PSp K qdl):=by
  refine F.vok qmd (by rintro ds q ⟨_,_,_,_,h,_⟩;rw [h];rfl) fun f cdv A outer s H E hr ds q h=>?_;obtain ⟨d,g,r,G,rfl,⟨e1,e2,hl,hk⟩,h⟩:=h;refine ⟨_,(qj (qC (qx (zaac rfl) T.sum_ L2.boot_sum (qd (qV (qN (caps:=[Sh]) (own:=[Sy]) (ix:=[0]) rfl ⟨rfl,rfl,rfl,rfl,rfl,rfl⟩ (qY (qc 1)) (fun _ _ _ _=>(qp (i:=1) (show Ze ([Sh,Sy]:List Str) by decide))) (fun _ _ _ _=>(qv (qc 0) (qc 1))))) qe)))),?_⟩;refine qca e2 (qO ((G.map fun i=>(r[i]?).getD 0).map .int) (by simp [sgD]) (qo (by simp;omega)) (fun e => ∃ s,e=[.val d,s]) ⟨_,rfl⟩ ?_ ⟨_,rfl,h⟩);rintro i x ys e hx hys ⟨s,rfl⟩;obtain ⟨k,hi,rfl⟩:=zakr hx;have hk':=hk k (qfi hi);have hx:=Qc hk';refine zacp e1 (qaf (by rw [Qa,hx];rfl)) ⟨qq ?_ hys,_,rfl⟩;rw [Qa,Qa,hi];show some (Q3 ((r[k]?).getD 0))=_;rw [hx];rfl
def qdk (ds:List Qh) (q:List Qh->Prop):Prop := ∃ (b:Int) (R:List (List Int)) (g:Qh) (G:List Nat),ds=[qaa b R,g]/\(R.length<=900/\qea g=some (sgD G)/\G.length<=900 /\ ∀ r ∈ R,∀ i ∈ G,i<r.length)/\q ((jc R G).map .int)
def qmg:FnScope [Sg,Sr] [Sg,Sr] (defScope qcn):=sc0
def qme (F:Def K mg SO qcn [Sg,Sr]) (T:Txt K mg cs)
 (O_joined_number:Ok P w K mg base SN 1 [Sh,Sr] (PSp K qdl))
 : Ok P w K mg base SO 2 [Sg,Sr] (FSp K qdk):=by
  refine F.vokF qmg (by rintro ds q ⟨_,_,_,_,h,_⟩;rw [h];rfl) fun f cdv A outer s H E hr ds q h=>?_;obtain ⟨b,R,g,G,rfl,⟨hR,eg,hl,hk⟩,h⟩:=h;refine ⟨_,(qj (qfl (qN (caps:=[Sr]) (own:=[Sh]) (ix:=[1]) rfl ⟨rfl,rfl,rfl,rfl,rfl,rfl⟩ (qY (qv (qc 0) qf)) (fun _ _ _ _=>(qp (i:=1) (show Ze ([Sr,Sh]:List Str) by decide))) (fun _ _ _ _=>(qB O_joined_number hr.m (qd (qc 1) (qd (qc 0) qe))))))),?_⟩;refine ⟨_,rfl,?_⟩;refine qO ((jc R G).map .int) (by simp [qfy]) (qo (by simp [qfy];omega)) (fun e => ∃ s,e=[.val g,s]) ⟨_,rfl⟩ ?_ ⟨_,rfl,h⟩;rintro i x ys e hx hys ⟨s,rfl⟩;rw [Qa] at hx;cases er:R[i]? with
  | none=>rw [er] at hx;cases hx
  | some r =>
   rw [er] at hx;cases hx;refine ⟨_,_,r,G,rfl,⟨rfl,eg,hl,hk r (qfi er)⟩,qq ?_ hys,_,rfl⟩;unfold jc;rw [Qa,Qa,er];rfl
def qls (x:Nat->Int) : ∀ k i,qik x x k i=false
 | 0,_=>rfl
 | k+1,i=>by unfold qik;rw [if_pos (by simp)];exact qls x k (i+1)
def qvm {x y z:Nat->Int} : ∀ k i,qik x y k i=true->qik y z k i=true->qik x z k i=true
 | 0,_,h,_=>by cases h
 | k+1,i,h1,h2=>by
  unfold qik at h1 h2 ⊢;by_cases a:x i=y i
  ·rw [if_pos (by simpa using a)] at h1;by_cases b:y i=z i
   ·rw [if_pos (by simpa using b)] at h2;rw [if_pos (by simpa using a.trans b)];exact qvm k (i+1) h1 h2
   ·rw [if_neg (by simpa using b)] at h2;rw [a,if_neg (by simpa using b)];exact h2
  ·rw [if_neg (by simpa using a)] at h1;have h1:=of_decide_eq_true h1;by_cases b:y i=z i
   ·rw [<- b,if_neg (by simpa using a)];exact decide_eq_true h1
   ·rw [if_neg (by simpa using b)] at h2;have h2:=of_decide_eq_true h2;rw [if_neg (by simp;omega)];exact decide_eq_true (by omega)
def qye {x y:Nat->Int} : ∀ k i,(∃ j,i<=j/\j<i+k/\x j≠y j)->qik x y k i=true\/qik y x k i=true
 | 0,i,⟨j,h1,h2,_⟩=>by omega
 | k+1,i,⟨j,h1,h2,h3⟩=>by
  unfold qik;by_cases a:x i=y i
  ·rw [if_pos (by simpa using a),if_pos (by simpa using a.symm)];have:j≠i:=fun z=>h3 (z ▸ a);exact qye k (i+1) ⟨j,by omega,by omega,h3⟩
  ·rw [if_neg (by simpa using a),if_neg (by simpa using Z0 a)];by_cases b:x i<y i
   ·exact .inl (decide_eq_true b)
   ·exact .inr (decide_eq_true (by omega))
def zaed {n m:Nat}{kl:Nat->List Int} (hl : ∀ i,i<n->(kl i).length=m) (hd : ∀ i j,i<n->j<n->i≠j->kl i≠kl j):OrdN n (qbd kl m):=by
 refine ⟨fun i=>qls _ _ _,fun i j k _ _ _ h1 h2=>qvm _ _ h1 h2,fun i j hi hj ne=>qye _ _ ?_⟩;refine Yp fun z=>hd i j hi hj ne (Zl fun k=>?_);by_cases hk:k<m
 ·have e:(kl i).getD k 0=(kl j).getD k 0:=Yp fun w=>z ⟨k,Yc _,by omega,w⟩;have l1:=hl i hi;have l2:=hl j hj;rw [Zz,Zz,Qc (by omega),Qc (by omega)] at e;rw [Qc (by omega),Qc (by omega)];exact congrArg some e
 ·rw [Qo (by rw [hl i hi];omega),Qo (by rw [hl j hj];omega)]
structure GrsOk (R:List (List Int)) (gs:List (List Int×List Nat)):Prop where
 ky:(gs.map (·.1)).Nodup
 ne : ∀ x ∈ gs,x.2≠[]
 me : ∀ x ∈ gs,∀ s ∈ x.2,Col (qT R s)/\nrm (qT R s)=x.1
def GrsOk.put {R:List (List Int)}{gs:List (List Int×List Nat)}{s:Nat} (h:GrsOk R gs) (c:Col (qT R s)):GrsOk R (qos gs (nrm (qT R s)) s):=by
 unfold qos;split
 ·have key : ∀ y:List Int×List Nat,(if y.1=nrm (qT R s) then (y.1,y.2++[s]) else y).1=y.1:=fun y=>by split <;> rfl
  refine ⟨?_,fun x hx=>?_,fun x hx=>?_⟩
  ·rw [Zy];have:gs.map ((·.1) ∘ fun x=>if x.1=nrm (qT R s) then (x.1,x.2++[s]) else x)=gs.map (·.1):=Z9 fun y _=>key y;rw [this];exact h.ky
  ·obtain ⟨y,hy,rfl⟩:=Qk.mp hx;split
   ·simp
   ·exact h.ne y hy
  ·obtain ⟨y,hy,rfl⟩:=Qk.mp hx;split
   ·rename_i e;intro t ht;rcases Zf.mp ht with z|z
    ·exact h.me y hy t z
    ·rw [Qy.mp z];exact ⟨c,e.symm⟩
   ·exact h.me y hy
 ·rename_i na;have two : ∀ {P:List Int×List Nat->Prop},(∀ x ∈ gs,P x)->P (nrm (qT R s),[s]) -> ∀ x ∈ gs++[(nrm (qT R s),[s])],P x:=fun a b x hx=>by
   rcases Zf.mp hx with z|z
   ·exact a x z
   ·rw [Qy.mp z];exact b
  refine ⟨?_,two h.ne (by simp),two h.me fun t ht=>?_⟩
  ·rw [Zm,Q2,Jw,Qas];refine ⟨h.ky,by simp,fun a ha b hb=>?_⟩;obtain ⟨x,hx,rfl⟩:=Qk.mp ha;rw [Qy.mp hb];exact fun z=>na (Yn.mpr ⟨x,hx,by simpa using z⟩)
  ·rw [Qy.mp ht];exact ⟨c,rfl⟩
def zara {R:List (List Int)}{s:Nat} (hn : ∀ r ∈ R,∀ x ∈ r,0<=x) (ea:(qT R s).any (· != 0)=true):Col (qT R s):=by
 refine ⟨fun x hx=>?_,?_⟩
 ·rcases zaca hx with rfl|⟨r,hr,hx⟩
  ·exact Yk _
  ·exact hn r hr x hx
 ·obtain ⟨x,hx,z⟩:=Yn.mp ea;exact ⟨x,hx,by simpa using z⟩
def qlf {R:List (List Int)} (hn : ∀ r ∈ R,∀ x ∈ r,0<=x) : ∀ i,GrsOk R (grs R i)
 | 0=>⟨Qeo,fun x hx=>(by cases hx),fun x hx=>(by cases hx)⟩
 | i+1=>by
  unfold grs;split
  ·rename_i ea;exact (qlf hn i).put (zara hn ea)
  ·exact qlf hn i
def zace {R:List (List Int)} (hn : ∀ r ∈ R,∀ x ∈ r,0<=x) (n:Nat):OrdN (grs R n).length (qbd (fun i=>jc R (qdh R n i)) R.length):=by
 have h:=qlf hn n;have at_ : ∀ {i:Nat} (hi:i<(grs R n).length),nrm (jc R (qdh R n i))=(grs R n)[i].1:=fun {i} hi=>by
  have e:qdh R n i=(grs R n)[i].2:=by unfold qdh;rw [Qc hi];rfl
  have m:=Q7 hi;rw [e];exact (qwf (h.ne _ m) (h.me _ m)).1
 refine zaed (fun i _=>qfy _ _) fun i j hi hj ne e=>ne ?_;have z:(grs R n)[i].1=(grs R n)[j].1:=by rw [<- at_ hi,<- at_ hj];exact congrArg nrm e
 have:=h.ky;rw [List.nodup_iff_pairwise_ne,List.pairwise_iff_getElem] at this;rcases Qav i j with q|q|q
 ·exact (this i j (by simpa using hi) (by simpa using hj) q (by simpa using z)).elim
 ·exact q
 ·exact (this j i (by simpa using hj) (by simpa using hi) q (by simpa using z.symm)).elim
def qgf (ds:List Qh) (q:Qh->Prop):Prop := ∃ (b:Int) (R:List (List Int)) (n:Nat),ds=[qaa b R]/\(Tab b R n/\R≠[]/\R.length<=900/\n<=60/\intBits b<=9000) /\ ∀ p,PmN (grs R n).length p->SrtN (qbd (fun i=>jc R (qdh R n i)) R.length) p (grs R n).length->q (.list (grD (p.toList.map fun i=>qdh R n i)))
def zatq {b:Int}{R:List (List Int)}{n i:Nat} (hT:Tab b R n) (ea:(qT R i).any (· != 0)=true) (bz:intBits b<=9000):0<(qR 0 (qT R i):Int)/\intBits (qR 0 (qT R i):Int)<=9000:=by
 obtain ⟨x,hx,z⟩:=Yn.mp ea;have z:x≠0:=by simpa using z
 have dv:=qef (qT R i) 0 x hx;have hz:intBits x<=9000:=by
  rcases zaca hx with rfl|⟨r,hr,hx⟩
  ·exact (z rfl).elim
  ·exact hT.bits bz hr hx
 have g0:qR 0 (qT R i)≠0:=fun e=>z (qtj e x hx);refine ⟨by omega,Y0 ?_ hz⟩;exact Qau (by omega) (Vb.mpr dv)
def SgW (R:List (List Int)) (vg:V) (d:Addr) (F0 H0 Fi:Hp) (n i m:Nat) (σ:St) (H:Hp):Prop:=m+i=n /\ ∃ F ks o2 o3 o4,σ=[some vg,some (.ref d),o2,o3,o4]/\Go F0 H0 F H/\Same Fi F/\GrAt H0 F H d ks/\qkc ks=grs R i
def qbc:FnScope [Sg,Sw,Sy,Uh,"alone"] [Sg] (defScope qai):=sc0
def qly (F:DefT K mg SA qai [Sg] cs.c0) (T:Txt K mg cs) (KB:K.In base)
 (O_common_divisor:Ok P w K mg base SK 2 [Si] (PSp K qda))
 (O_divided:Ok P w K mg base Ux 1 [Sh,Sx] (qsi K qkg))
 (O_signs:Ok P w K mg base SL 1 [Sg] (PSp K qcq))
 (O_column:Ok P w K mg base UN 1 [Si,Sd] (FSp K qmn))
 (O_joined_column:Ok P w K mg base SO 2 [Sg,Sr] (FSp K qdk))
 : Ok P w K mg base SA 4 [Sg] (TSp cs.tb K qgf):=by
  refine F.ok qbc (by rintro vs H Q E ⟨_,F,ds,q,_,_,i,⟨_,_,_,h,_⟩,_⟩;rw [i.len,h];rfl) fun f A outer s H vs Q E hr h=>?_;obtain ⟨ts,F0,ds,q,ft,sm,hi,⟨b,R,n,rfl,⟨hT,hR,hl,n9,bz⟩,hq⟩,kk⟩:=h;have ho:=zace hT.nn n;obtain ⟨hu1,hu2,hd2⟩:=hr.sort;refine ⟨_,qF (qdx (i:=1) qbc.nd rfl (by first|exact Yy rfl|exact Z6 rfl) zagu) (qF (zaiq Qdp rfl (VI.pi (qS T.range_ (qB O_signs hr.m (qd (qc 0) qe)))) (qvn (i:=2) qbc.nd rfl (by first|exact Yy rfl|exact Z6 rfl) (by first|exact .inl rfl|exact .inr rfl)) (qF (qdx (i:=3) qbc.nd rfl (by first|exact Yy rfl|exact Z6 rfl) (VE.pe (qV (qkf O_column hr.m (qd (qv (qc 0) qf) (qd (qc 2) qe)))))) (qeh (zajs (VT.pt (qhy (qx (zaou rfl) T.any_ L2.boot_any (qd (qc 3) qe)))) (qF (qdx (i:=4) qbc.nd rfl (by first|exact Yy rfl|exact Z6 rfl) (VN.pe (zaof O_divided hr.m (qd (qc 3) (qd (qB O_common_divisor hr.m (qd (qV (qel (qd (qc 3) qe))) qe)) qe))))) (qeh (qhq
   (qsm (zaag hu1 (pv 1) (pv 4) (zaar qal) ⟨rfl,rfl,rfl,rfl⟩)
    (pv 2))))) qvo))))
   (qeh (qji (qzy (tb:=cs.tb) (c0:=cs.c0) (ig:=1) (iy:=0) (x := Sr) (y := Sg) hu2 hr.hd hd2 ts rfl (zadz KB T.tab_h) (zakk KB T.bm_ T.bm_h) rfl T.sorted_ (pv 1)
    ⟨rfl,rfl,rfl,rfl,rfl,by decide,by decide +kernel,qsp (by decide +kernel)⟩ rfl rfl rfl rfl (fun _ _ _ _ _ _=>rfl) (fun q f c s H=>qoc O_joined_column (hr.lam _) (qz (qcx (i:=1) rfl (Z6 (Z6 rfl)) (by decide) (by decide)) (qz (qcx (i:=0) rfl (Yy rfl) (by decide) (by decide)) qal))))))),?_⟩
  obtain ⟨r0,R0,eR⟩:=Qt hR;have l0:r0.length=n:=hT.len r0 (by rw [eR];simp);obtain ⟨vg,rfl,ig⟩:=qkt hi;refine fun d hd=>?_;have g0:Go F0 H F0 (upd H d (.dT [])):=Go.side sm hd;have gr0:GrAt H F0 (upd H d (.dT [])) d []:=⟨ql,qu sm hd,hd,fun x hx=>(by cases hx),fun x hx=>(by cases hx),fun x hx=>(by cases hx),fun x hx=>(by cases hx),Qeo,Qeo⟩
  have hE:EnvOk K ⟨upd H d (.dT []),upd H d (.dT []),F0⟩ F0 (upd H d (.dT [])) [.val (qaa b R),.non,.non,.non,.non] [some vg,some (.ref d),none,none,none] :=
   qhw g0.fh ⟨_,_,rfl,⟨⟨vg,rfl,ig⟩,rfl⟩,_,_,rfl,⟨trivial,rfl⟩,_,_,rfl,⟨trivial,rfl⟩,_,_,rfl,⟨trivial,rfl⟩,_,_,rfl,⟨trivial,rfl⟩,rfl⟩
  refine ⟨⟨upd H d (.dT []),upd H d (.dT []),F0⟩,_,F0,fun ds e=>ds=qth 0 n/\e=[.val (qaa b R),.non,.non,.non,.non],hE,?_,fun ds J F1 H1 e1 I1 s1 hJ q1=>?_⟩
  ·refine ⟨b,r0,R0,by rw [eR],?_⟩;rw [l0];exact ⟨⟨by omega,by omega⟩,rfl,rfl⟩
  obtain ⟨rfl,rfl⟩:=q1;have g1:=g0.trans I1.goOf;refine ⟨SgW R vg d F0 H F1 n,⟨n,by omega,F1,[],none,none,none,rfl,g1,.refl _,gr0.go I1.goOf,rfl⟩,?_⟩;rintro i m σ H2 ⟨him,F2,ks,o2,o3,o4,rfl,g2,s2,gr,es⟩;by_cases hin:i=n
  ·left;subst hin;refine ⟨by have:=hJ.stop H2 (s2.trans g2.fh);rwa [qE] at this,?_⟩;clear hJ I1 s1 g1;have len:ks.length=(grs R i).length:=by rw [<- es];unfold qkc;rw [Qf]
   have lenV:((ks.map qnj).map (·.2)).length=(grs R i).length:=by rw [Qf,Qf,len]
   have at_ : ∀ {j:Nat}{x:Grp},ks[j]?=some x->qdh R i j=x.2.2:=fun {j x} e=>by
    unfold qdh;rw [<- es];unfold qkc;rw [Qa,e];rfl
   have inG : ∀ x ∈ ks,x.2.2.length<=i /\ ∀ s ∈ x.2.2,s<i:=fun x hx=>by
    have z:(x.1,x.2.2) ∈ grs R i:=by rw [<- es];exact Qk.mpr ⟨x,hx,rfl⟩
    exact ⟨qon R i _ z,qoj R i _ z⟩
   have ht0:H cs.tb≠none:=by obtain ⟨ps,e,_⟩:=ts;rw [e];exact fun z=>by cases z
   have ft2:F2 cs.tb=none:=by
    cases e:F2 cs.tb with
    | none=>rfl
    | some o =>
     rcases g2.new _ _ e with z|z
     ·rw [ft] at z;cases z
     ·exact (ht0 z).elim
   have tbl : ∀ x ∈ ks,x.2.1≠cs.tb:=fun x hx z=>ht0 (z ▸ gr.nl x hx);refine ⟨d,ks.map qnj,vg,fun j=>jc R (qdh R i j),R.length,⟨rfl,rfl,gr.hd,?_⟩,?_,fun j _=>qfy _ _,fun H3 go=>?_⟩
   ·rw [Qf,len];have:=qpi R i;omega
   ·rw [lenV];exact ho
   refine ⟨fun H'=>Same F2 H' /\ ∀ x ∈ ks,H' x.2.1=some (.lst (grL x.2.2)),⟨fun c o e=>?_,fun x hx=>go.h _ _ (tbl x hx) (gr.hl x hx)⟩,fun j v H4 ev gg=>?_,fun p l H4 hp hs sm4 gg nl4 nl2=>?_⟩
   ·exact go.h _ _ (fun z=>by rw [z,ft2] at e;cases e) (g2.fh _ _ e)
   ·obtain ⟨sF,sL⟩:=gg;rw [Qa,Qa] at ev;cases ek:ks[j]? with
    | none=>rw [ek] at ev;cases ev
    | some x =>
     rw [ek] at ev;cases ev;have xm:=Qg ek;have hx:=inG x xm;refine ⟨vg,rfl,_,rfl,FL F2 H4 ks,[qaa b R,.list (sgD x.2.2)],fun l=>l=(jc R x.2.2).map .int,FL.fh sF,qw ((ig.mono g2.f).mono (FL.le gr.fl)) (qw (qcv (SqL.of (FL.at xm (sL x xm))) (zabq _)) qQ),⟨b,R,_,x.2.2,rfl,⟨hl,rfl,by omega,fun r hr s hs=>by rw [hT.len r hr];exact hx.2 s hs⟩,rfl⟩,?_⟩;rintro l a xs F5 H5 g5 na fa ha hx5 rfl;have e5:=hx5.ints_inv;subst e5;refine ⟨g5.h,⟨sF.trans g5.h,fun y hy=>g5.h _ _ (sL y hy)⟩,a,rfl,?_⟩;show H5 a=some (.lst ((jc R (qdh R i j)).map V.int));rw [at_ ek];exact ha
   ·obtain ⟨sF,sL⟩:=gg;have nl0:H l=none:=qu g2.h nl2;rw [lenV] at hp hs;have ltb:cs.tb≠l:=fun z=>ht0 (z ▸ nl0);have fl0:FL F2 H4 ks l=none:=by
     cases e:FL F2 H4 ks l with
     | none=>rfl
     | some o =>
      have:=FL.fh (ks:=ks) sF l o e;rw [nl4] at this;cases this
    have key : ∀ js:List Nat,(∀ j ∈ js,j<ks.length) -> ∀ ys,Iss K (upd (FL F2 H4 ks) l (.lst ys)) (grD (js.map fun j=>qdh R i j)) (js.map fun j=>((ks.map qnj).map (·.2)).getD j .non):=by
     intro js
     induction js with
     | nil=>intro _ _;exact qQ
     | cons j js ih =>
      intro hj ys;obtain ⟨x,ej⟩ : ∃ x,ks[j]?=some x:=⟨_,Qc (hj j (by simp))⟩
      have xm:=Qg ej;have e1:((ks.map qnj).map (·.2)).getD j V.non = .ref x.2.1:=by
       rw [Zz,Qa,Qa,ej];rfl
      have ne:x.2.1≠l:=fun z=>by have:=sL _ xm;rw [z,nl4] at this;cases this
      show Iss K _ (Qlp (sgD (qdh R i j))::grD (js.map fun j=>qdh R i j)) (((ks.map qnj).map (·.2)).getD j V.non::_);rw [e1,at_ ej];exact qw (qcv (SqL.of (by rw [qi ne];exact FL.at xm (sL _ xm))) (zabq _)) (ih (fun k hk=>hj k (Qu _ hk)) ys)
    refine kk (.list (grD (p.toList.map fun j=>qdh R i j))) (.ref l) (upd (FL F2 H4 ks) l (.lst (p.toList.map fun j=>((ks.map qnj).map (·.2)).getD j .non))) _ ⟨(g2.f.trans (FL.le gr.fl)).trans (qcb fl0),fun c o n e=>?_,fun c o e=>?_,fun c o e=>?_,(go.ts.same sm4).same (qcb nl4),?_⟩ (qcv (SqL.of ql) (key _ (fun j hj=>?_) _)) (hq p hp hs)
    ·rw [qi fun z=>by rw [z,nl0] at e;cases e];exact sm4 _ _ (go.h c o n (g2.h _ _ e))
    ·by_cases z:c=l
     ·subst z;rw [ql] at e;rw [ql];exact e
     ·rw [qi z] at e;rw [qi z];exact FL.fh sF c o e
    ·by_cases z:c=l
     ·rw [z];exact .inr nl0
     ·rw [qi z] at e;unfold FL at e;split at e
      ·rename_i zz;obtain ⟨x,hx,rfl⟩:=Qk.mp zz;exact .inr (gr.nl x hx)
      ·exact g2.new c o e
    ·rw [qi ltb];unfold FL;rw [if_neg fun zz=>?_]
     ·exact ft2
     ·obtain ⟨x,hx,e⟩:=Qk.mp zz;exact tbl x hx e
    ·rw [len];exact Zh.mp (hp.p.mem_iff.mp hj)
  have hin':i<n:=by omega
  right;refine ⟨hJ.go i H2 (s2.trans g2.fh) (by rw [qE];exact hin'),fun σ' H' => ∃ m',m'<m/\SgW R vg d F0 H F1 n (i+1) m' σ' H',fun _ _ z=>z,fun x H3 hy=>?_⟩;obtain ⟨dx,F3,ex,g3,ix⟩:=hJ.yld i H2 x H3 F2 s2 g2.fh (by rw [qE];exact hin') hy;obtain ⟨_,rfl⟩:=qam ex;rw [Vk] at ix;obtain rfl:=ix.int_inv;have gr3:=gr.go g3;have g23:=g2.trans g3;have s3:=s2.trans g3.f;clear g2 g3 gr s2 hy;have hE:EnvOk K ⟨H3,H3,F3⟩ F3 H3 [.val (qaa b R),.non,.val (.int i),.non,.non] [some vg,some (.ref d),some (.int i),o3,o4] :=
   qhw g23.fh ⟨_,_,rfl,⟨⟨vg,rfl,ig.mono g23.f⟩,rfl⟩,_,_,rfl,⟨trivial,rfl⟩,_,_,rfl,⟨⟨_,rfl,qJ _⟩,rfl⟩,_,_,rfl,⟨trivial,rfl⟩,_,_,rfl,⟨trivial,rfl⟩,rfl⟩
  refine ⟨⟨H3,H3,F3⟩,_,F3,fun dd e=>dd = .list ((qT R i).map .int)/\e=[.val (qaa b R),.non,.val (.int i),.non,.non],hE,?_,fun dd v3 F4 H4 e4 I4 s4 i4 q4=>?_⟩
  ·exact ⟨_,rfl,_,R,i,rfl,⟨qsy _,hl,fun r hr=>by rw [hT.len r hr];exact hin'⟩,rfl,rfl⟩
  obtain ⟨rfl,rfl⟩:=q4;have g4:=I4.goOf;have gr4:=gr3.go g4;have g24:=g23.trans g4;have s24:=s3.trans g4.f;clear g23 gr3 s3 hE I4 g4;have hE:EnvOk K ⟨H4,H4,F4⟩ F4 H4 [.val (qaa b R),.non,.val (.int i),.val (.list ((qT R i).map .int)),.non] [some vg,some (.ref d),some (.int i),some v3,o4] :=
   qhw g24.fh ⟨_,_,rfl,⟨⟨vg,rfl,ig.mono g24.f⟩,rfl⟩,_,_,rfl,⟨trivial,rfl⟩,_,_,rfl,⟨⟨_,rfl,qJ _⟩,rfl⟩,_,_,rfl,⟨⟨_,rfl,i4⟩,rfl⟩,_,_,rfl,⟨trivial,rfl⟩,rfl⟩
  refine ⟨⟨H4,H4,F4⟩,_,F4,fun bb e=>bb=(qT R i).any (· != 0)/\e=[.val (qaa b R),.non,.val (.int i),.val (.list ((qT R i).map .int)),.non],hE,?_,fun bb F5 H5 e5 I5 s5 q5=>?_⟩
  ·exact ⟨_,rfl,rfl,rfl⟩
  obtain ⟨rfl,rfl⟩:=q5;have g5:=I5.goOf;have gr5:=gr4.go g5;have g25:=g24.trans g5;have s25:=s24.trans g5.f;have i5:=i4.mono g5.f;clear g24 gr4 s24 hE I5 g5 i4;cases ea:(qT R i).any (· != 0) with
  | false =>
   refine ⟨m-1,by omega,by omega,F5,ks,_,_,_,rfl,g25,s25,gr5,?_⟩;rw [es];show _=if (qT R i).any (· != 0)=true then _ else _
   rw [ea];rfl
  | true =>
   obtain ⟨gp,gz⟩:=zatq hT ea bz;have hE:EnvOk K ⟨H5,H5,F5⟩ F5 H5 [.val (qaa b R),.non,.val (.int i),.val (.list ((qT R i).map .int)),.non] [some vg,some (.ref d),some (.int i),some v3,o4] :=
    qhw g25.fh ⟨_,_,rfl,⟨⟨vg,rfl,ig.mono g25.f⟩,rfl⟩,_,_,rfl,⟨trivial,rfl⟩,_,_,rfl,⟨⟨_,rfl,qJ _⟩,rfl⟩,_,_,rfl,⟨⟨_,rfl,i5⟩,rfl⟩,_,_,rfl,⟨trivial,rfl⟩,rfl⟩
   refine ⟨⟨H5,H5,F5⟩,_,F5,fun dd e=>dd=qei (nrm (qT R i))/\e=[.val (qaa b R),.non,.val (.int i),.val (.list ((qT R i).map .int)),.non],hE,?_,fun dd v4 F6 H6 e6 I6 s6 i6 q6=>?_⟩
   ·have eg:qac [qT R i]=qR 0 (qT R i):=rfl;refine ⟨by simp [Yr],_,[qT R i],rfl,qtr [qT R i],?_⟩;exact ⟨_,qT R i,_,rfl,⟨rfl,by rw [zanp];exact hl,gp,gz⟩,rfl,rfl⟩
   obtain ⟨rfl,rfl⟩:=q6;have g6:=I6.goOf;have gr6:=gr5.go g6;have g26:=g25.trans g6;unfold qei IsN at i6;obtain ⟨b4,xs4,rfl,hb4,hx4⟩:=i6;have hb4:=qhp _ _ hb4;have ex4:xs4=(nrm (qT R i)).map V.int:=(IssN.is qhp hx4).ints_inv;subst ex4;refine zapz (s:=i) g26 gr6 rfl rfl rfl hb4 ?_ ?_ fun p H' g' gr'=>⟨m-1,by omega,by omega,F6,_,_,_,_,rfl,g',s25.trans g6.f,gr',?_⟩
   ·have:(qkc ks).length=ks.length:=by unfold qkc;rw [Qf]
    have:=qpi R i;rw [<- es] at this;omega
   ·intro x hx;have:(x.1,x.2.2) ∈ grs R i:=by rw [<- es];exact Qk.mpr ⟨x,hx,rfl⟩
    have:=qon R i _ this;show x.2.2.length<900;have:x.2.2.length<=i:=this;omega
   ·rw [zadi,es];show _=if (qT R i).any (· != 0)=true then _ else _
    rw [ea];rfl
def qfq (ds:List Qh) (q:Qh->Prop):Prop := ∃ (d:Qh) (r:List Int) (Gs:List (List Nat)),ds=[d,.list (grD Gs)]/\(qea d=some (r.map .int)/\Gs.length<=900 /\ ∀ G ∈ Gs,G.length<=900 /\ ∀ i ∈ G,i<r.length)/\q (.list ((Gs.map fun G=>qdg r G).map .int))
def qkn:FnScope [Sh,Sw] [Sh,Sw] (defScope qbw):=sc0
def qkm (F:Def K mg SV qbw [Sh,Sw]) (T:Txt K mg cs)
 (O_joined_number:Ok P w K mg base SN 1 [Sh,Sr] (PSp K qdl))
 : Ok P w K mg base SV 2 [Sh,Sw] (PSp K qfq):=by
  refine F.vok qkn (by rintro ds q ⟨_,_,_,h,_⟩;rw [h];rfl) fun f cdv A outer s H E hr ds q h=>?_;obtain ⟨d,r,Gs,rfl,⟨e1,hl,hk⟩,h⟩:=h;refine ⟨_,(qj (qC (qV (qN (caps:=[Sh]) (own:=[Sr]) (ix:=[0]) rfl ⟨rfl,rfl,rfl,rfl,rfl,rfl⟩ (qY (qc 1)) (fun _ _ _ _=>(qp (i:=1) (show Ze ([Sh,Sr]:List Str) by decide))) (fun _ _ _ _=>(qB O_joined_number hr.m (qd (qc 0) (qd (qc 1) qe)))))))),?_⟩;refine qO ((Gs.map fun G=>qdg r G).map .int) (by simp [grD]) (qo (by simp;omega)) (fun e => ∃ s,e=[.val d,s]) ⟨_,rfl⟩ ?_ h;rintro i x ys e hx hys ⟨s,rfl⟩;unfold grD at hx;rw [Qa] at hx;cases er:Gs[i]? with
  | none=>rw [er] at hx;cases hx
  | some G =>
   rw [er] at hx;cases hx;refine ⟨_,_,r,G,rfl,⟨e1,rfl,(hk G (qfi er)).1,(hk G (qfi er)).2⟩,qq ?_ hys,_,rfl⟩;rw [Qa,Qa,er];rfl
def qbv (Gs:List (List Nat)) (s:Nat):Nat:=(Gs.findIdx? fun G=>G.contains s).getD 0
def qyv {Gs:List (List Nat)}{s i:Nat}{G:List Nat} (e:Gs[i]?=some G) (h:s ∈ G) (hI : ∀ j (G':List Nat),j<i->Gs[j]?=some G'->s ∉ G'):qbv Gs s=i:=by
 unfold qbv;have:Gs.findIdx? (fun G=>G.contains s)=some i:=by
  rw [Qby];obtain ⟨hi,rfl⟩:=Qm.mp e;exact ⟨hi,by simpa using h,fun j hj=>by simpa using hI j _ hj (Qc (by omega))⟩
 rw [this];rfl
def qkx {Gs:List (List Nat)}{s:Nat} (hI : ∀ G ∈ Gs,s ∉ G):qbv Gs s=0:=by
 unfold qbv;have:Gs.findIdx? (fun G=>G.contains s)=none:=by
  rw [Qer];intro G hG;simpa using hI G hG
 rw [this];rfl
def qnd (ds:List Qh) (q:Qh->Prop):Prop := ∃ (s:Nat) (Gs:List (List Nat)),ds=[.int s,.list (grD Gs)]/\q (.int (qbv Gs s:Nat))
def qie:FnScope [Sy,Sw,Sd,Sr] [Sy,Sw] (defScope qhk):=sc0
def qwh (F:Def K mg UF qhk [Sy,Sw]) (T:Txt K mg cs)
 : Ok P w K mg base UF 1 [Sy,Sw] (PSp K qnd):=by
  refine F.vok qie (by rintro ds q ⟨_,_,h,_⟩;rw [h];rfl) fun f cdv A outer s H E hr ds q h=>?_;obtain ⟨s,Gs,rfl,h⟩:=h;refine ⟨_,(qg (qby rfl (qqa T.enumerate_ (qc 1)) (qhv (n:=2) rfl (qad (qp (i:=2) qie.nd) (qad (qp (i:=3) qie.nd) qfk))) (qj (qcm (qK zaod (qc 0) (qc 3)) (qj (qC (qc 2))) qW)))
   (qj (qC qf))),?_⟩
  refine ⟨fun i e => ∃ t1 t2,e=[.val (.int s),.val (.list (grD Gs)),t1,t2] /\ ∀ j (G:List Nat),j<i->Gs[j]?=some G->s ∉ G,⟨_,_,rfl,fun j y hj=>by omega⟩,?_,?_⟩
  ·rintro i x e hx ⟨t1,t2,rfl,hI⟩;obtain ⟨x,hx',rfl⟩:=qiw hx;obtain ⟨G,hG,rfl⟩:=zabp hx';refine ⟨rfl,rfl,_,_,rfl,qxv G,?_⟩;cases a:(G.map fun i=>((i:Nat):Int)).any (· == (s:Int)) with
   | true =>
    have hm:=qwa.mp a;rw [qyv hG hm hI] at h;exact h
   | false =>
    refine ⟨_,_,rfl,fun j y hj hy=>?_⟩;by_cases e:j=i
    ·subst e;rw [hG] at hy;cases hy;exact fun m=>by rw [qwa.mpr m] at a;cases a
    ·exact hI j y (by omega) hy
  ·rintro e ⟨t1,t2,rfl,hI⟩;rw [qdy,grD,Qf] at hI;rw [qkx fun G hG=>?_] at h
   ·exact h
   ·obtain ⟨j,hj,rfl⟩:=Jk.mp hG;exact hI j _ hj (Qc hj)
def zapy:Qh->Bool
 | .int _=>true
 | _=>false
def qfw:DC
 | [d],q=>q (.bool (zapy d))
 | _,_=>False
def qwp:FnScope [SM] [SM] (defScope qgs):=sc0
def qwn (F:Def K mg Ui qgs [SM]) (T:Txt K mg cs)
 : Ok P w K mg base Ui 1 [SM] (PSp K qfw):=by
  refine F.vok qwp (fun ds q h=>by unfold qfw at h;split at h;all_goals first|rfl|exact h.elim) fun f cdv A outer s H E hr ds q h=>?_
  match ds,h with
  | [d],h =>
  refine ⟨_,(qj (qC (qok (zaai T.isinstance_ T.int_ L2.boot_int (qc 0)) (qlj (zapv (zaai T.isinstance_ T.bool_ L2.boot_bool (qc 0))))))),?_⟩;cases d <;> exact h
def qgw:DC
 | [.int t,.int b],q=>(b≠0/\intBits b<=9000)/\q (dSh (shT t b) (shB t b))
 | _,_=>False
def qkh:FnScope [SY,Sc,Sx] [SY,Sc] (defScope qix):=sc0
def qzj (F:Def K mg Uy qix [SY,Sc]) (T:Txt K mg cs)
 (O_divisor:Ok P w K mg base SU 1 [Se,Sb] (PSp K qcr))
 : Ok P w K mg base Uy 2 [SY,Sc] (PSp K qgw):=by
  refine F.vok qkh (fun ds q h=>by unfold qgw at h;split at h;all_goals first|rfl|exact h.elim) fun f cdv A outer s H E hr ds q h=>?_
  match ds,h with
  | [.int t,.int b],⟨⟨hb,hz⟩,h⟩ =>
  refine ⟨_,(qg (qt (i:=2) qkh.nd (qB O_divisor hr.m (qd (qc 0) (qd (qc 1) qe))))
   (qek (qcm (qK o_lt (qc 1) qf) (qj (qt (i:=2) qkh.nd (qli (qc 2)))) qW)
   (qj (qC (qjt (qd (qy zaix (qc 0) (qc 2)) (qd (qy zaix (qc 1) (qc 2)) qe))))))),?_⟩
  have hc:=zaoe (t:=t) hb;have hcz:=zalj (t:=t) hb hz;refine ⟨fun e=>e=[.val (.int t),.val (.int b),.val (.int (cm t b))],?_,?_⟩
  ·refine qkj (fun hn=>?_) (fun hn=>?_)
   ·show _=_;unfold cm;rw [if_pos hn];rfl
   ·show _=_;unfold cm;rw [if_neg hn];rfl
  ·rintro e rfl;exact ⟨⟨hc,hcz⟩,⟨hc,hcz⟩,szl,h⟩
def qis:DC
 | [.int t,.int b],q=>(b≠0/\intBits b<=9000)/\q (dSh (shT t b) (shB t b))
 | _,_=>False
def zaia:FnScope [SY,Sc] [SY,Sc] (defScope qpc):=sc0
def zafj (F:Def K mg UL qpc [SY,Sc]) (T:Txt K mg cs)
 (O_is_whole:Ok P w K mg base Ui 1 [SM] (PSp K qfw))
 (O_reduced:Ok P w K mg base Uy 2 [SY,Sc] (PSp K qgw))
 : Ok P w K mg base UL 3 [SY,Sc] (PSp K qis):=by
  refine F.vok zaia (fun ds q h=>by unfold qis at h;split at h;all_goals first|rfl|exact h.elim) fun f cdv A outer s H E hr ds q h=>?_
  match ds,h with
  | [.int t,.int b],h =>
  refine ⟨_,(qg (qcm (VW.pt (qqg (qlh (qhy (qB O_is_whole hr.m (qd (qc 0) qe)))) (qqg (qlh (qhy (qB O_is_whole hr.m (qd (qc 1) qe)))) (qlg (qK (qmf hr.units) (qc 1) qf))))) qgl qW)
   (qj (qC (qB O_reduced hr.m (qd (qc 0) (qd (qc 1) qe)))))),?_⟩
  exact ⟨rfl,rfl,qgc (fun z=>(h.1.1 z).elim) (fun _=>h)⟩
def qM (R:List (List Int)) (G:List Nat) (k:Nat):Int:=if k ∈ G then (qT R k).sum else 0
def qH (R:List (List Int)) (G:List Nat) (n:Nat):List (Int×Int):=(Q1 n).map fun k=>(shT (qM R G k) (jc R G).sum,shB (qM R G k) (jc R G).sum)
def qno (ds:List Qh) (q:Qh->Prop):Prop := ∃ (b:Int) (R:List (List Int)) (n:Nat) (G:List Nat),ds=[.list (sgD G),qaa b R]/\((∀ r ∈ R,r.length=n)/\R≠[]/\R.length<=900/\n<=900/\G.length<=900/\(∀ i ∈ G,i<n)/\(jc R G).sum≠0/\intBits (jc R G).sum<=9000)/\q (.list ((qH R G n).map dS))
def qnk:FnScope [Sr,Sg,"whole"] [Sr,Sg] (defScope qhl):=sc0
def qwz (F:Def K mg UG qhl [Sr,Sg]) (T:Txt K mg cs)
 (O_signs:Ok P w K mg base SL 1 [Sg] (PSp K qcq))
 (O_column:Ok P w K mg base UN 1 [Si,Sd] (FSp K qmn))
 (O_joined_column:Ok P w K mg base SO 2 [Sg,Sr] (FSp K qdk))
 (O_share:Ok P w K mg base UL 3 [SY,Sc] (PSp K qis))
 : Ok P w K mg base UG 4 [Sr,Sg] (PSp K qno):=by
  refine F.vok qnk (by rintro ds q ⟨_,_,_,_,h,_⟩;rw [h];rfl) fun f cdv A outer s H E hr ds q h=>?_;obtain ⟨b,R,n,G,rfl,⟨hn,hR,hl,n9,g9,hG,w0,wz⟩,h⟩:=h;refine ⟨_,(qg (qt (i:=2) qnk.nd (qx (zaac rfl) T.sum_ L2.boot_sum (qd (qV (qkf O_joined_column hr.m (qd (qc 1) (qd (qc 0) qe)))) qe)))
   (qj (qC (qV (qN (caps:=[Sr,Sg,"whole"]) (own:=[Sy]) (ix:=[0,1,2]) rfl ⟨rfl,rfl,rfl,rfl,rfl,rfl⟩ (qS T.range_ (qB O_signs hr.m (qd (qc 1) qe))) (fun _ _ _ _=>(qp (i:=3) (show Ze ([Sr,Sg,"whole",Sy]:List Str) by decide))) (fun _ _ _ _=>(qB O_share hr.m (qd (qej (qK zaod (qc 3) (qc 0)) (qx (zaac rfl) T.sum_ L2.boot_sum (qd (qV (qkf O_column hr.m (qd (qv (qc 1) qf) (qd (qc 3) qe)))) qe)) qf) (qd (qc 2) qe))))))))),?_⟩
  obtain ⟨r0,R0,rfl⟩:=Qt hR;have l0:r0.length=n:=hn r0 (by simp);refine ⟨b,_,_,G,rfl,⟨hl,rfl,g9,fun r hr i hi=>by rw [hn r hr];exact hG i hi⟩,?_⟩;refine ⟨_,rfl,?_⟩;refine ⟨b,r0,R0,rfl,?_⟩;rw [l0];refine ⟨⟨by omega,by omega⟩,qO ((qH (r0::R0) G n).map dS) (by simp [qE,qH]) (qo (by simp [qH];omega)) (fun e => ∃ s,e=[.val (.list (sgD G)),.val (qaa b (r0::R0)),.val (.int (jc (r0::R0) G).sum),s]) ⟨_,rfl⟩ ?_ h⟩;rintro i x ys e hx hys ⟨s,rfl⟩;obtain ⟨hi,rfl⟩:=qam hx;rw [Vk];have hi':i<n:=by omega
  have g:((qH (r0::R0) G n).map dS)[i]?=some (dS (shT (qM (r0::R0) G i) (jc (r0::R0) G).sum,shB (qM (r0::R0) G i) (jc (r0::R0) G).sum)):=by
   unfold qH;rw [Qa,Qa,Qn hi'];rfl
  refine ⟨_,_,rfl,qxv G,?_⟩;cases a:(G.map fun k=>((k:Nat):Int)).any (· == (i:Int)) with
  | true =>
   have hm:=qwa.mp a;have e:qM (r0::R0) G i=(qT (r0::R0) i).sum:=if_pos hm;rw [e] at g;exact ⟨_,rfl,_,_,i,rfl,⟨qsy _,hl,fun r hr=>by rw [hn r hr];exact hi'⟩,_,rfl,⟨w0,wz⟩,qq g hys,_,rfl⟩
  | false =>
   have e:qM (r0::R0) G i=0:=if_neg fun m=>by rw [qwa.mpr m] at a;cases a
   rw [e] at g;exact ⟨⟨w0,wz⟩,qq g hys,_,rfl⟩
def zact (r:List Int) (G:List Nat) (s:Nat):qdg r (G++[s])=qdg r G+(r[s]?).getD 0:=by
 unfold qdg;rw [Zm,Jr];simp
def zaax (r:List Int) (k:List Int) (s:Nat) : ∀ gs:List (List Int×List Nat),(gs.map (·.1)).Nodup->(gs.any fun x=>decide (x.1=k))=true->((gs.map fun x=>if x.1=k then (x.1,x.2++[s]) else x).map fun x=>qdg r x.2).sum=(gs.map fun x=>qdg r x.2).sum+(r[s]?).getD 0
 | [],_,h=>by cases h
 | x::gs,hn,h=>by
  rw [Q2,Jl] at hn;rw [Q2,Q2,Za,Q2,Za];by_cases e:x.1=k
  ·have rest:gs.map (fun x=>if x.1=k then (x.1,x.2++[s]) else x)=gs.map id:=Z9 fun y hy=>if_neg fun z=>hn.1 (Qk.mpr ⟨y,hy,by rw [z,e]⟩);rw [rest,List.map_id,if_pos e];show qdg r (x.2++[s])+_=_;rw [zact];omega
  ·rw [Jz,decide_eq_false e,Qky] at h;rw [zaax r k s gs hn.2 h,if_neg e];omega
def zahb {R:List (List Int)}{gs:List (List Int×List Nat)} (h:GrsOk R gs) (r k:List Int) (s:Nat):((qos gs k s).map fun x=>qdg r x.2).sum=(gs.map fun x=>qdg r x.2).sum+(r[s]?).getD 0:=by
 unfold qos;split
 ·rename_i ha;exact zaax r k s gs h.ky ha
 ·rw [Zm,Jr];simp [qdg]
def zahh (r:List Int) (i:Nat):(r.take (i+1)).sum=(r.take i).sum+(r[i]?).getD 0:=by
 rw [Yf,Jr];cases r[i]? <;> simp
def zacm {R:List (List Int)} (hn : ∀ r ∈ R,∀ x ∈ r,0<=x) {r:List Int} (hr:r ∈ R) : ∀ i,((grs R i).map fun x=>qdg r x.2).sum=(r.take i).sum
 | 0=>by simp [grs]
 | i+1=>by
  rw [zahh,<- zacm hn hr i];show ((if (qT R i).any (· != 0)=true then qos (grs R i) (nrm (qT R i)) i else grs R i).map fun x=>qdg r x.2).sum=_;split
  ·exact zahb (qlf hn i) r _ i
  ·rename_i ea;have:(r[i]?).getD 0=0:=Yp fun z=>ea (Yn.mpr ⟨_,by unfold qT;exact Qk.mpr ⟨r,hr,rfl⟩,by simpa using z⟩);omega
def zajl {α:Type}{n:Nat}{p:Array Nat} (h:PmN n p) (f:Nat->α):(p.toList.map f).Perm ((Q1 n).map f):=h.p.map f
def qst (R:List (List Int)) (n:Nat):(Q1 (grs R n).length).map (fun i=>qdh R n i)=(grs R n).map (·.2):=by
 refine Zl fun i=>?_;by_cases hi:i<(grs R n).length
 ·rw [Qa,Qn hi,Qa,Qc hi];show some (qdh R n i)=some _;unfold qdh;rw [Qc hi];rfl
 ·rw [Qo (by simp;omega),Qo (by simp;omega)]
structure GsOk (R:List (List Int)) (n:Nat) (Gs:List (List Nat)):Prop where
 len:Gs.length<=n
 ne : ∀ G ∈ Gs,G≠[]
 le : ∀ G ∈ Gs,G.length<=n
 lt : ∀ G ∈ Gs,∀ s ∈ G,s<n
 co : ∀ G ∈ Gs,Col (jc R G)
 sum : ∀ r ∈ R,r.length=n->(Gs.map fun G=>qdg r G).sum=r.sum
def zaob {R:List (List Int)} (hn : ∀ r ∈ R,∀ x ∈ r,0<=x) {n:Nat}{p:Array Nat} (hp:PmN (grs R n).length p):GsOk R n (p.toList.map fun i=>qdh R n i):=by
 have pm:=zajl hp fun i=>qdh R n i;rw [qst] at pm;have h:=qlf hn n;have mem : ∀ G ∈ p.toList.map (fun i=>qdh R n i),∃ x ∈ grs R n,x.2=G:=fun G hG=>Qk.mp (pm.mem_iff.mp hG);refine ⟨?_,fun G hG=>?_,fun G hG=>?_,fun G hG=>?_,fun G hG=>?_,fun r hr hl=>?_⟩
 ·rw [pm.length_eq,Qf];exact qpi R n
 ·obtain ⟨x,hx,rfl⟩:=mem G hG;exact h.ne x hx
 ·obtain ⟨x,hx,rfl⟩:=mem G hG;exact qon R n x hx
 ·obtain ⟨x,hx,rfl⟩:=mem G hG;exact qoj R n x hx
 ·obtain ⟨x,hx,rfl⟩:=mem G hG;exact (qwf (h.ne x hx) (h.me x hx)).2
 ·rw [zagg (pm.map fun G=>qdg r G),Zy];have e:=zacm hn hr n;rw [<- hl,Zq] at e;rw [<- hl];exact e
def qao (Gs:List (List Nat)) (r:List Int):List Int:=Gs.map fun G=>qdg r G
def GrsOf (R:List (List Int)) (n:Nat) (Gs:List (List Nat)):Prop := ∃ p:Array Nat,PmN (grs R n).length p/\SrtN (qbd (fun i=>jc R (qdh R n i)) R.length) p (grs R n).length/\Gs=p.toList.map fun i=>qdh R n i
def qaq (b:Int) (R:List (List Int)) (Gs:List (List Nat)):Qh:=qaa (b/qac (R.map (qao Gs))) (qdi (R.map (qao Gs)) (qac (R.map (qao Gs))))
def qvh (n:Nat) (Gs:List (List Nat)):Qh:=qaa 1 ((Q1 n).map fun s=>qjh (qbv Gs s) Gs.length)
def qxs (ds:List Qh) (q:Qh->Prop):Prop := ∃ (b:Int) (R:List (List Int)) (n:Nat),ds=[qaa b R]/\(Tab b R n/\R≠[]/\R.length<=12/\1<=n/\n<=12/\b<=100000) /\ ∀ Gs B,GrsOf R n Gs->LcmB (Gs.map fun G=>qH R G n) B->q (.tuple [qaq b R Gs,qvh n Gs,qaa B ((Gs.map fun G=>qH R G n).map (qX B))])
def qve {r:List Int} (h : ∀ x ∈ r,0<=x) : ∀ G:List Nat,0<=qdg r G
 | []=>by simp [qdg]
 | i::G=>by
  have e:qdg r (i::G)=(r[i]?).getD 0+qdg r G:=by unfold qdg;rw [Q2,Za]
  have:=qve h G;have:0<=(r[i]?).getD 0:=by
   cases q:r[i]? with
   | none=>exact Yk _
   | some x=>exact h x (Qg q)
  omega
def jTab {b:Int}{R:List (List Int)}{n:Nat}{Gs:List (List Nat)} (hT:Tab b R n) (g:GsOk R n Gs):Tab b (R.map (qao Gs)) Gs.length:=by
 refine ⟨hT.pos,fun r hr=>?_,fun r hr x hx=>?_,fun r hr=>?_⟩
 ·obtain ⟨r0,_,rfl⟩:=Qk.mp hr;unfold qao;rw [Qf]
 ·obtain ⟨r0,h0,rfl⟩:=Qk.mp hr;obtain ⟨G,_,rfl⟩:=Qk.mp hx;exact qve (hT.nn r0 h0) G
 ·obtain ⟨r0,h0,rfl⟩:=Qk.mp hr;exact (g.sum r0 h0 (hT.len r0 h0)).trans (hT.sum r0 h0)
def qoi {b:Int}{R:List (List Int)}{n:Nat}{Gs:List (List Nat)} (hT:Tab b R n) (g:GsOk R n Gs) {G:List Nat} (hG:G ∈ Gs):0<(jc R G).sum/\(jc R G).sum<=b*R.length:=by
 have c:=g.co G hG;constructor
 ·obtain ⟨x,hx,z⟩:=c.nz;have:=c.nn x hx;have:=qfm c.nn hx;omega
 ·have key : ∀ R':List (List Int),(∀ r ∈ R',r ∈ R)->(jc R' G).sum<=b*R'.length:=by
   intro R'
   induction R' with
   | nil=>intro _;simp [jc]
   | cons r R' ih =>
    intro h;have h1:qdg r G<=b:=by
     have hr:=h r (by simp);have e:=(g.sum r hr (hT.len r hr)).trans (hT.sum r hr);rw [<- e];exact qfm (r:=Gs.map fun G=>qdg r G) (fun x hx=>by obtain ⟨G',_,rfl⟩:=Qk.mp hx;exact qve (hT.nn r hr) G') (Qk.mpr ⟨G,hG,rfl⟩)
    have h2:=ih fun r hr=>h r (Qu _ hr);have e:(jc (r::R') G).sum=qdg r G+(jc R' G).sum:=by unfold jc;rw [Q2,Za];rfl
    rw [e,Zb]
    push_cast
    rw [Qco,Qcj];omega
  exact key R fun r hr=>hr
def zabg : ∀ (ws:List Int),(∀ w ∈ ws,0<w/\w<=1200000)->0<ws.foldr (· * ·) 1/\(ws.foldr (· * ·) 1).natAbs<=1200000^ws.length /\ ∀ w ∈ ws,w∣ws.foldr (· * ·) 1
 | [],_=>⟨by decide,by decide,fun w hw=>by cases hw⟩
 | w::ws,h=>by
  obtain ⟨a1,a2,a3⟩:=zabg ws fun x hx=>h x (Qu _ hx);obtain ⟨w0,w1⟩:=h w (by simp);rw [List.foldr_cons];refine ⟨Yl w0 a1,?_,fun x hx=>?_⟩
  ·rw [Qep,Zb,Qje,Qbn];exact Yx a2 (by omega)
  ·rcases Q5.mp hx with rfl|z
   ·exact Qix _ _
   ·exact Vs (a3 x z) (Qjs _ _)
def zajc {b:Int}{R:List (List Int)}{n:Nat} (hT:Tab b R n) (G:List Nat) (k:Nat):0<=qM R G k/\qM R G k<=b*R.length:=by
 have b0:=hT.pos;have p:0<=b*(R.length:Int):=Zn (by omega) (by omega);unfold qM;split
 ·have key : ∀ R':List (List Int),(∀ r ∈ R',r ∈ R)->0<=(qT R' k).sum/\(qT R' k).sum<=b*R'.length:=by
   intro R'
   induction R' with
   | nil=>intro _;simp [qT]
   | cons r R' ih =>
    intro h;have hr:=h r (by simp);have h1:0<=(r[k]?).getD 0/\(r[k]?).getD 0<=b:=by
     cases q:r[k]? with
     | none=>exact ⟨Yk _,by show (0:Int)<=b;omega⟩
     | some x =>
      have xm:=Qg q;refine ⟨hT.nn r hr x xm,?_⟩;rw [<- hT.sum r hr];exact qfm (hT.nn r hr) xm
    have h2:=ih fun r hr=>h r (Qu _ hr);have e:(qT (r::R') k).sum=(r[k]?).getD 0+(qT R' k).sum:=by unfold qT;rw [Q2,Za]
    rw [e,Zb]
    push_cast
    rw [Qco,Qcj];omega
  exact key R fun r hr=>hr
 ·exact ⟨Yk _,p⟩
def qit:FnScope [Sg,Sw,"form","there","back"] [Sg] (defScope qqe):=sc0
def zahc (F:Def K mg "least" qqe [Sg]) (T:Txt K mg cs)
 (O_lowest_table:Ok P w K mg base S6 3 [Sc,Si] (PSp K qhe))
 (O_table_of_shares:Ok P w K mg base SD 2 [Si] (PSp K qcp))
 (O_signs:Ok P w K mg base SL 1 [Sg] (PSp K qcq))
 (O_one_sign:Ok P w K mg base UE 1 [Sd,Sm] (PSp K qnf))
 (O_sorted_groups:Ok P w K mg base SA 4 [Sg] (TSp cs.tb K qgf))
 (O_joined_numbers:Ok P w K mg base SV 2 [Sh,Sw] (PSp K qfq))
 (O_place_of:Ok P w K mg base UF 1 [Sy,Sw] (PSp K qnd))
 (O_parts_of:Ok P w K mg base UG 4 [Sr,Sg] (PSp K qno))
 : Ok P w K mg base "least" 5 [Sg] (TSp cs.tb K qxs):=by
  refine F.ok qit (by rintro vs H Q E ⟨_,F,ds,q,_,_,i,⟨_,_,_,h,_⟩,_⟩;rw [i.len,h];rfl) fun f cdv A outer s H vs Q E hr h=>?_;obtain ⟨ts,F0,ds,q,ft,sm,hi,⟨b,R,n,rfl,⟨hT,hR,hl,n1,n9,b9⟩,hq⟩,kk⟩:=h;have b0:=hT.pos;have bz:intBits b<=200:=qA (qbl (by omega) (by omega)) (by decide);refine ⟨_,qF (qdx (i:=1) qit.nd rfl (by first|exact Yy rfl|exact Z6 rfl) (qoc O_sorted_groups hr.m (qz (pv 0) qal))) (VSs.pss (qg (qt (i:=2) qit.nd (qB O_lowest_table hr.m (qd (qv (qc 0) qf) (qd (qV (qN (caps:=[Sw]) (own:=[Sh]) (ix:=[1]) rfl ⟨rfl,rfl,rfl,rfl,rfl,rfl⟩ (qY (qv (qc 0) qf)) (fun _ _ _ _=>(qp (i:=1) (show Ze ([Sw,Sh]:List Str) by decide))) (fun _ _ _ _=>(qB O_joined_numbers hr.m (qd (qc 1) (qd (qc 0) qe)))))) qe))))
   (qg (qt (i:=3) qit.nd (qjt (qd qf (qd (qbp qfg T.tuple_ L2.boot_tuple (qd (qV (qN (caps:=[Sw]) (own:=[Sy]) (ix:=[1]) rfl ⟨rfl,rfl,rfl,rfl,rfl,rfl⟩ (qS T.range_ (qB O_signs hr.m (qd (qc 0) qe))) (fun _ _ _ _=>(qp (i:=1) (show Ze ([Sw,Sy]:List Str) by decide))) (fun _ _ _ _=>(qB O_one_sign hr.m (qd (qB O_place_of hr.m (qd (qc 1) (qd (qc 0) qe))) (qd (qx qcf T.len_ L2.boot_len (qd (qc 0) qe)) qe)))))) qe)) qe))))
   (qg (qt (i:=4) qit.nd (qB O_table_of_shares hr.m (qd (qV (qN (caps:=[Sg]) (own:=[Sr]) (ix:=[0]) rfl ⟨rfl,rfl,rfl,rfl,rfl,rfl⟩ (qY (qc 1)) (fun _ _ _ _=>(qp (i:=1) (show Ze ([Sg,Sr]:List Str) by decide))) (fun _ _ _ _=>(qB O_parts_of hr.m (qd (qc 1) (qd (qc 0) qe)))))) qe)))
   (qj (qC (qjt (qd (qc 2) (qd (qc 3) (qd (qc 4) qe)))))))))),?_⟩
  obtain ⟨vg,rfl,ig⟩:=qkt hi;refine ⟨vg,rfl,ts,F0,[qaa b R],fun dd => ∃ Gs,GrsOf R n Gs/\dd = .list (grD Gs),ft,sm,hi,⟨b,R,n,rfl,⟨hT,hR,by omega,by omega,by omega⟩,fun p hp hs=>⟨_,⟨p,hp,hs,rfl⟩,rfl⟩⟩,?_⟩;rintro dd v1 F1 H1 go i1 ⟨Gs,hG,rfl⟩;have hE:EnvOk K ⟨H1,H1,F1⟩ F1 H1 [.val (qaa b R),.val (.list (grD Gs)),.non,.non,.non] [some vg,some v1,none,none,none] :=
   qhw go.fh ⟨_,_,rfl,⟨⟨vg,rfl,ig.mono go.f⟩,rfl⟩,_,_,rfl,⟨⟨v1,rfl,i1⟩,rfl⟩,_,_,rfl,⟨trivial,rfl⟩,_,_,rfl,⟨trivial,rfl⟩,_,_,rfl,⟨trivial,rfl⟩,rfl⟩
  refine ⟨⟨H1,H1,F1⟩,_,F1,{ nx:=fun _=>False,rt:=fun r _=>q r.data },hE,?_,⟨fun _ _ _ _ _ _ z=>z.elim,fun r v e2 F2 H2 σ2 I2 s2 r2 q2=>?_,fun _ _ _ _ _ _ z=>z.elim,fun _ _ _ _ _ _ z=>z.elim⟩⟩
  ·obtain ⟨p,hp,hs,eG⟩:=id hG;have gok:GsOk R n Gs:=by rw [eG];exact zaob hT.nn hp
   have gl:=gok.len;have tj:=jTab hT gok;obtain ⟨r0,R0,eR⟩:=Qt hR;have l0:r0.length=n:=hT.len r0 (by rw [eR];simp);refine ⟨_,rfl,_,rfl,qO ((R.map (qao Gs)).map qag) (by simp) (qo (by simp;omega)) (fun e => ∃ s,e=[.val (.list (grD Gs)),s]) ⟨_,rfl⟩ ?_ ?_⟩
   ·rintro i x ys e hx hys ⟨s,rfl⟩;rw [Qa] at hx;cases er:R[i]? with
    | none=>rw [er] at hx;cases hx
    | some r =>
     rw [er] at hx;cases hx;have rm:=Qg er;refine ⟨_,r,Gs,rfl,⟨rfl,by omega,fun G hG=>⟨by have:=gok.le G hG;omega,fun s hs=>by rw [hT.len r rm];exact gok.lt G hG s hs⟩⟩,qq ?_ hys,_,rfl⟩;rw [Qa,Qa,er];rfl
   refine ⟨b,_,R.map (qao Gs),Gs.length,rfl,⟨qtr _,tj,by simpa using hR,by simp;omega,by omega,by omega⟩,?_⟩;refine ⟨b,r0,R0,by rw [eR],?_⟩;rw [l0];have lg:(grD Gs).length=Gs.length:=by unfold grD;rw [Qf]
   refine ⟨⟨by omega,by omega⟩,qO (((Q1 n).map fun s=>qjh (qbv Gs s) Gs.length).map qei) (by simp [qE]) (qo (by simp;omega)) (fun e => ∃ s,e=[.val (.list (grD Gs)),s]) ⟨_,rfl⟩ ?_ ?_⟩
   ·rintro i x ys e hx hys ⟨s,rfl⟩;obtain ⟨hi',rfl⟩:=qam hx;rw [Vk];have hi2:i<n:=by omega
    refine ⟨i,Gs,rfl,qbv Gs i,Gs.length,by rw [lg],by omega,qq ?_ hys,_,rfl⟩;rw [Qa,Qa,Qn hi2];rfl
   refine ⟨by rw [Yr];simp,?_⟩;have wb : ∀ G ∈ Gs,0<(jc R G).sum/\(jc R G).sum<=1200000:=fun G hG=>by
    obtain ⟨a1,a2⟩:=qoi hT gok hG;refine ⟨a1,Qjg a2 ?_⟩;have:b*R.length<=100000*12:=Qks b9 (by omega) (by omega) (by omega);omega
   refine qO ((Gs.map fun G=>qH R G n).map fun V => .list (V.map dS)) (by simp [grD]) (qo (by simp;omega)) (fun e => ∃ s,e=[.val (qaa b R),s]) ⟨_,rfl⟩ ?_ ?_
   ·rintro i x ys e hx hys ⟨s,rfl⟩;obtain ⟨G,hG,rfl⟩:=zabp hx;have gm:=Qg hG;obtain ⟨w0,w1⟩:=wb G gm;refine ⟨b,R,n,G,rfl,⟨hT.len,hR,by omega,by omega,by have:=gok.le G gm;omega,gok.lt G gm,by omega,qA (qbl (by omega) (by omega)) (by decide)⟩,qq ?_ hys,_,rfl⟩;rw [Qa,Qa,hG];rfl
   obtain ⟨d1,d2,d3⟩:=zabg (Gs.map fun G=>(jc R G).sum) fun w hw=>by
    obtain ⟨G,hG,rfl⟩:=Qk.mp hw;exact wb G hG
   refine ⟨_,Gs.map fun G=>qH R G n,(Gs.map fun G=>(jc R G).sum).foldr (· * ·) 1,rfl,⟨⟨_,rfl,by simp,fun i x hx=>?_⟩,by simp;omega,fun r hr=>?_,d1,?_⟩,fun B hB=>⟨by rw [Yr];simp,hq Gs B hG hB⟩⟩
   ·rw [Qa] at hx;cases e:(Gs.map fun G=>qH R G n)[i]? with
    | none=>rw [e] at hx;cases hx
    | some r=>rw [e] at hx;cases hx;exact ⟨r,rfl,rfl⟩
   ·obtain ⟨G,hG,rfl⟩:=Qk.mp hr;obtain ⟨w0,w1⟩:=wb G hG;refine ⟨by simp [qH];omega,fun x hx=>?_⟩;obtain ⟨k,_,rfl⟩:=Qk.mp hx;obtain ⟨t0,t1⟩:=zajc hT G k;have t2:b*R.length<=100000*12:=Qks b9 (by omega) (by omega) (by omega);refine ⟨(qvv (by omega)).1,qim (qA (qbl (by omega) (by omega)) (by decide)),Vs ⟨_,((Zu _ _).trans (qjs _ _)).symm⟩ (d3 _ (Qk.mpr ⟨G,hG,rfl⟩))⟩
   ·refine Y0 (y:=1200000^12) ?_ (by decide);refine Zk d2 ?_;rw [Qf];exact Zk (Qhl (by decide) (show Gs.length<=12 by omega)) (by decide)
  ·obtain ⟨F3,g3,i3⟩:=r2.is I2;exact kk _ v F3 H2 (go.go g3) i3 q2
def qmq (ds:List Qh) (q:Qh->Prop):Prop := ∃ b R,ds=[qaa b R]/\q (.int (R.length:Nat))
def zadv:FnScope [Sg] [Sg] (defScope qlt):=sc0
def zacr (F:Def K mg UO qlt [Sg]) (T:Txt K mg cs)
 : Ok P w K mg base UO 1 [Sg] (PSp K qmq):=by
  refine F.vok zadv (by rintro ds q ⟨_,_,h,_⟩;rw [h];rfl) fun f cdv A outer s H E hr ds q h=>?_;obtain ⟨b,R,rfl,h⟩:=h;refine ⟨_,(qj (qC (qx qcf T.len_ L2.boot_len (qd (qv (qc 0) qf) qe)))),?_⟩;refine ⟨_,rfl,?_⟩;have e:(R.map qei).length=R.length:=by simp
  show q (.int ((R.map qei).length:Nat));rw [e];exact h
def qdj (ds:List Qh) (q:Qh->Prop):Prop := ∃ b R c S,ds=[qaa b R,qaa c S]/\R.length=S.length/\q .none
def qhn:FnScope [Se,Sb] [Se,Sb] (defScope qar):=sc0
def qhm (F:Def K mg SH qar [Se,Sb]) (T:Txt K mg cs)
 (O_stands:Ok P w K mg base UO 1 [Sg] (PSp K qmq))
 : Ok P w K mg base SH 2 [Se,Sb] (PSp K qdj):=by
  refine F.vok qhn (by rintro ds q ⟨_,_,_,_,h,_⟩;rw [h];rfl) fun f cdv A outer s H E hr ds q h=>?_;obtain ⟨b,R,c,S,rfl,hl,h⟩:=h;refine ⟨_,(qj (qcm (qK (o_ne hr.units) (qB O_stands hr.m (qd (qc 0) qe)) (qB O_stands hr.m (qd (qc 1) qe))) qgl qW)),?_⟩;refine ⟨b,R,rfl,c,S,rfl,rfl,rfl,zajh (fun z=>?_) (fun _=>h)⟩;exfalso;apply z;rw [hl]
def qib (ds:List Qh) (q:Qh->Prop):Prop := ∃ ns:List Int,ds=[.list (ns.map .int)]/\((∀ n ∈ ns,n<=0)->q .none) /\ ∀ (c:Nat) (x:Int),ns[c]?=some x->0<x->(∀ j y,j<c->ns[j]?=some y->y<=0)->q (.int c)
def qey:FnScope [Uh,Sd,Uf] [Uh] (defScope qdr):=sc0
def qox (F:Def K mg Uc qdr [Uh]) (T:Txt K mg cs)
 : Ok P w K mg base Uc 1 [Uh] (PSp K qib):=by
  refine F.vok qey (by rintro ds q ⟨_,h,_⟩;rw [h];rfl) fun f cdv A outer s H E hr ds q h=>?_;obtain ⟨ns,rfl,h1,h2⟩:=h;refine ⟨_,(qg (qby rfl (qqa T.enumerate_ (qc 0)) (qhv (n:=2) rfl (qad (qp (i:=1) qey.nd) (qad (qp (i:=2) qey.nd) qfk))) (qj (qcm (qK quk (qc 2) qf) (qj (qC (qc 1))) qW)))
   (qj (qC qvu))),?_⟩
  refine ⟨fun i e => ∃ t1 t2,e=[.val (.list (ns.map .int)),t1,t2] /\ ∀ j y,j<i->ns[j]?=some y->y<=0,⟨_,_,rfl,fun j y hj=>by omega⟩,?_,?_⟩
  ·rintro i x e hx ⟨t1,t2,rfl,hI⟩;obtain ⟨x,hx',rfl⟩:=qiw hx;obtain ⟨x,rfl,hx',_⟩:=qbe hx';refine ⟨rfl,rfl,qkj (fun a=>h2 i x hx' a hI) (fun a=>⟨_,_,rfl,fun j y hj hy=>?_⟩)⟩;by_cases e:j=i
   ·subst e;rw [hx'] at hy;cases hy;omega
   ·exact hI j y (by omega) hy
  ·rintro e ⟨t1,t2,rfl,hI⟩;rw [qdy,Qf] at hI;refine h1 fun n hn=>?_;obtain ⟨j,hj,rfl⟩:=Jk.mp hn;exact hI j _ hj (Qc hj)
def qsv (ds:List Qh) (q:List Qh->Prop):Prop := ∃ ws:List Int,ds=[.list (ws.map .int)]/\(ws.length<=400/\0<qR 0 ws/\intBits (qR 0 ws:Int)<=9000)/\q ((ws.map fun x=>x/(qR 0 ws:Int)).map .int)
def qiv:FnScope [Uz,Sx,"weight"] [Uz] (defScope qlk):=sc0
def zadu (F:Def K mg "lowest" qlk [Uz]) (T:Txt K mg cs)
 (O_divisor:Ok P w K mg base SU 1 [Se,Sb] (PSp K qcr))
 : Ok P w K mg base "lowest" 2 [Uz] (FSp K qsv):=by
  refine F.vokF qiv (by rintro ds q ⟨_,h,_⟩;rw [h];rfl) fun f cdv A outer s H E hr ds q h=>?_;obtain ⟨ws,rfl,⟨hl,g0,g1⟩,h⟩:=h;refine ⟨_,(qg (qt (i:=1) qiv.nd qf)
   (qg (qby rfl (qY (qc 0)) (qp (i:=2) qiv.nd) (qj (qt (i:=1) qiv.nd (qB O_divisor hr.m (qd (qc 1) (qd (qc 2) qe))))))
   (qj (qfl (qN (caps:=[Sx]) (own:=["weight"]) (ix:=[1]) rfl ⟨rfl,rfl,rfl,rfl,rfl,rfl⟩ (qY (qc 0)) (fun _ _ _ _=>(qp (i:=1) (show Ze ([Sx,"weight"]:List Str) by decide))) (fun _ _ _ _=>(qy qgu (qc 1) (qc 0)))))))),?_⟩
  refine ⟨fun i e => ∃ t c,e=[.val (.list (ws.map .int)),.val (.int c),t]/\c=(qR 0 (ws.take i):Int),⟨_,_,rfl,rfl⟩,?_,?_⟩
  ·rintro i x e hx ⟨t,_,rfl,rfl⟩;obtain ⟨x,rfl,hx,_⟩:=qbe hx;refine ⟨_,_,rfl,?_⟩;rw [qmo hx,qmr]
  ·rintro e ⟨t,_,rfl,rfl⟩;rw [Qf,Zq];refine qO ((ws.map fun x=>x/(qR 0 ws:Int)).map .int) (by simp) (qo (by simp;omega)) (fun e => ∃ s,e=[.val (.int (qR 0 ws)),s]) ⟨_,rfl⟩ ?_ ⟨_,rfl,h⟩;rintro i x ys e hx hys ⟨s,rfl⟩;obtain ⟨x,rfl,hx,_⟩:=qbe hx;refine ⟨⟨by omega,g1⟩,qq ?_ hys,_,rfl⟩;rw [Qa,Qa,hx];rfl
def tn (s:Int):Int:=if s<0 then -1 else 1
def qop (row:List Int) (s:Int) (k m:Nat):List Int:=(row++(Q1 m).map (fun j=>if j=k then 1 else 0)++[s]).map fun x=>tn s*x
def qjy (ds:List Qh) (q:List Qh->Prop):Prop := ∃ (row:List Int) (s:Int) (k m:Nat),ds=[.list (row.map .int),.int s,.int k,.int m]/\(row.length<=400/\m<=400)/\q ((qop row s k m).map .int)
def qgd:FnScope [Sh,UM,"k",Sm,"turned","marks"] [Sh,UM,"k",Sm] (defScope qep):=sc0
def qrx (F:Def K mg Uj qep [Sh,UM,"k",Sm]) (T:Txt K mg cs)
 : Ok P w K mg base Uj 1 [Sh,UM,"k",Sm] (FSp K qjy):=by
  refine F.vokF qgd (by rintro ds q ⟨_,_,_,_,h,_⟩;rw [h];rfl) fun f cdv A outer s H E hr ds q h=>?_;obtain ⟨row,s,k,m,rfl,⟨hl,hm⟩,h⟩:=h;refine ⟨_,(qek (qt (i:=4) qgd.nd (qej (qK o_lt (qc 1) qf) (qli qf) qf))
   (qg (qug (caps:=["k"]) (own:=[Sd]) (ix:=[2]) (i:=5) qgd.nd rfl ⟨rfl,rfl,rfl,rfl,rfl,rfl⟩ (qS T.range_ (qc 3)) (fun _ _ _ _=>(qp (i:=1) (show Ze (["k",Sd]:List Str) by decide))) (fun _ _ _ _=>(qej (qK (qmf hr.units) (qc 1) (qc 0)) qf qf)))
   (qj (qfl (qN (caps:=["turned"]) (own:=[Uf]) (ix:=[4]) rfl ⟨rfl,rfl,rfl,rfl,rfl,rfl⟩ (qY (qV (qrw (qV (qrw (qV (qmk zaat T.list_ L2.boot_list (qd (qc 0) qe))) (qc 5))) (qV (qel (qd (qc 1) qe)))))) (fun _ _ _ _=>(qp (i:=1) (show Ze (["turned",Uf]:List Str) by decide))) (fun _ _ _ _=>(qy qbk (qc 0) (qc 1)))))))),?_⟩
  refine ⟨fun e=>e=[.val (.list (row.map .int)),.val (.int s),.val (.int k),.val (.int m),.val (.int (tn s)),.non],?_,?_⟩
  ·refine qkj (fun a=>?_) (fun a=>?_)
   ·show _=_;unfold tn;rw [if_pos a];rfl
   ·show _=_;unfold tn;rw [if_neg a];rfl
  rintro e rfl;have hrl:(qth 0 (m:Int).toNat).length=m:=by rw [qE];omega
  refine ⟨⟨by omega,by omega⟩,qo (by rw [hrl];omega),fun j ys e=>ys=(((Q1 m).map fun j=>if j=k then (1:Int) else 0).map Q3).take j /\ ∃ u,e=[.val (.int k),u],⟨by simp,_,rfl⟩,?_,?_⟩
  ·rintro i x ys e hx ⟨hys,u,rfl⟩;obtain ⟨hi,rfl⟩:=qam hx;have hi':i<m:=by omega
   have ge:(((Q1 m).map fun j=>if j=k then (1:Int) else 0).map Q3)[i]?=some (.int (if i=k then 1 else 0)):=by
    rw [Qa,Qa,Qn hi'];rfl
   refine ⟨rfl,rfl,qgc (fun a=>⟨qq (ge.trans ?_) hys,_,rfl⟩) (fun a=>⟨qq (ge.trans ?_) hys,_,rfl⟩)⟩
   ·rw [if_pos (by omega)]
   ·rw [if_neg (by omega)]
  rintro ys e ⟨hys,u,rfl⟩;rw [hrl,Zx (by simp)] at hys;subst hys;have hall:row.map Q3++((Q1 m).map fun j=>if j=k then (1:Int) else 0).map Q3++[Q3 s]=(row++((Q1 m).map fun j=>if j=k then (1:Int) else 0)++[s]).map Q3:=by
   rw [Zm,Zm];rfl
  refine ⟨qee (by simp;omega),szl,qee (by simp;omega),?_⟩;refine qO ((qop row s k m).map .int) (by simp [qop]) (qo (by simp [qop];omega)) (fun e => ∃ u,e=[.val (.int (tn s)),u]) ⟨_,rfl⟩ ?_ ⟨_,rfl,h⟩;rintro i x ys e hx hys ⟨u,rfl⟩;rw [hall] at hx;obtain ⟨x,rfl,hx,_⟩:=qbe hx;refine ⟨J7 (by unfold tn;split <;> decide),qq ?_ hys,_,rfl⟩;unfold qop;rw [Qa,Qa,hx];rfl
structure BAt (K:Qd) (C:Addr) (H F:Hp) (a dx qa:Addr) (n:Nat) (d:Int) (Ls:List (List Int)) (ss:List Int) (vl:V):Prop where
 ha:H a=some (.ins C dx [(Sk,.int n),(Sc,.int d),(S5,vl),(SJ,.ref qa)])
 hl:Is K F (.list (Ls.map qag)) vl
 hq:H qa=some (.lst (ss.map V.int))
 fa:F a=none
 fq:F qa=none
def BAt.flds {K:Qd}{C:Addr}{H F:Hp}{a dx qa:Addr}{n:Nat}{d:Int}{Ls:List (List Int)}{ss:List Int}{vl:V} (h:BAt K C H F a dx qa n d Ls ss vl) :
 Flds K (upd F qa (.lst (ss.map V.int))) [(Sk,.int n),(Sc,.int d),(S5,vl),(SJ,.ref qa)] bNm (bFs n d Ls ss):=by
  have s:Same F (upd F qa (.lst (ss.map V.int))):=qcb h.fq;refine ⟨rfl,fun f e hm=>?_⟩;unfold bFs at hm;simp only [Q5,Vi,or_false,Qld] at hm;rcases hm with ⟨rfl,rfl⟩|⟨rfl,rfl⟩|⟨rfl,rfl⟩|⟨rfl,rfl⟩
  ·exact ⟨_,rfl,qJ _⟩
  ·exact ⟨_,rfl,qJ _⟩
  ·exact ⟨_,rfl,h.hl.mono s⟩
  ·exact ⟨_,rfl,qcv (SqL.of ql) (qfp ss)⟩
def bFs3 (n d:Int) (Ls:List (List Int)):List (Str×Qh):=[(Sk,.int n),(Sc,.int d),(S5,.list (Ls.map qag))]
def BAt.flds3 {K:Qd}{C:Addr}{H F:Hp}{a dx qa:Addr}{n:Nat}{d:Int}{Ls:List (List Int)}{ss:List Int}{vl:V} (h:BAt K C H F a dx qa n d Ls ss vl) :
 Flds K F [(Sk,.int n),(Sc,.int d),(S5,vl),(SJ,.ref qa)] bNm (bFs3 n d Ls):=by
  refine ⟨rfl,fun f e hm=>?_⟩;unfold bFs3 at hm;simp only [Q5,Vi,or_false,Qld] at hm;rcases hm with ⟨rfl,rfl⟩|⟨rfl,rfl⟩|⟨rfl,rfl⟩
  ·exact ⟨_,rfl,qJ _⟩
  ·exact ⟨_,rfl,qJ _⟩
  ·exact ⟨_,rfl,h.hl⟩
def qI (R:List (List Int)) (b:List Int):List (List Int):=(Q1 R.length).map fun k=>qop ((R[k]?).getD []) ((b[k]?).getD 0) k R.length
def qfc (m:Nat):List Int:=(Q1 m).map fun (k:Nat) => -(m:Int)+k
def zait (K:Qd) (C:Addr):Sp:=fun vs H Q _ => ∃ (a dx:Addr) (F:Hp) (vr vb:V) (n:Nat) (R:List (List Int)) (b:List Int),vs=[.ref a,.int n,vr,vb]/\H a=some (.ins C dx [])/\F a=none/\Same F H/\Is K F (qat R) vr/\Is K F (.list (b.map .int)) vb/\InPre n R b /\
 ∀ F' H' vl qa,H qa=none->GoX a qa F H F' H'->BAt K C H' F' a dx qa n 1 (qI R b) (qfc R.length) vl->Q .non H'
def qko:FnScope [Sj,Sk,Si,SE] [Sj,Sk,Si,SE] (defScope qbx):=sc0
def qks (F:MDef K cs.Board Uk "Board.__init__" qbx [Sj,Sk,Si,SE]) (T:Txt K mg cs)
 (O_first_line:Ok P w K mg base Uj 1 [Sh,UM,"k",Sm] (FSp K qjy))
 : OkM P w K mg base cs.Board Uk 2 [Sj,Sk,Si,SE] (zait K cs.Board):=by
  obtain ⟨f,fd,Fn,hm,hb⟩:=F.ex;refine ⟨f,fd,Fn.ok qko (by rintro vs H Q E ⟨_,_,_,_,_,_,_,_,h,_⟩;rw [h];rfl) fun cdv A outer s H vs Q E hr h=>?_,hm,hb⟩;obtain ⟨a,dx,F0,vr,vb,n,R,b,rfl,ha,fa,sm,hR,hbs,hp,kk⟩:=h;refine ⟨_,qF (qol (pv 0) (pv 1) rfl) (qF (qol (pv 0) qom rfl) (qF (qol (pv 0) (VE.pe (qV (qN (caps:=[Si,SE]) (own:=["k"]) (ix:=[2,3]) rfl ⟨rfl,rfl,rfl,rfl,rfl,rfl⟩ (qS T.range_ (qx qcf T.len_ L2.boot_len (qd (qc 2) qe))) (fun _ _ _ _=>(qp (i:=2) (show Ze ([Si,SE,"k"]:List Str) by decide))) (fun _ _ _ _=>(qV (qkf O_first_line hr.m (qd (qv (qc 0) (qc 2)) (qd (qv (qc 1) (qc 2)) (qd (qc 2) (qd (qx qcf T.len_ L2.boot_len (qd (qc 0) qe)) qe)))))))))) rfl)
   (qeh (qol (pv 0) (qgj (zads rfl) rfl T.list_ L2.boot_list (qz (qgj zade rfl T.range_ L2.boot_rng (qz (zany zajm (qip qgo rfl T.len_ L2.boot_len (qz (pv 2) qal))) (qz qom qal))) qal)) rfl)))),?_⟩
  refine ⟨.int n,rfl,.ref a,rfl,a,cs.Board,dx,[],rfl,ha,T.Board_c,T.Board_n_unknowns,(show 0<1000 by decide),?_⟩;refine ⟨.ref a,rfl,a,cs.Board,dx,[(Sk,.int n)],rfl,ql,T.Board_c,T.Board_n_bottom,(show 1<1000 by decide),?_⟩;rw [zabf];have hm24:=hp.hm;have sF2 : ∀ o,Same F0 (upd H a o):=fun o c u e=>by rw [qi (qm e fa)];exact sm c u e
  have I3:=qhc (K:=K) (N:=[Sj,Sk,Si,SE]) (nm:=[Sk,Sc]) (fs:=[]) (C:=cs.Board) (a:=a) (dx:=dx) (us:=[(Sk,.int n),(Sc,.int 1)]) (sF2 (.ins cs.Board dx [(Sk,.int n),(Sc,.int 1)])) ql ⟨rfl,fun f d z=>by cases z⟩ (qw (qJ (n:Int)) (qw hR (qw hbs qQ)));refine ⟨_,_,F0,fun dd e=>dd = .list ((qI R b).map qag),I3,?_,fun dd v F5 H5 e5 I5 s5 i5 q5=>?_⟩
  ·have hlen:(R.map qag).length=R.length:=Qf _;have hrl:(qth 0 (((R.map qag).length:Nat):Int).toNat).length=R.length:=by rw [qE,hlen];omega
   refine ⟨⟨by rw [hlen];omega,by rw [hlen];omega⟩,?_⟩;refine qO ((qI R b).map qag) (by rw [hrl];simp [qI]) (qo (by simp [qI];omega)) (fun e => ∃ u,e=[.val (qat R),.val (.list (b.map .int)),u]) ⟨_,rfl⟩ ?_ rfl;rintro i x ys e hx hys ⟨u,rfl⟩;obtain ⟨hi,rfl⟩:=qam hx;have hi':i<R.length:=by rw [hlen] at hi;omega
   have eR:R[i]?=some ((R[i]?).getD []):=by rw [Qc hi'];rfl
   have eb:b[i]?=some ((b[i]?).getD 0):=by rw [Qc (by rw [hp.l];exact hi')];rfl
   have lr:=hp.w _ (Qg eR);have hn20:=hp.hn;rw [Vk];refine ⟨_,qaf (by rw [Qa,eR];rfl),_,qaf (by rw [Qa,eb];rfl),(R[i]?).getD [],(b[i]?).getD 0,i,(R.map qag).length,rfl,⟨by omega,by rw [hlen];omega⟩,qq ?_ hys,_,rfl⟩;unfold qI;rw [Qa,Qa,Qn hi',hlen];rfl
  subst q5;have fa5:F5 a=none:=by
   cases e:F5 a with
   | none=>rfl
   | some o=>rcases I5.new a o e with q|q
             ·have q:F0 a=some o:=q;rw [fa] at q;cases q
             ·have q:upd H a (.ins cs.Board dx [(Sk,.int n),(Sc,.int 1)]) a=none:=q;rw [ql] at q;cases q
  have Ha5:=I5.bh a _ ql;refine ⟨.ref a,rfl,a,cs.Board,dx,[(Sk,.int n),(Sc,.int 1)],rfl,Ha5,T.Board_c,T.Board_n_lines,(show 2<1000 by decide),?_⟩;obtain ⟨lr,xs,rfl,hsq,hxs⟩:=hR.lst_inv;have lx:xs.length=R.length:=by rw [hxs.len,Qf]
  have s6 : ∀ o,Same F5 (upd H5 a o):=fun o c u e=>by rw [qi (qm e fa5)];exact I5.fh c u e
  refine ⟨.ref lr,rfl,lr,xs,rfl,.inl ((s5.trans (s6 _)).seq hsq),xs.length,rfl,_,_,rfl,fun l hl=>?_⟩;refine ⟨l,-(xs.length:Int),0,rfl,ql,⟨by omega,by omega,by decide,by decide⟩,by omega,fun l2 hl2=>?_⟩;have la:l≠a:=fun z=>by rw [z,ql] at hl;cases hl
  have l2l:l2≠l:=fun z=>by rw [z,ql] at hl2;cases hl2
  rw [qi l2l] at hl2;have l2a:l2≠a:=fun z=>by rw [z,ql] at hl2;cases hl2
  rw [qi l2a] at hl2;rw [qi la] at hl;have hH:H l2=none:=by
   have:=qu I5.bh hl2;have this:upd H a _ l2=none:=this;rw [qi l2a] at this;exact this
  have fl:=qu I5.fh hl;have fl2:=qu I5.fh hl2;refine ⟨.ref a,rfl,a,cs.Board,dx,[(Sk,.int n),(Sc,.int 1),(S5,v)],rfl,by rw [qi (Z0 l2a),qi (Z0 la)];exact ql,T.Board_c,T.Board_n_stands_for,(show 3<1000 by decide),?_⟩;refine kk F5 _ v l2 hH ⟨s5,fun c o c1 c2 e=>?_,fun c o e=>?_,fun c o e=>?_⟩ ⟨ql,i5,?_,fa5,fl2⟩
  ·have h5:H5 c=some o:=I5.bh c o (by show upd H a _ c=_;rw [qi c1];exact e);rw [qi c1,qi c2,qi (qm h5 hl),qi c1];exact h5
  ·rw [qi (qm e fa5),qi (qm e fl2),qi (qm e fl),qi (qm e fa5)];exact I5.fh c o e
  ·rcases I5.new c o e with q|q
   ·exact .inl q
   ·have q:upd H a _ c=none:=q;rw [qi (qm e fa5)] at q;exact .inr q
  ·rw [qi l2a,ql];have e:(0 - -(xs.length:Int)).toNat=R.length:=by omega
   rw [e,lx];unfold rngV qfc;rw [Zy];rfl
def zafz {α β γ:Type}{g:α->β->γ}{a:List α}{b:List β}{i:Nat}{x:α}{y:β} (h1:a[i]?=some x) (h2:b[i]?=some y):(Qee g a b)[i]?=some (g x y):=by
 rw [Qcv,h1,h2]
def qP (Ls:List (List Int)) (ss:List Int) (i j:Nat):Int:=qk i fun k=>if (ss[k]?).getD 0<0 then at2 Ls k j else 0
def qum (nm:List Str) (fs:List (Str×Qh)) (ds:List Qh) (q:List Qh->Prop):Prop := ∃ (n:Nat) (d:Int) (Ls:List (List Int)) (ss:List Int) (m:Nat),nm=bNm/\fs=bFs n d Ls ss/\ds=[]/\(Bd m (n+m+1) Ls ss/\n<=20/\m<=24)/\q (((Q1 (n+m+1)).map (qP Ls ss m)).map .int)
def qch:FnScope [Sj,UM,SQ,"unknown"] [Sj] (defScope qew):=sc0
def qrl (F:MDef K cs.Board "lack" "Board.lack" qew [Sj]) (T:Txt K mg cs)
 : OkM P w K mg base cs.Board "lack" 1 [Sj] (OFSp K cs.Board qum):=by
  refine F.vokF qch (by rintro nm fs ds q ⟨_,_,_,_,_,_,_,h,_⟩;rw [h];rfl) fun f cdv A outer s H E hr a0 nm fs ds q h=>?_;obtain ⟨n,d,Ls,ss,m,rfl,rfl,rfl,⟨hB,hn,hm⟩,h⟩:=h;refine ⟨_,(qg (qlo (caps:=[]) (own:=[Uf]) (ix:=[]) (i:=1) qch.nd rfl ⟨rfl,rfl,rfl,rfl,rfl,rfl⟩ (qS T.range_ (qy qec (qy qec (qcs 0 T.Board_c T.Board_n_unknowns) (qx qcf T.len_ L2.boot_len (qd (qcs 0 T.Board_c T.Board_n_lines) qe))) qf)) (fun _ _ _ _=>(qp (i:=0) (show Ze ([Uf]:List Str) by decide))) (fun _ _ _ _=>qf))
   (qg (qby rfl (qmh T.zip_ (qcs 0 T.Board_c T.Board_n_lines) (qcs 0 T.Board_c T.Board_n_stands_for)) (qhv (n:=2) rfl (qad (qp (i:=2) qch.nd) (qad (qp (i:=3) qch.nd) qfk))) (qj (qcm (qK o_lt (qc 3) qf) (qkz 1 (qj (qlo (caps:=[]) (own:=[Se,Sb]) (ix:=[]) (i:=1) qch.nd rfl ⟨rfl,rfl,rfl,rfl,rfl,rfl⟩ (qmh T.zip_ (qc 1) (qc 2)) (fun _ _ _ _=>(qhv (n:=2) rfl (qad (qp (i:=0) (show Ze ([Se,Sb]:List Str) by decide)) (qad (qp (i:=1) (show Ze ([Se,Sb]:List Str) by decide)) qfk)))) (fun _ _ _ _=>(qy qec (qc 0) (qc 1)))))) qW)))
   (qj (quw 1)))),?_⟩
  have hlen:(Ls.map qag).length=m:=by rw [Qf,hB.l]
  refine ⟨rfl,_,rfl,rfl,_,rfl,⟨by rw [hlen];omega,by rw [hlen];omega⟩,?_⟩;have hrl:(qth 0 ((n:Int)+((Ls.map qag).length:Nat)+1).toNat).length=n+m+1:=by rw [qE,hlen];omega
  refine ⟨qo (by rw [hrl];omega),fun k ys e=>ys=(Vd (n+m+1) (.int 0)).take k /\ ∃ u,e=[u],⟨by simp,_,rfl⟩,?_,?_⟩
  ·rintro i x ys e hx ⟨hys,s,rfl⟩;obtain ⟨hi,rfl⟩:=qam hx;rw [hlen] at hi;exact ⟨qq (by rw [V2,if_pos (by omega)]) hys,_,rfl⟩
  rintro ys e ⟨hys,u,rfl⟩;rw [hrl,Zx (by rw [Qaj];omega)] at hys;subst hys;have nx1 : ∀ i,(ss[i]?).getD 0<0 -> ∀ j,qP Ls ss (i+1) j=qP Ls ss i j+at2 Ls i j:=fun i a j=>by
   show qP Ls ss i j+(if _ then _ else _)=_;rw [if_pos a]
  have nx2 : ∀ i,¬ (ss[i]?).getD 0<0->qP Ls ss (i+1)=qP Ls ss i:=fun i a=>by
   funext j
   show qP Ls ss i j+(if _ then _ else _)=_;rw [if_neg a];omega
  refine ⟨rfl,_,rfl,rfl,_,rfl,fun i e => ∃ t1 t2 l,e=[.obj a0 cs.Board bNm (bFs n d Ls ss),.own l,t1,t2]/\l=((Q1 (n+m+1)).map (qP Ls ss i)).map .int,⟨_,_,_,rfl,?_⟩,?_,?_⟩
  ·refine (List.eq_replicate_iff.mpr ⟨by simp,fun x hx=>?_⟩).symm;obtain ⟨y,hy,rfl⟩:=Qk.mp hx;obtain ⟨j,_,rfl⟩:=Qk.mp hy;rfl
  ·rintro i x e hx ⟨t1,t2,l,rfl,rfl⟩;obtain ⟨x,y,h3,h4,rfl⟩:=qii hx;obtain ⟨u,rfl,hu,_⟩:=qbe h4;obtain ⟨r,er,rfl⟩ : ∃ r,Ls[i]?=some r/\qag r=x:=by
    rw [Qa] at h3;cases q:Ls[i]? with
    | none=>rw [q] at h3;cases h3
    | some r=>rw [q] at h3;exact ⟨r,rfl,Qp h3⟩
   have es:(ss[i]?).getD 0=u:=by rw [hu];rfl
   have lr:r.length=n+m+1:=hB.w r (Qg er);refine ⟨rfl,rfl,qkj (fun a=>?_) (fun a=>?_)⟩
   ·have hzl:(zipD (((Q1 (n+m+1)).map (qP Ls ss i)).map .int) (r.map .int)).length=n+m+1:=by rw [qeg];simp;omega
    refine ⟨qo (by rw [hzl];omega),fun k ys e=>ys=((((Q1 (n+m+1)).map (qP Ls ss (i+1))).map Q3)).take k /\ ∃ s t,e=[s,t],⟨by simp,_,_,rfl⟩,?_,?_⟩
    rotate_left
    ·rintro ys e ⟨hys,s,t,rfl⟩;rw [hzl,Zx (by simp)] at hys;exact ⟨_,_,_,rfl,hys⟩
    rintro j z ys e hz ⟨hys,s,t,rfl⟩;obtain ⟨x,y,h5,h6,rfl⟩:=qii hz;obtain ⟨x,rfl,h5,_⟩:=qbe h5;obtain ⟨y,rfl,h6,_⟩:=qbe h6;have hj:j<n+m+1:=by rw [<- lr];exact (Qm.mp h6).1
    have e1:x=qP Ls ss i j:=by
     rw [Qa,Qn hj] at h5;exact (Qp h5).symm
    have e2:y=at2 Ls i j:=by
     have:=(hB.at er hj).1;rw [h6] at this;exact Qp this
    refine ⟨rfl,rfl,qq ?_ hys,_,_,rfl⟩;rw [Qa,Qa,Qn hj,e1,e2];show some (Q3 (qP Ls ss (i+1) j))=_;rw [nx1 i (by rw [es];exact a) j]
   ·exact ⟨_,_,_,rfl,by rw [nx2 i (by rw [es];exact a)]⟩
  ·rintro e ⟨t1,t2,l,rfl,rfl⟩;rw [qeg,hlen,Qf,hB.s,Nat.min_self];exact ⟨_,rfl,h⟩
def qju (nm:List Str) (fs:List (Str×Qh)) (ds:List Qh) (q:Qh->Prop):Prop := ∃ (n d:Int) (Ls:List (List Int)) (ss:List Int) (m w k c p:Nat),nm=bNm/\fs=bFs n d Ls ss/\ds=[.int k,.int c,.int p]/\(Bd m w Ls ss/\k<m/\c<m/\p<w)/\q (.bool (qhu Ls ss w k c p))
def qcc:FnScope [Sj,"k",Ug,Sd,Se,Sb] [Sj,"k",Ug,Sd] (defScope qbg):=sc0
def qiq (F:MDef K cs.Board SZ UA qbg [Sj,"k",Ug,Sd]) (T:Txt K mg cs)
 : OkM P w K mg base cs.Board SZ 1 [Sj,"k",Ug,Sd] (OSp K cs.Board qju):=by
  refine F.vok qcc (by rintro nm fs ds q ⟨_,_,_,_,_,_,_,_,_,_,_,h,_⟩;rw [h];rfl) fun f cdv A outer s H E hr a0 nm fs ds q h=>?_;obtain ⟨n,d,Ls,ss,m,w,k,c,p,rfl,rfl,rfl,⟨hB,hk,hc,hp⟩,h⟩:=h;refine ⟨_,(qg (qt (i:=4) qcc.nd (qy qbk (qv (qv (qcs 0 T.Board_c T.Board_n_lines) (qc 1)) (qli qf)) (qv (qv (qcs 0 T.Board_c T.Board_n_lines) (qc 2)) (qc 3))))
   (qg (qt (i:=5) qcc.nd (qy qbk (qv (qv (qcs 0 T.Board_c T.Board_n_lines) (qc 2)) (qli qf)) (qv (qv (qcs 0 T.Board_c T.Board_n_lines) (qc 1)) (qc 3))))
   (qj (qC (zasz (qfz o_lt (qc 4) (qc 5)) (qlj (qok (qfz (qmf hr.units) (qc 4) (qc 5)) (qlj (qfz o_lt (qv (qcs 0 T.Board_c T.Board_n_stands_for) (qc 1)) (qv (qcs 0 T.Board_c T.Board_n_stands_for) (qc 2))))))))))),?_⟩
  obtain ⟨r,er,ar,lr⟩:=hB.row (k:=(k:Int)) (by omega) (by omega);obtain ⟨t,et,at',lt⟩:=hB.row (k:=(c:Int)) (by omega) (by omega);have er:Ls[k]?=some r:=er;have et:Ls[c]?=some t:=et;obtain ⟨r1,r2⟩:=hB.at er (j:=w-1) (by omega);obtain ⟨r3,r4⟩:=hB.at er hp;obtain ⟨t1,t2⟩:=hB.at et (j:=w-1) (by omega);obtain ⟨t3,t4⟩:=hB.at et hp;have gi : ∀ {l:List Int}{j:Nat}{x:Int},l[j]?=some x->(l.map Q3)[j]?=some (.int x):=fun e=>by rw [Qa,e];rfl
  have hs:=hB.s;have sk:ss[k]?=some ((ss[k]?).getD 0):=by rw [Qc (by omega)];rfl
  have sc:ss[c]?=some ((ss[c]?).getD 0):=by rw [Qc (by omega)];rfl
  refine ⟨rfl,_,rfl,_,ar,.int (at2 Ls k (w-1)),atI_last (by rw [Qf,lr];exact gi r1),rfl,_,rfl,_,at',_,qaf (gi t3),qqh (qA r2 (by decide)) (qA t4 (by decide)),?_⟩;refine ⟨rfl,_,rfl,_,at',.int (at2 Ls c (w-1)),atI_last (by rw [Qf,lt];exact gi t1),rfl,_,rfl,_,ar,_,qaf (gi r3),qqh (qA t2 (by decide)) (qA r4 (by decide)),?_⟩;have hq : ∀ b:Bool,b=qhu Ls ss w k c p->q (.bool b):=fun b e=>by rw [e];exact h
  refine qkj (fun a=>hq _ ?_) (fun a=>?_)
  ·unfold qhu;rw [decide_eq_true a];rfl
  ·have af:decide (at2 Ls k (w-1)*at2 Ls c p<at2 Ls c (w-1)*at2 Ls k p)=false:=decide_eq_false a;refine ⟨rfl,rfl,qgc (fun e=>?_) (fun e=>hq _ ?_)⟩
   ·refine ⟨rfl,_,rfl,_,qaf (gi sk),rfl,_,rfl,_,qaf (gi sc),hq _ ?_⟩;unfold qhu;rw [af,decide_eq_true e];rfl
   ·unfold qhu;rw [af,decide_eq_false e];rfl
def qmz (nm:List Str) (fs:List (Str×Qh)) (ds:List Qh) (q:Qh->Prop):Prop := ∃ (n d:Int) (Ls:List (List Int)) (ss:List Int) (m w p:Nat),nm=bNm/\fs=bFs n d Ls ss/\ds=[.int p]/\(Bd m w Ls ss/\p<w/\m<=900 /\ ∃ k,k<m/\0<at2 Ls k p) /\ ∀ r,r<m->Tg Ls ss w p m r->q (.int r)
def TgI (Ls:List (List Int)) (ss:List Int) (w p i:Nat) (c:Qh):Prop:=(c = .none /\ ∀ k,k<i -> ¬ 0<at2 Ls k p) \/ ∃ r:Nat,c = .int r/\r<i/\Tg Ls ss w p i r
def qau:FnScope [Sj,Sd,Ug,"k",SQ] [Sj,Sd] (defScope qbs):=sc0
def qkq (F:MDef K cs.Board Ul "Board.tightest" qbs [Sj,Sd]) (T:Txt K mg cs)
 (O_Board_is_tighter:OkM P w K mg base cs.Board SZ 1 [Sj,"k",Ug,Sd] (OSp K cs.Board qju))
 : OkM P w K mg base cs.Board Ul 2 [Sj,Sd] (OSp K cs.Board qmz):=by
  refine F.vok qau (by rintro nm fs ds q ⟨_,_,_,_,_,_,_,_,_,h,_⟩;rw [h];rfl) fun f cdv A outer s H E hr a0 nm fs ds q h=>?_;obtain ⟨n,d,Ls,ss,m,w,p,rfl,rfl,rfl,⟨hB,hp,hm,k0,hk0,z0⟩,h⟩:=h;refine ⟨_,(qg (qt (i:=2) qau.nd qvu)
   (qg (qby rfl (qqa T.enumerate_ (qcs 0 T.Board_c T.Board_n_lines)) (qhv (n:=2) rfl (qad (qp (i:=3) qau.nd) (qad (qp (i:=4) qau.nd) qfk))) (qj (qcm (VW.pt (zajk (qK quk (qv (qc 4) (qc 1)) qf) (zabm (VW.pt (qqg (qK zaok (qc 2) qvu) (qlg (qhy (zama 0 O_Board_is_tighter T.Board_c hr.m (qd (qc 3) (qd (qc 2) (qd (qc 1) qe))))))))))) (qj (qt (i:=2) qau.nd (qc 3))) qW)))
   (qj (qC (qc 2))))),?_⟩
  refine ⟨rfl,_,rfl,fun i e => ∃ t1 t2 c,e=[.obj a0 cs.Board bNm (bFs n d Ls ss),.val (.int p),.val c,t1,t2]/\TgI Ls ss w p i c,⟨_,_,_,rfl,.inl ⟨rfl,fun k hk=>by omega⟩⟩,?_,?_⟩
  ·rintro i x e hx ⟨t1,t2,c,rfl,hI⟩;obtain ⟨x,hx',rfl⟩:=qiw hx;clear hx;obtain ⟨r,er,rfl⟩ : ∃ r,Ls[i]?=some r/\qag r=x:=by
    rw [Qa] at hx';cases q:Ls[i]? with
    | none=>rw [q] at hx';cases hx'
    | some r=>rw [q] at hx';exact ⟨r,rfl,Qp hx'⟩
   have him:i<m:=by rw [<- hB.l];exact (Qm.mp er).1
   obtain ⟨r3,_⟩:=hB.at er hp;refine ⟨rfl,rfl,_,qaf (by rw [Qa,r3];rfl),?_⟩;refine qkj (fun a=>?_) (fun a=>?_)
   ·rcases hI with ⟨rfl,z⟩|⟨r',rfl,hr',ht⟩
    ·exact ⟨rfl,_,_,_,rfl,.inr ⟨i,rfl,by omega,Tg.first z a⟩⟩
    ·refine ⟨rfl,rfl,rfl,rfl,n,d,Ls,ss,m,w,i,r',p,rfl,rfl,rfl,⟨hB,him,by omega,hp⟩,iteB (fun t=>?_) (fun t=>?_)⟩
     ·exact ⟨_,_,_,rfl,.inr ⟨i,rfl,by omega,ht.take a t⟩⟩
     ·exact ⟨_,_,_,rfl,.inr ⟨r',rfl,by omega,ht.stay t⟩⟩
   ·refine ⟨_,_,_,rfl,?_⟩;rcases hI with ⟨rfl,z⟩|⟨r',rfl,hr',ht⟩
    ·exact .inl ⟨rfl,fun k hk=>by
      by_cases e:k=i
      ·subst e;exact a
      ·exact z k (by omega)⟩
    ·exact .inr ⟨r',rfl,by omega,ht.skip a⟩
  ·rintro e ⟨t1,t2,c,rfl,hI⟩;rw [qdy,Qf,hB.l] at hI;rcases hI with ⟨_,z⟩|⟨r,rfl,hr',ht⟩
   ·exact (z k0 hk0 z0).elim
   ·exact h r hr' ht
def qyf (r t:List Int) (p:Nat) (d:Int):List Int:=Qee (fun x y=>(x*(t[p]?).getD 0-(r[p]?).getD 0*y)/d) r t
def qph (ds:List Qh) (q:List Qh->Prop):Prop := ∃ (r t:List Int) (p:Nat) (d:Int),ds=[.list (r.map .int),.list (t.map .int),.int p,.int d]/\(r.length=t.length/\p<r.length/\r.length<=900/\0<d/\intBits d<=2000/\(∀ x ∈ r,intBits x<=2000) /\ ∀ x ∈ t,intBits x<=2000)/\q ((qyf r t p d).map .int)
def qzt:FnScope [SQ,SI,Sd,Sc] [SQ,SI,Sd,Sc] (defScope qja):=sc0
def zaaa (F:Def K mg "cleared" qja [SQ,SI,Sd,Sc]) (T:Txt K mg cs)
 : Ok P w K mg base "cleared" 1 [SQ,SI,Sd,Sc] (FSp K qph):=by
  refine F.vokF qzt (by rintro ds q ⟨_,_,_,_,h,_⟩;rw [h];rfl) fun f cdv A outer s H E hr ds q h=>?_;obtain ⟨r,t,p,d,rfl,⟨hl,hp,hz,d0,d1,zr,zt⟩,h⟩:=h;refine ⟨_,(qj (qfl (qN (caps:=[SQ,SI,Sd,Sc]) (own:=[Se,Sb]) (ix:=[0,1,2,3]) rfl ⟨rfl,rfl,rfl,rfl,rfl,rfl⟩ (qmh T.zip_ (qc 0) (qc 1)) (fun _ _ _ _=>(qhv (n:=2) rfl (qad (qp (i:=4) (show Ze ([SQ,SI,Sd,Sc,Se,Sb]:List Str) by decide)) (qad (qp (i:=5) (show Ze ([SQ,SI,Sd,Sc,Se,Sb]:List Str) by decide)) qfk)))) (fun _ _ _ _=>(qy qgu (qy qvy (qy qbk (qc 4) (qv (qc 1) (qc 2))) (qy qbk (qv (qc 0) (qc 2)) (qc 5))) (qc 3)))))),?_⟩;have er:r[p]?=some ((r[p]?).getD 0):=by rw [Qc hp];rfl
  have et:t[p]?=some ((t[p]?).getD 0):=by rw [Qc (by omega)];rfl
  have z1:=zr _ (Qg er);have z2:=zt _ (Qg et);refine qO ((qyf r t p d).map .int) (by rw [qeg];simp [qyf]) (qo (by simp [qyf];omega)) (fun e => ∃ s u,e=[.val (.list (r.map .int)),.val (.list (t.map .int)),.val (.int p),.val (.int d),s,u]) ⟨_,_,rfl⟩ ?_ ⟨_,rfl,h⟩;rintro i x ys e hx hys ⟨s,u,rfl⟩;obtain ⟨x,y,h3,h4,rfl⟩:=qii hx;obtain ⟨x,rfl,h3,m3⟩:=qbe h3;obtain ⟨y,rfl,h4,m4⟩:=qbe h4;refine ⟨rfl,rfl,.int ((t[p]?).getD 0),qaf (by rw [Qa,et];rfl),qqh (qA (zr x m3) (by decide)) (qA z2 (by decide)),.int ((r[p]?).getD 0),qaf (by rw [Qa,er];rfl),qqh (qA z1 (by decide)) (qA (zt y m4) (by decide)),⟨d0,qA d1 (by decide)⟩,qq ?_ hys,_,_,rfl⟩;unfold qyf;rw [Qa,zafz h3 h4];rfl
def qor (Ls:List (List Int)) (r p:Nat) (d:Int):List (List Int):=Ls.mapIdx fun k line=>if k=r then line else qyf line ((Ls[r]?).getD []) p d
structure BrPre (n:Nat) (d:Int) (Ls:List (List Int)) (ss:List Int) (m p:Nat):Prop where
 b:Bd m (n+m+1) Ls ss
 hp:p<n
 hm:m<=24
 hn:n<=20
 d0:0<d
 d1:intBits d<=2000
 hk : ∃ k,k<m/\0<at2 Ls k p
def zabl (K:Qd) (C:Addr):Sp:=fun vs H Q _ => ∃ (a dx qa:Addr) (F:Hp) (vl:V) (n:Nat) (d:Int) (Ls:List (List Int)) (ss:List Int) (m p:Nat),vs=[.ref a,.int p]/\BAt K C H F a dx qa n d Ls ss vl/\Same F H/\BrPre n d Ls ss m p /\
 ∀ F' H' vl' r,r<m->Tg Ls ss (n+m+1) p m r->GoX a qa F H F' H'->BAt K C H' F' a dx qa n (at2 Ls r p) (qor Ls r p d) (ss.set r p) vl'->Q .non H'
def qbn:FnScope [Sj,Sd,"turn",SI,Sc] [Sj,Sd] (defScope qbt):=sc0
def qkr (F:MDef K cs.Board Um "Board.bring_in" qbt [Sj,Sd]) (T:Txt K mg cs)
 (O_Board_tightest:OkM P w K mg base cs.Board Ul 2 [Sj,Sd] (OSp K cs.Board qmz))
 (O_cleared:Ok P w K mg base "cleared" 1 [SQ,SI,Sd,Sc] (FSp K qph))
 : OkM P w K mg base cs.Board Um 3 [Sj,Sd] (zabl K cs.Board):=by
  obtain ⟨f,fd,Fn,hm,hb⟩:=F.ex;refine ⟨f,fd,Fn.ok qbn (by rintro vs H Q E ⟨_,_,_,_,_,_,_,_,_,_,_,h,_⟩;rw [h];rfl) fun cdv A outer s H vs Q E hr h=>?_,hm,hb⟩;obtain ⟨a,dx,qa,F0,vl,n,d,Ls,ss,m,p,rfl,hA,sm,hp,kk⟩:=h;obtain ⟨f1,fd1,F1,hm1,hb1⟩:=O_Board_tightest.ex;refine ⟨_,qF (qdx (i:=2) qbn.nd rfl (by first|exact Yy rfl|exact Z6 rfl) (qut (pv 0) T.Board_c hm1 F1 hr.m hb1 .nil qpe (qz (pv 1) qal)) rfl (by first|exact .inl rfl|exact .inr rfl))
   (qF (qdx (i:=3) qbn.nd rfl (by first|exact Yy rfl|exact Z6 rfl) (qhh qcy (qvw (pv 0) rfl) (pv 2) (fun _ _=>rfl)) rfl (by first|exact .inl rfl|exact .inr rfl))
   (qF (qdx (i:=4) qbn.nd rfl (by first|exact Yy rfl|exact Z6 rfl) (qvw (pv 0) rfl) rfl (by first|exact .inl rfl|exact .inr rfl))
   (qF (qol (pv 0) (VE.pe (qV (qN (caps:=[Sd,"turn",SI,Sc]) (own:=["k",SQ]) (ix:=[1,2,3,4]) rfl ⟨rfl,rfl,rfl,rfl,rfl,rfl⟩ (qqa T.enumerate_ (qcs 0 T.Board_c T.Board_n_lines)) (fun _ _ _ _=>(qhv (n:=2) rfl (qad (qp (i:=4) (show Ze ([Sd,"turn",SI,Sc,"k",SQ]:List Str) by decide)) (qad (qp (i:=5) (show Ze ([Sd,"turn",SI,Sc,"k",SQ]:List Str) by decide)) qfk)))) (fun _ _ _ _=>(qej (qK (qmf hr.units) (qc 4) (qc 1)) (qc 5) (qV (qkf O_cleared hr.m (qd (qc 5) (qd (qc 2) (qd (qc 0) (qd (qc 3) qe))))))))))) rfl)
   (qF (qwg (pv 1) (qwb (qvw (pv 0) rfl) (pv 2) qln (by intro _;rfl)) rfl rfl rfl)
   (qeh (qol (pv 0) (qhh qcy (pv 3) (pv 1) (fun _ _=>rfl)) rfl)))))),?_⟩
  have hB:=hp.b;have p0:=hp.hp;have sF1:Same (upd F0 qa (.lst (ss.map V.int))) H:=qlp sm hA.hq;refine ⟨.ref a,rfl,a,dx,_,rfl,hA.ha,rfl,.int p,rfl,a,dx,_,[.int p],_,bNm,bFs n d Ls ss,[.int p],fun dd => ∃ r:Nat,r<m/\Tg Ls ss (n+m+1) p m r/\dd = .int r,rfl,hA.ha,sF1,hA.flds,qw (qJ _) qQ,
   ⟨n,d,Ls,ss,m,n+m+1,p,rfl,rfl,rfl,⟨hB,by omega,by have:=hp.hm;omega,hp.hk⟩,fun r h1 h2=>⟨r,h1,h2,rfl⟩⟩,fun dd v F2 H2 g i2 q2=>?_⟩
  obtain ⟨r,hr',ht,rfl⟩:=q2;have ev:=i2.int_inv;subst ev;have sH:Same H H2:=g.h;have sF0:Same F0 H2:=sm.trans sH;obtain ⟨la,xs,rfl,hsq,hxs⟩:=hA.hl.lst_inv;obtain ⟨t,et,_,lt⟩:=hB.row (k:=(r:Int)) (by omega) (by omega);have et:Ls[r]?=some t:=et;obtain ⟨xr,exr,ixr⟩:=hxs.get (i:=r) (d:=qag t) (by rw [Qa,et];rfl);refine ⟨.ref a,rfl,a,cs.Board,dx,_,.ref la,rfl,sH _ _ hA.ha,T.Board_c,T.Board_n_lines,rfl,.int r,rfl,la,xs,r,xr,rfl,rfl,sF0.seq hsq,qaf exr,?_⟩;refine ⟨.ref a,rfl,a,cs.Board,dx,_,.int d,rfl,sH _ _ hA.ha,T.Board_c,T.Board_n_bottom,rfl,?_⟩;have A2:BAt K cs.Board H2 F0 a dx qa n d Ls ss (.ref la):=⟨sH _ _ hA.ha,hA.hl,sH _ _ hA.hq,hA.fa,hA.fq⟩
  have I4:=qhc (K:=K) (N:=[Sj,Sd,"turn",SI,Sc]) sF0 A2.ha A2.flds3 (qw (qJ (p:Int)) (qw (qJ (r:Int)) (qw ixr (qw (qJ d) qQ))));refine ⟨⟨H2,H2,F0⟩,_,F0,fun dd e=>dd = .list ((qor Ls r p d).map qag),I4,?_,fun dd v F5 H5 e5 I5 s5 i5 q5=>?_⟩
  ·refine ⟨rfl,_,rfl,?_⟩;have hlen:Ls.length=m:=hB.l;have hm24:=hp.hm;refine qO ((qor Ls r p d).map qag) (by rw [qdy];simp [qor]) (qo (by simp [qor];omega)) (fun e => ∃ s u,e=[.val (.int p),.val (.int r),.val (qag t),.val (.int d),s,u]) ⟨_,_,rfl⟩ ?_ rfl;rintro i x ys e hx hys ⟨s,u,rfl⟩;obtain ⟨x,hx',rfl⟩:=qiw hx;obtain ⟨l,el,rfl⟩ : ∃ l,Ls[i]?=some l/\qag l=x:=by
    rw [Qa] at hx';cases q:Ls[i]? with
    | none=>rw [q] at hx';cases hx'
    | some l=>rw [q] at hx';exact ⟨l,rfl,Qp hx'⟩
   have ll:=hB.w l (Qg el);have hn20:=hp.hn;have ge:((qor Ls r p d).map qag)[i]?=some (qag (if i=r then l else qyf l t p d)):=by
    unfold qor;rw [Qa,Qhm,el,et];rfl
   refine ⟨rfl,rfl,rfl,rfl,qgc (fun e=>⟨qq ?_ hys,_,_,rfl⟩) (fun e=>⟨l,t,p,d,rfl,⟨by omega,by omega,by omega,hp.d0,hp.d1,hB.z l (Qg el),hB.z t (Qg et)⟩,qq ?_ hys,_,_,rfl⟩)⟩
   ·rw [ge,if_pos (by omega)]
   ·rw [ge,if_neg (by omega)];rfl
  subst q5;have qne:qa≠a:=fun z=>by have:=hA.hq;rw [z,hA.ha] at this;cases this
  have Ha5:=I5.bh _ _ A2.ha;have Hq5:=I5.bh _ _ A2.hq;have fa5:F5 a=none:=by
   cases e:F5 a with
   | none=>rfl
   | some o=>rcases I5.new a o e with q|q
             ·have q:F0 a=some o:=q;rw [hA.fa] at q;cases q
             ·have q:H2 a=none:=q;rw [A2.ha] at q;cases q
  have fq5:F5 qa=none:=by
   cases e:F5 qa with
   | none=>rfl
   | some o=>rcases I5.new qa o e with q|q
             ·have q:F0 qa=some o:=q;rw [hA.fq] at q;cases q
             ·have q:H2 qa=none:=q;rw [A2.hq] at q;cases q
  obtain ⟨lb,ys,rfl,hsq2,hys⟩:=ixr.lst_inv;have eys:=hys.ints_inv;subst eys;obtain ⟨t3,_⟩:=hB.at et (j:=p) (by omega);refine ⟨.ref a,rfl,a,cs.Board,dx,_,rfl,Ha5,T.Board_c,T.Board_n_lines,(show 4<1000 by decide),?_⟩;refine ⟨.int p,rfl,.ref a,rfl,a,cs.Board,dx,_,.ref qa,rfl,ql,T.Board_c,T.Board_n_stands_for,rfl,.int r,rfl,qa,ss.map V.int,r,r,rfl,rfl,?_,?_,?_⟩
  ·rw [qi qne];exact Hq5
  ·rw [Qf,hB.s];exact zaiy (by omega) (by omega)
  have sF7 : ∀ o1 o2,Same F5 (upd (upd H5 a o1) qa o2):=fun o1 o2 b u e=>by
   rw [qi (qm e fq5),qi (qm e fa5)];exact I5.fh b u e
  refine ⟨.ref lb,rfl,.int p,rfl,lb,t.map V.int,p,.int (at2 Ls r p),rfl,rfl,((s5.trans (sF7 _ _)).seq hsq2),qaf (by rw [Qa,t3];rfl),?_⟩;refine ⟨.ref a,rfl,a,cs.Board,dx,[(Sk,.int n),(Sc,.int d),(S5,v),(SJ,.ref qa)],rfl,by rw [qi (Z0 qne)];exact ql,T.Board_c,T.Board_n_bottom,(show 4<1000 by decide),?_⟩;refine kk F5 _ v r hr' ht ⟨s5,fun c o c1 c2 e=>?_,fun c o e=>?_,fun c o e=>?_⟩ ⟨ql,i5,?_,fa5,fq5⟩
  ·rw [qi c1,qi c2,qi c1];exact I5.bh c o (sH c o e)
  ·rw [qi (qm e fa5)];exact sF7 _ _ c o e
  ·rcases I5.new c o e with q|q
   ·exact .inl q
   ·exact .inr (qu sH q)
  ·rw [qi qne,ql,Qef]
def qsc (d:Int) (Ls:List (List Int)) (ss:List Int) (m w i u:Nat) (x:Int×Int):Prop :=
 (∃ k,k<i/\ss[k]?=some (u:Int)/\x=(shT (at2 Ls k (w-1)) d,shB (at2 Ls k (w-1)) d))\/((∀ k,k<i->ss[k]?≠some (u:Int))/\x=(shT 0 1,shB 0 1))
def quf (nm:List Str) (fs:List (Str×Qh)) (ds:List Qh) (q:List Qh->Prop):Prop := ∃ (n:Nat) (d:Int) (Ls:List (List Int)) (ss:List Int) (m w:Nat),nm=bNm/\fs=bFs n d Ls ss/\ds=[]/\(Bd m w Ls ss/\0<d/\intBits d<=2000/\1<=w/\n<=900 /\ ∀ x ∈ ss,x<n) /\
 ∀ vs:List (Int×Int),vs.length=n->(∀ u x,vs[u]?=some x->qsc d Ls ss m w m u x)->q (vs.map fun x=>dSh x.1 x.2)
def qdp:FnScope [Sj,"found",SQ,"unknown"] [Sj] (defScope qen):=sc0
def qrp (F:MDef K cs.Board "told" "Board.told" qen [Sj]) (T:Txt K mg cs)
 (O_share:Ok P w K mg base UL 3 [SY,Sc] (PSp K qis))
 : OkM P w K mg base cs.Board "told" 4 [Sj] (OFSp K cs.Board quf):=by
  refine F.vokF qdp (by rintro nm fs ds q ⟨_,_,_,_,_,_,_,_,h,_⟩;rw [h];rfl) fun f cdv A outer s H E hr a0 nm fs ds q h=>?_;obtain ⟨n,d,Ls,ss,m,w,rfl,rfl,rfl,⟨hB,d0,d1,w1,hn,hs⟩,h⟩:=h;refine ⟨_,(qg (qlo (caps:=[]) (own:=[Sd]) (ix:=[]) (i:=1) qdp.nd rfl ⟨rfl,rfl,rfl,rfl,rfl,rfl⟩ (qS T.range_ (qcs 0 T.Board_c T.Board_n_unknowns)) (fun _ _ _ _=>(qp (i:=0) (show Ze ([Sd]:List Str) by decide))) (fun _ _ _ _=>(qB O_share hr.m (qd qf (qd qf qe)))))
   (qg (qby rfl (qmh T.zip_ (qcs 0 T.Board_c T.Board_n_lines) (qcs 0 T.Board_c T.Board_n_stands_for)) (qhv (n:=2) rfl (qad (qp (i:=2) qdp.nd) (qad (qp (i:=3) qdp.nd) qfk))) (qj (qcm (qK o_ge (qc 3) qf) (qj (qhx 1 (qB O_share hr.m (qd (qv (qc 2) (qli qf)) (qd (qcs 0 T.Board_c T.Board_n_bottom) qe))) (qc 3))) qW)))
   (qj (quw 1)))),?_⟩
  have hlen:(Ls.map qag).length=m:=by rw [Qf,hB.l]
  have hrl:(qth 0 (n:Int).toNat).length=n:=by rw [qE];omega
  refine ⟨rfl,_,rfl,⟨by omega,by omega⟩,qo (by rw [hrl];omega),fun k ys e=>ys=(Vd n (dSh (shT 0 1) (shB 0 1))).take k /\ ∃ u,e=[u],⟨by simp,_,rfl⟩,?_,?_⟩
  ·rintro i x ys e hx ⟨hys,s,rfl⟩;obtain ⟨hi,rfl⟩:=qam hx;exact ⟨⟨by decide,by decide⟩,qq (by rw [V2,if_pos (by omega)]) hys,_,rfl⟩
  rintro ys e ⟨hys,u,rfl⟩;rw [hrl,Zx (by rw [Qaj];omega)] at hys;subst hys;refine ⟨rfl,_,rfl,rfl,_,rfl,fun i e => ∃ t1 t2 l,e=[.obj a0 cs.Board bNm (bFs n d Ls ss),.own l,t1,t2] /\ ∃ vs:List (Int×Int),l=vs.map (fun x=>dSh x.1 x.2)/\vs.length=n /\ ∀ u x,vs[u]?=some x->qsc d Ls ss m w i u x,⟨_,_,_,rfl,Vd n (shT 0 1,shB 0 1),by rw [List.map_replicate],by simp,fun u x hx => .inr ⟨fun k hk=>by omega,?_⟩⟩,?_,?_⟩
  ·rw [V2] at hx;split at hx
   ·exact (Qp hx).symm
   ·cases hx
  ·rintro i x e hx ⟨t1,t2,l,rfl,vs,rfl,hv,hI⟩;obtain ⟨x,y,h3,h4,rfl⟩:=qii hx;obtain ⟨u,rfl,hu,hum⟩:=qbe h4;obtain ⟨r,er,rfl⟩ : ∃ r,Ls[i]?=some r/\qag r=x:=by
    rw [Qa] at h3;cases q:Ls[i]? with
    | none=>rw [q] at h3;cases h3
    | some r=>rw [q] at h3;exact ⟨r,rfl,Qp h3⟩
   have lr:r.length=w:=hB.w r (Qg er);obtain ⟨r1,r2⟩:=hB.at er (j:=w-1) (by omega);refine ⟨rfl,rfl,qkj (fun a=>?_) (fun a=>?_)⟩
   ·have un:=hs u hum;refine ⟨.int (at2 Ls i (w-1)),atI_last (by rw [Qf,lr,Qa,r1];rfl),rfl,_,rfl,⟨by omega,qA d1 (by decide)⟩,rfl,rfl,u.toNat,?_,_,_,_,rfl,vs.set u.toNat (shT (at2 Ls i (w-1)) d,shB (at2 Ls i (w-1)) d),?_,by rw [Ye];exact hv,fun v x hx=>?_⟩
    ·exact zaiy a (by show u<(((vs.map _).length:Nat):Int);rw [Qf,hv];exact un)
    ·rw [Qef];rfl
    ·rw [Qaq] at hx;by_cases e:u.toNat=v
     ·rw [if_pos e] at hx;split at hx
      ·exact .inl ⟨i,by omega,by rw [hu];congr 1;omega,(Qp hx).symm⟩
      ·cases hx
     ·rw [if_neg e] at hx;rcases hI v x hx with ⟨k,hk,h1,h2⟩|⟨h1,h2⟩
      ·exact .inl ⟨k,by omega,h1,h2⟩
      ·refine .inr ⟨fun k hk z=>?_,h2⟩;by_cases q:k=i
       ·subst q;rw [hu] at z;have:=Qp z;omega
       ·exact h1 k (by omega) z
   ·refine ⟨_,_,_,rfl,vs,rfl,hv,fun v x hx=>?_⟩;rcases hI v x hx with ⟨k,hk,h1,h2⟩|⟨h1,h2⟩
    ·exact .inl ⟨k,by omega,h1,h2⟩
    ·refine .inr ⟨fun k hk z=>?_,h2⟩;by_cases q:k=i
     ·subst q;rw [hu] at z;have:=Qp z;omega
     ·exact h1 k (by omega) z
  ·rintro e ⟨t1,t2,l,rfl,vs,rfl,hv,hI⟩;rw [qeg,hlen,Qf,hB.s,Nat.min_self] at hI;exact ⟨_,rfl,h vs hv hI⟩
def qgr (Ls:List (List Int)) (ss:List Int) (d:Int):Sta:=⟨fun k=>(ss[k]?).getD 0,at2 Ls,d⟩
def qgy (Ls0:List (List Int)):Nat->Nat->Int:=fun j x=>at2 Ls0 x j
def Brd.congr {m:Nat}{col B B' L:Nat->Nat->Int}{d:Int} (h:Brd m col B L d) (e : ∀ x k,k<m->B x k=B' x k):Brd m col B' L d where
 pos:=h.pos
 hd:=by rw [h.hd];exact qfe fun x y _ hy=>e x y hy
 hL:=fun k hk j=>by
  rw [h.hL k hk j];exact qfe fun x y _ hy=>by
   unfold qah;by_cases z:y=k
   ·rw [if_pos z,if_pos z]
   ·rw [if_neg z,if_neg z,e x y hy]
 hI:=fun j x hx=>by
  rw [h.hI j x hx];exact qh fun k hk=>by rw [e x k hk]
def qhr {f:Nat->List Int}{m k j:Nat} (hk:k<m):at2 ((Q1 m).map f) k j=((f k)[j]?).getD 0:=by
 unfold at2;rw [Qa,Qn hk];rfl
def qmu {m k:Nat} (hk:k<m):((qfc m)[k]?).getD 0 = -(m:Int)+k:=by
 unfold qfc;rw [Qa,Qn hk];rfl
def zaib (row:List Int) (s:Int) (k m:Nat):(qop row s k m).length=row.length+m+1:=by
 unfold qop;simp;omega
def qxw {row:List Int}{s:Int}{k m j:Nat} (h:j<row.length):((qop row s k m)[j]?).getD 0=tn s*(row[j]?).getD 0:=by
 unfold qop;rw [Qa,Zg (by simp;omega),Zg h,Qc h];rfl
def zaeg {row:List Int}{s:Int}{k m j:Nat} (h:j<m):((qop row s k m)[row.length+j]?).getD 0=tn s*(if j=k then 1 else 0):=by
 unfold qop;rw [Qa,Zg (by simp;omega),Z5 (by omega),Nat.add_sub_cancel_left,Qa,Qn h];rfl
def qrb {row:List Int}{s:Int}{k m:Nat}:((qop row s k m)[row.length+m]?).getD 0=tn s*s:=by
 unfold qop;rw [Qa,Z5 (by simp)];simp
def zarb (s:Int):0<=tn s*s:=by unfold tn;split <;> omega
def qzm {n:Nat}{R:List (List Int)}{b:List Int} (hw : ∀ r ∈ R,r.length=n):Good R.length n (qgy (qI R b)) (qgr (qI R b) (qfc R.length) 1) where
 brd:=(zadc R.length (qgy (qI R b))).congr fun x k hk=>by
  unfold Bas;rw [if_pos (show (qgr (qI R b) (qfc R.length) 1).st k<0 by show ((qfc R.length)[k]?).getD 0<0;rw [qmu hk];omega)]
 sum:=fun k hk=>by
  show 0<=at2 (qI R b) k (n+R.length);unfold qI;rw [qhr hk];have e:((R[k]?).getD []).length=n:=by
   rw [Qc hk];exact hw _ (Q7 _)
  rw [<- e,qrb];exact zarb _
 top:=fun k hk=>by
  show ((qfc R.length)[k]?).getD 0<n;rw [qmu hk];omega
def zabe {Ls:List (List Int)}{k j:Nat} (h:Ls.length<=k):at2 Ls k j=0:=by
 unfold at2;rw [Qo h];rfl
def zafi {Ls:List (List Int)}{w r p:Nat}{d:Int} (hw : ∀ l ∈ Ls,l.length=w) (hr:r<Ls.length):at2 (qor Ls r p d)=piv (at2 Ls) d r p:=by
 funext k j
 obtain ⟨t,et⟩ : ∃ t,Ls[r]?=some t:=⟨_,Qc hr⟩
 have lt:=hw t (Qg et);unfold piv;by_cases hk:k<Ls.length
 ·obtain ⟨l,el⟩ : ∃ l,Ls[k]?=some l:=⟨_,Qc hk⟩
  have ll:=hw l (Qg el);have e:at2 (qor Ls r p d) k j=((if k=r then l else qyf l t p d)[j]?).getD 0:=by
   unfold at2 qor;rw [Qhm,el,et];rfl
  rw [e];by_cases z:k=r
  ·subst z;rw [if_pos rfl,if_pos rfl];unfold at2;rw [el];rfl
  ·rw [if_neg z,if_neg z];have a1 : ∀ i,at2 Ls k i=(l[i]?).getD 0:=fun i=>by unfold at2;rw [el];rfl
   have a2 : ∀ i,at2 Ls r i=(t[i]?).getD 0:=fun i=>by unfold at2;rw [et];rfl
   rw [a1,a1,a2,a2];unfold qyf;by_cases hj:j<w
   ·rw [Qcv,Qc (show j<l.length by omega),Qc (show j<t.length by omega)];rfl
   ·rw [Qo (by simp;omega),Qo (show l.length<=j by omega),Qo (show t.length<=j by omega)];simp
 ·have z1 : ∀ i,at2 Ls k i=0:=fun i=>zabe (by omega);rw [zabe (by unfold qor;simp;omega),if_neg (by omega),z1,z1];simp
def zape {Ls:List (List Int)}{ss:List Int}{d:Int}{m n c r:Nat} (hl:Ls.length=m) (hs:ss.length=m) (hw : ∀ l ∈ Ls,l.length=n+m+1) (c1:c<n) (c2:0<lack m (qgr Ls ss d) c) (c3 : ∀ j,j<c->lack m (qgr Ls ss d) j<=0)
 (hr:r<m) (ht:Tg Ls ss (n+m+1) c m r):Stp m n (qgr Ls ss d) c r (qgr (qor Ls r c d) (ss.set r c) (at2 Ls r c)) where
  c1:=c1
  c2:=c2
  c3:=c3
  r1:=hr
  r2:=ht.1
  r3:=fun k hk hp=>(ht.2 k hk hp).1
  r4:=fun k hk hp e=>(ht.2 k hk hp).2 e
  st:=by
   funext k
   show ((ss.set r (c:Int))[k]?).getD 0=if k=r then (c:Int) else (ss[k]?).getD 0
   rw [Qaq];by_cases z:r=k
   ·subst z;rw [if_pos rfl,if_pos rfl,if_pos (by omega)];rfl
   ·rw [if_neg z,if_neg (Z0 z)]
  L:=zafi hw (by omega)
  d:=rfl
def zacj {m M:Nat}{col:Nat->Nat->Int}{st:Nat->Int} (hM : ∀ j x,x<m->(col j x).natAbs<=M) (h1:1<=M) {x k:Nat} (hx:x<m):(Bas col st x k).natAbs<=M:=by
 unfold Bas;split
 ·split
  ·exact h1
  ·exact Yc _
 ·exact hM _ _ hx
def Good.abs {m n M:Nat}{col:Nat->Nat->Int}{b:Sta} (h:Good m n col b) (hM : ∀ j x,x<m->(col j x).natAbs<=M) (h1:1<=M):(∀ k,k<m -> ∀ j,(b.L k j).natAbs<=fct m*M^m)/\b.d.natAbs<=fct m*M^m:=by
 refine ⟨fun k hk j=>?_,?_⟩
 ·rw [h.brd.hL k hk j];refine qur fun x y hx _=>?_;unfold qah;split
  ·exact hM _ _ hx
  ·exact zacj hM h1 hx
 ·rw [h.brd.hd];exact qur fun x y hx _=>zacj hM h1 hx
def qxg (m n:Nat) (b:Sta) (u:Nat):Int:=qk m fun k=>if b.st k=(u:Int) then b.L k (n+m) else 0
def Good.val {m n:Nat}{col:Nat->Nat->Int}{b:Sta} (h:Good m n col b) {k u:Nat} (hk:k<m) (e:b.st k=(u:Int)):qxg m n b u=b.L k (n+m):=by
 unfold qxg;rw [qL hk fun i hi hik=>if_neg fun z=>?_,if_pos e];have a:=h.basic hk e hk;have c:=h.basic hi z hk;rw [if_pos rfl] at a;rw [if_neg (Z0 hik),a] at c;have:=h.brd.pos;omega
def zagc {m n:Nat}{b:Sta}{u:Nat} (h : ∀ k,k<m->b.st k≠(u:Int)):qxg m n b u=0:=qae fun k hk=>if_neg (h k hk)
def Good.fits' {m n:Nat}{col:Nat->Nat->Int}{b:Sta} (h:Good m n col b) (h0:lack m b (n+m)=0) {x:Nat} (hx:x<m) :
 b.d*col (n+m) x=qk n fun u=>col u x*qxg m n b u:=by
  rw [h.fits h0 hx];have e:(qk n fun u=>col u x*qxg m n b u)=qk n fun u=>qk m fun k=>if b.st k=(u:Int) then col u x*b.L k (n+m) else 0:=qh fun u _=>by
   unfold qxg;rw [<- qr];exact qh fun k _=>by
    split
    ·rfl
    ·omega
  rw [e,qjf];refine qh fun k hk=>?_;by_cases q:b.st k<0
  ·rw [if_pos q,qae fun u _=>if_neg (by omega)]
  ·rw [if_neg q];have t:=h.top k hk;rw [qL (r:=(b.st k).toNat) (by omega) fun u _ hu=>if_neg (by omega),if_pos (by omega),Zu]
def qtl {m n:Nat}{col:Nat->Nat->Int}{b:Sta} (h:Good m n col b) {j N:Nat} (f:Nat->Int) (at':Nat->Nat) (e : ∀ x,x<m->col j x=qk N fun l=>f l*col (at' l) x) :
 lack m b j=qk N fun l=>f l*lack m b (at' l):=by
  unfold lack;have e2:(qk N fun l=>f l*qk m fun k=>if b.st k<0 then b.L k (at' l) else 0)=qk N fun l=>qk m fun k=>if b.st k<0 then f l*b.L k (at' l) else 0:=qh fun l _=>by
   rw [<- qr];exact qh fun k _=>by
    split
    ·rfl
    ·omega
  rw [e2,qjf];refine qh fun k hk=>?_;by_cases q:b.st k<0
  ·rw [if_pos q,h.brd.comb f at' e hk];exact qh fun l _=>by rw [if_pos q]
  ·rw [if_neg q];exact (qae fun l _=>if_neg q).symm
def qtp {n:Nat}{R:List (List Int)}{b:List Int} (hw : ∀ r ∈ R,r.length=n) {x:Nat} (hx:x<R.length) :
 (∀ j,j<n->qgy (qI R b) j x=qk R.length fun l=>at2 R l j*qgy (qI R b) (n+l) x)/\qgy (qI R b) (n+R.length) x=qk R.length fun l=>(b[l]?).getD 0*qgy (qI R b) (n+l) x:=by
  have e:((R[x]?).getD []).length=n:=by
   rw [Qc hx];exact hw _ (Q7 _)
  have mk : ∀ l,l<R.length->qgy (qI R b) (n+l) x=tn ((b[x]?).getD 0)*(if l=x then 1 else 0):=fun l hl=>by
   show at2 (qI R b) x (n+l)=_;unfold qI;rw [qhr hx,<- e,zaeg hl]
  refine ⟨fun j hj=>?_,?_⟩
  ·rw [qL hx fun l hl z=>by rw [mk l hl,if_neg z];omega,mk x hx,if_pos rfl];show at2 (qI R b) x j=_;unfold qI;rw [qhr hx,qxw (by omega)];unfold at2;grind
  ·rw [qL hx fun l hl z=>by rw [mk l hl,if_neg z];omega,mk x hx,if_pos rfl];show at2 (qI R b) x (n+R.length)=_;unfold qI;rw [qhr hx,<- e,qrb];grind
def Good.none' {n:Nat}{R:List (List Int)}{b:List Int}{s:Sta} (hw : ∀ r ∈ R,r.length=n) (h:Good R.length n (qgy (qI R b)) s) :
 (∀ j,j<n->(qk R.length fun l=>at2 R l j*lack R.length s (n+l))=lack R.length s j)/\(qk R.length fun l=>(b[l]?).getD 0*lack R.length s (n+l))=lack R.length s (n+R.length) :=
  ⟨fun j hj=>(qtl h (fun l=>at2 R l j) (fun l=>n+l) fun x hx=>(qtp hw hx).1 j hj).symm,(qtl h (fun l=>(b[l]?).getD 0) (fun l=>n+l) fun x hx=>(qtp hw hx).2).symm⟩
def Good.told' {n:Nat}{R:List (List Int)}{b:List Int}{s:Sta} (hw : ∀ r ∈ R,r.length=n) (h:Good R.length n (qgy (qI R b)) s) (h0:lack R.length s (n+R.length)=0) {x:Nat} (hx:x<R.length) :
 s.d*(b[x]?).getD 0=qk n fun u=>at2 R x u*qxg R.length n s u:=by
  have e:((R[x]?).getD []).length=n:=by
   rw [Qc hx];exact hw _ (Q7 _)
  have f:=h.fits' h0 hx;have c1:qgy (qI R b) (n+R.length) x=tn ((b[x]?).getD 0)*(b[x]?).getD 0:=by
   show at2 (qI R b) x (n+R.length)=_;unfold qI;rw [qhr hx,<- e,qrb]
  have c2 : ∀ u,u<n->qgy (qI R b) u x=tn ((b[x]?).getD 0)*at2 R x u:=fun u hu=>by
   show at2 (qI R b) x u=_;unfold qI;rw [qhr hx,qxw (by omega)];rfl
  rw [c1,qh fun u hu=>by rw [c2 u hu,Qat],qr] at f;have t0:tn ((b[x]?).getD 0)≠0:=by unfold tn;split <;> decide
  refine Zi t0 ?_;rw [<- f];grind
def qyj : ∀ {m n:Nat},m<=n->fct m<=fct n
 | m,0,h=>by have:m=0:=by omega
             subst this;exact Qr _
 | m,n+1,h=>by
  by_cases e:m=n+1
  ·subst e;exact Qr _
  ·exact Zk (qyj (m:=m) (n:=n) (by omega)) (Nat.le_mul_of_pos_left _ (by omega))
def qux {m x:Nat} (hm:m<=24) (h:x<=fct m*20000000^m):x<2^700:=by
 have a:fct m*20000000^m<=fct 24*20000000^24:=Yx (qyj hm) (Qhl (by decide) hm);have b:fct 24*20000000^24<2^700:=by decide +kernel
 omega
def qzg (s x:Int):(tn s*x).natAbs=x.natAbs:=by unfold tn;split <;> omega
def qxp {l:List Int}{M:Nat} (h : ∀ x ∈ l,x.natAbs<=M) (j:Nat):((l[j]?).getD 0).natAbs<=M:=by
 cases e:l[j]? with
 | none=>simp
 | some x=>exact h x (Qg e)
def zacq {R:List (List Int)}{b:List Int} (z : ∀ r ∈ R,∀ x ∈ r,x.natAbs<=20000000) (zb : ∀ x ∈ b,x.natAbs<=20000000) (j x:Nat) (hx:x<R.length):(qgy (qI R b) j x).natAbs<=20000000:=by
 show (at2 (qI R b) x j).natAbs<=_;unfold qI;rw [qhr hx];refine qxp (fun y hy=>?_) j;unfold qop at hy;obtain ⟨w,hw,rfl⟩:=Qk.mp hy;rw [qzg];simp only [Zf,Qk,Qy] at hw;rcases hw with (hw|⟨i,_,rfl⟩)|rfl
 ·rw [Qc hx] at hw;exact z _ (Q7 _) w hw
 ·split <;> decide
 ·exact qxp zb x
structure Rn (n:Nat) (R:List (List Int)) (b:List Int) (T:Nat) (d:Int) (Ls:List (List Int)) (ss:List Int):Prop where
 l:Ls.length=R.length
 s:ss.length=R.length
 w : ∀ r ∈ Ls,r.length=n+R.length+1
 run : ∃ st cs rs,Run R.length n (qgy (qI R b)) T st cs rs/\st T=qgr Ls ss d
def Rn.good {n:Nat}{R:List (List Int)}{b:List Int}{T:Nat}{d:Int}{Ls:List (List Int)}{ss:List Int} (h:Rn n R b T d Ls ss):Good R.length n (qgy (qI R b)) (qgr Ls ss d):=by
 obtain ⟨st,cs,rs,r,e⟩:=h.run;rw [<- e];exact (r.at T (Qr _)).1
def Rn.short {n:Nat}{R:List (List Int)}{b:List Int}{T:Nat}{d:Int}{Ls:List (List Int)}{ss:List Int} (h:Rn n R b T d Ls ss):T<(n+R.length)^R.length:=by
 obtain ⟨st,cs,rs,r,e⟩:=h.run;exact r.short
def Rn.first {n:Nat}{R:List (List Int)}{b:List Int} (h:SvPre n R b):Rn n R b 0 1 (qI R b) (qfc R.length) where
 l:=by simp [qI]
 s:=by simp [qfc]
 w:=fun r hr=>by
  unfold qI at hr;obtain ⟨k,hk,rfl⟩:=Qk.mp hr;have hk:=Zh.mp hk;rw [zaib,Qc hk];show (R[k]).length+_+_=_;rw [h.i.w _ (Q7 _)]
 run:=⟨fun _=>qgr (qI R b) (qfc R.length) 1,fun _=>0,fun _=>0,⟨qzm h.i.w,fun k hk=>by
  show _<=((qfc R.length)[k]?).getD 0;rw [qmu hk];omega,fun τ hτ=>by omega⟩,rfl⟩
def Rn.next {n:Nat}{R:List (List Int)}{b:List Int}{T:Nat}{d:Int}{Ls:List (List Int)}{ss:List Int}{c r:Nat} (h:Rn n R b T d Ls ss) (c1:c<n) (c2:0<qP Ls ss R.length c) (c3 : ∀ j,j<c->qP Ls ss R.length j<=0)
 (hr:r<R.length) (ht:Tg Ls ss (n+R.length+1) c R.length r):Rn n R b (T+1) (at2 Ls r c) (qor Ls r c d) (ss.set r c) where
  l:=by unfold qor;rw [List.length_mapIdx];exact h.l
  s:=by rw [Ye];exact h.s
  w:=fun l hl=>by
   unfold qor at hl;obtain ⟨k,hk,rfl⟩:=List.mem_mapIdx.mp hl;have a:=h.w _ (Q7 hk);split
   ·exact a
   ·have e:Ls[r]?=some (Ls[r]'(by rw [h.l];exact hr)):=Qc _;have a2:=h.w _ (Qg e);unfold qyf;rw [List.length_zipWith,e];show min _ (Ls[r]'_).length=_;omega
  run:=by
   obtain ⟨st,cs,rs,rr,e⟩:=h.run;have s:=zape (n:=n) (d:=d) h.l h.s h.w c1 c2 c3 hr ht;rw [<- e] at s;exact ⟨_,_,_,rr.snoc s,by show (if T+1<=T then _ else _)=_;rw [if_neg (by omega)]⟩
def Rn.bd {n:Nat}{R:List (List Int)}{b:List Int}{T:Nat}{d:Int}{Ls:List (List Int)}{ss:List Int} (h:Rn n R b T d Ls ss) (p:SvPre n R b):Bd R.length (n+R.length+1) Ls ss/\0<d/\intBits d<=2000:=by
 have g:=h.good;obtain ⟨a1,a2⟩:=g.abs (M:=20000000) (fun j x hx=>zacq p.z p.zb j x hx) (by decide);have hm:=p.i.hm;refine ⟨⟨h.l,h.s,h.w,fun r hr x hx=>?_⟩,g.brd.pos,qA (intBits_le_iff.mpr (qux hm a2)) (by decide)⟩;obtain ⟨k,hk,rfl⟩:=Jk.mp hr;obtain ⟨j,hj,rfl⟩:=Jk.mp hx;have hk':k<R.length:=by rw [<- h.l];exact hk
 have e:at2 Ls k j=Ls[k][j]:=by
  unfold at2;rw [Qc hk];show (Ls[k][j]?).getD 0=_;rw [Qc hj];rfl
 rw [<- e];exact qA (intBits_le_iff.mpr (qux hm (a1 k hk' j))) (by decide)
def Rn.top {n:Nat}{R:List (List Int)}{b:List Int}{T:Nat}{d:Int}{Ls:List (List Int)}{ss:List Int} (h:Rn n R b T d Ls ss) : ∀ x ∈ ss,x<(n:Int):=fun x hx=>by
 obtain ⟨k,hk,rfl⟩:=Jk.mp hx;have t:=h.good.top k (by rw [<- h.s];exact hk);have t:(ss[k]?).getD 0<(n:Int):=t;rw [Qc hk] at t;exact t
def Rn.nn {n:Nat}{R:List (List Int)}{b:List Int}{T:Nat}{d:Int}{Ls:List (List Int)}{ss:List Int} (h:Rn n R b T d Ls ss):0<=qP Ls ss R.length (n+R.length):=qcw fun k hk=>by
 have a:0<=at2 Ls k (n+R.length):=h.good.sum k hk;by_cases q:(ss[k]?).getD 0<0
 ·rw [if_pos q];exact a
 ·rw [if_neg q];omega
def zatt:shB 0 1=1/\shT 0 1=0:=by decide
def Rn.fit {n:Nat}{R:List (List Int)}{b:List Int}{T:Nat}{d:Int}{Ls:List (List Int)}{ss:List Int} (h:Rn n R b T d Ls ss) (p:SvPre n R b) (h0 : ¬ 0<qP Ls ss R.length (n+R.length))
 {vs:List (Int×Int)} (hl:vs.length=n) (hv : ∀ u x,vs[u]?=some x->qsc d Ls ss R.length (n+R.length+1) R.length u x):FitV n R b vs:=by
  have g:=h.good;obtain ⟨hB,d0,d1⟩:=h.bd p;have nn:=h.nn;have z:lack R.length (qgr Ls ss d) (n+R.length)=0:=by
   have:qP Ls ss R.length (n+R.length)=0:=by omega
   exact this
  have hd:d≠0:=by omega
  have key : ∀ u x,vs[u]?=some x->(Shr x.1 x.2/\0<=x.1/\x.2∣d/\intBits x.1<=2000)/\qxg R.length n (qgr Ls ss d) u=x.1*(d/x.2):=fun u x hx=>by
   rcases hv u x hx with ⟨k,hk,e,rfl⟩|⟨e,rfl⟩
   ·have ev:qxg R.length n (qgr Ls ss d) u=at2 Ls k (n+R.length):=g.val hk (by show (ss[k]?).getD 0=_;rw [e];rfl);have hN:0<=at2 Ls k (n+R.length):=g.sum k hk;obtain ⟨row,er⟩ : ∃ row,Ls[k]?=some row:=⟨_,Qc (by rw [h.l];exact hk)⟩
    have hbits:intBits (at2 Ls k (n+R.length))<=2000:=(hB.at er (by omega)).2;rw [ev,show n+R.length+1-1=n+R.length from rfl];generalize at2 Ls k (n+R.length)=N at *;obtain ⟨s1,s2⟩:=qvv (t:=N) hd;have s3:=qjs N d;have q1:=s1.pos;have dv:shB N d∣d:=⟨cm N d,by rw [Zu];exact s3.symm⟩
    refine ⟨⟨s1,?_,dv,qim hbits⟩,?_⟩
    ·have:0<=shT N d*d:=by rw [s2];exact Zn hN (by omega)
     exact Int.nonneg_of_mul_nonneg_left this d0
    ·show N=shT N d*(d/shB N d);refine Yi (a:=shB N d) (by omega) ?_;rw [Qat,Qhu dv,s2]
   ·have ev:qxg R.length n (qgr Ls ss d) u=0:=zagc fun k hk y=>e k hk (by
     have y:(ss[k]?).getD 0=(u:Int):=y;rw [Qc (by rw [h.s];exact hk)] at y ⊢;exact congrArg some y)
    obtain ⟨b1,b2⟩:=zatt;rw [ev,b1,b2];exact ⟨⟨⟨by decide,by decide⟩,by decide,⟨d,by omega⟩,intBits_le_iff.mpr (by decide +kernel)⟩,by omega⟩
  refine ⟨hl,d,d0,d1,fun x hx=>?_,fun k hk=>?_⟩
  ·obtain ⟨u,hu⟩:=Jj hx;exact (key u x hu).1
  ·have t:=g.told' p.i.w z hk;have t:d*(b[k]?).getD 0=_:=t;rw [t];refine qh fun u hu=>?_;have hu':vs[u]?=some (vs[u]'(by omega)):=Qc _;rw [(key u _ hu').2,hu'];rfl
def qto : ∀ {ws:List Int}{g:Nat},qR g ws=0->g=0 /\ ∀ x ∈ ws,x=0
 | [],g,h=>⟨h,fun x hx=>by cases hx⟩
 | w::ws,g,h=>by
  obtain ⟨a,b⟩:=qto (ws:=ws) (g:=Yq g w) h;have c:=Int.gcd_eq_zero_iff.mp a;refine ⟨by omega,fun x hx=>?_⟩;rcases Q5.mp hx with rfl|hx
  ·exact c.2
  ·exact b x hx
def wts (Ls:List (List Int)) (ss:List Int) (n m:Nat):List Int:=(Q1 m).map fun l=>qP Ls ss m (n+l)
def Rn.none {n:Nat}{R:List (List Int)}{b:List Int}{T:Nat}{d:Int}{Ls:List (List Int)}{ss:List Int} (h:Rn n R b T d Ls ss) (p:SvPre n R b) (h0:0<qP Ls ss R.length (n+R.length)) (hc : ∀ j,j<n->qP Ls ss R.length j<=0) :
 0<qR 0 (wts Ls ss n R.length)/\zajx n R b ((wts Ls ss n R.length).map fun x=>x/(qR 0 (wts Ls ss n R.length):Int)):=by
  obtain ⟨e1,e2⟩:=h.good.none' p.i.w;have wl:(wts Ls ss n R.length).length=R.length:=by simp [wts]
  have wa : ∀ l,l<R.length->((wts Ls ss n R.length)[l]?).getD 0=qP Ls ss R.length (n+l):=fun l hl=>by
   unfold wts;rw [Qa,Qn hl];rfl
  have e1 : ∀ j,j<n->(qk R.length fun l=>at2 R l j*qP Ls ss R.length (n+l))=qP Ls ss R.length j:=e1;have e2:(qk R.length fun l=>(b[l]?).getD 0*qP Ls ss R.length (n+l))=qP Ls ss R.length (n+R.length):=e2;have gp:0<qR 0 (wts Ls ss n R.length):=by
   rcases Qbx (qR 0 (wts Ls ss n R.length)) with z|z
   ·have a:=(qto z).2;rw [qae fun l hl=>by
     have:qP Ls ss R.length (n+l)=0:=a _ (Qk.mpr ⟨l,Zh.mpr hl,rfl⟩);rw [this,Y2]] at e2
    omega
   ·exact z
  have dv:=qef (wts Ls ss n R.length) 0;refine ⟨gp,?_⟩;generalize qR 0 (wts Ls ss n R.length)=g at *;have at' : ∀ l,l<R.length->(g:Int)*((((wts Ls ss n R.length).map fun x=>x/(g:Int))[l]?).getD 0)=qP Ls ss R.length (n+l):=fun l hl=>by
   have e:(wts Ls ss n R.length)[l]?=some (qP Ls ss R.length (n+l)):=by unfold wts;rw [Qa,Qn hl];rfl
   rw [Qa,e];show (g:Int)*(qP Ls ss R.length (n+l)/(g:Int))=_;exact Yb (dv _ (Qg e))
  have gi:(0:Int)<g:=by omega
  refine ⟨by rw [Qf,wl],fun j hj=>?_,?_⟩
  ·have q:(g:Int)*(qk R.length fun l=>at2 R l j*((((wts Ls ss n R.length).map fun x=>x/(g:Int))[l]?).getD 0))=qP Ls ss R.length j:=by
    rw [<- e1 j hj,<- qr];exact qh fun l hl=>by rw [<- at' l hl];grind
   have c:=hc j hj;rcases Qbm 0 (qk R.length fun l=>at2 R l j*((((wts Ls ss n R.length).map fun x=>x/(g:Int))[l]?).getD 0)) with y|y
   ·have:=Yl gi y;omega
   ·exact y
  ·have q:(g:Int)*(qk R.length fun l=>(b[l]?).getD 0*((((wts Ls ss n R.length).map fun x=>x/(g:Int))[l]?).getD 0))=qP Ls ss R.length (n+R.length):=by
    rw [<- e2,<- qr];exact qh fun l hl=>by rw [<- at' l hl];grind
   rw [<- q] at h0;rw [Zu] at h0;exact Int.pos_of_mul_pos_left h0 gi
def Rn.gbits {n:Nat}{R:List (List Int)}{b:List Int}{T:Nat}{d:Int}{Ls:List (List Int)}{ss:List Int} (h:Rn n R b T d Ls ss) (p:SvPre n R b) (h0:0<qP Ls ss R.length (n+R.length)):intBits (qR 0 (wts Ls ss n R.length):Int)<=9000:=by
 have g:=h.good;obtain ⟨a1,_⟩:=g.abs (M:=20000000) (fun j x hx=>zacq p.z p.zb j x hx) (by decide);have hm:=p.i.hm;have e2:(qk R.length fun l=>(b[l]?).getD 0*qP Ls ss R.length (n+l))=qP Ls ss R.length (n+R.length):=(g.none' p.i.w).2;rw [<- e2] at h0;obtain ⟨l,hl,q⟩:=qio h0;have nz:qP Ls ss R.length (n+l)≠0:=fun z=>by rw [z,Y2] at q;omega
 have dv:=qef (wts Ls ss n R.length) 0 (qP Ls ss R.length (n+l)) (Qk.mpr ⟨l,Zh.mpr hl,rfl⟩);have le:qR 0 (wts Ls ss n R.length)<=(qP Ls ss R.length (n+l)).natAbs:=Qau (by omega) (Qij.mp dv);have ab:(qP Ls ss R.length (n+l)).natAbs<=R.length*2^700:=qrd fun k hk=>by
  by_cases q:(ss[k]?).getD 0<0
  ·rw [if_pos q];exact Y8 (qux hm (a1 k hk (n+l)))
  ·rw [if_neg q];exact Yc _
 refine qA (intBits_le_iff (m:=710).mpr ?_) (by decide);have:R.length*2^700<=24*2^700:=Qde _ hm;have t:24*2^700<2^710:=by decide +kernel
 rw [Int.natAbs_natCast];omega
def qus {n d:Nat}{v:Int} (h:0<=v):HT.sIx n d (some v)=min v.toNat n:=by
 show (if v<0 then _ else _)=_;rw [if_neg (by omega)]
def zaqk {α:Type} (l:List α) {j:Int} (h:0<=j):qxd l none (some j)=l.take j.toNat:=by
 unfold qxd;rw [qus h,HT.sIx_none,List.drop_zero,Nat.sub_zero];by_cases h1:j.toNat<=l.length
 ·rw [Ja h1]
 ·rw [Qda (by omega),Zx (Qr _),Zx (by omega)]
def zaln {α:Type} (l:List α) {i j:Int} (h:0<=i) (h2:i<=j):qxd l (some i) (some j)=(l.drop i.toNat).take (j-i).toNat:=by
 unfold qxd;rw [qus h,qus (by omega)];by_cases h1:i.toNat<=l.length
 ·rw [Ja h1];by_cases h3:j.toNat<=l.length
  ·rw [Ja h3];congr 1;omega
  ·rw [Qda (by omega),Zx (by simp),Zx (by simp;omega)]
 ·rw [Qda (by omega),Qda (by omega),Qfz (Qr _),Qfz (by omega)];simp
def qtv (ds:List Qh) (q:Qh->Prop):Prop := ∃ (n:Nat) (R:List (List Int)) (b:List Int),ds=[qat R,.list (b.map .int)]/\SvPre n R b/\(∀ vs,FitV n R b vs->q (.tuple [.str "fits",.list (vs.map fun x=>dSh x.1 x.2)])) /\ ∀ ws,zajx n R b ws->q (.tuple [.str "none",.list (ws.map .int)])
def BAt.go {K:Qd}{C:Addr}{H F H' F':Hp}{a dx qa:Addr}{n:Nat}{d:Int}{Ls:List (List Int)}{ss:List Int}{vl:V} (h:BAt K C H F a dx qa n d Ls ss vl) (g:Go F H F' H'):BAt K C H' F' a dx qa n d Ls ss vl :=
 ⟨g.h _ _ h.ha,h.hl.mono g.f,g.h _ _ h.hq,qmc g h.ha h.fa,qmc g h.hq h.fq⟩
def lkD (n m:Nat) (Ls:List (List Int)) (ss:List Int):Qh :=.list (((Q1 (n+m+1)).map (qP Ls ss m)).map .int)
def zabb {K:Qd}{C:Addr}{H F:Hp}{a dx qa:Addr}{n m:Nat}{d:Int}{Ls:List (List Int)}{ss:List Int}{vl:V} (hA:BAt K C H F a dx qa n d Ls ss vl) (sm:Same F H) (hB:Bd m (n+m+1) Ls ss) (hn:n<=20) (hm:m<=24) {Q:VK}{E:XK}
 (k : ∀ F' H' vk,Go F H F' H'->Is K F' (lkD n m Ls ss) vk->Q vk H'):OFSp K C qum [.ref a] H Q E:=by
  refine ⟨a,dx,_,[],upd F qa (.lst (ss.map V.int)),bNm,bFs n d Ls ss,[],fun l=>l=((Q1 (n+m+1)).map (qP Ls ss m)).map .int,rfl,hA.ha,qlp sm hA.hq,hA.flds,qQ,⟨n,d,Ls,ss,m,rfl,rfl,rfl,⟨hB,hn,hm⟩,rfl⟩,fun l lb xs F' H' g hb1 hb2 hb3 hi q=>?_⟩;subst q;have ex:=hi.ints_inv;subst ex;exact k _ H' (.ref lb) (zaol (zajb hA.fq hA.hq g) hb1 hb3) (qcv (SqL.of ql) (qfp _))
def zabx : ∀ vs:List (Int×Int),qjv (vs.map fun x=>dSh x.1 x.2)=true
 | []=>rfl
 | x::r=>by
  rw [Q2];unfold qjv;rw [zabx r];simp [dSh,qsh,qjv]
def zalx {K:Qd}{C:Addr}{H F:Hp}{a dx qa:Addr}{n m w:Nat}{d:Int}{Ls:List (List Int)}{ss:List Int}{vl:V} (hA:BAt K C H F a dx qa n d Ls ss vl) (sm:Same F H) (hB:Bd m w Ls ss/\0<d/\intBits d<=2000/\1<=w/\n<=900 /\ ∀ x ∈ ss,x<(n:Int)) {Q:VK}{E:XK}
 (k : ∀ (vs:List (Int×Int)) lb xs F' H',Go F H F' H'->vs.length=n->(∀ u x,vs[u]?=some x->qsc d Ls ss m w m u x)->H lb=none->H' lb=some (.lst xs)->Iss K F' (vs.map fun x=>dSh x.1 x.2) xs->Q (.ref lb) H'):OFSp K C quf [.ref a] H Q E:=by
  refine ⟨a,dx,_,[],upd F qa (.lst (ss.map V.int)),bNm,bFs n d Ls ss,[],fun l => ∃ vs:List (Int×Int),l=(vs.map fun x=>dSh x.1 x.2)/\vs.length=n /\ ∀ u x,vs[u]?=some x->qsc d Ls ss m w m u x,rfl,hA.ha,qlp sm hA.hq,hA.flds,qQ,⟨n,d,Ls,ss,m,w,rfl,rfl,rfl,hB,fun vs h1 h2=>⟨vs,rfl,h1,h2⟩⟩,fun l lb xs F' H' g hb1 hb2 hb3 hi q=>?_⟩;obtain ⟨vs,rfl,h1,h2⟩:=q;exact k vs lb xs _ H' (zajb hA.fq hA.hq g) h1 h2 hb1 hb3 (Iss.off (g.f _ _ ql) (zabx vs) hi)
def zahl {α:Type} (l:List α) {i:Nat} (h:i+1<=l.length):qxd l (some (i:Int)) (some (-1))=(l.drop i).take (l.length-1-i):=by
 have e:HT.sIx l.length l.length (some (-1))=l.length-1:=by
  show (if (-1:Int)<0 then ((-1:Int)+(l.length:Int)).toNat else min (-1:Int).toNat l.length)=l.length-1;rw [if_pos (by decide)];omega
 unfold qxd;rw [HT.sIx_nat,e,Ja (by omega)]
def zamt {n m:Nat}{Ls:List (List Int)}{ss:List Int}:qxd (((Q1 (n+m+1)).map (qP Ls ss m)).map Q3) none (some (n:Int))=((Q1 n).map (qP Ls ss m)).map .int:=by
 rw [zaqk _ (by omega),<- Qbz,<- Qbz,List.take_range,Yd,Ja (by omega)]
def zaqx {n m:Nat}{Ls:List (List Int)}{ss:List Int}:qxd (((Q1 (n+m+1)).map (qP Ls ss m)).map Q3) (some (n:Int)) (some (-1))=(wts Ls ss n m).map .int:=by
 rw [zahl _ (by simp)];refine Zl fun k=>?_;by_cases hk:k<m
 ·rw [Qbk (by simp;omega),Qik,Qa,Qa,Qn (by omega)];unfold wts;rw [Qa,Qa,Qn hk];rfl
 ·rw [Qo (by simp;omega),Qo (by simp [wts];omega)]
def qrf {C:Addr}{m:Str}{sp:Sp}{σ:St}{H:Hp}{Q:VK}{i:Nat}{a dx:Addr}{fs:List (Str×V)} (e:σ[i]?=some (some (.ref a))) (h:H a=some (.ins C dx fs)) (l:fs.lookup m=none) (k:sp [.ref a] H Q E0):zaeu C m sp [] E0 (qvj i) tNil σ H Q:=⟨_,e,a,dx,fs,rfl,h,l,k⟩
def len6 {α:Type}{l:List α} (h:l.length=6) : ∃ a0 a1 a2 a3 a4 a5,l=[a0,a1,a2,a3,a4,a5]:=by
 match l,h with
 | [a0,a1,a2,a3,a4,a5],_=>exact ⟨a0,a1,a2,a3,a4,a5,rfl⟩
def SvW (K:Qd) (C:Addr) (F H:Hp) (n:Nat) (R:List (List Int)) (b:List Int) (mm:Nat) (σ:St) (H1:Hp):Prop := ∃ T d Ls ss F1 a dx qa vl vr vb vk o5,
 mm+T=(n+R.length)^R.length/\σ=[some vr,some vb,some (.int n),some (.ref a),some vk,o5]/\Go F H F1 H1/\BAt K C H1 F1 a dx qa n d Ls ss vl/\H a=none/\H qa=none /\
 Is K F1 (qat R) vr/\Is K F1 (.list (b.map .int)) vb/\Is K F1 (lkD n R.length Ls ss) vk/\Rn n R b T d Ls ss
def qfa:FnScope [Si,SE,Sk,"board","lack",Sd] [Si,SE] (defScope qlm):=sc0
def zacz (F:Def K mg "solved" qlm [Si,SE]) (T:Txt K mg cs)
 (O_first_above:Ok P w K mg base Uc 1 [Uh] (PSp K qib))
 (O_lowest:Ok P w K mg base "lowest" 2 [Uz] (FSp K qsv))
 (O_Board___init__:OkM P w K mg base cs.Board Uk 2 [Sj,Sk,Si,SE] (zait K cs.Board))
 (O_Board_lack:OkM P w K mg base cs.Board "lack" 1 [Sj] (OFSp K cs.Board qum))
 (O_Board_bring_in:OkM P w K mg base cs.Board Um 3 [Sj,Sd] (zabl K cs.Board))
 (O_Board_told:OkM P w K mg base cs.Board "told" 4 [Sj] (OFSp K cs.Board quf))
 : Ok P w K mg base "solved" 5 [Si,SE] (SolSp K qtv):=by
  refine F.ok qfa (by rintro vs H Q E ⟨F,ds,q,_,i,⟨_,_,_,h,_⟩,_⟩;rw [i.len,h];rfl) fun f cdv A outer s H vs Q E hr h=>?_;obtain ⟨F0,ds,q,sm,hi,⟨n,R,b,rfl,hp,k1,k2⟩,kk⟩:=h;obtain ⟨f1,fd1,F1,hm1,hb1⟩:=O_Board_lack.ex;obtain ⟨f2,fd2,F2,hm2,hb2⟩:=O_Board_bring_in.ex;obtain ⟨f3,fd3,F3,hm3,hb3⟩:=O_Board_told.ex;obtain ⟨f4,fd4,F4,hm4,hb4⟩:=O_Board___init__.ex;refine ⟨_,qF (VS.ps (qt (i:=2) qfa.nd (qej (zaqn (qc 0)) (qx qcf T.len_ L2.boot_len (qd (qv (qc 0) qf) qe)) qf))) (qF (VS.ps (qcm (VW.pt (qqg (qK quk (qc 2) (qqy T.MOST_UNKNOWNS_)) (qlg (qK quk (qx qcf T.len_ L2.boot_len (qd (qc 0) qe)) (qqy T.MOST_ROWS_))))) qgl qW)) (qF (qdx (i:=3) qfa.nd rfl (by first|exact Yy rfl|exact Z6 rfl) (zaki ⟨T.Board_mk,hm4.at_,hm4.fn,T.Board_kp⟩ F4 hr.m rfl T.Board_ hb4 .nil qpe (qz (pv 2) (qz (pv 0) (qz (pv 1) qal)))) rfl (by first|exact .inl rfl|exact .inr rfl))
   (qF (qdx (i:=4) qfa.nd rfl (by first|exact Yy rfl|exact Z6 rfl) (qrc (pv 3) T.Board_c hm1 F1 hr.m hb1 .nil qpe) rfl (by first|exact .inl rfl|exact .inr rfl))
   (qF (qxc Qdp (VT.pt (qK quk (qv (qc 4) (qli qf)) qf)) (qF (VS.ps (qt (i:=5) qfa.nd (qB O_first_above hr.m (qd (qV (qqr (qc 4) zake (qmi (qc 2)))) qe)))) (qF (zajs (VT.pt (qK zaok (qc 5) qvu)) (qeh (qji (zaas (qz zaaq (qz (VF.pe (qkf O_lowest hr.m (qd (qV (qqr (qc 4) (qmi (qc 2)) (qmi (qli qf)))) qe))) qal))))) qvo) (qF (qhq (qut (pv 3) T.Board_c hm2 F2 hr.m hb2 .nil qpe (qz (pv 5) qal))) (qeh (qdx (i:=4) qfa.nd rfl (by first|exact Yy rfl|exact Z6 rfl) (qrc (pv 3) T.Board_c hm1 F1 hr.m hb1 .nil qpe) rfl (by first|exact .inl rfl|exact .inr rfl)))))))
   (qeh (qji (zaas (qz zaaq (qz (qrc (pv 3) T.Board_c hm3 F3 hr.m hb3 .nil qpe) qal))))))))),?_⟩
  have hn20:=hp.i.hn;have hm24:=hp.i.hm;refine ⟨⟨H,H,F0⟩,_,F0,{ nx:=fun e=>e=[.val (qat R),.val (.list (b.map .int)),.val (.int n),.non,.non,.non],rt:=fun _ _=>False },qfd sm hi,?_,⟨fun e1 F1 H1 σ1 I1 s1 q1=>?_,fun _ _ _ _ _ _ _ _ _ q=>q.elim,fun _ _ _ _ _ _ q=>q.elim,fun _ _ _ _ _ _ q=>q.elim⟩⟩
  ·have hR0:R≠[]:=fun z=>by have:=hp.m1;rw [z] at this;simp at this
   obtain ⟨r0,R0,eR⟩:=Qt hR0;have l0:r0.length=n:=hp.i.w r0 (by rw [eR];simp);have aR:atI (R.map qag) 0=some (qag r0):=by rw [eR];exact qbq _ _
   have eT:truD (qat R)=true:=by rw [eR];rfl
   refine ⟨fun x z=>(by cases z),?_⟩;show if truD (qat R)=true then _ else _
   rw [if_pos eT];refine ⟨qag r0,aR,?_⟩;show (_:Sto)=_;rw [show ((r0.map Q3).length:Int)=n by rw [Qf,l0]];rfl
  have q1:e1=_:=q1;subst q1;refine ⟨⟨H,H,F0⟩,_,F1,{ nx:=fun e=>e=[.val (qat R),.val (.list (b.map .int)),.val (.int n),.non,.non,.non],rt:=fun _ _=>False },I1,?_,⟨fun e2 F2 H2 σ2 I2 s2 q2=>?_,fun _ _ _ _ _ _ _ _ _ q=>q.elim,fun _ _ _ _ _ _ q=>q.elim,fun _ _ _ _ _ _ q=>q.elim⟩⟩
  ·refine qkj (fun z=>by exfalso;omega) (fun _=>?_);refine qkj (fun z=>by exfalso;rw [Qf] at z;omega) (fun _=>?_);rfl
  have q2:e2=_:=q2;subst q2;have g2:=I2.goOf;obtain ⟨x0,x1,x2,x3,x4,x5,eσ⟩:=len6 I2.len.symm;obtain ⟨vr,e0,ir⟩:=(show ∃ v,x0=some v/\Is K F2 (qat R) v by have:=I2.slot 0;rw [eσ] at this;exact this)
  obtain ⟨vb,e1,ib⟩:=(show ∃ v,x1=some v/\Is K F2 (.list (b.map .int)) v by have:=I2.slot 1;rw [eσ] at this;exact this)
  obtain ⟨v2,e2,i2⟩:=(show ∃ v,x2=some v/\Is K F2 (.int n) v by have:=I2.slot 2;rw [eσ] at this;exact this)
  rw [i2.int_inv] at e2;rw [e0,e1,e2] at eσ;subst eσ;refine ⟨.int n,rfl,vr,rfl,vb,rfl,fun x dx hx hdx hne=>?_⟩;have h2x:upd H2 dx (.own x) x=none:=by rw [qi (Z0 hne)];exact hx
  have gm:Go F0 H F2 (upd (upd H2 dx (.own x)) x (.ins cs.Board dx [])):=g2.trans ((Go.side g2.fh hdx).trans (Go.side (g2.fh.trans (qcb hdx)) h2x));refine ⟨x,dx,F2,vr,vb,n,R,b,rfl,ql,qu g2.fh hx,gm.fh,ir,ib,hp.i,fun F3 H3 vl qa hqa gx hA=>⟨rfl,?_⟩⟩;have na:H x=none:=qu g2.h hx;have nq:H qa=none:=qu gm.h hqa;have g3:=GoX.go gm gx na nq;have rn0:=Rn.first hp;refine qrf rfl hA.ha rfl (zabb hA g3.fh (rn0.bd hp).1 hn20 hm24 fun F4 H4 vk g4 ik=>?_);refine ⟨SvW K cs.Board F0 H n R b,⟨(n+R.length)^R.length,0,_,_,_,F4,x,dx,qa,vl,vr,vb,vk,_,rfl,rfl,g3.trans g4,hA.go g4,na,nq,(ir.mono gx.f).mono g4.f,(ib.mono gx.f).mono g4.f,ik,rn0⟩,?_⟩;clear rn0 ik g4 hA gx g3 nq na hqa gm h2x hne hdx hx ir ib g2 I2 s2 I1 s1;rintro mm σ H1 ⟨T',d,Ls,ss,F1,a,dx,qa,vl,vr,vb,vk,o5,hT,rfl,g,hA,na,nq,ir,ib,ik,rn⟩;obtain ⟨hB,d0,d1⟩:=rn.bd hp;have hE:EnvOk K ⟨H1,H1,F1⟩ F1 H1 [.val (qat R),.val (.list (b.map .int)),.val (.int n),.obj a cs.Board bNm [],.val (lkD n R.length Ls ss),.non] [some vr,some vb,some (.int n),some (.ref a),some vk,o5] :=
   qhw g.fh ⟨_,_,rfl,⟨⟨vr,rfl,ir⟩,rfl⟩,_,_,rfl,⟨⟨vb,rfl,ib⟩,rfl⟩,_,_,rfl,⟨⟨_,rfl,qJ _⟩,rfl⟩,_,_,rfl,⟨⟨dx,_,rfl,hA.ha,rfl,fun f d z=>by cases z⟩,rfl⟩,_,_,rfl,⟨⟨vk,rfl,ik⟩,rfl⟩,_,_,rfl,⟨trivial,rfl⟩,rfl⟩
  refine ⟨⟨H1,H1,F1⟩,_,F1,fun bb e=>bb=decide (0<qP Ls ss R.length (n+R.length))/\e=[.val (qat R),.val (.list (b.map .int)),.val (.int n),.obj a cs.Board bNm [],.val (lkD n R.length Ls ss),.non],hE,?_,fun bb F2 H2 e2 I2 s2 q2=>?_⟩
  ·refine ⟨.int (qP Ls ss R.length (n+R.length)),atI_last ?_,?_⟩
   ·rw [Qf,Qf,Yz,Nat.add_sub_cancel,Qa,Qa,Qn (by omega)];rfl
   ·exact ⟨rfl,rfl⟩
  obtain ⟨rfl,rfl⟩:=q2;by_cases h0:0<qP Ls ss R.length (n+R.length)
  ·rw [decide_eq_true h0,if_pos rfl];refine ⟨fun σ' H' => ∃ m',m'<mm/\SvW K cs.Board F0 H n R b m' σ' H',fun σ' H' z=>z,?_⟩;refine ⟨⟨H1,H1,F1⟩,_,F2,{ nx:=fun e => ∃ dd,((dd = .none /\ ∀ j,j<n->qP Ls ss R.length j<=0) \/ ∃ c:Nat,dd = .int c/\c<n/\0<qP Ls ss R.length c /\ ∀ j,j<c->qP Ls ss R.length j<=0)/\e=[.val (qat R),.val (.list (b.map .int)),.val (.int n),.obj a cs.Board bNm [],.val (lkD n R.length Ls ss),.val dd],rt:=fun _ _=>False },I2,?_,⟨fun e3 F3 H3 σ3 I3 s3 q3=>?_,fun _ _ _ _ _ _ _ _ _ q=>q.elim,fun _ _ _ _ _ _ q=>q.elim,fun _ _ _ _ _ _ q=>q.elim⟩⟩
   ·rintro r rfl;rw [zamt];refine ⟨(Q1 n).map (qP Ls ss R.length),rfl,fun z=>⟨.none,.inl ⟨rfl,fun j hj=>z _ (Qk.mpr ⟨j,Zh.mpr hj,rfl⟩)⟩,rfl⟩,fun c x z x0 zj=>?_⟩;have hc:c<n:=by
     have:=(Qm.mp z).1;simpa using this
    rw [Qa,Qn hc] at z;have z:=Qp z;refine ⟨.int c,.inr ⟨c,rfl,hc,by rw [z];exact x0,fun j hj=>zj j _ hj ?_⟩,rfl⟩;rw [Qa,Qn (by omega)];rfl
   obtain ⟨dd,hdd,rfl⟩:=q3;refine ⟨⟨H1,H1,F1⟩,_,F3,fun bb e=>bb=qvi dd/\e=[.val (qat R),.val (.list (b.map .int)),.val (.int n),.obj a cs.Board bNm [],.val (lkD n R.length Ls ss),.val dd],I3,?_,fun bb F4 H4 e4 I4 s4 q4=>?_⟩
   ·exact ⟨rfl,rfl,rfl⟩
   obtain ⟨rfl,rfl⟩:=q4;rcases hdd with ⟨rfl,hc⟩|⟨c,rfl,c1,c2,c3⟩
   ·show if true=true then _ else _
    rw [if_pos rfl];obtain ⟨gp,hW⟩:=rn.none hp h0 hc;refine ⟨⟨H1,H1,F1⟩,_,F4,fun ds e=>ds=((wts Ls ss n R.length).map fun x=>x/(qR 0 (wts Ls ss n R.length):Int)).map .int,I4,?_,fun la xs ds F5 H5 e5 I5 s5 h1 h2 h3 h4 h5 h6 h7=>⟨szl,fun p hpp=>?_⟩⟩
    ·rintro r rfl;rw [zaqx];exact ⟨wts Ls ss n R.length,rfl,⟨by simp [wts];omega,gp,rn.gbits hp h0⟩,rfl⟩
    subst h7;obtain ⟨F6,g6,i6,p1,p2⟩:=zacd (w := "none") (g.trans I5.goOf) (qu g.h h4) h1 h6 hpp;exact kk _ _ p la xs F6 _ g6 i6 p1 (qu g.h h4) p2 (by rw [h6.len];simp [wts];omega) (k2 _ hW)
   ·show if false=true then _ else _
    rw [if_neg (by decide)];have g4:=I4.goOf;have A4:=hA.go g4;obtain ⟨x0,x1,x2,x3,x4,x5,eσ⟩:=len6 I4.len.symm;obtain ⟨vr',e0,ir'⟩:=(show ∃ v,x0=some v/\Is K F4 (qat R) v by have:=I4.slot 0;rw [eσ] at this;exact this)
    obtain ⟨vb',e1,ib'⟩:=(show ∃ v,x1=some v/\Is K F4 (.list (b.map .int)) v by have:=I4.slot 1;rw [eσ] at this;exact this)
    obtain ⟨v2,e2,i2⟩:=(show ∃ v,x2=some v/\Is K F4 (.int n) v by have:=I4.slot 2;rw [eσ] at this;exact this)
    have e3:x3=some (.ref a):=by
     have:=I4.slot 3;rw [eσ] at this;obtain ⟨_,_,z,_⟩:=this;exact z
    obtain ⟨v5,e5,i5⟩:=(show ∃ v,x5=some v/\Is K F4 (.int c) v by have:=I4.slot 5;rw [eσ] at this;exact this)
    obtain ⟨vk',e4,_⟩:=(show ∃ v,x4=some v/\Is K F4 (lkD n R.length Ls ss) v by have:=I4.slot 4;rw [eσ] at this;exact this)
    rw [i2.int_inv] at e2;rw [i5.int_inv] at e5;rw [e0,e1,e2,e3,e4,e5] at eσ;subst eσ;refine ⟨.ref a,rfl,a,dx,_,rfl,A4.ha,rfl,.int c,rfl,a,dx,qa,F4,vl,n,d,Ls,ss,R.length,c,rfl,A4,I4.fh,⟨hB,c1,hm24,hn20,d0,d1,zagq (b:=qgr Ls ss d) c2⟩,fun F5 H5 vl' r hr' ht gx A5=>?_⟩;have rn':=rn.next c1 c2 c3 hr' ht;have gg:=GoX.go (g.trans g4) gx na nq;have hS:=rn'.short;refine qrf rfl A5.ha rfl (zabb A5 gx.fh (rn'.bd hp).1 hn20 hm24 fun F6 H6 vk6 g6 ik6=>?_);exact ⟨(n+R.length)^R.length-(T'+1),by omega,T'+1,_,_,_,F6,a,dx,qa,vl',vr',vb',vk6,_,by omega,rfl,gg.trans g6,A5.go g6,na,nq,(ir'.mono gx.f).mono g6.f,(ib'.mono gx.f).mono g6.f,ik6,rn'⟩
  ·rw [decide_eq_false h0,if_neg (by decide)];have g2:=I2.goOf;have A2:=hA.go g2;refine qrf rfl A2.ha rfl (zalx A2 I2.fh ⟨hB,d0,d1,by omega,by omega,rn.top⟩ fun vs lb xs F3 H3 g3 hv1 hv2 hlb hH3 iss=>⟨szl,fun p hpp=>?_⟩);have nl:H lb=none:=qu (g.trans g2).h hlb;obtain ⟨F6,g6,i6,p1,p2⟩:=zacd (w := "fits") ((g.trans g2).trans g3) nl hH3 iss hpp;exact kk _ _ p lb xs F6 _ g6 i6 p1 nl p2 (by rw [iss.len,Qf];omega) (k1 vs (rn.fit hp h0 hv1 hv2))
def qex (ds:List Qh) (q:Qh->Prop):Prop := ∃ b r R,ds=[qaa b (r::R)]/\r.length<=4/\q .none
def qkb:FnScope [Sg] [Sg] (defScope qbm):=sc0
def qka (F:Def K mg SR qbm [Sg]) (T:Txt K mg cs)
 (O_signs:Ok P w K mg base SL 1 [Sg] (PSp K qcq))
 : Ok P w K mg base SR 2 [Sg] (PSp K qex):=by
  refine F.vok qkb (by rintro ds q ⟨_,_,_,h,_⟩;rw [h];rfl) fun f cdv A outer s H E hr ds q h=>?_;obtain ⟨b,r,R,rfl,hl,h⟩:=h;refine ⟨_,(qj (qcm (qK quk (qB O_signs hr.m (qd (qc 0) qe)) (qqy T.MOST_COMPARED_)) qgl qW)),?_⟩;exact ⟨b,r,R,rfl,qkj (fun z=>by omega) (fun _=>h)⟩
def qpn (ds:List Qh) (q:List Qh->Prop):Prop := ∃ (r:List Int) (j n:Nat),ds=[qei r,.int j,.int n]/\(r.length<=12/\1<=n/\n<=12)/\q ((qck r j n).map .int)
def qzi:FnScope [Sh,"new",Sm] [Sh,"new",Sm] (defScope qjd):=sc0
def qzw (F:Def K mg "seen_as" qjd [Sh,"new",Sm]) (T:Txt K mg cs)
 : Ok P w K mg base "seen_as" 1 [Sh,"new",Sm] (FSp K qpn):=by
  refine F.vokF qzi (by rintro ds q ⟨_,_,_,h,_⟩;rw [h];rfl) fun f cdv A outer s H E hr ds q h=>?_;obtain ⟨r,j,n,rfl,⟨hl,n1,n2⟩,h⟩:=h;refine ⟨_,(qj (qfl (qN (caps:=[Sh,"new",Sm]) (own:=[Sd]) (ix:=[0,1,2]) rfl ⟨rfl,rfl,rfl,rfl,rfl,rfl⟩ (qS T.range_ (qy qbk (qx qcf T.len_ L2.boot_len (qd (qc 0) qe)) (qc 2))) (fun _ _ _ _=>(qp (i:=3) (show Ze ([Sh,"new",Sm,Sd]:List Str) by decide))) (fun _ _ _ _=>(qej (qK (qmf hr.units) (qy qiu (qc 3) (qc 2)) (qc 1)) (qv (qc 0) (qy qgu (qc 3) (qc 2))) qf))))),?_⟩;have lr:(((r.map Q3).length:Nat):Int)=r.length:=by rw [Qf]
  have mn:r.length*n<=12*12:=Yx hl n2;have e0:((r.length:Nat):Int)*((n:Nat):Int)=((r.length*n:Nat):Int):=by rw [Qal]
  refine ⟨Js (qbl (by omega) (by omega)),?_⟩;show _/\_;rw [lr,e0];refine ⟨⟨by omega,by omega⟩,qO ((qck r j n).map .int) (by rw [qE,Yd];simp [qck]) (qo (by simp [qck];omega)) (fun e => ∃ s,e=[.val (qei r),.val (.int j),.val (.int n),s]) ⟨_,rfl⟩ ?_ ⟨_,rfl,h⟩⟩;rintro i x ys e hx hys ⟨s,rfl⟩;obtain ⟨hi,rfl⟩:=qam hx;rw [Vk];have hi':i<r.length*n:=by omega
  have e1:((i:Nat):Int)%((n:Nat):Int)=((i%n:Nat):Int):=by rw [Qjp]
  have e2:((i:Nat):Int)/((n:Nat):Int)=((i/n:Nat):Int):=by rw [Qfx]
  have hd:i/n<r.length:=Nat.div_lt_of_lt_mul (by rw [Qbn];exact hi');have g:((qck r j n).map Q3)[i]?=some (.int (if i%n=j then (r[i/n]?).getD 0 else 0)):=by
   unfold qck;rw [Qa,Qa,Qn hi'];rfl
  have er:r[i/n]?=some ((r[i/n]?).getD 0):=by rw [Qc hd];rfl
  refine ⟨by omega,rfl,rfl,qgc (fun z=>?_) (fun z=>?_)⟩
  ·rw [e1] at z;refine ⟨⟨by omega,qA (qbl (by omega) (by omega)) (by decide)⟩,?_⟩;rw [e2];refine ⟨.int ((r[i/n]?).getD 0),qaf (by rw [Qa,er];rfl),qq (g.trans ?_) hys,_,rfl⟩;rw [if_pos (by omega)]
  ·rw [e1] at z;refine ⟨qq (g.trans ?_) hys,_,rfl⟩;rw [if_neg (by omega)]
def qhb (ds:List Qh) (q:List Qh->Prop):Prop := ∃ (b:Int) (r:List Int) (R:List (List Int)) (i n:Nat),ds=[qaa b (r::R),.int i,.int n]/\(r.length<=12/\1<=n/\n<=12)/\q ((qma b i r.length n).map .int)
def qnx:FnScope [Se,"old",Sm] [Se,"old",Sm] (defScope qde):=sc0
def qoa (F:Def K mg S7 qde [Se,"old",Sm]) (T:Txt K mg cs)
 (O_signs:Ok P w K mg base SL 1 [Sg] (PSp K qcq))
 : Ok P w K mg base S7 2 [Se,"old",Sm] (FSp K qhb):=by
  refine F.vokF qnx (by rintro ds q ⟨_,_,_,_,_,h,_⟩;rw [h];rfl) fun f cdv A outer s H E hr ds q h=>?_;obtain ⟨b,r,R,i,n,rfl,⟨hl,n1,n2⟩,h⟩:=h;refine ⟨_,(qj (qfl (qN (caps:=[Se,"old",Sm]) (own:=[Sd]) (ix:=[0,1,2]) rfl ⟨rfl,rfl,rfl,rfl,rfl,rfl⟩ (qS T.range_ (qy qbk (qB O_signs hr.m (qd (qc 0) qe)) (qc 2))) (fun _ _ _ _=>(qp (i:=3) (show Ze ([Se,"old",Sm,Sd]:List Str) by decide))) (fun _ _ _ _=>(qej (qK (qmf hr.units) (qy qgu (qc 3) (qc 2)) (qc 1)) (qv (qc 0) qf) qf))))),?_⟩;have mn:r.length*n<=12*12:=Yx hl n2;have e0:((r.length:Nat):Int)*((n:Nat):Int)=((r.length*n:Nat):Int):=by rw [Qal]
  refine ⟨b,r,R,rfl,Js (qbl (by omega) (by omega)),?_⟩;show _/\_;rw [e0];refine ⟨⟨by omega,by omega⟩,qO ((qma b i r.length n).map .int) (by rw [qE,Yd];simp [qma]) (qo (by simp [qma];omega)) (fun e => ∃ s,e=[.val (qaa b (r::R)),.val (.int i),.val (.int n),s]) ⟨_,rfl⟩ ?_ ⟨_,rfl,h⟩⟩;rintro k x ys e hx hys ⟨s,rfl⟩;obtain ⟨hk,rfl⟩:=qam hx;rw [Vk];have hk':k<r.length*n:=by omega
  have e2:((k:Nat):Int)/((n:Nat):Int)=((k/n:Nat):Int):=by rw [Qfx]
  have g:((qma b i r.length n).map Q3)[k]?=some (.int (if k/n=i then b else 0)):=by
   unfold qma;rw [Qa,Qa,Qn hk'];rfl
  refine ⟨⟨by omega,qA (qbl (by omega) (by omega)) (by decide)⟩,rfl,rfl,qgc (fun z=>?_) (fun z=>?_)⟩
  ·rw [e2] at z;refine ⟨_,rfl,qq (g.trans ?_) hys,_,rfl⟩;rw [if_pos (by omega)]
  ·rw [e2] at z;refine ⟨qq (g.trans ?_) hys,_,rfl⟩;rw [if_neg (by omega)]
def qfn {R:List (List Int)}{i:Nat}{x:Qh}{f:List Int->Qh} (h:(R.map f)[i]?=some x) : ∃ r,R[i]?=some r/\x=f r:=by
 rw [Qa] at h;cases hr:R[i]? with
 | none=>rw [hr] at h;cases h
 | some r=>rw [hr] at h;exact ⟨r,rfl,(Qp h).symm⟩
def qkw (ds:List Qh) (q:List Qh->Prop):Prop := ∃ (b:Int) (R:List (List Int)) (m:Nat) (c:Int) (S:List (List Int)) (n:Nat),ds=[qaa b R,qaa c S]/\CmpPre b R m c S n/\q ((eqL b R m n).map qag)
def qer:FnScope [Se,Sb,Sm,Si,Sh] [Se,Sb] (defScope qft):=sc0
def qtz (F:Def K mg Uu qft [Se,Sb]) (T:Txt K mg cs)
 (O_signs:Ok P w K mg base SL 1 [Sg] (PSp K qcq))
 (O_seen_as:Ok P w K mg base "seen_as" 1 [Sh,"new",Sm] (FSp K qpn))
 (O_shown_in_all:Ok P w K mg base S7 2 [Se,"old",Sm] (FSp K qhb))
 : Ok P w K mg base Uu 3 [Se,Sb] (FSp K qkw):=by
  refine F.vokF qer (by rintro ds q ⟨_,_,_,_,_,_,h,_⟩;rw [h];rfl) fun f cdv A outer s H E hr ds q h=>?_;obtain ⟨b,R,m,c,S,n,rfl,hp,h⟩:=h;refine ⟨_,(qg (qt (i:=2) qer.nd (qB O_signs hr.m (qd (qc 1) qe)))
   (qg (qho (i:=3) qer.nd (qel qe))
   (qg (qby rfl (qY (qv (qc 0) qf)) (qp (i:=4) qer.nd) (qj (qtg 3 (qN (caps:=[Sm,Sh]) (own:=[Sy]) (ix:=[2,4]) rfl ⟨rfl,rfl,rfl,rfl,rfl,rfl⟩ (qS T.range_ (qc 2)) (fun _ _ _ _=>(qp (i:=2) (show Ze ([Sm,Sh,Sy]:List Str) by decide))) (fun _ _ _ _=>(qV (qkf O_seen_as hr.m (qd (qc 1) (qd (qc 2) (qd (qc 0) qe))))))))))
   (qg (qtg 3 (qN (caps:=[Se,Sm]) (own:=[Sy]) (ix:=[0,2]) rfl ⟨rfl,rfl,rfl,rfl,rfl,rfl⟩ (qS T.range_ (qB O_signs hr.m (qd (qc 0) qe))) (fun _ _ _ _=>(qp (i:=2) (show Ze ([Se,Sm,Sy]:List Str) by decide))) (fun _ _ _ _=>(qV (qkf O_shown_in_all hr.m (qd (qc 0) (qd (qc 2) (qd (qc 1) qe))))))))
   (qj (quw 3)))))),?_⟩
  have w1:=hp.w1;have w2:=hp.w2;have m1:=hp.m1;have m2:=hp.m2;have n1:=hp.n1;have n2:=hp.n2;have hl:=hp.l;obtain ⟨r0,R0,eR⟩:=Qt (show R≠[] from fun z=>by rw [z] at w1;simp at w1);obtain ⟨s0,S0,eS⟩:=Qt (show S≠[] from fun z=>by rw [z] at hl;rw [hl] at w1;simp at w1);have l1:r0.length=m:=hp.r.len r0 (by rw [eR];simp);have l2:s0.length=n:=hp.s.len s0 (by rw [eS];simp);have fl : ∀ i,i<=R.length->(((R.take i).map fun r=>(Q1 n).map fun j=>qck r j n).flatten).length=i*n:=fun i hi=>by
   rw [qbf (qcu _ n),Qf,Vz,Ja hi]
  refine ⟨c,s0,S0,by rw [eS],szl,_,rfl,fun i e => ∃ t4,e=[.val (qaa b R),.val (qaa c S),.val (.int n),.own ((((R.take i).map fun r=>(Q1 n).map fun j=>qck r j n).flatten).map qag),t4],⟨_,by rw [l2];rfl⟩,?_,?_⟩
  ·rintro i x e hx ⟨t4,rfl⟩;obtain ⟨r,hr,rfl⟩:=qfn hx;have hi:i<R.length:=(Qm.mp hr).1;have lr:=hp.r.len r (Qg hr);refine ⟨rfl,⟨by omega,by omega⟩,?_⟩;refine ⟨qo (by rw [qE];omega),fun k ys e=>ys=(((Q1 n).map fun j=>qck r j n).map qag).take k /\ ∃ u,e=[.val (.int n),.val (qei r),u],⟨by simp,_,rfl⟩,?_,?_⟩
   ·rintro j y ys e hy ⟨hys,s,rfl⟩;obtain ⟨hj,rfl⟩:=qam hy;rw [Vk];have hj':j<n:=by omega
    refine ⟨r,j,n,rfl,⟨by omega,by omega,by omega⟩,qq ?_ hys,_,rfl⟩;rw [Qa,Qa,Qn hj'];rfl
   ·rintro ys e ⟨hys,u,rfl⟩;rw [qE,Yd,Zx (by simp)] at hys;subst hys;have hf:=fl i (by omega);have hin:i*n<=4*4:=Yx (by omega) n2;refine ⟨rfl,qee ?_,.val (qei r),?_⟩
    ·show (((((R.take i).map fun r=>(Q1 n).map fun j=>qck r j n).flatten).map qag)).length+(((Q1 n).map fun j=>qck r j n).map qag).length<=1000;rw [Qf,Qf,Qf,Yz,hf];omega
    ·rw [Yf,hr];show _=[_,_,_,Sl.own _,_];simp;rfl
  rintro e ⟨t4,rfl⟩;rw [Qf,Zq];have hf:=fl R.length (Qr _);rw [Zq] at hf;have hin:R.length*n<=4*4:=Yx w2 n2;refine ⟨rfl,b,r0,R0,by rw [eR],⟨by omega,by omega⟩,?_⟩;refine ⟨qo (by rw [qE];omega),fun k ys e=>ys=(((Q1 m).map fun i=>qma b i m n).map qag).take k /\ ∃ u,e=[.val (qaa b R),.val (.int n),u],⟨by simp,_,rfl⟩,?_,?_⟩
  ·rintro j y ys e hy ⟨hys,s,rfl⟩;obtain ⟨hj,rfl⟩:=qam hy;rw [Vk];have hj':j<m:=by omega
   refine ⟨b,r0,R0,j,n,by rw [eR],⟨by omega,by omega,by omega⟩,qq ?_ hys,_,rfl⟩;rw [Qa,Qa,Qn hj',l1];rfl
  ·rintro ys e ⟨hys,u,rfl⟩;rw [qE,Yd,l1,Zx (by simp)] at hys;subst hys;refine ⟨rfl,qee ?_,?_⟩
   ·show (((R.map fun r=>(Q1 n).map fun j=>qck r j n).flatten).map qag).length+(((Q1 m).map fun i=>qma b i m n).map qag).length<=1000;rw [Qf,Qf,Qf,Yz,hf];omega
   ·rw [eqL,Zm] at h;exact ⟨_,rfl,h⟩
def qic (ds:List Qh) (q:List Qh->Prop):Prop := ∃ (b:Int) (R:List (List Int)) (m:Nat) (c:Int) (S:List (List Int)) (n:Nat),ds=[qaa b R,qaa c S]/\CmpPre b R m c S n/\q ((qfu S c m).map .int)
def qez:FnScope [Se,Sb,SE,Sh] [Se,Sb] (defScope qdu):=sc0
def qoy (F:Def K mg Ud qdu [Se,Sb]) (T:Txt K mg cs)
 (O_signs:Ok P w K mg base SL 1 [Sg] (PSp K qcq))
 : Ok P w K mg base Ud 2 [Se,Sb] (FSp K qic):=by
  refine F.vokF qez (by rintro ds q ⟨_,_,_,_,_,_,h,_⟩;rw [h];rfl) fun f cdv A outer s H E hr ds q h=>?_;obtain ⟨b,R,m,c,S,n,rfl,hp,h⟩:=h;refine ⟨_,(qg (qho (i:=2) qez.nd (qel qe))
   (qg (qby rfl (qY (qv (qc 1) qf)) (qp (i:=3) qez.nd) (qj (qzq 2 (qc 3))))
   (qkz 2 (qj (qfl (qrw (qc 2) (qV (qN (caps:=[Sb]) (own:=[Sy]) (ix:=[1]) rfl ⟨rfl,rfl,rfl,rfl,rfl,rfl⟩ (qS T.range_ (qB O_signs hr.m (qd (qc 0) qe))) (fun _ _ _ _=>(qp (i:=1) (show Ze ([Sb,Sy]:List Str) by decide))) (fun _ _ _ _=>(qv (qc 0) qf)))))))))),?_⟩
  have w1:=hp.w1;have w2:=hp.w2;have m2:=hp.m2;have n2:=hp.n2;have hl:=hp.l;obtain ⟨r0,R0,eR⟩:=Qt (show R≠[] from fun z=>by rw [z] at w1;simp at w1);have l1:r0.length=m:=hp.r.len r0 (by rw [eR];simp);have fl : ∀ i,i<=S.length->((S.take i).flatten).length=i*n:=fun i hi=>by
   rw [qbf (fun l hl=>hp.s.len l (Qay hl)),Vz,Ja hi]
  refine ⟨szl,_,rfl,fun i e => ∃ t3,e=[.val (qaa b R),.val (qaa c S),.own (((S.take i).flatten).map .int),t3],⟨_,rfl⟩,?_,?_⟩
  ·rintro i x e hx ⟨t3,rfl⟩;obtain ⟨r,hr,rfl⟩:=qfn hx;have hi:i<S.length:=(Qm.mp hr).1;have lr:=hp.s.len r (Qg hr);have hf:=fl i (by omega);have hin:i*n<=4*4:=Yx (by omega) n2;refine ⟨rfl,rfl,qee ?_,.val (qei r),?_⟩
   ·show (((S.take i).flatten).map Q3).length+(r.map Q3).length<=1000;rw [Qf,Qf,hf];omega
   ·rw [Yf,hr];show _=[_,_,Sl.own _,_];simp;rfl
  rintro e ⟨t3,rfl⟩;rw [Qf,Zq];have hf:=fl S.length (Qr _);rw [Zq] at hf;have hin:S.length*n<=4*4:=Yx (by omega) n2;refine ⟨b,r0,R0,by rw [eR],⟨by omega,by omega⟩,?_⟩;show _/\_;refine qO (((Q1 m).map fun _=>c).map .int) (by simp [qE,l1]) (qo (by simp;omega)) (fun e => ∃ s,e=[.val (qaa c S),s]) ⟨_,rfl⟩ ?_ ?_
  ·rintro j y ys e hy hys ⟨s,rfl⟩;obtain ⟨hj,rfl⟩:=qam hy;have hj':j<m:=by omega
   refine ⟨_,rfl,qq ?_ hys,_,rfl⟩;rw [Qa,Qa,Qn hj'];rfl
  ·refine ⟨qee ?_,?_⟩
   ·rw [Qf,Qf,Qf,Yz,hf];omega
   ·rw [qfu,Zm] at h;exact ⟨_,rfl,h⟩
def qna (ds:List Qh) (k:Qh->Prop):Prop := ∃ p q,ds=[dSh p q]/\Shr p q/\k (.bool true)
def qws:FnScope [SM] [SM] (defScope qhi):=sc0
def qwx (F:Def K mg UH qhi [SM]) (T:Txt K mg cs)
 (O_divisor:Ok P w K mg base SU 1 [Se,Sb] (PSp K qcr))
 (O_is_whole:Ok P w K mg base Ui 1 [SM] (PSp K qfw))
 : Ok P w K mg base UH 2 [SM] (PSp K qna):=by
  refine F.vok qws (by rintro ds q ⟨_,_,h,_⟩;rw [h];rfl) fun f cdv A outer s H E hr ds k h=>?_;obtain ⟨p,q,rfl,hp,h⟩:=h;refine ⟨_,(qg (qcm (VW.pt (qqg (qlh (qhy (zaai T.isinstance_ T.tuple_ L2.boot_tuple (qc 0)))) (qlg (qK (o_ne hr.units) (qx qcf T.len_ L2.boot_len (qd (qc 0) qe)) qf)))) (qj (qC qyu)) qW)
   (qg (qcm (VW.pt (qqg (qlh (qhy (qB O_is_whole hr.m (qd (qv (qc 0) qf) qe)))) (qlg (qlh (qhy (qB O_is_whole hr.m (qd (qv (qc 0) qf) qe))))))) (qj (qC qyu)) qW)
   (qj (qC (qok (qfz o_ge (qv (qc 0) qf) qf) (qlj (qfz (qmf hr.units) (qB O_divisor hr.m (qd (qv (qc 0) qf) (qd (qv (qc 0) qf) qe))) qf))))))),?_⟩
  have hq:=hp.pos;refine ⟨rfl,rfl,_,rfl,_,rfl,_,rfl,?_⟩;refine qkj (fun _=>⟨_,rfl,_,rfl,rfl,rfl,?_⟩) (fun z=>(z hq).elim);rw [hp.gcd];exact h
def qgt (ds:List Qh) (k:Qh->Prop):Prop := ∃ p q r s,ds=[dSh p q,dSh r s]/\(Shr p q/\Shr r s)/\k .none
def qnt:FnScope [Se,Sb] [Se,Sb] (defScope qdc):=sc0
def qny (F:Def K mg S8 qdc [Se,Sb]) (T:Txt K mg cs)
 (O_is_share:Ok P w K mg base UH 2 [SM] (PSp K qna))
 : Ok P w K mg base S8 3 [Se,Sb] (PSp K qgt):=by
  refine F.vok qnt (by rintro ds q ⟨_,_,_,_,h,_⟩;rw [h];rfl) fun f cdv A outer s H E hr ds k h=>?_;obtain ⟨p,q,r,s,rfl,⟨hp,hr'⟩,h⟩:=h;refine ⟨_,(qj (qcm (VW.pt (qqg (qlh (qhy (qB O_is_share hr.m (qd (qc 0) qe)))) (qlg (qlh (qhy (qB O_is_share hr.m (qd (qc 1) qe))))))) qgl qW)),?_⟩;exact ⟨p,q,rfl,hp,r,s,rfl,hr',h⟩
def qym (ds:List Qh) (k:Qh->Prop):Prop := ∃ p q r s,ds=[dSh p q,dSh r s]/\(ShW p q/\ShW r s)/\k (dSh (shT (p*r) (q*s)) (shB (p*r) (q*s)))
def zagj:FnScope [Se,Sb] [Se,Sb] (defScope qps):=sc0
def zahz (F:Def K mg "times" qps [Se,Sb]) (T:Txt K mg cs)
 (O_reduced:Ok P w K mg base Uy 2 [SY,Sc] (PSp K qgw))
 (O_check_shares:Ok P w K mg base S8 3 [Se,Sb] (PSp K qgt))
 : Ok P w K mg base "times" 4 [Se,Sb] (PSp K qym):=by
  refine F.vok zagj (by rintro ds q ⟨_,_,_,_,h,_⟩;rw [h];rfl) fun f cdv A outer s H E hr ds k h=>?_;obtain ⟨p,q,r,s,rfl,⟨hp,hr'⟩,h⟩:=h;refine ⟨_,(qg (qqi (qB O_check_shares hr.m (qd (qc 0) (qd (qc 1) qe))))
   (qj (qC (qB O_reduced hr.m (qd (qy qbk (qv (qc 0) qf) (qv (qc 1) qf)) (qd (qy qbk (qv (qc 0) qf) (qv (qc 1) qf)) qe)))))),?_⟩
  exact ⟨p,q,r,s,rfl,⟨hp.s,hr'.s⟩,_,rfl,_,rfl,qqh hp.b1 hr'.b1,_,rfl,_,rfl,qqh hp.b2 hr'.b2,hp.bot hr',h⟩
def qkl (ds:List Qh) (q:Qh->Prop):Prop := ∃ (l:List Qh) (n w:Nat),ds=[.list l,.int n,.int w]/\(n<=100/\w<=100)/\q (.list ((qG l n w).map .tuple))
def zaae:FnScope [UB,UC,Sm] [UB,UC,Sm] (defScope qje):=sc0
def qzn (F:Def K mg UD qje [UB,UC,Sm]) (T:Txt K mg cs)
 : Ok P w K mg base UD 1 [UB,UC,Sm] (PSp K qkl):=by
  refine F.vok zaae (by rintro ds q ⟨_,_,_,h,_⟩;rw [h];rfl) fun f cdv A outer s H E hr ds q h=>?_;obtain ⟨l,n,w,rfl,⟨hn,hw⟩,h⟩:=h;refine ⟨_,(qj (qC (qV (qN (caps:=[UB,UC]) (own:=["k"]) (ix:=[0,1]) rfl ⟨rfl,rfl,rfl,rfl,rfl,rfl⟩ (qS T.range_ (qc 2)) (fun _ _ _ _=>(qp (i:=2) (show Ze ([UB,UC,"k"]:List Str) by decide))) (fun _ _ _ _=>(qbp qfg T.tuple_ L2.boot_tuple (qd (qV (qqr (qc 0) (qmi (qy qbk (qc 2) (qc 1))) (qmi (qy qbk (qy qec (qc 2) qf) (qc 1))))) qe))))))),?_⟩;refine ⟨⟨by omega,by omega⟩,qO ((qG l n w).map .tuple) (by simp [qG,qE]) (qo (by simp [qG];omega)) (fun e => ∃ s,e=[.val (.list l),.val (.int n),s]) ⟨_,rfl⟩ ?_ h⟩;rintro i x ys e hx hys ⟨s,rfl⟩;obtain ⟨hi,rfl⟩:=qam hx;rw [Vk];have hi':i<w:=by omega
  have e1:((i:Nat):Int)*((n:Nat):Int)=((i*n:Nat):Int):=by rw [Qal]
  have e2:(((i:Nat):Int)+1)*((n:Nat):Int)=((i*n+n:Nat):Int):=by rw [Qkk,e1];omega
  refine ⟨Js (qbl (by omega) (by omega)),Js (qbl (by omega) (by omega)),?_⟩;rintro z rfl;refine ⟨qq ?_ hys,_,rfl⟩;rw [Qa,qdm hi',e1,e2,zaln _ (by omega) (by omega)];show some (Qeg _)=some (Qeg _)
  congr 3
  omega
def qjo (ds:List Qh) (q:Qh->Prop):Prop := ∃ (b:Int) (R:List (List Int)) (m:Nat) (c:Int) (S:List (List Int)) (n:Nat) (vs:List (Int×Int)),ds=[qaa b R,qaa c S,.list (vs.map dS)]/\(CmpPre b R m c S n/\FitV (m*n) (eqL b R m n) (qfu S c m) vs) /\ ∀ B D,Dls b R m c S n B D->q (qaa B D)
def qgb:FnScope [Se,Sb,UP,"back","shares"] [Se,Sb,UP] (defScope qem):=sc0
def qru (F:Def K mg Uo qem [Se,Sb,UP]) (T:Txt K mg cs)
 (O_table_of_shares:Ok P w K mg base SD 2 [Si] (PSp K qcp))
 (O_signs:Ok P w K mg base SL 1 [Sg] (PSp K qcq))
 (O_share:Ok P w K mg base UL 3 [SY,Sc] (PSp K qis))
 (O_times:Ok P w K mg base "times" 4 [Se,Sb] (PSp K qym))
 (O_in_rows:Ok P w K mg base UD 1 [UB,UC,Sm] (PSp K qkl))
 : Ok P w K mg base Uo 5 [Se,Sb,UP] (PSp K qjo):=by
  refine F.vok qgb (by rintro ds q ⟨_,_,_,_,_,_,_,h,_⟩;rw [h];rfl) fun f cdv A outer s H E hr ds q h=>?_;obtain ⟨b,R,m,c,S,n,vs,rfl,⟨hp,hv⟩,h⟩:=h;refine ⟨_,(qg (qt (i:=3) qgb.nd (qB O_share hr.m (qd (qv (qc 0) qf) (qd (qv (qc 1) qf) qe))))
   (qg (qug (caps:=["back"]) (own:=["value"]) (ix:=[3]) (i:=4) qgb.nd rfl ⟨rfl,rfl,rfl,rfl,rfl,rfl⟩ (qY (qc 2)) (fun _ _ _ _=>(qp (i:=1) (show Ze (["back","value"]:List Str) by decide))) (fun _ _ _ _=>(qB O_times hr.m (qd (qc 1) (qd (qc 0) qe)))))
   (qj (qC (qB O_table_of_shares hr.m (qd (qB O_in_rows hr.m (qd (qc 4) (qd (qB O_signs hr.m (qd (qc 1) qe)) (qd (qB O_signs hr.m (qd (qc 0) qe)) qe)))) qe)))))),?_⟩
  have w1:=hp.w1;have m1:=hp.m1;have m2:=hp.m2;have n1:=hp.n1;have n2:=hp.n2;have hl:=hp.l;have b1:=hp.r.pos;have c1:=hp.s.pos;have zb:=hp.zb;have zc:=hp.zc;obtain ⟨r0,R0,eR⟩:=Qt (show R≠[] from fun z=>by rw [z] at w1;simp at w1);obtain ⟨s0,S0,eS⟩:=Qt (show S≠[] from fun z=>by rw [z] at hl;rw [hl] at w1;simp at w1);have l1:r0.length=m:=hp.r.len r0 (by rw [eR];simp);have l2:s0.length=n:=hp.s.len s0 (by rw [eS];simp);obtain ⟨vl,d,d0,zd,hx,_⟩:=id hv;have mn:m*n<=4*4:=Yx m2 n2;have bb:intBits b<=64:=qbl (by omega) (by omega);have cb:intBits c<=64:=qbl (by omega) (by omega);have hbk:ShW (shT b c) (shB b c):=zaqd (by omega) (qA bb (by decide)) (qA cb (by decide));have hvw : ∀ x ∈ vs,ShW x.1 x.2:=fun x hm=>by
   obtain ⟨q1,q2,q3,q4⟩:=hx x hm;exact ⟨q1,qA q4 (by decide),qA (dvdB q3 d0 zd) (by decide)⟩
  refine ⟨_,rfl,_,rfl,⟨by omega,qA cb (by decide)⟩,?_⟩;show _/\_;refine qO (ds:=vs.map dS) ((vs.map (qZ b c)).map dS) (by simp) (qo (by rw [Qf,Qf,vl];omega)) (fun e => ∃ s,e=[.val (dSh (shT b c) (shB b c)),s]) ⟨_,rfl⟩ ?_ ?_
  ·rintro i x ys e hx' hys ⟨s,rfl⟩;obtain ⟨y,hy,rfl⟩:=shG hx';refine ⟨y.1,y.2,_,_,rfl,⟨hvw y (Qg hy),hbk⟩,qq ?_ hys,_,rfl⟩;rw [Qa,Qa,hy];rfl
  refine ⟨c,s0,S0,by rw [eS],b,r0,R0,by rw [eR],_,n,m,by rw [l1,l2],⟨by omega,by omega⟩,?_⟩;have dc0:0<d*c:=Yl d0 (by omega);have hrow : ∀ r ∈ qG (vs.map (qZ b c)) n m,∀ y ∈ r,∃ x ∈ vs,y=qZ b c x:=fun r hr y hy=>by
   obtain ⟨k,hk,rfl⟩:=Qk.mp hr;obtain ⟨x,hx,rfl⟩:=Qk.mp (Qdf (Qay hy));exact ⟨x,hx,rfl⟩
  refine ⟨_,qG (vs.map (qZ b c)) n m,d*c,rfl,⟨⟨_,rfl,by simp [qG],fun i x hxi=>?_⟩,by simp [qG];omega,fun r hr=>⟨?_,fun y hy=>?_⟩,dc0,qA (Qes zd cb) (by decide)⟩,fun B hB=>h B _ (zalc hp hv hB)⟩
  ·rw [Qa] at hxi;cases e:(qG ((vs.map (qZ b c)).map dS) n m)[i]? with
   | none=>rw [e] at hxi;cases hxi
   | some z =>
    rw [e] at hxi;have ez:=(Qp hxi).symm;subst ez;have hi:i<m:=by
     have:=(Qm.mp e).1;simpa [qG] using this
    rw [qdm hi] at e;have e':=(Qp e).symm;subst e';refine ⟨_,qdm hi,?_⟩;show some _=some _;rw [Qbz,Qfm]
  ·obtain ⟨k,hk,rfl⟩:=Qk.mp hr;rw [Vz];omega
  ·obtain ⟨x,hxm,rfl⟩:=hrow r hr y hy;obtain ⟨q1,q2,q3,q4⟩:=hx x hxm;obtain ⟨g1,g2,g3⟩:=qqj (show 0<b by omega) (show 0<c by omega) q1;exact ⟨g1,qim (qA (Qes q4 (qim (qA bb (Qr _)))) (by decide)),Vs g3 (Qgl q3 (Qjf _))⟩
def Shp (n:Nat) (d:Qh):Prop:=d.canLay0=true/\d.depth<=n
def quh {n:Nat} : ∀ {l:List Qh},(∀ x ∈ l,Shp n x)->Jo l=true/\Qgn l<=n
 | [],_=>by simp [Jo,Qgn]
 | x::l,h=>by
  obtain ⟨a,b⟩:=quh fun y hy=>h y (Qu _ hy);obtain ⟨c,d⟩:=h x (by simp);rw [Jo,Qgn,a,c];exact ⟨rfl,by omega⟩
def zaco (i:Int) (n:Nat):Shp n (.int i):=by simp [Shp,Qaa,Qgo]
def zakz {n:Nat}{l:List Qh} (h : ∀ x ∈ l,Shp n x):Shp (n+1) (.list l):=by
 obtain ⟨a,b⟩:=quh h;rw [Shp,Qaa,Qgo];exact ⟨a,by omega⟩
def quu {n:Nat}{l:List Qh} (h : ∀ x ∈ l,Shp n x):Shp (n+1) (.tuple l):=by
 obtain ⟨a,b⟩:=quh h;rw [Shp,Qaa,Qgo];exact ⟨a,by omega⟩
def zahk (ns:List Int) (n:Nat) : ∀ x ∈ ns.map Q3,Shp n x:=fun x hx=>by
 obtain ⟨i,_,rfl⟩:=Qk.mp hx;exact zaco i n
def Shp.ok {n:Nat}{d:Qh} (h:Shp n d) (hn:n<=64:=by decide):Jd d=true:=by
 unfold Jd;rw [h.1,decide_eq_true (Zk h.2 hn)];rfl
def Shp.refl {n:Nat}{d:Qh} (h:Shp n d):Y3 d d=true:=SeqAt.eqv_refl d h.1
def zanu (r:List Int):Shp 1 (qei r):=quu (zahk r 0)
def qpl (b:Int) (R:List (List Int)):Shp 3 (qaa b R):=quu fun x hx=>by
 simp only [Q5,Vi,or_false] at hx;rcases hx with rfl|rfl
 ·exact zaco b 2
 ·exact quu fun y hy=>by
   obtain ⟨r,_,rfl⟩:=Qk.mp hy;exact zanu r
def shpS {x:Str} (n:Nat) (h:Qh.strOk x=true):Shp n (.str x):=by simp [Shp,Qaa,Qgo,h]
def qif (ds:List Qh) (q:Qh->Prop):Prop := ∃ (b:Int) (R:List (List Int)) (m:Nat) (c:Int) (S:List (List Int)) (n:Nat),ds=[qaa b R,qaa c S]/\CmpPre b R m c S n/\zamp b R m c S n q
def qmy:FnScope [Se,Sb,"answer"] [Se,Sb] (defScope qgx):=sc0
def qwt (F:Def K mg Up qgx [Se,Sb]) (T:Txt K mg cs)
 (O_signs:Ok P w K mg base SL 1 [Sg] (PSp K qcq))
 (O_stands:Ok P w K mg base UO 1 [Sg] (PSp K qmq))
 (O_check_alike_stands:Ok P w K mg base SH 2 [Se,Sb] (PSp K qdj))
 (O_solved:Ok P w K mg base "solved" 5 [Si,SE] (SolSp K qtv))
 (O_check_few_signs:Ok P w K mg base SR 2 [Sg] (PSp K qex))
 (O_equations:Ok P w K mg base Uu 3 [Se,Sb] (FSp K qkw))
 (O_wanted_sums:Ok P w K mg base Ud 2 [Se,Sb] (FSp K qic))
 (O_in_rows:Ok P w K mg base UD 1 [UB,UC,Sm] (PSp K qkl))
 (O_dulling_by:Ok P w K mg base Uo 5 [Se,Sb,UP] (PSp K qjo))
 : Ok P w K mg base Up 6 [Se,Sb] (PSp K qif):=by
  refine F.vok qmy (by rintro ds q ⟨_,_,_,_,_,_,h,_⟩;rw [h];rfl) fun f cdv A outer s H E hr ds q h=>?_;obtain ⟨b,R,m,c,S,n,rfl,hp,h1,h2⟩:=h;refine ⟨_,(qg (qqi (qB O_check_alike_stands hr.m (qd (qc 0) (qd (qc 1) qe))))
   (qg (qqi (qB O_check_few_signs hr.m (qd (qc 0) qe)))
   (qg (qqi (qB O_check_few_signs hr.m (qd (qc 1) qe)))
   (qg (qt (i:=2) qmy.nd (qB (zasi O_solved) hr.m (qd (qV (qkf O_equations hr.m (qd (qc 0) (qd (qc 1) qe)))) (qd (qV (qkf O_wanted_sums hr.m (qd (qc 0) (qd (qc 1) qe)))) qe))))
   (qg (qcm (qK (qmf hr.units) (qv (qc 2) qf) qle) (qj (qC (qjt (qd qle (qd (qB O_dulling_by hr.m (qd (qc 0) (qd (qc 1) (qd (qv (qc 2) qf) qe)))) qe))))) qW)
   (qj (qC (qjt (qd qle (qd (qbp qfg T.tuple_ L2.boot_tuple (qd (qB O_in_rows hr.m (qd (qv (qc 2) qf) (qd (qB O_signs hr.m (qd (qc 1) qe)) (qd (qB O_stands hr.m (qd (qc 1) qe)) qe)))) qe)) qe)))))))))),?_⟩
  have w1:=hp.w1;have w2:=hp.w2;have m2:=hp.m2;have n2:=hp.n2;have hl:=hp.l;obtain ⟨r0,R0,eR⟩:=Qt (show R≠[] from fun z=>by rw [z] at w1;simp at w1);obtain ⟨s0,S0,eS⟩:=Qt (show S≠[] from fun z=>by rw [z] at hl;rw [hl] at w1;simp at w1);have l1:r0.length=m:=hp.r.len r0 (by rw [eR];simp);have l2:s0.length=n:=hp.s.len s0 (by rw [eS];simp);have shF:=shpS (x := "fits") 0 (by decide +kernel);have shN:=shpS (x := "none") 0 (by decide +kernel);refine ⟨b,R,c,S,rfl,hl,b,r0,R0,by rw [eR],by omega,c,s0,S0,by rw [eS],by omega,b,R,m,c,S,n,rfl,hp,b,R,m,c,S,n,rfl,hp,m*n,eqL b R m n,qfu S c m,rfl,zamo hp,fun vs hv=>?_,fun ws hw=>?_⟩
  ·refine ⟨.str "fits",rfl,shF.ok,shF.ok,iteY shF.refl ⟨_,rfl,b,R,m,c,S,n,vs,rfl,⟨hp,hv⟩,fun B D hD=>⟨szl,h1 B D hD⟩⟩⟩
  ·refine ⟨.str "none",rfl,shN.ok,shF.ok,iteZ (by decide +kernel) ⟨_,rfl,c,s0,S0,by rw [eS],c,S,rfl,_,n,R.length,by rw [l2,hl],⟨by omega,by omega⟩,?_⟩⟩;have e:(qG (ws.map Q3) n R.length).map Qeg=(qG ws n R.length).map qei:=by
    unfold qG qei;rw [Zy,Zy];refine Z9 fun k _=>?_;show Qeg _=Qeg _;rw [Qbz,Qfm]
   show _/\_;rw [e];exact ⟨szl,h2 _ (zagp hp hw)⟩
def qjl (ds:List Qh) (q:Qh->Prop):Prop := ∃ (b:Int) (R:List (List Int)) (m:Nat) (c:Int) (S:List (List Int)) (n:Nat),ds=[qaa b R,qaa c S]/\CmpPre b R m c S n/\((∃ B D,Dls b R m c S n B D)->q (.bool true))/\((∃ W,Dcs b R m c S n W)->q (.bool false))
def qse:FnScope [Se,Sb] [Se,Sb] (defScope qev):=sc0
def qro (F:Def K mg Uq qev [Se,Sb]) (T:Txt K mg cs)
 (O_compared:Ok P w K mg base Up 6 [Se,Sb] (PSp K qif))
 : Ok P w K mg base Uq 7 [Se,Sb] (PSp K qjl):=by
  refine F.vok qse (by rintro ds q ⟨_,_,_,_,_,_,h,_⟩;rw [h];rfl) fun f cdv A outer s H E hr ds q h=>?_;obtain ⟨b,R,m,c,S,n,rfl,hp,h1,h2⟩:=h;refine ⟨_,(qj (qC (qfz (qmf hr.units) (qv (qB O_compared hr.m (qd (qc 0) (qd (qc 1) qe))) qf) qle))),?_⟩;have shD:=shpS (x := SX) 0 (by decide +kernel);have shC:=shpS (x := SG) 0 (by decide +kernel);refine ⟨b,R,m,c,S,n,rfl,hp,fun B D hD=>⟨_,rfl,shD.ok,shD.ok,?_⟩,fun W hW=>⟨_,rfl,shC.ok,shD.ok,?_⟩⟩
  ·have e:Y3 (.str SX) (.str SX)=true:=shD.refl;rw [e];exact h1 ⟨B,D,hD⟩
  ·have e:Y3 (.str SG) (.str SX)=false:=by decide +kernel
   rw [e];exact h2 ⟨W,hW⟩
def qxl (ds:List Qh) (q:Qh->Prop):Prop := ∃ (b:Int) (R:List (List Int)) (m:Nat) (c:Int) (S:List (List Int)) (n:Nat),ds=[qaa b R,qaa c S]/\CmpPre b R m c S n/\((∃ B D,Dls b R m c S n B D)->(∃ B D,Dls c S n b R m B D)->q (.bool true))/\((∃ W,Dcs b R m c S n W)\/(∃ W,Dcs c S n b R m W)->q (.bool false))
def CmpPre.symm {b:Int}{R:List (List Int)}{m:Nat}{c:Int}{S:List (List Int)}{n:Nat} (h:CmpPre b R m c S n):CmpPre c S n b R m :=
 ⟨h.s,h.r,h.l.symm,h.l ▸ h.w1,h.l ▸ h.w2,h.n1,h.n2,h.m1,h.m2,h.zc,h.zb⟩
def zafw:FnScope [Se,Sb] [Se,Sb] (defScope qpv):=sc0
def zahp (F:Def K mg "alike" qpv [Se,Sb]) (T:Txt K mg cs)
 (O_dulls_into:Ok P w K mg base Uq 7 [Se,Sb] (PSp K qjl))
 : Ok P w K mg base "alike" 8 [Se,Sb] (PSp K qxl):=by
  refine F.vok zafw (by rintro ds q ⟨_,_,_,_,_,_,h,_⟩;rw [h];rfl) fun f cdv A outer s H E hr ds q h=>?_;obtain ⟨b,R,m,c,S,n,rfl,hp,h1,h2⟩:=h;refine ⟨_,(qj (qC (qok (qB O_dulls_into hr.m (qd (qc 0) (qd (qc 1) qe))) (qlj (qB O_dulls_into hr.m (qd (qc 1) (qd (qc 0) qe))))))),?_⟩;refine ⟨b,R,m,c,S,n,rfl,hp,fun hD=>iteY rfl ⟨c,S,n,b,R,m,rfl,hp.symm,fun hD'=>h1 hD hD',fun hW=>h2 (.inr hW)⟩,fun hW=>iteZ rfl (h2 (.inl hW))⟩
def penD (h:Int) (ns:List Int) (pos rest cnt:Int):List Qh:=[.int h,.list (ns.map .int),.int pos,.int rest,.int cnt]
def qcd (p:List Qh):Prop := ∃ (h:Int) (ns:List Int) (pos rest cnt:Int),p=penD h ns pos rest cnt/\(h=0\/(h=1/\ns≠[]))/\ns.length<=63/\0<=pos
def qnr (ds:List Qh) (q:List Qh->Prop):Prop := ∃ ns:List Int,ds=[.list (ns.map .int)]/\ns.length<=63 /\ ∀ p,qcd p->q p
def qig:FnScope [Ss,"_law_head"] [Ss] (defScope qgq):=sc0
def qwo (F:Def K mg UI qgq [Ss]) (T:Txt K mg cs)
 : Ok P w K mg base UI 1 [Ss] (FSp K qnr):=by
  refine F.vokF qig (by rintro ds q ⟨_,h,_⟩;rw [h];rfl) fun f cdv A outer s H E hr ds q h=>?_;obtain ⟨ns,rfl,hl,h⟩:=h;refine ⟨_,(qg (qt (i:=1) qig.nd qf)
   (qek (qcm (qK quk (qx qcf T.len_ L2.boot_len (qd (qc 0) qe)) qf) (qj (qt (i:=1) qig.nd (qv (qc 0) qf))) qW)
   (qj (qfl (qel (qd (qy qiu (qc 1) qf) (qd (qc 0) (qd qf (qd (qy qgu (qc 1) qf) (qd qf qe)))))))))),?_⟩
  refine ⟨fun e => ∃ c:Int,e=[.val (.list (ns.map .int)),.val (.int c)]/\(ns=[]->c=0),?_,?_⟩
  ·refine qkj (fun z=>?_) (fun z=>⟨0,rfl,fun _=>rfl⟩);have hn:0<ns.length:=by simpa using z
   obtain ⟨n,en⟩:=qrg (ns:=ns) (i:=0) (by decide) (by omega);refine ⟨_,en,n,rfl,fun z=>?_⟩;rw [z] at hn;simp at hn
  ·rintro e ⟨c,rfl,hc⟩;refine ⟨by decide,⟨by decide,by decide⟩,szl,_,rfl,h _ ⟨c%2,ns,0,c/2,0,rfl,?_,hl,by decide⟩⟩;by_cases hn:ns=[]
   ·left;rw [hc hn];rfl
   ·have:c%2=0\/c%2=1:=by omega
    rcases this with z|z
    ·exact .inl z
    ·exact .inr ⟨z,hn⟩
def qjn (ds0 ds:List Qh) (q:Qh->List Qh->Prop):Prop := ∃ (h:Int) (ns:List Int) (pos rest cnt:Int),ds0=penD h ns pos rest cnt/\ds=[]/\(ns≠[]/\ns.length<=63/\0<=pos) /\ ∀ x:Int,q (.int x) (penD h ns (pos+1) rest cnt)
def qdt:FnScope [Sa,"_law_cell",SW] [Sa] (defScope qeo):=sc0
def qsb (F:Def K mg Ur qeo [Sa]) (T:Txt K mg cs)
 : Ok P w K mg base Ur 1 [Sa] (NSp K qjn):=by
  refine F.vokP qdt (by rintro ds0 ds q ⟨_,_,_,_,_,_,h,_⟩;rw [h];rfl) (by decide) fun f cdv A outer s H E hr ds0 ds q h=>?_;obtain ⟨hh,ns,pos,rest,cnt,rfl,rfl,⟨hn,hl,hp⟩,h⟩:=h;refine ⟨_,(qg (qhx 0 (qy qec (qct 0 qf) qf) qf)
   (qg (qt (i:=1) qdt.nd (qv (qct 0 qf) (qy qiu (qct 0 qf) (qx qcf T.len_ L2.boot_len (qd (qct 0 qf) qe)))))
   (qg (qt (i:=2) qdt.nd (qy qiu (qy qbk (qy qec (qy qec (qy qiu (qc 1) qf) (qy qbk qf (qct 0 qf))) qf) qf) qf))
   (qg (qt (i:=2) qdt.nd (qy qiu (qy qbk (qc 2) (qy qec (qy qec (qy qiu (qc 2) qf) (qct 0 qf)) qf)) qf))
   (qj (qC (qy qgu (qy qiu (qy qbk (qc 2) qf) qf) qf))))))),?_⟩
  have hn0:0<(((ns.map Q3).length:Nat):Int):=by
   have:=Qhv.mpr hn;simp;omega
  have hm0:=Qbw (pos+1) (show (((ns.map Q3).length:Nat):Int)≠0 by omega);have hm1:=Qah (pos+1) hn0;obtain ⟨c,ec⟩:=qrg (ns:=ns) (i:=(pos+1)%(((ns.map Q3).length:Nat):Int)) hm0 (by simpa using hm1);refine ⟨rfl,rfl,_,rfl,rfl,rfl,2,rfl,?_⟩;refine ⟨rfl,rfl,_,rfl,rfl,rfl,_,rfl,rfl,rfl,_,rfl,hn0,_,ec,?_⟩;refine ⟨by decide,rfl,rfl,_,rfl,J7 (by decide),Js (by decide),by decide,?_⟩;have b0:0<=(c%2147483629+40503*(pos+1)+1)*48271%2147483647/\(c%2147483629+40503*(pos+1)+1)*48271%2147483647<2147483647:=⟨Qbw _ (by decide),Qah _ (by decide)⟩
  refine ⟨by decide,rfl,rfl,_,rfl,J7 (qbl (by omega) (by omega)),by decide,?_⟩;exact ⟨Js (by decide),by decide,⟨by decide,by decide⟩,_,_,rfl,rfl,h _⟩
def qaw (ds0 ds:List Qh) (q:Qh->List Qh->Prop):Prop := ∃ m:Int,ds=[.int m]/\qcd ds0/\(0<m/\intBits m<=9000) /\ ∀ (x:Int) (p:List Qh),0<=x->x<m->qcd p->q (.int x) p
def qkv:FnScope [Sa,Sq,SB] [Sa,Sq] (defScope qfv):=sc0
def qtx (F:Def K mg Sz qfv [Sa,Sq]) (T:Txt K mg cs)
 (O__law_mixed:Ok P w K mg base Ur 1 [Sa] (NSp K qjn))
 : Ok P w K mg base Sz 2 [Sa,Sq] (NSp K qaw):=by
  refine F.vokP qkv (by rintro ds0 ds q ⟨_,h,_⟩;rw [h];rfl) (by decide) fun f cdv A outer s H E hr ds0 ds q h=>?_;obtain ⟨m,rfl,⟨hh,ns,pos,rest,cnt,rfl,h01,hl,hp⟩,⟨m0,mz⟩,h⟩:=h;refine ⟨_,(qg (qcm (qK (qmf hr.units) (qct 0 qf) qf) (qj (qC (qy qiu (qay 0 O__law_mixed hr.m qe) (qc 1)))) qW)
   (qek (qcm (qK (qmf hr.units) (qct 0 qf) qf) (qg (qhx 0 (qy qec (qct 0 qf) qf) qf)
   (qg (qhx 0 qf qf)
   (qek (qcm (qK o_lt (qct 0 qf) (qx qcf T.len_ L2.boot_len (qd (qct 0 qf) qe))) (qj (qhx 0 (qv (qct 0 qf) (qct 0 qf)) qf)) qW)
   (qj (qhx 0 qf qf))))) qW)
   (qg (qhx 0 (qy qec (qct 0 qf) qf) qf)
   (qg (qt (i:=2) qkv.nd (qy qiu (qct 0 qf) (qc 1)))
   (qg (qhx 0 (qy qgu (qct 0 qf) (qc 1)) qf)
   (qj (qC (qc 2)))))))),?_⟩
  refine ⟨rfl,rfl,_,rfl,rfl,rfl,qgc (fun z=>?_) (fun z=>?_)⟩
  ·have hn:ns≠[]:=by
    rcases h01 with q|⟨_,q⟩
    ·omega
    ·exact q
   refine ⟨rfl,rfl,hh,ns,pos,rest,cnt,rfl,rfl,⟨hn,hl,hp⟩,fun x=>⟨m0,_,_,rfl,rfl,h _ _ (Qbw _ (by omega)) (Qah _ m0) ⟨hh,ns,pos+1,rest,cnt,rfl,h01,hl,by omega⟩⟩⟩
  ·refine ⟨fun e => ∃ pos rest cnt t,e=[.pen (penD hh ns pos rest cnt),.val (.int m),t]/\0<=pos,?_,?_⟩
   ·refine ⟨rfl,rfl,_,rfl,rfl,rfl,qgc (fun _=>?_) (fun _=>⟨pos,rest,cnt,_,rfl,hp⟩)⟩;refine ⟨rfl,rfl,_,rfl,rfl,rfl,2,rfl,rfl,rfl,3,rfl,?_⟩;refine ⟨fun e => ∃ rest t,e=[.pen (penD hh ns (pos+1) rest cnt),.val (.int m),t],?_,?_⟩
    ·refine ⟨rfl,rfl,_,rfl,rfl,rfl,_,rfl,qkj (fun hlt=>?_) (fun _=>⟨_,_,rfl⟩)⟩;obtain ⟨c,ec⟩:=qrg (ns:=ns) (i:=pos+1) (by omega) (by simpa using hlt);exact ⟨rfl,rfl,_,rfl,rfl,rfl,_,rfl,_,ec,rfl,rfl,3,rfl,_,_,rfl⟩
    ·rintro e ⟨rest,t,rfl⟩;exact ⟨rfl,rfl,4,rfl,_,_,_,_,rfl,by omega⟩
   ·rintro e ⟨pos,rest,cnt,t,rfl,hp⟩;refine ⟨rfl,rfl,_,rfl,rfl,rfl,4,rfl,?_⟩;refine ⟨rfl,rfl,_,rfl,m0,?_⟩;refine ⟨rfl,rfl,_,rfl,⟨m0,mz⟩,rfl,rfl,3,rfl,?_⟩;exact ⟨_,_,rfl,rfl,h _ _ (Qbw _ (by omega)) (Qah _ m0) ⟨hh,ns,pos,_,_,rfl,h01,hl,hp⟩⟩
def qxj (g:Nat) : ∀ (r:List Int) (h:Nat),qR (Qaf g h) r=Qaf g (qR h r)
 | [],h=>rfl
 | n::r,h=>by
  have e:Yq ((Qaf g h:Nat):Int) n=Qaf g (Yq (h:Int) n):=by
   show Qaf (Qaf g h) n.natAbs=Qaf g (Qaf h n.natAbs);exact Nat.gcd_assoc g h n.natAbs
  show qR (Yq ((Qaf g h:Nat):Int) n) r=Qaf g (qR (Yq (h:Int) n) r);rw [e,qxj g r]
def zafv (g:Nat) (r:List Int):qR g r=Qaf g (qR 0 r):=by
 have:=qxj g r 0
 rwa [Qih] at this
def qsx : ∀ (R:List (List Int)) (g:Nat),qR g (R.map fun r=>((qR 0 r:Nat):Int))=R.foldl qR g
 | [],g=>rfl
 | r::R,g=>by
  show qR (Yq (g:Int) ((qR 0 r:Nat):Int)) (R.map fun r=>((qR 0 r:Nat):Int))=R.foldl qR (qR g r);rw [zafv g r];exact qsx R _
def qhd (ds:List Qh) (q:Qh->Prop):Prop := ∃ (d:Qh) (ns:List Int),ds=[d]/\qea d=some (ns.map .int)/\q (.int (qR 0 ns:Nat))
def qbh:FnScope [SS,SB,SW,SF] [SS] (defScope qdb):=sc0
def qod (F:Def K mg S9 qdb [SS]) (T:Txt K mg cs)
 : Ok P w K mg base S9 1 [SS] (PSp K qhd):=by
  refine F.vok qbh (by rintro ds q ⟨_,_,h,_⟩;rw [h];rfl) fun f cdv A outer s H E hr ds q h=>?_;obtain ⟨d,ns,rfl,hd,h⟩:=h;refine ⟨_,(qg (qt (i:=1) qbh.nd qf)
   (qg (qby rfl (qY (qc 0)) (qp (i:=2) qbh.nd) (qg (qt (i:=3) qbh.nd (qx zajr T.abs_ L2.boot_abs (qd (qc 2) qe)))
   (qj (qxb (qK quk (qc 3) qf) (qj (zapg (i:=1) (j:=3) rfl qbh.nd (qd (qc 3) (qd (qy qiu (qc 1) (qc 3)) qe))))))))
   (qj (qC (qc 1))))),?_⟩
  refine qca hd ⟨fun i e => ∃ t2 t3,e=[.val d,.val (.int (qR 0 (ns.take i):Nat)),t2,t3],⟨_,_,rfl⟩,?_,?_⟩
  ·rintro i x e hx ⟨t2,t3,rfl⟩;obtain ⟨n,rfl,h5,_⟩:=qbe hx;refine ⟨fun m e => ∃ x y:Int,e=[.val d,.val (.int x),.val (.int n),.val (.int y)]/\0<=x/\0<=y/\Qaf x.toNat y.toNat=qR 0 (ns.take (i+1))/\m=y.toNat,⟨_,_,_,rfl,by omega,by split <;> omega,?_,rfl⟩,?_⟩
   ·rw [qmo h5,qmr];have e1:(if n<0 then -n else n).toNat=n.natAbs:=by split <;> omega
    rw [e1];rfl
   ·rintro m e ⟨x,y,rfl,hx0,hy0,hg,rfl⟩;refine qkj (fun hgt=>?_) (fun hle=>?_)
    ·obtain ⟨t1,t2,t3⟩:=qxz hx0 hy0 (by omega) hg;exact ⟨by omega,(x%y).toNat,by omega,y,x%y,rfl,hy0,t1,t3,rfl⟩
    ·have hy:y=0:=by omega
     have:=zabr hx0 hy hg;exact ⟨_,_,by rw [this]⟩
  ·rintro e ⟨t2,t3,rfl⟩;rw [Qf,Zq];exact h
def qed (ds:List Qh) (q:Qh->Prop):Prop := ∃ (b:Int) (R:List (List Int)) (n:Nat),ds=[.int b,qat R]/\(Tab b R n/\R≠[]/\R.length<=900/\n<=900/\intBits b<=9000)/\q (lowT b R)
def qcl:FnScope [So,Sf,"_law_both",SB,Su] [So,Sf] (defScope qdf):=sc0
def qnv (F:Def K mg ST qdf [So,Sf]) (T:Txt K mg cs)
 (O__law_divisor:Ok P w K mg base S9 1 [SS] (PSp K qhd))
 : Ok P w K mg base ST 2 [So,Sf] (PSp K qed):=by
  refine F.vok qcl (by rintro ds q ⟨_,_,_,h,_⟩;rw [h];rfl) fun f cdv A outer s H E hr ds q h=>?_;obtain ⟨b,R,n,rfl,⟨hT,hR,hl,hn,zb⟩,h⟩:=h;refine ⟨_,(qg (qt (i:=2) qcl.nd (qB O__law_divisor hr.m (qd (qV (qN (caps:=[]) (own:=[Su]) (ix:=[]) rfl ⟨rfl,rfl,rfl,rfl,rfl,rfl⟩ (qY (qc 1)) (fun _ _ _ _=>(qp (i:=0) (show Ze ([Su]:List Str) by decide))) (fun _ _ _ _=>(qB O__law_divisor hr.m (qd (qc 0) qe))))) qe)))
   (qg (qho (i:=3) qcl.nd (qel qe))
   (qg (qby rfl (qY (qc 1)) (qp (i:=4) qcl.nd) (qj (qmp 3 (qbp qfg T.tuple_ L2.boot_tuple (qd (qV (qN (caps:=["_law_both"]) (own:=[SW]) (ix:=[2]) rfl ⟨rfl,rfl,rfl,rfl,rfl,rfl⟩ (qY (qc 4)) (fun _ _ _ _=>(qp (i:=1) (show Ze (["_law_both",SW]:List Str) by decide))) (fun _ _ _ _=>(qy qgu (qc 1) (qc 0))))) qe)))))
   (qkz 3 (qj (qC (qjt (qd (qy qgu (qc 0) (qc 2)) (qd (qbp qfg T.tuple_ L2.boot_tuple (qd (qc 3) qe)) qe))))))))),?_⟩
  have g0:=hT.gpos hR;have zg:intBits (qac R:Int)<=9000:=by
   refine Y0 ?_ zb;have:=hT.pos;exact Qau (by omega) (Vb.mpr (hT.gdvd hR))
  show _/\_;refine qO (ds:=R.map qag) ((R.map fun r=>((qR 0 r:Nat):Int)).map .int) (by simp) (qo (by simp;omega)) (fun e => ∃ s,e=[s]) ⟨_,rfl⟩ ?_ ?_
  ·rintro i x ys e hx hys ⟨s,rfl⟩;obtain ⟨r,hr',rfl⟩:=qfn hx;refine ⟨_,r,rfl,rfl,qq ?_ hys,_,rfl⟩;rw [Qa,Qa,hr'];rfl
  ·refine ⟨_,_,rfl,rfl,?_⟩;rw [qsx R 0];show (fun z=>z) _;refine ⟨szl,⟨fun i e => ∃ t4 l,e=[.val (.int b),.val (qat R),.val (.int (qac R)),.own l,t4]/\l=((qdi R (qac R)).take i).map qei,⟨_,_,rfl,rfl⟩,?_,?_⟩⟩
   ·rintro i x e hx ⟨t4,l,rfl,rfl⟩;obtain ⟨r,hr',rfl⟩:=qfn hx;have hrl:=hT.len r (qfi hr');refine ⟨rfl,?_⟩;show _/\_;refine qO ((r.map fun n=>n/(qac R:Int)).map .int) (by simp) (qo (by simp;omega)) (fun e => ∃ s,e=[.val (.int (qac R)),s]) ⟨_,rfl⟩ ?_ ⟨rfl,?_,?_⟩
    ·rintro j y ys e hy hys ⟨s,rfl⟩;obtain ⟨z,rfl,hz,_⟩:=qbe hy;refine ⟨⟨by omega,zg⟩,qq ?_ hys,_,rfl⟩;rw [Qa,Qa,hz];rfl
    ·show (Qle qei _).length<_;rw [Qf];refine qo (Zk (Qdg _ _) ?_);unfold qdi;rw [Qf];omega
    ·refine ⟨_,_,rfl,?_⟩;have e2:(qdi R (qac R))[i]?=some (r.map fun n=>n/(qac R:Int)):=by unfold qdi;rw [Qa,hr'];rfl
     rw [Yf,e2];simp only [Qeh,Zm,Q2,Jw];rfl
   ·rintro e ⟨t4,l,rfl,rfl⟩;have e3:(R.map qag).length=(qdi R (qac R)).length:=by simp [qdi]
    rw [e3,Zq];exact ⟨⟨by omega,zg⟩,szl,h⟩
def qqf (a:Int) (cs:List Int) (b:Int):List Int:=Qee (fun lo hi=>hi-lo) (a::cs) (cs++[b])
def qya : ∀ (cs:List Int) (a b:Int),cs.Pairwise (· <= ·)->(∀ c ∈ cs,a<=c/\c<=b)->a<=b->(qqf a cs b).length=cs.length+1/\(∀ x ∈ qqf a cs b,0<=x)/\(qqf a cs b).sum=b-a
 | [],a,b,_,_,hab=>by simp [qqf];omega
 | c::cs,a,b,hp,h,hab=>by
  have e:qqf a (c::cs) b=(c-a)::qqf c cs b:=rfl;obtain ⟨h1,h2⟩:=List.pairwise_cons.mp hp;obtain ⟨q1,q2⟩:=h c (by simp);obtain ⟨i1,i2,i3⟩:=qya cs c b h2 (fun x hx=>⟨h1 x hx,(h x (Qu _ hx)).2⟩) q2;rw [e];refine ⟨by simp [i1],fun x hx=>?_,by rw [Za,i3];omega⟩;rcases Q5.mp hx with rfl|hx
  ·omega
  ·exact i2 x hx
def qdo (r:List Int) (k s:Int) (at' to:Nat):List Int:=qgg ((r.map fun n=>n*k).set at' ((r[at']?).getD 0*s)) to ((r[at']?).getD 0*(k-s))
def zane {α:Type}{l:List α}{k:Nat}{y:α} (h:k<=l.length):(qgg l k y).length=l.length+1:=by
 unfold qgg;simp;omega
def zakj {l:List Int}{k:Nat}{y:Int}:(qgg l k y).sum=l.sum+y:=by
 unfold qgg;have:=congrArg List.sum (Qcu k l);rw [Jr] at this;rw [Jr,Za];omega
def zanv {l:List Int}{k:Nat}{x y:Int} (h:x ∈ qgg l k y):x ∈ l\/x=y:=by
 unfold qgg at h;rcases Zf.mp h with h|h
 ·exact .inl (Qay h)
 ·rcases Q5.mp h with h|h
  ·exact .inr h
  ·exact .inl (Qdf h)
def set_sum' : ∀ {r:List Int}{i:Nat}{y:Int},i<r.length->(r.set i y).sum=r.sum-(r[i]?).getD 0+y
 | x::r,0,y,h=>by simp;omega
 | x::r,i+1,y,h=>by
  have h':i<r.length:=by simpa using h
  rw [Qeb,Za,Za,set_sum' h',Z7];omega
def qxo (k:Int) : ∀ (r:List Int),(r.map fun x=>x*k).sum=r.sum*k
 | []=>by simp
 | x::r=>by rw [Q2,Za,Za,qxo k r,Qkk]
def zahr {r:List Int}{k s:Int}{a t:Nat} (ha:a<r.length) (ht:t<=r.length) (hr : ∀ x ∈ r,0<=x) (s0:0<=s) (sk:s<=k):(qdo r k s a t).length=r.length+1/\(∀ x ∈ qdo r k s a t,0<=x)/\(qdo r k s a t).sum=r.sum*k:=by
 unfold qdo;have hl:((r.map fun n=>n*k).set a ((r[a]?).getD 0*s)).length=r.length:=by simp
 have hra:0<=(r[a]?).getD 0:=by rw [Qc ha];exact hr _ (Q7 ha)
 refine ⟨by rw [zane (by omega),hl],fun x hx=>?_,?_⟩
 ·rcases zanv hx with hx|rfl
  ·rcases Y4 hx with hx|rfl
   ·obtain ⟨y,hy,rfl⟩:=Qk.mp hx;exact Zn (hr y hy) (by omega)
   ·exact Zn hra s0
  ·exact Zn hra (by omega)
 ·rw [zakj,set_sum' (by simpa using ha),qxo,Qa,Qc ha];simp only [Qkj,Qfv];grind
def qnc (ds0 ds:List Qh) (q:Qh->List Qh->Prop):Prop := ∃ (wd:Nat) (b:Int),ds=[.int wd,.int b]/\qcd ds0/\(1<=wd/\wd<=60/\1<=b/\b<=999999) /\ ∀ (r:List Int) (p:List Qh),r.length=wd->(∀ x ∈ r,0<=x)->r.sum=b->qcd p->q (qag r) p
def qnl:FnScope [Sa,SC,So,"_law_cuts"] [Sa,SC,So] (defScope qhg):=sc0
def qxa (F:Def K mg UJ qhg [Sa,SC,So]) (T:Txt K mg cs)
 (O__law_next:Ok P w K mg base Sz 2 [Sa,Sq] (NSp K qaw))
 : Ok P w K mg base UJ 3 [Sa,SC,So] (NSp K qnc):=by
  refine F.vokP qnl (by rintro ds0 ds q ⟨_,_,h,_⟩;rw [h];rfl) (by decide) fun f cdv A outer s H E hr ds0 ds q h=>?_;obtain ⟨wd,b,rfl,hP,⟨w1,w2,b1,b2⟩,h⟩:=h;refine ⟨_,(qg (qt (i:=3) qnl.nd (qV (zahg zaid T.sorted_ L2.boot_sorted (qd (qV (zafh (caps:=[Sa,So]) (own:=["_law_k"]) (ix:=[0,2]) (i0:=0) (j0:=0) rfl ⟨rfl,rfl,rfl,rfl,rfl,rfl⟩ (qS T.range_ (qy qvy (qc 1) qf)) (fun _ _ _ _=>(qp (i:=2) (show Ze ([Sa,So,"_law_k"]:List Str) by decide))) (fun _ _ _ _=>(qay 0 O__law_next hr.m (qd (qy qec (qc 1) qf) qe))) (qxi rfl))) qe))))
   (qj (qC (qV (qN (caps:=[]) (own:=["_law_low","_law_high"]) (ix:=[]) rfl ⟨rfl,rfl,rfl,rfl,rfl,rfl⟩ (qmh T.zip_ (qV (qrw (qV (qel (qd qf qe))) (qc 3))) (qV (qrw (qc 3) (qV (qel (qd (qc 2) qe)))))) (fun _ _ _ _=>(qhv (n:=2) rfl (qad (qp (i:=0) (show Ze (["_law_low","_law_high"]:List Str) by decide)) (qad (qp (i:=1) (show Ze (["_law_low","_law_high"]:List Str) by decide)) qfk)))) (fun _ _ _ _=>(qy qvy (qc 1) (qc 0)))))))),?_⟩
  refine ⟨⟨by omega,by omega⟩,?_⟩;refine ⟨qo (by rw [qE];omega),rfl,fun i ys e => ∃ cs:List Int,ys=cs.map .int/\cs.length=i/\(∀ c ∈ cs,0<=c/\c<=b) /\ ∃ p t,qcd p/\e=[.pen p,.val (.int b),t],⟨[],rfl,rfl,by simp,_,_,hP,rfl⟩,?_,?_⟩
  ·rintro i d ys e hd ⟨cs,rfl,hc1,hc2,p,t,hp,rfl⟩;refine ⟨rfl,rfl,b+1,rfl,hp,⟨by omega,qA (qbl (by omega) (by omega)) (by decide)⟩,fun x p' x0 x1 hp'=>?_⟩;refine ⟨cs++[x],by simp,by simp [hc1],fun c hc=>?_,p',_,hp',rfl⟩;rcases Zf.mp hc with hc|hc
   ·exact hc2 c hc
   ·rw [Qy.mp hc];omega
  ·rintro ys e ⟨cs,rfl,hc1,hc2,p,t,hp,rfl⟩;rw [qE] at hc1;refine ⟨p,rfl,cs,rfl,by omega,fun ns hperm hsort=>?_⟩;have hn : ∀ c ∈ ns,0<=c/\c<=b:=fun c hc=>hc2 c (hperm.mem_iff.mp hc);have hl:=hperm.length_eq;obtain ⟨d1,d2,d3⟩:=qya ns 0 b hsort hn (by omega);refine ⟨szl,?_,szl,?_,?_⟩
   ·simp only [Qf,Zb,Qdt];exact qee (by omega)
   ·simp only [Qf,Zb,Qdt];exact qee (by omega)
   show _/\_;have ea:[Q3 0]++ns.map Q3=(0::ns).map Q3:=rfl;have eb:ns.map Q3++[Q3 b]=(ns++[b]).map Q3:=by simp
   rw [ea,eb];refine qO ((qqf 0 ns b).map .int) (by simp [qeg,d1]) (qo (by rw [Qf,d1];omega)) (fun e => ∃ s t,e=[s,t]) ⟨_,_,rfl⟩ ?_ ⟨_,_,rfl,rfl,h _ p (by omega) d2 (by omega) hp⟩;rintro i x ys e hx hys ⟨s,t,rfl⟩;obtain ⟨x,y,h3,h4,rfl⟩:=qii hx;obtain ⟨x,rfl,h5,_⟩:=qbe h3;obtain ⟨y,rfl,h6,_⟩:=qbe h4;refine ⟨rfl,rfl,qq ?_ hys,_,_,rfl⟩;unfold qqf;rw [Qa,Qcv,h5,h6];rfl
def qfx (ds0 ds:List Qh) (q:Qh->List Qh->Prop):Prop := ∃ (b:Int) (R:List (List Int)) (n:Nat),ds=[qat R]/\qcd ds0/\(Tab b R n/\1<=R.length/\R.length<=60/\1<=n/\n<=60/\b<=999999) /\ ∀ (k:Int) (R':List (List Int)) (p:List Qh),2<=k->k<=4->Tab (b*k) R' (n+1)->R'.length=R.length->qcd p->q (qat R') p
def qak:FnScope [Sa,Sf,"_law_at","_law_parts",Uv,"_law_to",SB,Su,"_law_wide"] [Sa,Sf] (defScope qeu):=sc0
def qsd (F:Def K mg S2 qeu [Sa,Sf]) (T:Txt K mg cs)
 (O__law_next:Ok P w K mg base Sz 2 [Sa,Sq] (NSp K qaw))
 : Ok P w K mg base S2 3 [Sa,Sf] (NSp K qfx):=by
  refine F.vokP qak (by rintro ds0 ds q ⟨_,_,_,h,_⟩;rw [h];rfl) (by decide) fun f cdv A outer s H E hr ds0 ds q h=>?_;obtain ⟨b,R,n,rfl,hP,⟨hT,r1,r2,n1,n2,hb⟩,h⟩:=h;refine ⟨_,(qg (qt (i:=2) qak.nd (qay 0 O__law_next hr.m (qd (qx qcf T.len_ L2.boot_len (qd (qv (qc 1) qf) qe)) qe)))
   (qg (qt (i:=3) qak.nd (qy qec qf (qay 0 O__law_next hr.m (qd qf qe))))
   (qg (qt (i:=4) qak.nd (qy qec qf (qay 0 O__law_next hr.m (qd (qy qvy (qc 3) qf) qe))))
   (qg (qt (i:=5) qak.nd (qay 0 O__law_next hr.m (qd (qy qec (qx qcf T.len_ L2.boot_len (qd (qv (qc 1) qf) qe)) qf) qe)))
   (qg (qho (i:=6) qak.nd (qel qe))
   (qg (qby rfl (qY (qc 1)) (qp (i:=7) qak.nd) (qg (qlo (caps:=["_law_parts"]) (own:=[SW]) (ix:=[3]) (i:=8) qak.nd rfl ⟨rfl,rfl,rfl,rfl,rfl,rfl⟩ (qY (qc 7)) (fun _ _ _ _=>(qp (i:=1) (show Ze (["_law_parts",SW]:List Str) by decide))) (fun _ _ _ _=>(qy qbk (qc 1) (qc 0))))
   (qg (qhx 8 (qy qbk (qv (qc 7) (qc 2)) (qc 4)) (qc 2))
   (qg (qtd 8 (qc 5) (qy qbk (qv (qc 7) (qc 2)) (qy qvy (qc 3) (qc 4))))
   (qkz 8 (qj (qmp 6 (qc 8))))))))
   (qkz 6 (qj (qC (qc 6)))))))))),?_⟩
  have hRn:R≠[]:=fun z=>by rw [z] at r1;simp at r1
  obtain ⟨r0,R0,eR⟩:=Qt hRn;have l0:r0.length=n:=hT.len r0 (by rw [eR];simp);have aR:atI (R.map qag) 0=some (qag r0):=by rw [eR];exact qbq _ _
  have eN:(((r0.map Q3).length:Nat):Int)=(n:Int):=by simp [l0]
  have sm : ∀ {z:Int},0<z->z<=1000000->intBits z<=9000:=fun h1 h2=>qA (qbl (by omega) (by omega)) (by decide);refine ⟨rfl,_,aR,rfl,_,rfl,hP,⟨by omega,sm (by omega) (by omega)⟩,fun xa p1 xa0 xa1 hp1=>?_⟩;refine ⟨rfl,rfl,3,rfl,hp1,⟨by decide,by decide⟩,fun xk p2 xk0 xk1 hp2=>?_⟩;refine ⟨rfl,rfl,_,rfl,hp2,⟨by omega,sm (by omega) (by omega)⟩,fun xs p3 xs0 xs1 hp3=>?_⟩;refine ⟨rfl,_,aR,rfl,_,rfl,hp3,⟨by omega,sm (by omega) (by omega)⟩,fun xt p4 xt0 xt1 hp4=>?_⟩;obtain ⟨a,rfl⟩:=Zt xa0;obtain ⟨to,rfl⟩:=Zt xt0;have ha:a<n:=by omega
  have hto:to<=n:=by omega
  have hsp : ∀ r ∈ R,(qdo r (2+xk) (1+xs) a to).length=n+1/\(∀ x ∈ qdo r (2+xk) (1+xs) a to,0<=x)/\(qdo r (2+xk) (1+xs) a to).sum=b*(2+xk):=fun r hr=>by
   have e1:=hT.len r hr;obtain ⟨q1,q2,q3⟩:=zahr (r:=r) (k:=2+xk) (s:=1+xs) (a:=a) (t:=to) (by omega) (by omega) (hT.nn r hr) (by omega) (by omega);exact ⟨by omega,q2,by rw [q3,hT.sum r hr]⟩
  have hT':Tab (b*(2+xk)) (R.map fun r=>qdo r (2+xk) (1+xs) a to) (n+1):=by
   have bp:=hT.pos;refine ⟨?_,fun r hr=>?_,fun r hr=>?_,fun r hr=>?_⟩
   ·have:=Yl (show 0<b by omega) (show 0<2+xk by omega);omega
   all_goals (obtain ⟨s',hs',rfl⟩:=Qk.mp hr)
   ·exact (hsp s' hs').1
   ·exact (hsp s' hs').2.1
   ·exact (hsp s' hs').2.2
  refine ⟨szl,⟨fun i e => ∃ t7 t8 l,e=[.pen p4,.val (qat R),.val (.int a),.val (.int (2+xk)),.val (.int (1+xs)),.val (.int to),.own l,t7,t8]/\l=((R.map fun r=>qdo r (2+xk) (1+xs) a to).take i).map qag,⟨_,_,_,rfl,rfl⟩,?_,?_⟩⟩
  ·rintro i x e hx ⟨t7,t8,l,rfl,rfl⟩;obtain ⟨r,hr',rfl⟩:=qfn hx;have hrm:=qfi hr';have hrl:=hT.len r hrm;have bz : ∀ x ∈ r,intBits x<=64:=fun x hx=>by
    have:=hT.le hrm hx;exact qbl (by omega) (by omega)
   show _/\_;refine ⟨qo (by simp;omega),fun j ys e=>ys=(((r.map fun n=>n*(2+xk)).map Q3).take j) /\ ∃ s,e=[.val (.int (2+xk)),s],⟨by simp,_,rfl⟩,?_,?_⟩
   ·rintro j y ys e hy ⟨hys,s,rfl⟩;obtain ⟨z,rfl,hz,hzm⟩:=qbe hy;refine ⟨J7 (bz z hzm),qq ?_ hys,_,rfl⟩;rw [Qa,Qa,hz];rfl
   rintro ys0 e0 ⟨hys0,s0,rfl⟩;rw [show (r.map Q3).length=((r.map fun n=>n*(2+xk)).map Q3).length by simp,Zq] at hys0;subst hys0;have har:a<r.length:=by omega
   have era:=Qc har;have zra:=bz _ (Q7 har);have aa:atI (r.map Q3) (a:Int)=some (.int r[a]):=qaf (by rw [Qa,era];rfl);have ix:ixN (((r.map fun n=>n*(2+xk)).map Q3)).length (a:Int)=some a:=by
    unfold ixN;rw [Qf,Qf,if_pos (by omega),if_pos (by omega)];rfl
   refine ⟨_,aa,J7 zra,rfl,rfl,a,ix,?_⟩;refine ⟨rfl,_,aa,J7 zra,rfl,⟨by omega,?_,?_⟩,?_⟩
   ·show (to:Int)<=(((((r.map fun n=>n*(2+xk)).map Q3).set a (.int (r[a]*(1+xs))))).length:Nat);simp;omega
   ·show (((r.map fun n=>n*(2+xk)).map Q3).set a (.int (r[a]*(1+xs)))).length<_;exact qo (by simp;omega)
   have es:qgg (((r.map fun n=>n*(2+xk)).map Q3).set a (.int (r[a]*(1+xs)))) (Qke (to:Int)) (.int (r[a]*(2+xk-(1+xs))))=(qdo r (2+xk) (1+xs) a to).map .int:=by
    unfold qdo qgg;rw [era];simp only [Qfv,Yd,Zm,Q2,Qbz,Qfm,Qef]
   refine ⟨rfl,rfl,?_,_,_,_,rfl,?_⟩
   ·show (Qle qag _).length<_;rw [Qf];exact qo (Zk (Qdg _ _) (by simp;omega))
   ·have e3:(R.map fun r=>qdo r (2+xk) (1+xs) a to)[i]?=some (qdo r (2+xk) (1+xs) a to):=by rw [Qa,hr'];rfl
    rw [Yf,e3];simp only [Qeh,Zm,Q2,Jw];show Qle qag _++[Qlp (qgg (((r.map fun n=>n*(2+xk)).map Q3).set a (.int (r[a]*(1+xs)))) (Qke (to:Int)) (.int (r[a]*(2+xk-(1+xs)))))]=_;rw [es];rfl
  ·rintro e ⟨t7,t8,l,rfl,rfl⟩;have e3:(R.map qag).length=(R.map fun r=>qdo r (2+xk) (1+xs) a to).length:=by simp
   rw [e3,Zq];exact ⟨_,_,rfl,rfl,h _ _ p4 (by omega) (by omega) hT' (by simp) hp4⟩
def qga (ds0 ds:List Qh) (q:Qh->List Qh->Prop):Prop := ∃ (many most far:Int),ds=[.int many,.int most,.int far]/\qcd ds0/\(1<=many/\many<=4/\1<=most/\most<=12/\1<=far/\far<=60) /\
 ∀ (b:Int) (R:List (List Int)) (n:Nat) (p:List Qh),Gls b R n->b<=9999->R.length=many->1<=n->n<=most->qcd p->q (qaa b R) p
def qbi:FnScope [Sa,Sq,Sv,Ua,SC,So,Sf,"_law_time"] [Sa,Sq,Sv,Ua] (defScope qet):=sc0
def qsf (F:Def K mg S3 qet [Sa,Sq,Sv,Ua]) (T:Txt K mg cs)
 (O__law_next:Ok P w K mg base Sz 2 [Sa,Sq] (NSp K qaw))
 (O__law_reduced:Ok P w K mg base ST 2 [So,Sf] (PSp K qed))
 (O__law_row:Ok P w K mg base UJ 3 [Sa,SC,So] (NSp K qnc))
 (O__law_split:Ok P w K mg base S2 3 [Sa,Sf] (NSp K qfx))
 : Ok P w K mg base S3 4 [Sa,Sq,Sv,Ua] (NSp K qga):=by
  refine F.vokP qbi (by rintro ds0 ds q ⟨_,_,_,h,_⟩;rw [h];rfl) (by decide) fun f cdv A outer s H E hr ds0 ds q h=>?_;obtain ⟨many,most,far,rfl,hP,⟨m1,m2,o1,o2,f1,f2⟩,h⟩:=h;refine ⟨_,(qg (qt (i:=4) qbi.nd (qy qec qf (qay 0 O__law_next hr.m (qd (qc 2) qe))))
   (qg (qt (i:=5) qbi.nd (qy qec qf (qay 0 O__law_next hr.m (qd (qc 3) qe))))
   (qg (zagw (caps:=[Sa,SC,So]) (own:=["_law_k"]) (ix:=[0,4,5]) (i0:=0) (j0:=0) (i:=6) qbi.nd rfl ⟨rfl,rfl,rfl,rfl,rfl,rfl⟩ (qS T.range_ (qc 1)) (fun _ _ _ _=>(qp (i:=3) (show Ze ([Sa,SC,So,"_law_k"]:List Str) by decide))) (fun _ _ _ _=>(qay 0 O__law_row hr.m (qd (qc 1) (qd (qc 2) qe)))) (qxi rfl))
   (qg (qby rfl (qS T.range_ (qy qgu (qay 0 O__law_next hr.m (qd qf qe)) qf)) (qp (i:=7) qbi.nd) (qj (qcm (qK o_lt (qx qcf T.len_ L2.boot_len (qd (qv (qc 6) qf) qe)) (qc 2)) (qj (qt (i:=6) qbi.nd (qay 0 O__law_split hr.m (qd (qc 6) qe)))) qW)))
   (qj (qC (qB O__law_reduced hr.m (qd (qx (zaac rfl) T.sum_ L2.boot_sum (qd (qv (qc 6) qf) qe)) (qd (qc 6) qe))))))))),?_⟩
  have sm : ∀ {z:Int},0<z->z<=1000000->intBits z<=9000:=fun h1 h2=>qA (qbl (by omega) (by omega)) (by decide);refine ⟨rfl,rfl,most,rfl,hP,⟨by omega,sm (by omega) (by omega)⟩,fun xw p1 w0 w1 hp1=>?_⟩;refine ⟨rfl,rfl,far,rfl,hp1,⟨by omega,sm (by omega) (by omega)⟩,fun xb p2 b0 b1 hp2=>?_⟩;obtain ⟨wd,ew⟩:=Zt (show 0<=1+xw by omega);refine ⟨⟨by omega,by omega⟩,qo (by rw [qE];omega),rfl,fun i ys e => ∃ R:List (List Int),ys=R.map qag/\R.length=i/\Tab (1+xb) R wd /\ ∃ p t,qcd p/\e=[.pen p,.val (.int (1+xw)),.val (.int (1+xb)),t],⟨[],rfl,rfl,⟨by omega,by simp,by simp,by simp⟩,_,_,hp2,rfl⟩,?_,?_⟩
  ·rintro i d ys e hd ⟨R,rfl,hR,hT,p,t,hp,rfl⟩;refine ⟨rfl,rfl,wd,1+xb,by rw [<- ew],hp,⟨by omega,by omega,by omega,by omega⟩,fun r p' r1 r2 r3 hp'=>?_⟩;refine ⟨R++[r],by simp,by simp [hR],⟨by omega,?_,?_,?_⟩,p',_,hp',rfl⟩
   ·intro r' hr';rcases Zf.mp hr' with h|h
    ·exact hT.len r' h
    ·rw [Qy.mp h];exact r1
   ·intro r' hr';rcases Zf.mp hr' with h|h
    ·exact hT.nn r' h
    ·rw [Qy.mp h];exact r2
   ·intro r' hr';rcases Zf.mp hr' with h|h
    ·exact hT.sum r' h
    ·rw [Qy.mp h];exact r3
  ·rintro ys e ⟨R,rfl,hR,hT,p3,t,hp3,rfl⟩;rw [qE] at hR;refine ⟨p3,rfl,rfl,rfl,6,rfl,hp3,⟨by decide,by decide⟩,fun xt p4 t0 t1 hp4=>?_⟩;refine ⟨⟨by decide,by decide⟩,⟨by omega,by omega⟩,?_⟩;refine ⟨fun i e => ∃ (b:Int) (R':List (List Int)) (n:Nat) (p:List Qh) (t:Sl),e=[.pen p,.val (.int many),.val (.int most),.val (.int far),.val (.int (1+xw)),.val (.int (1+xb)),.val (qat R'),t]/\qcd p/\Tab b R' n/\R'.length=R.length/\1<=n/\n<=most/\b<=60*4^i,⟨_,R,wd,_,_,rfl,hp4,hT,rfl,by omega,by omega,by omega⟩,?_,?_⟩
   ·rintro i d e hd ⟨b,R',n,p,t,rfl,hp,hT',hl,n1,n2,hb⟩;obtain ⟨hi,rfl⟩:=qam hd;have hRn:R'≠[]:=fun z=>by rw [z] at hl;simp at hl;omega
    obtain ⟨r0,R0,eR⟩:=Qt hRn;have l0:r0.length=n:=hT'.len r0 (by rw [eR];simp);have aR:atI (R'.map qag) 0=some (qag r0):=by rw [eR];exact qbq _ _
    have eN:(((r0.map Q3).length:Nat):Int)=(n:Int):=by simp [l0]
    have hi3:i<3:=by omega
    have hb3:b<=999999:=by
     have:i=0\/i=1\/i=2:=by omega
     rcases this with rfl|rfl|rfl <;> omega
    refine ⟨_,aR,qkj (fun hlt=>?_) (fun hge=>?_)⟩
    ·refine ⟨rfl,rfl,b,R',n,rfl,hp,⟨hT',by omega,by omega,n1,by omega,hb3⟩,fun k R2 p' k1 k2 hT2 hl2 hp'=>?_⟩;refine ⟨b*k,R2,n+1,p',_,rfl,hp',hT2,by omega,by omega,by omega,?_⟩;have bp:=hT'.pos;have e1:b*k<=b*4:=Qdb k2 (by omega);have:i=0\/i=1\/i=2:=by omega
     rcases this with rfl|rfl|rfl <;> omega
    ·refine ⟨b,R',n,p,_,rfl,hp,hT',hl,n1,n2,?_⟩;have:i=0\/i=1\/i=2:=by omega
     rcases this with rfl|rfl|rfl <;> omega
   ·rintro e ⟨b,R',n,p,t,rfl,hp,hT',hl,n1,n2,hb⟩;rw [qE] at hb;have hRn:R'≠[]:=fun z=>by rw [z] at hl;simp at hl;omega
    obtain ⟨r0,R0,eR⟩:=Qt hRn;have aR:atI (R'.map qag) 0=some (qag r0):=by rw [eR];exact qbq _ _
    have hs0:r0.sum=b:=hT'.sum r0 (by rw [eR];simp);have hb3:b<=9999:=by
     have:(xt/2).toNat=0\/(xt/2).toNat=1\/(xt/2).toNat=2:=by omega
     rcases this with z|z|z <;> rw [z] at hb <;> omega
    have bp:=hT'.pos;have hL:=hT'.gls hRn;refine ⟨_,aR,r0,rfl,r0.sum,R',n,rfl,⟨by rw [hs0];exact hT',hRn,by omega,by omega,by rw [hs0];exact sm (by omega) (by omega)⟩,?_⟩;rw [hs0];refine ⟨_,_,rfl,rfl,h _ _ n p hL (Qjg (Qjt _ (by omega)) hb3) ?_ n1 n2 hp⟩;unfold qdi;rw [Qf];omega
def qku (ds:List Qh) (q:Qh->Prop):Prop := ∃ (b:Int) (R:List (List Int)) (n:Nat),ds=[qat R]/\(Tab b R n/\R≠[]/\R.length<=60/\n<=60/\b<=999999)/\q (lowT b R)
def qud:FnScope [Sf] [Sf] (defScope qfs):=sc0
def que (F:Def K mg Uw qfs [Sf]) (T:Txt K mg cs)
 (O__law_reduced:Ok P w K mg base ST 2 [So,Sf] (PSp K qed))
 : Ok P w K mg base Uw 3 [Sf] (PSp K qku):=by
  refine F.vok qud (by rintro ds q ⟨_,_,_,h,_⟩;rw [h];rfl) fun f cdv A outer s H E hr ds q h=>?_;obtain ⟨b,R,n,rfl,⟨hT,hn,hl,hn2,hb⟩,h⟩:=h;refine ⟨_,(qj (qC (qB O__law_reduced hr.m (qd (qx (zaac rfl) T.sum_ L2.boot_sum (qd (qv (qc 0) qf) qe)) (qd (qc 0) qe))))),?_⟩;have bp:=hT.pos;obtain ⟨r0,R0,eR⟩:=Qt hn;have aR:atI (R.map qag) 0=some (qag r0):=by rw [eR];exact qbq _ _
  have hs0:r0.sum=b:=hT.sum r0 (by rw [eR];simp);refine ⟨_,aR,r0,rfl,r0.sum,R,n,rfl,⟨by rw [hs0];exact hT,hn,by omega,by omega,by rw [hs0];exact qA (qbl (by omega) (by omega)) (by decide)⟩,?_⟩;rw [hs0];exact h
def qpw (r:List Int) (L:List Nat):List Int:=L.map fun i=>(r[i]?).getD 0
def qid (ds0 ds:List Qh) (q:Qh->List Qh->Prop):Prop := ∃ (b:Int) (R:List (List Int)) (n:Nat),ds=[qat R]/\qcd ds0/\(Tab b R n/\1<=R.length/\R.length<=60/\n<=60) /\ ∀ (L:List Nat) (p:List Qh),L.Perm (Q1 n)->qcd p->q (qat (R.map fun r=>qpw r L)) p
def zamw {b:Int}{R:List (List Int)}{n:Nat}{L:List Nat} (hT:Tab b R n) (hL:L.Perm (Q1 n)):Tab b (R.map fun r=>qpw r L) n:=by
 have ll:L.length=n:=by rw [hL.length_eq,Yz]
 refine ⟨hT.pos,fun r hr=>?_,fun r hr x hx=>?_,fun r hr=>?_⟩
 ·obtain ⟨r0,_,rfl⟩:=Qk.mp hr;unfold qpw;rw [Qf];exact ll
 ·obtain ⟨r0,h0,rfl⟩:=Qk.mp hr;obtain ⟨i,_,rfl⟩:=Qk.mp hx;cases e:r0[i]? with
  | none=>exact Yk _
  | some y=>exact hT.nn r0 h0 y (Qg e)
 ·obtain ⟨r0,h0,rfl⟩:=Qk.mp hr;have l0:=hT.len r0 h0;unfold qpw;have ps : ∀ {l l':List Int},l.Perm l'->l.sum=l'.sum:=fun {l l'} h=>by
   induction h with
   | nil=>rfl
   | cons x _ ih=>rw [Za,Za,ih]
   | swap x y l=>rw [Za,Za,Za,Za];omega
   | trans _ _ a b=>rw [a,b]
  rw [ps (hL.map _)];have e:(Q1 n).map (fun i=>(r0[i]?).getD 0)=r0:=by
   refine Zl fun i=>?_;rw [Qa];by_cases hi:i<n
   ·rw [Qn hi];show some ((r0[i]?).getD 0)=r0[i]?;rw [Qc (by omega)];rfl
   ·rw [Qo (by simp;omega),Qo (by omega)];rfl
  rw [e];exact hT.sum r0 h0
def zaic {L:List Nat}{i k:Nat} (h:L.Perm (Q1 i)):(qgg L k i).Perm (Q1 (i+1)):=by
 unfold qgg;rw [Qkg];refine (List.perm_middle).trans ?_;rw [Qcu];exact (List.Perm.cons i h).trans (List.perm_append_singleton i _).symm
def qbr:FnScope [Sa,Sf,"_law_order","_law_sign",SB,Su] [Sa,Sf] (defScope qdn):=sc0
def qou (F:Def K mg Ue qdn [Sa,Sf]) (T:Txt K mg cs)
 (O__law_next:Ok P w K mg base Sz 2 [Sa,Sq] (NSp K qaw))
 : Ok P w K mg base Ue 3 [Sa,Sf] (NSp K qid):=by
  refine F.vokP qbr (by rintro ds0 ds q ⟨_,_,_,h,_⟩;rw [h];rfl) (by decide) fun f cdv A outer s H E hr ds0 ds q h=>?_;obtain ⟨b,R,n,rfl,hP,⟨hT,r1,r2,n2⟩,h⟩:=h;refine ⟨_,(qg (qho (i:=2) qbr.nd (qel qe))
   (qg (qby rfl (qS T.range_ (qx qcf T.len_ L2.boot_len (qd (qv (qc 1) qf) qe))) (qp (i:=3) qbr.nd) (qj (qtd 2 (qay 0 O__law_next hr.m (qd (qy qec (zalh 2 T.len_) qf) qe)) (qc 3))))
   (qg (qho (i:=4) qbr.nd (qel qe))
   (qkz 2 (qg (qby rfl (qY (qc 1)) (qp (i:=5) qbr.nd) (qj (qmp 4 (qV (qN (caps:=[Su]) (own:=["_law_sign"]) (ix:=[5]) rfl ⟨rfl,rfl,rfl,rfl,rfl,rfl⟩ (qY (qc 2)) (fun _ _ _ _=>(qp (i:=1) (show Ze ([Su,"_law_sign"]:List Str) by decide))) (fun _ _ _ _=>(qv (qc 0) (qc 1))))))))
   (qkz 4 (qj (qC (qc 4))))))))),?_⟩
  have hRn:R≠[]:=fun z=>by rw [z] at r1;simp at r1
  obtain ⟨r0,R0,eR⟩:=Qt hRn;have l0:r0.length=n:=hT.len r0 (by rw [eR];simp);have aR:atI (R.map qag) 0=some (qag r0):=by rw [eR];exact qbq _ _
  have eN:(((r0.map Q3).length:Nat):Int)=(n:Int):=by simp [l0]
  refine ⟨szl,_,aR,⟨by omega,by omega⟩,?_⟩;refine ⟨fun i e => ∃ (L:List Nat) (p:List Qh) (t3:Sl),(qcd p/\L.Perm (Q1 i))/\e=[.pen p,.val (qat R),.own (L.map fun (k:Nat) => .int (k:Int)),t3,.non,.non],⟨[],_,_,⟨hP,.nil⟩,rfl⟩,?_,?_⟩
  ·rintro i x e hx ⟨L,p,t3,⟨hp,hL⟩,rfl⟩;obtain ⟨hi,rfl⟩:=qam hx;rw [Vk];have ll:L.length=i:=by rw [hL.length_eq,Yz]
   refine ⟨rfl,rfl,rfl,rfl,_,rfl,hp,⟨by show 0<((L.map fun (k:Nat)=>Q3 (k:Int)).length:Int)+1;omega,qA (qbl (by show _<((L.map fun (k:Nat)=>Q3 (k:Int)).length:Int)+1;omega) (by show ((L.map fun (k:Nat)=>Q3 (k:Int)).length:Int)+1<_;rw [Qf];omega)) (by decide)⟩,fun x p1 x0 x1 hp1=>?_⟩;obtain ⟨k,rfl⟩:=Zt x0;have lm:((L.map fun (k:Nat)=>Q3 (k:Int)).length:Int)=i:=by rw [Qf,ll]
   refine ⟨rfl,⟨by omega,?_,?_⟩,qgg L k i,p1,.val (.int (i:Int)),⟨hp1,zaic hL⟩,?_⟩
   ·show (k:Int)<=((L.map fun (k:Nat)=>Q3 (k:Int)).length:Int);have x1:(k:Int)<((L.map fun (k:Nat)=>Q3 (k:Int)).length:Int)+1:=x1;omega
   ·show (L.map fun (k:Nat)=>Q3 (k:Int)).length<_;rw [Qf];exact qo (by omega)
   ·have es:qgg (L.map fun (k:Nat)=>Q3 (k:Int)) (Qke (k:Int)) (.int (i:Int))=(qgg L k i).map fun (k:Nat) => .int (k:Int):=by
     unfold qgg;simp only [Yd,Zm,Q2,Qbz,Qfm]
    show _=[Sl.pen p1,.val (qat R),.own ((qgg L k i).map fun (k:Nat) => .int (k:Int)),_,.non,.non];rw [<- es];rfl
  ·rintro e ⟨L,p,t3,⟨hp,hL⟩,rfl⟩;rw [qE] at hL;have hL:L.Perm (Q1 n):=by rw [eN] at hL;simpa using hL
   have ll:L.length=n:=by rw [hL.length_eq,Yz]
   refine ⟨szl,fun i e => ∃ (t3 t5:Sl) (l:List Qh),e=[.pen p,.val (qat R),.val (.list (L.map fun (k:Nat) => .int (k:Int))),t3,.own l,t5]/\l=((R.map fun r=>qpw r L).take i).map qag,⟨_,_,_,rfl,rfl⟩,?_,?_⟩
   ·rintro i x e hx ⟨t3,t5,l,rfl,rfl⟩;obtain ⟨r,hr',rfl⟩:=qfn hx;have hrl:=hT.len r (qfi hr');refine ⟨rfl,qO ((qpw r L).map .int) (by simp [qpw]) (qo (by simp [qpw];omega)) (fun e => ∃ s,e=[.val (qag r),s]) ⟨_,rfl⟩ ?_ ?_⟩
    ·rintro j y ys e hy hys ⟨s,rfl⟩;rw [Qa] at hy;cases ej:L[j]? with
     | none=>rw [ej] at hy;cases hy
     | some k =>
      rw [ej] at hy;cases hy;have hk:k<n:=Zh.mp (hL.mem_iff.mp (Qg ej));refine ⟨_,qaf (by rw [Qa,Qc (show k<r.length by omega)];rfl),qq ?_ hys,_,rfl⟩;unfold qpw;rw [Qa,Qa,ej];show some (Q3 ((r[k]?).getD 0))=_;rw [Qc (show k<r.length by omega)];rfl
    ·refine ⟨rfl,?_,_,_,_,rfl,?_⟩
     ·show (Qle qag _).length<_;rw [Qf];exact qo (Zk (Qdg _ _) (by simp;omega))
     ·have e3:(R.map fun r=>qpw r L)[i]?=some (qpw r L):=by rw [Qa,hr'];rfl
      rw [Yf,e3];simp only [Qeh,Zm,Q2,Jw];rfl
   ·rintro e ⟨t3,t5,l,rfl,rfl⟩;have e3:(R.map qag).length=(R.map fun r=>qpw r L).length:=by simp
    rw [e3,Zq];exact ⟨_,_,rfl,rfl,h L p hL hp⟩
def movR (r:List Int) (i j:Nat) (x:Int):List Int:=(r.set i ((r[i]?).getD 0-x)).set j (((r.set i ((r[i]?).getD 0-x))[j]?).getD 0+x)
def qxu {r:List Int}{i:Nat}{y:Int} (h:i<r.length):(r.set i y).sum=r.sum-(r[i]?).getD 0+y:=by
 induction r generalizing i with
 | nil=>simp at h
 | cons x r ih =>
  cases i with
  | zero=>simp;omega
  | succ i =>
   have h':i<r.length:=by simpa using h
   rw [Qeb,Za,Za,ih h',Z7];omega
def zaqy {r:List Int}{i j:Nat}{x:Int} (hi:i<r.length) (hj:j<r.length) (nn : ∀ y ∈ r,0<=y) (x0:0<=x) (x1:x<=(r[i]?).getD 0):(movR r i j x).length=r.length/\(∀ y ∈ movR r i j x,0<=y)/\(movR r i j x).sum=r.sum:=by
 have nn1 : ∀ y ∈ r.set i ((r[i]?).getD 0-x),0<=y:=fun y hy=>by
  rcases Y4 hy with h|h
  ·exact nn y h
  ·omega
 refine ⟨by unfold movR;simp,fun y hy=>?_,?_⟩
 ·unfold movR at hy;rcases Y4 hy with h|h
  ·exact nn1 y h
  ·have:0<=((r.set i ((r[i]?).getD 0-x))[j]?).getD 0:=by
    cases e:(r.set i ((r[i]?).getD 0-x))[j]? with
    | none=>exact Yk _
    | some z=>exact nn1 z (Qg e)
   omega
 ·unfold movR;rw [qxu (by simpa using hj),qxu hi];omega
def qjw (ds0 ds:List Qh) (q:Qh->List Qh->Prop):Prop := ∃ (b:Int) (R:List (List Int)) (n:Nat),ds=[qat R]/\qcd ds0/\(Tab b R n/\1<=R.length/\R.length<=60/\1<=n/\n<=60/\b<=999999) /\ ∀ (R':List (List Int)) (p:List Qh),Tab b R' n->R'.length=R.length->qcd p->q (qat R') p
def qbj:FnScope [Sa,Sf,UQ,UK,SF,SB,Uv] [Sa,Sf] (defScope qeq):=sc0
def qrr (F:Def K mg Us qeq [Sa,Sf]) (T:Txt K mg cs)
 (O__law_next:Ok P w K mg base Sz 2 [Sa,Sq] (NSp K qaw))
 : Ok P w K mg base Us 3 [Sa,Sf] (NSp K qjw):=by
  refine F.ok qbj (by rintro vs H Q E ⟨F,a,ps',rest,ds0,ds,q,e,_,_,_,_,i,⟨_,_,_,h,_⟩,_⟩;rw [e,Zb,i.len,h];rfl) fun f cdv A outer s H vs Q E hr h=>?_;obtain ⟨F0,a,ps0,rest,ds0,ds,q,rfl,sm,fa,ha,i0,hi,⟨b,R,n,rfl,hP,⟨hT,r1,r2,n1,n2,hb⟩,hq⟩,kk⟩:=h;refine ⟨_,zaio 3 (VSs.pss (qg (qt (i:=2) qbj.nd (qay 0 O__law_next hr.m (qd (qx qcf T.len_ L2.boot_len (qd (qc 1) qe)) qe)))
   (qg (qt (i:=3) qbj.nd (qay 0 O__law_next hr.m (qd (qx qcf T.len_ L2.boot_len (qd (qv (qc 1) qf) qe)) qe)))
   (qj (qt (i:=4) qbj.nd (qay 0 O__law_next hr.m (qd (qx qcf T.len_ L2.boot_len (qd (qv (qc 1) qf) qe)) qe))))))) (qF (zafx (caps:=[]) (own:=[Su]) (ix:=[]) (i:=5) qbj.nd rfl ⟨rfl,rfl,rfl,rfl,rfl,rfl⟩ (qY (qc (i:=1))) (fun _ _ _ _=>qvn (i:=0) (show Ze ([Su]:List Str) by decide) rfl (by first|exact Yy rfl|exact Z6 rfl) (by first|exact .inl rfl|exact .inr rfl)) (fun _ _ _ _=>qmk zaat T.list_ L2.boot_list (qd (qc (i:=0)) qe)))
   (qF (qdx (i:=6) qbj.nd rfl (by first|exact Yy rfl|exact Z6 rfl) (qoc O__law_next hr.m (qz (pv 0) (qz (zaii (qhh qcy (qhh qcy (pv 5) (pv 2) (fun _ _=>rfl)) (pv 3) (fun _ _=>rfl)) qom) qal))))
   (qF (qwg (zaoz (qhh qcy (qhh qcy (pv 5) (pv 2) (fun _ _=>rfl)) (pv 3) (fun _ _=>rfl)) (pv 6)) (qwb (qhh qcy (pv 5) (pv 2) (fun _ _=>rfl)) (pv 3) qln (by intro _;rfl)) rfl rfl rfl)
   (qF (qwg (zaii (qhh qcy (qhh qcy (pv 5) (pv 2) (fun _ _=>rfl)) (pv 4) (fun _ _=>rfl)) (pv 6)) (qwb (qhh qcy (pv 5) (pv 2) (fun _ _=>rfl)) (pv 4) qln (by intro _;rfl)) rfl rfl rfl)
   (qeh (qji (pv 5))))))),?_⟩
  have hRn:R≠[]:=fun z=>by rw [z] at r1;simp at r1
  obtain ⟨r0,R0,eR⟩:=Qt hRn;have l0:r0.length=n:=hT.len r0 (by rw [eR];simp);have aR:atI (R.map qag) 0=some (qag r0):=by rw [eR];exact qbq _ _
  have eN:(((r0.map Q3).length:Nat):Int)=(n:Int):=by simp [l0]
  have sm9 : ∀ {z:Int},0<z->z<=1000000->intBits z<=9000:=fun h1 h2=>qA (qbl (by omega) (by omega)) (by decide);obtain ⟨vr,rfl,ir⟩:=qkt hi;have hE:EnvOk K ⟨qbb H a,H,F0⟩ F0 H (.pen ds0::qas (List.tail ([Sa,Sf,UQ,UK,SF,SB,Uv]:List Str)) [qat R]) (start ([Sa,Sf,UQ,UK,SF,SB,Uv]:List Str) [.ref a,vr]):=(qoz (N:=([Sa,Sf,UQ,UK,SF,SB,Uv]:List Str)) sm fa ha i0 hi).mpr rfl;refine zacx (fun e => ∃ (p:List Qh) (st o1 o2:Nat),(qcd p/\st<R.length/\o1<n/\o2<n)/\e=[.pen p,.val (qat R),.val (.int (st:Nat)),.val (.int (o1:Nat)),.val (.int (o2:Nat)),.non,.non]) hE ?_ ?_
  ·have eL:(((R.map qag).length:Nat):Int)=(R.length:Int):=by simp
   refine ⟨rfl,rfl,_,rfl,hP,⟨by omega,sm9 (by omega) (by omega)⟩,fun x1 p1 x10 x11 hp1=>?_⟩;refine ⟨rfl,_,aR,rfl,_,rfl,hp1,⟨by omega,sm9 (by omega) (by omega)⟩,fun x2 p2 x20 x21 hp2=>?_⟩;refine ⟨rfl,_,aR,rfl,_,rfl,hp2,⟨by omega,sm9 (by omega) (by omega)⟩,fun x3 p3 x30 x31 hp3=>?_⟩;obtain ⟨y1,rfl⟩:=Zt x10;obtain ⟨y2,rfl⟩:=Zt x20;obtain ⟨y3,rfl⟩:=Zt x30;exact ⟨p3,y1,y2,y3,⟨hp3,by omega,by omega,by omega⟩,rfl⟩
  rintro e F1 H1 σ1 I1 s1 ⟨p1,st,o1,o2,⟨hp1,hst,ho1,ho2⟩,rfl⟩;obtain ⟨g1,ps1,ha1,ip1⟩:=I1.penGo (j:=0) rfl;obtain ⟨x0,_,rfl,hx0,x1,_,rfl,⟨v1,rfl,iv1⟩,x2,_,rfl,⟨v2,rfl,iv2⟩,x3,_,rfl,⟨v3,rfl,iv3⟩,x4,_,rfl,⟨v4,rfl,iv4⟩,x5,_,rfl,_,x6,_,rfl,_,rfl⟩:=I1.all;have ex0:=zahj hx0;subst ex0;have ev2:=iv2.int_inv;have ev3:=iv3.int_inv;have ev4:=iv4.int_inv;subst ev2 ev3 ev4;have hE1:EnvOk K ⟨H1,H1,F1⟩ F1 H1 [.non,.val (qat R),.non,.non,.non,.non,.non] [some (.ref a),some v1,some (.int (st:Nat)),some (.int (o1:Nat)),some (.int (o2:Nat)),x5,x6] :=
   qhw g1.fh ⟨_,_,rfl,⟨trivial,rfl⟩,_,_,rfl,⟨⟨v1,rfl,iv1⟩,rfl⟩,_,_,rfl,⟨trivial,rfl⟩,_,_,rfl,⟨trivial,rfl⟩,_,_,rfl,⟨trivial,rfl⟩,_,_,rfl,⟨trivial,rfl⟩,_,_,rfl,⟨trivial,rfl⟩,rfl⟩
  have na1:H1 a≠none:=by rw [ha1];exact fun z=>by cases z
  refine zahs (Z:=R) (ds0:=R.map qag) rfl hE1 ?_ (qo (by simp;omega)) (by simp) (fun k d z hd hz=>?_) g1.fh fun F2 H2 ra as g2 sF2 sH2 nst=>?_
  ·exact rfl
  ·rw [Qa,hz] at hd;cases hd;exact rfl
  have nst:=nst.back (H0':=H) fun c hc=>g1.none na1 hc;have gP2:=g1.go g2 na1;have ha2:=sH2 _ _ ha1;have na:H a≠none:=by rw [ha];exact fun z=>by cases z
  obtain ⟨r,er⟩ : ∃ r,R[st]?=some r:=⟨_,Qc hst⟩
  have rm:=Qg er;have rl:=hT.len r rm;obtain ⟨pa,epa⟩ : ∃ pa,as[st]?=some pa:=⟨_,Qc (by rw [nst.l];exact hst)⟩
  have pm:=Qg epa;have asr:atI (as.map V.ref) (st:Nat)=some (.ref pa):=qaf (by rw [Qa,epa];rfl);have own:=nst.e st pa r epa er;have ri:atI (r.map V.int) (o1:Nat)=some (.int ((r[o1]?).getD 0)):=qaf (by rw [Qa,Qc (show o1<r.length by omega)];rfl);have xb:0<=(r[o1]?).getD 0/\(r[o1]?).getD 0<=b:=by
   rw [Qc (show o1<r.length by omega)];have xm:=Q7 (show o1<r.length by omega);exact hT.le rm xm
  refine ⟨.ref a,rfl,.ref ra,rfl,.int (st:Nat),rfl,ra,_,(st:Nat),.ref pa,rfl,rfl,SqL.of nst.h,asr,.int (o1:Nat),rfl,pa,_,(o1:Nat),_,rfl,rfl,SqL.of own.h,ri,_,1,rfl,rfl,?_⟩;refine ⟨F2,a,ps1,[.int ((r[o1]?).getD 0+1)],p1,[.int ((r[o1]?).getD 0+1)],fun d p => ∃ x:Int,0<=x/\x<=(r[o1]?).getD 0/\qcd p/\d = .int x,rfl,g2.fh,gP2.fa,ha2,ip1.mono sF2,qw (qJ _) qQ,⟨_,rfl,hp1,⟨by omega,sm9 (by omega) (by omega)⟩,fun x p x0 x1 hp=>⟨x,x0,by omega,hp,rfl⟩⟩,?_⟩;rintro d v F3 H3 ps3 p3 gq ha3 ip3 id3 ⟨x,x0,x1,hp3,rfl⟩;have ev:=id3.int_inv;subst ev;have gP3:=gP2.trans gq na;have nst3:=nst.goP gq na;have own3:=nst3.e st pa r epa er;have ix1:ixN (r.map V.int).length ((o1:Nat):Int)=some o1:=by
   unfold ixN;rw [Qf,if_pos (by omega),if_pos (by omega)];rfl
  refine ⟨.ref ra,rfl,.int (st:Nat),rfl,ra,_,(st:Nat),.ref pa,rfl,rfl,SqL.of nst3.h,asr,.int (o1:Nat),rfl,pa,_,(o1:Nat),_,rfl,rfl,SqL.of own3.h,ri,.int x,rfl,_,_,rfl,rfl,.ref ra,rfl,.int (st:Nat),rfl,ra,_,(st:Nat),.ref pa,rfl,rfl,SqL.of nst3.h,asr,.int (o1:Nat),rfl,pa,_,(o1:Nat),o1,rfl,rfl,own3.h,ix1,?_⟩;have nst4:=nst3.put (r:=r.set o1 ((r[o1]?).getD 0-x)) epa;have gP4:=gP3.put (o2 :=.lst ((r.set o1 ((r[o1]?).getD 0-x)).map V.int)) nst3 pm;have em:(r.map V.int).set o1 (V.int ((r[o1]?).getD 0-x))=(r.set o1 ((r[o1]?).getD 0-x)).map V.int:=by rw [Qef]
  rw [em];have mv:=zaqy (r:=r) (i:=o1) (j:=o2) (x:=x) (by omega) (by omega) (hT.nn r rm) x0 x1;unfold movR at mv;have l1:(r.set o1 ((r[o1]?).getD 0-x)).length=n:=by rw [Ye];exact rl
  generalize r.set o1 ((r[o1]?).getD 0-x)=r1 at nst4 gP4 mv l1;have er1:(R.set st r1)[st]?=some r1:=Qcf hst;have own4:=nst4.e st pa r1 epa er1;have ri2:atI (r1.map V.int) (o2:Nat)=some (.int ((r1[o2]?).getD 0)):=qaf (by rw [Qa,Qc (show o2<r1.length by omega)];rfl);have ix2:ixN (r1.map V.int).length ((o2:Nat):Int)=some o2:=by
   unfold ixN;rw [Qf,if_pos (by omega),if_pos (by omega)];rfl
  refine ⟨.ref ra,rfl,.int (st:Nat),rfl,ra,_,(st:Nat),.ref pa,rfl,rfl,SqL.of nst4.h,asr,.int (o2:Nat),rfl,pa,_,(o2:Nat),_,rfl,rfl,SqL.of own4.h,ri2,.int x,rfl,_,_,rfl,rfl,.ref ra,rfl,.int (st:Nat),rfl,ra,_,(st:Nat),.ref pa,rfl,rfl,SqL.of nst4.h,asr,.int (o2:Nat),rfl,pa,_,(o2:Nat),o2,rfl,rfl,own4.h,ix2,?_⟩;have em2:(r1.map V.int).set o2 (V.int ((r1[o2]?).getD 0+x))=(r1.set o2 ((r1[o2]?).getD 0+x)).map V.int:=by rw [Qef]
  rw [em2];have nst5:=nst4.put (r:=r1.set o2 ((r1[o2]?).getD 0+x)) epa;have gP5:=gP4.put (o2 :=.lst ((r1.set o2 ((r1[o2]?).getD 0+x)).map V.int)) nst4 pm;generalize r1.set o2 ((r1[o2]?).getD 0+x)=r2 at nst5 gP5 mv;rw [Qli] at nst5;have pne:a≠pa:=fun z=>na (z ▸ own.n);obtain ⟨fr1,fr2,fr3⟩:=nst5.frz (K:=K) gP5.fh;refine ⟨.ref ra,rfl,?_⟩;refine kk (qat (R.set st r2)) (.ref ra) _ _ ps3 p3 (nst5.goPF gP5 na K) (by rw [qi pne,qi pne];exact ha3) (ip3.mono fr1) fr3 (hq _ p3 ⟨hT.pos,fun r' hr'=>?_,fun r' hr'=>?_,fun r' hr'=>?_⟩ (by simp) hp3)
  ·rcases Y4 hr' with h|h
   ·exact hT.len r' h
   ·rw [h,mv.1];exact rl
  ·rcases Y4 hr' with h|h
   ·exact hT.nn r' h
   ·rw [h];exact mv.2.1
  ·rcases Y4 hr' with h|h
   ·exact hT.sum r' h
   ·rw [h,mv.2.2];exact hT.sum r rm
def qjk (ds0 ds:List Qh) (q:Qh->List Qh->Prop):Prop := ∃ (b:Int) (R:List (List Int)) (n:Nat) (most:Int),ds=[qaa b R,.int most]/\qcd ds0/\(Tab b R n/\2<=R.length/\R.length<=4/\1<=n/\n<=most/\most<=12/\b<=9999) /\ ∀ (c:Int) (S:List (List Int)) (k:Nat) (p:List Qh),Gls c S k->S.length=R.length->1<=k->k<=most->c<=40000->qcd p->q (qaa c S) p
def qci:FnScope [Sa,S4,Sv,"_law_way",Sf] [Sa,S4,Sv] (defScope qes):=sc0
def qrq (F:Def K mg Ut qes [Sa,S4,Sv]) (T:Txt K mg cs)
 (O__law_next:Ok P w K mg base Sz 2 [Sa,Sq] (NSp K qaw))
 (O__law_split:Ok P w K mg base S2 3 [Sa,Sf] (NSp K qfx))
 (O__law_table:Ok P w K mg base S3 4 [Sa,Sq,Sv,Ua] (NSp K qga))
 (O__law_made:Ok P w K mg base Uw 3 [Sf] (PSp K qku))
 (O__law_turned:Ok P w K mg base Ue 3 [Sa,Sf] (NSp K qid))
 (O__law_moved:Ok P w K mg base Us 3 [Sa,Sf] (NSp K qjw))
 : Ok P w K mg base Ut 5 [Sa,S4,Sv] (NSp K qjk):=by
  refine F.vokP qci (by rintro ds0 ds q ⟨_,_,_,_,h,_⟩;rw [h];rfl) (by decide) fun f cdv A outer s H E hr ds0 ds q h=>?_;obtain ⟨b,R,n,most,rfl,hP,⟨hT,r1,r2,n1,n2,o2,hb⟩,h⟩:=h;refine ⟨_,(qg (qt (i:=3) qci.nd (qay 0 O__law_next hr.m (qd qf qe)))
   (qg (qug (caps:=[]) (own:=[Su]) (ix:=[]) (i:=4) qci.nd rfl ⟨rfl,rfl,rfl,rfl,rfl,rfl⟩ (qY (qv (qc 1) qf)) (fun _ _ _ _=>(qp (i:=0) (show Ze ([Su]:List Str) by decide))) (fun _ _ _ _=>(qV (qmk zaat T.list_ L2.boot_list (qd (qc 0) qe)))))
   (qg (qcm (qK (qmf hr.units) (qc 3) qf) (qj (qC (qay 0 O__law_table hr.m (qd (qx qcf T.len_ L2.boot_len (qd (qc 4) qe)) (qd (qc 2) (qd qf qe)))))) qW)
   (qek (qcm (qK (qmf hr.units) (qc 3) qf) (qj (qt (i:=4) qci.nd (qay 0 O__law_moved hr.m (qd (qc 4) qe)))) qW)
   (qek (qcm (VW.pt (zajk (qK quk (qc 3) qf) (zabm (qK o_lt (qx qcf T.len_ L2.boot_len (qd (qv (qc 4) qf) qe)) (qc 2))))) (qj (qt (i:=4) qci.nd (qay 0 O__law_split hr.m (qd (qc 4) qe)))) qW)
   (qj (qC (qB O__law_made hr.m (qd (qay 0 O__law_turned hr.m (qd (qc 4) qe)) qe))))))))),?_⟩
  have bp:=hT.pos;refine ⟨rfl,rfl,4,rfl,hP,⟨by decide,by decide⟩,fun way p1 w0 w1 hp1=>?_⟩;refine ⟨_,rfl,qO (R.map qag) (by simp) (qo (by simp;omega)) (fun e => ∃ s,e=[s]) ⟨_,rfl⟩ ?_ ?_⟩
  ·rintro i x ys e hx hys ⟨s,rfl⟩;obtain ⟨r,hr',rfl⟩:=qfn hx;refine ⟨qq ?_ hys,_,rfl⟩;rw [Qa,hr'];rfl
  refine ⟨rfl,rfl,qgc (fun _=>?_) (fun h0=>?_)⟩
  ·have eL:(((R.map qag).length:Nat):Int)=(R.length:Int):=by simp
   exact ⟨rfl,rfl,_,most,12,rfl,hp1,⟨by omega,by omega,by omega,by omega,by decide,by decide⟩,fun c S k p G hc hl k1 k2 hp=>⟨_,_,rfl,rfl,h c S k p G (by omega) k1 k2 (by omega) hp⟩⟩
  refine ⟨fun e => ∃ (R2:List (List Int)) (p:List Qh),(qcd p/\Tab b R2 n/\R2.length=R.length)/\e=[.pen p,.val (qaa b R),.val (.int most),.val (.int way),.val (qat R2)],?_,?_⟩
  ·refine ⟨rfl,rfl,qgc (fun _=>?_) (fun _=>⟨R,p1,⟨hp1,hT,rfl⟩,rfl⟩)⟩;exact ⟨rfl,rfl,b,R,n,rfl,hp1,⟨hT,by omega,by omega,by omega,by omega,by omega⟩,fun R2 p hT2 hl hp=>⟨R2,p,⟨hp,hT2,hl⟩,rfl⟩⟩
  rintro e ⟨R2,p2,⟨hp2,hT2,l2⟩,rfl⟩;have hRn:R2≠[]:=fun z=>by rw [z] at l2;simp at l2;omega
  obtain ⟨r0,R0,eR⟩:=Qt hRn;have l0:r0.length=n:=hT2.len r0 (by rw [eR];simp);have aR:atI (R2.map qag) 0=some (qag r0):=by rw [eR];exact qbq _ _
  have eN:(((r0.map Q3).length:Nat):Int)=(n:Int):=by simp [l0]
  refine ⟨fun e => ∃ (c:Int) (k:Nat) (R3:List (List Int)) (p:List Qh),(qcd p/\Tab c R3 k/\R3.length=R.length/\c<=40000/\1<=k/\k<=most)/\e=[.pen p,.val (qaa b R),.val (.int most),.val (.int way),.val (qat R3)],?_,?_⟩
  ·refine qkj (fun _=>⟨_,aR,qkj (fun hm=>?_) (fun _=>⟨b,n,R2,p2,⟨hp2,hT2,l2,by omega,n1,n2⟩,rfl⟩)⟩) (fun _=>⟨b,n,R2,p2,⟨hp2,hT2,l2,by omega,n1,n2⟩,rfl⟩);rw [eN] at hm;exact ⟨rfl,rfl,b,R2,n,rfl,hp2,⟨hT2,by omega,by omega,by omega,by omega,by omega⟩,fun k R3 p k1 k2 hT3 hl hp=>⟨b*k,n+1,R3,p,⟨hp,hT3,by omega,by have:=Qdb k2 (show 0<=b by omega);omega,by omega,by omega⟩,rfl⟩⟩
  rintro e ⟨c,k,R3,p3,⟨hp3,hT3,l3,c4,k1,k2⟩,rfl⟩;refine ⟨rfl,rfl,c,R3,k,rfl,hp3,⟨hT3,by omega,by omega,by omega⟩,fun L p hL hp=>?_⟩;have hT4:=zamw hT3 hL;have l4:(R3.map fun r=>qpw r L).length=R.length:=by simp [l3]
  have n4:(R3.map fun r=>qpw r L)≠[]:=fun z=>by rw [z] at l4;simp at l4;omega
  refine ⟨c,_,k,rfl,⟨hT4,n4,by omega,by omega,by omega⟩,_,_,rfl,rfl,h _ _ k p (hT4.gls n4) (by simp [qdi,l3]) k1 k2 (Qjg (Qjt _ (by have:=hT4.pos;omega)) c4) hp⟩
section
variable {b:Int}{R:List (List Int)}{m:Nat}{c:Int}{S:List (List Int)}{n:Nat}{B:Int}{D:List (List Int)}
def qir {T:List (List Int)}{i j:Nat}{r:List Int}{x:Int} (h:T[i]?=some r) (k:r[j]?=some x):at2 T i j=x:=by
 unfold at2;rw [h];show (r[j]?).getD 0=x;rw [k];rfl
def qhs {T:List (List Int)} (h : ∀ r ∈ T,∀ x ∈ r,0<=x) (i j:Nat):0<=at2 T i j:=by
 unfold at2;cases e:T[i]? with
 | none=>exact Yk _
 | some r =>
  show 0<=(r[j]?).getD 0;cases e':r[j]? with
  | none=>exact Yk _
  | some x=>exact h r (Qg e) x (Qg e')
def zagx {r:List Int}{T:List (List Int)}{i:Nat} (h:T[i]?=some r):(qk r.length fun j=>at2 T i j)=r.sum:=by
 have e1:(Q1 r.length).map (fun j=>at2 T i j)=r:=by
  refine Zl fun j=>?_;rw [Qa];by_cases hj:j<r.length
  ·rw [Qn hj,Qc hj];show some (at2 T i j)=_;rw [qir h (Qc hj)]
  ·rw [Qo (l:=r) (by omega),Qo (by simp;omega)];rfl
 have e2:=qce (fun j=>at2 T i j) r.length;rw [e1] at e2;exact e2.symm
def Tab.rs {T:List (List Int)} (h:Tab B T n) {i:Nat} (hi:i<T.length):(qk n fun j=>at2 T i j)=B:=by
 have e:T[i]?=some T[i]:=Qc hi;rw [<- h.len _ (Q7 hi),zagx e,h.sum _ (Q7 hi)]
def mkT (m n:Nat) (f:Nat->Nat->Int):List (List Int):=(Q1 m).map fun i=>(Q1 n).map fun j=>f i j
def zaau {m n:Nat}{f:Nat->Nat->Int}{i j:Nat} (hi:i<m) (hj:j<n):at2 (mkT m n f) i j=f i j:=by
 refine qir (r:=(Q1 n).map fun j=>f i j) ?_ ?_
 ·unfold mkT;rw [Qa,Qn hi];rfl
 ·rw [Qa,Qn hj];rfl
def zach (m n:Nat) (f:Nat->Nat->Int):(mkT m n f).length=m:=by simp [mkT]
def zabk {m n:Nat}{f:Nat->Nat->Int}{B:Int} (hB:1<=B) (h0 : ∀ i j,i<m->j<n->0<=f i j) (hs : ∀ i,i<m->qk n (f i)=B):Tab B (mkT m n f) n where
 pos:=hB
 len:=fun r hr=>by
  obtain ⟨i,_,rfl⟩:=Qk.mp hr;simp
 nn:=fun r hr x hx=>by
  obtain ⟨i,hi,rfl⟩:=Qk.mp hr;obtain ⟨j,hj,rfl⟩:=Qk.mp hx;exact h0 i j (Zh.mp hi) (Zh.mp hj)
 sum:=fun r hr=>by
  obtain ⟨i,hi,rfl⟩:=Qk.mp hr;rw [qce];exact hs i (Zh.mp hi)
def qjr (p q:Nat) (f:Nat->Nat->Int):(qk p fun i=>qk q fun j=>f i j)=qk q fun j=>qk p fun i=>f i j:=by
 induction p with
 | zero=>exact (qae fun j _=>rfl).symm
 | succ p ih =>
  show (qk p fun i=>qk q fun j=>f i j)+qk q (fun j=>f p j)=qk q fun j=>(qk p fun i=>f i j)+f p j;rw [ih,qap]
def qmm {f g:Nat->Int} : ∀ {n:Nat},(∀ i,i<n->f i<=g i)->qk n f<=qk n g
 | 0,_=>Yk _
 | n+1,h=>by
  show qk n f+f n<=qk n g+g n;have a:=qmm (f:=f) (g:=g) (n:=n) fun i hi=>h i (by omega);have b:=h n (by omega);omega
def Dul.trans {d:Int}{T:List (List Int)}{p:Nat}{C:Int}{E:List (List Int)} (hc:0<c) (hSR:S.length=R.length) (h:Dul b R m c S n B D) (k:Dul c S n d T p C E) :
 Dul b R m d T p (B*C) (mkT m p fun i l=>qk n fun j=>at2 D i j*at2 E j l):=by
  have hB:=h.t.pos;have hC:=k.t.pos;have hBC:0<B*C:=Yl (by omega) (by omega);refine ⟨zabk (by omega) (fun i l hi hl=>qcw fun j hj=>Zn (qhs h.t.nn i j) (qhs k.t.nn j l)) (fun i hi=>?_),zach ..,fun s l hs hl=>?_⟩
  ·rw [qjr,qh (g:=fun j=>C*at2 D i j) fun j hj=>?_,qr,h.t.rs (by rw [h.l];exact hi),Zu];rw [qr,k.t.rs (by rw [k.l];exact hj),Zu]
  ·have e1:(qk m fun i=>at2 R s i*at2 (mkT m p fun i l=>qk n fun j=>at2 D i j*at2 E j l) i l)=qk n fun j=>at2 E j l*qk m fun i=>at2 R s i*at2 D i j:=by
    have a:(qk m fun i=>at2 R s i*at2 (mkT m p fun i l=>qk n fun j=>at2 D i j*at2 E j l) i l)=qk m fun i=>qk n fun j=>at2 E j l*(at2 R s i*at2 D i j):=qh fun i hi=>by
     rw [zaau hi hl,<- qr];exact qh fun j _=>by grind
    rw [a,qjr];exact qh fun j _=>by rw [qr]
   rw [e1];have e2:c*(qk n fun j=>at2 E j l*qk m fun i=>at2 R s i*at2 D i j)=b*B*qk n fun j=>at2 S s j*at2 E j l:=by
    rw [<- qr,<- qr];refine qh fun j hj=>?_;have:=h.e s j hs hj
    calc c*(at2 E j l*qk m fun i=>at2 R s i*at2 D i j)=at2 E j l*(c*qk m fun i=>at2 R s i*at2 D i j):=by grind
     _=at2 E j l*(at2 S s j*b*B):=by rw [this]
     _=_:=by grind
   have e3:=k.e s l (by rw [hSR];exact hs) hl;have:c*(d*qk n fun j=>at2 E j l*qk m fun i=>at2 R s i*at2 D i j)=c*(at2 T s l*b*(B*C)):=by
    calc c*(d*qk n fun j=>at2 E j l*qk m fun i=>at2 R s i*at2 D i j)=d*(c*qk n fun j=>at2 E j l*qk m fun i=>at2 R s i*at2 D i j):=by grind
     _=b*B*(d*qk n fun j=>at2 S s j*at2 E j l):=by rw [e2];grind
     _=b*B*(at2 T s l*c*C):=by rw [e3]
     _=_:=by grind
   exact Zi (by omega) this
def Dul.pick {f:Nat->Nat} (hf : ∀ i,i<m->f i<n) (h : ∀ s j,s<R.length->j<n->c*(qk m fun i=>at2 R s i*if f i=j then 1 else 0)=at2 S s j*b):Dul b R m c S n 1 (mkT m n fun i j=>if f i=j then 1 else 0):=by
 refine ⟨zabk (by decide) (fun i j _ _=>by split <;> decide) (fun i hi=>?_),zach ..,fun s j hs hj=>?_⟩
 ·rw [qL (hf i hi) fun j _ ne=>if_neg (Z0 ne),if_pos rfl]
 ·rw [Qcj,<- h s j hs hj]
  congr 1
  exact qh fun i hi=>by rw [zaau hi hj]
def Dul.same {b b':Int}{R R':List (List Int)}{m:Nat} (h : ∀ s j,s<R.length->j<m->b'*at2 R s j=at2 R' s j*b):Dul b R m b' R' m 1 (mkT m m fun i j=>if i=j then 1 else 0) :=
 Dul.pick (f:=id) (fun i hi=>hi) fun s j hs hj=>by
  rw [qL hj fun i _ ne=>by rw [if_neg (show ¬ id i=j from ne),Y2],if_pos (show id j=j from rfl),Qcj,h s j hs hj]
end
def zana {R:List (List Int)}{g:Int} (g0:g≠0) (h : ∀ r ∈ R,∀ x ∈ r,g∣x) (s j:Nat):g*at2 (qdi R g) s j=at2 R s j:=by
 unfold at2 qdi;rw [Qa];cases e:R[s]? with
 | none=>simp
 | some r =>
  show g*((r.map fun n=>n/g)[j]?).getD 0=(r[j]?).getD 0;rw [Qa];cases e':r[j]? with
  | none=>simp
  | some x=>exact Yb (h r (Qg e) x (Qg e'))
def zail {b:Int}{R:List (List Int)}{m:Nat} (h:Tab b R m) (hn:R≠[]) : ∃ g:Int,0<g/\g*(b/qac R)=b /\ ∀ s j,g*at2 (qdi R (qac R)) s j=at2 R s j:=by
 have g0:=h.gpos hn;exact ⟨qac R,by omega,Yb (h.gdvd hn),zana (by omega) fun r hr x hx=>qgm hr hx⟩
def sc (k:Int) (R:List (List Int)):List (List Int):=R.map fun r=>r.map fun n=>k*n
def zaql {k:Int} (hk:0<k) (R:List (List Int)) (g:Int):qdi (sc k R) (k*g)=qdi R g:=by
 unfold qdi sc;rw [Zy];refine Z9 fun r _=>?_;simp only [Qlf,Zy];refine Z9 fun n _=>?_;simp only [Qlf];exact Qfn _ _ hk
def sc_g {k:Int} (hk:0<k) (R:List (List Int)):(qac (sc k R):Int)=k*qac R:=by
 obtain ⟨n,rfl⟩:=Zt (Vu hk);unfold sc;rw [qxk n R,Qal]
def zaim {k b:Int} (hk:0<k) (R:List (List Int)):lowT (k*b) (sc k R)=lowT b R:=by
 unfold lowT;rw [sc_g hk,zaql hk,Qfn _ _ hk]
def zadk {k l b c:Int}{R S:List (List Int)} (hk:0<k) (hl:0<l) (h1:k*b=l*c) (h2:sc k R=sc l S):lowT b R=lowT c S:=by
 have e1:=zaim (b:=b) hk R;have e2:=zaim (b:=c) hl S;rw [h1,h2] at e1;exact e1.symm.trans e2
section
variable {b:Int}{R:List (List Int)}{m:Nat}{c:Int}{S:List (List Int)}{n:Nat}{B:Int}{D:List (List Int)}{d:Int}{T:List (List Int)}{p:Nat}
def qfh {s j:Nat}{r:List Int} (h:T[s]?=some r):at2 T s j=(r[j]?).getD 0:=by
 unfold at2;rw [h];rfl
end
section
variable {b:Int}{R:List (List Int)}{m:Nat}{c:Int}{S:List (List Int)}{n:Nat}{B:Int}{D:List (List Int)}{b' c':Int}{R' S':List (List Int)}
end
def qyh {gs:List (List Int×List Nat)}{k:List Int}{s t:Nat} (h:(∃ x ∈ gs,s ∈ x.2)\/s=t) : ∃ x ∈ qos gs k t,s ∈ x.2:=by
 unfold qos;split
 ·rename_i ha;rcases h with ⟨x,hx,hs⟩|rfl
  ·refine ⟨_,Qk.mpr ⟨x,hx,rfl⟩,?_⟩;split
   ·exact Ya _ hs
   ·exact hs
  ·obtain ⟨x,hx,e⟩:=Yn.mp ha;refine ⟨_,Qk.mpr ⟨x,hx,rfl⟩,?_⟩;rw [if_pos (of_decide_eq_true e)];simp
 ·rcases h with ⟨x,hx,hs⟩|rfl
  ·exact ⟨x,Ya _ hx,hs⟩
  ·exact ⟨_,Q8 _ (Qy.mpr rfl),by simp⟩
def zaaw (R:List (List Int)) : ∀ n s,s<n->(qT R s).any (· != 0)=true -> ∃ x ∈ grs R n,s ∈ x.2
 | 0,s,h,_=>by omega
 | n+1,s,h,ea=>by
  unfold grs;by_cases e:s=n
  ·subst e;rw [if_pos ea];exact qyh (.inr rfl)
  ·have ih:=zaaw R n s (by omega) ea;split
   ·exact qyh (.inl ih)
   ·exact ih
def qwd (R:List (List Int)) : ∀ n,∀ x ∈ grs R n,x.2.Nodup
 | 0,x,hx=>by cases hx
 | n+1,x,hx=>by
  unfold grs at hx;split at hx
  ·unfold qos at hx;split at hx
   ·obtain ⟨y,hy,rfl⟩:=Qk.mp hx;have ih:=qwd R n y hy;have lt:=qoj R n y hy;split
    ·refine Qas.mpr ⟨ih,by simp,fun a ha b hb=>?_⟩;have:=lt a ha;have:=Qy.mp hb;omega
    ·exact ih
   ·rcases Zf.mp hx with z|z
    ·exact qwd R n x z
    ·rw [Qy.mp z];simp
  ·exact qwd R n x hx
structure GsPart (R:List (List Int)) (n:Nat) (Gs:List (List Nat)):Prop where
 nd : ∀ G ∈ Gs,G.Nodup
 all : ∀ s,s<n->(qT R s).any (· != 0)=true -> ∃ G ∈ Gs,s ∈ G
 one : ∀ (a b:Nat) (G G':List Nat) (s:Nat),Gs[a]?=some G->Gs[b]?=some G'->s ∈ G->s ∈ G'->a=b
 pr : ∀ G ∈ Gs,∀ s ∈ G,Col (qT R s)/\nrm (qT R s)=nrm (jc R G)
def zakh {R:List (List Int)} (hn : ∀ r ∈ R,∀ x ∈ r,0<=x) {n:Nat}{p:Array Nat} (hp:PmN (grs R n).length p):GsPart R n (p.toList.map fun i=>qdh R n i):=by
 have pm:=zajl hp fun i=>qdh R n i;rw [qst] at pm;have h:=qlf hn n;have mem : ∀ G ∈ p.toList.map (fun i=>qdh R n i),∃ x ∈ grs R n,x.2=G:=fun G hG=>Qk.mp (pm.mem_iff.mp hG);have nd:p.toList.Nodup:=hp.p.nodup_iff.mpr Qfu;refine ⟨fun G hG=>?_,fun s hs ea=>?_,fun a b G G' s ea eb ha hb=>?_,fun G hG s hs=>?_⟩
 ·obtain ⟨x,hx,rfl⟩:=mem G hG;exact qwd R n x hx
 ·obtain ⟨x,hx,hs⟩:=zaaw R n s hs ea;exact ⟨x.2,pm.mem_iff.mpr (Qk.mpr ⟨x,hx,rfl⟩),hs⟩
 ·rw [Qa] at ea eb;cases e1:p.toList[a]? with
  | none=>rw [e1] at ea;cases ea
  | some i =>
   cases e2:p.toList[b]? with
   | none=>rw [e2] at eb;cases eb
   | some j =>
    rw [e1] at ea;rw [e2] at eb;cases ea;cases eb;have hi:i<(grs R n).length:=Zh.mp (hp.p.mem_iff.mp (Qg e1));have hj:j<(grs R n).length:=Zh.mp (hp.p.mem_iff.mp (Qg e2));have gi : ∀ {i:Nat} (hi:i<(grs R n).length),qdh R n i=(grs R n)[i].2:=fun {i} hi=>by unfold qdh;rw [Qc hi];rfl
    have ha:s ∈ qdh R n i:=ha;have hb:s ∈ qdh R n j:=hb;rw [gi hi] at ha;rw [gi hj] at hb;have k1:=(h.me _ (Q7 hi) s ha).2;have k2:=(h.me _ (Q7 hj) s hb).2;have ij:i=j:=by
     have q:(grs R n)[i].1=(grs R n)[j].1:=k1.symm.trans k2;have z:=h.ky;refine (Qar (i:=i) (j:=j) (by simpa using hi) z).mp ?_;rw [Qa,Qa,Qc hi,Qc hj];exact congrArg some q
    subst ij;exact (Qar (Qm.mp e1).1 nd).mp (e1.trans e2.symm)
 ·obtain ⟨x,hx,rfl⟩:=mem G hG;obtain ⟨c,e⟩:=h.me x hx s hs;exact ⟨c,e.trans (qwf (h.ne x hx) (h.me x hx)).1.symm⟩
def qqm (r:List Int) {n:Nat} : ∀ {G:List Nat},G.Nodup->(∀ s ∈ G,s<n)->qdg r G=qk n fun i=>if i ∈ G then (r[i]?).getD 0 else 0
 | [],_,_=>by rw [qae fun i _=>by rw [if_neg (by simp)]];simp [qdg]
 | s::G,nd,lt=>by
  rw [Jl] at nd;have ih:=qqm r (n:=n) nd.2 fun x hx=>lt x (Qu _ hx);have e:qdg r (s::G)=(r[s]?).getD 0+qdg r G:=by unfold qdg;rw [Q2,Za]
  have q:(qk n fun i=>if i ∈ s::G then (r[i]?).getD 0 else 0)=qk n fun i=>(if i=s then (r[i]?).getD 0 else 0)+if i ∈ G then (r[i]?).getD 0 else 0:=qh fun i _=>by
   by_cases e1:i=s
   ·subst e1;rw [if_pos (by simp),if_pos rfl,if_neg nd.1,Int.add_zero]
   ·rw [if_neg e1,Vk];by_cases e2:i ∈ G
    ·rw [if_pos (Qu _ e2),if_pos e2]
    ·rw [if_neg (by simp [e1,e2]),if_neg e2]
  rw [e,ih,q,qap,qL (lt s (by simp)) fun i _ ne=>if_neg ne,if_pos rfl]
def qvc {R:List (List Int)}{Gs:List (List Nat)}{s l:Nat}{r:List Int}{G:List Nat} (hs:R[s]?=some r) (hl:Gs[l]?=some G):at2 (R.map (qao Gs)) s l=qdg r G:=by
 refine qir (r:=qao Gs r) (by rw [Qa,hs];rfl) ?_;unfold qao;rw [Qa,hl];rfl
def zaji {R:List (List Int)}{i s:Nat} (h : ¬ (qT R i).any (· != 0)=true) (hs:s<R.length):at2 R s i=0:=by
 have e:R[s]?=some R[s]:=Qc hs;rw [qfh e];refine Yp fun z=>h (Yn.mpr ⟨_,?_,by simpa using z⟩);unfold qT;exact Qk.mpr ⟨_,Q7 hs,rfl⟩
def qke {Gs:List (List Nat)}{s:Nat} (h : ∃ G ∈ Gs,s ∈ G) : ∃ G,Gs[qbv Gs s]?=some G/\s ∈ G:=by
 unfold qbv;cases e:Gs.findIdx? (fun G=>G.contains s) with
 | none =>
  rw [Qer] at e;obtain ⟨G,hG,hs⟩:=h;have:=e G hG;simp at this;exact (this hs).elim
 | some i =>
  rw [Qby] at e;obtain ⟨hi,q,_⟩:=e;exact ⟨Gs[i],Qc hi,by simpa using q⟩
def qzv {Gs:List (List Nat)}{s:Nat} (h:Gs≠[]):qbv Gs s<Gs.length:=by
 by_cases e : ∃ G ∈ Gs,s ∈ G
 ·obtain ⟨G,hG,_⟩:=qke e;exact (Qm.mp hG).1
 ·rw [qkx fun G hG z=>e ⟨G,hG,z⟩];exact Qhv.mpr h
section
variable {b:Int}{R:List (List Int)}{n:Nat}{Gs:List (List Nat)}
def zasj (hT:Tab b R n) (hR:R≠[]) (g:GsOk R n Gs):Gs≠[]:=fun z=>by
 obtain ⟨r,R',rfl⟩:=Qt hR;have:=g.sum r (by simp) (hT.len r (by simp));rw [z,hT.sum r (by simp)] at this;have:=hT.pos;simp at *;omega
def qmt (hT:Tab b R n) (hR:R≠[]) (g:GsOk R n Gs) (h:GsPart R n Gs):Dul b R n b (R.map (qao Gs)) Gs.length 1 (mkT n Gs.length fun i j=>if qbv Gs i=j then 1 else 0):=by
 refine Dul.pick (fun i hi=>qzv (zasj hT hR g)) fun s l hs hl=>?_;have e1:R[s]?=some R[s]:=Qc hs;have e2:Gs[l]?=some Gs[l]:=Qc hl;have m2:=Q7 hl;rw [qvc e1 e2,qqm R[s] (n:=n) (h.nd _ m2) (g.lt _ m2),Zu]
 congr 1
 refine qh fun i hi=>?_;rw [qfh e1];by_cases hm:i ∈ Gs[l]
 ·have:qbv Gs i=l:=by
   obtain ⟨G,hG,hi'⟩:=qke ⟨_,m2,hm⟩;exact h.one _ _ _ _ i hG e2 hi' hm
  rw [if_pos hm,if_pos this,Qcj]
 ·rw [if_neg hm];by_cases hp:qbv Gs i=l
  ·rw [if_pos hp,Qcj];have:=zaji (R:=R) (i:=i) (s:=s) (fun ea=>hm ?_) hs
   ·rw [qfh e1] at this;exact this
   ·obtain ⟨G,hG,hi'⟩:=qke (h.all i hi ea);rw [hp,e2] at hG;cases hG;exact hi'
  ·rw [if_neg hp,Y2]
def zanj (h:GsPart R n Gs) (g:GsOk R n Gs) {G:List Nat} (hG:G ∈ Gs) {i:Nat} (hi:i ∈ G) {s:Nat}{r:List Int} (hs:R[s]?=some r):qdg r G*(qT R i).sum=(r[i]?).getD 0*(jc R G).sum:=by
 obtain ⟨c,e⟩:=h.pr G hG i hi;have pr:=qyw e;have k1:(jc R G)[s]?=some (qdg r G):=by unfold jc;rw [Qa,hs];rfl
 have k2:(qT R i)[s]?=some ((r[i]?).getD 0):=by unfold qT;rw [Qa,hs];rfl
 have key : ∀ (u v:List Int) (x y:Int),u.length=v.length->(∀ (j:Nat) (a d:Int),u[j]?=some a->v[j]?=some d->x*a=y*d)->x*u.sum=y*v.sum:=by
  intro u
  induction u with
  | nil=>intro v x y hl _;cases v with
   | nil=>simp
   | cons _ _=>simp at hl
  | cons a u ih =>
   intro v x y hl hh;cases v with
   | nil=>simp at hl
   | cons d v =>
    rw [Za,Za,Qco,Qco,hh 0 a d rfl rfl,ih v x y (by simpa using hl) fun j a d h1 h2=>hh (j+1) a d (by simpa using h1) (by simpa using h2)]
 refine key _ _ _ _ (by unfold qT jc;rw [Qf,Qf]) fun j a d ha hd=>?_;have:=pr s j _ _ _ _ k2 ha k1 hd;grind
def qki (hT:Tab b R n) (hR:R≠[]) (g:GsOk R n Gs) (h:GsPart R n Gs) {B:Int} (B0:0<B) (hdv : ∀ r ∈ Gs.map (fun G=>qH R G n),∀ x ∈ r,x.2∣B):Dul b (R.map (qao Gs)) Gs.length b R n B ((Gs.map fun G=>qH R G n).map (qX B)):=by
 have jp : ∀ G ∈ Gs,0<(jc R G).sum:=fun G hG=>(qoi hT g hG).1;have atD : ∀ {l i:Nat}{G:List Nat},Gs[l]?=some G->i<n->at2 ((Gs.map fun G=>qH R G n).map (qX B)) l i*(jc R G).sum=B*qM R G i:=fun {l i G} hl hi=>by
  have hG:=Qg hl;have w0:=jp G hG;obtain ⟨s1,e1⟩:=qvv (t:=qM R G i) (b:=(jc R G).sum) (by omega);have dv:shB (qM R G i) (jc R G).sum∣B:=hdv _ (Qk.mpr ⟨G,hG,rfl⟩) (shT (qM R G i) (jc R G).sum,shB (qM R G i) (jc R G).sum) (Qk.mpr ⟨i,Zh.mpr hi,rfl⟩);rw [qir (r:=qX B (qH R G n)) (x:=shT (qM R G i) (jc R G).sum*(B/shB (qM R G i) (jc R G).sum)) (by rw [Qa,Qa,hl];rfl) (by unfold qX qH;rw [Qa,Qa,Qn hi];rfl)];have q1:=s1.pos;have e2:=Yb dv;generalize shT (qM R G i) (jc R G).sum=x at *;generalize shB (qM R G i) (jc R G).sum=y at *;generalize B/y=k at *;rw [<- e2];grind
 have tsum : ∀ G ∈ Gs,(qk n fun i=>qM R G i)=(jc R G).sum:=fun G hG=>by
  have e:(qk n fun i=>qM R G i)=qk n fun i=>qk R.length fun s=>if i ∈ G then at2 R s i else 0:=qh fun i hi=>by
   unfold qM;split
   ·unfold qT;rw [<- qce]
    congr 1
    refine Zl fun s=>?_;rw [Qa,Qa];by_cases hs:s<R.length
    ·rw [Qn hs,Qc hs];show some _=some (at2 R s i);rw [qfh (Qc hs)]
    ·rw [Qo (by omega),Qo (by simp;omega)];rfl
   ·exact (qae fun _ _=>rfl).symm
  rw [e,qjr];unfold jc;rw [<- qce]
  congr 1
  refine Zl fun s=>?_;rw [Qa,Qa];by_cases hs:s<R.length
  ·rw [Qn hs,Qc hs];show some _=some (qdg R[s] G);rw [qqm R[s] (n:=n) (h.nd G hG) (g.lt G hG)];refine congrArg some (qh fun i hi=>?_);rw [qfh (Qc hs)]
  ·rw [Qo (l:=R) (by omega),Qo (by simp;omega)];rfl
 have rowOf : ∀ r ∈ (Gs.map fun G=>qH R G n).map (qX B),∃ (l:Nat) (G:List Nat),Gs[l]?=some G/\r=(Q1 n).map fun i=>at2 ((Gs.map fun G=>qH R G n).map (qX B)) l i:=fun r hr=>by
  obtain ⟨l,hl⟩:=Qcw.mp hr;rw [Zy,Qa] at hl;cases e:Gs[l]? with
  | none=>rw [e] at hl;cases hl
  | some G =>
   rw [e] at hl;cases hl;refine ⟨l,G,e,Zl fun i=>?_⟩;show (qX B (qH R G n))[i]?=_;rw [Qa];by_cases hi:i<n
   ·rw [Qn hi];have g1:(qX B (qH R G n))[i]?=some (shT (qM R G i) (jc R G).sum*(B/shB (qM R G i) (jc R G).sum)):=by unfold qX qH;rw [Qa,Qa,Qn hi];rfl
    rw [g1,<- qir (T:=(Gs.map fun G=>qH R G n).map (qX B)) (i:=l) (by rw [Qa,Qa,e];rfl) g1];rfl
   ·rw [Qo (by unfold qX qH;simp;omega),Qo (by simp;omega)];rfl
 refine ⟨⟨by omega,fun r hr=>?_,fun r hr x hx=>?_,fun r hr=>?_⟩,by simp,fun s i hs hi=>?_⟩
 ·obtain ⟨l,G,hl,e⟩:=rowOf r hr;rw [e];simp
 ·obtain ⟨l,G,hl,e⟩:=rowOf r hr;rw [e] at hx;obtain ⟨i,hi,rfl⟩:=Qk.mp hx;have k:=atD hl (Zh.mp hi);have w0:=jp G (Qg hl);have t0:=(zajc hT G i).1;have:0*(jc R G).sum<=at2 ((Gs.map fun G=>qH R G n).map (qX B)) l i*(jc R G).sum:=by rw [k,Vj];exact Zn (by omega) t0
  exact Int.le_of_mul_le_mul_right this w0
 ·obtain ⟨l,G,hl,e⟩:=rowOf r hr;have hG:=Qg hl;have w0:=jp G hG;rw [e,qce];have:(jc R G).sum*(qk n fun i=>at2 ((Gs.map fun G=>qH R G n).map (qX B)) l i)=(jc R G).sum*B:=by
   rw [<- qr,qh (g:=fun i=>B*qM R G i) fun i hi=>by rw [Zu];exact atD hl hi,qr,tsum G hG,Zu]
  exact Zi (by omega) this
 ·have hs':s<R.length:=by simpa using hs
  have e1:R[s]?=some R[s]:=Qc hs';rw [qfh e1];by_cases ea:(qT R i).any (· != 0)=true
  ·obtain ⟨G,hG,hm⟩:=h.all i hi ea;obtain ⟨l,hl⟩:=Qcw.mp hG;have ll:=(Qm.mp hl).1;have w0:=jp G hG;rw [qL ll fun l' hl' ne=>?_]
   ·rw [qvc e1 hl];have k1:=atD hl hi;have k2:=zanj h g hG hm e1;have k3:qM R G i=(qT R i).sum:=if_pos hm;rw [k3] at k1;refine Yi (show (jc R G).sum≠0 by omega) ?_;generalize at2 ((Gs.map fun G=>qH R G n).map (qX B)) l i=x at *;generalize (jc R G).sum=w at *
    calc b*(qdg R[s] G*x)*w=b*(qdg R[s] G*(x*w)):=by grind
     _=b*B*(qdg R[s] G*(qT R i).sum):=by rw [k1];grind
     _=_:=by rw [k2];grind
   ·have el:Gs[l']?=some Gs[l']:=Qc hl';have k1:=atD el hi;have nm:i ∉ Gs[l']:=fun z=>ne (h.one _ _ _ _ i el hl z hm);rw [show qM R Gs[l'] i=0 from if_neg nm,Y2] at k1;have w1:=jp _ (Q7 hl');rcases Qam.mp k1 with z|z
    ·rw [z,Y2]
    ·omega
  ·have z:=zaji ea hs';rw [qfh e1] at z;rw [z,Vj,Vj,qae fun l hl=>?_,Y2];have el:Gs[l]?=some Gs[l]:=Qc hl;have k1:=atD el hi;have pz:qM R Gs[l] i=0:=by
    unfold qM;split
    ·rename_i hm;obtain ⟨⟨_,x,hx,nx⟩,_⟩:=h.pr _ (Q7 hl) i hm;exact (ea (Yn.mpr ⟨x,hx,by simpa using nx⟩)).elim
    ·rfl
   rw [pz,Y2] at k1;have w1:=jp _ (Q7 hl);rcases Qam.mp k1 with z2|z2
   ·rw [z2,Y2]
   ·omega
end
def qlr {f:Nat->Int} : ∀ {n:Nat},(∀ i,i<n->0<=f i)->qk n f=0 -> ∀ i,i<n->f i=0
 | 0,_,_,i,hi=>by omega
 | n+1,h0,hs,i,hi=>by
  have e:qk (n+1) f=qk n f+f n:=by
   have:=qin f n 1;rw [this];show _+(0+f (n+0))=_;rw [Vk,Nat.add_zero]
  have a:=qcw (f:=f) (n:=n) fun k hk=>h0 k (by omega);have b:=h0 n (by omega);by_cases z:i=n
  ·subst z;omega
  ·exact qlr (n:=n) (fun k hk=>h0 k (by omega)) (by omega) i (by omega)
def qva (w:Nat->Int) : ∀ m:Nat,(∀ i,i<m->0<w i) -> ∃ Q:Int,0<Q /\ ∀ i,i<m->w i∣Q
 | 0,_=>⟨1,by decide,fun i hi=>by omega⟩
 | m+1,h=>by
  obtain ⟨Q,q0,hQ⟩:=qva w m fun i hi=>h i (by omega);refine ⟨Q*w m,Yl q0 (h m (by omega)),fun i hi=>?_⟩;by_cases z:i=m
  ·subst z;exact Qjs _ _
  ·exact Vs (hQ i (by omega)) (Qix _ _)
def zalt {w q x:Nat->Int}{M:Nat->Nat->Int}{m:Nat}{N Q:Int} (hM : ∀ i j,i<m->j<m->0<=M i j) (hr : ∀ i,i<m->qk m (M i)=N) (hw : ∀ j,j<m->(qk m fun i=>w i*M i j)=N*w j) (hx : ∀ j,j<m->(qk m fun i=>x i*M i j)=N*x j)
 (w0 : ∀ i,i<m->0<w i) (hq : ∀ i,i<m->w i*q i=Q) : ∀ i j,i<m->j<m->0<M i j->x i*q i=x j*q j:=by
  obtain ⟨y,ey⟩ : ∃ y:Nat->Int,y=fun i=>x i*q i:=⟨_,rfl⟩
  have wy : ∀ i,i<m->w i*y i=Q*x i:=fun i hi=>by rw [ey,<- hq i hi];grind
  have t1:(qk m fun i=>qk m fun j=>w i*(y i*y i)*M i j)=N*qk m fun i=>w i*(y i*y i):=by
   rw [<- qr];exact qh fun i hi=>by rw [qr,hr i hi,Zu]
  have t2:(qk m fun i=>qk m fun j=>y j*y j*(w i*M i j))=N*qk m fun i=>w i*(y i*y i):=by
   rw [qjr,<- qr];exact qh fun j hj=>by rw [qr,hw j hj];grind
  have t3:(qk m fun i=>qk m fun j=>Q*y j*(x i*M i j))=N*qk m fun i=>w i*(y i*y i):=by
   rw [qjr,<- qr];refine qh fun j hj=>?_;rw [qr,hx j hj];have:=wy j hj
   calc Q*y j*(N*x j)=N*(y j*(Q*x j)):=by grind
    _=N*(y j*(w j*y j)):=by rw [this]
    _=_:=by grind
  have tot:(qk m fun i=>qk m fun j=>w i*M i j*((y i-y j)*(y i-y j)))=0:=by
   have e:(qk m fun i=>qk m fun j=>w i*M i j*((y i-y j)*(y i-y j)))=qk m fun i=>(qk m fun j=>w i*(y i*y i)*M i j)+((qk m fun j=>y j*y j*(w i*M i j)) + -2*qk m fun j=>Q*y j*(x i*M i j)):=qh fun i hi=>by
    rw [<- qr (-2),<- qap,<- qap];refine qh fun j hj=>?_;have:=wy i hi
    calc w i*M i j*((y i-y j)*(y i-y j))=w i*(y i*y i)*M i j+(y j*y j*(w i*M i j) + -2*((w i*y i)*y j*M i j)):=by grind
     _=w i*(y i*y i)*M i j+(y j*y j*(w i*M i j) + -2*((Q*x i)*y j*M i j)):=by rw [this]
     _=_:=by grind
   rw [e,qap,qap,qr,t1,t2,t3];omega
  intro i j hi hj pos;have n0 : ∀ i j,i<m->j<m->0<=w i*M i j*((y i-y j)*(y i-y j)):=fun i j hi hj=>Zn (Zn (Vu (w0 i hi)) (hM i j hi hj)) (by
   rcases Int.le_total 0 (y i-y j) with h|h
   ·exact Zn h h
   ·exact Jb h h)
  have z:=qlr (fun j hj=>n0 i j hi hj) (qlr (fun i hi=>qcw fun j hj=>n0 i j hi hj) tot i hi) j hj;rcases Qam.mp z with z|z
  ·have:=Yl (w0 i hi) pos;omega
  ·have:y i=y j:=by rcases Qam.mp z with z|z <;> omega
   rw [ey] at this;exact this
def qge (J:List (List Int)) (i:Nat):Int:=qk J.length fun s=>at2 J s i
structure Ind (J:List (List Int)) (m:Nat):Prop where
 p : ∀ i,i<m->0<qge J i
 d : ∀ i j,i<m->j<m->(∀ s,s<J.length->at2 J s i*qge J j=at2 J s j*qge J i)->i=j
section
variable {b c:Int}{J K:List (List Int)}{m n:Nat}{B C:Int}{D E:List (List Int)}
def zadm (hJ:Tab b J m) (sJ:Ind J m) (h:Dul b J m b J m B D) : ∀ i j,i<m->j<m->i≠j->at2 D i j=0:=by
 have b0:=hJ.pos;have hx : ∀ s,s<J.length -> ∀ j,j<m->(qk m fun i=>at2 J s i*at2 D i j)=B*at2 J s j:=fun s hs j hj=>by
  refine Zi (show b≠0 by omega) ?_;rw [h.e s j hs hj];grind
 have hw : ∀ j,j<m->(qk m fun i=>qge J i*at2 D i j)=B*qge J j:=fun j hj=>by
  unfold qge;rw [<- qr];have e:(qk m fun i=>(qk J.length fun s=>at2 J s i)*at2 D i j)=qk m fun i=>qk J.length fun s=>at2 J s i*at2 D i j:=qh fun i hi=>by
   rw [Zu,<- qr];exact qh fun s hs=>Zu _ _
  rw [e,qjr];exact qh fun s hs=>hx s hs j hj
 obtain ⟨Q,Q0,hQ⟩:=qva (qge J) m sJ.p;intro i j hi hj ne;have nn:=qhs h.t.nn i j;rcases Qil nn with pos|z
 ·exfalso;refine ne (sJ.d i j hi hj fun s hs=>?_);have e:=zalt (w:=qge J) (q:=fun i=>Q/qge J i) (x:=fun i=>at2 J s i) (M:=fun i j=>at2 D i j) (N:=B) (Q:=Q) (fun i j _ _=>qhs h.t.nn i j) (fun i hi=>h.t.rs (by rw [h.l];exact hi)) hw (hx s hs) sJ.p (fun i hi=>Yb (hQ i hi)) i j hi hj pos;have e:at2 J s i*(Q/qge J i)=at2 J s j*(Q/qge J j):=e;have q1:=Yb (hQ i hi);have q2:=Yb (hQ j hj);refine Yi (show Q≠0 by omega) ?_
  calc at2 J s i*qge J j*Q=at2 J s i*qge J j*(qge J i*(Q/qge J i)):=by rw [q1]
   _=at2 J s i*(Q/qge J i)*qge J i*qge J j:=by grind
   _=at2 J s j*(Q/qge J j)*qge J i*qge J j:=by rw [e]
   _=at2 J s j*qge J i*(qge J j*(Q/qge J j)):=by grind
   _=_:=by rw [q2]
 ·exact z.symm
def qpm (hJ:Tab b J m) (hK:Tab c K n) (hl:K.length=J.length) (sJ:Ind J m) (d:Dul b J m c K n B D) (e:Dul c K n b J m C E) : ∀ i k,i<m->k<n->0<at2 D i k->at2 E k i=C:=by
 intro i k hi hk pos;have c0:=hK.pos;have t:=d.trans (by omega) hl e;have z : ∀ j,j<m->j≠i->at2 E k j=0:=fun j hj ne=>by
  have:=zadm hJ sJ t i j hi hj (Z0 ne);rw [zaau hi hj] at this;have:=qlr (fun k hk=>Zn (qhs d.t.nn i k) (qhs e.t.nn k j)) this k hk;rcases Qam.mp this with z|z
  ·omega
  ·exact z
 have r:=e.t.rs (i:=k) (by rw [e.l];exact hk);rw [qL hi fun j hj ne=>z j hj ne] at r;exact r
def zaay {T:List (List Int)} (hT:Tab B T n) {i:Nat} (hi:i<T.length) : ∃ k,k<n/\0<at2 T i k:=by
 have r:=hT.rs hi;have:=hT.pos;exact qio (f:=fun k=>at2 T i k) (by omega)
def zahv (hJ:Tab b J m) (hK:Tab c K n) (hl:K.length=J.length) (sJ:Ind J m) (sK:Ind K n) (d:Dul b J m c K n B D) (e:Dul c K n b J m C E) :
 ∃ π:Nat->Nat,(∀ i,i<m->π i<n)/\(∀ k,k<n -> ∃ i,i<m/\π i=k)/\(∀ i i',i<m->i'<m->π i=π i'->i=i') /\ ∀ s i,s<J.length->i<m->c*at2 J s i=b*at2 K s (π i):=by
  have bw:=qpm hJ hK hl sJ d e;have bw':=qpm hK hJ hl.symm sK e d;have B0:=d.t.pos;have C0:=e.t.pos;have ex : ∀ i,∃ k,i<m->k<n/\0<at2 D i k:=fun i=>by
   by_cases hi:i<m
   ·obtain ⟨k,hk,p⟩:=zaay d.t (i:=i) (by rw [d.l];exact hi);exact ⟨k,fun _=>⟨hk,p⟩⟩
   ·exact ⟨0,fun h=>(hi h).elim⟩
  obtain ⟨π,hπ⟩ : ∃ π:Nat->Nat,∀ i,i<m->π i<n/\0<at2 D i (π i):=⟨fun i=>Classical.choose (ex i),fun i hi=>Classical.choose_spec (ex i) hi⟩
  have one : ∀ i k,i<m->k<n->0<at2 D i k->k=π i:=fun i k hi hk pos=>by
   refine Yp fun ne=>?_;obtain ⟨h1,h2⟩:=hπ i hi;have e1:=bw i k hi hk pos;have e2:=bw' k i hk hi (by omega);have r:=d.t.rs (i:=i) (by rw [d.l];exact hi);have z:=qqs (f:=fun j=>if j=k then at2 D i k else if j=π i then at2 D i (π i) else 0) hk h1 ne fun j hj n1 n2=>by show (if j=k then _ else if j=π i then _ else 0)=(0:Int);rw [if_neg n1,if_neg n2]
   have le:=qmm (f:=fun j=>if j=k then at2 D i k else if j=π i then at2 D i (π i) else 0) (g:=fun j=>at2 D i j) (n:=n) fun j hj=>by
    show (if j=k then at2 D i k else if j=π i then at2 D i (π i) else 0)<=at2 D i j;split
    ·rename_i z;rw [z];exact Yk _
    ·split
     ·rename_i z;rw [z];exact Yk _
     ·exact qhs d.t.nn i j
   rw [z,if_pos rfl,if_neg (Z0 ne),if_pos rfl,r] at le;omega
  have inj : ∀ i i',i<m->i'<m->π i=π i'->i=i':=fun i i' hi hi' eq=>by
   obtain ⟨h1,h2⟩:=hπ i hi;obtain ⟨h3,h4⟩:=hπ i' hi';refine Yp fun ne=>?_;have e1:=bw i _ hi h1 h2;have e2:=bw i' _ hi' h3 h4;rw [<- eq] at e2;have r:=e.t.rs (i:=π i) (by rw [e.l];exact h1);have z:=qqs (f:=fun j=>if j=i then C else if j=i' then C else 0) hi hi' ne fun j hj n1 n2=>by show (if j=i then C else if j=i' then C else 0)=(0:Int);rw [if_neg n1,if_neg n2]
   have le:=qmm (f:=fun j=>if j=i then C else if j=i' then C else 0) (g:=fun j=>at2 E (π i) j) (n:=m) fun j hj=>by
    show (if j=i then C else if j=i' then C else 0)<=at2 E (π i) j;split
    ·rename_i z;rw [z,e1];exact Yk _
    ·split
     ·rename_i z;rw [z,e2];exact Yk _
     ·exact qhs e.t.nn _ j
   rw [z,if_pos rfl,if_neg (Z0 ne),if_pos rfl,r] at le;omega
  refine ⟨π,fun i hi=>(hπ i hi).1,fun k hk=>?_,inj,fun s i hs hi=>?_⟩
  ·obtain ⟨i,hi,p⟩:=zaay e.t (i:=k) (by rw [e.l];exact hk);have:=bw' k i hk hi p;exact ⟨i,hi,(one i k hi hk (by omega)).symm⟩
  ·obtain ⟨h1,h2⟩:=hπ i hi;have q:=d.e s (π i) hs h1;rw [qL hi fun j hj ne=>?_] at q
   ·have e1:=bw i _ hi h1 h2;have e2:=bw' _ i h1 hi (by omega);rw [e2] at q;refine Yi (show B≠0 by omega) ?_
    calc c*at2 J s i*B=c*(at2 J s i*B):=by grind
     _=at2 K s (π i)*b*B:=q
     _=_:=by grind
   ·have nn:=qhs d.t.nn j (π i);rcases Qil nn with p|z
    ·have:=one j (π i) hj h1 p;exact (ne (inj j i hj hi this.symm)).elim
    ·rw [<- z,Y2]
end
def zasq {R:List (List Int)} (hn : ∀ r ∈ R,∀ x ∈ r,0<=x) {n:Nat}{p:Array Nat} (hp:PmN (grs R n).length p) {a b:Nat}{G G':List Nat} (ea:(p.toList.map fun i=>qdh R n i)[a]?=some G) (eb:(p.toList.map fun i=>qdh R n i)[b]?=some G') (e:nrm (jc R G)=nrm (jc R G')):a=b:=by
 have h:=qlf hn n;have nd:p.toList.Nodup:=hp.p.nodup_iff.mpr Qfu;rw [Qa] at ea eb;cases e1:p.toList[a]? with
 | none=>rw [e1] at ea;cases ea
 | some i =>
  cases e2:p.toList[b]? with
  | none=>rw [e2] at eb;cases eb
  | some j =>
   rw [e1] at ea;rw [e2] at eb;cases ea;cases eb;have hi:i<(grs R n).length:=Zh.mp (hp.p.mem_iff.mp (Qg e1));have hj:j<(grs R n).length:=Zh.mp (hp.p.mem_iff.mp (Qg e2));have at_ : ∀ {i:Nat} (hi:i<(grs R n).length),nrm (jc R (qdh R n i))=(grs R n)[i].1:=fun {i} hi=>by
    have e:qdh R n i=(grs R n)[i].2:=by unfold qdh;rw [Qc hi];rfl
    have m:=Q7 hi;rw [e];exact (qwf (h.ne _ m) (h.me _ m)).1
   have e:nrm (jc R (qdh R n i))=nrm (jc R (qdh R n j)):=e;rw [at_ hi,at_ hj] at e;have ij:i=j:=by
    refine (Qar (i:=i) (j:=j) (by simpa using hi) h.ky).mp ?_;rw [Qa,Qa,Qc hi,Qc hj];exact congrArg some e
   subst ij;exact (Qar (Qm.mp e1).1 nd).mp (e1.trans e2.symm)
def qul {x y x' y':Nat->Int}{b c:Int} (hb:0<b) (hc:0<c) : ∀ k i,(∀ s,i<=s->s<i+k->c*x s=b*x' s/\c*y s=b*y' s)->qik x y k i=qik x' y' k i
 | 0,_,_=>rfl
 | k+1,i,h=>by
  obtain ⟨h1,h2⟩:=h i (Qr _) (by omega);have e1:(x i==y i)=(x' i==y' i):=by
   by_cases z:x i=y i
   ·have:x' i=y' i:=Zi (show b≠0 by omega) (by rw [<- h1,<- h2,z]);rw [beq_iff_eq.mpr z,beq_iff_eq.mpr this]
   ·have:x' i≠y' i:=fun w=>z (Zi (show c≠0 by omega) (by rw [h1,h2,w]));rw [beq_eq_false_iff_ne.mpr z,beq_eq_false_iff_ne.mpr this]
  have e2:decide (x i<y i)=decide (x' i<y' i):=by
   apply decide_eq_decide.mpr;constructor
   ·intro q;have:=Qdy q hc;rw [h1,h2] at this;exact Qbc this (Vu hb)
   ·intro q;have:=Qdy q hb;rw [<- h1,<- h2] at this;exact Qbc this (Vu hc)
  unfold qik;rw [e1,e2,qul hb hc k (i+1) fun s h3 h4=>h s (by omega) (by omega)]
def zalo {m n:Nat}{π:Nat->Nat} (h1 : ∀ i,i<m->π i<n) (h2 : ∀ k,k<n -> ∃ i,i<m/\π i=k) (h3 : ∀ i j,i<m->j<m->π i=π j->i=j) (h4 : ∀ i j,i<j->j<m->π i<π j):m=n /\ ∀ i,i<m->π i=i:=by
 have key : ∀ N i,i<N->i<m->π i=i:=by
  intro N
  induction N with
  | zero=>intro i h;omega
  | succ N ih =>
   intro i hN hi;have a:=h1 i hi;rcases Qav (π i) i with z|z|z
   ·have:=ih (π i) (by omega) (by omega);have:=h3 (π i) i (by omega) hi this;omega
   ·exact z
   ·obtain ⟨j,hj,e⟩:=h2 i (by omega);rcases Qav j i with w|w|w
    ·have:=ih j (by omega) hj;omega
    ·rw [w] at e;exact e
    ·have:=h4 i j w hj;omega
 have idn : ∀ i,i<m->π i=i:=fun i hi=>key (i+1) i (by omega) hi;refine ⟨?_,idn⟩;rcases Qav m n with z|z|z
 ·obtain ⟨i,hi,e⟩:=h2 m z;rw [idn i hi] at e;omega
 ·exact z
 ·have:=h1 n z;rw [idn n z] at this;omega
section
variable {b c:Int}{R S:List (List Int)}{m n:Nat}{Gs Hs:List (List Nat)}
def GrsOf.ok (hT:Tab b R m) (h:GrsOf R m Gs):GsOk R m Gs/\GsPart R m Gs:=by
 obtain ⟨p,hp,hs,rfl⟩:=h;exact ⟨zaob hT.nn hp,zakh hT.nn hp⟩
def qld {G:List Nat}{l s:Nat} (hl:Gs[l]?=some G) (hs:s<R.length):(jc R G).getD s 0=at2 (R.map (qao Gs)) s l:=by
 rw [qvc (Qc hs) hl,Zz];unfold jc;rw [Qa,Qc hs];rfl
def qlz {G:List Nat}{l:Nat} (hl:Gs[l]?=some G):qge (R.map (qao Gs)) l=(jc R G).sum:=by
 unfold qge;rw [<- qce]
 congr 1
 refine Zl fun s=>?_;rw [Qa];by_cases hs:s<R.length
 ·rw [Qn (by simpa using hs)];show some (at2 (R.map (qao Gs)) s l)=_;rw [<- qld hl hs,Qc (by rw [qfy];exact hs),Zz,Qc (by rw [qfy];exact hs)];rfl
 ·rw [Qo (by simp;omega),Qo (by rw [qfy];omega)];rfl
def GrsOf.ind (hT:Tab b R m) (h:GrsOf R m Gs):Ind (R.map (qao Gs)) Gs.length:=by
 have ok:=(h.ok hT).1;have at_ : ∀ {i:Nat} (hi:i<Gs.length),Gs[i]?=some Gs[i]:=fun hi=>Qc hi;refine ⟨fun i hi=>?_,fun i j hi hj he=>?_⟩
 ·rw [qlz (at_ hi)];exact (qoi hT ok (Q7 hi)).1
 ·have w1:=(qoi hT ok (Q7 hi)).1;have w2:=(qoi hT ok (Q7 hj)).1;have e:nrm (jc R Gs[i])=nrm (jc R Gs[j]):=by
   refine qzk (ok.co _ (Q7 hi)) (ok.co _ (Q7 hj)) (by rw [qfy,qfy]) fun s t x y u v hx hy hu hv=>?_;have hs:s<R.length:=by rw [<- qfy R Gs[i]];exact (Qm.mp hx).1
   have ht:t<R.length:=by rw [<- qfy R Gs[i]];exact (Qm.mp hy).1
   have r1:=he s (by simpa using hs);have r2:=he t (by simpa using ht);rw [qlz (at_ hi),qlz (at_ hj),<- qld (at_ hi) hs,<- qld (at_ hj) hs,Zz,Zz,hx,hu] at r1;rw [qlz (at_ hi),qlz (at_ hj),<- qld (at_ hi) ht,<- qld (at_ hj) ht,Zz,Zz,hy,hv] at r2;have r1:x*(jc R Gs[j]).sum=u*(jc R Gs[i]).sum:=r1;have r2:y*(jc R Gs[j]).sum=v*(jc R Gs[i]).sum:=r2;generalize (jc R Gs[i]).sum=w at *;generalize (jc R Gs[j]).sum=z at *;refine Yi (show w*z≠0 from Int.ne_of_gt (Yl w1 w2)) ?_
   calc x*v*(w*z)=(x*z)*(v*w):=by grind
    _=(u*w)*(y*z):=by rw [r1,r2]
    _=_:=by grind
  obtain ⟨p,hp,_,eG⟩:=h;exact zasq hT.nn hp (eG ▸ at_ hi) (eG ▸ at_ hj) e
def GrsOf.less (hT:Tab b R m) (h:GrsOf R m Gs) {i j:Nat} (hij:i<j) (hj:j<Gs.length):qik (fun s=>at2 (R.map (qao Gs)) s i) (fun s=>at2 (R.map (qao Gs)) s j) R.length 0=true:=by
 obtain ⟨p,hp,hs,eG⟩:=h;have lG:Gs.length=(grs R m).length:=by rw [eG,Qf,Yj,hp.s]
 have q:=SrtN.pair (zace hT.nn m) hp (Qr _) hs (i:=i) (j-i-1) (by omega);rw [show i+(j-i-1)+1=j by omega] at q;have at_ : ∀ {k:Nat},k<Gs.length->Gs[k]?=some (qdh R m (p.getD k 0)):=fun {k} hk=>by
  rw [eG,Qa];have:p.toList[k]?=some (p.getD k 0):=by rw [Vv];exact hp.get (by omega)
  rw [this];rfl
 unfold qbd at q;rw [<- q];refine qul (b:=1) (c:=1) (by decide) (by decide) _ _ fun s _ hs=>?_;have hs:s<R.length:=by omega
 rw [qld (at_ (show i<Gs.length by omega)) hs,qld (at_ hj) hs];exact ⟨rfl,rfl⟩
def zadf (hR:Tab b R m) (hS:Tab c S n) (rn:R≠[]) (hl:S.length=R.length) (gR:GrsOf R m Gs) (gS:GrsOf S n Hs) (d1 : ∃ B D,Dul b R m c S n B D) (d2 : ∃ B D,Dul c S n b R m B D):qaq b R Gs=qaq c S Hs:=by
 have b0:=hR.pos;have c0:=hS.pos;have sn:S≠[]:=fun z=>by rw [z] at hl;exact rn (J4.mp hl.symm)
 obtain ⟨ok1,pt1⟩:=gR.ok hR;obtain ⟨ok2,pt2⟩:=gS.ok hS;obtain ⟨B,D,d1⟩:=d1;obtain ⟨C,E,d2⟩:=d2;have lcm : ∀ {T:List (List Int)}{k:Nat}{Gs:List (List Nat)}{b:Int},Tab b T k->GsOk T k Gs -> ∃ B:Int,0<B /\ ∀ r ∈ Gs.map (fun G=>qH T G k),∀ x ∈ r,x.2∣B:=fun {T k Gs b} hT ok=>by
  obtain ⟨Q,q0,hQ⟩:=qva (fun i=>(jc T ((Gs[i]?).getD [])).sum) Gs.length fun i hi=>by
   show 0<(jc T ((Gs[i]?).getD [])).sum;rw [Qc hi];exact (qoi hT ok (Q7 hi)).1
  refine ⟨Q,q0,fun r hr x hx=>?_⟩;obtain ⟨G,hG,rfl⟩:=Qk.mp hr;obtain ⟨i,hi⟩:=Qcw.mp hG;obtain ⟨j,_,rfl⟩:=Qk.mp hx;have:=hQ i (Qm.mp hi).1;rw [hi] at this;exact Vs ⟨_,((Zu _ _).trans (qjs _ _)).symm⟩ this
 obtain ⟨P,P0,hP⟩:=lcm hR ok1;obtain ⟨Q,Q0,hQ⟩:=lcm hS ok2;have lJ:(R.map (qao Gs)).length=R.length:=Qf _;have lK:(S.map (qao Hs)).length=S.length:=Qf _;have J1:=qmt hR rn ok1 pt1;have J2:=qki hR rn ok1 pt1 P0 hP;have K1:=qmt hS sn ok2 pt2;have K2:=qki hS sn ok2 pt2 Q0 hQ;have D1:=(J2.trans (by omega) lJ.symm d1).trans (by omega) (by omega) K1;have D2:=(K2.trans (by omega) lK.symm d2).trans (by omega) (by omega) J1;have tJ:=jTab hR ok1;have tK:=jTab hS ok2;obtain ⟨π,p1,p2,p3,p4⟩:=zahv tJ tK (by omega) (gR.ind hR) (gS.ind hS) D1 D2;have mono : ∀ i j,i<j->j<Gs.length->π i<π j:=fun i j hij hj=>by
  have q:=gR.less hR hij hj;have e:qik (fun s=>at2 (R.map (qao Gs)) s i) (fun s=>at2 (R.map (qao Gs)) s j) R.length 0=qik (fun s=>at2 (S.map (qao Hs)) s (π i)) (fun s=>at2 (S.map (qao Hs)) s (π j)) R.length 0:=qul (b:=b) (c:=c) (by omega) (by omega) _ _ fun s _ hs=>⟨p4 s i (by omega) (by omega),p4 s j (by omega) hj⟩
  rw [e] at q;rcases Qav (π i) (π j) with z|z|z
  ·exact z
  ·rw [z,qls] at q;cases q
  ·have q2:=gS.less hS z (p1 i (by omega));rw [hl] at q2;have:=qvm _ _ q q2;rw [qls] at this;cases this
 obtain ⟨mn,idn⟩:=zalo p1 p2 p3 mono;refine zadk (k:=c) (l:=b) (by omega) (by omega) (Zu _ _) ?_;unfold sc;refine Zl fun s=>?_;rw [Qa (l:=R.map (qao Gs)),Qa (l:=S.map (qao Hs))];by_cases hs:s<R.length
 ·have e1:(R.map (qao Gs))[s]?=some (qao Gs R[s]):=by rw [Qa,Qc hs];rfl
  have e2:(S.map (qao Hs))[s]?=some (qao Hs (S[s]'(by omega))):=by rw [Qa,Qc (show s<S.length by omega)];rfl
  rw [e1,e2];refine congrArg some (Zl fun i=>?_);rw [Qa,Qa];by_cases hi:i<Gs.length
  ·have q:=p4 s i (by omega) hi;rw [idn i hi,qfh e1,qfh e2] at q;have f1:(qao Gs R[s])[i]?=some ((qao Gs R[s])[i]'(by unfold qao;rw [Qf];exact hi)):=Qc _;have f2:(qao Hs (S[s]'(by omega)))[i]?=some ((qao Hs (S[s]'(by omega)))[i]'(by unfold qao;rw [Qf];omega)):=Qc _;rw [f1,f2] at q ⊢;exact congrArg some q
  ·rw [Qo (by unfold qao;rw [Qf];omega),Qo (by unfold qao;rw [Qf];omega)];rfl
 ·rw [Qo (by omega),Qo (by omega)];rfl
end
def qxe : ∀ (a b:List Int),V3 (a.map .int) (b.map .int)=true->a=b
 | [],[],_=>rfl
 | [],_::_,h=>by simp [V3] at h
 | _::_,[],h=>by simp [V3] at h
 | x::a,y::b,h=>by
  rw [Q2,Q2,V3,Ym] at h;have e:x=y:=by have:=h.1;simp [Y3] at this;exact this
  rw [e,qxe a b h.2]
def qxt : ∀ (R S:List (List Int)),V3 (R.map qei) (S.map qei)=true->R=S
 | [],[],_=>rfl
 | [],_::_,h=>by simp [V3] at h
 | _::_,[],h=>by simp [V3] at h
 | x::a,y::b,h=>by
  rw [Q2,Q2,V3,Ym] at h;have e:x=y:=qxe x y (by have:=h.1;unfold qei at this;rw [Y3] at this;exact this);rw [e,qxt a b h.2]
def quz {b c:Int}{R S:List (List Int)} (h:Y3 (qaa b R) (qaa c S)=true):b=c/\R=S:=by
 unfold qaa at h;rw [Y3,V3,Ym,V3,Ym] at h;refine ⟨by have:=h.1;simp [Y3] at this;exact this,qxt R S (by have:=h.2.1;rw [Y3] at this;exact this)⟩
def qte {b c:Int}{R S:List (List Int)}{m n:Nat}{Gs Hs:List (List Nat)} (hR:Tab b R m) (hS:Tab c S n) (rn:R≠[]) (hl:S.length=R.length) (gR:GrsOf R m Gs) (gS:GrsOf S n Hs) {B:Int} (hB:LcmB (Hs.map fun G=>qH S G n) B) (e:qaq b R Gs=qaq c S Hs) : ∃ B D,Dul b R m c S n B D:=by
 have b0:=hR.pos;have c0:=hS.pos;have sn:S≠[]:=fun z=>by rw [z] at hl;exact rn (J4.mp hl.symm)
 obtain ⟨ok1,pt1⟩:=gR.ok hR;obtain ⟨ok2,pt2⟩:=gS.ok hS;have tJ:=jTab hR ok1;have tK:=jTab hS ok2;have Jn:R.map (qao Gs)≠[]:=by simpa using rn
 have Kn:S.map (qao Hs)≠[]:=by simpa using sn
 have J1:=qmt hR rn ok1 pt1;have K2:=qki hS sn ok2 pt2 hB.pos hB.dv;obtain ⟨g,g0,e1,e2⟩:=zail tJ Jn;obtain ⟨k,k0,e3,e4⟩:=zail tK Kn;have ew:Gs.length=Hs.length/\b/qac (R.map (qao Gs))=c/qac (S.map (qao Hs))/\qdi (R.map (qao Gs)) (qac (R.map (qao Gs)))=qdi (S.map (qao Hs)) (qac (S.map (qao Hs))):=by
  have hh:Y3 (qaq b R Gs) (qaq c S Hs)=true:=by rw [<- e];exact (qpl _ _).refl
  obtain ⟨x1,x2⟩:=quz hh;refine ⟨?_,x1,x2⟩;have t1:=(tJ.gls Jn).t;have t2:=(tK.gls Kn).t;obtain ⟨r,T,er⟩:=Qt (show qdi (R.map (qao Gs)) (qac (R.map (qao Gs)))≠[] by simpa [qdi] using rn);have a1:=t1.len r (by rw [er];simp);have a2:=t2.len r (by rw [<- x2,er];simp);omega
 obtain ⟨w1,w2,w3⟩:=ew;rw [w3] at e2;rw [w2] at e1;have mid:Dul b (R.map (qao Gs)) Gs.length c (S.map (qao Hs)) Hs.length 1 (mkT Gs.length Gs.length fun i j=>if i=j then 1 else 0):=by
  rw [<- w1];refine Dul.same fun s j _ _=>?_;rw [<- e2 s j,<- e4 s j];generalize at2 (qdi (S.map (qao Hs)) (qac (S.map (qao Hs)))) s j=x;generalize c/qac (S.map (qao Hs))=d at e1 e3;rw [<- e1,<- e3];grind
 exact ⟨_,_,(J1.trans (by omega) (by simp) mid).trans (by omega) (by simpa using hl) K2⟩
def qhz:FnScope [Ss,Sa,Sq,Sv,UK,SF,"_law_forms","_law_words","_law_few"] [Ss] (defScope qnu):=sc0
def zapk {f:Addr}{fd:V4} (F:Fun K "law" "law" qnu f fd) (T:Txt K mg cs)
 (O_least:Ok P w K mg base "least" 5 [Sg] (TSp cs.tb K qxs))
 (O_compared:Ok P w K mg base Up 6 [Se,Sb] (PSp K qif))
 (O_alike:Ok P w K mg base "alike" 8 [Se,Sb] (PSp K qxl))
 (O__law_pen:Ok P w K mg base UI 1 [Ss] (FSp K qnr))
 (O__law_next:Ok P w K mg base Sz 2 [Sa,Sq] (NSp K qaw))
 (O__law_table:Ok P w K mg base S3 4 [Sa,Sq,Sv,Ua] (NSp K qga))
 (O__law_other:Ok P w K mg base Ut 5 [Sa,S4,Sv] (NSp K qjk))
 : FnOk P w K mg base CX0 9 f fd [Ss] (qrv cs.tb K):=by
  refine F.vlawT qhz rfl fun cdv A outer s H E hr ts F0 σ ns hlen ft hE=>?_;refine ⟨_,zaio 5 (VSs.pss (qg (qho (i:=1) qhz.nd (qkf O__law_pen hr.m (qd (qc 0) qe)))
   (qg (qt (i:=2) qhz.nd (qy qec qf (qay 1 O__law_next hr.m (qd qf qe))))
   (qek (qt (i:=3) qhz.nd (qy qvy qf (qbp zasb T.int_ L2.boot_int (qd (qfz (qmf hr.units) (qc 2) qf) qe))))
   (qek (qt (i:=4) qhz.nd (qay 1 O__law_table hr.m (qd (qc 2) (qd (qc 3) (qd qf qe)))))
   (qj (qt (i:=5) qhz.nd (qay 1 O__law_other hr.m (qd (qc 4) (qd (qc 3) qe)))))))))) (qF (qdx (i:=6) qhz.nd rfl (by first|exact Yy rfl|exact Z6 rfl) (zaar (qz (qhh ix_V (qoc O_least hr.m (qz (pv 4) qal)) qom (fun _ _=>rfl)) (qz (qhh ix_V (qoc O_least hr.m (qz (pv 5) qal)) qom (fun _ _=>rfl)) qal)))) (VSs.pss (qek (qt (i:=7) qhz.nd (qV (qel (qd (qv (qB O_compared hr.m (qd (qc 4) (qd (qc 5) qe))) qf) (qd (qv (qB O_compared hr.m (qd (qc 5) (qd (qc 4) qe))) qf) qe)))))
   (qg (qcm (qK (qmf hr.units) (qv (qc 6) qf) (qv (qc 6) qf)) (qg (qt (i:=8) qhz.nd (qx qcf T.len_ L2.boot_len (qd (qv (qv (qv (qc 6) qf) qf) qf) qe)))
   (qg (qcm (VW.pt (qqg (qK quk (qc 8) (qx qcf T.len_ L2.boot_len (qd (qv (qv (qc 4) qf) qf) qe))) (qlg (qK quk (qc 8) (qx qcf T.len_ L2.boot_len (qd (qv (qv (qc 5) qf) qf) qe)))))) (qj (qC qyu)) qW)
   (qj (qC (qok (qfz (qmf hr.units) (qc 7) (qV (qel (qd qle (qd qle qe))))) (qlj (qfz zanx (qB O_alike hr.m (qd (qc 4) (qd (qc 5) qe))) qyu))))))) qW)
   (qj (qC (qok (qfz zasy qle (qc 7)) (qlj (qfz zanx (qB O_alike hr.m (qd (qc 5) (qd (qc 4) qe))) qyu))))))))),?_⟩
  refine zafs hE (fun e => ∃ (b c:Int) (R S:List (List Int)) (m n:Nat) (t1 t2 t3:Sl),(CmpPre b R m c S n/\b<=100000/\c<=100000)/\e=[.val (.list (ns.map .int)),t1,t2,t3,.val (qaa b R),.val (qaa c S),.non,.non,.non]) ?_ ?_
  ·refine ⟨ns,rfl,hlen,fun p hp=>?_⟩;refine ⟨rfl,rfl,3,rfl,hp,⟨by decide,by decide⟩,fun x p1 x0 x1 hp1=>?_⟩;obtain ⟨W,eW⟩:=Zt (show 0<=2+x by omega);refine ⟨fun e => ∃ (W o:Nat) (p:List Qh),(qcd p/\2<=W/\W<=4/\3<=o/\o<=4)/\e=[.val (.list (ns.map .int)),.own p,.val (.int W),.val (.int o),.non,.non,.non,.non,.non],?_,?_⟩
   ·refine ⟨rfl,rfl,?_⟩;generalize Y3 (Q3 (2+x)) (Q3 4)=t;cases t
    ·exact ⟨W,4,p1,⟨hp1,by omega,by omega,by omega,by omega⟩,by rw [eW];rfl⟩
    ·exact ⟨W,3,p1,⟨hp1,by omega,by omega,by omega,by omega⟩,by rw [eW];rfl⟩
   rintro e ⟨W,o,p2,⟨hp2,W2,W4,o3,o4⟩,rfl⟩;refine ⟨fun e => ∃ (b:Int) (R:List (List Int)) (m:Nat) (p:List Qh),(qcd p/\Gls b R m/\R.length=W/\1<=m/\m<=o/\b<=9999)/\e=[.val (.list (ns.map .int)),.own p,.val (.int W),.val (.int o),.val (qaa b R),.non,.non,.non,.non],?_,?_⟩
   ·exact ⟨rfl,rfl,W,o,12,rfl,hp2,⟨by omega,by omega,by omega,by omega,by decide,by decide⟩,fun b R m p G hb hl m1 m2 hp=>⟨b,R,m,p,⟨hp,G,by omega,m1,by omega,hb⟩,rfl⟩⟩
   rintro e ⟨b,R,m,p3,⟨hp3,G1,l1,m1,m2,hb⟩,rfl⟩;exact ⟨rfl,rfl,b,R,m,o,rfl,hp3,⟨G1.t,by omega,by omega,m1,by omega,by omega,hb⟩,fun c S k p G2 l2 k1 k2 hc hp=>⟨b,c,R,S,m,k,_,_,_,⟨⟨G1.t,G2.t,by omega,by omega,by omega,m1,by omega,k1,by omega,by omega,by omega⟩,by omega,by omega⟩,rfl⟩⟩
  rintro e F1 H1 σ1 I1 ⟨b,c,R,S,m,n,t1,t2,t3,⟨hp,hb,hc⟩,rfl⟩;obtain ⟨ts1,ft1⟩:=I1.tab ts ft;obtain ⟨x0,_,rfl,_,x1,_,rfl,_,x2,_,rfl,_,x3,_,rfl,_,x4,_,rfl,⟨v4,rfl,i4⟩,x5,_,rfl,⟨v5,rfl,i5⟩,x6,_,rfl,_,x7,_,rfl,_,x8,_,rfl,_,rfl⟩:=I1.all;have w1:=hp.w1;have w2:=hp.w2;have m1:=hp.m1;have m2:=hp.m2;have n1:=hp.n1;have n2:=hp.n2;have hl:=hp.l;have Rn:R≠[]:=fun z=>by rw [z] at w1;simp at w1
  have Sn:S≠[]:=fun z=>by rw [z,Qdt] at hl;omega
  refine ⟨v4,rfl,ts1,F1,[qaa b R],fun d => ∃ Gs B,GrsOf R m Gs/\LcmB (Gs.map fun G=>qH R G m) B/\d = .tuple [qaq b R Gs,qvh m Gs,qaa B ((Gs.map fun G=>qH R G m).map (qX B))],ft1,I1.fh,qw i4 qQ,⟨b,R,m,rfl,⟨hp.r,Rn,by omega,by omega,by omega,by omega⟩,fun Gs B h1 h2=>⟨Gs,B,h1,h2,rfl⟩⟩,?_⟩;rintro d v F2 H2 g2 i2 ⟨Gs,B,hG,hB,rfl⟩;refine ⟨F2,_,.int 0,fun d=>d=qaq b R Gs,g2.fh,i2,qJ _,⟨_,rfl,rfl⟩,?_⟩;rintro d v' F3 H3 g3 i3 rfl;obtain ⟨ts3,ft3⟩:=g3.tab g2.ts g2.ft;refine ⟨v5,rfl,ts3,F3,[qaa c S],fun d => ∃ Gs B,GrsOf S n Gs/\LcmB (Gs.map fun G=>qH S G n) B/\d = .tuple [qaq c S Gs,qvh n Gs,qaa B ((Gs.map fun G=>qH S G n).map (qX B))],ft3,g3.fh,qw ((i5.mono g2.f).mono g3.f) qQ,⟨c,S,n,rfl,⟨hp.s,Sn,by omega,by omega,by omega,by omega⟩,fun Gs B h1 h2=>⟨Gs,B,h1,h2,rfl⟩⟩,?_⟩;rintro d u F4 H4 g4 i6 ⟨Hs,C,hG',hC,rfl⟩;refine ⟨F4,_,.int 0,fun d=>d=qaq c S Hs,g4.fh,i6,qJ _,⟨_,rfl,rfl⟩,?_⟩;rintro d u' F5 H5 g5 i7 rfl;refine ⟨by rw [Yr];simp,fun p hp'=>?_⟩;have g6:Go F5 H5 (upd F5 p (.lst [v',u'])) (upd H5 p (.lst [v',u'])):=Go.put g5.fh hp';have up:Same F3 F5:=g4.f.trans g5.f;have i4':=((i4.mono g2.f).mono g3.f).mono (up.trans g6.f);have i5':=((i5.mono g2.f).mono g3.f).mono (up.trans g6.f);have il:Is K (upd F5 p (.lst [v',u'])) (.list [qaq b R Gs,qaq c S Hs]) (.ref p):=qcv (SqL.of ql) (qw (i3.mono (up.trans g6.f)) (qw (i7.mono g6.f) qQ));have hE2:EnvOk K ⟨upd H5 p (.lst [v',u']),upd H5 p (.lst [v',u']),upd F5 p (.lst [v',u'])⟩ (upd F5 p (.lst [v',u'])) (upd H5 p (.lst [v',u'])) [.non,.non,.non,.non,.val (qaa b R),.val (qaa c S),.val (.list [qaq b R Gs,qaq c S Hs]),.non,.non] [x0,x1,x2,x3,some v4,some v5,some (.ref p),x7,x8] :=
   qhw g6.fh ⟨_,_,rfl,⟨trivial,rfl⟩,_,_,rfl,⟨trivial,rfl⟩,_,_,rfl,⟨trivial,rfl⟩,_,_,rfl,⟨trivial,rfl⟩,_,_,rfl,⟨⟨_,rfl,i4'⟩,rfl⟩,_,_,rfl,⟨⟨_,rfl,i5'⟩,rfl⟩,_,_,rfl,⟨⟨_,rfl,il⟩,rfl⟩,_,_,rfl,⟨trivial,rfl⟩,_,_,rfl,⟨trivial,rfl⟩,rfl⟩
  refine zant hE2 ?_;clear hE2 i4' i5' il g6 g5 g4 g3 g2;have hq:=hp.symm;have bp:=hp.r.pos;have cp:=hp.s.pos;refine ⟨fun e => ∃ s t:Bool,((s=true -> ∃ B D,Dls b R m c S n B D)/\(s=false -> ∃ W,Dcs b R m c S n W)/\(t=true -> ∃ B D,Dls c S n b R m B D)/\(t=false -> ∃ W,Dcs c S n b R m W))/\e=[.non,.non,.non,.non,.val (qaa b R),.val (qaa c S),.val (.list [qaq b R Gs,qaq c S Hs]),.val (.list [.str (if s then SX else SG),.str (if t then SX else SG)]),.non],?_,?_⟩
  ·have tt : ∀ {A:Prop},true=false->A:=fun h=>by cases h
   have ff : ∀ {A:Prop},false=true->A:=fun h=>by cases h
   refine ⟨b,R,m,c,S,n,rfl,hp,fun B D hD=>⟨_,rfl,c,S,n,b,R,m,rfl,hq,fun B' D' hD'=>⟨_,rfl,szl,true,true,⟨fun _=>⟨B,D,hD⟩,tt,fun _=>⟨B',D',hD'⟩,tt⟩,rfl⟩,fun W' hW'=>⟨_,rfl,szl,true,false,⟨fun _=>⟨B,D,hD⟩,tt,ff,fun _=>⟨W',hW'⟩⟩,rfl⟩⟩,fun W hW=>⟨_,rfl,c,S,n,b,R,m,rfl,hq,fun B' D' hD'=>⟨_,rfl,szl,false,true,⟨ff,fun _=>⟨W,hW⟩,fun _=>⟨B',D',hD'⟩,tt⟩,rfl⟩,fun W' hW'=>⟨_,rfl,szl,false,false,⟨ff,fun _=>⟨W,hW⟩,ff,fun _=>⟨W',hW'⟩⟩,rfl⟩⟩⟩
  rintro e ⟨s,t,⟨s1,s2,t1,t2⟩,rfl⟩;have sh0 : ∀ t:Bool,Shp 0 (.str (if t then SX else SG)):=fun t=>by
   cases t
   ·exact shpS (x := SG) 0 (by decide +kernel)
   ·exact shpS (x := SX) 0 (by decide +kernel)
  have two : ∀ {x y:Qh},Shp 0 x->Shp 0 y->Shp 1 (.list [x,y]):=fun h1 h2=>zakz fun z hz=>by
   simp only [Q5,Vi,or_false] at hz;rcases hz with rfl|rfl <;> assumption
  obtain ⟨ok1,_⟩:=hG.ok hp.r;obtain ⟨ok2,_⟩:=hG'.ok hp.s;refine ⟨_,rfl,_,rfl,(qpl _ _).ok,(qpl _ _).ok,iteB (fun h=>?_) (fun h=>?_)⟩
  ·have e:qaq b R Gs=qaq c S Hs:=by
    obtain ⟨x1,x2⟩:=quz h;unfold qaq;rw [x1,x2]
   have d1:=qte hp.r hp.s Rn hl.symm hG hG' hC e;have d2:=qte hp.s hp.r Sn hl hG' hG hB e.symm;have es:s=true:=by
    cases s with
    | true=>rfl
    | false =>
     obtain ⟨W,hW⟩:=s2 rfl;obtain ⟨_,_,d1⟩:=d1;exact (qpu (by omega) (by omega) d1 hW).elim
   have et:t=true:=by
    cases t with
    | true=>rfl
    | false =>
     obtain ⟨W,hW⟩:=t2 rfl;obtain ⟨_,_,d2⟩:=d2;exact (qpu (by omega) (by omega) d2 hW).elim
   subst es et;have Jn:R.map (qao Gs)≠[]:=by simpa using Rn
   have tJ:=(jTab hp.r ok1).gls Jn;have tK:=(jTab hp.s ok2).gls (by simpa using Sn);obtain ⟨x1,x2⟩:=quz h;obtain ⟨q0,Q0,eq⟩:=Qt (show qdi (R.map (qao Gs)) (qac (R.map (qao Gs)))≠[] by simpa [qdi] using Rn);have a1:=tJ.t.len q0 (by rw [eq];simp);have a2:=tK.t.len q0 (by rw [<- x2,eq];simp);have aQ:atI ((qdi (R.map (qao Gs)) (qac (R.map (qao Gs)))).map qei) 0=some (qei q0):=by rw [eq];exact qbq _ _
   obtain ⟨r0,R0,eR⟩:=Qt Rn;have lr:=hp.r.len r0 (by rw [eR];simp);have aR:atI (R.map qei) 0=some (qei r0):=by rw [eR];exact qbq _ _
   obtain ⟨s0,S0,eS⟩:=Qt Sn;have ls:=hp.s.len s0 (by rw [eS];simp);have aS:atI (S.map qei) 0=some (qei s0):=by rw [eS];exact qbq _ _
   have f1:(((q0.map Q3).length:Nat):Int)=q0.length:=by simp
   have f2:(((r0.map Q3).length:Nat):Int)=r0.length:=by simp
   have f3:(((s0.map Q3).length:Nat):Int)=s0.length:=by simp
   have o1:=ok1.len;have o2:=ok2.len;refine ⟨_,rfl,_,rfl,_,aQ,?_⟩;refine ⟨_,rfl,_,aR,qkj (fun z=>(by omega)) (fun _=>⟨_,rfl,_,aS,qkj (fun z=>(by omega)) (fun _=>?_)⟩)⟩;have shw:=two (sh0 true) (sh0 true);refine ⟨szl,shw.ok,shw.ok,iteY shw.refl ?_⟩;exact ⟨b,R,m,c,S,n,rfl,hp,fun _ _=>rfl,fun z=>by
    obtain ⟨_,_,d1⟩:=d1;obtain ⟨_,_,d2⟩:=d2;rcases z with ⟨W,hW⟩|⟨W,hW⟩
    ·exact (qpu (by omega) (by omega) d1 hW).elim
    ·exact (qpu (by omega) (by omega) d2 hW).elim⟩
  ·have nb:(∃ B D,Dls b R m c S n B D)->(∃ B D,Dls c S n b R m B D)->False:=fun xx179 xx180=>by
    obtain ⟨B,D,h1⟩:=xx179;obtain ⟨C,E,h2⟩:=xx180;have z:=zadf hp.r hp.s Rn hl.symm hG hG' ⟨B,D,h1.u⟩ ⟨C,E,h2.u⟩;have h':Y3 (qaq b R Gs) (qaq c S Hs)=false:=h;rw [z] at h';have:=(qpl (c/qac (S.map (qao Hs))) (qdi (S.map (qao Hs)) (qac (S.map (qao Hs))))).refl;have this:Y3 (qaq c S Hs) (qaq c S Hs)=true:=this;rw [this] at h';cases h'
   refine ⟨SG,[if s then SX else SG,if t then SX else SG],rfl,rfl,iteY ?_ ?_⟩
   ·cases s with
    | false=>rfl
    | true =>
     cases t with
     | false=>decide +kernel
     | true=>exact (nb (s1 rfl) (t1 rfl)).elim
   ·exact ⟨c,S,n,b,R,m,rfl,hq,fun h1 h2=>(nb h2 h1).elim,fun _=>rfl⟩
end
def qyo {α:Type}{n:Nat}{us:List α} (h:us.length=n+1) : ∃ a r,us=a::r/\r.length=n:=by
 cases us with
 | nil=>cases h
 | cons a r=>exact ⟨a,r,rfl,Qgg h⟩
def us1 {α:Type}{us:List α} (h:us.length=1) : ∃ a0:α,us=[a0]:=by
 obtain ⟨a0,u0,rfl,h0⟩:=qyo h;cases u0 with
 | nil=>exact ⟨a0,rfl⟩
 | cons _ _=>cases h0
def us2 {α:Type}{us:List α} (h:us.length=2) : ∃ a0 a1:α,us=[a0,a1]:=by
 obtain ⟨a0,u0,rfl,h0⟩:=qyo h;obtain ⟨a1,u1,rfl,h1⟩:=qyo h0;cases u1 with
 | nil=>exact ⟨a0,a1,rfl⟩
 | cons _ _=>cases h1
def us3 {α:Type}{us:List α} (h:us.length=3) : ∃ a0 a1 a2:α,us=[a0,a1,a2]:=by
 obtain ⟨a0,u0,rfl,h0⟩:=qyo h;obtain ⟨a1,u1,rfl,h1⟩:=qyo h0;obtain ⟨a2,u2,rfl,h2⟩:=qyo h1;cases u2 with
 | nil=>exact ⟨a0,a1,a2,rfl⟩
 | cons _ _=>cases h2
def us4 {α:Type}{us:List α} (h:us.length=4) : ∃ a0 a1 a2 a3:α,us=[a0,a1,a2,a3]:=by
 obtain ⟨a0,u0,rfl,h0⟩:=qyo h;obtain ⟨a1,u1,rfl,h1⟩:=qyo h0;obtain ⟨a2,u2,rfl,h2⟩:=qyo h1;obtain ⟨a3,u3,rfl,h3⟩:=qyo h2;cases u3 with
 | nil=>exact ⟨a0,a1,a2,a3,rfl⟩
 | cons _ _=>cases h3
inductive LK (K:Qd) (x q:Str) (st:Stmt) (f:Addr):Prop
 | mk {oc kV dc pm cd ct:Value}{od an:Option Addr}{sl:Array (Option Value)} (l:K.lookup f=some ⟨oc,od,.func (Va x q (defArgs st) (defBody st) (defScope st) .none kV dc pm an cd ct),sl⟩) (c:J9 K cd q=true) (k:Yw K (.ref f)=true):LK K x q st f
def LK.fn {K:Qd}{x q:Str}{st:Stmt}{f:Addr} (h:LK K x q st f):(∃ fd,Fun K x q st f fd)/\Yw K (.ref f)=true:=by
 cases h with
 | mk l c k=>exact ⟨⟨_,zaam l c k⟩,k⟩
inductive DK (K:Qd) (x:Str) (st:Stmt):Prop
 | mk {f:Addr} (a:Yh K Zc x=some (some (.ref f))) (l:LK K x x st f):DK K x st
def DK.df {K:Qd}{x:Str}{st:Stmt}{ps:List Str}{h:Heap}{mg:Str->Option Value} (d:DK K x st) (X:K.In h) (G:h.Ns Zc mg)
 (hb : ∀ (kV doc pm:Value) (an:Option Addr) (cdv ct:Value) (us:List Value),us.length=ps.length->Qhb (Va x x (defArgs st) (defBody st) (defScope st) .none kV doc pm an cdv ct) ⟨us,[]⟩=pure (ps.zip us):=by (intro _ _ _ _ _ _ us hl;first|(obtain ⟨_,rfl⟩:=us1 hl;rfl)|(obtain ⟨_,_,rfl⟩:=us2 hl;rfl)|(obtain ⟨_,_,_,rfl⟩:=us3 hl;rfl)|(obtain ⟨_,_,_,_,rfl⟩:=us4 hl;rfl))):Def K mg x st ps:=by
  cases d with
  | mk a l =>
   obtain ⟨⟨_,F⟩,_⟩:=l.fn;exact ⟨_,_,F,J6 X G a,F.binds hb⟩
abbrev Nq0 (K:Qd) (x:Str) (y:Addr):Prop:=Yh K Zc x=some (some (.ref y))
def all_mk {l:Qgj}{w:World}{K:Qd}{h:Heap}{mg:Str->Option Value}{fa:Addr} (X:K.In h) (G:h.Ns Zc mg) (hfa:mg "law" = some (.ref fa))
 {c_tb c_c0 c_bm:Addr} (b_bm:Nq0 K "__builtins__" c_bm)
 (l0:DK K SU qjc)
 (l1:DK K SK qbu)
 (l2:DK K Ux qiy)
 (l3:DK K S6 qdd)
 (l4:DK K Ub qdw)
 (l5:DK K SD qbo)
 (l6:DK K SL qpp)
 (l7:DK K UE qgz)
 (l8:DK K UN qlw)
 (l9:DK K SN qco)
 (l10:DK K SO qcn)
 {f11:Addr}{od11 an11:Option Addr}{sl11:Array (Option Value)}{oc11 kV11 dc11 pm11 ct11:Value}
 (a11:Nq0 K SA f11) (l11:K.lookup f11=some ⟨oc11,od11,.func (Va SA SA (defArgs qai) (defBody qai) (defScope qai) .none kV11 dc11 pm11 an11 (.ref c_c0) ct11),sl11⟩) (c11:J9 K (.ref c_c0) SA = true) (k11:Yw K (.ref f11)=true)
 (l12:DK K SV qbw)
 (l13:DK K UF qhk)
 (l14:DK K Ui qgs)
 (l15:DK K Uy qix)
 (l16:DK K UL qpc)
 (l17:DK K UG qhl)
 (l18:DK K "least" qqe)
 (l19:DK K UO qlt)
 (l20:DK K SH qar)
 (l21:DK K Uc qdr)
 (l22:DK K "lowest" qlk)
 (l23:DK K Uj qep)
 {c_Board:Addr} (b_Board:Nq0 K "Board" c_Board)
 {f24:Addr} (a24:Zr K (.ref c_Board) Uk = some (some (.ref f24))) (l24:LK K Uk "Board.__init__" qbx f24) (n24:Jv K (.ref f24)=true)
 {f25:Addr} (a25:Zr K (.ref c_Board) "lack" = some (some (.ref f25))) (l25:LK K "lack" "Board.lack" qew f25) (n25:Jv K (.ref f25)=true)
 {f26:Addr} (a26:Zr K (.ref c_Board) SZ = some (some (.ref f26))) (l26:LK K SZ UA qbg f26) (n26:Jv K (.ref f26)=true)
 {f27:Addr} (a27:Zr K (.ref c_Board) Ul = some (some (.ref f27))) (l27:LK K Ul "Board.tightest" qbs f27) (n27:Jv K (.ref f27)=true)
 (l28:DK K "cleared" qja)
 {f29:Addr} (a29:Zr K (.ref c_Board) Um = some (some (.ref f29))) (l29:LK K Um "Board.bring_in" qbt f29) (n29:Jv K (.ref f29)=true)
 {f30:Addr} (a30:Zr K (.ref c_Board) "told" = some (some (.ref f30))) (l30:LK K "told" "Board.told" qen f30) (n30:Jv K (.ref f30)=true)
 (l31:DK K "solved" qlm)
 (l32:DK K SR qbm)
 (l33:DK K "seen_as" qjd)
 (l34:DK K S7 qde)
 (l35:DK K Uu qft)
 (l36:DK K Ud qdu)
 (l37:DK K UH qhi)
 (l38:DK K S8 qdc)
 (l39:DK K "times" qps)
 (l40:DK K UD qje)
 (l41:DK K Uo qem)
 (l42:DK K Up qgx)
 (l43:DK K Uq qev)
 (l44:DK K "alike" qpv)
 (l45:DK K UI qgq)
 (l46:DK K Ur qeo)
 (l47:DK K Sz qfv)
 (l48:DK K S9 qdb)
 (l49:DK K ST qdf)
 (l50:DK K UJ qhg)
 (l51:DK K S2 qeu)
 (l52:DK K S3 qet)
 (l53:DK K Uw qfs)
 (l54:DK K Ue qdn)
 (l55:DK K Us qeq)
 (l56:DK K Ut qes)
 {f57:Addr}{od57 an57:Option Addr}{sl57:Array (Option Value)}{oc57 kV57 dc57 pm57 cd57 ct57:Value}
 (a57:Nq0 K "law" f57) (l57:K.lookup f57=some ⟨oc57,od57,.func (Va "law" "law" (defArgs qnu) (defBody qnu) (defScope qnu) .none kV57 dc57 pm57 an57 cd57 ct57),sl57⟩) (c57:J9 K cd57 "law" = true) (k57:Yw K (.ref f57)=true)
 (z_abs:Yh K Zc "abs" = some none)
 (z_any:Yh K Zc "any" = some none)
 (z_bool:Yh K Zc "bool" = some none)
 (z_enumerate:Yh K Zc "enumerate" = some none)
 (z_int:Yh K Zc "int" = some none)
 (z_isinstance:Yh K Zc "isinstance" = some none)
 (z_len:Yh K Zc "len" = some none)
 (z_list:Yh K Zc "list" = some none)
 (z_range:Yh K Zc "range" = some none)
 (z_sorted:Yh K Zc "sorted" = some none)
 (z_sum:Yh K Zc "sum" = some none)
 (z_tuple:Yh K Zc "tuple" = some none)
 (z_zip:Yh K Zc "zip" = some none)
 {t_MOST_COMPARED:Tok} (y_MOST_COMPARED:Yh K Zc "MOST_COMPARED" = some (some (.int 4 t_MOST_COMPARED)))
 {t_MOST_ROWS:Tok} (y_MOST_ROWS:Yh K Zc "MOST_ROWS" = some (some (.int 24 t_MOST_ROWS)))
 {t_MOST_UNKNOWNS:Tok} (y_MOST_UNKNOWNS:Yh K Zc "MOST_UNKNOWNS" = some (some (.int 20 t_MOST_UNKNOWNS)))
 (f_Board_c_pg:Qbe K c_Board Str.empty=true)
 (f_Board_c_hd:Qck K c_Board=true)
 (f_Board_c_po:Qey K c_Board=true)
 (f_Board_c_sa:Zr K (.ref c_Board) "__setattr__" = some (some (.builtin "object.__setattr__")))
 (f_Board_mk:Qdo K c_Board=true)
 (f_Board_kp:Yw K (.ref c_Board)=true)
 (f_Board_n_bottom:Zr K (.ref c_Board) Sc = some none)
 (f_Board_n_lines:Zr K (.ref c_Board) S5 = some none)
 (f_Board_n_stands_for:Zr K (.ref c_Board) SJ = some none)
 (f_Board_n_unknowns:Zr K (.ref c_Board) Sk = some none)
 (f_tab_h:zaes K c_c0 c_tb=true)
 (f_bm_h:blIn K c_bm c_tb=true)
 : ∃ fd:V4,(∀ (s:Ql) (v:Value),Qiy s fd ⟨[v],[]⟩ [(Ss,v)]) /\ ∀ base:Heap,K.In base->base.Ns Zc mg->FnOk l.prog w K mg base CX0 9 fa fd [Ss] (qrv c_tb K):=by
  have e:=hfa.symm.trans (J6 X G a57);cases e;have T:Txt K mg ⟨c_Board,c_tb,c_c0,c_bm⟩:=⟨J6 X G b_Board,⟨f_Board_c_pg,f_Board_c_hd,f_Board_c_po,f_Board_c_sa⟩,f_Board_mk,f_Board_kp,f_Board_n_bottom,f_Board_n_lines,f_Board_n_stands_for,f_Board_n_unknowns,f_tab_h,f_bm_h,J6 X G b_bm,Z2 X G z_abs,Z2 X G z_any,Z2 X G z_bool,Z2 X G z_enumerate,Z2 X G z_int,Z2 X G z_isinstance,Z2 X G z_len,Z2 X G z_list,Z2 X G z_range,Z2 X G z_sorted,Z2 X G z_sum,Z2 X G z_tuple,Z2 X G z_zip,⟨_,J6 X G y_MOST_COMPARED⟩,⟨_,J6 X G y_MOST_ROWS⟩,⟨_,J6 X G y_MOST_UNKNOWNS⟩⟩
  have D0:Def K mg SU qjc [Se,Sb]:=l0.df X G;have D1:Def K mg SK qbu [Si]:=l1.df X G;have D2:Def K mg Ux qiy [Sh,Sx]:=l2.df X G;have D3:Def K mg S6 qdd [Sc,Si]:=l3.df X G;have D4:Def K mg Ub qdw [Sh,Sc]:=l4.df X G;have D5:Def K mg SD qbo [Si]:=l5.df X G;have D6:Def K mg SL qpp [Sg]:=l6.df X G;have D7:Def K mg UE qgz [Sd,Sm]:=l7.df X G;have D8:Def K mg UN qlw [Si,Sd]:=l8.df X G;have D9:Def K mg SN qco [Sh,Sr]:=l9.df X G;have D10:Def K mg SO qcn [Sg,Sr]:=l10.df X G;have F11:=zaam (st:=qai) l11 c11 k11;have D11:DefT K mg SA qai [Sg] c_c0:=⟨_,_,_,_,_,_,_,_,_,l11,c11,k11,J6 X G a11,F11.binds (ps:=[Sg]) fun _ _ _ _ _ _ us hl=>by obtain ⟨_,rfl⟩:=us1 hl;rfl⟩
  have D12:Def K mg SV qbw [Sh,Sw]:=l12.df X G;have D13:Def K mg UF qhk [Sy,Sw]:=l13.df X G;have D14:Def K mg Ui qgs [SM]:=l14.df X G;have D15:Def K mg Uy qix [SY,Sc]:=l15.df X G;have D16:Def K mg UL qpc [SY,Sc]:=l16.df X G;have D17:Def K mg UG qhl [Sr,Sg]:=l17.df X G;have D18:Def K mg "least" qqe [Sg]:=l18.df X G;have D19:Def K mg UO qlt [Sg]:=l19.df X G;have D20:Def K mg SH qar [Se,Sb]:=l20.df X G;have D21:Def K mg Uc qdr [Uh]:=l21.df X G;have D22:Def K mg "lowest" qlk [Uz]:=l22.df X G;have D23:Def K mg Uj qep [Sh,UM,"k",Sm]:=l23.df X G;obtain ⟨⟨_,F24⟩,k24⟩:=l24.fn;have D24:MDef K c_Board Uk "Board.__init__" qbx [Sj,Sk,Si,SE]:=⟨_,_,F24,⟨a24,n24,k24⟩,F24.binds (ps:=[Sj,Sk,Si,SE]) fun _ _ _ _ _ _ us hl=>by obtain ⟨_,_,_,_,rfl⟩:=us4 hl;rfl⟩
  obtain ⟨⟨_,F25⟩,k25⟩:=l25.fn;have D25:MDef K c_Board "lack" "Board.lack" qew [Sj]:=⟨_,_,F25,⟨a25,n25,k25⟩,F25.binds (ps:=[Sj]) fun _ _ _ _ _ _ us hl=>by obtain ⟨_,rfl⟩:=us1 hl;rfl⟩
  obtain ⟨⟨_,F26⟩,k26⟩:=l26.fn;have D26:MDef K c_Board SZ UA qbg [Sj,"k",Ug,Sd]:=⟨_,_,F26,⟨a26,n26,k26⟩,F26.binds (ps:=[Sj,"k",Ug,Sd]) fun _ _ _ _ _ _ us hl=>by obtain ⟨_,_,_,_,rfl⟩:=us4 hl;rfl⟩
  obtain ⟨⟨_,F27⟩,k27⟩:=l27.fn;have D27:MDef K c_Board Ul "Board.tightest" qbs [Sj,Sd]:=⟨_,_,F27,⟨a27,n27,k27⟩,F27.binds (ps:=[Sj,Sd]) fun _ _ _ _ _ _ us hl=>by obtain ⟨_,_,rfl⟩:=us2 hl;rfl⟩
  have D28:Def K mg "cleared" qja [SQ,SI,Sd,Sc]:=l28.df X G;obtain ⟨⟨_,F29⟩,k29⟩:=l29.fn;have D29:MDef K c_Board Um "Board.bring_in" qbt [Sj,Sd]:=⟨_,_,F29,⟨a29,n29,k29⟩,F29.binds (ps:=[Sj,Sd]) fun _ _ _ _ _ _ us hl=>by obtain ⟨_,_,rfl⟩:=us2 hl;rfl⟩
  obtain ⟨⟨_,F30⟩,k30⟩:=l30.fn;have D30:MDef K c_Board "told" "Board.told" qen [Sj]:=⟨_,_,F30,⟨a30,n30,k30⟩,F30.binds (ps:=[Sj]) fun _ _ _ _ _ _ us hl=>by obtain ⟨_,rfl⟩:=us1 hl;rfl⟩
  have D31:Def K mg "solved" qlm [Si,SE]:=l31.df X G;have D32:Def K mg SR qbm [Sg]:=l32.df X G;have D33:Def K mg "seen_as" qjd [Sh,"new",Sm]:=l33.df X G;have D34:Def K mg S7 qde [Se,"old",Sm]:=l34.df X G;have D35:Def K mg Uu qft [Se,Sb]:=l35.df X G;have D36:Def K mg Ud qdu [Se,Sb]:=l36.df X G;have D37:Def K mg UH qhi [SM]:=l37.df X G;have D38:Def K mg S8 qdc [Se,Sb]:=l38.df X G;have D39:Def K mg "times" qps [Se,Sb]:=l39.df X G;have D40:Def K mg UD qje [UB,UC,Sm]:=l40.df X G;have D41:Def K mg Uo qem [Se,Sb,UP]:=l41.df X G;have D42:Def K mg Up qgx [Se,Sb]:=l42.df X G;have D43:Def K mg Uq qev [Se,Sb]:=l43.df X G;have D44:Def K mg "alike" qpv [Se,Sb]:=l44.df X G;have D45:Def K mg UI qgq [Ss]:=l45.df X G;have D46:Def K mg Ur qeo [Sa]:=l46.df X G;have D47:Def K mg Sz qfv [Sa,Sq]:=l47.df X G;have D48:Def K mg S9 qdb [SS]:=l48.df X G;have D49:Def K mg ST qdf [So,Sf]:=l49.df X G;have D50:Def K mg UJ qhg [Sa,SC,So]:=l50.df X G;have D51:Def K mg S2 qeu [Sa,Sf]:=l51.df X G;have D52:Def K mg S3 qet [Sa,Sq,Sv,Ua]:=l52.df X G;have D53:Def K mg Uw qfs [Sf]:=l53.df X G;have D54:Def K mg Ue qdn [Sa,Sf]:=l54.df X G;have D55:Def K mg Us qeq [Sa,Sf]:=l55.df X G;have D56:Def K mg Ut qes [Sa,S4,Sv]:=l56.df X G;have F57:=zaam (st:=qnu) l57 c57 k57;refine ⟨Va "law" "law" (defArgs qnu) (defBody qnu) (defScope qnu) .none kV57 dc57 pm57 an57 cd57 ct57,fun s v => .of_eq rfl,fun base KB _=>?_⟩;have O0:=qys (P:=l.prog) (w:=w) (base:=base) D0 T;have O1:=qkp D1 T O0;have O2:=qyq (P:=l.prog) (w:=w) (base:=base) D2 T;have O3:=qnw D3 T O1 O2;have O4:=qow (P:=l.prog) (w:=w) (base:=base) D4 T;have O5:=qjz D5 T O0 O4;have O6:=zahf (P:=l.prog) (w:=w) (base:=base) D6 T;have O7:=qwu (P:=l.prog) (w:=w) (base:=base) D7 T;have O8:=zadq (P:=l.prog) (w:=w) (base:=base) D8 T;have O9:=qmb (P:=l.prog) (w:=w) (base:=base) D9 T;have O10:=qme D10 T O9;have O11:=qly D11 T KB O1 O2 O6 O8 O10;have O12:=qkm D12 T O9;have O13:=qwh (P:=l.prog) (w:=w) (base:=base) D13 T;have O14:=qwn (P:=l.prog) (w:=w) (base:=base) D14 T;have O15:=qzj D15 T O0;have O16:=zafj D16 T O14 O15;have O17:=qwz D17 T O6 O8 O10 O16;have O18:=zahc D18 T O3 O5 O6 O7 O11 O12 O13 O17;have O19:=zacr (P:=l.prog) (w:=w) (base:=base) D19 T;have O20:=qhm D20 T O19;have O21:=qox (P:=l.prog) (w:=w) (base:=base) D21 T;have O22:=zadu D22 T O0;have O23:=qrx (P:=l.prog) (w:=w) (base:=base) D23 T;have O24:=qks D24 T O23;have O25:=qrl (P:=l.prog) (w:=w) (base:=base) D25 T;have O26:=qiq (P:=l.prog) (w:=w) (base:=base) D26 T;have O27:=qkq D27 T O26;have O28:=zaaa (P:=l.prog) (w:=w) (base:=base) D28 T;have O29:=qkr D29 T O27 O28;have O30:=qrp D30 T O16;have O31:=zacz D31 T O21 O22 O24 O25 O29 O30;have O32:=qka D32 T O6;have O33:=qzw (P:=l.prog) (w:=w) (base:=base) D33 T;have O34:=qoa D34 T O6;have O35:=qtz D35 T O6 O33 O34;have O36:=qoy D36 T O6;have O37:=qwx D37 T O0 O14;have O38:=qny D38 T O37;have O39:=zahz D39 T O15 O38;have O40:=qzn (P:=l.prog) (w:=w) (base:=base) D40 T;have O41:=qru D41 T O5 O6 O16 O39 O40;have O42:=qwt D42 T O6 O19 O20 O31 O32 O35 O36 O40 O41;have O43:=qro D43 T O42;have O44:=zahp D44 T O43;have O45:=qwo (P:=l.prog) (w:=w) (base:=base) D45 T;have O46:=qsb (P:=l.prog) (w:=w) (base:=base) D46 T;have O47:=qtx D47 T O46;have O48:=qod (P:=l.prog) (w:=w) (base:=base) D48 T;have O49:=qnv D49 T O48;have O50:=qxa D50 T O47;have O51:=qsd D51 T O47;have O52:=qsf D52 T O47 O49 O50 O51;have O53:=que D53 T O49;have O54:=qou D54 T O47;have O55:=qrr D55 T O47;have O56:=qrq D56 T O47 O51 O52 O53 O54 O55;exact zapk (P:=l.prog) (w:=w) (K:=K) (mg:=mg) (base:=base) F57 T O18 O42 O44 O45 O47 O52 O56
def walk {l:Qgj}{q:Zj}{loose:List Str}{XP:(Str->Option Value)->Heap->Prop}{YP:World->Heap->Prop}{d:DefRec}{K:Qbo->Qd}{tb c0:Addr} (hn:l.most=some 63) (hdf:d.params.defaults=[])
 (hY : ∀ (w:World) (h:Heap),YP w h->(K w.params).In h/\h.TableAt c0 tb #[]) (hKt : ∀ P,(K P).lookup tb=none)
 (F : ∀ (w:World) (mg:Str->Option Value) (fa:Addr) (h:Heap),(K w.params).In h->h.Ns Zc mg->mg d.name=some (.ref fa) ->
 ∃ fd:V4,(∀ (s:Ql) (u:Value),Qiy s fd ⟨[u],[]⟩ [(Ss,u)]) /\ ∀ base:Heap,(K w.params).In base->base.Ns Zc mg->FnOk l.prog w (K w.params) mg base CX0 9 fa fd [Ss] (qrv tb (K w.params))) :
 Qla q loose XP YP l.row.toRowW d [] (fun f vs=>Qku f vs) :=
  L2.walk_ofT (n:=63) (k:=9) (x := Ss) (tb:=fun _=>tb) (c0:=fun _=>c0) (CX:=fun _=>CX0) (sp:=fun w=>qrv tb (K w.params)) hn (by decide) hdf ⟨rfl,by decide,by decide⟩ hY hKt F (fun _ _ a ns hl ht hS=>⟨ht,a,ns,rfl,hS,hl,fun _=>rfl⟩) fun _ _ _ _ _ z=>z
noncomputable section
open PySem PySem.W PySem.Calls PyProof.Rows
abbrev N0:=BT.node
abbrev nl0:=BT.nil
abbrev xs9:Value:=.str "law_dullglass_k37_whole_alike_just_where_the" 627
abbrev xl9 (o:Obj):=N0 o nl0 nl0
def en0 (P:Qbo) (x:Str) (t:Nat) (v:Value):Qdv:=⟨Qh.keyHash P x,.str x t,v⟩
def tu0 (vs:List Value):Obj:=⟨.type "tuple",none,.seq vs.toArray 0,#[]⟩
def em0:Obj:=⟨.none,none,.fields #[],#[]⟩
def fo0 (n q:Str) (s:Stmt) (pm:Value) (c:Nat):Obj:=⟨.type "function",none,.func (Va n q (L2.defArgs s) (L2.defBody s) (L2.defScope s) .none .none .none pm none (.ref c) .none),#[]⟩
def pr0 (n q:Str) (s:Stmt):Obj:=⟨.none,none,.func ⟨n,q,L2.defArgs s,.stmts (L2.defBody s),L2.defScope s,0,[],.none,.none,.none,.none,none,.none,.none,0⟩,#[]⟩
def co0 (n q:Str) (t:Nat) (l ac fl:Int) (a:Nat) (b:Bool) (x y z:Value) (u:Nat):Obj:=⟨.type "code",none,.fields #[.str n t,.str q (t+1),.str "/claim/cut.py" (t+2),.int l 0,.int ac 0,.int 0 0,.int 0 0,.int fl 0,.ref a,.bool b,.int 181 0,.ref (a+1),.none,x,y,z,.int u 0,.int l 0,.str "/claim/cut.py" (u+1)],#[]⟩
def co1 (n:Str) (t:Nat) (l ac fl:Int) (a:Nat) (b:Bool) (u:Nat):Obj:=co0 n n t l ac fl a b (.ref (a+2)) (.ref (a+3)) (.ref (a+4)) u
def fo1 (n:Str) (s:Nat) (pm:Value) (c:Nat):Obj:=fo0 n n (top s) pm c
lay_quick Qe
def env0:Env:={ scope:=Qe.main.scope,locals:=mainNs,globals:=mainNs,cells:=[],code:=(.ref 13),frame:=some 14 }
def cE0:Code :=.body (behindTheImports Qe) env0
def ls0:List Str:=[Qq "GlassError",Qq "NoShare",Qq "NoFit",Qq "TooMany",Qq "is_whole",Qq "divisor",Qq "share",Qq "reduced",Qq "is_share",Qq "check_shares",Qq "times",Qq "common_divisor",Qq "lowest_table",Qq "divided",Qq "table_of_shares",Qq "over_bottom",Qq "stands",Qq "signs",Qq "column",Qq "one_sign",Qq "least",Qq "sorted_groups",Qq "joined_column",Qq "joined_numbers",Qq "joined_number",Qq "place_of",Qq "parts_of",Qq "check_alike_stands",Qq "MOST_UNKNOWNS",Qq "MOST_ROWS",Qq "solved",Qq "first_above",Qq "lowest",Qq "Board",Qq "first_line",Qq "cleared",Qq "MOST_COMPARED",Qq "compared",Qq "alike",Qq "dulls_into",Qq "check_few_signs",Qq "equations",Qq "seen_as",Qq "shown_in_all",Qq "wanted_sums",Qq "dulling_by",Qq "in_rows",Qq "_law_pen",Qq "_law_mixed",Qq "_law_next",Qq "_law_divisor",Qq "_law_share",Qq "_law_reduced",Qq "_law_row",Qq "_law_split",Qq "_law_table",Qq "_law_made",Qq "_law_turned",Qq "_law_moved",Qq "_law_other"]
def lf0:Life:=⟨[],[],[],0,[],[],false,#[],[],0,false,false,false,0,[2000,10,10],false,0,true,[],[],0,false⟩
def o13a:Obj:=co0 "<module>" "<module>" 182 1 0 0 11 false .none .none .none 185
def o14a:Obj:=⟨(.type "frame"),none,.plain,#[(some (.ref 13)),(some (.ref 3)),(some (.ref 3)),none,(some (.str "__main__" 164)),none,(some (.ref 0))]⟩
def o3 (P:Qbo):Obj:=⟨(.type "dict"),none,(.dict #[en0 P "__name__" 165 xs9,en0 P "__doc__" 166 .none,en0 P "__package__" 167 .none,en0 P "__loader__" 168 (.builtin "__main__.__loader__#opaque"),en0 P "__spec__" 169 .none,en0 P "__annotations__" 170 (.ref 6),en0 P "__builtins__" 171 (.ref 4),en0 P "__file__" 173 (.str "/claim/cut.py" 172),en0 P "__cached__" 174 .none,en0 P "GlassError" 206 (.ref 24),en0 P "NoShare" 222 (.ref 37),en0 P "NoFit" 238 (.ref 49),en0 P "TooMany" 254 (.ref 61),en0 P "is_whole" 263 (.ref 70),en0 P "divisor" 272 (.ref 77),en0 P "share" 280 (.ref 84),en0 P "reduced" 289 (.ref 91),en0 P "is_share" 296 (.ref 98),en0 P "check_shares" 304 (.ref 105),en0 P "times" 312 (.ref 112),en0 P "common_divisor" 324 (.ref 119),en0 P "lowest_table" 330 (.ref 124),en0 P "divided" 336 (.ref 129),en0 P "table_of_shares" 342 (.ref 134),en0 P "over_bottom" 348 (.ref 139),en0 P "stands" 355 (.ref 146),en0 P "signs" 362 (.ref 153),en0 P "column" 368 (.ref 158),en0 P "one_sign" 374 (.ref 163),en0 P "least" 382 (.ref 168),en0 P "sorted_groups" 394 (.ref 175),en0 P "joined_column" 400 (.ref 180),en0 P "joined_numbers" 406 (.ref 185),en0 P "joined_number" 412 (.ref 190),en0 P "place_of" 422 (.ref 197),en0 P "parts_of" 428 (.ref 202),en0 P "check_alike_stands" 438 (.ref 209),en0 P "MOST_UNKNOWNS" 442 (.int (20) 441),en0 P "MOST_ROWS" 444 (.int (24) 443),en0 P "solved" 456 (.ref 216),en0 P "first_above" 465 (.ref 223),en0 P "lowest" 471 (.ref 228),en0 P "Board" 542 (.ref 272),en0 P "first_line" 548 (.ref 281),en0 P "cleared" 554 (.ref 286),en0 P "MOST_COMPARED" 558 (.int (4) 557),en0 P "compared" 567 (.ref 293),en0 P "alike" 575 (.ref 300),en0 P "dulls_into" 583 (.ref 307),en0 P "check_few_signs" 590 (.ref 314),en0 P "equations" 596 (.ref 319),en0 P "seen_as" 602 (.ref 324),en0 P "shown_in_all" 608 (.ref 329),en0 P "wanted_sums" 614 (.ref 334),en0 P "dulling_by" 620 (.ref 339),en0 P "in_rows" 626 (.ref 344),en0 P "_law_pen" 636 (.ref 351),en0 P "_law_mixed" 645 (.ref 358),en0 P "_law_next" 654 (.ref 365),en0 P "_law_divisor" 664 (.ref 372),en0 P "_law_share" 673 (.ref 379),en0 P "_law_reduced" 679 (.ref 384),en0 P "_law_row" 685 (.ref 389),en0 P "_law_split" 691 (.ref 394),en0 P "_law_table" 697 (.ref 399),en0 P "_law_made" 704 (.ref 406),en0 P "_law_turned" 710 (.ref 411),en0 P "_law_moved" 716 (.ref 416),en0 P "_law_other" 722 (.ref 421),en0 P "law" 737 (.ref 428)] 70),#[]⟩
def o12:Obj:=⟨.none,none,(.fields #[(.int (2) 0),(.int (0) 0),(.ref 20),(.int (4) 0),(.int (0) 0),(.ref 33),(.int (6) 0),(.int (0) 0),(.ref 45),(.int (8) 0),(.int (0) 0),(.ref 57),(.int (11) 0),(.int (0) 0),(.ref 69),(.int (13) 0),(.int (0) 0),(.ref 76),(.int (21) 0),(.int (0) 0),(.ref 83),(.int (25) 0),(.int (0) 0),(.ref 90),(.int (30) 0),(.int (0) 0),(.ref 97),(.int (36) 0),(.int (0) 0),(.ref 104),(.int (39) 0),(.int (0) 0),(.ref 111),(.int (43) 0),(.int (0) 0),(.ref 118),(.int (49) 0),(.int (0) 0),(.ref 123),(.int (52) 0),(.int (0) 0),(.ref 128),(.int (54) 0),(.int (0) 0),(.ref 133),(.int (60) 0),(.int (0) 0),(.ref 138),(.int (62) 0),(.int (0) 0),(.ref 145),(.int (64) 0),(.int (0) 0),(.ref 152),(.int (66) 0),(.int (0) 0),(.ref 157),(.int (68) 0),(.int (0) 0),(.ref 162),(.int (71) 0),(.int (0) 0),(.ref 167),(.int (77) 0),(.int (0) 0),(.ref 174),(.int (85) 0),(.int (0) 0),(.ref 179),(.int (87) 0),(.int (0) 0),(.ref 184),(.int (89) 0),(.int (0) 0),(.ref 189),(.int (91) 0),(.int (0) 0),(.ref 196),(.int (96) 0),(.int (0) 0),(.ref 201),(.int (100) 0),(.int (0) 0),(.ref 208),(.int (106) 0),(.int (0) 0),(.ref 215),(.int (119) 0),(.int (0) 0),(.ref 222),(.int (124) 0),(.int (0) 0),(.ref 227),(.int (129) 0),(.int (0) 0),(.ref 234),(.int (170) 0),(.int (0) 0),(.ref 280),(.int (174) 0),(.int (0) 0),(.ref 285),(.int (178) 0),(.int (0) 0),(.ref 292),(.int (186) 0),(.int (0) 0),(.ref 299),(.int (188) 0),(.int (0) 0),(.ref 306),(.int (190) 0),(.int (0) 0),(.ref 313),(.int (193) 0),(.int (0) 0),(.ref 318),(.int (200) 0),(.int (0) 0),(.ref 323),(.int (202) 0),(.int (0) 0),(.ref 328),(.int (204) 0),(.int (0) 0),(.ref 333),(.int (209) 0),(.int (0) 0),(.ref 338),(.int (213) 0),(.int (0) 0),(.ref 343),(.int (216) 0),(.int (0) 0),(.ref 350),(.int (221) 0),(.int (0) 0),(.ref 357),(.int (227) 0),(.int (0) 0),(.ref 364),(.int (240) 0),(.int (0) 0),(.ref 371),(.int (247) 0),(.int (0) 0),(.ref 378),(.int (250) 0),(.int (0) 0),(.ref 383),(.int (256) 0),(.int (0) 0),(.ref 388),(.int (259) 0),(.int (0) 0),(.ref 393),(.int (271) 0),(.int (0) 0),(.ref 398),(.int (279) 0),(.int (0) 0),(.ref 405),(.int (281) 0),(.int (0) 0),(.ref 410),(.int (289) 0),(.int (0) 0),(.ref 415),(.int (298) 0),(.int (0) 0),(.ref 420),(.int (308) 0),(.int (0) 0),(.ref 427)]),#[]⟩
def o16:Obj:=⟨(.type "builtin_function_or_method"),none,(.fields #[(.builtin "type.__prepare__"),(.type "type")]),#[]⟩
def o17 (P:Qbo):Obj:=⟨(.type "dict"),none,(.dict #[en0 P "__module__" 196 (.str "dullglass.errors" 187),en0 P "__qualname__" 198 (.str "GlassError" 197),en0 P "__firstlineno__" 200 (.int (2) 199),en0 P "__static_attributes__" 201 (.ref 22)] 4),#[]⟩
def o20:Obj:=co0 "GlassError" "GlassError" 191 2 0 0 18 false .none .none .none 194
def o21:Obj:=⟨(.type "frame"),none,.plain,#[(some (.ref 20)),(some (.ref 3)),(some (.ref 17)),none,(some (.str "dullglass.errors" 187)),none,(some (.ref 0))]⟩
def o23 (P:Qbo):Obj:=⟨(.type "dict"),none,(.dict #[en0 P "__module__" 196 (.str "dullglass.errors" 187),en0 P "__firstlineno__" 200 (.int (2) 199),en0 P "__static_attributes__" 201 (.ref 22),en0 P "__weakref__" 203 (.ref 25),en0 P "__doc__" 204 .none] 3),#[]⟩
def o24:Obj:=⟨(.type "type"),none,(.cls ⟨"GlassError",[(.type "ValueError")],[(.ref 24),(.type "ValueError"),(.type "Exception"),(.type "BaseException"),(.type "object")],23,"GlassError",true,[],[(.ref 37),(.ref 49),(.ref 61)],false,none,false⟩),#[(some (.ref 15)),none,(some (.str "GlassError" 189)),(some (.str "GlassError" 197)),(some (.builtin "ValueError.__new__")),(some (.bool true))]⟩
def o25:Obj:=⟨(.type "getset_descriptor"),none,(.fields #[(.str "__weakref__" 202),(.ref 24),(.builtin "ExceptionGroup.__weakref__"),.none]),#[]⟩
def o26:Obj:=⟨(.type "super"),none,(.fields #[(.ref 24),(.ref 24),(.ref 24)]),#[]⟩
def o27:Obj:=⟨(.type "builtin_function_or_method"),none,(.fields #[(.builtin "object.__init_subclass__"),(.ref 24)]),#[]⟩
def o29:Obj:=⟨(.type "builtin_function_or_method"),none,(.fields #[(.builtin "type.__prepare__"),(.type "type")]),#[]⟩
def o30 (P:Qbo):Obj:=⟨(.type "dict"),none,(.dict #[en0 P "__module__" 214 (.str "dullglass.errors" 187),en0 P "__qualname__" 216 (.str "NoShare" 215),en0 P "__firstlineno__" 218 (.int (4) 217),en0 P "__static_attributes__" 219 (.ref 35)] 4),#[]⟩
def o33:Obj:=co0 "NoShare" "NoShare" 209 4 0 0 31 false .none .none .none 212
def o34:Obj:=⟨(.type "frame"),none,.plain,#[(some (.ref 33)),(some (.ref 3)),(some (.ref 30)),none,(some (.str "dullglass.errors" 187)),none,(some (.ref 0))]⟩
def o36 (P:Qbo):Obj:=⟨(.type "dict"),none,(.dict #[en0 P "__module__" 214 (.str "dullglass.errors" 187),en0 P "__firstlineno__" 218 (.int (4) 217),en0 P "__static_attributes__" 219 (.ref 35),en0 P "__doc__" 220 .none] 2),#[]⟩
def o37:Obj:=⟨(.type "type"),none,(.cls ⟨"NoShare",[(.ref 24)],[(.ref 37),(.ref 24),(.type "ValueError"),(.type "Exception"),(.type "BaseException"),(.type "object")],36,"NoShare",true,[],[],false,none,false⟩),#[(some (.ref 28)),none,(some (.str "NoShare" 207)),(some (.str "NoShare" 215)),(some (.builtin "ValueError.__new__")),(some (.bool true))]⟩
def o38:Obj:=⟨(.type "super"),none,(.fields #[(.ref 37),(.ref 37),(.ref 37)]),#[]⟩
def o39:Obj:=⟨(.type "builtin_function_or_method"),none,(.fields #[(.builtin "object.__init_subclass__"),(.ref 37)]),#[]⟩
def o41:Obj:=⟨(.type "builtin_function_or_method"),none,(.fields #[(.builtin "type.__prepare__"),(.type "type")]),#[]⟩
def o42 (P:Qbo):Obj:=⟨(.type "dict"),none,(.dict #[en0 P "__module__" 230 (.str "dullglass.errors" 187),en0 P "__qualname__" 232 (.str "NoFit" 231),en0 P "__firstlineno__" 234 (.int (6) 233),en0 P "__static_attributes__" 235 (.ref 47)] 4),#[]⟩
def o45:Obj:=co0 "NoFit" "NoFit" 225 6 0 0 43 false .none .none .none 228
def o46:Obj:=⟨(.type "frame"),none,.plain,#[(some (.ref 45)),(some (.ref 3)),(some (.ref 42)),none,(some (.str "dullglass.errors" 187)),none,(some (.ref 0))]⟩
def o48 (P:Qbo):Obj:=⟨(.type "dict"),none,(.dict #[en0 P "__module__" 230 (.str "dullglass.errors" 187),en0 P "__firstlineno__" 234 (.int (6) 233),en0 P "__static_attributes__" 235 (.ref 47),en0 P "__doc__" 236 .none] 2),#[]⟩
def o49:Obj:=⟨(.type "type"),none,(.cls ⟨"NoFit",[(.ref 24)],[(.ref 49),(.ref 24),(.type "ValueError"),(.type "Exception"),(.type "BaseException"),(.type "object")],48,"NoFit",true,[],[],false,none,false⟩),#[(some (.ref 40)),none,(some (.str "NoFit" 223)),(some (.str "NoFit" 231)),(some (.builtin "ValueError.__new__")),(some (.bool true))]⟩
def o50:Obj:=⟨(.type "super"),none,(.fields #[(.ref 49),(.ref 49),(.ref 49)]),#[]⟩
def o51:Obj:=⟨(.type "builtin_function_or_method"),none,(.fields #[(.builtin "object.__init_subclass__"),(.ref 49)]),#[]⟩
def o53:Obj:=⟨(.type "builtin_function_or_method"),none,(.fields #[(.builtin "type.__prepare__"),(.type "type")]),#[]⟩
def o54 (P:Qbo):Obj:=⟨(.type "dict"),none,(.dict #[en0 P "__module__" 246 (.str "dullglass.errors" 187),en0 P "__qualname__" 248 (.str "TooMany" 247),en0 P "__firstlineno__" 250 (.int (8) 249),en0 P "__static_attributes__" 251 (.ref 59)] 4),#[]⟩
def o57:Obj:=co0 "TooMany" "TooMany" 241 8 0 0 55 false .none .none .none 244
def o58:Obj:=⟨(.type "frame"),none,.plain,#[(some (.ref 57)),(some (.ref 3)),(some (.ref 54)),none,(some (.str "dullglass.errors" 187)),none,(some (.ref 0))]⟩
def o60 (P:Qbo):Obj:=⟨(.type "dict"),none,(.dict #[en0 P "__module__" 246 (.str "dullglass.errors" 187),en0 P "__firstlineno__" 250 (.int (8) 249),en0 P "__static_attributes__" 251 (.ref 59),en0 P "__doc__" 252 .none] 2),#[]⟩
def o61:Obj:=⟨(.type "type"),none,(.cls ⟨"TooMany",[(.ref 24)],[(.ref 61),(.ref 24),(.type "ValueError"),(.type "Exception"),(.type "BaseException"),(.type "object")],60,"TooMany",true,[],[],false,none,false⟩),#[(some (.ref 52)),none,(some (.str "TooMany" 239)),(some (.str "TooMany" 247)),(some (.builtin "ValueError.__new__")),(some (.bool true))]⟩
def o62:Obj:=⟨(.type "super"),none,(.fields #[(.ref 61),(.ref 61),(.ref 61)]),#[]⟩
def o63:Obj:=⟨(.type "builtin_function_or_method"),none,(.fields #[(.builtin "object.__init_subclass__"),(.ref 61)]),#[]⟩
def o69:Obj:=co1 "is_whole" 257 11 1 3 64 true 261
def o70:Obj:=fo1 "is_whole" 6 (.str "dullglass.shares" 255) 69
def o76:Obj:=co1 "divisor" 264 13 2 3 71 true 270
def o77:Obj:=fo1 "divisor" 7 (.str "dullglass.shares" 255) 76
def o83:Obj:=co1 "share" 273 21 2 3 78 true 278
def o84:Obj:=fo1 "share" 8 (.str "dullglass.shares" 255) 83
def o90:Obj:=co1 "reduced" 281 25 2 3 85 true 287
def o91:Obj:=fo1 "reduced" 9 (.str "dullglass.shares" 255) 90
def o97:Obj:=co1 "is_share" 290 30 1 3 92 true 294
def o98:Obj:=fo1 "is_share" 10 (.str "dullglass.shares" 255) 97
def o104:Obj:=co1 "check_shares" 297 36 2 3 99 true 302
def o105:Obj:=fo1 "check_shares" 11 (.str "dullglass.shares" 255) 104
def o111:Obj:=co1 "times" 305 39 2 3 106 true 310
def o112:Obj:=fo1 "times" 12 (.str "dullglass.shares" 255) 111
def o118:Obj:=co1 "common_divisor" 315 43 1 3 113 true 322
def o119:Obj:=fo1 "common_divisor" 14 (.str "dullglass.glasses" 313) 118
def o123:Obj:=co0 "lowest_table" "lowest_table" 325 49 2 3 120 true .none .none (.ref 122) 328
def o124:Obj:=fo1 "lowest_table" 15 (.str "dullglass.glasses" 313) 123
def o128:Obj:=co0 "divided" "divided" 331 52 2 3 125 true .none .none (.ref 127) 334
def o129:Obj:=fo1 "divided" 16 (.str "dullglass.glasses" 313) 128
def o133:Obj:=co0 "table_of_shares" "table_of_shares" 337 54 1 3 130 true .none .none (.ref 132) 340
def o134:Obj:=fo1 "table_of_shares" 17 (.str "dullglass.glasses" 313) 133
def o138:Obj:=co0 "over_bottom" "over_bottom" 343 60 2 3 135 true .none .none (.ref 137) 346
def o139:Obj:=fo1 "over_bottom" 18 (.str "dullglass.glasses" 313) 138
def o145:Obj:=co1 "stands" 349 62 1 3 140 true 353
def o146:Obj:=fo1 "stands" 19 (.str "dullglass.glasses" 313) 145
def o152:Obj:=co1 "signs" 356 64 1 3 147 true 360
def o153:Obj:=fo1 "signs" 20 (.str "dullglass.glasses" 313) 152
def o157:Obj:=co0 "column" "column" 363 66 2 3 154 true .none .none (.ref 156) 366
def o158:Obj:=fo1 "column" 21 (.str "dullglass.glasses" 313) 157
def o162:Obj:=co0 "one_sign" "one_sign" 369 68 2 3 159 true .none .none (.ref 161) 372
def o163:Obj:=fo1 "one_sign" 22 (.str "dullglass.glasses" 313) 162
def o167:Obj:=co0 "least" "least" 377 71 1 3 164 true .none .none (.ref 166) 380
def o168:Obj:=fo1 "least" 24 (.str "dullglass.least" 375) 167
def o174:Obj:=co1 "sorted_groups" 383 77 1 3 169 true 392
def o175:Obj:=fo1 "sorted_groups" 25 (.str "dullglass.least" 375) 174
def o179:Obj:=co0 "joined_column" "joined_column" 395 85 2 3 176 true .none .none (.ref 178) 398
def o180:Obj:=fo1 "joined_column" 26 (.str "dullglass.least" 375) 179
def o184:Obj:=co0 "joined_numbers" "joined_numbers" 401 87 2 3 181 true .none .none (.ref 183) 404
def o185:Obj:=fo1 "joined_numbers" 27 (.str "dullglass.least" 375) 184
def o189:Obj:=co0 "joined_number" "joined_number" 407 89 2 3 186 true .none .none (.ref 188) 410
def o190:Obj:=fo1 "joined_number" 28 (.str "dullglass.least" 375) 189
def o196:Obj:=co1 "place_of" 413 91 2 3 191 true 420
def o197:Obj:=fo1 "place_of" 29 (.str "dullglass.least" 375) 196
def o201:Obj:=co0 "parts_of" "parts_of" 423 96 2 3 198 true .none .none (.ref 200) 426
def o202:Obj:=fo1 "parts_of" 30 (.str "dullglass.least" 375) 201
def o208:Obj:=co1 "check_alike_stands" 431 100 2 3 203 true 436
def o209:Obj:=fo1 "check_alike_stands" 32 (.str "dullglass.dulls" 429) 208
def o215:Obj:=co1 "solved" 445 106 2 3 210 true 454
def o216:Obj:=fo1 "solved" 36 (.str "dullglass.solver" 439) 215
def o222:Obj:=co1 "first_above" 457 119 1 3 217 true 463
def o223:Obj:=fo1 "first_above" 37 (.str "dullglass.solver" 439) 222
def o227:Obj:=co0 "lowest" "lowest" 466 124 1 3 224 true .none .none (.ref 226) 469
def o228:Obj:=fo1 "lowest" 38 (.str "dullglass.solver" 439) 227
def o230:Obj:=⟨(.type "builtin_function_or_method"),none,(.fields #[(.builtin "type.__prepare__"),(.type "type")]),#[]⟩
def o231 (P:Qbo):Obj:=⟨(.type "dict"),none,(.dict #[en0 P "__module__" 479 (.str "dullglass.solver" 439),en0 P "__qualname__" 481 (.str "Board" 480),en0 P "__firstlineno__" 483 (.int (129) 482),en0 P "__init__" 489 (.ref 240),en0 P "lack" 495 (.ref 245),en0 P "bring_in" 501 (.ref 250),en0 P "tightest" 512 (.ref 257),en0 P "is_tighter" 524 (.ref 264),en0 P "told" 530 (.ref 269),en0 P "__static_attributes__" 535 (.ref 270)] 10),#[]⟩
def o233:Obj:=⟨.none,none,(.fields #[(.int (131) 0),(.int (4) 0),(.ref 239),(.int (137) 0),(.int (4) 0),(.ref 244),(.int (144) 0),(.int (4) 0),(.ref 249),(.int (152) 0),(.int (4) 0),(.ref 256),(.int (159) 0),(.int (4) 0),(.ref 263),(.int (164) 0),(.int (4) 0),(.ref 268)]),#[]⟩
def o234:Obj:=co0 "Board" "Board" 474 129 0 0 232 false .none .none .none 477
def o235:Obj:=⟨(.type "frame"),none,.plain,#[(some (.ref 234)),(some (.ref 3)),(some (.ref 231)),none,(some (.str "dullglass.solver" 439)),none,(some (.ref 0))]⟩
def o239:Obj:=co0 "__init__" "Board.__init__" 484 131 4 3 236 true .none .none (.ref 238) 487
def o240:Obj:=fo0 "__init__" "Board.__init__" (qbz (top 39) 0) (.str "dullglass.solver" 439) 239
def o244:Obj:=co0 "lack" "Board.lack" 490 137 1 3 241 true .none .none (.ref 243) 493
def o245:Obj:=fo0 "lack" "Board.lack" (qbz (top 39) 1) (.str "dullglass.solver" 439) 244
def o249:Obj:=co0 "bring_in" "Board.bring_in" 496 144 2 3 246 true .none .none (.ref 248) 499
def o250:Obj:=fo0 "bring_in" "Board.bring_in" (qbz (top 39) 2) (.str "dullglass.solver" 439) 249
def o256:Obj:=co0 "tightest" "Board.tightest" 502 152 2 3 251 true (.ref 253) (.ref 254) (.ref 255) 510
def o257:Obj:=fo0 "tightest" "Board.tightest" (qbz (top 39) 3) (.str "dullglass.solver" 439) 256
def o263:Obj:=co0 "is_tighter" "Board.is_tighter" 513 159 4 3 258 true (.ref 260) (.ref 261) (.ref 262) 522
def o264:Obj:=fo0 "is_tighter" "Board.is_tighter" (qbz (top 39) 4) (.str "dullglass.solver" 439) 263
def o268:Obj:=co0 "told" "Board.told" 525 164 1 3 265 true .none .none (.ref 267) 528
def o269:Obj:=fo0 "told" "Board.told" (qbz (top 39) 5) (.str "dullglass.solver" 439) 268
def o271 (P:Qbo):Obj:=⟨(.type "dict"),none,(.dict #[en0 P "__module__" 479 (.str "dullglass.solver" 439),en0 P "__firstlineno__" 483 (.int (129) 482),en0 P "__init__" 489 (.ref 240),en0 P "lack" 495 (.ref 245),en0 P "bring_in" 501 (.ref 250),en0 P "tightest" 512 (.ref 257),en0 P "is_tighter" 524 (.ref 264),en0 P "told" 530 (.ref 269),en0 P "__static_attributes__" 535 (.ref 270),en0 P "__dict__" 537 (.ref 273),en0 P "__weakref__" 539 (.ref 274),en0 P "__doc__" 540 .none] 4),#[]⟩
def o272:Obj:=⟨(.type "type"),none,(.cls ⟨"Board",[(.type "object")],[(.ref 272),(.type "object")],271,"Board",true,[],[],false,none,false⟩),#[none,none,(some (.str "Board" 472)),(some (.str "Board" 480)),(some (.builtin "object.__new__")),(some (.bool true))]⟩
def o273:Obj:=⟨(.type "getset_descriptor"),none,(.fields #[(.str "__dict__" 536),(.ref 272),(.builtin "function.__dict__"),(.builtin "function.__dict__#set")]),#[]⟩
def o274:Obj:=⟨(.type "getset_descriptor"),none,(.fields #[(.str "__weakref__" 538),(.ref 272),(.builtin "ExceptionGroup.__weakref__"),.none]),#[]⟩
def o275:Obj:=⟨(.type "super"),none,(.fields #[(.ref 272),(.ref 272),(.ref 272)]),#[]⟩
def o276:Obj:=⟨(.type "builtin_function_or_method"),none,(.fields #[(.builtin "object.__init_subclass__"),(.ref 272)]),#[]⟩
def o280:Obj:=co0 "first_line" "first_line" 543 170 4 3 277 true .none .none (.ref 279) 546
def o281:Obj:=fo1 "first_line" 40 (.str "dullglass.solver" 439) 280
def o285:Obj:=co0 "cleared" "cleared" 549 174 4 3 282 true .none .none (.ref 284) 552
def o286:Obj:=fo1 "cleared" 41 (.str "dullglass.solver" 439) 285
def o292:Obj:=co1 "compared" 559 178 2 3 287 true 565
def o293:Obj:=fo1 "compared" 44 (.str "dullglass.compare" 555) 292
def o299:Obj:=co1 "alike" 568 186 2 3 294 true 573
def o300:Obj:=fo1 "alike" 45 (.str "dullglass.compare" 555) 299
def o306:Obj:=co1 "dulls_into" 576 188 2 3 301 true 581
def o307:Obj:=fo1 "dulls_into" 46 (.str "dullglass.compare" 555) 306
def o313:Obj:=co1 "check_few_signs" 584 190 1 3 308 true 588
def o314:Obj:=fo1 "check_few_signs" 47 (.str "dullglass.compare" 555) 313
def o318:Obj:=co0 "equations" "equations" 591 193 2 3 315 true .none .none (.ref 317) 594
def o319:Obj:=fo1 "equations" 48 (.str "dullglass.compare" 555) 318
def o323:Obj:=co0 "seen_as" "seen_as" 597 200 3 3 320 true .none .none (.ref 322) 600
def o324:Obj:=fo1 "seen_as" 49 (.str "dullglass.compare" 555) 323
def o328:Obj:=co0 "shown_in_all" "shown_in_all" 603 202 3 3 325 true .none .none (.ref 327) 606
def o329:Obj:=fo1 "shown_in_all" 50 (.str "dullglass.compare" 555) 328
def o333:Obj:=co0 "wanted_sums" "wanted_sums" 609 204 2 3 330 true .none .none (.ref 332) 612
def o334:Obj:=fo1 "wanted_sums" 51 (.str "dullglass.compare" 555) 333
def o338:Obj:=co0 "dulling_by" "dulling_by" 615 209 3 3 335 true .none .none (.ref 337) 618
def o339:Obj:=fo1 "dulling_by" 52 (.str "dullglass.compare" 555) 338
def o343:Obj:=co0 "in_rows" "in_rows" 621 213 3 3 340 true .none .none (.ref 342) 624
def o344:Obj:=fo1 "in_rows" 53 (.str "dullglass.compare" 555) 343
def o350:Obj:=co1 "_law_pen" 629 216 1 3 345 true 634
def o351:Obj:=fo1 "_law_pen" 55 xs9 350
def o357:Obj:=co1 "_law_mixed" 637 221 1 3 352 true 643
def o358:Obj:=fo1 "_law_mixed" 56 xs9 357
def o364:Obj:=co1 "_law_next" 646 227 2 3 359 true 652
def o365:Obj:=fo1 "_law_next" 57 xs9 364
def o371:Obj:=co1 "_law_divisor" 655 240 1 3 366 true 662
def o372:Obj:=fo1 "_law_divisor" 58 xs9 371
def o378:Obj:=co1 "_law_share" 665 247 2 3 373 true 671
def o379:Obj:=fo1 "_law_share" 59 xs9 378
def o383:Obj:=co0 "_law_reduced" "_law_reduced" 674 250 2 3 380 true .none .none (.ref 382) 677
def o384:Obj:=fo1 "_law_reduced" 60 xs9 383
def o388:Obj:=co0 "_law_row" "_law_row" 680 256 3 3 385 true .none .none (.ref 387) 683
def o389:Obj:=fo1 "_law_row" 61 xs9 388
def o393:Obj:=co0 "_law_split" "_law_split" 686 259 2 3 390 true .none .none (.ref 392) 689
def o394:Obj:=fo1 "_law_split" 62 xs9 393
def o398:Obj:=co0 "_law_table" "_law_table" 692 271 4 3 395 true .none .none (.ref 397) 695
def o399:Obj:=fo1 "_law_table" 63 xs9 398
def o405:Obj:=co1 "_law_made" 698 279 1 3 400 true 702
def o406:Obj:=fo1 "_law_made" 64 xs9 405
def o410:Obj:=co0 "_law_turned" "_law_turned" 705 281 2 3 407 true .none .none (.ref 409) 708
def o411:Obj:=fo1 "_law_turned" 65 xs9 410
def o415:Obj:=co0 "_law_moved" "_law_moved" 711 289 2 3 412 true .none .none (.ref 414) 714
def o416:Obj:=fo1 "_law_moved" 66 xs9 415
def o420:Obj:=co0 "_law_other" "_law_other" 717 298 3 3 417 true .none .none (.ref 419) 720
def o421:Obj:=fo1 "_law_other" 67 xs9 420
def o427:Obj:=co1 "law" 723 308 1 3 422 true 735
def o428:Obj:=fo1 "law" 68 xs9 427
def tA0 (P:Qbo):BT:=(N0 (boot_o_0 P) (N0 (boot_o_1 P) (N0 (boot_o_3 P) (xl9 (boot_o_7 P)) (xl9 (tu0 []))) (N0 (boot_o_5 P) (xl9 (boot_o_9 P)) (xl9 o13a))) (N0 (boot_o_2 P) (N0 (boot_o_4 P) (xl9 (boot_o_8 P)) (xl9 em0)) (N0 (boot_o_6 P) (xl9 (boot_o_10 P)) (xl9 o14a))))
def tE0 (P:Qbo):BT:=(N0 (boot_o_0 P) (N0 (boot_o_1 P) (N0 (o3 P) (N0 (boot_o_7 P) (N0 (tu0 [(.type "ValueError")]) (N0 (tu0 []) (N0 o63 (N0 (pr0 "divided" "divided" (top 16)) (xl9 (pr0 "tightest" "Board.tightest" (qbz (top 39) 3))) (xl9 o383)) (N0 (tu0 []) (xl9 o319) nl0)) (N0 (tu0 []) (N0 (tu0 []) (xl9 (tu0 [])) (xl9 o415)) (N0 o223 (xl9 o351) nl0))) (N0 (tu0 []) (N0 em0 (N0 (tu0 []) (xl9 (o271 P)) (xl9 o399)) (N0 (pr0 "check_alike_stands" "check_alike_stands" (top 32)) (xl9 (tu0 [])) nl0)) (N0 o111 (N0 o175 (xl9 (tu0 [(.str "one" 579),(.str "other" 580)])) nl0) (N0 o239 (xl9 em0) nl0)))) (N0 (o23 P) (N0 o39 (N0 (tu0 []) (N0 (tu0 []) (xl9 o263) (xl9 em0)) (N0 em0 (xl9 (pr0 "shown_in_all" "shown_in_all" (top 50))) nl0)) (N0 (pr0 "check_shares" "check_shares" (top 11)) (N0 o167 (xl9 em0) (xl9 em0)) (N0 (o231 P) (xl9 (tu0 [])) nl0))) (N0 (tu0 []) (N0 (tu0 [(.str "top" 284),(.str "bottom" 285),(.str "common" 286)]) (N0 (pr0 "signs" "signs" (top 20)) (xl9 (pr0 "first_line" "first_line" (top 40))) (xl9 (tu0 []))) (N0 o215 (xl9 o343) nl0)) (N0 o119 (N0 (pr0 "joined_numbers" "joined_numbers" (top 27)) (xl9 (tu0 [])) nl0) (N0 em0 (xl9 (tu0 [(.str "_law_top" 668),(.str "_law_bottom" 669),(.str "_law_both" 670)])) nl0))))) (N0 (tu0 []) (N0 em0 (N0 (tu0 []) (N0 (tu0 []) (N0 em0 (xl9 em0) (xl9 (pr0 "_law_row" "_law_row" (top 61)))) (N0 (pr0 "place_of" "place_of" (top 29)) (xl9 o323) nl0)) (N0 (tu0 []) (N0 o163 (xl9 (pr0 "compared" "compared" (top 44))) (xl9 (pr0 "_law_other" "_law_other" (top 67)))) (N0 o227 (xl9 (tu0 [])) nl0))) (N0 o51 (N0 o83 (N0 (tu0 []) (xl9 o275) (xl9 (tu0 []))) (N0 em0 (xl9 o339) nl0)) (N0 (tu0 [(.str "rows" 318),(.str "common" 319),(.str "row" 320),(.str "number" 321)]) (N0 o179 (xl9 o307) nl0) (N0 (pr0 "lack" "Board.lack" (qbz (top 39) 1)) (xl9 o371) nl0)))) (N0 o27 (N0 (tu0 []) (N0 (pr0 "divisor" "divisor" (top 7)) (N0 o139 (xl9 (pr0 "told" "Board.told" (qbz (top 39) 5))) (xl9 (tu0 []))) (N0 (tu0 []) (xl9 em0) nl0)) (N0 em0 (N0 (tu0 [(.str "glass" 386),(.str "groups" 387),(.str "sign" 388),(.str "numbers" 389),(.str "alone" 390)]) (xl9 o299) (xl9 o427)) (N0 o235 (xl9 (pr0 "_law_next" "_law_next" (top 57))) nl0))) (N0 (tu0 []) (N0 o91 (N0 em0 (xl9 em0) (xl9 o411)) (N0 (tu0 [(.str "numbers" 460),(.str "place" 461),(.str "number" 462)]) (xl9 (tu0 [(.str "_law_script" 632),(.str "_law_head" 633)])) nl0)) (N0 o123 (N0 em0 (xl9 (tu0 [])) nl0) (N0 (tu0 []) (xl9 o379) nl0)))))) (N0 (boot_o_5 P) (N0 (boot_o_9 P) (N0 (o17 P) (N0 o33 (N0 em0 (N0 o129 (xl9 o257) (xl9 (tu0 []))) (N0 (tu0 [(.str "sign" 416),(.str "groups" 417),(.str "place" 418),(.str "group" 419)]) (xl9 em0) nl0)) (N0 o97 (N0 (pr0 "one_sign" "one_sign" (top 22)) (xl9 (tu0 [(.str "one" 562),(.str "other" 563),(.str "answer" 564)])) (xl9 (tu0 []))) (N0 em0 (xl9 em0) nl0))) (N0 o49 (N0 (tu0 []) (N0 o145 (xl9 o273) (xl9 em0)) (N0 o209 (xl9 (pr0 "dulling_by" "dulling_by" (top 52))) nl0)) (N0 (tu0 []) (N0 em0 (xl9 (pr0 "dulls_into" "dulls_into" (top 46))) nl0) (N0 (tu0 []) (xl9 (tu0 [])) nl0)))) (N0 o25 (N0 o41 (N0 (tu0 [(.str "one" 267),(.str "other" 268),(.str "rest" 269)]) (N0 (pr0 "over_bottom" "over_bottom" (top 18)) (xl9 (tu0 [])) (xl9 o393)) (N0 o201 (xl9 o329) nl0)) (N0 o105 (N0 (tu0 []) (xl9 (tu0 [])) (xl9 (tu0 []))) (N0 o233 (xl9 (tu0 [(.str "_law_pen_here" 649),(.str "_law_many" 650),(.str "_law_found" 651)])) nl0))) (N0 o57 (N0 (pr0 "reduced" "reduced" (top 9)) (N0 o153 (xl9 o281) (xl9 (pr0 "_law_turned" "_law_turned" (top 65)))) (N0 (tu0 []) (xl9 (tu0 [])) nl0)) (N0 em0 (N0 o185 (xl9 o313) nl0) (N0 o249 (xl9 (pr0 "_law_share" "_law_share" (top 59))) nl0))))) (N0 o13a (N0 o21 (N0 o37 (N0 o69 (N0 o133 (xl9 (tu0 [])) (xl9 o389)) (N0 o197 (xl9 (tu0 [])) nl0)) (N0 (tu0 [(.str "one" 300),(.str "other" 301)]) (N0 em0 (xl9 o293) (xl9 o421)) (N0 (tu0 []) (xl9 o357) nl0))) (N0 o53 (N0 (tu0 []) (N0 (tu0 [(.str "glass" 359)]) (xl9 (tu0 [])) (xl9 o405)) (N0 (tu0 []) (xl9 em0) nl0)) (N0 (pr0 "common_divisor" "common_divisor" (top 14)) (N0 (tu0 []) (xl9 em0) nl0) (N0 o245 (xl9 (tu0 [])) nl0)))) (N0 o29 (N0 o45 (N0 o77 (N0 em0 (xl9 o269) (xl9 (pr0 "_law_table" "_law_table" (top 63)))) (N0 (tu0 [(.str "one" 434),(.str "other" 435)]) (xl9 o333) nl0)) (N0 (tu0 []) (N0 (pr0 "sorted_groups" "sorted_groups" (top 25)) (xl9 (tu0 [])) nl0) (N0 em0 (xl9 o365) nl0))) (N0 o61 (N0 em0 (N0 o157 (xl9 o285) (xl9 em0)) (N0 (pr0 "first_above" "first_above" (top 37)) (xl9 (pr0 "_law_pen" "_law_pen" (top 55))) nl0)) (N0 (tu0 []) (N0 o189 (xl9 (pr0 "equations" "equations" (top 48))) nl0) (N0 (tu0 [(.str "self" 505),(.str "place" 506),(.str "chosen" 507),(.str "k" 508),(.str "line" 509)]) (xl9 em0) nl0))))))) (N0 (boot_o_2 P) (N0 (boot_o_4 P) (N0 (boot_o_8 P) (N0 o16 (N0 em0 (N0 (tu0 []) (N0 o128 (xl9 o256) (xl9 o384)) (N0 em0 (xl9 (tu0 [])) nl0)) (N0 (pr0 "is_share" "is_share" (top 10)) (N0 em0 (xl9 em0) (xl9 o416)) (N0 (tu0 []) (xl9 (tu0 [])) nl0))) (N0 (o48 P) (N0 (tu0 [(.str "top" 276),(.str "bottom" 277)]) (N0 (pr0 "stands" "stands" (top 19)) (xl9 o272) (xl9 (tu0 []))) (N0 o208 (xl9 em0) nl0)) (N0 o112 (N0 (tu0 []) (xl9 (tu0 [])) nl0) (N0 o240 (xl9 (tu0 [(.str "_law_numbers" 658),(.str "_law_found" 659),(.str "_law_number" 660),(.str "_law_other_here" 661)])) nl0)))) (N0 o24 (N0 (tu0 [(.ref 24)]) (N0 em0 (N0 em0 (xl9 o264) (xl9 (pr0 "_law_split" "_law_split" (top 62)))) (N0 (pr0 "parts_of" "parts_of" (top 30)) (xl9 o328) nl0)) (N0 o104 (N0 o168 (xl9 (tu0 [(.str "one" 571),(.str "other" 572)])) (xl9 (tu0 [(.str "_law_script" 726),(.str "_law_pen_here" 727),(.str "_law_many" 728),(.str "_law_most" 729),(.str "_law_one" 730),(.str "_law_other_here" 731),(.str "_law_forms" 732),(.str "_law_words" 733),(.str "_law_few" 734)]))) (N0 (tu0 []) (xl9 em0) nl0))) (N0 em0 (N0 (tu0 []) (N0 o152 (xl9 o280) (xl9 em0)) (N0 o216 (xl9 o344) nl0)) (N0 (tu0 []) (N0 o184 (xl9 (pr0 "check_few_signs" "check_few_signs" (top 47))) nl0) (N0 (pr0 "bring_in" "Board.bring_in" (qbz (top 39) 2)) (xl9 (tu0 [])) nl0))))) (N0 o12 (N0 o20 (N0 (o36 P) (N0 (pr0 "is_whole" "is_whole" (top 6)) (N0 (pr0 "table_of_shares" "table_of_shares" (top 17)) (xl9 (tu0 [(.str "self" 516),(.str "k" 517),(.str "chosen" 518),(.str "place" 519),(.str "one" 520),(.str "other" 521)])) (xl9 o388)) (N0 o196 (xl9 o324) nl0)) (N0 em0 (N0 (tu0 []) (xl9 o292) (xl9 o420)) (N0 o228 (xl9 (pr0 "_law_mixed" "_law_mixed" (top 56))) nl0))) (N0 (tu0 [(.ref 24)]) (N0 o84 (N0 em0 (xl9 o276) (xl9 (pr0 "_law_made" "_law_made" (top 64)))) (N0 (tu0 [(.str "rows" 448),(.str "sums" 449),(.str "unknowns" 450),(.str "board" 451),(.str "lack" 452),(.str "place" 453)]) (xl9 (tu0 [])) nl0)) (N0 (tu0 []) (N0 o180 (xl9 (tu0 [])) nl0) (N0 o244 (xl9 o372) nl0)))) (N0 (tu0 [(.ref 24)]) (N0 em0 (N0 o76 (N0 (tu0 []) (xl9 o268) (xl9 em0)) (N0 em0 (xl9 (pr0 "wanted_sums" "wanted_sums" (top 51))) nl0)) (N0 (tu0 [(.str "one" 308),(.str "other" 309)]) (N0 (tu0 [(.str "glass" 391)]) (xl9 o300) (xl9 o428)) (N0 (tu0 []) (xl9 o364) nl0))) (N0 (o60 P) (N0 (tu0 []) (N0 (pr0 "column" "column" (top 21)) (xl9 (pr0 "cleared" "cleared" (top 41))) (xl9 (tu0 []))) (N0 (tu0 []) (xl9 (tu0 [])) nl0)) (N0 o124 (N0 (pr0 "joined_number" "joined_number" (top 28)) (xl9 em0) nl0) (N0 em0 (xl9 (tu0 [])) nl0)))))) (N0 (boot_o_6 P) (N0 (boot_o_10 P) (N0 (tu0 []) (N0 o34 (N0 (tu0 [(.str "thing" 260)]) (N0 (tu0 []) (xl9 (tu0 [])) (xl9 em0)) (N0 (tu0 []) (xl9 (pr0 "seen_as" "seen_as" (top 49))) nl0)) (N0 o98 (N0 o162 (xl9 (tu0 [])) (xl9 em0)) (N0 (pr0 "lowest" "lowest" (top 38)) (xl9 (tu0 [(.str "_law_pen_here" 640),(.str "_law_cell" 641),(.str "_law_number" 642)])) nl0))) (N0 o50 (N0 (pr0 "share" "share" (top 8)) (N0 o146 (xl9 o274) (xl9 (tu0 [(.str "_law_rows" 701)]))) (N0 (tu0 []) (xl9 o338) nl0)) (N0 em0 (N0 (pr0 "joined_column" "joined_column" (top 26)) (xl9 o306) nl0) (N0 em0 (xl9 (pr0 "_law_divisor" "_law_divisor" (top 58))) nl0)))) (N0 o26 (N0 (o42 P) (N0 (tu0 []) (N0 o138 (xl9 em0) (xl9 o394)) (N0 o202 (xl9 (tu0 [])) nl0)) (N0 (tu0 []) (N0 em0 (xl9 (pr0 "alike" "alike" (top 45))) (xl9 (pr0 "law" "law" (top 68)))) (N0 o234 (xl9 (tu0 [])) nl0))) (N0 o58 (N0 o90 (N0 (tu0 []) (xl9 (tu0 [])) (xl9 o410)) (N0 em0 (xl9 em0) nl0)) (N0 (pr0 "lowest_table" "lowest_table" (top 15)) (N0 (tu0 []) (xl9 o314) nl0) (N0 o250 (xl9 o378) nl0))))) (N0 o14a (N0 (tu0 []) (N0 o38 (N0 o70 (N0 o134 (xl9 (pr0 "is_tighter" "Board.is_tighter" (qbz (top 39) 4))) (xl9 (tu0 []))) (N0 (tu0 []) (xl9 em0) nl0)) (N0 (tu0 []) (N0 (pr0 "least" "least" (top 24)) (xl9 (tu0 [])) (xl9 (tu0 []))) (N0 o230 (xl9 o358) nl0))) (N0 (o54 P) (N0 em0 (N0 (tu0 []) (xl9 em0) (xl9 o406)) (N0 (pr0 "solved" "solved" (top 36)) (xl9 (pr0 "in_rows" "in_rows" (top 53))) nl0)) (N0 o118 (N0 em0 (xl9 (tu0 [(.str "glass" 587)])) nl0) (N0 (tu0 []) (xl9 em0) nl0)))) (N0 (o30 P) (N0 o46 (N0 (tu0 []) (N0 (tu0 [(.str "glass" 352)]) (xl9 (tu0 [(.str "bottom" 531),(.str "lines" 532),(.str "stands_for" 533),(.str "unknowns" 534)])) (xl9 o398)) (N0 (tu0 []) (xl9 o334) nl0)) (N0 (pr0 "times" "times" (top 12)) (N0 o174 (xl9 em0) nl0) (N0 (pr0 "__init__" "Board.__init__" (qbz (top 39) 0)) (xl9 (tu0 [])) nl0))) (N0 o62 (N0 (tu0 [(.str "thing" 293)]) (N0 o158 (xl9 o286) (xl9 (pr0 "_law_moved" "_law_moved" (top 66)))) (N0 o222 (xl9 o350) nl0)) (N0 em0 (N0 o190 (xl9 o318) nl0) (N0 (tu0 []) (xl9 (pr0 "_law_reduced" "_law_reduced" (top 60))) nl0))))))))
lay_quick My.cE0 My.env0 My.ls0
def zaru (w:World):(fun os=>topGo Qgx Qe w 11 (some (.ref 6)) 12 (Qkl (boot_heap w.params) (Qaw []) boot_drawn boot_toks os) (topStub Qe))=fun os=>some ((Qcp (tA0 w.params) 15 lf0 (Qaw []) boot_drawn 187 os).abs,Thread.mk (denote Qgx cE0) cE0 ⟨0,0,0,0⟩ [topFrame ⟨0,0,0,0⟩]):=by
 rewrite [PySem.W.Fast.te15667345088766844465,Y6,PySem.W.Fast.te7585790157309532915,PySem.W.Fast.te11892475500146522536,PySem.W.Fast.te2665708160071446767]
 kernel_rfl
def zalz (w:World):(fun os=>segRun Qgx Qe w 11 (some (.ref 6)) 1 1 (Qcp (tA0 w.params) 15 lf0 (Qaw []) boot_drawn 187 os).abs (blockOf (behindTheImports Qe) env0 cE0 ⟨0,0,0,0⟩ [topFrame ⟨0,0,0,0⟩]))=fun os=>some (.next,(Qcp (tA0 w.params) 15 lf0 (Qaw []) boot_drawn 187 os).abs,cE0,⟨0,0,0,0⟩):=by
 rewrite [PySem.W.Fast.te14374325043358763698,Y6,PySem.W.Fast.te7585790157309532915,PySem.W.Fast.te2665708160071446767,PySem.W.Fast.te13849342267361746138]
 kernel_rfl
def zasx (w:World):(fun os=>segRunT Qgx Qe w 11 (some (.ref 6)) 1 2805 (Qcp (tA0 w.params) 15 lf0 (Qaw []) boot_drawn 187 os) (piecesOf (behindTheImports Qe) env0 cE0 ⟨0,0,0,0⟩ [topFrame ⟨0,0,0,0⟩]))=fun os=>some (.next,(Qcp (tE0 w.params) 429 lf0 (Qaw []) boot_drawn 738 os),cE0,⟨308,0,321,81⟩):=by
 rewrite [PySem.W.Fast.te10110043849684766642,Y6,PySem.W.Fast.te7585790157309532915,PySem.W.Fast.te2665708160071446767,PySem.W.Fast.te13849342267361746138]
 kernel_rfl
def zaua (w:World):(fun os=>topRun Qgx Qe w 11 (some (.ref 6)) 2 (Qcp (tE0 w.params) 429 lf0 (Qaw []) boot_drawn 738 os).abs ⟨doneF .next,cE0,⟨308,0,321,81⟩,[topFrame ⟨0,0,0,0⟩]⟩)=fun os=>some (Qcp (tE0 w.params) 429 lf0 (Qaw []) boot_drawn 738 os).abs:=by
 rewrite [PySem.W.Fast.te14082659384304107361,Y6,PySem.W.Fast.te7585790157309532915,PySem.W.Fast.te2665708160071446767]
 kernel_rfl
def zarv (w:World) (os:OsState):topRun Qgx Qe w 11 (some (.ref 6)) (12+(1+(2805+2))) (Qkl (boot_heap w.params) (Qaw []) boot_drawn boot_toks os) (topStub Qe)=some (Qcp (tE0 w.params) 429 lf0 (Qaw []) boot_drawn 738 os).abs :=
 go_top (congrFun (zaru w) os) (piece_block (congrFun (zalz w) os) (by
  have q:=piece_app (rest:=[]) (segRun_of (congrFun (zasx w) os)) (piece_nil (congrFun (zaua w) os))
  rwa [Ve] at q))
def zaot:opening Qe=plainProg Qe.main.scope.names:=by kernel_rfl
def zanf (s:Ql):fenceModules? Qe s=some s:=by kernel_rfl
def zapi (w:World):((boot_heap w.params).isNs Zc&&(Qaw []:Array GenState).size==0,(boot_heap w.params).objs.size,(boot_heap w.params).nsMap Zc "__annotations__")=(true,11,(some (.ref 6))):=by kernel_rfl
def zask (w:World):(fun os=>(staticsOk (importedModules Qe.main.body) (boot_heap w.params) (absHeap (tE0 w.params) 429 lf0)&&namesBound Qe (absHeap (tE0 w.params) 429 lf0)&&gensDone (Qkl (absHeap (tE0 w.params) 429 lf0) (Qaw []) boot_drawn 738 os)&&laidKept (boot_heap w.params) (absHeap (tE0 w.params) 429 lf0)))=fun _=>true:=by
 rewrite [Qbq,PySem.W.Fast.te7585790157309532915]
 kernel_rfl
def zasa (w:World):(fun os=>openSeen (view Qe [68]) ls0 (importedModules Qe.main.body) (fun _=>true) true (Qkl (absHeap (tE0 w.params) 429 lf0) (Qaw []) boot_drawn 738 os))=fun _=>openGood (view Qe [68]) ls0:=by
 rewrite [PySem.W.Fast.te4187177175401517315,Qbq,PySem.W.Fast.te7585790157309532915,PySem.W.Fast.te4294247251607483543]
 kernel_rfl
def K0 (P:Qbo):Frag:=(nat_lit 2,(boot_o_2 P))::(nat_lit 3,(o3 P))::(nat_lit 23,(o23 P))::(nat_lit 24,o24)::(nat_lit 25,o25)::(nat_lit 36,(o36 P))::(nat_lit 37,o37)::(nat_lit 48,(o48 P))::(nat_lit 49,o49)::(nat_lit 60,(o60 P))::(nat_lit 61,o61)::(nat_lit 69,o69)::(nat_lit 70,o70)::(nat_lit 76,o76)::(nat_lit 77,o77)::(nat_lit 83,o83)::(nat_lit 84,o84)::(nat_lit 90,o90)::(nat_lit 91,o91)::(nat_lit 97,o97)::(nat_lit 98,o98)::(nat_lit 104,o104)::(nat_lit 105,o105)::(nat_lit 111,o111)::(nat_lit 112,o112)::(nat_lit 118,o118)::(nat_lit 119,o119)::(nat_lit 123,o123)::(nat_lit 124,o124)::(nat_lit 128,o128)::(nat_lit 129,o129)::(nat_lit 133,o133)::(nat_lit 134,o134)::(nat_lit 138,o138)::(nat_lit 139,o139)::(nat_lit 145,o145)::(nat_lit 146,o146)::(nat_lit 152,o152)::(nat_lit 153,o153)::(nat_lit 157,o157)::(nat_lit 158,o158)::(nat_lit 162,o162)::(nat_lit 163,o163)::(nat_lit 167,o167)::(nat_lit 168,o168)::(nat_lit 174,o174)::(nat_lit 175,o175)::(nat_lit 179,o179)::(nat_lit 180,o180)::(nat_lit 184,o184)::(nat_lit 185,o185)::(nat_lit 189,o189)::(nat_lit 190,o190)::(nat_lit 196,o196)::(nat_lit 197,o197)::(nat_lit 201,o201)::(nat_lit 202,o202)::(nat_lit 208,o208)::(nat_lit 209,o209)::(nat_lit 215,o215)::(nat_lit 216,o216)::(nat_lit 222,o222)::(nat_lit 223,o223)::(nat_lit 227,o227)::(nat_lit 228,o228)::(nat_lit 239,o239)::(nat_lit 240,o240)::(nat_lit 244,o244)::(nat_lit 245,o245)::(nat_lit 249,o249)::(nat_lit 250,o250)::(nat_lit 256,o256)::(nat_lit 257,o257)::(nat_lit 263,o263)::(nat_lit 264,o264)::(nat_lit 268,o268)::(nat_lit 269,o269)::(nat_lit 271,(o271 P))::(nat_lit 272,o272)::(nat_lit 273,o273)::(nat_lit 274,o274)::(nat_lit 280,o280)::(nat_lit 281,o281)::(nat_lit 285,o285)::(nat_lit 286,o286)::(nat_lit 292,o292)::(nat_lit 293,o293)::(nat_lit 299,o299)::(nat_lit 300,o300)::(nat_lit 306,o306)::(nat_lit 307,o307)::(nat_lit 313,o313)::(nat_lit 314,o314)::(nat_lit 318,o318)::(nat_lit 319,o319)::(nat_lit 323,o323)::(nat_lit 324,o324)::(nat_lit 328,o328)::(nat_lit 329,o329)::(nat_lit 333,o333)::(nat_lit 334,o334)::(nat_lit 338,o338)::(nat_lit 339,o339)::(nat_lit 343,o343)::(nat_lit 344,o344)::(nat_lit 350,o350)::(nat_lit 351,o351)::(nat_lit 357,o357)::(nat_lit 358,o358)::(nat_lit 364,o364)::(nat_lit 365,o365)::(nat_lit 371,o371)::(nat_lit 372,o372)::(nat_lit 383,o383)::(nat_lit 384,o384)::(nat_lit 388,o388)::(nat_lit 389,o389)::(nat_lit 393,o393)::(nat_lit 394,o394)::(nat_lit 398,o398)::(nat_lit 399,o399)::(nat_lit 405,o405)::(nat_lit 406,o406)::(nat_lit 410,o410)::(nat_lit 411,o411)::(nat_lit 415,o415)::(nat_lit 416,o416)::(nat_lit 420,o420)::(nat_lit 421,o421)::(nat_lit 427,o427)::(nat_lit 428,o428)::(nat_lit 4,(boot_o_4 P))::[]
def K1 (P:Qbo):Frag:=(nat_lit 170,em0)::K0 P
def as0:List Addr:=[170,2,3,23,24,25,36,37,48,49,60,61,69,70,76,77,83,84,90,91,97,98,104,105,111,112,118,119,123,124,128,129,133,134,138,139,145,146,152,153,157,158,162,163,167,168,174,175,179,180,184,185,189,190,196,197,201,202,208,209,215,216,222,223,227,228,239,240,244,245,249,250,256,257,263,264,268,269,271,272,273,274,280,281,285,286,292,293,299,300,306,307,313,314,318,319,323,324,328,329,333,334,338,339,343,344,350,351,357,358,364,365,371,372,383,384,388,389,393,394,398,399,405,406,410,411,415,416,420,421,427,428,4]
def zakc (w:World):(fun (os:OsState)=>as0.map (absHeap (tE0 w.params) 429 lf0).get?)=fun _=>(K1 w.params).map fun p=>some p.2:=by kernel_rfl
def left0:LeftO Qe (view Qe [68]) ls0 (fun _=>true) (fun s=>as0.map s.heap.get?) (fun w=>(K1 w.params).map fun p=>some p.2) 100000 :=
 LeftO.of_pieces (H₀:=boot_heap) (H₁:=fun P=>absHeap (tE0 P) 429 lf0) (gs₁:=Qaw []) (d₁:=boot_drawn) (k₁:=738) (boot_open zaot rfl zanf) zapi zarv rfl fun w=>by
  funext os
  exact congr (congrArg Prod.mk (congrFun (zask w) os)) (congr (congrArg Prod.mk (congrFun (zasa w) os)) (congrFun (zakc w) os))
end
end My
open PySem PySem.W PyProof.Rows
set_option maxRecDepth 100000 in
set_option maxHeartbeats 0 in
theorem PySem.Challenge.cw_dullglass_k37_whole_alike_just_where_the_holds : PySem.Challenge.rw_dullglass_k37_whole_alike_just_where_the.Holds := by
 w_on;o_law
 refine holds_open (q:=view Qe [68]) (XP:=fun _ _=>True) (YP:=InK My.K1) My.left0 (InK.of fun _=>by kernel_rfl) InK.keeps (fun _ _=>Qao) (fun _ _ _ _ _=>Qao) (by rfl) (by rfl) (by rfl) (fun s _=>recFacts_nil rfl) (by rfl) (by assumption) (by decide +kernel) ⟨rfl,rfl,rfl,rfl,rfl,by decide +kernel⟩ ?hw ?hc
 case hw=>w_witness2
 k_fill
 refine My.walk (l:=Vp) (K:=My.K0) (tb:=170) (c0:=174) rfl rfl (fun w h Y=>L2.tab_in (by rfl) (by rfl) Y) (fun _=>rfl) ?F
 case F =>
  k_fill
  intro w mg fa h KX G hmg;refine' My.all_mk (c_tb:=170) KX G hmg ..
  iterate 3 all_goals try first|k_is|k_exc|rfl|(refine' My.DK.mk ?a (My.LK.mk ?l ?c ?k); (case a=>k_is); (case l=>k_is); (case c=>k_is); (case k=>k_is))|(refine' My.LK.mk ?l ?c ?k; (case l=>k_is); (case c=>k_is); (case k=>k_is))
