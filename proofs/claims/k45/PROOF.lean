import PyProof.Rows.All
import Wide.All
import OpenK.AllK
import Wide.FinOn
import Lean
import PyProof.EqAt
import PyProof.EqKinds
import PyProof.TupleCall
import PySem.Challenge.RW_dullglass_k45_two_acts
set_option Elab.async false
set_option linter.all false
set_option maxRecDepth 100000
set_option maxHeartbeats 4000000
set_option genSizeOf false
set_option genInjectivity false
open List renaming getElem?_map->Qa,getElem?_eq_getElem->Qc,length_map->Qe,mem_of_getElem?->Qf,getElem?_eq_some_iff->Qg,mem_map->Ql,mem_cons_of_mem->Qm,mem_singleton->Qp,mem_cons->Qs,map_cons->Qt,range->Qx,getElem?_eq_none->Qy,size_toArray->Qz,sum_cons->Q3,mem_append_right->Q4,getElem?_range->Q5,getD_eq_getElem?_getD->Q7,map_append->Q9,mem_append->Zd,getElem_mem->Ze,map_congr_left->Zg,lookup_cons->Zj,length_cons->Zk,take_length->Zl,replicate->Zn,mem_range->Zp,exists_cons_of_ne_nil->Zq,take_add_one->Zs,mem_filter->Zt,map_map->Zz,ext_getElem?->Z1,mem_append_left->Z2,replicate_succ->Z5,pairwise_iff_getElem->Z6,Nodup->Z7,all_eq_true->Z8,any_eq_true->Z9,filter_append->Yc,not_mem_nil->Yf,length_append->Yk,getElem?_append_left->Yv,range_succ->Yx,filter_cons->Yy,filterMap_cons->Yz,length_range->Y1,append_nil->Y3,getElem?_cons_succ->Y4,length_set->Vl,mem_iff_getElem?->V5,nodup_cons->Jc,flatten_cons->Jf,sum_append->Jh,length_nil->Ji,map_nil->Jk,take_of_length_le->Jx,drop_of_length_le->Jy,mem_cons_self->J0,length_filter_le->J8,getElem?_inj->Qac,nodup_append->Qad,length_take_le'->Qai,length_take->Qaq,any_cons->Qbe,length_eq_zero_iff->Qbf,findIdx?_eq_some_iff_getElem->Qbj,filter_filter->Qbk,filter_congr->Qbx,length_replicate->Qcd,length_drop->Qcj,getElem?_set_ne->Qco,mem_iff_getElem->Qcs,length_pos_iff->Qda,find?_cons->Qdb,getElem?_append_right->Qdh,mem_filterMap->Qdl,contains_cons->Qdm,zipWith->Qdp,getElem?_zip_eq_some->Qdr,nodup_nil->Qds,findIdx?_eq_none_iff->Qdv,getElem?_set->Qec,length->Qeh,getElem?_replicate->Qei,getElem?_cons_zero->Qen,nodup_range->Qeu,getElem?_set_self->Qew,of_mem_zip->Qfc,getD->Qfg,sum_nil->Qfm,take_append_drop->Qfp,pairwise_append->Qgd,mem_of_mem_take->Qge,toList_toArray->Qgl,all_cons->Qgv,map_take->Qhc,map_inj_right->Qhe,pairwise_cons->Qhf,append_assoc->Qhp,foldl_append->Qhv,pairwise_map->Qhy,cons_append->Qio,mem_flatten->Qir,forIn_nil->Qjk,foldl->Qjo,map_drop->Qjz,toArray->Qkf,map->Qko
open PySem.W renaming Frag->Qd,mg_none_of->Zy,nsIn->Yo,fnOf->Ys,excIn->Y5,keepIn->Vi,kia_one->Vx,codeIn->V8,kitOne->Ju,findIn->Jv,mg_of->Qae,hideAll_get->Qas,cellsFrom_some->Qbo,looks_findIn->Qcr,methodObj->Qdz,OpenLaw->Qfk,of_hideAll->Qgu,callWith_K->Qgw,hideAll->Qiw,WalkO->Qjx
open PySem renaming PyData->Qh,wpAny_bind->Qj,Shared->Qk,starEach->Qu,wpAny_pure->Q1,sizeLine->Zb,mainGlobals->Zh,Program->Zi,bootBuiltins->Zv,Around->Zw,sizeLine_eq->Z0,wpAny_mono->Z4,foldedSetIterable->Yb,wpAny_loadPart'->Yg,intBits_le_of_natAbs->Yj,compareOp->Yl,intBits_mul_le->Yp,mem_of_lookup->Ve,recursionLimit->Vk,cellsFrom->Vn,binaryOp->Vp,wpAny_typeNameOfWhole_valiter->Vq,wpAny_loadPart_at->Vt,wpAny_newObj_type->Vu,wpAny_truthy_bool->Vv,FuncData->Vy,wpAny_call_entry->V0,wpAny_Call_Name_kw->V6,backTo->Ja,wpAny_passesOwn->Jj,NameKind->Jr,wpAny_callSpecial?_slot->Js,assignEach->Jw,letOwnedTupleGo->J9,swapsWith->Qaa,wpAny_isOneOf_valiter->Qab,behindInMarks->Qag,sysModules->Qah,notedBy->Qaj,excClassObj->Qaw,wpAny_isSubtype_exc->Qax,codeAmong->Qbl,wpAny_holding->Qbm,Spec->Qbs,codeAny->Qbz,sliceBounds->Qca,wpAny_dictEntries->Qcb,newFunctionEnv->Qcc,Arguments->Qcf,codeAny_mono->Qcg,pushCells->Qci,Params->Qct,attributeBase->Qcw,bindArgs->Qcx,builtinsNs->Qcy,DictEntry->Qde,wpAny_execs_nil->Qdf,Keyword->Qdx,wpAny_pyIter_list->Qeg,keywordEach->Qer,wpAny_field->Qet,wpAny_pyIter_rangeiter->Qfa,wpAny_pyNext_range_end->Qfb,codeAny_builtin->Qfr,pushCells_keeps->Qft,treeTable->Qfu,tupleKind->Qfv,wpAny_dictEpoch->Qfw,wpAny_notOrdered_dict->Qfx,call_meets->Qfy,codeAny_call_builtin->Qgf,wpAny_loadName_local->Qgg,wpAny_storeName_cell->Qgh,assign->Qgi,dictSetDefault->Qgj,IsRangeIter->Qgn,callerA->Qgo,wpAny_loadName_cell->Qgq,IsPart->Qhg,PassesOwn->Qhh,TriplesOk->Qhi,comprehension->Qhj,rawInt->Qhk,wpAny_attempt->Qhl,wpAny_newList->Qhm,wpAny_standAt->Qhn,list_append->Qhq,BindsTo->Qhz,closureFor->Qia,getItem->Qib,wpAny_call->Qic,wpAny_rule->Qid,concat_meets->Qij,pyNext->Qik,wpAny_typeOf->Qil,GenState->Qit,backToKw->Qiu,Str->Qiv,Fin->Qiz,OwnTail->Qjg,relabel->Qjh,call->Qjp,isTrue->Qjs
open PySem.Challenge renaming pw_dullglass_k45_two_acts->Qi,rw_dullglass_k45_two_acts->Jz
open Option.some renaming inj->Qn,injEq->Qhs
open PySem.Heap renaming get?_push_of_some->Qo,lt_size->Qw,get?_push_size->Q8,size_push->Vs,SameBut->Qay,get?_update_other->Qbq,get?_update_self->Qfi,get?_push_ne->Qht
open PySem.Str renaming ofString->Qq
open Nat renaming le_refl->Qr,ne_of_lt->Za,le_trans->Zr,lt_of_lt_of_le->Zu,le_of_lt->Yi,lt_trans->Ym,ne_of_gt->Yr,lt_succ_of_lt->Vf,zero_le->Vg,not_lt->Vo,lt_irrefl->Jl,eq_zero_or_pos->J5,lt_or_eq_of_le->J6,eq_of_mul_eq_mul_left->Qan,le_succ->Qbv,lt_succ_self->Qck,min_eq_right->Qcm,le_of_dvd->Qcv,min_eq_left->Qdd,add_sub_cancel->Qdq,lt_trichotomy->Qee,gcd->Qeo,exists_eq_add_of_le->Qep,add_sub_add_right->Qfe,le_of_eq->Qff,zero_add->Qfh,mul_zero->Qfn,not_succ_le_self->Qfz,lt_of_le_of_ne->Qgy,gcd_comm->Qif,mul_one->Qjd,dvd_trans->Qjy,add_assoc->Qka
open PySem.PyData renaming int->Q2,canLayAll0->Jg,canLay0->Qal,eqv->Qba,depthAll->Qfq,depth->Qii,tuple->Qkg,list->Qkm
open Int renaming mul_le_mul_of_nonneg_right->Q6,mul_pos->Zm,mul_nonneg->Zo,eq_of_mul_eq_mul_right->Z3,mul_zero->Yn,gcd->Yq,lt_or_le->Yu,le_refl->Y6,mul_lt_mul_of_pos_right->Y7,eq_ofNat_of_zero_le->Y8,mul_comm->Vb,zero_add->Vc,lt_of_mul_lt_mul_right->Vd,natAbs_dvd_natAbs->Vm,mul_ediv_cancel'->Vr,toNat_of_nonneg->Jm,dvd_trans->Jp,natCast_dvd_natCast->Jq,ediv_le_self->Jt,le_of_lt->J7,eq_of_mul_eq_mul_left->Qao,mul_neg_of_neg_of_pos->Qap,mul_one->Qat,mul_add->Qav,zero_mul->Qbb,mul_eq_zero->Qbi,dvd_mul_left->Qcl,mul_le_mul_of_nonneg_left->Qcn,gcd_pos_of_ne_zero_right->Qcu,toNat->Qdc,emod_lt_of_pos->Qdn,lt_of_mul_lt_mul_left->Qdt,mul_le_mul->Qdu,toNat_natCast->Qed,emod_nonneg->Qfl,add_zero->Qfo,add_mul->Qgm,gcd_dvd_right->Qhu,dvd_mul_right->Qhx,le_trans->Qig,ne_of_gt->Qih,gcd_dvd_left->Qip,gcd_mul_left->Qiq,natCast_mul->Qja,ediv_nonneg->Qjb,neg_mul->Qje,natAbs_mul->Qjm
open False renaming elim->Zc
open Array renaming length_toList->Zf,getElem?_eq_getElem->Vj,getElem?_toList->V4,mk->Qaf,getElem?_eq_none->Qbr,toList_append->Qgk,getD->Qjq,toList->Qkc
open Bool renaming false_ne_true->Zx,and_eq_true->Ye,and_eq_true_iff->Y9,false_eq_true->Qbh,false_and->Qji,false_or->Qjv
open PyProof.Rows renaming slot_tuple_getitem->Ya,callWith_type1->Y2,seqObj->Vh,envOfC->Qch,AllBare->Qdw,kindOf->Qef,IntsAre->Qeq,listUpdate_at->Qes,call_function_entry_kw->Qey,subscriptTail_builtinR->Qez,get?_update_seq->Qfs,wpAny_call_entry_kw->Qgp
open PySem.Builtin.Range renaming rangeSize->Yd,small->Qcz
open PySem.Obj renaming mapSeq->Yh,data_mapDictKeys->Qgc,data_mapFields->Qhb,mapFields->Qjw
open PySem.F renaming slot_dict_valueiterator_next->Yt,excBase_ValueError->Vz,args_dict_valueiterator_next_1->Qbn,entry_dict_valueiterator_next->Qbw,typeOf_object_class->Qce,args_tuple_add_2->Qea,slot_list_append->Qeb,entry_tuple_add->Qej,slot_dict_values_iter->Qel,plainAttrs_dict->Qem,slot_tuple_add->Qex,excAttr_ValueError->Qga,slot_gs_get->Qha,slot_int_rmul->Qiy
open Classical renaming byContradiction->Yw
open PySem.W.Fast renaming te14364793385576792824->Y0,te5923862056798008813->Qbc
open Or renaming inr->Va,inl->V1
open PySem.Value renaming ref->Vw,none->Jb,type->Qdy,builtin->Qek,int->Qgr,isStrOf->Qjt,str->Qkb,isInt->Qkh
open PySem.SeqAt renaming shaped->V2
open PySem.NameKind renaming cell->V3,free->Qgx
open Ne renaming symm->V7
open PySem.Builtin.Slice renaming slicePlaces->V9,sliceAdjust->Qak,sliceApplied->Qdi,slicePartIndex->Qis,sliceFields->Qjj
open Option renaming isSome_iff_exists->Jd,isNone_iff_eq_none->Qam,toList_some->Qdo,isSome_some->Qgz,getD_none->Qim,map_some->Qjc,none->Qkk
open PySem.Builtin.Tuple renaming tupleExact->Je,tupleItemsOf->Qdj,tupleIsExact->Qdk
open PySem.Heap.SameBut renaming update->Jo
open PySem.Calls renaming spliced_cons->J3,callWith_builtin->Qbp,spliced_nil->Qbt,evalArgs_plain->Qcq,Name_function_global->Qdg
open PySem.Builtin.Dict_items renaming ownsTuple->J4,newIterator->Qie,dictOf->Qjl
open PySem.IntMulOk renaming of_left->Qar,of_right->Qhw
open PySem.Builtin.Int renaming intBits->Qau
open PySem.Builtin.List renaming listTooLong->Qaz
open Sum renaming inl->Qbd,inr->Qho
open PySem.W.KasT renaming kasWp_bind->Qbg
open True renaming intro->Qbu
open PySem.W.SharedT renaming mk->Qby
open PySem.Around renaming frames_deeper->Qcp,under_plainId->Qgb
open PySem.PyData.tuple renaming inj->Qev
open PySem.PassesOwn renaming never->Qfd
open PySem.Builtin.Dict renaming showsAll->Qfj
open PySem.SeqAt.EqAt renaming int_str->Qgs,str_int->Qgt
open List.cons renaming inj->Qhd
open List.Pairwise renaming nil->Qhr,imp_of_mem->Qjr
open PySem.IsL renaming update->Qin
open PySem.Data renaming fields->Qix,cell->Qkd
open PySem.Shared renaming mk->Qjf
open PySem.PyData.int renaming inj->Qjn
open PySem.Paired renaming length->Qju
open PyProof.Rows.IsTup renaming new->Qke
open PySem.Walks renaming range->Qki
open PySem.IsRange renaming new->Qkj
open PySem.Heap.Ns renaming new->Qkl
open PySem.Heap.IsSliceOf renaming new->Qkn
open PySem.W.WShape renaming has->Qkp
open PySem.W.Looks renaming ld->Qkq
abbrev Nd0 (x:Qiv):Prop:=(x==("__debug__":Qiv))=false
abbrev Nd1 (x:Qiv):Prop:=(x==("__classdict__":Qiv))=false
namespace L2
open PySem PySem.Spec PyProof.Rows
section
abbrev Key:=Sum Int Str
def qtf:Key->Value->Bool
 | .inl k,v=>Qkh k v
 | .inr x,v=>Qjt x v
def keyH (w:World):Key->Int
 | .inl k=>hashInt k
 | .inr x=>hashStr w x
def qam : ∀ {k:Key}{v:Value},qtf k v=true->(∃ i t,k=Qbd i/\v=Qgr i t)\/(∃ x t,k=Qho x/\v=Qkb x t)
 | .inl i,v,h=>by
  obtain ⟨t,e⟩:=Value.isInt_shape (k:=i) (v:=v) h;exact .inl ⟨i,t,rfl,e⟩
 | .inr x,v,h=>by
  obtain ⟨t,e⟩:=Value.isStrOf_shape (x:=x) (v:=v) h;exact .inr ⟨x,t,rfl,e⟩
def zabq (i:Int) (t:Tok):qtf (.inl i) (.int i t)=true:=by simp [qtf,Qkh]
def zabn (x:Str) (t:Tok):qtf (.inr x) (.str x t)=true:=by simp [qtf,Qjt]
def zanz (a b:Int):decide ((Qbd a:Key)=Qbd b)=(a==b):=by
 by_cases e:a=b
 ·subst e;simp
 ·have h : ¬ (Qbd a:Key)=Qbd b:=fun q=>e (Qbd.inj q);rw [decide_eq_false h];exact (beq_eq_false_iff_ne.mpr e).symm
def zano (a b:Str):decide ((Qho a:Key)=Qho b)=decide (a=b):=by
 by_cases e:a=b
 ·subst e;simp
 ·have h : ¬ (Qho a:Key)=Qho b:=fun q=>e (Qho.inj q);rw [decide_eq_false h,decide_eq_false e]
def zalw (a:Int) (b:Str):decide ((Qbd a:Key)=Qho b)=false:=decide_eq_false (fun q=>nomatch q)
def zalq (a:Str) (b:Int):decide ((Qho a:Key)=Qbd b)=false:=decide_eq_false (fun q=>nomatch q)
def qby (prog:Zi) (w:World):PySem.KeyKind prog w Key where
 is:=qtf
 hash:=keyH w
 inj:=fun v a b ha hb=>by
  rcases qam ha with ⟨i,t,rfl,rfl⟩|⟨x,t,rfl,rfl⟩
  ·rcases qam hb with ⟨j,u,rfl,e⟩|⟨y,u,rfl,e⟩
   ·injection e with e1 _;rw [e1]
   ·exact nomatch e
  ·rcases qam hb with ⟨j,u,rfl,e⟩|⟨y,u,rfl,e⟩
   ·exact nomatch e
   ·injection e with e1 _;rw [e1]
 byValue:=fun k v h=>by
  rcases qam h with ⟨i,t,rfl,rfl⟩|⟨x,t,rfl,rfl⟩ <;> rfl
 pyHash:=fun hv h=>by
  rcases qam hv with ⟨i,t,rfl,rfl⟩|⟨x,t,rfl,rfl⟩
  ·exact wpAny_pyHash_int h
  ·exact wpAny_pyHash_str h
 eqBool:=fun hu hv h=>by
  rcases qam hu with ⟨i,t,rfl,rfl⟩|⟨x,t,rfl,rfl⟩
  ·rcases qam hv with ⟨j,u,rfl,rfl⟩|⟨y,u,rfl,rfl⟩
   ·rw [zanz] at h;exact wpAny_eqBool_int h
   ·rw [zalw] at h;exact Qgs i t y u _ _ _ _ h
  ·rcases qam hv with ⟨j,u,rfl,rfl⟩|⟨y,u,rfl,rfl⟩
   ·rw [zalq] at h;exact Qgt x t j u _ _ _ _ h
   ·rw [zano] at h;exact wpAny_eqBool_str h
 «strs»:=fun k x t v h=>by
  rcases qam h with ⟨i,u,rfl,e⟩|⟨y,u,rfl,e⟩
  ·exact nomatch e
  ·injection e with e1 _;subst e1;cases v <;> rfl
def quo (prog:Zi) (w:World) (i:Int) (t:Tok):(qby prog w).is (.inl i) (.int i t)=true:=zabq i t
def qtz (prog:Zi) (w:World) (x:Str) (t:Tok):(qby prog w).is (.inr x) (.str x t)=true:=zabn x t
end
section
inductive V where
 | non|bl (b:Bool)|int (i:Int)|str (x:Str)|byt (b:Array UInt8)|flt (b:UInt64)|ref (a:Addr)|ty (n:String)
 deriving DecidableEq
def RelV:V->Value->Prop
 | .non,u=>u=Jb
 | .bl b,u=>u=Value.bool b
 | .int i,u => ∃ t,u=Qgr i t
 | .str x,u => ∃ t,u=Qkb x t
 | .byt b,u => ∃ t,u=Value.bytes b t
 | .flt b,u => ∃ t,u=Value.float b t
 | .ref a,u=>u=Vw a
 | .ty n,u=>u=Qdy n
abbrev Vals:List V->List Value->Prop:=Paired RelV
def Vals.length {xs:List V}{us:List Value} (r:Vals xs us):xs.length=us.length:=Qju r
def Vals.get : ∀ {xs:List V}{us:List Value}{i:Nat}{x:V},Vals xs us->xs[i]?=some x -> ∃ u,us[i]?=some u/\RelV x u
 | _,_,_,_,.nil,e=>by simp at e
 | _,_,0,_,.cons r _,e=>by simp at e;subst e;exact ⟨_,rfl,r⟩
 | _,_,i+1,x,.cons _ t,e=>by
  obtain ⟨u,h1,h2⟩:=Vals.get (i:=i) (x:=x) t (by simpa using e);exact ⟨u,by simpa using h1,h2⟩
def Vals.append : ∀ {xs ys:List V}{us ws:List Value},Vals xs us->Vals ys ws->Vals (xs++ys) (us++ws)
 | _,_,_,_,.nil,s=>s
 | _,_,_,_,.cons r t,s => .cons r (Vals.append t s)
def Vals.take : ∀ {xs:List V}{us:List Value} (n:Nat),Vals xs us->Vals (xs.take n) (us.take n)
 | _,_,0,_ => .nil
 | _,_,_+1,.nil => .nil
 | _,_,n+1,.cons r t => .cons r (Vals.take n t)
def Vals.drop : ∀ {xs:List V}{us:List Value} (n:Nat),Vals xs us->Vals (xs.drop n) (us.drop n)
 | _,_,0,r=>r
 | _,_,_+1,.nil => .nil
 | _,_,n+1,.cons _ t=>Vals.drop n t
def RelO:Option V->Option Value->Prop
 | some v,some u=>RelV v u
 | none,none=>True
 | _,_=>False
def KV {κ:Type}:List (κ×V)->List (κ×Value)->Prop:=Paired fun (p:κ×V) (q:κ×Value)=>p.1=q.1/\RelV p.2 q.2
def kV:Key->V
 | .inl i => .int i
 | .inr x => .str x
inductive HO where
 | lst (xs:List V)
 | tup (xs:List V)
 | dK (kvs:List (Key×V))|dT (kvs:List (List Key×V))
 | set (S:Int->Bool) (n:Nat)
 | ins (C dx:Addr) (fs:List (Str×V))
 | own (x:Addr)
 | xd (fs:List (Str×V))
 | met (f x:Addr)
 | rng (lo hi:Int)
 | frz (o:Obj) (u:HO)
 | tbl (ps:Array Value)
 | ext (φ:Heap->Prop)
abbrev Hp:=Addr->Option HO
def upd (H:Hp) (a:Addr) (o:HO):Hp:=fun b=>if b=a then some o else H b
def qp {H:Hp}{a:Addr}{o:HO}:upd H a o a=some o:=by unfold upd;rw [if_pos rfl]
def qk {H:Hp}{a b:Addr}{o:HO} (h:b≠a):upd H a o b=H b:=by unfold upd;rw [if_neg h]
def zapb {H:Hp}{a b:Addr}{o u:HO} (h:H a=some o) (h':H b=some u) (d:o≠u):a≠b:=by
 intro e;subst e;rw [h] at h';exact d (Qn h')
def qx {H:Hp}{a b:Addr}{o:HO} (h:H a=some o) (h':H b=none):a≠b:=by
 intro e;subst e;rw [h] at h';cases h'
section
variable (P:Zi) (w:World)
def ObjOk (H:Hp) (h:Heap) (a:Addr):HO->Prop
 | .lst xs=>xs.length<=Zb /\ ∃ (its:List Value) (n:Nat),Vals xs its/\h.get? a=some { cls :=.type "list",data :=.seq its.toArray n }
 | .tup xs=>xs.length<=Zb /\ ∃ its:List Value,Vals xs its/\IsTup h a its.toArray
 | .dK kvs=>kvs.length<=Zb/\(a==Qah)=false /\ ∃ vs,KV kvs vs/\h.DictOf (qby P w) a vs
 | .dT kvs=>kvs.length<=Zb/\(a==Qah)=false /\ ∃ xs:List (List Key×Addr×Value),
  Paired (fun (p:List Key×V) (q:List Key×Addr×Value)=>p.1=q.1/\H q.2.1=some (.tup (p.1.map kV))/\RelV p.2 q.2.2) kvs xs /\
  ∃ o es ep,h.get? a=some o/\o.ExactDict/\o.data = .dict es ep/\es.toList=xs.map (entryOfKey (Qfv (qby P w)))/\(xs.map (·.1)).Nodup
 | .set S n=>h.SetOf (intKind P w) a S n
 | .ins C dx fs=>H dx=some (.own a)/\fs.length<=1000/\dx≠a/\h.get? a=some (PySem.W.instObj C dx) /\
  ∃ mA,h.Ns1 dx mA/\(∀ f,RelO (fs.lookup f) (mA f))/\PySem.Within mA (fs.map (·.1))
 | .own _ => ∃ o,h.get? a=some o
 | .xd fs => ∃ mA,h.Ns1 a mA /\ ∀ f,RelO (fs.lookup f) (mA f)
 | .rng lo hi => ∃ t u v,h.get? a=some { cls :=.type "range",data :=.fields #[.int lo t,.int hi u,.int 1 v] }
 | .frz o u=>h.get? a=some o/\ObjOk H h a u
 | .tbl ps=>h.get? a=some { cls :=.none,data :=.fields ps }
 | .met f x=>h.get? a=some (Qdz (.ref f) (.ref x))
 | .ext φ=>φ h/\(∃ o,h.get? a=some o) /\ ∀ h1 h2:Heap,φ h1->(∀ o,h1.get? a=some o->h2.get? a=some o)->φ h2
def HOk (H:Hp) (h:Heap):Prop := ∀ a o,H a=some o->ObjOk P w H h a o
end
section
variable {P:Zi}{w:World}{H H':Hp}{h h':Heap}{a:Addr}{o:HO}
def ObjOk.lt (x:ObjOk P w H h a o):a<h.objs.size:=by
 cases o with
 | lst xs=>obtain ⟨_,_,_,_,e⟩:=x;exact Qw e
 | tup xs=>obtain ⟨_,_,_,p⟩:=x;exact p.lt
 | dK kvs=>obtain ⟨_,_,_,_,o,_,_,e,_⟩:=x;exact Qw e
 | dT kvs=>obtain ⟨_,_,_,_,o,_,_,e,_⟩:=x;exact Qw e
 | set S n=>obtain ⟨o,_,_,_,e,_⟩:=x;exact Qw e
 | ins C dx fs=>obtain ⟨_,_,_,e,_⟩:=x;exact Qw e
 | own y=>obtain ⟨_,e⟩:=x;exact Qw e
 | xd fs=>obtain ⟨_,⟨_,_,_,e,_⟩,_⟩:=x;exact Qw e
 | rng lo hi=>obtain ⟨_,_,_,e⟩:=x;exact Qw e
 | frz ob u=>obtain ⟨e,_⟩:=x;exact Qw e
 | tbl ps=>exact Qw (show h.get? a=some _ from x)
 | met f y=>exact Qw (show h.get? a=some _ from x)
 | ext φ=>obtain ⟨_,⟨_,e⟩,_⟩:=x;exact Qw e
def Paired.mapP {α β:Type}{F G:α->β->Prop} : ∀ {l₁:List α}{l₂:List β},Paired F l₁ l₂->(∀ a b,F a b->G a b)->Paired G l₁ l₂
 | _,_,.nil,_ => .nil
 | _,_,.cons r t,f => .cons (f _ _ r) (Paired.mapP t f)
def ObjOk.stay (x:ObjOk P w H h a o) (k : ∀ b u,(b=a\/H b=some (.own a))->h.get? b=some u->h'.get? b=some u)
 (ho : ∀ b,H b=some (.own a)->H' b=some (.own a)) (ht : ∀ b xs,H b=some (.tup xs)->H' b=some (.tup xs)):ObjOk P w H' h' a o:=by
  induction o with
  | lst xs=>obtain ⟨z,its,n,r,e⟩:=x;exact ⟨z,its,n,r,k _ _ (.inl rfl) e⟩
  | tup xs=>obtain ⟨z,its,r,ob,e,c⟩:=x;exact ⟨z,its,r,ob,k _ _ (.inl rfl) e,c⟩
  | dK kvs=>obtain ⟨z,y,vs,r,ob,es,ep,e,c⟩:=x;exact ⟨z,y,vs,r,ob,es,ep,k _ _ (.inl rfl) e,c⟩
  | dT kvs =>
   obtain ⟨z,y,xs,r,ob,es,ep,e,c⟩:=x;exact ⟨z,y,xs,Paired.mapP r fun p q z=>⟨z.1,ht _ _ z.2.1,z.2.2⟩,ob,es,ep,k _ _ (.inl rfl) e,c⟩
  | set S n=>obtain ⟨ob,es,ep,t,e,c⟩:=x;exact ⟨ob,es,ep,t,k _ _ (.inl rfl) e,c⟩
  | ins C dx fs =>
   obtain ⟨d,z,ne,e,mA,⟨od,es,ep,e2,c⟩,r⟩:=x;exact ⟨ho _ d,z,ne,k _ _ (.inl rfl) e,mA,⟨od,es,ep,k _ _ (.inr d) e2,c⟩,r⟩
  | own y=>obtain ⟨ob,e⟩:=x;exact ⟨ob,k _ _ (.inl rfl) e⟩
  | xd fs=>obtain ⟨mA,⟨od,es,ep,e,c⟩,r⟩:=x;exact ⟨mA,⟨od,es,ep,k _ _ (.inl rfl) e,c⟩,r⟩
  | rng lo hi=>obtain ⟨t,u,v,e⟩:=x;exact ⟨t,u,v,k _ _ (.inl rfl) e⟩
  | frz ob u ih=>obtain ⟨e,q⟩:=x;exact ⟨k _ _ (.inl rfl) e,ih q⟩
  | tbl ps =>
   have e:h.get? a=some { cls :=.none,data :=.fields ps }:=x;show h'.get? a=some { cls :=.none,data :=.fields ps };exact k a _ (.inl rfl) e
  | met f y =>
   have e:h.get? a=some (Qdz (.ref f) (.ref y)):=x;show h'.get? a=some (Qdz (.ref f) (.ref y));exact k a _ (.inl rfl) e
  | ext φ=>obtain ⟨p,⟨o,e⟩,st⟩:=x;exact ⟨st _ _ p fun o q=>k _ _ (.inl rfl) q,⟨o,k _ _ (.inl rfl) e⟩,st⟩
def HOk.lt (x:HOk P w H h) (e:H a=some o):a<h.objs.size:=(x a o e).lt
def HOk.fresh (x:HOk P w H h) (e:h.objs.size<=a):H a=none:=by
 cases q:H a with
 | none=>rfl
 | some u=>exact absurd (Zu (x.lt q) e) (Jl _)
def HOk.kept (x:HOk P w H h) (k : ∀ b u,h.get? b=some u->h'.get? b=some u):HOk P w H h':=fun a o e =>
 (x a o e).stay (fun b u _ q=>k b u q) (fun _ q=>q) fun _ _ q=>q
def HOk.laid (x:HOk P w H h) (k : ∀ b u,h.get? b=some u->h'.get? b=some u) (hp:h.objs.size<=a) (new:ObjOk P w (upd H a o) h' a o):HOk P w (upd H a o) h':=fun b u e=>by
 have hn:=x.fresh hp;by_cases hb:b=a
 ·subst hb;rw [qp] at e;cases e;exact new
 ·rw [qk hb] at e;exact (x b u e).stay (fun c v _ q=>k c v q) (fun c q=>by rw [qk (qx q hn)];exact q) fun c xs q=>by rw [qk (qx q hn)];exact q
end
def Rd (H:Hp) (a:Addr) (u:HO):Prop:=H a=some u \/ ∃ o,H a=some (.frz o u)
def Rd.ok {P:Zi}{w:World}{H:Hp}{h:Heap}{a:Addr}{u:HO} (r:Rd H a u) (x:HOk P w H h):ObjOk P w H h a u:=by
 rcases r with r|⟨o,r⟩
 ·exact x a u r
 ·obtain ⟨_,q⟩:=x a _ r;exact q
def Mut:Option HO->Prop
 | some (.lst _)=>True
 | some (.dK _)=>True
 | some (.dT _)=>True
 | some (.set _ _)=>True
 | some (.ins _ _ _)=>True
 | some (.ext _)=>True
 | _=>False
section
variable {P:Zi}{w:World}{H:Hp}{h h':Heap}{x e:Addr}{o':HO}
def HOk.write (ok:HOk P w H h) (mu:Mut (H x)) (he:e=x\/H e=some (.own x)) (k : ∀ b u,b≠e->h.get? b=some u->h'.get? b=some u) (heo : ∃ u,h'.get? e=some u)
 (new:ObjOk P w (upd H x o') h' x o'):HOk P w (upd H x o') h':=fun b u q=>by
  have nown : ∀ c y,H c=some (.own y)->c≠x:=fun c y r z=>by subst z;rw [r] at mu;exact mu
  have ntup : ∀ c xs,H c=some (.tup xs)->c≠x:=fun c xs r z=>by subst z;rw [r] at mu;exact mu
  by_cases hb:b=x
  ·subst hb;rw [qp] at q;cases q;exact new
  ·rw [qk hb] at q;by_cases hbe:b=e
   ·have q':H b=some (.own x):=by
     rcases he with z|z
     ·exact absurd (hbe.trans z) hb
     ·rw [hbe];exact z
    rw [q] at q';cases q';obtain ⟨v,hv⟩:=heo;exact ⟨v,by rw [hbe];exact hv⟩
   ·refine (ok b u q).stay (fun c v hc r=>k c v ?_ r) (fun c r=>by rw [qk (nown c b r)];exact r) fun c xs r=>by rw [qk (ntup c xs r)];exact r
    rcases hc with rfl|hc
    ·exact hbe
    ·rintro rfl;rcases he with z|z
     ·exact nown c b hc z
     ·rw [hc] at z;cases z;exact hb rfl
end
def zaqo (o:Obj):Prop := ∃ vs q t,o.data = .fields vs/\vs[1]?=some (.str q t)
structure GoodT (H:Hp) (ps:Array Value):Prop where
 tr:Qhi ps.toList
 co : ∀ (pos:Pos) (v:Value),Qbl pos ps.toList=some v -> ∃ c o u,v = .ref c/\H c=some (.frz o u)/\zaqo o
def GoodT.nil {H:Hp}:GoodT H #[]:=⟨trivial,fun pos v h=>by simp [Qbl] at h⟩
def GoodT.mono {H H':Hp}{ps:Array Value} (g:GoodT H ps) (f : ∀ b o u,H b=some (.frz o u)->H' b=some (.frz o u)):GoodT H' ps:=⟨g.tr,fun pos v h=>by
 obtain ⟨c,o,u,z,e,k⟩:=g.co pos v h;exact ⟨c,o,u,z,f _ _ _ e,k⟩⟩
def qld : ∀ {a b:List Value},Qhi a->Qhi b->Qhi (a++b)
 | [],_,_,h=>h
 | .int _ _ :: .int _ _::_::r,_,g,h=>qld (a:=r) g h
def qrb {pos:Pos}{v:Value} : ∀ {a b:List Value},Qhi a->Qbl pos (a++b)=some v->Qbl pos a=some v\/Qbl pos b=some v
 | [],_,_,h => .inr h
 | .int i _ :: .int j _::x::r,b,g,h=>by
  have h:(if i==pos.line&&j==pos.col then some x else Qbl pos (r++b))=some v:=h;show (if i==pos.line&&j==pos.col then some x else Qbl pos r)=some v\/_;split at h
  ·left;rw [if_pos (by assumption)];exact h
  ·rw [if_neg (by assumption)];exact qrb (a:=r) g h
def GoodT.app {H:Hp}{a b:Array Value} (g:GoodT H a) (k:GoodT H b):GoodT H (a++b):=⟨by rw [Qgk];exact qld g.tr k.tr,fun pos v h=>by
 rw [Qgk] at h;rcases qrb g.tr h with h|h
 ·exact g.co pos v h
 ·exact k.co pos v h⟩
structure Un (fs ex:List Addr) (H H':Hp) (h h':Heap):Prop where
 keep : ∀ b o,h.get? b=some o->H b=none->b ∉ fs->b ∉ ex->h'.get? b=some o
 slot : ∀ b o,h.get? b=some o->H b=none->b ∈ fs->b ∉ ex -> ∃ sl,h'.get? b=some { o with slots:=sl }
 free : ∀ b o,h.get? b=some o->H b=none->b ∉ ex->H' b=none
 there : ∀ b o,h.get? b=some o->b ∉ ex -> ∃ o',h'.get? b=some o'
 tups : ∀ b xs,H b=some (.tup xs)->H' b=some (.tup xs)
 frzs : ∀ b o u,H b=some (.frz o u)->H' b=some (.frz o u)
 tbls : ∀ b ps,H b=some (.tbl ps) -> ∃ more,H' b=some (.tbl (ps++more))/\GoodT H' more
section
variable {fs fs' ex ex':List Addr}{H H1 H2:Hp}{h h1 h2 h':Heap}{a x e:Addr}{o:HO}
def Un.any (u:Un fs ex H H1 h h1) {b:Addr}{ob:Obj} (q:h.get? b=some ob) (n:H b=none) (hx:b ∉ ex) : ∃ sl,h1.get? b=some { ob with slots:=sl }:=by
 by_cases hb:b ∈ fs
 ·exact u.slot b ob q n hb hx
 ·exact ⟨ob.slots,u.keep b ob q n hb hx⟩
def Un.kept (k : ∀ b u,h.get? b=some u->h'.get? b=some u):Un fs ex H H h h' :=
 ⟨fun b ob q _ _ _=>k b ob q,fun b ob q _ _ _=>⟨ob.slots,k b ob q⟩,fun _ _ _ n _=>n,fun b ob q _=>⟨ob,k b ob q⟩,fun _ _ q=>q,fun _ _ _ q=>q,fun _ ps q=>⟨#[],by rw [q];simp,.nil⟩⟩
def Un.refl:Un fs ex H H h h:=Un.kept fun _ _ q=>q
def Un.laid (k : ∀ b u,h.get? b=some u->h'.get? b=some u) (hp:h.objs.size<=a) (hn:H a=none):Un fs ex H (upd H a o) h h' where
 keep:=fun b u q _ _ _=>k b u q
 slot:=fun b u q _ _ _=>⟨u.slots,k b u q⟩
 free:=fun b u q n _=>by rw [qk (Za (Zu (Qw q) hp))];exact n
 there:=fun b u q _=>⟨u,k b u q⟩
 tups:=fun b xs q=>by rw [qk (qx q hn)];exact q
 frzs:=fun b u xs q=>by rw [qk (qx q hn)];exact q
 tbls:=fun b ps q=>⟨#[],by rw [qk (qx q hn),q];simp,.nil⟩
def Un.write (mu:Mut (H x)) (he:e=x\/H e=some (.own x)) (k : ∀ b u,b≠e->h.get? b=some u->h'.get? b=some u) (heo : ∃ u,h'.get? e=some u):Un fs ex H (upd H x o) h h':=by
 have hx : ∀ b,H b=none->b≠x:=fun b n z=>by subst z;rw [n] at mu;exact mu
 have hb : ∀ b,H b=none->b≠e:=fun b n z=>by
  subst z;rcases he with r|r
  ·exact hx b n r
  ·rw [n] at r;cases r
 have hm : ∀ b u,H b=some u -> ¬ Mut (some u)->b≠x:=fun b u q nm z=>by subst z;rw [q] at mu;exact nm mu
 refine ⟨fun b u q n _ _=>k b u (hb b n) q,fun b u q n _ _=>⟨u.slots,k b u (hb b n) q⟩,fun b u q n _=>by rw [qk (hx b n)];exact n,fun b u q _=>?_,
  fun b xs q=>by rw [qk (hm b _ q fun z=>z)];exact q,fun b u xs q=>by rw [qk (hm b _ q fun z=>z)];exact q,fun b ps q=>⟨#[],by rw [qk (hm b _ q fun z=>z),q];simp,.nil⟩⟩
 by_cases hbe:b=e
 ·subst hbe;exact heo
 ·exact ⟨u,k b u hbe q⟩
end
def trk (h:Heap) (H:Hp):List Addr:=(Qx h.objs.size).filter fun a=>(H a).isSome
def qxc (h:Heap) (H:Hp):Heap:=Qiw h (trk h H)
def zabr (h:Heap) (H:Hp):(qxc h H).objs.size=h.objs.size:=PySem.W.hideAll_size _ _
def zadz {h:Heap}{H:Hp}{b:Addr}{o:Obj} (e:h.get? b=some o) (n:H b=none):(qxc h H).get? b=some o :=
 Qas _ e fun hm=>by
  have q:(H b).isSome=true:=(Zt.mp hm).2;rw [n] at q;simp at q
def zahh {h:Heap}{H:Hp}{b:Addr}{o:Obj} (e:(qxc h H).get? b=some o):h.get? b=some o/\H b=none:=by
 have e':h.get? b=some o:=Qgu (trk h H) e;refine ⟨e',?_⟩;cases q:H b with
 | none=>rfl
 | some x =>
  have hm:b ∈ trk h H:=Zt.mpr ⟨Zp.mpr (Qw e'),by simp [q]⟩;have z:(qxc h H).get? b=none:=PySem.W.hideAll_none (trk h H) hm;rw [z] at e;cases e
def zaix (g h:Heap) (L:Addr):List (Addr×Obj):=(Qx h.objs.size).filterMap fun a=>if a=L\/(g.get? a).isSome=true then none else (h.get? a).map fun o=>(a,o)
def rest (g h:Heap) (L d:Addr):List (Addr×Obj):=(zaix g h L).filter fun p=>decide (p.1≠d)
end
section
structure Mod (K:Qd) (mg:Str->Option Value) (base:Heap):Prop where
 kin:K.In base
 glob:base.Ns Zh mg
 blt : ∃ mb,base.Ns Qcy mb /\ ∀ x:Str,x ≠ "__name__" -> mb x=Zv x
 nolimit:base.NoLimit
structure Cx where
 prog:Zi
 w:World
 K:Qd
 mg:Str->Option Value
 base:Heap
 A:Zw
 N:List Str
 s₀:Qk
 H₀:Hp
 env:Env
 outer:List Env
 stack:List Env
 ex:List Addr
 fn:Str->Bool
 calm:Bool
 pn:List (Addr×Obj)
 xe:Value->Qk->Prop
def frs (l:List Env):List Addr:=l.filterMap (·.frame)
abbrev Cx.fs (X:Cx):List Addr:=frs X.outer
def Vis (sc:Scope) (x:Str):Prop:=sc.names.lookup x=some .local\/sc.names.lookup x=some .cell\/sc.names.lookup x=some .free
def Loc (sc:Scope) (x:Str):Prop:=sc.names.lookup x=some .local\/sc.names.lookup x=some .cell
def Look (env:Env) (h:Heap) (m:Str->Option Value) (x:Str) (u:Value):Prop :=
 (env.kindOf x=some .local/\m x=some u)\/((env.kindOf x=some .cell\/env.kindOf x=some .free) /\ ∃ c,env.cells.lookup x=some c/\h.IsCell c (some u))
structure Cx.Ok (X:Cx):Prop where
 mod:Mod X.K X.mg X.base
 kind:X.env.scope.kind = .function
 glob:X.env.globals=Zh
 blt:X.env.builtins=Qcy
 above:X.s₀.heap.objs.size<=X.env.locals
 inj : ∀ x y c,X.env.cells.lookup x=some c->X.env.cells.lookup y=some c->x=y
 has : ∀ x,(X.env.kindOf x=some .cell\/X.env.kindOf x=some .free) -> ∃ c,X.env.cells.lookup x=some c
 cab : ∀ x c,X.fn x=true->X.env.cells.lookup x=some c->X.s₀.heap.objs.size<=c
 hd:X.calm=true->X.A.handled=none
 frames:X.A.frames=some X.stack
 stk:X.stack=X.outer\/(X.stack=X.env::X.outer/\X.env.frame=some X.env.locals)
 exf : ∀ b ∈ X.ex,b≠X.env.locals /\ ∀ x c,X.env.cells.lookup x=some c->c≠b
 bs : ∀ b o,X.base.get? b=some o->X.s₀.heap.get? b=some o/\X.H₀ b=none
 bsz:X.base.objs.size<=X.s₀.heap.objs.size
 noex : ∀ b o,X.base.get? b=some o->b ∉ X.ex
 exfs : ∀ b ∈ X.ex,b ∉ X.fs
 funs:X.s₀.heap.FunFrames X.base X.outer
 frf : ∀ b ∈ X.fs,X.H₀ b=none
structure Inv (X:Cx) (pins:List (Addr×Obj)) (σ:List (Option V)) (H:Hp) (s:Qk):Prop where
 ok:X.Ok
 os:s.os=X.s₀.os
 bare:Qdw s.gens
 base:Un X.fs X.ex X.H₀ H X.s₀.heap s.heap
 loc : ∃ m,s.heap.Ns X.env.locals m /\ ∀ (i:Nat) (x:Str) (v:V),X.N[i]?=some x->σ[i]?=some (some v)->Vis X.env.scope x -> ∃ u,RelV v u/\Look X.env s.heap m x u
 cell : ∀ x c,X.env.cells.lookup x=some c -> ∃ v,s.heap.IsCell c v
 free:H X.env.locals=none
 freeC : ∀ x c,X.env.cells.lookup x=some c->H c=none
 pin : ∀ p ∈ X.pn++pins,s.heap.get? p.1=some p.2/\H p.1=none/\p.1≠X.env.locals/\p.1 ∉ X.fs /\ ∀ v,p.2.data ≠ .cell v
 hok:HOk X.prog X.w H s.heap
 len:σ.length=X.N.length
section
variable {X:Cx}{pins:List (Addr×Obj)}{σ:List (Option V)}{H H':Hp}{s:Qk}{h':Heap}
def Cx.Ok.nofr (ok:X.Ok) {b:Addr}{o:Obj} (e:X.base.get? b=some o):b ∉ X.fs:=fun hb=>by
 have:=(ok.funs.mem hb).1;rw [e] at this;cases this
def Inv.bs (I:Inv X pins σ H s) : ∀ b o,X.base.get? b=some o->s.heap.get? b=some o/\H b=none:=fun b o e =>
 ⟨I.base.keep b o (I.ok.bs b o e).1 (I.ok.bs b o e).2 (I.ok.nofr e) (I.ok.noex b o e),I.base.free b o (I.ok.bs b o e).1 (I.ok.bs b o e).2 (I.ok.noex b o e)⟩
def Inv.bk (I:Inv X pins σ H s) : ∀ b o,X.base.get? b=some o->s.heap.get? b=some o:=fun b o e=>(I.bs b o e).1
def Inv.mod (I:Inv X pins σ H s):Mod X.K X.mg X.base:=I.ok.mod
def Inv.kIn (I:Inv X pins σ H s):X.K.In s.heap:=I.ok.mod.kin.keeps I.bk
def Inv.lt (I:Inv X pins σ H s):X.env.locals<s.heap.objs.size:=let ⟨_,hn,_⟩:=I.loc;hn.lt
def Inv.sz (I:Inv X pins σ H s):X.s₀.heap.objs.size<=s.heap.objs.size:=Zr I.ok.above (Yi I.lt)
def Inv.nofs (I:Inv X pins σ H s) {a:Addr} (h:s.heap.objs.size<=a):a ∉ X.fs:=fun hb=>by
 obtain ⟨_,o,ho,_⟩:=I.ok.funs.mem hb;exact absurd (Zu (Qw ho) (Zr I.sz h)) (Jl _)
def Inv.cne (I:Inv X pins σ H s) : ∀ x c,X.env.cells.lookup x=some c->c≠X.env.locals:=fun x c e z=>by
 obtain ⟨v,o,ho,hd⟩:=I.cell x c e;obtain ⟨m,⟨o',es,ep,ho',hd',_⟩,_⟩:=I.loc;rw [z,ho'] at ho;cases ho;rw [hd'] at hd;cases hd
def Inv.funs (I:Inv X pins σ H s):s.heap.FunFrames X.base X.outer:=by
 have all : ∀ (l:List Env),(∀ b ∈ frs l,b ∈ X.fs)->X.s₀.heap.FunFrames X.base l->s.heap.FunFrames X.base l:=by
  intro l
  induction l with
  | nil=>intro _ _;trivial
  | cons env r ih =>
   intro hs hl;obtain ⟨hk,⟨L,o,hf,hn,ho,hd⟩,hr⟩:=hl;have hL:L ∈ X.fs:=hs L (by unfold frs;rw [Yz,hf];exact J0);obtain ⟨sl,e⟩:=I.base.slot L o ho (I.ok.frf L hL) hL fun z=>I.ok.exfs L z hL;exact ⟨hk,⟨L,_,hf,hn,e,hd⟩,ih (fun b hb=>hs b (by unfold frs;rw [Yz,hf];exact Qm _ hb)) hr⟩
 exact all X.outer (fun _ hb=>hb) I.ok.funs
def Inv.stack (I:Inv X pins σ H s):s.heap.FunFrames X.base X.stack:=by
 rcases I.ok.stk with e|⟨e,hf⟩
 ·rw [e];exact I.funs
 ·rw [e];obtain ⟨m,hn,_⟩:=I.loc;refine .cons (by rw [I.ok.kind];decide) hf hn ?_ I.funs;exact Heap.get?_none_of_le (Zr I.ok.bsz I.ok.above)
def Inv.stkSub (I:Inv X pins σ H s) : ∀ b ∈ frs X.stack,b ∈ X.env.locals::X.fs:=fun b hb=>by
 rcases I.ok.stk with e|⟨e,hf⟩
 ·rw [e] at hb;exact Qm _ hb
 ·rw [e] at hb;unfold frs at hb;rw [Yz,hf] at hb;exact hb
def Inv.stkFree (I:Inv X pins σ H s) : ∀ b ∈ frs X.stack,H b=none:=fun b hb=>by
 rcases Qs.mp (I.stkSub b hb) with e|hb
 ·rw [e];exact I.free
 ·obtain ⟨_,o,ho,_⟩:=I.ok.funs.mem hb;exact I.base.free b o ho (I.ok.frf b hb) fun z=>I.ok.exfs b z hb
def Inv.step {g':Array Qit}{t':Nat}{d':Drawn}{ch:List Addr} (I:Inv X pins σ H s)
 (hch : ∀ b ∈ ch,(b ∈ X.ex\/X.s₀.heap.objs.size<=b)/\b≠X.env.locals/\(∀ x c,X.env.cells.lookup x=some c->c≠b) /\ ∀ p ∈ X.pn++pins,p.1≠b)
 (keep : ∀ b o,b≠X.env.locals->b ∉ X.fs->b ∉ ch->s.heap.get? b=some o->H b=none->h'.get? b=some o)
 (slot : ∀ b o,b≠X.env.locals->b ∈ X.fs->b ∉ ch->s.heap.get? b=some o->H b=none -> ∃ sl,h'.get? b=some { o with slots:=sl }) (free : ∀ b o,b ∉ ch->s.heap.get? b=some o->H b=none->H' b=none)
  (there : ∀ b o,b ∉ ch->s.heap.get? b=some o -> ∃ o',h'.get? b=some o')
  (tups : ∀ b xs,H b=some (.tup xs)->H' b=some (.tup xs)) (frzs : ∀ b o u,H b=some (.frz o u)->H' b=some (.frz o u)) (tbls : ∀ b ps,H b=some (.tbl ps) -> ∃ more,H' b=some (.tbl (ps++more))/\GoodT H' more)
  (ns : ∀ m,s.heap.Ns X.env.locals m->h'.Ns X.env.locals m) (hok:HOk X.prog X.w H' h') (hg:Qdw g') :
  Inv X pins σ H' { s with heap:=h',gens:=g',drawn:=d',toks:=t' }:=by
  have neL : ∀ b o,X.s₀.heap.get? b=some o->b≠X.env.locals:=fun b o e=>Za (Zu (Qw e) I.ok.above);have neC : ∀ b o,X.s₀.heap.get? b=some o->b ∉ X.ex->b ∉ ch:=fun b o e hx hb=>by
   rcases (hch b hb).1 with z|z
   ·exact hx z
   ·exact absurd (Zu (Qw e) z) (Jl _)
  have cellK : ∀ x c,X.env.cells.lookup x=some c -> ∀ v,s.heap.IsCell c v->h'.IsCell c v:=fun x c e v xx1=>by
   obtain ⟨o,ho,hd⟩:=xx1;have nch:c ∉ ch:=fun z=>(hch c z).2.2.1 x c e rfl;by_cases hc:c ∈ X.fs
   ·obtain ⟨sl,q⟩:=slot c o (I.cne x c e) hc nch ho (I.freeC x c e);exact ⟨_,q,hd⟩
   ·exact ⟨o,keep c o (I.cne x c e) hc nch ho (I.freeC x c e),hd⟩
  refine ⟨I.ok,I.os,hg,⟨fun b o e n hb hx=>?_,fun b o e n hb hx=>?_,fun b o e n hx=>?_,fun b o e hx=>?_,fun b xs e=>tups b xs (I.base.tups b xs e),fun b o xs e=>frzs b o xs (I.base.frzs b o xs e),fun b ps e=>?_⟩,?_,fun x c e=>?_,?_,fun x c e=>?_,fun p hp=>?_,hok,I.len⟩
  ·exact keep b o (neL b o e) hb (neC b o e hx) (I.base.keep b o e n hb hx) (I.base.free b o e n hx)
  ·obtain ⟨sl,e1⟩:=I.base.slot b o e n hb hx;obtain ⟨sl',e2⟩:=slot b _ (neL b o e) hb (neC b o e hx) e1 (I.base.free b o e n hx);exact ⟨sl',e2⟩
  ·obtain ⟨o',e1⟩:=I.base.there b o e hx;exact free b o' (neC b o e hx) e1 (I.base.free b o e n hx)
  ·obtain ⟨o',e1⟩:=I.base.there b o e hx;exact there b o' (neC b o e hx) e1
  ·obtain ⟨m1,e1,g1⟩:=I.base.tbls b ps e;obtain ⟨m2,e2,g2⟩:=tbls b _ e1;exact ⟨m1++m2,by rw [e2,Array.append_assoc],(g1.mono frzs).app g2⟩
  ·obtain ⟨m,hn,hl⟩:=I.loc;refine ⟨m,ns m hn,fun i x v e1 e2 e3=>?_⟩;obtain ⟨u,r,l⟩:=hl i x v e1 e2 e3;refine ⟨u,r,?_⟩;rcases l with l|⟨k,c,e,z⟩
   ·exact .inl l
   ·exact .inr ⟨k,c,e,cellK x c e _ z⟩
  ·obtain ⟨v,z⟩:=I.cell x c e;exact ⟨v,cellK x c e v z⟩
  ·obtain ⟨m,⟨o,_,_,ho,_⟩,_⟩:=I.loc;exact free _ o (fun z=>(hch _ z).2.1 rfl) ho I.free
  ·obtain ⟨v,o,ho,hd⟩:=I.cell x c e;exact free c o (fun z=>(hch c z).2.2.1 x c e rfl) ho (I.freeC x c e)
  ·obtain ⟨e,n,ne,nf,d⟩:=I.pin p hp;have nch:p.1 ∉ ch:=fun z=>(hch p.1 z).2.2.2 p hp rfl;exact ⟨keep p.1 p.2 ne nf nch e n,free p.1 p.2 nch e n,ne,nf,d⟩
def Inv.un {t':Nat} (I:Inv X pins σ H s) (u:Un X.fs [] H H' s.heap h') (hok:HOk X.prog X.w H' h'):Inv X pins σ H' { s with heap:=h',toks:=t' }:=by
 obtain ⟨m,⟨o,es,ep,ho,r⟩,_⟩:=id I.loc;obtain ⟨sl,hL⟩:=u.any ho I.free (by simp);exact I.step (g':=s.gens) (d':=s.drawn) (ch:=[]) (fun _ z=>nomatch z) (fun b o _ hb _ e n=>u.keep b o e n hb (by simp)) (fun b o _ hb _ e n=>u.slot b o e n hb (by simp)) (fun b o _ e n=>u.free b o e n (by simp)) (fun b o _ e=>u.there b o e (by simp)) u.tups u.frzs u.tbls (fun m' hm=>by
  obtain ⟨o',es',ep',ho',r'⟩:=hm;rw [ho] at ho';cases ho';exact ⟨_,es',ep',hL,r'⟩) hok I.bare
def Inv.call {g':Array Qit}{t':Nat}{d':Drawn}{ch:List Addr} (I:Inv X pins σ H s) (u:Un (frs X.stack) ch H H' s.heap h') (hok:HOk X.prog X.w H' h') (hg:Qdw g')
 (hch : ∀ b ∈ ch,(b ∈ X.ex\/X.s₀.heap.objs.size<=b)/\b≠X.env.locals/\(∀ x c,X.env.cells.lookup x=some c->c≠b) /\ ∀ p ∈ X.pn++pins,p.1≠b) :
 Inv X pins σ H' { s with heap:=h',gens:=g',drawn:=d',toks:=t' }:=by
  obtain ⟨m,⟨o,es,ep,ho,r⟩,_⟩:=id I.loc;obtain ⟨sl,hL⟩:=u.any ho I.free fun z=>(hch _ z).2.1 rfl;exact I.step (ch:=ch) hch (fun b o hL hb hc e n=>u.keep b o e n (fun z=>(Qs.mp (I.stkSub b z)).elim hL hb) hc) (fun b o _ _ hc e n=>u.any e n hc) (fun b o hc e n=>u.free b o e n hc) (fun b o hc e=>u.there b o e hc) u.tups u.frzs u.tbls (fun m' hm=>by
   obtain ⟨o',es',ep',ho',r'⟩:=hm;rw [ho] at ho';cases ho';exact ⟨_,es',ep',hL,r'⟩) hok hg
def Inv.turned {t':Nat}{it:Addr} (I:Inv X pins σ H s) (k : ∀ b o,b≠it->s.heap.get? b=some o->h'.get? b=some o) (hn:H it=none) (hL:it≠X.env.locals)
 (h1:it ∈ X.ex\/X.s₀.heap.objs.size<=it) (h2 : ∀ x c,X.env.cells.lookup x=some c->c≠it) (h3 : ∀ p ∈ X.pn++pins,p.1≠it):Inv X pins σ H { s with heap:=h',toks:=t' }:=by
  have nit : ∀ b u,H b=some u->b≠it:=fun b u e z=>by rw [z,hn] at e;cases e
  refine I.step (g':=s.gens) (d':=s.drawn) (ch:=[it]) (fun b hb=>?_) (fun b o _ _ hc e _=>k b o (fun z=>hc (by simp [z])) e) (fun b o _ _ hc e _=>⟨o.slots,k b o (fun z=>hc (by simp [z])) e⟩) (fun _ _ _ _ n=>n)
   (fun b o hc e=>⟨o,k b o (fun z=>hc (by simp [z])) e⟩) (fun _ _ e=>e) (fun _ _ _ e=>e) (fun b ps e=>⟨#[],by rw [e];simp,.nil⟩) (fun m hm=>?_) (fun b u e=>?_) I.bare
  ·have e:b=it:=by simpa using hb
   subst e;exact ⟨h1,hL,h2,h3⟩
  ·obtain ⟨o,es,ep,ho,r⟩:=hm;exact ⟨o,es,ep,k _ o (V7 hL) ho,r⟩
  ·refine (I.hok b u e).stay (fun c v hc q=>k c v ?_ q) (fun _ q=>q) fun _ _ q=>q;rcases hc with z|z
   ·rw [z];exact nit b u e
   ·exact nit c _ z
def Inv.tok (I:Inv X pins σ H s) (t:Nat):Inv X pins σ H { s with toks:=t }:=I.un (h':=s.heap) (t':=t) Un.refl I.hok
def Inv.kept {t':Nat} (I:Inv X pins σ H s) (k : ∀ b u,s.heap.get? b=some u->h'.get? b=some u):Inv X pins σ H { s with heap:=h',toks:=t' }:=I.un (Un.kept k) (I.hok.kept k)
def Inv.laid {a:Addr}{o:HO}{t':Nat} (I:Inv X pins σ H s) (k : ∀ b u,s.heap.get? b=some u->h'.get? b=some u) (hp:s.heap.objs.size<=a) (new:ObjOk X.prog X.w (upd H a o) h' a o) :
 Inv X pins σ (upd H a o) { s with heap:=h',toks:=t' }:=I.un (Un.laid k hp (I.hok.fresh hp)) (I.hok.laid k hp new)
def Inv.write {x e:Addr}{o:HO}{t':Nat} (I:Inv X pins σ H s) (mu:Mut (H x)) (he:e=x\/H e=some (.own x)) (k : ∀ b u,b≠e->s.heap.get? b=some u->h'.get? b=some u) (heo : ∃ u,h'.get? e=some u)
 (new:ObjOk X.prog X.w (upd H x o) h' x o):Inv X pins σ (upd H x o) { s with heap:=h',toks:=t' }:=I.un (Un.write mu he k heo) (I.hok.write mu he k heo new)
def Inv.pins_of {pins':List (Addr×Obj)} (I:Inv X pins σ H s) (h : ∀ p ∈ pins',s.heap.get? p.1=some p.2/\H p.1=none/\p.1≠X.env.locals/\p.1 ∉ X.fs /\ ∀ v,p.2.data ≠ .cell v):Inv X pins' σ H s :=
 ⟨I.ok,I.os,I.bare,I.base,I.loc,I.cell,I.free,I.freeC,fun p hp=>(Zd.mp hp).elim (fun z=>I.pin p (Z2 _ z)) (h p),I.hok,I.len⟩
def qoh {N:List Str} (hN:N.Nodup) {i j:Nat}{x:Str} (a:N[i]?=some x) (b:N[j]?=some x):i=j:=by
 obtain ⟨h1,e1⟩:=Qg.mp a;obtain ⟨h2,e2⟩:=Qg.mp b;exact (List.getElem_inj hN).mp (e1.trans e2.symm)
def zaby {M:Model}{A:Zw}{E:Value->Qk->Prop}{i:Nat}{x:Str}{v:V}{u:Value}{Q:Unit->Qk->Prop} (I:Inv X pins σ H s) (hN:X.N.Nodup) (hi:X.N[i]?=some x) (hx:Loc X.env.scope x) (r:RelV v u)
 (h : ∀ s',Inv X pins (σ.set i (some v)) H s'->(∃ a,Qay a s.heap s'.heap/\(a=X.env.locals\/X.env.cells.lookup x=some a))->Q () s') (hf:X.fn x=true\/X.env.scope.names.lookup x=some .local:=by first|exact .inl rfl|exact .inr rfl|assumption):wpAny M A (storeName X.env x u) Q E s:=by
  obtain ⟨m,hn,hl⟩:=id I.loc;have hcls:(X.env.scope.kind == .class||(X.env.scope.kind == .module&&X.env.locals != X.env.globals))=false:=by rw [I.ok.kind];rfl
  have hiσ:i<σ.length:=by rw [I.len];exact (Qg.mp hi).1
  have cne:=I.cne;have tracked : ∀ {a:Addr}{h':Heap},(∃ o,s.heap.get? a=some o/\H a=none)->Qay a s.heap h'->HOk X.prog X.w H h':=fun {a h'} ha hs b ob e=>by
   obtain ⟨_,_,hfree⟩:=ha;refine (I.hok b ob e).stay (fun c w' hc q=>(hs.2 c ?_).trans q) (fun _ q=>q) fun _ _ q=>q;rintro rfl;rcases hc with rfl|hc
   ·rw [hfree] at e;cases e
   ·rw [hfree] at hc;cases hc
  rcases hx with hk|hk
  ·refine wpAny_storeName_local hk hn (fun h' hn' hs=>?_) hcls;obtain ⟨oL,_,_,hoL,_⟩:=id hn;refine h _ ⟨I.ok,I.os,I.bare,⟨fun b o e n hb hx=>?_,fun b o e n hb hx=>?_,I.base.free,fun b o e hx=>?_,I.base.tups,I.base.frzs,I.base.tbls⟩,⟨_,hn',fun j y v' e1 e2 e3=>?_⟩,fun y c e=>?_,I.free,I.freeC,fun p hp=>?_,tracked ⟨oL,hoL,I.free⟩ hs,by simpa using I.len⟩ ⟨_,hs,.inl rfl⟩
   ·exact (hs.2 b (Za (Zu (Qw e) I.ok.above))).trans (I.base.keep b o e n hb hx)
   ·obtain ⟨sl,e1⟩:=I.base.slot b o e n hb hx;exact ⟨sl,(hs.2 b (Za (Zu (Qw e) I.ok.above))).trans e1⟩
   ·obtain ⟨o',e1⟩:=I.base.there b o e hx;exact ⟨o',(hs.2 b (Za (Zu (Qw e) I.ok.above))).trans e1⟩
   ·by_cases hj:j=i
    ·subst hj;rw [hi] at e1;cases e1;rw [Qew hiσ] at e2;cases e2;exact ⟨u,r,.inl ⟨hk,by simp⟩⟩
    ·rw [Qco (V7 hj)] at e2;obtain ⟨u',r',q⟩:=hl j y v' e1 e2 e3;refine ⟨u',r',?_⟩;rcases q with ⟨k,e⟩|⟨k,c,e,z⟩
     ·refine .inl ⟨k,?_⟩;have:y≠x:=fun e=>hj (qoh hN e1 (e ▸ hi));simp [this,e]
     ·exact .inr ⟨k,c,e,z.sameBut hs (cne y c e)⟩
   ·obtain ⟨w',z⟩:=I.cell y c e;exact ⟨w',z.sameBut hs (cne y c e)⟩
   ·obtain ⟨e,n,ne,nf,d⟩:=I.pin p hp;exact ⟨(hs.2 p.1 ne).trans e,n,ne,nf,d⟩
  ·have hfn:X.fn x=true:=by
    rcases hf with z|z
    ·exact z
    ·rw [z] at hk;cases hk
   obtain ⟨c,hc⟩:=I.ok.has x (.inl hk);obtain ⟨w',z⟩:=I.cell x c hc;refine Qgh I.ok.kind hk hc z (fun h' hc' hs=>?_);obtain ⟨oc,hoc,hocd⟩:=id z;refine h { s with heap:=h' } ⟨I.ok,I.os,I.bare,⟨fun b o e n hb hx=>?_,fun b o e n hb hx=>?_,I.base.free,fun b o e hx=>?_,I.base.tups,I.base.frzs,I.base.tbls⟩,⟨m,hn.sameBut hs (V7 (cne x c hc)),fun j y v' e1 e2 e3=>?_⟩,fun y c' e=>?_,I.free,I.freeC,fun p hp=>?_,tracked ⟨oc,hoc,I.freeC x c hc⟩ hs,by simpa using I.len⟩ ⟨c,hs,.inr hc⟩
   ·exact (hs.2 b (Za (Zu (Qw e) (I.ok.cab x c hfn hc)))).trans (I.base.keep b o e n hb hx)
   ·obtain ⟨sl,e1⟩:=I.base.slot b o e n hb hx;exact ⟨sl,(hs.2 b (Za (Zu (Qw e) (I.ok.cab x c hfn hc)))).trans e1⟩
   ·obtain ⟨o',e1⟩:=I.base.there b o e hx;exact ⟨o',(hs.2 b (Za (Zu (Qw e) (I.ok.cab x c hfn hc)))).trans e1⟩
   ·by_cases hj:j=i
    ·subst hj;rw [hi] at e1;cases e1;rw [Qew hiσ] at e2;cases e2;exact ⟨u,r,.inr ⟨.inl hk,c,hc,hc'⟩⟩
    ·rw [Qco (V7 hj)] at e2;obtain ⟨u',r',q⟩:=hl j y v' e1 e2 e3;refine ⟨u',r',?_⟩;rcases q with q|⟨k,c',e,z'⟩
     ·exact .inl q
     ·refine .inr ⟨k,c',e,z'.sameBut hs ?_⟩;rintro rfl;exact hj (qoh hN e1 (I.ok.inj _ _ _ e hc ▸ hi))
   ·by_cases hcc:c'=c
    ·subst hcc;exact ⟨_,hc'⟩
    ·obtain ⟨w2,z2⟩:=I.cell y c' e;exact ⟨w2,z2.sameBut hs hcc⟩
   ·obtain ⟨e,n,ne,nf,d⟩:=I.pin p hp;refine ⟨(hs.2 p.1 ?_).trans e,n,ne,nf,d⟩;intro q;rw [q,hoc] at e;have q':oc=p.2:=Qn e;exact d w' (by rw [<- q'];exact hocd)
def qgu {M:Model}{A:Zw}{E:Value->Qk->Prop}{i:Nat}{x:Str}{v:V}{u:Value}{Q:Unit->Qk->Prop} (I:Inv X pins σ H s) (hN:X.N.Nodup) (hi:X.N[i]?=some x) (hx:Loc X.env.scope x) (r:RelV v u)
 (h : ∀ s',Inv X pins (σ.set i (some v)) H s'->Q () s') (hf:X.fn x=true\/X.env.scope.names.lookup x=some .local:=by first|exact .inl rfl|exact .inr rfl|assumption):wpAny M A (storeName X.env x u) Q E s :=
  zaby I hN hi hx r (fun s' I' _=>h s' I') hf
def Inv.call' {s':Qk}{ch:List Addr} (I:Inv X pins σ H s) (ho:s'.os=s.os) (u:Un (frs X.stack) ch H H' s.heap s'.heap) (hok:HOk X.prog X.w H' s'.heap) (hg:Qdw s'.gens)
 (hch : ∀ b ∈ ch,(b ∈ X.ex\/X.s₀.heap.objs.size<=b)/\b≠X.env.locals/\(∀ x c,X.env.cells.lookup x=some c->c≠b) /\ ∀ p ∈ X.pn++pins,p.1≠b):Inv X pins σ H' s':=by
  obtain ⟨h',g',d',t',o'⟩:=s';have e:o'=s.os:=ho;subst e;exact I.call (g':=g') (t':=t') (d':=d') u hok hg hch
end
abbrev XK:=Value->Option Addr->Hp->Prop
abbrev St:=List (Option V)
abbrev VK:=V->Hp->Prop
abbrev TE:=St->Hp->VK->Prop
abbrev TT:=St->Hp->(Bool->Hp->Prop)->Prop
abbrev TA:=St->Hp->(List V->Hp->Prop)->Prop
structure Ends where
 nx:St->Hp->Prop
 rt:VK
 bk:St->Hp->Prop:=fun _ _=>False
 ct:St->Hp->Prop:=fun _ _=>False
abbrev TS:=Ends->St->Hp->Prop
def EP (X:Cx) (pins:List (Addr×Obj)) (σ:St) (Q:VK) (u:Value) (s':Qk):Prop := ∃ v H',Inv X pins σ H' s'/\RelV v u/\Q v H'
def TP (X:Cx) (pins:List (Addr×Obj)) (σ:St) (Q:Bool->Hp->Prop) (b:Bool) (s':Qk):Prop := ∃ H',Inv X pins σ H' s'/\Q b H'
def AP (X:Cx) (pins:List (Addr×Obj)) (σ:St) (Q:List V->Hp->Prop) (us:List Value) (s':Qk):Prop := ∃ vs H',Inv X pins σ H' s'/\Vals vs us/\Q vs H'
def SP (X:Cx) (pins:List (Addr×Obj)) (D:Ends) (f:Flow) (s':Qk):Prop :=
 match f with
 | .next => ∃ σ' H',Inv X pins σ' H' s'/\D.nx σ' H'
 | .brk => ∃ σ' H',Inv X pins σ' H' s'/\D.bk σ' H'
 | .cont => ∃ σ' H',Inv X pins σ' H' s'/\D.ct σ' H'
 | .ret u => ∃ v σ' H',Inv X pins σ' H' s'/\RelV v u/\D.rt v H'
def PE (X:Cx) (e:Expr) (t:TE):Prop :=
 ∀ (pins:List (Addr×Obj)) (s:Qk) (σ:St) (H:Hp) (Q:VK),Inv X pins σ H s->t σ H Q->wpAny (model X.prog X.w) X.A (eval e X.env) (EP X pins σ Q) X.xe s
def PT (X:Cx) (e:Expr) (t:TT):Prop :=
 ∀ (pins:List (Addr×Obj)) (s:Qk) (σ:St) (H:Hp) (Q:Bool->Hp->Prop),Inv X pins σ H s->t σ H Q->wpAny (model X.prog X.w) X.A (Qjs e X.env (eval e X.env)) (TP X pins σ Q) X.xe s
def PW (X:Cx) (e:Expr) (t:TT):Prop :=
 ∀ (whole:Sem Value) (pins:List (Addr×Obj)) (s:Qk) (σ:St) (H:Hp) (Q:Bool->Hp->Prop),Inv X pins σ H s->t σ H Q->wpAny (model X.prog X.w) X.A (Qjs e X.env whole) (TP X pins σ Q) X.xe s
def PW.pt {X:Cx}{e:Expr}{t:TT} (h:PW X e t):PT X e t:=h _
def PA (X:Cx) (es:List Expr) (t:TA):Prop :=
 ∀ (pos:Pos) (pins:List (Addr×Obj)) (s:Qk) (σ:St) (H:Hp) (Q:List V->Hp->Prop),Inv X pins σ H s->t σ H Q->wpAny (model X.prog X.w) X.A (spliced (Ja pos (Qu es X.env))) (AP X pins σ Q) X.xe s
def PS (X:Cx) (st:Stmt) (t:TS):Prop :=
 ∀ (pins:List (Addr×Obj)) (s:Qk) (σ:St) (H:Hp) (D:Ends),Inv X pins σ H s->t D σ H->wpAny (model X.prog X.w) X.A (exec st X.env) (SP X pins D) X.xe s
def PSs (X:Cx) (st:List Stmt) (t:TS):Prop :=
 ∀ (pins:List (Addr×Obj)) (s:Qk) (σ:St) (H:Hp) (D:Ends),Inv X pins σ H s->t D σ H->wpAny (model X.prog X.w) X.A (execs st X.env) (SP X pins D) X.xe s
def thn {α:Type}{t:Sem α}{Q Q':α->Qk->Prop}{M:Model}{A:Zw}{E:Value->Qk->Prop}{s:Qk} (h:wpAny M A t Q E s) (hQ : ∀ a s,Q a s->Q' a s):wpAny M A t Q' E s:=Z4 h hQ fun _ _ x=>x
end
section
section
variable {X:Cx}
def qxg (i:Nat):TE:=fun σ H Q => ∃ v,σ[i]?=some (some v)/\Q v H
def tC (v:V):TE:=fun _ H Q=>Q v H
def qey {i:Nat}{x:Str}{pos:Pos} (hN:X.N[i]?=some x) (hv:Vis X.env.scope x) (hd:Nd0 x:=by decide) (hcd:Nd1 x:=by decide):PE X (.Name x pos) (qxg i):=by
 intro pins s σ H Q I h;obtain ⟨v,e,h⟩:=h;obtain ⟨m,hn,hl⟩:=I.loc;obtain ⟨u,r,l⟩:=hl i x v hN e hv;have fin:EP X pins σ Q u s:=⟨v,H,I,r,h⟩
 rcases l with ⟨hk,hm⟩|⟨hk,c,hc,hcell⟩
 ·exact wpAny_Name (Qgg I.ok.kind hk hn hm fin) hd
 ·rcases hk with hk|hk
  ·exact wpAny_Name (Qgq I.ok.kind hk hc hcell fin) hd
  ·exact wpAny_Name (wpAny_loadName_free I.ok.kind hk hc hcell fin hcd) hd
def zamw {i j pos}:PE X (.Constant (.int i) j pos) (tC (.int i)):=fun _ _ _ H _ I h=>wpAny_Constant_int ⟨.int i,H,I.tok _,⟨_,rfl⟩,h⟩
def zapl {b j pos}:PE X (.Constant (.bool b) j pos) (tC (.bl b)):=fun _ _ _ H _ I h=>Constant_bool ⟨.bl b,H,I,rfl,h⟩
def zamt {j pos}:PE X (.Constant .none j pos) (tC .non):=fun _ _ _ H _ I h=>Constant_none ⟨.non,H,I,rfl,h⟩
def zame {x j pos}:PE X (.Constant (.str x) j pos) (tC (.str x)):=fun _ _ _ H _ I h=>Calls.Constant_str ⟨.str x,H,I.tok _,⟨_,rfl⟩,h⟩
def Gl (X:Cx) (x:Str):Prop:=X.env.kindOf x=some .globalImplicit
def qki {E:Value->Qk->Prop}{pins:List (Addr×Obj)}{s:Qk}{σ:St}{H:Hp}{x:Str}{u:Value}{pos:Pos}{Q:Value->Qk->Prop} (I:Inv X pins σ H s) (hg:Gl X x) (hm:X.mg x=some u) (h:Q u s)
 (hd:Nd0 x:=by decide):wpAny (model X.prog X.w) X.A (eval (.Name x pos) X.env) Q E s :=
  Qdg I.ok.kind hg (Calls.loadGlobal_global (by rw [I.ok.glob];exact I.mod.glob.keeps I.bk) hm h) hd
def qgk {E:Value->Qk->Prop}{pins:List (Addr×Obj)}{s:Qk}{σ:St}{H:Hp}{x:Str}{u:Value}{pos:Pos}{Q:Value->Qk->Prop} (I:Inv X pins σ H s) (hg:Gl X x) (hm:X.mg x=none) (hv:Zv x=some u) (h:Q u s)
 (hn:x ≠ "__name__":=by decide) (hd:Nd0 x:=by decide):wpAny (model X.prog X.w) X.A (eval (.Name x pos) X.env) Q E s:=by
  obtain ⟨mb,h1,h2⟩:=I.mod.blt;exact Qdg I.ok.kind hg (Calls.loadGlobal_builtin (by rw [I.ok.glob];exact I.mod.glob.keeps I.bk) hm (by rw [I.ok.blt];exact h1.keeps I.bk) ((h2 x hn).trans hv) h) hd
def zaik {x:Str}{v:V}{u:Value}{pos:Pos} (hg:Gl X x) (hm:X.mg x=some u) (r:RelV v u) (hd:Nd0 x:=by decide):PE X (.Name x pos) (tC v) :=
 fun _ _ _ H _ I h=>qki I hg hm ⟨v,H,I,r,h⟩ hd
def zahu {x:Str}{v:V}{u:Value}{pos:Pos} (hg:Gl X x) (hm:X.mg x=none) (hv:Zv x=some u) (r:RelV v u) (hn:x ≠ "__name__":=by decide) (hd:Nd0 x:=by decide):PE X (.Name x pos) (tC v) :=
 fun _ _ _ H _ I h=>qgk I hg hm hv ⟨v,H,I,r,h⟩ hn hd
variable {a b:Expr}{ta tb:TE}{pos:Pos}
def tB (t:TE):TT:=fun σ H Q=>t σ H fun x H1 => ∃ c,x = .bl c/\Q c H1
def zany {e:Expr}{t:TE} (h:PE X e t) (he : ∀ whole,Qjs e X.env whole=(do let v <- whole;standAt e.pos;holding [v] (truthy v)):=by intro _;rfl):PT X e (tB t):=by
 intro pins s σ H Q I hw;refine isTrue_plain (thn (h pins s σ H _ I hw) fun v s1 xx2=>?_) (he _);obtain ⟨x,H1,I1,r1,q1⟩:=xx2;obtain ⟨d,rfl,q⟩:=q1;cases r1;exact Vv ⟨H1,I1,q⟩
variable {tA tB':TT}{rest:List Expr}
def tAnd (t u:TT):TT:=fun σ H Q=>t σ H fun c H1=>if c=true then u σ H1 Q else Q false H1
def tOr (t u:TT):TT:=fun σ H Q=>t σ H fun c H1=>if c=true then Q true H1 else u σ H1 Q
def tNot (t:TT):TT:=fun σ H Q=>t σ H fun c H1=>Q (!c) H1
def zahd (ha:PT X a tA):PW X (.BoolOp .And [a] pos) tA:=by
 intro wh pins s σ H Q I h;refine isTrue_and (thn (ha pins s σ H Q I h) fun c s1 e=>?_);cases c with
 | true=>exact isTrue_and_nil e
 | false=>exact e
def zalr (ha:PT X a tA):PW X (.BoolOp .Or [a] pos) tA:=by
 intro wh pins s σ H Q I h;refine isTrue_or (thn (ha pins s σ H Q I h) fun c s1 e=>?_);cases c with
 | false=>exact isTrue_or_nil e
 | true=>exact e
def zaof (ha:PT X a tA) (hb:PW X (.BoolOp .And (b::rest) pos) tB'):PW X (.BoolOp .And (a::b::rest) pos) (tAnd tA tB'):=by
 intro wh pins s σ H Q I h;refine isTrue_and (thn (ha pins s σ H _ I h) fun c s1 xx3=>?_);obtain ⟨H1,I1,q1⟩:=xx3;cases c with
 | true=>exact hb wh pins s1 σ H1 Q I1 q1
 | false=>exact ⟨H1,I1,q1⟩
def zaqh (ha:PT X a tA) (hb:PW X (.BoolOp .Or (b::rest) pos) tB'):PW X (.BoolOp .Or (a::b::rest) pos) (tOr tA tB'):=by
 intro wh pins s σ H Q I h;refine isTrue_or (thn (ha pins s σ H _ I h) fun c s1 xx4=>?_);obtain ⟨H1,I1,q1⟩:=xx4;cases c with
 | true=>exact ⟨H1,I1,q1⟩
 | false=>exact hb wh pins s1 σ H1 Q I1 q1
def zalj (ha:PT X a tA):PT X (.UnaryOp .Not a pos) (tNot tA):=by
 intro pins s σ H Q I h;exact isTrue_not (ha pins s σ H (fun c H1=>Q (!c) H1) I h)
def zaqj (ta tb:TE):TE:=fun σ H Q=>ta σ H fun x H1 => ∃ c,x = .bl c/\if c=true then tb σ H1 Q else Q (.bl false) H1
def zapp (ta:TE):TE:=fun σ H Q=>ta σ H fun x H1 => ∃ c,x = .bl c/\Q (.bl (!c)) H1
def zamg {op}{t:TE} (h:PE X a t):PE X (.BoolOp op [a] pos) t:=fun pins s σ H Q I hw=>BoolOp_one (h pins s σ H Q I hw)
def zalm (ha:PE X a ta) (hb:PE X (.BoolOp .And (b::rest) pos) tb):PE X (.BoolOp .And (a::b::rest) pos) (zaqj ta tb):=by
 intro pins s σ H Q I h;refine BoolOp_and (thn (ha pins s σ H _ I h) fun v s1 xx5=>?_);obtain ⟨x,H1,I1,r1,q1⟩:=xx5;obtain ⟨c,rfl,q1⟩:=q1;cases r1;refine Vv ?_;cases c with
 | true=>exact hb pins s1 σ H1 Q I1 q1
 | false=>exact ⟨.bl false,H1,I1,rfl,q1⟩
def zamn (ha:PE X a ta):PE X (.UnaryOp .Not a pos) (zapp ta):=by
 intro pins s σ H Q I h;refine UnaryOp_ (thn (ha pins s σ H _ I h) fun v s1 xx6=>?_);obtain ⟨x,H1,I1,r1,q1⟩:=xx6;obtain ⟨c,rfl,q1⟩:=q1;cases r1;exact not_of (Vv ⟨.bl (!c),H1,I1,rfl,q1⟩)
def tIf (t:TT) (ta tb:TE):TE:=fun σ H Q=>t σ H fun c H1=>if c=true then ta σ H1 Q else tb σ H1 Q
def zadu {c:Expr} (hc:PT X c tA) (ha:PE X a ta) (hb:PE X b tb):PE X (.IfExp c a b pos) (tIf tA ta tb):=by
 intro pins s σ H Q I h;refine wpAny_IfExp (thn (hc pins s σ H _ I h) fun d s1 xx7=>?_);obtain ⟨H1,I1,q1⟩:=xx7;cases d with
 | true=>exact ha pins s1 σ H1 Q I1 q1
 | false=>exact hb pins s1 σ H1 Q I1 q1
end
end
section
def SqL (K:Qd) (H:Hp) (a:Addr) (xs:List V):Prop :=
 Rd H a (.lst xs) \/
  ∃ (o:Obj) (its:Array Value) (n:Nat),K.lookup a=some o/\o.cls = .type "list" /\ o.dict=none/\o.data = .seq its n/\its.size<=Zb/\Vals xs its.toList
def SqT (K:Qd) (H:Hp) (a:Addr) (xs:List V):Prop :=
 Rd H a (.tup xs) \/
  ∃ (o:Obj) (its:Array Value) (n:Nat),K.lookup a=some o/\o.cls = .type "tuple" /\ o.data = .seq its n/\its.size<=Zb/\Vals xs its.toList
def absV:Value->Option V
 | .none=>some .non
 | .bool b=>some (.bl b)
 | .int i _=>some (.int i)
 | .str x _=>some (.str x)
 | .bytes b _=>some (.byt b)
 | .float b _=>some (.flt b)
 | .ref a=>some (.ref a)
 | .type n=>some (.ty n)
 | _=>none
def RelV.abs {x:V}{u:Value} (r:RelV x u):absV u=some x:=by
 cases x with
 | non=>cases r;rfl
 | bl _=>cases r;rfl
 | int _=>obtain ⟨t,rfl⟩:=r;rfl
 | str _=>obtain ⟨t,rfl⟩:=r;rfl
 | byt _=>obtain ⟨t,rfl⟩:=r;rfl
 | flt _=>obtain ⟨t,rfl⟩:=r;rfl
 | ref _=>cases r;rfl
 | ty _=>cases r;rfl
def RelV.inj {x y:V}{u:Value} (r:RelV x u) (q:RelV y u):x=y:=Qn (r.abs.symm.trans q.abs)
def Vals.inj : ∀ {xs ys:List V}{us:List Value},Vals xs us->Vals ys us->xs=ys
 | _,_,_,.nil,.nil=>rfl
 | _,_,_,.cons r t,.cons r' t'=>by rw [r.inj r',Vals.inj t t']
section
variable {X:Cx}{pins:List (Addr×Obj)}{σ:St}{H:Hp}{s:Qk}{a:Addr}{xs ys:List V}
def SqL.of {K:Qd} (h:H a=some (.lst xs)):SqL K H a xs :=.inl (.inl h)
def SqT.of {K:Qd} (h:H a=some (.tup xs)):SqT K H a xs :=.inl (.inl h)
def Inv.list (I:Inv X pins σ H s) (h:SqL X.K H a xs) : ∃ its:List Value,Vals xs its/\PlainL s.heap a its.toArray/\xs.length<=Zb:=by
 rcases h with h|⟨o,its,n,hk,hc,hd,hs,hz,r⟩
 ·obtain ⟨z,its,n,r,e⟩:=h.ok I.hok;exact ⟨its,r,⟨_,n,e,rfl,rfl,rfl⟩,z⟩
 ·refine ⟨its.toList,r,⟨o,n,I.kIn a o hk,hc,hd,by simpa using hs⟩,?_⟩;have e:=r.length;simp only [Zf] at e;omega
def Inv.tuple (I:Inv X pins σ H s) (h:SqT X.K H a xs) : ∃ its:List Value,Vals xs its/\IsTup s.heap a its.toArray/\xs.length<=Zb:=by
 rcases h with h|⟨o,its,n,hk,hc,hs,hz,r⟩
 ·obtain ⟨z,its,r,p⟩:=h.ok I.hok;exact ⟨its,r,p,z⟩
 ·refine ⟨its.toList,r,⟨o,I.kIn a o hk,hc,n,by simpa using hs⟩,?_⟩;have e:=r.length;simp only [Zf] at e;omega
def Inv.list_inj (I:Inv X pins σ H s) (h:SqL X.K H a xs) (h':SqL X.K H a ys):xs=ys:=by
 obtain ⟨its,r,⟨o,n,e,_,_,d⟩,_⟩:=I.list h;obtain ⟨its',r',⟨o',n',e',_,_,d'⟩,_⟩:=I.list h';rw [e] at e';cases e';rw [d] at d';injection d' with d1 _;have:its=its':=by simpa using congrArg Qkc d1
 subst this;exact r.inj r'
def Inv.tuple_inj (I:Inv X pins σ H s) (h:SqT X.K H a xs) (h':SqT X.K H a ys):xs=ys:=by
 obtain ⟨its,r,⟨o,e,_,n,d⟩,_⟩:=I.tuple h;obtain ⟨its',r',⟨o',e',_,n',d'⟩,_⟩:=I.tuple h';rw [e] at e';cases e';rw [d] at d';injection d' with d1 _;have:its=its':=by simpa using congrArg Qkc d1
 subst this;exact r.inj r'
end
abbrev Cx.wish (X:Cx) (E:Value->Qk->Prop):Cx:={ X with xe:=E }
abbrev Cx.nox (X:Cx):Cx:=X.wish fun _ _=>False
def Cx.Ok.wish {X:Cx} (ok:X.Ok) (E:Value->Qk->Prop):(X.wish E).Ok :=
 ⟨ok.mod,ok.kind,ok.glob,ok.blt,ok.above,ok.inj,ok.has,ok.cab,ok.hd,ok.frames,ok.stk,ok.exf,ok.bs,ok.bsz,ok.noex,ok.exfs,ok.funs,ok.frf⟩
def Cx.Ok.unwish {X:Cx}{E:Value->Qk->Prop} (ok:(X.wish E).Ok):X.Ok :=
 ⟨ok.mod,ok.kind,ok.glob,ok.blt,ok.above,ok.inj,ok.has,ok.cab,ok.hd,ok.frames,ok.stk,ok.exf,ok.bs,ok.bsz,ok.noex,ok.exfs,ok.funs,ok.frf⟩
section
variable {X:Cx}{pins:List (Addr×Obj)}{σ:St}{H:Hp}{s:Qk}{E:Value->Qk->Prop}
def Inv.wish (I:Inv X pins σ H s) (E:Value->Qk->Prop):Inv (X.wish E) pins σ H s:=⟨I.ok.wish E,I.os,I.bare,I.base,I.loc,I.cell,I.free,I.freeC,I.pin,I.hok,I.len⟩
def Inv.unwish (I:Inv (X.wish E) pins σ H s):Inv X pins σ H s:=⟨I.ok.unwish,I.os,I.bare,I.base,I.loc,I.cell,I.free,I.freeC,I.pin,I.hok,I.len⟩
def SP.unwish {D:Ends}{f:Flow}{s':Qk} (h:SP (X.wish E) pins D f s'):SP X pins D f s':=by
 cases f with
 | next=>obtain ⟨σ',H',I,q⟩:=h;exact ⟨σ',H',I.unwish,q⟩
 | brk=>obtain ⟨σ',H',I,q⟩:=h;exact ⟨σ',H',I.unwish,q⟩
 | cont=>obtain ⟨σ',H',I,q⟩:=h;exact ⟨σ',H',I.unwish,q⟩
 | ret u=>obtain ⟨v,σ',H',I,r,q⟩:=h;exact ⟨v,σ',H',I.unwish,r,q⟩
def PSs.nox {st:List Stmt}{t:TS} (h:PSs X.nox st t):PSs X st t:=fun pins s σ H D I hw =>
 Z4 (h pins s σ H D (I.wish _) hw) (fun _ _ q=>q.unwish) fun _ _ z=>Zc z
end
section
variable {X:Cx}{st:Stmt}{rest:List Stmt}{t u:TS}{e:Expr}{te:TE}{pos:Pos}
def zapz:TS:=fun D σ H=>D.nx σ H
def tSeq (t u:TS):TS:=fun D σ H=>t { D with nx:=u D } σ H
def qyt:PSs X [] zapz:=fun _ _ σ H _ I h=>Qdf ⟨σ,H,I,h⟩
def qeg (h1:PS X st t) (h2:PSs X rest u):PSs X (st::rest) (tSeq t u):=by
 intro pins s σ H D I h;refine wpAny_execs_cons (thn (h1 pins s σ H { D with nx:=u D } I h) fun f s1 q=>?_);cases f with
 | next =>
  obtain ⟨σ',H',I',q⟩:=q;exact h2 pins s1 σ' H' D I' q
 | ret v=>exact q
 | brk=>exact q
 | cont=>exact q
def qjz (h1:PS X st t):PSs X [st] t:=by
 intro pins s σ H D I h;refine wpAny_execs_cons (thn (h1 pins s σ H D I h) fun f s1 q=>?_);cases f with
 | next=>exact Qdf q
 | ret v=>exact q
 | brk=>exact q
 | cont=>exact q
def Inv.quiet {pins:List (Addr×Obj)}{σ:St}{H:Hp}{s:Qk} (I:Inv X pins σ H s):interactive X.env=false:=by simp [interactive,I.ok.kind]
def zaks (te:TE):TS:=fun D σ H=>te σ H fun _ H1=>D.nx σ H1
def qnm (he:PE X e te) (hs:Qaa e none pos.line X.env=pure false:=by rfl):PS X (.Expr e pos) (zaks te):=by
 intro pins s σ H D I h;exact wpAny_Expr_any (thn (he pins s σ H _ I h) fun v s1 xx10=>by obtain ⟨x,H1,I1,r1,q1⟩:=xx10;exact ⟨σ,H1,I1,q1⟩) I.quiet hs
def tRet (te:TE):TS:=fun D σ H=>te σ H D.rt
def qmf (he:PE X e te):PS X (.Return (some e) pos) (tRet te):=by
 intro pins s σ H D I h;exact wpAny_Return_some (thn (he pins s σ H _ I h) fun v s1 xx11=>by obtain ⟨x,H1,I1,r1,q1⟩:=xx11;exact ⟨x,σ,H1,I1,r1,q1⟩)
def tIfS (c:TT) (t u:TS):TS:=fun D σ H=>c σ H fun b H1=>if b=true then t D σ H1 else u D σ H1
def zagu {c:Expr}{a b:List Stmt}{tc:TT} (hc:PT X c tc) (ha:PSs X a t) (hb:PSs X b u):PS X (.If c a b pos) (tIfS tc t u):=by
 intro pins s σ H D I h;refine wpAny_If (thn (hc pins s σ H _ I h) fun d s1 xx12=>?_);obtain ⟨H1,I1,q1⟩:=xx12;cases d with
 | true=>exact ha pins s1 σ H1 D I1 q1
 | false=>exact hb pins s1 σ H1 D I1 q1
def zamz:TS:=fun _ _ _=>False
def zaaz {sts:List Stmt}:PSs X sts zamz:=fun _ _ _ _ _ _ h=>h.elim
end
abbrev TG:=V->St->Hp->(St->Hp->Prop)->Prop
abbrev TGs:=List V->St->Hp->(St->Hp->Prop)->Prop
def PG (X:Cx) (target:Expr) (t:TG):Prop :=
 ∀ (pins:List (Addr×Obj)) (s:Qk) (σ:St) (H:Hp) (v:V) (u:Value) (Q:St->Hp->Prop),Inv X pins σ H s->RelV v u->t v σ H Q ->
  wpAny (model X.prog X.w) X.A (Qgi target X.env u) (fun _ s' => ∃ σ' H',Inv X pins σ' H' s'/\Q σ' H') X.xe s
def PGs (X:Cx) (ts:List Expr) (t:TGs):Prop :=
 ∀ (pins:List (Addr×Obj)) (s:Qk) (σ:St) (H:Hp) (vs:List V) (us:List Value) (Q:St->Hp->Prop),Inv X pins σ H s->Vals vs us->t vs σ H Q ->
  wpAny (model X.prog X.w) X.A (assignInOrder ((Jw ts X.env).map (·.2)) us) (fun _ s' => ∃ σ' H',Inv X pins σ' H' s'/\Q σ' H') X.xe s
abbrev TIp:=V->V->Hp->VK->Prop
def PIp (X:Cx) (op:Operator) (t:TIp):Prop :=
 ∀ (pins:List (Addr×Obj)) (s:Qk) (σ:St) (H:Hp) (x y:V) (v u:Value) (Q:VK),Inv X pins σ H s->RelV x v->RelV y u->t x y H Q ->
  wpAny (model X.prog X.w) X.A (inplaceOp op v u) (EP X pins σ Q) X.xe s
section
variable {X:Cx}{pos:Pos}
def zack (i:Nat):TG:=fun v σ H Q=>Q (σ.set i (some v)) H
def qzf {i:Nat}{x:Str} (hN:X.N.Nodup) (hi:X.N[i]?=some x) (hx:Loc X.env.scope x) (hf:X.fn x=true\/X.env.scope.names.lookup x=some .local:=by first|exact .inl rfl|exact .inr rfl|assumption):PG X (.Name x pos) (zack i):=by
 intro pins s σ H v u Q I r h;exact wpAny_assign_Name (qgu I hN hi hx r (fun s' I'=>⟨_,H,I',h⟩) hf)
def gNil:TGs:=fun vs σ H Q=>vs=[]/\Q σ H
def zaqr (t:TG) (u:TGs):TGs:=fun vs σ H Q => ∃ v r,vs=v::r/\t v σ H fun σ' H'=>u r σ' H' Q
def zaiy:PGs X [] gNil:=by
 intro pins s σ H vs us Q I r h;obtain ⟨e,h⟩:=h;subst e;cases r;exact assignInOrder_nil ⟨σ,H,I,h⟩
def zaem {e:Expr}{es:List Expr}{t:TG}{u:TGs} (h1:PG X e t) (h2:PGs X es u)
 (hs:(Jw (e::es) X.env).map (·.2)=Qgi e X.env::(Jw es X.env).map (·.2):=by rfl):PGs X (e::es) (zaqr t u):=by
  intro pins s σ H vs us Q I r h;obtain ⟨v,vr,e1,h⟩:=h;subst e1;cases r with
  | cons r rr =>
   rw [hs];refine assignInOrder_cons (thn (h1 pins s σ H _ _ _ I r h) fun _ s1 xx13=>?_);obtain ⟨σ1,H1,I1,q1⟩:=xx13;exact h2 pins s1 σ1 H1 _ _ Q I1 rr q1
def gTup (K:Qd) (n:Nat) (t:TGs):TG:=fun v σ H Q => ∃ a xs,v = .ref a/\SqT K H a xs/\xs.length=n/\t xs σ H Q
def zaod {es:List Expr}{k:Nat}{t:TGs}{n:Nat} (hc:X.calm=true) (h:PGs X es t)
 (hn:(Jw es X.env).length=n:=by rfl) (hst:(Jw es X.env).findIdx? (·.1)=none:=by rfl):PG X (.Tuple es k pos) (gTup X.K n t):=by
  intro pins s σ H v u Q I r hw;obtain ⟨a,xs,e1,hq,hl,hw⟩:=hw;subst e1;cases r;obtain ⟨its,rv,ht,hz⟩:=I.tuple hq;refine assign_Tuple_tuple (I.ok.hd hc) ht (by simp [hn,<- hl,rv.length]) hst fun h' hx=>?_;have I1:Inv X pins σ H { s with heap:=h' }:=I.kept (t':=s.toks) fun b o e=>hx b o (Za (Qw e)) e;exact h pins _ σ H xs _ Q I1 (by simpa using rv) hw
def tAsg (te:TE) (g:TG):TS:=fun D σ H=>te σ H fun x H1=>g x σ H1 D.nx
def zanh {tg e:Expr}{te:TE}{g:TG} (he:PE X e te) (hg:PG X tg g) (hs:swapsWithSole [tg] e pos.line X.env=pure false:=by rfl) (hw:swappedStores [tg] e X.env=pure none:=by rfl)
 (h1:(Jw [tg] X.env).map (·.2)=[Qgi tg X.env]:=by rfl):PS X (.Assign [tg] e pos) (tAsg te g):=by
 intro pins s σ H D I h;refine wpAny_Assign_stores (thn (he pins s σ H _ I h) fun v s1 xx14=>?_) hs hw;obtain ⟨x,H1,I1,r1,q1⟩:=xx14;rw [h1];exact thn (hg pins s1 σ H1 x v _ I1 r1 q1) fun _ s2 q=>q
def qjg {i:Nat}{x:Str}{e:Expr}{te:TE}{pos':Pos} (hN:X.N.Nodup) (hi:X.N[i]?=some x) (hx:Loc X.env.scope x) (he:PE X e te) (hs:Qaa e (some (.Name x pos')) pos.line X.env=pure false:=by rfl) (hf:X.fn x=true\/X.env.scope.names.lookup x=some .local:=by first|exact .inl rfl|exact .inr rfl|assumption) :
 PS X (.Assign [.Name x pos'] e pos) (tAsg te (zack i)):=by
 intro pins s σ H D I h;refine wpAny_Assign_Name (thn (he pins s σ H _ I h) fun v s1 xx15=>?_) hs;obtain ⟨y,H1,I1,r1,q1⟩:=xx15;exact qgu I1 hN hi hx r1 (fun s2 I2=>⟨_,H1,I2,q1⟩) hf
def tAug (i:Nat) (te:TE) (ti:TIp):TS:=fun D σ H => ∃ x,σ[i]?=some (some x)/\te σ H fun y H1=>ti x y H1 fun z H2=>D.nx (σ.set i (some z)) H2
def zanj {i:Nat}{x:Str}{e:Expr}{te:TE}{op:Operator}{ti:TIp}{pos':Pos} (hN:X.N.Nodup) (hi:X.N[i]?=some x) (hx:Loc X.env.scope x) (he:PE X e te) (ho:PIp X op ti) (hf:X.fn x=true\/X.env.scope.names.lookup x=some .local:=by first|exact .inl rfl|exact .inr rfl|assumption) :
 PS X (.AugAssign (.Name x pos') op e pos) (tAug i te ti):=by
 intro pins s σ H D I h;obtain ⟨v,e1,h⟩:=h;obtain ⟨m,hn,hl⟩:=I.loc;have vis:Vis X.env.scope x:=by rcases hx with k|k;exact .inl k;exact .inr (.inl k)
 obtain ⟨u,r,l⟩:=hl i x v hi e1 vis;refine wpAny_AugAssign_Name ?_;have go:wpAny (model X.prog X.w) X.A (eval e X.env) (fun w s₂=>wpAny (model X.prog X.w) X.A (inplaceOp op u w) (fun r s₃=>wpAny (model X.prog X.w) X.A (storeName X.env x r) (fun _=>SP X pins D .next) X.xe s₃) X.xe s₂) X.xe s:=by
  refine thn (he pins s σ H _ I h) fun w s1 xx17=>?_;obtain ⟨y,H1,I1,r1,q1⟩:=xx17;refine thn (ho pins s1 σ H1 v y u w _ I1 r r1 q1) fun z s2 xx16=>?_;obtain ⟨zv,H2,I2,r2,q2⟩:=xx16;exact qgu I2 hN hi hx r2 (fun s3 I3=>⟨_,H2,I3,q2⟩) hf
 rcases l with ⟨hk,hm⟩|⟨hk,c,hc,hcell⟩
 ·exact Qgg I.ok.kind hk hn hm go
 ·rcases hk with hk|hk
  ·exact Qgq I.ok.kind hk hc hcell go
  ·rcases hx with k|k
   ·have:X.env.scope.names.lookup x=some .free:=hk;rw [k] at this;cases this
   ·have:X.env.scope.names.lookup x=some .free:=hk;rw [k] at this;cases this
def ipI (f:Int->Int->Int):TIp:=fun x y H Q => ∃ i j,x = .int i/\y = .int j/\Q (.int (f i j)) H
def zalx:PIp X .Add (ipI fun i j=>i+j):=by
 intro pins s σ H x y v u Q I r1 r2 h;obtain ⟨i,j,e1,e2,q⟩:=h;subst e1;subst e2;obtain ⟨t,rfl⟩:=r1;obtain ⟨t',rfl⟩:=r2;exact iadd_int ⟨.int _,H,I.tok _,⟨_,rfl⟩,q⟩
end
section
variable {X:Cx}{pos:Pos}
def zaog (c:TT) (tb:TS):TS:=fun D σ H => ∃ W:Nat->St->Hp->Prop,(∃ m,W m σ H) /\ ∀ m σ H,W m σ H ->
 c σ H fun b H1=>if b=true then ∃ N:St->Hp->Prop,(∀ σ' H',N σ' H' -> ∃ m',m'<m/\W m' σ' H')/\tb { D with nx:=N,ct:=N,bk:=D.nx } σ H1 else D.nx σ H1
def zadq {c:Expr}{body:List Stmt}{tc:TT}{tb:TS} (hp:Qhh (model X.prog X.w) X.A X.env X.xe) (hc:PT X c tc) (hb:PSs X body tb):PS X (.While c body [] pos) (zaog tc tb):=by
 intro pins s σ H D I h;obtain ⟨W,⟨m0,w0⟩,turn⟩:=h;refine wpAny_While (codeAny_whileLoop (fun n s' => ∃ σ' H',Inv X pins σ' H' s'/\W n σ' H') ?_ m0 ⟨σ,H,I,w0⟩);rintro n s1 ⟨σ1,H1,I1,w1⟩;refine Jj hp (thn (hc pins s1 σ1 H1 _ I1 (turn n σ1 H1 w1)) fun b s2 xx18=>?_);obtain ⟨H2,I2,q2⟩:=xx18;cases b with
 | true =>
  obtain ⟨N,hN,q2⟩:=q2;rw [if_pos rfl];refine Jj hp (thn (hb pins s2 σ1 H2 _ I2 q2) fun f s3 q3=>?_);cases f with
  | next =>
   obtain ⟨σ3,H3,I3,n3⟩:=q3;obtain ⟨m',hm,w3⟩:=hN σ3 H3 n3;exact ⟨m',hm,σ3,H3,I3,w3⟩
  | cont =>
   obtain ⟨σ3,H3,I3,n3⟩:=q3;obtain ⟨m',hm,w3⟩:=hN σ3 H3 n3;exact ⟨m',hm,σ3,H3,I3,w3⟩
  | brk=>exact q3
  | ret v=>exact q3
 | false =>
  rw [if_neg Zx];exact Qdf ⟨σ1,H2,I2,q2⟩
end
structure It where
 go:Nat->Hp->Prop
 yld:Nat->Hp->V->Hp->Prop
 stop:Nat->Hp->Prop
def FpOk (X:Cx) (pins:List (Addr×Obj)) (H:Hp) (b:Addr):Prop :=
 H b=none/\b≠X.env.locals/\b ∉ X.fs/\(b ∈ X.ex\/X.s₀.heap.objs.size<=b)/\(∀ x c,X.env.cells.lookup x=some c->c≠b) /\ ∀ p ∈ X.pn++pins,p.1≠b
def Inv.fpOk {X:Cx}{pins:List (Addr×Obj)}{σ:St}{H H':Hp}{s:Qk}{b:Addr} (I:Inv X pins σ H s) (hb:s.heap.objs.size<=b) (hn:H' b=none):FpOk X pins H' b:=by
 refine ⟨hn,Yr (Zu I.lt hb),I.nofs hb,.inr (Zr I.sz hb),fun x c e z=>?_,fun p hp z=>?_⟩
 ·obtain ⟨v,q⟩:=I.cell x c e;exact absurd (Zu q.lt (by rw [z];exact hb)) (Jl _)
 ·exact absurd (Zu (Qw (I.pin p hp).1) (by rw [z];exact hb)) (Jl _)
structure Turn (P:Zi) (w:World) (K:Qd) (tg:Expr) (J:It) (fp:List Addr) (it:Addr) (tn:Nat->Heap->Prop):Prop where
 mem:it ∈ fp
 obj : ∀ i h,tn i h -> ∀ b ∈ fp,∃ o,h.get? b=some o /\ ∀ v,o.data ≠ .cell v
 keep : ∀ i h h',tn i h->(∀ b ∈ fp,∀ o,h.get? b=some o->h'.get? b=some o)->tn i h'
 item : ∀ (X:Cx),X.prog=P->X.w=w->X.K=K->X.calm=true -> ∀ (i:Nat) (pins:List (Addr×Obj)) (s:Qk) (σ:St) (H:Hp) (E:Value->Qk->Prop),Inv X pins σ H s->(∀ b ∈ fp,FpOk X pins H b)->tn i s.heap->J.go i H ->
  wpAny (model P w) X.A (Qik (.ref it)) (fun r s1 => ∃ u,r=some u /\
   wpAny (model P w) X.A (J9 tg (.ref it) u) (fun _ s2 => ∃ x H',Inv X pins σ H' s2/\RelV x u/\J.yld i H x H'/\tn (i+1) s2.heap /\ ∀ b ∈ fp,H' b=none) E s1) E s
 done : ∀ (X:Cx),X.prog=P->X.w=w->X.K=K->X.calm=true -> ∀ (i:Nat) (pins:List (Addr×Obj)) (s:Qk) (σ:St) (H:Hp) (E:Value->Qk->Prop),Inv X pins σ H s->(∀ b ∈ fp,FpOk X pins H b)->tn i s.heap->J.stop i H ->
  wpAny (model P w) X.A (Qik (.ref it)) (fun r s1=>r=none/\Inv X pins σ H s1) E s
 self : ∀ (A:Zw) (i:Nat) (s:Qk) (Q:Value->Qk->Prop) (E:Value->Qk->Prop),tn i s.heap->Q (.ref it) s->wpAny (model P w) A (pyIter (.ref it)) Q E s
abbrev TI:=St->Hp->(It->Hp->Prop)->Prop
def PIE (X:Cx) (pins:List (Addr×Obj)) (σ:St) (tg:Expr) (R:It->Hp->Prop) (itv:Value) (s2:Qk):Prop :=
 ∃ (it:Addr) (fp:List Addr) (tn:Nat->Heap->Prop) (J:It) (H':Hp),itv = .ref it/\Inv X pins σ H' s2/\Turn X.prog X.w X.K tg J fp it tn/\tn 0 s2.heap/\(∀ b ∈ fp,FpOk X pins H' b)/\R J H'
def PI (X:Cx) (tg iter:Expr) (wi:TI):Prop :=
 ∀ (pins:List (Addr×Obj)) (s:Qk) (σ:St) (H:Hp) (R:It->Hp->Prop),Inv X pins σ H s->wi σ H R ->
  wpAny (model X.prog X.w) X.A (eval iter X.env) (fun v s1=>wpAny (model X.prog X.w) X.A (pyIter v) (PIE X pins σ tg R) X.xe s1) X.xe s
def zacj {M:Model}{A:Zw}{E:Value->Qk->Prop}{s:Qk}{tg:Expr}{it:Addr}{u:Value}{o:Obj}{n:String}{vs:Array Value}{Q:Unit->Qk->Prop} (ho:s.heap.get? it=some o) (hc:o.cls = .type n) (hd:o.data = .fields vs)
 (hn:["enumerate","zip","dict_itemiterator","dict_reverseitemiterator","odict_iterator","itertools.zip_longest","itertools.pairwise"].contains n=false) (hQ:Q () s):wpAny M A (J9 tg (.ref it) u) Q E s:=by
  unfold J9;cases tg <;> first
   | exact Q1 hQ
   | (cases u <;> first
    | exact Q1 hQ
    | (refine Qj (wpAny_load ho ?_)
       rw [hc,hd];show wpAny M A (if (["enumerate","zip","dict_itemiterator","dict_reverseitemiterator","odict_iterator","itertools.zip_longest","itertools.pairwise"].contains n&&vs[0]?==some (Qhk _))=true then _ else _) Q E s;rw [if_neg (by intro h;rw [hn,Qji] at h;cases h)];exact Q1 hQ))
def Itl (K:Qd) (a:Addr):It :=
 ⟨fun i H => ∃ xs x,SqL K H a xs/\xs[i]?=some x,fun i H x H'=>H'=H /\ ∀ xs,SqL K H a xs->xs[i]?=some x,fun i H => ∃ xs,SqL K H a xs/\xs.length<=i⟩
def Itt (K:Qd) (a:Addr):It :=
 ⟨fun i H => ∃ xs x,SqT K H a xs/\xs[i]?=some x,fun i H x H'=>H'=H /\ ∀ xs,SqT K H a xs->xs[i]?=some x,fun i H => ∃ xs,SqT K H a xs/\xs.length<=i⟩
def Itr (lo:Int) (n:Nat):It:=⟨fun i _=>i<n,fun i H x H'=>H'=H/\x = .int (lo+i),fun i _=>n<=i⟩
def zabh {P:Zi}{w:World}{K:Qd}{tg:Expr} (a it:Addr):Turn P w K tg (Itl K a) [it] it (fun i h=>h.IsListIter it a i) where
 mem:=by simp
 obj:=fun i h st b hb=>by
  have e:b=it:=by simpa using hb
  subst e;obtain ⟨o,e,c,d⟩:=st;exact ⟨o,e,fun v z=>by rw [d] at z;cases z⟩
 keep:=fun i h h' st k=>st.at fun o e=>k it (by simp) o e
 item:=by
  intro X hP hw hK hc i pins s σ H E I hf st hg;subst hP hw hK;obtain ⟨xs,x,hq,hx⟩:=hg;obtain ⟨its,rv,p,hz⟩:=I.list hq;obtain ⟨u,hu,ru⟩:=rv.get hx;obtain ⟨f0,f1,f2,f3,f4,f5⟩:=hf it (by simp);refine wpAny_pyNext_list_item st p.isList (x:=u) (by simpa using hu) fun h' st' sb=>?_;have I1:Inv X pins σ H { s with heap:=h' }:=I.turned (t':=s.toks) (fun b o hb e=>(sb.2 b hb).trans e) f0 f1 f3 f4 f5;obtain ⟨o,e,c,d⟩:=id st';exact ⟨u,rfl,zacj (s:={ s with heap:=h' }) e c d (by decide) ⟨x,H,I1,ru,⟨rfl,fun ys hy=>by rw [I.list_inj hy hq];exact hx⟩,st',fun b hb=>(hf b hb).1⟩⟩
 done:=by
  intro X hP hw hK hc i pins s σ H E I hf st hg;subst hP hw hK;obtain ⟨xs,hq,hx⟩:=hg;obtain ⟨its,rv,p,hz⟩:=I.list hq;obtain ⟨f0,f1,f2,f3,f4,f5⟩:=hf it (by simp);have hl:=rv.length;exact wpAny_pyNext_list_end (I.ok.hd hc) st p.isList (by simp;omega) fun h' eb=>⟨rfl,I.turned (t':=s.toks) (fun b o hb e=>eb b o hb e) f0 f1 f3 f4 f5⟩
 self:=fun _ _ _ _ _ st h=>wpAny_pyIter_listiter st h
def qwi {P:Zi}{w:World}{K:Qd}{tg:Expr} (a it:Addr):Turn P w K tg (Itt K a) [it] it (fun i h=>h.IsTupleIter it a i) where
 mem:=by simp
 obj:=fun i h st b hb=>by
  have e:b=it:=by simpa using hb
  subst e;obtain ⟨o,e,c,d⟩:=st;exact ⟨o,e,fun v z=>by rw [d] at z;cases z⟩
 keep:=fun i h h' st k=>st.at fun o e=>k it (by simp) o e
 item:=by
  intro X hP hw hK hc i pins s σ H E I hf st hg;subst hP hw hK;obtain ⟨xs,x,hq,hx⟩:=hg;obtain ⟨its,rv,p,hz⟩:=I.tuple hq;obtain ⟨u,hu,ru⟩:=rv.get hx;obtain ⟨f0,f1,f2,f3,f4,f5⟩:=hf it (by simp);refine wpAny_pyNext_tuple_item st (show s.heap.IsTuple a its.toArray from p) (x:=u) (by simpa using hu) fun h' st' sb=>?_;have I1:Inv X pins σ H { s with heap:=h' }:=I.turned (t':=s.toks) (fun b o hb e=>(sb.2 b hb).trans e) f0 f1 f3 f4 f5;obtain ⟨o,e,c,d⟩:=id st';exact ⟨u,rfl,zacj (s:={ s with heap:=h' }) e c d (by decide) ⟨x,H,I1,ru,⟨rfl,fun ys hy=>by rw [I.tuple_inj hy hq];exact hx⟩,st',fun b hb=>(hf b hb).1⟩⟩
 done:=by
  intro X hP hw hK hc i pins s σ H E I hf st hg;subst hP hw hK;obtain ⟨xs,hq,hx⟩:=hg;obtain ⟨its,rv,p,hz⟩:=I.tuple hq;obtain ⟨f0,f1,f2,f3,f4,f5⟩:=hf it (by simp);have hl:=rv.length;exact wpAny_pyNext_tuple_end (I.ok.hd hc) st (show s.heap.IsTuple a its.toArray from p) (by simp;omega) fun h' eb=>⟨rfl,I.turned (t':=s.toks) (fun b o hb e=>eb b o hb e) f0 f1 f3 f4 f5⟩
 self:=fun _ _ _ _ _ st h=>wpAny_pyIter_tupleiter st h
def qxe {P:Zi}{w:World}{K:Qd}{tg:Expr} (it:Addr) (lo:Int) (n:Nat):Turn P w K tg (Itr lo n) [it] it (fun i h=>Qgn h it (lo+(i:Nat)*1) ((n:Int)-(i:Nat)) 1) where
 mem:=by simp
 obj:=fun i h st b hb=>by
  have e:b=it:=by simpa using hb
  subst e;exact ⟨_,st,fun v z=>by
   have z':Qix _=Qkd v:=z;cases z'⟩
 keep:=fun i h h' st k=>k it (by simp) _ st
 item:=by
  intro X hP hw hK hc i pins s σ H E I hf st hg;subst hP hw hK;obtain ⟨f0,f1,f2,f3,f4,f5⟩:=hf it (by simp);have W:=Qki (prog:=X.prog) (w:=X.w) (I.ok.hd hc) it lo 1 n;refine W.item i s _ _ hg st fun v h' tk hv st' kk=>?_;obtain ⟨t,rfl⟩:=hv;have I1:Inv X pins σ H { s with heap:=h',toks:=tk }:=I.turned (fun b o hb e=>kk b o (by simpa using hb) e) f0 f1 f3 f4 f5;refine ⟨_,rfl,zacj (s:={ s with heap:=h',toks:=tk }) (n := "range_iterator") st' rfl rfl (by decide) ⟨.int (lo+i),H,I1,⟨t,?_⟩,⟨rfl,rfl⟩,st',fun b hb=>(hf b hb).1⟩⟩;rw [Qat]
 done:=by
  intro X hP hw hK hc i pins s σ H E I hf st hg;subst hP hw hK;obtain ⟨f0,f1,f2,f3,f4,f5⟩:=hf it (by simp);exact Qfb (I.ok.hd hc) st (by have:n<=i:=hg;omega) fun h' eb=>⟨rfl,I.turned (t':=s.toks) (fun b o hb e=>eb b o hb e) f0 f1 f3 f4 f5⟩
 self:=fun _ _ _ _ _ st h=>Qfa st h
end
section
section
variable {X:Cx}{tg:Expr}
def qvr {pins:List (Addr×Obj)}{σ:St}{H:Hp}{s:Qk}{R:It->Hp->Prop}{E:Value->Qk->Prop}{lo hi:Int}{t u v:Tok}{tk:Nat} (I:Inv X pins σ H s) (h1 : -(2^62)<=lo) (h2:lo<2^62) (h3 : -(2^62)<=hi) (h4:hi<2^62)
 (q:R (Itr lo (hi-lo).toNat) H):wpAny (model X.prog X.w) X.A (pyIter (.ref s.heap.objs.size)) (PIE X pins σ tg R) E { s with heap:=s.heap.push { cls :=.type "range",data :=.fields #[.int lo t,.int hi u,.int 1 v] },toks:=tk }:=by
  refine wpAny_pyIter_range (Qkj ..) (small_one h1 h2 h3 h4) ?_;have I1:Inv X pins σ H { s with heap:=s.heap.push { cls :=.type "range",data :=.fields #[.int lo t,.int hi u,.int 1 v] },toks:=tk }:=I.kept fun b o e=>Qo _ e;refine ⟨(s.heap.push { cls :=.type "range",data :=.fields #[.int lo t,.int hi u,.int 1 v] }).objs.size,[(s.heap.push { cls :=.type "range",data :=.fields #[.int lo t,.int hi u,.int 1 v] }).objs.size],_,_,H,rfl,
   I1.kept (t':=tk) fun b o e=>Qo _ e,qxe _ lo (hi-lo).toNat,?_,fun b hb=>?_,q⟩
  ·have e1:lo+((0:Nat):Int)*1=lo:=by simp
   have e2:(((hi-lo).toNat:Nat):Int)-((0:Nat):Int)=Yd lo hi 1:=by rw [rangeSize_one];split <;> omega
   show Qgn _ _ (lo+((0:Nat):Int)*1) ((((hi-lo).toNat:Nat):Int)-((0:Nat):Int)) 1;rw [e1,e2];exact Q8 _ rfl
  ·have e:b=(s.heap.push { cls :=.type "range",data :=.fields #[.int lo t,.int hi u,.int 1 v] }).objs.size:=by simpa using hb
   subst e;exact I1.fpOk (Qr _) (I1.hok.fresh (Qr _))
def zaou (ta:TA):TI:=fun σ H R=>ta σ H fun vs H1 => ∃ j:Int,vs=[.int j] /\ -(2^62)<=j/\j<2^62/\R (Itr 0 j.toNat) H1
def zaqq (ta:TA):TI:=fun σ H R=>ta σ H fun vs H1 => ∃ i j:Int,vs=[.int i,.int j]/\(-(2^62)<=i/\i<2^62 /\ -(2^62)<=j/\j<2^62)/\R (Itr i (j-i).toNat) H1
def zaav {a:Expr}{ta:TA}{p pos:Pos} (hg:Gl X "range") (hm:X.mg "range" = none) (ha:PA X [a] ta) (hs:Qu [a] X.env=[(false,eval a X.env)]:=by rfl):PI X tg (.Call (.Name "range" p) [a] [] pos) (zaou ta):=by
 intro pins s σ H R I h;refine Call_ (qgk I hg hm boot_range (Y2 (thn (ha pos pins s σ H _ I h) fun us s1 xx19=>?_) hs rfl));obtain ⟨vs,H1,I1,r1,q1⟩:=xx19;obtain ⟨j,e,q1,q2,q⟩:=q1;subst e;cases r1 with
 | cons r rr =>
  cases rr;obtain ⟨t,rfl⟩:=r;exact call_range_1 (qvr I1 (by omega) (by omega) q1 q2 (by simpa using q))
def zaar {a b:Expr}{ta:TA}{p pos:Pos} (hg:Gl X "range") (hm:X.mg "range" = none) (ha:PA X [a,b] ta) (hs:Qu [a,b] X.env=[(false,eval a X.env),(false,eval b X.env)]:=by rfl) (hs2:Qu [b] X.env=[(false,eval b X.env)]:=by rfl) :
 PI X tg (.Call (.Name "range" p) [a,b] [] pos) (zaqq ta):=by
 intro pins s σ H R I h;refine Call_ (qgk I hg hm boot_range (Y2 (thn (ha pos pins s σ H _ I h) fun us s1 xx20=>?_) (by rw [hs,hs2]) (by rw [hs2];rfl)));obtain ⟨vs,H1,I1,r1,q1⟩:=xx20;obtain ⟨i,j,e,⟨q1,q2,q3,q4⟩,q⟩:=q1;subst e;cases r1 with
 | cons r rr =>
  cases rr with
  | cons r' rr =>
   cases rr;obtain ⟨t,rfl⟩:=r;obtain ⟨t',rfl⟩:=r';exact call_range_2 (qvr I1 q1 q2 q3 q4 q)
def tFor (wi:TI) (g:TG) (tb:TS):TS:=fun D σ H=>wi σ H fun J H1 => ∃ W:Nat->Nat->St->Hp->Prop,(∃ m,W 0 m σ H1) /\ ∀ i m σ H,W i m σ H ->
 (J.stop i H/\D.nx σ H)\/(J.go i H /\ ∃ N:St->Hp->Prop,(∀ σ' H',N σ' H' -> ∃ m',m'<m/\W (i+1) m' σ' H') /\ ∀ x H',J.yld i H x H'->g x σ H' fun σ2 H2=>tb { D with nx:=N,ct:=N,bk:=D.nx } σ2 H2)
def qtj (fp:List Addr) (h:Heap):List (Addr×Obj):=fp.filterMap fun b=>(h.get? b).map fun o=>(b,o)
def qgb {fp:List Addr}{h:Heap}{b:Addr}{o:Obj} (hb:b ∈ fp) (e:h.get? b=some o):(b,o) ∈ qtj fp h:=Qdl.mpr ⟨b,hb,by rw [e];rfl⟩
def zaan {fp:List Addr}{h:Heap}{p:Addr×Obj} (hp:p ∈ qtj fp h):p.1 ∈ fp/\h.get? p.1=some p.2:=by
 obtain ⟨b,hb,e⟩:=Qdl.mp hp;cases q:h.get? b with
 | none=>rw [q] at e;cases e
 | some o =>
  rw [q] at e;have e':(b,o)=p:=Qn e;subst e';exact ⟨hb,q⟩
def Inv.pinned {pins:List (Addr×Obj)}{σ:St}{H:Hp}{s:Qk}{fp:List Addr} (I:Inv X pins σ H s) (hf : ∀ b ∈ fp,FpOk X pins H b) (ho : ∀ b ∈ fp,∃ o,s.heap.get? b=some o /\ ∀ v,o.data ≠ .cell v):Inv X (pins++qtj fp s.heap) σ H s :=
 I.pins_of fun p hp=>(Zd.mp hp).elim (fun z=>I.pin p (Q4 _ z)) fun z=>by
  obtain ⟨hb,e⟩:=zaan z;obtain ⟨f0,f1,f2,_⟩:=hf p.1 hb;obtain ⟨o,e',d⟩:=ho p.1 hb;rw [e] at e';cases e';exact ⟨e,f0,f1,f2,d⟩
def Inv.unpinned {pins pl:List (Addr×Obj)}{σ:St}{H:Hp}{s:Qk} (I:Inv X (pins++pl) σ H s):Inv X pins σ H s:=I.pins_of fun p hp=>I.pin p (Q4 _ (Z2 _ hp))
def qya {iter:Expr}{body:List Stmt}{wi:TI}{g:TG}{tb:TS}{pos:Pos} (hp:Qhh (model X.prog X.w) X.A X.env X.xe) (hc:X.calm=true) (hi:PI X tg iter wi) (hg:PG X tg g) (hb:PSs X body tb)
 (hs : ∀ x,Yb iter X.env x=pure x:=by intro _;rfl):PS X (.For tg iter body [] pos) (tFor wi g tb):=by
  intro pins s σ H D I h;refine wpAny_For (thn (hi pins s σ H _ I h) fun v s1 h1=>thn h1 fun itv s2 h2=>?_) hs;obtain ⟨it,fp,tn,J,H2,e,I2,T,st2,f2,W,⟨m0,w0⟩,turn⟩:=h2;subst e;have stat : ∀ {H':Hp},(∀ b ∈ fp,H' b=none) -> ∀ b ∈ fp,FpOk X pins H' b:=fun hn b hb=>⟨hn b hb,(f2 b hb).2⟩
  refine codeAny_forLoop_any (fun n s' => ∃ i σ' H',Inv X pins σ' H' s'/\tn i s'.heap/\(∀ b ∈ fp,H' b=none)/\W i n σ' H') ?_ m0 ⟨0,σ,H2,I2,st2,fun b hb=>(f2 b hb).1,w0⟩;rintro n s3 ⟨i,σ3,H3,I3,st3,fr3,w3⟩;rcases turn i n σ3 H3 w3 with ⟨stop,qn⟩|⟨go,N,hN,step⟩
  ·refine Jj hp (thn (T.done X rfl rfl rfl hc i pins s3 σ3 H3 X.xe I3 (stat fr3) st3 stop) fun r s4 xx24=>?_);obtain ⟨hr,I4⟩:=xx24;subst hr;exact Qdf ⟨σ3,H3,I4,qn⟩
  ·refine Jj hp (thn (T.item X rfl rfl rfl hc i pins s3 σ3 H3 X.xe I3 (stat fr3) st3 go) fun r s4 xx23=>?_);obtain ⟨u,hr,h4⟩:=xx23;subst hr;refine Jj hp (thn h4 fun _ s5 xx22=>?_);obtain ⟨x,H5,I5,r5,y5,st5,fr5⟩:=xx22;have I5':=I5.pinned (stat fr5) (T.obj _ _ st5);refine Jj hp (thn (hg _ s5 σ3 H5 x u _ I5' r5 (step x H5 y5)) fun _ s6 xx21=>?_);obtain ⟨σ6,H6,I6,q6⟩:=xx21;refine Jj hp (thn (hb _ s6 σ6 H6 _ I6 q6) fun f s7 q7=>?_);have again : ∀ {σ7:St}{H7:Hp},Inv X (pins++qtj fp s5.heap) σ7 H7 s7->N σ7 H7 -> ∃ m,m<n /\ ∃ i σ' H',Inv X pins σ' H' s7/\tn i s7.heap/\(∀ b ∈ fp,H' b=none)/\W i m σ' H':=fun {σ7 H7} I7 n7=>by
    obtain ⟨m',hm,w7⟩:=hN σ7 H7 n7;refine ⟨m',hm,i+1,σ7,H7,I7.unpinned,T.keep _ _ _ st5 fun b hb o e=>(I7.pin (b,o) (Q4 _ (Q4 _ (qgb hb e)))).1,fun b hb=>?_,w7⟩;obtain ⟨o,e,d⟩:=T.obj _ _ st5 b hb;exact (I7.pin (b,o) (Q4 _ (Q4 _ (qgb hb e)))).2.1
   cases f with
   | next=>obtain ⟨σ7,H7,I7,n7⟩:=q7;exact again I7 n7
   | cont=>obtain ⟨σ7,H7,I7,n7⟩:=q7;exact again I7 n7
   | brk=>obtain ⟨σ7,H7,I7,q7⟩:=q7;exact ⟨σ7,H7,I7.unpinned,q7⟩
   | ret v=>obtain ⟨x7,σ7,H7,I7,r7,q7⟩:=q7;exact ⟨x7,σ7,H7,I7.unpinned,r7,q7⟩
end
end
section
abbrev R2:=V->V->Hp->VK->Prop
def OpR (X:Cx) (f:Value->Value->Sem Value) (r:R2):Prop :=
 ∀ (pins:List (Addr×Obj)) (s:Qk) (σ:St) (H:Hp) (x y:V) (v u:Value) (Q:VK),Inv X pins σ H s->RelV x v->RelV y u->r x y H Q ->
  wpAny (model X.prog X.w) X.A (f v u) (EP X pins σ Q) X.xe s
def UnR (X:Cx) (f:Value->Sem Value) (r:V->Hp->VK->Prop):Prop :=
 ∀ (pins:List (Addr×Obj)) (s:Qk) (σ:St) (H:Hp) (x:V) (v:Value) (Q:VK),Inv X pins σ H s->RelV x v->r x H Q ->
  wpAny (model X.prog X.w) X.A (f v) (EP X pins σ Q) X.xe s
def CallR (X:Cx) (f:Value) (r:List V->Hp->VK->Prop):Prop :=
 ∀ (pins:List (Addr×Obj)) (s:Qk) (σ:St) (H:Hp) (xs:List V) (us:List Value) (Q:VK),Inv X pins σ H s->Vals xs us->r xs H Q ->
  wpAny (model X.prog X.w) X.A (call f us) (EP X pins σ Q) X.xe s
def tOp (r:R2) (ta tb:TE):TE:=fun σ H Q=>ta σ H fun x H1=>tb σ H1 fun y H2=>r x y H2 Q
def tUn (r:V->Hp->VK->Prop) (ta:TE):TE:=fun σ H Q=>ta σ H fun x H1=>r x H1 Q
def rI (C:Int->Int->Prop) (g:Int->Int->V):R2:=fun x y H Q => ∃ i j,x = .int i/\y = .int j/\C i j/\Q (g i j) H
def rI0 (g:Int->Int->V):R2:=fun x y H Q => ∃ i j,x = .int i/\y = .int j/\Q (g i j) H
def rU (g:Int->V):V->Hp->VK->Prop:=fun x H Q => ∃ i,x = .int i/\Q (g i) H
section
variable {X:Cx}{a b c:Expr}{ta tb tc:TE}{pos:Pos}
def binT (ha:PE X a ta) (hb:PE X b tb) {pins:List (Addr×Obj)}{s:Qk}{σ:St}{H:Hp}{R:V->V->Hp->Prop} (I:Inv X pins σ H s)
 (h:ta σ H fun x H1=>tb σ H1 fun y H2=>R x y H2) {Q:Value->Qk->Prop}{f:Value->Value->Sem Value}
 (hf : ∀ v u s2 x y H2,Inv X pins σ H2 s2->RelV x v->RelV y u->R x y H2->wpAny (model X.prog X.w) X.A (f v u) Q X.xe s2) :
 wpAny (model X.prog X.w) X.A (eval a X.env) (fun v s₁=>wpAny (model X.prog X.w) X.A (eval b X.env) (fun u s₂=>wpAny (model X.prog X.w) X.A (f v u) Q X.xe s₂) X.xe s₁) X.xe s:=by
  refine thn (ha pins s σ H _ I h) fun v s1 xx26=>?_;obtain ⟨x,H1,I1,r1,q1⟩:=xx26;refine thn (hb pins s1 σ H1 _ I1 q1) fun u s2 xx25=>?_;obtain ⟨y,H2,I2,r2,q2⟩:=xx25;exact hf v u s2 x y H2 I2 r1 r2 q2
def zagw {op:Operator}{r:R2} (ho:OpR X (Vp op) r) (ha:PE X a ta) (hb:PE X b tb):PE X (.BinOp a op b pos) (tOp r ta tb):=by
 intro pins s σ H Q I h;exact wpAny_BinOp (binT ha hb I h fun v u s2 x y H2 I2 rx ry q=>ho pins s2 σ H2 x y v u Q I2 rx ry q)
def zapw {op:UnaryOp}{r:V->Hp->VK->Prop} (ho:UnR X (unaryOp op) r) (ha:PE X a ta):PE X (.UnaryOp op a pos) (tUn r ta):=by
 intro pins s σ H Q I h;exact UnaryOp_ (thn (ha pins s σ H _ I h) fun v s1 xx27=>by obtain ⟨x,H1,I1,r1,q1⟩:=xx27;exact ho pins s1 σ H1 x v Q I1 r1 q1)
def opI {f:Value->Value->Sem Value}{C:Int->Int->Prop}{g:Int->Int->Int}
 (rule : ∀ (i j:Int) (t u:Tok) (s:Qk) (Q:Value->Qk->Prop) (E:Value->Qk->Prop),C i j->Q (.int (g i j) s.toks) { s with toks:=s.toks+1 }->wpAny (model X.prog X.w) X.A (f (.int i t) (.int j u)) Q E s) :
  OpR X f (rI C fun i j => .int (g i j)):=by
  intro pins s σ H x y v u Q I rx ry h;obtain ⟨i,j,rfl,rfl,hc,q⟩:=h;obtain ⟨t,rfl⟩:=rx;obtain ⟨t',rfl⟩:=ry;exact rule i j t t' s _ _ hc ⟨.int (g i j),H,I.tok _,⟨_,rfl⟩,q⟩
def opI0 {f:Value->Value->Sem Value}{g:Int->Int->Int}
 (rule : ∀ (i j:Int) (t u:Tok) (s:Qk) (Q:Value->Qk->Prop) (E:Value->Qk->Prop),Q (.int (g i j) s.toks) { s with toks:=s.toks+1 }->wpAny (model X.prog X.w) X.A (f (.int i t) (.int j u)) Q E s) :
  OpR X f (rI0 fun i j => .int (g i j)):=by
  intro pins s σ H x y v u Q I rx ry h;obtain ⟨i,j,rfl,rfl,q⟩:=h;obtain ⟨t,rfl⟩:=rx;obtain ⟨t',rfl⟩:=ry;exact rule i j t t' s _ _ ⟨.int (g i j),H,I.tok _,⟨_,rfl⟩,q⟩
def opB0 {f:Value->Value->Sem Value}{g:Int->Int->Bool}
 (rule : ∀ (i j:Int) (t u:Tok) (s:Qk) (Q:Value->Qk->Prop) (E:Value->Qk->Prop),Q (.bool (g i j)) s->wpAny (model X.prog X.w) X.A (f (.int i t) (.int j u)) Q E s) :
 OpR X f (rI0 fun i j => .bl (g i j)):=by
  intro pins s σ H x y v u Q I rx ry h;obtain ⟨i,j,rfl,rfl,q⟩:=h;obtain ⟨t,rfl⟩:=rx;obtain ⟨t',rfl⟩:=ry;exact rule i j t t' s _ _ ⟨.bl (g i j),H,I,rfl,q⟩
def CPow (i j:Int):Prop:=0<=j/\j<=1000000/\i.natAbs<2^64
def zamr:OpR X (Vp .Add) (rI0 fun i j => .int (i+j)):=opI0 fun _ _ _ _ _ _ _ q=>add_int q
def zaln:OpR X (Vp .Sub) (rI0 fun i j => .int (i-j)):=opI0 fun _ _ _ _ _ _ _ q=>sub_int q
def zamm:OpR X (Vp .Mod) (rI (fun _ j=>0<j) fun i j => .int (i%j)):=opI fun i j _ _ _ _ _ hc q=>by
 have h1:(0:Int)<j:=hc;exact mod_int' (by omega) (by rw [Int.fmod_eq_emod_of_nonneg i (by omega)];exact q)
def zams:OpR X (Vp .Pow) (rI CPow fun i j => .int (i^j.toNat)):=opI fun _ _ _ _ _ _ _ hc q=>pow_int_small hc.1 hc.2.1 hc.2.2 q
def unI {f:Value->Sem Value}{g:Int->Int}
 (rule : ∀ (i:Int) (t:Tok) (s:Qk) (Q:Value->Qk->Prop) (E:Value->Qk->Prop),Q (.int (g i) s.toks) { s with toks:=s.toks+1 }->wpAny (model X.prog X.w) X.A (f (.int i t)) Q E s) :
  UnR X f (rU fun i => .int (g i)):=by
  intro pins s σ H x v Q I rx h;obtain ⟨i,rfl,q⟩:=h;obtain ⟨t,rfl⟩:=rx;exact rule i t s _ _ ⟨.int (g i),H,I.tok _,⟨_,rfl⟩,q⟩
def zanf:UnR X (unaryOp .USub) (rU fun i => .int (-i)):=unI fun _ _ _ _ _ q=>neg_int q
end
section
variable {X:Cx}{a b c:Expr}{ta tb tc:TE}{pos:Pos}
def zaoe {pins:List (Addr×Obj)}{σ:St}{H:Hp}{s:Qk}{Q:VK}{k k':Bool} (I:Inv X pins σ H s) (q:Q (.bl k) H) (e:k=k'):EP X pins σ Q (.bool k') s:=by
 subst e;exact ⟨.bl k,H,I,rfl,q⟩
def zaqp:OpR X (Yl .Lt) (rI0 fun i j => .bl (decide (i<j))):=opB0 fun _ _ _ _ _ _ _ q=>lt_int q
def zapf:OpR X (Yl .LtE) (rI0 fun i j => .bl (decide (i<=j))):=opB0 fun _ _ _ _ _ _ _ q=>le_int q
def zaqn:OpR X (Yl .Gt) (rI0 fun i j => .bl (decide (j<i))):=opB0 fun _ _ _ _ _ _ _ q=>gt_int q
def zapm:OpR X (Yl .GtE) (rI0 fun i j => .bl (decide (j<=i))):=opB0 fun _ _ _ _ _ _ _ q=>ge_int q
def zaoj:OpR X (Yl .Is) (fun x y H Q=>y = .non/\Q (.bl (decide (x = .non))) H):=by
 intro pins s σ H x y v u Q I rx ry h;obtain ⟨rfl,q⟩:=h;cases ry;refine is_none_gen (zaoe I q ?_);cases x <;> first
  | (cases rx;rfl)
  | (obtain ⟨t,rfl⟩:=rx;rfl)
def qxq (b:Expr) {op:CmpOp} (h:op ≠ .In:=by decide) (h2:op ≠ .NotIn:=by decide):Qag op b=false:=by
 have e1:(op==CmpOp.In)=false:=by cases op <;> first|rfl|exact absurd rfl h
 have e2:(op==CmpOp.NotIn)=false:=by cases op <;> first|rfl|exact absurd rfl h2
 cases b <;> simp [Qag,e1,e2]
def zaip {op:CmpOp}{r:R2} (ho:OpR X (Yl op) r) (ha:PE X a ta) (hb:PE X b tb) (hm:Qag op b=false):PE X (.Compare a [op] [b] pos) (tOp r ta tb):=by
 intro pins s σ H Q I h;exact wpAny_Compare1 (binT ha hb I h fun v u s2 x y H2 I2 rx ry q=>ho pins s2 σ H2 x y v u Q I2 rx ry q) hm
def zakx (t:TE):TT:=fun σ H Q=>t σ H fun x H' => ∃ k,x = .bl k/\Q k H'
def qzl {op:CmpOp}{r:R2} (ho:OpR X (Yl op) r) (ha:PE X a ta) (hb:PE X b tb) (hm:Qag op b=false):PT X (.Compare a [op] [b] pos) (zakx (tOp r ta tb)):=by
 intro pins s σ H Q I h;refine wpAny_isTrue_Compare1 (thn (ha pins s σ H _ I h) fun v s1 ⟨x,H1,I1,r1,q1⟩=>thn (hb pins s1 σ H1 _ I1 q1) fun u s2 ⟨y,H2,I2,r2,q2⟩ =>
  thn (ho pins s2 σ H2 x y v u _ I2 r1 r2 q2) fun c s3 ⟨z,H3,I3,r3,k,e,q3⟩=>?_) hm
 subst e;cases r3;exact Vv ⟨H3,I3,q3⟩
def zafo (r r':R2) (ta tb tc:TE):TE:=fun σ H Q=>ta σ H fun x H1=>tb σ H1 fun y H2=>r x y H2 fun z H3 => ∃ k,z = .bl k /\
 (if k=true then tc σ H3 fun w' H4=>r' y w' H4 Q else Q (.bl false) H3)
def zaev {op op':CmpOp}{r r':R2} (ho:OpR X (Yl op) r) (ho':OpR X (Yl op') r') (ha:PE X a ta) (hb:PE X b tb) (hc:PE X c tc)
 (hm:lastMarks [op,op'] [b,c]=false:=by with_unfolding_all rfl):PT X (.Compare a [op,op'] [b,c] pos) (zakx (zafo r r' ta tb tc)):=by
  intro pins s σ H Q I h;refine isTrue_chain (thn (ha pins s σ H _ I h) fun v s1 ⟨x,H1,I1,r1,q1⟩=>test_link (thn (hb pins s1 σ H1 _ I1 q1) fun u s2 ⟨y,H2,I2,r2,q2⟩ =>
   thn (ho pins s2 σ H2 x y v u _ I2 r1 r2 q2) fun d s3 ⟨z,H3,I3,r3,k,e,q3⟩=>?_)) hm
  subst e;cases r3;refine Vv ?_;cases k with
  | false =>
   obtain ⟨k',e',q'⟩:=q3;cases e';exact ite_ff ⟨H3,I3,q'⟩
  | true =>
   refine ite_tt (test_last (thn (hc pins s3 σ H3 _ I3 q3) fun w' s4 ⟨z',H4,I4,r4,q4⟩=>thn (ho' pins s4 σ H4 y z' u w' _ I4 r2 r4 q4) fun d' s5 xx31=>?_));obtain ⟨z2,H5,I5,r5,k2,e2,q5⟩:=xx31;subst e2;cases r5;exact Vv ⟨H5,I5,q5⟩
def qpm:(Zb:Nat)<2^63:=by rw [Z0];decide
def qwd:OpR X (Vp .Add) (fun x y H Q => ∃ i j,x = .str i/\y = .str j/\i.length+j.length<=Zb/\Q (.str (i++j)) H):=by
 intro pins s σ H x y v u Q I rx ry h;obtain ⟨i,j,rfl,rfl,hz,q⟩:=h;obtain ⟨t,rfl⟩:=rx;obtain ⟨t',rfl⟩:=ry;exact add_str (fun t' tk=>⟨.str (i++j),H,I.tok _,⟨_,rfl⟩,q⟩) hz
def qlq {x:V}{us:List Value} (r:Vals [x] us) : ∃ u,us=[u]/\RelV x u:=by
 cases r with
 | cons r1 r2=>cases r2;exact ⟨_,rfl,r1⟩
def zacl {x y:V}{us:List Value} (r:Vals [x,y] us) : ∃ u w',us=[u,w']/\RelV x u/\RelV y w':=by
 cases r with
 | cons r1 r2 =>
  cases r2 with
  | cons r3 r4=>cases r4;exact ⟨_,_,rfl,r1,r3⟩
def zafc:CallR X (.builtin "abs") (fun xs H Q => ∃ i,xs=[.int i]/\Q (.int (if i<0 then -i else i)) H):=by
 intro pins s σ H xs us Q I r h;obtain ⟨i,rfl,q⟩:=h;obtain ⟨u,rfl,t,rfl⟩:=qlq r;exact call_abs_int fun u tk=>⟨.int (if i<0 then -i else i),H,I.tok _,⟨_,rfl⟩,q⟩
def zaaw (hc:X.calm=true):CallR X (.builtin "max") (fun xs H Q => ∃ i j,xs=[.int i,.int j]/\Q (.int (if j>i then j else i)) H):=by
 intro pins s σ H xs us Q I r h;obtain ⟨i,j,rfl,q⟩:=h;obtain ⟨u,w',rfl,⟨t,rfl⟩,⟨t',rfl⟩⟩:=zacl r;refine max_two_ints (I.ok.hd hc) fun h' tk k=>⟨_,H,I.kept k,?_,q⟩
 by_cases hj:j>i
 ·rw [if_pos hj,if_pos hj];exact ⟨_,rfl⟩
 ·rw [if_neg hj,if_neg hj];exact ⟨_,rfl⟩
def zaag (hc:X.calm=true):CallR X (.builtin "min") (fun xs H Q => ∃ i j,xs=[.int i,.int j]/\Q (.int (if j<i then j else i)) H):=by
 intro pins s σ H xs us Q I r h;obtain ⟨i,j,rfl,q⟩:=h;obtain ⟨u,w',rfl,⟨t,rfl⟩,⟨t',rfl⟩⟩:=zacl r;refine min_two_ints (I.ok.hd hc) fun h' tk k=>⟨_,H,I.kept k,?_,q⟩
 by_cases hj:j<i
 ·rw [if_pos hj,if_pos hj];exact ⟨_,rfl⟩
 ·rw [if_neg hj,if_neg hj];exact ⟨_,rfl⟩
end
end
section
section
variable {prog:Zi}{w:World}{A:Zw}{E:Value->Qk->Prop}{s:Qk}{K:Qd}{x dx C f:Addr}{mA:Str->Option Value}{name:Str}{v:Value}
end
section
variable {P:Zi}{w:World}{H H':Hp}{h h':Heap}{a C dx:Addr}{fs fs':List (Str×V)}
end
section
variable {X:Cx}{pins:List (Addr×Obj)}{σ:St}{H:Hp}{s:Qk}{a C dx:Addr}{fs:List (Str×V)}{f:Str}{v:V}{A:Zw}{E:Value->Qk->Prop}
end
section
variable {X:Cx}{o e value:Expr}{f:Str}{pos pos' tpos:Pos}{ta tv:TE}
end
section
variable {X:Cx}{pins:List (Addr×Obj)}{σ:St}{H:Hp}{s:Qk}{A:Zw}{E:Value->Qk->Prop}{Q:Value->Qk->Prop}{c:Value}{b:Bool}
end
end
section
structure Room (k:Nat) (A:Zw):Prop where
 hd:A.handled=none
 dp:A.depth+3*k+5<Vk
 un:A.units+16*k+200<cLine
def Room.mono {j k:Nat}{A:Zw} (r:Room k A) (h:j<=k):Room j A:=⟨r.hd,by have:=r.dp;omega,by have:=r.un;omega⟩
def Room.deeper {k:Nat}{A:Zw} (r:Room (k+1) A) (env:Env):Room k (A.deeper env) :=
 ⟨r.hd,by have:=r.dp;show A.depth+1+3*k+5<_;omega,by have:=r.un;show A.units+3+16*k+200<_;omega⟩
def Room.depth {k:Nat}{A:Zw} (r:Room k A):A.depth<Vk:=by have:=r.dp;omega
def Room.units {k:Nat}{A:Zw} (r:Room k A):A.units+64<cLine:=by have:=r.un;omega
def tNil:TA:=fun _ H Q=>Q [] H
def zagt (ta:TE) (tr:TA):TA:=fun σ H Q=>ta σ H fun x H1=>tr σ H1 fun xs H2=>Q (x::xs) H2
section
variable {X:Cx}{e:Expr}{es:List Expr}{te:TE}{t:TA}{pos:Pos}
def qeu:PA X [] tNil:=fun _ _ _ _ H Q I h=>Qbt ⟨[],H,I,.nil,h⟩
def qav (ha:PE X e te) (hr:PA X es t) (hs:Qu (e::es) X.env=(false,eval e X.env)::Qu es X.env:=by rfl):PA X (e::es) (zagt te t):=by
 intro pos pins s σ H Q I h;rw [hs];show wpAny _ _ (spliced ((false,eval e X.env)::Ja pos (Qu es X.env))) _ _ s;refine J3 (thn (ha pins s σ H _ I h) fun u s1 xx37=>?_);obtain ⟨x,H1,I1,r1,q1⟩:=xx37;exact thn (hr pos pins s1 σ H1 _ I1 q1) fun us s2 xx36=>by obtain ⟨xs,H2,I2,r2,q2⟩:=xx36;exact ⟨x::xs,H2,I2,.cons r1 r2,q2⟩
def tTup (t:TA):TE:=fun σ H Q=>t σ H fun xs H1=>xs.length<=Zb /\ ∀ p,H1 p=none->Q (.ref p) (upd H1 p (.tup xs))
def tLst (t:TA):TE:=fun σ H Q=>t σ H fun xs H1=>xs.length<=Zb /\ ∀ p,H1 p=none->Q (.ref p) (upd H1 p (.lst xs))
def zanr {x1} (h:PA X es t):PE X (.Tuple es x1 pos) (tTup t):=by
 intro pins s σ H Q I hq;refine wpAny_Tuple_spliced (thn (h pos pins s σ H _ I hq) fun us s1 ⟨xs,H1,I1,r,z,q⟩=>⟨by rw [<- r.length];exact z,?_⟩);have hf:H1 s1.heap.objs.size=none:=I1.hok.fresh (Qr _);refine ⟨.ref s1.heap.objs.size,upd H1 s1.heap.objs.size (.tup xs),I1.laid (t':=s1.toks) (fun b u e=>Qo _ e) (Qr _) ?_,rfl,q _ hf⟩;exact ⟨z,us,r,⟨_,Q8 _ rfl,rfl,_,rfl⟩⟩
def zafn (h:PA X es t):PE X (.List es pos) (tLst t):=by
 intro pins s σ H Q I hq;refine wpAny_List_spliced (thn (h pos pins s σ H _ I hq) fun us s1 ⟨xs,H1,I1,r,z,q⟩=>⟨by rw [<- r.length];exact z,?_⟩);have hf:H1 s1.heap.objs.size=none:=I1.hok.fresh (Qr _);refine ⟨.ref s1.heap.objs.size,upd H1 s1.heap.objs.size (.lst xs),I1.laid (t':=s1.toks) (fun b u e=>Qo _ e) (Qr _) ?_,rfl,q _ hf⟩;exact ⟨z,us,0,r,Q8 _ rfl⟩
end
abbrev Sp:=List V->Hp->VK->XK->Prop
abbrev CXT:=List Env->Hp->Qk->XK->Value->Qk->Prop
structure Env0 (P:Zi) (w:World) (K:Qd) (mg:Str->Option Value) (base:Heap) (A:Zw) (outer:List Env) (s:Qk) (H:Hp):Prop where
 frames:A.frames=some outer
 mod:Mod K mg base
 bs : ∀ b o,base.get? b=some o->s.heap.get? b=some o/\H b=none
 bsz:base.objs.size<=s.heap.objs.size
 funs:s.heap.FunFrames base outer
 frf : ∀ b ∈ frs outer,H b=none
 hok:HOk P w H s.heap
 bare:Qdw s.gens
def CE (outer:List Env) (P:Zi) (w:World) (H:Hp) (s:Qk) (Q:VK) (u:Value) (s':Qk):Prop :=
 ∃ v H',s'.os=s.os/\Qdw s'.gens/\Un (frs outer) [] H H' s.heap s'.heap/\HOk P w H' s'.heap/\RelV v u/\Q v H'
def CR (CX:CXT) (outer:List Env) (P:Zi) (w:World) (H:Hp) (s:Qk) (Q:VK) (E:XK) (r:Result) (s':Qk):Prop :=
 match r with
 | .ok (.ret u)=>CE outer P w H s Q u s'
 | .ok _=>False
 | .error e=>CX outer H s E e s'
structure FnOk (P:Zi) (w:World) (K:Qd) (mg:Str->Option Value) (base:Heap) (CX:CXT) (k:Nat) (f:Addr) (fd:Vy) (ps:List Str) (sp:Sp):Prop where
 len : ∀ vs H Q E,sp vs H Q E->vs.length=ps.length
 run : ∀ (A:Zw) (outer:List Env) (s:Qk) (H:Hp) (args:Args) (us:List Value) (vs:List V) (Q:VK) (E:XK),Room k A->Env0 P w K mg base A outer s H->Qhz s fd args (ps.zip us)->Vals vs us->sp vs H Q E ->
  Qbz (model P w) A (.call (.ref f) args) (CR CX outer P w H s Q E) s
section
variable {X:Cx}{pins:List (Addr×Obj)}{σ:St}{H:Hp}{s s':Qk}
def Inv.env0 (I:Inv X pins σ H s):Env0 X.prog X.w X.K X.mg X.base X.A X.stack s H :=
 ⟨I.ok.frames,I.ok.mod,I.bs,Zr I.ok.bsz I.sz,I.stack,I.stkFree,I.hok,I.bare⟩
def Inv.after {Q:VK}{u:Value} (I:Inv X pins σ H s) (h:CE X.stack X.prog X.w H s Q u s'):EP X pins σ Q u s':=by
 obtain ⟨v,H',os,bare,un,hok,r,q⟩:=h;obtain ⟨hh,g,d,t,os'⟩:=s';obtain rfl:os'=s.os:=os;exact ⟨v,H',I.call (h':=hh) (g':=g) (d':=d) (t':=t) (ch:=[]) un hok bare (fun b z=>absurd z (by simp)),r,q⟩
end
def qpz (sp:Sp) (dvs:List V) (E:XK) (t:TA):TE:=fun σ H Q=>t σ H fun vs H1=>sp (vs++dvs) H1 Q E
def Binds (K:Qd) (fd:Vy) (ps:List Str) (ds:List Value):Prop :=
 ∀ (s:Qk) (us:List Value),K.In s.heap->(us++ds).length=ps.length->Qhz s fd ⟨us,[]⟩ (ps.zip (us++ds))
def Binds.all {K:Qd}{fd:Vy}{ps:List Str} (h : ∀ us:List Value,us.length=ps.length->Qcx fd ⟨us,[]⟩=pure (ps.zip us)):Binds K fd ps []:=fun s us _ hl=>by
 rw [Y3] at hl ⊢;exact .of_eq (h us hl)
def qxs (CX:CXT) (X:Cx) (E:XK):Prop := ∀ (pins:List (Addr×Obj)) (σ:St) (H:Hp) (s:Qk) (e:Value) (s':Qk),Inv X pins σ H s->CX X.stack H s E e s'->X.xe e s'
section
variable {X:Cx}{CX:CXT}{k:Nat}{f C:Addr}{fd:Vy}{ps:List Str}{sp:Sp}{dvs:List V}{ds:List Value}{E:XK}{x m:Str}{p pos apos:Pos}{e o:Expr}{es:List Expr}{ta:TE}{t:TA}
def zalz {pins:List (Addr×Obj)}{σ:St}{H:Hp}{s:Qk}{Q:VK}{us:List Value}{vs:List V} (F:FnOk X.prog X.w X.K X.mg X.base CX k f fd ps sp) (hr:Room k X.A) (hb:Binds X.K fd ps ds) (hd:Vals dvs ds) (hx:qxs CX X E)
 (I:Inv X pins σ H s) (r:Vals vs us) (h:sp (vs++dvs) H Q E):wpAny (model X.prog X.w) X.A (call (.ref f) us) (EP X pins σ Q) X.xe s:=by
  have r2:Vals (vs++dvs) (us++ds):=r.append hd;have hl:(us++ds).length=ps.length:=by rw [<- r2.length];exact F.len _ _ _ _ h
  refine Qic (Qcg (F.run X.A X.stack s H ⟨us,[]⟩ (us++ds) (vs++dvs) Q E hr I.env0 (hb s us I.kIn hl) r2 h) fun r s' hq=>?_);cases r with
  | error e=>exact hx pins σ H s e s' I hq
  | ok fl =>
   cases fl with
   | ret u=>exact I.after hq
   | next=>exact Zc hq
   | brk=>exact Zc hq
   | cont=>exact Zc hq
end
section
variable {X:Cx}{CX:CXT}{k:Nat}{f C:Addr}{fd:Vy}{ps ks:List Str}{sp:Sp}{E:XK}{x m:Str}{p pos apos kpos:Pos}{e o:Expr}{es:List Expr}{kws:List Qdx}{te ta:TE}{t tk:TA}{nm:Option Str}
variable {g:List Value->List Value->List Value}{gV:List V->List V->List V}
end
structure FnScope (N P:List Str) (sc:Scope):Prop where
 kind:sc.kind = .function
 co:sc.isCoroutine=false
 gen:sc.isGenerator=false
 nd:N.Nodup
 pre:N.take P.length=P
 par : ∀ x ∈ P,sc.names.lookup x=some .local\/sc.names.lookup x=some .cell
 nofree : ∀ y ∈ sc.names,y.2 ≠ .free
def qrh {Qef:Str->Option Jr}{x:Str} : ∀ {binds:List (Str×Value)}{m:Str->Option Value},(∀ v,(x,v) ∉ binds)->bindL Qef binds m x=m x
 | [],_,_=>rfl
 | (n,v)::r,m,h=>by
  unfold bindL;rw [qrh fun w hw=>h w (Qm _ hw)];split
  ·have:x≠n:=by rintro rfl;exact h v J0
   simp [this]
  ·rfl
def qqc {Qef:Str->Option Jr}{x:Str} : ∀ {binds:List (Str×Value)}{m:Str->Option Value},(∀ v,(x,v) ∉ binds)->bindC Qef binds m x=m x
 | [],_,_=>rfl
 | (n,v)::r,m,h=>by
  unfold bindC;rw [qqc fun w hw=>h w (Qm _ hw)];split
  ·rfl
  ·have:x≠n:=by rintro rfl;exact h v J0
   simp [this]
def qql {Qef:Str->Option Jr}{x:Str}{v:Value} : ∀ {P:List Str}{vs:List Value}{i:Nat}{m:Str->Option Value},P.Nodup->P[i]?=some x->vs[i]?=some v->Qef x=some .local ->
 bindL Qef (P.zip vs) m x=some v
  | [],_,_,_,_,h,_,_=>by simp at h
  | _::_,[],_,_,_,_,h,_=>by simp at h
  | p::P,w::vs,0,m,nd,h1,h2,hk=>by
   simp at h1 h2;subst h1;subst h2;show bindL Qef ((p,w)::P.zip vs) m p=_;unfold bindL;rw [qrh fun v hv=>(Jc.mp nd).1 (Qfc hv).1,if_pos hk];simp
  | p::P,w::vs,i+1,m,nd,h1,h2,hk=>by
   show bindL Qef ((p,w)::P.zip vs) m x=_;unfold bindL;exact qql (i:=i) (Jc.mp nd).2 (by simpa using h1) (by simpa using h2) hk
def qrf {Qef:Str->Option Jr}{x:Str}{v:Value} : ∀ {P:List Str}{vs:List Value}{i:Nat}{m:Str->Option Value},P.Nodup->P[i]?=some x->vs[i]?=some v->Qef x≠some .local ->
 bindC Qef (P.zip vs) m x=some v
  | [],_,_,_,_,h,_,_=>by simp at h
  | _::_,[],_,_,_,_,h,_=>by simp at h
  | p::P,w::vs,0,m,nd,h1,h2,hk=>by
   simp at h1 h2;subst h1;subst h2;show bindC Qef ((p,w)::P.zip vs) m p=_;unfold bindC;rw [qqc fun v hv=>(Jc.mp nd).1 (Qfc hv).1,if_neg hk];simp
  | p::P,w::vs,i+1,m,nd,h1,h2,hk=>by
   show bindC Qef ((p,w)::P.zip vs) m x=_;unfold bindC;exact qrf (i:=i) (Jc.mp nd).2 (by simpa using h1) (by simpa using h2) hk
def start (N:List Str) (vs:List V):St:=vs.map some++Zn (N.length-vs.length) none
def qei (CX:CXT) (P:Zi) (w:World) (K:Qd) (mg:Str->Option Value) (base:Heap) (N:List Str) (qual:Str) (scope:Scope) (f:Addr) (cd:Value) (A:Zw) (outer:List Env) (s:Qk) (H:Hp) (E:XK):Cx where
 prog:=P
 w:=w
 K:=K
 mg:=mg
 base:=base
 A:=A.deeper (Qch qual scope s.heap.objs.size f cd)
 N:=N
 s₀:=s
 H₀:=H
 env:=Qch qual scope s.heap.objs.size f cd
 outer:=outer
 stack:=Qch qual scope s.heap.objs.size f cd::outer
 ex:=[]
 calm:=true
 fn:=fun _=>true
 pn:=[]
 xe:=fun e s'=>wpAny (model P w) (A.deeper (Qch qual scope s.heap.objs.size f cd)) (leaving (Qch qual scope s.heap.objs.size f cd) e) (fun _ s''=>CX outer H s E e s'') (fun e' s''=>CX outer H s E e' s'') s'
def qve {sc:Scope}{n:Nat}{x:Str} (h:sc.names.lookup x=some .cell) : ∃ c,(Vn n sc.names []).lookup x=some c:=by
 have q:=Qbo sc.names n [] (.inl h);exact Jd.mp q
def zaaf {CX:CXT}{P:Zi}{w:World}{K:Qd}{mg:Str->Option Value}{base:Heap}{N ps:List Str}{qual:Str}{scope:Scope}{f:Addr}{cd:Value}{A:Zw}{outer:List Env}{s s1:Qk}{H:Hp}{E:XK}{us:List Value}{vs:List V}
 (S:FnScope N ps scope) (hd:A.handled=none) (e0:Env0 P w K mg base A outer s H) (hl:vs.length=ps.length) (r:Vals vs us)
 (x:InCallC s s.heap.objs.size (bindL (Qch qual scope s.heap.objs.size f cd).kindOf (ps.zip us) fun _=>none) (Vn (s.heap.objs.size+1) scope.names []) (bindC (Qch qual scope s.heap.objs.size f cd).kindOf (ps.zip us) fun _=>none) s1) :
 Inv (qei CX P w K mg base N qual scope f cd A outer s H E) [] (start N vs) H s1:=by
  have hpl:ps.length<=N.length:=by have:=congrArg Qeh S.pre;rw [Qaq] at this;omega
  obtain ⟨h1,tk,rfl,hk⟩:=x.done;have noA : ∀ b:Addr,b ∉ (qei CX P w K mg base N qual scope f cd A outer s H E).ex:=fun b z=>absurd (show b ∈ ([]:List Addr) from z) (by simp);refine ⟨⟨e0.mod,S.kind,rfl,rfl,Qr _,fun y z c h1 h2=>?_,fun y hy=>?_,fun y c _ h=>?_,fun _=>hd,Qcp e0.frames,.inr ⟨rfl,rfl⟩,fun b z=>absurd z (noA b),e0.bs,e0.bsz,fun b _ _=>noA b,fun b z=>absurd z (noA b),e0.funs,e0.frf⟩,
   rfl,e0.bare,Un.kept hk,⟨_,x.toInCall.ns,fun i y v h1 h2 h3=>?_⟩,fun y c h=>⟨_,x.cell y c h⟩,e0.hok.fresh (Qr _),fun y c h=>?_,fun p hp=>absurd (show p ∈ ([]:List (Addr×Obj)) from hp) (by simp),e0.hok.kept hk,?_⟩
  ·exact name_of_addr x.apart (Ve h1) (Ve h2)
  ·have hy:scope.names.lookup y=some .cell\/scope.names.lookup y=some .free:=hy;rcases hy with hy|hy
   ·exact qve hy
   ·exact absurd rfl (S.nofree _ (Ve hy))
  ·exact Yi (x.above y c (Ve h))
  ·have hi:i<vs.length:=by
    unfold start at h2;by_cases hi:i<vs.length
    ·exact hi
    ·rw [Qdh (by simpa using hi)] at h2;rw [Qei] at h2;split at h2 <;> cases h2
   have ha:vs[i]?=some v:=by
    unfold start at h2;rw [Yv (by simpa using hi),Qa] at h2;cases e:vs[i]? with
    | none=>rw [e] at h2;cases h2
    | some a=>rw [e] at h2;cases h2;rfl
   obtain ⟨u,hu,rv⟩:=r.get ha;have hp:ps[i]?=some y:=by
    rw [<- S.pre,List.getElem?_take_of_lt (by omega)];exact h1
   have ndP:ps.Nodup:=by rw [<- S.pre];exact S.nd.sublist (List.take_sublist _ _)
   refine ⟨u,rv,?_⟩;rcases S.par y (Qf hp) with k|k
   ·exact .inl ⟨k,qql ndP hp hu k⟩
   ·obtain ⟨c,e⟩:=qve (n:=s.heap.objs.size+1) k;refine .inr ⟨.inl k,c,e,?_⟩;have q:=x.cell y c e;rw [qrf ndP hp hu (by show scope.names.lookup y≠_;rw [k];decide)] at q;exact q
  ·exact e0.hok.fresh (Yi (x.above y c (Ve h)))
  ·unfold start;show _=N.length;rw [Yk,Qe,Qcd];omega
def zags {CX:CXT}{P:Zi}{w:World}{K:Qd}{mg:Str->Option Value}{base:Heap}{k:Nat}{f:Addr}{name qual:Str}{params:Qcf}{body:List Stmt}{scope:Scope}{dV kV doc pm cdv ct oc:Value}{an od:Option Addr}
 {osl:Array (Option Value)}{N ps:List Str}{sp:Sp} (lk:K.lookup f=some ⟨oc,od,.func (Ys name qual params body scope dV kV doc pm an cdv ct),osl⟩) (hcd:V8 K cdv qual=true) (S:FnScope N ps scope)
 (len : ∀ vs H Q E,sp vs H Q E->vs.length=ps.length)
 (hbody : ∀ (A:Zw) (outer:List Env) (s:Qk) (H:Hp) (vs:List V) (Q:VK) (E:XK),Room k (A.deeper (Qch qual scope s.heap.objs.size f cdv))->sp vs H Q E ->
 ∃ t,PSs (qei CX P w K mg base N qual scope f cdv A outer s H E) body t/\t { nx:=fun _ H'=>Q .non H',rt:=Q } (start N vs) H) :
  FnOk P w K mg base CX (k+1) f (Ys name qual params body scope dV kV doc pm an cdv ct) ps sp:=by
  refine ⟨len,fun A outer s H args us vs Q E hr e0 hb r hsp=>?_⟩;have hl:=len _ _ _ _ hsp;have KX:K.In s.heap:=e0.mod.kin.keeps fun b o e=>(e0.bs b o e).1;have lim:s.heap.NoLimit:=e0.mod.nolimit.keeps fun b o e=>(e0.bs b o e).1;have hkind : ∀ y ∈ ps.zip us,scope.names.lookup y.1=some .local\/(scope.names.lookup y.1=some .cell/\((Vn (s.heap.objs.size+1) scope.names []).lookup y.1).isSome=true):=fun xx40 hy=>by
   obtain ⟨n,v⟩:=xx40;rcases S.par n (Qfc hy).1 with q|q
   ·exact .inl q
   ·exact .inr ⟨q,Qbo _ _ _ (.inl q)⟩
  refine codeAny_call_function hr.depth (KX _ _ lk) rfl S.co S.gen rfl (PySem.W.codeRec_of KX hcd) (hb _ _ _ _ ?_);refine wpAny_newFunctionEnv_cells S.kind hkind fun env he s1 x=>?_;subst he;refine ⟨lim.keeps x.toInCall.keep,codeAny_func ?_⟩;obtain ⟨t,ht,hq⟩:=hbody A outer s H vs Q E (hr.deeper _) hsp;have I:Inv (qei CX P w K mg base N qual scope f cdv A outer s H E) [] (start N vs) H s1:=zaaf S hr.hd e0 hl r x;refine Z4 (ht [] s1 (start N vs) H _ I hq) (fun fl s' hs=>?_) fun e s' hs=>hs;have fin : ∀ {σ':St}{H':Hp}{v:V}{u:Value},Inv (qei CX P w K mg base N qual scope f cdv A outer s H E) [] σ' H' s'->RelV v u->Q v H'->CE outer P w H s Q u s' :=
   fun {σ' H' v u} J rv q=>⟨v,H',J.os,J.bare,J.base,J.hok,rv,q⟩
  cases fl with
  | ret u =>
   obtain ⟨v,σ',H',J,rv,q⟩:=hs;exact fin J rv q
  | next =>
   obtain ⟨σ',H',J,q⟩:=hs;exact fin (v:=V.non) (u:=Jb) J rfl q
  | brk =>
   obtain ⟨_,_,_,q⟩:=hs;exact Zc q
  | cont =>
   obtain ⟨_,_,_,q⟩:=hs;exact Zc q
end
section
section
variable {X:Cx}{x:Str}{p pos:Pos}{e:Expr}{es:List Expr}{t:TA}{id T:String}{r:List V->Hp->VK->Prop}
def tCB (r:List V->Hp->VK->Prop) (t:TA):TE:=fun σ H Q=>t σ H fun vs H1=>r vs H1 Q
def qju (hc:CallR X (.builtin id) r) (hg:Gl X x) (hm:X.mg x=none) (hv:Zv x=some (.builtin id)) (ha:PA X (e::es) t) (hn:x ≠ "__name__":=by decide) (hdb:Nd0 x:=by decide)
 (he:Qu (e::es) X.env=(false,eval e X.env)::Qu es X.env:=by rfl) (hpl:(Ja pos (Qu es X.env)).any (·.1)=false:=by rfl):PE X (.Call (.Name x p) (e::es) [] pos) (tCB r t):=by
 intro pins s σ H Q I h;refine V6 (qgk I hg hm hv ?_ hn hdb);exact PyProof.Rows.callWith_builtin1 (thn (ha pos pins s σ H _ I h) fun us s1 xx41=>by obtain ⟨vs,H1,I1,r1,q1⟩:=xx41;exact hc pins s1 σ H1 vs us Q I1 r1 q1) he hpl
def qko (hc:CallR X (.type T) r) (hg:Gl X x) (hm:X.mg x=none) (hv:Zv x=some (.type T)) (ha:PA X (e::es) t) (hn:x ≠ "__name__":=by decide) (hdb:Nd0 x:=by decide)
 (he:Qu (e::es) X.env=(false,eval e X.env)::Qu es X.env:=by rfl) (hpl:(Ja pos (Qu es X.env)).any (·.1)=false:=by rfl):PE X (.Call (.Name x p) (e::es) [] pos) (tCB r t):=by
 intro pins s σ H Q I h;refine V6 (qgk I hg hm hv ?_ hn hdb);exact Y2 (thn (ha pos pins s σ H _ I h) fun us s1 xx42=>by obtain ⟨vs,H1,I1,r1,q1⟩:=xx42;exact hc pins s1 σ H1 vs us Q I1 r1 q1) he hpl
end
end
end L2
namespace HT
open PySem PyProof.Rows
section
open PySem.SeqAt
open PySem.AutoSeq1 (wpAny_loadPart')
open PySem.MeetsSeq PySem.MeetsSeq2 PySem.MeetsSeq3
end
section
variable {prog:Zi}{w:World}{A:Zw}{E:Value->Qk->Prop}{s:Qk}
def cat_tup {t b:Addr}{vs ws:List Value}{Q:Value->Qk->Prop} (ht:IsTup s.heap t vs.toArray) (hb:IsTup s.heap b ws.toArray) (hv:vs≠[])
 (h1:ws=[]->Q (.ref t) s) (h2:ws≠[]->Q (.ref s.heap.objs.size) { s with heap:=s.heap.push { cls :=.type "tuple",data :=.seq (vs++ws).toArray } })
  (hsz:vs.length+ws.length<=Zb):wpAny (model prog w) A (Vp .Add (.ref t) (.ref b)) Q E s:=by
  obtain ⟨⟨cls,dd,data,sl⟩,ho,hc,n,hd⟩:=id ht;obtain ⟨⟨cls2,dd2,data2,sl2⟩,ho2,hc2,n2,hd2⟩:=id hb;simp only at hc hd hc2 hd2;subst hc hd hc2 hd2;have e:vs.toArray++ws.toArray=(vs++ws).toArray:=by simp
  by_cases hw:ws=[]
  ·exact Qij ⟨_,ho,rfl⟩ ⟨_,ho2,rfl⟩ noFill_tuple_add seq_tuple_add Qex Qej (Qea _ _)
    (tuple_addW1 t b vs.toArray ws.toArray n n2 dd dd2 sl sl2 (by simpa using hv) (by simp [hw])) ⟨ho,ho2,h1 hw⟩
  ·refine Qij ⟨_,ho,rfl⟩ ⟨_,ho2,rfl⟩ noFill_tuple_add seq_tuple_add Qex Qej (Qea _ _)
    (tuple_addW2 t b vs.toArray ws.toArray n n2 dd dd2 sl sl2 (by simpa using hv) (by simpa using hw) (by rw [Qz,Qz];exact hsz)) ⟨ho,ho2,?_⟩
   rw [e];exact h2 hw
def sIx (n d:Nat):Option Int->Nat
 | none=>d
 | some v=>if v<0 then (v+(n:Int)).toNat else min v.toNat n
def sIx_none (n d:Nat):sIx n d none=d:=rfl
def zami (n d:Nat) (hd:d<=n) (o:Option Int):sIx n d o<=n:=by
 cases o with
 | none=>exact hd
 | some v =>
  show (if v<0 then (v+(n:Int)).toNat else min v.toNat n)<=n;by_cases hv:v<0
  ·rw [if_pos hv];omega
  ·rw [if_neg hv];exact Nat.min_le_right _ _
def qyi (v:Int) (n d:Nat):(if v<0 then max (v+(n:Int)) 0 else min v (n:Int))=((sIx n d (some v):Nat):Int):=by
 show (if v<0 then max (v+(n:Int)) 0 else min v (n:Int))=(((if v<0 then (v+(n:Int)).toNat else min v.toNat n):Nat):Int);by_cases hv:v<0
 ·simp only [if_pos hv];omega
 ·simp only [if_neg hv];omega
def qxi (lo hi:Option Int) (n:Nat):Qak lo hi 1 (n:Int)=(((sIx n 0 lo:Nat):Int),((sIx n n hi:Nat):Int)):=by
 have h1 : ¬ ((1:Int)<0):=by omega
 unfold Qak;simp only [h1,if_false];refine Prod.ext ?_ ?_
 ·cases lo with
  | none=>rfl
  | some v=>exact qyi v n 0
 ·cases hi with
  | none=>rfl
  | some v=>exact qyi v n n
def qws (i j:Nat):V9 (i:Int) (j:Int) 1=j-i:=by
 unfold V9;have h1:(1:Int)>0:=by omega
 simp only [h1,if_true,Int.ediv_one];split <;> omega
def qmx {v:Value}{o:Option Int}{Q:Option Int->Qk->Prop} (p:Qhg v o) (h:Q o s):wpAny (model prog w) A (Qis v) Q E s:=by
 cases p with
 | none=>exact slicePart_none h
 | int i t=>exact slicePart_int h
def sliceApplied_gen {sl:Addr}{vl vu:Value}{lo hi:Option Int}{n:Nat}{Q:Int×Int×Nat->Qk->Prop} (hs:s.heap.IsSliceOf sl vl vu .none) (pl:Qhg vl lo) (pu:Qhg vu hi)
 (h:Q (((sIx n 0 lo:Nat):Int),1,sIx n n hi-sIx n 0 lo) s):wpAny (model prog w) A (Qdi (.ref sl) (pure (n:Int))) Q E s:=by
  obtain ⟨os,hos,hcs,hds⟩:=id hs;unfold Qdi Qjj;refine Qj (Qj (Qet hos hds (x:=vl) rfl (Qj (Qet hos hds (x:=vu) rfl (Qj (Qet hos hds (x :=.none) rfl (Q1 ?_)))))));refine Qj (slicePart_none ?_);show wpAny _ _ (if ((1:Int)==0)=true then _ else _) _ _ s;rw [if_neg (by decide)];refine Qj (qmx pl (Qj (qmx pu (Qj (Q1 ?_)))));show wpAny _ _ (match Qak lo hi 1 (n:Int) with|(lo,hi)=>pure (lo,(1:Int),V9 lo hi 1)) _ _ s;rw [qxi lo hi n];show wpAny _ _ (pure (((sIx n 0 lo:Nat):Int),(1:Int),V9 ((sIx n 0 lo:Nat):Int) ((sIx n n hi:Nat):Int) 1)) _ _ s;rw [qws];exact Q1 h
def zacx (xs:Array Value) (i k:Nat):((Qx k).filterMap fun (m:Nat)=>xs[((i:Int)+(m:Int)*1).toNat]?).toArray=((xs.toList.drop i).take k).toArray:=by
 have e:(fun (m:Nat)=>xs[((i:Int)+(m:Int)*1).toNat]?)=fun m=>xs[i+m]?:=by
  funext m
  have:((i:Int)+(m:Int)*1).toNat=i+m:=by omega
  rw [this]
 rw [e];have:=pick_run xs i k;rw [List.filterMap_map] at this;have e2:((fun x=>xs[x]?) ∘ fun x=>i+x)=fun m=>xs[i+m]?:=rfl;rw [e2] at this;rw [this]
def getItem_tuple_cut {t sl:Addr}{items:Array Value}{vl vu:Value}{lo hi:Option Int}{Q:Value->Qk->Prop} (ht:IsTup s.heap t items) (hs:s.heap.IsSliceOf sl vl vu .none) (pl:Qhg vl lo) (pu:Qhg vu hi)
 (hw : ¬ (sIx items.size 0 lo=0/\sIx items.size items.size hi=items.size))
 (h:Q (.ref s.heap.objs.size) { s with heap:=s.heap.push { cls :=.type "tuple",data :=.seq ((items.toList.drop (sIx items.size 0 lo)).take (sIx items.size items.size hi-sIx items.size 0 lo)).toArray } })
  (hsz:items.size<=Zb):wpAny (model prog w) A (Qib (.ref t) (.ref sl)) Q E s:=by
  have htake:sizeOk (.seq ((items.toList.drop (sIx items.size 0 lo)).take (sIx items.size items.size hi-sIx items.size 0 lo)).toArray):=by
   show ((items.toList.drop (sIx items.size 0 lo)).take (sIx items.size items.size hi-sIx items.size 0 lo)).toArray.size<=Zb;rw [Qz,Qaq,Qcj,Zf];omega
  have hj:sIx items.size items.size hi<=items.size:=zami _ _ (Qr _) hi;obtain ⟨os,hos,hcs,hds⟩:=id hs;have hTs:s.TypeIs (.ref sl) "slice":=⟨os,hos,hcs⟩
  unfold Qib
  try with_reducible refine Qbm ?_
  first|refine Qj (Q1 ?_)|skip
  refine Qj (wpAny_sequenceKey ht.typeIs (by decide) ?_);refine Qj (Js (name:=Qq "__getitem__") ht.typeIs Ya
   (V0 Ya ht.typeIs entry_tuple_getitem ?_ (args_tuple_getitem _ _)))
  show wpAny _ _ (Qdj (.ref t) >>= _) _ _ s;refine Qj (tupleItemsOf_ ht ?_);refine Qj (Qil hTs ?_);rw [if_pos (by decide)];refine Qj (sliceApplied_gen hs pl pu ?_);have hno : ¬ ((((sIx items.size 0 lo:Nat):Int)==0&&(1:Int)==1&&(sIx items.size items.size hi-sIx items.size 0 lo)==items.size)=true):=by
   intro q;rw [Ye,Ye] at q;have q1:((sIx items.size 0 lo:Nat):Int)=0:=eq_of_beq q.1.1;have q2:sIx items.size items.size hi-sIx items.size 0 lo=items.size:=eq_of_beq q.2;exact hw ⟨by omega,by omega⟩
  show wpAny _ _ (if (((sIx items.size 0 lo:Nat):Int)==0&&(1:Int)==1&&(sIx items.size items.size hi-sIx items.size 0 lo)==items.size)=true then _ else _) _ _ s;rw [if_neg hno,zacx]
  first
   | exact Qj (m:=Je _) (Vu (Q1 ⟨_,rfl,Q1 h⟩) htake)
   | exact Qj (m:=Je _) (Vu (Qj (Q1 (Q1 ⟨_,rfl,Q1 h⟩))) htake)
   | exact Qj (Qj (m:=Je _) (Vu (Q1 (Q1 ⟨_,rfl,Q1 h⟩)) htake))
   | exact Qj (Qj (m:=Je _) (Vu (Q1 ⟨_,rfl,Q1 h⟩) htake))
end
end HT
namespace L2
open PySem PySem.Spec PyProof.Rows
section
abbrev TO:=St->Hp->(Option Int->Hp->Prop)->Prop
def PO (X:Cx) (e:Option Expr) (t:TO):Prop :=
 ∀ (pins:List (Addr×Obj)) (s:Qk) (σ:St) (H:Hp) (Q:Option Int->Hp->Prop),Inv X pins σ H s->t σ H Q ->
  wpAny (model X.prog X.w) X.A (evalPart e X.env) (fun u s' => ∃ o H',Inv X pins σ H' s'/\Qhg u o/\Q o H') X.xe s
def zakf:TO:=fun _ H Q=>Q none H
def zaps (t:TE):TO:=fun σ H Q=>t σ H fun x H1 => ∃ i,x = .int i/\Q (some i) H1
def qiq {ns:List Int} : ∀ {us:List Value},Vals (ns.map V.int) us->Qeq us ns:=by
 induction ns with
 | nil=>intro us r;rw [Jk] at r;cases r;exact .nil
 | cons n ns ih =>
  intro us r;rw [Qt] at r;cases r with
  | cons r1 r2 =>
   obtain ⟨t,e⟩:=r1;subst e;exact .cons n t (ih r2)
section
variable {X:Cx}{e:Expr}{te:TE}{lo hi:Option Expr}{tl th:TO}{pos p2:Pos}
def zajq:PO X none zakf:=by
 intro pins s σ H Q I h;rw [evalPart_none];exact Q1 ⟨none,H,I,.none,h⟩
def zajr (h:PE X e te):PO X (some e) (zaps te):=by
 intro pins s σ H Q I hw;rw [evalPart_some];refine thn (h pins s σ H _ I hw) fun u s1 xx43=>?_;obtain ⟨x,H1,I1,r1,q1⟩:=xx43;obtain ⟨i,rfl,q⟩:=q1;obtain ⟨t,rfl⟩:=r1;exact ⟨some i,H1,I1,.int i t,q⟩
def SlR (X:Cx) (r:V->Option Int->Option Int->Hp->VK->Prop):Prop :=
 ∀ (pins:List (Addr×Obj)) (s:Qk) (σ:St) (H:Hp) (x:V) (v vl vu:Value) (lo hi:Option Int) (sl:Addr) (Q:VK),Inv X pins σ H s->RelV x v->s.heap.IsSliceOf sl vl vu .none->Qhg vl lo->Qhg vu hi->r x lo hi H Q ->
  ∃ T id,typeLookup (.type T) "__getitem__" = pure (some (.builtin id))/\s.TypeIs v T/\wpAny (model X.prog X.w) X.A (Qib v (.ref sl)) (EP X pins σ Q) X.xe s
def tSl (r:V->Option Int->Option Int->Hp->VK->Prop) (te:TE) (tl th:TO):TE:=fun σ H Q=>te σ H fun x H1=>tl σ H1 fun l H2=>th σ H2 fun u H3=>r x l u H3 Q
def qwa {r:V->Option Int->Option Int->Hp->VK->Prop} (hr:SlR X r) (he:PE X e te) (hl:PO X lo tl) (hu:PO X hi th):PE X (.Subscript e (.Slice lo hi none p2) pos) (tSl r te tl th):=by
 intro pins s σ H Q I h;refine Subscript_ (thn (he pins s σ H _ I h) fun v s1 xx46=>?_);obtain ⟨x,H1,I1,r1,q1⟩:=xx46;refine wpAny_Slice (thn (hl pins s1 σ H1 _ I1 q1) fun vl s2 ⟨l,H2,I2,pl,q2⟩=>thn (hu pins s2 σ H2 _ I2 q2) fun vu s3 xx44=>?_);obtain ⟨u,H3,I3,pu,q3⟩:=xx44;rw [evalPart_none];refine Q1 ?_;have I4:Inv X pins σ H3 { s3 with heap:=s3.heap.push { cls :=.type "slice",data :=.fields #[vl,vu,.none] } }:=I3.kept (t':=s3.toks) fun b ob q=>Qo _ q;obtain ⟨T,id,hT,ht,hg⟩:=hr pins { s3 with heap:=s3.heap.push { cls :=.type "slice",data :=.fields #[vl,vu,.none] } } σ H3 x v vl vu l u s3.heap.objs.size Q I4 r1 (Qkn ..) pl pu q3;show wpAny (model X.prog X.w) X.A (subscriptTail e (.Slice lo hi none p2) v (.ref s3.heap.objs.size)) (EP X pins σ Q) X.xe { s3 with heap:=s3.heap.push { cls :=.type "slice",data :=.fields #[vl,vu,.none] } };exact tail_any (ops:=[.ref s3.heap.objs.size,v]) ht hT hg (by with_unfolding_all rfl)
def qqq (xs:List V) (lo hi:Option Int):List V:=(xs.drop (HT.sIx xs.length 0 lo)).take (HT.sIx xs.length xs.length hi-HT.sIx xs.length 0 lo)
def qkx (xs:List V) (lo hi:Option Int):(qqq xs lo hi).length<=xs.length:=by
 unfold qqq;rw [Qaq,Qcj];omega
def rSlT (K:Qd):V->Option Int->Option Int->Hp->VK->Prop:=fun x lo hi H Q => ∃ a xs,x = .ref a/\SqT K H a xs /\
 ¬ (HT.sIx xs.length 0 lo=0/\HT.sIx xs.length xs.length hi=xs.length) /\ ∀ p,H p=none->Q (.ref p) (upd H p (.tup (qqq xs lo hi)))
def zanq:SlR X (rSlT X.K):=by
 intro pins s σ H x v vl vu lo hi sl Q I rx hs pl pu h;obtain ⟨a,xs,rfl,hx,hw,q⟩:=h;cases rx;obtain ⟨its,r,ht,hz⟩:=I.tuple hx;have hlen:its.toArray.size=xs.length:=by rw [Qz];exact r.length.symm
 refine ⟨"tuple",_,Ya.lookup,ht.typeIs,?_⟩;refine HT.getItem_tuple_cut ht hs pl pu (by rw [hlen];exact hw) ?_ (by rw [hlen];exact hz);rw [hlen];refine ⟨.ref s.heap.objs.size,_,I.laid (t':=s.toks) (o :=.tup (qqq xs lo hi)) (fun b ob q=>Qo _ q) (Qr _) ?_,rfl,q _ (I.hok.fresh (Qr _))⟩;exact ⟨Zr (qkx xs lo hi) hz,_,(r.drop (HT.sIx xs.length 0 lo)).take (HT.sIx xs.length xs.length hi-HT.sIx xs.length 0 lo),Qke _ _⟩
def zaqf (K:Qd):R2:=fun x y H Q => ∃ a b xs ys,x = .ref a/\y = .ref b/\SqT K H a xs/\SqT K H b ys/\xs≠[]/\xs.length+ys.length<=Zb /\
 (ys=[]->Q (.ref a) H)/\(ys≠[] -> ∀ p,H p=none->Q (.ref p) (upd H p (.tup (xs++ys))))
def Vals.nil_iff {xs:List V}{us:List Value} (r:Vals xs us):us=[]↔xs=[]:=by
 cases r with
 | nil=>simp
 | cons _ _=>simp
def zahm:OpR X (Vp .Add) (zaqf X.K):=by
 intro pins s σ H x y v u Q I rx ry h;obtain ⟨a,b,xs,ys,rfl,rfl,ha,hb,hx,hz,q1,q2⟩:=h;cases rx;cases ry;obtain ⟨its,r1,p1,_⟩:=I.tuple ha;obtain ⟨its2,r2,p2,_⟩:=I.tuple hb;refine HT.cat_tup p1 p2 (fun z=>hx (r1.nil_iff.mp z)) (fun z=>⟨.ref a,H,I,rfl,q1 (r2.nil_iff.mp z)⟩) (fun z=>?_) (by rw [<- r1.length,<- r2.length];exact hz);refine ⟨.ref s.heap.objs.size,_,I.laid (t':=s.toks) (o :=.tup (xs++ys)) (fun b ob q=>Qo _ q) (Qr _) ?_,rfl,q2 (fun w=>z (r2.nil_iff.mpr w)) _ (I.hok.fresh (Qr _))⟩;exact ⟨by rw [Yk];exact hz,_,r1.append r2,Qke _ _⟩
end
end
section
def ixN (n:Nat) (i:Int):Option Nat:=if 0<=i then (if i<n then some i.toNat else none) else if -(n:Int)<=i then some (i+n).toNat else none
def atI {α:Type} (xs:List α) (i:Int):Option α:=(ixN xs.length i).bind fun j=>xs[j]?
def zaja {n:Nat}{i:Int}{j:Nat} (h:ixN n i=some j):seqIndex? i n=some j/\j<n /\ -(n:Int)<=i/\i<n:=by
 unfold ixN at h;by_cases h0:0<=i
 ·rw [if_pos h0] at h;by_cases h1:i<n
  ·rw [if_pos h1] at h;have e:i.toNat=j:=Qn h;exact ⟨by rw [seqIndex_of h0 h1,e],by omega,by omega,h1⟩
  ·rw [if_neg h1] at h;cases h
 ·rw [if_neg h0] at h;by_cases h1 : -(n:Int)<=i
  ·rw [if_pos h1] at h;have e:(i+n).toNat=j:=Qn h;exact ⟨by rw [seqIndex_neg (by omega) h1,e],by omega,h1,by omega⟩
  ·rw [if_neg h1] at h;cases h
def qse {α:Type}{xs:List α}{i:Int}{v:α} (h:atI xs i=some v) : ∃ j,seqIndex? i xs.length=some j/\xs[j]?=some v/\j<xs.length /\ -(xs.length:Int)<=i/\i<xs.length:=by
 unfold atI at h;cases e:ixN xs.length i with
 | none=>rw [e] at h;cases h
 | some j =>
  rw [e] at h;obtain ⟨h1,h2,h3,h4⟩:=zaja e;exact ⟨j,h1,h,h2,h3,h4⟩
def qbl {α:Type}{xs:List α}{j:Nat}{v:α} (h:xs[j]?=some v):atI xs (j:Int)=some v:=by
 have hj:j<xs.length:=(Qg.mp h).1;have e:ixN xs.length (j:Int)=some j:=by
  unfold ixN;rw [if_pos (by omega),if_pos (by omega)];simp
 unfold atI;rw [e];exact h
def atI_last {α:Type} (xs:List α) (v:α):atI (xs++[v]) (-1)=some v:=by
 have hl:(xs++[v]).length=xs.length+1:=by simp
 have e:ixN (xs++[v]).length (-1)=some xs.length:=by
  unfold ixN;rw [hl,if_neg (by decide),if_pos (by omega)]
  congr 1
  omega
 unfold atI;rw [e];show (xs++[v])[xs.length]?=some v;simp
def qsc (b:Expr):Prop := ∀ o i,subscripted b false o i=operate [o,i] (Qib o i)
def IxR (X:Cx) (r:R2):Prop :=
 ∀ (value slice:Expr) (pins:List (Addr×Obj)) (s:Qk) (σ:St) (H:Hp) (x y:V) (v u:Value) (Q:VK),Inv X pins σ H s->RelV x v->RelV y u->r x y H Q ->
  subscripted slice false v u=operate [v,u] (Qib v u)->wpAny (model X.prog X.w) X.A (subscriptTail value slice v u) (EP X pins σ Q) X.xe s
def MtR (X:Cx) (id:String) (r:V->List V->Hp->VK->Prop):Prop :=
 ∀ (pins:List (Addr×Obj)) (s:Qk) (σ:St) (H:Hp) (x:V) (xs:List V) (v:Value) (us:List Value) (Q:VK),Inv X pins σ H s->RelV x v->Vals xs us->r x xs H Q ->
  wpAny (model X.prog X.w) X.A (call (.builtin id) (v::us)) (EP X pins σ Q) X.xe s
section
variable {X:Cx}{a b:Expr}{ta tb:TE}{pos:Pos}
def IxR.or {r r':R2} (h:IxR X r) (h':IxR X r'):IxR X (fun x y H Q=>r x y H Q\/r' x y H Q):=by
 intro value slice pins s σ H x y v u Q I rx ry q hs;rcases q with q|q
 ·exact h value slice pins s σ H x y v u Q I rx ry q hs
 ·exact h' value slice pins s σ H x y v u Q I rx ry q hs
def zalb {r:R2} (hr:IxR X r) (ha:PE X a ta) (hb:PE X b tb) (hs:qsc b):PE X (.Subscript a b pos) (tOp r ta tb):=by
 intro pins s σ H Q I h;exact Subscript_ (binT ha hb I h fun v u s2 x y H2 I2 rx ry q=>hr a b pins s2 σ H2 x y v u Q I2 rx ry q (hs _ _))
def rIxL (K:Qd):R2:=fun x y H Q => ∃ p xs i v,x = .ref p/\y = .int i/\SqL K H p xs/\atI xs i=some v/\Q v H
def rIxT (K:Qd):R2:=fun x y H Q => ∃ p xs i v,x = .ref p/\y = .int i/\SqT K H p xs/\atI xs i=some v/\Q v H
def rIxS:R2:=fun x y H Q => ∃ z i c,x = .str z/\y = .int i/\z.length<=Zb/\atI z.cps.toList i=some c/\Q (.str ⟨#[c]⟩) H
def qza:IxR X (rIxL X.K):=by
 intro value slice pins s σ H x y v u Q I rx ry h hs;obtain ⟨p,xs,i,z,rfl,rfl,hq,he,q⟩:=h;cases rx;obtain ⟨t,rfl⟩:=ry;obtain ⟨its,r,pl,hz⟩:=I.list hq;obtain ⟨j,h1,h2,h3,h4,h5⟩:=qse he;obtain ⟨w,ew,rw'⟩:=r.get h2;have hl:=r.length;have hn:=qpm;have fin:EP X pins σ Q w s:=⟨z,H,I,rw',q⟩
 by_cases h0:0<=i
 ·have hj:i.toNat=j:=by
   rw [seqIndex_of h0 h5] at h1;exact Qn h1
  exact item_listR pl.isList h0 (by omega) (by rw [hj];simpa using ew) fin hs
 ·have hj:(i+(its.toArray.size:Int)).toNat=j:=by
   rw [seqIndex_neg (by omega) h4] at h1;rw [Qz,<- hl];exact Qn h1
  exact Qez (x:=w) pl.isList.typeIs slot_list_getitem.lookup
   (wpAny_getItem_list_neg (Q:=fun r s'=>r=w/\EP X pins σ Q r s') pl.isList (by omega) (by rw [Qz] <;> omega) (by omega) (by rw [hj];simpa using ew) ⟨rfl,fin⟩) hs
def zalv:IxR X (rIxT X.K):=by
 intro value slice pins s σ H x y v u Q I rx ry h hs;obtain ⟨p,xs,i,z,rfl,rfl,hq,he,q⟩:=h;cases rx;obtain ⟨t,rfl⟩:=ry;obtain ⟨its,r,pl,hz⟩:=I.tuple hq;obtain ⟨j,h1,h2,h3,h4,h5⟩:=qse he;obtain ⟨w,ew,rw'⟩:=r.get h2;have hl:=r.length;have hn:=qpm;have fin:EP X pins σ Q w s:=⟨z,H,I,rw',q⟩
 exact Qez (x:=w) pl.typeIs slot_tuple_getitem.lookup
  (getItem_tuple (j:=j) (Q:=fun r s'=>r=w/\EP X pins σ Q r s') pl (by omega) (by omega) (by rw [Qz,<- hl];exact h1) (by simpa using ew) ⟨rfl,fin⟩) hs
def zanx:IxR X rIxS:=by
 intro value slice pins s σ H x y v u Q I rx ry h hs;obtain ⟨z,i,c,rfl,rfl,hz,he,q⟩:=h;obtain ⟨t,rfl⟩:=rx;obtain ⟨t',rfl⟩:=ry;obtain ⟨j,h1,h2,h3,h4,h5⟩:=qse he;have hl:z.cps.toList.length=z.length:=by simp [Str.length]
 rw [hl] at h1 h4 h5;have hn:=qpm;exact tail_any (typeIs_str s z t) slot_str_getitem.lookup (getItem_str (c:=c) (by
  have e1:decide (i < -(2^63:Int))=false:=decide_eq_false (by omega);have e2:decide (i>=2^63)=false:=decide_eq_false (by omega);rw [e1,e2,Bool.or_false]) (by rw [h1];simpa using h2) ⟨.str ⟨#[c]⟩,H,I.tok _,⟨_,rfl⟩,q⟩) hs
def rIx (K:Qd):R2:=fun x y H Q=>rIxL K x y H Q\/rIxT K x y H Q\/rIxS x y H Q
def zane:IxR X (rIx X.K):=qza.or (zalv.or zanx)
def qrp (lo hi:Option Int) (n:Nat):(Qca lo hi none n).1=((HT.sIx n 0 lo:Nat):Int)/\(Qca lo hi none n).2.1=((HT.sIx n n hi:Nat):Int)/\(Qca lo hi none n).2.2=1:=by
 refine ⟨?_,?_,rfl⟩
 ·cases lo with
  | none=>simp [Qca,HT.sIx]
  | some i =>
   simp only [Qca,HT.sIx,Qim,show (1:Int)>0 by decide,if_true];by_cases h:i<0
   ·simp only [h,if_true] <;> omega
   ·simp only [h,if_false] <;> omega
 ·cases hi with
  | none=>simp [Qca,HT.sIx]
  | some i =>
   simp only [Qca,HT.sIx,Qim,show (1:Int)>0 by decide,if_true];by_cases h:i<0
   ·simp only [h,if_true] <;> omega
   ·simp only [h,if_false] <;> omega
def qpi (its:List Value) (lo hi:Option Int):slicePick its.toArray lo hi none=((its.drop (HT.sIx its.length 0 lo)).take (HT.sIx its.length its.length hi-HT.sIx its.length 0 lo)).toArray:=by
 obtain ⟨h1,h2,h3⟩:=qrp lo hi its.toArray.size;unfold slicePick;rw [h1,h2,h3];simp only [sliceRange_one,pick_run,Qz] <;> rfl
def rSlL (K:Qd):V->Option Int->Option Int->Hp->VK->Prop:=fun x lo hi H Q => ∃ a xs,x = .ref a/\SqL K H a xs /\ ∀ p,H p=none->Q (.ref p) (upd H p (.lst (qqq xs lo hi)))
def zakd:SlR X (rSlL X.K):=by
 intro pins s σ H x v vl vu lo hi sl Q I rx hs pl pu h;obtain ⟨a,xs,rfl,hx,q⟩:=h;cases rx;obtain ⟨its,r,ht,hz⟩:=I.list hx;have hlen:=r.length;refine ⟨"list",_,slot_list_getitem.lookup,ht.isList.typeIs,?_⟩;refine wpAny_getItem_list_slice ht.isList hs pl pu .none (by simp) ?_ (by rw [Qz] <;> omega);rw [qpi,<- hlen];refine ⟨.ref s.heap.objs.size,_,I.laid (t':=s.toks) (o :=.lst (qqq xs lo hi)) (fun b ob q=>Qo _ q) (Qr _) ?_,rfl,q _ (I.hok.fresh (Qr _))⟩;exact ⟨Zr (qkx xs lo hi) hz,_,0,(r.drop (HT.sIx xs.length 0 lo)).take (HT.sIx xs.length xs.length hi-HT.sIx xs.length 0 lo),Q8 _ rfl⟩
def qmb:V->Bool
 | .non=>true
 | .bl _=>true
 | .int _=>true
 | .str _=>true
 | _=>false
def eqV:V->V->Bool
 | .non,.non=>true
 | .bl a,.bl b=>a==b
 | .bl a,.int b=>(if a then 1 else 0)==b
 | .int a,.bl b=>a==(if b then 1 else 0)
 | .int a,.int b=>a==b
 | .str a,.str b=>a==b
 | _,_=>false
def zaob {A:Zw}{s:Qk}{y x:V}{u v:Value} (ry:RelV y u) (rx:RelV x v) (fy:qmb y=true) (fx:qmb x=true):SeqAt.EqAt A s u v (eqV y x):=by
 cases y with
 | non =>
  cases ry;cases x with
  | non=>cases rx;exact SeqAt.EqAt.same _
  | bl b=>cases rx;exact SeqAt.EqAt.none_bool b
  | int b=>obtain ⟨t,rfl⟩:=rx;exact SeqAt.EqAt.none_int b t
  | str b=>obtain ⟨t,rfl⟩:=rx;exact SeqAt.EqAt.none_str b t
  | _=>exact absurd (show false=true from fx) Zx
 | bl a =>
  cases ry;cases x with
  | non=>cases rx;exact SeqAt.EqAt.bool_none a
  | bl b=>cases rx;exact SeqAt.EqAt.bool_bool a b
  | int b=>obtain ⟨t,rfl⟩:=rx;exact SeqAt.EqAt.bool_int a b t
  | str b=>obtain ⟨t,rfl⟩:=rx;exact SeqAt.EqAt.bool_str a b t
  | _=>exact absurd (show false=true from fx) Zx
 | int a =>
  obtain ⟨t',rfl⟩:=ry;cases x with
  | non=>cases rx;exact SeqAt.EqAt.int_none a t'
  | bl b=>cases rx;exact SeqAt.EqAt.int_bool a t' b
  | int b=>obtain ⟨t,rfl⟩:=rx;exact SeqAt.EqAt.int_int a t' b t
  | str b=>obtain ⟨t,rfl⟩:=rx;exact Qgs a t' b t
  | _=>exact absurd (show false=true from fx) Zx
 | str a =>
  obtain ⟨t',rfl⟩:=ry;cases x with
  | non=>cases rx;exact SeqAt.EqAt.str_none a t'
  | bl b=>cases rx;exact SeqAt.EqAt.str_bool a t' b
  | int b=>obtain ⟨t,rfl⟩:=rx;exact Qgt a t' b t
  | str b=>obtain ⟨t,rfl⟩:=rx;exact SeqAt.EqAt.str_str a t' b t
  | _=>exact absurd (show false=true from fx) Zx
 | _=>exact absurd (show false=true from fy) Zx
def eqU (x:V) (u:Value):Bool:=match u with
 | .none=>eqV .non x
 | .bool b=>eqV (.bl b) x
 | .int i _=>eqV (.int i) x
 | .str z _=>eqV (.str z) x
 | _=>false
def zaft {x y:V}{u:Value} (r:RelV y u) (f:qmb y=true):eqU x u=eqV y x:=by
 cases y with
 | non=>cases r;rfl
 | bl b=>cases r;rfl
 | int i=>obtain ⟨t,rfl⟩:=r;rfl
 | str z=>obtain ⟨t,rfl⟩:=r;rfl
 | _=>exact absurd (show false=true from f) Zx
def qrw {x:V} : ∀ {xs:List V}{us:List Value},Vals xs us->xs.all qmb=true->us.any (eqU x)=xs.any fun y=>eqV y x
 | _,_,.nil,_=>rfl
 | y::xs,u::us,.cons r t,f=>by
  rw [Qgv,Ye] at f;rw [Qbe,Qbe,zaft r f.1,qrw t f.2]
def qoi {A:Zw}{s:Qk}{x:V}{v:Value} (rx:RelV x v) (fx:qmb x=true) : ∀ {xs:List V}{us:List Value},Vals xs us->xs.all qmb=true -> ∀ u ∈ us,SeqAt.EqAt A s u v (eqU x u)
 | _,_,.nil,_=>fun u hu=>by cases hu
 | y::xs,u::us,.cons r t,f=>fun u' hu=>by
  rw [Qgv,Ye] at f;rcases Qs.mp hu with rfl|hu
  ·rw [zaft r f.1];exact zaob r rx f.1 fx
  ·exact qoi rx fx t f.2 u' hu
def inV (x:V) (xs:List V):Bool:=xs.any fun y=>eqV y x
def rIn (K:Qd) (neg:Bool):R2:=fun x y H Q => ∃ p xs,y = .ref p/\(SqL K H p xs\/SqT K H p xs)/\qmb x=true/\xs.all qmb=true/\Q (.bl (if neg then !inV x xs else inV x xs)) H
def zabs:OpR X (Yl .In) (rIn X.K false):=by
 intro pins s σ H x y v u Q I rx ry h;obtain ⟨p,xs,rfl,hq,fx,fs,q⟩:=h;cases ry;rcases hq with hq|hq
 ·obtain ⟨its,r,pl,hz⟩:=I.list hq;refine SeqAt.in_listAt (eqU x) pl.isList (fun w hw=>qoi rx fx r fs w (by simpa using hw)) ⟨.bl _,H,I,rfl,?_⟩;rw [show its.toArray.any (eqU x)=its.any (eqU x) by simp,qrw r fs];exact q
 ·obtain ⟨its,r,pl,hz⟩:=I.tuple hq;refine SeqAt.in_tupleAt (eqU x) pl (fun w hw=>qoi rx fx r fs w (by simpa using hw)) ⟨.bl _,H,I,rfl,?_⟩;rw [show its.toArray.any (eqU x)=its.any (eqU x) by simp,qrw r fs];exact q
def qrn:CallR X (.builtin "len") (fun xs H Q => ∃ p ys,xs=[.ref p]/\(SqL X.K H p ys\/SqT X.K H p ys)/\Q (.int ys.length) H):=by
 intro pins s σ H xs us Q I r h;obtain ⟨p,ys,rfl,hq,q⟩:=h;obtain ⟨u,rfl,rx⟩:=qlq r;cases rx;have hn:=qpm;rcases hq with hq|hq
 ·obtain ⟨its,r',pl,hz⟩:=I.list hq;have hlen:=r'.length;exact Calls.call_len_list pl.isList (by simp only [Qz] <;> omega) ⟨.int ys.length,H,I.tok _,⟨s.toks+1,by rw [Qz,hlen]⟩,q⟩
 ·obtain ⟨its,r',pl,hz⟩:=I.tuple hq;have hlen:=r'.length;exact len_tuple pl (by simp only [Qz] <;> omega) ⟨.int ys.length,H,I.tok _,⟨s.toks+1,by rw [Qz,hlen]⟩,q⟩
def qrr:CallR X (.builtin "len") (fun xs H Q => ∃ z,xs=[.str z]/\z.length<=Zb/\Q (.int z.length) H):=by
 intro pins s σ H xs us Q I r h;obtain ⟨z,rfl,hz,q⟩:=h;obtain ⟨u,rfl,t,rfl⟩:=qlq r;have hn:=qpm;exact len_str (by omega) ⟨.int z.length,H,I.tok _,⟨_,rfl⟩,q⟩
def CallR.or {f:Value}{r r':List V->Hp->VK->Prop} (h:CallR X f r) (h':CallR X f r'):CallR X f (fun xs H Q=>r xs H Q\/r' xs H Q):=by
 intro pins s σ H xs us Q I rs q;rcases q with q|q
 ·exact h pins s σ H xs us Q I rs q
 ·exact h' pins s σ H xs us Q I rs q
def qru:CallR X (.type "list") (fun xs H Q => ∃ p ys,xs=[.ref p]/\(SqL X.K H p ys\/SqT X.K H p ys) /\ ∀ l,H l=none->Q (.ref l) (upd H l (.lst ys))):=by
 intro pins s σ H xs us Q I r h;obtain ⟨p,ys,rfl,hq,q⟩:=h;obtain ⟨u,rfl,rx⟩:=qlq r;cases rx;have fin : ∀ (its:List Value),Vals ys its->ys.length<=Zb -> ∀ (h':Heap) (c':Nat),(∀ b o',s.heap.get? b=some o'->h'.get? b=some o') ->
  h'.get? s.heap.objs.size=some { cls :=.type "list",dict:=none,data :=.seq its.toArray c',slots := #[] }->EP X pins σ Q (.ref s.heap.objs.size) { s with heap:=h' }:=fun its r' hz h' c' kp e =>
  ⟨.ref s.heap.objs.size,_,I.laid (t':=s.toks) kp (Qr _) (show ObjOk X.prog X.w _ h' _ (.lst ys) from ⟨hz,its,c',r',e⟩),rfl,q _ (I.hok.fresh (Qr _))⟩
 rcases hq with hq|hq
 ·obtain ⟨its,r',pl,hz⟩:=I.list hq;have hlen:=r'.length;obtain ⟨o,ho,hc,n,hd⟩:=pl.isList;exact call_list_seq p (.inl rfl) ho hc hd (fun h' c' kp e=>fin its r' hz h' c' kp e) (by simp only [Qz] <;> omega)
 ·obtain ⟨its,r',pl,hz⟩:=I.tuple hq;have hlen:=r'.length;obtain ⟨o,ho,hc,n,hd⟩:=pl;exact call_list_seq p (.inr rfl) ho hc hd (fun h' c' kp e=>fin its r' hz h' c' kp e) (by simp only [Qz] <;> omega)
def qhy:CallR X (.type "tuple") (fun xs H Q => ∃ p ys,xs=[.ref p]/\((SqL X.K H p ys /\ ∀ l,H l=none->Q (.ref l) (upd H l (.tup ys)))\/(SqT X.K H p ys/\Q (.ref p) H))):=by
 intro pins s σ H xs us Q I r h;obtain ⟨p,ys,rfl,h⟩:=h;obtain ⟨u,rfl,rx⟩:=qlq r;cases rx;rcases h with ⟨hq,q⟩|⟨hq,q⟩
 ·obtain ⟨its,r',pl,hz⟩:=I.list hq;have hlen:=r'.length;refine call_tuple_list pl.isList (fun h' kp=>?_) (by simp only [Qz] <;> omega);have I1:Inv X pins σ H { s with heap:=h' }:=I.kept (t':=s.toks) kp;have I2:Inv X pins σ (upd H h'.objs.size (.tup ys)) { s with heap:=h'.push { cls :=.type "tuple",data :=.seq its.toArray } } :=
   I1.laid (t':=s.toks) (fun b o e=>Qo _ e) (Qr _) (show ObjOk X.prog X.w _ _ _ (.tup ys) from ⟨hz,its,r',Qke _ _⟩)
  exact ⟨.ref h'.objs.size,_,I2,rfl,q _ (I1.hok.fresh (Qr _))⟩
 ·obtain ⟨its,r',pl,hz⟩:=I.tuple hq;exact call_tuple_same pl ⟨.ref p,H,I,rfl,q⟩
def tyV (K:Qd) (T:String) (x:V) (H:Hp):Prop:=match x with
 | .str _=>T = "str"
 | .int _=>T = "int"
 | .ref p=>(T = "list" /\ ∃ xs,SqL K H p xs)\/(T = "tuple" /\ ∃ o,K.lookup p=some o/\o.cls = .type "tuple" /\ o.dict=none) \/
  (T = "dict" /\ ((∃ kvs,H p=some (.dK kvs)) \/ ∃ kvs,H p=some (.dT kvs)))\/(T = "set" /\ ∃ S n,H p=some (.set S n))
 | _=>False
def zang {pins:List (Addr×Obj)}{σ:St}{H:Hp}{s:Qk}{T:String}{x:V}{v:Value} (I:Inv X pins σ H s) (r:RelV x v) (ty:tyV X.K T x H) :
 s.TypeIs v T /\ ∀ a,v = .ref a -> ∃ ob,s.heap.get? a=some ob/\ob.dict=none:=by
  cases x with
  | str z =>
   obtain ⟨t,rfl⟩:=r;cases (show T = "str" from ty);exact ⟨typeIs_str s z t,fun _ e=>nomatch e⟩
  | int i =>
   obtain ⟨t,rfl⟩:=r;cases (show T = "int" from ty);exact ⟨typeIs_int s i t,fun _ e=>nomatch e⟩
  | ref p =>
   cases r;rcases ty with ⟨rfl,xs,hq⟩|⟨rfl,o,hk,hc,hd⟩|⟨rfl,hk⟩|⟨rfl,S,n,hk⟩
   ·obtain ⟨its,_,pl,_⟩:=I.list hq;refine ⟨pl.isList.typeIs,fun a e=>?_⟩;cases e;obtain ⟨o,n,e,c,hd,_⟩:=pl;exact ⟨o,e,hd⟩
   ·refine ⟨⟨o,I.kIn p o hk,hc⟩,fun a e=>?_⟩;cases e;exact ⟨o,I.kIn _ o hk,hd⟩
   ·have z : ∃ o,s.heap.get? p=some o/\o.ExactDict:=by
     rcases hk with ⟨kvs,hk⟩|⟨kvs,hk⟩
     ·obtain ⟨_,_,_,_,o,_,_,e,ex,_⟩:=I.hok p _ hk;exact ⟨o,e,ex⟩
     ·obtain ⟨_,_,_,_,o,_,_,e,ex,_⟩:=I.hok p _ hk;exact ⟨o,e,ex⟩
    obtain ⟨o,e,ex⟩:=z;refine ⟨⟨o,e,ex.1⟩,fun a e2=>?_⟩;cases e2;exact ⟨o,e,ex.2.1⟩
   ·obtain ⟨o,_,_,_,e,ex,_⟩:=I.hok p _ hk;refine ⟨⟨o,e,ex.1⟩,fun a e2=>?_⟩;cases e2;exact ⟨o,e,ex.2.1⟩
  | _=>exact Zc ty
def tBM (K:Qd) (T:String) (r:V->List V->Hp->VK->Prop) (to:TE) (t:TA):TE:=fun σ H Q=>to σ H fun x H1=>tyV K T x H1/\t σ H1 fun xs H2=>r x xs H2 Q
variable {o e:Expr}{es:List Expr}{to:TE}{t:TA}{name:Str}{apos cpos:Pos}{T id:String}{r:V->List V->Hp->VK->Prop}
def zaqk (pa:PlainAttrs T) (slot:Slot T name id) (hty:typeOf (.builtin id)=pure (.type "method_descriptor")) (hm:MtR X id r) (ho:PE X o to) (ha:PA X (e::es) t)
 (hbase:Qcw o name X.env (eval o X.env)=eval o X.env:=by rfl)
  (hfew:((Ja cpos (Qu (e::es) X.env)).all (fun x => !x.1)&&(Qiu cpos (Qer [] X.env)).all (fun x=>x.1.isSome)
   && decide ((e::es).length+([]:List Qdx).length+(if ([]:List Qdx).isEmpty then 0 else 1)<30))=true:=by rfl)
  (hline:(apos.endLine==cpos.line)=true:=by rfl) (hs:Qu (e::es) X.env=(false,eval e X.env)::Qu es X.env:=by rfl) (hplain:(Ja cpos (Qu es X.env)).any (·.1)=false:=by rfl) :
  PE X (.Call (.Attribute o name apos) (e::es) [] cpos) (tBM X.K T r to t):=by
  intro pins s σ H Q I h;refine wpAny_Call_method_late hbase hfew hline rfl (thn (ho pins s σ H _ I h) fun v s1 xx48=>?_);obtain ⟨x,H1,I1,r1,ty,q1⟩:=xx48;obtain ⟨h1,h2⟩:=zang I1 r1 ty;refine ⟨T,id,pa,slot,hty,h1,h2,?_⟩;have hA:=ha cpos pins s1 σ H1 _ I1 q1;rw [hs] at hA ⊢;refine Qbp (by show (false||(Ja cpos (Qu es X.env)).any (·.1))=false;rw [hplain] <;> rfl) (Qcq ?_);exact thn hA fun us s2 xx47=>by obtain ⟨vs,H2,I2,r2,q2⟩:=xx47;exact hm pins s2 σ H2 x vs v us Q I2 r1 r2 q2
/- xs.append(e),list.index on a module's tuple .. are MtR facts of 06m -/
end
end
section
def MtM (X:Cx) (id:String) (r:V->List V->Hp->VK->Prop):Prop :=
 ∀ (pins:List (Addr×Obj)) (s:Qk) (σ:St) (H:Hp) (x:V) (xs:List V) (v:Value) (us:List Value) (Q:VK),Inv X pins σ H s->RelV x v->Vals xs us->r x xs H Q ->
  wpAny (model X.prog X.w) X.A (call (.builtin id) (v::us)) (EP X pins σ Q) X.xe s
def Vals.one : ∀ {x:V}{us:List Value},Vals [x] us -> ∃ u,us=[u]/\RelV x u
 | _,_,.cons r .nil=>⟨_,rfl,r⟩
def Vals.rep {xs:List V}{us:List Value} (h:Vals xs us) : ∀ k:Nat,Vals (Zn k xs).flatten (Zn k us).flatten
 | 0 => .nil
 | k+1=>by
  rw [Z5,Z5,Jf,Jf];exact Vals.append h (Vals.rep h k)
def qqr (its:List Value) : ∀ (k:Nat) (acc:List Value),
 Qjo (fun x1 x2=>x1++x2) acc.toArray (Zn k its.toArray)=(acc++(Zn k its).flatten).toArray
  | 0,acc=>by simp
  | k+1,acc=>by
   have e:acc.toArray++its.toArray=(acc++its).toArray:=by simp
   have e2:(acc++its)++(Zn k its).flatten=acc++(Zn (k+1) its).flatten:=by
    rw [Z5,Jf,Qhp]
   rw [<- e2,<- qqr its k (acc++its),<- e,Z5,List.foldl_cons]
section
variable {X:Cx}{pins:List (Addr×Obj)}{σ:St}{H:Hp}{s:Qk}{l b:Addr}{xs ys zs:List V}
def Inv.lset {its its':List Value}{n:Nat}{f:Array Value->Array Value}{t':Nat} (I:Inv X pins σ H s) (hH:H l=some (.lst xs))
 (e:s.heap.get? l=some { cls :=.type "list",data :=.seq its.toArray n }) (hf:f its.toArray=its'.toArray) (hv:Vals ys its') (hz:ys.length<=Zb) :
  Inv X pins σ (upd H l (.lst ys)) { s with heap:=s.heap.update l (Yh f),toks:=t' }:=by
  have q:=Qin e f;rw [hf] at q;refine I.write (x:=l) (e:=l) (by rw [hH];exact trivial) (.inl rfl) (fun b' u hb hu=>(Qbq s.heap (Yh f) (V7 hb)).trans hu) ⟨_,q⟩ ?_;exact ⟨hz,its',_,hv,q⟩
def Inv.lnew {its:List Value}{t':Nat} (I:Inv X pins σ H s) (hv:Vals ys its) (hz:ys.length<=Zb) :
 Inv X pins σ (upd H s.heap.objs.size (.lst ys)) { s with heap:=s.heap.push { cls :=.type "list",data :=.seq its.toArray },toks:=t' } :=
  I.laid (fun _ _ q=>Qo _ q) (Qr _) ⟨hz,its,0,hv,Q8 _ rfl⟩
def Inv.fresh (I:Inv X pins σ H s):H s.heap.objs.size=none:=I.hok.fresh (Qr _)
def Inv.lstM (I:Inv X pins σ H s) (hH:H l=some (.lst xs)):xs.length<=Zb /\ ∃ (its:List Value) (n:Nat),Vals xs its/\xs.length=its.length/\s.heap.get? l=some { cls :=.type "list",data :=.seq its.toArray n }:=by
 obtain ⟨z,its,n,r,e⟩:=I.hok l _ hH;exact ⟨z,its,n,r,r.length,e⟩
def zadj {n:Nat} (h:n<=Zb):Qaz n=false:=by
 unfold Qaz;exact decide_eq_false (by omega)
end
section
variable {X:Cx}
def qsh:V->List V->Hp->VK->Prop:=fun x vs H Q => ∃ l xs y,x = .ref l/\vs=[y]/\H l=some (.lst xs)/\xs.length<Zb/\Q .non (upd H l (.lst (xs++[y])))
def zabm:MtM X "list.append" qsh:=by
 intro pins s σ H x vs v us Q I rx rv h;obtain ⟨l,xs,y,rfl,rfl,hH,hz,q⟩:=h;cases rx;obtain ⟨u,rfl,ru⟩:=rv.one;obtain ⟨z,its,n,r,hl,e⟩:=I.lstM hH;refine Qfy F.slot_list_append ⟨_,e,rfl⟩ F.entry_list_append (F.args_list_append_2 _ _) (Qhq l its.toArray n u (by rw [Qz];omega)) ⟨e,?_⟩;refine ⟨.non,_,I.lset (its':=its++[u]) hH e (by simp) (r.append (.cons ru .nil)) ?_,rfl,q⟩;rw [Yk,List.length_singleton];omega
def rRep:R2:=fun x y H Q => ∃ l k xs,x = .ref l/\y = .int k/\H l=some (.lst xs) /\ -(2^63)<=k/\k<2^63/\xs.length*k.toNat<=Zb /\
 ∀ p,H p=none->Q (.ref p) (upd H p (.lst (Zn k.toNat xs).flatten))
def zajy {α:Type} (xs:List α) (k:Nat):(Zn k xs).flatten.length=k*xs.length:=by
 induction k with
 | zero=>simp
 | succ k ih=>rw [Z5,Jf,Yk,ih,Nat.succ_mul,Nat.add_comm]
def zanv:OpR X (Vp .Mult) rRep:=by
 intro pins s σ H x y v u Q I rx ry h;obtain ⟨l,k,xs,rfl,rfl,hH,h1,h2,hz,q⟩:=h;cases rx;obtain ⟨t,rfl⟩:=ry;obtain ⟨z,its,n,r,hl,e⟩:=I.lstM hH;have hlen:its.toArray.size*k.toNat<=Zb:=by rw [Qz,<- hl];exact hz
 have hcap : ¬ its.toArray.size*k.toNat>(2^63-1)/8:=by
  have:(Zb:Nat)<=(2^63-1)/8:=by decide
  omega
 have hfit : ¬ (!Builtin.List.listFitsIndex k)=true:=by
  rw [fitsIndex_both h1 h2];exact Zx
 have hlong : ¬ Qaz (its.toArray.size*k.toNat)=true:=by
  rw [zadj hlen];exact Zx
 have hnew:Qjo (fun x1 x2=>x1++x2) #[] (Zn (if its.toArray.isEmpty=true then 0 else k.toNat) its.toArray)=(Zn k.toNat its).flatten.toArray:=by
  have f0 : ∀ m:Nat,Qjo (fun x1 x2=>x1++x2) #[] (Zn m its.toArray)=(Zn m its).flatten.toArray:=fun m=>by
   have:=qqr its m [];rw [List.nil_append] at this;exact this
  rw [f0];cases its with
  | nil=>simp
  | cons a r'=>rw [if_neg (by simp)]
 refine wpAny_binaryOp_repeat_ref (T := "list") (U := "int") (by decide) ⟨_,e,rfl⟩ (fun s'=>typeIs_int s' k t) noFill_list_mul F.fills_int_mul Qiy repeat_list F.slot_int_index.lookup
  (Qfy Qiy (typeIs_int s k t) F.entry_int_rmul (F.args_int_rmul_2 _ _) (int___rmul___int_list k t l its.toArray n)
   ⟨e,rfl,⟨_,e,rfl⟩,Qfy F.slot_list_mul ⟨_,e,rfl⟩ F.entry_list_mul (F.args_list_mul_2 _ _) (AutoListH.list___mul___list_int_3 l its.toArray n k t hfit hcap hlong) ⟨e,?_⟩⟩)
 rw [hnew];exact ⟨.ref _,_,I.lnew (t':=s.toks) (r.rep k.toNat) (by rw [zajy,Nat.mul_comm];exact hz),rfl,q _ I.fresh⟩
end
section
variable {prog:Zi}{w:World}{A:Zw}{E:Value->Qk->Prop}{s:Qk}
set_option maxRecDepth 100000 in
end
section
variable {X:Cx}
end
end
end L2
namespace Att
open PySem PySem.W PySem.Calls PyProof.Rows
def qlw {P:Qct}{h:Heap} : ∀ (ns:List Int) (vs:List Value),WellAll P h vs (ns.map WData.int)->Qeq vs ns:=by
 intro ns
 induction ns with
 | nil =>
  intro vs w;rw [Jk] at w;cases w;exact .nil
 | cons n ns ih =>
  intro vs w;rw [Qt] at w;cases w with
  | cons a b =>
   cases a;exact .cons _ _ (ih _ b)
def zabw {l:OpenLaw}{n:Nat} (hn:l.most=some n) {P:Qct}{h:Heap}{args:List WData}{vals:List Value}
 (hpre:l.row.toRowW.claim.pre args=true) (hwl:WellAll P h vals args) :
 ∃ a vs ns,vals=[Vw a]/\args=[WData.list (ns.map WData.int)]/\h.get? a=some { cls :=.type "list",data :=.seq vs.toArray }/\Qeq vs ns/\ns.length<=n:=by
  have hsh:WShape.hasAll [] args [.list .int]=true:=(pre_splitW hpre).1;have hc:l.pre.holds [] { args:=args }=true:=(pre_splitW hpre).2;obtain ⟨d,r,rfl,h1,h2⟩:=hasAllW_cons hsh;obtain rfl:=hasAllW_nil h2;obtain ⟨xs,rfl,h3⟩:=hasW_list h1;obtain ⟨ns,rfl⟩:=items_int h3;have hlen:ns.length<=n:=by
   unfold OpenLaw.pre at hc;have h4:(WTm.not (.lt (.lit (.int (n:Int))) (.len (.arg 0)))).holds [] { args:=[.list (ns.map .int)] }=true:=by
    have h4:=(holds_andW hc).1;rw [hn] at h4;exact h4
   have h5:=condW_of h4 (w_not (w_lt w_lit (w_len_list (w_arg rfl))));rw [Qe] at h5;refine Nat.le_of_not_lt fun q=>?_;have q':(n:Int)<((ns.length:Nat):Int):=by omega
   first
    | (rw [decide_eq_true q'] at h5;exact absurd h5 (by decide))
    | (simp at h5;omega)
  cases hwl with
  | cons w1 w2 =>
   cases w2;cases w1 with
   | list ho hall=>exact ⟨_,_,ns,rfl,rfl,ho,qlw ns _ hall,hlen⟩
def zaat (l:OpenLaw) (args:List WData):l.row.toRowW.claim.post args (.bool true) args=true :=
 postW_of (r:=l.row.toRowW) (X:=(true==true))
  (show Qkp [] (.bool true) .bool=true by first|rfl|decide|simp [Qkp,WShape.arms,WShape.armsAll])
  (show (WTm.eq .res (.lit (.bool true))).value [] { args:=args,res:=some (.bool true),after:=args }=some (.bool (true==true)) from w_eq_bool (w_res rfl) w_lit) rfl
def attach_call {l:OpenLaw}{n:Nat}{q:Zi}{loose:List Str}{XP:(Str->Option Value)->Heap->Prop}{YP:World->Heap->Prop}{d:DefRec}
 (hn:l.most=some n) (hdf:d.params.defaults=[])
 (call : ∀ (w:World) (s₀ s₁:Qk) (mg mb:Str->Option Value) (fa:Addr) (o:Obj) (pm cd doc:Value) (a:Addr) (vs:List Value) (ns:List Int),
 Ground q loose [] XP w s₀ mg mb s₁.heap->YP w s₁.heap ->
 s₁.heap.get? fa=some o->o.data = .func (docDef d.name d.params d.body d.scope pm cd doc)->s₁.heap.CodeRec cd d.name->mg d.name=some (.ref fa) ->
 s₁.heap.get? a=some { cls :=.type "list",data :=.seq vs.toArray }->Qeq vs ns->ns.length<=n->s₁.gens = #[] ->
  Qbz (model l.prog w) Qgo (.call (.ref fa) ⟨[.ref a],[]⟩) (fun r s'=>r = .ok (.ret (.bool true))/\OldK s₁.heap s'.heap/\s'.os=s₁.os/\Qdw s'.gens) s₁) :
  WalkO q loose XP YP l.row.toRowW d [] (fun f vs=>Qjp f vs):=by
  intro w s₀ s₁ mg mb G Y fa o pm cd doc dV kV ho hd hcd hD hmg hg args vals as hpre hlay hrd hwl hlo;obtain rfl:dV = .none:=Dflts.none hD hdf;obtain rfl:kV = .none:=Dflts.noKw hD;obtain ⟨a,vs,ns,rfl,rfl,hobj,hints,hlen⟩:=zabw hn hpre hwl;refine enter_call (Qcg (call w s₀ s₁ mg mb fa o pm cd doc a vs ns G Y ho (fd_plain hd) hcd hmg hobj hints hlen hg) fun r s' hq=>?_);obtain ⟨rfl,h2,h3,h4⟩:=hq;exact ⟨.inl ⟨.bool true,.bool true,[],rfl,fun _=>rfl,.bool true,zaat l _,fun _=>⟨Qhr,fun _ hm=>(nomatch hm)⟩⟩,h2,h3,h4⟩
section
variable {prog:Zi}{w:World}{A:Zw}{E:Value->Qk->Prop}{s:Qk}{K:Frag}
end
end Att
namespace L2
open PySem PySem.Spec PyProof.Rows
section
def qkt : ∀ {vs:List Value}{ns:List Int},Qeq vs ns->Vals (ns.map V.int) vs
 | _,_,.nil => .nil
 | _,_,.cons n t h => .cons ⟨t,rfl⟩ (qkt h)
end
section
end
section
def defArgs (s:Stmt):Qcf:=match s with
 | .FunctionDef _ a _ _ _ _ _ _ _ _=>a
 | _=>{ posonlyargs:=[],args:=[],vararg:=none,kwonlyargs:=[],kw_defaults:=[],kwarg:=none,defaults:=[] }
def defBody (s:Stmt):List Stmt:=match s with
 | .FunctionDef _ _ b _ _ _ _ _ _ _=>b
 | _=>[]
def defScope (s:Stmt):Scope:=match s with
 | .FunctionDef _ _ _ _ _ _ sc _ _ _=>sc
 | _=>{ kind :=.function,names:=[],isGenerator:=false,isCoroutine:=false }
abbrev CX0:CXT:=fun _ _ _ _ _ _=>False
abbrev E0:XK:=fun _ _ _=>False
def zapr {X:Cx}:qxs CX0 X E0:=fun _ _ _ _ _ _ _ h=>h.elim
structure Fun (K:Qd) (x qual:Str) (st:Stmt) (f:Addr) (fd:Vy):Prop where
 ex : ∃ (oc:Value) (od:Option Addr) (kV doc pm:Value) (an:Option Addr) (cdv ct:Value) (osl:Array (Option Value)),
  fd=Ys x qual (defArgs st) (defBody st) (defScope st) .none kV doc pm an cdv ct/\K.lookup f=some ⟨oc,od,.func fd,osl⟩/\V8 K cdv qual=true
 kp:Vi K (.ref f)=true
section
variable {P:Zi}{w:World}{K:Qd}{mg:Str->Option Value}{base:Heap}
def Fun.ok {x qual:Str}{st:Stmt}{f:Addr}{fd:Vy}{N ps:List Str}{k:Nat}{sp:Sp} (F:Fun K x qual st f fd) (S:FnScope N ps (defScope st)) (len : ∀ vs H Q E,sp vs H Q E->vs.length=ps.length)
 (hbody : ∀ (cdv:Value) (A:Zw) (outer:List Env) (s:Qk) (H:Hp) (vs:List V) (Q:VK) (E:XK),Room k (A.deeper (Qch qual (defScope st) s.heap.objs.size f cdv))->sp vs H Q E ->
 ∃ t,PSs (qei CX0 P w K mg base N qual (defScope st) f cdv A outer s H E).nox (defBody st) t/\t { nx:=fun _ H'=>Q .non H',rt:=Q } (start N vs) H):FnOk P w K mg base CX0 (k+1) f fd ps sp:=by
  obtain ⟨oc,od,kV,doc,pm,an,cdv,ct,osl,rfl,lk,hcd⟩:=F.ex;refine zags lk hcd S len fun A outer s H vs Q E hr hsp=>?_;obtain ⟨t,h,q⟩:=hbody cdv A outer s H vs Q E hr hsp;exact ⟨t,h.nox,q⟩
def Fun.binds {x qual:Str}{st:Stmt}{f:Addr}{fd:Vy}{ps:List Str} (F:Fun K x qual st f fd)
 (h : ∀ (kV doc pm:Value) (an:Option Addr) (cdv ct:Value) (us:List Value),us.length=ps.length->Qcx (Ys x qual (defArgs st) (defBody st) (defScope st) .none kV doc pm an cdv ct) ⟨us,[]⟩=pure (ps.zip us)):Binds K fd ps []:=by
  obtain ⟨oc,od,kV,doc,pm,an,cdv,ct,osl,rfl,lk,hcd⟩:=F.ex;exact .all (h kV doc pm an cdv ct)
def qth {x qual:Str}{st:Stmt}{f:Addr}{oc:Value}{od an:Option Addr}{osl:Array (Option Value)}{kV doc pm cdv ct:Value} (l:K.lookup f=some ⟨oc,od,.func (Ys x qual (defArgs st) (defBody st) (defScope st) .none kV doc pm an cdv ct),osl⟩)
 (c:V8 K cdv qual=true) (k:Vi K (.ref f)=true):Fun K x qual st f (Ys x qual (defArgs st) (defBody st) (defScope st) .none kV doc pm an cdv ct):=⟨⟨oc,od,kV,doc,pm,an,cdv,ct,osl,rfl,l,c⟩,k⟩
end
def qj {n:Nat} (h:n<=1000):n<Zb:=Nat.lt_of_le_of_lt h (by decide)
section
variable {X:Cx}
def pv (i:Nat) {x:Str}{pos:Pos} (hN:X.N[i]?=some x:=by rfl) (hv:Vis X.env.scope x:=by first|exact V1 rfl|exact Va (V1 rfl)|exact Va (Va rfl)) (hd:Nd0 x:=by decide)
 (hcd:Nd1 x:=by decide):PE X (.Name x pos) (qxg i):=qey hN hv hd hcd
end
def qsq {A B:Prop} (h:B):if false=true then A else B:=by
 rw [if_neg Zx];exact h
def quw {A B:Prop} (h:A):if true=true then A else B:=by
 rw [if_pos rfl];exact h
def NoT:HO->Prop
 | .tbl _=>False
 | _=>True
structure Kp (o:HO) (x:Option HO):Prop where
 to:NoT o->x=some o
 tb : ∀ ps,o = .tbl ps -> ∃ ps',x=some (.tbl ps')
def Kp.of {o:HO}{x:Option HO} (h:x=some o):Kp o x:=⟨fun _=>h,fun ps e=>⟨ps,by rw [h,e]⟩⟩
def Same (H H':Hp):Prop := ∀ b o,H b=some o->Kp o (H' b)
def zalu (o:HO):NoT o \/ ∃ ps,o = .tbl ps:=by
 cases o <;> first|exact .inr ⟨_,rfl⟩|exact .inl trivial
def Same.of {H H':Hp} (h : ∀ b o,H b=some o->H' b=some o):Same H H':=fun b o e => .of (h b o e)
def Same.at {H H':Hp} (s:Same H H') {b:Addr}{o:HO} (e:H b=some o) (n:NoT o:=by trivial):H' b=some o:=(s b o e).to n
def Same.any {H H':Hp} (s:Same H H') {b:Addr}{o:HO} (e:H b=some o) : ∃ o',H' b=some o':=by
 rcases zalu o with n|⟨ps,rfl⟩
 ·exact ⟨o,(s b o e).to n⟩
 ·obtain ⟨ps',e'⟩:=(s b _ e).tb ps rfl;exact ⟨_,e'⟩
def Same.refl (H:Hp):Same H H :=.of fun _ _ h=>h
def Same.trans {H H1 H2:Hp} (a:Same H H1) (b:Same H1 H2):Same H H2:=fun c o h=>⟨fun n=>(b c o ((a c o h).to n)).to n,fun ps e=>let ⟨ps',e'⟩:=(a c o h).tb ps e; (b c _ e').tb ps' rfl⟩
def Same.free {H H':Hp} (e:Same H H') {l:Addr} (h:H' l=Qkk):H l=Qkk:=by
 cases q:H l with
 | none=>rfl
 | some o =>
  obtain ⟨o',z⟩:=e.any q;rw [z] at h;cases h
def Same.seq {K:Qd}{H H':Hp}{a:Addr}{xs:List V} (e:Same H H') (h:SqL K H a xs):SqL K H' a xs:=by
 rcases h with (h|⟨o,h⟩)|h
 ·exact .inl (.inl (e.at h))
 ·exact .inl (.inr ⟨o,e.at h⟩)
 ·exact .inr h
end
section
mutual
def Is (K:Qd) (H:Hp):Qh->V->Prop
 | .none,v=>v = .non
 | .bool b,v=>v = .bl b
 | .int i,v=>v = .int i
 | .str x,v=>v = .str x
 | .list l,v => ∃ a xs,v = .ref a/\SqL K H a xs/\Iss K H l xs
 | .tuple l,v => ∃ a xs,v = .ref a/\SqT K H a xs/\Iss K H l xs
 | .dict l,v => ∃ a kvs,v = .ref a/\H a=some (.dK kvs)/\(!l.isEmpty) = !kvs.isEmpty
def Iss (K:Qd) (H:Hp):List Qh->List V->Prop
 | [],xs=>xs=[]
 | d::l,xs => ∃ x r,xs=x::r/\Is K H d x/\Iss K H l r
end
instance {o:HO}{x:Option HO}:Coe (x=some o) (Kp o x):=⟨Kp.of⟩
instance {l:List V}{x:Option HO}:CoeOut (Kp (.lst l) x) (x=some (.lst l)):=⟨fun k=>k.to trivial⟩
instance {l:List V}{x:Option HO}:CoeOut (Kp (.tup l) x) (x=some (.tup l)):=⟨fun k=>k.to trivial⟩
instance {l:List (Key×V)}{x:Option HO}:CoeOut (Kp (.dK l) x) (x=some (.dK l)):=⟨fun k=>k.to trivial⟩
instance {l:List (List Key×V)}{x:Option HO}:CoeOut (Kp (.dT l) x) (x=some (.dT l)):=⟨fun k=>k.to trivial⟩
instance {C d:Addr}{l:List (Str×V)}{x:Option HO}:CoeOut (Kp (.ins C d l) x) (x=some (.ins C d l)):=⟨fun k=>k.to trivial⟩
instance {f:Heap->Prop}{x:Option HO}:CoeOut (Kp (.ext f) x) (x=some (.ext f)):=⟨fun k=>k.to trivial⟩
def zajv {H H':Hp}{a:Addr}{u:HO} (s:Same H H') (h:Rd H a u) (n:NoT u:=by trivial):Rd H' a u:=by
 rcases h with h|⟨o,h⟩
 ·exact .inl (s.at h n)
 ·exact .inr ⟨o,s.at h⟩
def qX {K:Qd}{H H':Hp}{a:Addr}{xs:List V} (s:Same H H') (h:SqT K H a xs):SqT K H' a xs:=by
 rcases h with h|h
 ·exact .inl (zajv s h)
 ·exact .inr h
def qau {H:Hp}{p:Addr}{o:HO} (h:H p=none):Same H (upd H p o) :=.of fun b u e=>by
 rw [qk (qx e h)];exact e
mutual
def Is.mono {K:Qd}{H H':Hp} (s:Same H H') : ∀ {d:Qh}{v:V},Is K H d v->Is K H' d v
 | .none,_,h=>by unfold Is at h ⊢;exact h
 | .bool _,_,h=>by unfold Is at h ⊢;exact h
 | .int _,_,h=>by unfold Is at h ⊢;exact h
 | .str _,_,h=>by unfold Is at h ⊢;exact h
 | .list l,_,h=>by
  unfold Is at h ⊢;obtain ⟨a,xs,e,q,r⟩:=h;exact ⟨a,xs,e,s.seq q,Iss.mono s r⟩
 | .tuple l,_,h=>by
  unfold Is at h ⊢;obtain ⟨a,xs,e,q,r⟩:=h;exact ⟨a,xs,e,qX s q,Iss.mono s r⟩
 | .dict _,_,h=>by
  unfold Is at h ⊢;obtain ⟨a,kvs,e,q,m⟩:=h;exact ⟨a,kvs,e,s.at q,m⟩
def Iss.mono {K:Qd}{H H':Hp} (s:Same H H') : ∀ {l:List Qh}{xs:List V},Iss K H l xs->Iss K H' l xs
 | [],_,h=>by unfold Iss at h ⊢;exact h
 | d::l,_,h=>by
  unfold Iss at h ⊢;obtain ⟨x,r,e,p,q⟩:=h;exact ⟨x,r,e,Is.mono s p,Iss.mono s q⟩
end
section
variable {K:Qd}{H H':Hp}
def qtc:Is K H .none .non:=by unfold Is;rfl
def qfd (b:Bool):Is K H (.bool b) (.bl b):=by unfold Is;rfl
def qad (i:Int):Is K H (.int i) (.int i):=by unfold Is;rfl
def zagh (x:Str):Is K H (.str x) (.str x):=by unfold Is;rfl
def qfj {a:Addr}{xs:List V}{l:List Qh} (h:SqL K H a xs) (r:Iss K H l xs):Is K H (.list l) (.ref a):=by unfold Is;exact ⟨a,xs,rfl,h,r⟩
def qpf {a:Addr}{xs:List V}{l:List Qh} (h:SqT K H a xs) (r:Iss K H l xs):Is K H (.tuple l) (.ref a):=by unfold Is;exact ⟨a,xs,rfl,h,r⟩
def qay:Iss K H [] []:=by unfold Iss;rfl
def qap {d:Qh}{l:List Qh}{x:V}{xs:List V} (h:Is K H d x) (r:Iss K H l xs):Iss K H (d::l) (x::xs):=by unfold Iss;exact ⟨x,xs,rfl,h,r⟩
def Is.bl_inv {b:Bool}{v:V} (h:Is K H (.bool b) v):v = .bl b:=by unfold Is at h;exact h
def Is.int_inv {i:Int}{v:V} (h:Is K H (.int i) v):v = .int i:=by unfold Is at h;exact h
def Is.non_inv {v:V} (h:Is K H .none v):v = .non:=by unfold Is at h;exact h
def Is.lst_inv {l:List Qh}{v:V} (h:Is K H (.list l) v) : ∃ a xs,v = .ref a/\SqL K H a xs/\Iss K H l xs:=by unfold Is at h;exact h
def Is.tup_inv {l:List Qh}{v:V} (h:Is K H (.tuple l) v) : ∃ a xs,v = .ref a/\SqT K H a xs/\Iss K H l xs:=by unfold Is at h;exact h
def Is.dct_inv {l:List (Qh×Qh)}{v:V} (h:Is K H (.dict l) v) : ∃ a kvs,v = .ref a/\H a=some (.dK kvs)/\(!l.isEmpty) = !kvs.isEmpty:=by unfold Is at h;exact h
def Iss.nil_inv {xs:List V} (h:Iss K H [] xs):xs=[]:=by unfold Iss at h;exact h
def Iss.cons_inv {d:Qh}{l:List Qh}{xs:List V} (h:Iss K H (d::l) xs) : ∃ x r,xs=x::r/\Is K H d x/\Iss K H l r:=by unfold Iss at h;exact h
def Iss.len : ∀ {l:List Qh}{xs:List V},Iss K H l xs->xs.length=l.length
 | [],_,h=>by rw [h.nil_inv];rfl
 | d::l,_,h=>by
  obtain ⟨x,r,rfl,_,q⟩:=h.cons_inv;simp [Iss.len q]
def Iss.get : ∀ {l:List Qh}{xs:List V}{i:Nat}{d:Qh},Iss K H l xs->l[i]?=some d -> ∃ x,xs[i]?=some x/\Is K H d x
 | [],_,i,d,h,e=>by simp at e
 | d'::l,_,0,d,h,e=>by
  obtain ⟨x,r,rfl,p,q⟩:=h.cons_inv;simp at e;subst e;exact ⟨x,rfl,p⟩
 | d'::l,_,i+1,d,h,e=>by
  obtain ⟨x,r,rfl,p,q⟩:=h.cons_inv;obtain ⟨y,e1,e2⟩:=Iss.get q (show l[i]?=some d by simpa using e);exact ⟨y,by simpa using e1,e2⟩
def Iss.get' : ∀ {l:List Qh}{xs:List V}{i:Nat}{x:V},Iss K H l xs->xs[i]?=some x -> ∃ d,l[i]?=some d/\Is K H d x:=fun {l xs i x} h e=>by
 have hl:=h.len;have hi:i<xs.length:=(Qg.mp e).1;obtain ⟨d,hd⟩ : ∃ d,l[i]?=some d:=⟨l[i]'(by omega),Qc _⟩
 obtain ⟨y,e1,e2⟩:=h.get hd;rw [e] at e1;cases e1;exact ⟨d,hd,e2⟩
def qbn : ∀ {l m:List Qh}{xs ys:List V},Iss K H l xs->Iss K H m ys->Iss K H (l++m) (xs++ys)
 | [],m,_,ys,h,h'=>by rw [h.nil_inv];exact h'
 | d::l,m,_,ys,h,h'=>by
  obtain ⟨x,r,rfl,p,q⟩:=h.cons_inv;exact qap p (qbn q h')
def qux : ∀ {l:List Qh}{xs:List V} (n:Nat),Iss K H l xs->Iss K H (l.take n) (xs.take n)
 | _,_,0,_=>qay
 | [],_,n+1,h=>by rw [h.nil_inv];exact qay
 | d::l,_,n+1,h=>by
  obtain ⟨x,r,rfl,p,q⟩:=h.cons_inv;exact qap p (qux n q)
def qvc : ∀ {l:List Qh}{xs:List V} (n:Nat),Iss K H l xs->Iss K H (l.drop n) (xs.drop n)
 | _,_,0,h=>h
 | [],_,n+1,h=>by rw [h.nil_inv];exact qay
 | d::l,_,n+1,h=>by
  obtain ⟨x,r,rfl,p,q⟩:=h.cons_inv;exact qvc n q
def qjl : ∀ ns:List Int,Iss K H (ns.map .int) (ns.map V.int)
 | []=>qay
 | n::ns=>qap (qad n) (qjl ns)
def Iss.ints_inv : ∀ {ns:List Int}{xs:List V},Iss K H (ns.map .int) xs->xs=ns.map V.int
 | [],_,h=>h.nil_inv
 | n::ns,_,h=>by
  obtain ⟨x,r,rfl,p,q⟩:=h.cons_inv;rw [p.int_inv,Iss.ints_inv q];rfl
end
section
variable {X:Cx}{pins:List (Addr×Obj)}{σ:St}{H:Hp}{s:Qk}
mutual
def Is.reads (I:Inv X pins σ H s) : ∀ {d:Qh}{x:V}{u:Value},d.canLay0=true->Is X.K H d x->RelV x u -> ∃ as,Reads s.heap u d as
 | .none,_,u,_,h,r=>by
  rw [h.non_inv] at r;cases r;exact ⟨_,.none⟩
 | .bool b,_,u,_,h,r=>by
  rw [h.bl_inv] at r;cases r;exact ⟨_,.bool b⟩
 | .int i,_,u,_,h,r=>by
  rw [h.int_inv] at r;obtain ⟨t,rfl⟩:=r;exact ⟨_,.int i t⟩
 | .str x,_,u,_,h,r=>by
  unfold Is at h;subst h;obtain ⟨t,rfl⟩:=r;exact ⟨_,.str x t⟩
 | .list l,_,u,z,h,r=>by
  obtain ⟨a,xs,rfl,q,p⟩:=h.lst_inv;cases r;obtain ⟨its,rv,pl,_⟩:=I.list q;obtain ⟨o,ho,hc,n,hd⟩:=pl.isList;obtain ⟨as,ra⟩:=Iss.reads I (by simpa [Qal] using z) p rv;exact ⟨_,.list ho hc hd (by rw [Qgl];exact ra)⟩
 | .tuple l,_,u,z,h,r=>by
  obtain ⟨a,xs,rfl,q,p⟩:=h.tup_inv;cases r;obtain ⟨its,rv,pl,_⟩:=I.tuple q;obtain ⟨o,ho,hc,n,hd⟩:=pl;obtain ⟨as,ra⟩:=Iss.reads I (by simpa [Qal] using z) p rv;exact ⟨_,.tuple ho hc hd (by rw [Qgl];exact ra)⟩
 | .dict _,_,u,z,h,r=>by simp [Qal] at z
def Iss.reads (I:Inv X pins σ H s) : ∀ {l:List Qh}{xs:List V}{us:List Value},Jg l=true->Iss X.K H l xs->Vals xs us -> ∃ as,ReadsAll s.heap us l as
 | [],_,us,_,h,r=>by
  rw [h.nil_inv] at r;cases r;exact ⟨_,.nil⟩
 | d::l,_,us,z,h,r=>by
  have z':d.canLay0=true/\Jg l=true:=by simpa [Jg] using z
  obtain ⟨x,y,rfl,p,q⟩:=h.cons_inv;cases r with
  | cons r1 r2 =>
   obtain ⟨as,ra⟩:=Is.reads I z'.1 p r1;obtain ⟨bs,rb⟩:=Iss.reads I z'.2 q r2;exact ⟨_,.cons ra rb⟩
end
end
section
variable {X:Cx}
def rEqD (K:Qd):R2:=fun x y H Q => ∃ d e,Is K H d x/\Is K H e y/\V2 d=true/\V2 e=true/\Q (.bl (Qba d e)) H
def rNeD (K:Qd):R2:=fun x y H Q => ∃ d e,Is K H d x/\Is K H e y/\V2 d=true/\V2 e=true/\Q (.bl (!PyData.eqv d e)) H
def zann (hu:X.A.units+64<cLine):OpR X (Yl .Eq) (rEqD X.K):=by
 intro pins s σ H x y v u Q I rx ry h;obtain ⟨d,e,h1,h2,z1,z2,q⟩:=h;obtain ⟨as,ra⟩:=Is.reads I (Y9.mp z1).1 h1 rx;obtain ⟨bs,rb⟩:=Is.reads I (Y9.mp z2).1 h2 ry;exact SeqAt.compareEq_shaped ra rb z1 z2 hu ⟨.bl (Qba d e),H,I,rfl,q⟩
def zamk (hu:X.A.units+64<cLine):OpR X (Yl .NotEq) (rNeD X.K):=by
 intro pins s σ H x y v u Q I rx ry h;obtain ⟨d,e,h1,h2,z1,z2,q⟩:=h;obtain ⟨as,ra⟩:=Is.reads I (Y9.mp z1).1 h1 rx;obtain ⟨bs,rb⟩:=Is.reads I (Y9.mp z2).1 h2 ry;exact SeqAt.compareNe_shaped ra rb z1 z2 hu ⟨.bl (!PyData.eqv d e),H,I,rfl,q⟩
def zajt:OpR X (Vp .Mult) (rI IntMulOk fun i j => .int (i*j)):=opI fun _ _ _ _ _ _ _ hc q=>mul_int q hc
def zakk (_ j:Int):Prop:=j≠0/\Qau j<=9000
def qvm:OpR X (Vp .FloorDiv) (rI zakk fun i j => .int (i.fdiv j)):=opI fun i j _ _ _ _ _ hc q=>by
 refine floordiv_int hc.1 q (.inl (PyProof.noPylong_of_log2 ?_));have h:=hc.2;unfold Qau at h;rw [if_neg (by simpa using hc.1)] at h;omega
def zapn (K:Qd):R2:=fun x y H Q => ∃ a b xs zs,x = .ref a/\y = .ref b/\SqL K H a xs/\SqL K H b zs/\xs.length+zs.length<=Zb /\
 ∀ p,H p=none->Q (.ref p) (upd H p (.lst (xs++zs)))
def qye:OpR X (Vp .Add) (zapn X.K):=by
 intro pins s σ H x y v u Q I rx ry h;obtain ⟨a,b,xs,zs,rfl,rfl,hA,hB,hz,q⟩:=h;cases rx;cases ry;obtain ⟨its,r,pl,z1⟩:=I.list hA;obtain ⟨its2,r2,pl2,z2⟩:=I.list hB;have l1:=r.length;have l2:=r2.length;obtain ⟨⟨cls,dd,data,sl⟩,ho,hc,n,hd⟩:=pl.isList;obtain ⟨⟨cls2,dd2,data2,sl2⟩,ho2,hc2,n2,hd2⟩:=pl2.isList;simp only at hc hd hc2 hd2;subst hc hd hc2 hd2;have e:its.toArray++its2.toArray=(its++its2).toArray:=by simp
 refine Qij ⟨_,ho,rfl⟩ ⟨_,ho2,rfl⟩ noFill_list_add seq_list_add PySem.F.slot_list_add PySem.F.entry_list_add (PySem.F.args_list_add_2 _ _) (list_addW a b its.toArray its2.toArray n n2 dd dd2 sl sl2 (by simp only [Qz];omega)) ⟨ho,ho2,?_⟩;rw [e];exact ⟨.ref _,_,I.lnew (t':=s.toks) (r.append r2) (by rw [Yk];omega),rfl,q _ I.fresh⟩
def tyD:Qh->String
 | .none => "NoneType"
 | .bool _ => "bool"
 | .int _ => "int"
 | .str _ => "str"
 | .list _ => "list"
 | .tuple _ => "tuple"
 | .dict _ => "dict"
def zacu {pins:List (Addr×Obj)}{σ:St}{H:Hp}{s:Qk}{A:Zw}{E:Value->Qk->Prop}{Q:Value->Qk->Prop}{c:Value}{b:Bool}{d:Qh}{x:V}{u:Value}
 (I:Inv X pins σ H s) (hd:Is X.K H d x) (rx:RelV x u) (e:Ju X.K (.type (tyD d)) c=some b) (h : ∀ tk,Q (.bool b) { s with toks:=tk }) :
  wpAny (model X.prog X.w) A (call (.builtin "isinstance") [u,c]) Q E s:=by
  cases d with
  | none=>rw [hd.non_inv] at rx;cases rx;exact Vx PySem.W.kitx_none I.kIn Qbu e (fun z=>nomatch z) h
  | bool y=>rw [hd.bl_inv] at rx;cases rx;exact Vx PySem.W.kitx_bool I.kIn Qbu e (fun z=>nomatch z) h
  | int i=>rw [hd.int_inv] at rx;obtain ⟨t,rfl⟩:=rx;exact Vx PySem.W.kitx_int I.kIn Qbu e (fun z=>nomatch z) h
  | str y =>
   unfold Is at hd;subst hd;obtain ⟨t,rfl⟩:=rx;exact Vx PySem.W.kitx_str I.kIn Qbu e (fun z=>nomatch z) h
  | list l =>
   obtain ⟨a,xs,rfl,q,_⟩:=hd.lst_inv;cases rx;obtain ⟨its,_,pl,_⟩:=I.list q;obtain ⟨o,ho,hc,_⟩:=pl.isList;exact Vx PySem.W.kitx_list I.kIn ⟨o,ho,hc⟩ e (fun z=>nomatch z) h
  | tuple l =>
   obtain ⟨a,xs,rfl,q,_⟩:=hd.tup_inv;cases rx;obtain ⟨its,_,pl,_⟩:=I.tuple q;obtain ⟨o,ho,hc,_⟩:=pl;exact Vx PySem.W.kitx_tuple I.kIn ⟨o,ho,hc⟩ e (fun z=>nomatch z) h
  | dict l =>
   obtain ⟨a,kvs,rfl,q,_⟩:=hd.dct_inv;cases rx;obtain ⟨_,_,vs,_,p⟩:=(show ObjOk X.prog X.w H s.heap a (.dK kvs) from I.hok a _ q)
   obtain ⟨o,es,ep,h1,h2,_⟩:=p;exact Vx PySem.W.kitx_dict I.kIn ⟨o,h1,h2.1⟩ e (fun z=>nomatch z) h
def rIsD (K:Qd):List V->Hp->VK->Prop:=fun xs H Q => ∃ d x n b,xs=[x,.ty n]/\Is K H d x/\Ju K (.type (tyD d)) (.type n)=some b/\Q (.bl b) H
def zafe:CallR X (.builtin "isinstance") (rIsD X.K):=by
 intro pins s σ H xs us Q I r h;obtain ⟨d,x,n,b,rfl,hd,e,q⟩:=h;obtain ⟨u,c,rfl,rx,rc⟩:=zacl r;cases rc;exact zacu I hd rx e fun tk=>⟨.bl b,H,I.tok tk,rfl,q⟩
def Iss.atI {K:Qd}{H:Hp}{l:List Qh}{xs:List V}{i:Int}{d:Qh} (h:Iss K H l xs) (e:L2.atI l i=some d) : ∃ x,L2.atI xs i=some x/\Is K H d x:=by
 unfold L2.atI at e ⊢;rw [h.len];cases q:ixN l.length i with
 | none=>rw [q] at e;cases e
 | some j =>
  rw [q] at e;exact h.get e
end
def Ite (K:Qd) (a:Addr):It :=
 ⟨fun i H => ∃ xs x,SqL K H a xs/\xs[i]?=some x,fun i H v H' => ∃ p x,(∀ xs,SqL K H a xs->xs[i]?=some x)/\H p=none/\v = .ref p/\H'=upd H p (.tup [.int i,x]),fun i H => ∃ xs,SqL K H a xs/\xs.length<=i⟩
def zaay {P:Zi}{w:World}{K:Qd}{elts:List Expr}{x1:Nat}{tpos:Pos} (a e it:Addr) (hne:e≠it) :
 Turn P w K (.Tuple elts x1 tpos) (Ite K a) [e,it] e (fun i h=>(∃ old,IsEnum h e it (i:Nat) old)/\h.IsListIter it a i) where
  mem:=by simp
  obj:=fun i h st b hb=>by
   obtain ⟨⟨old,s1⟩,s2⟩:=st;have hb':b=e\/b=it:=by simpa using hb
   rcases hb' with rfl|rfl
   ·exact ⟨_,s1,fun v z=>by have z':Qix _=Qkd v:=z;cases z'⟩
   ·obtain ⟨o,q,c,d⟩:=s2;exact ⟨o,q,fun v z=>by rw [d] at z;cases z⟩
  keep:=fun i h h' st k=>by
   obtain ⟨⟨old,s1⟩,s2⟩:=st;exact ⟨⟨old,k e (by simp) _ s1⟩,s2.at fun o q=>k it (by simp) o q⟩
  item:=by
   intro X hP hw hK hc i pins s σ H E I hf st hg;subst hP hw hK;obtain ⟨xs,x,hq,hx⟩:=hg;obtain ⟨its,rv,p,hz⟩:=I.list hq;obtain ⟨u,hu,ru⟩:=rv.get hx;obtain ⟨⟨old,s1⟩,s2⟩:=st;obtain ⟨f0,f1,f2,f3,f4,f5⟩:=hf e (by simp);obtain ⟨g0,g1,g2,g3,g4,g5⟩:=hf it (by simp);have hel:e<s.heap.objs.size:=Qw s1;refine wpAny_pyNext_enum_item s1 s2 p.isList (x:=u) (by simpa using hu) hne fun h₁ ho hi ht hz₁ hk=>⟨_,rfl,?_⟩
   refine wpAny_letOwnedTupleGo_enum (s:={ s with heap:=h₁,toks:=s.toks+1 }) ho fun h₂ he₂ hs₂=>?_;replace hs₂:Qay e h₁ h₂:=hs₂
   have fresh:H s.heap.objs.size=none:=I.hok.fresh (Qr _);have kk : ∀ b o,b≠e->b≠it->s.heap.get? b=some o->h₂.get? b=some o:=fun b o b1 b2 q=>hs₂.extBut b o b1 (hk b o b1 b2 q);have nb : ∀ b v,H b=some v->b≠e/\b≠it:=fun b v q=>⟨fun z=>(by rw [z,f0] at q;cases q),fun z=>(by rw [z,g0] at q;cases q)⟩
   have ht₂:h₂.get? s.heap.objs.size=some { cls :=.type "tuple",data :=.seq #[.int i s.toks,u] }:=(hs₂.2 _ (Yr hel)).trans ht;have I1:Inv X pins σ (upd H s.heap.objs.size (.tup [.int i,x])) { s with heap:=h₂,toks:=s.toks+1 }:=by
    refine I.step (g':=s.gens) (d':=s.drawn) (ch:=[e,it]) (fun b hb=>?_) (fun b o _ _ hc q _=>kk b o (fun z=>hc (by simp [z])) (fun z=>hc (by simp [z])) q)
     (fun b o _ _ hc q _=>⟨o.slots,kk b o (fun z=>hc (by simp [z])) (fun z=>hc (by simp [z])) q⟩) (fun b o _ q n=>by rw [qk (Za (Qw q))];exact n)
     (fun b o hc q=>⟨o,kk b o (fun z=>hc (by simp [z])) (fun z=>hc (by simp [z])) q⟩) (fun b ys q=>by rw [qk (qx q fresh)];exact q) (fun b o v q=>by rw [qk (qx q fresh)];exact q)
     (fun b ps q=>⟨#[],by rw [qk (qx q fresh),q];simp,.nil⟩) (fun m hm=>?_) (fun b v q=>?_) I.bare
    ·have hb':b=e\/b=it:=by simpa using hb
     rcases hb' with rfl|rfl
     ·exact ⟨f3,f1,f4,f5⟩
     ·exact ⟨g3,g1,g4,g5⟩
    ·obtain ⟨o,es,ep,ho',r⟩:=hm;exact ⟨o,es,ep,kk _ o (V7 f1) (V7 g1) ho',r⟩
    ·by_cases hb:b=s.heap.objs.size
     ·subst hb;rw [qp] at q;cases q;exact ⟨(by show 2<=Zb;decide),[.int i s.toks,u],.cons ⟨s.toks,rfl⟩ (.cons ru .nil),⟨_,ht₂,rfl,_,rfl⟩⟩
     ·rw [qk hb] at q;refine (I.hok b v q).stay (fun c ob hc z=>?_) (fun c z=>by rw [qk (qx z fresh)];exact z) fun c ys z=>by rw [qk (qx z fresh)];exact z
      rcases hc with hc|hc
      ·subst hc;exact kk _ _ (nb _ _ q).1 (nb _ _ q).2 z
      ·exact kk _ _ (nb _ _ hc).1 (nb _ _ hc).2 z
   refine ⟨.ref s.heap.objs.size,_,I1,rfl,⟨s.heap.objs.size,x,fun ys hy=>by rw [I.list_inj hy hq];exact hx,fresh,rfl,rfl⟩,⟨⟨u,?_⟩,?_⟩,fun b hb=>?_⟩
   ·have e1:((i+1:Nat):Int)=(i:Int)+1:=by push_cast;rfl
    rw [e1];exact he₂
   ·exact hi.extBut hs₂.extBut (V7 hne)
   ·have hb':b=e\/b=it:=by simpa using hb
    have hlt:b<s.heap.objs.size:=by
     rcases hb' with rfl|rfl
     ·exact hel
     ·obtain ⟨o,q,_⟩:=s2;exact Qw q
    rw [qk (Za hlt)];exact (hf b hb).1
  done:=by
   intro X hP hw hK hc i pins s σ H E I hf st hg;subst hP hw hK;obtain ⟨xs,hq,hx⟩:=hg;obtain ⟨its,rv,p,hz⟩:=I.list hq;obtain ⟨⟨old,s1⟩,s2⟩:=st;obtain ⟨g0,g1,g2,g3,g4,g5⟩:=hf it (by simp);have hl:=rv.length;exact wpAny_pyNext_enum_end (I.ok.hd hc) s1 s2 p.isList (by simp;omega) fun h' eb=>⟨rfl,I.turned (t':=s.toks) (fun b o hb q=>eb b o hb q) g0 g1 g3 g4 g5⟩
  self:=fun A i s Q E st h=>by
   obtain ⟨⟨old,s1⟩,s2⟩:=st;exact wpAny_pyIter_enum s1 h
section
variable {X:Cx}{elts:List Expr}{x1:Nat}{tpos:Pos}
def zaqi (K:Qd) (ta:TA):TI:=fun σ H R=>ta σ H fun vs H1 => ∃ a,vs=[.ref a]/\(∃ xs,SqL K H1 a xs)/\R (Ite K a) H1
def zajo {a:Expr}{ta:TA}{p pos:Pos} (hg:Gl X "enumerate") (hm:X.mg "enumerate" = none) (ha:PA X [a] ta) (hs:Qu [a] X.env=[(false,eval a X.env)]:=by rfl) :
 PI X (.Tuple elts x1 tpos) (.Call (.Name "enumerate" p) [a] [] pos) (zaqi X.K ta):=by
 intro pins s σ H R I h;refine Call_ (qgk I hg hm boot_enumerate (Y2 (thn (ha pos pins s σ H _ I h) fun us s1 xx49=>?_) hs rfl));obtain ⟨vs,H1,I1,r1,q1⟩:=xx49;obtain ⟨l,e,⟨xs,hq⟩,q⟩:=q1;subst e;cases r1 with
 | cons r rr =>
  cases rr;cases r;obtain ⟨its,rv,pl,hz⟩:=I1.list hq;refine call_enumerate_list pl.isList fun h' he hi hz' hk=>?_;refine wpAny_pyIter_enum he ?_;have I2:Inv X pins σ H1 { s1 with heap:=h' }:=I1.kept (t':=s1.toks) hk;refine ⟨s1.heap.objs.size+1,[s1.heap.objs.size+1,s1.heap.objs.size],_,_,H1,rfl,I2,zaay l _ _ (Nat.succ_ne_self _),⟨⟨_,he⟩,hi⟩,fun b hb=>?_,q⟩;have hb':b=s1.heap.objs.size+1\/b=s1.heap.objs.size:=by simpa using hb
  have hle:s1.heap.objs.size<=b:=by
   rcases hb' with rfl|rfl
   ·exact Qbv _
   ·exact Qr _
  exact I1.fpOk hle (I1.hok.fresh hle)
end
def szl {α:Type}{l:List α} (h:decide (l.length<=1000)=true:=by rfl):l.length<=Zb:=Yi (qj (of_decide_eq_true h))
def qrz (i j:Int):Qba (.int i) (.int j)=(i==j):=by simp only [Qba]
def qig {i j:Int}{A B:Prop} (h1:i≠j->A) (h2:i=j->B):if (!PyData.eqv (.int i) (.int j))=true then A else B:=by
 rw [qrz];by_cases h:i=j
 ·subst h;simpa using h2 rfl
 ·have e:(i==j)=false:=by simpa using h
  rw [e];simpa using h1 h
def qmd {i j:Int}{A B:Prop} (h1:i=j->A) (h2:i≠j->B):if (Qba (.int i) (.int j))=true then A else B:=by
 rw [qrz];by_cases h:i=j
 ·subst h;simpa using h1 rfl
 ·have e:(i==j)=false:=by simpa using h
  rw [e];simpa using h2 h
def qmm {p A B:Prop} [Decidable p] (h1:p->A) (h2 : ¬ p->B):if decide p=true then A else B:=by
 by_cases h:p
 ·simpa [h] using h1 h
 ·simpa [h] using h2 h
def qvg {ns:List Int}{i:Int} (h0:0<=i) (h1:i<ns.length) : ∃ n,L2.atI (ns.map Q2) i=some (.int n):=by
 have hi:i.toNat<ns.length:=by omega
 refine ⟨ns[i.toNat],?_⟩;have e:(ns.map Q2)[i.toNat]?=some (.int ns[i.toNat]):=by simp [hi]
 have:=qbl e
 rwa [Jm h0] at this
def boot_abs:Zv "abs" = some (.builtin "abs"):=by decide +kernel
def boot_max:Zv "max" = some (.builtin "max"):=by decide +kernel
def boot_min:Zv "min" = some (.builtin "min"):=by decide +kernel
def boot_len:Zv "len" = some (.builtin "len"):=by decide +kernel
def qgh:Zv "isinstance" = some (.builtin "isinstance"):=by decide +kernel
def boot_int:Zv "int" = some (.type "int"):=by decide +kernel
def boot_bool:Zv "bool" = some (.type "bool"):=by decide +kernel
def boot_tuple:Zv "tuple" = some (.type "tuple"):=by decide +kernel
def boot_list:Zv "list" = some (.type "list"):=by decide +kernel
section
variable {K:Qd}
end
structure Def (K:Qd) (mg:Str->Option Value) (x:Str) (st:Stmt) (ps:List Str):Prop where
 ex : ∃ (f:Addr) (fd:Vy),Fun K x x st f fd/\mg x=some (.ref f)/\Binds K fd ps []
structure Ok (P:Zi) (w:World) (K:Qd) (mg:Str->Option Value) (base:Heap) (x:Str) (k:Nat) (ps:List Str) (sp:Sp):Prop where
 ex : ∃ (f:Addr) (fd:Vy),FnOk P w K mg base CX0 k f fd ps sp/\mg x=some (.ref f)/\Vi K (.ref f)=true/\Binds K fd ps []
section
variable {P:Zi}{w:World}{K:Qd}{mg:Str->Option Value}{base:Heap}
def Def.ok {x:Str}{st:Stmt}{N ps:List Str}{k:Nat}{sp:Sp} (F:Def K mg x st ps) (S:FnScope N ps (defScope st)) (len : ∀ vs H Q E,sp vs H Q E->vs.length=ps.length)
 (hbody : ∀ (f:Addr) (cdv:Value) (A:Zw) (outer:List Env) (s:Qk) (H:Hp) (vs:List V) (Q:VK) (E:XK),Room k (A.deeper (Qch x (defScope st) s.heap.objs.size f cdv))->sp vs H Q E ->
 ∃ t,PSs (qei CX0 P w K mg base N x (defScope st) f cdv A outer s H E).nox (defBody st) t/\t { nx:=fun _ H'=>Q .non H',rt:=Q } (start N vs) H):Ok P w K mg base x (k+1) ps sp:=by
  obtain ⟨f,fd,Fn,hm,hb⟩:=F.ex;exact ⟨f,fd,Fn.ok S len (hbody f),hm,Fn.kp,hb⟩
end
section
variable {X:Cx}{x:Str}{k:Nat}{ps:List Str}{sp:Sp}{p pos:Pos}{e:Expr}{es:List Expr}{t:TA}
structure OkC (X:Cx) (x:Str) (k:Nat) (ps:List Str) (sp:Sp):Prop where
 ex : ∃ sp0,Ok X.prog X.w X.K X.mg X.base x k ps sp0 /\ ∀ (pins:List (Addr×Obj)) (σ:St) (H:Hp) (s:Qk) (vs:List V) (Q:VK) (E:XK),Inv X pins σ H s->sp vs H Q E->sp0 vs H Q E
def Ok.c (O:Ok X.prog X.w X.K X.mg X.base x k ps sp):OkC X x k ps sp:=⟨sp,O,fun _ _ _ _ _ _ _ _ h=>h⟩
def zace (O:OkC X x k ps sp) (hr:Room k X.A) (ha:PA X (e::es) t) (hg:Gl X x:=by rfl) (hdb:Nd0 x:=by decide)
 (he:Qu (e::es) X.env=(false,eval e X.env)::Qu es X.env:=by rfl) (hpl:(Ja pos (Qu es X.env)).any (·.1)=false:=by rfl):PE X (.Call (.Name x p) (e::es) [] pos) (qpz sp [] E0 t):=by
 obtain ⟨sp0,⟨f,fd,F,hm,hk,hb⟩,up⟩:=O.ex;intro pins s σ H Q I h;refine V6 (qki I hg hm ?_ hdb);refine Qgw (h₀:=X.base) I.ok.mod.kin hk (thn (ha pos pins s σ H _ I h) fun us s1 ⟨vs,H1,I1,r,q⟩=>⟨I1.kIn,?_⟩) he hpl;exact zalz F hr hb .nil zapr I1 r (up _ _ _ _ _ _ _ I1 q)
def qqk {o:Expr}{to:TE}{te:TE}{apos cpos:Pos} (ho:PE X o to) (he:PE X e te) (hbase:Qcw o "append" X.env (eval o X.env)=eval o X.env:=by rfl)
 (hfew:((Ja cpos (Qu [e] X.env)).all (fun x => !x.1)&&(Qiu cpos (Qer [] X.env)).all (fun x=>x.1.isSome)
  && decide ([e].length+([]:List Qdx).length+(if ([]:List Qdx).isEmpty then 0 else 1)<30))=true:=by rfl)
 (hline:(apos.endLine==cpos.line)=true:=by rfl) (hs:Qu [e] X.env=(false,eval e X.env)::Qu [] X.env:=by rfl) (hplain:(Ja cpos (Qu [] X.env)).any (·.1)=false:=by rfl) :
 PE X (.Call (.Attribute o "append" apos) [e] [] cpos) (tBM X.K "list" qsh to (zagt te tNil)) :=
 zaqk PySem.F.plainAttrs_list Qeb PySem.F.type_list_append zabm ho (qav he qeu hs) hbase hfew hline hs hplain
end
end
section
def qlp (cells:List (Str×Addr)):List (Str×Jr)->List (Str×Addr)->List (Str×Addr)
 | [],acc=>acc
 | (n,k)::r,acc=>if (k == .free)=true then (match cells.lookup n with|some c=>qlp cells r ((n,c)::acc)|none=>qlp cells r acc) else qlp cells r acc
def qhk {cells:List (Str×Addr)} : ∀ {names:List (Str×Jr)}{acc:List (Str×Addr)}{p:Str×Addr},p ∈ qlp cells names acc->p ∈ acc\/cells.lookup p.1=some p.2
 | [],acc,p,h => .inl h
 | (n,k)::r,acc,p,h=>by
  unfold qlp at h;split at h
  ·split at h
   ·rename_i c hc;rcases qhk h with h|h
    ·rcases Qs.mp h with h|h
     ·subst h;exact .inr hc
     ·exact .inl h
    ·exact .inr h
   ·exact qhk h
  ·exact qhk h
def qhd {cells:List (Str×Addr)} : ∀ {names:List (Str×Jr)}{acc:List (Str×Addr)}{x:Str},((∃ c,(x,c) ∈ acc)\/((x,Qgx) ∈ names /\ ∃ c,cells.lookup x=some c)) -> ∃ c,(x,c) ∈ qlp cells names acc
 | [],acc,x,h=>by
  rcases h with h|h
  ·exact h
  ·exact absurd h.1 (by simp)
 | (n,k)::r,acc,x,h=>by
  unfold qlp;split
  ·rename_i hk;split
   ·rename_i c hc;refine qhd ?_;rcases h with ⟨d,h⟩|⟨h,d,hd⟩
    ·exact .inl ⟨d,Qm _ h⟩
    ·rcases Qs.mp h with h|h
     ·cases h;exact .inl ⟨c,by simp⟩
     ·exact .inr ⟨h,d,hd⟩
   ·rename_i hc;refine qhd ?_;rcases h with h|⟨h,d,hd⟩
    ·exact .inl h
    ·rcases Qs.mp h with h|h
     ·cases h;rw [hd] at hc;cases hc
     ·exact .inr ⟨h,d,hd⟩
  ·rename_i hk;refine qhd ?_;rcases h with h|⟨h,d,hd⟩
   ·exact .inl h
   ·rcases Qs.mp h with h|h
    ·cases h;exact absurd rfl hk
    ·exact .inr ⟨h,d,hd⟩
def qoy {x:Str}{c:Addr} : ∀ {names:List (Str×Jr)}{n:Nat}{acc:List (Str×Addr)},(Vn n names acc).lookup x=some c->(n<=c/\(x,V3) ∈ names)\/acc.lookup x=some c
 | [],_,_,h => .inr h
 | (y,k)::r,n,acc,h=>by
  unfold Vn at h;split at h
  ·rename_i hk;rcases qoy h with ⟨h1,h2⟩|h1
   ·exact .inl ⟨by omega,Qm _ h2⟩
   ·by_cases e:x=y
    ·subst e;have hb:(x==x)=true:=by simp
     rw [Zj,hb] at h1;have hk':k = .cell:=by simpa using hk
     subst hk';cases h1;exact .inl ⟨Qr _,by simp⟩
    ·have hb:(x==y)=false:=by simpa using e
     rw [Zj,hb] at h1;exact .inr h1
  ·rcases qoy h with ⟨h1,h2⟩|h1
   ·exact .inl ⟨h1,Qm _ h2⟩
   ·exact .inr h1
def qxx {x:Str} : ∀ {names:List (Str×Jr)}{n:Nat}{acc:List (Str×Addr)},(x,V3) ∉ names->(Vn n names acc).lookup x=acc.lookup x
 | [],_,_,_=>rfl
 | (y,k)::r,n,acc,h=>by
  have hr:(x,V3) ∉ r:=fun z=>h (Qm _ z);unfold Vn;split
  ·rename_i hk;have hk':k = .cell:=by simpa using hk
   subst hk';have e:x≠y:=fun z=>h (by rw [z];simp);have hb:(x==y)=false:=by simpa using e
   rw [qxx hr,Zj,hb]
  ·exact qxx hr
def qow {x:Str}{c lo:Nat} : ∀ {names:List (Str×Jr)}{n:Nat}{acc:List (Str×Addr)},lo<=n->((x,V3) ∈ names \/ ∃ a,acc.lookup x=some a/\lo<=a)->(Vn n names acc).lookup x=some c->lo<=c
 | [],_,acc,_,h,e=>by
  rcases h with h|⟨a,h1,h2⟩
  ·simp at h
  ·have e:acc.lookup x=some c:=e;rw [h1] at e;cases e;exact h2
 | (y,k)::r,n,acc,hn,h,e=>by
  unfold Vn at e;split at e
  ·rename_i hk;refine qow (lo:=lo) (by omega) ?_ e;by_cases z:x=y
   ·subst z;have hb:(x==x)=true:=by simp
    exact .inr ⟨n,by rw [Zj,hb],hn⟩
   ·have hb:(x==y)=false:=by simpa using z
    rcases h with h|⟨a,h1,h2⟩
    ·rcases Qs.mp h with h|h
     ·cases h;exact absurd rfl z
     ·exact .inl h
    ·exact .inr ⟨a,by rw [Zj,hb];exact h1,h2⟩
  ·rename_i hk;refine qow hn ?_ e;rcases h with h|h
   ·rcases Qs.mp h with h|h
    ·cases h;exact absurd rfl hk
    ·exact .inl h
   ·exact .inr h
def qxm {x y:Str}{c:Addr} : ∀ {names:List (Str×Jr)}{n:Nat}{acc:List (Str×Addr)},(∀ z a,acc.lookup z=some a->a<n)->n<=c->(Vn n names acc).lookup x=some c->(Vn n names acc).lookup y=some c->x=y
 | [],n,acc,hA,hn,h,_=>absurd (hA x c h) (Vo.mpr hn)
 | (w,k)::r,n,acc,hA,hn,h,h'=>by
  unfold Vn at h h';split at h
  ·rename_i hk;rw [if_pos hk] at h';have hA' : ∀ z a,((w,n)::acc).lookup z=some a->a<n+1:=fun z a q=>by
    rw [Zj] at q;split at q
    ·cases q;exact Qck _
    ·exact Vf (hA z a q)
   have at_n : ∀ z,((w,n)::acc).lookup z=some n->z=w:=fun z q=>by
    rw [Zj] at q;split at q
    ·rename_i hb;exact beq_iff_eq.mp hb
    ·exact absurd (hA z n q) (Jl _)
   by_cases e:c=n
   ·subst e;have a1:x=w:=by
     rcases qoy h with ⟨q,_⟩|q
     ·exact absurd q (Qfz _)
     ·exact at_n x q
    have a2:y=w:=by
     rcases qoy h' with ⟨q,_⟩|q
     ·exact absurd q (Qfz _)
     ·exact at_n y q
    rw [a1,a2]
   ·exact qxm hA' (Qgy hn (V7 e)) h h'
  ·rename_i hk;rw [if_neg hk] at h';exact qxm hA hn h h'
def qsj {x:Str}{c:Addr} : ∀ {names:List (Str×Jr)}{h:Heap}{acc:List (Str×Addr)},(Vn h.objs.size names acc).lookup x=some c->acc.lookup x=some c\/(Qci h names).IsCell c none
 | [],_,_,e => .inl e
 | (y,k)::r,h,acc,e=>by
  unfold Vn at e;unfold Qci;split at e
  ·rename_i hk;rw [if_pos hk];have e':(Vn (h.push { cls :=.type "cell",data :=.cell none }).objs.size r ((y,h.objs.size)::acc)).lookup x=some c:=by rw [Vs];exact e
   rcases qsj e' with q|q
   ·rw [Zj] at q;split at q
    ·have q:=Qn q;subst q;exact .inr ⟨_,Qft _ _ _ _ (Q8 _ rfl),rfl⟩
    ·exact .inl q
   ·exact .inr q
  ·rename_i hk;rw [if_neg hk];exact qsj e
def zaax {M:Model}{A:Zw}{E:Value->Qk->Prop}{s:Qk}{scope:Scope}{globals:Addr}{cl:List (Str×Addr)}{qual:Str}{outer:Env}{Q:Env->Qk->Prop}
 (hQ:Q (newEnv scope s.heap.objs.size globals (Vn (s.heap.objs.size+1) scope.names cl) qual none .none (some outer) Qcy) { s with heap:=Qci (s.heap.push { cls :=.type "dict",data :=.dict #[] }) scope.names }) :
  wpAny M A (Qcc scope globals cl [] qual none .none (some outer)) Q E s:=by
  simp only [Qcc,Qgz,if_true];refine Qj (wpAny_alloc ?_);refine Qj (wpAny_layCells _ (fun name kind cells=>by cases hkc:kind==V3 <;> simp [hkc]) _ _ _ _ ?_);rw [show ({ s with heap:=s.heap.push { cls :=.type "dict",data :=.dict #[] } }:Qk).heap.objs.size=s.heap.objs.size+1 from Vs ..];rw [Qjk];exact Qj (Q1 (Q1 hQ))
structure CompScope (env:Env) (scope:Scope) (caps:List Str):Prop where
 clos:Qia scope env=pure (qlp env.cells scope.names [])
 kind:scope.kind = .function
 cells:scope.names.all (fun y => !(y.2 == .cell)||scope.names.lookup y.1==some .cell)=true
 names:scope.names.all (fun y => !(y.2 == .local)||scope.names.lookup y.1==some .local)=true
 free:scope.names.all (fun y => !(y.2 == .free)||(env.cells.lookup y.1).isSome)=true
 cap:caps.all (fun x=>scope.names.lookup x==some .free&&(env.scope.names.lookup x==some .cell||env.scope.names.lookup x==some .free))=true
def qfy {β:Type} : ∀ {l:List (Str×β)}{x:Str}{c:β},l.lookup x=some c->(x,c) ∈ l:=fun h=>Ve h
def qnn : ∀ {l:List (Str×Addr)}{x:Str}{c:Addr},(x,c) ∈ l -> ∃ d,l.lookup x=some d
 | [],_,_,h=>by simp at h
 | (y,d)::r,x,c,h=>by
  by_cases e:x=y
  ·subst e;exact ⟨d,by simp⟩
  ·have hb:(x==y)=false:=by simpa using e
   rcases Qs.mp h with h|h
   ·cases h;exact absurd rfl e
   ·obtain ⟨d',hd⟩:=qnn h;exact ⟨d',by rw [Zj,hb];exact hd⟩
section
variable {env:Env}{scope:Scope}{caps:List Str}
abbrev clOf (scope:Scope) (env:Env):List (Str×Addr):=qlp env.cells scope.names []
def CompScope.sub (S:CompScope env scope caps) {x:Str}{c:Addr} (h:(clOf scope env).lookup x=some c):env.cells.lookup x=some c:=by
 rcases qhk (qfy h) with h|h
 ·simp at h
 ·exact h
def qgq {x:Str}{k:Jr} (h:(Qjh scope env).names.lookup x=some k) : ∃ k',(x,k') ∈ scope.names/\(k'=k\/(k' = .free/\k = .cell)):=by
 have hm:=qfy h;obtain ⟨⟨n,k0⟩,h1,h2⟩:=Ql.mp hm;dsimp only at h2;split at h2
 ·rename_i hc;cases h2;have:k0 = .free:=by
   have:=(Y9.mp (Y9.mp hc).1).1;simpa using this
  subst this;exact ⟨_,h1,.inr ⟨rfl,rfl⟩⟩
 ·cases h2;exact ⟨_,h1,.inl rfl⟩
abbrev qpw (scope:Scope) (env:Env) (n:Nat):List (Str×Addr):=Vn n scope.names (clOf scope env)
def CompScope.hasF (S:CompScope env scope caps) {x:Str} (key:(x,Qgx) ∈ scope.names) : ∃ c,(clOf scope env).lookup x=some c:=by
 have:=Z8.mp S.free _ key;have hs:(env.cells.lookup x).isSome=true:=by simpa using this
 obtain ⟨c,hc⟩:=Jd.mp hs;obtain ⟨d,hd⟩:=qhd (cells:=env.cells) (names:=scope.names) (acc:=[]) (.inr ⟨key,c,hc⟩);exact qnn hd
def CompScope.isC (S:CompScope env scope caps) {x:Str} (h:(x,V3) ∈ scope.names):scope.names.lookup x=some .cell:=by
 have:=Z8.mp S.cells _ h;simpa using this
def CompScope.has (S:CompScope env scope caps) {x:Str} (n:Nat) (h:(Qjh scope env).names.lookup x=some .cell\/(Qjh scope env).names.lookup x=some .free) : ∃ c,(qpw scope env n).lookup x=some c:=by
 have key:scope.names.lookup x=some .cell\/(x,Qgx) ∈ scope.names:=by
  rcases h with h|h
  ·obtain ⟨k',h1,h2⟩:=qgq h;rcases h2 with rfl|⟨rfl,_⟩
   ·exact .inl (S.isC h1)
   ·exact .inr h1
  ·obtain ⟨k',h1,h2⟩:=qgq h;rcases h2 with rfl|⟨_,h2⟩
   ·exact .inr h1
   ·cases h2
 refine Jd.mp (Qbo scope.names n _ ?_);rcases key with k|k
 ·exact .inl k
 ·obtain ⟨c,hc⟩:=S.hasF k;exact .inr (by rw [hc];rfl)
def CompScope.look (S:CompScope env scope caps) {x:Str}{n:Nat}{c:Addr} (h:(qpw scope env n).lookup x=some c):(n<=c/\(x,V3) ∈ scope.names)\/env.cells.lookup x=some c:=by
 rcases qoy h with q|q
 ·exact .inl q
 ·exact .inr (S.sub q)
end
def blk (X:Cx) (pins:List (Addr×Obj)) (scope:Scope) (N':List Str) (s3:Qk) (H:Hp) (ex:List Addr):Cx where
 prog:=X.prog
 w:=X.w
 K:=X.K
 mg:=X.mg
 base:=X.base
 A:=X.A
 N:=N'
 s₀:=s3
 H₀:=H
 env:=compEnvC scope (qpw scope X.env (s3.heap.objs.size+1)) s3.heap.objs.size X.env
 outer:=X.stack
 stack:=X.stack
 ex:=ex
 fn:=fun x=>scope.names.lookup x==some .cell
 calm:=X.calm
 pn:=X.pn++pins
 xe:=fun _ _=>False
def qqe (ix:List Nat) (k:Nat) (σ:St):St:=ix.map (fun i=>(σ[i]?).join)++Zn k none
def zahb (ix:List Nat) (k:Nat) (wi:TI) (g:TG) (te:TE):TE:=fun σ H Q=>wi σ H fun J H1 => ∃ W:Nat->Nat->List V->St->Hp->Prop,(∃ m,W 0 m [] (qqe ix k σ) H1) /\ ∀ i m ys σ1 H2,W i m ys σ1 H2 ->
 (J.stop i H2/\ys.length<=Zb /\ ∀ p,H2 p=none->Q (.ref p) (upd H2 p (.lst ys))) \/
 (J.go i H2/\ys.length<Zb /\ ∃ N:V->St->Hp->Prop,(∀ y σ2 H5,N y σ2 H5 -> ∃ m',m'<m/\W (i+1) m' (ys++[y]) σ2 H5) /\ ∀ x H3,J.yld i H2 x H3->g x σ1 H3 fun σ2 H4=>te σ2 H4 fun y H5=>N y σ2 H5)
def qgm {prog:Zi}{w:World}{A:Zw}{R:Result->Qk->Prop}{s:Qk}{elt target iter:Expr}{scope:Scope}{pos:Pos}{it acc:Value}{env:Env} (I:Nat->Qk->Prop)
 (turn : ∀ n s,I n s->wpAny (model prog w) A (Qik it) (fun r s₁=>match r with
  | none=>R (.ok .next) s₁
  | some v=>wpAny (model prog w) A (J9 target it v) (fun _ s₁'=>wpAny (model prog w) A (Qgi target env v) (fun _ s₂=>wpAny (model prog w) A (eval elt env) (fun x s₃ =>
   wpAny (model prog w) A (call (.builtin "list.append") [acc,x]) (fun _ s₄ => ∃ m,m<n/\I m s₄) (Qaj (model prog w) A env fun e s'=>R (.error e) s') s₃)
   (Qaj (model prog w) A env fun e s'=>R (.error e) s') s₂) (Qaj (model prog w) A env fun e s'=>R (.error e) s') s₁') (Qaj (model prog w) A env fun e s'=>R (.error e) s') s₁) (Qaj (model prog w) A env fun e s'=>R (.error e) s') s)
  (n:Nat) (h:I n s):Qbz (model prog w) A (.compLoop (.ListComp elt [⟨target,iter,[],0⟩] scope pos) 0 it acc env) R s:=by
  refine codeAny_loop rfl I (fun n s hI=>?_) n h;show wpAny _ _ ((compTurn (.ListComp elt [⟨target,iter,[],0⟩] scope pos) 0 it acc env).onRaise (fun x=>do noteFrame x env;theTreesLotGoes x)) _ _ s;refine wpAny_noted ?_;rw [compTurn_list1];refine Qj (Qhn (Qj (Z4 (turn n s hI) (fun r s₁ h₁=>?_) fun _ _ h'=>h')));cases r with
  | none=>exact Q1 h₁
  | some v =>
   exact Qj (Z4 h₁ (fun _ s₁' h₁'=>Qj (Z4 h₁' (fun _ s₂ h₂=>Qj (Qj (Z4 h₂ (fun x s₃ h₃=>Qj (Z4 h₃
    (fun _ s₄ h₄=>Q1 (Q1 ⟨rfl,h₄⟩)) fun _ _ h'=>h')) fun _ _ h'=>h'))) fun _ _ h'=>h')) fun _ _ h'=>h')
section
variable {X:Cx}{elt target iter:Expr}{scope:Scope}{pos:Pos}{caps own:List Str}{ix:List Nat}{wi:TI}{g:TG}{te:TE}
def tYes:TT:=fun _ H Q=>Q true H
abbrev TstT:=Env->(Bool->Qk->Prop)->(Value->Qk->Prop)->Qk->Prop
def zaot (prog:Zi) (w:World) (A:Zw) (elt target iter:Expr) (cs:List Expr) (scope:Scope) (pos:Pos) (Tst:TstT):Prop := ∀ {R:Result->Qk->Prop}{s:Qk}{it acc:Value}{env:Env} (I:Nat->Qk->Prop)
 (turn : ∀ n s,I n s->wpAny (model prog w) A (Qik it) (fun r s₁=>match r with
  | none=>R (.ok .next) s₁
  | some v=>wpAny (model prog w) A (J9 target it v) (fun _ s₁'=>wpAny (model prog w) A (Qgi target env v) (fun _ s₂=>Tst env (fun b s₂'=>match b with
   | true=>wpAny (model prog w) A (eval elt env) (fun x s₃ =>
    wpAny (model prog w) A (call (.builtin "list.append") [acc,x]) (fun _ s₄ => ∃ m,m<n/\I m s₄) (Qaj (model prog w) A env fun e s'=>R (.error e) s') s₃)
    (Qaj (model prog w) A env fun e s'=>R (.error e) s') s₂'
   | false => ∃ m,m<n/\I m s₂') (Qaj (model prog w) A env fun e s'=>R (.error e) s') s₂) (Qaj (model prog w) A env fun e s'=>R (.error e) s') s₁') (Qaj (model prog w) A env fun e s'=>R (.error e) s') s₁) (Qaj (model prog w) A env fun e s'=>R (.error e) s') s)
 (n:Nat) (h:I n s),Qbz (model prog w) A (.compLoop (.ListComp elt [⟨target,iter,cs,0⟩] scope pos) 0 it acc env) R s
def qkq {cs:List Expr}{tt:TT}{Tst:TstT} (hloop:zaot X.prog X.w X.A elt target iter cs scope pos Tst) (hc:X.calm=true) (S:CompScope X.env scope caps) (hi:PI X target iter wi)
 (hg : ∀ pins s3 H ex,PG (blk X pins scope (caps++own) s3 H ex) target g)
 (he : ∀ pins s3 H ex,PE (blk X pins scope (caps++own) s3 H ex) elt te)
 (htst : ∀ pins s3 H ex pins' s σ H' Qb P E,Inv (blk X pins scope (caps++own) s3 H ex) pins' σ H' s->tt σ H' Qb->(∀ b s' H'',Inv (blk X pins scope (caps++own) s3 H ex) pins' σ H'' s'->Qb b H''->P b s')->Tst (blk X pins scope (caps++own) s3 H ex).env P E s)
 (hix:caps.length=ix.length) (hcapB:(caps.zip ix).all (fun p=>X.N[p.2]?==some p.1)=true)
 (hs : ∀ x,Yb iter X.env x=pure x) {use:Option (Value->Sem Unit)}{Q0:Value->Qk->Prop}{Qv:VK}{pins:List (Addr×Obj)}{s:Qk}{σ:St}{H:Hp}{pos':Pos} (I:Inv X pins σ H s) {Inner:It->Hp->Prop} (h:wi σ H Inner)
 (hin : ∀ J H1,Inner J H1 -> ∃ W:Nat->Nat->List V->St->Hp->Prop,(∃ m,W 0 m [] (qqe ix own.length σ) H1) /\ ∀ i m ys σ1 H2,W i m ys σ1 H2 ->
 (J.stop i H2/\ys.length<=Zb /\ ∀ p,H2 p=none->Qv (.ref p) (upd H2 p (.lst ys))) \/
 (J.go i H2/\ys.length<Zb /\ ∃ (N:V->St->Hp->Prop) (N0:St->Hp->Prop),(∀ y σ2 H5,N y σ2 H5 -> ∃ m',m'<m/\W (i+1) m' (ys++[y]) σ2 H5)/\(∀ σ2 H5,N0 σ2 H5 -> ∃ m',m'<m/\W (i+1) m' ys σ2 H5) /\
 ∀ x H3,J.yld i H2 x H3->g x σ1 H3 fun σ2 H4=>tt σ2 H4 fun b H5=>match b with|true=>te σ2 H5 fun y H6=>N y σ2 H6|false=>N0 σ2 H5))
 (fin : ∀ (D C:Addr) (s6:Qk) (H6:Hp) (m6:Str->Option Value),s6.heap.Ns C m6->Inv X pins σ H6 s6->H6 C=none->C≠X.env.locals->C ∉ X.fs->(C ∈ X.ex\/X.s₀.heap.objs.size<=C)->(∀ x c,X.env.cells.lookup x=some c->c≠C)->(∀ p ∈ X.pn++pins,p.1≠C)->Qv (.ref D) H6 ->
 compPost (model X.prog X.w) X.A X.xe use Q0 (.ref D) C (.ok .next) s6) :
 wpAny (model X.prog X.w) X.A (Qhj (.ListComp elt [⟨target,iter,cs,0⟩] scope pos) scope X.env pos' (newList []) false (eval iter X.env) use) Q0 X.xe s:=by
  have hcap : ∀ (j:Nat) (x:Str) (i:Nat),caps[j]?=some x->ix[j]?=some i->X.N[i]?=some x:=fun j x i h1 h2=>by
   have hm:(x,i) ∈ caps.zip ix:=by
    have:(caps.zip ix)[j]?=some (x,i):=by rw [Qdr];exact ⟨h1,h2⟩
    exact Qf this
   have:=Z8.mp hcapB _ hm;simpa using this
  have hnm : ∀ y ∈ scope.names,y.2 = .local->scope.names.lookup y.1=some .local:=fun y hy hl=>by
   have:=Z8.mp S.names y hy;rw [hl] at this;simpa using this
  refine wpAny_comprehension_free (use:=use) rfl hs S.clos S.kind hnm (thn (hi pins s σ H _ I h) fun v s1 h1=>thn h1 fun itv s2 h2=>?_);obtain ⟨it,fp,tn,J,H2,e,I2,T,st2,f2,hJ⟩:=h2;obtain ⟨W,⟨m0,w0⟩,turn⟩:=hin J H2 hJ;subst e;refine Vu (zaax ?_);dsimp only;generalize eh0:s2.heap.push { cls :=.type "list",data :=.seq #[] }=h3;have hns₁:(Qci (h3.push { cls :=.type "dict",data :=.dict #[] }) scope.names).Ns h3.objs.size (fun _=>none):=(Qkl h3 (.type "dict")).keeps (Qft _ _);have hkp : ∀ b o,h3.get? b=some o->(Qci (h3.push { cls :=.type "dict",data :=.dict #[] }) scope.names).get? b=some o:=fun b o q=>Qft _ _ b o (Qo _ q);have hcl₁ : ∀ x c,(qpw scope X.env (h3.objs.size+1)).lookup x=some c->(clOf scope X.env).lookup x=some c\/(Qci (h3.push { cls :=.type "dict",data :=.dict #[] }) scope.names).IsCell c none:=fun x c q=>by
   refine qsj (h:=h3.push { cls :=.type "dict",data :=.dict #[] }) ?_;rw [Vs];exact q
  generalize Qci (h3.push { cls :=.type "dict",data :=.dict #[] }) scope.names=h₁ at hns₁ hkp hcl₁ ⊢;obtain ⟨s3,hs3⟩ : ∃ s3:Qk,s3={ s2 with heap:=h3 }:=⟨_,rfl⟩
  have e3:h3=s3.heap:=by rw [hs3]
  subst e3;have eh:s3.heap=s2.heap.push { cls :=.type "list",data :=.seq ([]:List Value).toArray }:=eh0.symm;have hC:s3.heap.objs.size=s2.heap.objs.size+1:=by rw [eh,Vs]
  have hDlt:s2.heap.objs.size<s3.heap.objs.size:=by omega
  have k23 : ∀ b o,s2.heap.get? b=some o->s3.heap.get? b=some o:=fun b o q=>by rw [eh];exact Qo _ q
  have hD3:s3.heap.get? s2.heap.objs.size=some { cls :=.type "list",data :=.seq ([]:List Value).toArray }:=by rw [eh];exact Q8 _ rfl
  have I3:Inv X pins σ H2 s3:=by rw [hs3];exact I2.kept (t':=s2.toks) k23
  have k34 : ∀ b o,s3.heap.get? b=some o->h₁.get? b=some o:=hkp;have fpl : ∀ b ∈ fp,b<s2.heap.objs.size:=fun b hb=>by
   obtain ⟨o,q,_⟩:=T.obj 0 _ st2 b hb;exact Qw q
  have cel : ∀ x c,X.env.cells.lookup x=some c->c<s2.heap.objs.size:=fun x c q=>by
   obtain ⟨v,o,z,_⟩:=I2.cell x c q;exact Qw z
  have ncl : ∀ x c,(qpw scope X.env (s3.heap.objs.size+1)).lookup x=some c->X.env.cells.lookup x=some c\/s3.heap.objs.size<c:=fun x c q=>(S.look q).elim (fun z => .inr z.1) .inl;have pnl : ∀ p ∈ X.pn++pins,p.1<s2.heap.objs.size:=fun p hp=>Qw (I2.pin p hp).1;have hDn:H2 s2.heap.objs.size=none:=I2.hok.fresh (Qr _);have ok:(blk X pins scope (caps++own) s3 H2 (s2.heap.objs.size::fp)).Ok:=by
   refine ⟨I2.mod,S.kind,I2.ok.glob,I2.ok.blt,Qr _,fun x y c h1 h2=>?_,fun x hx=>S.has _ hx,fun x c hf q=>?_,I2.ok.hd,I2.ok.frames,.inl rfl,fun b hb=>?_,I3.bs,?_,fun b o q hb=>?_,fun b hb=>?_,I3.stack,I3.stkFree⟩
   ·rcases ncl x c h1 with q1|q1
    ·rcases ncl y c h2 with q2|q2
     ·exact I2.ok.inj x y c q1 q2
     ·exact absurd (Ym (cel x c q1) hDlt) (Vo.mpr (Yi q2))
    ·exact qxm (n:=s3.heap.objs.size+1) (acc:=clOf scope X.env) (fun z a q=>Vf (Ym (cel z a (S.sub q)) hDlt)) q1 h1 h2
   ·exact Zr (Qbv _) (qow (lo:=s3.heap.objs.size+1) (Qr _) (.inl (qfy (beq_iff_eq.mp hf))) q)
   ·have hb':b=s2.heap.objs.size\/b ∈ fp:=Qs.mp hb;rcases hb' with rfl|hb'
    ·exact ⟨Za hDlt,fun x c q=>(ncl x c q).elim (fun z=>Za (cel x c z)) fun z=>Yr (Ym hDlt z)⟩
    ·exact ⟨Za (Ym (fpl b hb') hDlt),fun x c q=>(ncl x c q).elim (fun z=>(f2 b hb').2.2.2.2.1 x c z) fun z=>Yr (Ym (fpl b hb') (Ym hDlt z))⟩
   ·exact Zr I2.ok.bsz I3.sz
   ·have hlt:b<X.base.objs.size:=Qw q;have hb':b=s2.heap.objs.size\/b ∈ fp:=Qs.mp hb;have h1:=I2.ok.bsz;have h2:=I2.sz;rcases hb' with rfl|hb'
    ·exact absurd hlt (Vo.mpr (Zr h1 h2))
    ·rcases (f2 b hb').2.2.2.1 with z|z
     ·exact I2.ok.noex b o q z
     ·exact absurd hlt (Vo.mpr (Zr h1 z))
   ·have hb':b=s2.heap.objs.size\/b ∈ fp:=Qs.mp hb;intro z;have z':=I2.stkSub b z;rcases hb' with rfl|hb'
    ·rcases Qs.mp z' with z'|z'
     ·exact Yr I2.lt z'
     ·exact I2.nofs (Qr _) z'
    ·rcases Qs.mp z' with z'|z'
     ·exact (f2 b hb').2.1 z'
     ·exact (f2 b hb').2.2.1 z'
  have len0:(qqe ix own.length σ).length=(caps++own).length:=by unfold qqe;simp [hix]
  have I4:Inv (blk X pins scope (caps++own) s3 H2 (s2.heap.objs.size::fp)) [] (qqe ix own.length σ) H2 { s2 with heap:=h₁ }:=by
   obtain ⟨mX,nsX,lkX⟩:=I3.loc;refine ⟨ok,(by show s2.os=s3.os;rw [hs3]),I2.bare,Un.kept k34,⟨_,hns₁,fun j x v h1 h2 h3=>?_⟩,fun x c q=>?_,I3.hok.fresh (Qr _),fun x c q=>(ncl x c q).elim (fun z=>I3.freeC x c z) fun z=>I3.hok.fresh (Yi z),fun p hp=>?_,I3.hok.kept k34,len0⟩
   ·-- a captured name
    have hj:j<ix.length:=by
     unfold qqe at h2;by_cases hj:j<ix.length
     ·exact hj
     ·rw [Qdh (by simpa using hj),Qei] at h2;split at h2 <;> cases h2
    have h1':caps[j]?=some x:=by
     have:(caps++own)[j]?=some x:=h1
     rwa [Yv (by omega)] at this
    have hij:ix[j]?=some ix[j]:=Qc hj;have hv:σ[ix[j]]?=some (some v):=by
     unfold qqe at h2;rw [Yv (by simpa using hj),Qa,hij] at h2;have h2':(σ[ix[j]]?).join=some v:=by simpa using h2
     cases q:σ[ix[j]]? with
     | none=>rw [q] at h2';cases h2'
     | some o=>rw [q] at h2';cases o with
      | none=>cases h2'
      | some y=>have:y=v:=by simpa using h2'
                rw [this]
    have hk:=Z8.mp S.cap x (Qf h1');obtain ⟨k1,k2⟩:=Y9.mp hk;have k1':scope.names.lookup x=some .free:=by simpa using k1
    have k2':X.env.scope.names.lookup x=some .cell\/X.env.scope.names.lookup x=some .free:=by simpa using k2
    obtain ⟨u,ru,lk⟩:=lkX ix[j] x v (hcap j x _ h1' hij) hv (k2'.elim (fun z => .inr (.inl z)) (fun z => .inr (.inr z)));refine ⟨u,ru,?_⟩;have hrel:(Qjh scope X.env).names.lookup x=some .cell\/(Qjh scope X.env).names.lookup x=some .free:=by
     rcases h3 with h3|h3|h3
     ·have h3':(Qjh scope X.env).names.lookup x=some Jr.local:=h3;obtain ⟨k',m1,m2⟩:=qgq h3';rcases m2 with rfl|⟨_,m2⟩
      ·have:=hnm _ m1 rfl;rw [k1'] at this;cases this
      ·cases m2
     ·exact .inl h3
     ·exact .inr h3
    have hxc:(x,V3) ∉ scope.names:=fun z=>by
     have:=S.isC z;rw [k1'] at this;cases this
    obtain ⟨c,hcl⟩:=S.hasF (qfy k1');have hcl':(qpw scope X.env (s3.heap.objs.size+1)).lookup x=some c:=(qxx hxc).trans hcl;rcases lk with ⟨kl,_⟩|⟨_,c',ec,ic⟩
    ·have kl':X.env.scope.names.lookup x=some .local:=kl;rcases k2' with z|z <;> (rw [kl'] at z;cases z)
    ·have:=S.sub hcl;have ee:c'=c:=by rw [ec] at this;exact Qn this
     exact .inr ⟨hrel,c,hcl',ee ▸ ic.keeps k34⟩
   ·rcases hcl₁ x c q with z|z
    ·obtain ⟨v,ic⟩:=I3.cell x c (S.sub z);exact ⟨v,ic.keeps k34⟩
    ·exact ⟨_,z⟩
   ·have hp':p ∈ X.pn++pins:=by simpa [blk] using hp
    obtain ⟨q1,q2,q3,q4,q5⟩:=I3.pin p hp';refine ⟨k34 _ _ q1,q2,Za (Ym (pnl p hp') hDlt),fun z=>?_,q5⟩;rcases Qs.mp (I3.stkSub p.1 z) with z'|z'
    ·exact q3 z'
    ·exact q4 z'
  have hD4:h₁.get? s2.heap.objs.size=some { cls :=.type "list",data :=.seq ([]:List Value).toArray }:=k34 _ _ hD3;have st4:tn 0 h₁:=T.keep _ _ _ st2 fun b _ o q=>k34 b o (k23 b o q);have fpk : ∀ {H':Hp}{ob:Obj},(∀ b ∈ fp,H' b=none) -> ∀ b ∈ fp,FpOk (blk X pins scope (caps++own) s3 H2 (s2.heap.objs.size::fp)) [(s2.heap.objs.size,ob)] H' b:=fun {H' ob} hn b hb=>by
   obtain ⟨_,a1,a2,a3,a4,a5⟩:=f2 b hb;refine ⟨hn b hb,Za (Ym (fpl b hb) hDlt),fun z=>?_,.inl (Qm _ hb),fun x c q=>(ncl x c q).elim (fun z=>a4 x c z) fun z=>Yr (Ym (fpl b hb) (Ym hDlt z)),fun p hp=>?_⟩
   ·rcases Qs.mp (I2.stkSub b z) with z'|z'
    ·exact a1 z'
    ·exact a2 z'
   ·have hp':p ∈ X.pn++pins\/p=(s2.heap.objs.size,ob):=by simpa [blk,or_assoc] using hp
    rcases hp' with hp'|rfl
    ·exact a5 p hp'
    ·exact Yr (fpl b hb)
  have loop : ∀ s5:Qk,s5=({ s2 with heap:=h₁ }:Qk) ->
   Qbz (model X.prog X.w) X.A (.compLoop (.ListComp elt [⟨target,iter,cs,0⟩] scope pos) 0 (.ref it) (.ref s2.heap.objs.size) (compEnvC scope (qpw scope X.env (s3.heap.objs.size+1)) s3.heap.objs.size X.env))
    (compPost (model X.prog X.w) X.A X.xe use Q0 (.ref s2.heap.objs.size) s3.heap.objs.size) s5:=by
   rintro s5 rfl;refine hloop (fun n s' => ∃ i ys its cp σ' H',Inv (blk X pins scope (caps++own) s3 H2 (s2.heap.objs.size::fp)) [] σ' H' s'/\tn i s'.heap/\(∀ b ∈ fp,H' b=none)/\H' s2.heap.objs.size=none /\
    s'.heap.get? s2.heap.objs.size=some { cls :=.type "list",data :=.seq (its:List Value).toArray cp }/\Vals ys its/\W i n ys σ' H') ?_ m0 ⟨0,[],[],_,_,H2,I4,st4,fun b hb=>(f2 b hb).1,hDn,hD4,.nil,w0⟩
   rintro n s5 ⟨i,ys,its,cp,σ5,H5,I5,st5,fr5,hD5,gD5,rv5,w5⟩;have Dfs:s2.heap.objs.size ∉ (blk X pins scope (caps++own) s3 H2 (s2.heap.objs.size::fp)).fs:=fun z=>by
    rcases Qs.mp (I2.stkSub _ z) with z'|z'
    ·exact Yr I2.lt z'
    ·exact I2.nofs (Qr _) z'
   have I5':Inv (blk X pins scope (caps++own) s3 H2 (s2.heap.objs.size::fp)) [(s2.heap.objs.size,{ cls :=.type "list",data :=.seq its.toArray cp })] σ5 H5 s5:=by
    refine I5.pins_of fun p hp=>?_;have hp':p ∈ (blk X pins scope (caps++own) s3 H2 (s2.heap.objs.size::fp)).pn++[]\/p=(s2.heap.objs.size,{ cls :=.type "list",data :=.seq its.toArray cp }):=by
     first
      | exact .inr (Qp.mp hp)
      | (rcases Zd.mp hp with z|z
         ·exact .inl (Z2 _ z)
         ·exact .inr (Qp.mp z))
    rcases hp' with z|rfl
    ·exact I5.pin p z
    ·exact ⟨gD5,hD5,Za hDlt,Dfs,fun v z=>by cases z⟩
   rcases turn i n ys σ5 H5 w5 with ⟨stop,hz,qn⟩|⟨go,hz,N,N0,hN,hN0,step⟩
   ·refine thn (T.done (blk X pins scope (caps++own) s3 H2 (s2.heap.objs.size::fp)) rfl rfl rfl hc i _ s5 σ5 H5 _ I5' (fpk fr5) st5 stop) fun r s6 ⟨hr,I6⟩=>?_;subst hr;obtain ⟨m6,ns6,_⟩:=id I6.loc;have gD6:=(I6.pin _ (Q4 _ (Qp.mpr rfl))).1;have kC : ∀ b o,b≠s3.heap.objs.size->s6.heap.get? b=some o->s6.heap.get? b=some o:=fun b o _ q=>q;have bne : ∀ b o,s2.heap.get? b=some o->b≠s3.heap.objs.size:=fun b o q=>Za (Ym (Qw q) hDlt);have bnD : ∀ b o,s2.heap.get? b=some o->b≠s2.heap.objs.size:=fun b o q=>Za (Qw q);have nC : ∀ b u,H5 b=some u->b≠s3.heap.objs.size:=fun b u q z=>by
     have z1:H5 s3.heap.objs.size=none:=I6.free;rw [z,z1] at q;cases q
    have U:=I6.base;have IX:Inv X pins σ (upd H5 s2.heap.objs.size (.lst ys)) s6:=by
     refine I2.call' (ch:=s2.heap.objs.size::fp) ?_ ?_ ?_ I6.bare ?_
     ·show s6.os=s2.os;rw [I6.os];show s3.os=s2.os;rw [hs3]
     ·refine ⟨fun b o q n hb hx=>kC b o (bne b o q) (U.keep b o (k23 b o q) n hb hx),fun b o q n hb hx=>?_,fun b o q n hx=>?_,fun b o q hx=>?_,fun b xs q=>?_,fun b o u q=>?_,fun b ps q=>?_⟩
      ·obtain ⟨sl,z⟩:=U.slot b o (k23 b o q) n hb hx;exact ⟨sl,kC b _ (bne b o q) z⟩
      ·rw [qk (bnD b o q)];exact U.free b o (k23 b o q) n hx
      ·obtain ⟨o',z⟩:=U.there b o (k23 b o q) hx;exact ⟨o',kC b _ (bne b o q) z⟩
      ·have:=U.tups b xs q;rw [qk (qx this hD5)];exact this
      ·have:=U.frzs b o u q;rw [qk (qx this hD5)];exact this
      ·obtain ⟨more,z,gm⟩:=U.tbls b ps q;exact ⟨more,by rw [qk (qx z hD5)];exact z,gm.mono fun b o u q=>by rw [qk (qx q hD5)];exact q⟩
     ·intro b u q;by_cases hb:b=s2.heap.objs.size
      ·subst hb;rw [qp] at q;cases q;exact ⟨hz,its,cp,rv5,kC _ _ (Za hDlt) gD6⟩
      ·rw [qk hb] at q;refine (I6.hok b u q).stay (fun c ob hc z=>kC c ob ?_ z) (fun c z=>by rw [qk (qx z hD5)];exact z) fun c xs z=>by rw [qk (qx z hD5)];exact z
       rcases hc with hc|hc
       ·rw [hc];exact nC b u q
       ·exact nC c _ hc
     ·intro b hb;have hb':b=s2.heap.objs.size\/b ∈ fp:=Qs.mp hb;rcases hb' with rfl|hb'
      ·exact ⟨.inr I2.sz,Yr I2.lt,fun x c q=>Za (cel x c q),fun p hp=>Za (pnl p hp)⟩
      ·obtain ⟨_,a1,_,a3,a4,a5⟩:=f2 b hb';exact ⟨a3,a1,a4,a5⟩
    have hCH:(upd H5 s2.heap.objs.size (.lst ys)) s3.heap.objs.size=none:=by
     rw [qk (Yr hDlt)];exact I6.free
    exact fin _ _ s6 _ m6 ns6 IX hCH (Yr (Ym I2.lt hDlt)) (I2.nofs (Yi hDlt)) (.inr (Zr I2.sz (Yi hDlt))) (fun x c q=>Za (Ym (cel x c q) hDlt)) (fun p hp=>Za (Ym (pnl p hp) hDlt)) (qn _ hD5)
   ·refine thn (T.item (blk X pins scope (caps++own) s3 H2 (s2.heap.objs.size::fp)) rfl rfl rfl hc i _ s5 σ5 H5 _ I5' (fpk fr5) st5 go) fun r s6 ⟨u,hr,h6⟩=>?_;subst hr;refine thn h6 fun _ s7 xx55=>?_;obtain ⟨x,H7,I7,r7,y7,st7,fr7⟩:=xx55;have I7':=I7.pinned (fpk fr7) (T.obj _ _ st7);refine Z4 (hg pins s3 H2 _ _ s7 σ5 H7 x u _ I7' r7 (step x H7 y7)) (fun _ s8 xx54=>?_) fun _ _ z=>z.elim;obtain ⟨σ8,H8,I8,q8⟩:=xx54;refine htst pins s3 H2 _ _ s8 σ8 H8 _ _ _ I8 q8 fun bt s8' H8' I8' q8'=>?_;cases bt with
    | false =>
     have q9:N0 σ8 H8':=q8';obtain ⟨m',hm',w9⟩:=hN0 σ8 H8' q9;have gD9:=(I8'.pin (s2.heap.objs.size,{ cls :=.type "list",data :=.seq its.toArray cp }) (Q4 _ (Z2 _ (Qp.mpr rfl))))
     have pin8 : ∀ b ∈ fp,∀ o,s7.heap.get? b=some o->s8'.heap.get? b=some o/\H8' b=none:=fun b hb o q=>by
      have z:=I8'.pin (b,o) (Q4 _ (Q4 _ (qgb hb q)));exact ⟨z.1,z.2.1⟩
     refine ⟨m',hm',i+1,ys,its,cp,σ8,H8',?_,?_,fun b hb=>?_,gD9.2.1,gD9.1,rv5,w9⟩
     ·exact (I8'.pins_of (pins':=[]) (fun p hp=>by
       first
        | exact absurd hp (by simp)
        | (rw [Y3] at hp;exact I8'.pin p (Z2 _ hp))))
     ·exact T.keep _ _ _ st7 fun b hb o q=>(pin8 b hb o q).1
     ·obtain ⟨o,q,_⟩:=T.obj _ _ st7 b hb;exact (pin8 b hb o q).2
    | true =>
     refine Z4 (he pins s3 H2 _ _ s8' σ8 H8' _ I8' q8') (fun uy s9 xx53=>?_) fun _ _ z=>z.elim;obtain ⟨y,H9,I9,r9,n9⟩:=xx53;obtain ⟨m',hm',w9⟩:=hN y σ8 H9 n9;have gD9:=(I9.pin (s2.heap.objs.size,{ cls :=.type "list",data :=.seq its.toArray cp }) (Q4 _ (Z2 _ (Qp.mpr rfl))))
     have pin9 : ∀ b ∈ fp,∀ o,s7.heap.get? b=some o->s9.heap.get? b=some o/\H9 b=none:=fun b hb o q=>by
      have z:=I9.pin (b,o) (Q4 _ (Q4 _ (qgb hb q)));exact ⟨z.1,z.2.1⟩
     have hl9:=rv5.length;refine Qfy Qeb ⟨_,gD9.1,rfl⟩ PySem.F.entry_list_append (PySem.F.args_list_append_2 _ _) (Qhq s2.heap.objs.size its.toArray cp uy (by rw [Qz];omega)) ⟨gD9.1,?_⟩;have qD:=Qin gD9.1 (fun xs=>xs.push uy);have ep:its.toArray.push uy=(its++[uy]).toArray:=by simp
     rw [ep] at qD;have up : ∀ b o,b≠s2.heap.objs.size->s9.heap.get? b=some o->(s9.heap.update s2.heap.objs.size (Yh fun xs=>xs.push uy)).get? b=some o:=fun b o hb q=>(Qbq s9.heap _ (V7 hb)).trans q;refine ⟨m',hm',i+1,ys++[y],its++[uy],_,σ8,H9,?_,?_,fun b hb=>?_,gD9.2.1,qD,rv5.append (.cons r9 .nil),w9⟩
     ·refine (I9.pins_of (pins':=[]) (fun p hp=>by
       first
        | exact absurd hp (by simp)
        | (rw [Y3] at hp;exact I9.pin p (Z2 _ hp)))).turned (it:=s2.heap.objs.size) up gD9.2.1 (Za hDlt) (.inl (J0 ..)) (fun x c q=>(ncl x c q).elim (fun z=>Za (cel x c z)) fun z=>Yr (Ym hDlt z)) fun p hp=>?_
      have hp':p ∈ X.pn++pins:=by simpa [blk] using hp
      exact Za (pnl p hp')
     ·exact T.keep _ _ _ st7 fun b hb o q=>up b o (Za (fpl b hb)) (pin9 b hb o q).1
     ·obtain ⟨o,q,_⟩:=T.obj _ _ st7 b hb;exact (pin9 b hb o q).2
  exact codeAny_compStart_list (loop _ rfl) (T.self _ 0 _ _ _ st4 (loop _ rfl))
def qxb (hc:X.calm=true) (S:CompScope X.env scope caps) (hi:PI X target iter wi)
 (hg : ∀ pins s3 H ex,PG (blk X pins scope (caps++own) s3 H ex) target g)
 (he : ∀ pins s3 H ex,PE (blk X pins scope (caps++own) s3 H ex) elt te)
 (hix:caps.length=ix.length) (hcapB:(caps.zip ix).all (fun p=>X.N[p.2]?==some p.1)=true)
 (hs : ∀ x,Yb iter X.env x=pure x) {use:Option (Value->Sem Unit)}{Q0:Value->Qk->Prop}{Qv:VK}{pins:List (Addr×Obj)}{s:Qk}{σ:St}{H:Hp}{pos':Pos} (I:Inv X pins σ H s) (h:zahb ix own.length wi g te σ H Qv)
 (fin : ∀ (D C:Addr) (s6:Qk) (H6:Hp) (m6:Str->Option Value),s6.heap.Ns C m6->Inv X pins σ H6 s6->H6 C=none->C≠X.env.locals->C ∉ X.fs->(C ∈ X.ex\/X.s₀.heap.objs.size<=C)->(∀ x c,X.env.cells.lookup x=some c->c≠C)->(∀ p ∈ X.pn++pins,p.1≠C)->Qv (.ref D) H6 ->
 compPost (model X.prog X.w) X.A X.xe use Q0 (.ref D) C (.ok .next) s6) :
 wpAny (model X.prog X.w) X.A (Qhj (.ListComp elt [⟨target,iter,[],0⟩] scope pos) scope X.env pos' (newList []) false (eval iter X.env) use) Q0 X.xe s:=by
  refine qkq (cs:=[]) (tt:=tYes) (Tst:=fun _ P _ s=>P true s) (fun J turn n h=>qgm J turn n h) hc S hi hg he (fun _ _ _ _ _ s _ H' _ _ _ I q k=>k true s H' I q) hix hcapB hs I h (fun J H1 z=>?_) fin;obtain ⟨W,w0,turn⟩:=z;refine ⟨W,w0,fun i m ys σ1 H2 w=>?_⟩;rcases turn i m ys σ1 H2 w with z|z
  ·exact .inl z
  ·obtain ⟨go,hz,N,hN,step⟩:=z;exact .inr ⟨go,hz,N,fun _ _=>False,hN,fun _ _ z=>z.elim,step⟩
def zajb (hc:X.calm=true) (S:CompScope X.env scope caps) (hi:PI X target iter wi)
 (hg : ∀ pins s3 H ex,PG (blk X pins scope (caps++own) s3 H ex) target g)
 (he : ∀ pins s3 H ex,PE (blk X pins scope (caps++own) s3 H ex) elt te)
 (hix:caps.length=ix.length:=by rfl) (hcapB:(caps.zip ix).all (fun p=>X.N[p.2]?==some p.1)=true:=by rfl)
  (hs : ∀ x,Yb iter X.env x=pure x:=by intro _;rfl):PE X (.ListComp elt [⟨target,iter,[],0⟩] scope pos) (zahb ix own.length wi g te):=by
  intro pins s σ H Q I h;rw [eval_ListComp];exact qxb (use:=none) (Q0:=EP X pins σ Q) hc S hi hg he hix hcapB hs I h fun D C s6 H6 m6 ns6 IX c1 c2 c3 c4 c5 c6 q=>⟨m6,ns6,fun h' sb=>⟨.ref D,H6,IX.turned (t':=s6.toks) (it:=C) (fun b o hb q=>sb.extBut b o hb q) c1 c2 c4 c5 c6,rfl,q⟩⟩
end
end
section
inductive Sl where
 | non
 | val (d:Qh)
 | own (ds:List Qh)
 | pen (ds:List Qh)
 | new (d:Qh)
 | exc (C:Addr)
  | obj (a C:Addr) (nm:List Str) (fs:List (Str×Qh))
abbrev Sto:=List Sl
def gS:Sto->Nat->Sl
 | [],_ => .non
 | s::_,0=>s
 | _::r,i+1=>gS r i
def Sl.mut:Sl->Bool
 | .own _=>true
 | .pen _=>true
 | _=>false
def vS (σ:St) (i:Nat):Option V:=(σ[i]?).join
def qcz : ∀ (e:Sto) (i j:Nat) (s:Sl),gS (e.set i s) j=if i=j/\i<e.length then s else gS e j
 | [],i,j,s=>by simp [gS]
 | x::e,0,0,s=>by simp [gS]
 | x::e,0,j+1,s=>by simp [gS]
 | x::e,i+1,0,s=>by simp [gS]
 | x::e,i+1,j+1,s=>by
  simp only [List.set_cons_succ,gS,qcz e i j s,Zk,Nat.add_right_cancel_iff,Nat.add_lt_add_iff_right]
def qxw : ∀ {e:Sto}{i:Nat},e.length<=i->gS e i = .non
 | [],_,_=>by simp [gS]
 | x::e,0,h=>by simp at h
 | x::e,i+1,h=>by simp only [gS];exact qxw (by simpa using h)
def qmi (σ:St) (i j:Nat) (v:Option V):vS (σ.set i v) j=if i=j/\i<σ.length then v else vS σ j:=by
 unfold vS;rw [Qec];by_cases h:i=j
 ·subst h;by_cases h2:i<σ.length
  ·simp [h2]
  ·simp [h2]
 ·simp [h]
def qed {σ:St}{i:Nat}{v:V} (h:vS σ i=some v):σ[i]?=some (some v):=by
 unfold vS at h;cases e:σ[i]? with
 | none=>rw [e] at h;cases h
 | some o=>rw [e] at h;cases o with
  | none=>cases h
  | some u=>simpa using h
structure Frm where
 B:Hp
 He:Hp
 F0:Hp
mutual
def IsN (K:Qd) (H:Hp):Qh->V->Prop
 | .none,v=>v = .non
 | .bool b,v=>v = .bl b
 | .int i,v=>v = .int i
 | .str x,v=>v = .str x
 | .list l,v => ∃ a xs,v = .ref a/\H a=some (.lst xs)/\IssN K H l xs
 | .tuple l,v => ∃ a xs,v = .ref a/\H a=some (.tup xs)/\IssN K H l xs
 | .dict _,_=>False
def IssN (K:Qd) (H:Hp):List Qh->List V->Prop
 | [],xs=>xs=[]
 | d::l,xs => ∃ x r,xs=x::r/\IsN K H d x/\IssN K H l r
end
mutual
def IsN.is {K:Qd}{H H':Hp} (s:Same H H') : ∀ {d:Qh}{v:V},IsN K H d v->Is K H' d v
 | .none,_,h=>by unfold IsN at h;unfold Is;exact h
 | .bool _,_,h=>by unfold IsN at h;unfold Is;exact h
 | .int _,_,h=>by unfold IsN at h;unfold Is;exact h
 | .str _,_,h=>by unfold IsN at h;unfold Is;exact h
 | .list l,_,h=>by
  unfold IsN at h;unfold Is;obtain ⟨a,xs,e,q,r⟩:=h;exact ⟨a,xs,e,SqL.of (s _ _ q),IssN.is s r⟩
 | .tuple l,_,h=>by
  unfold IsN at h;unfold Is;obtain ⟨a,xs,e,q,r⟩:=h;exact ⟨a,xs,e,SqT.of (s _ _ q),IssN.is s r⟩
 | .dict _,_,h=>by unfold IsN at h;exact h.elim
def IssN.is {K:Qd}{H H':Hp} (s:Same H H') : ∀ {l:List Qh}{xs:List V},IssN K H l xs->Iss K H' l xs
 | [],_,h=>by unfold IssN at h;unfold Iss;exact h
 | d::l,_,h=>by
  unfold IssN at h;unfold Iss;obtain ⟨x,r,e,p,q⟩:=h;exact ⟨x,r,e,IsN.is s p,IssN.is s q⟩
end
mutual
def IsN.mono {K:Qd}{H H':Hp} (s:Same H H') : ∀ {d:Qh}{v:V},IsN K H d v->IsN K H' d v
 | .none,_,h=>by unfold IsN at h ⊢;exact h
 | .bool _,_,h=>by unfold IsN at h ⊢;exact h
 | .int _,_,h=>by unfold IsN at h ⊢;exact h
 | .str _,_,h=>by unfold IsN at h ⊢;exact h
 | .list l,_,h=>by
  unfold IsN at h ⊢;obtain ⟨a,xs,e,q,r⟩:=h;exact ⟨a,xs,e,s _ _ q,IssN.mono s r⟩
 | .tuple l,_,h=>by
  unfold IsN at h ⊢;obtain ⟨a,xs,e,q,r⟩:=h;exact ⟨a,xs,e,s _ _ q,IssN.mono s r⟩
 | .dict _,_,h=>by unfold IsN at h;exact h.elim
def IssN.mono {K:Qd}{H H':Hp} (s:Same H H') : ∀ {l:List Qh}{xs:List V},IssN K H l xs->IssN K H' l xs
 | [],_,h=>by unfold IssN at h ⊢;exact h
 | d::l,_,h=>by
  unfold IssN at h ⊢;obtain ⟨x,r,e,p,q⟩:=h;exact ⟨x,r,e,IsN.mono s p,IssN.mono s q⟩
end
def zafi {K:Qd}{H:Hp}:IssN K H [] []:=by unfold IssN;rfl
def zabt {K:Qd}{H:Hp}{d:Qh}{l:List Qh}{x:V}{xs:List V} (h:IsN K H d x) (r:IssN K H l xs):IssN K H (d::l) (x::xs):=by unfold IssN;exact ⟨x,xs,rfl,h,r⟩
def qlm (M:Frm) (F:Hp):Hp:=fun b=>if (M.He b).isNone=true/\(M.B b).isNone=true then F b else none
def qho {M:Frm}{F:Hp}:Same (qlm M F) F:=fun b o e=>by
 unfold qlm at e;split at e
 ·exact .of e
 ·cases e
def qqo {M:Frm}{F F':Hp} (s:Same F F'):Same (qlm M F) (qlm M F'):=fun b o e=>by
 unfold qlm at e ⊢;split at e
 ·rename_i h;rw [if_pos h];exact s b o e
 ·cases e
def qnc {M:Frm}{F:Hp}{a:Addr}{o:HO} (h1:M.He a=none) (h2:M.B a=none) (h3:F a=some o):qlm M F a=some o:=by
 unfold qlm;rw [if_pos ⟨by rw [h1];rfl,by rw [h2];rfl⟩];exact h3
def qol {M:Frm}{F:Hp}{a:Addr}{o:HO} (h:qlm M F a=some o):M.He a=none/\M.B a=none/\F a=some o:=by
 unfold qlm at h;split at h
 ·rename_i z;exact ⟨Qam.mp z.1,Qam.mp z.2,h⟩
 ·cases h
def qnv (C ea:Addr):HO :=.ext fun h => ∃ o,h.get? ea=some o/\o.cls = .ref C
section
variable (K:Qd) (M:Frm) (F H:Hp)
def SlotOk:Sl->Option V->Prop
 | .non,_=>True
 | .val d,x => ∃ v,x=some v/\Is K F d v
 | .own ds,x => ∃ a vs,x=some (.ref a)/\H a=some (.lst vs)/\F a=none/\M.B a=none/\M.He a=none/\Iss K F ds vs
 | .pen ds,x => ∃ a vs,x=some (.ref a)/\H a=some (.lst vs)/\F a=none/\M.B a=none/\(∃ o,M.He a=some o)/\Iss K F ds vs
 | .new d,x => ∃ v,x=some v/\IsN K (qlm M F) d v
 | .exc C,x => ∃ ea,x=some (.ref ea)/\F ea=some (qnv C ea)
 | .obj a C nm fs,x => ∃ dx vs,x=some (.ref a)/\M.B a=some (.ins C dx vs)/\vs.map (·.1)=nm /\ ∀ f d,(f,d) ∈ fs -> ∃ v,vs.lookup f=some v/\Is K F d v
structure EnvOk (env:Sto) (σ:St):Prop where
 len:env.length=σ.length
 slot : ∀ i,SlotOk K M F H (gS env i) (vS σ i)
 dis : ∀ i j a,i≠j->(gS env i).mut=true->(gS env j).mut=true->vS σ i=some (.ref a)->vS σ j=some (.ref a)->False
 f0:Same M.F0 F
 fe:Same M.F0 M.He
 fh:Same F H
 bh:Same M.B H
 new : ∀ b o,F b=some o->M.F0 b=some o\/M.He b=none
 dom : ∀ b o,M.He b=some o -> ∃ o',H b=some o'
end
structure Go (F H F' H':Hp):Prop where
 f:Same F F'
 h:Same H H'
 fh:Same F' H'
 new : ∀ b o,F' b=some o->F b=some o\/H b=none
def qK {H H':Hp} (s:Same H H') {b:Addr} (h:H' b=none):H b=none:=s.free h
def Go.refl {F H:Hp} (s:Same F H):Go F H F H:=⟨.refl _,.refl _,s,fun _ _ h => .inl h⟩
def Go.trans {F H F1 H1 F2 H2:Hp} (a:Go F H F1 H1) (b:Go F1 H1 F2 H2):Go F H F2 H2 :=
 ⟨a.f.trans b.f,a.h.trans b.h,b.fh,fun c o h=>(b.new c o h).elim (fun q=>a.new c o q) fun q => .inr (qK a.h q)⟩
def Go.put {F H:Hp}{p:Addr}{o:HO} (s:Same F H) (h:H p=none):Go F H (upd F p o) (upd H p o):=by
 refine ⟨qau (qK s h),qau h,fun b u e=>?_,fun b u e=>?_⟩
 ·unfold upd at e ⊢;split at e
  ·rename_i z;rw [if_pos z];exact .of e
  ·rename_i z;rw [if_neg z];exact s b u e
 ·unfold upd at e;split at e
  ·rename_i z;subst z;exact .inr h
  ·exact .inl e
def Go.side {F H:Hp}{p:Addr}{o:HO} (s:Same F H) (h:H p=none):Go F H F (upd H p o) :=
 ⟨.refl _,qau h,s.trans (qau h),fun _ _ e => .inl e⟩
section
variable {K:Qd}{M:Frm}{F H F' H':Hp}{env:Sto}{σ:St}
def SlotOk.go {s:Sl}{x:Option V} (h:SlotOk K M F H s x) (g:Go F H F' H'):SlotOk K M F' H' s x:=by
 have nf : ∀ {a:Addr}{o:HO},H a=some o->F a=none->F' a=none:=fun {a o} h1 h2=>by
  cases e:F' a with
  | none=>rfl
  | some u=>rcases g.new a u e with q|q
            ·rw [h2] at q;cases q
            ·rw [h1] at q;cases q
 cases s with
 | non=>trivial
 | val d=>obtain ⟨v,e,i⟩:=h;exact ⟨v,e,i.mono g.f⟩
 | own ds=>obtain ⟨a,vs,e,h1,h2,h3,h4,h5⟩:=h;exact ⟨a,vs,e,g.h _ _ h1,nf h1 h2,h3,h4,h5.mono g.f⟩
 | pen ds=>obtain ⟨a,vs,e,h1,h2,h3,hx,h5⟩:=h;exact ⟨a,vs,e,g.h _ _ h1,nf h1 h2,h3,hx,h5.mono g.f⟩
 | new d=>obtain ⟨v,e,i⟩:=h;exact ⟨v,e,i.mono (qqo g.f)⟩
 | exc C=>obtain ⟨ea,e,i⟩:=h;exact ⟨ea,e,g.f.at i⟩
 | obj a0 C nm fs=>obtain ⟨dx,vs,e,b,hn,i⟩:=h;exact ⟨dx,vs,e,b,hn,fun f d m=>let ⟨v,l,j⟩:=i f d m; ⟨v,l,j.mono g.f⟩⟩
def EnvOk.go (I:EnvOk K M F H env σ) (g:Go F H F' H'):EnvOk K M F' H' env σ where
 len:=I.len
 slot:=fun i=>(I.slot i).go g
 dis:=I.dis
 f0:=I.f0.trans g.f
 fe:=I.fe
 fh:=g.fh
 bh:=I.bh.trans g.h
 new:=fun b o e=>(g.new b o e).elim (fun q=>I.new b o q) fun q=>by
  refine .inr ?_;cases z:M.He b with
  | none=>rfl
  | some u=>obtain ⟨o',q'⟩:=I.dom b u z;rw [q] at q';cases q'
 dom:=fun b o e=>let ⟨o',q⟩:=I.dom b o e;g.h.any q
def EnvOk.he (I:EnvOk K M F H env σ) {a:Addr} (h:H a=none):M.He a=none:=by
 cases z:M.He a with
 | none=>rfl
 | some u=>obtain ⟨o',q'⟩:=I.dom a u z;rw [h] at q';cases q'
def EnvOk.setv (I:EnvOk K M F H env σ) {i:Nat}{d:Qh}{v:V} (h:Is K F d v):EnvOk K M F H (env.set i (.val d)) (σ.set i (some v)) where
 len:=by rw [Vl,Vl];exact I.len
 slot:=fun j=>by
  rw [qcz,qmi,I.len];split
  ·exact ⟨v,rfl,h⟩
  ·exact I.slot j
 dis:=fun j k a hjk h1 h2 h3 h4=>by
  rw [qcz] at h1 h2;rw [qmi] at h3 h4;rw [I.len] at h1 h2;split at h1
  ·cases h1
  ·rename_i z1;split at h2
   ·cases h2
   ·rename_i z2;rw [if_neg z1] at h3;rw [if_neg z2] at h4;exact I.dis j k a hjk h1 h2 h3 h4
 f0:=I.f0
 fe:=I.fe
 fh:=I.fh
 bh:=I.bh
 new:=I.new
 dom:=I.dom
def EnvOk.seto (I:EnvOk K M F H env σ) {i:Nat}{ds:List Qh}{a:Addr}{vs:List V} (h1:H a=some (.lst vs)) (h2:F a=none) (h3:M.B a=none) (h4:M.He a=none)
 (h5 : ∀ j,(gS env j).mut=true->vS σ j≠some (.ref a)) (h6:Iss K F ds vs):EnvOk K M F H (env.set i (.own ds)) (σ.set i (some (.ref a))) where
  len:=by rw [Vl,Vl];exact I.len
  slot:=fun j=>by
   rw [qcz,qmi,I.len];split
   ·exact ⟨a,vs,rfl,h1,h2,h3,h4,h6⟩
   ·exact I.slot j
  dis:=fun j k b hjk m1 m2 e1 e2=>by
   rw [qcz] at m1 m2;rw [qmi] at e1 e2;rw [I.len] at m1 m2;by_cases z1:i=j/\i<σ.length
   ·rw [if_pos z1] at m1 e1;have z2 : ¬ (i=k/\i<σ.length):=fun z=>hjk (z1.1.symm.trans z.1);rw [if_neg z2] at m2 e2;injection e1 with e1;injection e1 with e1;subst e1;exact h5 k m2 e2
   ·rw [if_neg z1] at m1 e1;by_cases z2:i=k/\i<σ.length
    ·rw [if_pos z2] at m2 e2;injection e2 with e2;injection e2 with e2;subst e2;exact h5 j m1 e1
    ·rw [if_neg z2] at m2 e2;exact I.dis j k b hjk m1 m2 e1 e2
  f0:=I.f0
  fe:=I.fe
  fh:=I.fh
  bh:=I.bh
  new:=I.new
  dom:=I.dom
def Sl.upd:Sl->List Qh->Sl
 | .own _,ds => .own ds
 | .pen _,ds => .pen ds
 | s,_=>s
def Sl.cnt:Sl->List Qh
 | .own ds=>ds
 | .pen ds=>ds
 | _=>[]
def SlotOk.addr {s:Sl}{x:Option V} (h:SlotOk K M F H s x) (m:s.mut=true) : ∃ a vs,x=some (.ref a)/\H a=some (.lst vs)/\F a=none/\M.B a=none/\Iss K F s.cnt vs:=by
 cases s with
 | non=>cases m
 | val d=>cases m
 | own ds=>obtain ⟨a,vs,e,h1,h2,h3,h4,h5⟩:=h;exact ⟨a,vs,e,h1,h2,h3,h5⟩
 | pen ds=>obtain ⟨a,vs,e,h1,h2,h3,hx,h5⟩:=h;exact ⟨a,vs,e,h1,h2,h3,h5⟩
 | new d=>cases m
 | exc C=>cases m
 | obj a0 C nm fs=>cases m
def zakr {e:Sto}{i:Nat} (h:(gS e i).mut=true):i<e.length:=by
 by_cases z:i<e.length
 ·exact z
 ·rw [qxw (by omega)] at h;cases h
def EnvOk.chg (I:EnvOk K M F H env σ) {i:Nat}{a:Addr}{ds:List Qh}{vs:List V} (m:(gS env i).mut=true) (ea:vS σ i=some (.ref a)) (h:Iss K F ds vs):EnvOk K M F (upd H a (.lst vs)) (env.set i ((gS env i).upd ds)) σ:=by
 obtain ⟨a',vs0,e,h1,h2,h3,h5⟩:=(I.slot i).addr m;rw [ea] at e;injection e with e;injection e with e;subst e;have hi:=zakr m;have mu:((gS env i).upd ds).mut=true:=by
  cases q:gS env i with
  | non=>rw [q] at m;cases m
  | val d=>rw [q] at m;cases m
  | own d=>rfl
  | pen d=>rfl
  | new d=>rw [q] at m;cases m
  | exc C=>rw [q] at m;cases m
  | obj a0 C nm fs=>rw [q] at m;cases m
 have muj : ∀ j,(gS (env.set i ((gS env i).upd ds)) j).mut=(gS env j).mut:=fun j=>by
  rw [qcz];split
  ·rename_i z;rw [mu,<- z.1,m]
  ·rfl
 refine ⟨by rw [Vl];exact I.len,fun j=>?_,fun j k b hjk m1 m2 e1 e2=>I.dis j k b hjk (muj j ▸ m1) (muj k ▸ m2) e1 e2,I.f0,I.fe,fun b o e=>?_,fun b o e=>?_,I.new,fun b o e=>?_⟩
 ·rw [qcz];by_cases z:i=j
  ·subst z;rw [if_pos ⟨rfl,hi⟩];have S:=I.slot i;cases q:gS env i with
   | non=>rw [q] at m;cases m
   | val d=>rw [q] at m;cases m
   | own ds0 =>
    rw [q] at S;obtain ⟨a',vs',e,g1,g2,g3,g4,g5⟩:=S;rw [ea] at e;injection e with e;injection e with e;subst e;exact ⟨a,vs,ea,qp,g2,g3,g4,h⟩
   | pen ds0 =>
    rw [q] at S;obtain ⟨a',vs',e,g1,g2,g3,gx,g5⟩:=S;rw [ea] at e;injection e with e;injection e with e;subst e;exact ⟨a,vs,ea,qp,g2,g3,gx,h⟩
   | new d=>rw [q] at m;cases m
   | exc C=>rw [q] at m;cases m
   | obj a0 C nm fs=>rw [q] at m;cases m
  ·rw [if_neg (fun y=>z y.1)];have S:=I.slot j;cases q:gS env j with
   | non=>trivial
   | val d=>rw [q] at S;exact S
   | own ds0 =>
    rw [q] at S;obtain ⟨b,vs',e,g1,g2,g3,g4,g5⟩:=S;have hb:b≠a:=fun y=>by subst y;exact I.dis i j b z m (by rw [q];rfl) ea e
    exact ⟨b,vs',e,by rw [qk hb];exact g1,g2,g3,g4,g5⟩
   | pen ds0 =>
    rw [q] at S;obtain ⟨b,vs',e,g1,g2,g3,gx,g5⟩:=S;have hb:b≠a:=fun y=>by subst y;exact I.dis i j b z m (by rw [q];rfl) ea e
    exact ⟨b,vs',e,by rw [qk hb];exact g1,g2,g3,gx,g5⟩
   | new d=>rw [q] at S;exact S
   | exc C=>rw [q] at S;exact S
   | obj a0 C nm fs=>rw [q] at S;exact S
 ·rw [qk (qx e h2)];exact I.fh b o e
 ·rw [qk (qx e h3)];exact I.bh b o e
 ·obtain ⟨o',q⟩:=I.dom b o e;by_cases z:b=a
  ·subst z;exact ⟨_,qp⟩
  ·exact ⟨o',by rw [qk z];exact q⟩
def EnvOk.frz (I:EnvOk K M F H env σ) {a:Addr}{vs:List V} (h1:H a=some (.lst vs)) (h2:F a=none) (h4:M.He a=none) (h5 : ∀ j,(gS env j).mut=true->vS σ j≠some (.ref a)) :
 EnvOk K M (upd F a (.lst vs)) H env σ/\Same F (upd F a (.lst vs)):=by
  have sF:Same F (upd F a (.lst vs)):=qau h2;refine ⟨⟨I.len,fun j=>?_,I.dis,I.f0.trans sF,I.fe,fun b o e=>?_,I.bh,fun b o e=>?_,I.dom⟩,sF⟩
  ·have S:=I.slot j;have n5:=h5 j;cases q:gS env j with
   | non=>trivial
   | val d=>rw [q] at S;obtain ⟨v,e,i⟩:=S;exact ⟨v,e,i.mono sF⟩
   | own ds0 =>
    rw [q] at S n5;obtain ⟨b,vs',e,g1,g2,g3,g4,g5⟩:=S;have hb:b≠a:=fun y=>by subst y;exact n5 rfl e
    exact ⟨b,vs',e,g1,by rw [qk hb];exact g2,g3,g4,g5.mono sF⟩
   | pen ds0 =>
    rw [q] at S n5;obtain ⟨b,vs',e,g1,g2,g3,gx,g5⟩:=S;have hb:b≠a:=fun y=>by subst y;exact n5 rfl e
    exact ⟨b,vs',e,g1,by rw [qk hb];exact g2,g3,gx,g5.mono sF⟩
   | new d=>rw [q] at S;obtain ⟨v,e,i⟩:=S;exact ⟨v,e,i.mono (qqo sF)⟩
   | exc C=>rw [q] at S;obtain ⟨ea,e,i⟩:=S;exact ⟨ea,e,sF.at i⟩
   | obj a0 C nm fs=>rw [q] at S;obtain ⟨dx,vs',e,b',hn,i⟩:=S;exact ⟨dx,vs',e,b',hn,fun f d m=>let ⟨v,l,j⟩:=i f d m; ⟨v,l,j.mono sF⟩⟩
  ·by_cases z:b=a
   ·subst z;rw [qp] at e;rw [h1];exact .of e
   ·rw [qk z] at e;exact I.fh b o e
  ·by_cases z:b=a
   ·subst z;exact .inr h4
   ·rw [qk z] at e;exact I.new b o e
def EnvOk.drop (I:EnvOk K M F H env σ) (i:Nat):EnvOk K M F H (env.set i .non) σ where
 len:=by rw [Vl];exact I.len
 slot:=fun j=>by
  rw [qcz];split
  ·trivial
  ·exact I.slot j
 dis:=fun j k a hjk h1 h2 h3 h4=>by
  rw [qcz] at h1 h2;split at h1
  ·cases h1
  ·split at h2
   ·cases h2
   ·exact I.dis j k a hjk h1 h2 h3 h4
 f0:=I.f0
 fe:=I.fe
 fh:=I.fh
 bh:=I.bh
 new:=I.new
 dom:=I.dom
def EnvOk.tell (I:EnvOk K M F H env σ) {i:Nat}{d:Qh}{v:V} (e:vS σ i=some v) (h:Is K F d v):EnvOk K M F H (env.set i (.val d)) σ where
 len:=by rw [Vl];exact I.len
 slot:=fun j=>by
  rw [qcz];split
  ·rename_i z;rw [<- z.1];exact ⟨v,e,h⟩
  ·exact I.slot j
 dis:=fun j k a hjk h1 h2 h3 h4=>by
  rw [qcz] at h1 h2;split at h1
  ·cases h1
  ·split at h2
   ·cases h2
   ·exact I.dis j k a hjk h1 h2 h3 h4
 f0:=I.f0
 fe:=I.fe
 fh:=I.fh
 bh:=I.bh
 new:=I.new
 dom:=I.dom
def Sl.fz:Sl->Sl
 | .own ds => .val (.list ds)
 | s=>s
def EnvOk.freeze (I:EnvOk K M F H env σ) (i:Nat) : ∃ F',EnvOk K M F' H (env.set i (gS env i).fz) σ/\Same F F':=by
 have same : ∀ s,gS env i=s->env.set i s=env:=fun s h=>by
  subst h;apply Z1;intro j;rw [Qec];split
  ·rename_i z;subst z;split
   ·rename_i hi;have : ∀ (e:Sto) (n:Nat) (h:n<e.length),some (gS e n)=e[n]?:=by
     intro e
     induction e with
     | nil=>intro n h;simp at h
     | cons x e ih=>intro n h;cases n with
      | zero=>rfl
      | succ n=>simp only [gS,Y4];exact ih n (by simpa using h)
    exact this env i hi
   ·rename_i hi;rw [Qy (by omega)]
  ·rfl
 cases q:gS env i with
 | non=>exact ⟨F,by rw [show Sl.fz .non = .non from rfl,same _ q];exact I,.refl _⟩
 | val d=>exact ⟨F,by rw [show Sl.fz (.val d) = .val d from rfl,same _ q];exact I,.refl _⟩
 | pen ds=>exact ⟨F,by rw [show Sl.fz (.pen ds) = .pen ds from rfl,same _ q];exact I,.refl _⟩
 | new d=>exact ⟨F,by rw [show Sl.fz (.new d) = .new d from rfl,same _ q];exact I,.refl _⟩
 | exc C=>exact ⟨F,by rw [show Sl.fz (.exc C) = .exc C from rfl,same _ q];exact I,.refl _⟩
 | obj a0 C nm fs=>exact ⟨F,by rw [show Sl.fz (.obj a0 C nm fs) = .obj a0 C nm fs from rfl,same _ q];exact I,.refl _⟩
 | own ds =>
  have S:=I.slot i;rw [q] at S;obtain ⟨a,vs,e,h1,h2,h3,h4,h5⟩:=S;obtain ⟨J,s⟩:=(I.drop i).frz h1 h2 h4 (fun j m z=>by
   rw [qcz] at m;split at m
   ·cases m
   ·rename_i hn;by_cases hij:i=j
    ·subst hij;exact hn ⟨rfl,zakr (by rw [q];rfl)⟩
    ·exact I.dis i j a hij (by rw [q];rfl) m e z)
  have T:=J.tell (i:=i) (d :=.list ds) e (qfj (SqL.of qp) (h5.mono s));rw [List.set_set] at T;exact ⟨_,T,s⟩
end
end
section
abbrev WE:=Sto->(Qh->Sto->Prop)->Prop
abbrev WF:=Sto->(List Qh->Sto->Prop)->Prop
abbrev WT:=Sto->(Bool->Sto->Prop)->Prop
inductive Ret where
 | val (d:Qh)
 | own (ds:List Qh)
 | new (d:Qh)
def Ret.data:Ret->Qh
 | .val d=>d
 | .own ds => .list ds
 | .new d=>d
structure WEnds where
 nx:Sto->Prop
 rt:Ret->Sto->Prop
 bk:Sto->Prop:=fun _=>False
 ct:Sto->Prop:=fun _=>False
abbrev WS:=WEnds->Sto->Prop
abbrev WG:=Qh->Sto->(Sto->Prop)->Prop
abbrev WGs:=List Qh->Sto->(Sto->Prop)->Prop
abbrev D2:=Qh->Qh->(Qh->Prop)->Prop
abbrev DC:=List Qh->(Qh->Prop)->Prop
section
variable (K:Qd)
def qbw (W:WE):TE:=fun σ H R => ∃ M env F Q,EnvOk K M F H env σ/\W env Q /\ ∀ d v F' H' env',EnvOk K M F' H' env' σ->Same F F'->Is K F' d v->Q d env'->R v H'
def zacb (W:WF):TE:=fun σ H R => ∃ M env F Q,EnvOk K M F H env σ/\W env Q /\ ∀ a vs ds F' H' env',EnvOk K M F' H' env' σ->Same F F'->H' a=some (.lst vs)->F' a=none->M.B a=none->M.He a=none ->
 (∀ i,(gS env' i).mut=true->vS σ i≠some (.ref a))->Iss K F' ds vs->Q ds env'->R (.ref a) H'
def qjk (W:WF):TA:=fun σ H R => ∃ M env F Q,EnvOk K M F H env σ/\W env Q /\ ∀ ds vs F' H' env',EnvOk K M F' H' env' σ->Same F F'->Iss K F' ds vs->Q ds env'->R vs H'
def qnt (W:WT):TT:=fun σ H R => ∃ M env F Q,EnvOk K M F H env σ/\W env Q /\ ∀ b F' H' env',EnvOk K M F' H' env' σ->Same F F'->Q b env'->R b H'
def RetOk (M:Frm) (F H:Hp):Ret->V->Prop
 | .val d,v=>Is K F d v
 | .own ds,v => ∃ a vs,v = .ref a/\H a=some (.lst vs)/\F a=none/\M.B a=none/\M.He a=none/\Iss K F ds vs
 | .new d,v=>IsN K (qlm M F) d v
structure EndsOk (M:Frm) (F:Hp) (DD:WEnds) (D:Ends):Prop where
 nx : ∀ env' F' H' σ',EnvOk K M F' H' env' σ'->Same F F'->DD.nx env'->D.nx σ' H'
 rt : ∀ r v env' F' H' σ',EnvOk K M F' H' env' σ'->Same F F'->RetOk K M F' H' r v->DD.rt r env'->D.rt v H'
 bk : ∀ env' F' H' σ',EnvOk K M F' H' env' σ'->Same F F'->DD.bk env'->D.bk σ' H'
 ct : ∀ env' F' H' σ',EnvOk K M F' H' env' σ'->Same F F'->DD.ct env'->D.ct σ' H'
def zagx (W:WS):TS:=fun D σ H => ∃ M env F DD,EnvOk K M F H env σ/\W DD env/\EndsOk K M F DD D
def qpx (W:WG):TG:=fun v σ H R => ∃ M env F d Q,EnvOk K M F H env σ/\Is K F d v/\W d env Q /\ ∀ F' H' env' σ',EnvOk K M F' H' env' σ'->Same F F'->Q env'->R σ' H'
def zaoh (W:WGs):TGs:=fun vs σ H R => ∃ M env F ds Q,EnvOk K M F H env σ/\Iss K F ds vs/\W ds env Q /\ ∀ F' H' env' σ',EnvOk K M F' H' env' σ'->Same F F'->Q env'->R σ' H'
def qtq (r:D2):R2:=fun x y H Q => ∃ F dx dy q,Same F H/\Is K F dx x/\Is K F dy y/\r dx dy q /\ ∀ d v F' H',Go F H F' H'->Is K F' d v->q d->Q v H'
def zacg (r:DC):List V->Hp->VK->Prop:=fun vs H Q => ∃ F ds q,Same F H/\Iss K F ds vs/\r ds q /\ ∀ d v F' H',Go F H F' H'->Is K F' d v->q d->Q v H'
def qtk (r:List Qh->(List Qh->Prop)->Prop):List V->Hp->VK->Prop:=fun vs H Q => ∃ F ds q,Same F H/\Iss K F ds vs/\r ds q /\ ∀ l a xs F' H',Go F H F' H'->H a=none->F' a=none->H' a=some (.lst xs)->Iss K F' l xs->q l->Q (.ref a) H'
structure ItD (J:It) (F:Hp) (ds:List Qh):Prop where
 go : ∀ i H,Same F H->i<ds.length->J.go i H
 stop : ∀ H,Same F H->J.stop ds.length H
 yld : ∀ i H x H' F1,Same F F1->Same F1 H->i<ds.length->J.yld i H x H' -> ∃ d F2,ds[i]?=some d/\Go F1 H F2 H'/\Is K F2 d x
def qte (W:WF):TI:=fun σ H R => ∃ M env F Q,EnvOk K M F H env σ/\W env Q /\ ∀ ds J F' H' env',EnvOk K M F' H' env' σ->Same F F'->ItD K J F' ds->Q ds env'->R J H'
end
section
variable {K:Qd}{M:Frm}{F F':Hp}{DD:WEnds}{D:Ends}
def EndsOk.mono (h:EndsOk K M F DD D) (s:Same F F'):EndsOk K M F' DD D :=
 ⟨fun e f g i j k=>h.nx e f g i j (s.trans k),fun r v e f g i j k=>h.rt r v e f g i j (s.trans k),fun e f g i j k=>h.bk e f g i j (s.trans k),fun e f g i j k=>h.ct e f g i j (s.trans k)⟩
end
def VE (X:Cx) (e:Expr) (W:WE):Prop:=PE X e (qbw X.K W)
def VF (X:Cx) (e:Expr) (W:WF):Prop:=PE X e (zacb X.K W)
def VA (X:Cx) (e:List Expr) (W:WF):Prop:=PA X e (qjk X.K W)
def VT (X:Cx) (e:Expr) (W:WT):Prop:=PT X e (qnt X.K W)
def VW (X:Cx) (e:Expr) (W:WT):Prop:=PW X e (qnt X.K W)
def VW.pt {X:Cx}{e:Expr}{W:WT} (h:VW X e W):VT X e W:=PW.pt h
def VS (X:Cx) (st:Stmt) (W:WS):Prop:=PS X st (zagx X.K W)
def VSs (X:Cx) (st:List Stmt) (W:WS):Prop:=PSs X st (zagx X.K W)
def VG (X:Cx) (e:Expr) (W:WG):Prop:=PG X e (qpx X.K W)
def VGs (X:Cx) (e:List Expr) (W:WGs):Prop:=PGs X e (zaoh X.K W)
def VI (X:Cx) (tg e:Expr) (W:WF):Prop:=PI X tg e (qte X.K W)
def OpV (X:Cx) (f:Value->Value->Sem Value) (r:D2):Prop:=OpR X f (qtq X.K r)
def qio (X:Cx) (f:Value) (r:DC):Prop:=CallR X f (zacg X.K r)
def qpc (X:Cx) (f:Value) (r:List Qh->(List Qh->Prop)->Prop):Prop:=CallR X f (qtk X.K r)
section
variable {X:Cx}
def PE.imp {e:Expr}{t t':TE} (h:PE X e t) (i : ∀ σ H Q,t' σ H Q->t σ H Q):PE X e t':=fun pins s σ H Q I q=>h pins s σ H Q I (i σ H Q q)
def PA.imp {e:List Expr}{t t':TA} (h:PA X e t) (i : ∀ σ H Q,t' σ H Q->t σ H Q):PA X e t':=fun pos pins s σ H Q I q=>h pos pins s σ H Q I (i σ H Q q)
def PT.imp {e:Expr}{t t':TT} (h:PT X e t) (i : ∀ σ H Q,t' σ H Q->t σ H Q):PT X e t':=fun pins s σ H Q I q=>h pins s σ H Q I (i σ H Q q)
def PW.imp {e:Expr}{t t':TT} (h:PW X e t) (i : ∀ σ H Q,t' σ H Q->t σ H Q):PW X e t':=fun wh pins s σ H Q I q=>h wh pins s σ H Q I (i σ H Q q)
def PS.imp {e:Stmt}{t t':TS} (h:PS X e t) (i : ∀ D σ H,t' D σ H->t D σ H):PS X e t':=fun pins s σ H D I q=>h pins s σ H D I (i D σ H q)
def PSs.imp {e:List Stmt}{t t':TS} (h:PSs X e t) (i : ∀ D σ H,t' D σ H->t D σ H):PSs X e t':=fun pins s σ H D I q=>h pins s σ H D I (i D σ H q)
def PG.imp {e:Expr}{t t':TG} (h:PG X e t) (i : ∀ v σ H Q,t' v σ H Q->t v σ H Q):PG X e t':=fun pins s σ H v u Q I r q=>h pins s σ H v u Q I r (i v σ H Q q)
def PGs.imp {e:List Expr}{t t':TGs} (h:PGs X e t) (i : ∀ v σ H Q,t' v σ H Q->t v σ H Q):PGs X e t':=fun pins s σ H v u Q I r q=>h pins s σ H v u Q I r (i v σ H Q q)
def PI.imp {tg e:Expr}{t t':TI} (h:PI X tg e t) (i : ∀ σ H Q,t' σ H Q->t σ H Q):PI X tg e t':=fun pins s σ H Q I q=>h pins s σ H Q I (i σ H Q q)
def OpR.imp {f:Value->Value->Sem Value}{r r':R2} (h:OpR X f r) (i : ∀ x y H Q,r' x y H Q->r x y H Q):OpR X f r':=fun pins s σ H x y v u Q I a b q=>h pins s σ H x y v u Q I a b (i x y H Q q)
def CallR.imp {f:Value}{r r':List V->Hp->VK->Prop} (h:CallR X f r) (i : ∀ x H Q,r' x H Q->r x H Q):CallR X f r':=fun pins s σ H x u Q I a q=>h pins s σ H x u Q I a (i x H Q q)
def IxR.imp {r r':R2} (h:IxR X r) (i : ∀ x y H Q,r' x y H Q->r x y H Q):IxR X r':=fun value slice pins s σ H x y v u Q I a b q=>h value slice pins s σ H x y v u Q I a b (i x y H Q q)
def wVar (i:Nat):WE:=fun env Q=>match gS env i with | .val d=>Q d env | .new d=>Q d env|_=>False
def qa (i:Nat) {x:Str}{pos:Pos} (hN:X.N[i]?=some x:=by rfl) (hv:Vis X.env.scope x:=by first|exact V1 rfl|exact Va (V1 rfl)|exact Va (Va rfl)) (hd:Nd0 x:=by decide)
 (hcd:Nd1 x:=by decide):VE X (.Name x pos) (wVar i):=(qey hN hv hd hcd).imp fun σ H R xx58=>by
 obtain ⟨M,env,F,Q,I,h,k⟩:=xx58;have S:=I.slot i;unfold wVar at h;cases q:gS env i with
 | val d =>
  rw [q] at S h;obtain ⟨v,e,j⟩:=S;exact ⟨v,qed e,k d v F H env I (.refl _) j h⟩
 | new d =>
  rw [q] at S h;obtain ⟨v,e,j⟩:=S;exact ⟨v,qed e,k d v F H env I (.refl _) (j.is qho) h⟩
 | non=>rw [q] at h;exact h.elim
 | own ds=>rw [q] at h;exact h.elim
 | pen ds=>rw [q] at h;exact h.elim
 | exc C=>rw [q] at h;exact h.elim
 | obj a0 C nm fs=>rw [q] at h;exact h.elim
def wC (d:Qh):WE:=fun env Q=>Q d env
def ve_c {e:Expr}{v:V}{d:Qh} (h:PE X e (tC v)) (i : ∀ F,Is X.K F d v):VE X e (wC d):=h.imp fun σ H R xx59=>by obtain ⟨M,env,F,Q,I,h,k⟩:=xx59;exact k d v F H env I (.refl _) (i F) h
def qd {i j pos}:VE X (.Constant (.int i) j pos) (wC (.int i)):=ve_c zamw fun _=>qad i
def qdv {b j pos}:VE X (.Constant (.bool b) j pos) (wC (.bool b)):=ve_c zapl fun _=>qfd b
def qjf {j pos}:VE X (.Constant .none j pos) (wC .none):=ve_c zamt fun _=>qtc
def zamf {x j pos}:VE X (.Constant (.str x) j pos) (wC (.str x)):=ve_c zame fun _=>zagh x
def wOp (r:D2) (Wa Wb:WE):WE:=fun env Q=>Wa env fun x e1=>Wb e1 fun y e2=>r x y fun d=>Q d e2
def qmw {r:D2}{Wa Wb:WE}{σ:St}{H:Hp}{R:VK} (h:qbw X.K (wOp r Wa Wb) σ H R):tOp (qtq X.K r) (qbw X.K Wa) (qbw X.K Wb) σ H R:=by
 obtain ⟨M,env,F,Q,I,h,k⟩:=h;exact ⟨M,env,F,_,I,h,fun d v F1 H1 e1 I1 s1 i1 h1=>⟨M,e1,F1,_,I1,h1,fun d2 v2 F2 H2 e2 I2 s2 i2 h2 =>
  ⟨F2,d,d2,_,I2.fh,i1.mono s2,i2,h2,fun d3 v3 F3 H3 g i3 q=>k d3 v3 F3 H3 e2 (I2.go g) (s1.trans (s2.trans g.f)) i3 q⟩⟩⟩
section
variable {a b c:Expr}{Wa Wb Wc:WE}{pos:Pos}
def qm {op:Operator}{r:D2} (ho:OpV X (Vp op) r) (ha:VE X a Wa) (hb:VE X b Wb):VE X (.BinOp a op b pos) (wOp r Wa Wb) :=
 (zagw ho ha hb).imp fun _ _ _ h=>qmw h
def qgl {op:CmpOp}{r:D2} (ho:OpV X (Yl op) r) (ha:VE X a Wa) (hb:VE X b Wb) (hm:Qag op b=false:=by first|exact qxq _|with_unfolding_all rfl):VE X (.Compare a [op] [b] pos) (wOp r Wa Wb) :=
 (zaip ho ha hb hm).imp fun _ _ _ h=>qmw h
def qwk (W:WE):WT:=fun env Q=>W env fun d e=>match d with | .bool b=>Q b e|_=>False
def qhf {W:WE}{σ:St}{H:Hp}{R:Bool->Hp->Prop} (h:qnt X.K (qwk W) σ H R):qbw X.K W σ H fun x H' => ∃ k,x = .bl k/\R k H':=by
 obtain ⟨M,env,F,Q,I,h,k⟩:=h;refine ⟨M,env,F,_,I,h,fun d v F1 H1 e1 I1 s1 i1 h1=>?_⟩;cases d with
 | bool b=>exact ⟨b,i1.bl_inv,k b F1 H1 e1 I1 s1 h1⟩
 | _=>exact Zc h1
def qO {op:CmpOp}{r:D2} (ho:OpV X (Yl op) r) (ha:VE X a Wa) (hb:VE X b Wb) (hm:Qag op b=false:=by first|exact qxq _|with_unfolding_all rfl):VT X (.Compare a [op] [b] pos) (qwk (wOp r Wa Wb)) :=
 (qzl ho ha hb hm).imp fun σ H R h=>qmw (qhf h)
def qS {e:Expr}{W:WE} (h:VE X e W) (he : ∀ whole,Qjs e X.env whole=(do let v <- whole;standAt e.pos;holding [v] (truthy v)):=by intro _;rfl):VT X e (qwk W) :=
 (zany h he).imp fun σ H R h=>qhf h
def zaga (r r':D2) (Wa Wb Wc:WE):WE:=fun env Q=>Wa env fun x e1=>Wb e1 fun y e2=>r x y fun z=>match z with
 | .bool k=>if k=true then Wc e2 fun w e3=>r' y w fun d=>Q d e3 else Q (.bool false) e2
 | _=>False
def qwr {r r':D2}{σ:St}{H:Hp}{R:VK} (h:qbw X.K (zaga r r' Wa Wb Wc) σ H R):zafo (qtq X.K r) (qtq X.K r') (qbw X.K Wa) (qbw X.K Wb) (qbw X.K Wc) σ H R:=by
 obtain ⟨M,env,F,Q,I,h,k⟩:=h;refine ⟨M,env,F,_,I,h,fun d v F1 H1 e1 I1 s1 i1 h1=>⟨M,e1,F1,_,I1,h1,fun d2 v2 F2 H2 e2 I2 s2 i2 h2=>⟨F2,d,d2,_,I2.fh,i1.mono s2,i2,h2,fun d3 v3 F3 H3 g i3 q=>?_⟩⟩⟩;have I3:=I2.go g;have s3:=s1.trans (s2.trans g.f);cases d3 with
 | bool b =>
  refine ⟨b,i3.bl_inv,?_⟩;cases b with
  | false=>exact qsq (k _ _ F3 H3 e2 I3 s3 (qfd false) q)
  | true=>exact quw ⟨M,e2,F3,_,I3,q,fun d4 v4 F4 H4 e4 I4 s4 i4 h4=>⟨F4,d2,d4,_,I4.fh,(i2.mono g.f).mono s4,i4,h4,fun d5 v5 F5 H5 g5 i5 q5=>k d5 v5 F5 H5 e4 (I4.go g5) (s3.trans (s4.trans g5.f)) i5 q5⟩⟩
 | _=>exact Zc q
def zaei {op op':CmpOp}{r r':D2} (ho:OpV X (Yl op) r) (ho':OpV X (Yl op') r') (ha:VE X a Wa) (hb:VE X b Wb) (hc:VE X c Wc)
 (hm:lastMarks [op,op'] [b,c]=false:=by with_unfolding_all rfl):VT X (.Compare a [op,op'] [b,c] pos) (qwk (zaga r r' Wa Wb Wc)):=(zaev ho ho' ha hb hc hm).imp fun _ _ _ h=>qwr (qhf h)
end
section
variable {a b c:Expr}{Wa Wb Wc:WE}{Ta Tb Tc:WT}{pos:Pos}{rest:List Expr}
def wAnd (t u:WT):WT:=fun env Q=>t env fun k e=>if k=true then u e Q else Q false e
def wOr (t u:WT):WT:=fun env Q=>t env fun k e=>if k=true then Q true e else u e Q
def wNot (t:WT):WT:=fun env Q=>t env fun k e=>Q (!k) e
def zair (ha:VT X a Ta):VW X (.BoolOp .And [a] pos) Ta:=zahd ha
def qcu (ha:VT X a Ta):VW X (.BoolOp .Or [a] pos) Ta:=zalr ha
def zaoi (ha:VT X a Ta) (hb:VW X (.BoolOp .And (b::rest) pos) Tb):VW X (.BoolOp .And (a::b::rest) pos) (wAnd Ta Tb):=(zaof ha hb).imp fun σ H R xx60=>by
 obtain ⟨M,env,F,Q,I,h,k⟩:=xx60;refine ⟨M,env,F,_,I,h,fun x F1 H1 e1 I1 s1 h1=>?_⟩;cases x with
 | true=>exact quw ⟨M,e1,F1,Q,I1,h1,fun y F2 H2 e2 I2 s2 h2=>k y F2 H2 e2 I2 (s1.trans s2) h2⟩
 | false=>exact qsq (k false F1 H1 e1 I1 s1 h1)
def qdi (ha:VT X a Ta) (hb:VW X (.BoolOp .Or (b::rest) pos) Tb):VW X (.BoolOp .Or (a::b::rest) pos) (wOr Ta Tb):=(zaqh ha hb).imp fun σ H R xx61=>by
 obtain ⟨M,env,F,Q,I,h,k⟩:=xx61;refine ⟨M,env,F,_,I,h,fun x F1 H1 e1 I1 s1 h1=>?_⟩;cases x with
 | true=>exact quw (k true F1 H1 e1 I1 s1 h1)
 | false=>exact qsq ⟨M,e1,F1,Q,I1,h1,fun y F2 H2 e2 I2 s2 h2=>k y F2 H2 e2 I2 (s1.trans s2) h2⟩
def qaf (ha:VT X a Ta):VT X (.UnaryOp .Not a pos) (wNot Ta):=(zalj ha).imp fun σ H R xx62=>by
 obtain ⟨M,env,F,Q,I,h,k⟩:=xx62;exact ⟨M,env,F,_,I,h,fun x F1 H1 e1 I1 s1 h1=>k (!x) F1 H1 e1 I1 s1 h1⟩
def zapy (Wa Wb:WE):WE:=fun env Q=>Wa env fun d e=>match d with | .bool k=>if k=true then Wb e Q else Q (.bool false) e|_=>False
def zaow (Wa:WE):WE:=fun env Q=>Wa env fun d e=>match d with | .bool k=>Q (.bool (!k)) e|_=>False
def qpv {op} (h:VE X a Wa):VE X (.BoolOp op [a] pos) Wa:=zamg h
def qpb (ha:VE X a Wa) (hb:VE X (.BoolOp .And (b::rest) pos) Wb):VE X (.BoolOp .And (a::b::rest) pos) (zapy Wa Wb):=(zalm ha hb).imp fun σ H R xx63=>by
 obtain ⟨M,env,F,Q,I,h,k⟩:=xx63;refine ⟨M,env,F,_,I,h,fun d v F1 H1 e1 I1 s1 i1 h1=>?_⟩;cases d with
 | bool x =>
  refine ⟨x,i1.bl_inv,?_⟩;cases x with
  | true=>exact quw ⟨M,e1,F1,Q,I1,h1,fun d2 v2 F2 H2 e2 I2 s2 i2 h2=>k d2 v2 F2 H2 e2 I2 (s1.trans s2) i2 h2⟩
  | false=>exact qsq (k _ _ F1 H1 e1 I1 s1 (qfd false) h1)
 | _=>exact Zc h1
def zagk (ha:VE X a Wa):VE X (.UnaryOp .Not a pos) (zaow Wa):=(zamn ha).imp fun σ H R xx64=>by
 obtain ⟨M,env,F,Q,I,h,k⟩:=xx64;refine ⟨M,env,F,_,I,h,fun d v F1 H1 e1 I1 s1 i1 h1=>?_⟩;cases d with
 | bool x=>exact ⟨x,i1.bl_inv,k _ _ F1 H1 e1 I1 s1 (qfd _) h1⟩
 | _=>exact Zc h1
def wIfE (t:WT) (Wa Wb:WE):WE:=fun env Q=>t env fun k e=>if k=true then Wa e Q else Wb e Q
def qvp (hc:VT X c Tc) (ha:VE X a Wa) (hb:VE X b Wb):VE X (.IfExp c a b pos) (wIfE Tc Wa Wb):=(zadu hc ha hb).imp fun σ H R xx65=>by
 obtain ⟨M,env,F,Q,I,h,k⟩:=xx65;refine ⟨M,env,F,_,I,h,fun x F1 H1 e1 I1 s1 h1=>?_⟩;cases x with
 | true=>exact quw ⟨M,e1,F1,Q,I1,h1,fun d2 v2 F2 H2 e2 I2 s2 i2 h2=>k d2 v2 F2 H2 e2 I2 (s1.trans s2) i2 h2⟩
 | false=>exact qsq ⟨M,e1,F1,Q,I1,h1,fun d2 v2 F2 H2 e2 I2 s2 i2 h2=>k d2 v2 F2 H2 e2 I2 (s1.trans s2) i2 h2⟩
end
section
variable {a b:Expr}{Wa Wb:WE}{pos p2:Pos}
def wUn (r:Qh->(Qh->Prop)->Prop) (W:WE):WE:=fun env Q=>W env fun d e=>r d fun y=>Q y e
def dNeg:Qh->(Qh->Prop)->Prop
 | .int i,q=>q (.int (-i))
 | _,_=>False
def qmc (ha:VE X a Wa):VE X (.UnaryOp .USub a pos) (wUn dNeg Wa):=(zapw zanf ha).imp fun σ H R xx66=>by
 obtain ⟨M,env,F,Q,I,h,k⟩:=xx66;refine ⟨M,env,F,_,I,h,fun d v F1 H1 e1 I1 s1 i1 h1=>?_⟩;cases d with
 | int i=>exact ⟨i,i1.int_inv,k _ _ F1 H1 e1 I1 s1 (qad _) h1⟩
 | _=>exact Zc h1
def dIx:D2
 | .list l,.int i,q => ∃ d,atI l i=some d/\q d
 | .tuple l,.int i,q => ∃ d,atI l i=some d/\q d
 | _,_,_=>False
def ix_V:IxR X (qtq X.K dIx):=zane.imp fun x y H Q xx67=>by
 obtain ⟨F,dx,dy,q,s,i1,i2,h,k⟩:=xx67;cases dx with
 | list l=>cases dy with
  | int i =>
   obtain ⟨d,e,hq⟩:=h;obtain ⟨a,xs,rfl,hs,hr⟩:=i1.lst_inv;obtain ⟨z,ez,hz⟩:=hr.atI e;exact .inl ⟨a,xs,i,z,rfl,i2.int_inv,s.seq hs,ez,k d z F H (.refl s) hz hq⟩
  | _=>exact Zc h
 | tuple l=>cases dy with
  | int i =>
   obtain ⟨d,e,hq⟩:=h;obtain ⟨a,xs,rfl,hs,hr⟩:=i1.tup_inv;obtain ⟨z,ez,hz⟩:=hr.atI e;exact .inr (.inl ⟨a,xs,i,z,rfl,i2.int_inv,qX s hs,ez,k d z F H (.refl s) hz hq⟩)
  | _=>exact Zc h
 | _=>exact Zc h
def qh (ha:VE X a Wa) (hb:VE X b Wb) (hs:qsc b:=by exact (fun _ _=>rfl)):VE X (.Subscript a b pos) (wOp dIx Wa Wb):=(zalb ix_V ha hb hs).imp fun _ _ _ h=>qmw h
abbrev WO:=Sto->(Option Int->Sto->Prop)->Prop
def zapv (K:Qd) (W:WO):TO:=fun σ H R => ∃ M env F Q,EnvOk K M F H env σ/\W env Q /\ ∀ o F' H' env',EnvOk K M F' H' env' σ->Same F F'->Q o env'->R o H'
def zajf:WO:=fun env Q=>Q none env
def zaqw (W:WE):WO:=fun env Q=>W env fun d e=>match d with | .int i=>Q (some i) e|_=>False
def VO (X:Cx) (e:Option Expr) (W:WO):Prop:=PO X e (zapv X.K W)
def PO.imp {e:Option Expr}{t t':TO} (h:PO X e t) (i : ∀ σ H Q,t' σ H Q->t σ H Q):PO X e t':=fun pins s σ H Q I q=>h pins s σ H Q I (i σ H Q q)
def qhr:VO X none zajf:=zajq.imp fun σ H R xx68=>by obtain ⟨M,env,F,Q,I,h,k⟩:=xx68;exact k none F H env I (.refl _) h
def qdl (ha:VE X a Wa):VO X (some a) (zaqw Wa):=(zajr ha).imp fun σ H R xx69=>by
 obtain ⟨M,env,F,Q,I,h,k⟩:=xx69;refine ⟨M,env,F,_,I,h,fun d v F1 H1 e1 I1 s1 i1 h1=>?_⟩;cases d with
 | int i=>exact ⟨i,i1.int_inv,k (some i) F1 H1 e1 I1 s1 h1⟩
 | _=>exact Zc h1
def qqx {α:Type} (ds:List α) (lo hi:Option Int):List α:=(ds.drop (HT.sIx ds.length 0 lo)).take (HT.sIx ds.length ds.length hi-HT.sIx ds.length 0 lo)
def qzk {K:Qd}{H:Hp}{l:List Qh}{xs:List V} (h:Iss K H l xs) (lo hi:Option Int):Iss K H (qqx l lo hi) (qqq xs lo hi):=by
 have e:qqq xs lo hi=(xs.drop (HT.sIx l.length 0 lo)).take (HT.sIx l.length l.length hi-HT.sIx l.length 0 lo):=by unfold qqq;rw [h.len]
 rw [e];exact qux _ (qvc _ h)
def wSlL (Wa:WE) (Wl Wh:WO):WF:=fun env Q=>Wa env fun d e1=>Wl e1 fun lo e2=>Wh e2 fun hi e3=>match d with | .list l => ∀ r,r=qqx l lo hi->Q r e3|_=>False
def qgw {lo hi:Option Expr}{Wl Wh:WO} (he:VE X a Wa) (hl:VO X lo Wl) (hu:VO X hi Wh):VF X (.Subscript a (.Slice lo hi none p2) pos) (wSlL Wa Wl Wh) :=
 (qwa zakd he hl hu).imp fun σ H R xx70=>by
  obtain ⟨M,env,F,Q,I,h,k⟩:=xx70;refine ⟨M,env,F,_,I,h,fun d v F1 H1 e1 I1 s1 i1 h1=>⟨M,e1,F1,_,I1,h1,fun lo F2 H2 e2 I2 s2 h2=>⟨M,e2,F2,_,I2,h2,fun hi F3 H3 e3 I3 s3 h3=>?_⟩⟩⟩;cases d with
  | list l =>
   obtain ⟨a,xs,rfl,hs,hr⟩:=(i1.mono (s2.trans s3)).lst_inv;refine ⟨a,xs,rfl,I3.fh.seq hs,fun p hp=>?_⟩;have g:=Go.side (o:=HO.lst (qqq xs lo hi)) I3.fh hp;refine k p _ _ F3 _ e3 (I3.go g) (s1.trans (s2.trans s3)) qp (qK I3.fh hp) (qK I3.bh hp) (I3.he hp) (fun i m z=>?_) (qzk hr lo hi) (h3 _ rfl);obtain ⟨b,vs,e,q,_⟩:=(I3.slot i).addr m;rw [z] at e;injection e with e;injection e with e;subst e;rw [hp] at q;cases q
  | _=>exact Zc h3
end
def wL (W:WF):WE:=fun env Q=>W env fun ds e=>Q (.list ds) e
def qy {e:Expr}{W:WF} (h:VF X e W):VE X e (wL W):=h.imp fun σ H R xx71=>by
 obtain ⟨M,env,F,Q,I,h,k⟩:=xx71;refine ⟨M,env,F,_,I,h,fun a vs ds F1 H1 e1 I1 s1 h1 h2 h3 h4 h5 h6 h7=>?_⟩;obtain ⟨J,s⟩:=I1.frz h1 h2 h4 h5;exact k _ _ _ H1 e1 J (s1.trans s) (qfj (SqL.of qp) (h6.mono s)) h7
def qln {K:Qd}{M:Frm}{F H:Hp}{env:Sto}{σ:St} (I:EnvOk K M F H env σ) {p:Addr} (hp:H p=none) : ∀ i,(gS env i).mut=true->vS σ i≠some (.ref p):=fun i m z=>by
 obtain ⟨b,vs,e,q,_⟩:=(I.slot i).addr m;rw [z] at e;injection e with e;injection e with e;subst e;rw [hp] at q;cases q
def qkb {K:Qd}{M:Frm}{F H:Hp}{env:Sto}{σ:St}{R:VK}{Q:List Qh->Sto->Prop}{F0:Hp}{l:List Qh}{xs:List V} (I:EnvOk K M F H env σ) (s:Same F0 F) (hi:Iss K F l xs) (h:Q l env)
 (k : ∀ a vs ds F' H' env',EnvOk K M F' H' env' σ->Same F0 F'->H' a=some (.lst vs)->F' a=none->M.B a=none->M.He a=none->(∀ i,(gS env' i).mut=true->vS σ i≠some (.ref a))->Iss K F' ds vs->Q ds env'->R (.ref a) H') :
 ∀ p,H p=none->R (.ref p) (upd H p (.lst xs)):=fun p hp =>
  k p xs l F _ env (I.go (.side I.fh hp)) s qp (qK I.fh hp) (qK I.bh hp) (I.he hp) (qln I hp) hi h
section
variable {e:Expr}{es:List Expr}{W:WE}{Wr:WF}{pos:Pos}
def wNil:WF:=fun env Q=>Q [] env
def zaox (W:WE) (Wr:WF):WF:=fun env Q=>W env fun d e1=>Wr e1 fun ds e2=>Q (d::ds) e2
def qf:VA X [] wNil:=qeu.imp fun σ H R xx72=>by obtain ⟨M,env,F,Q,I,h,k⟩:=xx72;exact k [] [] F H env I (.refl _) qay h
def qc (ha:VE X e W) (hr:VA X es Wr) (hs:Qu (e::es) X.env=(false,eval e X.env)::Qu es X.env:=by rfl):VA X (e::es) (zaox W Wr) :=
 (qav ha hr hs).imp fun σ H R xx73=>by obtain ⟨M,env,F,Q,I,h,k⟩:=xx73;exact ⟨M,env,F,_,I,h,fun d v F1 H1 e1 I1 s1 i1 h1=>⟨M,e1,F1,_,I1,h1,fun ds vs F2 H2 e2 I2 s2 i2 h2=>k (d::ds) (v::vs) F2 H2 e2 I2 (s1.trans s2) (qap (i1.mono s2) i2) h2⟩⟩
def wTup (Wr:WF):WE:=fun env Q=>Wr env fun ds e=>ds.length<=Zb/\Q (.tuple ds) e
def qat {x1} (h:VA X es Wr):VE X (.Tuple es x1 pos) (wTup Wr):=(zanr h).imp fun σ H R xx74=>by
 obtain ⟨M,env,F,Q,I,h,k⟩:=xx74;refine ⟨M,env,F,_,I,h,fun ds vs F1 H1 e1 I1 s1 i1 h1=>⟨by rw [i1.len];exact h1.1,fun p hp=>?_⟩⟩;have g:=Go.put (o:=HO.tup vs) I1.fh hp;exact k _ _ _ _ e1 (I1.go g) (s1.trans g.f) (qpf (SqT.of qp) (i1.mono g.f)) h1.2
def wLst (Wr:WF):WF:=fun env Q=>Wr env fun ds e=>ds.length<=Zb/\Q ds e
def qR (h:VA X es Wr):VF X (.List es pos) (wLst Wr):=(zafn h).imp fun σ H R xx75=>by
 obtain ⟨M,env,F,Q,I,h,k⟩:=xx75;exact ⟨M,env,F,_,I,h,fun ds vs F1 H1 e1 I1 s1 i1 h1=>⟨by rw [i1.len];exact h1.1,qkb I1 s1 i1 h1.2 k⟩⟩
end
end
end
section
section
variable {X:Cx}
def dI2 (g:Int->Int->(Qh->Prop)->Prop):D2
 | .int i,.int j,q=>g i j q
 | _,_,_=>False
def zaku {g:Int->Int->(Qh->Prop)->Prop}{x y:Qh}{q:Qh->Prop} (h:dI2 g x y q) : ∃ i j,x = .int i/\y = .int j/\g i j q:=by
 cases x with
 | int i=>cases y with
  | int j=>exact ⟨i,j,rfl,rfl,h⟩
  | _=>exact Zc h
 | _=>exact Zc h
def qwx {f:Value->Value->Sem Value}{C:Int->Int->Prop}{g:Int->Int->Qh}{gv:Int->Int->V} (h:OpR X f (rI C gv)) (hg : ∀ i j F,Is X.K F (g i j) (gv i j)):OpV X f (dI2 fun i j q=>C i j/\q (g i j)):=h.imp fun x y H Q xx76=>by
 obtain ⟨F,dx,dy,q,s,i1,i2,h,k⟩:=xx76;obtain ⟨i,j,rfl,rfl,c,hq⟩:=zaku h;exact ⟨i,j,i1.int_inv,i2.int_inv,c,k _ _ F H (.refl s) (hg i j F) hq⟩
def qoz {f:Value->Value->Sem Value}{g:Int->Int->Qh}{gv:Int->Int->V} (h:OpR X f (rI0 gv)) (hg : ∀ i j F,Is X.K F (g i j) (gv i j)):OpV X f (dI2 fun i j q=>q (g i j)):=h.imp fun x y H Q xx77=>by
 obtain ⟨F,dx,dy,q,s,i1,i2,h,k⟩:=xx77;obtain ⟨i,j,rfl,rfl,hq⟩:=zaku h;exact ⟨i,j,i1.int_inv,i2.int_inv,k _ _ F H (.refl s) (hg i j F) hq⟩
abbrev dSub:D2:=dI2 fun i j q=>q (.int (i-j))
abbrev zaqt:D2:=dI2 fun i j q=>IntMulOk i j/\q (.int (i*j))
abbrev zaqd:D2:=dI2 fun i j q=>zakk i j/\q (.int (i.fdiv j))
abbrev dDiv:D2:=dI2 fun i j q=>(0<j/\Qau j<=9000)/\q (.int (i/j))
abbrev dMod:D2:=dI2 fun i j q=>0<j/\q (.int (i%j))
abbrev dPow:D2:=dI2 fun i j q=>CPow i j/\q (.int (i^j.toNat))
abbrev dLt:D2:=dI2 fun i j q=>q (.bool (decide (i<j)))
abbrev dLe:D2:=dI2 fun i j q=>q (.bool (decide (i<=j)))
abbrev dGt:D2:=dI2 fun i j q=>q (.bool (decide (j<i)))
abbrev dGe:D2:=dI2 fun i j q=>q (.bool (decide (j<=i)))
def qqa:OpV X (Vp .Sub) dSub:=qoz zaln fun _ _ _=>qad _
def qC:OpV X (Vp .Mult) zaqt:=qwx zajt fun _ _ _=>qad _
def zafq:OpV X (Vp .FloorDiv) zaqd:=qwx qvm fun _ _ _=>qad _
def zajs:OpR X (Vp .FloorDiv) (rI (fun _ j=>0<j/\Qau j<=9000) fun i j => .int (i/j)):=qvm.imp fun x y H Q xx78=>by
 obtain ⟨i,j,e1,e2,c,q⟩:=xx78;exact ⟨i,j,e1,e2,⟨by have:=c.1;omega,c.2⟩,by show Q (V.int (i.fdiv j)) H;rw [Int.fdiv_eq_ediv_of_nonneg _ (J7 c.1)];exact q⟩
def qjo:OpV X (Vp .FloorDiv) dDiv:=qwx zajs fun _ _ _=>qad _
def qhj:OpV X (Vp .Mod) dMod:=qwx zamm fun _ _ _=>qad _
def qtp:OpV X (Vp .Pow) dPow:=qwx zams fun _ _ _=>qad _
def o_lt:OpV X (Yl .Lt) dLt:=qoz zaqp fun _ _ _=>qfd _
def o_le:OpV X (Yl .LtE) dLe:=qoz zapf fun _ _ _=>qfd _
def o_gt:OpV X (Yl .Gt) dGt:=qoz zaqn fun _ _ _=>qfd _
def o_ge:OpV X (Yl .GtE) dGe:=qoz zapm fun _ _ _=>qfd _
def dEq:D2:=fun d e q=>V2 d=true/\V2 e=true/\q (.bool (Qba d e))
def dNe:D2:=fun d e q=>V2 d=true/\V2 e=true/\q (.bool (!PyData.eqv d e))
def quz (hu:X.A.units+64<cLine):OpV X (Yl .Eq) dEq:=(zann hu).imp fun x y H Q xx79=>by
 obtain ⟨F,dx,dy,q,s,i1,i2,h,k⟩:=xx79;exact ⟨dx,dy,i1.mono s,i2.mono s,h.1,h.2.1,k _ _ F H (.refl s) (qfd _) h.2.2⟩
def qsl (hu:X.A.units+64<cLine):OpV X (Yl .NotEq) dNe:=(zamk hu).imp fun x y H Q xx80=>by
 obtain ⟨F,dx,dy,q,s,i1,i2,h,k⟩:=xx80;exact ⟨dx,dy,i1.mono s,i2.mono s,h.1,h.2.1,k _ _ F H (.refl s) (qfd _) h.2.2⟩
def zaab:Qh->Bool
 | .none=>true
 | _=>false
def dIsN:D2:=fun d e q=>e = .none/\q (.bool (zaab d))
def quc {K:Qd}{F:Hp}{d:Qh}{x:V} (h:Is K F d x):decide (x = .non)=zaab d:=by
 cases d with
 | none=>rw [h.non_inv];rfl
 | bool b=>rw [h.bl_inv];rfl
 | int b=>rw [h.int_inv];rfl
 | str b=>unfold Is at h;rw [h];rfl
 | list l=>obtain ⟨a,xs,rfl,_⟩:=h.lst_inv;rfl
 | tuple l=>obtain ⟨a,xs,rfl,_⟩:=h.tup_inv;rfl
 | dict l=>obtain ⟨a,xs,rfl,_⟩:=h.dct_inv;rfl
def zaci:OpV X (Yl .Is) dIsN:=zaoj.imp fun x y H Q xx81=>by
 obtain ⟨F,dx,dy,q,s,i1,i2,h,k⟩:=xx81;obtain ⟨rfl,hq⟩:=h;exact ⟨i2.non_inv,by rw [quc i1];exact k _ _ F H (.refl s) (qfd _) hq⟩
def dAdd:D2
 | .int i,.int j,q=>q (.int (i+j))
 | .list l,.list m,q=>l.length+m.length<=Zb/\q (.list (l++m))
 | .tuple l,.tuple m,q=>l≠[]/\l.length+m.length<=Zb/\q (.tuple (l++m))
 | .str x,.str y,q=>x.length+y.length<=Zb/\q (.str (x++y))
 | _,_,_=>False
def qar:OpV X (Vp .Add) dAdd:=by
 rintro pins s σ H x y v u Q I rx ry ⟨F,dx,dy,q,sm,i1,i2,h,k⟩;cases dx with
 | int i=>cases dy with
  | int j=>exact zamr pins s σ H x y v u Q I rx ry ⟨i,j,i1.int_inv,i2.int_inv,k _ _ F H (.refl sm) (qad _) h⟩
  | _=>exact Zc h
 | list l=>cases dy with
  | list m =>
   obtain ⟨a,xs,rfl,hs,hr⟩:=i1.lst_inv;obtain ⟨b,ys,rfl,ht,hq⟩:=i2.lst_inv;refine qye pins s σ H _ _ v u Q I rx ry ⟨a,b,xs,ys,rfl,rfl,sm.seq hs,sm.seq ht,by rw [hr.len,hq.len];exact h.1,fun p hp=>?_⟩;have g:=Go.put (o:=HO.lst (xs++ys)) sm hp;exact k _ _ _ _ g (qfj (SqL.of qp) ((qbn hr hq).mono g.f)) h.2
  | _=>exact Zc h
 | tuple l=>cases dy with
  | tuple m =>
   obtain ⟨a,xs,rfl,hs,hr⟩:=i1.tup_inv;obtain ⟨b,ys,rfl,ht,hq⟩:=i2.tup_inv;refine zahm pins s σ H _ _ v u Q I rx ry ⟨a,b,xs,ys,rfl,rfl,qX sm hs,qX sm ht,fun z=>h.1 (Qbf.mp (by rw [<- hr.len,z];rfl)),by rw [hr.len,hq.len];exact h.2.1,fun z=>?_,fun _ p hp=>?_⟩
   ·have hm:m=[]:=Qbf.mp (by rw [<- hq.len,z];rfl);subst hm;refine k _ _ F H (.refl sm) i1 ?_;have:=h.2.2;rw [Y3] at this;exact this
   ·have g:=Go.put (o:=HO.tup (xs++ys)) sm hp;exact k _ _ _ _ g (qpf (SqT.of qp) ((qbn hr hq).mono g.f)) h.2.2
  | _=>exact Zc h
 | str x0=>cases dy with
  | str y0 =>
   unfold Is at i1 i2;exact qwd pins s σ H x y v u Q I rx ry ⟨x0,y0,i1,i2,h.1,k _ _ F H (.refl sm) (zagh _) h.2⟩
  | _=>exact Zc h
 | _=>exact Zc h
def wCat (Wa Wb:WE):WF:=fun env Q=>Wa env fun x e1=>Wb e1 fun y e2=>match x,y with
 | .list l,.list m=>l.length+m.length<=Zb/\Q (l++m) e2
 | _,_=>False
def qmg {a b:Expr}{Wa Wb:WE}{pos:Pos} (ha:VE X a Wa) (hb:VE X b Wb):VF X (.BinOp a .Add b pos) (wCat Wa Wb):=(zagw qye ha hb).imp fun σ H R xx82=>by
 obtain ⟨M,env,F,Q,I,h,k⟩:=xx82;refine ⟨M,env,F,_,I,h,fun d v F1 H1 e1 I1 s1 i1 h1=>⟨M,e1,F1,_,I1,h1,fun d2 v2 F2 H2 e2 I2 s2 i2 h2=>?_⟩⟩;cases d with
 | list l=>cases d2 with
  | list m =>
   obtain ⟨a,xs,rfl,hs,hr⟩:=(i1.mono s2).lst_inv;obtain ⟨b,ys,rfl,ht,hq⟩:=i2.lst_inv;exact ⟨a,b,xs,ys,rfl,rfl,I2.fh.seq hs,I2.fh.seq ht,by rw [hr.len,hq.len];exact h2.1,qkb I2 (s1.trans s2) (qbn hr hq) h2.2 k⟩
  | _=>exact Zc h2
 | _=>exact Zc h2
def wRep (Wa:WF) (Wb:WE):WF:=fun env Q=>Wa env fun l e1=>Wb e1 fun y e2=>match y with
 | .int n=>(-(2^63)<=n/\n<2^63/\l.length*n.toNat<=Zb) /\ ∀ r,r=(Zn n.toNat l).flatten->Q r e2
 | _=>False
def qyp {K:Qd}{H:Hp}{l:List Qh}{xs:List V} (h:Iss K H l xs) : ∀ k:Nat,Iss K H (Zn k l).flatten (Zn k xs).flatten
 | 0=>by simpa using qay
 | k+1=>by rw [Z5,Z5,Jf,Jf];exact qbn h (qyp h k)
def EnvOk.keep {K:Qd}{M:Frm}{F H:Hp}{env:Sto}{σ:St} (I:EnvOk K M F H env σ) {a:Addr}{o:HO} (h:H a=some o) (h5 : ∀ i,(gS env i).mut=true->vS σ i≠some (.ref a)) (h6:M.B a=none) (h7:F a=none) :
 EnvOk K ⟨upd M.B a o,M.He,M.F0⟩ F H env σ where
  len:=I.len
  slot:=fun i=>by
   have S:=I.slot i;have n:=h5 i;cases q:gS env i with
   | non=>trivial
   | val d=>rw [q] at S;exact S
   | own ds =>
    rw [q] at S n;obtain ⟨b,vs,e,g1,g2,g3,g4,g5⟩:=S;have hb:b≠a:=fun z=>by subst z;exact n rfl e
    exact ⟨b,vs,e,g1,g2,by show upd M.B a o b=none;rw [qk hb];exact g3,g4,g5⟩
   | pen ds =>
    rw [q] at S n;obtain ⟨b,vs,e,g1,g2,g3,gx,g5⟩:=S;have hb:b≠a:=fun z=>by subst z;exact n rfl e
    exact ⟨b,vs,e,g1,g2,by show upd M.B a o b=none;rw [qk hb];exact g3,gx,g5⟩
   | new d =>
    rw [q] at S;obtain ⟨v,e,j⟩:=S;refine ⟨v,e,j.mono fun b u eb=>?_⟩;obtain ⟨z1,z2,z3⟩:=qol eb;have hb:b≠a:=fun z=>by subst z;rw [h7] at z3;cases z3
    exact .of (qnc (M:=⟨upd M.B a o,M.He,M.F0⟩) z1 (by show upd M.B a o b=none;rw [qk hb];exact z2) z3)
   | exc C=>rw [q] at S;exact S
   | obj a0 C nm fs =>
    rw [q] at S;obtain ⟨dx,vs,e,g1,g2⟩:=S;exact ⟨dx,vs,e,by show upd M.B a o a0=_;rw [qk (qx g1 h6)];exact g1,g2⟩
  dis:=I.dis
  f0:=I.f0
  fe:=I.fe
  fh:=I.fh
  bh:=fun b u e=>by
   have e:upd M.B a o b=some u:=e;by_cases z:b=a
   ·subst z;rw [qp] at e;exact .of (by rw [<- e];exact h)
   ·rw [qk z] at e;exact I.bh b u e
  new:=I.new
  dom:=I.dom
def EnvOk.unkeep {K:Qd}{M:Frm}{F H:Hp}{env:Sto}{σ:St}{a:Addr}{o:HO} (I:EnvOk K ⟨upd M.B a o,M.He,M.F0⟩ F H env σ) (h6:M.B a=none) (ho : ∀ C dx vs,o ≠ .ins C dx vs:=by intro _ _ _ z;cases z) (hn:NoT o:=by trivial):EnvOk K M F H env σ/\H a=some o:=by
 have mb : ∀ b,upd M.B a o b=none->M.B b=none:=fun b e=>by
  by_cases z:b=a
  ·subst z;exact h6
  ·rw [qk z] at e;exact e
 refine ⟨⟨I.len,fun i=>?_,I.dis,I.f0,I.fe,I.fh,fun b u e=>?_,I.new,I.dom⟩,I.bh.at qp hn⟩
 ·have S:=I.slot i;cases q:gS env i with
  | non=>trivial
  | val d=>rw [q] at S;exact S
  | own ds=>rw [q] at S;obtain ⟨b,vs,e,g1,g2,g3,g4,g5⟩:=S;exact ⟨b,vs,e,g1,g2,mb b g3,g4,g5⟩
  | pen ds=>rw [q] at S;obtain ⟨b,vs,e,g1,g2,g3,gx,g5⟩:=S;exact ⟨b,vs,e,g1,g2,mb b g3,gx,g5⟩
  | new d =>
   rw [q] at S;obtain ⟨v,e,j⟩:=S;refine ⟨v,e,j.mono fun b u eb=>?_⟩;obtain ⟨z1,z2,z3⟩:=qol eb;exact .of (qnc (M:=M) z1 (mb b z2) z3)
  | exc C=>rw [q] at S;exact S
  | obj a0 C nm fs =>
   rw [q] at S;obtain ⟨dx,vs,e,g1,g2⟩:=S;have g1:upd M.B a o a0=some (.ins C dx vs):=g1;by_cases z:a0=a
   ·subst z;rw [qp] at g1;exact (ho C dx vs (Qn g1)).elim
   ·rw [qk z] at g1;exact ⟨dx,vs,e,g1,g2⟩
 ·exact I.bh b u (by show upd M.B a o b=some u;rw [qk (qx e h6)];exact e)
def qxv {a b:Expr}{Wa:WF}{Wb:WE}{pos:Pos} (ha:VF X a Wa) (hb:VE X b Wb):VF X (.BinOp a .Mult b pos) (wRep Wa Wb):=(zagw zanv ha hb).imp fun σ H R xx83=>by
 obtain ⟨M,env,F,Q,I,h,k⟩:=xx83;refine ⟨M,env,F,_,I,h,fun p vs l F1 H1 e1 I1 s1 g1 g2 g3 g4 g5 g6 h1=>⟨_,e1,F1,_,I1.keep g1 g5 g3 g2,h1,fun d2 v2 F2 H2 e2 I2 s2 i2 h2=>?_⟩⟩;obtain ⟨I3,hp⟩:=I2.unkeep g3;cases d2 with
 | int n =>
  obtain ⟨⟨n1,n2,n3⟩,hq⟩:=h2;exact ⟨p,n,vs,rfl,i2.int_inv,hp,n1,n2,by rw [g6.len];exact n3,qkb I3 (s1.trans s2) (qyp (g6.mono s2) n.toNat) (hq _ rfl) k⟩
 | _=>exact Zc h2
section
variable {x:Str}{p pos:Pos}{e:Expr}{es:List Expr}{Wr:WF}{id T:String}{r:DC}{rf:List Qh->(List Qh->Prop)->Prop}
def qwn (r:DC) (Wr:WF):WE:=fun env Q=>Wr env fun ds e=>r ds fun d=>Q d e
def qsz (r:List Qh->(List Qh->Prop)->Prop) (Wr:WF):WF:=fun env Q=>Wr env fun ds e=>r ds fun l=>Q l e
def qkr {σ:St}{H:Hp}{R:VK} (h:qbw X.K (qwn r Wr) σ H R):qjk X.K Wr σ H fun vs H1=>zacg X.K r vs H1 R:=by
 obtain ⟨M,env,F,Q,I,h,k⟩:=h;exact ⟨M,env,F,_,I,h,fun ds vs F1 H1 e1 I1 s1 i1 h1=>⟨F1,ds,_,I1.fh,i1,h1,fun d v F2 H2 g i2 q=>k d v F2 H2 e1 (I1.go g) (s1.trans g.f) i2 q⟩⟩
def qir {σ:St}{H:Hp}{R:VK} (h:zacb X.K (qsz rf Wr) σ H R):qjk X.K Wr σ H fun vs H1=>qtk X.K rf vs H1 R:=by
 obtain ⟨M,env,F,Q,I,h,k⟩:=h;refine ⟨M,env,F,_,I,h,fun ds vs F1 H1 e1 I1 s1 i1 h1=>⟨F1,ds,_,I1.fh,i1,h1,fun l a xs F2 H2 g ha hf hh hi q=>?_⟩⟩;exact k a xs l F2 H2 e1 (I1.go g) (s1.trans g.f) hh hf (qK I1.bh ha) (I1.he ha) (qln I1 ha) hi q
def qu (hc:qio X (.builtin id) r) (hm:X.mg x=none) (hv:Zv x=some (.builtin id)) (ha:VA X (e::es) Wr) (hg:Gl X x:=by rfl) (hn:x ≠ "__name__":=by decide) (hdb:Nd0 x:=by decide)
 (he:Qu (e::es) X.env=(false,eval e X.env)::Qu es X.env:=by rfl) (hpl:(Ja pos (Qu es X.env)).any (·.1)=false:=by rfl):VE X (.Call (.Name x p) (e::es) [] pos) (qwn r Wr) :=
 (qju hc hg hm hv ha hn hdb he hpl).imp fun _ _ _ h=>qkr h
def qdd (hc:qio X (.type T) r) (hm:X.mg x=none) (hv:Zv x=some (.type T)) (ha:VA X (e::es) Wr) (hg:Gl X x:=by rfl) (hn:x ≠ "__name__":=by decide) (hdb:Nd0 x:=by decide)
 (he:Qu (e::es) X.env=(false,eval e X.env)::Qu es X.env:=by rfl) (hpl:(Ja pos (Qu es X.env)).any (·.1)=false:=by rfl):VE X (.Call (.Name x p) (e::es) [] pos) (qwn r Wr) :=
 (qko hc hg hm hv ha hn hdb he hpl).imp fun _ _ _ h=>qkr h
def zafd (hc:qpc X (.builtin id) rf) (hm:X.mg x=none) (hv:Zv x=some (.builtin id)) (ha:VA X (e::es) Wr) (hg:Gl X x:=by rfl) (hn:x ≠ "__name__":=by decide) (hdb:Nd0 x:=by decide)
 (he:Qu (e::es) X.env=(false,eval e X.env)::Qu es X.env:=by rfl) (hpl:(Ja pos (Qu es X.env)).any (·.1)=false:=by rfl):VF X (.Call (.Name x p) (e::es) [] pos) (qsz rf Wr) :=
 (qju hc hg hm hv ha hn hdb he hpl).imp fun _ _ _ h=>qir h
def zabp (hc:qpc X (.type T) rf) (hm:X.mg x=none) (hv:Zv x=some (.type T)) (ha:VA X (e::es) Wr) (hg:Gl X x:=by rfl) (hn:x ≠ "__name__":=by decide) (hdb:Nd0 x:=by decide)
 (he:Qu (e::es) X.env=(false,eval e X.env)::Qu es X.env:=by rfl) (hpl:(Ja pos (Qu es X.env)).any (·.1)=false:=by rfl):VF X (.Call (.Name x p) (e::es) [] pos) (qsz rf Wr) :=
 (qko hc hg hm hv ha hn hdb he hpl).imp fun _ _ _ h=>qir h
def PSp (K:Qd) (sp:DC):Sp:=fun vs H Q _=>zacg K sp vs H Q
def FSp (K:Qd) (sp:List Qh->(List Qh->Prop)->Prop):Sp:=fun vs H Q _=>qtk K sp vs H Q
def qr {k:Nat}{ps:List Str}{sp:DC} (O:OkC X x k ps (PSp X.K sp)) (hr:Room k X.A) (ha:VA X (e::es) Wr) (hg:Gl X x:=by rfl) (hdb:Nd0 x:=by decide)
 (he:Qu (e::es) X.env=(false,eval e X.env)::Qu es X.env:=by rfl) (hpl:(Ja pos (Qu es X.env)).any (·.1)=false:=by rfl):VE X (.Call (.Name x p) (e::es) [] pos) (qwn sp Wr) :=
 (zace O hr ha hg hdb he hpl).imp fun σ H R h=>by
  have e:qpz (PSp X.K sp) [] E0 (qjk X.K Wr) σ H R=qjk X.K Wr σ H fun vs H1=>zacg X.K sp vs H1 R:=by unfold qpz PSp;simp only [Y3]
  rw [e];exact qkr h
def qfc {k:Nat}{ps:List Str}{sp:List Qh->(List Qh->Prop)->Prop} (O:OkC X x k ps (FSp X.K sp)) (hr:Room k X.A) (ha:VA X (e::es) Wr) (hg:Gl X x:=by rfl) (hdb:Nd0 x:=by decide)
 (he:Qu (e::es) X.env=(false,eval e X.env)::Qu es X.env:=by rfl) (hpl:(Ja pos (Qu es X.env)).any (·.1)=false:=by rfl):VF X (.Call (.Name x p) (e::es) [] pos) (qsz sp Wr) :=
 (zace O hr ha hg hdb he hpl).imp fun σ H R h=>by
  have e:qpz (FSp X.K sp) [] E0 (qjk X.K Wr) σ H R=qjk X.K Wr σ H fun vs H1=>qtk X.K sp vs H1 R:=by unfold qpz FSp;simp only [Y3]
  rw [e];exact qir h
end
def dAbs:DC
 | [.int i],q=>q (.int (if i<0 then -i else i))
 | _,_=>False
def zaql:DC
 | [.int i,.int j],q=>q (.int (if j>i then j else i))
 | _,_=>False
def zapc:DC
 | [.int i,.int j],q=>q (.int (if j<i then j else i))
 | _,_=>False
def dLen:DC
 | [.list l],q=>q (.int l.length)
 | [.tuple l],q=>q (.int l.length)
 | [.str x],q=>x.length<=Zb/\q (.int x.length)
 | _,_=>False
def qky {K:Qd}{H:Hp}{d:Qh}{vs:List V} (h:Iss K H [d] vs) : ∃ v,vs=[v]/\Is K H d v:=by
 obtain ⟨x,r,rfl,p,q⟩:=h.cons_inv;rw [q.nil_inv];exact ⟨x,rfl,p⟩
def iss2 {K:Qd}{H:Hp}{d e:Qh}{vs:List V} (h:Iss K H [d,e] vs) : ∃ v u,vs=[v,u]/\Is K H d v/\Is K H e u:=by
 obtain ⟨x,r,rfl,p,q⟩:=h.cons_inv;obtain ⟨y,rfl,q'⟩:=qky q;exact ⟨x,y,rfl,p,q'⟩
def zagy:qio X (.builtin "abs") dAbs:=zafc.imp fun xs H Q xx84=>by
 obtain ⟨F,ds,q,s,i,h,k⟩:=xx84
 match ds,h,i with
 | [.int n],h,i =>
  obtain ⟨v,rfl,j⟩:=qky i;exact ⟨n,by rw [j.int_inv],k _ _ F H (.refl s) (qad _) h⟩
def zaoa (hc:X.calm=true):qio X (.builtin "max") zaql:=(zaaw hc).imp fun xs H Q xx85=>by
 obtain ⟨F,ds,q,s,i,h,k⟩:=xx85
 match ds,h,i with
 | [.int n,.int m],h,i =>
  obtain ⟨v,u,rfl,j,j2⟩:=iss2 i;exact ⟨n,m,by rw [j.int_inv,j2.int_inv],k _ _ F H (.refl s) (qad _) h⟩
def zamv (hc:X.calm=true):qio X (.builtin "min") zapc:=(zaag hc).imp fun xs H Q xx86=>by
 obtain ⟨F,ds,q,s,i,h,k⟩:=xx86
 match ds,h,i with
 | [.int n,.int m],h,i =>
  obtain ⟨v,u,rfl,j,j2⟩:=iss2 i;exact ⟨n,m,by rw [j.int_inv,j2.int_inv],k _ _ F H (.refl s) (qad _) h⟩
def qbx:qio X (.builtin "len") dLen:=(qrn.or qrr).imp fun xs H Q xx87=>by
 obtain ⟨F,ds,q,s,i,h,k⟩:=xx87
 match ds,h,i with
 | [.list l],h,i =>
  obtain ⟨v,rfl,j⟩:=qky i;obtain ⟨a,xs,rfl,hs,hr⟩:=j.lst_inv;exact .inl ⟨a,xs,rfl,.inl (s.seq hs),k _ _ F H (.refl s) (by rw [hr.len];exact qad _) h⟩
 | [.tuple l],h,i =>
  obtain ⟨v,rfl,j⟩:=qky i;obtain ⟨a,xs,rfl,hs,hr⟩:=j.tup_inv;exact .inl ⟨a,xs,rfl,.inr (qX s hs),k _ _ F H (.refl s) (by rw [hr.len];exact qad _) h⟩
 | [.str z],h,i =>
  obtain ⟨v,rfl,j⟩:=qky i;unfold Is at j;subst j;exact .inr ⟨z,rfl,h.1,k _ _ F H (.refl s) (qad _) h.2⟩
def zamq:List Qh->(List Qh->Prop)->Prop
 | [.list l],q=>q l
 | [.tuple l],q=>q l
 | _,_=>False
def zank:qpc X (.type "list") zamq:=qru.imp fun xs H Q xx88=>by
 obtain ⟨F,ds,q,s,i,h,k⟩:=xx88
 match ds,h,i with
 | [.list l],h,i =>
  obtain ⟨v,rfl,j⟩:=qky i;obtain ⟨a,xs,rfl,hs,hr⟩:=j.lst_inv;exact ⟨a,xs,rfl,.inl (s.seq hs),fun p hp=>k l p xs F _ (.side s hp) hp (qK s hp) qp hr h⟩
 | [.tuple l],h,i =>
  obtain ⟨v,rfl,j⟩:=qky i;obtain ⟨a,xs,rfl,hs,hr⟩:=j.tup_inv;exact ⟨a,xs,rfl,.inr (qX s hs),fun p hp=>k l p xs F _ (.side s hp) hp (qK s hp) qp hr h⟩
def zamc:DC
 | [.list l],q=>q (.tuple l)
 | [.tuple l],q=>q (.tuple l)
 | _,_=>False
def qgj:qio X (.type "tuple") zamc:=qhy.imp fun xs H Q xx89=>by
 obtain ⟨F,ds,q,s,i,h,k⟩:=xx89
 match ds,h,i with
 | [.list l],h,i =>
  obtain ⟨v,rfl,j⟩:=qky i;obtain ⟨a,xs,rfl,hs,hr⟩:=j.lst_inv;refine ⟨a,xs,rfl,.inl ⟨s.seq hs,fun p hp=>?_⟩⟩;have g:=Go.put (o:=HO.tup xs) s hp;exact k _ _ _ _ g (qpf (SqT.of qp) (hr.mono g.f)) h
 | [.tuple l],h,i =>
  obtain ⟨v,rfl,j⟩:=qky i;obtain ⟨a,xs,rfl,hs,hr⟩:=j.tup_inv;exact ⟨a,xs,rfl,.inr ⟨qX s hs,k _ _ F H (.refl s) j h⟩⟩
end
end
section
section
variable {X:Cx}
section
variable {a b c e o:Expr}{W Wa Wb:WE}{Tc:WT}{pos pos':Pos}{st:Stmt}{sts rest:List Stmt}{Wt Wu:WS}{WfF:WF}
def zaqm:WS:=fun D env=>D.nx env
def wSeq (t u:WS):WS:=fun D env=>t { D with nx:=u D } env
def wMid (t u:WS):WS:=fun D env => ∃ Md:Sto->Prop,t { D with nx:=Md } env /\ ∀ e,Md e->u D e
def zamx:WS:=fun _ _=>False
def qA:VSs X [] zaqm:=qyt.imp fun D σ H xx90=>by obtain ⟨M,env,F,DD,I,h,k⟩:=xx90;exact k.nx env F H σ I (.refl _) h
def qg (h:VS X st Wt):VSs X [st] Wt:=qjz h
def qe (h1:VS X st Wt) (h2:VSs X rest Wu):VSs X (st::rest) (wSeq Wt Wu):=(qeg h1 h2).imp fun D σ H xx91=>by
 obtain ⟨M,env,F,DD,I,h,k⟩:=xx91;exact ⟨M,env,F,{ DD with nx:=Wu DD },I,h,fun e' F' H' σ' I' s' h'=>⟨M,e',F',DD,I',h',k.mono s'⟩,k.rt,k.bk,k.ct⟩
def qkc (h1:VS X st Wt) (h2:VSs X rest Wu):VSs X (st::rest) (wMid Wt Wu):=(qeg h1 h2).imp fun D σ H xx92=>by
 obtain ⟨M,env,F,DD,I,⟨Md,h,hm⟩,k⟩:=xx92;exact ⟨M,env,F,{ DD with nx:=Md },I,h,fun e' F' H' σ' I' s' h'=>⟨M,e',F',DD,I',hm e' h',k.mono s'⟩,k.rt,k.bk,k.ct⟩
def qff:VSs X sts zamx:=zaaz.imp fun D σ H xx93=>by obtain ⟨M,env,F,DD,I,h,k⟩:=xx93;exact h.elim
def wFz (i:Nat) (t:WS):WS:=fun D env=>t D (env.set i (gS env i).fz)
def qjh (i:Nat) (h:VSs X sts Wt):VSs X sts (wFz i Wt):=h.imp fun D σ H xx94=>by
 obtain ⟨M,env,F,DD,I,h,k⟩:=xx94;obtain ⟨F',J,s⟩:=I.freeze i;exact ⟨M,_,F',DD,J,h,k.mono s⟩
def zaki (W:WE):WS:=fun D env=>W env fun _ e=>D.nx e
def qnp (he:VE X e W) (hs:Qaa e none pos.line X.env=pure false:=by rfl):VS X (.Expr e pos) (zaki W):=(qnm he hs).imp fun D σ H xx95=>by
 obtain ⟨M,env,F,DD,I,h,k⟩:=xx95;exact ⟨M,env,F,_,I,h,fun d v F1 H1 e1 I1 s1 i1 h1=>k.nx e1 F1 H1 σ I1 s1 h1⟩
def wRet (W:WE):WS:=fun D env=>W env fun d e=>D.rt (.val d) e
def qt (he:VE X e W):VS X (.Return (some e) pos) (wRet W):=(qmf he).imp fun D σ H xx96=>by
 obtain ⟨M,env,F,DD,I,h,k⟩:=xx96;exact ⟨M,env,F,_,I,h,fun d v F1 H1 e1 I1 s1 i1 h1=>k.rt (.val d) v e1 F1 H1 σ I1 s1 i1 h1⟩
def zapi (W:WF):WS:=fun D env=>W env fun l e=>D.rt (.own l) e
def zaaa (he:VF X e WfF):VS X (.Return (some e) pos) (zapi WfF):=(qmf he).imp fun D σ H xx97=>by
 obtain ⟨M,env,F,DD,I,h,k⟩:=xx97;exact ⟨M,env,F,_,I,h,fun p vs l F1 H1 e1 I1 s1 g1 g2 g3 g4 g5 g6 h1=>k.rt (.own l) _ e1 F1 H1 σ I1 s1 ⟨p,vs,rfl,g1,g2,g3,g4,g6⟩ h1⟩
def zaky (i:Nat):WS:=fun D env=>match gS env i with | .own ds=>D.rt (.own ds) env|_=>False
def qhx (i:Nat) {x:Str}{px:Pos} (hN:X.N[i]?=some x:=by rfl) (hv:Vis X.env.scope x:=by first|exact V1 rfl|exact Va (V1 rfl)|exact Va (Va rfl)) (hd:Nd0 x:=by decide)
 (hcd:Nd1 x:=by decide):VS X (.Return (some (.Name x px)) pos) (zaky i):=(qmf (qey hN hv hd hcd)).imp fun D σ H xx98=>by
 obtain ⟨M,env,F,DD,I,h,k⟩:=xx98;have S:=I.slot i;unfold zaky at h;cases q:gS env i with
 | own ds =>
  rw [q] at S h;obtain ⟨p,vs,e,g1,g2,g3,g4,g5⟩:=S;exact ⟨_,qed e,k.rt (.own ds) _ env F H σ I (.refl _) ⟨p,vs,rfl,g1,g2,g3,g4,g5⟩ h⟩
 | non=>rw [q] at h;exact h.elim
 | val d=>rw [q] at h;exact h.elim
 | pen ds=>rw [q] at h;exact h.elim
 | new d=>rw [q] at h;exact h.elim
 | exc C=>rw [q] at h;exact h.elim
 | obj a0 C nm fs=>rw [q] at h;exact h.elim
def wIf (Tc:WT) (t u:WS):WS:=fun D env=>Tc env fun k e=>if k=true then t D e else u D e
def qas {A B:List Stmt} (hc:VT X c Tc) (ha:VSs X A Wt) (hb:VSs X B Wu):VS X (.If c A B pos) (wIf Tc Wt Wu):=(zagu hc ha hb).imp fun D σ H xx99=>by
 obtain ⟨M,env,F,DD,I,h,k⟩:=xx99;refine ⟨M,env,F,_,I,h,fun x F1 H1 e1 I1 s1 h1=>?_⟩;cases x with
 | true=>exact quw ⟨M,e1,F1,DD,I1,h1,k.mono s1⟩
 | false=>exact qsq ⟨M,e1,F1,DD,I1,h1,k.mono s1⟩
def wSet (i:Nat) (W:WE):WS:=fun D env=>W env fun d e=>D.nx (e.set i (.val d))
def ql {i:Nat}{x:Str} (hN:X.N.Nodup) (he:VE X e W) (hi:X.N[i]?=some x:=by rfl) (hx:Loc X.env.scope x:=by first|exact V1 rfl|exact Va rfl) (hs:Qaa e (some (.Name x pos')) pos.line X.env=pure false:=by rfl)
 (hf:X.fn x=true\/X.env.scope.names.lookup x=some .local:=by first|exact .inl rfl|exact .inr rfl):VS X (.Assign [.Name x pos'] e pos) (wSet i W):=(qjg hN hi hx he hs hf).imp fun D σ H xx100=>by
 obtain ⟨M,env,F,DD,I,h,k⟩:=xx100;exact ⟨M,env,F,_,I,h,fun d v F1 H1 e1 I1 s1 i1 h1=>k.nx _ F1 H1 _ (I1.setv i1) s1 h1⟩
def zale (i:Nat) (W:WF):WS:=fun D env=>W env fun l e=>D.nx (e.set i (.own l))
def qca {i:Nat}{x:Str} (hN:X.N.Nodup) (he:VF X e WfF) (hi:X.N[i]?=some x:=by rfl) (hx:Loc X.env.scope x:=by first|exact V1 rfl|exact Va rfl) (hs:Qaa e (some (.Name x pos')) pos.line X.env=pure false:=by rfl)
 (hf:X.fn x=true\/X.env.scope.names.lookup x=some .local:=by first|exact .inl rfl|exact .inr rfl):VS X (.Assign [.Name x pos'] e pos) (zale i WfF):=(qjg hN hi hx he hs hf).imp fun D σ H xx101=>by
 obtain ⟨M,env,F,DD,I,h,k⟩:=xx101;exact ⟨M,env,F,_,I,h,fun p vs l F1 H1 e1 I1 s1 g1 g2 g3 g4 g5 g6 h1=>k.nx _ F1 H1 _ (I1.seto g1 g2 g3 g4 g5 g6) s1 h1⟩
def zand (i:Nat):WG:=fun d env Q=>Q (env.set i (.val d))
def qo {i:Nat}{x:Str} (hN:X.N.Nodup) (hi:X.N[i]?=some x:=by rfl) (hx:Loc X.env.scope x:=by first|exact V1 rfl|exact Va rfl) (hf:X.fn x=true\/X.env.scope.names.lookup x=some .local:=by first|exact .inl rfl|exact .inr rfl):VG X (.Name x pos) (zand i) :=
 (qzf hN hi hx hf).imp fun v σ H R xx102=>by obtain ⟨M,env,F,d,Q,I,j,h,k⟩:=xx102;exact k F H _ _ (I.setv j) (.refl _) h
def zaqg:WGs:=fun ds env Q=>ds=[]/\Q env
def zalt (G:WG) (Gs:WGs):WGs:=fun ds env Q=>match ds with|[]=>False|d::r=>G d env fun e=>Gs r e Q
def qnr:VGs X [] zaqg:=zaiy.imp fun v σ H R xx103=>by
 obtain ⟨M,env,F,ds,Q,I,j,h,k⟩:=xx103;obtain ⟨rfl,h⟩:=h;exact ⟨j.nil_inv,k F H env σ I (.refl _) h⟩
def qdn {es:List Expr}{G:WG}{Gs:WGs} (h1:VG X e G) (h2:VGs X es Gs) (hs:(Jw (e::es) X.env).map (·.2)=Qgi e X.env::(Jw es X.env).map (·.2):=by rfl):VGs X (e::es) (zalt G Gs) :=
 (zaem h1 h2 hs).imp fun v σ H R xx104=>by
  obtain ⟨M,env,F,ds,Q,I,j,h,k⟩:=xx104;cases ds with
  | nil=>exact Zc h
  | cons d r =>
   obtain ⟨x,xs,rfl,j1,j2⟩:=j.cons_inv;exact ⟨x,xs,rfl,M,env,F,d,_,I,j1,h,fun F1 H1 e1 σ1 I1 s1 q1=>⟨M,e1,F1,r,Q,I1,j2.mono s1,q1,fun F2 H2 e2 σ2 I2 s2 q2=>k F2 H2 e2 σ2 I2 (s1.trans s2) q2⟩⟩
def zapa (n:Nat) (Gs:WGs):WG:=fun d env Q=>match d with | .tuple l=>l.length=n/\Gs l env Q|_=>False
def qsw {es:List Expr}{kk n:Nat}{Gs:WGs} (hc:X.calm=true) (h:VGs X es Gs) (hn:(Jw es X.env).length=n:=by rfl) (hst:(Jw es X.env).findIdx? (·.1)=none:=by rfl):VG X (.Tuple es kk pos) (zapa n Gs) :=
 (zaod hc h hn hst).imp fun v σ H R xx105=>by
  obtain ⟨M,env,F,d,Q,I,j,h,k⟩:=xx105;cases d with
  | tuple l =>
   obtain ⟨a,xs,rfl,hs,hr⟩:=j.tup_inv;exact ⟨a,xs,rfl,qX I.fh hs,by rw [hr.len];exact h.1,M,env,F,l,Q,I,hr,h.2,k⟩
  | _=>exact Zc h
def wAsg (W:WE) (G:WG):WS:=fun D env=>W env fun d e=>G d e D.nx
def zagl {tg:Expr}{G:WG} (he:VE X e W) (hg:VG X tg G) (hs:swapsWithSole [tg] e pos.line X.env=pure false:=by rfl) (hw:swappedStores [tg] e X.env=pure none:=by rfl)
 (h1:(Jw [tg] X.env).map (·.2)=[Qgi tg X.env]:=by rfl):VS X (.Assign [tg] e pos) (wAsg W G):=(zanh he hg hs hw h1).imp fun D σ H xx106=>by
 obtain ⟨M,env,F,DD,I,h,k⟩:=xx106;exact ⟨M,env,F,_,I,h,fun d v F1 H1 e1 I1 s1 i1 h1=>⟨M,e1,F1,d,_,I1,i1,h1,fun F2 H2 e2 σ2 I2 s2 q2=>k.nx e2 F2 H2 σ2 I2 (s1.trans s2) q2⟩⟩
def wApp (i:Nat) (W:WE):WS:=fun D env=>(gS env i).mut=true/\W env fun d e=>(gS e i).mut=true/\(gS e i).cnt.length<Zb/\D.nx (e.set i ((gS e i).upd ((gS e i).cnt++[d])))
def qaj (i:Nat) {x:Str}{px apos cpos:Pos} (he:VE X e W) (hN:X.N[i]?=some x:=by rfl) (hv:Vis X.env.scope x:=by first|exact V1 rfl|exact Va (V1 rfl)|exact Va (Va rfl)) (hd:Nd0 x:=by decide)
 (hcd:Nd1 x:=by decide)
 (hbase:Qcw (.Name x px) "append" X.env (eval (.Name x px) X.env)=eval (.Name x px) X.env:=by rfl)
 (hfew:((Ja cpos (Qu [e] X.env)).all (fun x => !x.1)&&(Qiu cpos (Qer [] X.env)).all (fun x=>x.1.isSome)
  && decide ([e].length+([]:List Qdx).length+(if ([]:List Qdx).isEmpty then 0 else 1)<30))=true:=by rfl)
 (hline:(apos.endLine==cpos.line)=true:=by rfl) (hst:Qu [e] X.env=(false,eval e X.env)::Qu [] X.env:=by rfl) (hplain:(Ja cpos (Qu [] X.env)).any (·.1)=false:=by rfl)
 (hs:Qaa (.Call (.Attribute (.Name x px) "append" apos) [e] [] cpos) none pos.line X.env=pure false:=by rfl):VS X (.Expr (.Call (.Attribute (.Name x px) "append" apos) [e] [] cpos) pos) (wApp i W) :=
 (qnm (qqk (qey hN hv hd hcd) he hbase hfew hline hst hplain) hs).imp fun D σ H xx107=>by
  obtain ⟨M,env,F,DD,I,⟨hm,h⟩,k⟩:=xx107;obtain ⟨p,vs,ep,g1,g2,g3,g4⟩:=(I.slot i).addr hm;refine ⟨_,qed ep,.inl ⟨rfl,_,SqL.of g1⟩,M,env,F,_,I,h,fun d v F1 H1 e1 I1 s1 i1 h1=>?_⟩;obtain ⟨m1,z1,q1⟩:=h1;obtain ⟨p',vs1,ep',f1,f2,f3,f4⟩:=(I1.slot i).addr m1;rw [ep] at ep';injection ep' with ep';injection ep' with ep';subst ep';exact ⟨p,vs1,v,rfl,rfl,f1,by rw [f4.len];exact z1,k.nx _ F1 _ σ (I1.chg m1 ep (qbn f4 (qap i1 qay))) s1 q1⟩
def wIxO (i:Nat) (Wj:WE):WE:=fun env Q=>(gS env i).mut=true/\Wj env fun y e=>match y with
 | .int n=>(gS e i).mut=true /\ ∃ d,atI (gS e i).cnt n=some d/\Q d e
 | _=>False
def zalk (i:Nat) {x:Str}{px:Pos} (hj:VE X b Wb) (hN:X.N[i]?=some x:=by rfl) (hv:Vis X.env.scope x:=by first|exact V1 rfl|exact Va (V1 rfl)|exact Va (Va rfl)) (hd:Nd0 x:=by decide)
 (hcd:Nd1 x:=by decide) (hs:qsc b:=by exact (fun _ _=>rfl)):VE X (.Subscript (.Name x px) b pos) (wIxO i Wb) :=
 (zalb qza (qey hN hv hd hcd) hj hs).imp fun σ H R xx108=>by
  obtain ⟨M,env,F,Q,I,⟨m,h⟩,k⟩:=xx108;obtain ⟨p,vs,ep,g1,g2,g3,g4⟩:=(I.slot i).addr m;refine ⟨_,qed ep,M,env,F,_,I,h,fun d2 v2 F2 H2 e2 I2 s2 i2 h2=>?_⟩;cases d2 with
  | int n =>
   obtain ⟨m2,d,hd,q⟩:=h2;obtain ⟨p',vs1,ep',f1,f2,f3,f4⟩:=(I2.slot i).addr m2;rw [ep] at ep';injection ep' with ep';injection ep' with ep';subst ep';obtain ⟨z,ez,hz⟩:=f4.atI hd;exact ⟨p,vs1,n,z,rfl,i2.int_inv,SqL.of f1,ez,k d z F2 H2 e2 I2 s2 hz q⟩
  | _=>exact Zc h2
def zali (Tc:WT) (t:WS):WS:=fun D env => ∃ P:Nat->Sto->Prop,(∃ m,P m env) /\ ∀ m e,P m e->Tc e fun k e1=>if k=true then t { D with nx:=fun e2 => ∃ m',m'<m/\P m' e2,ct:=fun e2 => ∃ m',m'<m/\P m' e2,bk:=D.nx } e1 else D.nx e1
def qjm {body:List Stmt} (hc:VT X c Tc) (hb:VSs X body Wt) (hp:Qhh (model X.prog X.w) X.A X.env X.xe:=by exact Qfd):VS X (.While c body [] pos) (zali Tc Wt) :=
 (zadq hp hc hb).imp fun D σ H xx112=>by
  obtain ⟨M,env,F,DD,I,⟨P,⟨m0,p0⟩,turn⟩,k⟩:=xx112;refine ⟨fun m σ' H' => ∃ e' F',EnvOk X.K M F' H' e' σ'/\Same F F'/\P m e',⟨m0,env,F,I,.refl _,p0⟩,fun m σ1 H1 xx111=>?_⟩;obtain ⟨e1,F1,I1,s1,p1⟩:=xx111;refine ⟨M,e1,F1,_,I1,turn m e1 p1,fun x F2 H2 e2 I2 s2 h2=>?_⟩;cases x with
  | true =>
   refine quw ⟨fun σ' H' => ∃ m',m'<m /\ ∃ e' F',EnvOk X.K M F' H' e' σ'/\Same F F'/\P m' e',fun σ' H' z=>z,M,e2,F2,_,I2,h2,?_⟩;have s02:=s1.trans s2;exact ⟨fun e3 F3 H3 σ3 I3 s3 xx110=>by obtain ⟨m',l,p3⟩:=xx110;exact ⟨m',l,e3,F3,I3,s02.trans s3,p3⟩,fun r v e3 F3 H3 σ3 I3 s3=>k.rt r v e3 F3 H3 σ3 I3 (s02.trans s3),
    fun e3 F3 H3 σ3 I3 s3=>k.nx e3 F3 H3 σ3 I3 (s02.trans s3),fun e3 F3 H3 σ3 I3 s3 xx109=>by obtain ⟨m',l,p3⟩:=xx109;exact ⟨m',l,e3,F3,I3,s02.trans s3,p3⟩⟩
  | false=>exact qsq (k.nx e2 F2 H2 σ1 I2 (s1.trans s2) h2)
def wFor (Wi:WF) (G:WG) (t:WS):WS:=fun D env=>Wi env fun ds e0 => ∃ P:Nat->Sto->Prop,P 0 e0 /\
 (∀ i d e,ds[i]?=some d->P i e->G d e fun e1=>t { D with nx:=P (i+1),ct:=P (i+1),bk:=D.nx } e1) /\ ∀ e,P ds.length e->D.nx e
def qab {tg iter:Expr}{body:List Stmt}{Wi:WF}{G:WG} (hc:X.calm=true) (hi:VI X tg iter Wi) (hg:VG X tg G) (hb:VSs X body Wt)
 (hs : ∀ x,Yb iter X.env x=pure x:=by intro _;rfl) (hp:Qhh (model X.prog X.w) X.A X.env X.xe:=by exact Qfd):VS X (.For tg iter body [] pos) (wFor Wi G Wt) :=
  (qya hp hc hi hg hb hs).imp fun D σ H xx115=>by
   obtain ⟨M,env,F,DD,I,h,k⟩:=xx115;refine ⟨M,env,F,_,I,h,fun ds J F1 H1 e1 I1 s1 jt xx114=>?_⟩;obtain ⟨P,p0,turn,fin⟩:=xx114;refine ⟨fun i m σ' H'=>m=ds.length-i/\i<=ds.length /\ ∃ e' F',EnvOk X.K M F' H' e' σ'/\Same F1 F'/\P i e',⟨ds.length,by simp,Vg _,e1,F1,I1,.refl _,p0⟩,fun i m σ2 H2 xx113=>?_⟩;obtain ⟨hm,hi,e2,F2,I2,s2,p2⟩:=xx113;by_cases hl:i=ds.length
   ·subst hl;exact .inl ⟨jt.stop H2 (s2.trans I2.fh),k.nx e2 F2 H2 σ2 I2 (s1.trans s2) (fin e2 p2)⟩
   ·have hlt:i<ds.length:=by omega
    refine .inr ⟨jt.go i H2 (s2.trans I2.fh) hlt,fun σ' H' => ∃ e' F',EnvOk X.K M F' H' e' σ'/\Same F1 F'/\P (i+1) e',fun σ' H' z=>⟨ds.length-(i+1),by omega,rfl,hlt,z⟩,fun x H3 hy=>?_⟩;obtain ⟨d,F3,hd,g,j⟩:=jt.yld i H2 x H3 F2 s2 I2.fh hlt hy;refine ⟨M,e2,F3,d,_,I2.go g,j,turn i d e2 hd p2,fun F4 H4 e4 σ4 I4 s4 h4=>⟨M,e4,F4,_,I4,h4,?_⟩⟩;have s14:=s2.trans (g.f.trans s4);exact ⟨fun e5 F5 H5 σ5 I5 s5 p5=>⟨e5,F5,I5,s14.trans s5,p5⟩,fun r v e5 F5 H5 σ5 I5 s5=>k.rt r v e5 F5 H5 σ5 I5 ((s1.trans s14).trans s5),
     fun e5 F5 H5 σ5 I5 s5=>k.nx e5 F5 H5 σ5 I5 ((s1.trans s14).trans s5),fun e5 F5 H5 σ5 I5 s5 p5=>⟨e5,F5,I5,s14.trans s5,p5⟩⟩
end
end
end
section
section
variable {X:Cx}
def qlh : ∀ (ns:List Int) (n:Nat),n<=ns.length->preSum (fun i=>(ns[i]?).getD 0) n=(ns.take n).sum
 | ns,0,_=>by simp [preSum]
 | ns,n+1,h=>by
  have hn:n<ns.length:=h;have e:(ns[n]?).getD 0=ns[n]:=by rw [Qc hn];rfl
  have e2:(ns.take n++[ns[n]]).sum=(ns.take n).sum+ns[n]:=by rw [Jh];simp
  rw [preSum,qlh ns n (Yi hn),e,Zs,Qc hn];exact e2.symm
def qop : ∀ {ns:List Int}{us:List Value},Vals (ns.map V.int) us -> ∀ (i:Nat) (v:Value),us[i]?=some v -> ∃ t,v = .int ((ns[i]?).getD 0) t
 | [],_,h,i,v,e=>by cases h;simp at e
 | n::ns,_,h,i,v,e=>by
  cases h with
  | cons r t =>
   cases i with
   | zero =>
    obtain ⟨k,rfl⟩:=r;have:Qgr n k=v:=by simpa using e
    exact ⟨k,by rw [<- this];rfl⟩
   | succ i =>
    obtain ⟨k,hk⟩:=qop t i v (by simpa using e);exact ⟨k,by simpa using hk⟩
def rSum (K:Qd):List V->Hp->VK->Prop:=fun xs H Q => ∃ (a:Addr) (ns:List Int),xs=[.ref a]/\(SqL K H a (ns.map V.int)\/SqT K H a (ns.map V.int))/\Q (.int ns.sum) H
def zaee (hc:X.calm=true):CallR X (.builtin "sum") (rSum X.K):=by
 intro pins s σ H xs us Q I r h;obtain ⟨a,ns,rfl,ha,q⟩:=h;obtain ⟨u,rfl,rx⟩:=qlq r;cases rx;have fin : ∀ (its:List Value) (h':Heap) (tk t':Nat),its.length=ns.length->(∀ b o,s.heap.get? b=some o->h'.get? b=some o)->EP X pins σ Q (.int (preSum (fun i=>(ns[i]?).getD 0) its.toArray.size) t') { s with heap:=h',toks:=tk }:=fun its h' tk t' hl hk=>by
  have e:preSum (fun i=>(ns[i]?).getD 0) its.toArray.size=ns.sum:=by
   rw [Qz,hl,qlh ns _ (Qr _),Zl]
  rw [e];exact ⟨.int ns.sum,H,I.kept (t':=tk) hk,⟨t',rfl⟩,q⟩
 have old : ∀ {h':Heap}{ob:Obj},(∀ b o,b ∉ [s.heap.objs.size]->(s.heap.push ob).get? b=some o->h'.get? b=some o) -> ∀ b o,s.heap.get? b=some o->h'.get? b=some o:=fun hk b o z =>
  hk b o (fun hm=>by rw [Qp.mp hm] at z;exact Jl _ (Qw z)) (Qo _ z)
 rcases ha with ha|ha
 ·obtain ⟨its,rv,pl,_⟩:=I.list ha;have hl:=pl.isList;have hlt:a<s.heap.objs.size:=pl.lt;have hlen:its.length=ns.length:=by rw [<- rv.length,Qe]
  refine call_sum_walkG (Qeg hl ?_);refine ⟨s.heap.objs.size,[s.heap.objs.size,a],[s.heap.objs.size],its.toArray.size,_,_,fun i=>(ns[i]?).getD 0,rfl,Walks.list (A:=X.A.in1) (I.ok.hd hc) _ a (Za hlt) its.toArray,
   ⟨⟨_,Q8 _ rfl,rfl,rfl⟩,hl.push _⟩,fun b hb=>?_,fun i v hP=>qop rv i v (by simpa using hP),fun h' tk t' hk=>fin its h' tk t' hlen (old hk)⟩
  have hb':b=s.heap.objs.size\/b=a:=by simpa using hb
  rw [Vs];rcases hb' with rfl|rfl
  ·exact Qck _
  ·exact Vf hlt
 ·obtain ⟨its,rv,pl,_⟩:=I.tuple ha;have hl:s.heap.IsTuple a its.toArray:=pl;have hlt:a<s.heap.objs.size:=IsTup.lt pl;have hlen:its.length=ns.length:=by rw [<- rv.length,Qe]
  refine call_sum_walkG (wpAny_pyIter_tuple hl ?_);refine ⟨s.heap.objs.size,[s.heap.objs.size,a],[s.heap.objs.size],its.toArray.size,_,_,fun i=>(ns[i]?).getD 0,rfl,Walks.tuple (A:=X.A.in1) (I.ok.hd hc) _ a (Za hlt) its.toArray,
   ⟨⟨_,Q8 _ rfl,rfl,rfl⟩,pl.push _⟩,fun b hb=>?_,fun i v hP=>qop rv i v (by simpa using hP),fun h' tk t' hk=>fin its h' tk t' hlen (old hk)⟩
  have hb':b=s.heap.objs.size\/b=a:=by simpa using hb
  rw [Vs];rcases hb' with rfl|rfl
  ·exact Qck _
  ·exact Vf hlt
def zahx (K:Qd):List V->Hp->VK->Prop:=fun xs H Q => ∃ (a:Addr) (ns:List Int),xs=[.ref a]/\SqL K H a (ns.map V.int)/\ns.length<64 /\ ∀ (p:Addr) (ns':List Int),H p=none->ns'.Perm ns->ns'.Pairwise (· <= ·)->Q (.ref p) (upd H p (.lst (ns'.map V.int)))
def qum:CallR X (.builtin "sorted") (zahx X.K):=by
 intro pins s σ H xs us Q I r h;obtain ⟨a,ns,rfl,ha,h64,q⟩:=h;obtain ⟨u,rfl,rx⟩:=qlq r;cases rx;obtain ⟨its,rv,pl,_⟩:=I.list ha;have hlen:its.length=ns.length:=by rw [<- rv.length,Qe]
 refine sorted_ints pl.isList (qiq rv) (by omega) fun out ns' a1 a2 a3=>?_;obtain ⟨e,he⟩:=sortedAll_at s.heap its out;have hl':ns'.length=ns.length:=a2.length_eq;refine ⟨.ref (s.heap.objs.size+1),_,I.laid (t':=s.toks) (a:=s.heap.objs.size+1) (o :=.lst (ns'.map V.int)) (fun b o z=>sortedAll_old z) (Qbv _) ?_,rfl,q _ ns' (I.hok.fresh (Qbv _)) a2 a3⟩;exact ⟨Yi (qj (by rw [Qe];omega)),out.toList,e,qkt a1,by rw [Array.toArray_toList];exact he⟩
def iAny (K:Qd) (tl:TE):TI:=fun σ H R=>tl σ H fun x H1 => ∃ a,x = .ref a/\(((∃ xs,SqL K H1 a xs)/\R (Itl K a) H1)\/((∃ xs,SqT K H1 a xs)/\R (Itt K a) H1))
def zagj {tg l:Expr}{tl:TE} (hl:PE X l tl):PI X tg l (iAny X.K tl):=by
 intro pins s σ H R I h;refine thn (hl pins s σ H _ I h) fun v s1 xx116=>?_;obtain ⟨x,H1,I1,r1,q1⟩:=xx116;obtain ⟨a,e,q1⟩:=q1;subst e;cases r1;rcases q1 with ⟨⟨xs,hq⟩,q⟩|⟨⟨xs,hq⟩,q⟩
 ·obtain ⟨its,rv,p,hz⟩:=I1.list hq;refine Qeg p.isList ?_;refine ⟨s1.heap.objs.size,[s1.heap.objs.size],_,_,H1,rfl,I1.kept (t':=s1.toks) fun b o e=>Qo _ e,zabh a _,⟨_,Q8 _ rfl,rfl,rfl⟩,fun b hb=>?_,q⟩;have e:b=s1.heap.objs.size:=by simpa using hb
  subst e;exact I1.fpOk (Qr _) (I1.hok.fresh (Qr _))
 ·obtain ⟨its,rv,p,hz⟩:=I1.tuple hq;refine wpAny_pyIter_tuple (show s1.heap.IsTuple a its.toArray from p) ?_;refine ⟨s1.heap.objs.size,[s1.heap.objs.size],_,_,H1,rfl,I1.kept (t':=s1.toks) fun b o e=>Qo _ e,qwi a _,⟨_,Q8 _ rfl,rfl,rfl⟩,fun b hb=>?_,q⟩;have e:b=s1.heap.objs.size:=by simpa using hb
  subst e;exact I1.fpOk (Qr _) (I1.hok.fresh (Qr _))
end
def boot_sum:Zv "sum" = some (.builtin "sum"):=by decide +kernel
def boot_sorted:Zv "sorted" = some (.builtin "sorted"):=by decide +kernel
end
section
section
variable {X:Cx}
def zaht {K:Qd}{F:Hp}{a:Addr}{xs:List V}{l:List Qh} (hs:SqL K F a xs) (hr:Iss K F l xs):ItD K (Itl K a) F l where
 go:=fun i H s hi=>⟨xs,xs[i]'(by rw [hr.len];exact hi),s.seq hs,Qc _⟩
 stop:=fun H s=>⟨xs,s.seq hs,by rw [hr.len];exact Qr _⟩
 yld:=fun i H x H' F1 s1 s2 hi hy=>by
  obtain ⟨rfl,hy⟩:=hy;obtain ⟨d,e1,e2⟩:=hr.get' (hy xs ((s1.trans s2).seq hs));exact ⟨d,F1,e1,.refl s2,e2.mono s1⟩
def zaii {K:Qd}{F:Hp}{a:Addr}{xs:List V}{l:List Qh} (hs:SqT K F a xs) (hr:Iss K F l xs):ItD K (Itt K a) F l where
 go:=fun i H s hi=>⟨xs,xs[i]'(by rw [hr.len];exact hi),qX s hs,Qc _⟩
 stop:=fun H s=>⟨xs,qX s hs,by rw [hr.len];exact Qr _⟩
 yld:=fun i H x H' F1 s1 s2 hi hy=>by
  obtain ⟨rfl,hy⟩:=hy;obtain ⟨d,e1,e2⟩:=hr.get' (hy xs (qX (s1.trans s2) hs));exact ⟨d,F1,e1,.refl s2,e2.mono s1⟩
def qsf (lo:Int) (n:Nat):List Qh:=(Qx n).map fun (k:Nat) => .int (lo+(k:Int))
def qP (lo:Int) (n:Nat):(qsf lo n).length=n:=by simp [qsf]
def qvy {lo:Int}{n i:Nat} (h:i<n):(qsf lo n)[i]?=some (.int (lo+i)):=by simp [qsf,h]
def qan {lo:Int}{n i:Nat}{d:Qh} (h:(qsf lo n)[i]?=some d):i<n/\d = .int (lo+i):=by
 have hi:i<n:=by
  have:=(Qg.mp h).1
  rwa [qP] at this
 rw [qvy hi] at h;exact ⟨hi,(Qn h).symm⟩
def qzs {K:Qd}{F:Hp}{lo:Int}{n:Nat}:ItD K (Itr lo n) F (qsf lo n) where
 go:=fun i H s hi=>by rw [qP] at hi;exact hi
 stop:=fun H s=>by rw [qP];exact Qr _
 yld:=fun i H x H' F1 s1 s2 hi hy=>by
  obtain ⟨rfl,rfl⟩:=hy;rw [qP] at hi;exact ⟨_,F1,qvy hi,.refl s2,qad _⟩
def qpy (l:List Qh):List Qh:=(Qx l.length).map fun (k:Nat) => .tuple [.int k,(l[k]?).getD .none]
def qfh (l:List Qh):(qpy l).length=l.length:=by simp [qpy]
def qqv {l:List Qh}{i:Nat}{d:Qh} (h:l[i]?=some d):(qpy l)[i]?=some (.tuple [.int i,d]):=by
 have hi:=(Qg.mp h).1;have e:l[i]=d:=by rw [Qc hi] at h;exact Qn h
 simp [qpy,hi,e]
def qqs {l:List Qh}{i:Nat}{d:Qh} (h:(qpy l)[i]?=some d) : ∃ x,l[i]?=some x/\d = .tuple [.int i,x]:=by
 have hi:i<l.length:=by
  have:=(Qg.mp h).1
  rwa [qfh] at this
 have e:=qqv (Qc hi);rw [h] at e;exact ⟨_,Qc hi,Qn e⟩
def zafg {K:Qd}{F:Hp}{a:Addr}{xs:List V}{l:List Qh} (hs:SqL K F a xs) (hr:Iss K F l xs):ItD K (Ite K a) F (qpy l) where
 go:=fun i H s hi=>by rw [qfh] at hi;exact ⟨xs,xs[i]'(by rw [hr.len];exact hi),s.seq hs,Qc _⟩
 stop:=fun H s=>by rw [qfh];exact ⟨xs,s.seq hs,by rw [hr.len];exact Qr _⟩
 yld:=fun i H x H' F1 s1 s2 hi hy=>by
  obtain ⟨p,y,hy,hp,rfl,rfl⟩:=hy;obtain ⟨d,e1,e2⟩:=hr.get' (hy xs ((s1.trans s2).seq hs));have g:=Go.put (o:=HO.tup [.int i,y]) s2 hp;exact ⟨_,_,qqv e1,g,qpf (SqT.of qp) (qap (qad _) (qap ((e2.mono s1).mono g.f) qay))⟩
section
variable {tg a b c:Expr}{W:WE}{Wr:WF}{p pos:Pos}
def isTy (T:String):Qh->Bool
 | .none=>false
 | .bool _=>T == "bool" || T == "int"
 | .int _=>T == "int"
 | .str _=>T == "str"
 | .list _=>T == "list"
 | .tuple _=>T == "tuple"
 | .dict _=>T == "dict"
def dSum:DC
 | [.list l],q => ∃ ns:List Int,l=ns.map .int/\q (.int ns.sum)
 | [.tuple l],q => ∃ ns:List Int,l=ns.map .int/\q (.int ns.sum)
 | _,_=>False
def qfb:Qh->Option (List Qh)
 | .list l=>some l
 | .tuple l=>some l
 | _=>none
def qao {d:Qh}{l:List Qh}{Q:List Qh->Prop} (h:qfb d=some l) (q:Q l):(qfb d).elim False Q:=by rw [h];exact q
def qyz {d:Qh}{l:List Qh}{i:Int}{x:Qh}{q:Qh->Prop} (h:qfb d=some l) (e:atI l i=some x) (hq:q x):dIx d (.int i) q:=by
 cases d with
 | list m=>cases h;exact ⟨x,e,hq⟩
 | tuple m=>cases h;exact ⟨x,e,hq⟩
 | _=>cases h
def zaqs (W:WE):WF:=fun env Q=>W env fun d e=>(qfb d).elim False fun l=>Q l e
def qG (h:VE X a W):VI X tg a (zaqs W):=(zagj h).imp fun σ H R xx117=>by
 obtain ⟨M,env,F,Q,I,h,k⟩:=xx117;refine ⟨M,env,F,_,I,h,fun d v F1 H1 e1 I1 s1 i1 h1=>?_⟩;cases d with
 | list l =>
  obtain ⟨b,xs,rfl,hs,hr⟩:=i1.lst_inv;exact ⟨b,rfl,.inl ⟨⟨xs,I1.fh.seq hs⟩,k l _ F1 H1 e1 I1 s1 (zaht hs hr) h1⟩⟩
 | tuple l =>
  obtain ⟨b,xs,rfl,hs,hr⟩:=i1.tup_inv;exact ⟨b,rfl,.inr ⟨⟨xs,qX I1.fh hs⟩,k l _ F1 H1 e1 I1 s1 (zaii hs hr) h1⟩⟩
 | _=>exact Zc h1
def wiR1 (W:WE):WF:=fun env Q=>W env fun d e=>match d with
 | .int j=>(-(2^62)<=j/\j<2^62)/\Q (qsf 0 j.toNat) e
 | _=>False
def qai (hm:X.mg "range" = none) (ha:VE X a W) (hg:Gl X "range":=by rfl) (hs:Qu [a] X.env=[(false,eval a X.env)]:=by rfl) (hs':Qu [a] X.env=(false,eval a X.env)::Qu [] X.env:=by rfl):VI X tg (.Call (.Name "range" p) [a] [] pos) (wiR1 W) :=
 (zaav hg hm (qav ha qeu hs') hs).imp fun σ H R xx118=>by
  obtain ⟨M,env,F,Q,I,h,k⟩:=xx118;refine ⟨M,env,F,_,I,h,fun d v F1 H1 e1 I1 s1 i1 h1=>?_⟩;cases d with
  | int j=>exact ⟨j,by rw [i1.int_inv],h1.1.1,h1.1.2,k _ _ F1 H1 e1 I1 s1 qzs h1.2⟩
  | _=>exact Zc h1
def wiR2 (Wa Wb:WE):WF:=fun env Q=>Wa env fun x e1=>Wb e1 fun y e=>match x,y with
 | .int i,.int j=>(-(2^62)<=i/\i<2^62 /\ -(2^62)<=j/\j<2^62)/\Q (qsf i (j-i).toNat) e
 | _,_=>False
def zabl {Wa Wb:WE} (hm:X.mg "range" = none) (ha:VE X a Wa) (hb:VE X b Wb) (hg:Gl X "range":=by rfl) (hs:Qu [a,b] X.env=[(false,eval a X.env),(false,eval b X.env)]:=by rfl) (hs2:Qu [b] X.env=[(false,eval b X.env)]:=by rfl)
 (hs3:Qu [a,b] X.env=(false,eval a X.env)::Qu [b] X.env:=by rfl) (hs4:Qu [b] X.env=(false,eval b X.env)::Qu [] X.env:=by rfl):VI X tg (.Call (.Name "range" p) [a,b] [] pos) (wiR2 Wa Wb) :=
 (zaar hg hm (qav ha (qav hb qeu hs4) hs3) hs hs2).imp fun σ H R xx119=>by
  obtain ⟨M,env,F,Q,I,h,k⟩:=xx119;refine ⟨M,env,F,_,I,h,fun d v F1 H1 e1 I1 s1 i1 h1=>⟨M,e1,F1,_,I1,h1,fun d2 v2 F2 H2 e2 I2 s2 i2 h2=>?_⟩⟩;cases d with
  | int i=>cases d2 with
   | int j=>exact ⟨i,j,by rw [i1.int_inv,i2.int_inv],h2.1,k _ _ F2 H2 e2 I2 (s1.trans s2) qzs h2.2⟩
   | _=>exact Zc h2
  | _=>exact Zc h2
def wiEn (W:WE):WF:=fun env Q=>W env fun d e=>match d with
 | .list l=>Q (qpy l) e
 | _=>False
def qzv {elts:List Expr}{x1:Nat}{tpos:Pos} (hm:X.mg "enumerate" = none) (ha:VE X a W) (hg:Gl X "enumerate":=by rfl) (hs:Qu [a] X.env=[(false,eval a X.env)]:=by rfl) (hs':Qu [a] X.env=(false,eval a X.env)::Qu [] X.env:=by rfl) :
 VI X (.Tuple elts x1 tpos) (.Call (.Name "enumerate" p) [a] [] pos) (wiEn W) :=
 (zajo hg hm (qav ha qeu hs') hs).imp fun σ H R xx120=>by
  obtain ⟨M,env,F,Q,I,h,k⟩:=xx120;refine ⟨M,env,F,_,I,h,fun d v F1 H1 e1 I1 s1 i1 h1=>?_⟩;cases d with
  | list l =>
   obtain ⟨b,xs,rfl,hs,hr⟩:=i1.lst_inv;exact ⟨b,rfl,⟨xs,I1.fh.seq hs⟩,k _ _ F1 H1 e1 I1 s1 (zafg hs hr) h1⟩
  | _=>exact Zc h1
end
def Sl.seen:Sl->Sl
 | .val d => .val d
 | .new d => .val d
 | _ => .non
def qvi (ix:List Nat) (k:Nat) (env:Sto):Sto:=ix.map (fun i=>(gS env i).seen)++Zn k .non
def zakq (ix:List Nat) (k:Nat) (Wi:WF) (G:WG) (We:WE):WF:=fun env Q=>Wi env fun ds e0=>ds.length<Zb /\ ∃ P:Nat->List Qh->Sto->Prop,P 0 [] (qvi ix k e0) /\
 (∀ i d ys e,ds[i]?=some d->P i ys e->G d e fun e1=>We e1 fun y e2=>P (i+1) (ys++[y]) e2) /\ ∀ ys e,P ds.length ys e->Q ys e0
def qxo : ∀ (ix:List Nat) (f:Nat->Sl) (r:Sto) (j:Nat),gS (ix.map f++r) j=match ix[j]? with|some i=>f i|none=>gS r (j-ix.length)
 | [],f,r,j=>by simp
 | i::ix,f,r,0=>by simp [gS]
 | i::ix,f,r,j+1=>by simp only [Qt,Qio,gS,Y4,Zk,Qfe];exact qxo ix f r j
def qts (k j:Nat):gS (Zn k .non) j = .non:=by
 induction k generalizing j with
 | zero=>simp [gS]
 | succ k ih=>cases j with
  | zero=>simp [Z5,gS]
  | succ j=>simp only [Z5,gS];exact ih j
def zalg (ix:List Nat) (k:Nat) (σ:St) (j i:Nat) (h:ix[j]?=some i):vS (qqe ix k σ) j=vS σ i:=by
 have hj:=(Qg.mp h).1;unfold vS qqe;rw [Yv (by simpa using hj),Qa,h];rfl
def EnvOk.cap {K:Qd}{M:Frm}{F H:Hp}{env:Sto}{σ:St} (I:EnvOk K M F H env σ) (ix:List Nat) (k:Nat):EnvOk K ⟨H,H,F⟩ F H (qvi ix k env) (qqe ix k σ) where
 len:=by simp [qvi,qqe]
 slot:=fun j=>by
  unfold qvi;rw [qxo];cases h:ix[j]? with
  | none=>rw [qts];trivial
  | some i =>
   show SlotOk K _ F H (gS env i).seen _;rw [zalg ix k σ j i h];have S:=I.slot i;cases q:gS env i with
   | val d=>rw [q] at S;exact S
   | non=>trivial
   | own ds=>trivial
   | pen ds=>trivial
   | new d=>rw [q] at S;obtain ⟨v,e,j⟩:=S;exact ⟨v,e,j.is qho⟩
   | exc C=>trivial
   | obj a0 C nm fs=>trivial
 dis:=fun i j a _ h1=>by
  unfold qvi at h1;rw [qxo] at h1;cases h:ix[i]? with
  | none=>rw [h,qts] at h1;cases h1
  | some n =>
   rw [h] at h1;replace h1:(gS env n).seen.mut=true:=h1
   cases q:gS env n <;> rw [q] at h1 <;> cases h1
 f0 :=.refl _
 fe:=I.fh
 fh:=I.fh
 bh :=.refl _
 new:=fun b o e => .inl e
 dom:=fun b o e=>⟨o,e⟩
def EnvOk.goOf {K:Qd}{F H F' H':Hp}{env:Sto}{σ:St} (I:EnvOk K ⟨H,H,F⟩ F' H' env σ):Go F H F' H':=⟨I.f0,I.bh,I.fh,I.new⟩
section
variable {K:Qd}{ix:List Nat}{n:Nat}{Wi:WF}{G:WG}{We:WE}{σ:St}{H:Hp}{R:VK}
def zabz (h:zacb K (zakq ix n Wi G We) σ H R):zahb ix n (qte K Wi) (qpx K G) (qbw K We) σ H R:=by
 obtain ⟨M,env,F,Q,I,h,k⟩:=h;refine ⟨M,env,F,_,I,h,fun ds J F1 H1 e1 I1 s1 jt xx122=>?_⟩;obtain ⟨hz,P,p0,turn,fin⟩:=xx122;refine ⟨fun i m ys σ1 H'=>m=ds.length-i/\i<=ds.length /\ ∃ e' F' l,EnvOk K ⟨H1,H1,F1⟩ F' H' e' σ1/\Iss K F' l ys/\ys.length=i/\P i l e',⟨ds.length,by simp,Vg _,qvi ix n e1,F1,[],I1.cap ix n,qay,rfl,p0⟩,?_⟩;rintro i m ys σ1 H2 ⟨hm,hi,e2,F2,l,I2,i2,hl,p2⟩;have g2:=I2.goOf;by_cases he:i=ds.length
 ·subst he;exact .inl ⟨jt.stop H2 (g2.f.trans g2.fh),by omega,qkb (I1.go g2) (s1.trans g2.f) i2 (fin l e2 p2) k⟩
 ·have hlt:i<ds.length:=by omega
  refine .inr ⟨jt.go i H2 (g2.f.trans g2.fh) hlt,by omega,fun y σ' H' => ∃ e' F' l',EnvOk K ⟨H1,H1,F1⟩ F' H' e' σ'/\Iss K F' l' (ys++[y])/\P (i+1) l' e',
   fun y σ' H' xx121=>by obtain ⟨e',F',l',I',i',p'⟩:=xx121;exact ⟨ds.length-(i+1),by omega,rfl,hlt,e',F',l',I',i',by simp [hl],p'⟩,fun x H3 hy=>?_⟩
  obtain ⟨d,F3,hd,g,j⟩:=jt.yld i H2 x H3 F2 g2.f g2.fh hlt hy;refine ⟨_,e2,F3,d,_,I2.go g,j,turn i d l e2 hd p2,fun F4 H4 e4 σ4 I4 s4 h4=>⟨_,e4,F4,_,I4,h4,fun d5 v5 F5 H5 e5 I5 s5 i5 h5=>?_⟩⟩;exact ⟨e5,F5,l++[d5],I5,qbn ((i2.mono (g.f.trans s4)).mono s5) (qap i5 qay),h5⟩
end
def qaa {elt target iter:Expr}{scope:Scope}{pos:Pos}{caps own:List Str}{ix:List Nat}{Wi:WF}{G:WG}{We:WE} (hc:X.calm=true) (S:CompScope X.env scope caps) (hi:VI X target iter Wi)
 (hg : ∀ pins s3 H ex,VG (blk X pins scope (caps++own) s3 H ex) target G)
 (he : ∀ pins s3 H ex,VE (blk X pins scope (caps++own) s3 H ex) elt We)
 (hix:caps.length=ix.length:=by rfl) (hcapB:(caps.zip ix).all (fun p=>X.N[p.2]?==some p.1)=true:=by rfl)
  (hs : ∀ x,Yb iter X.env x=pure x:=by intro _;rfl):VF X (.ListComp elt [⟨target,iter,[],0⟩] scope pos) (zakq ix own.length Wi G We) :=
  (zajb (g:=qpx X.K G) (te:=qbw X.K We) hc S hi hg he hix hcapB hs).imp fun _ _ _ h=>zabz h
def qN {ix:List Nat}{k:Nat}{G:WG}{We:WE}{Q:List Qh->Sto->Prop}{ds:List Qh}{e0:Sto} (L:List Qh) (hl:L.length=ds.length) (hz:L.length<Zb) (Iv:Sto->Prop) (h0:Iv (qvi ix k e0))
 (h : ∀ (i:Nat) d ys e,ds[i]?=some d->ys=L.take i->Iv e->G d e fun e1=>We e1 fun y e2=>ys++[y]=L.take (i+1)/\Iv e2) (q:Q L e0) :
 ds.length<Zb /\ ∃ P:Nat->List Qh->Sto->Prop,P 0 [] (qvi ix k e0)/\(∀ i d ys e,ds[i]?=some d->P i ys e->G d e fun e1=>We e1 fun y e2=>P (i+1) (ys++[y]) e2) /\ ∀ ys e,P ds.length ys e->Q ys e0 :=
  ⟨by omega,fun i ys e=>ys=L.take i/\Iv e,⟨by simp,h0⟩,fun i d ys e hd hp=>h i d ys e hd hp.1 hp.2,fun ys e hp=>by rw [hp.1,<- hl,Zl];exact q⟩
def qw {α:Type}{L ys:List α}{y:α}{i:Nat} (e:L[i]?=some y) (h:ys=L.take i):ys++[y]=L.take (i+1):=by
 rw [h,Zs,e];rfl
def wIsi (T:String) (W:WE):WE:=fun env Q=>W env fun d e=>Q (.bool (isTy T d)) e
section
variable {a:Expr}{W:WE}{p pos pT:Pos}{T:String}{t:Str}
def qfk (hm:X.mg "isinstance" = none) (ht:X.mg t=none) (hv:Zv t=some (.type T)) (ha:VE X a W) (hk : ∀ d,Ju X.K (.type (tyD d)) (.type T)=some (isTy T d):=by intro d;cases d <;> rfl)
 (hg:Gl X "isinstance":=by rfl) (hgt:Gl X t:=by rfl) (hn:t ≠ "__name__":=by decide) (hdt:Nd0 t:=by decide)
 (hs:Qu [a,.Name t pT] X.env=(false,eval a X.env)::Qu [.Name t pT] X.env:=by rfl) (hs2:Qu [.Name t pT] X.env=(false,eval (.Name t pT) X.env)::Qu [] X.env:=by rfl) (hpl:(Ja pos (Qu [.Name t pT] X.env)).any (·.1)=false:=by rfl) :
 VE X (.Call (.Name "isinstance" p) [a,.Name t pT] [] pos) (wIsi T W) :=
 (qju zafe hg hm qgh (qav ha (qav (zahu (v :=.ty T) hgt ht hv rfl hn hdt) qeu hs2) hs) (by decide) (by decide) hs hpl).imp fun σ H R xx123=>by
  obtain ⟨M,env,F,Q,I,h,k⟩:=xx123;exact ⟨M,env,F,_,I,h,fun d v F1 H1 e1 I1 s1 i1 h1=>⟨d,v,T,isTy T d,rfl,i1.mono I1.fh,hk d,k _ _ F1 H1 e1 I1 s1 (qfd _) h1⟩⟩
end
def qob (hc:X.calm=true):qio X (.builtin "sum") dSum:=(zaee hc).imp fun xs H Q xx124=>by
 obtain ⟨F,ds,q,s,i,h,k⟩:=xx124
 match ds,h,i with
 | [.list l],h,i =>
  obtain ⟨v,rfl,j⟩:=qky i;obtain ⟨a,xs,rfl,hs,hr⟩:=j.lst_inv;obtain ⟨ns,rfl,hq⟩:=h;rw [hr.ints_inv] at hs;exact ⟨a,ns,rfl,.inl (s.seq hs),k _ _ F H (.refl s) (qad _) hq⟩
 | [.tuple l],h,i =>
  obtain ⟨v,rfl,j⟩:=qky i;obtain ⟨a,xs,rfl,hs,hr⟩:=j.tup_inv;obtain ⟨ns,rfl,hq⟩:=h;rw [hr.ints_inv] at hs;exact ⟨a,ns,rfl,.inr (qX s hs),k _ _ F H (.refl s) (qad _) hq⟩
def zamd:List Qh->(List Qh->Prop)->Prop
 | [.list l],q => ∃ ns:List Int,l=ns.map .int/\ns.length<64 /\ ∀ ns':List Int,ns'.Perm ns->ns'.Pairwise (· <= ·)->q (ns'.map .int)
 | _,_=>False
def zaep:qpc X (.builtin "sorted") zamd:=qum.imp fun xs H Q xx125=>by
 obtain ⟨F,ds,q,s,i,h,k⟩:=xx125
 match ds,h,i with
 | [.list l],h,i =>
  obtain ⟨v,rfl,j⟩:=qky i;obtain ⟨a,xs,rfl,hs,hr⟩:=j.lst_inv;obtain ⟨ns,rfl,hz,hq⟩:=h;rw [hr.ints_inv] at hs;exact ⟨a,ns,rfl,s.seq hs,hz,fun p ns' hp h1 h2=>k _ p _ F _ (.side s hp) hp (qK s hp) qp (qjl ns') (hq ns' h1 h2)⟩
end
def qbo (N:List Str) (ds:List Qh):Sto:=ds.map .val++Zn (N.length-ds.length) .non
def qxp : ∀ (ds:List Qh) (r:Sto) (j:Nat),gS (ds.map .val++r) j=match ds[j]? with|some d => .val d|none=>gS r (j-ds.length)
 | [],r,j=>by simp
 | i::ix,r,0=>by simp [gS]
 | i::ix,r,j+1=>by simp only [Qt,Qio,gS,Y4,Zk,Qfe];exact qxp ix r j
def zadt {N:List Str}{vs:List V}{j:Nat}{v:V} (h:vs[j]?=some v):vS (start N vs) j=some v:=by
 have hj:=(Qg.mp h).1;unfold vS start;rw [Yv (by simpa using hj),Qa,h];rfl
def qde {K:Qd}{F H:Hp}{N:List Str}{ds:List Qh}{vs:List V} (s:Same F H) (i:Iss K F ds vs):EnvOk K ⟨H,H,F⟩ F H (qbo N ds) (start N vs) where
 len:=by simp [qbo,start,i.len]
 slot:=fun j=>by
  unfold qbo;rw [qxp];cases h:ds[j]? with
  | none=>rw [qts];trivial
  | some d =>
   obtain ⟨x,e1,e2⟩:=i.get h;exact ⟨x,zadt e1,e2⟩
 dis:=fun i j a _ h1=>by
  unfold qbo at h1;rw [qxp] at h1;cases h:ds[i]? with
  | none=>rw [h,qts] at h1;cases h1
  | some d=>rw [h] at h1;cases h1
 f0 :=.refl _
 fe:=s
 fh:=s
 bh :=.refl _
 new:=fun b o e => .inl e
 dom:=fun b o e=>⟨o,e⟩
section
variable {P:Zi}{w:World}{K:Qd}{mg:Str->Option Value}{base:Heap}
def RetOk.is {F H F' H':Hp}{env:Sto}{σ:St}{r:Ret}{v:V} (I:EnvOk K ⟨H,H,F⟩ F' H' env σ) (h:RetOk K ⟨H,H,F⟩ F' H' r v) : ∃ F'',Go F H F'' H'/\Is K F'' r.data v:=by
 have g:=I.goOf;cases r with
 | val d=>exact ⟨F',g,h⟩
 | new d=>exact ⟨F',g,IsN.is qho h⟩
 | own ds =>
  obtain ⟨a,vs,rfl,h1,h2,h3,h4,h5⟩:=h;have s:Same F' (upd F' a (.lst vs)):=qau h2;refine ⟨upd F' a (.lst vs),⟨g.f.trans s,g.h,fun b o e=>?_,fun b o e=>?_⟩,qfj (SqL.of qp) (h5.mono s)⟩
  ·by_cases z:b=a
   ·subst z;rw [qp] at e;rw [h1];exact .of e
   ·rw [qk z] at e;exact g.fh b o e
  ·by_cases z:b=a
   ·subst z;exact .inr h4
   ·rw [qk z] at e;exact g.new b o e
def Def.vok {x:Str}{st:Stmt}{N ps:List Str}{k:Nat}{sp:DC} (F:Def K mg x st ps) (S:FnScope N ps (defScope st)) (len : ∀ ds q,sp ds q->ds.length=ps.length)
 (hbody : ∀ (f:Addr) (cdv:Value) (A:Zw) (outer:List Env) (s:Qk) (H:Hp) (E:XK),Room k (A.deeper (Qch x (defScope st) s.heap.objs.size f cdv)) -> ∀ ds q,sp ds q ->
 ∃ W,VSs (qei CX0 P w K mg base N x (defScope st) f cdv A outer s H E).nox (defBody st) W/\W { nx:=fun _=>q .none,rt:=fun r _=>q r.data } (qbo N ds)):Ok P w K mg base x (k+1) ps (PSp K sp) :=
  F.ok S (fun vs H Q E xx127=>by obtain ⟨F,ds,q,_,i,h,_⟩:=xx127;rw [i.len];exact len ds q h) fun f cdv A outer s H vs Q E hr xx126=>by
   obtain ⟨F,ds,q,sm,i,h,kk⟩:=xx126;obtain ⟨W,hW,hq⟩:=hbody f cdv A outer s H E hr ds q h;refine ⟨_,hW,⟨H,H,F⟩,qbo N ds,F,_,qde sm i,hq,⟨fun e1 F1 H1 σ1 I1 s1 q1=>kk _ _ F1 H1 I1.goOf qtc q1,fun r v e1 F1 H1 σ1 I1 s1 r1 q1=>?_,fun _ _ _ _ _ _ h=>h.elim,fun _ _ _ _ _ _ h=>h.elim⟩⟩;obtain ⟨F2,g,j⟩:=r1.is I1;exact kk _ _ F2 H1 g j q1
def Def.vokF {x:Str}{st:Stmt}{N ps:List Str}{k:Nat}{sp:List Qh->(List Qh->Prop)->Prop} (F:Def K mg x st ps) (S:FnScope N ps (defScope st)) (len : ∀ ds q,sp ds q->ds.length=ps.length)
 (hbody : ∀ (f:Addr) (cdv:Value) (A:Zw) (outer:List Env) (s:Qk) (H:Hp) (E:XK),Room k (A.deeper (Qch x (defScope st) s.heap.objs.size f cdv)) -> ∀ ds q,sp ds q ->
 ∃ W,VSs (qei CX0 P w K mg base N x (defScope st) f cdv A outer s H E).nox (defBody st) W/\W { nx:=fun _=>False,rt:=fun r _ => ∃ l,r = .own l/\q l } (qbo N ds)):Ok P w K mg base x (k+1) ps (FSp K sp) :=
  F.ok S (fun vs H Q E xx129=>by obtain ⟨F,ds,q,_,i,h,_⟩:=xx129;rw [i.len];exact len ds q h) fun f cdv A outer s H vs Q E hr xx128=>by
   obtain ⟨F,ds,q,sm,i,h,kk⟩:=xx128;obtain ⟨W,hW,hq⟩:=hbody f cdv A outer s H E hr ds q h;refine ⟨_,hW,⟨H,H,F⟩,qbo N ds,F,_,qde sm i,hq,⟨fun e1 F1 H1 σ1 I1 s1 q1=>q1.elim,fun r v e1 F1 H1 σ1 I1 s1 r1 q1=>?_,fun _ _ _ _ _ _ h=>h.elim,fun _ _ _ _ _ _ h=>h.elim⟩⟩;obtain ⟨l,rfl,q1⟩:=q1;obtain ⟨a,vs,rfl,h1,h2,h3,h4,h5⟩:=r1;exact kk l a vs F1 H1 I1.goOf h4 h2 h1 h5 q1
def zaoz (K:Qd):Sp:=fun vs H Q _ => ∃ (a:Addr) (ns:List Int),vs=[.ref a]/\SqL K H a (ns.map V.int)/\ns.length<=63 /\ ∀ H',Q (.bl true) H'
end
end
section
section
variable (K:Qd)
def zacf (W:WE):TE:=fun σ H R => ∃ M env F Q,EnvOk K M F H env σ/\W env Q /\ ∀ d v F' H' env',EnvOk K M F' H' env' σ->Same F F'->IsN K (qlm M F') d v->Q d env'->R v H'
def zani (W:WF):TE:=fun σ H R => ∃ M env F Q,EnvOk K M F H env σ/\W env Q /\ ∀ a vs ds F' H' env',EnvOk K M F' H' env' σ->Same F F'->H' a=some (.lst vs)->F' a=none->M.B a=none->M.He a=none ->
 (∀ i,(gS env' i).mut=true->vS σ i≠some (.ref a))->IssN K (qlm M F') ds vs->Q ds env'->R (.ref a) H'
def zafr (r:DC):List V->Hp->VK->Prop:=fun vs H Q => ∃ F ds q,Same F H/\Iss K F ds vs/\r ds q /\ ∀ d v F' H',Go F H F' H'->IsN K (qlm ⟨H,H,F⟩ F') d v->q d->Q v H'
def qqb (sp:DC):Sp:=fun vs H Q _=>zafr K sp vs H Q
structure EndsT (M:Frm) (DD:WEnds) (D:Ends):Prop where
 nx : ∀ env' F' H' σ',EnvOk K M F' H' env' σ'->DD.nx env'->D.nx σ' H'
 rt : ∀ r v env' F' H' σ',EnvOk K M F' H' env' σ'->RetOk K M F' H' r v->DD.rt r env'->D.rt v H'
 bk : ∀ env' F' H' σ',EnvOk K M F' H' env' σ'->DD.bk env'->D.bk σ' H'
 ct : ∀ env' F' H' σ',EnvOk K M F' H' env' σ'->DD.ct env'->D.ct σ' H'
def zagp (W:WS):TS:=fun D σ H => ∃ M env F DD,EnvOk K M F H env σ/\W DD env/\EndsT K M DD D
end
def VN (X:Cx) (e:Expr) (W:WE):Prop:=PE X e (zacf X.K W)
def VFN (X:Cx) (e:Expr) (W:WF):Prop:=PE X e (zani X.K W)
def VST (X:Cx) (st:Stmt) (W:WS):Prop:=PS X st (zagp X.K W)
def VSsT (X:Cx) (st:List Stmt) (W:WS):Prop:=PSs X st (zagp X.K W)
def zagv:Qh->Bool
 | .none=>true
 | .bool _=>true
 | .int _=>true
 | .str _=>true
 | _=>false
def zalp {K:Qd}{F F':Hp}{d:Qh}{v:V} (h:zagv d=true) (i:Is K F d v):IsN K F' d v:=by
 cases d with
 | none=>unfold Is at i;unfold IsN;exact i
 | bool b=>unfold Is at i;unfold IsN;exact i
 | int b=>unfold Is at i;unfold IsN;exact i
 | str b=>unfold Is at i;unfold IsN;exact i
 | _=>cases h
def qzc {K:Qd}{F F':Hp} : ∀ {ds:List Qh}{vs:List V},ds.all zagv=true->Iss K F ds vs->IssN K F' ds vs
 | [],_,_,i=>by rw [i.nil_inv];exact zafi
 | d::l,_,h,i=>by
  obtain ⟨x,r,rfl,p,q⟩:=i.cons_inv;rw [Qgv,Ye] at h;exact zabt (zalp h.1 p) (qzc h.2 q)
def EnvOk.newUp {K:Qd}{M:Frm}{F H F':Hp}{env:Sto}{σ:St} (I:EnvOk K M F H env σ):Same (qlm ⟨H,H,F⟩ F') (qlm M F'):=fun b o e=>by
 obtain ⟨z1,_,z3⟩:=qol e;exact .of (qnc (I.he z1) (qK I.bh z1) z3)
section
variable {X:Cx}{a b e:Expr}{W:WE}{Wf:WF}{pos p:Pos}
def zapk (W:WE):WE:=fun env Q=>W env fun d e=>match d with | .list l=>l.all zagv=true/\Q (.tuple l) e|_=>False
def zahz (hm:X.mg "tuple" = none) (ha:VE X a W) (hg:Gl X "tuple":=by rfl) (hs:Qu [a] X.env=(false,eval a X.env)::Qu [] X.env:=by rfl) (hpl:(Ja pos (Qu [] X.env)).any (·.1)=false:=by rfl) :
 VN X (.Call (.Name "tuple" p) [a] [] pos) (zapk W) :=
 (qko qhy hg hm boot_tuple (qav (te:=qbw X.K W) ha qeu hs) (by decide) (by decide) hs hpl).imp fun σ H R xx130=>by
  obtain ⟨M,env,F,Q,I,h,k⟩:=xx130;refine ⟨M,env,F,_,I,h,fun d v F1 H1 e1 I1 s1 i1 h1=>?_⟩;cases d with
  | list l =>
   obtain ⟨a,xs,rfl,hs,hr⟩:=i1.lst_inv;refine ⟨a,xs,rfl,.inl ⟨I1.fh.seq hs,fun p hp=>?_⟩⟩;have g:=Go.put (o:=HO.tup xs) I1.fh hp;refine k _ _ _ _ e1 (I1.go g) (s1.trans g.f) ?_ h1.2;unfold IsN;exact ⟨p,xs,rfl,qnc (I1.he hp) (qK I1.bh hp) qp,qzc h1.1 hr⟩
  | _=>exact Zc h1
def zakw {x:Str}{es:List Expr}{Wr:WF}{k:Nat}{ps:List Str}{sp:DC} (O:OkC X x k ps (qqb X.K sp)) (hr:Room k X.A) (ha:VA X (e::es) Wr) (hg:Gl X x:=by rfl) (hdb:Nd0 x:=by decide)
 (he:Qu (e::es) X.env=(false,eval e X.env)::Qu es X.env:=by rfl) (hpl:(Ja pos (Qu es X.env)).any (·.1)=false:=by rfl):VN X (.Call (.Name x p) (e::es) [] pos) (qwn sp Wr) :=
 (zace (t:=qjk X.K Wr) O hr ha hg hdb he hpl).imp fun σ H R xx131=>by
  obtain ⟨M,env,F,Q,I,h,k⟩:=xx131;have e:qpz (qqb X.K sp) [] E0 (qjk X.K Wr) σ H R=qjk X.K Wr σ H fun vs H1=>zafr X.K sp vs H1 R:=by unfold qpz qqb;simp only [Y3]
  rw [e];exact ⟨M,env,F,_,I,h,fun ds vs F1 H1 e1 I1 s1 i1 h1=>⟨F1,ds,_,I1.fh,i1,h1,fun d v F2 H2 g i2 q=>k d v F2 H2 e1 (I1.go g) (s1.trans g.f) (i2.mono I1.newUp) q⟩⟩
def vn_e (h:VN X e W):VE X e W:=PE.imp (t:=zacf X.K W) h fun σ H R xx132=>by
 obtain ⟨M,env,F,Q,I,h,k⟩:=xx132;exact ⟨M,env,F,_,I,h,fun d v F1 H1 e1 I1 s1 i1 h1=>k d v F1 H1 e1 I1 s1 (i1.is qho) h1⟩
def zapo (W:WE):WS:=fun D env=>W env fun d e=>D.rt (.new d) e
def zaif (he:VN X e W):VS X (.Return (some e) pos) (zapo W):=(qmf (te:=zacf X.K W) he).imp fun D σ H xx133=>by
 obtain ⟨M,env,F,DD,I,h,k⟩:=xx133;exact ⟨M,env,F,_,I,h,fun d v F1 H1 e1 I1 s1 i1 h1=>k.rt (.new d) v e1 F1 H1 σ I1 s1 i1 h1⟩
end
section
variable {P:Zi}{w:World}{K:Qd}{mg:Str->Option Value}{base:Heap}
def Def.vokN {x:Str}{st:Stmt}{N ps:List Str}{k:Nat}{sp:DC} (F:Def K mg x st ps) (S:FnScope N ps (defScope st)) (len : ∀ ds q,sp ds q->ds.length=ps.length)
 (hbody : ∀ (f:Addr) (cdv:Value) (A:Zw) (outer:List Env) (s:Qk) (H:Hp) (E:XK),Room k (A.deeper (Qch x (defScope st) s.heap.objs.size f cdv)) -> ∀ ds q,sp ds q ->
 ∃ W,VSs (qei CX0 P w K mg base N x (defScope st) f cdv A outer s H E).nox (defBody st) W/\W { nx:=fun _=>False,rt:=fun r _ => ∃ d,r = .new d/\q d } (qbo N ds)):Ok P w K mg base x (k+1) ps (qqb K sp) :=
  F.ok S (fun vs H Q E xx135=>by obtain ⟨F,ds,q,_,i,h,_⟩:=xx135;rw [i.len];exact len ds q h) fun f cdv A outer s H vs Q E hr xx134=>by
   obtain ⟨F,ds,q,sm,i,h,kk⟩:=xx134;obtain ⟨W,hW,hq⟩:=hbody f cdv A outer s H E hr ds q h;refine ⟨_,hW,⟨H,H,F⟩,qbo N ds,F,_,qde sm i,hq,⟨fun e1 F1 H1 σ1 I1 s1 q1=>q1.elim,fun r v e1 F1 H1 σ1 I1 s1 r1 q1=>?_,fun _ _ _ _ _ _ h=>h.elim,fun _ _ _ _ _ _ h=>h.elim⟩⟩;obtain ⟨d,rfl,q1⟩:=q1;exact kk d v F1 H1 I1.goOf r1 q1
end
section
variable {X:Cx}{c e:Expr}{Tc:WT}{W:WE}{Wt Wu:WS}{st:Stmt}{sts rest:List Stmt}{pos pos':Pos}
mutual
def immD:Qh->Bool
 | .list _=>false
 | .tuple l=>qto l
 | .dict _=>false
 | _=>true
def qto:List Qh->Bool
 | []=>true
 | d::l=>immD d&&qto l
end
mutual
def Is.imm {K:Qd}{F F':Hp} (s : ∀ b o,F b=some o->(∀ xs,o ≠ .lst xs)->F' b=some o) : ∀ {d:Qh}{v:V},immD d=true->Is K F d v->Is K F' d v
 | .none,_,_,h=>by unfold Is at h ⊢;exact h
 | .bool _,_,_,h=>by unfold Is at h ⊢;exact h
 | .int _,_,_,h=>by unfold Is at h ⊢;exact h
 | .str _,_,_,h=>by unfold Is at h ⊢;exact h
 | .list l,_,m,h=>by unfold immD at m;cases m
 | .dict l,_,m,h=>by unfold immD at m;cases m
 | .tuple l,_,m,h=>by
  unfold immD at m;unfold Is at h ⊢;obtain ⟨a,xs,e,q,r⟩:=h;refine ⟨a,xs,e,?_,Iss.imm s m r⟩;rcases q with (q|⟨o,q⟩)|q
  ·exact .inl (.inl (s _ _ q (fun _ z=>nomatch z)))
  ·exact .inl (.inr ⟨o,s _ _ q (fun _ z=>nomatch z)⟩)
  ·exact .inr q
def Iss.imm {K:Qd}{F F':Hp} (s : ∀ b o,F b=some o->(∀ xs,o ≠ .lst xs)->F' b=some o) : ∀ {l:List Qh}{xs:List V},qto l=true->Iss K F l xs->Iss K F' l xs
 | [],_,_,h=>by unfold Iss at h ⊢;exact h
 | d::l,_,m,h=>by
  unfold qto at m;rw [Ye] at m;unfold Iss at h ⊢;obtain ⟨x,r,e,p,q⟩:=h;exact ⟨x,r,e,Is.imm s m.1 p,Iss.imm s m.2 q⟩
end
end
section
variable {X:Cx}
def dInI:D2:=fun x y q => ∃ (i:Int) (ns:List Int),x = .int i/\qfb y=some (ns.map .int)/\q (.bool (ns.any (· == i)))
def qof (i:Int) : ∀ ns:List Int,inV (.int i) (ns.map V.int)=ns.any (· == i)
 | []=>rfl
 | n::ns=>by
  have:=qof i ns;unfold inV at this ⊢;rw [Qt,Qbe,Qbe,this];rfl
def qqw (ns:List Int):(ns.map V.int).all qmb=true:=by
 rw [Z8];intro x hx;obtain ⟨i,_,rfl⟩:=Ql.mp hx;rfl
def zajm {neg:Bool}{x y:V}{H:Hp}{Q:VK}{F:Hp}{dy:Qh}{i:Int}{ns:List Int} (s:Same F H) (i1:Is X.K F (.int i) x) (i2:Is X.K F dy y) (e:qfb dy=some (ns.map .int)) (q:Q (.bl (if neg then !ns.any (· == i) else ns.any (· == i))) H):rIn X.K neg x y H Q:=by
 rw [i1.int_inv];cases dy with
 | list l =>
  cases e;obtain ⟨a,xs,rfl,hs,hr⟩:=i2.lst_inv;rw [hr.ints_inv] at hs;exact ⟨a,_,rfl,.inl (s.seq hs),rfl,qqw ns,by rw [qof];exact q⟩
 | tuple l =>
  cases e;obtain ⟨a,xs,rfl,hs,hr⟩:=i2.tup_inv;rw [hr.ints_inv] at hs;exact ⟨a,_,rfl,.inr (qX s hs),rfl,qqw ns,by rw [qof];exact q⟩
 | _=>cases e
def zakh:OpV X (Yl .In) dInI:=OpR.imp zabs fun x y H Q xx136=>by
 obtain ⟨F,dx,dy,q,s,i1,i2,⟨i,ns,e1,e2,hq⟩,k⟩:=xx136;subst e1;exact zajm s i1 i2 e2 (k _ _ F H (.refl s) (qfd _) hq)
end
end
section
section
variable {X:Cx}{elt target iter:Expr}{scope:Scope}{pos:Pos}{caps own:List Str}{ix:List Nat}{wi:TI}{g:TG}{te:TE}
end
section
variable {K:Qd}{ix:List Nat}{n:Nat}{Wi:WF}{G:WG}{We:WE}{σ:St}{H:Hp}{R:VK}
end
section
variable {X:Cx}{elt target iter:Expr}{scope:Scope}{pos py spos:Pos}{caps own:List Str}{ix:List Nat}{Wi:WF}{G:WG}{We:WE}{i:Nat}{y:Str}
end
end
section
def Its (lo c:Int) (n:Nat):It:=⟨fun i _=>i<n,fun i H x H'=>H'=H/\x = .int (lo+i*c),fun i _=>n<=i⟩
def qtx {P:Zi}{w:World}{K:Qd}{tg:Expr} (it:Addr) (lo c:Int) (n:Nat):Turn P w K tg (Its lo c n) [it] it (fun i h=>Qgn h it (lo+(i:Nat)*c) ((n:Int)-(i:Nat)) c) where
 mem:=by simp
 obj:=fun i h st b hb=>by
  have e:b=it:=by simpa using hb
  subst e;exact ⟨_,st,fun v z=>by
   have z':Qix _=Qkd v:=z;cases z'⟩
 keep:=fun i h h' st k=>k it (by simp) _ st
 item:=by
  intro X hP hw hK hc i pins s σ H E I hf st hg;subst hP hw hK;obtain ⟨f0,f1,f2,f3,f4,f5⟩:=hf it (by simp);have W:=Qki (prog:=X.prog) (w:=X.w) (I.ok.hd hc) it lo c n;refine W.item i s _ _ hg st fun v h' tk hv st' kk=>?_;obtain ⟨t,rfl⟩:=hv;have I1:Inv X pins σ H { s with heap:=h',toks:=tk }:=I.turned (fun b o hb e=>kk b o (by simpa using hb) e) f0 f1 f3 f4 f5;exact ⟨_,rfl,zacj (s:={ s with heap:=h',toks:=tk }) (n := "range_iterator") st' rfl rfl (by decide) ⟨.int (lo+i*c),H,I1,⟨t,rfl⟩,⟨rfl,rfl⟩,st',fun b hb=>(hf b hb).1⟩⟩
 done:=by
  intro X hP hw hK hc i pins s σ H E I hf st hg;subst hP hw hK;obtain ⟨f0,f1,f2,f3,f4,f5⟩:=hf it (by simp);exact Qfb (I.ok.hd hc) st (by have:n<=i:=hg;omega) fun h' eb=>⟨rfl,I.turned (t':=s.toks) (fun b o hb e=>eb b o hb e) f0 f1 f3 f4 f5⟩
 self:=fun _ _ _ _ _ st h=>Qfa st h
section
variable {X:Cx}{tg:Expr}
def zaai {pins:List (Addr×Obj)}{σ:St}{H:Hp}{s:Qk}{R:It->Hp->Prop}{E:Value->Qk->Prop}{lo hi c:Int}{n:Nat}{t u v:Tok}{tk:Nat} (I:Inv X pins σ H s) (hsm:Qcz lo hi c=true) (hn:Yd lo hi c=(n:Int))
 (q:R (Its lo c n) H):wpAny (model X.prog X.w) X.A (pyIter (.ref s.heap.objs.size)) (PIE X pins σ tg R) E { s with heap:=s.heap.push { cls :=.type "range",data :=.fields #[.int lo t,.int hi u,.int c v] },toks:=tk }:=by
  refine wpAny_pyIter_range (Qkj ..) hsm ?_;have I1:Inv X pins σ H { s with heap:=s.heap.push { cls :=.type "range",data :=.fields #[.int lo t,.int hi u,.int c v] },toks:=tk }:=I.kept fun b o e=>Qo _ e;refine ⟨(s.heap.push { cls :=.type "range",data :=.fields #[.int lo t,.int hi u,.int c v] }).objs.size,[(s.heap.push { cls :=.type "range",data :=.fields #[.int lo t,.int hi u,.int c v] }).objs.size],_,_,H,rfl,
   I1.kept (t':=tk) fun b o e=>Qo _ e,qtx _ lo c n,?_,fun b hb=>?_,q⟩
  ·have e1:lo+((0:Nat):Int)*c=lo:=by simp
   have e2:(n:Int)-((0:Nat):Int)=Yd lo hi c:=by rw [hn];simp
   show Qgn _ _ (lo+((0:Nat):Int)*c) ((n:Int)-((0:Nat):Int)) c;rw [e1,e2];exact Q8 _ rfl
  ·have e:b=(s.heap.push { cls :=.type "range",data :=.fields #[.int lo t,.int hi u,.int c v] }).objs.size:=by simpa using hb
   subst e;exact I1.fpOk (Qr _) (I1.hok.fresh (Qr _))
structure Rng3 (i j c:Int) (n:Nat):Prop where
 nz:c≠0
 cs:c.natAbs<1073741824
 sm:Qcz i j c=true
 n:Yd i j c=(n:Int)
def zape (ta:TA):TI:=fun σ H R=>ta σ H fun vs H1 => ∃ (i j c:Int) (n:Nat),vs=[.int i,.int j,.int c]/\Rng3 i j c n/\R (Its i c n) H1
def zaap {a b c:Expr}{ta:TA}{p pos:Pos} (hg:Gl X "range") (hm:X.mg "range" = none) (ha:PA X [a,b,c] ta) (hs:Qu [a,b,c] X.env=[(false,eval a X.env),(false,eval b X.env),(false,eval c X.env)]:=by rfl) (hs2:Qu [b,c] X.env=[(false,eval b X.env),(false,eval c X.env)]:=by rfl) :
 PI X tg (.Call (.Name "range" p) [a,b,c] [] pos) (zape ta):=by
 intro pins s σ H R I h;refine Call_ (qgk I hg hm boot_range (Y2 (thn (ha pos pins s σ H _ I h) fun us s1 xx137=>?_) (by rw [hs,hs2]) (by rw [hs2];rfl)));obtain ⟨vs,H1,I1,r1,q1⟩:=xx137;obtain ⟨i,j,c,n,e,hr,q⟩:=q1;subst e;cases r1 with
 | cons r rr =>
  cases rr with
  | cons r' rr =>
   cases rr with
   | cons r2 rr =>
    cases rr;obtain ⟨t,rfl⟩:=r;obtain ⟨t',rfl⟩:=r';obtain ⟨t2,rfl⟩:=r2;exact call_range_3 hr.nz (zaai I1 hr.sm hr.n q) (.inl (PyProof.noPylong_small hr.cs))
def rngS (lo c:Int) (n:Nat):List Qh:=(Qx n).map fun (k:Nat) => .int (lo+(k:Int)*c)
def qjn (lo c:Int) (n:Nat):(rngS lo c n).length=n:=by simp [rngS]
def qvv {lo c:Int}{n i:Nat} (h:i<n):(rngS lo c n)[i]?=some (.int (lo+i*c)):=by simp [rngS,h]
def zaez {lo c:Int}{n i:Nat}{d:Qh} (h:(rngS lo c n)[i]?=some d):i<n/\d = .int (lo+i*c):=by
 have hi:i<n:=by
  have:=(Qg.mp h).1
  rwa [qjn] at this
 rw [qvv hi] at h;exact ⟨hi,(Qn h).symm⟩
def zade {K:Qd}{F:Hp}{lo c:Int}{n:Nat}:ItD K (Its lo c n) F (rngS lo c n) where
 go:=fun i H s hi=>by rw [qjn] at hi;exact hi
 stop:=fun H s=>by rw [qjn];exact Qr _
 yld:=fun i H x H' F1 s1 s2 hi hy=>by
  obtain ⟨rfl,rfl⟩:=hy;rw [qjn] at hi;exact ⟨_,F1,qvv hi,.refl s2,qad _⟩
def wiR3 (Wa Wb Wc:WE):WF:=fun env Q=>Wa env fun x e1=>Wb e1 fun y e2=>Wc e2 fun z e=>match x,y,z with
 | .int i,.int j,.int c => ∃ n,Rng3 i j c n/\Q (rngS i c n) e
 | _,_,_=>False
def zabc {a b c:Expr}{p pos:Pos}{Wa Wb Wc:WE} (hm:X.mg "range" = none) (ha:VE X a Wa) (hb:VE X b Wb) (hc:VE X c Wc) (hg:Gl X "range":=by rfl)
 (hs:Qu [a,b,c] X.env=[(false,eval a X.env),(false,eval b X.env),(false,eval c X.env)]:=by rfl) (hs2:Qu [b,c] X.env=[(false,eval b X.env),(false,eval c X.env)]:=by rfl)
 (hs3:Qu [a,b,c] X.env=(false,eval a X.env)::Qu [b,c] X.env:=by rfl) (hs4:Qu [b,c] X.env=(false,eval b X.env)::Qu [c] X.env:=by rfl) (hs5:Qu [c] X.env=(false,eval c X.env)::Qu [] X.env:=by rfl) :
 VI X tg (.Call (.Name "range" p) [a,b,c] [] pos) (wiR3 Wa Wb Wc) :=
 (zaap hg hm (qav (te:=qbw X.K Wa) ha (qav (te:=qbw X.K Wb) hb (qav (te:=qbw X.K Wc) hc qeu hs5) hs4) hs3) hs hs2).imp fun σ H R xx138=>by
  obtain ⟨M,env,F,Q,I,h,k⟩:=xx138;refine ⟨M,env,F,_,I,h,fun d v F1 H1 e1 I1 s1 i1 h1=>⟨M,e1,F1,_,I1,h1,fun d2 v2 F2 H2 e2 I2 s2 i2 h2=>⟨M,e2,F2,_,I2,h2,fun d3 v3 F3 H3 e3 I3 s3 i3 h3=>?_⟩⟩⟩;cases d with
  | int i=>cases d2 with
   | int j=>cases d3 with
    | int c =>
     obtain ⟨n,hr,hq⟩:=h3;exact ⟨i,j,c,n,by rw [i1.int_inv,i2.int_inv,i3.int_inv],hr,k _ _ F3 H3 e3 I3 (s1.trans (s2.trans s3)) zade hq⟩
    | _=>exact Zc h3
   | _=>exact Zc h3
  | _=>exact Zc h3
end
def qqn (H:Hp) (a:Addr):Hp:=fun b=>if b=a then none else H b
section
variable {X:Cx}
end
section
variable {P:Zi}{w:World}{K:Qd}{mg:Str->Option Value}{base:Heap}
end
end
section
section
variable {X:Cx}{elt target iter:Expr}{scope:Scope}{pos py spos:Pos}{caps own:List Str}{ix:List Nat}{Wi:WF}{G:WG}{We:WE}{i i0 j0:Nat}{y:Str}
end
end
section
def ObjOk.obj {P:Zi}{w:World}{H:Hp}{h:Heap}{a:Addr}{o:HO} (x:ObjOk P w H h a o) : ∃ u,h.get? a=some u:=by
 cases o with
 | lst xs=>obtain ⟨_,_,_,_,e⟩:=x;exact ⟨_,e⟩
 | tup xs=>obtain ⟨_,_,_,ob,e,_⟩:=x;exact ⟨_,e⟩
 | dK kvs=>obtain ⟨_,_,_,_,o,_,_,e,_⟩:=x;exact ⟨_,e⟩
 | dT kvs=>obtain ⟨_,_,_,_,o,_,_,e,_⟩:=x;exact ⟨_,e⟩
 | set S n=>obtain ⟨o,_,_,_,e,_⟩:=x;exact ⟨_,e⟩
 | ins C dx fs=>obtain ⟨_,_,_,e,_⟩:=x;exact ⟨_,e⟩
 | own y=>exact x
 | xd fs=>obtain ⟨_,⟨_,_,_,e,_⟩,_⟩:=x;exact ⟨_,e⟩
 | rng lo hi=>obtain ⟨_,_,_,e⟩:=x;exact ⟨_,e⟩
 | frz ob u=>obtain ⟨e,_⟩:=x;exact ⟨_,e⟩
 | tbl ps=>exact ⟨_,(show h.get? a=some _ from x)⟩
 | met f y=>exact ⟨_,(show h.get? a=some _ from x)⟩
 | ext φ=>obtain ⟨_,e,_⟩:=x;exact e
def CX1 (P:Zi) (w:World):CXT:=fun outer H s E e s' => ∃ (ea C:Addr) (a0:Value) (B:Heap) (H':Hp),e = .ref ea/\Heap.FlyingW B outer ea (.ref C) a0 s'.heap/\s'.os=s.os/\Qdw s'.gens /\
 Un (frs outer) [] H H' s.heap s'.heap/\HOk P w H' s'.heap/\(∀ b u,H' b=some u -> ∃ o,B.get? b=some o)/\(∀ b o,s.heap.get? b=some o->b ∉ frs outer -> ∃ o',B.get? b=some o')/\E (.ref C) none H'
section
variable {X:Cx}{pins:List (Addr×Obj)}{σ:St}{H:Hp}{s:Qk}
def land (I:Inv X pins σ H s) (hex:X.ex=[]) (hst:X.stack=X.env::X.outer) (hfr:X.env.frame=some X.env.locals) {h'':Heap}
 (kB : ∀ b o,s.heap.get? b=some o->b ∉ frs X.stack->((∃ o',X.s₀.heap.get? b=some o') \/ ∃ u,H b=some u)->h''.get? b=some o)
 (sl : ∀ b o,s.heap.get? b=some o->(∀ vs,o.data ≠ .fields vs) -> ∃ sl,h''.get? b=some { o with slots:=sl }):Un X.fs [] X.H₀ H X.s₀.heap h''/\HOk X.prog X.w H h'':=by
  have fsOf : ∀ b,b ∈ frs X.stack->b=X.env.locals\/b ∈ X.fs:=fun b hb=>by
   rcases Qs.mp (I.stkSub b hb) with z|z
   ·exact .inl z
   ·exact .inr z
  have old : ∀ b o,X.s₀.heap.get? b=some o->b ∉ X.fs->b ∉ frs X.stack:=fun b o q n hb=>by
   rcases fsOf b hb with z|z
   ·exact absurd (Qw q) (Vo.mpr (z ▸ I.ok.above))
   ·exact n z
  have nx : ∀ b,b ∉ X.ex:=fun b=>by rw [hex];simp
  have frame : ∀ b ∈ X.fs,∃ o,s.heap.get? b=some o /\ ∀ vs,o.data ≠ .fields vs:=fun b hb=>by
   have hb':b ∈ frs X.stack:=by
    rw [hst];unfold frs;rw [Yz,hfr];exact Qm _ hb
   obtain ⟨_,o,ho,hd⟩:=I.stack.mem hb';exact ⟨o,ho,hd⟩
  refine ⟨⟨fun b o q n hb _=>kB b o (I.base.keep b o q n hb (nx b)) (old b o q hb) (.inl ⟨o,q⟩),fun b o q n hb _=>?_,fun b o q n _=>I.base.free b o q n (nx b),fun b o q _=>?_,I.base.tups,I.base.frzs,I.base.tbls⟩,fun a u e=>?_⟩
  ·obtain ⟨s1,h1⟩:=I.base.slot b o q n hb (nx b);obtain ⟨o',ho',hd⟩:=frame b hb;rw [h1] at ho';cases ho';obtain ⟨s2,h2⟩:=sl b _ h1 hd;exact ⟨s2,h2⟩
  ·obtain ⟨o',h1⟩:=I.base.there b o q (nx b);by_cases hb:b ∈ X.fs
   ·obtain ⟨o2,ho2,hd⟩:=frame b hb;obtain ⟨s2,h2⟩:=sl b _ ho2 hd;exact ⟨_,h2⟩
   ·exact ⟨o',kB b o' h1 (old b o q hb) (.inl ⟨o,q⟩)⟩
  ·have nf : ∀ b v,H b=some v->b ∉ frs X.stack:=fun b v eb hb=>by rw [I.stkFree b hb] at eb;cases eb
   refine (I.hok a u e).stay (fun c ob hc z=>?_) (fun c z=>z) (fun c xs z=>z);rcases hc with hc|hc
   ·subst hc;exact kB _ _ z (nf _ _ e) (.inr ⟨_,e⟩)
   ·exact kB _ _ z (nf _ _ hc) (.inr ⟨_,hc⟩)
end
def qsx (X:Cx) (E:XK):Prop := ∀ (pins:List (Addr×Obj)) (σ:St) (H:Hp) (s:Qk) (h':Heap) (e C:Addr) (args:List Value),Inv X pins σ H s->Heap.MadeExcOf s.heap h' e (.ref C) args->E (.ref C) none H->X.xe (.ref e) { s with heap:=h' }
section
variable {P:Zi}{w:World}{K:Qd}{mg:Str->Option Value}{base:Heap}{N:List Str}{qual:Str}{scope:Scope}{f:Addr}{cd:Value}{A:Zw}{outer:List Env}{s:Qk}{H:Hp}{E:XK}
def zaau:qsx (qei (CX1 P w) P w K mg base N qual scope f cd A outer s H E) E:=by
 intro pins σ H1 s1 h' e C args I hx q;have hin : ∀ env ∈ (qei (CX1 P w) P w K mg base N qual scope f cd A outer s H E).stack,∀ b,env.frame=some b->b ∈ frs (qei (CX1 P w) P w K mg base N qual scope f cd A outer s H E).stack:=fun env he b hb=>Qdl.mpr ⟨env,he,hb⟩;refine wpAny_leaves_madeW (base:=Qiw s1.heap (frs (qei (CX1 P w) P w K mg base N qual scope f cd A outer s H E).stack)) (h:=s1.heap) (s:={ s1 with heap:=h' }) I.ok.frames rfl (fun b o z=>Qgu _ z) (PySem.W.funFrames_hide I.stack hin) hx fun h'' t x1 x2 x3 x4=>?_;have kB : ∀ b o,s1.heap.get? b=some o->b ∉ frs (qei (CX1 P w) P w K mg base N qual scope f cd A outer s H E).stack->h''.get? b=some o:=fun b o z n=>x1.1 b o (Qas _ z n);obtain ⟨u,ok⟩:=land I rfl rfl rfl (fun b o z n _=>kB b o z n) (fun b o z d=>x4 b o (hx.keeps b o z) d);have nf : ∀ b v,H1 b=some v->b ∉ frs (qei (CX1 P w) P w K mg base N qual scope f cd A outer s H E).stack:=fun b v eb hb=>by rw [I.stkFree b hb] at eb;cases eb
 refine ⟨e,C,.ref t,_,H1,rfl,x1,I.os,I.bare,u,ok,fun b v eb=>?_,fun b o z n=>?_,q⟩
 ·obtain ⟨o,ho⟩:=(I.hok b v eb).obj;exact ⟨o,Qas _ ho (nf b v eb)⟩
 ·obtain ⟨o',ho'⟩:=I.base.there b o z (by simp [qei]);refine ⟨o',Qas _ ho' fun hb=>?_⟩;rcases Qs.mp (I.stkSub b hb) with y|y
  ·exact absurd (Qw z) (Vo.mpr (y ▸ I.ok.above))
  ·exact n y
def zaad:qxs (CX1 P w) (qei (CX1 P w) P w K mg base N qual scope f cd A outer s H E) E:=by
 intro pins σ H1 s1 e s' I hx;obtain ⟨ea,C,a0,B,H',rfl,fl,os,bare,u,ok,tB,pB,q⟩:=hx;have I':Inv (qei (CX1 P w) P w K mg base N qual scope f cd A outer s H E) pins σ H' s':=I.call' os u ok bare fun b hb=>nomatch hb
 refine wpAny_leaves_onW I.ok.frames rfl fl fun h'' x1 x4=>?_;have old : ∀ b o,s.heap.get? b=some o->b ∉ frs outer -> ∃ o',B.get? b=some o':=fun b o z n=>by
  obtain ⟨o',ho'⟩:=I.base.there b o z (by simp [qei]);refine pB b o' ho' fun hb=>?_;rcases Qs.mp (I.stkSub b hb) with y|y
  ·exact absurd (Qw z) (Vo.mpr (y ▸ I.ok.above))
  ·exact n y
 have kB : ∀ b o,s'.heap.get? b=some o->b ∉ frs (qei (CX1 P w) P w K mg base N qual scope f cd A outer s H E).stack->((∃ o',s.heap.get? b=some o') \/ ∃ v,H' b=some v)->h''.get? b=some o:=fun b o z n t=>by
  obtain ⟨o',ho'⟩ : ∃ o',B.get? b=some o':=by
   rcases t with ⟨o',t⟩|⟨v,t⟩
   ·exact old b o' t fun hb=>n (Qm _ hb)
   ·exact tB b v t
  have:=fl.1 b o' ho';rw [z] at this;cases this;exact x1.1 b _ ho'
 obtain ⟨u',ok'⟩:=land I' rfl rfl rfl kB (fun b o z d=>x4 b o z d);exact ⟨ea,C,a0,B,H',rfl,x1,I'.os,I'.bare,u',ok',tB,old,q⟩
end
end
section
def zacd (K:Qd) (C:Addr):List Value:=match K.lookup C with
 | some ⟨_,_,.cls cd,_⟩=>cd.mro
 | _=>[]
def qhw {K:Qd}{h:Heap}{C:Addr}{bmB:List Value}{newId:String} (X:K.In h) (q:Y5 K C bmB newId=true) :
 ∃ bm N nm qn bs hd sn sub ab col dd k0 k1 k2 k3 k5 mN,h.get? C=some (Qaw nm qn C N bs bm hd sn sub ab col dd k0 k1 k2 k3 k5 newId)/\h.Ns N mN/\mN "__init__" = none/\Qjg h bmB bm/\zacd K C = .ref C::bm:=by
  unfold Y5 at q;split at q
  case h_2=>cases q
  rename_i dd c sl ho;split at q
  case h_2=>cases q
  rename_i C' bm k0 k1 k2 k3 n k5 hm hs;simp only [Ye,beq_iff_eq,Bool.not_eq_true'] at q;obtain ⟨⟨⟨⟨⟨e1,e2⟩,hdel⟩,ht⟩,hok⟩,hni⟩:=q;have hC:=X _ _ ho;have hs':sl = #[k0,k1,k2,k3,some (.builtin n),k5]:=Array.ext' hs;cases c;dsimp only at hm hdel hok hni;subst e1 e2 hm hdel hs';exact ⟨bm,_,_,_,_,_,_,_,_,_,dd,k0,k1,k2,k3,k5,_,hC,.of_isNs (PySem.W.isNs_of_in X hok),PySem.W.nsMap_none_of_in X hok hni,PySem.W.tail_of_in X ht,by unfold zacd;rw [ho]⟩
abbrev qmp:List Value:=[.type "ValueError",.type "Exception",.type "BaseException",.type "object"]
def zanm (C:Addr) (E:XK) (t:TA):TS:=fun _ σ H=>t σ H fun vs H'=>vs.length<=Zb/\E (.ref C) none H'
section
variable {X:Cx}{x:Str}{C:Addr}{E:XK}{e:Expr}{es:List Expr}{t:TA}{np cpos pos:Pos}
def zaff (hT:qsx X E) (hc:X.calm=true) (hg:Gl X x) (hm:X.mg x=some (.ref C)) (hq:Y5 X.K C qmp "ValueError.__new__" = true) (ha:PA X (e::es) t)
 (hdb:Nd0 x:=by decide) (he:Qu (e::es) X.env=(false,eval e X.env)::Qu es X.env:=by rfl) (hpl:(Ja cpos (Qu es X.env)).any (·.1)=false:=by rfl) :
  PS X (.Raise (some (.Call (.Name x np) (e::es) [] cpos)) none pos) (zanm C E t):=by
  intro pins s σ H D I h;obtain ⟨bm,N,nm,qn,bs,hd,sn,sub,ab,col,dd,k0,k1,k2,k3,k5,mN,hC,hN,hni,T,_⟩:=qhw I.mod.kin hq;refine wpAny_Raise_call_subU (C:=C) (nm:=nm) (q:=qn) (N:=N) (bs:=bs) (bm:=bm) (hdct:=hd) (sn:=sn) (sub:=sub) (ab:=ab) (col:=col) (dd:=dd) (k0:=k0) (k1:=k1) (k2:=k2) (k3:=k3) (k5:=k5)
   Vz (by decide) Vz (mN:=mN) (T.hasType Vz.hasBase) (I.ok.hd hc) (by rw [he];show (false||(Ja cpos (Qu es X.env)).any (·.1))=false;rw [hpl];rfl) hni
   (qki I hg hm ⟨rfl,?_⟩ hdb)
  have h1:=ha cpos pins s σ H _ I h;rw [he] at h1 ⊢;refine Qcq (thn h1 fun us s1 xx139=>?_);obtain ⟨vs,H1,I1,r,q⟩:=xx139;exact ⟨rfl,r.length ▸ q.1,I1.bk _ _ hC,hN.keeps I1.bk,T.keeps I1.bk,fun h' ea hx=>hT pins σ H1 s1 h' ea C us I1 hx q.2⟩
end
end
section
section
variable {M:Model}{A:Zw}{E:Value->Qk->Prop}{C N C' N':Addr}{nm nm' q q':Str}{bs bm bs' bm':List Value}
def qmq {h:Heap}{g:Array Qit}{d:Drawn}{t:Nat}{os:OsState}{e:Addr}{oe:Obj}{Q:Bool->Qk->Prop}{hdct sn sub ab col dd k0 k1 k2 k3 k5 newId hdct' sn' sub' ab' col' dd' k0' k1' k2' k3' k5' newId'}
 (hC:h.get? C=some (Qaw nm q C N bs bm hdct sn sub ab col dd k0 k1 k2 k3 k5 newId)) (hC':h.get? C'=some (Qaw nm' q' C' N' bs' bm' hdct' sn' sub' ab' col' dd' k0' k1' k2' k3' k5' newId'))
 (he:h.get? e=some oe) (hcls:oe.cls = .ref C) (hbase:bm'.contains (.type "BaseException")=true) (b:Bool) (hb:(Vw C::bm).contains (.ref C')=b)
 (hq:Q b ⟨h,g,d,t,os⟩):wpAny M A (excMatches (.ref e) (.ref C')) Q E ⟨h,g,d,t,os⟩:=by
  have hcB:(Vw C'::bm').contains (.type "BaseException")=true:=by rw [Qdm,hbase,Bool.or_true]
  have f:=tc_notTuple;unfold excMatches
  repeat (first|(with_reducible refine Vt he ?_;rw [hcls])|with_reducible refine Vt hC' ?_|(with_reducible refine Qax hC' ?_;rw [hcB])|(with_reducible refine Qax hC ?_;rw [hb])|wp_step)
  cases b <;> (wp_walk;exact hq)
end
section
variable {X:Cx}{pins:List (Addr×Obj)}{σ:St}{H1 H2:Hp}{s1 s':Qk}{B h5:Heap}
def Inv.flown (I:Inv X pins σ H1 s1) (os:s'.os=s1.os) (bare:Qdw s'.gens) (u:Un (frs X.stack) [] H1 H2 s1.heap s'.heap) (ok:HOk X.prog X.w H2 s'.heap)
 (tB : ∀ b v,H2 b=some v -> ∃ o,B.get? b=some o) (pB : ∀ b o,s1.heap.get? b=some o->b ∉ frs X.stack -> ∃ o',B.get? b=some o') (fl:B.StaysIn s'.heap) (st:B.StaysIn h5) (up:s'.heap.UpToSlots h5) (hst : ∀ b ∈ X.fs,b ∈ frs X.stack) :
 Inv X pins σ H2 { s' with heap:=h5 }:=by
  obtain ⟨hh,g',d',t',o'⟩:=s';have e:o'=s1.os:=os;subst e;have inB : ∀ b o,B.get? b=some o->hh.get? b=some o:=fl;have kB : ∀ b o,hh.get? b=some o->(∃ o',B.get? b=some o')->h5.get? b=some o:=fun b o z xx140=>by
   obtain ⟨o',t⟩:=xx140;have:=inB b o' t;rw [z] at this;cases this;exact st b _ t
  have nofr : ∀ b,b ∈ frs X.stack -> ∃ o,s1.heap.get? b=some o /\ ∀ vs,o.data ≠ .fields vs:=fun b hb=>by
   obtain ⟨_,o,ho,hd⟩:=I.stack.mem hb;exact ⟨o,ho,hd⟩
  have sl : ∀ b o,b ∈ frs X.stack->s1.heap.get? b=some o->H1 b=none -> ∃ sl,h5.get? b=some { o with slots:=sl }:=fun b o hb z n=>by
   obtain ⟨o2,ho2,hd⟩:=nofr b hb;rw [z] at ho2;cases ho2;obtain ⟨x1,y1⟩:=u.any z n (by simp);obtain ⟨x2,y2⟩:=up b _ y1 hd;exact ⟨x2,y2⟩
  show Inv X pins σ H2 { s1 with heap:=h5,gens:=g',drawn:=d',toks:=t' };refine Inv.step (s:=s1) (ch:=[]) I (fun b z=>nomatch z) (fun b o hL hb _ z n=>?_) (fun b o hL hb _ z n=>sl b o (hst b hb) z n) (fun b o _ z n=>u.free b o z n (by simp)) (fun b o _ z=>?_) u.tups u.frzs u.tbls (fun m hm=>?_) (fun b v eb=>?_) bare
  ·have nf:b ∉ frs X.stack:=fun hq=>(Qs.mp (I.stkSub b hq)).elim hL hb;exact kB b o (u.keep b o z n nf (by simp)) (pB b o z nf)
  ·by_cases hq:b ∈ frs X.stack
   ·obtain ⟨x,y⟩:=sl b o hq z (I.stkFree b hq);exact ⟨_,y⟩
   ·obtain ⟨o',t⟩:=pB b o z hq;exact ⟨o',st b o' t⟩
  ·obtain ⟨o,es,ep,ho,r⟩:=hm;by_cases hq:X.env.locals ∈ frs X.stack
   ·obtain ⟨x,y⟩:=sl _ o hq ho I.free;exact ⟨_,es,ep,y,r⟩
   ·exact ⟨o,es,ep,kB _ o (u.keep _ o ho I.free hq (by simp)) (pB _ o ho hq),r⟩
  ·refine (ok b v eb).stay (fun c ob hc z=>?_) (fun c z=>z) (fun c xs z=>z);rcases hc with hc|hc
   ·subst hc;exact kB _ _ z (tB _ _ eb)
   ·exact kB _ _ z (tB _ _ hc)
end
section
variable {X:Cx}{pins:List (Addr×Obj)}{σ:St}{H:Hp}{s:Qk}
def Inv.caught {C ea:Addr}{oe:Obj}{ws:Array Value} (I:Inv X pins σ H s) (hn:H ea=none) (he:s.heap.get? ea=some oe) (hc:oe.cls = .ref C) (hd:oe.data = .fields ws) (hpn : ∀ p ∈ X.pn++pins,p.1≠ea)
 (h0 : ∀ b o,X.s₀.heap.get? b=some o->b ∉ X.ex->b≠ea):Inv X pins σ (upd H ea (qnv C ea)) s:=by
  have up : ∀ b,b≠ea->upd H ea (qnv C ea) b=H b:=fun b hb=>by unfold upd;rw [if_neg hb]
  have neT : ∀ b v,H b=some v->upd H ea (qnv C ea) b=some v:=fun b v e=>by
   rw [up b fun z=>by rw [z,hn] at e;cases e];exact e
  have nL:X.env.locals≠ea:=fun z=>by
   obtain ⟨m,⟨o,es,ep,ho,ho2,_⟩,_⟩:=I.loc;rw [z,he] at ho;cases ho;rw [hd] at ho2;cases ho2
  have nC : ∀ x c,X.env.cells.lookup x=some c->c≠ea:=fun x c e z=>by
   obtain ⟨v,o,ho,ho2⟩:=I.cell x c e;rw [z,he] at ho;cases ho;rw [hd] at ho2;cases ho2
  refine ⟨I.ok,I.os,I.bare,⟨I.base.keep,I.base.slot,fun b o e n hx=>?_,I.base.there,fun b xs e=>neT _ _ (I.base.tups b xs e),fun b o xs e=>neT _ _ (I.base.frzs b o xs e),fun b ps e=>?_⟩,I.loc,I.cell,?_,fun x c e=>?_,fun p hp=>?_,fun b v e=>?_,I.len⟩
  ·rw [up b (h0 b o e hx)];exact I.base.free b o e n hx
  ·obtain ⟨more,q,gm⟩:=I.base.tbls b ps e;exact ⟨more,neT _ _ q,gm.mono fun b o u z=>neT _ _ z⟩
  ·rw [up _ nL];exact I.free
  ·rw [up _ (nC x c e)];exact I.freeC x c e
  ·obtain ⟨a1,a2,a3⟩:=I.pin p hp;exact ⟨a1,(up _ (hpn p hp)).trans a2,a3⟩
  ·by_cases z:b=ea
   ·subst z;have e':qnv C b=v:=by unfold upd at e;rw [if_pos rfl] at e;exact Qn e
    subst e';exact ⟨⟨oe,he,hc⟩,⟨oe,he⟩,fun h1 h2 xx141 k=>by obtain ⟨o,q1,q2⟩:=xx141;exact ⟨o,k o q1,q2⟩⟩
   ·rw [up b z] at e;exact (I.hok b v e).stay (fun c ob _ q=>q) (fun c q=>neT _ _ q) (fun c xs q=>neT _ _ q)
end
end
section
section
variable {X:Cx}{pins pins0:List (Addr×Obj)}{σ:St}{H:Hp}{s:Qk}
abbrev Cx.inX (X:Cx) (A':Zw) (xe':Value->Qk->Prop):Cx:={ X with A:=A',calm:=false,xe:=xe' }
abbrev Cx.inT (X:Cx) (pn':List (Addr×Obj)) (xe':Value->Qk->Prop):Cx:={ X with pn:=pn',xe:=xe' }
def Inv.toX {A':Zw}{xe':Value->Qk->Prop} (I:Inv X pins σ H s) (hA:A'.frames=X.A.frames):Inv (X.inX A' xe') pins σ H s :=
 ⟨⟨I.ok.mod,I.ok.kind,I.ok.glob,I.ok.blt,I.ok.above,I.ok.inj,I.ok.has,I.ok.cab,(fun z=>by cases z),hA.trans I.ok.frames,I.ok.stk,I.ok.exf,I.ok.bs,I.ok.bsz,I.ok.noex,I.ok.exfs,I.ok.funs,I.ok.frf⟩,
  I.os,I.bare,I.base,I.loc,I.cell,I.free,I.freeC,I.pin,I.hok,I.len⟩
def Inv.ofX {A':Zw}{xe':Value->Qk->Prop} (ok:X.Ok) (I:Inv (X.inX A' xe') pins σ H s):Inv X pins σ H s :=
 ⟨ok,I.os,I.bare,I.base,I.loc,I.cell,I.free,I.freeC,I.pin,I.hok,I.len⟩
def Inv.toT {xe':Value->Qk->Prop} (I:Inv X pins0 σ H s):Inv (X.inT (X.pn++pins0) xe') [] σ H s :=
 ⟨⟨I.ok.mod,I.ok.kind,I.ok.glob,I.ok.blt,I.ok.above,I.ok.inj,I.ok.has,I.ok.cab,I.ok.hd,I.ok.frames,I.ok.stk,I.ok.exf,I.ok.bs,I.ok.bsz,I.ok.noex,I.ok.exfs,I.ok.funs,I.ok.frf⟩,
  I.os,I.bare,I.base,I.loc,I.cell,I.free,I.freeC,fun p hp=>I.pin p (by simpa using hp),I.hok,I.len⟩
def Inv.ofT {xe':Value->Qk->Prop} (ok:X.Ok) (I:Inv (X.inT (X.pn++pins0) xe') pins σ H s):Inv X pins0 σ H s :=
 ⟨ok,I.os,I.bare,I.base,I.loc,I.cell,I.free,I.freeC,fun p hp=>I.pin p (Z2 _ hp),I.hok,I.len⟩
def qns {M:Model}{A:Zw}{E:Value->Qk->Prop}{i:Nat}{n:Str}{pos:Pos}{Q:Unit->Qk->Prop} (I:Inv X pins σ H s) (hN:X.N.Nodup) (hi:X.N[i]?=some n) (hl:X.env.scope.names.lookup n=some .local)
 (h : ∀ s',Inv X pins (σ.set i none) H s'->Q () s'):wpAny M A (do bindName X.env n .none;unbindBehindTheSuite X.env n pos) Q E s:=by
  obtain ⟨m,hn,hl'⟩:=id I.loc;have hcls:(X.env.scope.kind == .class||(X.env.scope.kind == .module&&X.env.locals != X.env.globals))=false:=by rw [I.ok.kind];rfl
  refine wpAny_nameGoes_keeps hl hn hcls fun h' v hn' hs=>h _ ?_;have lt : ∀ b o,X.s₀.heap.get? b=some o->b≠X.env.locals:=fun b o e=>Za (Zu (Qw e) I.ok.above);refine ⟨I.ok,I.os,I.bare,⟨fun b o e a c d=>(hs.2 b (lt b o e)).trans (I.base.keep b o e a c d),fun b o e a c d=>?_,I.base.free,fun b o e d=>?_,I.base.tups,I.base.frzs,I.base.tbls⟩,⟨_,hn',fun j y v' e1 e2 e3=>?_⟩,fun y c e=>?_,I.free,I.freeC,fun p hp=>?_,fun b ob e=>?_,by simpa using I.len⟩
  ·obtain ⟨sl,e1⟩:=I.base.slot b o e a c d;exact ⟨sl,(hs.2 b (lt b o e)).trans e1⟩
  ·obtain ⟨o',e1⟩:=I.base.there b o e d;exact ⟨o',(hs.2 b (lt b o e)).trans e1⟩
  ·have hj:j≠i:=fun z=>by
    subst z;rw [Qec] at e2;split at e2
    ·split at e2 <;> cases e2
    ·exact absurd rfl (by assumption)
   rw [Qco (V7 hj)] at e2;obtain ⟨u',r',q⟩:=hl' j y v' e1 e2 e3;refine ⟨u',r',?_⟩;rcases q with ⟨k,e⟩|⟨k,c,e,z⟩
   ·have:y≠n:=fun e=>hj (qoh hN e1 (e ▸ hi));exact .inl ⟨k,by simp [this,e]⟩
   ·exact .inr ⟨k,c,e,z.sameBut hs (I.cne y c e)⟩
  ·obtain ⟨w',z⟩:=I.cell y c e;exact ⟨w',z.sameBut hs (I.cne y c e)⟩
  ·obtain ⟨e,n,ne,nf,d⟩:=I.pin p hp;exact ⟨(hs.2 p.1 ne).trans e,n,ne,nf,d⟩
  ·refine (I.hok b ob e).stay (fun c w' hc q=>(hs.2 c ?_).trans q) (fun _ q=>q) fun _ _ q=>q;rintro rfl;rcases hc with rfl|hc
   ·rw [I.free] at e;cases e
   ·rw [I.free] at hc;cases hc
end
def qgr (X:Cx) (σ:St) (E:XK):Prop := ∀ (pins:List (Addr×Obj)) (H:Hp) (s:Qk) (e:Value) (s':Qk),Inv X pins σ H s->CX1 X.prog X.w X.stack H s E e s'->X.xe e s'
def zagz (K:Qd) (C C':Addr):Prop:=Y5 K C qmp "ValueError.__new__" = true/\(zacd K C).contains (.ref C')=true
def qxl (K:Qd) (C':Addr) (i:Nat) (ts:TS) (D:Ends):St->XK:=fun σ c _ H => ∃ C,c = .ref C/\zagz K C C' /\ ∀ ea,H ea=none ->
 ts { nx:=fun σ2 H3=>D.nx (σ2.set i none) H3,rt:=D.rt,bk:=fun σ2 H3=>D.bk (σ2.set i none) H3,ct:=fun σ2 H3=>D.ct (σ2.set i none) H3 } (σ.set i (some (.ref ea))) (upd H ea (qnv C ea))
def tTry (K:Qd) (C':Addr) (i:Nat) (tb:(St->XK)->TS) (ts:TS):TS:=fun D σ H=>tb (qxl K C' i ts D) D σ H
section
variable {X:Cx}{body suite:List Stmt}{b₀:Stmt}{x n:Str}{np hpos pos:Pos}{C':Addr}{i:Nat}{tb:(St->XK)->TS}{ts:TS}
def zalh (hst:X.stack=X.env::X.outer) (hfr:X.env.frame=some X.env.locals) (hN:X.N.Nodup) (hi:X.N[i]?=some n) (hl:X.env.scope.names.lookup n=some .local) (hg:Gl X x) (hm:X.mg x=some (.ref C'))
 (hq:Y5 X.K C' qmp "ValueError.__new__" = true) (hb : ∀ pn xe Ex,(∀ σ,qgr (X.inT pn xe) σ (Ex σ))->PSs (X.inT pn xe) body (tb Ex)) (hs : ∀ A xe,PSs (X.inX A xe) (b₀::suite) ts) (hd:Nd0 x:=by decide) :
  PS X (.Try body [.ExceptHandler (some (.Name x np)) (some n) (b₀::suite) hpos] [] [] pos) (tTry X.K C' i tb ts):=by
  intro pins s σ H D I h;have ok:=I.ok;refine wpAny_Try_except (Z4 (hb (X.pn++pins) (fun e s' => ∃ σ1 H1 s1,Inv X pins σ1 H1 s1/\CX1 X.prog X.w X.stack H1 s1 (qxl X.K C' i ts D σ1) e s') (qxl X.K C' i ts D) (fun σ1 pins1 H1 s1 e s' I1 c=>⟨σ1,H1,s1,I1.ofT ok,c⟩) [] s σ H D I.toT h) (fun f s1 q=>?_) fun e s' q=>?_)
  ·cases f with
   | next=>obtain ⟨σ',H',I',q⟩:=q;exact Q1 ⟨σ',H',I'.ofT ok,q⟩
   | brk=>obtain ⟨σ',H',I',q⟩:=q;exact ⟨σ',H',I'.ofT ok,q⟩
   | cont=>obtain ⟨σ',H',I',q⟩:=q;exact ⟨σ',H',I'.ofT ok,q⟩
   | ret u=>obtain ⟨v,σ',H',I',r,q⟩:=q;exact ⟨v,σ',H',I'.ofT ok,r,q⟩
  obtain ⟨σ1,H1,s1,I1,ea,C,a0,B,H2,rfl,fl,os,bare,u,okH,tB,pB,C2,e2,⟨q1,q2⟩,q3⟩:=q;cases e2;have sub : ∀ b ∈ X.fs,b ∈ frs X.stack:=fun b hb=>by
   rw [hst];unfold frs;rw [Yz,hfr];exact Qm _ hb
  have hn2:H2 ea=none:=by
   rcases z:H2 ea with _|v
   ·rfl
   ·obtain ⟨o,ho⟩:=tB _ _ z;rw [fl.2.1] at ho;cases ho
  refine wpAny_looks_onW (ok.frames.trans (by rw [hst])) hfr (hst ▸ fl) fun h4 held4 up4=>?_;refine wpAny_landsW held4 fun h5 fl5 up5=>?_;have I5:Inv X pins σ1 H2 { s' with heap:=h5 }:=I1.flown os bare u okH tB pB fl.1 fl5.1 (up4.trans up5) sub;obtain ⟨ob,hob,hobc⟩:=fl5.there;obtain ⟨bm,N,nm,qn,bs,hd1,sn,sb,ab,col,dd,k0,k1,k2,k3,k5,mN,hC,hNs,hni,T,hmr⟩:=qhw I5.kIn q1;obtain ⟨bm',N',nm',qn',bs',hd1',sn',sb',ab',col',dd',k0',k1',k2',k3',k5',mN',hC',hNs',hni',T',hmr'⟩:=qhw I5.kIn hq;refine wpAny_handleBy_cons (codeAny_handlers_test (qki (X:=X.inX (X.A.mark (some (.ref ea))) X.xe) (I5.toX rfl) hg hm ?_ hd)) (by intro q;cases q);refine qmq hC hC' hob hobc (T'.hasType Vz.hasBase) true (hmr ▸ q2) (codeAny_handlers_suite_as ?_);refine lands_againW fl5 fun h6 fl6 up6=>?_;have I6:Inv X pins σ1 H2 { s' with heap:=h6 }:=I1.flown os bare u okH tB pB fl.1 fl6.1 ((up4.trans up5).trans up6) sub;obtain ⟨oe,ws,hoe,hoec,hoed,hoe0⟩:=fl6.first;have notB : ∀ b o,B.get? b=some o->b≠ea:=fun b o z y=>by rw [y,fl.2.1] at z;cases z
  have notF : ∀ b,b ∈ frs X.stack->b≠ea:=fun b hb y=>by
   obtain ⟨_,o,ho,hd⟩:=I6.stack.mem hb;rw [y,hoe] at ho;cases ho;exact hd _ hoed
  have not1 : ∀ b o,s1.heap.get? b=some o->b≠ea:=fun b o z=>by
   by_cases hb:b ∈ frs X.stack
   ·exact notF b hb
   ·obtain ⟨o',t⟩:=pB b o z hb;exact notB b o' t
  have I7:Inv X pins σ1 (upd H2 ea (qnv C ea)) { s' with heap:=h6 }:=I6.caught hn2 hoe hoec hoed (fun p hp=>not1 _ _ (I1.pin p hp).1) fun b o z hx=>by
   obtain ⟨o',ho'⟩:=I1.base.there b o z hx;exact not1 b o' ho'
  refine qgu (X:=X) I7 hN hi (.inl hl) (show RelV (.ref ea) (.ref ea) from rfl) (fun s8 I8=>?_) (.inr hl);refine Z4 (hs (X.A.mark (some (.ref ea))) _ pins s8 _ _ _ (I8.toX rfl) (q3 ea hn2)) (fun f s9 q=>?_) fun _ _ z=>z;cases f with
  | next=>obtain ⟨σ',H',I',q⟩:=q;exact qns (X:=X) (I'.ofX ok) hN hi hl fun s' I''=>⟨_,H',I'',q⟩
  | brk=>obtain ⟨σ',H',I',q⟩:=q;exact qns (X:=X) (I'.ofX ok) hN hi hl fun s' I''=>⟨_,H',I'',q⟩
  | cont=>obtain ⟨σ',H',I',q⟩:=q;exact qns (X:=X) (I'.ofX ok) hN hi hl fun s' I''=>⟨_,H',I'',q⟩
  | ret u=>obtain ⟨v,σ',H',I',r,q⟩:=q;exact qns (X:=X) (I'.ofX ok) hN hi hl fun s' I''=>⟨v,_,H',I'',r,q⟩
end
end
section
section
variable {K:Qd}{M:Frm}{F H:Hp}{env:Sto}{σ:St}
def EnvOk.sets (I:EnvOk K M F H env σ) {i:Nat}{s:Sl}{v:Option V} (m:s.mut=false) (h:SlotOk K M F H s v):EnvOk K M F H (env.set i s) (σ.set i v) where
 len:=by rw [Vl,Vl];exact I.len
 slot:=fun j=>by
  rw [qcz,qmi,I.len];split
  ·exact h
  ·exact I.slot j
 dis:=fun j k a hjk h1 h2 h3 h4=>by
  rw [qcz] at h1 h2;rw [qmi] at h3 h4;rw [I.len] at h1 h2;split at h1
  ·rw [m] at h1;cases h1
  ·rename_i z1;split at h2
   ·rw [m] at h2;cases h2
   ·rename_i z2;rw [if_neg z1] at h3;rw [if_neg z2] at h4;exact I.dis j k a hjk h1 h2 h3 h4
 f0:=I.f0
 fe:=I.fe
 fh:=I.fh
 bh:=I.bh
 new:=I.new
 dom:=I.dom
def EnvOk.caught (I:EnvOk K M F H env σ) {i:Nat}{C ea:Addr} (h:H ea=none):EnvOk K M (upd F ea (qnv C ea)) (upd H ea (qnv C ea)) (env.set i (.exc C)) (σ.set i (some (.ref ea)))/\Same F (upd F ea (qnv C ea)):=by
 have hf:F ea=none:=qK I.fh h;have g:Go F H (upd F ea (qnv C ea)) (upd H ea (qnv C ea)):=⟨qau hf,qau h,fun b o e=>by
  by_cases z:b=ea
  ·subst z;rw [qp] at e ⊢;exact .of e
  ·rw [qk z] at e ⊢;exact I.fh b o e,fun b o e=>by
  by_cases z:b=ea
  ·subst z;exact .inr h
  ·rw [qk z] at e;exact .inl e⟩
 exact ⟨(I.go g).sets rfl ⟨ea,rfl,qp⟩,g.f⟩
end
abbrev WX:=Addr->Sto->Prop
def ExOk (K:Qd) (M:Frm) (F:Hp) (Wx:WX) (Ex:St->XK):Prop := ∀ C env' F' H' σ',EnvOk K M F' H' env' σ'->Same F F'->Wx C env'->Ex σ' (.ref C) none H'
def ExOk.mono {K:Qd}{M:Frm}{F F':Hp}{Wx:WX}{Ex:St->XK} (h:ExOk K M F Wx Ex) (s:Same F F'):ExOk K M F' Wx Ex:=fun C e f g i j k=>h C e f g i j (s.trans k)
def zama (K:Qd) (Ex:St->XK) (W:WX->WE):TE:=fun σ H R => ∃ M env F Wx Q,EnvOk K M F H env σ/\W Wx env Q/\ExOk K M F Wx Ex /\ ∀ d v F' H' env',EnvOk K M F' H' env' σ->Same F F'->Is K F' d v->Q d env'->R v H'
def qxz (K:Qd) (Ex:St->XK) (W:WX->WS):TS:=fun D σ H => ∃ M env F Wx DD,EnvOk K M F H env σ/\W Wx DD env/\ExOk K M F Wx Ex/\EndsOk K M F DD D
def VEX (X:Cx) (Ex:St->XK) (e:Expr) (W:WX->WE):Prop:=PE X e (zama X.K Ex W)
def VSX (X:Cx) (Ex:St->XK) (st:Stmt) (W:WX->WS):Prop:=PS X st (qxz X.K Ex W)
def qyn (X:Cx) (Ex:St->XK) (st:List Stmt) (W:WX->WS):Prop:=PSs X st (qxz X.K Ex W)
abbrev DE:=List Qh->(Qh->Prop)->(Addr->Prop)->Prop
def XSp (K:Qd) (sp:DE):Sp:=fun vs H Q E => ∃ F ds q e,Same F H/\Iss K F ds vs/\sp ds q e/\(∀ d v F' H',Go F H F' H'->Is K F' d v->q d->Q v H') /\ ∀ C F' H',Go F H F' H'->e C->E (.ref C) none H'
structure OkX (P:Zi) (w:World) (K:Qd) (mg:Str->Option Value) (base:Heap) (x:Str) (k:Nat) (ps:List Str) (sp:Sp):Prop where
 ex : ∃ (f:Addr) (fd:Vy),FnOk P w K mg base (CX1 P w) k f fd ps sp/\mg x=some (.ref f)/\Vi K (.ref f)=true/\Binds K fd ps []
structure OkXC (X:Cx) (x:Str) (k:Nat) (ps:List Str) (sp:Sp):Prop where
 ex : ∃ sp0,OkX X.prog X.w X.K X.mg X.base x k ps sp0 /\ ∀ (pins:List (Addr×Obj)) (σ:St) (H:Hp) (s:Qk) (vs:List V) (Q:VK) (E:XK),Inv X pins σ H s->sp vs H Q E->sp0 vs H Q E
section
variable {X:Cx}{Ex:St->XK}{x:Str}{k:Nat}{ps:List Str}{sp:DE}{e c:Expr}{es:List Expr}{p pos:Pos}{Wr:WF}{st:Stmt}{rest A B:List Stmt}{Tc:WT}{W:WX->WE}{Wt Wu:WX->WS}{W0:WS}
def zajj {pins:List (Addr×Obj)}{σ:St}{H:Hp}{s:Qk}{Q:VK}{f:Addr}{fd:Vy}{us:List Value}{vs:List V}{sp:Sp}{E:XK} (F:FnOk X.prog X.w X.K X.mg X.base (CX1 X.prog X.w) k f fd ps sp) (hr:Room k X.A) (hb:Binds X.K fd ps []) (hx:qgr X σ E)
 (I:Inv X pins σ H s) (r:Vals vs us) (h:sp vs H Q E):wpAny (model X.prog X.w) X.A (call (.ref f) us) (EP X pins σ Q) X.xe s:=by
  have hl:us.length=ps.length:=by rw [<- r.length];exact F.len _ _ _ _ h
  have hl':(us++[]).length=ps.length:=by rw [Y3];exact hl
  have hb':=hb s us I.kIn hl';rw [Y3] at hb';refine Qic (Qcg (F.run X.A X.stack s H ⟨us,[]⟩ us vs Q E hr I.env0 hb' r h) fun r s' hq=>?_);cases r with
  | error e=>exact hx pins H s e s' I hq
  | ok fl =>
   cases fl with
   | ret u=>exact I.after hq
   | next=>exact Zc hq
   | brk=>exact Zc hq
   | cont=>exact Zc hq
def zanp (sp:DE) (Wr:WF):WX->WE:=fun Wx env Q=>Wr env fun ds e=>sp ds (fun d=>Q d e) fun C=>Wx C e
def qxt (hx : ∀ σ,qgr X σ (Ex σ)) (O:OkXC X x k ps (XSp X.K sp)) (hr:Room k X.A) (ha:VA X (e::es) Wr) (hg:Gl X x:=by rfl) (hdb:Nd0 x:=by decide)
 (he:Qu (e::es) X.env=(false,eval e X.env)::Qu es X.env:=by rfl) (hpl:(Ja pos (Qu es X.env)).any (·.1)=false:=by rfl):VEX X Ex (.Call (.Name x p) (e::es) [] pos) (zanp sp Wr):=by
 obtain ⟨sp0,⟨f,fd,F,hm,hk,hb⟩,up⟩:=O.ex;rintro pins s σ H Q I ⟨M,env,F0,Wx,q,J,h,hex,kk⟩;refine V6 (qki I hg hm ?_ hdb);refine Qgw (h₀:=X.base) I.ok.mod.kin hk (thn (ha pos pins s σ H (fun vs H1=>XSp X.K sp vs H1 Q (Ex σ)) I ⟨M,env,F0,_,J,h,fun ds vs F1 H1 e1 I1 s1 i1 h1=>?_⟩) fun us s1 ⟨vs,H1,I1,r,q⟩=>⟨I1.kIn,?_⟩) he hpl
 ·exact ⟨F1,ds,_,_,I1.fh,i1,h1,fun d v F2 H2 g i2 q=>kk d v F2 H2 e1 (I1.go g) (s1.trans g.f) i2 q,fun C F2 H2 g q=>hex C e1 F2 H2 σ (I1.go g) (s1.trans g.f) q⟩
 ·exact zajj F hr hb (hx σ) I1 r (up _ _ _ _ _ _ _ I1 q)
def zaly (h:VS X st W0):VSX X Ex st (fun _=>W0):=PS.imp h fun D σ H xx143=>by obtain ⟨M,env,F,Wx,DD,I,h,hx,k⟩:=xx143;exact ⟨M,env,F,DD,I,h,k⟩
def qkg (h:VSs X rest W0):qyn X Ex rest (fun _=>W0):=PSs.imp h fun D σ H xx144=>by obtain ⟨M,env,F,Wx,DD,I,h,hx,k⟩:=xx144;exact ⟨M,env,F,DD,I,h,k⟩
def zadk (he:VEX X Ex e W) (hs:Qaa e none pos.line X.env=pure false:=by rfl):VSX X Ex (.Expr e pos) (fun Wx=>zaki (W Wx)):=(qnm he hs).imp fun D σ H xx145=>by
 obtain ⟨M,env,F,Wx,DD,I,h,hx,k⟩:=xx145;exact ⟨M,env,F,Wx,_,I,h,hx,fun d v F1 H1 e1 I1 s1 i1 h1=>k.nx e1 F1 H1 σ I1 s1 h1⟩
def zamo (hc:VT X c Tc) (ha:qyn X Ex A Wt) (hb:qyn X Ex B Wu):VSX X Ex (.If c A B pos) (fun Wx=>wIf Tc (Wt Wx) (Wu Wx)):=(zagu hc ha hb).imp fun D σ H xx146=>by
 obtain ⟨M,env,F,Wx,DD,I,h,hx,k⟩:=xx146;refine ⟨M,env,F,_,I,h,fun x F1 H1 e1 I1 s1 h1=>?_⟩;cases x with
 | true=>exact quw ⟨M,e1,F1,Wx,DD,I1,h1,hx.mono s1,k.mono s1⟩
 | false=>exact qsq ⟨M,e1,F1,Wx,DD,I1,h1,hx.mono s1,k.mono s1⟩
def zahc {i:Nat}{x:Str}{pos':Pos} (hN:X.N.Nodup) (he:VEX X Ex e W) (hi:X.N[i]?=some x:=by rfl) (hx:Loc X.env.scope x:=by first|exact V1 rfl|exact Va rfl) (hs:Qaa e (some (.Name x pos')) pos.line X.env=pure false:=by rfl)
 (hf:X.fn x=true\/X.env.scope.names.lookup x=some .local:=by first|exact .inl rfl|exact .inr rfl):VSX X Ex (.Assign [.Name x pos'] e pos) (fun Wx=>wSet i (W Wx)):=(qjg hN hi hx he hs hf).imp fun D σ H xx147=>by
 obtain ⟨M,env,F,Wx,DD,I,h,hx,k⟩:=xx147;exact ⟨M,env,F,Wx,_,I,h,hx,fun d v F1 H1 e1 I1 s1 i1 h1=>k.nx _ F1 H1 _ (I1.setv i1) s1 h1⟩
def qfi (h1:VSX X Ex st Wt) (h2:qyn X Ex rest Wu):qyn X Ex (st::rest) (fun Wx=>wSeq (Wt Wx) (Wu Wx)):=(qeg h1 h2).imp fun D σ H xx148=>by
 obtain ⟨M,env,F,Wx,DD,I,h,hx,k⟩:=xx148;exact ⟨M,env,F,Wx,{ DD with nx:=Wu Wx DD },I,h,hx,fun e' F' H' σ' I' s' h'=>⟨M,e',F',Wx,DD,I',h',hx.mono s',k.mono s'⟩,k.rt,k.bk,k.ct⟩
end
end
section
section
variable {X:Cx}{Ex:St->XK}{E:XK}{x y n:Str}{k i j:Nat}{ps:List Str}{sp:DE}{e:Expr}{es:List Expr}{p np cpos hpos pos pos':Pos}{Wr:WF}{st b₀:Stmt}{body suite:List Stmt}{C C':Addr}{Wb:WX->WS}{Ws:WS}
def zans (C:Addr) (Wr:WF):WX->WS:=fun Wx _ env=>Wr env fun ds e=>ds.length<=Zb/\Wx C e
def zabd (hT:qsx X E) (hc:X.calm=true) (hm:X.mg x=some (.ref C)) (hq:Y5 X.K C qmp "ValueError.__new__" = true) (ha:VA X (e::es) Wr) (hg:Gl X x:=by rfl)
 (hdb:Nd0 x:=by decide) (he:Qu (e::es) X.env=(false,eval e X.env)::Qu es X.env:=by rfl) (hpl:(Ja cpos (Qu es X.env)).any (·.1)=false:=by rfl) :
 VSX X (fun _=>E) (.Raise (some (.Call (.Name x np) (e::es) [] cpos)) none pos) (zans C Wr):=(zaff hT hc hg hm hq ha hdb he hpl).imp fun D σ H xx149=>by
 obtain ⟨M,env,F,Wx,DD,I,h,hx,k⟩:=xx149;exact ⟨M,env,F,_,I,h,fun ds vs F1 H1 e1 I1 s1 i1 h1=>⟨by rw [i1.len];exact h1.1,hx C e1 F1 H1 σ I1 s1 h1.2⟩⟩
def wTry (K:Qd) (C':Addr) (i:Nat) (Wb:WX->WS) (Ws:WS):WS:=fun D env=>Wb (fun C e=>zagz K C C' /\
 Ws { nx:=fun e'=>D.nx (e'.set i .non),rt:=fun r e'=>D.rt r (e'.set i .non),bk:=fun e'=>D.bk (e'.set i .non),ct:=fun e'=>D.ct (e'.set i .non) } (e.set i (.exc C))) D env
def zamu (hst:X.stack=X.env::X.outer) (hfr:X.env.frame=some X.env.locals) (hN:X.N.Nodup) (hm:X.mg x=some (.ref C')) (hq:Y5 X.K C' qmp "ValueError.__new__" = true)
 (hb : ∀ pn xe Ex,(∀ σ,qgr (X.inT pn xe) σ (Ex σ))->qyn (X.inT pn xe) Ex body Wb) (hs : ∀ A xe,VSs (X.inX A xe) (b₀::suite) Ws)
 (hi:X.N[i]?=some n:=by rfl) (hl:X.env.scope.names.lookup n=some .local:=by rfl) (hg:Gl X x:=by rfl) (hd:Nd0 x:=by decide) :
  VS X (.Try body [.ExceptHandler (some (.Name x np)) (some n) (b₀::suite) hpos] [] [] pos) (wTry X.K C' i Wb Ws) :=
  PS.imp (zalh (tb:=fun Ex=>qxz X.K Ex Wb) (ts:=zagx X.K Ws) hst hfr hN hi hl hg hm hq hb hs hd) fun D σ H xx151=>by
   obtain ⟨M,env,F,DD,I,h,k⟩:=xx151;refine ⟨M,env,F,_,DD,I,h,fun C env' F' H' σ' I' s' ⟨u,hw⟩=>⟨C,rfl,u,fun ea hea=>?_⟩,k⟩;obtain ⟨J,s2⟩:=I'.caught (i:=i) (C:=C) hea;have go : ∀ {env2 F2 H2 σ2},EnvOk X.K M F2 H2 env2 σ2->EnvOk X.K M F2 H2 (env2.set i .non) (σ2.set i none):=fun I2=>I2.sets rfl trivial;exact ⟨M,_,_,_,J,hw,fun e3 F3 H3 σ3 I3 s3 q3=>k.nx _ F3 H3 _ (go I3) (s'.trans (s2.trans s3)) q3,fun r v e3 F3 H3 σ3 I3 s3 r3 q3=>k.rt r v _ F3 H3 _ (go I3) (s'.trans (s2.trans s3)) r3 q3,
    fun e3 F3 H3 σ3 I3 s3 q3=>k.bk _ F3 H3 _ (go I3) (s'.trans (s2.trans s3)) q3,fun e3 F3 H3 σ3 I3 s3 q3=>k.ct _ F3 H3 _ (go I3) (s'.trans (s2.trans s3)) q3⟩
def zakn (i j:Nat):WS:=fun D env=>match gS env j with | .exc C=>D.nx (env.set i (.exc C))|_=>False
def zajp (j:Nat) (hN:X.N.Nodup) (hj:X.N[j]?=some y:=by rfl) (hv:Vis X.env.scope y:=by first|exact V1 rfl|exact Va (V1 rfl)|exact Va (Va rfl)) (hi:X.N[i]?=some x:=by rfl)
 (hx:Loc X.env.scope x:=by first|exact V1 rfl|exact Va rfl) (hd:Nd0 y:=by decide) (hcd:Nd1 y:=by decide)
 (hs:Qaa (.Name y p) (some (.Name x pos')) pos.line X.env=pure false:=by rfl) (hf:X.fn x=true\/X.env.scope.names.lookup x=some .local:=by first|exact .inl rfl|exact .inr rfl) :
 VS X (.Assign [.Name x pos'] (.Name y p) pos) (zakn i j):=PS.imp (qjg hN hi hx (qey hj hv hd hcd) hs hf) fun D σ H xx152=>by
 obtain ⟨M,env,F,DD,I,h,k⟩:=xx152;have S:=I.slot j;unfold zakn at h;cases q:gS env j with
 | exc C =>
  rw [q] at S h;obtain ⟨ea,e,z⟩:=S;exact ⟨_,qed e,k.nx _ F H _ (I.sets (i:=i) (s :=.exc C) rfl ⟨ea,rfl,z⟩) (.refl _) h⟩
 | non=>rw [q] at h;exact h.elim
 | obj a0 C nm fs=>rw [q] at h;exact h.elim
 | val d=>rw [q] at h;exact h.elim
 | own ds=>rw [q] at h;exact h.elim
 | pen ds=>rw [q] at h;exact h.elim
 | new d=>rw [q] at h;exact h.elim
end
section
variable {P:Zi}{w:World}{K:Qd}{mg:Str->Option Value}{base:Heap}
end
end
section
section
variable {prog:Zi}{w:World}{A:Zw}{E:Value->Qk->Prop}{h:Heap}{g:Array Qit}{d:Drawn}{t:Nat}{os:OsState}{a:Addr}{o:Obj}{K:Qd}
 {nm q:Str}{C N:Addr}{bs bm:List Value}{hdct:Bool}{sn:List Str}{sub:List Value}{ab:Bool}{col:Option Bool}{dd:Option Addr}{k0 k1 k2 k3 k5:Option Value}{newId:String}
def zaml {R:Result->Qk->Prop} (hC:h.get? C=some (Qaw nm q C N bs bm hdct sn sub ab col dd k0 k1 k2 k3 k5 newId)) (T:Qjg h qmp bm) (hx:h.get? a=some o) (hc:o.cls = .ref C) (hq:R (.ok (.ret (.ref C))) ⟨h,g,d,t,os⟩) :
 Qbz (model prog w) A (.call (.builtin "getset_descriptor.__get__") ⟨[.builtin "object.__class__",.ref a,.ref C],[]⟩) R ⟨h,g,d,t,os⟩:=by
  have hT5:(⟨h,g,d,t,os⟩:Qk).TypeIs (.builtin "object.__class__") "getset_descriptor" := Qce;have hcB:(Vw C::bm).contains (.type (".".intercalate ("object.__class__".cutAt '.').dropLast))=true:=by
   rw [F.owner_object_class,Qdm,T.hasType (X := "object") (b:=true) (by decide)];rfl
  refine Qgf Qha.plain F.entry_gs_get (Qha.check _ _ _ _ _ _ _ _ hT5 (F.args_gs_get _ _ _) ?_)
  repeat (any_goals (first|assumption|(with_reducible refine Vt hx ?_;rw [hc])|(with_reducible refine Qax hC ?_;rw [hcB])|wp_step))
  refine ⟨Code.quiet_builtin _ (by decide +kernel),Qfr F.entry_object_class ?_⟩
  repeat (any_goals (first|assumption|(with_reducible refine Vt hx ?_;rw [hc])|wp_step))
def zaeh {tk:Tok}{Q:Fin->Qk->Prop} (X:K.In h) (hf:Jv K (.ref C) "__class__" = some (some (.builtin "object.__class__"))) (hC:h.get? C=some (Qaw nm q C N bs bm hdct sn sub ab col dd k0 k1 k2 k3 k5 newId)) (T:Qjg h qmp bm)
 (hx:h.get? a=some o) (hc:o.cls = .ref C) (hq:Q (.done (.ret (.ref C))) ⟨h,g,d,t,os⟩) :
 wpAny (model prog w) A (Builtin.«object.__getattribute__» ⟨[.ref a,.str "__class__" tk],[]⟩) Q E ⟨h,g,d,t,os⟩:=by
  have hT5:(⟨h,g,d,t,os⟩:Qk).TypeIs (.builtin "object.__class__") "getset_descriptor" := Qce;have f5:=Qce;have f6:=Qha.lookup;have f7:=F.slot_gs_set.lookup;have L:=Qcr (M:=model prog w) X hf
  repeat (any_goals (first|assumption|(with_reducible refine Vt hx ?_;rw [hc])|with_reducible refine L.at ?_|wp_step))
  refine zaml hC T hx hc ?_
  repeat (any_goals (first|assumption|wp_step))
def zafa {M:Model}{nameV:Value}{Q:Unit->Qk->Prop} (hC:h.get? C=some (Qaw nm q C N bs bm hdct sn sub ab col dd k0 k1 k2 k3 k5 newId)) (T:Qjg h qmp bm)
 (hx:h.get? a=some o) (hc:o.cls = .ref C) (hq:Q () ⟨h,g,d,t,os⟩):wpAny M A (checkBuiltinCall "BaseException.__getattribute__" ⟨[.ref a,nameV],[]⟩) Q E ⟨h,g,d,t,os⟩:=by
  have hk:builtinKind "BaseException.__getattribute__" = some .slot:=by decide +kernel
  have hsplit:splitId "BaseException.__getattribute__" = some ("BaseException","__getattribute__"):=by decide +kernel
  have hcB:(Vw C::bm).contains (.type "BaseException")=true:=by rw [Qdm,T.hasType (X := "BaseException") (b:=true) (by decide)];rfl
  have ha:=F.args_bexc_ga (.ref a) nameV;simp only [checkBuiltinCall,hk,hsplit];refine Qj ?_;unfold isInstance
  repeat (first|(with_reducible refine Vt hx ?_;rw [hc])|(with_reducible refine Qax hC ?_;rw [hcB])|wp_step)
  exact hq
structure XCls (K:Qd) (C:Addr):Prop where
 exc:Y5 K C qmp "ValueError.__new__" = true
 ga:Jv K (.ref C) "__getattribute__" = some (some (.builtin "BaseException.__getattribute__"))
 na:Jv K (.ref C) "__getattr__" = some none
 cl:Jv K (.ref C) "__class__" = some (some (.builtin "object.__class__"))
def zaov {tk:Tok}{Q:Value->Qk->Prop} (X:K.In h) (Z:XCls K C) (hC:h.get? C=some (Qaw nm q C N bs bm hdct sn sub ab col dd k0 k1 k2 k3 k5 newId)) (T:Qjg h qmp bm)
 (hx:h.get? a=some o) (hc:o.cls = .ref C) (hq:Q (.ref C) ⟨h,g,d,t,os⟩):wpAny (model prog w) A (getAttrBy (.ref a) (.str "__class__" tk) false) Q E ⟨h,g,d,t,os⟩:=by
  have f3:=Qga.ga.bind (.ref a);have hx2:(Qek "BaseException.__getattribute__" == Qek "object.__getattribute__")=false:=by decide +kernel
  have hx1:(onTheHeap (Vw C)&&Qek "BaseException.__getattribute__" == Qek "object.__getattribute__")=false:=by rw [hx2];rfl
  have L:=Qcr (M:=model prog w) X Z.ga;have L2:=Qcr (M:=model prog w) X Z.na
  repeat (any_goals (first|assumption|(with_reducible refine Vt hx ?_;rw [hc])|with_reducible refine L.at ?_|with_reducible refine L2.at ?_|wp_step))
  refine Qgf Qga.ga.plain F.entry_bexc_ga (zafa hC T hx hc (zaeh X Z.cl hC T hx hc ?_))
  repeat (any_goals (first|assumption|wp_step))
def zajx {Q:Option Value->Qk->Prop} (X:K.In h) (Z:XCls K C) (hC:h.get? C=some (Qaw nm q C N bs bm hdct sn sub ab col dd k0 k1 k2 k3 k5 newId)) (T:Qjg h qmp bm)
 (hx:h.get? a=some o) (hc:o.cls = .ref C) (hq:Q (some (.ref C)) ⟨h,g,d,t+1,os⟩):wpAny (model prog w) A (getAttr? (.ref a) "__class__") Q E ⟨h,g,d,t,os⟩:=by
  unfold getAttr? getAttrBy?
  repeat (any_goals (first|assumption|with_reducible apply zaov X Z hC T hx hc|wp_step))
end
def zadp {K:Qd}{a C:Addr} (Z:XCls K C):PySem.W.KitX K (.ref a) (.ref C) (fun h => ∃ o,h.get? a=some o/\o.cls = .ref C) where
 ty:=fun M h X xx153=>by obtain ⟨o,h1,h2⟩:=xx153;exact h2 ▸ (Qkq h1).andThen .now
 it:=fun M h X _=>by
  obtain ⟨bm,N,nm,qn,bs,hd,sn,sub,ab,col,dd,k0,k1,k2,k3,k5,mN,hC,_⟩:=qhw X Z.exc;intro A' Q' E' s' k q;unfold isType loadHead;exact Qj (wpAny_loadPart (k _ _ hC) (Q1 q))
 ne:=fun h tp dd its n sl X htp=>by
  obtain ⟨bm,N,nm,qn,bs,hd,sn,sub,ab,col,dd',k0,k1,k2,k3,k5,mN,hC,_⟩:=qhw X Z.exc;refine Bool.eq_false_iff.mpr fun q=>?_;have e:C=tp:=Vw.inj (beq_iff_eq.mp q);subst e;have z:=Qn (hC.symm.trans htp);have z2:=congrArg Obj.data z;exact Data.noConfusion z2
 ca:=fun {prog w A E Q s} X ⟨o,h1,h2⟩ k=>by
  obtain ⟨bm,N,nm,qn,bs,hd,sn,sub,ab,col,dd',k0,k1,k2,k3,k5,mN,hC,hN,hni,T,_⟩:=qhw X Z.exc;obtain ⟨hh,g,d,t,os⟩:=s;exact zajx X Z hC T h1 h2 k
end
section
def clsV:V->Option Value
 | .ty n=>some (.type n)
 | .ref a=>some (.ref a)
 | _=>none
def zafj {v:V}{u u':Value} (r:RelV v u) (h:clsV v=some u'):u=u':=by
 cases v with
 | ty n=>cases h;exact r
 | ref a=>cases h;exact r
 | _=>cases h
def rIsX (K:Qd):List V->Hp->VK->Prop:=fun xs H Q => ∃ (C ea:Addr) (c:V) (u:Value) (b:Bool),xs=[.ref ea,c]/\H ea=some (qnv C ea)/\XCls K C/\clsV c=some u/\Ju K (.ref C) u=some b/\Q (.bl b) H
section
variable {X:Cx}
def zacv:CallR X (.builtin "isinstance") (rIsX X.K):=by
 intro pins s σ H xs us Q I r h;obtain ⟨C,ea,c,u,b,rfl,ha,Z,hc,e,q⟩:=h;obtain ⟨u1,u2,rfl,rx,rc⟩:=zacl r;cases rx;rw [zafj rc hc];obtain ⟨p,_,_⟩:=(show ObjOk X.prog X.w H s.heap ea (qnv C ea) from I.hok ea _ ha)
 exact Vx (zadp Z) I.kIn p e (fun z=>nomatch z) fun tk=>⟨.bl b,H,I.tok tk,rfl,q⟩
def wIsX (K:Qd) (j:Nat) (u:Value):WE:=fun env Q=>match gS env j with | .exc C=>XCls K C /\ ∃ b,Ju K (.ref C) u=some b/\Q (.bool b) env|_=>False
section
variable {y:Str}{c:Expr}{cs:List Expr}{v:V}{vs:List V}{u:Value}{us:List Value}{p py pt pos:Pos}{x1:Nat}
def zanb (j:Nat) (hm:X.mg "isinstance" = none) (hc:PE X c (tC v)) (hu:clsV v=some u) (hj:X.N[j]?=some y:=by rfl) (hv:Vis X.env.scope y:=by first|exact V1 rfl|exact Va (V1 rfl)|exact Va (Va rfl))
 (hg:Gl X "isinstance":=by rfl) (hd:Nd0 y:=by decide) (hcd:Nd1 y:=by decide)
 (hs:Qu [.Name y py,c] X.env=(false,eval (.Name y py) X.env)::Qu [c] X.env:=by rfl) (hs2:Qu [c] X.env=(false,eval c X.env)::Qu [] X.env:=by rfl) (hpl:(Ja pos (Qu [c] X.env)).any (·.1)=false:=by rfl) :
 VE X (.Call (.Name "isinstance" p) [.Name y py,c] [] pos) (wIsX X.K j u) :=
 (qju zacv hg hm qgh (qav (qey hj hv hd hcd) (qav hc qeu hs2) hs) (by decide) (by decide) hs hpl).imp fun σ H R xx154=>by
  obtain ⟨M,env,F,Q,I,h,k⟩:=xx154;have S:=I.slot j;unfold wIsX at h;cases q:gS env j with
  | exc C =>
   rw [q] at S h;obtain ⟨ea,e,z⟩:=S;obtain ⟨Z,b,hb,h⟩:=h;exact ⟨_,qed e,C,ea,v,u,b,rfl,I.fh.at z,Z,hu,hb,k _ _ F H env I (.refl _) (qfd _) h⟩
  | non=>rw [q] at h;exact h.elim
  | obj a0 C nm fs=>rw [q] at h;exact h.elim
  | val d=>rw [q] at h;exact h.elim
  | own ds=>rw [q] at h;exact h.elim
  | pen ds=>rw [q] at h;exact h.elim
  | new d=>rw [q] at h;exact h.elim
end
end
end
section
section
variable {prog:Zi}{w:World}{A:Zw}{E:Value->Qk->Prop}{s:Qk}
end
end
section
section
variable {X:Cx}{pins:List (Addr×Obj)}{σ:St}{H:Hp}{s:Qk}{b:Bool}{a:Addr}{xs ys:List V}
end
section
variable {X:Cx}{elts:List Expr}{x1:Nat}{tpos:Pos}
end
section
variable {X:Cx}{a b:Expr}{p pos:Pos}{elts:List Expr}{x1:Nat}{tpos:Pos}
end
end
section
section
variable {X:Cx}
end
end
section
section
variable {X:Cx}{e:Expr}{W:WF}{We:WE}{pos:Pos}
end
end
section
section
variable {prog:Zi}{w:World}{A:Zw}{E:Value->Qk->Prop}{s:Qk}
def zaaq {t sl:Addr}{us:Array Value}{vl vu:Value}{lo hi:Option Int}{Q:Value->Qk->Prop} (ht:IsTup s.heap t us) (hs:s.heap.IsSliceOf sl vl vu .none) (pl:Qhg vl lo) (pu:Qhg vu hi)
 (hw:HT.sIx us.size 0 lo=0/\HT.sIx us.size us.size hi=us.size) (h:Q (.ref t) s):wpAny (model prog w) A (Qib (.ref t) (.ref sl)) Q E s:=by
  obtain ⟨ob,o1,o2,o3⟩:=id hs;have ts:s.TypeIs (.ref sl) "slice":=⟨ob,o1,o2⟩
  have tt:s.TypeIs (.ref t) "tuple" := ht.typeIs;unfold Qib
  try with_reducible refine Qbm ?_
  first|refine Qj (Q1 ?_)|skip
  refine Qj (wpAny_sequenceKey tt (by decide) ?_);refine Qj (Js (name:=Qq "__getitem__") tt Ya (V0 Ya tt PyProof.Rows.entry_tuple_getitem ?_ (PyProof.Rows.args_tuple_getitem _ _)));show wpAny _ _ (Qdj (.ref t) >>= _) _ _ s;refine Qj (tupleItemsOf_ ht ?_);refine Qj (Qil ts ?_);rw [if_pos (show (Qdy "slice" == Qdy "slice")=true by decide)];refine Qj (HT.sliceApplied_gen hs pl pu ?_);have yes:(((HT.sIx us.size 0 lo:Nat):Int)==0&&(1:Int)==1&&(HT.sIx us.size us.size hi-HT.sIx us.size 0 lo)==us.size)=true:=by
   rw [hw.1,hw.2];simp
  show wpAny _ _ (if (((HT.sIx us.size 0 lo:Nat):Int)==0&&(1:Int)==1&&(HT.sIx us.size us.size hi-HT.sIx us.size 0 lo)==us.size)=true then _ else _) _ _ s;rw [if_pos yes];refine Qj (m:=Qdk _) ?_;unfold Qdk;refine Qj (Qil tt (Q1 ?_));rw [if_pos (show (Qdy "tuple" == Qdy "tuple")=true by decide)];exact Qj (Qid (Q1 ⟨_,rfl,Q1 h⟩))
end
section
variable {X:Cx}
def zaoy (K:Qd):V->Option Int->Option Int->Hp->VK->Prop:=fun x lo hi H Q => ∃ a xs,x = .ref a/\SqT K H a xs /\
 ((HT.sIx xs.length 0 lo=0/\HT.sIx xs.length xs.length hi=xs.length)->Q (.ref a) H)/\(¬ (HT.sIx xs.length 0 lo=0/\HT.sIx xs.length xs.length hi=xs.length) -> ∀ p,H p=none->Q (.ref p) (upd H p (.tup (qqq xs lo hi))))
def zahg:SlR X (zaoy X.K):=by
 intro pins s σ H x v vl vu lo hi sl Q I rx hs pl pu h;obtain ⟨a,xs,rfl,hx,q1,q2⟩:=h;by_cases hw:HT.sIx xs.length 0 lo=0/\HT.sIx xs.length xs.length hi=xs.length
 ·cases rx;obtain ⟨its,r,ht,hz⟩:=I.tuple hx;have hlen:its.toArray.size=xs.length:=by rw [Qz];exact r.length.symm
  refine ⟨"tuple",_,Ya.lookup,ht.typeIs,?_⟩;exact zaaq ht hs pl pu (by rw [hlen];exact hw) ⟨.ref a,H,I,rfl,q1 hw⟩
 ·exact zanq pins s σ H _ v vl vu lo hi sl Q I rx hs pl pu ⟨a,xs,rfl,hx,hw,q2 hw⟩
def qwh {α:Type}{l:List α}{lo hi:Option Int} (h:HT.sIx l.length 0 lo=0/\HT.sIx l.length l.length hi=l.length):qqx l lo hi=l:=by
 unfold qqx;rw [h.1,h.2];simp
def wSlA (Wa:WE) (Wl Wh:WO):WE:=fun env Q=>Wa env fun d e1=>Wl e1 fun lo e2=>Wh e2 fun hi e3=>match d with
 | .tuple l => ∀ r,r=qqx l lo hi->Q (.tuple r) e3
 | _=>False
def qkk {a:Expr}{Wa:WE}{p2 pos:Pos}{lo hi:Option Expr}{Wl Wh:WO} (he:VE X a Wa) (hl:VO X lo Wl) (hu:VO X hi Wh):VE X (.Subscript a (.Slice lo hi none p2) pos) (wSlA Wa Wl Wh) :=
 (qwa zahg he hl hu).imp fun σ H R xx155=>by
  obtain ⟨M,env,F,Q,I,h,k⟩:=xx155;refine ⟨M,env,F,_,I,h,fun d v F1 H1 e1 I1 s1 i1 h1=>⟨M,e1,F1,_,I1,h1,fun lo F2 H2 e2 I2 s2 h2=>⟨M,e2,F2,_,I2,h2,fun hi F3 H3 e3 I3 s3 h3=>?_⟩⟩⟩;cases d with
  | tuple l =>
   have i3:=i1.mono (s2.trans s3);obtain ⟨a,xs,rfl,hs,hr⟩:=i3.tup_inv;refine ⟨a,xs,rfl,qX I3.fh hs,fun hw=>?_,fun _ p hp=>?_⟩
   ·rw [hr.len] at hw;have e:=h3 _ rfl;rw [qwh hw] at e;exact k _ _ F3 H3 e3 I3 (s1.trans (s2.trans s3)) i3 e
   ·have g:=Go.put (o:=HO.tup (qqq xs lo hi)) I3.fh hp;exact k _ _ _ _ e3 (I3.go g) ((s1.trans (s2.trans s3)).trans g.f) (qpf (SqT.of qp) ((qzk hr lo hi).mono g.f)) (h3 _ rfl)
  | _=>exact Zc h3
end
end
section
section
variable {X:Cx}{a b c d:Expr}{pos:Pos}{ta tb tc td:TE}
variable {Wa Wb Wc Wd:WE}
end
end
section
def qst (ix:List Nat) (k:Nat) (wi:TI) (g:TG) (tt:TT) (te:TE):TE:=fun σ H Q=>wi σ H fun J H1 => ∃ W:Nat->Nat->List V->St->Hp->Prop,(∃ m,W 0 m [] (qqe ix k σ) H1) /\ ∀ i m ys σ1 H2,W i m ys σ1 H2 ->
 (J.stop i H2/\ys.length<=Zb /\ ∀ p,H2 p=none->Q (.ref p) (upd H2 p (.lst ys))) \/
 (J.go i H2/\ys.length<Zb /\ ∃ (N:V->St->Hp->Prop) (N0:St->Hp->Prop),(∀ y σ2 H5,N y σ2 H5 -> ∃ m',m'<m/\W (i+1) m' (ys++[y]) σ2 H5)/\(∀ σ2 H5,N0 σ2 H5 -> ∃ m',m'<m/\W (i+1) m' ys σ2 H5) /\
  ∀ x H3,J.yld i H2 x H3->g x σ1 H3 fun σ2 H4=>tt σ2 H4 fun b H5=>match b with|true=>te σ2 H5 fun y H6=>N y σ2 H6|false=>N0 σ2 H5)
def qdm {prog:Zi}{w:World}{A:Zw}{R:Result->Qk->Prop}{s:Qk}{elt target iter cnd:Expr}{scope:Scope}{pos:Pos}{it acc:Value}{env:Env} (I:Nat->Qk->Prop)
 (turn : ∀ n s,I n s->wpAny (model prog w) A (Qik it) (fun r s₁=>match r with
  | none=>R (.ok .next) s₁
  | some v=>wpAny (model prog w) A (J9 target it v) (fun _ s₁'=>wpAny (model prog w) A (Qgi target env v) (fun _ s₂=>wpAny (model prog w) A (Qjs cnd env (eval cnd env)) (fun b s₂'=>match b with
   | true=>wpAny (model prog w) A (eval elt env) (fun x s₃ =>
    wpAny (model prog w) A (call (.builtin "list.append") [acc,x]) (fun _ s₄ => ∃ m,m<n/\I m s₄) (Qaj (model prog w) A env fun e s'=>R (.error e) s') s₃)
    (Qaj (model prog w) A env fun e s'=>R (.error e) s') s₂'
   | false => ∃ m,m<n/\I m s₂') (Qaj (model prog w) A env fun e s'=>R (.error e) s') s₂) (Qaj (model prog w) A env fun e s'=>R (.error e) s') s₁') (Qaj (model prog w) A env fun e s'=>R (.error e) s') s₁) (Qaj (model prog w) A env fun e s'=>R (.error e) s') s)
  (n:Nat) (h:I n s):Qbz (model prog w) A (.compLoop (.ListComp elt [⟨target,iter,[cnd],0⟩] scope pos) 0 it acc env) R s:=by
  refine codeAny_loop rfl I (fun n s hI=>?_) n h;show wpAny _ _ ((compTurn (.ListComp elt [⟨target,iter,[cnd],0⟩] scope pos) 0 it acc env).onRaise (fun x=>do noteFrame x env;theTreesLotGoes x)) _ _ s;refine wpAny_noted (?_:_);rw [compTurn_list];refine Qj (Qhn (Qj (Z4 (turn n s hI) (fun r s₁ h₁=>?_) fun _ _ z=>z)));cases r with
  | none=>exact Q1 h₁
  | some v =>
   refine Qj (Z4 h₁ (fun _ s₁' h₁'=>Qj (Z4 h₁' (fun _ s₂ h₂=>?_) fun _ _ z=>z)) fun _ _ z=>z);refine Qj (wpAny_tests_one (Z4 h₂ (fun b s₂' hb=>?_) fun _ _ z=>z));cases b with
   | true =>
    refine Qj (Qj (Z4 hb (fun x s₃ h₃=>Qj (Z4 h₃ (fun _ s₄ h₄=>Q1 (Q1 ⟨rfl,h₄⟩)) fun _ _ z=>z)) fun _ _ z=>z))
   | false=>exact Qj (Q1 (Q1 ⟨rfl,hb⟩))
section
variable {X:Cx}{elt target iter cnd:Expr}{scope:Scope}{pos:Pos}{caps own:List Str}{ix:List Nat}{wi:TI}{g:TG}{te:TE}{tt:TT}
def zabk (hc:X.calm=true) (S:CompScope X.env scope caps) (hi:PI X target iter wi)
 (hg : ∀ pins s3 H ex,PG (blk X pins scope (caps++own) s3 H ex) target g)
 (he : ∀ pins s3 H ex,PE (blk X pins scope (caps++own) s3 H ex) elt te)
 (ht : ∀ pins s3 H ex,PT (blk X pins scope (caps++own) s3 H ex) cnd tt)
 (hix:caps.length=ix.length:=by rfl) (hcapB:(caps.zip ix).all (fun p=>X.N[p.2]?==some p.1)=true:=by rfl)
  (hs : ∀ x,Yb iter X.env x=pure x:=by intro _;rfl):PE X (.ListComp elt [⟨target,iter,[cnd],0⟩] scope pos) (qst ix own.length wi g tt te):=by
  intro pins s σ H Q I h;rw [eval_ListComp];refine qkq (cs:=[cnd]) (tt:=tt) (Tst:=fun env P E s=>wpAny (model X.prog X.w) X.A (Qjs cnd env (eval cnd env)) P E s) (fun J turn n h=>qdm J turn n h) (use:=none) (Q0:=EP X pins σ Q) hc S hi hg he (fun pins s3 H ex pins' s σ H' Qb P E I q k=>Z4 (ht pins s3 H ex pins' s σ H' Qb I q) (fun b s' z=>?_) fun _ _ z=>z.elim) hix hcapB hs I h (fun J H1 z=>z) fun D C s6 H6 m6 ns6 IX c1 c2 c3 c4 c5 c6 q=>⟨m6,ns6,fun h' sb=>⟨.ref D,H6,IX.turned (t':=s6.toks) (it:=C) (fun b o hb q=>sb.extBut b o hb q) c1 c2 c4 c5 c6,rfl,q⟩⟩
  obtain ⟨H'',I'',q''⟩:=z;exact k b s' H'' I'' q''
def qnz (ix:List Nat) (k:Nat) (Wi:WF) (G:WG) (Wt:WT) (We:WE):WF:=fun env Q=>Wi env fun ds e0=>ds.length<Zb /\ ∃ P:Nat->List Qh->Sto->Prop,P 0 [] (qvi ix k e0) /\
 (∀ i d ys e,ds[i]?=some d->P i ys e->G d e fun e1=>Wt e1 fun b e2=>if b=true then We e2 fun y e3=>P (i+1) (ys++[y]) e3 else P (i+1) ys e2) /\ ∀ ys e,P ds.length ys e->Q ys e0
section
variable {K:Qd}{ix:List Nat}{n:Nat}{Wi:WF}{G:WG}{Wt:WT}{We:WE}{σ:St}{H:Hp}{R:VK}
def qgo (h:zacb K (qnz ix n Wi G Wt We) σ H R):qst ix n (qte K Wi) (qpx K G) (qnt K Wt) (qbw K We) σ H R:=by
 obtain ⟨M,env,F,Q,I,h,k⟩:=h;refine ⟨M,env,F,_,I,h,fun ds J F1 H1 e1 I1 s1 jt xx158=>?_⟩;obtain ⟨hz,P,p0,turn,fin⟩:=xx158;refine ⟨fun i m ys σ1 H'=>m=ds.length-i/\i<=ds.length /\ ∃ e' F' l,EnvOk K ⟨H1,H1,F1⟩ F' H' e' σ1/\Iss K F' l ys/\ys.length<=i/\P i l e',⟨ds.length,by simp,Vg _,qvi ix n e1,F1,[],I1.cap ix n,qay,Qr _,p0⟩,?_⟩;rintro i m ys σ1 H2 ⟨hm,hi,e2,F2,l,I2,i2,hl,p2⟩;have g2:=I2.goOf;by_cases he:i=ds.length
 ·subst he;exact .inl ⟨jt.stop H2 (g2.f.trans g2.fh),by omega,qkb (I1.go g2) (s1.trans g2.f) i2 (fin l e2 p2) k⟩
 ·have hlt:i<ds.length:=by omega
  refine .inr ⟨jt.go i H2 (g2.f.trans g2.fh) hlt,by omega,fun y σ' H' => ∃ e' F' l',EnvOk K ⟨H1,H1,F1⟩ F' H' e' σ'/\Iss K F' l' (ys++[y])/\P (i+1) l' e',fun σ' H' => ∃ e' F' l',EnvOk K ⟨H1,H1,F1⟩ F' H' e' σ'/\Iss K F' l' ys/\P (i+1) l' e',
   fun y σ' H' xx157=>by obtain ⟨e',F',l',I',i',p'⟩:=xx157;exact ⟨ds.length-(i+1),by omega,rfl,hlt,e',F',l',I',i',by simp;omega,p'⟩,fun σ' H' xx156=>by obtain ⟨e',F',l',I',i',p'⟩:=xx156;exact ⟨ds.length-(i+1),by omega,rfl,hlt,e',F',l',I',i',by omega,p'⟩,fun x H3 hy=>?_⟩
  obtain ⟨d,F3,hd,g,j⟩:=jt.yld i H2 x H3 F2 g2.f g2.fh hlt hy;refine ⟨_,e2,F3,d,_,I2.go g,j,turn i d l e2 hd p2,fun F4 H4 e4 σ4 I4 s4 h4=>⟨_,e4,F4,_,I4,h4,fun b F5 H5 e5 I5 s5 h5=>?_⟩⟩;cases b with
  | true =>
   rw [if_pos rfl] at h5;refine ⟨_,e5,F5,_,I5,h5,fun d6 v6 F6 H6 e6 I6 s6 i6 h6=>?_⟩;exact ⟨e6,F6,l++[d6],I6,qbn (((i2.mono (g.f.trans s4)).mono s5).mono s6) (qap i6 qay),h6⟩
  | false =>
   rw [if_neg Zx] at h5;exact ⟨e5,F5,l,I5,(i2.mono (g.f.trans s4)).mono s5,h5⟩
end
def zaca {elt target iter cnd:Expr}{scope:Scope}{pos:Pos}{caps own:List Str}{ix:List Nat}{Wi:WF}{G:WG}{Wt:WT}{We:WE} (hc:X.calm=true) (S:CompScope X.env scope caps) (hi:VI X target iter Wi)
 (hg : ∀ pins s3 H ex,VG (blk X pins scope (caps++own) s3 H ex) target G) (ht : ∀ pins s3 H ex,VT (blk X pins scope (caps++own) s3 H ex) cnd Wt)
 (he : ∀ pins s3 H ex,VE (blk X pins scope (caps++own) s3 H ex) elt We)
 (hix:caps.length=ix.length:=by rfl) (hcapB:(caps.zip ix).all (fun p=>X.N[p.2]?==some p.1)=true:=by rfl)
  (hs : ∀ x,Yb iter X.env x=pure x:=by intro _;rfl):VF X (.ListComp elt [⟨target,iter,[cnd],0⟩] scope pos) (qnz ix own.length Wi G Wt We) :=
  (zabk (g:=qpx X.K G) (tt:=qnt X.K Wt) (te:=qbw X.K We) hc S hi hg he ht hix hcapB hs).imp fun _ _ _ h=>qgo h
end
end
section
section
variable {X:Cx}
end
def iss_ints' {K:Qd}{F:Hp} : ∀ {ns:List Int}{xs:List V},Iss K F (ns.map Q2) xs->xs=ns.map V.int
 | [],_,h=>h.nil_inv
 | b::bs,_,h=>by obtain ⟨y,ys,rfl,p,q⟩:=h.cons_inv;rw [p.int_inv,iss_ints' q];rfl
section
variable {X:Cx}{e:Expr}{We:WE}{pos:Pos}
variable {x:Str}{px apos cpos:Pos}
end
end
section
section
variable {prog:Zi}{w:World}{A:Zw}{E:Value->Qk->Prop}{s:Qk}
end
section
variable {X:Cx}{elts:List Expr}{x1:Nat}{tpos:Pos}
end
section
variable {X:Cx}{a:Expr}{W:WE}{p pos:Pos}
variable {e1 e2:Expr}{W1 W2:WE}
end
end
section
section
variable {X:Cx}
def zabo (hc:X.calm=true):CallR X (.builtin "max") (fun xs H Q => ∃ (a:Addr) (ns:List Int),xs=[.ref a]/\SqL X.K H a (ns.map V.int)/\ns≠[] /\ ∀ M,M ∈ ns->(∀ x ∈ ns,x<=M)->Q (.int M) H):=by
 intro pins s σ H xs us Q I r h;obtain ⟨a,ns,rfl,ha,hn,q⟩:=h;obtain ⟨u,rfl,rx⟩:=qlq r;cases rx;obtain ⟨its,rv,pl,_⟩:=I.list ha;have ii:Qeq its ns:=qiq rv;obtain ⟨ys,ey⟩:=ii.allInts.items;have en:ns=ys.toList.map (·.1):=by rw [<- ii.numsOf,<- nums_intItems,<- ey]
 have ys0:0<ys.size:=by
  have z:=Qda.mpr hn;rw [en,Qe,Zf] at z;exact z
 have hl:=pl.isList;rw [ey] at hl;refine max_intList (I.ok.hd hc) hl ys0 fun v h' tk hv hk=>?_;obtain ⟨t,rfl⟩:=intItems_at hv;obtain ⟨_,h2⟩:=argBest_gt (numAt ys) (ys.size-1);refine ⟨.int _,H,I.kept (t':=tk) hk,⟨t,rfl⟩,q _ ?_ fun x hx=>?_⟩
 ·rw [en,numAt_eq];exact getD_mem (by rw [Qe,Zf];omega)
 ·rw [en] at hx;obtain ⟨j,hj,rfl⟩:=mem_getD hx;rw [Qe,Zf] at hj;rw [<- numAt_eq];exact h2 j (by omega)
def zaph:DC
 | [.list l],q => ∃ ns:List Int,l=ns.map .int/\ns≠[] /\ ∀ M,M ∈ ns->(∀ x ∈ ns,x<=M)->q (.int M)
 | _,_=>False
def zamy (hc:X.calm=true):qio X (.builtin "max") zaph:=(zabo hc).imp fun xs H Q xx159=>by
 obtain ⟨F,ds,q,s,i,h,k⟩:=xx159
 match ds,h,i with
 | [.list l],⟨ns,e,hn,hq⟩,i =>
  subst e;obtain ⟨v,rfl,j⟩:=qky i;obtain ⟨a,xs,rfl,hs,hr⟩:=j.lst_inv;have ex:=iss_ints' hr;subst ex;exact ⟨a,ns,rfl,s.seq hs,hn,fun M h1 h2=>k _ _ F H (.refl s) (qad _) (hq M h1 h2)⟩
end
end
section
section
variable {X:Cx}
end
end
section
section
variable {X:Cx}
end
section
variable {P:Zi}{w:World}{K:Qd}{mg:Str->Option Value}{base:Heap}
end
end
section
section
variable {X:Cx}{elt target iter cnd:Expr}{scope:Scope}{pos:Pos}{caps own:List Str}{ix:List Nat}{wi:TI}{g:TG}{te:TE}{tt:TT}
def qrd {i:Nat}{y:Str}{py spos:Pos} (hN:X.N.Nodup) (hiy:X.N[i]?=some y) (hy:X.env.scope.names.lookup y=some .local) (hsw:Qaa (.ListComp elt [⟨target,iter,[cnd],0⟩] scope pos) (some (.Name y py)) spos.line X.env=pure true) (hc:X.calm=true) (S:CompScope X.env scope caps) (hi:PI X target iter wi)
 (hg : ∀ pins s3 H ex,PG (blk X pins scope (caps++own) s3 H ex) target g)
 (he : ∀ pins s3 H ex,PE (blk X pins scope (caps++own) s3 H ex) elt te)
 (ht : ∀ pins s3 H ex,PT (blk X pins scope (caps++own) s3 H ex) cnd tt)
 (hix:caps.length=ix.length:=by rfl) (hcapB:(caps.zip ix).all (fun p=>X.N[p.2]?==some p.1)=true:=by rfl)
  (hs : ∀ x,Yb iter X.env x=pure x:=by intro _;rfl):PS X (.Assign [.Name y py] (.ListComp elt [⟨target,iter,[cnd],0⟩] scope pos) spos) (tAsg (qst ix own.length wi g tt te) (zack i)):=by
  intro pins s σ H D I h;rw [exec_Assign_Name_used _ _ _ _ hsw];refine Qj (Qhn (Qj ?_));show wpAny _ _ (do let _ <- Qhj (.ListComp elt [⟨target,iter,[cnd],0⟩] scope pos) scope X.env _ (newList []) false (eval iter X.env) (some (Qgi (.Name y py) X.env))) _ _ s;refine Qj (thn (qkq (cs:=[cnd]) (tt:=tt) (Tst:=fun env P E s=>wpAny (model X.prog X.w) X.A (Qjs cnd env (eval cnd env)) P E s) (fun J turn n h=>qdm J turn n h) (use:=some (Qgi (.Name y py) X.env)) (Q0:=fun _ s'=>SP X pins D .next s') (Qv:=fun x H1=>zack i x σ H1 D.nx) hc S hi hg he
   (fun pins s3 H ex pins' s σ H' Qb P E I q k=>Z4 (ht pins s3 H ex pins' s σ H' Qb I q) (fun b s' z=>by obtain ⟨H'',I'',q''⟩:=z;exact k b s' H'' I'' q'') fun _ _ z=>z.elim) hix hcapB hs I h (fun J H1 z=>z) fun D' C s6 H6 m6 ns6 IX c1 c2 c3 c4 c5 c6 q=>?_) (fun _ s' hq=>Q1 (Q1 hq)))
  obtain ⟨oC,esC,epC,hoC,hdC,rC⟩:=id ns6;have IX':Inv X (pins++[(C,oC)]) σ H6 s6:=IX.pins_of fun p hp=>by
   rcases Zd.mp hp with z|z
   ·exact IX.pin p (Q4 _ z)
   ·rw [Qp.mp z];exact ⟨hoC,c1,c2,c3,fun v q=>by rw [hdC] at q;cases q⟩
  show wpAny _ _ (Qgi (.Name y py) X.env (.ref D')) _ _ _;refine wpAny_assign_Name (qgu IX' hN hiy (V1 hy) (v :=.ref D') rfl (fun s7 I7=>?_) (.inr hy));have gC:s7.heap.get? C=some oC:=(I7.pin (C,oC) (Q4 _ (Q4 _ (Qp.mpr rfl)))).1;refine ⟨m6,⟨oC,esC,epC,gC,hdC,rC⟩,fun h' sb=>?_⟩;exact ⟨_,_,I7.unpinned.turned (t':=s7.toks) (it:=C) (fun b o hb q=>sb.extBut b o hb q) c1 c2 c4 c5 c6,q⟩
end
section
variable {X:Cx}{elt target iter cnd:Expr}{scope:Scope}{pos py spos:Pos}{caps own:List Str}{ix:List Nat}{Wi:WF}{G:WG}{Wt:WT}{We:WE}{i:Nat}{y:Str}
def qrg (hN:X.N.Nodup) (hc:X.calm=true) (S:CompScope X.env scope caps) (hi:VI X target iter Wi) (hg : ∀ pins s3 H ex,VG (blk X pins scope (caps++own) s3 H ex) target G) (ht : ∀ pins s3 H ex,VT (blk X pins scope (caps++own) s3 H ex) cnd Wt) (he : ∀ pins s3 H ex,VE (blk X pins scope (caps++own) s3 H ex) elt We)
 (hiy:X.N[i]?=some y:=by rfl) (hy:X.env.scope.names.lookup y=some .local:=by rfl) (hsw:Qaa (.ListComp elt [⟨target,iter,[cnd],0⟩] scope pos) (some (.Name y py)) spos.line X.env=pure true:=by rfl)
  (hix:caps.length=ix.length:=by rfl) (hcapB:(caps.zip ix).all (fun p=>X.N[p.2]?==some p.1)=true:=by rfl) (hs : ∀ x,Yb iter X.env x=pure x:=by intro _;rfl) :
  VS X (.Assign [.Name y py] (.ListComp elt [⟨target,iter,[cnd],0⟩] scope pos) spos) (wSet i (wL (qnz ix own.length Wi G Wt We))) :=
  (qrd (wi:=qte X.K Wi) (g:=qpx X.K G) (tt:=qnt X.K Wt) (te:=qbw X.K We) hN hiy hy hsw hc S hi hg he ht hix hcapB hs).imp fun D σ H ⟨M,env,F,DD,I,h,k⟩=>qgo ⟨M,env,F,_,I,h,fun a vs ds F1 H1 e1 I1 s1 h1 h2 h3 h4 h5 h6 h7=>by
   obtain ⟨J,s⟩:=I1.frz h1 h2 h4 h5;exact k.nx _ _ H1 _ (J.setv (qfj (SqL.of qp) (h6.mono s))) (s1.trans s) h7⟩
end
end
section
section
variable {κ:Type} [DecidableEq κ]
def qmo (kvs:List (κ×V)) (k:κ):Option V:=(kvs.find? fun kv=>decide (kv.1=k)).map (·.2)
def quv (kvs:List (κ×V)) (k:κ) (v:V):List (κ×V) :=
 if (kvs.any fun kv=>decide (kv.1=k))=true then kvs.map (fun kv=>if kv.1=k then (kv.1,v) else kv) else kvs++[(k,v)]
def qom {p:κ×V}{r:List (κ×V)}{k:κ} (e:p.1=k):qmo (p::r) k=some p.2:=by simp [qmo,Qdb,e]
def qor {p:κ×V}{r:List (κ×V)}{k:κ} (e : ¬ p.1=k):qmo (p::r) k=qmo r k:=by simp [qmo,Qdb,e]
def qok (k:κ) : ∀ kvs:List (κ×V),(kvs.any fun kv=>decide (kv.1=k))=(qmo kvs k).isSome
 | []=>rfl
 | p::r=>by
  rw [Qbe];by_cases e:p.1=k
  ·simp only [qom e,decide_eq_true e,Bool.true_or,Qgz]
  ·rw [qor e,decide_eq_false e,Qjv];exact qok k r
def qub (kvs:List (κ×V)) (k:κ) (v:V):(quv kvs k v).length<=kvs.length+1:=by
 unfold quv;split
 ·rw [Qe];omega
 ·rw [Yk,Zk,Ji];omega
def zaeo {kvs:List (κ×V)}{k:κ} (v:V) (h:qmo kvs k=none):quv kvs k v=kvs++[(k,v)]:=by
 unfold quv;rw [qok,h];exact if_neg (by decide)
def RelO.isSome_eq {o:Option V}{u:Option Value} (r:RelO o u):o.isSome=u.isSome:=by
 cases o with
 | none=>cases u with
  | none=>rfl
  | some _=>exact (show False from r).elim
 | some _=>cases u with
  | none=>exact (show False from r).elim
  | some _=>rfl
end
def zapt {P:Zi}{w:World}{k:Key}{u:Value} (r:RelV (kV k) u):(qby P w).is k u=true:=by
 cases k with
 | inl i=>obtain ⟨t,e⟩:=(show ∃ t,u=Qgr i t from r);subst e;exact quo P w i t
 | inr x=>obtain ⟨t,e⟩:=(show ∃ t,u=Qkb x t from r);subst e;exact qtz P w x t
def qqf {P:Zi}{w:World} : ∀ {ks:List Key}{us:List Value},Vals (ks.map kV) us->ItemsAre (qby P w) ks us
 | [],_,r=>by rw [Jk] at r;cases r;exact .nil
 | k::ks,_,r=>by
  rw [Qt] at r;cases r with
  | cons h t=>exact .cons (zapt h) (qqf t)
abbrev KT (H:Hp):List (List Key×V)->List (List Key×Addr×Value)->Prop:=Paired fun p q=>p.1=q.1/\H q.2.1=some (.tup (p.1.map kV))/\RelV p.2 q.2.2
def KT.val {H:Hp}{kvs:List (List Key×V)}{xs:List (List Key×Addr×Value)} (r:KT H kvs xs) (k:List Key):RelO (qmo kvs k) ((atKey xs k).map (·.2)):=by
 induction r with
 | nil=>exact Qbu
 | @cons p q ps qs h t ih =>
  obtain ⟨h1,_,h2⟩:=h;by_cases e:p.1=k
  ·have e':q.1=k:=h1.symm.trans e;have b:atKey (q::qs) k=some q.2:=by simp [atKey,Qdb,e']
   rw [qom e,b];exact h2
  ·have e' : ¬ q.1=k:=fun z=>e (h1.trans z);have b:atKey (q::qs) k=atKey qs k:=by simp [atKey,Qdb,e']
   rw [qor e,b];exact ih
def KT.repl {H:Hp}{kvs:List (List Key×V)}{xs:List (List Key×Addr×Value)} (r:KT H kvs xs) (k:List Key) {y:V}{u:Value} (ry:RelV y u) :
 KT H (kvs.map fun kv=>if kv.1=k then (kv.1,y) else kv) (xs.map (putAt k u)):=by
  induction r with
  | nil=>exact .nil
  | @cons p q ps qs h t ih =>
   rw [Qt,Qt];refine .cons ?_ ih;obtain ⟨h1,h2,h3⟩:=h;unfold putAt;by_cases e:p.1=k
   ·rw [if_pos e,if_pos (h1.symm.trans e)];exact ⟨h1,h2,ry⟩
   ·rw [if_neg e,if_neg (fun z=>e (h1.trans z))];exact ⟨h1,h2,h3⟩
def KT.put {H:Hp}{kvs:List (List Key×V)}{xs:List (List Key×Addr×Value)} (r:KT H kvs xs) (k:List Key) {b:Addr}{y:V}{u:Value} (hb:H b=some (.tup (k.map kV))) (ry:RelV y u) :
 KT H (quv kvs k y) (storedH xs k b u):=by
  have e:(kvs.any fun kv=>decide (kv.1=k))=(atKey xs k).isSome:=by
   rw [qok,(r.val k).isSome_eq,Option.isSome_map]
  unfold quv storedH;rw [e];by_cases q:(atKey xs k).isSome=true
  ·rw [if_pos q,if_pos q];exact r.repl k ry
  ·rw [if_neg q,if_neg q];exact Paired.snoc r ⟨rfl,hb,ry⟩
def KT.keeps {H H':Hp}{kvs:List (List Key×V)}{xs:List (List Key×Addr×Value)} (r:KT H kvs xs) (ht : ∀ b ys,H b=some (.tup ys)->H' b=some (.tup ys)):KT H' kvs xs :=
 Paired.mapP r fun _ _ z=>⟨z.1,ht _ _ z.2.1,z.2.2⟩
section
variable {P:Zi}{w:World}{H:Hp}{h:Heap}{a:Addr}
def zalc {u:HO} (ok:HOk P w H h) (e:Rd H a u):ObjOk P w H h a u:=e.ok ok
def zaqe {kvs:List (Key×V)} (ok:HOk P w H h) (e:Rd H a (.dK kvs)):kvs.length<=Zb/\(a==Qah)=false /\ ∃ vs,KV kvs vs/\h.DictOf (qby P w) a vs :=
 show ObjOk P w H h a (.dK kvs) from zalc ok e
def zagc {ks:List Key} (ok:HOk P w H h) (e:H a=some (.tup (ks.map kV))):(Qfv (qby P w)).is h ks a:=by
 obtain ⟨_,its,r,o,h1,h2,n,h3⟩:=(show ObjOk P w H h a (.tup (ks.map kV)) from ok a _ e)
 exact ⟨o,its.toArray,n,h1,h2,h3,by simpa using qqf r⟩
def zala {kvs:List (List Key×V)} (ok:HOk P w H h) (e:Rd H a (.dT kvs)):kvs.length<=Zb/\(a==Qah)=false /\
 ∃ xs,KT H kvs xs/\h.DictOfH (Qfv (qby P w)) a xs:=by
  obtain ⟨z,y,xs,r,o,es,ep,h1,h2,h3,h4,h5⟩:=(show ObjOk P w H h a (.dT kvs) from zalc ok e)
  refine ⟨z,y,xs,r,o,es,ep,h1,h2,h3,h4,fun x hx=>?_,h5⟩;have all : ∀ {l:List (List Key×V)}{m:List (List Key×Addr×Value)},KT H l m -> ∀ x ∈ m,(Qfv (qby P w)).is h x.1 x.2.1:=by
   intro l m q
   induction q with
   | nil=>intro x hx;exact nomatch hx
   | @cons p q ps qs hq t ih =>
    intro x hx;rcases Qs.mp hx with e|hx
    ·subst e;exact zagc ok (by rw [<- hq.1];exact hq.2.1)
    ·exact ih x hx
  exact all r x hx
def zaha {kvs:List (List Key×V)} (ok:HOk P w H h) (e:H a=some (.dT kvs)):kvs.length<=Zb/\(a==Qah)=false /\
 ∃ xs,KT H kvs xs/\h.DictOfH (Qfv (qby P w)) a xs:=zala ok (.inl e)
end
section
variable {X:Cx}{pins:List (Addr×Obj)}{σ:St}{H:Hp}{s:Qk}{a:Addr}{y v:V}{u r:Value}{o:Option V}{A:Zw}{E:Value->Qk->Prop}
def Inv.big (I:Inv X pins σ H s):Qah<s.heap.objs.size:=by
 have h:Zh<s.heap.objs.size:=(I.mod.glob.keeps I.bk).lt;exact Ym (by decide) h
def zajz {h':Heap}{t':Nat}{ob:HO} (I:Inv X pins σ H s) (mu:Mut (H a)) (hs:Qay a s.heap h') (he : ∃ q,h'.get? a=some q) (new:ObjOk X.prog X.w (upd H a ob) h' a ob) :
 Inv X pins σ (upd H a ob) { s with heap:=h',toks:=t' } :=
  I.write (x:=a) (e:=a) mu (.inl rfl) (fun b q hb z=>(hs.2 b hb).trans z) he new
end
section
variable {X:Cx}{pins:List (Addr×Obj)}{σ:St}{H:Hp}{s:Qk}{a:Addr}{kvs:List (Key×V)}{k:Key}{u:Value}{A:Zw}{E:Value->Qk->Prop}
end
section
variable {X:Cx}{o i e value:Expr}{pos pos' tpos:Pos}{td ty tv:TE}
end
def zaea {P:Zi}{w:World}{H:Hp} (h:Heap) (hb:Qah<h.objs.size):ObjOk P w H (h.push { cls :=.type "dict",data :=.dict #[] }) h.objs.size (.dT []) :=
 ⟨Vg _,beq_eq_false_iff_ne.mpr (V7 (Za hb)),[],.nil,_,#[],0,Q8 _ rfl,⟨rfl,rfl,rfl⟩,rfl,rfl,Qds⟩
def zant:TE:=fun _ H Q => ∀ p,H p=none->Q (.ref p) (upd H p (.dT []))
section
variable {X:Cx}{pos:Pos}
def zaes:PE X (.Dict [] [] pos) zant:=fun pins s σ H Q I h =>
 wpAny_Dict_empty ⟨.ref s.heap.objs.size,_,I.laid (a:=s.heap.objs.size) (o :=.dT []) (t':=s.toks) (fun _ _ q=>Qo _ q) (Qr _) (zaea s.heap I.big),rfl,h _ (I.hok.fresh (Qr _))⟩
end
structure M2 (X:Cx) (o:Expr) (m:Str) (apos:Pos) (e f:Expr) (cpos:Pos):Prop where
 base:Qcw o m X.env (eval o X.env)=eval o X.env
 few:((Ja cpos (Qu [e,f] X.env)).all (fun x => !x.1)&&(Qiu cpos (Qer [] X.env)).all (fun x=>x.1.isSome)
  && decide (([e,f]:List Expr).length+([]:List Qdx).length+(if ([]:List Qdx).isEmpty then 0 else 1)<30))=true
 line:(apos.endLine==cpos.line)=true
 trees:Ja cpos (Qu [e,f] X.env)=[(false,eval e X.env),(false,eval f X.env)]
def IsD (H:Hp) (a:Addr):Prop:=(∃ kvs,Rd H a (.dK kvs)) \/ ∃ kvs,Rd H a (.dT kvs)
def zago {X:Cx}{pins:List (Addr×Obj)}{σ:St}{H:Hp}{s:Qk}{a:Addr} (I:Inv X pins σ H s) (d:IsD H a) :
 s.TypeIs (.ref a) "dict" /\ (∀ b,Vw a = .ref b -> ∃ ob,s.heap.get? b=some ob/\ob.dict=none)/\(a==Qah)=false:=by
  rcases d with ⟨kvs,e⟩|⟨kvs,e⟩
  ·obtain ⟨_,hd,vs,_,dd⟩:=zaqe I.hok e;refine ⟨dd.typeIs,fun b q=>?_,hd⟩;cases q;obtain ⟨ob,_,_,h1,h2,_⟩:=dd;exact ⟨ob,h1,h2.2.1⟩
  ·obtain ⟨_,hd,xs,_,dd⟩:=zala I.hok e;refine ⟨dd.typeIs,fun b q=>?_,hd⟩;cases q;obtain ⟨ob,_,_,h1,h2,_⟩:=dd;exact ⟨ob,h1,h2.2.1⟩
section
variable {X:Cx}{pins:List (Addr×Obj)}{σ:St}{H:Hp}{s:Qk}{a:Addr}{y d:V}{u r:Value}{o:Option V}{A:Zw}{E:Value->Qk->Prop}
end
section
variable {X:Cx}{o e f:Expr}{apos cpos:Pos}{td ty tx:TE}
end
end
section
section
variable {X:Cx}
end
end
section
section
variable {P:Zi}{w:World}{K:Qd}{mg:Str->Option Value}{base:Heap}
end
section
variable {X:Cx}
end
end
section
section
variable {X:Cx}
def VE.pe {e:Expr}{W:WE} (h:VE X e W):PE X e (qbw X.K W):=h
def VT.pt {e:Expr}{W:WT} (h:VT X e W):PT X e (qnt X.K W):=h
end
mutual
def qtn:Qh->Bool
 | .list _=>false
 | .dict _=>false
 | .tuple l=>qph l
 | _=>true
def qph:List Qh->Bool
 | []=>true
 | d::l=>qtn d&&qph l
end
mutual
def Is.off {K:Qd}{F:Hp}{a:Addr}{xs:List V} (hF:F a=some (.lst xs)) : ∀ {d:Qh}{v:V},qtn d=true->Is K F d v->Is K (qqn F a) d v
 | .none,_,_,h=>by unfold Is at h ⊢;exact h
 | .bool _,_,_,h=>by unfold Is at h ⊢;exact h
 | .int _,_,_,h=>by unfold Is at h ⊢;exact h
 | .str _,_,_,h=>by unfold Is at h ⊢;exact h
 | .list l,_,z,h=>by simp [qtn] at z
 | .dict l,_,z,h=>by simp [qtn] at z
 | .tuple l,_,z,h=>by
  unfold Is at h ⊢;obtain ⟨b,ys,e,q,r⟩:=h;refine ⟨b,ys,e,?_,Iss.off hF (by simpa [qtn] using z) r⟩;rcases q with q|q
  ·refine .inl ?_;rcases q with q|⟨o,q⟩
   ·refine .inl ?_;unfold qqn;rw [if_neg (fun y=>by subst y;rw [hF] at q;cases q)];exact q
   ·refine .inr ⟨o,?_⟩;unfold qqn;rw [if_neg (fun y=>by subst y;rw [hF] at q;cases q)];exact q
  ·exact .inr q
def Iss.off {K:Qd}{F:Hp}{a:Addr}{xs:List V} (hF:F a=some (.lst xs)) : ∀ {l:List Qh}{vs:List V},qph l=true->Iss K F l vs->Iss K (qqn F a) l vs
 | [],_,_,h=>by unfold Iss at h ⊢;exact h
 | d::l,_,z,h=>by
  unfold Iss at h ⊢;obtain ⟨x,r,e,p,q⟩:=h;have z':qtn d=true/\qph l=true:=by simpa [qph] using z
  exact ⟨x,r,e,Is.off hF z'.1 p,Iss.off hF z'.2 q⟩
end
section
variable {X:Cx}
end
end
section
def qyw {F H F' H':Hp}{a:Addr}{o:HO} (g:Go F H F' H') (h:H a=some o) (f:F a=none):F' a=none:=by
 cases e:F' a with
 | none=>rfl
 | some u =>
  rcases g.new a u e with q|q
  ·rw [f] at q;cases q
  ·rw [h] at q;cases q
section
variable {K:Qd}{M:Frm}{F H:Hp}
def Slots (K:Qd) (M:Frm) (F H:Hp):Sto->St->Prop
 | [],σ=>σ=[]
 | s::e,σ => ∃ x r,σ=x::r/\(SlotOk K M F H s x/\s.mut=false)/\Slots K M F H e r
def Slots.len : ∀ {e:Sto}{σ:St},Slots K M F H e σ->e.length=σ.length
 | [],σ,h=>by
  have h:σ=[]:=h;subst h;rfl
 | s::e,σ,h=>by
  obtain ⟨x,r,rfl,_,h⟩:=h;rw [Zk,Zk,Slots.len h]
def Slots.at : ∀ {e:Sto}{σ:St},Slots K M F H e σ -> ∀ i,SlotOk K M F H (gS e i) (vS σ i)/\(gS e i).mut=false
 | [],σ,h,i=>by
  rw [qxw (Vg _)];exact ⟨trivial,rfl⟩
 | s::e,σ,h,0=>by
  obtain ⟨x,r,rfl,q,h⟩:=h;exact q
 | s::e,σ,h,i+1=>by
  obtain ⟨x,r,rfl,q,h⟩:=h;have e1:vS (x::r) (i+1)=vS r i:=by unfold vS;rw [Y4]
  rw [e1];exact Slots.at h i
def qpj {env:Sto}{σ:St} (s:Same F H) (h:Slots K ⟨H,H,F⟩ F H env σ):EnvOk K ⟨H,H,F⟩ F H env σ where
 len:=h.len
 slot:=fun i=>(h.at i).1
 dis:=fun i j a _ m _ _ _=>by rw [(h.at i).2] at m;cases m
 f0 :=.refl _
 fe:=s
 fh:=s
 bh :=.refl _
 new:=fun b o e => .inl e
 dom:=fun b o e=>⟨o,e⟩
end
section
variable {X:Cx}
def VN.pe {e:Expr}{W:WE} (h:VN X e W):PE X e (zacf X.K W):=h
end
section
variable {X:Cx}
end
end
section
section
variable {X:Cx}
def VI.pi {tg e:Expr}{W:WF} (h:VI X tg e W):PI X tg e (qte X.K W):=h
end
end
section
section
variable {X:Cx}
end
end
section
section
variable {X:Cx}{e:Expr}{We:WE}{pos:Pos}
end
end
section
section
variable {X:Cx}
end
end
section
section
variable {X:Cx}{pos:Pos}
end
end
section
mutual
def qtd:Qh->Bool
 | .list _=>false
 | .dict _=>false
 | .tuple l=>qtm l
 | _=>true
def qtm:List Qh->Bool
 | []=>true
 | d::l=>qtd d&&qtm l
end
mutual
def zagm {K:Qd}{F:Hp}{a:Addr}{vs:List V} (h:F a=some (.lst vs)) : ∀ {d:Qh}{v:V},qtd d=true->Is K F d v->Is K (qqn F a) d v
 | .none,_,_,i=>by unfold Is at i ⊢;exact i
 | .bool _,_,_,i=>by unfold Is at i ⊢;exact i
 | .int _,_,_,i=>by unfold Is at i ⊢;exact i
 | .str _,_,_,i=>by unfold Is at i ⊢;exact i
 | .list l,_,z,_=>by unfold qtd at z;cases z
 | .dict l,_,z,_=>by unfold qtd at z;cases z
 | .tuple l,_,z,i=>by
  unfold qtd at z;unfold Is at i ⊢;obtain ⟨b,xs,e,q,r⟩:=i;refine ⟨b,xs,e,?_,qyo h z r⟩;rcases q with (q|⟨o,q⟩)|q
  ·exact .inl (.inl (by unfold qqn;rw [if_neg (fun c=>by rw [c,h] at q;cases q)];exact q))
  ·exact .inl (.inr ⟨o,by unfold qqn;rw [if_neg (fun c=>by rw [c,h] at q;cases q)];exact q⟩)
  ·exact .inr q
def qyo {K:Qd}{F:Hp}{a:Addr}{vs:List V} (h:F a=some (.lst vs)) : ∀ {l:List Qh}{xs:List V},qtm l=true->Iss K F l xs->Iss K (qqn F a) l xs
 | [],_,_,i=>by unfold Iss at i ⊢;exact i
 | d::l,_,z,i=>by
  unfold qtm at z;rw [Ye] at z;unfold Iss at i ⊢;obtain ⟨x,r,e,p,q⟩:=i;exact ⟨x,r,e,zagm h z.1 p,qyo h z.2 q⟩
end
section
variable {X:Cx}
end
end
section
section
variable {X:Cx}{Ex:St->XK}{a b:Expr}{rest:List Expr}{pos:Pos}{Wa Wx2:WX->WE}{Wb:WE}
end
end
section
section
variable {X:Cx}
def boot_any:Zv "any" = some (.builtin "any"):=by decide +kernel
end
section
variable {X:Cx}{elt target iter cnd:Expr}{scope:Scope}{pos py spos:Pos}{caps own:List Str}{ix:List Nat}{Wi:WF}{G:WG}{Wt:WT}{We:WE}{i:Nat}{y:Str}
end
end
section
section
variable {X:Cx}{b:Expr}{Wb:WE}{pos px:Pos}
def wOpO (i:Nat) (r:D2) (Wb:WE):WE:=fun env Q=>(gS env i).mut=true/\Wb env fun y e=>(gS e i).mut=true/\r (.list (gS e i).cnt) y fun d=>qtd d=true/\Q d e
def zaey {i:Nat}{r:D2}{σ:St}{H:Hp}{R:VK} (h:qbw X.K (wOpO i r Wb) σ H R):tOp (qtq X.K r) (qxg i) (qbw X.K Wb) σ H R:=by
 obtain ⟨M,env,F,Q,I,⟨m,h⟩,k⟩:=h;obtain ⟨a,vs,ea,g1,g2,g3,g4⟩:=(I.slot i).addr m;refine ⟨_,qed ea,M,env,F,_,I,h,fun d v F1 H1 e1 I1 s1 i1 h1=>?_⟩;obtain ⟨m1,h1⟩:=h1;obtain ⟨a',vs1,ea',f1,f2,f3,f4⟩:=(I1.slot i).addr m1;rw [ea] at ea';injection ea' with ea';injection ea' with ea';subst ea';have sn:Same F1 (upd F1 a (.lst vs1)):=qau f2;refine ⟨upd F1 a (.lst vs1),_,d,_,fun b o eb=>?_,qfj (SqL.of qp) (f4.mono sn),i1.mono sn,h1,fun d2 v2 F2 H2 g j ⟨fd,q⟩=>?_⟩
 ·by_cases z:b=a
  ·subst z;rw [qp] at eb;rw [f1];exact .of eb
  ·rw [qk z] at eb;exact I1.fh b o eb
 ·have fa:F2 a=some (.lst vs1):=g.f a _ qp;have G:Go F1 H1 (qqn F2 a) H2:=by
   refine ⟨fun b o eb=>?_,g.h,fun b o eb=>?_,fun b o eb=>?_⟩
   ·unfold qqn;rw [if_neg (qx eb f2)];exact sn.trans g.f b o eb
   ·unfold qqn at eb;split at eb
    ·cases eb
    ·exact g.fh b o eb
   ·unfold qqn at eb;split at eb
    ·cases eb
    ·rename_i z;rcases g.new b o eb with q|q
     ·rw [qk z] at q;exact .inl q
     ·exact .inr q
  exact k d2 v2 _ H2 e1 (I1.go G) (s1.trans G.f) (zagm fa fd j) q
def zahn (i:Nat) {op:CmpOp}{r:D2}{x:Str} (ho:OpV X (Yl op) r) (hb:VE X b Wb) (hN:X.N[i]?=some x:=by rfl) (hv:Vis X.env.scope x:=by first|exact V1 rfl|exact Va (V1 rfl)|exact Va (Va rfl)) (hd:Nd0 x:=by decide)
 (hcd:Nd1 x:=by decide) (hm:Qag op b=false:=by first|exact qxq _|with_unfolding_all rfl):VT X (.Compare (.Name x px) [op] [b] pos) (qwk (wOpO i r Wb)) :=
 (qzl ho (qey hN hv hd hcd) hb hm).imp fun σ H R h=>zaey (qhf h)
end
end
section
section
variable {X:Cx}{Ex:St->XK}{pos:Pos}{Wt:WX->WS}
end
end
end L2
namespace L2
open PySem PySem.Spec PyProof.Rows PySem.W
section
structure OrdN (n:Nat) (lt:Nat->Nat->Bool):Prop where
 irr : ∀ i,lt i i=false
 tr : ∀ i j k,i<n->j<n->k<n->lt i j=true->lt j k=true->lt i k=true
 tot : ∀ i j,i<n->j<n->i≠j->lt i j=true\/lt j i=true
structure PmN (n:Nat) (p:Array Nat):Prop where
 s:p.size=n
 p:p.toList.Perm (Qx n)
section
variable {n:Nat}{lt:Nat->Nat->Bool}{p:Array Nat}
def PmN.get (h:PmN n p) {k:Nat} (hk:k<n):p[k]?=some (p.getD k 0):=by
 have:k<p.size:=by rw [h.s];exact hk
 rw [Vj this];simp [Qjq,this]
def PmN.bd (h:PmN n p) {k:Nat} (hk:k<n):p.getD k 0<n:=by
 have e:=h.get hk;have:p.getD k 0 ∈ p.toList:=by
  rw [<- V4] at e;exact Qf e
 exact Zp.mp (h.p.mem_iff.mp this)
def PmN.inj (h:PmN n p) {i j:Nat} (hi:i<n) (hj:j<n) (ne:i≠j):p.getD i 0≠p.getD j 0:=fun z=>by
 have nd:p.toList.Nodup:=(h.p.nodup_iff).mpr Qeu;have e1:=h.get hi;have e2:=h.get hj;rw [<- V4] at e1 e2;rw [z] at e1;have l1:i<p.toList.length:=by rw [Zf,h.s];exact hi
 exact ne ((Qac l1 nd).mp (by rw [e1,e2]))
def PmN.of (h:PmN n p) {q:Array Nat} (hq:q.Perm p):PmN n q:=by
 have e:=Array.perm_iff_toList_perm.mp hq;refine ⟨?_,e.trans h.p⟩;rw [<- h.s];have:=e.length_eq;rw [Zf,Zf] at this;exact this
def SrtN (lt:Nat->Nat->Bool) (p:Array Nat) (m:Nat):Prop := ∀ k,1<=k->k<m->lt (p.getD (k-1) 0) (p.getD k 0)=true
def DscN (lt:Nat->Nat->Bool) (p:Array Nat) (m:Nat):Prop := ∀ k,1<=k->k<m->lt (p.getD k 0) (p.getD (k-1) 0)=true
def SrtN.pair (o:OrdN n lt) (h:PmN n p) {m:Nat} (hm:m<=n) (s:SrtN lt p m) {i:Nat} : ∀ (d:Nat),i+d+1<m->lt (p.getD i 0) (p.getD (i+d+1) 0)=true
 | 0,hd=>by have:=s (i+1) (by omega) (by omega);exact this
 | d+1,hd=>by
  have a:=SrtN.pair o h hm s (i:=i) d (by omega);have b:=s (i+d+2) (by omega) (by omega);exact o.tr _ _ _ (h.bd (by omega)) (h.bd (by omega)) (h.bd (by omega)) a b
def SrtN.lt2 (o:OrdN n lt) (h:PmN n p) {m:Nat} (hm:m<=n) (s:SrtN lt p m) {i j:Nat} (hij:i<j) (hj:j<m):lt (p.getD i 0) (p.getD j 0)=true:=by
 have:=SrtN.pair o h hm s (i:=i) (j-i-1) (by omega);rw [show i+(j-i-1)+1=j by omega] at this;exact this
def OrdN.flip (o:OrdN n lt) {i j:Nat} (hi:i<n) (hj:j<n) (ne:i≠j) (a:lt i j=false):lt j i=true:=by
 rcases o.tot i j hi hj ne with z|z
 ·rw [a] at z;cases z
 ·exact z
def qyh {m k:Nat} (h:PmN n p) (hm:m<=n) (hk:k<n):(kas_rev p 0 m).getD k 0=if k<m then p.getD (m-1-k) 0 else p.getD k 0:=by
 have hz:(kas_rev p 0 m).size=n:=by unfold kas_rev;rw [mirror_size];exact h.s
 have e:(kas_rev p 0 m)[k]?=some ((kas_rev p 0 m).getD k 0):=by
  have:k<(kas_rev p 0 m).size:=by rw [hz];exact hk
  rw [Vj this];simp [Qjq,this]
 have e2:=getElem?_mirror_all (xs:=p) (i:=0) (j:=m) (by rw [h.s];exact hm) k;have e3:(kas_rev p 0 m)[k]?=if 0<=k/\k<m then p[0+m-1-k]? else p[k]?:=e2
 rw [e] at e3;by_cases q:k<m
 ·rw [if_pos ⟨Vg _,q⟩,show 0+m-1-k=m-1-k by omega,h.get (show m-1-k<n by omega)] at e3;rw [if_pos q];exact Qn e3
 ·rw [if_neg (by omega),h.get hk] at e3;rw [if_neg q];exact Qn e3
def zagi {m:Nat} (h:PmN n p):PmN n (kas_rev p 0 m):=h.of (mirror_perm _ _ _ _)
def zajk {m:Nat} (h:PmN n p) (hm:m<=n) (d:DscN lt p m):SrtN lt (kas_rev p 0 m) m:=fun k h1 h2=>by
 rw [qyh h hm (by omega),qyh h hm (by omega),if_pos (by omega),if_pos h2];have:=d (m-k) (by omega) (by omega);rw [show m-1-(k-1)=m-k by omega,show m-1-k=m-k-1 by omega];exact this
end
section
variable {n:Nat}{lt:Nat->Nat->Bool}{cmp:Nat->Nat->(Bool->Qk->Prop)->Qk->Prop}{s:Qk}
def qxu (o:OrdN n lt) (hc : ∀ i j C,i<n->j<n->C (lt i j) s->cmp i j C s) {p:Array Nat} (h:PmN n p) {Q:Nat->Qk->Prop} : ∀ (f a:Nat),1<=a->a+f<=n->SrtN lt p a->(∀ m,a<=m->m<=a+f->SrtN lt p m->(m<a+f->lt (p.getD m 0) (p.getD (m-1) 0)=true)->Q m s)->(kas_asc p f a).kasWp cmp Q s
 | 0,a,h1,h2,hS,k=>k a (Qr _) (by omega) hS (by omega)
 | f+1,a,h1,h2,hS,k=>by
  refine hc _ _ _ (h.bd (by omega)) (h.bd (by omega)) ?_;cases e:lt (p.getD a 0) (p.getD (a-1) 0) with
  | true=>exact k a (Qr _) (by omega) hS (fun _=>e)
  | false =>
   show (kas_asc p f (a+1)).kasWp cmp Q s;refine qxu o hc h f (a+1) (by omega) (by omega) (fun k' q1 q2=>?_) fun m m1 m2 m3 m4=>k m (by omega) (by omega) m3 (fun z=>m4 (by omega));by_cases z:k'<a
   ·exact hS k' q1 z
   ·have:k'=a:=by omega
    subst this;exact o.flip (h.bd (by omega)) (h.bd (by omega)) (h.inj (by omega) (by omega) (by omega)) e
def qyf (o:OrdN n lt) (hc : ∀ i j C,i<n->j<n->C (lt i j) s->cmp i j C s) {p:Array Nat} (h:PmN n p) {Q:Array Nat×Nat×Nat->Qk->Prop} : ∀ (f a:Nat),1<=a->a+f<=n->DscN lt p a->(∀ m,a<=m->m<=a+f->DscN lt p m->Q (p,m,0) s)->(kas_desc f p a 0).kasWp cmp Q s
 | 0,a,h1,h2,hS,k=>k a (Qr _) (by omega) hS
 | f+1,a,h1,h2,hS,k=>by
  refine hc _ _ _ (h.bd (by omega)) (h.bd (by omega)) ?_;cases e:lt (p.getD a 0) (p.getD (a-1) 0) with
  | true =>
   show (kas_desc f p (a+1) 0).kasWp cmp Q s;refine qyf o hc h f (a+1) (by omega) (by omega) (fun k' q1 q2=>?_) fun m m1 m2 m3=>k m (by omega) (by omega) m3;by_cases z:k'<a
   ·exact hS k' q1 z
   ·have:k'=a:=by omega
    subst this;exact e
  | false =>
   refine hc _ _ _ (h.bd (by omega)) (h.bd (by omega)) ?_;rw [o.flip (h.bd (by omega)) (h.bd (by omega)) (h.inj (by omega) (by omega) (by omega)) e];exact k a (Qr _) (by omega) hS
def zaji (o:OrdN n lt) (hc : ∀ i j C,i<n->j<n->C (lt i j) s->cmp i j C s) {p:Array Nat} (h:PmN n p) {Q:Nat×Array Nat->Qk->Prop}{m:Nat} (h1:1<=m) (hm:m<=n) (d:DscN lt p m) (k : ∀ m' p',m'<=n->PmN n p'->SrtN lt p' m'->Q (m',p') s):(kas_tail3 m n p).kasWp cmp Q s:=by
 unfold kas_tail3;rw [Qbg];exact qxu o hc (zagi h) _ _ h1 (by omega) (zajk h hm d) fun m' q1 q2 q3 _=>k m' _ (by omega) (zagi h) q3
def zadb (o:OrdN n lt) (hc : ∀ i j C,i<n->j<n->C (lt i j) s->cmp i j C s) {p:Array Nat} (h:PmN n p) (hn:2<=n) {Q:Nat×Array Nat->Qk->Prop} (k : ∀ m' p',m'<=n->PmN n p'->SrtN lt p' m'->Q (m',p') s):(kas_count n p).kasWp cmp Q s:=by
 unfold kas_count;rw [Qbg];refine qxu o hc h _ 1 (Qr _) (by omega) (fun k' q1 q2=>by omega) fun m m1 m2 m3 m4=>?_;by_cases e:m=n
 ·subst e;rw [if_pos (beq_self_eq_true m)];exact k m p (Qr _) h m3
 ·rw [if_neg (by simpa using e)];by_cases g:m>1
  ·rw [if_pos g];refine hc _ _ _ (h.bd (by omega)) (h.bd (by omega)) ?_;rw [m3.lt2 o h (show m<=n by omega) (show 0<m-1 by omega) (by omega)];exact k m p (by omega) h m3
  ·rw [if_neg g];have e1:m=1:=by omega
   subst e1;unfold kas_descPart;rw [Qbg];have d2:DscN lt p 2:=fun k' q1 q2=>by
    have:k'=1:=by omega
    subst this;exact m4 (by omega)
   exact qyf o hc h (n-2) 2 (by omega) (by omega) d2 fun m' q1 q2 q3=>show (kas_tail3 m' n p).kasWp cmp Q s from zaji o hc h (by omega) (by omega) q3 k
def qod (o:OrdN n lt) (hc : ∀ i j C,i<n->j<n->C (lt i j) s->cmp i j C s) {p:Array Nat} (h:PmN n p) {Q:Nat->Qk->Prop}{k:Nat} (hk:k<n) (hS:SrtN lt p k)
 (q : ∀ l,l<=k->(∀ i,i<l->lt (p.getD i 0) (p.getD k 0)=true)->(∀ i,l<=i->i<k->lt (p.getD k 0) (p.getD i 0)=true)->Q l s) : ∀ (f l r:Nat),l<=r->r<=k->r-l<=f->(∀ i,i<l->lt (p.getD i 0) (p.getD k 0)=true)->(∀ i,r<=i->i<k->lt (p.getD k 0) (p.getD i 0)=true)->(kas_place p k f l r).kasWp cmp Q s
  | 0,l,r,h1,h2,h3,h4,h5=>q l (by omega) h4 (fun i a b=>h5 i (by omega) b)
  | f+1,l,r,h1,h2,h3,h4,h5=>by
   unfold kas_place;by_cases z:l>=r
   ·rw [if_pos z];exact q l (by omega) h4 (fun i a b=>h5 i (by omega) b)
   ·rw [if_neg z];have c1:(l+r)/2<k:=by omega
    refine hc _ _ _ (h.bd hk) (h.bd (by omega)) ?_;cases e:lt (p.getD k 0) (p.getD ((l+r)/2) 0) with
    | true =>
     show (kas_place p k f l ((l+r)/2)).kasWp cmp Q s;refine qod o hc h hk hS q f l _ (by omega) (by omega) (by omega) h4 fun i a b=>?_;by_cases z:i=(l+r)/2
     ·rw [z];exact e
     ·exact o.tr _ _ _ (h.bd hk) (h.bd (by omega)) (h.bd (by omega)) e (hS.lt2 o h (by omega) (show (l+r)/2<i by omega) b)
    | false =>
     show (kas_place p k f ((l+r)/2+1) r).kasWp cmp Q s;have e':=o.flip (h.bd hk) (h.bd (show (l+r)/2<n by omega)) (h.inj hk (by omega) (by omega)) e;refine qod o hc h hk hS q f _ r (by omega) h2 (by omega) (fun i a=>?_) h5;by_cases z:i=(l+r)/2
     ·rw [z];exact e'
     ·exact o.tr _ _ _ (h.bd (by omega)) (h.bd (by omega)) (h.bd hk) (hS.lt2 o h (by omega) (show i<(l+r)/2 by omega) c1) e'
def qzd {p:Array Nat} (h:PmN n p) {k l i:Nat} (hk:k<n) (hl:l<=k) (hi:i<n):(bubble p k (k-l)).getD i 0=if i=l then p.getD k 0 else if l<i/\i<=k then p.getD (i-1) 0 else p.getD i 0:=by
 have hz:(bubble p k (k-l)).size=n:=by rw [bubble_size];exact h.s
 have e:(bubble p k (k-l))[i]?=some ((bubble p k (k-l)).getD i 0):=by
  have:i<(bubble p k (k-l)).size:=by rw [hz];exact hi
  rw [Vj this];simp [Qjq,this]
 have e2:=getElem?_bubble (xs:=p) (src:=k) (by rw [h.s];exact hk) (k-l) (by omega) i;rw [e,show k-(k-l)=l by omega] at e2;by_cases q1:i=l
 ·rw [if_pos q1,h.get hk] at e2;rw [if_pos q1];exact Qn e2
 ·rw [if_neg q1] at e2;rw [if_neg q1];by_cases q2:l<i/\i<=k
  ·rw [if_pos q2,h.get (show i-1<n by omega)] at e2;rw [if_pos q2];exact Qn e2
  ·rw [if_neg q2,h.get hi] at e2;rw [if_neg q2];exact Qn e2
def zafy (o:OrdN n lt) (hc : ∀ i j C,i<n->j<n->C (lt i j) s->cmp i j C s) {Q:Array Nat->Qk->Prop} (q : ∀ p,PmN n p->SrtN lt p n->Q p s) : ∀ (f:Nat) (p:Array Nat) (k:Nat),PmN n p->1<=k->k+f=n->SrtN lt p k->(kas_bin f p k).kasWp cmp Q s
 | 0,p,k,h,_,e,hS=>by
  have:k=n:=by omega
  subst this;exact q p h hS
 | f+1,p,k,h,h1,e,hS=>by
  unfold kas_bin;rw [Qbg];have hk:k<n:=by omega
  refine qod o hc h hk hS (fun l hl a b=>?_) k 0 k (Vg _) (Qr _) (by omega) (fun i z=>by omega) (fun i z1 z2=>by omega);refine zafy o hc q f _ (k+1) (h.of (bubble_perm _ _ _)) (by omega) (by omega) fun i i1 i2=>?_;rw [qzd h hk hl (show i-1<n by omega),qzd h hk hl (show i<n by omega)];by_cases c1:i<l
  ·rw [if_neg (by omega),if_neg (by omega),if_neg (by omega),if_neg (by omega)];exact hS i i1 (by omega)
  ·by_cases c2:i=l
   ·rw [if_neg (by omega),if_neg (by omega),if_pos c2];exact a (i-1) (by omega)
   ·by_cases c3:i-1=l
    ·rw [if_pos c3,if_neg c2,if_pos ⟨by omega,by omega⟩];exact b (i-1) (by omega) (by omega)
    ·rw [if_neg c3,if_pos ⟨by omega,by omega⟩,if_neg c2,if_pos ⟨by omega,by omega⟩];exact hS (i-1) (by omega) (by omega)
def zajl (o:OrdN n lt) (hc : ∀ i j C,i<n->j<n->C (lt i j) s->cmp i j C s) (hn:2<=n) {Q:Array Nat->Qk->Prop} (q : ∀ p,PmN n p->SrtN lt p n->Q p s):(kas_sort n).kasWp cmp Q s:=by
 unfold kas_sort;rw [Qbg];have h0:PmN n (Qkf (Qx n)):=⟨by simp,by simp⟩
 refine zadb o hc h0 hn fun m p h1 hp hS=>?_;show ((if m<n then kas_bin (n-max m 1) p (max m 1) else .ret p).kasWp cmp Q s);by_cases z:m<n
 ·rw [if_pos z];refine zafy o hc q _ p _ hp (by omega) (by omega) fun k k1 k2=>hS k k1 (by omega)
 ·rw [if_neg z];have:m=n:=by omega
  subst this;exact q p hp hS
end
end
section
section
variable {prog:Zi}{w:World}{A:Zw}{R:Result->Qk->Prop}{s:Qk}
def qqp {a c:Addr}{args:Args}{o oc:Obj}{fd:Vy}{body:Expr}{vs:Array Value}{q:Str}{t:Tok} (room:A.depth<Vk) (h1:s.heap.get? a=some o) (h2:o.data = .func fd) (h3:fd.scope.isCoroutine=false) (h4:fd.scope.isGenerator=false)
 (h5:fd.body = .expr body) (h6:fd.code = .ref c) (h7:s.heap.get? c=some oc) (h8:oc.data = .fields vs) (h9:vs[1]?=some (.str q t))
 (k:wpAny (model prog w) A.in1 (Qcx fd args) (fun bs s1=>wpAny (model prog w) A.in1 (Qcc fd.scope fd.globals fd.closure bs (q ++ ".<locals>.") (some a) (.ref c) none fd.builtins)
 (fun env s2=>s2.heap.NoLimit/\Qbz (model prog w) A (.expr body env) R s2) (fun e s'=>R (.error e) s') s1) (fun e s'=>R (.error e) s') s):Qbz (model prog w) A (.call (.ref a) args) R s:=by
  apply codeAny_of_tree;have go:wpAny (model prog w) A.in1 (callAny (.ref a) args) (fun r s'=>match r with | .done f=>R (.ok f) s' | .again c'=>c'.quiet=true/\Qbz (model prog w) A c' R s') (fun e s'=>R (.error e) s') s:=by
   simp only [callAny];refine Qj (wpAny_load h1 ?_);simp only [h2,callFunction,h3,h4,h5,h6];refine Qj (m:=field (.ref c) 1) (Qet h7 h8 h9 (Qj (Q1 ?_)));refine Qj (Z4 k (fun bs s1 k1=>?_) fun _ _ z=>z);refine Qj (Z4 k1 (fun env s2 k2=>?_) fun _ _ z=>z);exact Qj (wpAny_enterFrame k2.1 room (Q1 ⟨rfl,k2.2⟩))
  exact go
end
def cxL (P:Zi) (w:World) (K:Qd) (mg:Str->Option Value) (base:Heap) (q:Str) (scope:Scope) (f:Addr) (cd:Value) (cl:List (Str×Addr)) (N:List Str) (A:Zw) (outer:List Env) (s:Qk) (H:Hp):Cx where
 prog:=P
 w:=w
 K:=K
 mg:=mg
 base:=base
 A:=A.deeper (envX q scope s.heap.objs.size f cd cl)
 N:=N
 s₀:=s
 H₀:=H
 env:=envX q scope s.heap.objs.size f cd cl
 outer:=outer
 stack:=envX q scope s.heap.objs.size f cd cl::outer
 ex:=[]
 fn:=fun _=>false
 calm:=true
 pn:=[]
 xe:=fun _ _=>False
structure LamScope (scope:Scope) (x y:Str):Prop where
 kind:scope.kind = .function
 co:scope.isCoroutine=false
 gen:scope.isGenerator=false
 px:scope.names.lookup x=some .local
 py:scope.names.lookup y=some .free
 ne:x≠y
 nocell : ∀ z ∈ scope.names,z.2 ≠ .cell
 free : ∀ z,scope.names.lookup z=some .free->z=y
section
variable {P:Zi}{w:World}{K:Qd}{mg:Str->Option Value}{base:Heap}{q:Str}{scope:Scope}{f cg:Addr}{cd ug u:Value}{x y:Str}{A:Zw}{outer:List Env}{s:Qk}{H:Hp}{v vg:V}{h1:Heap}{tk:Nat}
def zaid (S:LamScope scope x y) (hd:A.handled=none) (e0:Env0 P w K mg base A outer s H) (hc:s.heap.IsCell cg (some ug)) (hn:H cg=none) (rg:RelV vg ug) (ru:RelV v u)
 (ns:h1.Ns s.heap.objs.size (fun z=>([(x,u)]:List (Str×Value)).reverse.lookup z)) (hk : ∀ b o,s.heap.get? b=some o->h1.get? b=some o) :
 Inv (cxL P w K mg base q scope f cd [(y,cg)] [x,y] A outer s H) [] [some v,some vg] H { s with heap:=h1,toks:=tk }:=by
  have noA : ∀ b:Addr,b ∉ (cxL P w K mg base q scope f cd [(y,cg)] [x,y] A outer s H).ex:=fun b z=>absurd (show b ∈ ([]:List Addr) from z) (by simp);have look : ∀ z c,(cxL P w K mg base q scope f cd [(y,cg)] [x,y] A outer s H).env.cells.lookup z=some c->z=y/\c=cg:=fun z c h=>by
   have h:([(y,cg)]:List (Str×Addr)).lookup z=some c:=h;rw [Zj] at h;cases e:z==y with
   | true=>rw [e] at h;exact ⟨eq_of_beq e,(Qn h).symm⟩
   | false=>rw [e] at h;cases h
  have lky:([(y,cg)]:List (Str×Addr)).lookup y=some cg:=by rw [Zj,beq_self_eq_true]
  refine ⟨⟨e0.mod,S.kind,rfl,rfl,Qr _,fun z z' c a b=>(look z c a).1.trans (look z' c b).1.symm,fun z hz=>?_,fun z c a b=>(by cases a),fun _=>hd,Qcp e0.frames,.inr ⟨rfl,rfl⟩,fun b z=>absurd z (noA b),e0.bs,e0.bsz,fun b _ _=>noA b,fun b z=>absurd z (noA b),e0.funs,e0.frf⟩,
   rfl,e0.bare,Un.kept hk,⟨_,ns,fun i z v' a1 a2 a3=>?_⟩,fun z c a=>?_,e0.hok.fresh (Qr _),fun z c a=>?_,fun p hp=>absurd (show p ∈ ([]:List (Addr×Obj)) from hp) (by simp),e0.hok.kept hk,rfl⟩
  ·have hz:scope.names.lookup z=some .cell\/scope.names.lookup z=some .free:=hz;rcases hz with hz|hz
   ·exact absurd rfl (S.nocell _ (Ve hz))
   ·rw [S.free z hz];exact ⟨cg,lky⟩
  ·have a1:([x,y]:List Str)[i]?=some z:=a1
   match i,a1,a2 with
   | 0,a1,a2 =>
    have e1:x=z:=Qn a1;have e2:v=v':=Qn (Qn a2);subst e1;subst e2;refine ⟨u,ru,.inl ⟨S.px,?_⟩⟩;show ([(x,u)]:List (Str×Value)).lookup x=some u;rw [Zj,beq_self_eq_true]
   | 1,a1,a2 =>
    have e1:y=z:=Qn a1;have e2:vg=v':=Qn (Qn a2);subst e1;subst e2;obtain ⟨oc,ho,hd'⟩:=hc;exact ⟨ug,rg,.inr ⟨.inr S.py,cg,lky,oc,hk _ _ ho,hd'⟩⟩
   | i+2,a1,a2=>cases a1
  ·rw [(look z c a).2];obtain ⟨oc,ho,hd'⟩:=hc;exact ⟨_,oc,hk _ _ ho,hd'⟩
  ·rw [(look z c a).2];exact hn
def zakc {nm qual:Str}{params:Qcf}{body:Expr}{pm ct:Value}{c:Addr}{o oc:Obj}{vs:Array Value}{t:Tok}{te:TE}{Q:VK}{E:XK} (S:LamScope scope x y) (hd:A.handled=none) (e0:Env0 P w K mg base A outer s H) (room:A.depth<Vk)
 (ho:s.heap.get? f=some o) (h2:o.data = .func (kla_fn nm qual params body scope [(y,cg)] pm (.ref c) ct)) (hb:Qcx (kla_fn nm qual params body scope [(y,cg)] pm (.ref c) ct) ⟨[u],[]⟩=pure [(x,u)])
 (h7:s.heap.get? c=some oc) (h8:oc.data = .fields vs) (h9:vs[1]?=some (.str q t)) (hc:s.heap.IsCell cg (some ug)) (hn:H cg=none) (rg:RelV vg ug) (ru:RelV v u)
 (he:PE (cxL P w K mg base q scope f (.ref c) [(y,cg)] [x,y] A outer s H) body te) (h:te [some v,some vg] H Q):Qbz (model P w) A (.call (.ref f) ⟨[u],[]⟩) (CR CX0 outer P w H s Q E) s:=by
  refine qqp room ho h2 S.co S.gen rfl rfl h7 h8 h9 ?_;rw [hb];refine Q1 (wpAny_newFunctionEnv S.nocell (fun z hz=>by rw [Qp.mp hz];exact S.px) (fun h1 ns sb=>?_) S.kind);have hk : ∀ b o,s.heap.get? b=some o->h1.get? b=some o:=fun b o e=>sb.extBut b o (Za (Qw e)) (Qo _ e);refine ⟨(e0.mod.nolimit.keeps fun b o e=>(e0.bs b o e).1).keeps hk,?_⟩;have I:=zaid (q:=q) (f:=f) (cd :=.ref c) (tk:=s.toks+([(x,u)]:List (Str×Value)).length) S hd e0 hc hn rg ru ns hk;refine kla_codeExpr (Z4 (he [] _ _ H Q I h) (fun r s' z=>?_) fun _ _ z=>z.elim);obtain ⟨v',H',I',r',q'⟩:=z;exact ⟨v',H',I'.os,I'.bare,I'.base,I'.hok,r',q'⟩
end
end
section
def TbS (tb:Addr) (H:Hp):Prop := ∃ ps,H tb=some (.tbl ps)/\GoodT H ps
def TbS.of {X:Cx}{pins:List (Addr×Obj)}{σ:St}{H:Hp}{s:Qk}{tb:Addr} (I:Inv X pins σ H s) (h:TbS tb X.H₀):TbS tb H:=by
 obtain ⟨ps,e,g⟩:=h;obtain ⟨more,e',g'⟩:=I.base.tbls tb ps e;exact ⟨_,e',(g.mono I.base.frzs).app g'⟩
structure TbGo (tb:Addr) (H H':Hp):Prop where
 h : ∀ b o,b≠tb->H b=some o->H' b=some o
 ts:TbS tb H'
def TbGo.same {tb:Addr}{H H':Hp} (g:TbGo tb H H') (t:TbS tb H):Same H H':=fun b o e=>by
 by_cases z:b=tb
 ·subst z;obtain ⟨ps,e1,_⟩:=t;obtain ⟨ps',e2,_⟩:=g.ts;rw [e1] at e;cases e;rw [e2];exact ⟨fun n=>n.elim,fun _ _=>⟨ps',rfl⟩⟩
 ·exact .of (g.h b o z e)
section
variable {X:Cx}{pins:List (Addr×Obj)}{σ:St}{H:Hp}{s:Qk}{tb c0:Addr}{nm qual:Str}{params:Qcf}{body:Expr}{scope:Scope}{clos:List (Str×Addr)}{pos:Pos}{line:Nat}{Q:Value->Qk->Prop}
def Inv.pinOne {f:Addr}{o:Obj} (I:Inv X pins σ H s) (h1:s.heap.get? f=some o) (h2:H f=none) (h3:f≠X.env.locals) (h4:f ∉ X.fs) (h5 : ∀ v,o.data ≠ .cell v):Inv X (pins++[(f,o)]) σ H s:=I.pins_of fun p hp=>by
 rcases Zd.mp hp with z|z
 ·exact I.pin p (Q4 _ z)
 ·rw [Qp.mp z];exact ⟨h1,h2,h3,h4,h5⟩
def qvs (I:Inv X pins σ H s) (T:TbS tb H) (hcode:X.env.code = .ref c0) (C:CodeHd X.base c0 tb) (hb:X.base.BuiltinsAt X.mg tb) (hcl:Qia scope X.env=pure clos)
 (k : ∀ f c ct pm oc vs q t s' H',Inv X (pins++[(f,{ cls :=.type "function",data :=.func (kla_fn nm qual params body scope clos pm (.ref c) ct) })]) σ H' s'->TbGo tb H H'->(∀ b,H' b≠none->H b≠none\/s.heap.objs.size<=b)->s.heap.objs.size<=f->(∃ u,H' c=some (.frz oc u))->oc.data = .fields vs->vs[1]?=some (.str q t)->Q (.ref f) s') :
  wpAny (model X.prog X.w) X.A (makeFunction nm qual params (.expr body) scope X.env [] [] [] pos line) Q X.xe s:=by
  obtain ⟨ps,et,g⟩:=T;have gt:s.heap.get? tb=some (tabObj ps):=(I.hok tb _ et)
  have hg:s.heap.Ns Zh X.mg:=I.mod.glob.keeps I.bk;have gP:Zh≠tb:=fun z=>by
   obtain ⟨o,es,ep,ho,_⟩:=I.mod.glob;have:=(I.bs _ _ ho).2;rw [z,et] at this;cases this
  obtain ⟨bm,ob,b1,b2,b3,b4,b5,b6⟩:=hb;have hb':s.heap.BuiltinsAt X.mg tb:=⟨bm,ob,b1,b2,b3,b4,I.bk _ _ b5,b6⟩
  have nL:X.env.locals≠tb:=fun z=>by have:=I.free;rw [z,et] at this;cases this
  have lts : ∀ f:Addr,s.heap.objs.size<=f->f≠X.env.locals/\f ∉ X.fs:=fun f hf=>by
   refine ⟨fun z=>?_,fun z=>?_⟩
   ·obtain ⟨m,⟨o,es,ep,ho,_⟩,_⟩:=I.loc;have:=Qw ho;rw [<- z] at this;exact absurd this (Vo.mpr hf)
   ·obtain ⟨_,o,ho,_⟩:=I.ok.funs.mem z;have a1:=Qw ho;obtain ⟨o',ho'⟩:=I.base.there f o ho (fun zz=>(I.ok.exfs f zz) z);exact absurd (Qw ho') (Vo.mpr hf)
  cases ea:Qbl pos ps.toList with
  | some cv =>
   refine kla_makeFunctionHit (mg:=X.mg) hcl I.ok.glob hg hcode (C.keeps I.bk) gt g.tr ea hb' fun ct h' tk hk hs=>?_;obtain ⟨c,oc,u,ev,ec,vs,q,t,d1,d2⟩:=g.co pos cv ea;subst ev;have hk2 : ∀ b o,s.heap.get? b=some o->(h'.push { cls :=.type "function",data :=.func (kla_fn nm qual params body scope clos ((X.mg "__name__").getD .none) (.ref c) ct) }).get? b=some o:=fun b o e=>Qo _ (hk b o e);obtain ⟨l1,l2⟩:=lts _ hs;exact k h'.objs.size c ct _ oc vs q t _ H ((I.kept (t':=tk) hk2).pinOne (Q8 _ rfl) (I.hok.fresh hs) l1 l2 (fun v z=>by cases z)) ⟨fun b o _ e=>e,ps,et,g⟩ (fun b hb => .inl hb) hs ⟨u,ec⟩ d1 d2
  | none =>
   refine kla_makeFunction (mg:=X.mg) hcl I.ok.glob hg hcode (C.keeps I.bk) gt g.tr ea gP hb' fun c ct h' tk hx hge hlt hrec htb=>?_;obtain ⟨c2,oc,vs,t,e2,hoc,d1,d2⟩:=hrec;cases e2;have ne:c≠tb:=fun z=>absurd (Qw gt) (Vo.mpr (z ▸ hge));have hc0:H c=none:=I.hok.fresh hge;obtain ⟨more,em⟩ : ∃ more,more = #[Qhk pos.line,Qhk pos.col,Vw c]:=⟨_,rfl⟩
   rw [<- em] at htb;obtain ⟨H1,eH⟩ : ∃ H1,H1=upd (upd H tb (.tbl (ps++more))) c (.frz oc (.own 0)):=⟨_,rfl⟩
   have u1:H1 c=some (.frz oc (.own 0)):=by rw [eH,qp]
   have u2:H1 tb=some (.tbl (ps++more)):=by rw [eH,qk (V7 ne),qp]
   have u3 : ∀ b,b≠c->b≠tb->H1 b=H b:=fun b h1 h2=>by rw [eH,qk h1,qk h2]
   have old : ∀ b o,H b=some o->b≠c:=fun b o e z=>by rw [z,hc0] at e;cases e
   have gm:GoodT H1 more:=⟨by rw [em];exact trivial,fun p v h=>by
    rw [em] at h;have h:(if (pos.line:Int)==p.line&&(pos.col:Int)==p.col then some (Vw c) else Qbl p [])=some v:=h;split at h
    ·exact ⟨c,oc,_,(Qn h).symm,u1,vs,qual,t,d1,d2⟩
    ·simp [Qbl] at h⟩
   have gf : ∀ b o u,H b=some (.frz o u)->H1 b=some (.frz o u):=fun b o u e=>by
    rw [u3 b (old b _ e) fun z=>by rw [z,et] at e;cases e];exact e
   have hk2 : ∀ b o,b≠tb->s.heap.get? b=some o->(h'.push (kla_obj nm qual params body scope clos ((X.mg "__name__").getD .none) c ct)).get? b=some o:=fun b o hb e=>Qo _ (hx b o hb e);have szs:s.heap.objs.size<=h'.objs.size:=Zr hge (Yi hlt);have I1:Inv X pins σ H1 { s with heap:=h'.push (kla_obj nm qual params body scope clos ((X.mg "__name__").getD .none) c ct),toks:=tk }:=by
    refine Inv.step (g':=s.gens) (d':=s.drawn) (t':=tk) (ch:=[]) I (fun b z=>nomatch z) (fun b o _ _ _ e n=>hk2 b o (fun z=>by rw [z,et] at n;cases n) e) (fun b o _ _ _ e n=>⟨o.slots,hk2 b o (fun z=>by rw [z,et] at n;cases n) e⟩)
     (fun b o _ e n=>?_) (fun b o _ e=>?_) (fun b xs e=>?_) (fun b o u e=>gf b o u e) (fun b qs e=>?_) (fun m hm=>?_) (fun b u e=>?_) I.bare
    ·rw [u3 b (fun z=>absurd (Qw e) (Vo.mpr (z ▸ hge))) (fun z=>by rw [z,et] at n;cases n)];exact n
    ·by_cases z:b=tb
     ·rw [z];exact ⟨_,Qo _ htb⟩
     ·exact ⟨o,hk2 b o z e⟩
    ·rw [u3 b (old b _ e) fun z=>by rw [z,et] at e;cases e];exact e
    ·by_cases z:b=tb
     ·rw [z,et] at e;cases e;exact ⟨more,by rw [z];exact u2,gm⟩
     ·exact ⟨#[],by rw [u3 b (old b _ e) z,e];simp,.nil⟩
    ·exact (hm.extBut hx nL).push _
    ·by_cases zc:b=c
     ·subst zc;rw [u1] at e;cases e;exact ⟨Qo _ hoc,oc,Qo _ hoc⟩
     ·by_cases zt:b=tb
      ·subst zt;rw [u2] at e;cases e;exact Qo _ htb
      ·rw [u3 b zc zt] at e;refine (I.hok b u e).stay (fun d ob hd z=>hk2 d ob (fun y=>?_) z) (fun d z=>?_) fun d xs z=>?_
       ·rcases hd with y2|y2
        ·exact zt (y2.symm.trans y)
        ·rw [y,et] at y2;cases y2
       ·rw [u3 d (old d _ z) fun y=>by rw [y,et] at z;cases z];exact z
       ·rw [u3 d (old d _ z) fun y=>by rw [y,et] at z;cases z];exact z
   obtain ⟨l1,l2⟩:=lts _ szs;have fn:H1 h'.objs.size=none:=by
    rw [u3 _ (Yr hlt) fun z=>absurd (Qw gt) (Vo.mpr (z ▸ szs))];exact I.hok.fresh szs
   refine k h'.objs.size c ct _ oc vs qual t _ H1 (I1.pinOne (Q8 _ rfl) fn l1 l2 (fun v z=>by cases z)) ⟨fun b o hb e=>?_,_,u2,(g.mono gf).app gm⟩ (fun b hb=>?_) szs ⟨_,u1⟩ d1 d2
   ·rw [u3 b (old b _ e) hb];exact e
   ·by_cases zc:b=c
    ·exact .inr (zc ▸ hge)
    ·by_cases zt:b=tb
     ·left;rw [zt,et];exact fun z=>by cases z
     ·left;rw [u3 b zc zt] at hb;exact hb
end
end
section
def qmn (x y:Nat->Int):Nat->Nat->Bool
 | 0,_=>false
 | k+1,i=>if x i==y i then qmn x y k (i+1) else decide (x i<y i)
open AutoSeq1 (wpAny_loadPart') in
open MeetsSeq MeetsSeq3 in
def zaio (l b:Addr) (items items2:Array Value) (n n2:Nat) (hsz:items.size=items2.size) (x y:Nat->Int) (hx : ∀ j (h:j<items.size),∃ t,items[j] = .int (x j) t) (hy : ∀ j (h:j<items2.size),∃ t,items2[j] = .int (y j) t) (k:Nat) :
 ∀ i:Nat,items.size-i=k->Meets (Builtin.«list.__eq__.loop» ⟨[.ref l,.ref b,Qhk i,Qhk 0],[]⟩)
 (fun _ R s=>s.heap.get? l=some { cls :=.type "list",dict:=none,data :=.seq items n,slots := #[] }/\s.heap.get? b=some { cls :=.type "list",dict:=none,data :=.seq items2 n2,slots := #[] } /\
  R (.ok (.ret (.bool (qmn x y k i)))) s):=by
  induction k with
  | zero =>
   rintro i hk prog w A R ⟨hp,g,d,tk,os⟩ ⟨hl,hb,h⟩
   wp_walk using Yg hl,Yg hb
   rw [show items[((i:Nat):Int).toNat]?=none by simp;omega,show items2[((i:Nat):Int).toNat]?=none by simp;omega]
   wp_walk using Yg hl,Yg hb
   have e:decide (items.size<items2.size)=false:=decide_eq_false (by omega);show R (.ok (.ret (.bool (decide (items.size<items2.size))))) _;rw [e];exact h
  | succ k ih =>
   rintro i hk prog w A R ⟨hp,g,d,tk,os⟩ ⟨hl,hb,h⟩;have l1:i<items.size:=by omega
   have l2:i<items2.size:=by omega
   obtain ⟨t1,e1⟩:=hx i l1;obtain ⟨t2,e2⟩:=hy i l2;have g1:items[((i:Nat):Int).toNat]?=some (.int (x i) t1):=by rw [<- e1];simp [l1]
   have g2:items2[((i:Nat):Int).toNat]?=some (.int (y i) t2):=by rw [<- e2];simp [l2]
   wp_walk using Yg hl,Yg hb
   rw [g1,g2];refine Qj (wpAny_eqBool_int ?_);unfold qmn at h;cases q:(x i==y i) with
   | true =>
    rw [q] at h
    wp_walk
    rw [show ((i:Int)+1)=((i+1:Nat):Int) by push_cast;rfl];exact ⟨plainId_quiet plain_eq_loop _,Qfr entry_eq_loop (by
     rw [Qgb plain_eq_loop _];exact ih (i+1) (by omega) prog w A R _ ⟨hl,hb,h⟩)⟩
   | false =>
    rw [q] at h
    wp_walk using Yg hl,Yg hb
    rw [g1,g2];dsimp only;refine Qj (wpAny_lt_int ?_)
    wp_walk
    exact h
open AutoSeq1 (wpAny_loadPart') in
open MeetsSeq MeetsSeq3 in
def zaiv (l b:Addr) (items items2:Array Value) (n n2:Nat) (hsz:items.size=items2.size) (x y:Nat->Int) (hx : ∀ j (h:j<items.size),∃ t,items[j] = .int (x j) t) (hy : ∀ j (h:j<items2.size),∃ t,items2[j] = .int (y j) t) :
 Meets (Builtin.«list.__lt__» ⟨[.ref l,.ref b],[]⟩)
 (fun _ R s=>s.heap.get? l=some { cls :=.type "list",dict:=none,data :=.seq items n,slots := #[] }/\s.heap.get? b=some { cls :=.type "list",dict:=none,data :=.seq items2 n2,slots := #[] } /\
  R (.ok (.ret (.bool (qmn x y items.size 0)))) s):=by
  rintro prog w A R ⟨hp,g,d,tk,os⟩ ⟨hl,hb,h⟩;have f3:=AutoSeq1.sub_list_list
  wp_walk using Yg hl,Yg hb
  exact ⟨plainId_quiet plain_eq_loop _,Qfr entry_eq_loop (by
   rw [Qgb plain_eq_loop _];exact zaio l b items items2 n n2 hsz x y hx hy _ 0 (by omega) prog w A R _ ⟨hl,hb,h⟩)⟩
def zals {prog:Zi}{w:World}{A:Zw}{E:Value->Qk->Prop}{s:Qk}{l b:Addr}{items items2:Array Value}{n n2:Nat}{x y:Nat->Int}{Q:Bool->Qk->Prop} (hu:A.units<cLine) (hl:s.heap.get? l=some { cls :=.type "list",data :=.seq items n }) (hb:s.heap.get? b=some { cls :=.type "list",data :=.seq items2 n2 })
 (hsz:items.size=items2.size) (hx : ∀ j (h:j<items.size),∃ t,items[j] = .int (x j) t) (hy : ∀ j (h:j<items2.size),∃ t,items2[j] = .int (y j) t) (h:Q (qmn x y items.size 0) s) :
 wpAny (model prog w) A (keyLt' oneType' (.ref l) (.ref b)) Q E s:=by
 rw [keyLt'_oneType,oneLt'_eq];simp only [if_true];refine Qj (wpAny_cRoomFor hu (Qj (wpAny_callSpecialIfBound?_slot (T := "list") ⟨_,hl,rfl⟩ F.slot_list_lt (Qfy F.slot_list_lt ⟨_,hl,rfl⟩ F.entry_list_lt (F.args_list_lt_2 _ _) (zaiv l b items items2 n n2 hsz x y hx hy) ⟨hl,hb,?_⟩))));exact Vv h
end
section
structure OwnA (X:Cx) (pins:List (Addr×Obj)) (a:Addr):Prop where
 l:a≠X.env.locals
 s:X.s₀.heap.objs.size<=a
 c : ∀ x c,X.env.cells.lookup x=some c->c≠a
 p : ∀ p ∈ X.pn++pins,p.1≠a
 f:a ∉ frs X.stack
section
variable {X:Cx}{pins:List (Addr×Obj)}{σ:St}{H:Hp}{s:Qk}
def zach (I:Inv X pins σ H s) {a:Addr} (h:s.heap.objs.size<=a):OwnA X pins a:=by
 have lt : ∀ b o,s.heap.get? b=some o->b≠a:=fun b o e z=>absurd (Qw e) (Vo.mpr (z ▸ h));refine ⟨fun z=>?_,Zr I.sz h,fun x c e z=>?_,fun p hp z=>?_,fun z=>?_⟩
 ·obtain ⟨m,⟨o,es,ep,ho,_⟩,_⟩:=I.loc;exact lt _ _ ho z.symm
 ·obtain ⟨v,o,ho,_⟩:=I.cell x c e;exact lt _ _ ho z
 ·exact lt _ _ (I.pin p hp).1 z
 ·obtain ⟨_,o,ho,_⟩:=I.stack.mem z;exact lt _ _ ho rfl
def Inv.own (I:Inv X pins σ H s) {a:Addr} (o:OwnA X pins a) (hn:H a=none) {h':Heap}{t':Nat} (k : ∀ b u,b≠a->s.heap.get? b=some u->h'.get? b=some u):Inv X pins σ H { s with heap:=h',toks:=t' } :=
 I.turned (it:=a) k hn o.l (.inr o.s) o.c o.p
def KeyAt (b:Bool) (kl:Nat->List Int) (i:Nat) (r:Value) (H:Hp):Prop:=match b with
 | true => ∃ p,r = .ref p/\H p=some (.lst ((kl i).map V.int))
 | false => ∃ n t,r = .int n t/\kl i=[n]
def KeyAt.mono {b:Bool}{kl:Nat->List Int}{i:Nat}{r:Value}{H H':Hp} (h:KeyAt b kl i r H) (s:Same H H'):KeyAt b kl i r H':=by
 cases b with
 | true=>obtain ⟨p,e,hp⟩:=h;exact ⟨p,e,s.at hp⟩
 | false=>exact h
def qec {h:Heap}{a b:Addr}{u:Obj} (g:Obj->Obj) (hb:b≠a) (e:h.get? b=some u):(h.update a g).get? b=some u:=(Qbq _ _ (V7 hb)).trans e
def qid (X:Cx) (pins:List (Addr×Obj)) (σ:St) (A:Zw) (f:Value) (vs:List Value) (b:Bool) (kl:Nat->List Int) (G:Hp->Prop):Prop := ∀ (i:Nat) (u:Value) (H:Hp) (s:Qk),vs[i]?=some u->Inv X pins σ H s->G H ->
 wpAny (model X.prog X.w) A (call f [u]) (fun r s' => ∃ H',Inv X pins σ H' s'/\Un (frs X.stack) [] H H' s.heap s'.heap/\Same H H'/\G H'/\KeyAt b kl i r H') (fun _ _=>False) s
def qJ (kl:Nat->List Int) (m:Nat) (i j:Nat):Bool:=qmn (fun k=>(kl i).getD k 0) (fun k=>(kl j).getD k 0) m 0
variable {A:Zw}{E:Value->Qk->Prop}{f:Value}{vs:List Value}{kl:Nat->List Int}{G:Hp->Prop}{m:Nat}{a kS:Addr}{e1:Nat}{b:Bool}{P:Qiz->Qk->Prop}
def qnj (X:Cx) (pins:List (Addr×Obj)) (σ:St) (vs:List Value) (kl:Nat->List Int) (G:Hp->Prop) (m:Nat) (a:Addr) (H:Hp) (P:Qiz->Qk->Prop):Prop :=
 ∀ (p:Array Nat) (H':Hp) (s':Qk) (c:Nat),PmN vs.length p->SrtN (qJ kl m) p vs.length->Inv X pins σ H' s'->Same H H'->G H'->H' a=none->s'.heap.get? a=some (Vh "list" (p.toList.map fun i=>vs.getD i .none).toArray c)->P (.done (.ret .none)) s'
def qra {ks:List Value}{ek:Nat}{p:Array Nat}{st:SortSt}{H0:Hp} (I:Inv X pins σ H s) (oa:OwnA X pins a) (ok:OwnA X pins kS) (na:H a=none) (nk:H kS=none) (ne:kS≠a) (h64:vs.length<64) (kz:ks.length<64) (ha:s.heap.get? a=some (Vh "list" #[] e1)) (hk:s.heap.get? kS=some (Vh "list" ks.toArray ek))
 (hp:PmN vs.length p) (hs:SrtN (qJ kl m) p vs.length) (sm:Same H0 H) (g:G H) (hout:(arrOf st).map (·.2)=(p.toList.map fun i=>vs.getD i .none).toArray) (hf:failedOf st=none) (h:qnj X pins σ vs kl G m a H0 P) :
 wpAny (model X.prog X.w) A (ksk_tail a false e1 (.ref kS) st) P E s:=by
  unfold ksk_tail;dsimp only;rw [hout];have I1:=I.own (a:=kS) (t':=s.toks) (h':=s.heap.update kS (Yh fun _=>(#[]:Array Value))) ok nk fun b u hb e=>qec _ hb e;have ha1:(s.heap.update kS (Yh fun _=>(#[]:Array Value))).get? a=some (Vh "list" #[] e1):=qec _ (V7 ne) ha;have lz:(p.toList.map fun i=>vs.getD i Jb).toArray.size=vs.length:=by rw [Qz,Qe,Zf,hp.s]
  refine Qj (Qes hk rfl ?_ (by rw [Qz,Z0];omega) (Vg _));refine Qj (wpAny_letGo ?_);refine Qj (seqEpoch_at ha1 rfl ?_);refine Qj (Qes ha1 rfl ?_ (Vg _) (Zr (Qff lz) (by rw [Z0];omega)));rw [hf];simp only [bne_self_eq_false,Qbh,if_false];have I2:=I1.own (a:=a) (t':=s.toks) (h':=(s.heap.update kS (Yh fun _=>(#[]:Array Value))).update a (Yh fun _=>(p.toList.map fun i=>vs.getD i Jb).toArray)) oa na fun b u hb e=>qec _ hb e;exact Q1 (h p H _ _ hp hs I2 sm g na (Qfs ha1 fun _=>_))
def qsd {i:Nat}{r:Value} (I:Inv X pins σ H s) (hk:KeyAt true kl i r H) : ∃ p its n,r = .ref p/\s.heap.get? p=some { cls :=.type "list",data :=.seq its n }/\its.size=(kl i).length /\ ∀ j (h:j<its.size),∃ t,its[j] = .int ((kl i).getD j 0) t:=by
 obtain ⟨p,rfl,e⟩:=hk;obtain ⟨_,its,n,rv,ho⟩:=I.hok p _ e;have hl:its.length=(kl i).length:=by rw [<- rv.length,Qe]
 refine ⟨p,its.toArray,n,rfl,ho,by rw [Qz];exact hl,fun j h=>?_⟩;rw [Qz] at h;have hj:((kl i).map V.int)[j]?=some (.int ((kl i).getD j 0)):=by
  rw [Qa,Qc (by omega)];simp [Qfg,Qc (show j<(kl i).length by omega)]
 obtain ⟨u,hu,t,ru⟩:=rv.get hj;refine ⟨t,?_⟩;rw [Qc h] at hu;rw [List.getElem_toArray];rw [<- ru];exact Qn hu
def zadh {ks:List Value}{ek:Nat}{H0:Hp} (hu:A.units<cLine) (o:OrdN vs.length (qJ kl m)) (hm : ∀ i,i<vs.length->(kl i).length=m) (I:Inv X pins σ H s) (oa:OwnA X pins a) (ok:OwnA X pins kS) (na:H a=none) (nk:H kS=none) (ne:kS≠a) (h64:vs.length<64) (kz:ks.length=vs.length)
 (ha:s.heap.get? a=some (Vh "list" #[] e1)) (hk:s.heap.get? kS=some (Vh "list" ks.toArray ek)) (hks : ∀ i,i<vs.length->KeyAt b kl i (ks.getD i .none) H) (sm:Same H0 H) (g:G H) (h:qnj X pins σ vs kl G m a H0 P) :
 wpAny (model X.prog X.w) A (ksk_end a false vs.toArray e1 (.ref kS) ks.toArray) P E s:=by
  unfold ksk_end;dsimp only;simp only [Qbh,if_false];by_cases h2:vs.length<2
  ·have c:vs.toArray.size<2:=by rw [Qz];exact h2
   rw [if_pos c,if_pos c];refine Qj (Q1 (Qj ?_));rw [StateT.run_pure];refine Q1 ?_;refine qra (p:=Qkf (Qx vs.length)) (st:=SortSt.mk' general' (ks.toArray.zip vs.toArray) #[] 7 none) I oa ok na nk ne h64 (by omega) ha hk ⟨by simp,by simp⟩ (fun k k1 k2=>by omega) sm g ?_ rfl h;show (ks.toArray.zip vs.toArray).map (·.2)=_;apply Array.toList_inj.mp;refine Z1 fun i=>?_;simp only [Array.toList_map,Array.toList_zip,Qa,Q5];by_cases hi:i<vs.length
   ·have e1:ks[i]?=some (ks[i]'(by omega)):=Qc _;have e2:vs[i]?=some vs[i]:=Qc hi;have e3:(ks.zip vs)[i]?=some (ks[i]'(by omega),vs[i]):=Qdr.mpr ⟨e1,e2⟩;rw [e3];simp [hi]
   ·rw [Qy (by simp;omega)];simp [hi]
  ·have c : ¬ vs.toArray.size<2:=by rw [Qz];exact h2
   rw [if_neg c,if_neg c];have g2:2<=ks.length:=by omega
   have kindOk : ∃ T:Value,(∀ v ∈ ks,Looks (model X.prog X.w) s.heap (typeOf v) T)/\(T != Qdy "tuple")=true/\(T==T)=true:=by
    have each : ∀ v ∈ ks,∃ i,i<vs.length/\ks.getD i .none=v:=fun v hv=>by
     obtain ⟨i,hi⟩:=List.getElem?_of_mem hv;have hlt:i<ks.length:=(Qg.mp hi).1;exact ⟨i,by omega,by simp [Qfg,hi]⟩
    cases b with
    | true =>
     refine ⟨.type "list",fun v hv=>?_,by decide,by decide⟩;obtain ⟨i,hi,eg⟩:=each v hv;obtain ⟨p,its,n,er,ho,_,_⟩:=qsd I (hks i hi);rw [<- eg,er];exact (Looks.ld ho).andThen .now
    | false =>
     refine ⟨.type "int",fun v hv=>?_,by decide,by decide⟩;obtain ⟨i,hi,eg⟩:=each v hv;obtain ⟨n,t,er,_⟩:=hks i hi;rw [<- eg,er];exact .now
   obtain ⟨T,hT,hT1,hT2⟩:=kindOk;refine Qj (kas_kind (T:=T) g2 hT hT1 hT2 ?_);refine Qj (Z4 (kat_run (Q:=fun st' s'=>s'=s /\ ∃ p:Array Nat,PmN vs.length p/\SrtN (qJ kl m) p vs.length/\arrOf st'=p.map (kas_item (ks.toArray.zip vs.toArray))/\failedOf st'=none) (G:=fun p s'=>s'=s/\PmN vs.length p/\SrtN (qJ kl m) p vs.length) kz (by omega) h64 (fun p st' s' a1 a2 a3 a4=>⟨a4.1,p,a4.2.1,a4.2.2,a2,a3⟩) ?_) ?_ fun _ _ z=>z)
   ·refine zajl o (fun i j C hi hj hC=>?_) (by omega) fun p hp hs=>⟨rfl,hp,hs⟩
    cases b with
    | true =>
     obtain ⟨p,its,n,er,ho,z1,x1⟩:=qsd I (hks i hi);obtain ⟨p',its',n',er',ho',z2,x2⟩:=qsd I (hks j hj);unfold kas_ask;rw [er,er'];refine zals hu ho ho' (by rw [z1,z2,hm i hi,hm j hj]) x1 x2 ?_;rw [z1,hm i hi];exact hC
    | false =>
     obtain ⟨n,t,er,z1⟩:=hks i hi;obtain ⟨n',t',er',z2⟩:=hks j hj;unfold kas_ask;rw [er,er'];refine kat_lt_int ?_;have m1:m=1:=by rw [<- hm i hi,z1];rfl
     have e:qJ kl m i j=decide (n<n'):=by
      unfold qJ;rw [m1,z1,z2];show (if n==n' then false else decide (n<n'))=_;split
      ·rename_i q;rw [decide_eq_false];have:=eq_of_beq q;omega
      ·rfl
     rw [e] at hC;exact hC
   ·rintro ⟨⟨⟩,st'⟩ s' ⟨rfl,p,hp,hs,har,hf⟩;exact qra I oa ok na nk ne h64 (by omega) ha hk hp hs sm g (kat_snds kz har) hf h
def zaah {H0:Hp} (hu:A.units<cLine) (hc:qid X pins σ A f vs b kl G) (o:OrdN vs.length (qJ kl m)) (hm : ∀ i,i<vs.length->(kl i).length=m) (I:Inv X pins σ H s) (oa:OwnA X pins a) (ok:OwnA X pins kS) (na:H a=none) (nk:H kS=none) (ne:kS≠a) (h64:vs.length<64)
 (ha:s.heap.get? a=some (Vh "list" #[] e1)) (hk:s.heap.get? kS=some (Vh "list" #[] 0)) (sm:Same H0 H) (g:G H) (h:qnj X pins σ vs kl G m a H0 P) :
 wpAny (model X.prog X.w) A (ksk_rest a f false vs.toArray e1 (.ref kS)) P E s:=by
  unfold ksk_rest;refine Qj (Qid ?_);rw [List.forIn_toArray];refine Qj (ksk_fold (fun i s' => ∃ (H':Hp) (ks:List Value) (ek:Nat),Inv X pins σ H' s'/\Same H0 H'/\G H'/\H' a=none/\H' kS=none/\s'.heap.get? a=some (Vh "list" #[] e1)/\s'.heap.get? kS=some (Vh "list" ks.toArray ek)/\ks.length=i /\ ∀ j,j<i->KeyAt b kl j (ks.getD j .none) H') vs 0 s
   ⟨H,[],0,I,sm,g,na,nk,ha,hk,rfl,fun j z=>absurd z (Nat.not_lt_zero _)⟩ ?_ ?_)
  ·rintro j x s1 hx ⟨H1,ks,ek,I1,sm1,g1,na1,nk1,ha1,hk1,kl1,ky1⟩;rw [Qfh] at kl1 ky1;have jl:j<vs.length:=(Qg.mp hx).1;refine Qj (Qhl (Z4 (hc j x H1 s1 hx I1 g1) (fun r s2 z=>?_) fun _ _ z=>z.elim));obtain ⟨H2,I2,un,sm2,g2,ky2⟩:=z;have ha2:s2.heap.get? a=some (Vh "list" #[] e1):=un.keep a _ ha1 na1 oa.f (by simp);have hk2:s2.heap.get? kS=some (Vh "list" ks.toArray ek):=un.keep kS _ hk1 nk1 ok.f (by simp);have na2:H2 a=none:=un.free a _ ha1 na1 (by simp);have nk2:H2 kS=none:=un.free kS _ hk1 nk1 (by simp);dsimp only;refine Qj (Qes hk2 rfl ?_ (by rw [Qz,Z0];omega) (Zr (Qff (Array.size_push ..)) (by rw [Qz,Z0];omega)));have I3:=I2.own (a:=kS) (t':=s2.toks) (h':=s2.heap.update kS (Yh (·.push r))) ok nk2 fun b u hb e=>qec _ hb e;have ea:ks.toArray.push r=(ks++[r]).toArray:=by simp
   refine Q1 ⟨rfl,H2,ks++[r],_,I3,sm1.trans sm2,g2,na2,nk2,qec _ (V7 ne) ha2,by rw [<- ea];exact Qfs hk2 (·.push r),by rw [Yk,kl1,Qfh];rfl,fun i hi=>?_⟩;rw [Qfh] at hi;by_cases z:i<j
   ·have:(ks++[r]).getD i Jb=ks.getD i .none:=by simp [Qfg,Yv (show i<ks.length by omega)]
    rw [this];exact (ky1 i z).mono sm2
   ·have:i=j:=by omega
    subst this;have:(ks++[r]).getD i Jb=r:=by simp [Qfg,<- kl1]
    rw [this];exact ky2
  ·rintro s1 ⟨H1,ks,ek,I1,sm1,g1,na1,nk1,ha1,hk1,kl1,ky1⟩;rw [Qfh] at kl1 ky1;refine Qj (listItems_at hk1 rfl ?_);exact zadh hu o hm I1 oa ok na1 nk1 ne h64 kl1 ha1 hk1 ky1 sm1 g1 h
def qng {n0:Nat} (hu:A.units<cLine) (hc:qid X pins σ A f vs b kl G) (o:OrdN vs.length (qJ kl m)) (hm : ∀ i,i<vs.length->(kl i).length=m) (I:Inv X pins σ H s) (oa:OwnA X pins a) (na:H a=none) (h64:vs.length<64) (ha:s.heap.get? a=some (Vh "list" vs.toArray n0)) (g:G H)
 (h:qnj X pins σ vs kl G m a H P):wpAny (model X.prog X.w) A (ksk_tree a f false) P E s:=by
  unfold ksk_tree;have I1:=I.own (a:=a) (t':=s.toks) (h':=s.heap.update a (Yh fun _=>(#[]:Array Value))) oa na fun b u hb e=>qec _ hb e;obtain ⟨e1,ha1⟩ : ∃ e1,(s.heap.update a (Yh fun _=>(#[]:Array Value))).get? a=some (Vh "list" #[] e1):=⟨_,Qfs ha fun _ => #[]⟩
  refine Qj (listItems_at ha rfl ?_);refine Qj (Qes ha rfl ?_ (by rw [Qz,Z0];omega) (Vg _));refine Qj (seqEpoch_at ha1 rfl ?_);refine Qj (wpAny_newTuple ?_ (by show vs.length<=_;rw [Z0];omega));refine Qj (Qhm ?_ (Vg _));refine Qbm ?_;have kp : ∀ b u,(s.heap.update a (Yh fun _=>(#[]:Array Value))).get? b=some u->(((s.heap.update a (Yh fun _=>(#[]:Array Value))).push (Vh "tuple" vs.toArray 0)).push (Vh "list" #[] 0)).get? b=some u:=fun b u e=>Qo _ (Qo _ e);have I2:=I1.kept (t':=s.toks) (h':=((s.heap.update a (Yh fun _=>(#[]:Array Value))).push (Vh "tuple" vs.toArray 0)).push (Vh "list" #[] 0)) kp;have big:(s.heap.update a (Yh fun _=>(#[]:Array Value))).objs.size<=((s.heap.update a (Yh fun _=>(#[]:Array Value))).push (Vh "tuple" vs.toArray 0)).objs.size:=by rw [Vs];omega
  have okS:=zach I1 big;have nkS:H ((s.heap.update a (Yh fun _=>(#[]:Array Value))).push (Vh "tuple" vs.toArray 0)).objs.size=none:=I1.hok.fresh big;exact zaah (s:={ s with heap:=((s.heap.update a (Yh fun _=>(#[]:Array Value))).push (Vh "tuple" vs.toArray 0)).push (Vh "list" #[] 0) }) hu hc o hm I2 oa okS na nkS (fun z=>absurd (Qw ha1) (Vo.mpr (Zr big (Qff z)))) h64 (kp _ _ ha1) (Q8 _ rfl) (.refl _) g h
end
end
section
section
variable {X:Cx}{pins:List (Addr×Obj)}{σ:St}{H:Hp}{s:Qk}
def Inv.track {a:Addr}{u:HO} (I:Inv X pins σ H s) (o:OwnA X pins a) (hn:H a=none) (new:ObjOk X.prog X.w (upd H a u) s.heap a u):Inv X pins σ (upd H a u) s:=by
 have up : ∀ b v,H b=some v->upd H a u b=some v:=fun b v e=>by rw [qk (qx e hn)];exact e
 refine ⟨I.ok,I.os,I.bare,⟨I.base.keep,I.base.slot,fun b o' e n hx=>?_,I.base.there,fun b xs e=>up _ _ (I.base.tups b xs e),fun b o' xs e=>up _ _ (I.base.frzs b o' xs e),fun b ps e=>?_⟩,I.loc,I.cell,?_,fun x c e=>?_,fun p hp=>?_,fun b v e=>?_,I.len⟩
 ·have hb:b≠a:=fun z=>absurd (Qw e) (Vo.mpr (by rw [z];exact o.s));rw [qk hb];exact I.base.free b o' e n hx
 ·obtain ⟨more,q,gm⟩:=I.base.tbls b ps e;exact ⟨more,up _ _ q,gm.mono fun b o u z=>up _ _ z⟩
 ·rw [qk (V7 o.l)];exact I.free
 ·rw [qk (o.c x c e)];exact I.freeC x c e
 ·obtain ⟨a1,a2,a3⟩:=I.pin p hp;exact ⟨a1,(qk (o.p p hp)).trans a2,a3⟩
 ·by_cases z:b=a
  ·subst z;rw [qp] at e;cases e;exact new
  ·rw [qk z] at e;exact (I.hok b v e).stay (fun c ob _ q=>q) (fun c q=>up _ _ q) (fun c xs q=>up _ _ q)
variable {K':Type} [DecidableEq K'] {knd:KeyKind X.prog X.w K'}{E:Value->Qk->Prop}{f:Addr}{kvs:List (K'×Value)}{ep:Nat}{kl:Nat->List Int}{G:Hp->Prop}{m:Nat}{r d:Addr}{Q:Value->Qk->Prop}
end
end
section
def DictIs (h:Heap) (d:Addr) (es:Array Qde) (ep:Nat):Prop := ∃ o,h.get? d=some o/\o.ExactDict/\o.data = .dict es ep
def DictIs.at {h h':Heap}{d:Addr}{es:Array Qde}{ep:Nat} (x:DictIs h d es ep) (k : ∀ o,h.get? d=some o->h'.get? d=some o):DictIs h' d es ep:=let ⟨o,ho,r⟩:=x; ⟨o,k _ ho,r⟩
section
variable {prog:Zi}{w:World}{A:Zw}{E:Value->Qk->Prop}{s:Qk}{it v d:Addr}{es:Array Qde}{i ep:Nat}
def zabj {Q:Value->Qk->Prop} (hv:s.heap.IsValuesView v d) (hD:DictIs s.heap d es ep)
 (h:Q (.ref s.heap.objs.size) { s with heap:=s.heap.push { cls :=.type "dict_valueiterator",data :=.fields #[.ref d,.int 0 0,.int es.size 0,.int ep 0] } }):wpAny (model prog w) A (pyIter (.ref v)) Q E s:=by
  obtain ⟨ov,g1,_,g2⟩:=id hv;obtain ⟨od,g3,_,g4⟩:=id hD;have own:J4 "dict_valueiterator" = false:=by decide
  refine wpAny_pyIter_slot hv.typeIs Qel (V0 Qel hv.typeIs F.entry_dict_values_iter ?_ (F.args_dict_values_iter_1 _));unfold Builtin.«dict_values.__iter__» Qjl Qie;have step : ∀ (Q':Qiz->Qk->Prop),Q' (.done (.ret (.ref s.heap.objs.size))) { s with heap:=s.heap.push { cls :=.type "dict_valueiterator",data :=.fields #[.ref d,.int 0 0,.int es.size 0,.int ep 0] } }->True:=fun _ _=>trivial;refine Qj (Q1 (Qj (Qj (Qet g1 g2 (x :=.ref d) rfl (Q1 (Qj (Qj (Qcb g3 g4 (Qj (Qfw g3 g4 ?_))))))))));simp only [own,Qbh,if_false];refine Vu (Q1 ⟨_,rfl,"dict_valueiterator",_,⟨_,Q8 _ rfl,rfl⟩,Yt.lookup,?_⟩);simpa [Qhk] using h
def zaao {Q:Option Value->Qk->Prop}{e:Qde} (hit:s.heap.IsValIter it d i es.size ep) (hD:DictIs s.heap d es ep) (hx:es[i]?=some e)
 (h : ∀ h',h'.IsValIter it d (i+1) es.size ep->Qay it s.heap h'->Q (some e.val) { s with heap:=h' }):wpAny (model prog w) A (Qik (.ref it)) Q E s:=by
  obtain ⟨o,g1,g2,g3⟩:=id hit;obtain ⟨od,g4,_,g5⟩:=id hD;have own:J4 "dict_valueiterator" = false:=by decide
  have lt:i<es.size:=(Array.getElem?_eq_some_iff.mp hx).1;unfold Qik;refine Qj (Qhl (Js (name:=Qq "__next__") hit.typeIs Yt (V0 Yt hit.typeIs Qbw ?_ (Qbn _))))
  wp_walk using Vq hit.typeIs,wpAny_fieldsOf g1 g3,Qcb g4 g5,Qfw g4 g5,Qab hit.typeIs
  rw [show (if ((i:Nat):Int)<0 then none else es[((i:Nat):Int).toNat]?)=some e by rw [if_neg (by omega),Qed];exact hx];have it2:(s.heap.update it (Qjw (·.setIfInBounds 1 (Qhk ((i:Int)+1))))).IsValIter it d (i+1) es.size ep :=
   ⟨_,Qfi _ g1 (Obj.isFreed_of_fields (Qhb g3 _)),(Obj.cls_mapFields ..).trans g2,by rw [Qhb g3];simp [Qhk]⟩
  refine Qj (Qj (Vq hit.typeIs (Q1 (Qj (Qab hit.typeIs ?_)))));show wpAny _ _ (setField (.ref it) 1 (Qhk ((i:Int)+1)) >>= _) _ _ s;refine Qj (wpAny_setField g1 g3 (by simp) ?_)
  wp_walk using Qab (s:={ s with heap:=s.heap.update it (Qjw (·.setIfInBounds 1 (Qhk ((i:Int)+1)))) }) it2.typeIs
  exact ⟨_,rfl,Q1 (h _ it2 (Jo ..))⟩
def zafb {Q:Option Value->Qk->Prop} (hh:A.handled=none) (hit:s.heap.IsValIter it d i es.size ep) (hD:DictIs s.heap d es ep) (hx:es.size<=i)
 (h : ∀ h',Heap.ExtBut it s.heap h'->Q none { s with heap:=h' }):wpAny (model prog w) A (Qik (.ref it)) Q E s:=by
  obtain ⟨o,g1,g2,g3⟩:=id hit;obtain ⟨od,g4,_,g5⟩:=id hD;have own:J4 "dict_valueiterator" = false:=by decide
  unfold Qik;refine Qj (Qhl (Js (name:=Qq "__next__") hit.typeIs Yt (V0 Yt hit.typeIs Qbw ?_ (Qbn _))))
  wp_walk using Vq hit.typeIs,wpAny_fieldsOf g1 g3,Qcb g4 g5,Qfw g4 g5,Qab hit.typeIs
  rw [show (if ((i:Nat):Int)<0 then none else es[((i:Nat):Int).toNat]?)=none by rw [if_neg (by omega),Qed];exact Qbr hx];refine Qj (Qj (Vq hit.typeIs (Q1 ?_)));show wpAny _ _ (setField (.ref it) 0 .none >>= _) _ _ s;refine Qj (wpAny_setField g1 g3 (by simp) ?_)
  wp_walk
  simp only [raiseNew];refine Qj (wpAny_handled ?_);rw [show A.in1.handled=none from hh];refine Qj (Q1 (wpAny_throw ?_));refine Qj (wpAny_isInstance (T := "StopIteration") (b:=true) ⟨_,Q8 _ rfl,rfl⟩ isSubtype_stop ?_);exact Q1 (h _ (((Jo ..).extBut.push _).push _))
def qrs (hh:A.handled=none) (I d:Addr) (hne:d≠I) (es:Array Qde) (ep:Nat):Walks prog w A I [I,d] [I] es.size (fun i v => ∃ e,es[i]?=some e/\e.val=v) (fun i h=>h.IsValIter I d i es.size ep/\DictIs h d es ep) where
 sub:=fun b hb=>by simp at hb;simp [hb]
 frame:=fun _ _ _ st hk=>⟨st.1.at fun o e=>hk I (by simp) o e,st.2.at fun o e=>hk d (by simp) o e⟩
 item:=fun i s Q E hi st hQ=>by
  have hx:es[i]?=some es[i]:=Vj hi;refine zaao st.1 st.2 hx fun h' i2 sb=>hQ _ h' s.toks ⟨_,hx,rfl⟩ ⟨i2,st.2.at fun o e=>sb.extBut d o hne e⟩ fun b o hb e=>sb.extBut b o (fun z=>hb (by simp [z])) e
 done:=fun s Q E st hQ=>zafb hh st.1 st.2 (Qr _) fun h' k=>hQ h' s.toks fun b o hb e=>k b o (fun z=>hb (by simp [z])) e
 self:=fun _ _ _ _ st hQ=>wpAny_pyIter_valiter st.1 hQ
def qwq {r:Addr}:KdlSrc prog w "dict_values" r d es.size (fun i v => ∃ e,es[i]?=some e/\e.val=v) (fun h=>h.IsValuesView r d/\DictIs h d es ep) where
 type:=fun _ hm=>hm.1.typeIs
 there:=fun _ hm=>⟨let ⟨_,ho,_⟩:=hm.1;Qw ho,let ⟨_,ho,_⟩:=hm.2;Qw ho⟩
 keep:=fun _ _ hm hk=>⟨let ⟨o,ho,x⟩:=hm.1; ⟨o,hk r (.inl rfl) o ho,x⟩,hm.2.at fun o e=>hk d (.inr rfl) o e⟩
 notList:=by decide
 notTuple:=by decide
 hint:=fun _ _ _ _ hm hq=>kdl_hint_values hm.1.typeIs hq
 iter:=fun _ _ hh hm=>⟨_,_,(fun _ _ hq=>zabj hm.1 hm.2 hq),qrs hh _ d (Za (let ⟨_,ho,_⟩:=hm.2;Qw ho)) es ep,⟨⟨_,Q8 _ rfl,rfl,rfl⟩,hm.2.at fun o e=>Qo _ e⟩⟩
end
end
section
section
variable {prog:Zi}{w:World}{K:Type} [DecidableEq K] {knd:HeapKind prog w K}{A:Zw}{E:Value->Qk->Prop}{s:Qk}{d a:Addr}{xs:List (K×Addr×Value)}{k:K}{dv:Value}
def quq {Q:Value->Qk->Prop} (hu:knd.room A) (hk:knd.is s.heap k a) (hm:s.heap.DictOfH knd d xs) (hz:xs.length<=Zb) (h1 : ∀ p,atKey xs k=some p->Q p.2 { s with toks:=s.toks+knd.draws k })
 (h2:atKey xs k=none -> ∀ h',h'.DictOfH knd d (storedH xs k a dv)->Qay d s.heap h'->Q dv { s with heap:=h',toks:=s.toks+knd.draws k }):wpAny (model prog w) A (Qgj d (.ref a) dv) Q E s:=by
 obtain ⟨o,es,ep,ho,hx,hd,he,his,hn⟩:=hm;unfold Qgj;refine Qbm (Qj (knd.pyHash hu hk (Qj (wpAny_dictFind_heap (s:={ s with toks:=s.toks+knd.draws k }) hu hk ho hd he his hn (fun no=>?_) fun j p hj=>?_))))
 ·have an:=atKey_none_of_get no;have nm:=not_mem_keys_of_get no;refine Qj (Qid (Qj (wpAny_updateDictKeys (hz:=by have e:=size_of_entries he;omega) (s:={ s with toks:=s.toks+knd.draws k }) ho hd (Q1 (h2 an _ ?_ (Jo ..))))));rw [storedH_new an];refine ⟨_,_,ep+1,Qfi _ ho (Obj.isFreed_of_dict (Qgc hd _)),hx.mapDictKeys _,Qgc hd _,by simp [he,entryOfKey],fun x mx=>?_,?_⟩
  ·rcases Zd.mp mx with m|m
   ·exact knd.keeps (his x m) ho hd (Jo ..)
   ·rw [Qp.mp m];exact knd.keeps hk ho hd (Jo ..)
  ·rw [Q9,Qad];refine ⟨hn,by simp,fun x mx y my e=>nm ?_⟩;have:y=k:=by simpa using my
   rw [<- this,<- e];exact mx
 ·refine Qj (Qcb (s:={ s with toks:=s.toks+knd.draws k }) ho hd ?_);rw [entry_at he j,hj];exact Qj (Qid (Q1 (h1 p (atKey_of_get hn hj))))
def qtt {Q:Value->Qk->Prop} (hu:knd.room A.in1) (hk:knd.is s.heap k a) (hy:(d==Qah)=false) (hm:s.heap.DictOfH knd d xs) (hz:xs.length<=Zb) (h1 : ∀ p,atKey xs k=some p->Q p.2 { s with toks:=s.toks+knd.draws k })
 (h2:atKey xs k=none -> ∀ h',h'.DictOfH knd d (storedH xs k a dv)->Qay d s.heap h'->Q dv { s with heap:=h',toks:=s.toks+knd.draws k }):wpAny (model prog w) A (call (.builtin "dict.setdefault") [.ref d,.ref a,dv]) Q E s:=by
 refine V0 F.slot_dict_setdefault hm.typeIs F.entry_dict_setdefault ?_ (F.args_dict_setdefault_3 _ _ _);unfold Builtin.«dict.setdefault» Builtin.Dict.keyAndDefault;refine Qj (Qj (Qfx hm.typeIs ?_));show wpAny _ _ (pure (d,Vw a,some dv)) _ _ s;refine Q1 ?_;show wpAny _ _ (if (d==Qah)=true then _ else (Qgj d (.ref a) dv >>= _)) _ _ s;rw [if_neg (by rw [hy];exact Zx)];exact Qj (quq hu hk hm hz (fun p e=>Q1 ⟨_,rfl,h1 p e⟩) fun an h' q sb=>Q1 ⟨_,rfl,h2 an h' q sb⟩)
end
section
variable {X:Cx}{pins:List (Addr×Obj)}{σ:St}{H:Hp}{s:Qk}{a b:Addr}{A:Zw}{E:Value->Qk->Prop}{kvs:List (List Key×V)}{k:List Key}{dv:V}{r:Value}
def zafl {Q:Value->Qk->Prop} (hu:A.units+1<cLine) (I:Inv X pins σ H s) (e:H a=some (.dT kvs)) (eb:H b=some (.tup (k.map kV))) (hl:kvs.length<Zb) (rd:RelV dv r)
 (h1 : ∀ v,qmo kvs k=some v -> ∀ u s',Inv X pins σ H s'->RelV v u->Q u s') (h2:qmo kvs k=none -> ∀ s',Inv X pins σ (upd H a (.dT (quv kvs k dv))) s'->Q r s') :
 wpAny (model X.prog X.w) A (call (.builtin "dict.setdefault") [.ref a,.ref b,r]) Q E s:=by
  obtain ⟨z,hd,xs,rel,dd⟩:=zaha I.hok e;have hz:xs.length<=Zb:=by rw [<- Qju rel];exact z
  have rv:=rel.val k;refine qtt (tupleKind_room_in1 hu) (zagc I.hok eb) hd dd hz (fun p ep=>?_) fun an h' dd' sb=>?_
  ·rw [ep] at rv;cases ev:qmo kvs k with
   | none=>rw [ev] at rv;exact rv.elim
   | some v=>rw [ev] at rv;exact h1 v ev _ _ (I.tok _) rv
  ·rw [an] at rv;cases ev:qmo kvs k with
   | some v=>rw [ev] at rv;exact rv.elim
   | none =>
    have l2:(quv kvs k dv).length<=Zb:=by have:=qub kvs k dv;omega
    refine h2 ev _ ?_;obtain ⟨q,es,ep,hq,g2,g3,g4,_,g5⟩:=dd';refine zajz I (by rw [e];exact Qbu) sb ⟨q,hq⟩ ⟨l2,hd,_,(rel.put k eb rd).keeps fun c ys ec=>?_,q,es,ep,hq,g2,g3,g4,g5⟩;rw [qk (zapb ec e (fun z=>nomatch z))];exact ec
end
end
section
section
variable {X:Cx}{pins:List (Addr×Obj)}{σ:St}{H:Hp}{s:Qk}{E:Value->Qk->Prop}{f:Addr}{es:Array Qde}{ep:Nat}{kl:Nat->List Int}{G:Hp->Prop}{m:Nat}{r d:Addr}{Q:Value->Qk->Prop}{vs:List Value}
def qxj {acc:Array Value} (h:ItemsOf (fun i v => ∃ e,es[i]?=some e/\e.val=v) acc es.size):acc.toList=es.toList.map (·.val):=by
 refine Z1 fun i=>?_;obtain ⟨h1,h2⟩:=h;rw [V4,Qa,V4];by_cases hi:i<es.size
 ·have e:acc[i]?=some (acc[i]'(by omega)):=Vj _;obtain ⟨k,hk,hv⟩:=h2 i _ e;rw [e,hk,<- hv];rfl
 ·rw [Qbr (by omega),Qbr (by omega)];rfl
def quk (hu:X.A.in1.in1.units<cLine) (hh:X.A.handled=none) (I:Inv X pins σ H s) (hv:s.heap.IsValuesView r d) (hd:DictIs s.heap d es ep) (ev:es.toList.map (·.val)=vs) (hn:vs.length<64) (hc:qid X pins σ X.A.in1.in1 (.ref f) vs true kl G) (o:OrdN vs.length (qJ kl m))
 (hm : ∀ i,i<vs.length->(kl i).length=m) (g:G H)
 (k : ∀ (p:Array Nat) (l:Addr) (H':Hp) (s':Qk) (c:Nat),PmN vs.length p->SrtN (qJ kl m) p vs.length->Inv X pins σ H' s'->Same H H'->G H'->OwnA X pins l->H' l=none->s'.heap.get? l=some (Vh "list" (p.toList.map fun i=>vs.getD i .none).toArray c)->Q (.ref l) s') :
 wpAny (model X.prog X.w) X.A (call (.builtin "sorted") [.ref r] [(Qq "key",.ref f)]) Q E s:=by
  subst ev;have zl:es.size=(es.toList.map (·.val)).length:=by rw [Qe,Zf]
  refine Qey kind_sorted plain_sorted entry_sorted (ksk_s1 _ _) ?_;unfold Builtin.«sorted»;refine Qj (m:=checkCount "sorted" 1 1 _) (Q1 (Qj (kdu_collect (T := "dict_values") (qwq (es:=es) (ep:=ep)) hh ⟨hv,hd⟩ (by rw [Z0];omega) fun h1 tk acc keep items=>?_)));rw [qxj items];have I1:=I.kept (t':=tk) keep;have hL:(h1.push (Vh "list" (es.toList.map (·.val)).toArray 0)).get? h1.objs.size=some (Vh "list" (es.toList.map (·.val)).toArray 0):=Q8 _ rfl;refine Qj (Qhm ?_ (by rw [Z0];omega));have I2:=I1.kept (t':=tk) (h':=h1.push (Vh "list" (es.toList.map (·.val)).toArray 0)) fun b u e=>Qo _ e;have ow:=zach I1 (Qr _);have nl:=I1.hok.fresh (Qr _);refine Qj (Qbm (Qgp slot_list_sort ⟨_,hL,rfl⟩ entry_list_sort ?_ (ksk_l1 _ _)));show wpAny (model X.prog X.w) X.A.in1.in1 (Builtin.«list.sort» ⟨[.ref h1.objs.size],[(Qq "key",.ref f)]⟩) _ _ _;rw [ksk_t1];refine qng hu hc o hm I2 ow nl hn hL g fun p H' s' c hp hs I' sm g' na ha=>?_;exact ⟨_,rfl,Q1 ⟨_,rfl,k p _ H' s' c hp hs I' sm g' ow na ha⟩⟩
end
section
variable {X:Cx}{o e f:Expr}{apos cpos:Pos}{td ty tx:TE}
def zafu (td ty tx:TE):TE:=fun σ H Q=>td σ H fun x H1 => ∃ a,x = .ref a/\IsD H1 a/\ty σ H1 fun y H2=>tx σ H2 fun z H3 => ∃ kvs k b,H3 a=some (.dT kvs)/\y = .ref b/\H3 b=some (.tup (k.map kV))/\kvs.length<Zb /\
 (∀ v,qmo kvs k=some v->Q v H3)/\(qmo kvs k=none->Q z (upd H3 a (.dT (quv kvs k z))))
def qww (hu:X.A.units+1<cLine) (ho:PE X o td) (he:PE X e ty) (hf:PE X f tx) (m:M2 X o "setdefault" apos e f cpos):PE X (.Call (.Attribute o "setdefault" apos) [e,f] [] cpos) (zafu td ty tx):=by
 intro pins s σ H Q I h;refine wpAny_Call_method m.base m.few m.line Qem PySem.F.slot_dict_setdefault PySem.F.type_dict_setdefault (thn (ho pins s σ H _ I h) fun u s1 xx168=>?_);obtain ⟨x,H1,I1,rx,a,ex,d,q1⟩:=xx168;subst ex;obtain rfl:u=Vw a:=rx;obtain ⟨t1,t2,_⟩:=zago I1 d;refine ⟨t1,t2,?_⟩;rw [m.trees];refine Qbp rfl (Qcq (J3 (thn (he pins s1 σ H1 _ I1 q1) fun iv s2 ⟨y,H2,I2,ry,q2⟩=>J3 (thn (hf pins s2 σ H2 _ I2 q2) fun fv s3 ⟨z,H3,I3,rz,kvs,k,b,ea,ey,eb,hl,q3,q4⟩=>Qbt ?_))));subst ey;obtain rfl:iv=Vw b:=ry;exact zafl hu I3 ea eb hl rz (fun v ev u s4 I4 ru=>⟨_,H3,I4,ru,q3 v ev⟩) fun ev s4 I4=>⟨_,_,I4,rz,q4 ev⟩
end
end
section
section
variable {X:Cx}{pins:List (Addr×Obj)}{σ:St}{H:Hp}{s:Qk}{a:Addr}{A:Zw}{E:Value->Qk->Prop}{kvs:List (List Key×V)}
abbrev qwl (d:Addr):Obj:={ cls :=.type "dict_values",data :=.fields #[.ref d] }
def zadm {Q:Value->Qk->Prop} (I:Inv X pins σ H s) (e:H a=some (.dT kvs)) (h:Q (.ref s.heap.objs.size) { s with heap:=s.heap.push (qwl a) }):wpAny (model X.prog X.w) A (call (.builtin "dict.values") [.ref a]) Q E s:=by
 obtain ⟨_,hd,xs,_,dd⟩:=zaha I.hok e;refine V0 F.slot_dict_values dd.typeIs F.entry_dict_values ?_ (F.args_dict_values_1 _);refine Qj ?_;unfold Builtin.Dict.noArgs;refine Qj (Qfx dd.typeIs ?_);show wpAny _ _ (pure a) _ _ s;refine Q1 ?_;show wpAny _ _ (Qfj a >>= _) _ _ s;unfold Qfj;rw [if_neg (by rw [hd];exact Zx)];exact Qj (Q1 (Qj (Vu (Q1 ⟨_,rfl,h⟩))))
def zaih (I:Inv X pins σ H s) (e:H a=some (.dT kvs)) : ∃ es ep,DictIs s.heap a es ep/\Vals (kvs.map (·.2)) (es.toList.map (·.val)):=by
 obtain ⟨_,_,xs,rel,o,es,ep,h1,h2,h3,h4,_,_⟩:=zaha I.hok e;refine ⟨es,ep,⟨o,h1,h2,h3⟩,?_⟩;rw [h4,Zz];have : ∀ {l:List (List Key×V)}{m:List (List Key×Addr×Value)},KT H l m->Vals (l.map (·.2)) (m.map ((·.val) ∘ entryOfKey (Qfv (qby X.prog X.w)))):=by
  intro l m q
  induction q with
  | nil=>exact .nil
  | @cons p q ps qs hq t ih=>exact .cons hq.2.2 ih
 exact this rel
end
section
variable {X:Cx}{pins:List (Addr×Obj)}{σ:St}{x y:Str}{scope:Scope}{params:Qcf}{body:Expr}{te:TE}{f cg c:Addr}{pm ct:Value}{vg:V}{vsV:List V}{vs:List Value}{kl:Nat->List Int}{G:Hp->Prop}{oc:Obj}{uu:HO}{fv:Array Value}{q:Str}{t:Tok}{nm qual:Str}{iy:Nat}
def zail (S:LamScope scope x y) (hh:X.A.handled=none) (room:X.A.in1.in1.depth<Vk) (hpin:(f,({ cls :=.type "function",data :=.func (kla_fn nm qual params body scope [(y,cg)] pm (.ref c) ct) }:Obj)) ∈ pins)
 (hb : ∀ u,Qcx (kla_fn nm qual params body scope [(y,cg)] pm (.ref c) ct) ⟨[u],[]⟩=pure [(x,u)]) (d1:oc.data = .fields fv) (d2:fv[1]?=some (.str q t)) (hcl:X.env.cells.lookup y=some cg) (hyk:X.env.kindOf y=some .cell) (hN:X.N[iy]?=some y) (hv:σ[iy]?=some (some vg)) (rv:Vals vsV vs)
 (hfr:X.A.in1.in1.frames=X.A.frames) (hhd:X.A.in1.in1.handled=X.A.handled)
 (he : ∀ s H,PE (cxL X.prog X.w X.K X.mg X.base q scope f (.ref c) [(y,cg)] [x,y] X.A.in1.in1 X.stack s H) body te)
 (hk : ∀ (i:Nat) (v:V) (H:Hp),vsV[i]?=some v->G H->te [some v,some vg] H fun r H'=>Same H H'/\G H' /\ ∃ p,r = .ref p/\H' p=some (.lst ((kl i).map V.int))) :
 qid X pins σ X.A.in1.in1 (.ref f) vs true kl (fun H=>G H/\H c=some (.frz oc uu)):=by
 intro i u H s hi I g;obtain ⟨g,ec⟩:=g;have li:i<vs.length:=(Qg.mp hi).1;have lv:i<vsV.length:=by rw [rv.length];exact li
 have ev:vsV[i]?=some vsV[i]:=Qc lv;obtain ⟨u',hu',ru⟩:=rv.get ev;rw [hi] at hu';have eu:=Qn hu';subst eu;obtain ⟨mm,ns,lk⟩:=I.loc;obtain ⟨ug,rg,look⟩:=lk iy y vg hN hv (.inr (.inl hyk));have hc:s.heap.IsCell cg (some ug):=by
  rcases look with ⟨z,_⟩|⟨_,c',e1,e2⟩
  ·rw [hyk] at z;cases z
  ·rw [hcl] at e1;rw [Qn e1];exact e2
 have e0:=I.env0;have e1:Env0 X.prog X.w X.K X.mg X.base X.A.in1.in1 X.stack s H:=⟨by rw [hfr];exact e0.frames,e0.mod,e0.bs,e0.bsz,e0.funs,e0.frf,e0.hok,e0.bare⟩
 have pf:=I.pin _ (Q4 _ hpin);refine Qic (Qcg (zakc (E:=fun _ _ _=>False) S (by rw [hhd];exact hh) e1 room pf.1 rfl (hb u) (I.hok c _ ec).1 d1 d2 hc (I.freeC y cg hcl) rg ru (he s H) (hk i _ H ev g)) fun r s' hr=>?_);cases r with
 | error e=>exact hr.elim
 | ok fl =>
  cases fl with
  | ret u2 =>
   obtain ⟨v',H',os,bare,un,hok,r',sm,g',p,ep,hp⟩:=hr;subst ep;obtain rfl:u2=Vw p:=r';exact ⟨H',I.call' os un hok bare (fun b z=>nomatch z),un,sm,⟨g',sm.at ec⟩,p,rfl,hp⟩
  | next=>exact hr.elim
  | brk=>exact hr.elim
  | cont=>exact hr.elim
end
def qkn {vsV:List V}{vs:List Value} (h:Vals vsV vs) : ∀ {l:List Nat},(∀ i ∈ l,i<vs.length)->Vals (l.map fun i=>vsV.getD i V.non) (l.map fun i=>vs.getD i Jb)
 | [],_ => .nil
 | i::l,k=>by
  have hi:=k i (by simp);have ev:vsV[i]?=some (vsV[i]'(by rw [h.length];exact hi)):=Qc _;obtain ⟨u,hu,ru⟩:=h.get ev;refine .cons ?_ (qkn h fun j hj=>k j (Qm _ hj));have a1:vsV.getD i V.non=(vsV[i]?).getD V.non:=by simp [Qfg]
  have a2:vs.getD i Jb=(vs[i]?).getD Jb:=by simp [Qfg]
  show RelV (vsV.getD i V.non) (vs.getD i Jb);rw [a1,a2,ev,hu];exact ru
def tSK (tb:Addr) (ig iy:Nat) (te:TE):TE:=fun σ H Q => ∃ (d:Addr) (kvs:List (List Key×V)) (vg:V) (kl:Nat->List Int) (m:Nat),(σ[ig]?=some (some (.ref d))/\σ[iy]?=some (some vg)/\H d=some (.dT kvs)/\kvs.length<64) /\
 OrdN (kvs.map (·.2)).length (qJ kl m)/\(∀ i,i<(kvs.map (·.2)).length->(kl i).length=m) /\ ∀ H1,TbGo tb H H1->Same H H1 -> ∃ G:Hp->Prop,G H1 /\
  (∀ (i:Nat) (v:V) (H2:Hp),(kvs.map (·.2))[i]?=some v->G H2->te [some v,some vg] H2 fun r H3=>Same H2 H3/\G H3 /\ ∃ p,r = .ref p/\H3 p=some (.lst ((kl i).map V.int))) /\
  ∀ (p:Array Nat) (l:Addr) (H3:Hp),PmN (kvs.map (·.2)).length p->SrtN (qJ kl m) p (kvs.map (·.2)).length->Same H1 H3->G H3->H3 l=none->H l=none->Q (.ref l) (upd H3 l (.lst (p.toList.map fun i=>(kvs.map (·.2)).getD i .non)))
section
variable {X:Cx}{x y g:Str}{scope:Scope}{params:Qcf}{body:Expr}{te:TE}{cg c0 tb:Addr}{ig iy:Nat}{np gp ap cp lp kp pos:Pos}
def qwo (hu:X.A.in1.in1.units<cLine) (hh:X.A.handled=none) (room:X.A.in1.in1.depth<Vk) (hT:TbS tb X.H₀) (hcode:X.env.code = .ref c0) (C:CodeHd X.base c0 tb) (hbt:X.base.BuiltinsAt X.mg tb) (hg:Gl X "sorted") (hm:X.mg "sorted" = none) (hvar:PE X (.Name g gp) (qxg ig)) (S:LamScope scope x y)
 (hcl:Qia scope X.env=pure [(y,cg)]) (hlk:X.env.cells.lookup y=some cg) (hyk:X.env.kindOf y=some .cell) (hN:X.N[iy]?=some y)
 (hb : ∀ nm qual pm c ct u,Qcx (kla_fn nm qual params body scope [(y,cg)] pm (.ref c) ct) ⟨[u],[]⟩=pure [(x,u)])
 (he : ∀ q f c s H,PE (cxL X.prog X.w X.K X.mg X.base q scope f (.ref c) [(y,cg)] [x,y] X.A.in1.in1 X.stack s H) body te)
 (hdef:defaultsOf params X.env=([],[]):=by rfl) (hfr:X.A.in1.in1.frames=X.A.frames:=by rfl) (hhd:X.A.in1.in1.handled=X.A.handled:=by rfl)
  (hbase:Qcw (.Name g gp) "values" X.env (eval (.Name g gp) X.env)=eval (.Name g gp) X.env:=by rfl)
  (hfew:((Ja cp (Qu [] X.env)).all (fun x => !x.1)&&(Qiu cp (Qer [] X.env)).all (fun x=>x.1.isSome)&&decide (([]:List Expr).length+([]:List Qdx).length+(if ([]:List Qdx).isEmpty then 0 else 1)<30))=true:=by rfl)
  (hline:(ap.endLine==cp.line)=true:=by rfl) :
  PE X (.Call (.Name "sorted" np) [.Call (.Attribute (.Name g gp) "values" ap) [] [] cp] [⟨some "key",.Lambda params body scope lp,kp⟩] pos) (tSK tb ig iy te):=by
  intro pins s σ H Q I h;obtain ⟨d,kvs,vg,kl,m,⟨e1,e2,ed,hn⟩,o,hm',rest⟩:=h;have T:=TbS.of I hT;refine V6 (qgk I hg hm boot_sorted ?_);refine callWith_kw ?_;show wpAny _ _ (spliced [(false,eval (.Call (.Attribute (.Name g gp) "values" ap) [] [] cp) X.env)]) _ _ s;refine J3 ?_;refine wpAny_Call_method hbase hfew hline Qem PySem.F.slot_dict_values PySem.F.type_dict_values (thn (hvar pins s σ H (fun v H'=>v = .ref d/\H'=H) I ⟨_,e1,rfl,rfl⟩) fun u s1 xx170=>?_);obtain ⟨v1,H1,I1,r1,ev,eH⟩:=xx170;subst ev;subst eH;obtain rfl:u=Vw d:=r1;obtain ⟨t1,t2,_⟩:=zago I1 (.inr ⟨kvs,.inl ed⟩);refine ⟨t1,t2,?_⟩;refine Qbp rfl (PySem.evalArgs_none ?_);refine zadm I1 ed ?_;have hkp : ∀ b u,s1.heap.get? b=some u->(s1.heap.push (qwl d)).get? b=some u:=fun b u e=>Qo _ e;have gv:(s1.heap.push (qwl d)).get? s1.heap.objs.size=some (qwl d):=Q8 _ rfl;have ow:=zach I1 (Qr _);have nv:=I1.hok.fresh (Qr _);have nfs:s1.heap.objs.size ∉ X.fs:=fun z=>ow.f (by
   rcases I1.ok.stk with q|⟨q,q2⟩
   ·rw [q];exact z
   ·rw [q];unfold frs;rw [Yz,q2];exact Qm _ z)
  have I2:=(I1.kept (t':=s1.toks) hkp).pinOne gv nv ow.l nfs (fun v z=>by cases z);refine Qbt ?_;refine kws_cons (kla_eval hdef (qvs I2 (TbS.of I2 hT) hcode C hbt hcl fun f c ct pm oc fv q t s3 H3 I3 go new hf xx169 d1 d2=>?_));obtain ⟨uu,ec⟩:=xx169;refine kws_nil ?_;show wpAny _ _ (call (.builtin "sorted") [.ref s1.heap.objs.size] [(Qq "key",.ref f)]) _ _ s3;obtain ⟨G,g0,hk,fin⟩:=rest H3 go (go.same (TbS.of I1 hT));have ne:d≠tb:=fun z=>by
   obtain ⟨ps,et,_⟩:=TbS.of I1 hT;rw [<- z,ed] at et;cases et
  have ed3:H3 d=some (.dT kvs):=go.h _ _ ne ed;obtain ⟨es,ep,hD,hV⟩:=zaih I3 ed3;have hvw:s3.heap.IsValuesView s1.heap.objs.size d:=⟨_,(I3.pin (s1.heap.objs.size,qwl d) (Q4 _ (Z2 _ (Q4 _ (Qp.mpr rfl))))).1,rfl,rfl⟩
  have zl:(es.toList.map (·.val)).length=(kvs.map (·.2)).length:=hV.length.symm;refine quk hu hh I3 hvw hD rfl (by rw [zl,Qe];exact hn) (zail (G:=G) (kl:=kl) (uu:=uu) (oc:=oc) (vsV:=kvs.map (·.2)) (iy:=iy) S hh room (Q4 _ (Qp.mpr rfl)) (fun u=>hb _ _ _ _ _ u) d1 d2 hlk hyk hN e2 hV hfr hhd (fun s H=>he q f c s H) hk) (by rw [zl];exact o) (by rw [zl];exact hm') ⟨g0,ec⟩ fun p l H4 s4 cc hp hs I4 sm g4 ow4 nl hl=>?_;have hp':PmN (kvs.map (·.2)).length p:=by rw [<- zl];exact hp
  have hs':SrtN (qJ kl m) p (kvs.map (·.2)).length:=by rw [<- zl];exact hs
  have nl0:H1 l=none:=by
   cases eq:H1 l with
   | none=>rfl
   | some o' =>
    exfalso;by_cases z:l=tb
    ·obtain ⟨ps,et,_⟩:=go.ts;rw [<- z] at et;obtain ⟨_,this⟩:=sm.any et;rw [nl] at this;cases this
    ·obtain ⟨_,this⟩:=sm.any (go.h _ _ z eq);rw [nl] at this;cases this
  have vp:Vals (p.toList.map fun i=>(kvs.map (·.2)).getD i V.non) (p.toList.map fun i=>(es.toList.map (·.val)).getD i Jb):=qkn hV fun i hi=>by
   have:=hp.p.mem_iff.mp hi;exact Zp.mp this
  have I5:=I4.track (u :=.lst (p.toList.map fun i=>(kvs.map (·.2)).getD i V.non)) ow4 nl ⟨by rw [Qe,Zf,hp.s,zl,Qe,Z0];omega,_,cc,vp,hl⟩;exact ⟨.ref l,_,I5.unpinned.unpinned,rfl,fin p l H4 hp' hs' sm g4.1 nl nl0⟩
end
end
section
def Tbs (ts:List Addr) (H:Hp):Prop := ∀ t ∈ ts,TbS t H
def qpo (ts:List Addr) (K:Qd):Sp:=fun vs H Q E=>Tbs ts H/\zaoz K vs H Q E
section
variable {P:Zi}{w:World}{K:Qd}{mg mb:Str->Option Value}{CX:CXT}{k:Nat}{fa a:Addr}{ts:List Addr}{fd:Vy}{x:Str}{sp:Sp}{s:Qk}{vs:List Value}{ns:List Int}
def qvx {H:Hp} (KX:K.In s.heap) (hns:s.heap.Ns Zh mg) (hb:s.heap.Ns Qcy mb) (hbb : ∀ x:Str,x ≠ "__name__" -> mb x=Zv x) (hlim:s.heap.NoLimit) (hg:s.gens = #[]) (ha:s.heap.get? a=some { cls :=.type "list",data :=.seq vs.toArray })
 (hr:Room k Qgo) (ht : ∀ b ∈ ts,∃ c,s.heap.TableAt c b #[]) (hKt : ∀ b ∈ ts,K.lookup b=none) (F : ∀ base:Heap,K.In base->base.Ns Zh mg->FnOk P w K mg base CX k fa fd [x] sp) (hbind : ∀ (s:Qk) (u:Value),Qhz s fd ⟨[u],[]⟩ [(x,u)])
 (hA : ∀ b,H b≠none->b=a\/b ∈ ts) (hF : ∀ u,H a=some u -> ∃ o xs,u = .frz o (.lst xs)) (hT : ∀ b ∈ ts,H b=some (.tbl #[])) (hok:HOk P w H s.heap) (hK:H a≠none->K.lookup a=none)
 (hsp:sp [.ref a] H (fun v _=>v = .bl true) fun _ _ _=>False) (hCX : ∀ e s',CX [] H s (fun _ _ _=>False) e s'->False) :
 Qbz (model P w) Qgo (.call (.ref fa) ⟨[.ref a],[]⟩) (fun r s'=>r = .ok (.ret (.bool true))/\OldK s.heap s'.heap/\s'.os=s.os/\Qdw s'.gens) s:=by
 have bo : ∀ {b:Addr}{o:Obj},s.heap.get? b=some o->H b=none->(qxc s.heap H).get? b=some o:=fun e n=>zadz e n;have nd : ∀ {b:Addr}{o:Obj}{es:Array Qde}{ep:Nat},s.heap.get? b=some o->o.data = .dict es ep->H b=none:=fun {b o es ep} e d=>by
  cases q:H b with
  | none=>rfl
  | some u =>
   rcases hA b (by rw [q];simp) with z|z
   ·subst z;rw [ha] at e;cases e;have d':Data.seq vs.toArray _=Data.dict es ep:=d;cases d'
   ·obtain ⟨c,ht⟩:=ht b z;rw [ht.2] at e;cases e;cases d
 have nsK : ∀ {b:Addr}{m:Str->Option Value},s.heap.Ns b m->(qxc s.heap H).Ns b m:=fun xx171=>by obtain ⟨o,es,ep,e,d,r⟩:=xx171;exact ⟨o,es,ep,bo e (nd e d),d,r⟩
 have kb:K.In (qxc s.heap H):=fun b o e=>bo (KX b o e) (by
  cases q:H b with
  | none=>rfl
  | some u =>
   rcases hA b (by rw [q];simp) with z|z
   ·subst z;rw [hK (by rw [q];simp)] at e;cases e
   ·rw [hKt b z] at e;cases e)
 have M:Mod K mg (qxc s.heap H):=⟨kb,nsK hns,⟨mb,nsK hb,hbb⟩,let ⟨mc,h1,h2⟩:=hlim; ⟨mc,nsK h1,h2⟩⟩
 have e0:Env0 P w K mg (qxc s.heap H) Qgo [] s H:=⟨rfl,M,fun b o e=>zahh e,Qff (zabr _ _),trivial,fun b hb=>absurd (show b ∈ ([]:List Addr) from hb) (by simp),hok,.of_eq hg⟩
 refine Qcg ((F _ kb (nsK hns)).run Qgo [] s H ⟨[.ref a],[]⟩ [.ref a] [.ref a] _ _ hr e0 (hbind s (.ref a)) (.cons rfl .nil) hsp) fun r s' h=>?_;cases r with
 | error e=>exact (hCX e s' h).elim
 | ok fl =>
  cases fl with
  | next=>exact Zc h
  | brk=>exact Zc h
  | cont=>exact Zc h
  | ret u =>
   obtain ⟨v,H',os,bare,un,hok',r',q⟩:=h;have q':v = .bl true:=q;subst q';obtain rfl:u=Value.bool true:=r';refine ⟨rfl,⟨fun b o e=>?_,fun b o e=>un.there b o e (by simp)⟩,os,bare⟩;cases qb:H b with
   | none=>exact .inl (un.keep b o e qb (by simp [frs]) (by simp))
   | some u =>
    rcases hA b (by rw [qb];simp) with z|z
    ·subst z;obtain ⟨o2,xs,e3⟩:=hF u qb;rw [e3] at qb;obtain ⟨e1,_⟩:=hok b _ qb;obtain ⟨e2,_⟩:=hok' b _ (un.frzs b _ _ qb);rw [e] at e1;cases e1;exact .inl e2
    ·obtain ⟨c,ht⟩:=ht b z;obtain ⟨more,e1,_⟩:=un.tbls b _ (hT b z);have e2:s'.heap.get? b=some (tabObj (#[]++more)):=hok' b _ e1;rw [ht.2] at e;cases e;exact .inr (.inl ⟨ht.isCodeTable,rfl,#[],more,rfl,e2⟩)
def zabg (KX:K.In s.heap) (hns:s.heap.Ns Zh mg) (hb:s.heap.Ns Qcy mb) (hbb : ∀ x:Str,x ≠ "__name__" -> mb x=Zv x) (hlim:s.heap.NoLimit) (hg:s.gens = #[]) (ha:s.heap.get? a=some { cls :=.type "list",data :=.seq vs.toArray }) (hi:Qeq vs ns) (hl:ns.length<=Zb)
 (hr:Room k Qgo) (ht : ∀ b ∈ ts,∃ c,s.heap.TableAt c b #[]) (hKt : ∀ b ∈ ts,K.lookup b=none) (F : ∀ base:Heap,K.In base->base.Ns Zh mg->FnOk P w K mg base CX k fa fd [x] sp) (hbind : ∀ (s:Qk) (u:Value),Qhz s fd ⟨[u],[]⟩ [(x,u)])
 (hsp : ∀ H:Hp,Tbs ts H->SqL K H a (ns.map V.int)->sp [.ref a] H (fun v _=>v = .bl true) fun _ _ _=>False) (hCX : ∀ H e s',CX [] H s (fun _ _ _=>False) e s'->False) :
 Qbz (model P w) Qgo (.call (.ref fa) ⟨[.ref a],[]⟩) (fun r s'=>r = .ok (.ret (.bool true))/\OldK s.heap s'.heap/\s'.os=s.os/\Qdw s'.gens) s:=by
 have rv:=qkt hi;have lv:=hi.length;have ne:a ∉ ts:=fun z=>by
  obtain ⟨c,ht⟩:=ht a z;have:=ht.2;rw [ha] at this;cases this
 cases hk:K.lookup a with
 | some o =>
  have e:=KX a o hk;rw [ha] at e;cases e;refine qvx (H:=fun b=>if b ∈ ts then some (.tbl #[]) else none) KX hns hb hbb hlim hg ha hr ht hKt F hbind (fun b z=>?_) (fun u z=>?_) (fun b hb=>if_pos hb) (fun b u z=>?_) (fun z=>absurd (if_neg ne) z) (hsp _ (fun t ht=>⟨#[],if_pos ht,.nil⟩) ?_) (fun e s'=>hCX _ e s')
  ·by_cases q:b ∈ ts
   ·exact .inr q
   ·exact absurd (if_neg q) z
  ·have:=(if_neg ne).symm.trans z;cases this
  ·by_cases q:b ∈ ts
   ·have z':=(if_pos q).symm.trans z;cases z';obtain ⟨c,ht⟩:=ht b q;exact ht.2
   ·have z':=(if_neg q).symm.trans z;cases z'
  ·exact .inr ⟨_,vs.toArray,_,hk,rfl,rfl,rfl,by rw [Qz,lv];exact hl,by simpa using rv⟩
 | none =>
  refine qvx (H:=fun b=>if b ∈ ts then some (.tbl #[]) else if b=a then some (.frz { cls :=.type "list",data :=.seq vs.toArray } (.lst (ns.map V.int))) else none) KX hns hb hbb hlim hg ha hr ht hKt F hbind (fun b z=>?_) (fun u z=>?_) (fun b hb=>if_pos hb) (fun b u z=>?_) (fun _=>hk) (hsp _ (fun t ht=>⟨#[],if_pos ht,.nil⟩) ?_) (fun e s'=>hCX _ e s')
  ·by_cases q:b ∈ ts
   ·exact .inr q
   ·by_cases q2:b=a
    ·exact .inl q2
    ·exact absurd ((if_neg q).trans (if_neg q2)) z
  ·have z':=((if_neg ne).trans (if_pos rfl)).symm.trans z;exact ⟨_,_,(Qn z').symm⟩
  ·by_cases q:b ∈ ts
   ·have z':=(if_pos q).symm.trans z;cases z';obtain ⟨c,ht⟩:=ht b q;exact ht.2
   ·by_cases q2:b=a
    ·have z':=((if_neg q).trans (if_pos q2)).symm.trans z;cases z';subst q2;exact ⟨ha,by rw [Qe];exact hl,vs,_,rv,ha⟩
    ·have z':=((if_neg q).trans (if_neg q2)).symm.trans z;cases z'
  ·exact .inl (.inr ⟨{ cls :=.type "list",data :=.seq vs.toArray },(if_neg ne).trans (if_pos rfl)⟩)
end
def walk_ofT {l:Qfk}{n k:Nat}{q:Zi}{loose:List Str}{XP:(Str->Option Value)->Heap->Prop}{YP:World->Heap->Prop}{d:DefRec}{K:Qct->Qd}{tbs:Qct->List Addr}{CX:World->CXT}{sp:World->Sp}{x:Str}
 (hn:l.most=some n) (hn2:n<=Zb) (hdf:d.params.defaults=[]) (hr:Room k Qgo) (hY : ∀ (w:World) (h:Heap),YP w h->(K w.params).In h /\ ∀ b ∈ tbs w.params,∃ c,h.TableAt c b #[]) (hKt : ∀ P,∀ b ∈ tbs P,(K P).lookup b=none)
 (F : ∀ (w:World) (mg:Str->Option Value) (fa:Addr) (h:Heap),(K w.params).In h->h.Ns Zh mg->mg d.name=some (.ref fa) ->
 ∃ fd:Vy,(∀ (s:Qk) (u:Value),Qhz s fd ⟨[u],[]⟩ [(x,u)]) /\ ∀ base:Heap,(K w.params).In base->base.Ns Zh mg->FnOk l.prog w (K w.params) mg base (CX w) k fa fd [x] (sp w))
 (hsp : ∀ (w:World) (H:Hp) (a:Addr) (ns:List Int),ns.length<=n->Tbs (tbs w.params) H->SqL (K w.params) H a (ns.map V.int)->sp w [.ref a] H (fun v _=>v = .bl true) fun _ _ _=>False)
 (hCX : ∀ (w:World) (H:Hp) (s:Qk) (e:Value) (s':Qk),CX w [] H s (fun _ _ _=>False) e s'->False):Qjx q loose XP YP l.row.toRowW d [] (fun f vs=>Qjp f vs):=by
  refine Att.attach_call hn hdf fun w s₀ s₁ mg mb fa o pm cd doc a vs ns G Y ho hd hcd hmg hobj hints hlen hg=>?_;obtain ⟨KX,ht⟩:=hY w _ Y;obtain ⟨fd,hb,hF⟩:=F w mg fa _ KX G.T.g hmg;exact zabg KX G.T.g G.T.b G.T.builtins G.T.nolimit hg hobj hints (Zr hlen hn2) hr ht (hKt w.params) hF hb (fun H hO hS=>hsp w H a ns hlen hO hS) fun H e s'=>hCX w H s₁ e s'
end
section
def qtb (K:Qd) (c tb:Addr):Bool:=match K.lookup c with
 | some ⟨.type "code",_,.fields vs,_⟩=>(vs[11]?==some (.ref tb))&&(match vs.getD 18 .none with | .str _ _=>true|_=>false)&&(match vs.getD 7 .none with | .int _ _=>true|_=>false)&&(match vs.getD 9 .none with | .bool _=>true|_=>false)&&(match vs.getD 10 .none with | .int _ _=>true|_=>false)&&c != tb
 | _=>false
def qqh {K:Qd}{h:Heap}{c tb:Addr} (X:K.In h) (q:qtb K c tb=true):CodeHd h c tb:=by
 unfold qtb at q;split at q
 case h_2=>cases q
 rename_i dd vs sl ho;simp only [Ye,beq_iff_eq,bne_iff_ne] at q;obtain ⟨⟨⟨⟨⟨e1,e2⟩,e3⟩,e4⟩,e5⟩,e6⟩:=q;have e7:vs.getD 11 .none = .ref tb:=by
  have:vs.getD 11 .none=(vs[11]?).getD .none:=by simp [Array.getD_eq_getD_getElem?]
  rw [this,e1];rfl
 split at e2
 case h_2=>cases e2
 rename_i x2 t2 g2;split at e3
 case h_2=>cases e3
 rename_i x3 t3 g3;split at e4
 case h_2=>cases e4
 rename_i x4 g4;split at e5
 case h_2=>cases e5
 rename_i x5 t5 g5;exact ⟨_,vs,x2,t2,x3,t3,x4,x5,t5,X _ _ ho,rfl,rfl,e1,e7,g2,g3,g4,g5,e6⟩
def blIn (K:Qd) (bm tb:Addr):Bool:=match K.lookup bm with
 | some ⟨.type "module",some d,.plain,_⟩=>d==Qcy&&bm != Qcy&&bm != Zh&&bm != tb
 | _=>false
def qzn {K:Qd}{h:Heap}{mg:Str->Option Value}{bm tb:Addr} (X:K.In h) (hm:mg "__builtins__" = some (.ref bm)) (q:blIn K bm tb=true):h.BuiltinsAt mg tb:=by
 unfold blIn at q;split at q
 case h_2=>cases q
 rename_i d sl ho;simp only [Ye,beq_iff_eq,bne_iff_ne] at q;obtain ⟨⟨⟨e1,e2⟩,e3⟩,e4⟩:=q;subst e1;exact ⟨bm,_,hm,e2,e3,e4,X _ _ ho,rfl,rfl,rfl⟩
structure DefT (K:Qd) (mg:Str->Option Value) (x:Str) (st:Stmt) (ps:List Str) (c0:Addr):Prop where
 ex : ∃ (f:Addr) (oc:Value) (od:Option Addr) (kV doc pm:Value) (an:Option Addr) (ct:Value) (osl:Array (Option Value)),K.lookup f=some ⟨oc,od,.func (Ys x x (defArgs st) (defBody st) (defScope st) .none kV doc pm an (.ref c0) ct),osl⟩/\V8 K (.ref c0) x=true /\
  Vi K (.ref f)=true/\mg x=some (.ref f)/\Binds K (Ys x x (defArgs st) (defBody st) (defScope st) .none kV doc pm an (.ref c0) ct) ps []
def DefT.ok {P:Zi}{w:World}{K:Qd}{mg:Str->Option Value}{base:Heap}{x:Str}{st:Stmt}{N ps:List Str}{k:Nat}{sp:Sp}{c0:Addr} (F:DefT K mg x st ps c0) (S:FnScope N ps (defScope st)) (len : ∀ vs H Q E,sp vs H Q E->vs.length=ps.length)
 (hbody : ∀ (f:Addr) (A:Zw) (outer:List Env) (s:Qk) (H:Hp) (vs:List V) (Q:VK) (E:XK),Room k (A.deeper (Qch x (defScope st) s.heap.objs.size f (.ref c0)))->sp vs H Q E ->
 ∃ t,PSs (qei CX0 P w K mg base N x (defScope st) f (.ref c0) A outer s H E).nox (defBody st) t/\t { nx:=fun _ H'=>Q .non H',rt:=Q } (start N vs) H):Ok P w K mg base x (k+1) ps sp:=by
  obtain ⟨f,oc,od,kV,doc,pm,an,ct,osl,lk,hcd,kp,hm,hb⟩:=F.ex;refine ⟨f,_,zags lk hcd S len fun A outer s H vs Q E hr hsp=>?_,hm,kp,hb⟩;obtain ⟨t,h,q⟩:=hbody f A outer s H vs Q E hr hsp;exact ⟨t,h.nox,q⟩
def qfq (ts:List Addr) (sp:Sp):Sp:=fun vs H Q E=>Tbs ts H/\sp vs H Q E
def Ok.t {X:Cx}{x:Str}{k:Nat}{ps:List Str}{sp:Sp}{ts:List Addr} (O:Ok X.prog X.w X.K X.mg X.base x k ps (qfq ts sp)) (h:Tbs ts X.H₀):OkC X x k ps sp :=
 ⟨_,O,fun _ _ _ _ _ _ _ I q=>⟨fun t ht=>TbS.of I (h t ht),q⟩⟩
def OkX.t {X:Cx}{x:Str}{k:Nat}{ps:List Str}{sp:Sp}{ts:List Addr} (O:OkX X.prog X.w X.K X.mg X.base x k ps (qfq ts sp)) (h:Tbs ts X.H₀):OkXC X x k ps sp :=
 ⟨_,O,fun _ _ _ _ _ _ _ I q=>⟨fun t ht=>TbS.of I (h t ht),q⟩⟩
section
variable {P:Zi}{w:World}{K:Qd}{mg:Str->Option Value}{base:Heap}{ts:List Addr}
def Def.tvok {x:Str}{st:Stmt}{N ps:List Str}{k:Nat}{sp:DC} (F:Def K mg x st ps) (S:FnScope N ps (defScope st)) (len : ∀ ds q,sp ds q->ds.length=ps.length)
 (hbody : ∀ (f:Addr) (cdv:Value) (A:Zw) (outer:List Env) (s:Qk) (H:Hp) (E:XK),Room k (A.deeper (Qch x (defScope st) s.heap.objs.size f cdv))->Tbs ts H -> ∀ ds q,sp ds q ->
 ∃ W,VSs (qei CX0 P w K mg base N x (defScope st) f cdv A outer s H E).nox (defBody st) W/\W { nx:=fun _=>q .none,rt:=fun r _=>q r.data } (qbo N ds)):Ok P w K mg base x (k+1) ps (qfq ts (PSp K sp)) :=
  F.ok S (fun vs H Q E xx173=>by obtain ⟨_,F,ds,q,_,i,h,_⟩:=xx173;rw [i.len];exact len ds q h) fun f cdv A outer s H vs Q E hr xx172=>by
   obtain ⟨hT,F,ds,q,sm,i,h,kk⟩:=xx172;obtain ⟨W,hW,hq⟩:=hbody f cdv A outer s H E hr hT ds q h;refine ⟨_,hW,⟨H,H,F⟩,qbo N ds,F,_,qde sm i,hq,⟨fun e1 F1 H1 σ1 I1 s1 q1=>kk _ _ F1 H1 I1.goOf qtc q1,fun r v e1 F1 H1 σ1 I1 s1 r1 q1=>?_,fun _ _ _ _ _ _ h=>h.elim,fun _ _ _ _ _ _ h=>h.elim⟩⟩;obtain ⟨F2,g,j⟩:=r1.is I1;exact kk _ _ F2 H1 g j q1
def Def.tvokF {x:Str}{st:Stmt}{N ps:List Str}{k:Nat}{sp:List Qh->(List Qh->Prop)->Prop} (F:Def K mg x st ps) (S:FnScope N ps (defScope st)) (len : ∀ ds q,sp ds q->ds.length=ps.length)
 (hbody : ∀ (f:Addr) (cdv:Value) (A:Zw) (outer:List Env) (s:Qk) (H:Hp) (E:XK),Room k (A.deeper (Qch x (defScope st) s.heap.objs.size f cdv))->Tbs ts H -> ∀ ds q,sp ds q ->
 ∃ W,VSs (qei CX0 P w K mg base N x (defScope st) f cdv A outer s H E).nox (defBody st) W/\W { nx:=fun _=>False,rt:=fun r _ => ∃ l,r = .own l/\q l } (qbo N ds)):Ok P w K mg base x (k+1) ps (qfq ts (FSp K sp)) :=
  F.ok S (fun vs H Q E xx175=>by obtain ⟨_,F,ds,q,_,i,h,_⟩:=xx175;rw [i.len];exact len ds q h) fun f cdv A outer s H vs Q E hr xx174=>by
   obtain ⟨hT,F,ds,q,sm,i,h,kk⟩:=xx174;obtain ⟨W,hW,hq⟩:=hbody f cdv A outer s H E hr hT ds q h;refine ⟨_,hW,⟨H,H,F⟩,qbo N ds,F,_,qde sm i,hq,⟨fun e1 F1 H1 σ1 I1 s1 q1=>q1.elim,fun r v e1 F1 H1 σ1 I1 s1 r1 q1=>?_,fun _ _ _ _ _ _ h=>h.elim,fun _ _ _ _ _ _ h=>h.elim⟩⟩;obtain ⟨l,rfl,q1⟩:=q1;obtain ⟨a,vs,rfl,h1,h2,h3,h4,h5⟩:=r1;exact kk l a vs F1 H1 I1.goOf h4 h2 h1 h5 q1
def Def.tvokX {x:Str}{st:Stmt}{N ps:List Str}{k:Nat}{sp:DE} (F:Def K mg x st ps) (S:FnScope N ps (defScope st)) (len : ∀ ds q e,sp ds q e->ds.length=ps.length)
 (hbody : ∀ (f:Addr) (cdv:Value) (A:Zw) (outer:List Env) (s:Qk) (H:Hp) (E:XK),Room k (A.deeper (Qch x (defScope st) s.heap.objs.size f cdv)) ->
 (∀ σ,qgr (qei (CX1 P w) P w K mg base N x (defScope st) f cdv A outer s H E) σ E)->qsx (qei (CX1 P w) P w K mg base N x (defScope st) f cdv A outer s H E) E->Tbs ts H -> ∀ ds q e,sp ds q e ->
 ∃ W,qyn (qei (CX1 P w) P w K mg base N x (defScope st) f cdv A outer s H E) (fun _=>E) (defBody st) W/\W (fun C _=>e C) { nx:=fun _=>q .none,rt:=fun r _=>q r.data } (qbo N ds)):OkX P w K mg base x (k+1) ps (qfq ts (XSp K sp)):=by
  obtain ⟨f,fd,Fn,hm,hb⟩:=F.ex;refine ⟨f,fd,?_,hm,Fn.kp,hb⟩;obtain ⟨oc,od,kV,doc,pm,an,cdv,ct,osl,rfl,lk,hcd⟩:=Fn.ex;refine zags lk hcd S (fun vs H Q E xx177=>by obtain ⟨_,F,ds,q,e,_,i,h,_⟩:=xx177;rw [i.len];exact len ds q e h) fun A outer s H vs Q E hr xx176=>?_;obtain ⟨hT,F,ds,q,e,sm,i,h,kk,kx⟩:=xx176;obtain ⟨W,hW,hq⟩:=hbody f cdv A outer s H E hr (fun σ pins H1 s1 e1 s' I c=>zaad pins σ H1 s1 e1 s' I c) zaau hT ds q e h;refine ⟨_,hW,⟨H,H,F⟩,qbo N ds,F,_,_,qde sm i,hq,fun C e1 F1 H1 σ1 I1 s1 q1=>kx C F1 H1 I1.goOf q1,⟨fun e1 F1 H1 σ1 I1 s1 q1=>kk _ _ F1 H1 I1.goOf qtc q1,fun r v e1 F1 H1 σ1 I1 s1 r1 q1=>?_,fun _ _ _ _ _ _ h=>h.elim,fun _ _ _ _ _ _ h=>h.elim⟩⟩;obtain ⟨F2,g,j⟩:=r1.is I1;exact kk _ _ F2 H1 g j q1
end
end
end L2
namespace L2
open PySem PySem.Spec PyProof.Rows
section
def qlg : ∀ {us:List Value}{ns:List Int},Qeq us ns -> ∀ (i:Nat) (v:Value),us[i]?=some v -> ∃ n t,ns[i]?=some n/\v = .int n t
 | _,_,.nil,i,v,h=>by simp at h
 | _,_,.cons n t r,0,v,h=>by
  rw [Qen,Qhs] at h;exact ⟨n,t,by rw [Qen],h.symm⟩
 | _,_,.cons n t r,i+1,v,h=>by
  rw [Y4] at h;obtain ⟨m,k,e,z⟩:=qlg r i v h;exact ⟨m,k,by rw [Y4];exact e,z⟩
def qla : ∀ {us:List Value}{ns:List Int},Qeq us ns->us.length=ns.length
 | _,_,.nil=>rfl
 | _,_,.cons n t r=>by rw [Zk,Zk,qla r]
def zabe {us:List Value}{ns:List Int} (hb:Qeq us ns):((Qx us.toArray.size).any fun i=>((ns[i]?).getD 1) != 0)=ns.any (· != 0):=by
 have hlen:us.toArray.size=ns.length:=by rw [Qz];exact qla hb
 rw [hlen,Bool.eq_iff_iff,Z9,Z9];constructor
 ·rintro ⟨i,hi,z⟩;have hi':=Zp.mp hi;refine ⟨ns[i],Ze hi',?_⟩;simpa [hi'] using z
 ·rintro ⟨b,hb',z⟩;obtain ⟨i,hi,rfl⟩:=List.getElem_of_mem hb';exact ⟨i,Zp.mpr hi,by simpa [hi] using z⟩
section
variable {X:Cx}
def zapd (K:Qd):List V->Hp->VK->Prop:=fun xs H Q => ∃ (a:Addr) (ns:List Int),xs=[.ref a]/\SqL K H a (ns.map V.int)/\Q (.bl (ns.any (· != 0))) H
def zabi (hc:X.calm=true):CallR X (.builtin "any") (zapd X.K):=by
 intro pins s σ H xs us Q I r h;obtain ⟨a,ns,rfl,ha,q⟩:=h;obtain ⟨u,rfl,rx⟩:=qlq r;cases rx;obtain ⟨its,rv,pl,_⟩:=I.list ha;have hl:=pl.isList;have hb:=qiq rv;have hlt:a<s.heap.objs.size:=pl.lt;refine call_any_walk (Qeg hl ?_);refine ⟨s.heap.objs.size,[s.heap.objs.size,a],[s.heap.objs.size],its.toArray.size,_,_,fun i=>((ns[i]?).getD 1) != 0,rfl,Walks.list (A:=X.A.in1) (I.ok.hd hc) _ a (Za hlt) its.toArray,
  ⟨⟨_,Q8 _ rfl,rfl,rfl⟩,hl.push _⟩,fun i v s' Q' E' hP hQ=>?_,fun h' tk hk=>?_⟩
 ·obtain ⟨n,t,e,rfl⟩:=qlg hb i v (by simpa using hP);simp only [e,Option.getD_some] at hQ;exact P.truthy_int hQ
 ·rw [zabe hb];refine ⟨.bl (ns.any (· != 0)),H,I.kept (t':=tk) (fun b o z=>hk b o (fun hm=>?_) (Qo _ z)),rfl,q⟩;rw [Qp.mp hm] at z;exact Jl _ (Qw z)
def zaqx:DC
 | [.list l],q => ∃ ns:List Int,l=ns.map .int/\q (.bool (ns.any (· != 0)))
 | _,_=>False
def zanu (hc:X.calm=true):qio X (.builtin "any") zaqx:=(zabi hc).imp fun xs H Q xx178=>by
 obtain ⟨F,ds,q,s,i,h,k⟩:=xx178
 match ds,h,i with
 | [.list l],h,i =>
  obtain ⟨v,rfl,j⟩:=qky i;obtain ⟨a,xs,rfl,hs,hr⟩:=j.lst_inv;obtain ⟨ns,rfl,hq⟩:=h;rw [hr.ints_inv] at hs;exact ⟨a,ns,rfl,s.seq hs,k _ _ F H (.refl s) (qfd _) hq⟩
end
end
section
abbrev Grp:=List Int×Addr×List Nat
def qkv (x:Grp):List Key×V:=(x.1.map Qbd,V.ref x.2.1)
def grL (G:List Nat):List V:=G.map fun i=>V.int ((i:Nat):Int)
structure GrAt (H0 F H:Hp) (d:Addr) (ks:List Grp):Prop where
 hd:H d=some (.dT (ks.map qkv))
 fd:F d=none
 nd:H0 d=none
 hl : ∀ x ∈ ks,H x.2.1=some (.lst (grL x.2.2))
 fl : ∀ x ∈ ks,F x.2.1=none
 nl : ∀ x ∈ ks,H0 x.2.1=none
 dl : ∀ x ∈ ks,x.2.1≠d
 ad:(ks.map (·.2.1)).Nodup
 ky:(ks.map (·.1)).Nodup
def qnf (ks:List Grp) (k:List Int) (s:Nat):List Grp:=ks.map fun x=>if x.1=k then (x.1,x.2.1,x.2.2++[s]) else x
def zain {a b:List Int} (h:(a.map Qbd:List Key)=b.map Qbd):a=b:=by
 induction a generalizing b with
 | nil=>cases b with
  | nil=>rfl
  | cons _ _=>cases h
 | cons x a ih=>cases b with
  | nil=>cases h
  | cons y b =>
   rw [Qt,Qt] at h;injection h with h1 h2;injection h1 with h1;rw [h1,ih h2]
def qkl {α β:Type}{f:α->β} : ∀ {l:List α},(l.map f).Nodup -> ∀ x ∈ l,∀ y ∈ l,f x=f y->x=y
 | [],_,x,hx,_,_,_=>by cases hx
 | a::l,h,x,hx,y,hy,e=>by
  rw [Qt,Jc] at h;rcases Qs.mp hx with zx|zx
  ·rcases Qs.mp hy with zy|zy
   ·rw [zx,zy]
   ·exact (h.1 (Ql.mpr ⟨y,zy,by rw [<- e,zx]⟩)).elim
  ·rcases Qs.mp hy with zy|zy
   ·exact (h.1 (Ql.mpr ⟨x,zx,by rw [e,zy]⟩)).elim
   ·exact qkl h.2 x zx y zy e
def qta {k:List Int} : ∀ (ks:List Grp),qmo (ks.map qkv) (k.map Qbd)=(ks.find? fun x=>decide (x.1=k)).map fun x=>V.ref x.2.1
 | []=>rfl
 | x::ks=>by
  rw [Qt];by_cases e:x.1=k
  ·rw [qom (by show x.1.map Qbd=_;rw [e]),List.find?_cons_of_pos (by simpa using e)];rfl
  ·rw [qor (fun z=>e (zain z)),List.find?_cons_of_neg (by simpa using e),qta ks]
def Go.at {F0 H0 F H:Hp}{a:Addr}{o:HO} (g:Go F0 H0 F H) (h1:F a=none) (h2:H0 a=none):Go F0 H0 F (upd H a o) :=
 ⟨g.f,fun b u e=>by rw [qk fun z=>by rw [z,h2] at e;cases e];exact g.h b u e,fun b u e=>by rw [qk fun z=>by rw [z,h1] at e;cases e];exact g.fh b u e,g.new⟩
section
variable {F0 H0 F H:Hp}{d l p:Addr}{ks:List Grp}{k:List Int}{G:List Nat}{s:Nat}
def GrAt.hit (h:GrAt H0 F H d ks) (m:(k,l,G) ∈ ks):GrAt H0 F (upd H l (.lst (grL (G++[s])))) d (qnf ks k s):=by
 have ne:d≠l:=fun z=>h.dl _ m z.symm;have addr : ∀ y:Grp,(if y.1=k then (y.1,y.2.1,y.2.2++[s]) else y).2.1=y.2.1:=fun y=>by split <;> rfl
 have key : ∀ y:Grp,(if y.1=k then (y.1,y.2.1,y.2.2++[s]) else y).1=y.1:=fun y=>by split <;> rfl
 have nodup_at:=qkl (f:=fun x:Grp=>x.2.1) h.ad;have nodup_key:=qkl (f:=fun x:Grp=>x.1) h.ky;refine ⟨?_,h.fd,h.nd,fun x hx=>?_,fun x hx=>?_,fun x hx=>?_,fun x hx=>?_,?_,?_⟩
 ·rw [qk ne,h.hd];unfold qnf;rw [Zz]
  congr 2
  refine Zg fun x _=>?_;show qkv x=qkv _;unfold qkv;rw [addr,key]
 ·obtain ⟨y,hy,rfl⟩:=Ql.mp hx;rw [addr];by_cases e:y.1=k
  ·have:=nodup_key y hy _ m e;subst this;rw [qp,if_pos rfl]
  ·rw [qk fun z=>e ?_,if_neg e]
   ·exact h.hl y hy
   ·have:=nodup_at y hy _ m z;rw [this]
 ·obtain ⟨y,hy,rfl⟩:=Ql.mp hx;rw [addr];exact h.fl y hy
 ·obtain ⟨y,hy,rfl⟩:=Ql.mp hx;rw [addr];exact h.nl y hy
 ·obtain ⟨y,hy,rfl⟩:=Ql.mp hx;rw [addr];exact h.dl y hy
 ·have:(qnf ks k s).map (·.2.1)=ks.map (·.2.1):=by
   unfold qnf;rw [Zz];exact Zg fun x _=>addr x
  rw [this];exact h.ad
 ·have:(qnf ks k s).map (·.1)=ks.map (·.1):=by
   unfold qnf;rw [Zz];exact Zg fun x _=>key x
  rw [this];exact h.ky
def GrAt.miss (h:GrAt H0 F H d ks) (hp:H p=none) (fp:F p=none) (np:H0 p=none) (hk : ∀ x ∈ ks,x.1≠k):GrAt H0 F (upd (upd (upd H p (.lst [])) d (.dT ((ks++[(k,p,[s])]).map qkv))) p (.lst (grL [s]))) d (ks++[(k,p,[s])]):=by
 have pd:p≠d:=fun z=>by rw [z,h.hd] at hp;cases hp
 have pl : ∀ x ∈ ks,x.2.1≠p:=fun x hx z=>by have:=h.hl x hx;rw [z,hp] at this;cases this
 have two : ∀ {P:Grp->Prop},(∀ x ∈ ks,P x)->P (k,p,[s]) -> ∀ x ∈ ks++[(k,p,[s])],P x:=fun a b x hx=>by
  rcases Zd.mp hx with z|z
  ·exact a x z
  ·rw [Qp.mp z];exact b
 refine ⟨?_,h.fd,h.nd,two (fun x hx=>?_) ?_,two h.fl fp,two h.nl np,two h.dl pd,?_,?_⟩
 ·rw [qk (V7 pd),qp]
 ·rw [qk (pl x hx),qk (h.dl x hx),qk (pl x hx)];exact h.hl x hx
 ·exact qp
 ·rw [Q9,Qt,Jk,Qad];refine ⟨h.ad,by simp,fun a ha b hb=>?_⟩;obtain ⟨x,hx,rfl⟩:=Ql.mp ha;rw [Qp.mp hb];exact pl x hx
 ·rw [Q9,Qt,Jk,Qad];refine ⟨h.ky,by simp,fun a ha b hb=>?_⟩;obtain ⟨x,hx,rfl⟩:=Ql.mp ha;rw [Qp.mp hb];exact hk x hx
def zacq:grL G++[V.int ((s:Nat):Int)]=grL (G++[s]):=by unfold grL;rw [Q9];rfl
end
def qxa (ks:List Grp) (k:List Int) (p:Addr) (s:Nat):List Grp:=if (ks.any fun x=>decide (x.1=k))=true then qnf ks k s else ks++[(k,p,[s])]
def zamh {K:Qd}{F0 H0 F H:Hp}{d b:Addr}{ks:List Grp}{k:List Int}{s ig ia is:Nat}{σ:St}{D:Ends} (g:Go F0 H0 F H) (h:GrAt H0 F H d ks) (e1:σ[ig]?=some (some (.ref d))) (e2:σ[ia]?=some (some (.ref b))) (e3:σ[is]?=some (some (.int ((s:Nat):Int))))
 (hb:F b=some (.tup (k.map V.int))) (hn:ks.length<900) (hs : ∀ x ∈ ks,x.2.2.length<900)
 (q : ∀ p H',Go F0 H0 F H'->GrAt H0 F H' d (qxa ks k p s)->D.nx σ H'):zaks (tBM K "list" qsh (zafu (qxg ig) (qxg ia) (tLst tNil)) (zagt (qxg is) tNil)) D σ H:=by
  have hb':=g.fh.at hb;have ekv:(k.map Qbd:List Key).map kV=k.map V.int:=by rw [Zz];rfl
  refine ⟨_,e1,d,rfl,.inr ⟨_,.inl h.hd⟩,_,e2,Vg _,fun p hp=>?_⟩;have pd:d≠p:=fun z=>by rw [<- z,h.hd] at hp;cases hp
  have fp:F p=none:=qK g.fh hp;have np:H0 p=none:=qK g.h hp;have pb:b≠p:=fun z=>by rw [<- z,hb'] at hp;cases hp
  refine ⟨ks.map qkv,k.map Qbd,b,by rw [qk pd];exact h.hd,rfl,by rw [qk pb,ekv];exact hb',by rw [Qe,Z0];omega,fun v ev=>?_,fun ev=>?_⟩
  ·rw [qta] at ev;cases ef:ks.find? fun x=>decide (x.1=k) with
   | none=>rw [ef] at ev;cases ev
   | some x =>
    rw [ef] at ev;cases ev;have xm:=List.mem_of_find?_eq_some ef;have xk:x.1=k:=by simpa using List.find?_some ef
    obtain ⟨k',l,G⟩:=x;have xk:k'=k:=xk;subst xk;have lp:l≠p:=fun z=>by have:=h.hl _ xm;rw [z] at this;rw [show H p=_ from this] at hp;cases hp
    have hl:=h.hl _ xm;have ha:(ks.any fun x=>decide (x.1=k'))=true:=Z9.mpr ⟨_,xm,by simp⟩;have h1:GrAt H0 F (upd H p (.lst [])) d ks:=⟨by rw [qk pd];exact h.hd,h.fd,h.nd,fun x hx=>by
     rw [qk fun z=>by have:=h.hl x hx;rw [z,hp] at this;cases this];exact h.hl x hx,h.fl,h.nl,h.dl,h.ad,h.ky⟩
    have z1:=(h1.hit (s:=s) xm)
    have hp':=q p (upd (upd H p (.lst [])) l (.lst (grL (G++[s])))) ((g.at fp np).at (h.fl _ xm) (h.nl _ xm)) (by unfold qxa;rw [if_pos ha];exact z1);refine ⟨?_,_,e3,l,grL G,_,rfl,rfl,by rw [qk lp];exact hl,?_,?_⟩
    ·exact .inl ⟨rfl,grL G,SqL.of (by rw [qk lp];exact hl)⟩
    ·have:=hs _ xm;rw [Z0];show (grL G).length<_;unfold grL;rw [Qe];show G.length<_;have:G.length<900:=this;omega
    ·rw [zacq];exact hp'
  ·rw [qta] at ev;have ef : ∀ x ∈ ks,x.1≠k:=fun x hx z=>by
    cases ef:ks.find? fun x=>decide (x.1=k) with
    | none=>exact (by simpa using List.find?_eq_none.mp ef x hx : ¬ x.1=k) z
    | some y=>rw [ef] at ev;cases ev
   have ha : ¬ (ks.any fun x=>decide (x.1=k))=true:=fun z=>by
    obtain ⟨x,hx,z⟩:=Z9.mp z;exact ef x hx (by simpa using z)
   have eput:quv (ks.map qkv) (k.map Qbd) (.ref p)=(ks++[(k,p,[s])]).map qkv:=by
    rw [zaeo _ (by rw [qta];exact ev),Q9];rfl
   rw [eput];have z1:=h.miss (s:=s) hp fp np ef;have hp':=q p _ (((g.at fp np).at h.fd h.nd).at fp np) (by unfold qxa;rw [if_neg ha];exact z1);have hl:upd (upd H p (.lst [])) d (.dT ((ks++[(k,p,[s])]).map qkv)) p=some (.lst []):=by rw [qk (V7 pd),qp]
   refine ⟨.inl ⟨rfl,[],SqL.of hl⟩,_,e3,p,[],_,rfl,rfl,hl,by rw [Z0];decide,?_⟩;exact hp'
def Room.lam {k:Nat}{A:Zw} (r:Room (k+1) A) (env:Env):Room k (A.in1.in1.deeper env) :=
 ⟨r.hd,by have:=r.dp;show A.depth+1+3*k+5<_;omega,by have:=r.un;show A.units+1+1+3+16*k+200<_;omega⟩
def Room.sort {k:Nat}{A:Zw} (r:Room k A):A.units+1<cLine/\A.in1.in1.units<cLine/\A.in1.in1.depth<Vk :=
 ⟨by have:=r.un;omega,by have:=r.un;show A.units+1+1<_;omega,by have:=r.dp;show A.depth<_;omega⟩
def qqy {y:Str} : ∀ {l:List (Str×Jr)},(∀ p ∈ l,p.2 = .free->p.1=y) -> ∀ z,l.lookup z=some .free->z=y
 | [],_,z,h=>by cases h
 | (a,k)::l,g,z,h=>by
  rw [Zj] at h;cases e:z==a with
  | true =>
   rw [e] at h;have hk:k = .free:=Qn h;have:=eq_of_beq e;rw [this];exact g (a,k) (by simp) hk
  | false =>
   rw [e] at h;exact qqy (fun p hp=>g p (Qm _ hp)) z h
def GrAt.go {H0 F H F' H':Hp}{d:Addr}{ks:List Grp} (h:GrAt H0 F H d ks) (g:Go F H F' H'):GrAt H0 F' H' d ks :=
 ⟨g.h _ _ h.hd,qyw g h.hd h.fd,h.nd,fun x hx=>g.h _ _ (h.hl x hx),fun x hx=>qyw g (h.hl x hx) (h.fl x hx),h.nl,h.dl,h.ad,h.ky⟩
def qml (gs:List (List Int×List Nat)) (k:List Int) (s:Nat):List (List Int×List Nat):=if (gs.any fun x=>decide (x.1=k))=true then gs.map (fun x=>if x.1=k then (x.1,x.2++[s]) else x) else gs++[(k,[s])]
def qin (ks:List Grp):List (List Int×List Nat):=ks.map fun x=>(x.1,x.2.2)
def zabv {ks:List Grp}{k:List Int}{p:Addr}{s:Nat}:qin (qxa ks k p s)=qml (qin ks) k s:=by
 have e:((qin ks).any fun x=>decide (x.1=k))=ks.any fun x=>decide (x.1=k):=by unfold qin;rw [List.any_map];rfl
 unfold qml qxa;rw [e];split
 ·unfold qnf qin;rw [Zz,Zz];refine Zg fun x _=>?_;by_cases z:x.1=k
  ·simp [z]
  ·simp [z]
 ·unfold qin;rw [Q9];rfl
end
end L2
namespace L2
open PySem PySem.Spec PyProof.Rows PySem.W
section
section
variable {X:Cx}{t u:TS}
end
section
variable {K:Qd}{M:Frm}{F H:Hp}{env:Sto}{σ:St}{W:WS}{u:TS}
end
section
variable {P:Zi}{w:World}{K:Qd}{mg:Str->Option Value}{base:Heap}
def Fun.vlawT {x:Str}{st:Stmt}{f:Addr}{ts:List Addr}{fd:Vy}{N ps:List Str}{k:Nat} (F:Fun K x x st f fd) (S:FnScope N ps (defScope st)) (hp:ps.length=1)
 (hbody : ∀ (cdv:Value) (A:Zw) (outer:List Env) (s:Qk) (H:Hp) (E:XK),Room k (A.deeper (Qch x (defScope st) s.heap.objs.size f cdv))->Tbs ts H -> ∀ ns:List Int,ns.length<=63 ->
 ∃ W,VSs (qei CX0 P w K mg base N x (defScope st) f cdv A outer s H E).nox (defBody st) W/\W { nx:=fun _=>False,rt:=fun r _=>r.data = .bool true } (qbo N [.list (ns.map .int)])):FnOk P w K mg base CX0 (k+1) f fd ps (qpo ts K):=by
  refine F.ok S (fun vs H Q E h=>?_) (fun cdv A outer s H vs Q E hr h=>?_)
  ·obtain ⟨_,a,ns,rfl,_⟩:=h;exact hp.symm
  ·obtain ⟨tss,a,ns,rfl,hS,hlen,kk⟩:=h;have hi:Iss K H [.list (ns.map .int)] [.ref a]:=qap (qfj hS (qjl ns)) qay;obtain ⟨W,hW,hq⟩:=hbody cdv A outer s H E hr tss ns hlen;refine ⟨_,hW,⟨H,H,H⟩,qbo N _,H,_,qde (.refl _) hi,hq,⟨fun e1 F1 H1 σ1 I1 s1 q1=>q1.elim,fun r v e1 F1 H1 σ1 I1 s1 r1 q1=>?_,fun _ _ _ _ _ _ h=>h.elim,fun _ _ _ _ _ _ h=>h.elim⟩⟩;obtain ⟨F2,g,j⟩:=r1.is I1;have q1:r.data = .bool true:=q1;rw [q1] at j;rw [j.bl_inv];exact kk H1
end
def zagf (K:Qd) (c tb:Addr):Bool:=match K.lookup c with
 | some ⟨.type "code",_,.fields vs,_⟩=>vs[11]?==some (.ref tb)
 | _=>false
abbrev emT:Obj:=⟨.none,none,.fields #[],#[]⟩
def qkj {K:Qd}{b:Addr} : ∀ (ts:List (Addr×Addr)),(b ∈ ts.map (·.1)/\(ts.map (fun p=>(p.1,emT))++K).lookup b=some emT)\/(b ∉ ts.map (·.1)/\(ts.map (fun p=>(p.1,emT))++K).lookup b=K.lookup b)
 | [] => .inr ⟨by simp,rfl⟩
 | p::ts=>by
  show (b ∈ p.1::ts.map (·.1)/\((p.1,emT)::(ts.map (fun p=>(p.1,emT))++K)).lookup b=some emT)\/(b ∉ p.1::ts.map (·.1)/\((p.1,emT)::(ts.map (fun p=>(p.1,emT))++K)).lookup b=K.lookup b);rw [Zj];by_cases e:b=p.1
  ·subst e;rw [beq_self_eq_true];exact .inl ⟨J0,rfl⟩
  ·have hb:(b==p.1)=false:=by simpa using e
   rw [hb];rcases qkj (K:=K) (b:=b) ts with ⟨h1,h2⟩|⟨h1,h2⟩
   ·exact .inl ⟨Qm _ h1,h2⟩
   ·exact .inr ⟨fun z=>(Qs.mp z).elim e h1,h2⟩
def tabs_in {K:Qd}{ts:List (Addr×Addr)}{h:Heap} (n:(ts.all fun p=>(K.lookup p.1).isNone)=true) (q:(ts.all fun p=>zagf K p.2 p.1)=true) (Y:Qd.In (ts.map (fun p=>(p.1,emT))++K) h):K.In h /\ ∀ b ∈ ts.map (·.1),∃ c,h.TableAt c b #[]:=by
 have kin:K.In h:=fun b o e=>by
  rcases qkj (K:=K) (b:=b) ts with ⟨h1,h2⟩|⟨h1,h2⟩
  ·obtain ⟨p,hp,rfl⟩:=Ql.mp h1;have:=Z8.mp n p hp;rw [e] at this;cases this
  ·exact Y b o (h2.trans e)
 refine ⟨kin,fun b hb=>?_⟩;rcases qkj (K:=K) (b:=b) ts with ⟨h1,h2⟩|⟨h1,h2⟩
 ·obtain ⟨p,hp,rfl⟩:=Ql.mp hb;have q:=Z8.mp q p hp;refine ⟨p.2,?_,Y _ _ h2⟩;unfold zagf at q;split at q
  case h_2=>cases q
  rename_i dd vs sl ho;exact ⟨_,vs,kin _ _ ho,rfl,rfl,by simpa using q⟩
 ·exact (h1 hb).elim
def none_all {K:Qd}{ts:List (Addr×Addr)} (n:(ts.all fun p=>(K.lookup p.1).isNone)=true) : ∀ b ∈ ts.map (·.1),K.lookup b=none:=fun b hb=>by
 obtain ⟨p,hp,rfl⟩:=Ql.mp hb;exact Qam.mp (Z8.mp n p hp)
end
section
section
variable {a:Addr}{F H F1 H1 F2 H2:Hp}
end
end
section
section
variable {prog:Zi}{w:World}{A:Zw}{E:Value->Qk->Prop}{s:Qk}
end
section
variable {X:Cx}{pins:List (Addr×Obj)}{σ:St}{H:Hp}{s:Qk}{A:Zw}{E:Value->Qk->Prop}{vs:List Value}{kl:Nat->List Int}{m:Nat}{a:Addr}{P:Qiz->Qk->Prop}
end
end
section
section
variable {X:Cx}
def qvw {K:Qd}{F:Hp}{l:List Qh}{xs:List V} (h:Iss K F l xs) : ∀ {js:List Nat},(∀ j ∈ js,j<l.length)->Iss K F (js.map fun j=>l.getD j .none) (js.map fun j=>xs.getD j .non)
 | [],_=>qay
 | j::js,hj=>by
  have e:l[j]?=some (l[j]'(hj j (by simp))):=Qc _;obtain ⟨x,ex,ix⟩:=h.get e;refine qap ?_ (qvw h fun k hk=>hj k (Qm _ hk));show Is K F (l.getD j .none) (xs.getD j .non);rw [Q7,Q7,e,ex];exact ix
end
end
section
section
variable {X:Cx}{elt target iter cnd:Expr}{scope:Scope}{pos py spos:Pos}{caps own:List Str}{ix:List Nat}{Wi:WF}{G:WG}{Wt:WT}{We:WE}{i:Nat}{y:Str}
end
end
section
end
section
section
variable {prog:Zi}{w:World}{A:Zw}{E:Value->Qk->Prop}{s:Qk}{b c f:Bool}{z TI TO j1 j2 l1 l2 a:Addr}{oa:Obj}{k1 k2:Nat}{us vs:Array Value}
end
section
variable {prog:Zi}{w:World}{A:Zw}{E:Value->Qk->Prop}{s:Qk}{b c:Bool}{z TI TO j1 j2 l1 l2 M S:Addr}{us vs:Array Value}{i:Nat}{h h':Heap}
end
end
section
section
variable {X:Cx}{pins:List (Addr×Obj)}{σ:St}{s:Qk}
end
end
section
structure LamScopeC (scope:Scope) (x y:Str):Prop where
 kind:scope.kind = .function
 co:scope.isCoroutine=false
 gen:scope.isGenerator=false
 px:scope.names.lookup x=some .cell
 py:scope.names.lookup y=some .free
 ne:x≠y
 cf : ∀ (n:Nat) (c:Addr),Vn n scope.names [(y,c)]=[(x,n),(y,c)]
 pc : ∀ h:Heap,Qci h scope.names=h.push { cls :=.type "cell",data :=.cell none }
 cell : ∀ z,scope.names.lookup z=some .cell->z=x
 free : ∀ z,scope.names.lookup z=some .free->z=y
def zaim {M:Model}{A:Zw}{E:Value->Qk->Prop}{s:Qk}{scope:Scope}{globals cg:Addr}{x y qual:Str}{u:Value}{func:Option Addr}{code:Value}{builtins:Addr}{Q:Env->Qk->Prop} (S:LamScopeC scope x y)
 (hQ : ∀ h',(∀ b o,s.heap.get? b=some o->h'.get? b=some o)->h'.Ns s.heap.objs.size (fun _=>none)->h'.IsCell (s.heap.objs.size+1) (some u)->Q (newEnv scope s.heap.objs.size globals [(x,s.heap.objs.size+1),(y,cg)] qual func code none builtins) { s with heap:=h' }) :
  wpAny M A (Qcc scope globals [(y,cg)] [(x,u)] qual func code none builtins) Q E s:=by
  simp only [Qcc,Option.isSome_none,Qbh,if_false];refine Qj (wpAny_alloc ?_);refine Qj (wpAny_layCells _ (fun name kind cells=>by cases hkc:kind==V3 <;> simp [hkc]) _ _ _ _ ?_);rw [show ({ s with heap:=s.heap.push { cls :=.type "frame",data :=.dict #[] } }:Qk).heap.objs.size=s.heap.objs.size+1 from Vs ..,S.cf];have e1:Qci ({ s with heap:=s.heap.push { cls :=.type "frame",data :=.dict #[] } }:Qk).heap scope.names=(s.heap.push { cls :=.type "frame",data :=.dict #[] }).push { cls :=.type "cell",data :=.cell none }:=S.pc _;rw [e1,List.forIn_cons];have sz:(s.heap.push { cls :=.type "frame",data :=.dict #[] }).objs.size=s.heap.objs.size+1:=Vs ..;have hc:((s.heap.push { cls :=.type "frame",data :=.dict #[] }).push { cls :=.type "cell",data :=.cell none }).IsCell (s.heap.objs.size+1) none:=⟨_,by rw [<- sz];exact Q8 _ rfl,rfl⟩
  have kp : ∀ b o,s.heap.get? b=some o->((s.heap.push { cls :=.type "frame",data :=.dict #[] }).push { cls :=.type "cell",data :=.cell none }).get? b=some o:=fun b o e=>Qo _ (Qo _ e);have ns:((s.heap.push { cls :=.type "frame",data :=.dict #[] }).push { cls :=.type "cell",data :=.cell none }).Ns s.heap.objs.size (fun _=>none):=(Qkl s.heap (.type "frame")).keeps fun b o e=>Qo _ e;refine Qj (Qj (Qj (Qgh (env:=newEnv scope s.heap.objs.size globals [(x,s.heap.objs.size+1),(y,cg)] qual func code none builtins) (name:=x) (c:=s.heap.objs.size+1) S.kind S.px (by show ([(x,s.heap.objs.size+1),(y,cg)]:List (Str×Addr)).lookup x=_;rw [Zj,beq_self_eq_true]) hc fun h' hc' hs'=>Q1 ?_)));dsimp only;rw [Qjk];refine Q1 (Q1 (hQ h' (fun b o e=>hs'.extBut b o (Za (Vf (Qw e))) (kp b o e)) (ns.sameBut hs' (Za (Qck _))) hc'))
section
variable {P:Zi}{w:World}{K:Qd}{mg:Str->Option Value}{base:Heap}{q:Str}{scope:Scope}{f cg:Addr}{cd ug u:Value}{x y:Str}{A:Zw}{outer:List Env}{s:Qk}{H:Hp}{v vg:V}{h1:Heap}{tk:Nat}
def zads (S:LamScopeC scope x y) (hd:A.handled=none) (e0:Env0 P w K mg base A outer s H) (hc:s.heap.IsCell cg (some ug)) (hn:H cg=none) (rg:RelV vg ug) (ru:RelV v u)
 (ns:h1.Ns s.heap.objs.size (fun _=>none)) (hx:h1.IsCell (s.heap.objs.size+1) (some u)) (hk : ∀ b o,s.heap.get? b=some o->h1.get? b=some o) :
 Inv (cxL P w K mg base q scope f cd [(x,s.heap.objs.size+1),(y,cg)] [x,y] A outer s H) [] [some v,some vg] H { s with heap:=h1,toks:=tk }:=by
  have noA : ∀ b:Addr,b ∉ (cxL P w K mg base q scope f cd [(x,s.heap.objs.size+1),(y,cg)] [x,y] A outer s H).ex:=fun b z=>absurd (show b ∈ ([]:List Addr) from z) (by simp);have cl:cg<s.heap.objs.size:=by obtain ⟨o,ho,_⟩:=hc;exact Qw ho
  have look : ∀ z c,(cxL P w K mg base q scope f cd [(x,s.heap.objs.size+1),(y,cg)] [x,y] A outer s H).env.cells.lookup z=some c->(z=x/\c=s.heap.objs.size+1)\/(z=y/\c=cg):=fun z c h=>by
   have h:([(x,s.heap.objs.size+1),(y,cg)]:List (Str×Addr)).lookup z=some c:=h;rw [Zj] at h;cases e:z==x with
   | true=>rw [e] at h;exact .inl ⟨eq_of_beq e,(Qn h).symm⟩
   | false =>
    rw [e] at h;have h:([(y,cg)]:List (Str×Addr)).lookup z=some c:=h;rw [Zj] at h;cases e:z==y with
    | true=>rw [e] at h;exact .inr ⟨eq_of_beq e,(Qn h).symm⟩
    | false=>rw [e] at h;cases h
  have lkx:([(x,s.heap.objs.size+1),(y,cg)]:List (Str×Addr)).lookup x=some (s.heap.objs.size+1):=by rw [Zj,beq_self_eq_true]
  have lky:([(x,s.heap.objs.size+1),(y,cg)]:List (Str×Addr)).lookup y=some cg:=by
   have:(y==x)=false:=by simpa using V7 S.ne
   rw [Zj,this];show ([(y,cg)]:List (Str×Addr)).lookup y=some cg;rw [Zj,beq_self_eq_true]
  refine ⟨⟨e0.mod,S.kind,rfl,rfl,Qr _,fun z z' c a b=>?_,fun z hz=>?_,fun z c a b=>(by cases a),fun _=>hd,Qcp e0.frames,.inr ⟨rfl,rfl⟩,fun b z=>absurd z (noA b),e0.bs,e0.bsz,fun b _ _=>noA b,fun b z=>absurd z (noA b),e0.funs,e0.frf⟩,
   rfl,e0.bare,Un.kept hk,⟨_,ns,fun i z v' a1 a2 a3=>?_⟩,fun z c a=>?_,e0.hok.fresh (Qr _),fun z c a=>?_,fun p hp=>absurd (show p ∈ ([]:List (Addr×Obj)) from hp) (by simp),e0.hok.kept hk,rfl⟩
  ·rcases look z c a with ⟨h1,h2⟩|⟨h1,h2⟩ <;> rcases look z' c b with ⟨h3,h4⟩|⟨h3,h4⟩
   ·rw [h1,h3]
   ·exact absurd (h2.symm.trans h4) (Yr (Vf cl))
   ·exact absurd (h4.symm.trans h2) (Yr (Vf cl))
   ·rw [h1,h3]
  ·have hz:scope.names.lookup z=some .cell\/scope.names.lookup z=some .free:=hz;rcases hz with hz|hz
   ·rw [S.cell z hz];exact ⟨_,lkx⟩
   ·rw [S.free z hz];exact ⟨cg,lky⟩
  ·have a1:([x,y]:List Str)[i]?=some z:=a1
   match i,a1,a2 with
   | 0,a1,a2 =>
    have e1:x=z:=Qn a1;have e2:v=v':=Qn (Qn a2);subst e1;subst e2;exact ⟨u,ru,.inr ⟨.inl S.px,_,lkx,hx⟩⟩
   | 1,a1,a2 =>
    have e1:y=z:=Qn a1;have e2:vg=v':=Qn (Qn a2);subst e1;subst e2;obtain ⟨oc,ho,hd'⟩:=hc;exact ⟨ug,rg,.inr ⟨.inr S.py,cg,lky,oc,hk _ _ ho,hd'⟩⟩
   | i+2,a1,a2=>cases a1
  ·rcases look z c a with ⟨_,h2⟩|⟨_,h2⟩
   ·rw [h2];exact ⟨_,hx⟩
   ·rw [h2];obtain ⟨oc,ho,hd'⟩:=hc;exact ⟨_,oc,hk _ _ ho,hd'⟩
  ·rcases look z c a with ⟨_,h2⟩|⟨_,h2⟩
   ·rw [h2];exact e0.hok.fresh (Qbv _)
   ·rw [h2];exact hn
def zafk {nm qual:Str}{params:Qcf}{body:Expr}{pm ct:Value}{c:Addr}{o oc:Obj}{vs:Array Value}{t:Tok}{te:TE}{Q:VK}{E:XK} (S:LamScopeC scope x y) (hd:A.handled=none) (e0:Env0 P w K mg base A outer s H) (room:A.depth<Vk)
 (ho:s.heap.get? f=some o) (h2:o.data = .func (kla_fn nm qual params body scope [(y,cg)] pm (.ref c) ct)) (hb:Qcx (kla_fn nm qual params body scope [(y,cg)] pm (.ref c) ct) ⟨[u],[]⟩=pure [(x,u)])
 (h7:s.heap.get? c=some oc) (h8:oc.data = .fields vs) (h9:vs[1]?=some (.str q t)) (hc:s.heap.IsCell cg (some ug)) (hn:H cg=none) (rg:RelV vg ug) (ru:RelV v u)
 (he:PE (cxL P w K mg base q scope f (.ref c) [(x,s.heap.objs.size+1),(y,cg)] [x,y] A outer s H) body te) (h:te [some v,some vg] H Q):Qbz (model P w) A (.call (.ref f) ⟨[u],[]⟩) (CR CX0 outer P w H s Q E) s:=by
  refine qqp room ho h2 S.co S.gen rfl rfl h7 h8 h9 ?_;rw [hb];refine Q1 (zaim S fun h1 hk ns hx=>?_);refine ⟨(e0.mod.nolimit.keeps fun b o e=>(e0.bs b o e).1).keeps hk,?_⟩;have I:=zads (q:=q) (f:=f) (cd :=.ref c) (tk:=s.toks) S hd e0 hc hn rg ru ns hx hk;refine kla_codeExpr (Z4 (he [] _ _ H Q I h) (fun r s' z=>?_) fun _ _ z=>z.elim);obtain ⟨v',H',I',r',q'⟩:=z;exact ⟨v',H',I'.os,I'.bare,I'.base,I'.hok,r',q'⟩
end
end
section
section
variable {X:Cx}{pins:List (Addr×Obj)}{σ:St}{H:Hp}{s:Qk}{E:Value->Qk->Prop}{f a:Addr}{xs:List V}{its:List Value}{b:Bool}{kl:Nat->List Int}{G:Hp->Prop}{m:Nat}{Q:Value->Qk->Prop}
def qwc (hu:X.A.in1.in1.units<cLine) (I:Inv X pins σ H s) (pl:PlainL s.heap a its.toArray) (hn:its.length<64) (hc:qid X pins σ X.A.in1.in1 (.ref f) its b kl G) (o:OrdN its.length (qJ kl m)) (hm : ∀ i,i<its.length->(kl i).length=m) (g:G H)
 (k : ∀ (p:Array Nat) (l:Addr) (H':Hp) (s':Qk) (c:Nat),PmN its.length p->SrtN (qJ kl m) p its.length->Inv X pins σ H' s'->Same H H'->G H'->OwnA X pins l->H' l=none->s'.heap.get? l=some (Vh "list" (p.toList.map fun i=>its.getD i .none).toArray c)->Q (.ref l) s') :
 wpAny (model X.prog X.w) X.A (call (.builtin "sorted") [.ref a] [(Qq "key",.ref f)]) Q E s:=by
  refine Qey kind_sorted plain_sorted entry_sorted (ksk_s1 _ _) ?_;unfold Builtin.«sorted»;refine Qj (m:=checkCount "sorted" 1 1 _) (Q1 ?_);refine Qj (collect_list pl.isList ?_ (by first|(rw [Z0];omega)|(rw [Qz,Z0];omega)));refine Qj (Qhm ?_ (by rw [Z0];show its.toArray.toList.length<=_;simp;omega));have hsz:((s.heap.push (Vh "list" #[] 0)).update s.heap.objs.size (Yh (· ++ its.toArray))).objs.size=s.heap.objs.size+1:=by
   rw [Heap.size_update,size_push']
  have hoL:(((s.heap.push (Vh "list" #[] 0)).update s.heap.objs.size (Yh (· ++ its.toArray))).push (Vh "list" its.toArray 0)).get? (s.heap.objs.size+1)=some (Vh "list" its.toArray 0):=by
   rw [<- hsz];exact Q8 _ rfl
  have keep : ∀ b o,s.heap.get? b=some o->(((s.heap.push (Vh "list" #[] 0)).update s.heap.objs.size (Yh (· ++ its.toArray))).push (Vh "list" its.toArray 0)).get? b=some o:=fun b o q=>by
   have hlt:b<s.heap.objs.size:=Qw q;rw [Qht _ _ _ (by rw [hsz];exact Za (Vf hlt)),Heap.get?_update_ne _ _ _ _ (Za hlt),Qht _ _ _ (Za hlt)];exact q
  show wpAny _ _ _ _ _ { s with heap:=((s.heap.push (Vh "list" #[] 0)).update s.heap.objs.size (Yh (· ++ its.toArray))).push (Vh "list" its.toArray 0) };rw [hsz];have I2:=I.kept (t':=s.toks) keep;have ow:=zach I (Qbv s.heap.objs.size);have nl:=I.hok.fresh (Qbv s.heap.objs.size);generalize ((s.heap.push (Vh "list" #[] 0)).update s.heap.objs.size (Yh (· ++ its.toArray))).push (Vh "list" its.toArray 0)=h2 at I2 hoL;refine Qj (Qbm (Qgp slot_list_sort ⟨_,hoL,rfl⟩ entry_list_sort ?_ (ksk_l1 _ _)));show wpAny (model X.prog X.w) X.A.in1.in1 (Builtin.«list.sort» ⟨[.ref (s.heap.objs.size+1)],[(Qq "key",.ref f)]⟩) _ _ _;rw [ksk_t1];refine qng (s:={ s with heap:=h2 }) hu hc o hm I2 ow nl hn hoL g fun p H' s' c hp hs I' sm g' na ha=>?_;exact ⟨_,rfl,Q1 ⟨_,rfl,k p _ H' s' c hp hs I' sm g' ow na ha⟩⟩
end
section
variable {X:Cx}{pins:List (Addr×Obj)}{σ:St}{x y:Str}{scope:Scope}{params:Qcf}{body:Expr}{te:TE}{f cg c:Addr}{pm ct:Value}{vg:V}{vsV:List V}{vs:List Value}{kn:Nat->Int}{G:Hp->Prop}{oc:Obj}{uu:HO}{fv:Array Value}{q:Str}{t:Tok}{nm qual:Str}{iy:Nat}
def zadr (S:LamScopeC scope x y) (hh:X.A.handled=none) (room:X.A.in1.in1.depth<Vk) (hpin:(f,({ cls :=.type "function",data :=.func (kla_fn nm qual params body scope [(y,cg)] pm (.ref c) ct) }:Obj)) ∈ pins)
 (hb : ∀ u,Qcx (kla_fn nm qual params body scope [(y,cg)] pm (.ref c) ct) ⟨[u],[]⟩=pure [(x,u)]) (d1:oc.data = .fields fv) (d2:fv[1]?=some (.str q t)) (hcl:X.env.cells.lookup y=some cg) (hyk:X.env.kindOf y=some .cell) (hN:X.N[iy]?=some y) (hv:σ[iy]?=some (some vg)) (rv:Vals vsV vs)
 (hfr:X.A.in1.in1.frames=X.A.frames) (hhd:X.A.in1.in1.handled=X.A.handled)
 (he : ∀ s H,PE (cxL X.prog X.w X.K X.mg X.base q scope f (.ref c) [(x,s.heap.objs.size+1),(y,cg)] [x,y] X.A.in1.in1 X.stack s H) body te)
 (hk : ∀ (i:Nat) (v:V) (H:Hp),vsV[i]?=some v->G H->te [some v,some vg] H fun r H'=>Same H H'/\G H'/\r = .int (kn i)) :
 qid X pins σ X.A.in1.in1 (.ref f) vs false (fun i=>[kn i]) (fun H=>G H/\H c=some (.frz oc uu)):=by
 intro i u H s hi I g;obtain ⟨g,ec⟩:=g;have li:i<vs.length:=(Qg.mp hi).1;have lv:i<vsV.length:=by rw [rv.length];exact li
 have ev:vsV[i]?=some vsV[i]:=Qc lv;obtain ⟨u',hu',ru⟩:=rv.get ev;rw [hi] at hu';have eu:=Qn hu';subst eu;obtain ⟨mm,ns,lk⟩:=I.loc;obtain ⟨ug,rg,look⟩:=lk iy y vg hN hv (.inr (.inl hyk));have hc:s.heap.IsCell cg (some ug):=by
  rcases look with ⟨z,_⟩|⟨_,c',e1,e2⟩
  ·rw [hyk] at z;cases z
  ·rw [hcl] at e1;rw [Qn e1];exact e2
 have e0:=I.env0;have e1:Env0 X.prog X.w X.K X.mg X.base X.A.in1.in1 X.stack s H:=⟨by rw [hfr];exact e0.frames,e0.mod,e0.bs,e0.bsz,e0.funs,e0.frf,e0.hok,e0.bare⟩
 have pf:=I.pin _ (Q4 _ hpin);refine Qic (Qcg (zafk (E:=fun _ _ _=>False) S (by rw [hhd];exact hh) e1 room pf.1 rfl (hb u) (I.hok c _ ec).1 d1 d2 hc (I.freeC y cg hcl) rg ru (he s H) (hk i _ H ev g)) fun r s' hr=>?_);cases r with
 | error e=>exact hr.elim
 | ok fl =>
  cases fl with
  | ret u2 =>
   obtain ⟨v',H',os,bare,un,hok,r',sm,g',ep⟩:=hr;subst ep;obtain ⟨tt,et⟩ : ∃ t,u2=Qgr (kn i) t:=r';exact ⟨H',I.call' os un hok bare (fun b z=>nomatch z),un,sm,⟨g',sm.at ec⟩,kn i,tt,et,rfl⟩
  | next=>exact hr.elim
  | brk=>exact hr.elim
  | cont=>exact hr.elim
end
def tSL (K:Qd) (tb:Addr) (iy:Nat) (te:TE):TE:=fun σ H Q => ∃ (a:Addr) (xs:List V) (kn:Nat->Int),(σ[iy]?=some (some (.ref a))/\SqL K H a xs/\xs.length<64) /\
 OrdN xs.length (qJ (fun i=>[kn i]) 1) /\ ∀ H1,TbGo tb H H1->Same H H1 -> ∃ G:Hp->Prop,G H1 /\
  (∀ (i:Nat) (v:V) (H2:Hp),xs[i]?=some v->G H2->te [some v,some (.ref a)] H2 fun r H3=>Same H2 H3/\G H3/\r = .int (kn i)) /\
  ∀ (p:Array Nat) (l:Addr) (H3:Hp),PmN xs.length p->SrtN (qJ (fun i=>[kn i]) 1) p xs.length->Same H1 H3->G H3->H3 l=none->H l=none->Q (.ref l) (upd H3 l (.lst (p.toList.map fun i=>xs.getD i .non)))
section
variable {X:Cx}{x y:Str}{scope:Scope}{params:Qcf}{body:Expr}{te:TE}{cg c0 tb:Addr}{iy:Nat}{np gp lp kp pos:Pos}
def qwt (hu:X.A.in1.in1.units<cLine) (hh:X.A.handled=none) (room:X.A.in1.in1.depth<Vk) (hT:TbS tb X.H₀) (hcode:X.env.code = .ref c0) (C:CodeHd X.base c0 tb) (hbt:X.base.BuiltinsAt X.mg tb) (hg:Gl X "sorted") (hm:X.mg "sorted" = none) (hvar:PE X (.Name y gp) (qxg iy)) (S:LamScopeC scope x y)
 (hcl:Qia scope X.env=pure [(y,cg)]) (hlk:X.env.cells.lookup y=some cg) (hyk:X.env.kindOf y=some .cell) (hN:X.N[iy]?=some y)
 (hb : ∀ nm qual pm c ct u,Qcx (kla_fn nm qual params body scope [(y,cg)] pm (.ref c) ct) ⟨[u],[]⟩=pure [(x,u)])
 (he : ∀ q f c s H,PE (cxL X.prog X.w X.K X.mg X.base q scope f (.ref c) [(x,s.heap.objs.size+1),(y,cg)] [x,y] X.A.in1.in1 X.stack s H) body te)
 (hdef:defaultsOf params X.env=([],[]):=by rfl) (hfr:X.A.in1.in1.frames=X.A.frames:=by rfl) (hhd:X.A.in1.in1.handled=X.A.handled:=by rfl) :
  PE X (.Call (.Name "sorted" np) [.Name y gp] [⟨some "key",.Lambda params body scope lp,kp⟩] pos) (tSL X.K tb iy te):=by
  intro pins s σ H Q I h;obtain ⟨a,xs,kn,⟨e1,ea,hn⟩,o,rest⟩:=h;refine V6 (qgk I hg hm boot_sorted ?_);refine callWith_kw ?_;show wpAny _ _ (spliced [(false,eval (.Name y gp) X.env)]) _ _ s;refine J3 (thn (hvar pins s σ H (fun v H'=>v = .ref a/\H'=H) I ⟨_,e1,rfl,rfl⟩) fun u s1 xx180=>?_);obtain ⟨v1,H1,I1,r1,ev,eH⟩:=xx180;subst ev;subst eH;obtain rfl:u=Vw a:=r1;refine Qbt ?_;refine kws_cons (kla_eval hdef (qvs I1 (TbS.of I1 hT) hcode C hbt hcl fun f c ct pm oc fv q t s3 H3 I3 go new hf xx179 d1 d2=>?_));obtain ⟨uu,ec⟩:=xx179;refine kws_nil ?_;show wpAny _ _ (call (.builtin "sorted") [.ref a] [(Qq "key",.ref f)]) _ _ s3;have gs:=go.same (TbS.of I1 hT);obtain ⟨G,g0,hk,fin⟩:=rest H3 go gs;have ea3:=gs.seq ea;obtain ⟨its,rv,pl,hz⟩:=I3.list ea3;have zl:its.length=xs.length:=rv.length.symm;refine qwc (b:=false) (m:=1) hu I3 pl (by rw [zl];exact hn) (zadr (G:=G) (kn:=kn) (uu:=uu) (oc:=oc) (vsV:=xs) (iy:=iy) S hh room (Q4 _ (Qp.mpr rfl)) (fun u=>hb _ _ _ _ _ u) d1 d2 hlk hyk hN e1 rv hfr hhd (fun s H=>he q f c s H) hk) (by rw [zl];exact o) (fun _ _=>rfl) ⟨g0,ec⟩ fun p l H4 s4 cc hp hs I4 sm g4 ow4 nl hl=>?_;have hp':PmN xs.length p:=by rw [<- zl];exact hp
  have hs':SrtN (qJ (fun i=>[kn i]) 1) p xs.length:=by rw [<- zl];exact hs
  have nl0:H1 l=none:=(gs.trans sm).free nl;have vp:Vals (p.toList.map fun i=>xs.getD i V.non) (p.toList.map fun i=>its.getD i Jb):=qkn rv fun i hi=>Zp.mp (hp.p.mem_iff.mp hi);have I5:=I4.track (u :=.lst (p.toList.map fun i=>xs.getD i V.non)) ow4 nl ⟨by rw [Qe,Zf,hp.s,zl,Z0];omega,_,cc,vp,hl⟩;exact ⟨.ref l,_,I5.unpinned,rfl,fin p l H4 hp' hs' sm g4.1 nl nl0⟩
end
def VE.peK {X:Cx}{K:Qd}{e:Expr}{W:WE} (h:VE X e W) (hk:X.K=K:=by rfl):PE X e (qbw K W):=by subst hk;exact h
def wAug (i:Nat) (W:WE):WS:=fun D env => ∃ a:Int,gS env i = .val (.int a)/\W env fun d e => ∃ c:Int,d = .int c/\D.nx (e.set i (.val (.int (a+c))))
def zagd {X:Cx}{i:Nat}{x:Str}{e:Expr}{W:WE}{pos pos':Pos} (hN:X.N.Nodup) (he:VE X e W) (hi:X.N[i]?=some x:=by rfl) (hx:Loc X.env.scope x:=by first|exact V1 rfl|exact Va rfl)
 (hf:X.fn x=true\/X.env.scope.names.lookup x=some .local:=by first|exact .inl rfl|exact .inr rfl):VS X (.AugAssign (.Name x pos') .Add e pos) (wAug i W):=(zanj hN hi hx he zalx hf).imp fun D σ H xx182=>by
 obtain ⟨M,env,F,DD,I,⟨a,ea,h⟩,k⟩:=xx182;have S:=I.slot i;rw [ea] at S;obtain ⟨v,ev,iv⟩:=S;obtain rfl:=iv.int_inv;refine ⟨_,qed ev,M,env,F,_,I,h,fun d v F1 H1 e1 I1 s1 i1 xx181=>?_⟩;obtain ⟨c,ed,h1⟩:=xx181;subst ed;obtain rfl:=i1.int_inv;exact ⟨a,c,rfl,rfl,k.nx _ F1 H1 _ (I1.setv (qad _)) s1 h1⟩
section
variable {X:Cx}{elt target iter cnd:Expr}{scope:Scope}{pos py spos:Pos}{caps own:List Str}{ix:List Nat}{Wi:WF}{G:WG}{Wt:WT}{We:WE}{i:Nat}{y:Str}
def qwy (hN:X.N.Nodup) (hc:X.calm=true) (S:CompScope X.env scope caps) (hi:VI X target iter Wi) (hg : ∀ pins s3 H ex,VG (blk X pins scope (caps++own) s3 H ex) target G) (ht : ∀ pins s3 H ex,VT (blk X pins scope (caps++own) s3 H ex) cnd Wt) (he : ∀ pins s3 H ex,VE (blk X pins scope (caps++own) s3 H ex) elt We)
 (hiy:X.N[i]?=some y:=by rfl) (hy:X.env.scope.names.lookup y=some .local:=by rfl) (hsw:Qaa (.ListComp elt [⟨target,iter,[cnd],0⟩] scope pos) (some (.Name y py)) spos.line X.env=pure true:=by rfl)
  (hix:caps.length=ix.length:=by rfl) (hcapB:(caps.zip ix).all (fun p=>X.N[p.2]?==some p.1)=true:=by rfl) (hs : ∀ x,Yb iter X.env x=pure x:=by intro _;rfl) :
  VS X (.Assign [.Name y py] (.ListComp elt [⟨target,iter,[cnd],0⟩] scope pos) spos) (zale i (qnz ix own.length Wi G Wt We)) :=
  (qrd (wi:=qte X.K Wi) (g:=qpx X.K G) (tt:=qnt X.K Wt) (te:=qbw X.K We) hN hiy hy hsw hc S hi hg he ht hix hcapB hs).imp fun D σ H ⟨M,env,F,DD,I,h,k⟩=>qgo ⟨M,env,F,_,I,h,fun a vs ds F1 H1 e1 I1 s1 h1 h2 h3 h4 h5 h6 h7 =>
   k.nx _ F1 H1 _ (I1.seto h1 h2 h3 h4 h5 h6) s1 h7⟩
end
end
end L2
namespace HT
open PySem PySem.Spec PyProof.Rows
section
variable {prog:Zi}{w:World}{A:Zw}{E:Value->Qk->Prop}{s:Qk}
end
end HT
namespace L2
open PySem PySem.Spec PyProof.Rows PySem.W
section
def zahy {xs:List V}{its:List Value} (h:Vals xs its) (f:Nat->Nat) : ∀ js:List Nat,Vals (js.filterMap fun k=>xs[f k]?) (js.filterMap fun k=>its[f k]?)
 | [] => .nil
 | k::js=>by
  have ih:=zahy h f js;rw [Yz,Yz];cases e:xs[f k]? with
  | none =>
   have:its[f k]?=none:=Qy (by rw [<- h.length];exact List.getElem?_eq_none_iff.mp e);rw [this];exact ih
  | some x =>
   obtain ⟨u,hu,r⟩:=h.get e;rw [hu];exact .cons r ih
section
variable {X:Cx}{e:Expr}{te:TE}{p2 pos:Pos}
end
section
variable {X:Cx}{e:Expr}{W:WE}{p2 p3 p4 pos:Pos}
end
section
variable {X:Cx}{x:Str}{px pos p pT:Pos}
end
def wOrX (W1 W2:WX->WS):WX->WS:=fun Wx D env=>W1 Wx D env\/W2 Wx D env
def zamp {X:Cx}{Ex:St->XK}{st:Stmt}{W1 W2:WX->WS} (h1:VSX X Ex st W1) (h2:VSX X Ex st W2):VSX X Ex st (wOrX W1 W2):=fun pins s σ H D I xx184=>by
 obtain ⟨M,env,F,Wx,DD,J,h,hx,k⟩:=xx184;rcases h with h|h
 ·exact h1 pins s σ H D I ⟨M,env,F,Wx,DD,J,h,hx,k⟩
 ·exact h2 pins s σ H D I ⟨M,env,F,Wx,DD,J,h,hx,k⟩
def zada {X:Cx}{Ex:St->XK}{tg iter:Expr}{body:List Stmt}{pos:Pos}{W:WX->WE} (hc:X.calm=true) (he:VEX X Ex iter W)
 (hs : ∀ x,Yb iter X.env x=pure x:=by intro _;rfl) (hp:Qhh (model X.prog X.w) X.A X.env X.xe:=by exact Qhh.leaving):VSX X Ex (.For tg iter body [] pos) (fun Wx _ env=>W Wx env fun _ _=>False) :=
  (qya hp hc (zagj he) (g:=fun _ _ _ _=>False) (fun _ _ _ _ _ _ _ _ _ h=>h.elim) (tb:=fun _ _ _=>False) (fun _ _ _ _ _ _ h=>h.elim) hs).imp fun D σ H xx185=>by
   obtain ⟨M,env,F,Wx,DD,I,h,hx,k⟩:=xx185;exact ⟨M,env,F,Wx,_,I,h,hx,fun d v F' H' e' _ _ _ z=>z.elim⟩
end
end L2
def L2.Room.m {j k:Nat}{A:PySem.Around} (r:L2.Room k A) (h:j<=k:=by decide):L2.Room j A:=r.mono h
namespace My
open PySem L2
seal VE VF VA VT VW VS VSs VG VGs VI VO OpV qio qpc VN VFN VST VSsT VEX VSX qyn
def top (i:Nat):Stmt:=Qi.main.body.getD i (.Pass ⟨0,0,0,0⟩)
abbrev qcy:Stmt:=top 44
abbrev qem:Stmt:=top 45
abbrev qdt:Stmt:=top 43
abbrev qgd:Stmt:=top 46
abbrev qen:Stmt:=top 47
abbrev qds:Stmt:=top 48
abbrev qcj:Stmt:=top 52
abbrev qer:Stmt:=top 56
abbrev qfx:Stmt:=top 5
abbrev qhn:Stmt:=top 6
abbrev qge:Stmt:=top 9
abbrev qcc:Stmt:=top 10
abbrev qmu:Stmt:=top 14
abbrev qhi:Stmt:=top 8
abbrev qny:Stmt:=top 7
abbrev qjq:Stmt:=top 21
abbrev qnx:Stmt:=top 22
abbrev qjt:Stmt:=top 23
abbrev qbj:Stmt:=top 16
abbrev qhc:Stmt:=top 18
abbrev qch:Stmt:=top 17
abbrev qcx:Stmt:=top 20
abbrev qbd:Stmt:=top 19
abbrev qfp:Stmt:=top 24
abbrev qbv:Stmt:=top 30
abbrev qbu:Stmt:=top 28
abbrev qY:Stmt:=top 27
abbrev qbk:Stmt:=top 29
abbrev qgg:Stmt:=top 31
abbrev qfz:Stmt:=top 32
abbrev qnw:Stmt:=top 26
abbrev qdq:Stmt:=top 36
abbrev qT:Stmt:=top 35
abbrev qni:Stmt:=top 34
abbrev qhg:Stmt:=top 37
abbrev qnd:Stmt:=top 11
abbrev qno:Stmt:=top 12
abbrev qnh:Stmt:=top 13
abbrev qmv:Stmt:=top 39
abbrev qep:Stmt:=top 38
abbrev qfu:Stmt:=top 41
abbrev qtl:Stmt:=top 40
abbrev qdw:Stmt:=top 49
abbrev qbt:Stmt:=top 50
abbrev qbe:Stmt:=top 51
abbrev qcd:Stmt:=top 53
abbrev qdy:Stmt:=top 54
abbrev qce:Stmt:=top 55
abbrev qdx:Stmt:=top 57
abbrev qdr:Stmt:=top 58
abbrev qeq:Stmt:=top 59
abbrev qcg:Stmt:=top 60
abbrev qdu:Stmt:=top 61
abbrev qeo:Stmt:=top 62
abbrev qfv:Stmt:=top 34
abbrev qhh:Stmt:=top 40
abbrev qbm:Stmt:=top 63
abbrev qlu:Stmt:=top 64
def sc0 {N P:List Str}{sc:Scope} (a:sc.kind = .function:=by rfl) (b:sc.isCoroutine=false:=by rfl) (c:sc.isGenerator=false:=by rfl) (d:N.Nodup:=by decide +kernel) (e:N.take P.length=P:=by rfl) (f : ∀ x ∈ P,sc.names.lookup x=some .local\/sc.names.lookup x=some .cell:=by decide +kernel) (g : ∀ y ∈ sc.names,y.2 ≠ .free:=by decide +kernel):FnScope N P sc:=⟨a,b,c,d,e,f,g⟩
def pv {X:Cx} (i:Nat) {x:Str}{pos:Pos} (hN:X.N[i]?=some x:=by rfl) (hv:Vis X.env.scope x:=by first|exact V1 rfl|exact Va (V1 rfl)|exact Va (Va rfl)) (hd:Nd0 x:=by decide) (hc:Nd1 x:=by decide):PE X (.Name x pos) (qxg i):=qey hN hv hd hc
structure Cs where
 GlassError:Addr
 NoFit:Addr
 tb:Addr
 tb1:Addr
 c0:Addr
 c1:Addr
 bm:Addr
structure Txt (K:Qd) (mg:Str->Option Value) (cs:Cs):Prop where
 GlassError_:mg "GlassError" = some (.ref cs.GlassError)
 NoFit_:mg "NoFit" = some (.ref cs.NoFit)
 GlassError_e:Y5 K cs.GlassError qmp "ValueError.__new__" = true
 NoFit_e:Y5 K cs.NoFit qmp "ValueError.__new__" = true
 NoFit_x:XCls K cs.NoFit
 u_NoFit_GlassError:zagz K cs.NoFit cs.GlassError
 k_NoFit_NoFit:Ju K (.ref cs.NoFit) (.ref cs.NoFit)=some true
 tab_h:qtb K cs.c0 cs.tb=true
 bm_h:blIn K cs.bm cs.tb=true
 tab1_h:qtb K cs.c1 cs.tb1=true
 bm1_h:blIn K cs.bm cs.tb1=true
 bm_:mg "__builtins__" = some (.ref cs.bm)
 abs_:mg "abs" = none
 any_:mg "any" = none
 bool_:mg "bool" = none
 enumerate_:mg "enumerate" = none
 int_:mg "int" = none
 isinstance_:mg "isinstance" = none
 len_:mg "len" = none
 list_:mg "list" = none
 max_:mg "max" = none
 min_:mg "min" = none
 range_:mg "range" = none
 sorted_:mg "sorted" = none
 sum_:mg "sum" = none
 tuple_:mg "tuple" = none
section
variable {P:Zi}{w:World}{K:Qd}{mg:Str->Option Value}{base:Heap}{cs:Cs}
def qoo {a b:Int}{g:Nat} (h0:0<=a) (hb:0<=b) (h1:b≠0) (h:Qeo a.toNat b.toNat=g) :
 0<=a%b/\a%b<b/\Qeo b.toNat (a%b).toNat=g:=by
  have hp:0<b:=by omega
  have e1:=Qfl a h1;have e2:=Qdn a hp;refine ⟨e1,e2,?_⟩;have e3:(a%b).toNat=a.toNat%b.toNat:=by
   have:((a.toNat%b.toNat:Nat):Int)=a%b:=by
    rw [Int.natCast_emod,Jm h0,Jm hb]
   rw [<- this];rfl
  rw [e3,<- h,Qif b.toNat,Qif a.toNat];exact (Nat.gcd_rec _ _).symm
def qrx {a:Int}{b:Int}{g:Nat} (h0:0<=a) (h1:b=0) (h:Qeo a.toNat b.toNat=g):a=(g:Int):=by
 subst h1;rw [<- h];have:Qeo a.toNat (Qdc 0)=a.toNat:=Nat.gcd_zero_right _;rw [this];omega
def qkp (a b:Int):Qeo (if a<0 then -a else a).toNat (if b<0 then -b else b).toNat=Yq a b:=by
 have e : ∀ x:Int,(if x<0 then -x else x).toNat=x.natAbs:=fun x=>by split <;> omega
 rw [e,e];rfl
structure Shr (p q:Int):Prop where
 pos:1<=q
 gcd:Yq p q=1
def cm (t b:Int):Int:=if b<0 then -(Yq t b:Int) else (Yq t b:Int)
def shT (t b:Int):Int:=t.fdiv (cm t b)
def shB (t b:Int):Int:=b.fdiv (cm t b)
def qzb {t b:Int} (hb:b≠0):0<Yq t b:=Qcu t hb
def zako {t b:Int} (hb:b≠0):cm t b≠0:=by
 have:=qzb (t:=t) hb;unfold cm;split <;> omega
def zadi (t b:Int):cm t b∣t:=by
 have h:(Yq t b:Int)∣t:=Qip ..;unfold cm;split
 ·exact Int.neg_dvd.mpr h
 ·exact h
def zadx (t b:Int):cm t b∣b:=by
 have h:(Yq t b:Int)∣b:=Qhu ..;unfold cm;split
 ·exact Int.neg_dvd.mpr h
 ·exact h
def qll {c t:Int} (h:c∣t):c*(t.fdiv c)=t:=Int.mul_fdiv_cancel' h
def zahj (t b:Int):cm t b*shT t b=t:=qll (zadi t b)
def qsu (t b:Int):cm t b*shB t b=b:=qll (zadx t b)
def qqz (t b:Int):(cm t b).natAbs=Yq t b:=by unfold cm;split <;> omega
def qck {t b:Int} (hb:b≠0):Shr (shT t b) (shB t b)/\shT t b*b=t*shB t b:=by
 have h1:=zahj t b;have h2:=qsu t b;have hc:=zako (t:=t) hb;have hg:=qzb (t:=t) hb;refine ⟨⟨?_,?_⟩,?_⟩
 ·by_cases hn:b<0
  ·have hcn:cm t b<0:=by unfold cm;rw [if_pos hn];omega
   have:0<shB t b:=by
    rcases Yu 0 (shB t b) with h|h
    ·exact h
    ·have:=Int.mul_nonneg_of_nonpos_of_nonpos (J7 hcn) h;omega
   omega
  ·have hcn:0<cm t b:=by unfold cm;rw [if_neg hn];omega
   have hbp:0<b:=by omega
   have:0<shB t b:=by
    rcases Yu 0 (shB t b) with h|h
    ·exact h
    ·have:=Int.mul_nonpos_of_nonneg_of_nonpos (J7 hcn) h;omega
   omega
 ·have e:Yq (cm t b*shT t b) (cm t b*shB t b)=(cm t b).natAbs*Yq (shT t b) (shB t b):=Qiq ..;rw [h1,h2,qqz] at e;have e2:Yq t b*1=Yq t b*Yq (shT t b) (shB t b):=by omega
  exact (Qan hg e2).symm
 ·have e:shT t b*(cm t b*shB t b)=(cm t b*shT t b)*shB t b:=by
   rw [<- Int.mul_assoc,Vb (shT t b)]
  rw [h2,h1] at e;exact e
def qzh {k m n:Int} (h:Yq m k=1) (e:k∣m*n):k∣n:=by
 have e':k.natAbs∣m.natAbs*n.natAbs:=by rw [<- Qjm];exact Vm.mpr e
 have c:Nat.Coprime k.natAbs m.natAbs:=by
  show Qeo k.natAbs m.natAbs=1;rw [Qif];exact h
 exact Vm.mp (c.dvd_of_dvd_mul_left e')
def zaia {p q p' q':Int} (h:Shr p q) (h':Shr p' q') (e:p*q'=p'*q):p=p'/\q=q':=by
 have d1:q∣q':=qzh h.gcd (e ▸ Qcl p' q);have d2:q'∣q:=qzh h'.gcd (e ▸ Qcl p q');have hq:q=q':=Int.dvd_antisymm (by have:=h.pos;omega) (by have:=h'.pos;omega) d1 d2;subst hq;exact ⟨Z3 (by have:=h.pos;omega) e,rfl⟩
def qeb:DC
 | [.int a,.int b],q=>(0<=a/\0<=b)/\q (.int (Yq a b))
 | _,_=>False
def qcf:FnScope ["_law_one","_law_other","_law_rest"] ["_law_one","_law_other"] (defScope qcy):=sc0
def qms (F:Def K mg "_law_common" qcy ["_law_one","_law_other"]) (T:Txt K mg cs)
 : Ok P w K mg base "_law_common" 1 ["_law_one","_law_other"] (PSp K qeb):=by
  refine F.vok qcf (fun ds q h=>by unfold qeb at h;split at h;all_goals first|rfl|exact h.elim) fun f cdv A outer s H E hr ds q h=>?_
  match ds,h with
  | [.int a,.int b],⟨⟨ha,hb⟩,h⟩ =>
  refine ⟨_,(qe (qjm (qO o_gt (qa 1) qd) (qe (ql (i:=2) qcf.nd (qm qhj (qa 0) (qa 1)))
   (qe (ql (i:=0) qcf.nd (qa 1))
   (qg (ql (i:=1) qcf.nd (qa 2))))))
   (qg (qt (qa 0)))),?_⟩
  refine ⟨fun m e => ∃ x y r,e=[.val (.int x),.val (.int y),r]/\0<=x/\0<=y/\Qeo x.toNat y.toNat=Yq a b/\m=y.toNat,⟨_,_,_,_,rfl,ha,hb,?_,rfl⟩,?_⟩
  ·have:=qkp a b
   rwa [if_neg (by omega),if_neg (by omega)] at this
  rintro m e ⟨x,y,r,rfl,hx,hy,hg,rfl⟩;refine qmm (fun hne=>?_) (fun he=>?_)
  ·obtain ⟨t1,t2,t3⟩:=qoo hx hy (by omega) hg;exact ⟨by omega,(x%y).toNat,by omega,y,x%y,_,rfl,hy,t1,t3,rfl⟩
  ·have:=qrx hx (show y=0 by omega) hg;rw [this];exact h
open Builtin.Int (intBits)
def zaic {t b:Int}{m:Nat} (hb:b≠0) (h:intBits b<=m):intBits (cm t b)<=m:=by
 refine Yj ?_ h;rw [qqz];exact Qcv (by omega) (Nat.gcd_dvd_right t.natAbs b.natAbs)
def qdk {t b:Int}{m:Nat} (h:intBits t<=m):intBits (shT t b)<=m:=intBits_fdiv_le h
def qeh {t b:Int}{m:Nat} (h:intBits b<=m):intBits (shB t b)<=m:=intBits_fdiv_le h
def qak {a b:Int} (ha:intBits a<=4000) (hb:intBits b<=4000):IntMulOk a b :=.of_le ha hb (by decide)
def qi {x:Int}{m n:Nat} (h:intBits x<=m) (e:m<=n):intBits x<=n:=Zr h e
def qyy {x:Int} (h1 : -(2^200)<x) (h2:x<2^200):intBits x<=200:=intBits_le_iff.mpr (by omega)
def qdb {x:Int} (h1 : -(2^64)<x) (h2:x<2^64):intBits x<=64:=intBits_le_64 h1 h2
def Bnd:List Int->List Int->Prop
 | [],xs=>xs=[]
 | z::zs,xs => ∃ x r,xs=x::r/\0<=x/\x<z/\Bnd zs r
def Bnd.snoc : ∀ {zs xs:List Int}{z x:Int},Bnd zs xs->0<=x->x<z->Bnd (zs++[z]) (xs++[x])
 | [],_,z,x,h,h0,h1=>by
  have e:_=[]:=h;rw [e];exact ⟨x,[],rfl,h0,h1,rfl⟩
 | y::zs,_,z,x,h,h0,h1=>by
  obtain ⟨a,r,rfl,p,q,h⟩:=h;exact ⟨a,r++[x],rfl,p,q,h.snoc h0 h1⟩
def Bnd.len : ∀ {zs xs:List Int},Bnd zs xs->xs.length=zs.length
 | [],_,h=>by
  have e:_=[]:=h;rw [e]
 | y::zs,_,h=>by
  obtain ⟨a,r,rfl,p,q,h⟩:=h;simp [h.len]
structure DrawnPre (ns:List Int) (at':Int) (zs:List Int):Prop where
 at0:0<=at'
 zs0 : ∀ z ∈ zs,0<z/\intBits z<=9000
 len:zs.length<=1000
 lns:ns.length<=63
def qhl {zs:List Int}{i:Nat}{z:Int} (h:zs[i]?=some z):zs.take (i+1)=zs.take i++[z]:=by
 rw [Zs,h];rfl
def qgi {zs:List Int}{i:Nat}{x:Qh} (h:(zs.map Q2)[i]?=some x) : ∃ z,x = .int z/\zs[i]?=some z/\z ∈ zs:=by
 rw [Qa] at h;cases e:zs[i]? with
 | none=>rw [e] at h;cases h
 | some z =>
  rw [e] at h;exact ⟨z,(Qn h).symm,rfl,Qf e⟩
def qku (xs:List Int) (x:Int):xs.map Q2++[Q2 x]=(xs++[x]).map Q2:=by simp
def zagb {zs xs:List Int}{i:Nat} (h:Bnd (zs.take i) xs) (hz:zs.length<=1000):(xs.map Q2).length<Zb:=by
 rw [Qe,h.len];have:(zs.take i).length<=1000:=Zr (Qai _ _) hz;exact qj this
structure Tab (b:Int) (R:List (List Int)) (n:Nat):Prop where
 pos:1<=b
 len : ∀ r ∈ R,r.length=n
 nn : ∀ r ∈ R,∀ x ∈ r,0<=x
 sum : ∀ r ∈ R,r.sum=b
def qwe (r:List Int):Qh :=.list (r.map .int)
def qdg (r:List Int):Qh :=.tuple (r.map .int)
def qee {α:Type}{l:List α}{i:Nat}{x:α} (h:l[i]?=some x):x ∈ l:=Qf h
def qha {n:Nat} (h:n<=1000):n<=Zb:=Yi (qj h)
def qgx {α:Type} (y:α) (l:List α):atI (y::l) 0=some y:=qbl (j:=0) rfl
def iteB {c:Bool}{A B:Prop} (h1:c=true->A) (h2:c=false->B):if c=true then A else B:=by
 cases c with
 | true=>exact quw (h1 rfl)
 | false=>exact qsq (h2 rfl)
def zapq (R:List (List Int)):Qh :=.list (R.map qwe)
def zagn : ∀ {r:List Int},(∀ n ∈ r,0<=n)->0<=r.sum
 | [],_=>by simp
 | n::r,h=>by
  rw [Q3];have a:=h n (by simp);have b:=zagn fun m hm=>h m (Qm _ hm);omega
def qef : ∀ {r:List Int}{x:Int},(∀ n ∈ r,0<=n)->x ∈ r->x<=r.sum
 | n::r,x,h,hx=>by
  rw [Q3];have a:=h n (by simp);have b:=zagn fun m hm=>h m (Qm _ hm);rcases Qs.mp hx with rfl|hx
  ·omega
  ·have:=qef (fun m hm=>h m (Qm _ hm)) hx;omega
def Tab.le {b:Int}{R:List (List Int)}{n:Nat}{r:List Int}{x:Int} (h:Tab b R n) (hr:r ∈ R) (hx:x ∈ r):0<=x/\x<=b :=
 ⟨h.nn r hr x hx,h.sum r hr ▸ qef (h.nn r hr) hx⟩
def iteN {b:Bool}{A B:Prop} (h:b=true) (k:B):if (!b)=true then A else B:=by rw [h];exact qsq k
def iteY {b:Bool}{A B:Prop} (h:b=true) (k:A):if b=true then A else B:=by rw [h];exact quw k
def iteZ {b:Bool}{A B:Prop} (h:b=false) (k:B):if b=true then A else B:=by rw [h];exact qsq k
def qax (g:Nat) (r:List Int):Nat:=r.foldl (fun (g:Nat) (n:Int)=>Yq g n) g
def qE (R:List (List Int)):Nat:=R.foldl qax 0
def qfn : ∀ (r:List Int) (g:Nat),qax g r∣g
 | [],g=>Nat.dvd_refl _
 | n::r,g=>Qjy (qfn r (Yq g n)) (by have:=Int.gcd_dvd_natAbs_left (g:Int) n;simpa using this)
def qfm : ∀ (r:List Int) (g:Nat),∀ n ∈ r,(qax g r:Int)∣n
 | m::r,g,n,h=>by
  rcases Qs.mp h with rfl|h
  ·exact Jp (Jq.mpr (qfn r (Yq g n))) (Qhu ..)
  ·exact qfm r (Yq g m) n h
def qib : ∀ (R:List (List Int)) (g:Nat),R.foldl qax g∣g
 | [],g=>Nat.dvd_refl _
 | r::R,g=>Qjy (qib R (qax g r)) (qfn r g)
def qqd : ∀ (R:List (List Int)) (g:Nat),∀ r ∈ R,∀ n ∈ r,((R.foldl qax g:Nat):Int)∣n
 | s::R,g,r,h,n,hn=>by
  rcases Qs.mp h with rfl|h
  ·exact Jp (Jq.mpr (qib R (qax g r))) (qfm r g n hn)
  ·exact qqd R (qax g s) r h n hn
def qhb {R:List (List Int)}{r:List Int}{n:Int} (h:r ∈ R) (hn:n ∈ r):(qE R:Int)∣n:=qqd R 0 r h n hn
def qfl (k:Nat) : ∀ (r:List Int) (g:Nat),qax (k*g) (r.map fun n=>(k:Int)*n)=k*qax g r
 | [],g=>rfl
 | n::r,g=>by
  have e:Yq ((k*g:Nat):Int) ((k:Int)*n)=k*Yq g n:=by
   rw [Qja,Qiq];rfl
  show qax (Yq ((k*g:Nat):Int) ((k:Int)*n)) (r.map fun n=>(k:Int)*n)=_;rw [e];exact qfl k r (Yq g n)
def qqt (k:Nat) : ∀ (R:List (List Int)) (g:Nat),(R.map fun r=>r.map fun n=>(k:Int)*n).foldl qax (k*g)=k*R.foldl qax g
 | [],g=>rfl
 | r::R,g=>by
  show (R.map fun r=>r.map fun n=>(k:Int)*n).foldl qax (qax (k*g) (r.map fun n=>(k:Int)*n))=_;rw [qfl];exact qqt k R (qax g r)
def zadf (k:Nat) (R:List (List Int)):qE (R.map fun r=>r.map fun n=>(k:Int)*n)=k*qE R:=qqt k R 0
def qaw (R:List (List Int)) (g:Int):List (List Int):=R.map fun r=>r.map fun n=>n/g
def qdh {α:Type}{f:α->α} : ∀ {l:List α},(∀ x ∈ l,f x=x)->l.map f=l
 | [],_=>rfl
 | x::l,h=>by rw [Qt,h x (by simp),qdh fun y hy=>h y (Qm _ hy)]
def zaed {R:List (List Int)}:(qaw R (qE R)).map (fun r=>r.map fun n=>(qE R:Int)*n)=R:=by
 unfold qaw;rw [Zz];refine qdh fun r hr=>?_;show (r.map fun n=>n/(qE R:Int)).map (fun n=>(qE R:Int)*n)=r;rw [Zz];exact qdh fun n hn=>Vr (qhb hr hn)
def zado {R:List (List Int)} (h:0<qE R):qE (qaw R (qE R))=1:=by
 have e:=zadf (qE R) (qaw R (qE R));rw [zaed] at e;have e2:qE R*1=qE R*qE (qaw R (qE R)):=by omega
 exact (Qan h e2).symm
def qva : ∀ {r:List Int},(∀ n ∈ r,n=0)->r.sum=0
 | [],_=>rfl
 | n::r,h=>by rw [Q3,h n (by simp),qva fun m hm=>h m (Qm _ hm)];rfl
def Tab.gpos {b:Int}{R:List (List Int)}{n:Nat} (h:Tab b R n) (hR:R≠[]):0<qE R:=by
 rcases J5 (qE R) with e|e
 ·exfalso;obtain ⟨r,R',rfl⟩:=Zq hR;have h1:=h.sum r (by simp);have h2 : ∀ m ∈ r,m=0:=fun m hm=>by
   have:=qhb (R:=r::R') (by simp) hm;rw [e] at this;exact Int.zero_dvd.mp this
  rw [qva h2] at h1;have:=h.pos;omega
 ·exact e
def qzz {g:Int} : ∀ {r:List Int},(∀ n ∈ r,g∣n)->g∣r.sum
 | [],_=>by simp
 | n::r,h=>by rw [Q3];exact Int.dvd_add (h n (by simp)) (qzz fun m hm=>h m (Qm _ hm))
def Tab.gdvd {b:Int}{R:List (List Int)}{n:Nat} (h:Tab b R n) (hR:R≠[]):(qE R:Int)∣b:=by
 obtain ⟨r,R',rfl⟩:=Zq hR;rw [<- h.sum r (by simp)];exact qzz fun m hm=>qhb (by simp) hm
def qzw {g:Int} : ∀ {r:List Int},(∀ n ∈ r,g∣n)->(r.map fun n=>n/g).sum=r.sum/g
 | [],_=>by simp
 | n::r,h=>by
  rw [Qt,Q3,Q3,qzw fun m hm=>h m (Qm _ hm)];exact (Int.add_ediv_of_dvd_left (h n (by simp))).symm
def Tab.low {b:Int}{R:List (List Int)}{n:Nat} (h:Tab b R n) (hR:R≠[]):Tab (b/qE R) (qaw R (qE R)) n:=by
 have hp:=h.gpos hR;have hd:=h.gdvd hR;have hb:=h.pos;have hgb:(qE R:Int)<=b:=Int.le_of_dvd (by omega) hd;refine ⟨?_,?_,?_,?_⟩
 ·exact (Int.le_ediv_iff_mul_le (by omega)).mpr (by omega)
 ·intro r hr;obtain ⟨s,hs,rfl⟩:=Ql.mp hr;rw [Qe];exact h.len s hs
 ·intro r hr x hx;obtain ⟨s,hs,rfl⟩:=Ql.mp hr;obtain ⟨y,hy,rfl⟩:=Ql.mp hx;exact Qjb (h.nn s hs y hy) (by omega)
 ·intro r hr;obtain ⟨s,hs,rfl⟩:=Ql.mp hr;rw [qzw fun m hm=>qhb hs hm,h.sum s hs]
def qqi (g:Nat) (r:List Int) (n:Int):qax g (r++[n])=Yq (qax g r) n:=by unfold qax;rw [Qhv];rfl
def qnl (R:List (List Int)) (r:List Int):qE (R++[r])=qax (qE R) r:=by unfold qE;rw [Qhv];rfl
def RowsD (d:Qh) (R:List (List Int)):Prop := ∃ l,qfb d=some l/\l.map (fun x=>(qfb x).getD [])=R.map (fun r=>r.map Q2) /\ ∀ x ∈ l,(qfb x).isSome=true
def RowsD.len {d:Qh}{R:List (List Int)}{l:List Qh} (h:RowsD d R) (e:qfb d=some l):l.length=R.length:=by
 obtain ⟨m,e',h1,_⟩:=h;rw [e] at e';cases e';have:=congrArg Qeh h1;simpa using this
def RowsD.get {d:Qh}{R:List (List Int)}{l:List Qh}{i:Nat}{x:Qh} (h:RowsD d R) (e:qfb d=some l) (hx:l[i]?=some x) : ∃ r,R[i]?=some r/\qfb x=some (r.map .int):=by
 obtain ⟨m,e',h1,h2⟩:=h;rw [e] at e';cases e';have h3:(l.map fun x=>(qfb x).getD [])[i]?=some ((qfb x).getD []):=by rw [Qa,hx];rfl
 rw [h1,Qa] at h3;obtain ⟨y,hy⟩:=Jd.mp (h2 x (Qf hx));cases q:R[i]? with
 | none=>rw [q] at h3;cases h3
 | some r =>
  rw [q] at h3;refine ⟨r,rfl,?_⟩;rw [hy] at h3 ⊢;exact h3.symm
def RowsD.of {d:Qh}{R:List (List Int)}{f:List Qh->Qh} (hf : ∀ l,qfb (f l)=some l) (e:qfb d=some (R.map fun r=>f (r.map .int))):RowsD d R:=by
 refine ⟨_,e,?_,?_⟩
 ·rw [Zz];refine Zg fun r _=>?_;simp [hf]
 ·intro x hx;obtain ⟨r,_,rfl⟩:=Ql.mp hx;simp [hf]
def qL (b:Int) (R:List (List Int)):Qh :=.tuple [.int b,.tuple (R.map qdg)]
def qfe (R:List (List Int)):RowsD (.tuple (R.map qdg)) R:=RowsD.of (f :=.tuple) (fun _=>rfl) rfl
def qbz (R:List (List Int)):RowsD (.list (R.map qwe)) R:=RowsD.of (f :=.list) (fun _=>rfl) rfl
def qbq (ds:List Qh) (q:Qh->Prop):Prop := ∃ (b:Int) (d:Qh) (R:List (List Int)) (n:Nat),ds=[.int b,d]/\(RowsD d R/\Tab b R n/\R≠[]/\R.length<=900/\n<=900/\intBits b<=9000)/\q (qL (b/qE R) (qaw R (qE R)))
def bits_dvd' {g b:Int}{m:Nat} (hb:0<b) (h:g∣b) (hz:intBits b<=m):intBits g<=m:=by
 refine Yj ?_ hz;exact Qcv (by omega) (Vm.mpr h)
def qba:FnScope ["_law_bottom","_law_rows_here","_law_factor","_law_row","_law_number","_law_found"] ["_law_bottom","_law_rows_here"] (defScope qem):=sc0
def qrq (F:Def K mg "_law_made" qem ["_law_bottom","_law_rows_here"]) (T:Txt K mg cs)
 (O__law_common:Ok P w K mg base "_law_common" 1 ["_law_one","_law_other"] (PSp K qeb))
 : Ok P w K mg base "_law_made" 2 ["_law_bottom","_law_rows_here"] (PSp K qbq):=by
  refine F.vok qba (by rintro ds q ⟨_,_,_,_,h,_⟩;rw [h];rfl) fun f cdv A outer s H E hr ds q h=>?_;obtain ⟨b,d,R,n,rfl,⟨hR,hT,hn,hl,hn2,hz⟩,h⟩:=h;refine ⟨_,(qe (ql (i:=2) qba.nd qd)
   (qe (qab rfl (qG (qa 1)) (qo (i:=3) qba.nd) (qg (qab rfl (qG (qa 3)) (qo (i:=4) qba.nd) (qg (ql (i:=2) qba.nd (qr O__law_common.c hr.m (qc (qa 4) (qc (qa 2) qf))))))))
   (qe (qca (i:=5) qba.nd (qR qf))
   (qe (qab rfl (qG (qa 1)) (qo (i:=3) qba.nd) (qg (qaj 5 (qdd qgj T.tuple_ L2.boot_tuple (qc (qy (qaa (caps:=["_law_factor"]) (own:=["_law_number"]) (ix:=[2]) rfl ⟨rfl,rfl,rfl,rfl,rfl,rfl⟩ (qG (qa 3)) (fun _ _ _ _=>(qo (i:=1) (show Z7 (["_law_factor","_law_number"]:List Str) by decide))) (fun _ _ _ _=>(qm qjo (qa 1) (qa 0))))) qf)))))
   (qjh 5 (qg (qt (qat (qc (qm qjo (qa 0) (qa 2)) (qc (qdd qgj T.tuple_ L2.boot_tuple (qc (qa 5) qf)) qf)))))))))),?_⟩
  have g0:=hT.gpos hn;have g1:intBits (qE R:Int)<=9000:=bits_dvd' (by have:=hT.pos;omega) (hT.gdvd hn) hz;obtain ⟨l,e,_⟩:=id hR;refine qao e ⟨fun i e => ∃ t1 t2 c,e=[.val (.int b),.val d,.val (.int c),t1,t2,.non]/\c=(qE (R.take i):Int),⟨_,_,_,rfl,rfl⟩,?_,?_⟩
  ·rintro i x e' hx ⟨t1,t2,_,rfl,rfl⟩;obtain ⟨r,hr,er⟩:=hR.get e hx;refine qao er ⟨fun j e => ∃ t2 c,e=[.val (.int b),.val d,.val (.int c),.val x,t2,.non]/\c=(qax (qE (R.take i)) (r.take j):Int),⟨_,_,rfl,rfl⟩,?_,?_⟩
   ·rintro j y e hy ⟨t2,_,rfl,rfl⟩;obtain ⟨z,rfl,hz,hzr⟩:=qgi hy;refine ⟨⟨hT.nn r (qee hr) z hzr,by omega⟩,_,_,rfl,?_⟩;rw [qhl hz,qqi,Int.gcd_comm]
   ·rintro e ⟨t2,_,rfl,rfl⟩;refine ⟨_,_,_,rfl,?_⟩;rw [Qe,Zl,Zs,hr];show _=((qE (R.take i++[r]):Nat):Int);rw [qnl]
  ·rintro e' ⟨t1,t2,_,rfl,rfl⟩;rw [hR.len e,Zl];refine ⟨szl,qao e ⟨fun i e => ∃ t1 t2 l,e=[.val (.int b),.val d,.val (.int (qE R)),t1,t2,.own l]/\l=((qaw R (qE R)).take i).map qdg,⟨_,_,_,rfl,rfl⟩,?_,?_⟩⟩
   ·rintro i x e' hx ⟨t1,t2,_,rfl,rfl⟩;obtain ⟨r,hr,er⟩:=hR.get e hx;refine ⟨rfl,qao er (qN ((r.map fun n=>n/(qE R:Int)).map .int) (by simp) (qj (by simp;have:=hT.len r (qee hr);omega)) (fun e => ∃ s,e=[.val (.int (qE R)),s]) ⟨_,rfl⟩ ?_ ⟨rfl,?_,?_⟩)⟩
    ·rintro j y ys e hy hys ⟨s,rfl⟩;obtain ⟨z,rfl,hz,_⟩:=qgi hy;refine ⟨⟨by omega,g1⟩,qw ?_ hys,_,rfl⟩;rw [Qa,Qa,hz];rfl
    ·show (Qko qdg _).length<_;rw [Qe];refine qj (Zr (Qai _ _) ?_);unfold qaw;rw [Qe];omega
    ·refine ⟨_,_,_,rfl,?_⟩;have e2:(qaw R (qE R))[i]?=some (r.map fun n=>n/(qE R:Int)):=by unfold qaw;rw [Qa,hr];rfl
     rw [Zs,e2];simp only [Qdo,Q9,Qt,Jk];rfl
   ·rintro e' ⟨t1,t2,_,rfl,rfl⟩;have e3:l.length=(qaw R (qE R)).length:=by unfold qaw;rw [Qe];exact hR.len e
    rw [e3,Zl];exact ⟨⟨by omega,g1⟩,szl,h⟩
def qev (ds:List Qh) (q:List Qh->Prop):Prop := ∃ ns at' zs,ds=[.list (ns.map .int),.int at',.list (zs.map .int)]/\DrawnPre ns at' zs /\ ∀ xs,Bnd zs xs->q (xs.map .int)
def qI:FnScope ["_law_script","_law_at","_law_sizes","_law_cell","_law_found","_law_top","_law_first_here","_law_k","_law_second"] ["_law_script","_law_at","_law_sizes"] (defScope qdt):=sc0
def qps (F:Def K mg "_law_drawn" qdt ["_law_script","_law_at","_law_sizes"]) (T:Txt K mg cs)
 : Ok P w K mg base "_law_drawn" 1 ["_law_script","_law_at","_law_sizes"] (FSp K qev):=by
  refine F.vokF qI (by rintro ds q ⟨_,_,_,h,_⟩;rw [h];rfl) fun f cdv A outer s H E hr ds q h=>?_;obtain ⟨ns,at',zs,rfl,⟨at0,zs0,hz,hns⟩,k⟩:=h;refine ⟨_,(qe (ql (i:=3) qI.nd qd)
   (qkc (qas (qO o_lt (qa 1) (qu qbx T.len_ L2.boot_len (qc (qa 0) qf))) (qg (ql (i:=3) qI.nd (qh (qa 0) (qa 1)))) qA)
   (qe (qca (i:=4) qI.nd (qR qf))
   (qe (qas (qO (quz hr.units) (qm qhj (qh (qy (qmg (qa 0) (qy (qR (qc qd qf))))) qd) qd) qd) (qe (qab rfl (qG (qa 2)) (qo (i:=5) qI.nd) (qe (qaj 4 (qm qhj (qa 3) (qa 5)))
   (qg (ql (i:=3) qI.nd (qm qjo (qa 3) (qa 5))))))
   (qg (qhx 4))) qA)
   (qe (ql (i:=6) qI.nd (qm qar (qm qhj (qm qar (qa 3) (qm qC qd (qa 1))) qd) qd))
   (qe (qab rfl (qzv T.enumerate_ (qa 2)) (qsw (n:=2) rfl (qdn (qo (i:=7) qI.nd) (qdn (qo (i:=5) qI.nd) qnr))) (qe (ql (i:=6) qI.nd (qm qhj (qm qar (qm qC (qa 6) qd) (qa 7)) qd))
   (qe (ql (i:=8) qI.nd (qm qhj (qm qar (qm qar (qm qC (qa 6) (qa 6)) (qm qC qd (qa 6))) (qa 1)) qd))
   (qg (qaj 4 (qm qhj (qm qjo (qm qhj (qm qar (qm qC (qa 8) qd) (qa 6)) qd) qd) (qa 5)))))))
   (qg (qhx 4)))))))),?_⟩
  refine ⟨fun e => ∃ c:Int,e=[.val (.list (ns.map .int)),.val (.int at'),.val (.list (zs.map .int)),.val (.int c),.non,.non,.non,.non,.non],?_,?_⟩
  ·refine qmm (fun h=>?_) (fun h=>⟨0,rfl⟩);obtain ⟨n,en⟩:=qvg (ns:=ns) at0 (by simpa using h);exact ⟨_,en,n,rfl⟩
  ·rintro e ⟨c,rfl⟩;obtain ⟨n,en⟩:=qvg (ns:=ns++[0]) (i:=0) (by decide) (by simp);rw [Q9] at en;refine ⟨by decide,by decide,by rw [Qe];exact Yi (qj (by simp;omega)),_,en,by decide,rfl,rfl,?_⟩;refine qmd (fun _=>?_) (fun _=>?_)
   ·refine ⟨fun i e => ∃ (c:Int) (t v6 v7 v8:Sl) (xs:List Int) (l:List Qh),e=[.val (.list (ns.map .int)),.val (.int at'),.val (.list (zs.map .int)),.val (.int c),.own l,t,v6,v7,v8]/\l=xs.map .int/\Bnd (zs.take i) xs,
     ⟨c,_,_,_,_,[],_,rfl,rfl,rfl⟩,?_,?_⟩
    ·rintro i d e hd ⟨c,t,v6,v7,v8,xs,l,rfl,rfl,hB⟩;obtain ⟨z,rfl,hz1,hz2⟩:=qgi hd;obtain ⟨z0,z1⟩:=zs0 z hz2;refine ⟨rfl,z0,rfl,zagb hB hz,⟨z0,z1⟩,c/z,_,_,_,_,xs++[c%z],_,rfl,qku _ _,?_⟩
     ·rw [qhl hz1];exact hB.snoc (Qfl _ (by omega)) (Qdn _ (by omega))
    ·rintro e ⟨c,t,v6,v7,v8,xs,l,rfl,rfl,hB⟩;rw [Qe,Zl] at hB;exact ⟨_,rfl,k xs hB⟩
   ·refine ⟨Qar (by decide),by decide,?_⟩;have f0:0<=(c+48271*at')%2147483647+1/\(c+48271*at')%2147483647+1<=2147483647:=by omega
    refine ⟨fun i e => ∃ (c f:Int) (t v7 v8:Sl) (xs:List Int) (l:List Qh),e=[.val (.list (ns.map .int)),.val (.int at'),.val (.list (zs.map .int)),.val (.int c),.own l,t,.val (.int f),v7,v8]/\l=xs.map .int/\0<=f/\f<=2147483647/\Bnd (zs.take i) xs,
     ⟨c,_,_,_,_,[],_,rfl,rfl,f0.1,f0.2,rfl⟩,?_,?_⟩
    ·rintro i d e hd ⟨c,f,t,v7,v8,xs,l,rfl,rfl,f1,f2,hB⟩;obtain ⟨x,hx,rfl⟩:=qqs hd;obtain ⟨z,rfl,hz1,hz2⟩:=qgi hx;obtain ⟨z0,z1⟩:=zs0 z hz2;have g0:0<=(f*48271+(i:Int))%2147483647/\(f*48271+(i:Int))%2147483647<=2147483647:=by omega
     refine ⟨rfl,rfl,?_⟩;refine ⟨Qhw (by decide),by decide,Qar (qdb (by omega) (by omega)),Qar (by decide),by decide,rfl,Qhw (by decide),by decide,⟨by decide,by decide⟩,z0,rfl,zagb hB hz,?_⟩;refine ⟨c,_,_,_,_,xs++[((((((f*48271+(i:Int))%2147483647)*((f*48271+(i:Int))%2147483647)+69621*((f*48271+(i:Int))%2147483647)+at')%2147483629)*40692+((f*48271+(i:Int))%2147483647))%2147483399/7)%z],_,rfl,qku _ _,g0.1,g0.2,?_⟩
     ·rw [qhl hz1];exact hB.snoc (Qfl _ (by omega)) (Qdn _ (by omega))
    ·rintro e ⟨c,f,t,v7,v8,xs,l,rfl,rfl,f1,f2,hB⟩;rw [qfh,Qe,Zl] at hB;exact ⟨_,rfl,k xs hB⟩
def qlb (ds:List Qh) (q:List Qh->Prop):Prop := ∃ (b:Int) (cs:List Int),ds=[.int b,.list (cs.map .int)]/\(0<=b/\cs.length<64 /\ ∀ c ∈ cs,0<=c/\c<=b) /\ ∀ r:List Int,(r.length=cs.length+1/\(∀ x ∈ r,0<=x)/\r.sum=b)->q (r.map .int)
def qtu {cs:List Int}{i:Nat}{c l:Int} (hp:cs.Pairwise (· <= ·)) (hc:cs[i]?=some c) (hl : ∀ j,j+1=i->cs[j]?=some l) (h0:i=0->l<=c):l<=c:=by
 cases i with
 | zero=>exact h0 rfl
 | succ j =>
  have h1:=hl j rfl;obtain ⟨a1,a2⟩:=Qg.mp h1;obtain ⟨b1,b2⟩:=Qg.mp hc;rw [<- a2,<- b2];exact Z6.mp hp j (j+1) a1 b1 (by omega)
def qdf:FnScope ["_law_bottom","_law_cuts","_law_row","_law_last","_law_cut_here"] ["_law_bottom","_law_cuts"] (defScope qgd):=sc0
def qtw (F:Def K mg "_law_cut" qgd ["_law_bottom","_law_cuts"]) (T:Txt K mg cs)
 : Ok P w K mg base "_law_cut" 1 ["_law_bottom","_law_cuts"] (FSp K qlb):=by
  refine F.vokF qdf (by rintro ds q ⟨_,_,h,_⟩;rw [h];rfl) fun f cdv A outer s H E hr ds q h=>?_;obtain ⟨b,cs,rfl,⟨hb0,hz,hcs⟩,k⟩:=h;refine ⟨_,(qe (qca (i:=2) qdf.nd (qR qf))
   (qe (ql (i:=3) qdf.nd qd)
   (qe (qab rfl (qG (qy (qmg (qy (zafd zaep T.sorted_ L2.boot_sorted (qc (qa 1) qf))) (qy (qR (qc (qa 0) qf)))))) (qo (i:=4) qdf.nd) (qe (qaj 2 (qm qqa (qa 4) (qa 3)))
   (qg (ql (i:=3) qdf.nd (qa 4)))))
   (qg (qhx 2))))),?_⟩
  refine ⟨szl,cs,rfl,hz,fun ns hp hs=>⟨szl,?_,?_⟩⟩
  ·have:=hp.length_eq;simp only [Qe,Zk,Ji];exact qha (by omega)
  have hn : ∀ c ∈ ns,0<=c/\c<=b:=fun c hc=>hcs c (hp.mem_iff.mp hc);have hl:=hp.length_eq;have hb:ns.map Q2++[Q2 b]=(ns++[b]).map Q2:=by simp
  have hA:(ns++[b]).Pairwise (· <= ·):=Qgd.mpr ⟨hs,by simp,fun x hx y hy=>by rw [Qp.mp hy];exact (hn x hx).2⟩;rw [hb];refine ⟨fun i e => ∃ (last:Int) (t:Sl) (r:List Int) (l:List Qh),e=[.val (.int b),.val (.list (cs.map .int)),.own l,.val (.int last),t]/\l=r.map .int/\r.length=i/\(∀ x ∈ r,0<=x)/\r.sum=last/\((i=0/\last=0) \/ ∃ j,i=j+1/\(ns++[b])[j]?=some last),
   ⟨0,_,[],_,rfl,rfl,rfl,by simp,rfl,.inl ⟨rfl,rfl⟩⟩,?_,?_⟩
  ·rintro i d e hd ⟨last,t,r,l,rfl,rfl,hr,hx,hsum,hlast⟩;obtain ⟨c,rfl,hc1,hc2⟩:=qgi hd;have hge:last<=c:=by
    rcases hlast with ⟨rfl,rfl⟩|⟨j,rfl,hj⟩
    ·rcases Zd.mp hc2 with h|h
     ·exact (hn c h).1
     ·rw [Qp.mp h];exact hb0
    ·exact qtu hA hc1 (fun j' h=>(show j'=j by omega) ▸ hj) (fun h=>by omega)
   refine ⟨rfl,rfl,?_,c,_,r++[c-last],_,rfl,qku _ _,by simp [hr],fun x hx'=>?_,by simp [hsum];omega,.inr ⟨i,rfl,hc1⟩⟩
   ·have:i<(ns++[b]).length:=(Qg.mp hc1).1;simp only [Yk,Zk,Ji] at this;show (r.map Q2).length<_;rw [Qe];exact qj (by omega)
   ·rcases Zd.mp hx' with h|h
    ·exact hx x h
    ·rw [Qp.mp h];omega
  ·rintro e ⟨last,t,r,l,rfl,rfl,hr,hx,hsum,hlast⟩;refine ⟨_,rfl,k r ⟨?_,hx,?_⟩⟩
   ·simpa [hl] using hr
   ·rw [hsum];rcases hlast with ⟨h,_⟩|⟨j,h,hj⟩
    ·simp at h
    ·have e:j=ns.length:=by simp at h;omega
     subst e;simpa using hj.symm
def qsv {n d:Nat}{v:Int} (h:0<=v):HT.sIx n d (some v)=min v.toNat n:=by
 show (if v<0 then _ else _)=_;rw [if_neg (by omega)]
def zaie {α:Type} (l:List α) {i:Int} (h:0<=i):qqx l (some i) none=l.drop i.toNat:=by
 unfold qqx;rw [qsv h,HT.sIx_none];by_cases h1:i.toNat<=l.length
 ·rw [Qdd h1,Jx (by simp)]
 ·rw [Qcm (by omega),Jy (Qr _),Jy (by omega)];simp
def zahv {α:Type} (l:List α) {i j:Int} (h:0<=i) (h2:i<=j):qqx l (some i) (some j)=(l.drop i.toNat).take (j-i).toNat:=by
 unfold qqx;rw [qsv h,qsv (by omega)];by_cases h1:i.toNat<=l.length
 ·rw [Qdd h1];by_cases h3:j.toNat<=l.length
  ·rw [Qdd h3];congr 1;omega
  ·rw [Qcm (by omega),Jx (by simp),Jx (by simp;omega)]
 ·rw [Qcm (by omega),Qcm (by omega),Jy (Qr _),Jy (by omega)];simp
def zahp (k:Nat) (z:Int):(Zn k [Q2 z]).flatten=(Zn k z).map Q2:=by
 induction k with
 | zero=>rfl
 | succ k ih=>simp [Z5,ih]
def Bnd.app : ∀ {zs ws xs:List Int},Bnd (zs++ws) xs->Bnd ws (xs.drop zs.length)
 | [],ws,xs,h=>by simpa using h
 | z::zs,ws,xs,h=>by
  obtain ⟨x,r,rfl,_,_,h⟩:=h;simpa using Bnd.app h
def Bnd.rep : ∀ {k:Nat}{z:Int}{xs:List Int},Bnd (Zn k z) xs->xs.length=k /\ ∀ x ∈ xs,0<=x/\x<z
 | 0,z,xs,h=>by
  have e:xs=[]:=h;subst e;simp
 | k+1,z,xs,h=>by
  rw [Z5] at h;obtain ⟨x,r,rfl,h1,h2,h⟩:=h;obtain ⟨e,g⟩:=h.rep;refine ⟨by simp [e],fun y hy=>?_⟩;rcases Qs.mp hy with rfl|hy
  ·exact ⟨h1,h2⟩
  ·exact g y hy
def qiz (ds:List Qh) (q:Qh->Prop):Prop := ∃ (ns:List Int) (at' lo hi most:Int),ds=[.list (ns.map .int),.int at',.list [.int lo,.int hi],.int most] /\
 (ns.length<=63/\0<=at'/\1<=lo/\lo<=hi/\hi<=12/\1<=most/\most<=12) /\
 ∀ (b:Int) (R:List (List Int)) (n:Nat),Tab b R n->b<=999999->lo<=R.length->R.length<=hi->1<=n->n<=most->q (.tuple [.int b,zapq R])
def qun {x2 x3:Int} (h1:0<=x2) (h2:x2<9) (h3:0<=x3) (h4:x3<999999) : ∃ b:Int,atI [Q2 1,.int 2,.int 3,.int 4,.int 5,.int 6,.int 12,.int 60,.int (1+x3)] x2=some (.int b)/\1<=b/\b<=999999:=by
 have:x2=0\/x2=1\/x2=2\/x2=3\/x2=4\/x2=5\/x2=6\/x2=7\/x2=8:=by omega
 rcases this with rfl|rfl|rfl|rfl|rfl|rfl|rfl|rfl|rfl <;> exact ⟨_,rfl,by omega,by omega⟩
def qac:FnScope ["_law_script","_law_at","_law_heights","_law_most","_law_sizes","_law_head","_law_many","_law_bottom","_law_cuts","_law_rows_here","_law_k","_law_at_row"] ["_law_script","_law_at","_law_heights","_law_most"] (defScope qen):=sc0
def qrk (F:Def K mg "_law_rows" qen ["_law_script","_law_at","_law_heights","_law_most"]) (T:Txt K mg cs)
 (O__law_drawn:Ok P w K mg base "_law_drawn" 1 ["_law_script","_law_at","_law_sizes"] (FSp K qev))
 (O__law_cut:Ok P w K mg base "_law_cut" 1 ["_law_bottom","_law_cuts"] (FSp K qlb))
 : Ok P w K mg base "_law_rows" 2 ["_law_script","_law_at","_law_heights","_law_most"] (PSp K qiz):=by
  refine F.vok qac (by rintro ds q ⟨_,_,_,_,_,h,_⟩;rw [h];rfl) fun f cdv A outer s H E hr ds q h=>?_;obtain ⟨ns,at',lo,hi,most,rfl,⟨hns,at0,l1,l2,l3,m1,m2⟩,k⟩:=h;refine ⟨_,(qe (ql (i:=4) qac.nd (qy (qR (qc (qm qar (qm qqa (qh (qa 2) qd) (qh (qa 2) qd)) qd) (qc (qa 3) (qc qd (qc qd qf)))))))
   (qe (ql (i:=5) qac.nd (qy (qfc O__law_drawn.c hr.m (qc (qa 0) (qc (qa 1) (qc (qa 4) qf))))))
   (qe (ql (i:=6) qac.nd (qm qar (qh (qa 2) qd) (qh (qa 5) qd)))
   (qe (ql (i:=7) qac.nd (qh (qy (qR (qc qd (qc qd (qc qd (qc qd (qc qd (qc qd (qc qd (qc qd (qc (qm qar qd (qh (qa 5) qd)) qf))))))))))) (qh (qa 5) qd)))
   (qe (ql (i:=8) qac.nd (qy (qgw (qy (qfc O__law_drawn.c hr.m (qc (qa 0) (qc (qa 1) (qc (qy (qmg (qa 4) (qy (qxv (qR (qc (qm qar (qa 7) qd) qf)) (qm qC (qa 6) (qh (qa 5) qd)))))) qf))))) (qdl qd) qhr)))
   (qe (qca (i:=9) qac.nd (qR qf))
   (qe (qab rfl (qai T.range_ (qa 6)) (qo (i:=10) qac.nd) (qe (ql (i:=11) qac.nd (qm qC (qa 10) (qh (qa 5) qd)))
   (qg (qaj 9 (qy (qfc O__law_cut.c hr.m (qc (qa 7) (qc (qy (qgw (qa 8) (qdl (qa 11)) (qdl (qm qar (qa 11) (qh (qa 5) qd))))) qf))))))))
   (qjh 9 (qg (qt (qat (qc (qa 7) (qc (qa 9) qf))))))))))))),?_⟩
  have small : ∀ {z:Int},0<z->z<2^60->0<z/\intBits z<=9000:=fun h1 h2=>⟨h1,qi (qdb (by omega) (by omega)) (by decide)⟩
  refine ⟨_,rfl,_,rfl,szl,ns,at',[hi-lo+1,most,9,999999],rfl,⟨at0,?_,by simp,hns⟩,fun xs hx=>?_⟩
  ·intro z hz;simp only [Qs,Yf,or_false] at hz;rcases hz with rfl|rfl|rfl|rfl <;> exact small (by omega) (by omega)
  obtain ⟨x0,_,rfl,a0,b0,x1,_,rfl,a1,b1,x2,_,rfl,a2,b2,x3,_,rfl,a3,b3,rfl⟩:=hx;refine ⟨_,rfl,_,rfl,_,rfl,szl,_,rfl,?_⟩;obtain ⟨b,eb,hb1,hb2⟩:=qun a2 b2 a3 b3;refine ⟨_,eb,szl,_,rfl,Qar (qdb (by omega) (by omega)),?_⟩;have hm0:0<=(lo+x0)*x1:=Zo (by omega) a1;have hm1:(lo+x0)*x1<=12*12:=Qig (Q6 (show lo+x0<=12 by omega) a1) (Qcn (by omega) (by omega));refine ⟨⟨by omega,by omega,?_⟩,?_⟩
  ·simp only [Zk,Ji];exact qha (by omega)
  rintro _ rfl;rw [zahp];refine ⟨?_,ns,at',[hi-lo+1,most,9,999999]++Zn ((lo+x0)*x1).toNat (b+1),?_,⟨at0,?_,?_,hns⟩,fun ys hy=>?_⟩
  ·simp only [Zk,Ji,Qe,Qcd];exact qha (by omega)
  ·rw [Q9];rfl
  ·intro z hz;rcases Zd.mp hz with hz|hz
   ·simp only [Qs,Yf,or_false] at hz;rcases hz with rfl|rfl|rfl|rfl <;> exact small (by omega) (by omega)
   ·rw [(List.mem_replicate.mp hz).2];exact small (by omega) (by omega)
  ·simp only [Yk,Zk,Ji,Qcd];omega
  obtain ⟨hcl,hc⟩:=(Bnd.app hy).rep;intro cs0 hcs0;rw [zaie _ (by decide)] at hcs0;have ed:(ys.map Q2).drop (Qdc 4)=(ys.drop 4).map Q2:=by rw [Qjz];rfl
  rw [ed] at hcs0;subst hcs0;replace hcl:(ys.drop 4).length=((lo+x0)*x1).toNat:=hcl
  replace hc : ∀ x ∈ ys.drop 4,0<=x/\x<b+1:=hc
  generalize ys.drop 4=cs at hcl hc;refine ⟨szl,⟨by omega,by omega⟩,?_⟩;refine ⟨fun i e => ∃ (t1 t2:Sl) (R:List (List Int)) (l:List Qh),e=[.val (.list (ns.map .int)),.val (.int at'),.val (.list [.int lo,.int hi]),.val (.int most),.val (.list [.int (hi-lo+1),.int most,.int 9,.int 999999]),.val (.list ([x0,x1,x2,x3].map .int)),.val (.int (lo+x0)),.val (.int b),.val (.list (cs.map .int)),.own l,t1,t2] /\
   l=R.map qwe/\R.length=i/\Tab b R (x1.toNat+1),⟨_,_,[],_,rfl,rfl,rfl,⟨hb1,by simp,by simp,by simp⟩⟩,?_,?_⟩
  ·rintro i d e hd ⟨t1,t2,R,l,rfl,rfl,hR,hT⟩;obtain ⟨hi',rfl⟩:=qan hd;rw [Vc];have hiN:(i:Int)+1<=lo+x0:=by omega
   have hx1:x1=(x1.toNat:Int):=by omega
   have hle:(i:Int)*x1+x1<=(lo+x0)*x1:=by
    have:((i:Int)+1)*x1<=(lo+x0)*x1:=Q6 hiN a1
    rwa [Qgm,Int.one_mul] at this
   have hi0:0<=(i:Int)*x1:=Zo (by omega) a1;refine ⟨_,rfl,Qar (qdb (by omega) (by omega)),rfl,_,rfl,?_⟩;intro c1 hc1;rw [zahv _ hi0 (by omega)] at hc1;have e1:((i:Int)*x1+x1-(i:Int)*x1).toNat=x1.toNat:=by omega
   rw [e1,<- Qjz,<- Qhc] at hc1;subst hc1;have hcl1:((cs.drop ((i:Int)*x1).toNat).take x1.toNat).length=x1.toNat:=by
    rw [Qaq,Qcj,hcl];omega
   refine ⟨b,_,rfl,⟨by omega,by rw [hcl1];omega,fun c hc'=>?_⟩,fun r ⟨r1,r2,r3⟩=>?_⟩
   ·have:=hc c (List.mem_of_mem_drop (Qge hc'));omega
   ·refine ⟨rfl,?_,_,_,R++[r],_,rfl,by simp [qwe];rfl,by simp [hR],⟨hb1,?_,?_,?_⟩⟩
    ·show (R.map qwe).length<_;rw [Qe];exact qj (by omega)
    ·intro r' hr';rcases Zd.mp hr' with h|h
     ·exact hT.len r' h
     ·rw [Qp.mp h,r1,hcl1]
    ·intro r' hr';rcases Zd.mp hr' with h|h
     ·exact hT.nn r' h
     ·rw [Qp.mp h];exact r2
    ·intro r' hr';rcases Zd.mp hr' with h|h
     ·exact hT.sum r' h
     ·rw [Qp.mp h];exact r3
  ·rintro e ⟨t1,t2,R,l,rfl,rfl,hR,hT⟩;rw [qP] at hR;exact ⟨szl,k b R (x1.toNat+1) hT hb2 (by omega) (by omega) (by omega) (by omega)⟩
def qpl (a b:List Int):Int:=(Qdp (· * ·) a b).sum
def qB (D:List (List Int)) (k:Nat):List Int:=D.map fun r=>(r[k]?).getD 0
def qdj (R D:List (List Int)) (n:Nat):List (List Int):=R.map fun r=>(Qx n).map fun k=>qpl r (qB D k)
def qlc {α:Type} (f g:α->Int) : ∀ l:List α,(l.map fun k=>f k+g k).sum=(l.map f).sum+(l.map g).sum
 | []=>by simp
 | x::l=>by
  simp only [Qt,Q3,qlc f g l];omega
def qlo {α:Type} (c:Int) (f:α->Int) : ∀ l:List α,(l.map fun k=>c*f k).sum=c*(l.map f).sum
 | []=>by simp
 | x::l=>by
  simp only [Qt,Q3,qlo c f l,Qav]
def qja {α:Type} : ∀ l:List α,(l.map fun _=>(0:Int)).sum=0
 | []=>rfl
 | x::l=>by simp only [Qt,Q3,qja l];rfl
def zaas : ∀ (r:List Int),(Qx r.length).map (fun k=>(r[k]?).getD 0)=r:=by
 intro r;apply Z1;intro i;rw [Qa];by_cases h:i<r.length
 ·rw [Q5 h,Qc h];simp [h]
 ·have h1:r.length<=i:=by omega
  rw [Qy (by simpa using h1),Qy h1];rfl
def quu (x:Int) (r d:List Int) (y:Int):qpl (x::r) (y::d)=x*y+qpl r d:=by simp [qpl]
def qvf {c:Int}{n:Nat} : ∀ {r:List Int}{D:List (List Int)},D.length=r.length->(∀ d ∈ D,d.length=n/\d.sum=c)->((Qx n).map fun k=>qpl r (qB D k)).sum=r.sum*c
 | [],[],_,_=>by
  simp only [Qfm,Qbb];exact qja _
 | x::r,d::D,hl,h=>by
  have e:((Qx n).map fun k=>qpl (x::r) (qB (d::D) k))=(Qx n).map fun k=>x*((d[k]?).getD 0)+qpl r (qB D k):=by
   refine Zg fun k _=>?_;exact quu x r (qB D k) _
  rw [e,qlc,qlo,qvf (by simpa using hl) fun d' hd'=>h d' (Qm _ hd')];obtain ⟨h1,h2⟩:=h d (by simp);rw [<- h1,zaas d,h2,Q3,Qgm]
 | [],_::_,hl,_=>by simp at hl
 | _::_,[],hl,_=>by simp at hl
def zagg : ∀ {a b:List Int},(∀ x ∈ a,0<=x)->(∀ y ∈ b,0<=y)->0<=qpl a b
 | [],_,_,_=>by simp [qpl]
 | _::_,[],_,_=>by simp [qpl]
 | x::a,y::b,h1,h2=>by
  rw [quu];have p:=Zo (h1 x (by simp)) (h2 y (by simp));have q:=zagg (fun z hz=>h1 z (Qm _ hz)) (fun z hz=>h2 z (Qm _ hz));omega
def qrv {D:List (List Int)}{k:Nat}{x:Int} (h:x ∈ qB D k):x=0 \/ ∃ d ∈ D,x ∈ d:=by
 obtain ⟨d,hd,rfl⟩:=Ql.mp h;cases e:d[k]? with
 | none=>exact .inl (by simp)
 | some y=>exact .inr ⟨d,hd,by simpa using Qf e⟩
def Tab.prod {b c:Int}{R D:List (List Int)}{m n:Nat} (h:Tab b R m) (k:Tab c D n) (hl:D.length=m):Tab (b*c) (qdj R D n) n where
 pos:=by have:=Zm (show 0<b by have:=h.pos;omega) (show 0<c by have:=k.pos;omega);omega
 len:=fun r hr=>by
  obtain ⟨s,_,rfl⟩:=Ql.mp hr;simp
 nn:=fun r hr x hx=>by
  obtain ⟨s,hs,rfl⟩:=Ql.mp hr;obtain ⟨i,_,rfl⟩:=Ql.mp hx;refine zagg (h.nn s hs) fun y hy=>?_;rcases qrv hy with rfl|⟨d,hd,hy⟩
  ·exact Y6 _
  ·exact k.nn d hd y hy
 sum:=fun r hr=>by
  obtain ⟨s,hs,rfl⟩:=Ql.mp hr;rw [qvf (by rw [hl,h.len s hs]) fun d hd=>⟨k.len d hd,k.sum d hd⟩,h.sum s hs]
def qon (R D:List (List Int)) (n:Nat):(qdj R D n).length=R.length:=by simp [qdj]
def qjw {x b:Int}{m:Nat} (h0:0<=x) (h:x<=b) (hz:intBits b<=m):intBits x<=m:=Yj (by omega) hz
def Tab.bits {b:Int}{R:List (List Int)}{n m:Nat}{r:List Int}{x:Int} (h:Tab b R n) (hz:intBits b<=m) (hr:r ∈ R) (hx:x ∈ r):intBits x<=m:=qjw (h.le hr hx).1 (h.le hr hx).2 hz
def zahw {a b:List Int}{i:Nat}{x y:Int} (h1:a[i]?=some x) (h2:b[i]?=some y):(Qdp (· * ·) a b)[i]?=some (x*y):=by
 rw [List.getElem?_zipWith,h1,h2]
def qzj {D:List (List Int)}{k i:Nat}{d:List Int}{x:Int} (h:D[i]?=some d) (hx:d[k]?=some x):(qB D k)[i]?=some x:=by
 unfold qB;rw [Qa,h];simp [hx]
def qzy (D:List (List Int)) (k:Nat):(qB D k).length=D.length:=by simp [qB]
structure Gls (b:Int) (R:List (List Int)) (n:Nat):Prop where
 t:Tab b R n
 g:qE R=1
def Tab.gls {b:Int}{R:List (List Int)}{n:Nat} (h:Tab b R n) (hR:R≠[]):Gls (b/qE R) (qaw R (qE R)) n:=⟨h.low hR,zado (h.gpos hR)⟩
structure PassPre (b:Int) (R:List (List Int)) (m:Nat) (c:Int) (D:List (List Int)) (n:Nat):Prop where
 r:Tab b R m
 d:Tab c D n
 rn:R≠[]
 l:D.length=m
 m1:1<=m
 m2:m<=900
 rl:R.length<=900
 n2:n<=900
 zb:intBits b<=4000
 zc:intBits c<=4000
abbrev lowT (b:Int) (P:List (List Int)):Qh:=qL (b/qE P) (qaw P (qE P))
def qhv (ds:List Qh) (q:Qh->Prop):Prop := ∃ (ns:List Int) (at' lo hi most:Int),ds=[.list (ns.map .int),.int at',.list [.int lo,.int hi],.int most] /\
 (ns.length<=63/\0<=at'/\1<=lo/\lo<=hi/\hi<=12/\1<=most/\most<=12) /\
 ∀ (b:Int) (R:List (List Int)) (n:Nat),Gls b R n->b<=999999->lo<=R.length->R.length<=hi->1<=n->n<=most->q (qL b R)
def qex:FnScope ["_law_script","_law_at","_law_heights","_law_most","_law_bottom","_law_rows_here"] ["_law_script","_law_at","_law_heights","_law_most"] (defScope qds):=sc0
def qpn (F:Def K mg "_law_glass" qds ["_law_script","_law_at","_law_heights","_law_most"]) (T:Txt K mg cs)
 (O__law_made:Ok P w K mg base "_law_made" 2 ["_law_bottom","_law_rows_here"] (PSp K qbq))
 (O__law_rows:Ok P w K mg base "_law_rows" 2 ["_law_script","_law_at","_law_heights","_law_most"] (PSp K qiz))
 : Ok P w K mg base "_law_glass" 3 ["_law_script","_law_at","_law_heights","_law_most"] (PSp K qhv):=by
  refine F.vok qex (by rintro ds q ⟨_,_,_,_,_,h,_⟩;rw [h];rfl) fun f cdv A outer s H E hr ds q h=>?_;obtain ⟨ns,at',lo,hi,most,rfl,hp,k⟩:=h;refine ⟨_,(qe (zagl (qr O__law_rows.c hr.m (qc (qa 0) (qc (qa 1) (qc (qa 2) (qc (qa 3) qf))))) (qsw (n:=2) rfl (qdn (qo (i:=4) qex.nd) (qdn (qo (i:=5) qex.nd) qnr))))
   (qg (qt (qr O__law_made.c hr.m (qc (qa 4) (qc (qa 5) qf)))))),?_⟩
  refine ⟨ns,at',lo,hi,most,rfl,hp,fun b R n hT hb l1 l2 n1 n2=>⟨rfl,rfl,?_⟩⟩;have hR:R≠[]:=fun z=>by subst z;simp at l1;omega
  refine ⟨b,_,R,n,rfl,⟨qbz R,hT,hR,by omega,by omega,qi (qdb (by have:=hT.pos;omega) (by omega)) (by decide)⟩,?_⟩;have g0:=hT.gpos hR;have hd:(qaw R (qE R)).length=R.length:=by simp [qaw]
  refine k _ _ n (hT.gls hR) (Qig (Jt _ (by have:=hT.pos;omega)) hb) (by omega) (by omega) n1 n2
def zadc {R:List (List Int)}{i:Nat}{x:Qh}{f:List Int->Qh} (h:(R.map f)[i]?=some x) : ∃ r,R[i]?=some r/\x=f r:=by
 rw [Qa] at h;cases hr:R[i]? with
 | none=>rw [hr] at h;cases h
 | some r=>rw [hr] at h;exact ⟨r,rfl,(Qn h).symm⟩
def qgc (ds:List Qh) (q:Qh->Prop):Prop := ∃ (b:Int) (R:List (List Int)) (m:Nat) (c:Int) (D:List (List Int)) (n:Nat),ds=[qL b R,qL c D]/\PassPre b R m c D n/\q (lowT (b*c) (qdj R D n))
def qbb:FnScope ["_law_one","_law_other","_law_rows_here","_law_row","_law_line","_law_k"] ["_law_one","_law_other"] (defScope qcj):=sc0
def qlv (F:Def K mg "_law_product" qcj ["_law_one","_law_other"]) (T:Txt K mg cs)
 (O__law_made:Ok P w K mg base "_law_made" 2 ["_law_bottom","_law_rows_here"] (PSp K qbq))
 : Ok P w K mg base "_law_product" 3 ["_law_one","_law_other"] (PSp K qgc):=by
  refine F.vok qbb (by rintro ds q ⟨_,_,_,_,_,_,h,_⟩;rw [h];rfl) fun f cdv A outer s H E hr ds q h=>?_;obtain ⟨b,R,m,c,D,n,rfl,hp,h⟩:=h;refine ⟨_,(qe (qca (i:=2) qbb.nd (qR qf))
   (qe (qab rfl (qG (qh (qa 0) qd)) (qo (i:=3) qbb.nd) (qe (qca (i:=4) qbb.nd (qR qf))
   (qe (qab rfl (qai T.range_ (qu qbx T.len_ L2.boot_len (qc (qh (qh (qa 1) qd) qd) qf))) (qo (i:=5) qbb.nd) (qg (qaj 4 (qu (qob rfl) T.sum_ L2.boot_sum (qc (qy (qaa (caps:=["_law_other","_law_row","_law_k"]) (own:=["_law_j"]) (ix:=[1,3,5]) rfl ⟨rfl,rfl,rfl,rfl,rfl,rfl⟩ (qai T.range_ (qu qbx T.len_ L2.boot_len (qc (qa 3) qf))) (fun _ _ _ _=>(qo (i:=3) (show Z7 (["_law_other","_law_row","_law_k","_law_j"]:List Str) by decide))) (fun _ _ _ _=>(qm qC (qh (qa 1) (qa 3)) (qh (qh (qh (qa 0) qd) (qa 3)) (qa 2)))))) qf)))))
   (qjh 4 (qg (qaj 2 (qa 4)))))))
   (qjh 2 (qg (qt (qr O__law_made.c hr.m (qc (qm qC (qh (qa 0) qd) (qh (qa 1) qd)) (qc (qa 2) qf)))))))),?_⟩
  have hm:=hp.l;have hm1:=hp.m1;have hm2:=hp.m2;have hrl:=hp.rl;have hn2:=hp.n2;have hD:D≠[]:=fun z=>by rw [z] at hm;simp at hm;omega
  obtain ⟨d0,D0,rfl⟩:=Zq hD;have hd0:=hp.d.len d0 (by simp);refine ⟨szl,_,rfl,⟨fun i e => ∃ t3 t4 t5 l,e=[.val (qL b R),.val (qL c (d0::D0)),.own l,t3,t4,t5]/\l=((qdj R (d0::D0) n).take i).map qwe,⟨_,_,_,_,rfl,rfl⟩,?_,?_⟩⟩
  ·rintro i x e hx ⟨t3,t4,t5,l,rfl,rfl⟩;obtain ⟨r,hr',rfl⟩:=zadc hx;have hrm:=qee hr';have hrl':=hp.r.len r hrm;refine ⟨szl,_,rfl,_,qgx _ _,⟨by omega,by simp;omega⟩,?_⟩;refine ⟨fun j e => ∃ t5 l',e=[.val (qL b R),.val (qL c (d0::D0)),.own (((qdj R (d0::D0) n).take i).map qwe),.val (qdg r),.own l',t5]/\l'=(((Qx n).map fun k=>qpl r (qB (d0::D0) k)).take j).map .int,⟨_,_,rfl,rfl⟩,?_,?_⟩
   ·rintro j y e hy ⟨t5,l',rfl,rfl⟩;obtain ⟨hj,rfl⟩:=qan hy;have hj':j<n:=by simp [hd0] at hj;omega
    rw [Vc];refine ⟨rfl,⟨by omega,by simp;omega⟩,?_⟩;show _/\_;refine qN ((Qdp (· * ·) r (qB (d0::D0) j)).map .int) (by simp [qP,qzy,hm,hrl']) (qj (by simp;omega)) (fun e => ∃ s,e=[.val (qL c (d0::D0)),.val (qdg r),.val (.int j),s]) ⟨_,rfl⟩ ?_ ?_
    ·rintro k z ys e hz hys ⟨s,rfl⟩;obtain ⟨hk,rfl⟩:=qan hz;rw [Vc];have hk1:k<r.length:=by simpa using hk
     have hk2:k<(d0::D0).length:=by omega
     have e1:=Qc hk1;have e2:=Qc hk2;have m1:=Ze hk1;have m2:=Ze hk2;generalize r[k]=x at e1 m1;generalize (d0::D0)[k]=d at e2 m2;have hj2:j<d.length:=by rw [hp.d.len d m2];exact hj'
     have e3:=Qc hj2;have m3:=Ze hj2;generalize d[j]=y at e3 m3;refine ⟨.int x,qbl (by rw [Qa,e1];rfl),_,rfl,qdg d,qbl (by rw [Qa,e2];rfl),.int y,qbl (by rw [Qa,e3];rfl),qak (hp.r.bits hp.zb hrm m1) (hp.d.bits hp.zc m2 m3),qw ?_ hys,_,rfl⟩;rw [Qa,zahw e1 (qzj e2 e3)];rfl
    ·refine ⟨_,rfl,rfl,?_,_,_,rfl,?_⟩
     ·show (Qko Q2 _).length<_;rw [Qe];exact qj (Zr (Qai _ _) (by simp;omega))
     ·rw [Zs,Qa,Q5 hj'];simp only [Qjc,Qdo,Q9,Qt,Jk];rfl
   ·rintro e ⟨t5,l',rfl,rfl⟩;have e5:(qsf 0 (((d0.map Q2).length:Int)).toNat).length=n:=by rw [qP];simp [hd0]
    rw [e5,Jx (show ((Qx n).map fun k=>qpl r (qB (d0::D0) k)).length<=n by simp)];refine ⟨rfl,rfl,?_,_,_,_,_,rfl,?_⟩
    ·show (Qko qwe _).length<_;rw [Qe];exact qj (Zr (Qai _ _) (show (qdj R (d0::D0) n).length<=1000 by rw [qon];omega))
    ·have e2:(qdj R (d0::D0) n)[i]?=some ((Qx n).map fun k=>qpl r (qB (d0::D0) k)):=by unfold qdj;rw [Qa,hr'];rfl
     rw [Zs,e2];simp only [Qdo,Q9,Qt,Jk];rfl
  ·rintro e ⟨t3,t4,t5,l,rfl,rfl⟩;have e3:(R.map qdg).length=(qdj R (d0::D0) n).length:=by simp [qdj]
   rw [e3,Zl];refine ⟨_,rfl,_,rfl,qak hp.zb hp.zc,b*c,_,qdj R (d0::D0) n,n,rfl,⟨qbz _,hp.r.prod hp.d hm,?_,by rw [qon];exact hrl,hn2,qi (Yp hp.zb hp.zc) (by decide)⟩,h⟩;intro z;have:=congrArg Qeh z;rw [qon] at this;exact hp.rn (Qbf.mp this)
def nrm (c:List Int):List Int:=c.map fun n=>n/(qax 0 c:Int)
structure Col (c:List Int):Prop where
 nn : ∀ n ∈ c,0<=n
 nz : ∃ n ∈ c,n≠0
def qqm : ∀ {c:List Int},qax 0 c=0 -> ∀ n ∈ c,n=0:=fun {c} h n hn=>by
 have:=qfm c 0 n hn;rw [h] at this;exact Int.zero_dvd.mp (by simpa using this)
def Col.g {c:List Int} (h:Col c):0<qax 0 c:=by
 rcases J5 (qax 0 c) with e|e
 ·obtain ⟨n,hn,z⟩:=h.nz;exact (z (qqm e n hn)).elim
 ·exact e
def qia {c:List Int}:(nrm c).map (fun n=>(qax 0 c:Int)*n)=c:=by
 unfold nrm;rw [Zz];exact qdh fun n hn=>Vr (qfm c 0 n hn)
def qsr {c:List Int} (h:0<qax 0 c):qax 0 (nrm c)=1:=by
 have e:=qfl (qax 0 c) (nrm c) 0;rw [qia,Qfn] at e;exact (Qan h (show qax 0 c*1=qax 0 c*qax 0 (nrm c) by omega)).symm
def Col.nrm {c:List Int} (h:Col c):Col (nrm c):=by
 have g:=h.g;constructor
 ·intro n hn;obtain ⟨m,hm,rfl⟩:=Ql.mp hn;exact Qjb (h.nn m hm) (by omega)
 ·obtain ⟨n,hn,z⟩:=h.nz;refine ⟨n/(qax 0 c:Int),Ql.mpr ⟨n,hn,rfl⟩,fun e=>z ?_⟩;have:=Vr (qfm c 0 n hn);rw [e,Yn] at this;exact this.symm
def zaac {w:List Int}{k:Nat} (h:qax 0 w=1) (hk:0<k):nrm (w.map fun n=>(k:Int)*n)=w:=by
 have e:=qfl k w 0;rw [Qfn,h,Qjd] at e;unfold nrm;rw [e,Zz];refine qdh fun n _=>?_;show (k:Int)*n/(k:Int)=n;exact Int.mul_ediv_cancel_left n (by omega)
def Prp (u v:List Int):Prop := ∀ (i j:Nat) (a b c d:Int),u[i]?=some a->u[j]?=some b->v[i]?=some c->v[j]?=some d->a*d=b*c
def qnq {u v:List Int} (e:nrm u=nrm v):Prp u v:=by
 intro i j a b c d ha hb hc hd;have hu:=qia (c:=u);have hv:=qia (c:=v);rw [<- hu] at ha hb;rw [<- hv,<- e] at hc hd;rw [Qa] at ha hb hc hd;cases h1:(nrm u)[i]? with
 | none=>rw [h1] at ha;cases ha
 | some x =>
  cases h2:(nrm u)[j]? with
  | none=>rw [h2] at hb;cases hb
  | some y =>
   rw [h1] at ha hc;rw [h2] at hb hd;simp only [Qjc,Qhs] at ha hb hc hd;subst ha hb hc hd;grind
def qnk {u v:List Int} (hu:Col u) (hv:Col v) (hl:u.length=v.length) (h:Prp u v):nrm u=nrm v:=by
 have lu:(nrm u).length=u.length:=Qe _;have lv:(nrm v).length=v.length:=Qe _;have gu:(0:Int)<qax 0 u:=by have:=hu.g;omega
 have gv:(0:Int)<qax 0 v:=by have:=hv.g;omega
 have one : ∀ {c:List Int}{i:Nat}{x:Int},(nrm c)[i]?=some x->c[i]?=some ((qax 0 c:Int)*x):=fun {c i x} e=>by
  have:=qia (c:=c);rw [<- this,Qa,this,e];rfl
 have key : ∀ (i j:Nat) (a b c d:Int),(nrm u)[i]?=some a->(nrm u)[j]?=some b->(nrm v)[i]?=some c->(nrm v)[j]?=some d->a*d=b*c:=fun i j a b c d h1 h2 h3 h4=>by
  have z:=h i j _ _ _ _ (one h1) (one h2) (one h3) (one h4);have z2:((qax 0 u:Int)*(qax 0 v:Int))*(a*d)=((qax 0 u:Int)*(qax 0 v:Int))*(b*c):=by grind
  exact Qao (Qih (Zm gu gv)) z2
 refine Z1 fun i=>?_;by_cases hi:i<u.length
 ·obtain ⟨a,ha⟩ : ∃ a,(nrm u)[i]?=some a:=⟨_,Qc (by omega)⟩
  obtain ⟨c,hc⟩ : ∃ c,(nrm v)[i]?=some c:=⟨_,Qc (by omega)⟩
  have a0:=hu.nrm.nn a (Qf ha);have c0:=hv.nrm.nn c (Qf hc);have e:(nrm v).map (fun n=>(a.toNat:Int)*n)=(nrm u).map (fun n=>(c.toNat:Int)*n):=by
   refine Z1 fun j=>?_;rw [Qa,Qa];by_cases hj:j<u.length
   ·obtain ⟨b,hb⟩ : ∃ b,(nrm u)[j]?=some b:=⟨_,Qc (by omega)⟩
    obtain ⟨d,hd⟩ : ∃ d,(nrm v)[j]?=some d:=⟨_,Qc (by omega)⟩
    rw [hb,hd,Jm a0,Jm c0];show some (a*d)=some (c*b);rw [key i j a b c d ha hb hc hd,Vb]
   ·rw [Qy (by omega),Qy (by omega)];rfl
  have e1:=qfl a.toNat (nrm v) 0;have e2:=qfl c.toNat (nrm u) 0;rw [Qfn,qsr hv.g,Qjd] at e1;rw [Qfn,qsr hu.g,Qjd] at e2;rw [e] at e1;rw [ha,hc]
  congr 1
  omega
 ·rw [Qy (by omega),Qy (by omega)]
def jc (R:List (List Int)) (G:List Nat):List Int:=R.map fun r=>(G.map fun i=>(r[i]?).getD 0).sum
def zanc (R:List (List Int)) (j:Nat):jc R [j]=qB R j:=by
 unfold jc qB;refine Zg fun r _=>?_;simp
def zaju (R:List (List Int)) (j:Nat) (G:List Nat):jc R (j::G)=Qdp (· + ·) (qB R j) (jc R G):=by
 unfold jc qB
 induction R with
 | nil=>rfl
 | cons r R ih =>
  show ((j::G).map fun i=>(r[i]?).getD 0).sum::_=(_+_)::_;rw [ih,Qt,Q3]
def qew (R:List (List Int)) (G:List Nat):(jc R G).length=R.length:=Qe _
def qvo {l l':List Int} (h:l.Perm l'):l.sum=l'.sum:=by
 induction h with
 | nil=>rfl
 | cons x _ ih=>rw [Q3,Q3,ih]
 | swap x y l=>rw [Q3,Q3,Q3,Q3];omega
 | trans _ _ a b=>rw [a,b]
def zaba (w:List Int) (a b:Int):Qdp (· + ·) (w.map fun n=>a*n) (w.map fun n=>b*n)=w.map fun n=>(a+b)*n:=by
 induction w with
 | nil=>rfl
 | cons x w ih=>rw [Qt,Qt,List.zipWith_cons_cons,ih,Qt,Qgm]
def qvl {R:List (List Int)}{κ:List Int} : ∀ {G:List Nat},G≠[]->(∀ i ∈ G,Col (qB R i)/\nrm (qB R i)=κ) -> ∃ k:Nat,0<k/\jc R G=κ.map fun n=>(k:Int)*n
 | [i],_,h=>by
  obtain ⟨c,e⟩:=h i (by simp);exact ⟨qax 0 (qB R i),c.g,by rw [zanc,<- e,qia]⟩
 | i::j::G,_,h=>by
  obtain ⟨k,hk,e⟩:=qvl (G:=j::G) (by simp) fun x hx=>h x (Qm _ hx);obtain ⟨c,e2⟩:=h i (by simp);refine ⟨qax 0 (qB R i)+k,by omega,?_⟩;have e3:qB R i=κ.map fun n=>(qax 0 (qB R i):Int)*n:=by rw [<- e2,qia]
  rw [zaju,e,e3,zaba,<- e3];simp
def qtg {R:List (List Int)}{κ:List Int}{G:List Nat} (hG:G≠[]) (h : ∀ i ∈ G,Col (qB R i)/\nrm (qB R i)=κ):nrm (jc R G)=κ/\Col (jc R G):=by
 obtain ⟨k,hk,e⟩:=qvl hG h;obtain ⟨i,hi⟩:=List.exists_mem_of_ne_nil G hG;obtain ⟨c,e2⟩:=h i hi;have g1:qax 0 κ=1:=by rw [<- e2];exact qsr c.g
 have cκ:Col κ:=e2 ▸ c.nrm;rw [e];refine ⟨zaac g1 hk,fun n hn=>?_,?_⟩
 ·obtain ⟨m,hm,rfl⟩:=Ql.mp hn;exact Zo (by omega) (cκ.nn m hm)
 ·obtain ⟨m,hm,z⟩:=cκ.nz;exact ⟨_,Ql.mpr ⟨m,hm,rfl⟩,Int.mul_ne_zero (by omega) z⟩
def sgD (G:List Nat):List Qh:=G.map fun i => .int ((i:Nat):Int)
def zaiw {G:List Nat}{i:Nat}{x:Qh} (h:(sgD G)[i]?=some x) : ∃ s:Nat,G[i]?=some s/\x = .int (s:Nat):=by
 unfold sgD at h;rw [Qa] at h;cases e:G[i]? with
 | none=>rw [e] at h;cases h
 | some s=>rw [e] at h;cases h;exact ⟨s,rfl,rfl⟩
def qvt (G:List Nat):qfb (.list (sgD G))=some ((G.map fun i=>((i:Nat):Int)).map .int):=by
 unfold sgD qfb;rw [Zz];rfl
def qsy {G:List Nat}{s:Nat}:((G.map fun i=>((i:Nat):Int)).any (· == (s:Int)))=true↔s ∈ G:=by
 rw [Z9];constructor
 ·rintro ⟨x,hx,e⟩;obtain ⟨i,hi,rfl⟩:=Ql.mp hx;have:i=s:=by have:=eq_of_beq e;omega
  exact this ▸ hi
 ·intro h;exact ⟨_,Ql.mpr ⟨s,h,rfl⟩,by simp⟩
def qcm (r:List Int) (G:List Nat):Int:=(G.map fun i=>(r[i]?).getD 0).sum
def grD (Gs:List (List Nat)):List Qh:=Gs.map fun G => .list (sgD G)
def qzi {Gs:List (List Nat)}{i:Nat}{x:Qh} (h:(grD Gs)[i]?=some x) : ∃ G,Gs[i]?=some G/\x = .list (sgD G):=by
 unfold grD at h;rw [Qa] at h;cases e:Gs[i]? with
 | none=>rw [e] at h;cases h
 | some s=>rw [e] at h;cases h;exact ⟨s,rfl,rfl⟩
def grs (R:List (List Int)):Nat->List (List Int×List Nat)
 | 0=>[]
 | i+1=>if (qB R i).any (· != 0)=true then qml (grs R i) (nrm (qB R i)) i else grs R i
def qcl (R:List (List Int)) (n i:Nat):List Nat:=((grs R n)[i]?.getD ([],[])).2
def zadd {gs:List (List Int×List Nat)}{k:List Int}{s:Nat}:(qml gs k s).length<=gs.length+1:=by
 unfold qml;split
 ·rw [Qe];omega
 ·simp
def qmz (R:List (List Int)) : ∀ i,(grs R i).length<=i
 | 0=>Qr _
 | i+1=>by
  have:=qmz R i;unfold grs;split
  ·exact Zr zadd (by omega)
  ·omega
def qmj (R:List (List Int)) : ∀ i,∀ x ∈ grs R i,x.2.length<=i
 | 0,x,hx=>by cases hx
 | i+1,x,hx=>by
  unfold grs at hx;split at hx
  ·unfold qml at hx;split at hx
   ·obtain ⟨y,hy,rfl⟩:=Ql.mp hx;have:=qmj R i y hy;split
    ·simp;omega
    ·omega
   ·rcases Zd.mp hx with z|z
    ·have:=qmj R i x z;omega
    ·rw [Qp.mp z];simp
  ·have:=qmj R i x hx;omega
def qmh (R:List (List Int)) : ∀ i,∀ x ∈ grs R i,∀ s ∈ x.2,s<i
 | 0,x,hx=>by cases hx
 | i+1,x,hx=>by
  unfold grs at hx;split at hx
  ·unfold qml at hx;split at hx
   ·obtain ⟨y,hy,rfl⟩:=Ql.mp hx;have ih:=qmh R i y hy;split
    ·intro s hs;rcases Zd.mp hs with z|z
     ·have:=ih s z;omega
     ·have:=Qp.mp z;omega
    ·intro s hs;have:=ih s hs;omega
   ·rcases Zd.mp hx with z|z
    ·intro s hs;have:=qmh R i x z s hs;omega
    ·rw [Qp.mp z];intro s hs;have:=Qp.mp hs;omega
  ·intro s hs;have:=qmh R i x hx s hs;omega
def qyj {K:Qd}{F:Hp} (G:List Nat):Iss K F (sgD G) (grL G):=by
 have e:=qjl (K:=K) (H:=F) (G.map fun i=>((i:Nat):Int));unfold sgD grL;rw [Zz,Zz] at e;exact e
def FL (F H:Hp) (ks:List Grp):Hp:=fun b=>if b ∈ ks.map (·.2.1) then H b else F b
section
variable {F H:Hp}{ks:List Grp}
def FL.le (h : ∀ x ∈ ks,F x.2.1=none):Same F (FL F H ks):=fun b o e=>by
 unfold FL;rw [if_neg fun z=>?_]
 ·exact .of e
 ·obtain ⟨x,hx,rfl⟩:=Ql.mp z;rw [h x hx] at e;cases e
def FL.fh (h:Same F H):Same (FL F H ks) H:=fun b o e=>by
 unfold FL at e;split at e
 ·exact .of e
 ·exact h b o e
def FL.at {x:Grp}{o:HO} (hx:x ∈ ks) (h:H x.2.1=some o):FL F H ks x.2.1=some o:=by
 unfold FL;rw [if_pos (Ql.mpr ⟨x,hx,rfl⟩)];exact h
end
def qvn (x:Nat->Int) : ∀ k i,qmn x x k i=false
 | 0,_=>rfl
 | k+1,i=>by unfold qmn;rw [if_pos (by simp)];exact qvn x k (i+1)
def qzq {x y z:Nat->Int} : ∀ k i,qmn x y k i=true->qmn y z k i=true->qmn x z k i=true
 | 0,_,h,_=>by cases h
 | k+1,i,h1,h2=>by
  unfold qmn at h1 h2 ⊢;by_cases a:x i=y i
  ·rw [if_pos (by simpa using a)] at h1;by_cases b:y i=z i
   ·rw [if_pos (by simpa using b)] at h2;rw [if_pos (by simpa using a.trans b)];exact qzq k (i+1) h1 h2
   ·rw [if_neg (by simpa using b)] at h2;rw [a,if_neg (by simpa using b)];exact h2
  ·rw [if_neg (by simpa using a)] at h1;have h1:=of_decide_eq_true h1;by_cases b:y i=z i
   ·rw [<- b,if_neg (by simpa using a)];exact decide_eq_true h1
   ·rw [if_neg (by simpa using b)] at h2;have h2:=of_decide_eq_true h2;rw [if_neg (by simp;omega)];exact decide_eq_true (by omega)
def qvk {x y:Nat->Int} : ∀ k i,(∃ j,i<=j/\j<i+k/\x j≠y j)->qmn x y k i=true\/qmn y x k i=true
 | 0,i,⟨j,h1,h2,_⟩=>by omega
 | k+1,i,⟨j,h1,h2,h3⟩=>by
  unfold qmn;by_cases a:x i=y i
  ·rw [if_pos (by simpa using a),if_pos (by simpa using a.symm)];have:j≠i:=fun z=>h3 (z ▸ a);exact qvk k (i+1) ⟨j,by omega,by omega,h3⟩
  ·rw [if_neg (by simpa using a),if_neg (by simpa using V7 a)];by_cases b:x i<y i
   ·exact .inl (decide_eq_true b)
   ·exact .inr (decide_eq_true (by omega))
def qqu {n m:Nat}{kl:Nat->List Int} (hl : ∀ i,i<n->(kl i).length=m) (hd : ∀ i j,i<n->j<n->i≠j->kl i≠kl j):OrdN n (qJ kl m):=by
 refine ⟨fun i=>qvn _ _ _,fun i j k _ _ _ h1 h2=>qzq _ _ h1 h2,fun i j hi hj ne=>qvk _ _ ?_⟩;refine Yw fun z=>hd i j hi hj ne (Z1 fun k=>?_);by_cases hk:k<m
 ·have e:(kl i).getD k 0=(kl j).getD k 0:=Yw fun w=>z ⟨k,Vg _,by omega,w⟩;have l1:=hl i hi;have l2:=hl j hj;rw [Q7,Q7,Qc (by omega),Qc (by omega)] at e;rw [Qc (by omega),Qc (by omega)];exact congrArg some e
 ·rw [Qy (by rw [hl i hi];omega),Qy (by rw [hl j hj];omega)]
structure GrsOk (R:List (List Int)) (gs:List (List Int×List Nat)):Prop where
 ky:(gs.map (·.1)).Nodup
 ne : ∀ x ∈ gs,x.2≠[]
 me : ∀ x ∈ gs,∀ s ∈ x.2,Col (qB R s)/\nrm (qB R s)=x.1
def GrsOk.put {R:List (List Int)}{gs:List (List Int×List Nat)}{s:Nat} (h:GrsOk R gs) (c:Col (qB R s)):GrsOk R (qml gs (nrm (qB R s)) s):=by
 unfold qml;split
 ·have key : ∀ y:List Int×List Nat,(if y.1=nrm (qB R s) then (y.1,y.2++[s]) else y).1=y.1:=fun y=>by split <;> rfl
  refine ⟨?_,fun x hx=>?_,fun x hx=>?_⟩
  ·rw [Zz];have:gs.map ((·.1) ∘ fun x=>if x.1=nrm (qB R s) then (x.1,x.2++[s]) else x)=gs.map (·.1):=Zg fun y _=>key y;rw [this];exact h.ky
  ·obtain ⟨y,hy,rfl⟩:=Ql.mp hx;split
   ·simp
   ·exact h.ne y hy
  ·obtain ⟨y,hy,rfl⟩:=Ql.mp hx;split
   ·rename_i e;intro t ht;rcases Zd.mp ht with z|z
    ·exact h.me y hy t z
    ·rw [Qp.mp z];exact ⟨c,e.symm⟩
   ·exact h.me y hy
 ·rename_i na;have two : ∀ {P:List Int×List Nat->Prop},(∀ x ∈ gs,P x)->P (nrm (qB R s),[s]) -> ∀ x ∈ gs++[(nrm (qB R s),[s])],P x:=fun a b x hx=>by
   rcases Zd.mp hx with z|z
   ·exact a x z
   ·rw [Qp.mp z];exact b
  refine ⟨?_,two h.ne (by simp),two h.me fun t ht=>?_⟩
  ·rw [Q9,Qt,Jk,Qad];refine ⟨h.ky,by simp,fun a ha b hb=>?_⟩;obtain ⟨x,hx,rfl⟩:=Ql.mp ha;rw [Qp.mp hb];exact fun z=>na (Z9.mpr ⟨x,hx,by simpa using z⟩)
  ·rw [Qp.mp ht];exact ⟨c,rfl⟩
def zanl {R:List (List Int)}{s:Nat} (hn : ∀ r ∈ R,∀ x ∈ r,0<=x) (ea:(qB R s).any (· != 0)=true):Col (qB R s):=by
 refine ⟨fun x hx=>?_,?_⟩
 ·rcases qrv hx with rfl|⟨r,hr,hx⟩
  ·exact Y6 _
  ·exact hn r hr x hx
 ·obtain ⟨x,hx,z⟩:=Z9.mp ea;exact ⟨x,hx,by simpa using z⟩
def qji {R:List (List Int)} (hn : ∀ r ∈ R,∀ x ∈ r,0<=x) : ∀ i,GrsOk R (grs R i)
 | 0=>⟨Qds,fun x hx=>(by cases hx),fun x hx=>(by cases hx)⟩
 | i+1=>by
  unfold grs;split
  ·rename_i ea;exact (qji hn i).put (zanl hn ea)
  ·exact qji hn i
def zake {R:List (List Int)} (hn : ∀ r ∈ R,∀ x ∈ r,0<=x) (n:Nat):OrdN (grs R n).length (qJ (fun i=>jc R (qcl R n i)) R.length):=by
 have h:=qji hn n;have at_ : ∀ {i:Nat} (hi:i<(grs R n).length),nrm (jc R (qcl R n i))=(grs R n)[i].1:=fun {i} hi=>by
  have e:qcl R n i=(grs R n)[i].2:=by unfold qcl;rw [Qc hi];rfl
  have m:=Ze hi;rw [e];exact (qtg (h.ne _ m) (h.me _ m)).1
 refine qqu (fun i _=>qew _ _) fun i j hi hj ne e=>ne ?_;have z:(grs R n)[i].1=(grs R n)[j].1:=by rw [<- at_ hi,<- at_ hj];exact congrArg nrm e
 have:=h.ky;rw [List.nodup_iff_pairwise_ne,Z6] at this;rcases Qee i j with q|q|q
 ·exact (this i j (by simpa using hi) (by simpa using hj) q (by simpa using z)).elim
 ·exact q
 ·exact (this j i (by simpa using hj) (by simpa using hi) q (by simpa using z.symm)).elim
def qks {y:Str}{k:Jr} : ∀ {l:List (Str×Jr)},(∀ p ∈ l,p.2=k->p.1=y) -> ∀ z,l.lookup z=some k->z=y
 | [],_,z,h=>by cases h
 | (a,b)::l,g,z,h=>by
  rw [Zj] at h;cases e:z==a with
  | true =>
   rw [e] at h;rw [eq_of_beq e];exact g (a,b) (by simp) (Qn h)
  | false=>rw [e] at h;exact qks (fun p hp=>g p (Qm _ hp)) z h
def dC (c:Int×Int):Qh :=.list [.int c.1,.int c.2]
def stp (a b:Int×Int):Bool:=decide (a.2*b.1>b.2*a.1)
structure Stps (C:List (Int×Int)):Prop where
 nn : ∀ c ∈ C,0<=c.1/\0<=c.2
 ne : ∀ (i j:Nat) (a b:Int×Int),C[i]?=some a->C[j]?=some b->i≠j->a.2*b.1≠b.2*a.1
def qxr {a b c:Int×Int} (ha:0<=a.1/\0<=a.2) (hb:0<=b.1/\0<=b.2) (hc:0<=c.1/\0<=c.2) (h1:stp a b=true) (h2:stp b c=true):stp a c=true:=by
 obtain ⟨a1,a2⟩:=a;obtain ⟨b1,b2⟩:=b;obtain ⟨c1,c2⟩:=c;have h1:b2*a1<a2*b1:=of_decide_eq_true h1;have h2:c2*b1<b2*c1:=of_decide_eq_true h2;refine decide_eq_true ?_;show c2*a1<a2*c1;obtain ⟨p1,p2⟩:0<=a1/\0<=a2:=ha;obtain ⟨q1,q2⟩:0<=b1/\0<=b2:=hb;obtain ⟨r1,r2⟩:0<=c1/\0<=c2:=hc;have x1:0<=b2*a1:=Zo q2 p1;have x2:0<=c2*b1:=Zo r2 q1;have b1p:0<b1:=by
  rcases Yu 0 b1 with z|z
  ·exact z
  ·have:b1=0:=by omega
   rw [this,Yn] at h1;omega
 have b2p:0<b2:=by
  rcases Yu 0 b2 with z|z
  ·exact z
  ·have:b2=0:=by omega
   rw [this,Qbb] at h2;omega
 have m:=Zm b1p b2p;refine Qdt (a:=b1*b2) ?_ (by omega);have y:(b2*a1)*(c2*b1)<(a2*b1)*(b2*c1):=by
  have z1:(b2*a1)*(c2*b1)<=(b2*a1)*(b2*c1):=Qcn (J7 h2) x1;have z2:(b2*a1)*(b2*c1)<(a2*b1)*(b2*c1):=Y7 h1 (by omega);omega
 calc b1*b2*(c2*a1)=(b2*a1)*(c2*b1):=by grind
  _<(a2*b1)*(b2*c1):=y
  _=_:=by grind
def qmy (C:List (Int×Int)) (c:Int×Int):Nat:=(C.filter fun b=>stp b c).length
def qsg (a:Int×Int):stp a a=false:=decide_eq_false (by omega)
def qxn {C:List (Int×Int)} (h : ∀ c ∈ C,0<=c.1/\0<=c.2) {a b:Int×Int} (ha:a ∈ C) (hb:b ∈ C) (hs:stp a b=true):qmy C a<qmy C b:=by
 have key : ∀ l:List (Int×Int),(∀ c ∈ l,0<=c.1/\0<=c.2)->(l.filter fun x=>stp x a).length<=(l.filter fun x=>stp x b).length/\(a ∈ l->(l.filter fun x=>stp x a).length<(l.filter fun x=>stp x b).length):=by
  intro l
  induction l with
  | nil=>intro _;exact ⟨Qr _,fun z=>by cases z⟩
  | cons x l ih =>
   intro hl;obtain ⟨i1,i2⟩:=ih fun c hc=>hl c (Qm _ hc);have hx:=hl x (by simp);have up:stp x a=true->stp x b=true:=fun z=>qxr hx (h a ha) (h b hb) z hs;rw [Yy,Yy];by_cases q:stp x a=true
   ·rw [if_pos q,if_pos (up q)];refine ⟨by simp only [Zk];omega,fun z=>?_⟩;rcases Qs.mp z with z|z
    ·rw [<- z,qsg] at q;cases q
    ·have:=i2 z;simp only [Zk];omega
   ·rw [if_neg q];split
    ·refine ⟨by simp only [Zk];omega,fun _=>by simp only [Zk];omega⟩
    ·rename_i nb;refine ⟨i1,fun z=>?_⟩;rcases Qs.mp z with z|z
     ·rw [<- z] at nb;exact absurd hs nb
     ·exact i2 z
 exact (key C h).2 ha
section
variable {C:List (Int×Int)}
def Stps.tot (h:Stps C) {i j:Nat}{a b:Int×Int} (ha:C[i]?=some a) (hb:C[j]?=some b) (ne:i≠j):stp a b=true\/stp b a=true:=by
 have:=h.ne i j a b ha hb ne;rcases Int.lt_or_gt_of_ne this with z|z
 ·exact .inr (decide_eq_true z)
 ·exact .inl (decide_eq_true z)
def Stps.ord (h:Stps C):OrdN C.length (qJ (fun i=>[(qmy C (C.getD i (0,0)):Int)]) 1):=by
 refine qqu (fun _ _=>rfl) fun i j hi hj ne e=>?_;have a1:C[i]?=some (C.getD i (0,0)):=by rw [Q7,Qc hi];rfl
 have a2:C[j]?=some (C.getD j (0,0)):=by rw [Q7,Qc hj];rfl
 have e:(qmy C (C.getD i (0,0)):Int)=qmy C (C.getD j (0,0)):=(Qhd e).1;rcases h.tot a1 a2 ne with z|z
 ·have:=qxn h.nn (Qf a1) (Qf a2) z;omega
 ·have:=qxn h.nn (Qf a2) (Qf a1) z;omega
def Stps.srt (h:Stps C) {p:Array Nat} (hp:PmN C.length p) (hs:SrtN (qJ (fun i=>[(qmy C (C.getD i (0,0)):Int)]) 1) p C.length) {i j:Nat} (hij:i<j) (hj:j<C.length):stp (C.getD (p.getD i 0) (0,0)) (C.getD (p.getD j 0) (0,0))=true:=by
 have q:=SrtN.lt2 h.ord hp (Qr _) hs hij hj;have hi:i<C.length:=by omega
 have b1:=hp.bd hi;have b2:=hp.bd hj;have a1:C[p.getD i 0]?=some (C.getD (p.getD i 0) (0,0)):=by rw [Q7,Qc b1];rfl
 have a2:C[p.getD j 0]?=some (C.getD (p.getD j 0) (0,0)):=by rw [Q7,Qc b2];rfl
 rcases h.tot a1 a2 (hp.inj hi hj (by omega)) with z|z
 ·exact z
 ·have:=qxn h.nn (Qf a2) (Qf a1) z;unfold qJ at q;have q:(if ((qmy C (C.getD (p.getD i 0) (0,0)):Int))==(qmy C (C.getD (p.getD j 0) (0,0)):Int) then false else decide ((qmy C (C.getD (p.getD i 0) (0,0)):Int)<qmy C (C.getD (p.getD j 0) (0,0))))=true:=q;split at q
  ·cases q
  ·have:=of_decide_eq_true q;omega
end
def at2 (Ls:List (List Int)) (k j:Nat):Int:=(((Ls[k]?).getD [])[j]?).getD 0
structure Bd (m w:Nat) (Ls:List (List Int)) (ss:List Int):Prop where
 l:Ls.length=m
 s:ss.length=m
 w : ∀ r ∈ Ls,r.length=w
 z : ∀ r ∈ Ls,∀ x ∈ r,intBits x<=2000
def atI_last {α:Type}{l:List α}{x:α} (h:l[l.length-1]?=some x):atI l (-1)=some x:=by
 have h0:0<l.length:=by
  rcases J5 l.length with e|e
  ·rw [Qy (by omega)] at h;cases h
  ·exact e
 unfold atI ixN;rw [if_neg (by decide),if_pos (by omega)];show l[(-1+(l.length:Int)).toNat]?=some x;rw [show (-1+(l.length:Int)).toNat=l.length-1 by omega];exact h
def zafz (Ls:List (List Int)) (ss:List Int) (w k c p:Nat):Bool :=
 decide (at2 Ls k (w-1)*at2 Ls c p<at2 Ls c (w-1)*at2 Ls k p)||(decide (at2 Ls k (w-1)*at2 Ls c p=at2 Ls c (w-1)*at2 Ls k p)&&decide ((ss[k]?).getD 0<(ss[c]?).getD 0))
def Tg (Ls:List (List Int)) (ss:List Int) (w p i r:Nat):Prop:=0<at2 Ls r p /\ ∀ k,k<i->0<at2 Ls k p ->
 at2 Ls r (w-1)*at2 Ls k p<=at2 Ls k (w-1)*at2 Ls r p/\(at2 Ls r (w-1)*at2 Ls k p=at2 Ls k (w-1)*at2 Ls r p->(ss[r]?).getD 0<=(ss[k]?).getD 0)
section
variable {Ls:List (List Int)}{ss:List Int}{w p i r:Nat}
def Tg.take (h:Tg Ls ss w p i r) (hp:0<at2 Ls i p) (ht:zafz Ls ss w i r p=true):Tg Ls ss w p (i+1) i:=⟨hp,fun k hk hk'=>by
 by_cases e:k=i
 ·subst e;exact ⟨Y6 _,fun _=>Y6 _⟩
 ·obtain ⟨a,b⟩:=h.2 k (by omega) hk';have hr:=h.1;unfold zafz at ht;rw [Bool.or_eq_true,Ye,decide_eq_true_eq,decide_eq_true_eq,decide_eq_true_eq] at ht;generalize at2 Ls k p=ak at *;generalize at2 Ls i p=ai at *;generalize at2 Ls r p=ar at *;generalize at2 Ls k (w-1)=sk at *;generalize at2 Ls i (w-1)=si at *;generalize at2 Ls r (w-1)=sr at *;have c1:si*ar<=sr*ai:=by omega
  have d1:(si*ar)*ak<=(sr*ai)*ak:=Q6 c1 (by omega);have d2:(sr*ak)*ai<=(sk*ar)*ai:=Q6 a (by omega);have e1:(sr*ai)*ak=(sr*ak)*ai:=by grind
  have e2:(si*ar)*ak=ar*(si*ak):=by grind
  have e3:(sk*ar)*ai=ar*(sk*ai):=by grind
  refine ⟨Int.le_of_mul_le_mul_left (a:=ar) (by omega) hr,fun e=>?_⟩;rw [e] at e2;have g1:(si*ar)*ak=(sr*ai)*ak:=by omega
  have g2:(sr*ak)*ai=(sk*ar)*ai:=by omega
  have g1:=Z3 (by omega) g1;have g2:=Z3 (by omega) g2;have:=b g2;omega⟩
end
def qQ:Nat->(Nat->Int)->Int
 | 0,_=>0
 | n+1,f=>qQ n f+f n
def qM {f g:Nat->Int} : ∀ {n:Nat},(∀ i,i<n->f i=g i)->qQ n f=qQ n g
 | 0,_=>rfl
 | n+1,h=>by
  show qQ n f+f n=qQ n g+g n;rw [qM fun i hi=>h i (by omega),h n (by omega)]
def qfg {f:Nat->Int}{n:Nat} (h : ∀ i,i<n->f i=0):qQ n f=0:=by
 induction n with
 | zero=>rfl
 | succ n ih =>
  show qQ n f+f n=0;rw [ih fun i hi=>h i (by omega),h n (by omega)];rfl
def qos (k l:Int) (f g:Nat->Int) : ∀ n:Nat,qQ n (fun i=>k*f i+l*g i)=k*qQ n f+l*qQ n g
 | 0=>by show (0:Int)=k*0+l*0;omega
 | n+1=>by
  show qQ n (fun i=>k*f i+l*g i)+(k*f n+l*g n)=k*(qQ n f+f n)+l*(qQ n g+g n);rw [qos k l f g n];grind
def qco (k:Int) (f:Nat->Int) (n:Nat):qQ n (fun i=>k*f i)=k*qQ n f:=by
 have:=qos k 0 f (fun _=>0) n;simpa using this
def qvh (f g:Nat->Int) (n:Nat):qQ n (fun i=>f i+g i)=qQ n f+qQ n g:=by
 have:=qos 1 1 f g n;simpa using this
def qjp {f:Nat->Int}{n r:Nat} (hr:r<n) (h : ∀ i,i<n->i≠r->f i=0):qQ n f=f r:=by
 induction n with
 | zero=>omega
 | succ n ih =>
  show qQ n f+f n=f r;by_cases e:r=n
  ·subst e;rw [qfg fun i hi=>h i (by omega) (by omega)];omega
  ·rw [ih (by omega) fun i hi=>h i (by omega),h n (by omega) (by omega)];omega
def skip (i x:Nat):Nat:=if x<i then x else x+1
def zacp {f:Nat->Int} : ∀ {n:Nat},qQ n f<0 -> ∃ k,k<n/\f k<0
 | 0,h=>absurd h (by show ¬ (0:Int)<0;omega)
 | n+1,h=>by
  have h':qQ n f+f n<0:=h;by_cases q:f n<0
  ·exact ⟨n,by omega,q⟩
  ·obtain ⟨k,hk,z⟩:=zacp (f:=f) (n:=n) (by omega);exact ⟨k,by omega,z⟩
def qlf {f:Nat->Int} : ∀ {n:Nat},(∀ k,k<n->0<=f k)->0<=qQ n f
 | 0,_=>by show (0:Int)<=0;omega
 | n+1,h=>by
  have a:=qlf (f:=f) (n:=n) fun k hk=>h k (by omega);have b:=h n (by omega);show 0<=qQ n f+f n;omega
def qdc (f:Nat->Int) : ∀ n:Nat,((Qx n).map f).sum=qQ n f
 | 0=>rfl
 | n+1=>by rw [Yx,Q9,Jh,qdc f n];simp [qQ]
def qog {B q d:Int} (hB:0<B) (hq:0<q) (h1:B∣d) (h2:q∣d):0<B*q/(Yq B q:Int)/\B*q/(Yq B q:Int)∣d/\B∣B*q/(Yq B q:Int)/\q∣B*q/(Yq B q:Int):=by
 obtain ⟨x,rfl⟩:=Y8 (J7 hB);obtain ⟨y,rfl⟩:=Y8 (J7 hq);have e:(x:Int)*(y:Int)/(Yq x y:Int)=((Nat.lcm x y:Nat):Int):=by
  unfold Nat.lcm;rw [Int.gcd_natCast_natCast,Int.natCast_ediv,Qja]
 rw [e];have p:0<Nat.lcm x y:=Nat.lcm_pos (by omega) (by omega);refine ⟨by omega,?_,Jq.mpr (Nat.dvd_lcm_left x y),Jq.mpr (Nat.dvd_lcm_right x y)⟩;rw [Int.ofNat_dvd_left] at h1 h2 ⊢;exact Nat.lcm_dvd h1 h2
def dSh (p q:Int):Qh :=.tuple [.int p,.int q]
structure ShW (p q:Int):Prop where
 s:Shr p q
 b1:intBits p<=4000
 b2:intBits q<=4000
def ShW.bot {p q r s:Int} (h:ShW p q) (k:ShW r s):q*s≠0/\intBits (q*s)<=9000:=by
 have h1:=h.s.pos;have h2:=k.s.pos;have:=Zm (show 0<q by omega) (show 0<s by omega);exact ⟨by omega,qi (Yp h.b2 k.b2) (by decide)⟩
def qjj {t b:Int} (hb:b≠0) (h1:intBits t<=4000) (h2:intBits b<=4000):ShW (shT t b) (shB t b):=⟨(qck hb).1,qdk h1,qeh h2⟩
section
variable {b:Int}{R:List (List Int)}{m:Nat}{c:Int}{S:List (List Int)}{n:Nat}
structure Dul (b:Int) (R:List (List Int)) (m:Nat) (c:Int) (S:List (List Int)) (n:Nat) (B:Int) (D:List (List Int)):Prop where
 t:Tab B D n
 l:D.length=m
 e : ∀ s j,s<R.length->j<n->c*(qQ m fun i=>at2 R s i*at2 D i j)=at2 S s j*b*B
structure LcmB (V:List (List (Int×Int))) (B:Int):Prop where
 pos:0<B
 dv : ∀ r ∈ V,∀ x ∈ r,x.2∣B
 un : ∀ d:Int,(∀ r ∈ V,∀ x ∈ r,x.2∣d)->B∣d
def qci (B:Int) (r:List (Int×Int)):List Int:=r.map fun x=>x.1*(B/x.2)
end
def dS (x:Int×Int):Qh:=dSh x.1 x.2
def shG {vs:List (Int×Int)}{i:Nat}{x:Qh} (h:(vs.map dS)[i]?=some x) : ∃ y,vs[i]?=some y/\x=dSh y.1 y.2:=by
 rw [Qa] at h;cases q:vs[i]? with
 | none=>rw [q] at h;cases h
 | some y=>rw [q] at h;exact ⟨y,rfl,(Qn h).symm⟩
def dvdB {x d:Int}{m:Nat} (h:x∣d) (d0:0<d) (z:intBits d<=m):intBits x<=m :=
 Yj (Qcv (by omega) (Vm.mpr h)) z
def zaqv (d:Qh) (V:List (List (Int×Int))):Prop := ∃ l,qfb d=some l/\l.length=V.length /\ ∀ (i:Nat) (x:Qh),l[i]?=some x -> ∃ r:List (Int×Int),V[i]?=some r/\qfb x=some (r.map dS)
structure LcmL (xs:List (Int×Int)) (B:Int):Prop where
 pos:0<B
 dv : ∀ x ∈ xs,x.2∣B
 un : ∀ d:Int,(∀ x ∈ xs,x.2∣d)->B∣d
def LcmL.nil:LcmL [] 1:=⟨by decide,fun x hx=>by simp at hx,fun d _=>⟨d,by omega⟩⟩
def LcmL.snoc {xs:List (Int×Int)}{B:Int}{y:Int×Int} (h:LcmL xs B) (hy:0<y.2):LcmL (xs++[y]) (B*y.2/(Yq B y.2:Int)):=by
 have k:=qog (d:=B*y.2) h.pos hy ⟨_,rfl⟩ ⟨B,Vb _ _⟩;refine ⟨k.1,fun x hx=>?_,fun d hd=>(qog h.pos hy (h.un d fun x hx=>hd x (Zd.mpr (.inl hx))) (hd y (by simp))).2.1⟩;rcases Zd.mp hx with q|q
 ·exact Jp (h.dv x q) k.2.2.1
 ·rw [Qp.mp q];exact k.2.2.2
def LcmL.b {V:List (List (Int×Int))}{B:Int} (h:LcmL V.flatten B):LcmB V B :=
 ⟨h.pos,fun r hr x hx=>h.dv x (Qir.mpr ⟨r,hr,hx⟩),fun d hd=>h.un d fun x hx=>by
  obtain ⟨r,hr,hx⟩:=Qir.mp hx;exact hd r hr x hx⟩
def zapj {V:List (List (Int×Int))}{i:Nat}{r:List (Int×Int)} (h:V[i]?=some r):(V.take (i+1)).flatten=(V.take i).flatten++r:=by
 rw [Zs,h];simp
def zaqb {α:Type}{zs:List α}{i:Nat}{z:α} (h:zs[i]?=some z):zs.take (i+1)=zs.take i++[z]:=by
 rw [Zs,h];rfl
section
variable {b:Int}{R:List (List Int)}{m:Nat}{c:Int}{S:List (List Int)}{n:Nat}{B:Int}{D:List (List Int)}
def qgt {T:List (List Int)}{i j:Nat}{r:List Int}{x:Int} (h:T[i]?=some r) (k:r[j]?=some x):at2 T i j=x:=by
 unfold at2;rw [h];show (r[j]?).getD 0=x;rw [k];rfl
def qcn {T:List (List Int)} (h : ∀ r ∈ T,∀ x ∈ r,0<=x) (i j:Nat):0<=at2 T i j:=by
 unfold at2;cases e:T[i]? with
 | none=>exact Y6 _
 | some r =>
  show 0<=(r[j]?).getD 0;cases e':r[j]? with
  | none=>exact Y6 _
  | some x=>exact h r (Qf e) x (Qf e')
def zaeg {r:List Int}{T:List (List Int)}{i:Nat} (h:T[i]?=some r):(qQ r.length fun j=>at2 T i j)=r.sum:=by
 have e1:(Qx r.length).map (fun j=>at2 T i j)=r:=by
  refine Z1 fun j=>?_;rw [Qa];by_cases hj:j<r.length
  ·rw [Q5 hj,Qc hj];show some (at2 T i j)=_;rw [qgt h (Qc hj)]
  ·rw [Qy (l:=r) (by omega),Qy (by simp;omega)];rfl
 have e2:=qdc (fun j=>at2 T i j) r.length;rw [e1] at e2;exact e2.symm
def Tab.rs {T:List (List Int)} (h:Tab B T n) {i:Nat} (hi:i<T.length):(qQ n fun j=>at2 T i j)=B:=by
 have e:T[i]?=some T[i]:=Qc hi;rw [<- h.len _ (Ze hi),zaeg e,h.sum _ (Ze hi)]
def mkT (m n:Nat) (f:Nat->Nat->Int):List (List Int):=(Qx m).map fun i=>(Qx n).map fun j=>f i j
def zafs {m n:Nat}{f:Nat->Nat->Int}{i j:Nat} (hi:i<m) (hj:j<n):at2 (mkT m n f) i j=f i j:=by
 refine qgt (r:=(Qx n).map fun j=>f i j) ?_ ?_
 ·unfold mkT;rw [Qa,Q5 hi];rfl
 ·rw [Qa,Q5 hj];rfl
def qzo (m n:Nat) (f:Nat->Nat->Int):(mkT m n f).length=m:=by simp [mkT]
def qyk {m n:Nat}{f:Nat->Nat->Int}{B:Int} (hB:1<=B) (h0 : ∀ i j,i<m->j<n->0<=f i j) (hs : ∀ i,i<m->qQ n (f i)=B):Tab B (mkT m n f) n where
 pos:=hB
 len:=fun r hr=>by
  obtain ⟨i,_,rfl⟩:=Ql.mp hr;simp
 nn:=fun r hr x hx=>by
  obtain ⟨i,hi,rfl⟩:=Ql.mp hr;obtain ⟨j,hj,rfl⟩:=Ql.mp hx;exact h0 i j (Zp.mp hi) (Zp.mp hj)
 sum:=fun r hr=>by
  obtain ⟨i,hi,rfl⟩:=Ql.mp hr;rw [qdc];exact hs i (Zp.mp hi)
def qsb (p q:Nat) (f:Nat->Nat->Int):(qQ p fun i=>qQ q fun j=>f i j)=qQ q fun j=>qQ p fun i=>f i j:=by
 induction p with
 | zero=>exact (qfg fun j _=>rfl).symm
 | succ p ih =>
  show (qQ p fun i=>qQ q fun j=>f i j)+qQ q (fun j=>f p j)=qQ q fun j=>(qQ p fun i=>f i j)+f p j;rw [ih,qvh]
def Dul.trans {d:Int}{T:List (List Int)}{p:Nat}{C:Int}{E:List (List Int)} (hc:0<c) (hSR:S.length=R.length) (h:Dul b R m c S n B D) (k:Dul c S n d T p C E) :
 Dul b R m d T p (B*C) (mkT m p fun i l=>qQ n fun j=>at2 D i j*at2 E j l):=by
  have hB:=h.t.pos;have hC:=k.t.pos;have hBC:0<B*C:=Zm (by omega) (by omega);refine ⟨qyk (by omega) (fun i l hi hl=>qlf fun j hj=>Zo (qcn h.t.nn i j) (qcn k.t.nn j l)) (fun i hi=>?_),qzo ..,fun s l hs hl=>?_⟩
  ·rw [qsb,qM (g:=fun j=>C*at2 D i j) fun j hj=>?_,qco,h.t.rs (by rw [h.l];exact hi),Vb];rw [qco,k.t.rs (by rw [k.l];exact hj),Vb]
  ·have e1:(qQ m fun i=>at2 R s i*at2 (mkT m p fun i l=>qQ n fun j=>at2 D i j*at2 E j l) i l)=qQ n fun j=>at2 E j l*qQ m fun i=>at2 R s i*at2 D i j:=by
    have a:(qQ m fun i=>at2 R s i*at2 (mkT m p fun i l=>qQ n fun j=>at2 D i j*at2 E j l) i l)=qQ m fun i=>qQ n fun j=>at2 E j l*(at2 R s i*at2 D i j):=qM fun i hi=>by
     rw [zafs hi hl,<- qco];exact qM fun j _=>by grind
    rw [a,qsb];exact qM fun j _=>by rw [qco]
   rw [e1];have e2:c*(qQ n fun j=>at2 E j l*qQ m fun i=>at2 R s i*at2 D i j)=b*B*qQ n fun j=>at2 S s j*at2 E j l:=by
    rw [<- qco,<- qco];refine qM fun j hj=>?_;have:=h.e s j hs hj
    calc c*(at2 E j l*qQ m fun i=>at2 R s i*at2 D i j)=at2 E j l*(c*qQ m fun i=>at2 R s i*at2 D i j):=by grind
     _=at2 E j l*(at2 S s j*b*B):=by rw [this]
     _=_:=by grind
   have e3:=k.e s l (by rw [hSR];exact hs) hl;have:c*(d*qQ n fun j=>at2 E j l*qQ m fun i=>at2 R s i*at2 D i j)=c*(at2 T s l*b*(B*C)):=by
    calc c*(d*qQ n fun j=>at2 E j l*qQ m fun i=>at2 R s i*at2 D i j)=d*(c*qQ n fun j=>at2 E j l*qQ m fun i=>at2 R s i*at2 D i j):=by grind
     _=b*B*(d*qQ n fun j=>at2 S s j*at2 E j l):=by rw [e2];grind
     _=b*B*(at2 T s l*c*C):=by rw [e3]
     _=_:=by grind
   exact Qao (by omega) this
def Dul.pick {f:Nat->Nat} (hf : ∀ i,i<m->f i<n) (h : ∀ s j,s<R.length->j<n->c*(qQ m fun i=>at2 R s i*if f i=j then 1 else 0)=at2 S s j*b):Dul b R m c S n 1 (mkT m n fun i j=>if f i=j then 1 else 0):=by
 refine ⟨qyk (by decide) (fun i j _ _=>by split <;> decide) (fun i hi=>?_),qzo ..,fun s j hs hj=>?_⟩
 ·rw [qjp (hf i hi) fun j _ ne=>if_neg (V7 ne),if_pos rfl]
 ·rw [Qat,<- h s j hs hj]
  congr 1
  exact qM fun i hi=>by rw [zafs hi hj]
def Dul.same {b b':Int}{R R':List (List Int)}{m:Nat} (h : ∀ s j,s<R.length->j<m->b'*at2 R s j=at2 R' s j*b):Dul b R m b' R' m 1 (mkT m m fun i j=>if i=j then 1 else 0) :=
 Dul.pick (f:=id) (fun i hi=>hi) fun s j hs hj=>by
  rw [qjp hj fun i _ ne=>by rw [if_neg (show ¬ id i=j from ne),Yn],if_pos (show id j=j from rfl),Qat,h s j hs hj]
end
def zahk {R:List (List Int)}{g:Int} (g0:g≠0) (h : ∀ r ∈ R,∀ x ∈ r,g∣x) (s j:Nat):g*at2 (qaw R g) s j=at2 R s j:=by
 unfold at2 qaw;rw [Qa];cases e:R[s]? with
 | none=>simp
 | some r =>
  show g*((r.map fun n=>n/g)[j]?).getD 0=(r[j]?).getD 0;rw [Qa];cases e':r[j]? with
  | none=>simp
  | some x=>exact Vr (h r (Qf e) x (Qf e'))
def qxk {b:Int}{R:List (List Int)}{m:Nat} (h:Tab b R m) (hn:R≠[]) : ∃ g:Int,0<g/\g*(b/qE R)=b /\ ∀ s j,g*at2 (qaw R (qE R)) s j=at2 R s j:=by
 have g0:=h.gpos hn;exact ⟨qE R,by omega,Vr (h.gdvd hn),zahk (by omega) fun r hr x hx=>qhb hr hx⟩
def sc (k:Int) (R:List (List Int)):List (List Int):=R.map fun r=>r.map fun n=>k*n
def inB (xs:List Int) (m:Int):Bool:=xs.all fun x=>decide (0<=x)&&decide (x<m)
section
variable {b:Int}{R:List (List Int)}{m:Nat}{c:Int}{S:List (List Int)}{n:Nat}{B:Int}{D:List (List Int)}{d:Int}{T:List (List Int)}{p:Nat}
def qbs {s j:Nat}{r:List Int} (h:T[s]?=some r):at2 T s j=(r[j]?).getD 0:=by
 unfold at2;rw [h];rfl
end
section
variable {b:Int}{R:List (List Int)}{m:Nat}{c:Int}{S:List (List Int)}{n:Nat}{B:Int}{D:List (List Int)}{b' c':Int}{R' S':List (List Int)}
end
def qv (T:List (List Int)) (j:Nat):Int×Int:=(at2 T 0 j,at2 T 1 j)
def sX (S:List (Int×Int)) (i:Nat):Int:=((S.take i).map (·.1)).sum
def sY (S:List (Int×Int)) (i:Nat):Int:=((S.take i).map (·.2)).sum
def qcs {S:List (Int×Int)}{i:Nat}{c:Int×Int} (h:S[i]?=some c):sX S (i+1)=sX S i+c.1/\sY S (i+1)=sY S i+c.2:=by
 unfold sX sY;rw [Zs,h];simp
def dP (c:Int×Int):Qh :=.tuple [.int c.1,.int c.2]
def crs (a b:Int×Int):Int:=a.2*b.1-b.2*a.1
structure Stp1 (c:Int×Int):Prop where
 x:0<=c.1
 y:0<=c.2
 p:0<c.1+c.2
section
variable {a b c:Int×Int}
def qag:stp a b=true↔0<crs a b:=by
 unfold stp crs;rw [decide_eq_true_eq];omega
def qbg (a b:Int×Int):crs b a = - crs a b:=by unfold crs;omega
def qjv (a:Int×Int):crs a a=0:=by unfold crs;omega
def qhp (hb:Stp1 b) (h1:crs a b=0) (h2:crs b c=0):crs a c=0:=by
 obtain ⟨a1,a2⟩:=a;obtain ⟨b1,b2⟩:=b;obtain ⟨c1,c2⟩:=c;have h1:a2*b1-b2*a1=0:=h1;have h2:b2*c1-c2*b1=0:=h2;show a2*c1-c2*a1=0;have x:0<=b1:=hb.x;have y:0<=b2:=hb.y;have p:0<b1+b2:=hb.p;rcases Yu 0 b1 with z|z
 ·have e:a2*c1*b1=c2*a1*b1:=by
   have e1:a2*b1=b2*a1:=by omega
   have e2:b2*c1=c2*b1:=by omega
   calc a2*c1*b1=(a2*b1)*c1:=by grind
    _=(b2*c1)*a1:=by rw [e1];grind
    _=_:=by rw [e2];grind
  have:=Z3 (show b1≠0 by omega) e;omega
 ·have b0:b1=0:=by omega
  have q:b2≠0:=by omega
  rw [b0,Yn] at h1 h2;have a0:a1=0:=by
   have:b2*a1=0:=by omega
   rcases Qbi.mp this with w|w
   ·exact absurd w q
   ·exact w
  have c0:c1=0:=by
   have:b2*c1=0:=by omega
   rcases Qbi.mp this with w|w
   ·exact absurd w q
   ·exact w
  rw [a0,c0,Yn,Yn];rfl
def qzu (ha:Stp1 a) (hb:Stp1 b) (hc:Stp1 c) (h1:stp a b=true) (h2:crs b c=0):stp a c=true:=by
 rw [qag] at h1 ⊢;rcases Yu 0 (crs a c) with z|z
 ·exact z
 ·exfalso;by_cases w:crs a c=0
  ·have:=qhp hc w (by rw [qbg,h2];rfl);omega
  ·have s1:stp c a=true:=qag.mpr (by rw [qbg];omega);have s2:=qxr ⟨hc.x,hc.y⟩ ⟨ha.x,ha.y⟩ ⟨hb.x,hb.y⟩ s1 (qag.mpr h1);rw [qag,qbg,h2] at s2;omega
end
def cls (L:List (Int×Int)) (c:Int×Int):Int×Int:=(((L.filter fun x=>crs x c==0).map (·.1)).sum,((L.filter fun x=>crs x c==0).map (·.2)).sum)
def qV (R:List (List Int)) (n:Nat):List (Int×Int):=((Qx n).map (qv R)).filter fun c=>decide (0<c.1+c.2)
def qne (R:List (List Int)) (n:Nat):qV R (n+1)=if 0<(qv R n).1+(qv R n).2 then qV R n++[qv R n] else qV R n:=by
 unfold qV;rw [Yx,Q9,Yc];by_cases h:0<(qv R n).1+(qv R n).2
 ·rw [if_pos h];simp [h]
 ·rw [if_neg h];simp [h]
structure Leads (L Ls:List (Int×Int)):Prop where
 m : ∀ l ∈ Ls,l ∈ L
 s:Ls.Pairwise fun a b=>stp a b=true
 a : ∀ c ∈ L,∃ l ∈ Ls,crs c l=0
def qgz {b:Int}{R:List (List Int)}{n:Nat} (hT:Tab b R n) {m:Nat}{c:Int×Int} (hc:c ∈ qV R m):Stp1 c:=by
 obtain ⟨h1,h2⟩:=Zt.mp hc;obtain ⟨j,_,rfl⟩:=Ql.mp h1;exact ⟨qcn hT.nn 0 j,qcn hT.nn 1 j,by simpa using h2⟩
def qsi (D:List (Int×Int)):List (Int×Int):=(Qx (D.length+1)).map fun i=>(sX D i,sY D i)
def qje (ds:List Qh) (q:Qh->Prop):Prop := ∃ (ns:List Int) (at':Int),ds=[.list (ns.map .int),.int at']/\(0<=at'/\at'<=100/\ns.length<=63) /\ ∀ b R,Gls b R 3->R.length=2->intBits b<=200->q (qL b R)
def qaz:FnScope ["_law_script","_law_at","_law_xs","_law_first_here","_law_rest","_law_pairs","_law_rows_here"] ["_law_script","_law_at"] (defScope qer):=sc0
def qrj (F:Def K mg "_law_near" qer ["_law_script","_law_at"]) (T:Txt K mg cs)
 (O__law_made:Ok P w K mg base "_law_made" 2 ["_law_bottom","_law_rows_here"] (PSp K qbq))
 (O__law_drawn:Ok P w K mg base "_law_drawn" 1 ["_law_script","_law_at","_law_sizes"] (FSp K qev))
 : Ok P w K mg base "_law_near" 3 ["_law_script","_law_at"] (PSp K qje):=by
  refine F.vok qaz (by rintro ds q ⟨_,_,h,_⟩;rw [h];rfl) fun f cdv A outer s H E hr ds q h=>?_;obtain ⟨ns,at',rfl,⟨a0,a1,hn⟩,h⟩:=h;refine ⟨_,(qe (ql (i:=2) qaz.nd (qy (qfc O__law_drawn.c hr.m (qc (qa 0) (qc (qa 1) (qc (qy (qR (qc qd (qc (qm qtp qd qd) (qc (qm qtp qd qd) (qc (qm qtp qd qd) (qc qd qf))))))) qf))))))
   (qe (ql (i:=3) qaz.nd (qh (qy (qR (qc (qm qar qd (qm qhj (qh (qa 2) qd) qd)) (qc (qm qar qd (qh (qa 2) qd)) (qc (qm qar (qm qar (qm qtp qd qd) (qm qC (qh (qa 2) qd) (qm qtp qd qd))) (qh (qa 2) qd)) qf))))) (qh (qa 2) qd)))
   (qe (ql (i:=4) qaz.nd (qm qC (qh (qa 2) qd) (qh (qy (qR (qc qd (qc qd (qc (qm qtp qd qd) qf))))) (qh (qa 2) qd))))
   (qe (ql (i:=5) qaz.nd (qy (qR (qc (qat (qc (qa 3) (qc (qm qar (qa 3) qd) qf))) (qc (qat (qc (qm qar (qa 3) qd) (qc (qm qar (qa 3) qd) qf))) (qc (qat (qc (qm qar (qa 4) qd) (qc (qa 4) qf))) qf))))))
   (qe (ql (i:=5) qaz.nd (qy (qmg (qy (qgw (qa 5) (qdl (qh (qa 2) qd)) qhr)) (qy (qgw (qa 5) qhr (qdl (qh (qa 2) qd)))))))
   (qe (ql (i:=6) qaz.nd (qy (qR (qc (qy (qaa (caps:=[]) (own:=["_law_pair"]) (ix:=[]) rfl ⟨rfl,rfl,rfl,rfl,rfl,rfl⟩ (qG (qa 5)) (fun _ _ _ _=>(qo (i:=0) (show Z7 (["_law_pair"]:List Str) by decide))) (fun _ _ _ _=>(qh (qa 0) qd)))) (qc (qy (qaa (caps:=[]) (own:=["_law_pair"]) (ix:=[]) rfl ⟨rfl,rfl,rfl,rfl,rfl,rfl⟩ (qG (qa 5)) (fun _ _ _ _=>(qo (i:=0) (show Z7 (["_law_pair"]:List Str) by decide))) (fun _ _ _ _=>(qh (qa 0) qd)))) qf)))))
   (qg (qt (qr O__law_made.c hr.m (qc (qu (qob rfl) T.sum_ L2.boot_sum (qc (qh (qa 6) qd) qf)) (qc (qa 6) qf))))))))))),?_⟩
  have cp : ∀ n:Int,0<=n->n<=100->CPow 10 n:=fun n h1 h2=>⟨h1,by omega,by decide⟩
  refine ⟨cp 9 (by decide) (by decide),cp 9 (by decide) (by decide),cp 9 (by decide) (by decide),szl,ns,at',[3,10^(9:Int).toNat,10^(9:Int).toNat,10^(9:Int).toNat,3],rfl,⟨a0,fun z hz=>?_,by decide,hn⟩,fun xs hx=>?_⟩
  ·simp only [Qs,Yf,or_false] at hz;rcases hz with rfl|rfl|rfl|rfl|rfl <;> exact ⟨by decide,by decide⟩
  obtain ⟨x0,_,rfl,p0,q0,x1,_,rfl,p1,q1,x2,_,rfl,p2,q2,x3,_,rfl,p3,q3,x4,_,rfl,p4,q4,rfl⟩:=hx;have q1:x1<1000000000:=q1;have q2:x2<1000000000:=q2;have q3:x3<1000000000:=q3;refine ⟨Q2 x1,rfl,?_⟩;refine ⟨by decide,_,rfl,cp 18 (by decide) (by decide),_,rfl,cp 9 (by decide) (by decide),qak (qi (qdb (by omega) (by omega)) (by decide)) (by decide),_,rfl,szl,_,rfl,?_⟩;obtain ⟨fi,ef,f1,f2⟩ : ∃ fi:Int,atI [Q2 (1+x1%1000),Q2 (1+x1),Q2 (10^Qdc 18+x1*10^Qdc 9+x2)] x0=some (Q2 fi)/\1<=fi/\fi<=10000000000000000000:=by
   have t1:(10:Int)^Qdc 18=1000000000000000000:=by decide
   have t2:(10:Int)^Qdc 9=1000000000:=by decide
   have:x0=0\/x0=1\/x0=2:=by omega
   rcases this with rfl|rfl|rfl
   ·exact ⟨_,rfl,by omega,by omega⟩
   ·exact ⟨_,rfl,by omega,by omega⟩
   ·exact ⟨_,rfl,by rw [t1,t2];omega,by rw [t1,t2];omega⟩
  obtain ⟨k,ek,k0,k1⟩ : ∃ k:Int,atI [Q2 1,Q2 1,Q2 (10^Qdc 20)] x0=some (Q2 k)/\1<=k/\k<=100000000000000000000:=by
   have t1:(10:Int)^Qdc 20=100000000000000000000:=by decide
   have:x0=0\/x0=1\/x0=2:=by omega
   rcases this with rfl|rfl|rfl
   ·exact ⟨_,rfl,by decide,by decide⟩
   ·exact ⟨_,rfl,by decide,by decide⟩
   ·exact ⟨_,rfl,by rw [t1];decide,by rw [t1];decide⟩
  have zk:intBits k<=4000:=qi (qyy (by omega) (by omega)) (by decide);refine ⟨Q2 fi,ef,_,rfl,cp 20 (by decide) (by decide),szl,_,rfl,Q2 k,ek,qak (qi (qdb (by omega) (by omega)) (by decide)) zk,?_⟩;have r0:0<=x3*k:=Zo p3 (by omega);have r1:x3*k<=1000000000*100000000000000000000:=Qdu (by omega) k1 (by omega) (by omega);generalize x3*k=re at *;have fin : ∀ a1 b1 c1 a2 b2 c2:Int,0<=a1->0<=b1->0<=c1->0<=a2->0<=b2->0<=c2->a1+(b1+(c1+0))=2*fi+re+3->a2+(b2+(c2+0))=2*fi+re+3->Tab (a1+(b1+(c1+0))) [[a1,b1,c1],[a2,b2,c2]] 3/\intBits (a1+(b1+(c1+0)))<=200:=fun a1 b1 c1 a2 b2 c2 h1 h2 h3 h4 h5 h6 h7 h8=>by
   refine ⟨⟨by omega,fun r hr=>?_,fun r hr x hx=>?_,fun r hr=>?_⟩,qyy (by omega) (by omega)⟩
   ·simp only [Qs,Yf,or_false] at hr;rcases hr with rfl|rfl <;> rfl
   ·simp only [Qs,Yf,or_false] at hr;rcases hr with rfl|rfl <;> simp only [Qs,Yf,or_false] at hx <;> rcases hx with rfl|rfl|rfl <;> assumption
   ·simp only [Qs,Yf,or_false] at hr;rcases hr with rfl|rfl
    ·simp only [Q3,Qfm]
    ·simp only [Q3,Qfm];omega
  have low : ∀ {b:Int}{R:List (List Int)},Tab b R 3->R≠[]->R.length=2->intBits b<=200->q (qL (b/qE R) (qaw R (qE R))):=fun {b R} hT hn h2 hz=>by
   have b1:=hT.pos;have g:=hT.gls hn;have:=g.t.pos;exact h _ _ g (by simp [qaw];exact h2) (qjw (by omega) (Jt _ (by omega)) hz)
  refine ⟨szl,szl,szl,szl,?_⟩;have x4c:x4=0\/x4=1\/x4=2:=by omega
  rcases x4c with rfl|rfl|rfl
  ·refine ⟨_,rfl,fun r er=>⟨_,rfl,fun r' er'=>?_⟩⟩;have er:r=[dP (fi,fi+1),dP (fi+1,fi+2),dP (re+2,re)]:=er;have er':r'=[]:=er';subst er;subst er';refine ⟨by rw [Z0];simp,?_⟩;refine qN ((([(fi,fi+1),(fi+1,fi+2),(re+2,re)]:List (Int×Int)).map (·.1)).map Q2) (by rfl) (qj (by simp)) (fun e => ∃ s,e=[s]) ⟨_,rfl⟩ ?_ ?_
   ·rintro i x ys e hx hys ⟨s,rfl⟩;have hx:(([(fi,fi+1),(fi+1,fi+2),(re+2,re)]:List (Int×Int)).map dP)[i]?=some x:=hx;rw [Qa] at hx;cases ec:([(fi,fi+1),(fi+1,fi+2),(re+2,re)]:List (Int×Int))[i]? with
    | none=>rw [ec] at hx;cases hx
    | some c =>
     rw [ec] at hx;cases hx;refine ⟨_,rfl,qw ?_ hys,_,rfl⟩;rw [Qa,Qa,ec];rfl
   refine qN ((([(fi,fi+1),(fi+1,fi+2),(re+2,re)]:List (Int×Int)).map (·.2)).map Q2) (by rfl) (qj (by simp)) (fun e => ∃ s,e=[s]) ⟨_,rfl⟩ ?_ ?_
   ·rintro i x ys e hx hys ⟨s,rfl⟩;have hx:(([(fi,fi+1),(fi+1,fi+2),(re+2,re)]:List (Int×Int)).map dP)[i]?=some x:=hx;rw [Qa] at hx;cases ec:([(fi,fi+1),(fi+1,fi+2),(re+2,re)]:List (Int×Int))[i]? with
    | none=>rw [ec] at hx;cases hx
    | some c =>
     rw [ec] at hx;cases hx;refine ⟨_,rfl,qw ?_ hys,_,rfl⟩;rw [Qa,Qa,ec];rfl
   obtain ⟨tt,zt⟩:=fin (fi) (fi+1) (re+2) (fi+1) (fi+2) (re) (by omega) (by omega) (by omega) (by omega) (by omega) (by omega) (by omega) (by omega);refine ⟨szl,_,rfl,[fi,fi+1,re+2],rfl,?_⟩;exact ⟨_,_,[[fi,fi+1,re+2],[fi+1,fi+2,re]],3,rfl,⟨qbz [[fi,fi+1,re+2],[fi+1,fi+2,re]],tt,by simp,by simp,by decide,qi zt (by decide)⟩,low tt (by simp) rfl zt⟩
  ·refine ⟨_,rfl,fun r er=>⟨_,rfl,fun r' er'=>?_⟩⟩;have er:r=[dP (fi+1,fi+2),dP (re+2,re)]:=er;have er':r'=[dP (fi,fi+1)]:=er';subst er;subst er';refine ⟨by rw [Z0];simp,?_⟩;refine qN ((([(fi+1,fi+2),(re+2,re),(fi,fi+1)]:List (Int×Int)).map (·.1)).map Q2) (by rfl) (qj (by simp)) (fun e => ∃ s,e=[s]) ⟨_,rfl⟩ ?_ ?_
   ·rintro i x ys e hx hys ⟨s,rfl⟩;have hx:(([(fi+1,fi+2),(re+2,re),(fi,fi+1)]:List (Int×Int)).map dP)[i]?=some x:=hx;rw [Qa] at hx;cases ec:([(fi+1,fi+2),(re+2,re),(fi,fi+1)]:List (Int×Int))[i]? with
    | none=>rw [ec] at hx;cases hx
    | some c =>
     rw [ec] at hx;cases hx;refine ⟨_,rfl,qw ?_ hys,_,rfl⟩;rw [Qa,Qa,ec];rfl
   refine qN ((([(fi+1,fi+2),(re+2,re),(fi,fi+1)]:List (Int×Int)).map (·.2)).map Q2) (by rfl) (qj (by simp)) (fun e => ∃ s,e=[s]) ⟨_,rfl⟩ ?_ ?_
   ·rintro i x ys e hx hys ⟨s,rfl⟩;have hx:(([(fi+1,fi+2),(re+2,re),(fi,fi+1)]:List (Int×Int)).map dP)[i]?=some x:=hx;rw [Qa] at hx;cases ec:([(fi+1,fi+2),(re+2,re),(fi,fi+1)]:List (Int×Int))[i]? with
    | none=>rw [ec] at hx;cases hx
    | some c =>
     rw [ec] at hx;cases hx;refine ⟨_,rfl,qw ?_ hys,_,rfl⟩;rw [Qa,Qa,ec];rfl
   obtain ⟨tt,zt⟩:=fin (fi+1) (re+2) (fi) (fi+2) (re) (fi+1) (by omega) (by omega) (by omega) (by omega) (by omega) (by omega) (by omega) (by omega);refine ⟨szl,_,rfl,[fi+1,re+2,fi],rfl,?_⟩;exact ⟨_,_,[[fi+1,re+2,fi],[fi+2,re,fi+1]],3,rfl,⟨qbz [[fi+1,re+2,fi],[fi+2,re,fi+1]],tt,by simp,by simp,by decide,qi zt (by decide)⟩,low tt (by simp) rfl zt⟩
  ·refine ⟨_,rfl,fun r er=>⟨_,rfl,fun r' er'=>?_⟩⟩;have er:r=[dP (re+2,re)]:=er;have er':r'=[dP (fi,fi+1),dP (fi+1,fi+2)]:=er';subst er;subst er';refine ⟨by rw [Z0];simp,?_⟩;refine qN ((([(re+2,re),(fi,fi+1),(fi+1,fi+2)]:List (Int×Int)).map (·.1)).map Q2) (by rfl) (qj (by simp)) (fun e => ∃ s,e=[s]) ⟨_,rfl⟩ ?_ ?_
   ·rintro i x ys e hx hys ⟨s,rfl⟩;have hx:(([(re+2,re),(fi,fi+1),(fi+1,fi+2)]:List (Int×Int)).map dP)[i]?=some x:=hx;rw [Qa] at hx;cases ec:([(re+2,re),(fi,fi+1),(fi+1,fi+2)]:List (Int×Int))[i]? with
    | none=>rw [ec] at hx;cases hx
    | some c =>
     rw [ec] at hx;cases hx;refine ⟨_,rfl,qw ?_ hys,_,rfl⟩;rw [Qa,Qa,ec];rfl
   refine qN ((([(re+2,re),(fi,fi+1),(fi+1,fi+2)]:List (Int×Int)).map (·.2)).map Q2) (by rfl) (qj (by simp)) (fun e => ∃ s,e=[s]) ⟨_,rfl⟩ ?_ ?_
   ·rintro i x ys e hx hys ⟨s,rfl⟩;have hx:(([(re+2,re),(fi,fi+1),(fi+1,fi+2)]:List (Int×Int)).map dP)[i]?=some x:=hx;rw [Qa] at hx;cases ec:([(re+2,re),(fi,fi+1),(fi+1,fi+2)]:List (Int×Int))[i]? with
    | none=>rw [ec] at hx;cases hx
    | some c =>
     rw [ec] at hx;cases hx;refine ⟨_,rfl,qw ?_ hys,_,rfl⟩;rw [Qa,Qa,ec];rfl
   obtain ⟨tt,zt⟩:=fin (re+2) (fi) (fi+1) (re) (fi+1) (fi+2) (by omega) (by omega) (by omega) (by omega) (by omega) (by omega) (by omega) (by omega);refine ⟨szl,_,rfl,[re+2,fi,fi+1],rfl,?_⟩;exact ⟨_,_,[[re+2,fi,fi+1],[re,fi+1,fi+2]],3,rfl,⟨qbz [[re+2,fi,fi+1],[re,fi+1,fi+2]],tt,by simp,by simp,by decide,qi zt (by decide)⟩,low tt (by simp) rfl zt⟩
def zamj:Qh->Bool
 | .int _=>true
 | _=>false
def qes:DC
 | [d],q=>q (.bool (zamj d))
 | _,_=>False
def qui:FnScope ["thing"] ["thing"] (defScope qfx):=sc0
def quf (F:Def K mg "is_whole" qfx ["thing"]) (T:Txt K mg cs)
 : Ok P w K mg base "is_whole" 1 ["thing"] (PSp K qes):=by
  refine F.vok qui (fun ds q h=>by unfold qes at h;split at h;all_goals first|rfl|exact h.elim) fun f cdv A outer s H E hr ds q h=>?_
  match ds,h with
  | [d],h =>
  refine ⟨_,(qg (qt (qpb (qfk T.isinstance_ T.int_ L2.boot_int (qa 0)) (qpv (zagk (qfk T.isinstance_ T.bool_ L2.boot_bool (qa 0))))))),?_⟩;cases d <;> exact h
def qcw:DC
 | [.int a,.int b],q=>q (.int (Yq a b))
 | _,_=>False
def zage (x:Int):0<=(if x<0 then -x else x):=by split <;> omega
def qcv:FnScope ["one","other","rest"] ["one","other"] (defScope qhn):=sc0
def qwu (F:Def K mg "divisor" qhn ["one","other"]) (T:Txt K mg cs)
 : Ok P w K mg base "divisor" 1 ["one","other"] (PSp K qcw):=by
  refine F.vok qcv (fun ds q h=>by unfold qcw at h;split at h;all_goals first|rfl|exact h.elim) fun f cdv A outer s H E hr ds q h=>?_
  match ds,h with
  | [.int a,.int b],h =>
  refine ⟨_,(qe (ql (i:=0) qcv.nd (qu zagy T.abs_ L2.boot_abs (qc (qa 0) qf)))
   (qe (ql (i:=1) qcv.nd (qu zagy T.abs_ L2.boot_abs (qc (qa 1) qf)))
   (qe (qjm (qO (qsl hr.units) (qa 1) qd) (qe (ql (i:=2) qcv.nd (qm qhj (qa 0) (qa 1)))
   (qe (ql (i:=0) qcv.nd (qa 1))
   (qg (ql (i:=1) qcv.nd (qa 2))))))
   (qg (qt (qa 0)))))),?_⟩
  refine ⟨fun m e => ∃ x y r,e=[.val (.int x),.val (.int y),r]/\0<=x/\0<=y/\Qeo x.toNat y.toNat=Yq a b/\m=y.toNat,⟨_,_,_,_,rfl,zage a,zage b,qkp a b,rfl⟩,?_⟩;rintro m e ⟨x,y,r,rfl,hx,hy,hg,rfl⟩;refine ⟨rfl,rfl,qig (fun hne=>?_) (fun he=>?_)⟩
  ·obtain ⟨t1,t2,t3⟩:=qoo hx hy hne hg;exact ⟨by omega,(x%y).toNat,by omega,y,x%y,_,rfl,hy,t1,t3,rfl⟩
  ·subst he;have:=qrx hx rfl hg;rw [this];exact h
def qli (ds:List Qh) (k:Qh->Prop):Prop := ∃ p q,ds=[dSh p q]/\Shr p q/\k (.bool true)
def qty:FnScope ["thing"] ["thing"] (defScope qge):=sc0
def quj (F:Def K mg "is_share" qge ["thing"]) (T:Txt K mg cs)
 (O_is_whole:Ok P w K mg base "is_whole" 1 ["thing"] (PSp K qes))
 (O_divisor:Ok P w K mg base "divisor" 1 ["one","other"] (PSp K qcw))
 : Ok P w K mg base "is_share" 2 ["thing"] (PSp K qli):=by
  refine F.vok qty (by rintro ds q ⟨_,_,h,_⟩;rw [h];rfl) fun f cdv A outer s H E hr ds k h=>?_;obtain ⟨p,q,rfl,hp,h⟩:=h;refine ⟨_,(qe (qas (VW.pt (qdi (qaf (qS (qfk T.isinstance_ T.tuple_ L2.boot_tuple (qa 0)))) (qcu (qO (qsl hr.units) (qu qbx T.len_ L2.boot_len (qc (qa 0) qf)) qd)))) (qg (qt qdv)) qA)
   (qe (qas (VW.pt (qdi (qaf (qS (qr O_is_whole.c hr.m (qc (qh (qa 0) qd) qf)))) (qcu (qaf (qS (qr O_is_whole.c hr.m (qc (qh (qa 0) qd) qf))))))) (qg (qt qdv)) qA)
   (qg (qt (qpb (qgl o_ge (qh (qa 0) qd) qd) (qpv (qgl (quz hr.units) (qr O_divisor.c hr.m (qc (qh (qa 0) qd) (qc (qh (qa 0) qd) qf))) qd))))))),?_⟩
  have hq:=hp.pos;refine ⟨rfl,rfl,_,rfl,_,rfl,_,rfl,?_⟩;refine qmm (fun _=>⟨_,rfl,_,rfl,rfl,rfl,?_⟩) (fun z=>(z hq).elim);rw [hp.gcd];exact h
def qbc (ds:List Qh) (k:Qh->Prop):Prop := ∃ p q r s,ds=[dSh p q,dSh r s]/\(Shr p q/\Shr r s)/\k .none
def qlt:FnScope ["one","other"] ["one","other"] (defScope qcc):=sc0
def qlx (F:Def K mg "check_shares" qcc ["one","other"]) (T:Txt K mg cs)
 (O_is_share:Ok P w K mg base "is_share" 2 ["thing"] (PSp K qli))
 : Ok P w K mg base "check_shares" 3 ["one","other"] (PSp K qbc):=by
  refine F.vok qlt (by rintro ds q ⟨_,_,_,_,h,_⟩;rw [h];rfl) fun f cdv A outer s H E hr ds k h=>?_;obtain ⟨p,q,r,s,rfl,⟨hp,hr'⟩,h⟩:=h;refine ⟨_,(qg (qas (VW.pt (qdi (qaf (qS (qr O_is_share.c hr.m (qc (qa 0) qf)))) (qcu (qaf (qS (qr O_is_share.c hr.m (qc (qa 1) qf))))))) qff qA)),?_⟩;exact ⟨p,q,rfl,hp,r,s,rfl,hr',h⟩
structure ShD (p q:Int):Prop where
 s:Shr p q
 b1:intBits p<=1000
 b2:intBits q<=1000
def ShD.ok {p q r s:Int} (h:ShD p q) (k:ShD r s):IntMulOk p s:=qak (qi h.b1 (by decide)) (qi k.b2 (by decide))
def qoj (ds:List Qh) (k:Qh->Prop):Prop := ∃ p q r s,ds=[dSh p q,dSh r s]/\(ShD p q/\ShD r s)/\k (.bool (decide (p*s<r*q)))
def zaeu:FnScope ["one","other"] ["one","other"] (defScope qmu):=sc0
def zadw (F:Def K mg "below" qmu ["one","other"]) (T:Txt K mg cs)
 (O_check_shares:Ok P w K mg base "check_shares" 3 ["one","other"] (PSp K qbc))
 : Ok P w K mg base "below" 4 ["one","other"] (PSp K qoj):=by
  refine F.vok zaeu (by rintro ds q ⟨_,_,_,_,h,_⟩;rw [h];rfl) fun f cdv A outer s H E hr ds k h=>?_;obtain ⟨p,q,r,s,rfl,⟨hp,hr'⟩,h⟩:=h;refine ⟨_,(qe (qnp (qr O_check_shares.c hr.m (qc (qa 0) (qc (qa 1) qf))))
   (qg (qt (qgl o_lt (qm qC (qh (qa 0) qd) (qh (qa 1) qd)) (qm qC (qh (qa 1) qd) (qh (qa 0) qd)))))),?_⟩
  exact ⟨p,q,r,s,rfl,⟨hp.s,hr'.s⟩,_,rfl,_,rfl,hp.ok hr',_,rfl,_,rfl,hr'.ok hp,h⟩
def qct:DC
 | [.int t,.int b],q=>(b≠0/\intBits b<=9000)/\q (dSh (shT t b) (shB t b))
 | _,_=>False
def qip:FnScope ["top","bottom","common"] ["top","bottom"] (defScope qhi):=sc0
def qxd (F:Def K mg "reduced" qhi ["top","bottom"]) (T:Txt K mg cs)
 (O_divisor:Ok P w K mg base "divisor" 1 ["one","other"] (PSp K qcw))
 : Ok P w K mg base "reduced" 2 ["top","bottom"] (PSp K qct):=by
  refine F.vok qip (fun ds q h=>by unfold qct at h;split at h;all_goals first|rfl|exact h.elim) fun f cdv A outer s H E hr ds q h=>?_
  match ds,h with
  | [.int t,.int b],⟨⟨hb,hz⟩,h⟩ =>
  refine ⟨_,(qe (ql (i:=2) qip.nd (qr O_divisor.c hr.m (qc (qa 0) (qc (qa 1) qf))))
   (qkc (qas (qO o_lt (qa 1) qd) (qg (ql (i:=2) qip.nd (qmc (qa 2)))) qA)
   (qg (qt (qat (qc (qm zafq (qa 0) (qa 2)) (qc (qm zafq (qa 1) (qa 2)) qf))))))),?_⟩
  have hc:=zako (t:=t) hb;have hcz:=zaic (t:=t) hb hz;refine ⟨fun e=>e=[.val (.int t),.val (.int b),.val (.int (cm t b))],?_,?_⟩
  ·refine qmm (fun hn=>?_) (fun hn=>?_)
   ·show _=_;unfold cm;rw [if_pos hn];rfl
   ·show _=_;unfold cm;rw [if_neg hn];rfl
  ·rintro e rfl;exact ⟨⟨hc,hcz⟩,⟨hc,hcz⟩,szl,h⟩
def qgv:DC
 | [.int t,.int b],q=>(b≠0/\intBits b<=9000)/\q (dSh (shT t b) (shB t b))
 | _,_=>False
def zaej:FnScope ["top","bottom"] ["top","bottom"] (defScope qny):=sc0
def zadg (F:Def K mg "share" qny ["top","bottom"]) (T:Txt K mg cs)
 (O_is_whole:Ok P w K mg base "is_whole" 1 ["thing"] (PSp K qes))
 (O_reduced:Ok P w K mg base "reduced" 2 ["top","bottom"] (PSp K qct))
 : Ok P w K mg base "share" 3 ["top","bottom"] (PSp K qgv):=by
  refine F.vok zaej (fun ds q h=>by unfold qgv at h;split at h;all_goals first|rfl|exact h.elim) fun f cdv A outer s H E hr ds q h=>?_
  match ds,h with
  | [.int t,.int b],h =>
  refine ⟨_,(qe (qas (VW.pt (qdi (qaf (qS (qr O_is_whole.c hr.m (qc (qa 0) qf)))) (qdi (qaf (qS (qr O_is_whole.c hr.m (qc (qa 1) qf)))) (qcu (qO (quz hr.units) (qa 1) qd))))) qff qA)
   (qg (qt (qr O_reduced.c hr.m (qc (qa 0) (qc (qa 1) qf)))))),?_⟩
  exact ⟨rfl,rfl,qmd (fun z=>(h.1.1 z).elim) (fun _=>h)⟩
def qkm (ds:List Qh) (q:Qh->Prop):Prop := ∃ b R,ds=[qL b R]/\q (.int (R.length:Nat))
def zabx:FnScope ["glass"] ["glass"] (defScope qjq):=sc0
def zabf (F:Def K mg "stands" qjq ["glass"]) (T:Txt K mg cs)
 : Ok P w K mg base "stands" 1 ["glass"] (PSp K qkm):=by
  refine F.vok zabx (by rintro ds q ⟨_,_,h,_⟩;rw [h];rfl) fun f cdv A outer s H E hr ds q h=>?_;obtain ⟨b,R,rfl,h⟩:=h;refine ⟨_,(qg (qt (qu qbx T.len_ L2.boot_len (qc (qh (qa 0) qd) qf)))),?_⟩;refine ⟨_,rfl,?_⟩;have e:(R.map qdg).length=R.length:=by simp
  show q (.int ((R.map qdg).length:Nat));rw [e];exact h
def qgs (ds:List Qh) (q:Qh->Prop):Prop := ∃ b r R,ds=[qL b (r::R)]/\q (.int (r.length:Nat))
def zadn:FnScope ["glass"] ["glass"] (defScope qnx):=sc0
def zacr (F:Def K mg "signs" qnx ["glass"]) (T:Txt K mg cs)
 : Ok P w K mg base "signs" 1 ["glass"] (PSp K qgs):=by
  refine F.vok zadn (by rintro ds q ⟨_,_,_,h,_⟩;rw [h];rfl) fun f cdv A outer s H E hr ds q h=>?_;obtain ⟨b,r,R,rfl,h⟩:=h;refine ⟨_,(qg (qt (qu qbx T.len_ L2.boot_len (qc (qh (qh (qa 0) qd) qd) qf)))),?_⟩;refine ⟨_,rfl,_,qgx _ _,?_⟩;have e:(r.map Q2).length=r.length:=by simp
  show q (.int ((r.map Q2).length:Nat));rw [e];exact h
def qhm (ds:List Qh) (q:List Qh->Prop):Prop := ∃ (d:Qh) (R:List (List Int)) (k:Nat),ds=[d,.int k]/\(RowsD d R/\R.length<=900 /\ ∀ r ∈ R,k<r.length)/\q ((qB R k).map .int)
def zaak:FnScope ["rows","place"] ["rows","place"] (defScope qjt):=sc0
def zaaj (F:Def K mg "column" qjt ["rows","place"]) (T:Txt K mg cs)
 : Ok P w K mg base "column" 1 ["rows","place"] (FSp K qhm):=by
  refine F.vokF zaak (by rintro ds q ⟨_,_,_,h,_⟩;rw [h];rfl) fun f cdv A outer s H E hr ds q h=>?_;obtain ⟨d,R,k,rfl,⟨hR,hl,hk⟩,h⟩:=h;refine ⟨_,(qg (zaaa (qaa (caps:=["place"]) (own:=["row"]) (ix:=[1]) rfl ⟨rfl,rfl,rfl,rfl,rfl,rfl⟩ (qG (qa 0)) (fun _ _ _ _=>(qo (i:=1) (show Z7 (["place","row"]:List Str) by decide))) (fun _ _ _ _=>(qh (qa 1) (qa 0)))))),?_⟩;obtain ⟨l,e,_⟩:=id hR;refine qao e (qN ((qB R k).map .int) (by simp [qB,hR.len e]) (qj (by simp [qB];omega)) (fun e => ∃ s,e=[.val (.int k),s]) ⟨_,rfl⟩ ?_ ?_)
  ·rintro i x ys e' hx hys ⟨s,rfl⟩;obtain ⟨r,hr,er⟩:=hR.get e hx;have hk':=hk r (qee hr);have hx:=Qc hk';refine qyz er (qbl (by rw [Qa,hx];rfl)) ⟨qw ?_ hys,_,rfl⟩;rw [Qa,qzj hr hx];rfl
  ·exact ⟨_,rfl,h⟩
def qcb (ds:List Qh) (q:Qh->Prop):Prop := ∃ d R,ds=[d]/\RowsD d R/\q (.int (qE R))
def qal:FnScope ["rows","common","row","number"] ["rows"] (defScope qbj):=sc0
def qit (F:Def K mg "common_divisor" qbj ["rows"]) (T:Txt K mg cs)
 (O_divisor:Ok P w K mg base "divisor" 1 ["one","other"] (PSp K qcw))
 : Ok P w K mg base "common_divisor" 2 ["rows"] (PSp K qcb):=by
  refine F.vok qal (by rintro ds q ⟨_,_,h,_⟩;rw [h];rfl) fun f cdv A outer s H E hr ds q h=>?_;obtain ⟨d,R,rfl,hR,h⟩:=h;refine ⟨_,(qe (ql (i:=1) qal.nd qd)
   (qe (qab rfl (qG (qa 0)) (qo (i:=2) qal.nd) (qg (qab rfl (qG (qa 2)) (qo (i:=3) qal.nd) (qg (ql (i:=1) qal.nd (qr O_divisor.c hr.m (qc (qa 1) (qc (qa 3) qf))))))))
   (qg (qt (qa 1))))),?_⟩
  obtain ⟨l,e,_⟩:=id hR;refine qao e ⟨fun i e => ∃ t1 t2 c,e=[.val d,.val (.int c),t1,t2]/\c=(qE (R.take i):Int),⟨_,_,_,rfl,rfl⟩,?_,?_⟩
  ·rintro i x e' hx ⟨t1,t2,_,rfl,rfl⟩;obtain ⟨r,hr,er⟩:=hR.get e hx;refine qao er ⟨fun j e => ∃ t2 c,e=[.val d,.val (.int c),.val x,t2]/\c=(qax (qE (R.take i)) (r.take j):Int),⟨_,_,rfl,rfl⟩,?_,?_⟩
   ·rintro j y e hy ⟨t2,_,rfl,rfl⟩;obtain ⟨z,rfl,hz,_⟩:=qgi hy;refine ⟨_,_,rfl,?_⟩;rw [qhl hz,qqi]
   ·rintro e ⟨t2,_,rfl,rfl⟩;refine ⟨_,_,_,rfl,?_⟩;rw [Qe,Zl,Zs,hr];show _=((qE (R.take i++[r]):Nat):Int);rw [qnl]
  ·rintro e' ⟨t1,t2,_,rfl,rfl⟩;rw [hR.len e,Zl];exact h
def qil (ds:List Qh) (q:Qh->Prop):Prop := ∃ (d:Qh) (r:List Int) (g:Int),ds=[d,.int g]/\(qfb d=some (r.map .int)/\r.length<=900/\0<g/\intBits g<=9000)/\q (qdg (r.map fun n=>n/g))
def qwm:FnScope ["row","common"] ["row","common"] (defScope qhc):=sc0
def qxh (F:Def K mg "divided" qhc ["row","common"]) (T:Txt K mg cs)
 : Ok P w K mg base "divided" 1 ["row","common"] (qqb K qil):=by
  refine F.vokN qwm (by rintro ds q ⟨_,_,_,h,_⟩;rw [h];rfl) fun f cdv A outer s H E hr ds q h=>?_;obtain ⟨d,r,g,rfl,⟨e,hl,g0,g1⟩,h⟩:=h;refine ⟨_,(qg (zaif (zahz T.tuple_ (qy (qaa (caps:=["common"]) (own:=["number"]) (ix:=[1]) rfl ⟨rfl,rfl,rfl,rfl,rfl,rfl⟩ (qG (qa 0)) (fun _ _ _ _=>(qo (i:=1) (show Z7 (["common","number"]:List Str) by decide))) (fun _ _ _ _=>(qm qjo (qa 1) (qa 0)))))))),?_⟩;refine qao e (qN ((r.map fun n=>n/g).map .int) (by simp) (qj (by simp;omega)) (fun e => ∃ s,e=[.val (.int g),s]) ⟨_,rfl⟩ ?_ ?_)
  ·rintro i x ys e hx hys ⟨s,rfl⟩;obtain ⟨z,rfl,hz,_⟩:=qgi hx;refine ⟨⟨g0,g1⟩,qw ?_ hys,_,rfl⟩;rw [Qa,Qa,hz];rfl
  ·exact ⟨Z8.mpr fun x hx=>by obtain ⟨n,_,rfl⟩:=Ql.mp hx;rfl,_,rfl,h⟩
def qfr (ds:List Qh) (q:Qh->Prop):Prop := ∃ (b:Int) (d:Qh) (R:List (List Int)) (n:Nat),ds=[.int b,d]/\(RowsD d R/\Tab b R n/\R≠[]/\R.length<=900/\n<=900/\intBits b<=9000)/\q (qL (b/qE R) (qaw R (qE R)))
def zafh {g b:Int}{m:Nat} (hb:0<b) (h:g∣b) (hz:intBits b<=m):intBits g<=m:=by
 refine Yj ?_ hz;exact Qcv (by omega) (Vm.mpr h)
def qgf:FnScope ["bottom","rows","common"] ["bottom","rows"] (defScope qch):=sc0
def qma (F:Def K mg "lowest_table" qch ["bottom","rows"]) (T:Txt K mg cs)
 (O_common_divisor:Ok P w K mg base "common_divisor" 2 ["rows"] (PSp K qcb))
 (O_divided:Ok P w K mg base "divided" 1 ["row","common"] (qqb K qil))
 : Ok P w K mg base "lowest_table" 3 ["bottom","rows"] (PSp K qfr):=by
  refine F.vok qgf (by rintro ds q ⟨_,_,_,_,h,_⟩;rw [h];rfl) fun f cdv A outer s H E hr ds q h=>?_;obtain ⟨b,d,R,n,rfl,⟨hR,hT,hn,hl,hn2,hz⟩,h⟩:=h;refine ⟨_,(qe (ql (i:=2) qgf.nd (qr O_common_divisor.c hr.m (qc (qa 1) qf)))
   (qg (qt (qat (qc (qm qjo (qa 0) (qa 2)) (qc (qdd qgj T.tuple_ L2.boot_tuple (qc (qy (qaa (caps:=["common"]) (own:=["row"]) (ix:=[2]) rfl ⟨rfl,rfl,rfl,rfl,rfl,rfl⟩ (qG (qa 1)) (fun _ _ _ _=>(qo (i:=1) (show Z7 (["common","row"]:List Str) by decide))) (fun _ _ _ _=>(vn_e (zakw O_divided.c hr.m (qc (qa 1) (qc (qa 0) qf))))))) qf)) qf)))))),?_⟩
  have g0:=hT.gpos hn;have g1:intBits (qE R:Int)<=9000:=zafh (by have:=hT.pos;omega) (hT.gdvd hn) hz;refine ⟨d,R,rfl,hR,⟨by omega,g1⟩,?_⟩;obtain ⟨l,e,_⟩:=id hR;refine qao e (qN ((qaw R (qE R)).map qdg) (by unfold qaw;simp [hR.len e]) (qj (by unfold qaw;simp;omega)) (fun e => ∃ s,e=[.val (.int (qE R)),s]) ⟨_,rfl⟩ ?_ ⟨szl,h⟩);rintro i x ys e' hx hys ⟨s,rfl⟩;obtain ⟨r,hr,er⟩:=hR.get e hx;refine ⟨x,r,qE R,rfl,⟨er,by rw [hT.len r (qee hr)];exact hn2,by omega,g1⟩,qw ?_ hys,_,rfl⟩;unfold qaw;rw [Qa,Qa,hr];rfl
def qgn (ds:List Qh) (q:Qh->Prop):Prop := ∃ (d:Qh) (r:List (Int×Int)) (B:Int),ds=[d,.int B]/\(qfb d=some (r.map dS)/\r.length<=900/\(∀ x ∈ r,Shr x.1 x.2/\intBits x.1<=4000/\x.2∣B)/\0<B/\intBits B<=4000)/\q (qdg (qci B r))
def qmt:FnScope ["row","bottom"] ["row","bottom"] (defScope qcx):=sc0
def qmr (F:Def K mg "over_bottom" qcx ["row","bottom"]) (T:Txt K mg cs)
 : Ok P w K mg base "over_bottom" 1 ["row","bottom"] (PSp K qgn):=by
  refine F.vok qmt (by rintro ds q ⟨_,_,_,h,_⟩;rw [h];rfl) fun f cdv A outer s H E hr ds q h=>?_;obtain ⟨d,r,B,rfl,⟨e,hl,hx,B0,zB⟩,h⟩:=h;refine ⟨_,(qg (qt (qdd qgj T.tuple_ L2.boot_tuple (qc (qy (qaa (caps:=["bottom"]) (own:=["part"]) (ix:=[1]) rfl ⟨rfl,rfl,rfl,rfl,rfl,rfl⟩ (qG (qa 0)) (fun _ _ _ _=>(qo (i:=1) (show Z7 (["bottom","part"]:List Str) by decide))) (fun _ _ _ _=>(qm qC (qh (qa 1) qd) (qm qjo (qa 0) (qh (qa 1) qd)))))) qf)))),?_⟩;refine qao e (qN ((qci B r).map .int) (by simp [qci]) (qj (by simp [qci];omega)) (fun e => ∃ s,e=[.val (.int B),s]) ⟨_,rfl⟩ ?_ h);rintro i x ys e hx' hys ⟨s,rfl⟩;obtain ⟨y,hy,rfl⟩:=shG hx';obtain ⟨s1,s2,s3⟩:=hx y (Qf hy);have q0:=s1.pos;refine ⟨.int y.1,rfl,.int y.2,rfl,⟨by omega,qi (dvdB s3 B0 zB) (by decide)⟩,qak s2 (dvdB (x:=B/y.2) ⟨y.2,(Int.ediv_mul_cancel s3).symm⟩ B0 zB),qw ?_ hys,_,rfl⟩;unfold qci;rw [Qa,Qa,hy];rfl
def qea (ds:List Qh) (q:Qh->Prop):Prop := ∃ (d:Qh) (V:List (List (Int×Int))) (D0:Int),ds=[d]/\(zaqv d V/\V.length<=900/\(∀ r ∈ V,r.length<=900 /\ ∀ x ∈ r,Shr x.1 x.2/\intBits x.1<=4000/\x.2∣D0)/\0<D0/\intBits D0<=4000) /\ ∀ B,LcmB V B->q (qL B (V.map (qci B)))
def qah:FnScope ["rows","bottom","row","part"] ["rows"] (defScope qbd):=sc0
def qii (F:Def K mg "table_of_shares" qbd ["rows"]) (T:Txt K mg cs)
 (O_divisor:Ok P w K mg base "divisor" 1 ["one","other"] (PSp K qcw))
 (O_over_bottom:Ok P w K mg base "over_bottom" 1 ["row","bottom"] (PSp K qgn))
 : Ok P w K mg base "table_of_shares" 2 ["rows"] (PSp K qea):=by
  refine F.vok qah (by rintro ds q ⟨_,_,_,h,_⟩;rw [h];rfl) fun f cdv A outer s H E hr ds q h=>?_;obtain ⟨d,V,D0,rfl,⟨⟨l,e,el,hV⟩,hl,hx,d0,zd⟩,h⟩:=h;refine ⟨_,(qe (ql (i:=1) qah.nd qd)
   (qe (qab rfl (qG (qa 0)) (qo (i:=2) qah.nd) (qg (qab rfl (qG (qa 2)) (qo (i:=3) qah.nd) (qg (ql (i:=1) qah.nd (qm qjo (qm qC (qa 1) (qh (qa 3) qd)) (qr O_divisor.c hr.m (qc (qa 1) (qc (qh (qa 3) qd) qf)))))))))
   (qg (qt (qat (qc (qa 1) (qc (qdd qgj T.tuple_ L2.boot_tuple (qc (qy (qaa (caps:=["bottom"]) (own:=["row"]) (ix:=[1]) rfl ⟨rfl,rfl,rfl,rfl,rfl,rfl⟩ (qG (qa 0)) (fun _ _ _ _=>(qo (i:=1) (show Z7 (["bottom","row"]:List Str) by decide))) (fun _ _ _ _=>(qr O_over_bottom.c hr.m (qc (qa 1) (qc (qa 0) qf)))))) qf)) qf))))))),?_⟩
  refine qao e ⟨fun i e => ∃ t1 t2 B,e=[.val d,.val (.int B),t1,t2]/\LcmL (V.take i).flatten B/\B∣D0,⟨_,_,_,rfl,by simpa using LcmL.nil,⟨D0,by omega⟩⟩,?_,?_⟩
  ·rintro i x e' hxi ⟨t1,t2,B,rfl,hB,Bd⟩;obtain ⟨r,hr,er⟩:=hV i x hxi;refine qao er ⟨fun j e => ∃ t2 B,e=[.val d,.val (.int B),.val x,t2]/\LcmL ((V.take i).flatten++r.take j) B/\B∣D0,⟨_,_,rfl,by simpa using hB,Bd⟩,?_,?_⟩
   ·rintro j y e hy ⟨t2,B,rfl,hB,Bd⟩;obtain ⟨z,hz,rfl⟩:=shG hy;obtain ⟨s1,s2,s3⟩:=(hx r (Qf hr)).2 z (Qf hz);have q0:=s1.pos;have B0:=hB.pos;have gp:(0:Int)<(Yq B z.2:Nat):=by have:=Qcu B (show z.2≠0 by omega);omega
    refine ⟨.int z.2,rfl,qak (dvdB Bd d0 zd) (dvdB s3 d0 zd),.int z.2,rfl,⟨gp,qi (dvdB (Jp (Qip ..) Bd) d0 zd) (by decide)⟩,_,_,rfl,?_,(qog B0 (show 0<z.2 by omega) Bd s3).2.1⟩;rw [zaqb hz,<- Qhp];exact hB.snoc (by omega)
   ·rintro e ⟨t2,B,rfl,hB,Bd⟩;refine ⟨_,_,_,rfl,?_,Bd⟩;rw [Qe,Zl] at hB;rw [zapj hr];exact hB
  rintro e' ⟨t1,t2,B,rfl,hB,Bd⟩;rw [el,Zl] at hB;have hB':=hB.b;have B0:=hB.pos;have zB:=dvdB Bd d0 zd;refine qao e (qN ((V.map (qci B)).map qdg) (by simp [el]) (qj (by simp;omega)) (fun e => ∃ s,e=[.val (.int B),s]) ⟨_,rfl⟩ ?_ ⟨szl,h B hB'⟩);rintro i x ys e' hxi hys ⟨s,rfl⟩;obtain ⟨r,hr,er⟩:=hV i x hxi;obtain ⟨rl,rx⟩:=hx r (Qf hr);refine ⟨x,r,B,rfl,⟨er,rl,fun y hy=>⟨(rx y hy).1,(rx y hy).2.1,hB'.dv r (Qf hr) y hy⟩,B0,zB⟩,qw ?_ hys,_,rfl⟩;rw [Qa,Qa,hr];rfl
def qhz (p n:Nat):List Int:=(Qx n).map fun k=>if k=p then 1 else 0
def qle (ds:List Qh) (q:Qh->Prop):Prop := ∃ p n:Nat,ds=[.int p,.int n]/\n<=900/\q (qdg (qhz p n))
def qup:FnScope ["place","many"] ["place","many"] (defScope qfp):=sc0
def qug (F:Def K mg "one_sign" qfp ["place","many"]) (T:Txt K mg cs)
 : Ok P w K mg base "one_sign" 1 ["place","many"] (PSp K qle):=by
  refine F.vok qup (by rintro ds q ⟨_,_,h,_⟩;rw [h];rfl) fun f cdv A outer s H E hr ds q h=>?_;obtain ⟨p,n,rfl,hn,h⟩:=h;refine ⟨_,(qg (qt (qdd qgj T.tuple_ L2.boot_tuple (qc (qy (qaa (caps:=["place"]) (own:=["sign"]) (ix:=[0]) rfl ⟨rfl,rfl,rfl,rfl,rfl,rfl⟩ (qai T.range_ (qa 1)) (fun _ _ _ _=>(qo (i:=1) (show Z7 (["place","sign"]:List Str) by decide))) (fun _ _ _ _=>(qvp (qO (quz hr.units) (qa 1) (qa 0)) qd qd)))) qf)))),?_⟩;refine ⟨⟨by omega,by omega⟩,qN ((qhz p n).map .int) (by unfold qhz;simp [qP]) (qj (by unfold qhz;simp;omega)) (fun e => ∃ s,e=[.val (.int p),s]) ⟨_,rfl⟩ ?_ h⟩;rintro i x ys e hx hys ⟨s,rfl⟩;obtain ⟨hi,rfl⟩:=qan hx;have hi':i<n:=by omega
  refine ⟨rfl,rfl,qmd (fun z=>?_) (fun z=>?_)⟩
  ·refine ⟨qw ?_ hys,_,rfl⟩;unfold qhz;rw [Qa,Qa,Q5 hi'];have:i=p:=by omega
   simp [this]
  ·refine ⟨qw ?_ hys,_,rfl⟩;unfold qhz;rw [Qa,Qa,Q5 hi'];have : ¬ i=p:=by omega
   simp [this]
def qcq (ds:List Qh) (q:Qh->Prop):Prop := ∃ (d g:Qh) (r:List Int) (G:List Nat),ds=[d,g]/\(qfb d=some (r.map .int)/\qfb g=some (sgD G)/\G.length<=900 /\ ∀ i ∈ G,i<r.length)/\q (.int (qcm r G))
def qke:FnScope ["row","group"] ["row","group"] (defScope qbv):=sc0
def qkf (F:Def K mg "joined_number" qbv ["row","group"]) (T:Txt K mg cs)
 : Ok P w K mg base "joined_number" 1 ["row","group"] (PSp K qcq):=by
  refine F.vok qke (by rintro ds q ⟨_,_,_,_,h,_⟩;rw [h];rfl) fun f cdv A outer s H E hr ds q h=>?_;obtain ⟨d,g,r,G,rfl,⟨e1,e2,hl,hk⟩,h⟩:=h;refine ⟨_,(qg (qt (qu (qob rfl) T.sum_ L2.boot_sum (qc (qy (qaa (caps:=["row"]) (own:=["sign"]) (ix:=[0]) rfl ⟨rfl,rfl,rfl,rfl,rfl,rfl⟩ (qG (qa 1)) (fun _ _ _ _=>(qo (i:=1) (show Z7 (["row","sign"]:List Str) by decide))) (fun _ _ _ _=>(qh (qa 0) (qa 1))))) qf)))),?_⟩;refine qao e2 (qN ((G.map fun i=>(r[i]?).getD 0).map .int) (by simp [sgD]) (qj (by simp;omega)) (fun e => ∃ s,e=[.val d,s]) ⟨_,rfl⟩ ?_ ⟨_,rfl,h⟩);rintro i x ys e hx hys ⟨s,rfl⟩;obtain ⟨k,hi,rfl⟩:=zaiw hx;have hk':=hk k (qee hi);have hx:=Qc hk';refine qyz e1 (qbl (by rw [Qa,hx];rfl)) ⟨qw ?_ hys,_,rfl⟩;rw [Qa,Qa,hi];show some (Q2 ((r[k]?).getD 0))=_;rw [hx];rfl
def qcp (ds:List Qh) (q:List Qh->Prop):Prop := ∃ (b:Int) (R:List (List Int)) (g:Qh) (G:List Nat),ds=[qL b R,g]/\(R.length<=900/\qfb g=some (sgD G)/\G.length<=900 /\ ∀ r ∈ R,∀ i ∈ G,i<r.length)/\q ((jc R G).map .int)
def qkh:FnScope ["glass","group"] ["glass","group"] (defScope qbu):=sc0
def qjx (F:Def K mg "joined_column" qbu ["glass","group"]) (T:Txt K mg cs)
 (O_joined_number:Ok P w K mg base "joined_number" 1 ["row","group"] (PSp K qcq))
 : Ok P w K mg base "joined_column" 2 ["glass","group"] (FSp K qcp):=by
  refine F.vokF qkh (by rintro ds q ⟨_,_,_,_,h,_⟩;rw [h];rfl) fun f cdv A outer s H E hr ds q h=>?_;obtain ⟨b,R,g,G,rfl,⟨hR,eg,hl,hk⟩,h⟩:=h;refine ⟨_,(qg (zaaa (qaa (caps:=["group"]) (own:=["row"]) (ix:=[1]) rfl ⟨rfl,rfl,rfl,rfl,rfl,rfl⟩ (qG (qh (qa 0) qd)) (fun _ _ _ _=>(qo (i:=1) (show Z7 (["group","row"]:List Str) by decide))) (fun _ _ _ _=>(qr O_joined_number.c hr.m (qc (qa 1) (qc (qa 0) qf))))))),?_⟩;refine ⟨_,rfl,?_⟩;refine qN ((jc R G).map .int) (by simp [qew]) (qj (by simp [qew];omega)) (fun e => ∃ s,e=[.val g,s]) ⟨_,rfl⟩ ?_ ⟨_,rfl,h⟩;rintro i x ys e hx hys ⟨s,rfl⟩;rw [Qa] at hx;cases er:R[i]? with
  | none=>rw [er] at hx;cases hx
  | some r =>
   rw [er] at hx;cases hx;refine ⟨_,_,r,G,rfl,⟨rfl,eg,hl,hk r (qee er)⟩,qw ?_ hys,_,rfl⟩;unfold jc;rw [Qa,Qa,er];rfl
def qez (ds:List Qh) (q:Qh->Prop):Prop := ∃ (b:Int) (R:List (List Int)) (n:Nat),ds=[qL b R]/\(Tab b R n/\R≠[]/\R.length<=900/\n<=60/\intBits b<=9000) /\ ∀ p,PmN (grs R n).length p->SrtN (qJ (fun i=>jc R (qcl R n i)) R.length) p (grs R n).length->q (.list (grD (p.toList.map fun i=>qcl R n i)))
def zaqu {b:Int}{R:List (List Int)}{n i:Nat} (hT:Tab b R n) (ea:(qB R i).any (· != 0)=true) (bz:intBits b<=9000):0<(qax 0 (qB R i):Int)/\intBits (qax 0 (qB R i):Int)<=9000:=by
 obtain ⟨x,hx,z⟩:=Z9.mp ea;have z:x≠0:=by simpa using z
 have dv:=qfm (qB R i) 0 x hx;have hz:intBits x<=9000:=by
  rcases qrv hx with rfl|⟨r,hr,hx⟩
  ·exact (z rfl).elim
  ·exact hT.bits bz hr hx
 have g0:qax 0 (qB R i)≠0:=fun e=>z (qqm e x hx);refine ⟨by omega,Yj ?_ hz⟩;exact Qcv (by omega) (Vm.mpr dv)
def SgW (R:List (List Int)) (vg:V) (d:Addr) (F0 H0 Fi:Hp) (n i m:Nat) (σ:St) (H:Hp):Prop:=m+i=n /\ ∃ F ks o2 o3 o4,σ=[some vg,some (.ref d),o2,o3,o4]/\Go F0 H0 F H/\Same Fi F/\GrAt H0 F H d ks/\qin ks=grs R i
def qaq:FnScope ["glass","groups","sign","numbers","alone"] ["glass"] (defScope qY):=sc0
def qka (F:DefT K mg "sorted_groups" qY ["glass"] cs.c0) (T:Txt K mg cs) (KB:K.In base)
 (O_signs:Ok P w K mg base "signs" 1 ["glass"] (PSp K qgs))
 (O_column:Ok P w K mg base "column" 1 ["rows","place"] (FSp K qhm))
 (O_common_divisor:Ok P w K mg base "common_divisor" 2 ["rows"] (PSp K qcb))
 (O_divided:Ok P w K mg base "divided" 1 ["row","common"] (qqb K qil))
 (O_joined_column:Ok P w K mg base "joined_column" 2 ["glass","group"] (FSp K qcp))
 : Ok P w K mg base "sorted_groups" 4 ["glass"] (qfq [cs.tb,cs.tb1] (PSp K qez)):=by
  refine F.ok qaq (by rintro vs H Q E ⟨_,F,ds,q,_,i,⟨_,_,_,h,_⟩,_⟩;rw [i.len,h];rfl) fun f A outer s H vs Q E hr h=>?_;obtain ⟨tss,F0,ds,q,sm,hi,⟨b,R,n,rfl,⟨hT,hR,hl,n9,bz⟩,hq⟩,kk⟩:=h;have ts:TbS cs.tb H:=tss _ (by simp);have ho:=zake hT.nn n;obtain ⟨hu1,hu2,hd2⟩:=hr.sort;refine ⟨_,qeg (qjg (i:=1) qaq.nd rfl (by first|exact V1 rfl|exact Va rfl) zaes) (qeg (qya Qfd rfl (VI.pi (qai T.range_ (qr O_signs.c hr.m (qc (qa 0) qf)))) (qzf (i:=2) qaq.nd rfl (by first|exact V1 rfl|exact Va rfl) (by first|exact .inl rfl|exact .inr rfl)) (qeg (qjg (i:=3) qaq.nd rfl (by first|exact V1 rfl|exact Va rfl) (VE.pe (qy (qfc O_column.c hr.m (qc (qh (qa 0) qd) (qc (qa 2) qf)))))) (qjz (zagu (VT.pt (qS (qu (zanu rfl) T.any_ L2.boot_any (qc (qa 3) qf)))) (qeg (qjg (i:=4) qaq.nd rfl (by first|exact V1 rfl|exact Va rfl) (VN.pe (zakw O_divided.c hr.m (qc (qa 3) (qc (qr O_common_divisor.c hr.m (qc (qy (qR (qc (qa 3) qf))) qf)) qf))))) (qjz (qnm
   (qqk (qww hu1 (pv 1) (pv 4) (zafn qeu) ⟨rfl,rfl,rfl,rfl⟩)
    (pv 2))))) qyt))))
   (qjz (qmf (qwo (tb:=cs.tb) (c0:=cs.c0) (ig:=1) (iy:=0) (x := "group") (y := "glass") hu2 hr.hd hd2 ts rfl (qqh KB T.tab_h) (qzn KB T.bm_ T.bm_h) rfl T.sorted_ (pv 1)
    ⟨rfl,rfl,rfl,rfl,rfl,by decide,by decide +kernel,qqy (by decide +kernel)⟩ rfl rfl rfl rfl (fun _ _ _ _ _ _=>rfl) (fun q f c s H=>zace O_joined_column.c (hr.lam _) (qav (qey (i:=1) rfl (Va (Va rfl)) (by decide) (by decide)) (qav (qey (i:=0) rfl (V1 rfl) (by decide) (by decide)) qeu))))))),?_⟩
  obtain ⟨r0,R0,eR⟩:=Zq hR;have l0:r0.length=n:=hT.len r0 (by rw [eR];simp);obtain ⟨vg,rfl,ig⟩:=qky hi;refine fun d hd=>?_;have g0:Go F0 H F0 (upd H d (.dT [])):=Go.side sm hd;have gr0:GrAt H F0 (upd H d (.dT [])) d []:=⟨qp,qK sm hd,hd,fun x hx=>(by cases hx),fun x hx=>(by cases hx),fun x hx=>(by cases hx),fun x hx=>(by cases hx),Qds,Qds⟩
  have hE:EnvOk K ⟨upd H d (.dT []),upd H d (.dT []),F0⟩ F0 (upd H d (.dT [])) [.val (qL b R),.non,.non,.non,.non] [some vg,some (.ref d),none,none,none] :=
   qpj g0.fh ⟨_,_,rfl,⟨⟨vg,rfl,ig⟩,rfl⟩,_,_,rfl,⟨trivial,rfl⟩,_,_,rfl,⟨trivial,rfl⟩,_,_,rfl,⟨trivial,rfl⟩,_,_,rfl,⟨trivial,rfl⟩,rfl⟩
  refine ⟨⟨upd H d (.dT []),upd H d (.dT []),F0⟩,_,F0,fun ds e=>ds=qsf 0 n/\e=[.val (qL b R),.non,.non,.non,.non],hE,?_,fun ds J F1 H1 e1 I1 s1 hJ q1=>?_⟩
  ·refine ⟨b,r0,R0,by rw [eR],?_⟩;rw [l0];exact ⟨⟨by omega,by omega⟩,rfl,rfl⟩
  obtain ⟨rfl,rfl⟩:=q1;have g1:=g0.trans I1.goOf;refine ⟨SgW R vg d F0 H F1 n,⟨n,by omega,F1,[],none,none,none,rfl,g1,.refl _,gr0.go I1.goOf,rfl⟩,?_⟩;rintro i m σ H2 ⟨him,F2,ks,o2,o3,o4,rfl,g2,s2,gr,es⟩;by_cases hin:i=n
  ·left;subst hin;refine ⟨by have:=hJ.stop H2 (s2.trans g2.fh);rwa [qP] at this,?_⟩;clear hJ I1 s1 g1;have len:ks.length=(grs R i).length:=by rw [<- es];unfold qin;rw [Qe]
   have lenV:((ks.map qkv).map (·.2)).length=(grs R i).length:=by rw [Qe,Qe,len]
   have at_ : ∀ {j:Nat}{x:Grp},ks[j]?=some x->qcl R i j=x.2.2:=fun {j x} e=>by
    unfold qcl;rw [<- es];unfold qin;rw [Qa,e];rfl
   have inG : ∀ x ∈ ks,x.2.2.length<=i /\ ∀ s ∈ x.2.2,s<i:=fun x hx=>by
    have z:(x.1,x.2.2) ∈ grs R i:=by rw [<- es];exact Ql.mpr ⟨x,hx,rfl⟩
    exact ⟨qmj R i _ z,qmh R i _ z⟩
   have ht0:H cs.tb≠none:=by obtain ⟨ps,e,_⟩:=ts;rw [e];exact fun z=>by cases z
   have tbl : ∀ x ∈ ks,x.2.1≠cs.tb:=fun x hx z=>ht0 (z ▸ gr.nl x hx);refine ⟨d,ks.map qkv,vg,fun j=>jc R (qcl R i j),R.length,⟨rfl,rfl,gr.hd,?_⟩,?_,fun j _=>qew _ _,fun H3 go gs=>?_⟩
   ·rw [Qe,len];have:=qmz R i;omega
   ·rw [lenV];exact ho
   refine ⟨fun H'=>Same F2 H' /\ ∀ x ∈ ks,H' x.2.1=some (.lst (grL x.2.2)),⟨g2.fh.trans gs,fun x hx=>go.h _ _ (tbl x hx) (gr.hl x hx)⟩,fun j v H4 ev gg=>?_,fun p l H4 hp hs sm4 gg nl4 nl2=>?_⟩
   ·obtain ⟨sF,sL⟩:=gg;rw [Qa,Qa] at ev;cases ek:ks[j]? with
    | none=>rw [ek] at ev;cases ev
    | some x =>
     rw [ek] at ev;cases ev;have xm:=Qf ek;have hx:=inG x xm;refine ⟨vg,rfl,_,rfl,FL F2 H4 ks,[qL b R,.list (sgD x.2.2)],fun l=>l=(jc R x.2.2).map .int,FL.fh sF,qap ((ig.mono g2.f).mono (FL.le gr.fl)) (qap (qfj (SqL.of (FL.at xm (sL x xm))) (qyj _)) qay),⟨b,R,_,x.2.2,rfl,⟨hl,rfl,by omega,fun r hr s hs=>by rw [hT.len r hr];exact hx.2 s hs⟩,rfl⟩,?_⟩;rintro l a xs F5 H5 g5 na fa ha hx5 rfl;have e5:=hx5.ints_inv;subst e5;refine ⟨g5.h,⟨sF.trans g5.h,fun y hy=>g5.h.at (sL y hy)⟩,a,rfl,?_⟩;show H5 a=some (.lst ((jc R (qcl R i j)).map V.int));rw [at_ ek];exact ha
   ·obtain ⟨sF,sL⟩:=gg;have nl0:H l=none:=qK g2.h nl2;rw [lenV] at hp hs;have ltb:cs.tb≠l:=fun z=>ht0 (z ▸ nl0);have fl0:FL F2 H4 ks l=none:=by
     cases e:FL F2 H4 ks l with
     | none=>rfl
     | some o =>
      obtain ⟨_,this⟩:=(FL.fh (ks:=ks) sF).any e;rw [nl4] at this;cases this
    have key : ∀ js:List Nat,(∀ j ∈ js,j<ks.length) -> ∀ ys,Iss K (upd (FL F2 H4 ks) l (.lst ys)) (grD (js.map fun j=>qcl R i j)) (js.map fun j=>((ks.map qkv).map (·.2)).getD j .non):=by
     intro js
     induction js with
     | nil=>intro _ _;exact qay
     | cons j js ih =>
      intro hj ys;obtain ⟨x,ej⟩ : ∃ x,ks[j]?=some x:=⟨_,Qc (hj j (by simp))⟩
      have xm:=Qf ej;have e1:((ks.map qkv).map (·.2)).getD j V.non = .ref x.2.1:=by
       rw [Q7,Qa,Qa,ej];rfl
      have ne:x.2.1≠l:=fun z=>by have:=sL _ xm;rw [z,nl4] at this;cases this
      show Iss K _ (Qkm (sgD (qcl R i j))::grD (js.map fun j=>qcl R i j)) (((ks.map qkv).map (·.2)).getD j V.non::_);rw [e1,at_ ej];exact qap (qfj (SqL.of (by rw [qk ne];exact FL.at xm (sL _ xm))) (qyj _)) (ih (fun k hk=>hj k (Qm _ hk)) ys)
    refine kk (.list (grD (p.toList.map fun j=>qcl R i j))) (.ref l) (upd (FL F2 H4 ks) l (.lst (p.toList.map fun j=>((ks.map qkv).map (·.2)).getD j .non))) _ ⟨(g2.f.trans (FL.le gr.fl)).trans (qau fl0),((g2.h.trans gs).trans sm4).trans (qau nl4),fun c o e=>?_,fun c o e=>?_⟩ (qfj (SqL.of qp) (key _ (fun j hj=>?_) _)) (hq p hp hs)
    ·by_cases z:c=l
     ·subst z;rw [qp] at e;rw [qp];exact .of e
     ·rw [qk z] at e;rw [qk z];exact FL.fh sF c o e
    ·by_cases z:c=l
     ·rw [z];exact .inr nl0
     ·rw [qk z] at e;unfold FL at e;split at e
      ·rename_i zz;obtain ⟨x,hx,rfl⟩:=Ql.mp zz;exact .inr (gr.nl x hx)
      ·exact g2.new c o e
    ·rw [len];exact Zp.mp (hp.p.mem_iff.mp hj)
  have hin':i<n:=by omega
  right;refine ⟨hJ.go i H2 (s2.trans g2.fh) (by rw [qP];exact hin'),fun σ' H' => ∃ m',m'<m/\SgW R vg d F0 H F1 n (i+1) m' σ' H',fun _ _ z=>z,fun x H3 hy=>?_⟩;obtain ⟨dx,F3,ex,g3,ix⟩:=hJ.yld i H2 x H3 F2 s2 g2.fh (by rw [qP];exact hin') hy;obtain ⟨_,rfl⟩:=qan ex;rw [Vc] at ix;obtain rfl:=ix.int_inv;have gr3:=gr.go g3;have g23:=g2.trans g3;have s3:=s2.trans g3.f;clear g2 g3 gr s2 hy;have hE:EnvOk K ⟨H3,H3,F3⟩ F3 H3 [.val (qL b R),.non,.val (.int i),.non,.non] [some vg,some (.ref d),some (.int i),o3,o4] :=
   qpj g23.fh ⟨_,_,rfl,⟨⟨vg,rfl,ig.mono g23.f⟩,rfl⟩,_,_,rfl,⟨trivial,rfl⟩,_,_,rfl,⟨⟨_,rfl,qad _⟩,rfl⟩,_,_,rfl,⟨trivial,rfl⟩,_,_,rfl,⟨trivial,rfl⟩,rfl⟩
  refine ⟨⟨H3,H3,F3⟩,_,F3,fun dd e=>dd = .list ((qB R i).map .int)/\e=[.val (qL b R),.non,.val (.int i),.non,.non],hE,?_,fun dd v3 F4 H4 e4 I4 s4 i4 q4=>?_⟩
  ·exact ⟨_,rfl,_,R,i,rfl,⟨qfe _,hl,fun r hr=>by rw [hT.len r hr];exact hin'⟩,rfl,rfl⟩
  obtain ⟨rfl,rfl⟩:=q4;have g4:=I4.goOf;have gr4:=gr3.go g4;have g24:=g23.trans g4;have s24:=s3.trans g4.f;clear g23 gr3 s3 hE I4 g4;have hE:EnvOk K ⟨H4,H4,F4⟩ F4 H4 [.val (qL b R),.non,.val (.int i),.val (.list ((qB R i).map .int)),.non] [some vg,some (.ref d),some (.int i),some v3,o4] :=
   qpj g24.fh ⟨_,_,rfl,⟨⟨vg,rfl,ig.mono g24.f⟩,rfl⟩,_,_,rfl,⟨trivial,rfl⟩,_,_,rfl,⟨⟨_,rfl,qad _⟩,rfl⟩,_,_,rfl,⟨⟨_,rfl,i4⟩,rfl⟩,_,_,rfl,⟨trivial,rfl⟩,rfl⟩
  refine ⟨⟨H4,H4,F4⟩,_,F4,fun bb e=>bb=(qB R i).any (· != 0)/\e=[.val (qL b R),.non,.val (.int i),.val (.list ((qB R i).map .int)),.non],hE,?_,fun bb F5 H5 e5 I5 s5 q5=>?_⟩
  ·exact ⟨_,rfl,rfl,rfl⟩
  obtain ⟨rfl,rfl⟩:=q5;have g5:=I5.goOf;have gr5:=gr4.go g5;have g25:=g24.trans g5;have s25:=s24.trans g5.f;have i5:=i4.mono g5.f;clear g24 gr4 s24 hE I5 g5 i4;cases ea:(qB R i).any (· != 0) with
  | false =>
   refine ⟨m-1,by omega,by omega,F5,ks,_,_,_,rfl,g25,s25,gr5,?_⟩;rw [es];show _=if (qB R i).any (· != 0)=true then _ else _
   rw [ea];rfl
  | true =>
   obtain ⟨gp,gz⟩:=zaqu hT ea bz;have hE:EnvOk K ⟨H5,H5,F5⟩ F5 H5 [.val (qL b R),.non,.val (.int i),.val (.list ((qB R i).map .int)),.non] [some vg,some (.ref d),some (.int i),some v3,o4] :=
    qpj g25.fh ⟨_,_,rfl,⟨⟨vg,rfl,ig.mono g25.f⟩,rfl⟩,_,_,rfl,⟨trivial,rfl⟩,_,_,rfl,⟨⟨_,rfl,qad _⟩,rfl⟩,_,_,rfl,⟨⟨_,rfl,i5⟩,rfl⟩,_,_,rfl,⟨trivial,rfl⟩,rfl⟩
   refine ⟨⟨H5,H5,F5⟩,_,F5,fun dd e=>dd=qdg (nrm (qB R i))/\e=[.val (qL b R),.non,.val (.int i),.val (.list ((qB R i).map .int)),.non],hE,?_,fun dd v4 F6 H6 e6 I6 s6 i6 q6=>?_⟩
   ·have eg:qE [qB R i]=qax 0 (qB R i):=rfl;refine ⟨by simp [Z0],_,[qB R i],rfl,qbz [qB R i],?_⟩;exact ⟨_,qB R i,_,rfl,⟨rfl,by rw [qzy];exact hl,gp,gz⟩,rfl,rfl⟩
   obtain ⟨rfl,rfl⟩:=q6;have g6:=I6.goOf;have gr6:=gr5.go g6;have g26:=g25.trans g6;unfold qdg IsN at i6;obtain ⟨b4,xs4,rfl,hb4,hx4⟩:=i6;have hb4:=qho.at hb4;have ex4:xs4=(nrm (qB R i)).map V.int:=(IssN.is qho hx4).ints_inv;subst ex4;refine zamh (s:=i) g26 gr6 rfl rfl rfl hb4 ?_ ?_ fun p H' g' gr'=>⟨m-1,by omega,by omega,F6,_,_,_,_,rfl,g',s25.trans g6.f,gr',?_⟩
   ·have:(qin ks).length=ks.length:=by unfold qin;rw [Qe]
    have:=qmz R i;rw [<- es] at this;omega
   ·intro x hx;have:(x.1,x.2.2) ∈ grs R i:=by rw [<- es];exact Ql.mpr ⟨x,hx,rfl⟩
    have:=qmj R i _ this;show x.2.2.length<900;have:x.2.2.length<=i:=this;omega
   ·rw [zabv,es];show _=if (qB R i).any (· != 0)=true then _ else _
    rw [ea];rfl
def qek (ds:List Qh) (q:Qh->Prop):Prop := ∃ (d:Qh) (r:List Int) (Gs:List (List Nat)),ds=[d,.list (grD Gs)]/\(qfb d=some (r.map .int)/\Gs.length<=900 /\ ∀ G ∈ Gs,G.length<=900 /\ ∀ i ∈ G,i<r.length)/\q (.list ((Gs.map fun G=>qcm r G).map .int))
def qix:FnScope ["row","groups"] ["row","groups"] (defScope qbk):=sc0
def qiu (F:Def K mg "joined_numbers" qbk ["row","groups"]) (T:Txt K mg cs)
 (O_joined_number:Ok P w K mg base "joined_number" 1 ["row","group"] (PSp K qcq))
 : Ok P w K mg base "joined_numbers" 2 ["row","groups"] (PSp K qek):=by
  refine F.vok qix (by rintro ds q ⟨_,_,_,h,_⟩;rw [h];rfl) fun f cdv A outer s H E hr ds q h=>?_;obtain ⟨d,r,Gs,rfl,⟨e1,hl,hk⟩,h⟩:=h;refine ⟨_,(qg (qt (qy (qaa (caps:=["row"]) (own:=["group"]) (ix:=[0]) rfl ⟨rfl,rfl,rfl,rfl,rfl,rfl⟩ (qG (qa 1)) (fun _ _ _ _=>(qo (i:=1) (show Z7 (["row","group"]:List Str) by decide))) (fun _ _ _ _=>(qr O_joined_number.c hr.m (qc (qa 0) (qc (qa 1) qf)))))))),?_⟩;refine qN ((Gs.map fun G=>qcm r G).map .int) (by simp [grD]) (qj (by simp;omega)) (fun e => ∃ s,e=[.val d,s]) ⟨_,rfl⟩ ?_ h;rintro i x ys e hx hys ⟨s,rfl⟩;unfold grD at hx;rw [Qa] at hx;cases er:Gs[i]? with
  | none=>rw [er] at hx;cases hx
  | some G =>
   rw [er] at hx;cases hx;refine ⟨_,_,r,G,rfl,⟨e1,rfl,(hk G (qee er)).1,(hk G (qee er)).2⟩,qw ?_ hys,_,rfl⟩;rw [Qa,Qa,er];rfl
def qbi (Gs:List (List Nat)) (s:Nat):Nat:=(Gs.findIdx? fun G=>G.contains s).getD 0
def qwj {Gs:List (List Nat)}{s i:Nat}{G:List Nat} (e:Gs[i]?=some G) (h:s ∈ G) (hI : ∀ j (G':List Nat),j<i->Gs[j]?=some G'->s ∉ G'):qbi Gs s=i:=by
 unfold qbi;have:Gs.findIdx? (fun G=>G.contains s)=some i:=by
  rw [Qbj];obtain ⟨hi,rfl⟩:=Qg.mp e;exact ⟨hi,by simpa using h,fun j hj=>by simpa using hI j _ hj (Qc (by omega))⟩
 rw [this];rfl
def qjd {Gs:List (List Nat)}{s:Nat} (hI : ∀ G ∈ Gs,s ∉ G):qbi Gs s=0:=by
 unfold qbi;have:Gs.findIdx? (fun G=>G.contains s)=none:=by
  rw [Qdv];intro G hG;simpa using hI G hG
 rw [this];rfl
def qlk (ds:List Qh) (q:Qh->Prop):Prop := ∃ (s:Nat) (Gs:List (List Nat)),ds=[.int s,.list (grD Gs)]/\q (.int (qbi Gs s:Nat))
def qgp:FnScope ["sign","groups","place","group"] ["sign","groups"] (defScope qgg):=sc0
def quh (F:Def K mg "place_of" qgg ["sign","groups"]) (T:Txt K mg cs)
 : Ok P w K mg base "place_of" 1 ["sign","groups"] (PSp K qlk):=by
  refine F.vok qgp (by rintro ds q ⟨_,_,h,_⟩;rw [h];rfl) fun f cdv A outer s H E hr ds q h=>?_;obtain ⟨s,Gs,rfl,h⟩:=h;refine ⟨_,(qe (qab rfl (qzv T.enumerate_ (qa 1)) (qsw (n:=2) rfl (qdn (qo (i:=2) qgp.nd) (qdn (qo (i:=3) qgp.nd) qnr))) (qg (qas (qO zakh (qa 0) (qa 3)) (qg (qt (qa 2))) qA)))
   (qg (qt qd))),?_⟩
  refine ⟨fun i e => ∃ t1 t2,e=[.val (.int s),.val (.list (grD Gs)),t1,t2] /\ ∀ j (G:List Nat),j<i->Gs[j]?=some G->s ∉ G,⟨_,_,rfl,fun j y hj=>by omega⟩,?_,?_⟩
  ·rintro i x e hx ⟨t1,t2,rfl,hI⟩;obtain ⟨x,hx',rfl⟩:=qqs hx;obtain ⟨G,hG,rfl⟩:=qzi hx';refine ⟨rfl,rfl,_,_,rfl,qvt G,?_⟩;cases a:(G.map fun i=>((i:Nat):Int)).any (· == (s:Int)) with
   | true =>
    have hm:=qsy.mp a;rw [qwj hG hm hI] at h;exact h
   | false =>
    refine ⟨_,_,rfl,fun j y hj hy=>?_⟩;by_cases e:j=i
    ·subst e;rw [hG] at hy;cases hy;exact fun m=>by rw [qsy.mpr m] at a;cases a
    ·exact hI j y (by omega) hy
  ·rintro e ⟨t1,t2,rfl,hI⟩;rw [qfh,grD,Qe] at hI;rw [qjd fun G hG=>?_] at h
   ·exact h
   ·obtain ⟨j,hj,rfl⟩:=Qcs.mp hG;exact hI j _ hj (Qc hj)
def qF (R:List (List Int)) (G:List Nat) (k:Nat):Int:=if k ∈ G then (qB R k).sum else 0
def qH (R:List (List Int)) (G:List Nat) (n:Nat):List (Int×Int):=(Qx n).map fun k=>(shT (qF R G k) (jc R G).sum,shB (qF R G k) (jc R G).sum)
def qkw (ds:List Qh) (q:Qh->Prop):Prop := ∃ (b:Int) (R:List (List Int)) (n:Nat) (G:List Nat),ds=[.list (sgD G),qL b R]/\((∀ r ∈ R,r.length=n)/\R≠[]/\R.length<=900/\n<=900/\G.length<=900/\(∀ i ∈ G,i<n)/\(jc R G).sum≠0/\intBits (jc R G).sum<=9000)/\q (.list ((qH R G n).map dS))
def qlj:FnScope ["group","glass","whole"] ["group","glass"] (defScope qfz):=sc0
def qud (F:Def K mg "parts_of" qfz ["group","glass"]) (T:Txt K mg cs)
 (O_share:Ok P w K mg base "share" 3 ["top","bottom"] (PSp K qgv))
 (O_signs:Ok P w K mg base "signs" 1 ["glass"] (PSp K qgs))
 (O_column:Ok P w K mg base "column" 1 ["rows","place"] (FSp K qhm))
 (O_joined_column:Ok P w K mg base "joined_column" 2 ["glass","group"] (FSp K qcp))
 : Ok P w K mg base "parts_of" 4 ["group","glass"] (PSp K qkw):=by
  refine F.vok qlj (by rintro ds q ⟨_,_,_,_,h,_⟩;rw [h];rfl) fun f cdv A outer s H E hr ds q h=>?_;obtain ⟨b,R,n,G,rfl,⟨hn,hR,hl,n9,g9,hG,w0,wz⟩,h⟩:=h;refine ⟨_,(qe (ql (i:=2) qlj.nd (qu (qob rfl) T.sum_ L2.boot_sum (qc (qy (qfc O_joined_column.c hr.m (qc (qa 1) (qc (qa 0) qf)))) qf)))
   (qg (qt (qy (qaa (caps:=["group","glass","whole"]) (own:=["sign"]) (ix:=[0,1,2]) rfl ⟨rfl,rfl,rfl,rfl,rfl,rfl⟩ (qai T.range_ (qr O_signs.c hr.m (qc (qa 1) qf))) (fun _ _ _ _=>(qo (i:=3) (show Z7 (["group","glass","whole","sign"]:List Str) by decide))) (fun _ _ _ _=>(qr O_share.c hr.m (qc (qvp (qO zakh (qa 3) (qa 0)) (qu (qob rfl) T.sum_ L2.boot_sum (qc (qy (qfc O_column.c hr.m (qc (qh (qa 1) qd) (qc (qa 3) qf)))) qf)) qd) (qc (qa 2) qf))))))))),?_⟩
  obtain ⟨r0,R0,rfl⟩:=Zq hR;have l0:r0.length=n:=hn r0 (by simp);refine ⟨b,_,_,G,rfl,⟨hl,rfl,g9,fun r hr i hi=>by rw [hn r hr];exact hG i hi⟩,?_⟩;refine ⟨_,rfl,?_⟩;refine ⟨b,r0,R0,rfl,?_⟩;rw [l0];refine ⟨⟨by omega,by omega⟩,qN ((qH (r0::R0) G n).map dS) (by simp [qP,qH]) (qj (by simp [qH];omega)) (fun e => ∃ s,e=[.val (.list (sgD G)),.val (qL b (r0::R0)),.val (.int (jc (r0::R0) G).sum),s]) ⟨_,rfl⟩ ?_ h⟩;rintro i x ys e hx hys ⟨s,rfl⟩;obtain ⟨hi,rfl⟩:=qan hx;rw [Vc];have hi':i<n:=by omega
  have g:((qH (r0::R0) G n).map dS)[i]?=some (dS (shT (qF (r0::R0) G i) (jc (r0::R0) G).sum,shB (qF (r0::R0) G i) (jc (r0::R0) G).sum)):=by
   unfold qH;rw [Qa,Qa,Q5 hi'];rfl
  refine ⟨_,_,rfl,qvt G,?_⟩;cases a:(G.map fun k=>((k:Nat):Int)).any (· == (i:Int)) with
  | true =>
   have hm:=qsy.mp a;have e:qF (r0::R0) G i=(qB (r0::R0) i).sum:=if_pos hm;rw [e] at g;exact ⟨_,rfl,_,_,i,rfl,⟨qfe _,hl,fun r hr=>by rw [hn r hr];exact hi'⟩,_,rfl,⟨w0,wz⟩,qw g hys,_,rfl⟩
  | false =>
   have e:qF (r0::R0) G i=0:=if_neg fun m=>by rw [qsy.mpr m] at a;cases a
   rw [e] at g;exact ⟨⟨w0,wz⟩,qw g hys,_,rfl⟩
def zaam (r:List Int) (G:List Nat) (s:Nat):qcm r (G++[s])=qcm r G+(r[s]?).getD 0:=by
 unfold qcm;rw [Q9,Jh];simp
def qys (r:List Int) (k:List Int) (s:Nat) : ∀ gs:List (List Int×List Nat),(gs.map (·.1)).Nodup->(gs.any fun x=>decide (x.1=k))=true->((gs.map fun x=>if x.1=k then (x.1,x.2++[s]) else x).map fun x=>qcm r x.2).sum=(gs.map fun x=>qcm r x.2).sum+(r[s]?).getD 0
 | [],_,h=>by cases h
 | x::gs,hn,h=>by
  rw [Qt,Jc] at hn;rw [Qt,Qt,Q3,Qt,Q3];by_cases e:x.1=k
  ·have rest:gs.map (fun x=>if x.1=k then (x.1,x.2++[s]) else x)=gs.map id:=Zg fun y hy=>if_neg fun z=>hn.1 (Ql.mpr ⟨y,hy,by rw [z,e]⟩);rw [rest,List.map_id,if_pos e];show qcm r (x.2++[s])+_=_;rw [zaam];omega
  ·rw [Qbe,decide_eq_false e,Qjv] at h;rw [qys r k s gs hn.2 h,if_neg e];omega
def zaew {R:List (List Int)}{gs:List (List Int×List Nat)} (h:GrsOk R gs) (r k:List Int) (s:Nat):((qml gs k s).map fun x=>qcm r x.2).sum=(gs.map fun x=>qcm r x.2).sum+(r[s]?).getD 0:=by
 unfold qml;split
 ·rename_i ha;exact qys r k s gs h.ky ha
 ·rw [Q9,Jh];simp [qcm]
def zaer (r:List Int) (i:Nat):(r.take (i+1)).sum=(r.take i).sum+(r[i]?).getD 0:=by
 rw [Zs,Jh];cases r[i]? <;> simp
def qze {R:List (List Int)} (hn : ∀ r ∈ R,∀ x ∈ r,0<=x) {r:List Int} (hr:r ∈ R) : ∀ i,((grs R i).map fun x=>qcm r x.2).sum=(r.take i).sum
 | 0=>by simp [grs]
 | i+1=>by
  rw [zaer,<- qze hn hr i];show ((if (qB R i).any (· != 0)=true then qml (grs R i) (nrm (qB R i)) i else grs R i).map fun x=>qcm r x.2).sum=_;split
  ·exact zaew (qji hn i) r _ i
  ·rename_i ea;have:(r[i]?).getD 0=0:=Yw fun z=>ea (Z9.mpr ⟨_,by unfold qB;exact Ql.mpr ⟨r,hr,rfl⟩,by simpa using z⟩);omega
def zafp {α:Type}{n:Nat}{p:Array Nat} (h:PmN n p) (f:Nat->α):(p.toList.map f).Perm ((Qx n).map f):=h.p.map f
def qri (R:List (List Int)) (n:Nat):(Qx (grs R n).length).map (fun i=>qcl R n i)=(grs R n).map (·.2):=by
 refine Z1 fun i=>?_;by_cases hi:i<(grs R n).length
 ·rw [Qa,Q5 hi,Qa,Qc hi];show some (qcl R n i)=some _;unfold qcl;rw [Qc hi];rfl
 ·rw [Qy (by simp;omega),Qy (by simp;omega)]
structure GsOk (R:List (List Int)) (n:Nat) (Gs:List (List Nat)):Prop where
 len:Gs.length<=n
 ne : ∀ G ∈ Gs,G≠[]
 le : ∀ G ∈ Gs,G.length<=n
 lt : ∀ G ∈ Gs,∀ s ∈ G,s<n
 co : ∀ G ∈ Gs,Col (jc R G)
 sum : ∀ r ∈ R,r.length=n->(Gs.map fun G=>qcm r G).sum=r.sum
def zald {R:List (List Int)} (hn : ∀ r ∈ R,∀ x ∈ r,0<=x) {n:Nat}{p:Array Nat} (hp:PmN (grs R n).length p):GsOk R n (p.toList.map fun i=>qcl R n i):=by
 have pm:=zafp hp fun i=>qcl R n i;rw [qri] at pm;have h:=qji hn n;have mem : ∀ G ∈ p.toList.map (fun i=>qcl R n i),∃ x ∈ grs R n,x.2=G:=fun G hG=>Ql.mp (pm.mem_iff.mp hG);refine ⟨?_,fun G hG=>?_,fun G hG=>?_,fun G hG=>?_,fun G hG=>?_,fun r hr hl=>?_⟩
 ·rw [pm.length_eq,Qe];exact qmz R n
 ·obtain ⟨x,hx,rfl⟩:=mem G hG;exact h.ne x hx
 ·obtain ⟨x,hx,rfl⟩:=mem G hG;exact qmj R n x hx
 ·obtain ⟨x,hx,rfl⟩:=mem G hG;exact qmh R n x hx
 ·obtain ⟨x,hx,rfl⟩:=mem G hG;exact (qtg (h.ne x hx) (h.me x hx)).2
 ·rw [qvo (pm.map fun G=>qcm r G),Zz];have e:=qze hn hr n;rw [<- hl,Zl] at e;rw [<- hl];exact e
def qbh (Gs:List (List Nat)) (r:List Int):List Int:=Gs.map fun G=>qcm r G
def GrsOf (R:List (List Int)) (n:Nat) (Gs:List (List Nat)):Prop := ∃ p:Array Nat,PmN (grs R n).length p/\SrtN (qJ (fun i=>jc R (qcl R n i)) R.length) p (grs R n).length/\Gs=p.toList.map fun i=>qcl R n i
def qxy (b:Int) (R:List (List Int)) (Gs:List (List Nat)):Qh:=qL (b/qE (R.map (qbh Gs))) (qaw (R.map (qbh Gs)) (qE (R.map (qbh Gs))))
def zahq (n:Nat) (Gs:List (List Nat)):Qh:=qL 1 ((Qx n).map fun s=>qhz (qbi Gs s) Gs.length)
def qvj (ds:List Qh) (q:Qh->Prop):Prop := ∃ (b:Int) (R:List (List Int)) (n:Nat),ds=[qL b R]/\(Tab b R n/\R≠[]/\R.length<=12/\1<=n/\n<=12/\intBits b<=200) /\ ∀ Gs B,GrsOf R n Gs->LcmB (Gs.map fun G=>qH R G n) B->q (.tuple [qxy b R Gs,zahq n Gs,qL B ((Gs.map fun G=>qH R G n).map (qci B))])
def qsm {r:List Int} (h : ∀ x ∈ r,0<=x) : ∀ G:List Nat,0<=qcm r G
 | []=>by simp [qcm]
 | i::G=>by
  have e:qcm r (i::G)=(r[i]?).getD 0+qcm r G:=by unfold qcm;rw [Qt,Q3]
  have:=qsm h G;have:0<=(r[i]?).getD 0:=by
   cases q:r[i]? with
   | none=>exact Y6 _
   | some x=>exact h x (Qf q)
  omega
def jTab {b:Int}{R:List (List Int)}{n:Nat}{Gs:List (List Nat)} (hT:Tab b R n) (g:GsOk R n Gs):Tab b (R.map (qbh Gs)) Gs.length:=by
 refine ⟨hT.pos,fun r hr=>?_,fun r hr x hx=>?_,fun r hr=>?_⟩
 ·obtain ⟨r0,_,rfl⟩:=Ql.mp hr;unfold qbh;rw [Qe]
 ·obtain ⟨r0,h0,rfl⟩:=Ql.mp hr;obtain ⟨G,_,rfl⟩:=Ql.mp hx;exact qsm (hT.nn r0 h0) G
 ·obtain ⟨r0,h0,rfl⟩:=Ql.mp hr;exact (g.sum r0 h0 (hT.len r0 h0)).trans (hT.sum r0 h0)
def qme {b:Int}{R:List (List Int)}{n:Nat}{Gs:List (List Nat)} (hT:Tab b R n) (g:GsOk R n Gs) {G:List Nat} (hG:G ∈ Gs):0<(jc R G).sum/\(jc R G).sum<=b*R.length:=by
 have c:=g.co G hG;constructor
 ·obtain ⟨x,hx,z⟩:=c.nz;have:=c.nn x hx;have:=qef c.nn hx;omega
 ·have key : ∀ R':List (List Int),(∀ r ∈ R',r ∈ R)->(jc R' G).sum<=b*R'.length:=by
   intro R'
   induction R' with
   | nil=>intro _;simp [jc]
   | cons r R' ih =>
    intro h;have h1:qcm r G<=b:=by
     have hr:=h r (by simp);have e:=(g.sum r hr (hT.len r hr)).trans (hT.sum r hr);rw [<- e];exact qef (r:=Gs.map fun G=>qcm r G) (fun x hx=>by obtain ⟨G',_,rfl⟩:=Ql.mp hx;exact qsm (hT.nn r hr) G') (Ql.mpr ⟨G,hG,rfl⟩)
    have h2:=ih fun r hr=>h r (Qm _ hr);have e:(jc (r::R') G).sum=qcm r G+(jc R' G).sum:=by unfold jc;rw [Qt,Q3];rfl
    rw [e,Zk]
    push_cast
    rw [Qav,Qat];omega
  exact key R fun r hr=>hr
def qyv : ∀ (ws:List Int),(∀ w ∈ ws,0<w/\w<=2^204)->0<ws.foldr (· * ·) 1/\(ws.foldr (· * ·) 1).natAbs<=(2^204)^ws.length /\ ∀ w ∈ ws,w∣ws.foldr (· * ·) 1
 | [],_=>⟨by decide,by decide,fun w hw=>by cases hw⟩
 | w::ws,h=>by
  obtain ⟨a1,a2,a3⟩:=qyv ws fun x hx=>h x (Qm _ hx);obtain ⟨w0,w1⟩:=h w (by simp);rw [List.foldr_cons];refine ⟨Zm w0 a1,?_,fun x hx=>?_⟩
  ·rw [Qjm,Zk,Nat.pow_succ,Nat.mul_comm];exact Nat.mul_le_mul a2 (by omega)
  ·rcases Qs.mp hx with rfl|z
   ·exact Qhx _ _
   ·exact Jp (a3 x z) (Qcl _ _)
def zagr {b:Int}{R:List (List Int)}{n:Nat} (hT:Tab b R n) (G:List Nat) (k:Nat):0<=qF R G k/\qF R G k<=b*R.length:=by
 have b0:=hT.pos;have p:0<=b*(R.length:Int):=Zo (by omega) (by omega);unfold qF;split
 ·have key : ∀ R':List (List Int),(∀ r ∈ R',r ∈ R)->0<=(qB R' k).sum/\(qB R' k).sum<=b*R'.length:=by
   intro R'
   induction R' with
   | nil=>intro _;simp [qB]
   | cons r R' ih =>
    intro h;have hr:=h r (by simp);have h1:0<=(r[k]?).getD 0/\(r[k]?).getD 0<=b:=by
     cases q:r[k]? with
     | none=>exact ⟨Y6 _,by show (0:Int)<=b;omega⟩
     | some x =>
      have xm:=Qf q;refine ⟨hT.nn r hr x xm,?_⟩;rw [<- hT.sum r hr];exact qef (hT.nn r hr) xm
    have h2:=ih fun r hr=>h r (Qm _ hr);have e:(qB (r::R') k).sum=(r[k]?).getD 0+(qB R' k).sum:=by unfold qB;rw [Qt,Q3]
    rw [e,Zk]
    push_cast
    rw [Qav,Qat];omega
  exact key R fun r hr=>hr
 ·exact ⟨Y6 _,p⟩
def qgy:FnScope ["glass","groups","form","there","back"] ["glass"] (defScope qnw):=sc0
def zaex (F:Def K mg "least" qnw ["glass"]) (T:Txt K mg cs)
 (O_signs:Ok P w K mg base "signs" 1 ["glass"] (PSp K qgs))
 (O_lowest_table:Ok P w K mg base "lowest_table" 3 ["bottom","rows"] (PSp K qfr))
 (O_table_of_shares:Ok P w K mg base "table_of_shares" 2 ["rows"] (PSp K qea))
 (O_one_sign:Ok P w K mg base "one_sign" 1 ["place","many"] (PSp K qle))
 (O_sorted_groups:Ok P w K mg base "sorted_groups" 4 ["glass"] (qfq [cs.tb,cs.tb1] (PSp K qez)))
 (O_joined_numbers:Ok P w K mg base "joined_numbers" 2 ["row","groups"] (PSp K qek))
 (O_place_of:Ok P w K mg base "place_of" 1 ["sign","groups"] (PSp K qlk))
 (O_parts_of:Ok P w K mg base "parts_of" 4 ["group","glass"] (PSp K qkw))
 : Ok P w K mg base "least" 5 ["glass"] (qfq [cs.tb,cs.tb1] (PSp K qvj)):=by
  refine F.tvok qgy (by rintro ds q ⟨_,_,_,h,_⟩;rw [h];rfl) fun f cdv A outer s H E hr hTb ds q h=>?_;obtain ⟨b,R,n,rfl,⟨hT,hR,hl,n1,n9,bz⟩,hq⟩:=h;have b0:=hT.pos;have b9:b<=2^200:=by have:=intBits_le_iff.mp bz;omega
  have bl : ∀ {x:Int},0<=x->x<=2^204->intBits x<=205:=fun h1 h2=>intBits_le_iff.mpr (by omega);refine ⟨_,(qe (ql (i:=1) qgy.nd (qr (O_sorted_groups.t hTb) hr.m (qc (qa 0) qf)))
   (qe (ql (i:=2) qgy.nd (qr O_lowest_table.c hr.m (qc (qh (qa 0) qd) (qc (qy (qaa (caps:=["groups"]) (own:=["row"]) (ix:=[1]) rfl ⟨rfl,rfl,rfl,rfl,rfl,rfl⟩ (qG (qh (qa 0) qd)) (fun _ _ _ _=>(qo (i:=1) (show Z7 (["groups","row"]:List Str) by decide))) (fun _ _ _ _=>(qr O_joined_numbers.c hr.m (qc (qa 1) (qc (qa 0) qf)))))) qf))))
   (qe (ql (i:=3) qgy.nd (qat (qc qd (qc (qdd qgj T.tuple_ L2.boot_tuple (qc (qy (qaa (caps:=["groups"]) (own:=["sign"]) (ix:=[1]) rfl ⟨rfl,rfl,rfl,rfl,rfl,rfl⟩ (qai T.range_ (qr O_signs.c hr.m (qc (qa 0) qf))) (fun _ _ _ _=>(qo (i:=1) (show Z7 (["groups","sign"]:List Str) by decide))) (fun _ _ _ _=>(qr O_one_sign.c hr.m (qc (qr O_place_of.c hr.m (qc (qa 1) (qc (qa 0) qf))) (qc (qu qbx T.len_ L2.boot_len (qc (qa 0) qf)) qf)))))) qf)) qf))))
   (qe (ql (i:=4) qgy.nd (qr O_table_of_shares.c hr.m (qc (qy (qaa (caps:=["glass"]) (own:=["group"]) (ix:=[0]) rfl ⟨rfl,rfl,rfl,rfl,rfl,rfl⟩ (qG (qa 1)) (fun _ _ _ _=>(qo (i:=1) (show Z7 (["glass","group"]:List Str) by decide))) (fun _ _ _ _=>(qr O_parts_of.c hr.m (qc (qa 1) (qc (qa 0) qf)))))) qf)))
   (qg (qt (qat (qc (qa 2) (qc (qa 3) (qc (qa 4) qf)))))))))),?_⟩
  refine ⟨b,R,n,rfl,⟨hT,hR,by omega,by omega,by omega⟩,fun p0 hp0 hs0=>?_⟩;obtain ⟨Gs,eGs⟩ : ∃ Gs,Gs=p0.toList.map fun i=>qcl R n i:=⟨_,rfl⟩
  have hG:GrsOf R n Gs:=⟨p0,hp0,hs0,eGs⟩
  rw [<- eGs];clear eGs hs0 hp0;obtain ⟨p,hp,hs,eG⟩:=id hG;have gok:GsOk R n Gs:=by rw [eG];exact zald hT.nn hp
  have gl:=gok.len;have tj:=jTab hT gok;obtain ⟨r0,R0,eR⟩:=Zq hR;have l0:r0.length=n:=hT.len r0 (by rw [eR];simp);refine ⟨_,rfl,_,rfl,qN ((R.map (qbh Gs)).map qwe) (by simp) (qj (by simp;omega)) (fun e => ∃ s,e=[.val (.list (grD Gs)),s]) ⟨_,rfl⟩ ?_ ?_⟩
  ·rintro i x ys e hx hys ⟨s,rfl⟩;rw [Qa] at hx;cases er:R[i]? with
   | none=>rw [er] at hx;cases hx
   | some r =>
    rw [er] at hx;cases hx;have rm:=Qf er;refine ⟨_,r,Gs,rfl,⟨rfl,by omega,fun G hG=>⟨by have:=gok.le G hG;omega,fun s hs=>by rw [hT.len r rm];exact gok.lt G hG s hs⟩⟩,qw ?_ hys,_,rfl⟩;rw [Qa,Qa,er];rfl
  refine ⟨b,_,R.map (qbh Gs),Gs.length,rfl,⟨qbz _,tj,by simpa using hR,by simp;omega,by omega,by omega⟩,?_⟩;refine ⟨b,r0,R0,by rw [eR],?_⟩;rw [l0];have lg:(grD Gs).length=Gs.length:=by unfold grD;rw [Qe]
  refine ⟨⟨by omega,by omega⟩,qN (((Qx n).map fun s=>qhz (qbi Gs s) Gs.length).map qdg) (by simp [qP]) (qj (by simp;omega)) (fun e => ∃ s,e=[.val (.list (grD Gs)),s]) ⟨_,rfl⟩ ?_ ?_⟩
  ·rintro i x ys e hx hys ⟨s,rfl⟩;obtain ⟨hi',rfl⟩:=qan hx;rw [Vc];have hi2:i<n:=by omega
   refine ⟨i,Gs,rfl,qbi Gs i,Gs.length,by rw [lg],by omega,qw ?_ hys,_,rfl⟩;rw [Qa,Qa,Q5 hi2];rfl
  refine ⟨by rw [Z0];simp,?_⟩;have wb : ∀ G ∈ Gs,0<(jc R G).sum/\(jc R G).sum<=2^204:=fun G hG=>by
   obtain ⟨a1,a2⟩:=qme hT gok hG;refine ⟨a1,Qig a2 ?_⟩;have:b*R.length<=2^200*12:=Qdu b9 (by omega) (by omega) (by omega);omega
  refine qN ((Gs.map fun G=>qH R G n).map fun V => .list (V.map dS)) (by simp [grD]) (qj (by simp;omega)) (fun e => ∃ s,e=[.val (qL b R),s]) ⟨_,rfl⟩ ?_ ?_
  ·rintro i x ys e hx hys ⟨s,rfl⟩;obtain ⟨G,hG,rfl⟩:=qzi hx;have gm:=Qf hG;obtain ⟨w0,w1⟩:=wb G gm;refine ⟨b,R,n,G,rfl,⟨hT.len,hR,by omega,by omega,by have:=gok.le G gm;omega,gok.lt G gm,by omega,qi (bl (by omega) w1) (by decide)⟩,qw ?_ hys,_,rfl⟩;rw [Qa,Qa,hG];rfl
  obtain ⟨d1,d2,d3⟩:=qyv (Gs.map fun G=>(jc R G).sum) fun w hw=>by
   obtain ⟨G,hG,rfl⟩:=Ql.mp hw;exact wb G hG
  refine ⟨_,Gs.map fun G=>qH R G n,(Gs.map fun G=>(jc R G).sum).foldr (· * ·) 1,rfl,⟨⟨_,rfl,by simp,fun i x hx=>?_⟩,by simp;omega,fun r hr=>?_,d1,?_⟩,fun B hB=>⟨by rw [Z0];simp,hq Gs B hG hB⟩⟩
  ·rw [Qa] at hx;cases e:(Gs.map fun G=>qH R G n)[i]? with
   | none=>rw [e] at hx;cases hx
   | some r=>rw [e] at hx;cases hx;exact ⟨r,rfl,rfl⟩
  ·obtain ⟨G,hG,rfl⟩:=Ql.mp hr;obtain ⟨w0,w1⟩:=wb G hG;refine ⟨by simp [qH];omega,fun x hx=>?_⟩;obtain ⟨k,_,rfl⟩:=Ql.mp hx;obtain ⟨t0,t1⟩:=zagr hT G k;have t2:b*R.length<=2^200*12:=Qdu b9 (by omega) (by omega) (by omega);refine ⟨(qck (by omega)).1,qdk (qi (bl t0 (by omega)) (by decide)),Jp ⟨_,((Vb _ _).trans (qsu _ _)).symm⟩ (d3 _ (Ql.mpr ⟨G,hG,rfl⟩))⟩
  ·refine Yj (y:=(2^204)^12) ?_ (by decide);refine Zr d2 ?_;rw [Qe];exact Zr (Nat.pow_le_pow_right (by decide) (show Gs.length<=12 by omega)) (by decide)
def qht (ds:List Qh) (q:Qh->Prop):Prop := ∃ a b:Int×Int,ds=[dC a,dC b]/\(intBits a.1<=4000/\intBits a.2<=4000/\intBits b.1<=4000/\intBits b.2<=4000)/\q (.bool (stp a b))
def qpk:FnScope ["one","other"] ["one","other"] (defScope qdq):=sc0
def qpt (F:Def K mg "is_steeper" qdq ["one","other"]) (T:Txt K mg cs)
 : Ok P w K mg base "is_steeper" 1 ["one","other"] (PSp K qht):=by
  refine F.vok qpk (by rintro ds q ⟨_,_,h,_⟩;rw [h];rfl) fun f cdv A outer s H E hr ds q h=>?_;obtain ⟨a,b,rfl,⟨z1,z2,z3,z4⟩,h⟩:=h;refine ⟨_,(qg (qt (qgl o_gt (qm qC (qh (qa 0) qd) (qh (qa 1) qd)) (qm qC (qh (qa 1) qd) (qh (qa 0) qd))))),?_⟩;exact ⟨_,rfl,_,rfl,qak z2 z3,_,rfl,_,rfl,qak z4 z1,h⟩
def qel (ds:List Qh) (q:List Qh->Prop):Prop := ∃ C:List (Int×Int),ds=[.list (C.map dC)]/\(C.length<=12/\(∀ c ∈ C,intBits c.1<=4000/\intBits c.2<=4000)/\Stps C) /\ ∀ p,PmN C.length p->(∀ i j,i<j->j<C.length->stp (C.getD (p.getD i 0) (0,0)) (C.getD (p.getD j 0) (0,0))=true)->q (p.toList.map fun i=>dC (C.getD i (0,0)))
def qis:FnScope ["steps"] ["steps"] (defScope qT):=sc0
def qiv (F:DefT K mg "steepest_first" qT ["steps"] cs.c1) (T:Txt K mg cs) (KB:K.In base)
 (O_is_steeper:Ok P w K mg base "is_steeper" 1 ["one","other"] (PSp K qht))
 : Ok P w K mg base "steepest_first" 3 ["steps"] (qfq [cs.tb,cs.tb1] (FSp K qel)):=by
  refine F.ok qis (by rintro vs H Q E ⟨_,F,ds,q,_,i,⟨_,h,_⟩,_⟩;rw [i.len,h];rfl) fun f A outer s H vs Q E hr h=>?_;obtain ⟨tss,F0,ds,q,sm,hi,⟨C,rfl,⟨hl,hz,hS⟩,hq⟩,kk⟩:=h;have ts:TbS cs.tb1 H:=tss _ (by simp);obtain ⟨hu1,hu2,hd2⟩:=hr.sort;refine ⟨_,qjz (qmf (qwt (tb:=cs.tb1) (c0:=cs.c1) (iy:=0) (x := "step") (y := "steps") hu2 hr.hd hd2 ts rfl (qqh KB T.tab1_h) (qzn KB T.bm_ T.bm1_h) rfl T.sorted_ (pv 0)
   ⟨rfl,rfl,rfl,rfl,rfl,by decide,fun _ _=>rfl,fun _=>rfl,qks (by decide +kernel),qks (by decide +kernel)⟩ rfl rfl rfl rfl (fun _ _ _ _ _ _=>rfl) (fun q f c s H=>VE.peK (K:=K) (qu qbx T.len_ L2.boot_len (qc (qy (zaca (caps:=["step"]) (own:=["other"]) (ix:=[0]) rfl ⟨rfl,rfl,rfl,rfl,rfl,rfl⟩ (qG (qa 1)) (fun _ _ _ _=>(qo (i:=1) (show Z7 (["step","other"]:List Str) by decide))) (fun _ _ _ _=>(qS (qr O_is_steeper.c ((hr.lam _).mono (by decide)) (qc (qa 1) (qc (qa 0) qf))))) (fun _ _ _ _=>(qa 1)))) qf))))),?_⟩
  obtain ⟨vg,rfl,ig⟩:=qky hi;obtain ⟨a,xs,rfl,sq,ix⟩ : ∃ a xs,vg = .ref a/\SqL K F0 a xs/\Iss K F0 (C.map dC) xs:=by have:=ig;unfold Is at this;exact this
  have lx:xs.length=C.length:=by rw [ix.len,Qe]
  have at_ : ∀ {i:Nat},i<C.length->C[i]?=some (C.getD i (0,0)):=fun {i} hi=>by rw [Q7,Qc hi];rfl
  refine ⟨a,xs,fun i=>(qmy C (C.getD i (0,0)):Int),⟨rfl,sm.seq sq,by omega⟩,by rw [lx];exact hS.ord,fun H1 go gs=>⟨fun H'=>Same F0 H',sm.trans gs,fun i v H2 ev g2=>?_,fun p l H3 hp hs sm3 g3 nl nl0=>?_⟩⟩
  ·have hi:i<C.length:=by rw [<- lx];exact (Qg.mp ev).1
   obtain ⟨c,ec⟩ : ∃ c,c=C.getD i (0,0):=⟨_,rfl⟩
   have ci:C[i]?=some c:=by rw [ec];exact at_ hi
   obtain ⟨v',ev',iv⟩:=ix.get (show (C.map dC)[i]?=some (dC c) by rw [Qa,ci];rfl);rw [ev] at ev';cases ev';have zc:=hz c (Qf ci);refine ⟨⟨H2,H2,F0⟩,[.val (dC c),.val (.list (C.map dC))],F0,fun d e=>d = .int (qmy C c),qpj g2 ⟨_,_,rfl,⟨⟨v,rfl,iv⟩,rfl⟩,_,_,rfl,⟨⟨.ref a,rfl,ig⟩,rfl⟩,rfl⟩,?_,fun d v' F' H' env' I s' i' hd=>?_⟩
   ·refine ⟨qj (by rw [Qe];omega),fun j ys e=>ys=((C.take j).filter fun b=>stp b c).map dC /\ ∃ s,e=[.val (dC c),s],⟨rfl,_,rfl⟩,?_,?_⟩
    ·rintro j x ys e hx ⟨rfl,s,rfl⟩;rw [Qa] at hx;cases eb:C[j]? with
     | none=>rw [eb] at hx;cases hx
     | some b =>
      rw [eb] at hx;cases hx;have zb:=hz b (Qf eb);have et:C.take (j+1)=C.take j++[b]:=by rw [Zs,eb];rfl
      refine ⟨b,c,rfl,⟨zb.1,zb.2,zc.1,zc.2⟩,iteB (fun h=>⟨?_,_,rfl⟩) (fun h=>⟨?_,_,rfl⟩)⟩
      ·rw [et,Yc,Q9,Yy,if_pos h];rfl
      ·rw [et,Yc,Yy,if_neg (by rw [h];exact Zx)];simp
    ·rintro ys e ⟨rfl,s,rfl⟩;rw [Qe,Zl];show Q2 (((C.filter fun b=>stp b c).map dC).length:Nat)=Q2 (qmy C c);rw [Qe];rfl
   ·subst hd;refine ⟨I.bh,I.f0.trans I.fh,?_⟩;show v'=V.int (qmy C (C.getD i (0,0)):Int);rw [<- ec];exact i'.int_inv
  ·rw [lx] at hp hs;have pk:=qvw ix (js:=p.toList) fun j hj=>by rw [Qe];exact Zp.mp (hp.p.mem_iff.mp hj)
   have ep:(p.toList.map fun j=>(C.map dC).getD j Qh.none)=p.toList.map fun i=>dC (C.getD i (0,0)):=Zg fun j hj=>by
    have hj:j<C.length:=Zp.mp (hp.p.mem_iff.mp hj);rw [Q7,Qa,at_ hj];rfl
   rw [ep] at pk;exact kk _ l _ F0 _ ⟨.refl _,(gs.trans sm3).trans (qau nl),g3.trans (qau nl),fun _ _ e => .inl e⟩ nl0 (sm.free nl0) qp pk (hq p hp fun i j hij hj=>hS.srt hp hs hij hj)
def qur {gs:List (List Int×List Nat)}{k:List Int}{s t:Nat} (h:(∃ x ∈ gs,s ∈ x.2)\/s=t) : ∃ x ∈ qml gs k t,s ∈ x.2:=by
 unfold qml;split
 ·rename_i ha;rcases h with ⟨x,hx,hs⟩|rfl
  ·refine ⟨_,Ql.mpr ⟨x,hx,rfl⟩,?_⟩;split
   ·exact Z2 _ hs
   ·exact hs
  ·obtain ⟨x,hx,e⟩:=Z9.mp ha;refine ⟨_,Ql.mpr ⟨x,hx,rfl⟩,?_⟩;rw [if_pos (of_decide_eq_true e)];simp
 ·rcases h with ⟨x,hx,hs⟩|rfl
  ·exact ⟨x,Z2 _ hx,hs⟩
  ·exact ⟨_,Q4 _ (Qp.mpr rfl),by simp⟩
def qzx (R:List (List Int)) : ∀ n s,s<n->(qB R s).any (· != 0)=true -> ∃ x ∈ grs R n,s ∈ x.2
 | 0,s,h,_=>by omega
 | n+1,s,h,ea=>by
  unfold grs;by_cases e:s=n
  ·subst e;rw [if_pos ea];exact qur (.inr rfl)
  ·have ih:=qzx R n s (by omega) ea;split
   ·exact qur (.inl ih)
   ·exact ih
def qtr (R:List (List Int)) : ∀ n,∀ x ∈ grs R n,x.2.Nodup
 | 0,x,hx=>by cases hx
 | n+1,x,hx=>by
  unfold grs at hx;split at hx
  ·unfold qml at hx;split at hx
   ·obtain ⟨y,hy,rfl⟩:=Ql.mp hx;have ih:=qtr R n y hy;have lt:=qmh R n y hy;split
    ·refine Qad.mpr ⟨ih,by simp,fun a ha b hb=>?_⟩;have:=lt a ha;have:=Qp.mp hb;omega
    ·exact ih
   ·rcases Zd.mp hx with z|z
    ·exact qtr R n x z
    ·rw [Qp.mp z];simp
  ·exact qtr R n x hx
structure GsPart (R:List (List Int)) (n:Nat) (Gs:List (List Nat)):Prop where
 nd : ∀ G ∈ Gs,G.Nodup
 all : ∀ s,s<n->(qB R s).any (· != 0)=true -> ∃ G ∈ Gs,s ∈ G
 one : ∀ (a b:Nat) (G G':List Nat) (s:Nat),Gs[a]?=some G->Gs[b]?=some G'->s ∈ G->s ∈ G'->a=b
 pr : ∀ G ∈ Gs,∀ s ∈ G,Col (qB R s)/\nrm (qB R s)=nrm (jc R G)
def zajw {R:List (List Int)} (hn : ∀ r ∈ R,∀ x ∈ r,0<=x) {n:Nat}{p:Array Nat} (hp:PmN (grs R n).length p):GsPart R n (p.toList.map fun i=>qcl R n i):=by
 have pm:=zafp hp fun i=>qcl R n i;rw [qri] at pm;have h:=qji hn n;have mem : ∀ G ∈ p.toList.map (fun i=>qcl R n i),∃ x ∈ grs R n,x.2=G:=fun G hG=>Ql.mp (pm.mem_iff.mp hG);have nd:p.toList.Nodup:=hp.p.nodup_iff.mpr Qeu;refine ⟨fun G hG=>?_,fun s hs ea=>?_,fun a b G G' s ea eb ha hb=>?_,fun G hG s hs=>?_⟩
 ·obtain ⟨x,hx,rfl⟩:=mem G hG;exact qtr R n x hx
 ·obtain ⟨x,hx,hs⟩:=qzx R n s hs ea;exact ⟨x.2,pm.mem_iff.mpr (Ql.mpr ⟨x,hx,rfl⟩),hs⟩
 ·rw [Qa] at ea eb;cases e1:p.toList[a]? with
  | none=>rw [e1] at ea;cases ea
  | some i =>
   cases e2:p.toList[b]? with
   | none=>rw [e2] at eb;cases eb
   | some j =>
    rw [e1] at ea;rw [e2] at eb;cases ea;cases eb;have hi:i<(grs R n).length:=Zp.mp (hp.p.mem_iff.mp (Qf e1));have hj:j<(grs R n).length:=Zp.mp (hp.p.mem_iff.mp (Qf e2));have gi : ∀ {i:Nat} (hi:i<(grs R n).length),qcl R n i=(grs R n)[i].2:=fun {i} hi=>by unfold qcl;rw [Qc hi];rfl
    have ha:s ∈ qcl R n i:=ha;have hb:s ∈ qcl R n j:=hb;rw [gi hi] at ha;rw [gi hj] at hb;have k1:=(h.me _ (Ze hi) s ha).2;have k2:=(h.me _ (Ze hj) s hb).2;have ij:i=j:=by
     have q:(grs R n)[i].1=(grs R n)[j].1:=k1.symm.trans k2;have z:=h.ky;refine (Qac (i:=i) (j:=j) (by simpa using hi) z).mp ?_;rw [Qa,Qa,Qc hi,Qc hj];exact congrArg some q
    subst ij;exact (Qac (Qg.mp e1).1 nd).mp (e1.trans e2.symm)
 ·obtain ⟨x,hx,rfl⟩:=mem G hG;obtain ⟨c,e⟩:=h.me x hx s hs;exact ⟨c,e.trans (qtg (h.ne x hx) (h.me x hx)).1.symm⟩
def qjs (r:List Int) {n:Nat} : ∀ {G:List Nat},G.Nodup->(∀ s ∈ G,s<n)->qcm r G=qQ n fun i=>if i ∈ G then (r[i]?).getD 0 else 0
 | [],_,_=>by rw [qfg fun i _=>by rw [if_neg (by simp)]];simp [qcm]
 | s::G,nd,lt=>by
  rw [Jc] at nd;have ih:=qjs r (n:=n) nd.2 fun x hx=>lt x (Qm _ hx);have e:qcm r (s::G)=(r[s]?).getD 0+qcm r G:=by unfold qcm;rw [Qt,Q3]
  have q:(qQ n fun i=>if i ∈ s::G then (r[i]?).getD 0 else 0)=qQ n fun i=>(if i=s then (r[i]?).getD 0 else 0)+if i ∈ G then (r[i]?).getD 0 else 0:=qM fun i _=>by
   by_cases e1:i=s
   ·subst e1;rw [if_pos (by simp),if_pos rfl,if_neg nd.1,Qfo]
   ·rw [if_neg e1,Vc];by_cases e2:i ∈ G
    ·rw [if_pos (Qm _ e2),if_pos e2]
    ·rw [if_neg (by simp [e1,e2]),if_neg e2]
  rw [e,ih,q,qvh,qjp (lt s (by simp)) fun i _ ne=>if_neg ne,if_pos rfl]
def qoa {R:List (List Int)}{Gs:List (List Nat)}{s l:Nat}{r:List Int}{G:List Nat} (hs:R[s]?=some r) (hl:Gs[l]?=some G):at2 (R.map (qbh Gs)) s l=qcm r G:=by
 refine qgt (r:=qbh Gs r) (by rw [Qa,hs];rfl) ?_;unfold qbh;rw [Qa,hl];rfl
def zafx {R:List (List Int)}{i s:Nat} (h : ¬ (qB R i).any (· != 0)=true) (hs:s<R.length):at2 R s i=0:=by
 have e:R[s]?=some R[s]:=Qc hs;rw [qbs e];refine Yw fun z=>h (Z9.mpr ⟨_,?_,by simpa using z⟩);unfold qB;exact Ql.mpr ⟨_,Ze hs,rfl⟩
def qik {Gs:List (List Nat)}{s:Nat} (h : ∃ G ∈ Gs,s ∈ G) : ∃ G,Gs[qbi Gs s]?=some G/\s ∈ G:=by
 unfold qbi;cases e:Gs.findIdx? (fun G=>G.contains s) with
 | none =>
  rw [Qdv] at e;obtain ⟨G,hG,hs⟩:=h;have:=e G hG;simp at this;exact (this hs).elim
 | some i =>
  rw [Qbj] at e;obtain ⟨hi,q,_⟩:=e;exact ⟨Gs[i],Qc hi,by simpa using q⟩
def qwf {Gs:List (List Nat)}{s:Nat} (h:Gs≠[]):qbi Gs s<Gs.length:=by
 by_cases e : ∃ G ∈ Gs,s ∈ G
 ·obtain ⟨G,hG,_⟩:=qik e;exact (Qg.mp hG).1
 ·rw [qjd fun G hG z=>e ⟨G,hG,z⟩];exact Qda.mpr h
section
variable {b:Int}{R:List (List Int)}{n:Nat}{Gs:List (List Nat)}
def zakz (hT:Tab b R n) (hR:R≠[]) (g:GsOk R n Gs):Gs≠[]:=fun z=>by
 obtain ⟨r,R',rfl⟩:=Zq hR;have:=g.sum r (by simp) (hT.len r (by simp));rw [z,hT.sum r (by simp)] at this;have:=hT.pos;simp at *;omega
def zaae (hT:Tab b R n) (hR:R≠[]) (g:GsOk R n Gs) (h:GsPart R n Gs):Dul b R n b (R.map (qbh Gs)) Gs.length 1 (mkT n Gs.length fun i j=>if qbi Gs i=j then 1 else 0):=by
 refine Dul.pick (fun i hi=>qwf (zakz hT hR g)) fun s l hs hl=>?_;have e1:R[s]?=some R[s]:=Qc hs;have e2:Gs[l]?=some Gs[l]:=Qc hl;have m2:=Ze hl;rw [qoa e1 e2,qjs R[s] (n:=n) (h.nd _ m2) (g.lt _ m2),Vb]
 congr 1
 refine qM fun i hi=>?_;rw [qbs e1];by_cases hm:i ∈ Gs[l]
 ·have:qbi Gs i=l:=by
   obtain ⟨G,hG,hi'⟩:=qik ⟨_,m2,hm⟩;exact h.one _ _ _ _ i hG e2 hi' hm
  rw [if_pos hm,if_pos this,Qat]
 ·rw [if_neg hm];by_cases hp:qbi Gs i=l
  ·rw [if_pos hp,Qat];have:=zafx (R:=R) (i:=i) (s:=s) (fun ea=>hm ?_) hs
   ·rw [qbs e1] at this;exact this
   ·obtain ⟨G,hG,hi'⟩:=qik (h.all i hi ea);rw [hp,e2] at hG;cases hG;exact hi'
  ·rw [if_neg hp,Yn]
def zajn (h:GsPart R n Gs) (g:GsOk R n Gs) {G:List Nat} (hG:G ∈ Gs) {i:Nat} (hi:i ∈ G) {s:Nat}{r:List Int} (hs:R[s]?=some r):qcm r G*(qB R i).sum=(r[i]?).getD 0*(jc R G).sum:=by
 obtain ⟨c,e⟩:=h.pr G hG i hi;have pr:=qnq e;have k1:(jc R G)[s]?=some (qcm r G):=by unfold jc;rw [Qa,hs];rfl
 have k2:(qB R i)[s]?=some ((r[i]?).getD 0):=by unfold qB;rw [Qa,hs];rfl
 have key : ∀ (u v:List Int) (x y:Int),u.length=v.length->(∀ (j:Nat) (a d:Int),u[j]?=some a->v[j]?=some d->x*a=y*d)->x*u.sum=y*v.sum:=by
  intro u
  induction u with
  | nil=>intro v x y hl _;cases v with
   | nil=>simp
   | cons _ _=>simp at hl
  | cons a u ih =>
   intro v x y hl hh;cases v with
   | nil=>simp at hl
   | cons d v =>
    rw [Q3,Q3,Qav,Qav,hh 0 a d rfl rfl,ih v x y (by simpa using hl) fun j a d h1 h2=>hh (j+1) a d (by simpa using h1) (by simpa using h2)]
 refine key _ _ _ _ (by unfold qB jc;rw [Qe,Qe]) fun j a d ha hd=>?_;have:=pr s j _ _ _ _ k2 ha k1 hd;grind
def qxf (hT:Tab b R n) (hR:R≠[]) (g:GsOk R n Gs) (h:GsPart R n Gs) {B:Int} (B0:0<B) (hdv : ∀ r ∈ Gs.map (fun G=>qH R G n),∀ x ∈ r,x.2∣B):Dul b (R.map (qbh Gs)) Gs.length b R n B ((Gs.map fun G=>qH R G n).map (qci B)):=by
 have jp : ∀ G ∈ Gs,0<(jc R G).sum:=fun G hG=>(qme hT g hG).1;have atD : ∀ {l i:Nat}{G:List Nat},Gs[l]?=some G->i<n->at2 ((Gs.map fun G=>qH R G n).map (qci B)) l i*(jc R G).sum=B*qF R G i:=fun {l i G} hl hi=>by
  have hG:=Qf hl;have w0:=jp G hG;obtain ⟨s1,e1⟩:=qck (t:=qF R G i) (b:=(jc R G).sum) (by omega);have dv:shB (qF R G i) (jc R G).sum∣B:=hdv _ (Ql.mpr ⟨G,hG,rfl⟩) (shT (qF R G i) (jc R G).sum,shB (qF R G i) (jc R G).sum) (Ql.mpr ⟨i,Zp.mpr hi,rfl⟩);rw [qgt (r:=qci B (qH R G n)) (x:=shT (qF R G i) (jc R G).sum*(B/shB (qF R G i) (jc R G).sum)) (by rw [Qa,Qa,hl];rfl) (by unfold qci qH;rw [Qa,Qa,Q5 hi];rfl)];have q1:=s1.pos;have e2:=Vr dv;generalize shT (qF R G i) (jc R G).sum=x at *;generalize shB (qF R G i) (jc R G).sum=y at *;generalize B/y=k at *;rw [<- e2];grind
 have tsum : ∀ G ∈ Gs,(qQ n fun i=>qF R G i)=(jc R G).sum:=fun G hG=>by
  have e:(qQ n fun i=>qF R G i)=qQ n fun i=>qQ R.length fun s=>if i ∈ G then at2 R s i else 0:=qM fun i hi=>by
   unfold qF;split
   ·unfold qB;rw [<- qdc]
    congr 1
    refine Z1 fun s=>?_;rw [Qa,Qa];by_cases hs:s<R.length
    ·rw [Q5 hs,Qc hs];show some _=some (at2 R s i);rw [qbs (Qc hs)]
    ·rw [Qy (by omega),Qy (by simp;omega)];rfl
   ·exact (qfg fun _ _=>rfl).symm
  rw [e,qsb];unfold jc;rw [<- qdc]
  congr 1
  refine Z1 fun s=>?_;rw [Qa,Qa];by_cases hs:s<R.length
  ·rw [Q5 hs,Qc hs];show some _=some (qcm R[s] G);rw [qjs R[s] (n:=n) (h.nd G hG) (g.lt G hG)];refine congrArg some (qM fun i hi=>?_);rw [qbs (Qc hs)]
  ·rw [Qy (l:=R) (by omega),Qy (by simp;omega)];rfl
 have rowOf : ∀ r ∈ (Gs.map fun G=>qH R G n).map (qci B),∃ (l:Nat) (G:List Nat),Gs[l]?=some G/\r=(Qx n).map fun i=>at2 ((Gs.map fun G=>qH R G n).map (qci B)) l i:=fun r hr=>by
  obtain ⟨l,hl⟩:=V5.mp hr;rw [Zz,Qa] at hl;cases e:Gs[l]? with
  | none=>rw [e] at hl;cases hl
  | some G =>
   rw [e] at hl;cases hl;refine ⟨l,G,e,Z1 fun i=>?_⟩;show (qci B (qH R G n))[i]?=_;rw [Qa];by_cases hi:i<n
   ·rw [Q5 hi];have g1:(qci B (qH R G n))[i]?=some (shT (qF R G i) (jc R G).sum*(B/shB (qF R G i) (jc R G).sum)):=by unfold qci qH;rw [Qa,Qa,Q5 hi];rfl
    rw [g1,<- qgt (T:=(Gs.map fun G=>qH R G n).map (qci B)) (i:=l) (by rw [Qa,Qa,e];rfl) g1];rfl
   ·rw [Qy (by unfold qci qH;simp;omega),Qy (by simp;omega)];rfl
 refine ⟨⟨by omega,fun r hr=>?_,fun r hr x hx=>?_,fun r hr=>?_⟩,by simp,fun s i hs hi=>?_⟩
 ·obtain ⟨l,G,hl,e⟩:=rowOf r hr;rw [e];simp
 ·obtain ⟨l,G,hl,e⟩:=rowOf r hr;rw [e] at hx;obtain ⟨i,hi,rfl⟩:=Ql.mp hx;have k:=atD hl (Zp.mp hi);have w0:=jp G (Qf hl);have t0:=(zagr hT G i).1;have:0*(jc R G).sum<=at2 ((Gs.map fun G=>qH R G n).map (qci B)) l i*(jc R G).sum:=by rw [k,Qbb];exact Zo (by omega) t0
  exact Int.le_of_mul_le_mul_right this w0
 ·obtain ⟨l,G,hl,e⟩:=rowOf r hr;have hG:=Qf hl;have w0:=jp G hG;rw [e,qdc];have:(jc R G).sum*(qQ n fun i=>at2 ((Gs.map fun G=>qH R G n).map (qci B)) l i)=(jc R G).sum*B:=by
   rw [<- qco,qM (g:=fun i=>B*qF R G i) fun i hi=>by rw [Vb];exact atD hl hi,qco,tsum G hG,Vb]
  exact Qao (by omega) this
 ·have hs':s<R.length:=by simpa using hs
  have e1:R[s]?=some R[s]:=Qc hs';rw [qbs e1];by_cases ea:(qB R i).any (· != 0)=true
  ·obtain ⟨G,hG,hm⟩:=h.all i hi ea;obtain ⟨l,hl⟩:=V5.mp hG;have ll:=(Qg.mp hl).1;have w0:=jp G hG;rw [qjp ll fun l' hl' ne=>?_]
   ·rw [qoa e1 hl];have k1:=atD hl hi;have k2:=zajn h g hG hm e1;have k3:qF R G i=(qB R i).sum:=if_pos hm;rw [k3] at k1;refine Z3 (show (jc R G).sum≠0 by omega) ?_;generalize at2 ((Gs.map fun G=>qH R G n).map (qci B)) l i=x at *;generalize (jc R G).sum=w at *
    calc b*(qcm R[s] G*x)*w=b*(qcm R[s] G*(x*w)):=by grind
     _=b*B*(qcm R[s] G*(qB R i).sum):=by rw [k1];grind
     _=_:=by rw [k2];grind
   ·have el:Gs[l']?=some Gs[l']:=Qc hl';have k1:=atD el hi;have nm:i ∉ Gs[l']:=fun z=>ne (h.one _ _ _ _ i el hl z hm);rw [show qF R Gs[l'] i=0 from if_neg nm,Yn] at k1;have w1:=jp _ (Ze hl');rcases Qbi.mp k1 with z|z
    ·rw [z,Yn]
    ·omega
  ·have z:=zafx ea hs';rw [qbs e1] at z;rw [z,Qbb,Qbb,qfg fun l hl=>?_,Yn];have el:Gs[l]?=some Gs[l]:=Qc hl;have k1:=atD el hi;have pz:qF R Gs[l] i=0:=by
    unfold qF;split
    ·rename_i hm;obtain ⟨⟨_,x,hx,nx⟩,_⟩:=h.pr _ (Ze hl) i hm;exact (ea (Z9.mpr ⟨x,hx,by simpa using nx⟩)).elim
    ·rfl
   rw [pz,Yn] at k1;have w1:=jp _ (Ze hl);rcases Qbi.mp k1 with z2|z2
   ·rw [z2,Yn]
   ·omega
end
def qyx (w:Nat->Int) : ∀ m:Nat,(∀ i,i<m->0<w i) -> ∃ Q:Int,0<Q /\ ∀ i,i<m->w i∣Q
 | 0,_=>⟨1,by decide,fun i hi=>by omega⟩
 | m+1,h=>by
  obtain ⟨Q,q0,hQ⟩:=qyx w m fun i hi=>h i (by omega);refine ⟨Q*w m,Zm q0 (h m (by omega)),fun i hi=>?_⟩;by_cases z:i=m
  ·subst z;exact Qcl _ _
  ·exact Jp (hQ i (by omega)) (Qhx _ _)
def qqj (J:List (List Int)) (i:Nat):Int:=qQ J.length fun s=>at2 J s i
structure Ind (J:List (List Int)) (m:Nat):Prop where
 p : ∀ i,i<m->0<qqj J i
 d : ∀ i j,i<m->j<m->(∀ s,s<J.length->at2 J s i*qqj J j=at2 J s j*qqj J i)->i=j
section
variable {b c:Int}{J K:List (List Int)}{m n:Nat}{B C:Int}{D E:List (List Int)}
end
def zakv {R:List (List Int)} (hn : ∀ r ∈ R,∀ x ∈ r,0<=x) {n:Nat}{p:Array Nat} (hp:PmN (grs R n).length p) {a b:Nat}{G G':List Nat} (ea:(p.toList.map fun i=>qcl R n i)[a]?=some G) (eb:(p.toList.map fun i=>qcl R n i)[b]?=some G') (e:nrm (jc R G)=nrm (jc R G')):a=b:=by
 have h:=qji hn n;have nd:p.toList.Nodup:=hp.p.nodup_iff.mpr Qeu;rw [Qa] at ea eb;cases e1:p.toList[a]? with
 | none=>rw [e1] at ea;cases ea
 | some i =>
  cases e2:p.toList[b]? with
  | none=>rw [e2] at eb;cases eb
  | some j =>
   rw [e1] at ea;rw [e2] at eb;cases ea;cases eb;have hi:i<(grs R n).length:=Zp.mp (hp.p.mem_iff.mp (Qf e1));have hj:j<(grs R n).length:=Zp.mp (hp.p.mem_iff.mp (Qf e2));have at_ : ∀ {i:Nat} (hi:i<(grs R n).length),nrm (jc R (qcl R n i))=(grs R n)[i].1:=fun {i} hi=>by
    have e:qcl R n i=(grs R n)[i].2:=by unfold qcl;rw [Qc hi];rfl
    have m:=Ze hi;rw [e];exact (qtg (h.ne _ m) (h.me _ m)).1
   have e:nrm (jc R (qcl R n i))=nrm (jc R (qcl R n j)):=e;rw [at_ hi,at_ hj] at e;have ij:i=j:=by
    refine (Qac (i:=i) (j:=j) (by simpa using hi) h.ky).mp ?_;rw [Qa,Qa,Qc hi,Qc hj];exact congrArg some e
   subst ij;exact (Qac (Qg.mp e1).1 nd).mp (e1.trans e2.symm)
section
variable {b c:Int}{R S:List (List Int)}{m n:Nat}{Gs Hs:List (List Nat)}
def GrsOf.ok (hT:Tab b R m) (h:GrsOf R m Gs):GsOk R m Gs/\GsPart R m Gs:=by
 obtain ⟨p,hp,hs,rfl⟩:=h;exact ⟨zald hT.nn hp,zajw hT.nn hp⟩
def qpe {G:List Nat}{l s:Nat} (hl:Gs[l]?=some G) (hs:s<R.length):(jc R G).getD s 0=at2 (R.map (qbh Gs)) s l:=by
 rw [qoa (Qc hs) hl,Q7];unfold jc;rw [Qa,Qc hs];rfl
def qkd {G:List Nat}{l:Nat} (hl:Gs[l]?=some G):qqj (R.map (qbh Gs)) l=(jc R G).sum:=by
 unfold qqj;rw [<- qdc]
 congr 1
 refine Z1 fun s=>?_;rw [Qa];by_cases hs:s<R.length
 ·rw [Q5 (by simpa using hs)];show some (at2 (R.map (qbh Gs)) s l)=_;rw [<- qpe hl hs,Qc (by rw [qew];exact hs),Q7,Qc (by rw [qew];exact hs)];rfl
 ·rw [Qy (by simp;omega),Qy (by rw [qew];omega)];rfl
def GrsOf.ind (hT:Tab b R m) (h:GrsOf R m Gs):Ind (R.map (qbh Gs)) Gs.length:=by
 have ok:=(h.ok hT).1;have at_ : ∀ {i:Nat} (hi:i<Gs.length),Gs[i]?=some Gs[i]:=fun hi=>Qc hi;refine ⟨fun i hi=>?_,fun i j hi hj he=>?_⟩
 ·rw [qkd (at_ hi)];exact (qme hT ok (Ze hi)).1
 ·have w1:=(qme hT ok (Ze hi)).1;have w2:=(qme hT ok (Ze hj)).1;have e:nrm (jc R Gs[i])=nrm (jc R Gs[j]):=by
   refine qnk (ok.co _ (Ze hi)) (ok.co _ (Ze hj)) (by rw [qew,qew]) fun s t x y u v hx hy hu hv=>?_;have hs:s<R.length:=by rw [<- qew R Gs[i]];exact (Qg.mp hx).1
   have ht:t<R.length:=by rw [<- qew R Gs[i]];exact (Qg.mp hy).1
   have r1:=he s (by simpa using hs);have r2:=he t (by simpa using ht);rw [qkd (at_ hi),qkd (at_ hj),<- qpe (at_ hi) hs,<- qpe (at_ hj) hs,Q7,Q7,hx,hu] at r1;rw [qkd (at_ hi),qkd (at_ hj),<- qpe (at_ hi) ht,<- qpe (at_ hj) ht,Q7,Q7,hy,hv] at r2;have r1:x*(jc R Gs[j]).sum=u*(jc R Gs[i]).sum:=r1;have r2:y*(jc R Gs[j]).sum=v*(jc R Gs[i]).sum:=r2;generalize (jc R Gs[i]).sum=w at *;generalize (jc R Gs[j]).sum=z at *;refine Z3 (show w*z≠0 from Qih (Zm w1 w2)) ?_
   calc x*v*(w*z)=(x*z)*(v*w):=by grind
    _=(u*w)*(y*z):=by rw [r1,r2]
    _=_:=by grind
  obtain ⟨p,hp,_,eG⟩:=h;exact zakv hT.nn hp (eG ▸ at_ hi) (eG ▸ at_ hj) e
end
def Ind.low {b:Int}{J:List (List Int)}{m:Nat} (hJ:Tab b J m) (Jn:J≠[]) (h:Ind J m):Ind (qaw J (qE J)) m:=by
 obtain ⟨g,g0,_,e2⟩:=qxk hJ Jn;have el:(qaw J (qE J)).length=J.length:=by simp [qaw]
 have ec : ∀ i,g*qqj (qaw J (qE J)) i=qqj J i:=fun i=>by
  unfold qqj;rw [el,<- qco];exact qM fun s _=>e2 s i
 refine ⟨fun i hi=>?_,fun i j hi hj e=>h.d i j hi hj fun s hs=>?_⟩
 ·have:=h.p i hi;rw [<- ec] at this;exact Qdt (by rw [Yn];exact this) (J7 g0)
 ·have:=e s (by omega);rw [<- e2 s i,<- e2 s j,<- ec i,<- ec j]
  calc g*at2 (qaw J (qE J)) s i*(g*qqj (qaw J (qE J)) j)=g*g*(at2 (qaw J (qE J)) s i*qqj (qaw J (qE J)) j):=by grind
   _=_:=by rw [this];grind
structure Frm (b:Int) (R:List (List Int)) (n:Nat) (f:Int) (T:List (List Int)) (k:Nat):Prop where
 g : ∃ Gs,GrsOf R n Gs/\qxy b R Gs=qL f T
 gls:Gls f T k
 len:T.length=R.length
 k1:1<=k
 kn:k<=n
 fb:f<=b
 ind:Ind T k
 d1 : ∃ B D,Dul b R n f T k B D
 d2 : ∃ B D,Dul f T k b R n B D
def frm {b:Int}{R:List (List Int)}{n:Nat}{Gs:List (List Nat)} (hT:Tab b R n) (hR:R≠[]) (hG:GrsOf R n Gs) : ∃ f T k,qxy b R Gs=qL f T/\Frm b R n f T k:=by
 obtain ⟨ok,pt⟩:=hG.ok hT;have b0:=hT.pos;have tJ:=jTab hT ok;have Jn:R.map (qbh Gs)≠[]:=by simpa using hR
 have g:=tJ.gls Jn;have gp:=g.t.pos;obtain ⟨⟨_,_,d1⟩,⟨_,_,d2⟩⟩:(∃ B D,Dul b (R.map (qbh Gs)) Gs.length (b/qE (R.map (qbh Gs))) (qaw (R.map (qbh Gs)) (qE (R.map (qbh Gs)))) Gs.length B D) /\ ∃ B D,Dul (b/qE (R.map (qbh Gs))) (qaw (R.map (qbh Gs)) (qE (R.map (qbh Gs)))) Gs.length b (R.map (qbh Gs)) Gs.length B D:=by
  obtain ⟨g,g0,e1,e2⟩:=qxk tJ Jn;refine ⟨⟨_,_,Dul.same fun s j _ _=>?_⟩,⟨_,_,Dul.same fun s j _ _=>?_⟩⟩
  ·rw [<- e2 s j];generalize at2 (qaw (R.map (qbh Gs)) (qE (R.map (qbh Gs)))) s j=x;generalize b/qE (R.map (qbh Gs))=b' at e1;rw [<- e1];grind
  ·rw [<- e2 s j];generalize at2 (qaw (R.map (qbh Gs)) (qE (R.map (qbh Gs)))) s j=x;generalize b/qE (R.map (qbh Gs))=b' at e1;rw [<- e1];grind
 obtain ⟨Q,q0,hQ⟩:=qyx (fun i=>(jc R ((Gs[i]?).getD [])).sum) Gs.length fun i hi=>by
  show 0<(jc R ((Gs[i]?).getD [])).sum;rw [Qc hi];exact (qme hT ok (Ze hi)).1
 have J1:=zaae hT hR ok pt;have J2:=qxf hT hR ok pt q0 fun r hr x hx=>by
  obtain ⟨G,hG,rfl⟩:=Ql.mp hr;obtain ⟨i,hi⟩:=V5.mp hG;obtain ⟨j,_,rfl⟩:=Ql.mp hx;have:=hQ i (Qg.mp hi).1;rw [hi] at this;exact Jp ⟨_,((Vb _ _).trans (qsu _ _)).symm⟩ this
 have lT:(qaw (R.map (qbh Gs)) (qE (R.map (qbh Gs)))).length=R.length:=by simp [qaw]
 have k1:1<=Gs.length:=Qda.mpr (zakz hT hR ok);exact ⟨_,_,Gs.length,rfl,⟨Gs,hG,rfl⟩,g,lT,k1,ok.len,Jt _ (by omega),(hG.ind hT).low tJ Jn,⟨_,_,J1.trans (by omega) (by simp) d1⟩,⟨_,_,d2.trans (by omega) (by simp [qaw]) J2⟩⟩
def zacy {b c:Int}{R S:List (List Int)} (h:qL b R=qL c S):b=c/\R=S:=by
 have inj : ∀ r s:List Int,qdg r=qdg s->r=s:=fun r s h=>by
  have h:=Qev h;exact (Qhe fun x y e=>Qjn e).mp h
 have h:=Qev h;have h1:=Qhd h;refine ⟨Qjn h1.1,(Qhe inj).mp (Qev (Qhd h1.2).1)⟩
def Gls.wide {f:Int}{T:List (List Int)}{k l:Nat} (hT:T≠[]) (h1:Gls f T k) (h2:Gls f T l):k=l:=by
 obtain ⟨r,R,e⟩:=Zq hT;rw [<- h1.t.len r (by rw [e];simp),h2.t.len r (by rw [e];simp)]
section
variable {b c f g:Int}{R S T U:List (List Int)}{m n k l:Nat}
end
def crn (f:Int) (S:List (Int×Int)) (i:Nat):Qh :=.tuple [dSh (shT (sX S i) f) (shB (sX S i) f),dSh (shT (sY S i) f) (shB (sY S i) f)]
def zaen {T:List (List Int)} (h:T.length=2) (j:Nat):(qB T j).map Q2=[.int (qv T j).1,.int (qv T j).2]:=by
 match T,h with
 | [r,s],_=>rfl
def Ind.stps {f:Int}{T:List (List Int)}{k:Nat} (hT:Tab f T k) (h2:T.length=2) (h:Ind T k):Stps ((Qx k).map (qv T)):=by
 have c2 : ∀ j,qqj T j=at2 T 0 j+at2 T 1 j:=fun j=>by
  unfold qqj;rw [h2];show (0+at2 T 0 j)+at2 T 1 j=_;omega
 have at_ : ∀ {i:Nat}{a:Int×Int},((Qx k).map (qv T))[i]?=some a->i<k/\a=qv T i:=fun {i a} e=>by
  have hi:i<k:=by have:=(Qg.mp e).1;simpa using this
  rw [Qa,Q5 hi] at e;exact ⟨hi,(Qn e).symm⟩
 refine ⟨fun c hc=>?_,fun i j a b ha hb ne e=>?_⟩
 ·obtain ⟨j,_,rfl⟩:=Ql.mp hc;exact ⟨qcn hT.nn 0 j,qcn hT.nn 1 j⟩
 ·obtain ⟨hi,rfl⟩:=at_ ha;obtain ⟨hj,rfl⟩:=at_ hb;have e:at2 T 1 i*at2 T 0 j=at2 T 1 j*at2 T 0 i:=e;refine ne (h.d i j hi hj fun s hs=>?_);rw [c2,c2];have:s=0\/s=1:=by omega
  rcases this with rfl|rfl
  ·grind
  ·grind
def zais {f:Int} (h:1<=f):shT 0 f=0/\shB 0 f=1:=by
 obtain ⟨s,e⟩:=qck (t:=0) (b:=f) (by omega);rw [Qbb] at e;have t0:shT 0 f=0:=by
  rcases Qbi.mp e with z|z
  ·exact z
  ·omega
 have g:=s.gcd;have q:=s.pos;rw [t0,Int.gcd_zero_left] at g;exact ⟨t0,by omega⟩
def zabb {f:Int}{T:List (List Int)}{k:Nat} (hT:Tab f T k) {m:Nat} (hz:intBits f<=m) (j:Nat):intBits (qv T j).1<=m/\intBits (qv T j).2<=m:=by
 have le : ∀ s,0<=at2 T s j/\at2 T s j<=f:=fun s=>by
  refine ⟨qcn hT.nn s j,?_⟩;have f1:=hT.pos;by_cases hs:s<T.length
  ·rw [qbs (Qc hs)];cases e:T[s][j]? with
   | none=>show (0:Int)<=f;omega
   | some x=>exact (hT.le (Ze hs) (Qf e)).2
  ·have e:at2 T s j=0:=by unfold at2;rw [Qy (l:=T) (by omega)];rfl
   rw [e];omega
 exact ⟨qjw (le 0).1 (le 0).2 hz,qjw (le 1).1 (le 1).2 hz⟩
def qov (ds:List Qh) (q:List Qh->Prop):Prop := ∃ (b:Int) (R:List (List Int)) (n:Nat),ds=[qL b R]/\(Tab b R n/\R.length=2/\1<=n/\n<=12/\intBits b<=200) /\ ∀ f T k p,Frm b R n f T k->PmN k p->(∀ i j,i<j->j<k->stp (qv T (p.getD i 0)) (qv T (p.getD j 0))=true)->q ((Qx (k+1)).map (crn f (p.toList.map (qv T))))
def qdo:FnScope ["glass","form","x","y","corners","step"] ["glass"] (defScope qni):=sc0
def zadl (F:Def K mg "curve" qni ["glass"]) (T:Txt K mg cs)
 (O_share:Ok P w K mg base "share" 3 ["top","bottom"] (PSp K qgv))
 (O_stands:Ok P w K mg base "stands" 1 ["glass"] (PSp K qkm))
 (O_signs:Ok P w K mg base "signs" 1 ["glass"] (PSp K qgs))
 (O_column:Ok P w K mg base "column" 1 ["rows","place"] (FSp K qhm))
 (O_least:Ok P w K mg base "least" 5 ["glass"] (qfq [cs.tb,cs.tb1] (PSp K qvj)))
 (O_steepest_first:Ok P w K mg base "steepest_first" 3 ["steps"] (qfq [cs.tb,cs.tb1] (FSp K qel)))
 : Ok P w K mg base "curve" 6 ["glass"] (qfq [cs.tb,cs.tb1] (FSp K qov)):=by
  refine F.tvokF qdo (by rintro ds q ⟨_,_,_,h,_⟩;rw [h];rfl) fun f cdv A outer s H E hr hTb ds q h=>?_;obtain ⟨b,R,n,rfl,⟨hT,r2,n1,n2,zb⟩,h⟩:=h;refine ⟨_,(qe (qas (qO (qsl hr.units) (qr O_stands.c hr.m (qc (qa 0) qf)) qd) qff qA)
   (qe (ql (i:=1) qdo.nd (qh (qr (O_least.t hTb) hr.m (qc (qa 0) qf)) qd))
   (qe (ql (i:=2) qdo.nd qd)
   (qe (ql (i:=3) qdo.nd qd)
   (qe (qca (i:=4) qdo.nd (qR (qc (qat (qc (qr O_share.c hr.m (qc qd (qc qd qf))) (qc (qr O_share.c hr.m (qc qd (qc qd qf))) qf))) qf)))
   (qe (qab rfl (qG (qy (qfc (O_steepest_first.t hTb) hr.m (qc (qy (qaa (caps:=["form"]) (own:=["sign"]) (ix:=[1]) rfl ⟨rfl,rfl,rfl,rfl,rfl,rfl⟩ (qai T.range_ (qr O_signs.c hr.m (qc (qa 1) qf))) (fun _ _ _ _=>(qo (i:=1) (show Z7 (["form","sign"]:List Str) by decide))) (fun _ _ _ _=>(qy (qfc O_column.c hr.m (qc (qh (qa 0) qd) (qc (qa 1) qf))))))) qf)))) (qo (i:=5) qdo.nd) (qe (zagd (i:=2) qdo.nd (qh (qa 5) qd))
   (qe (zagd (i:=3) qdo.nd (qh (qa 5) qd))
   (qg (qaj 4 (qat (qc (qr O_share.c hr.m (qc (qa 2) (qc (qh (qa 1) qd) qf))) (qc (qr O_share.c hr.m (qc (qa 3) (qc (qh (qa 1) qd) qf))) qf))))))))
   (qg (qhx 4)))))))),?_⟩
  have b0:=hT.pos;have Rn:R≠[]:=fun z=>by rw [z] at r2;simp at r2
  refine ⟨b,R,rfl,rfl,rfl,qig (fun z=>(z (by omega)).elim) (fun _=>?_)⟩;refine ⟨b,R,n,rfl,⟨hT,Rn,by omega,n1,n2,zb⟩,fun Gs B hG _=>?_⟩;obtain ⟨f',T',k,ef,fr⟩:=frm hT Rn hG;have tt:=fr.gls.t;have lT:=fr.len;have k1:=fr.k1;have kn:=fr.kn;have fb:=fr.fb;have f0:=tt.pos;have zf:intBits f'<=200:=qjw (by omega) fb zb;have t2:T'.length=2:=by omega
  obtain ⟨r0,T0,eT⟩:=Zq (show T'≠[] from fun z=>by rw [z] at t2;simp at t2);have lr:r0.length=k:=tt.len r0 (by rw [eT];simp);refine ⟨qL f' T',by rw [<- ef];rfl,⟨by decide,by decide⟩,⟨by decide,by decide⟩,szl,szl,f',r0,T0,by rw [eT],?_⟩;rw [lr];have lC:((Qx k).map (qv T')).length=k:=by simp
  refine ⟨⟨by omega,by omega⟩,qN (((Qx k).map (qv T')).map dC) (by simp [qP]) (qj (by simp;omega)) (fun e => ∃ s,e=[.val (qL f' T'),s]) ⟨_,rfl⟩ ?_ ?_⟩
  ·rintro i x ys e hx hys ⟨s,rfl⟩;obtain ⟨hi',rfl⟩:=qan hx;rw [Vc];have hi2:i<k:=by omega
   refine ⟨_,rfl,_,T',i,rfl,⟨qfe _,by omega,fun r hr=>by rw [tt.len r hr];exact hi2⟩,qw ?_ hys,_,rfl⟩;rw [Qa,Qa,Q5 hi2,zaen t2];rfl
  refine ⟨(Qx k).map (qv T'),rfl,⟨by rw [lC];omega,fun c hc=>?_,fr.ind.stps tt t2⟩,fun p hp hs=>?_⟩
  ·obtain ⟨j,_,rfl⟩:=Ql.mp hc;have:=zabb tt zf j;exact ⟨qi this.1 (by decide),qi this.2 (by decide)⟩
  rw [lC] at hp hs;have gd : ∀ j,j<k->((Qx k).map (qv T')).getD j (0,0)=qv T' j:=fun j hj=>by
   rw [Q7,Qa,Q5 hj];rfl
  obtain ⟨S,eS⟩ : ∃ S,S=p.toList.map (qv T'):=⟨_,rfl⟩
  have eL:(p.toList.map fun i=>dC (((Qx k).map (qv T')).getD i (0,0)))=S.map dC:=by
   rw [eS,Zz];exact Zg fun j hj=>by rw [gd j (Zp.mp (hp.p.mem_iff.mp hj))];rfl
  have lS:S.length=k:=by rw [eS,Qe,Zf,hp.s]
  rw [eL];obtain ⟨e0,e1⟩:=zais f0;have d0:shT 0 1=0/\shB 0 1=1:=by decide
  refine ⟨fun i e => ∃ t,e=[.val (qL b R),.val (qL f' T'),.val (.int (sX S i)),.val (.int (sY S i)),.own ((Qx (i+1)).map (crn f' S)),t],⟨.non,?_⟩,?_,?_⟩
  ·have c0:crn f' S 0 = .tuple [dSh (shT 0 1) (shB 0 1),dSh (shT 0 1) (shB 0 1)]:=by
    show Qkg [dSh (shT 0 f') (shB 0 f'),dSh (shT 0 f') (shB 0 f')]=_;rw [e0,e1,d0.1,d0.2]
   show _=[_,_,_,_,Sl.own [crn f' S 0],_];rw [c0];rfl
  ·rintro i x e hx ⟨t,rfl⟩;rw [Qa] at hx;cases ec:S[i]? with
   | none=>rw [ec] at hx;cases hx
   | some c =>
    rw [ec] at hx;cases hx;obtain ⟨x1,x2⟩:=qcs ec;have hi:i<k:=by rw [<- lS];exact (Qg.mp ec).1
    refine ⟨sX S i,rfl,_,rfl,c.1,rfl,sY S i,rfl,_,rfl,c.2,rfl,rfl,_,rfl,⟨by omega,qi zf (by decide)⟩,_,rfl,⟨by omega,qi zf (by decide)⟩,szl,rfl,qj ?_,.val (dC c),?_⟩
    ·show ((Qx (i+1)).map (crn f' S)).length<=1000;simp;omega
    ·rw [x1,x2,Yx (n:=i+1),Q9];show _=[_,_,_,_,Sl.own (_++[crn f' S (i+1)]),_];unfold crn;rw [x1,x2];rfl
  ·rintro e ⟨t,rfl⟩;rw [Qe,lS];refine ⟨_,rfl,?_⟩;rw [eS];refine h f' T' k p fr hp fun i j hij hj=>?_;have:=hs i j hij hj
   rwa [gd _ (hp.bd (by omega)),gd _ (hp.bd hj)] at this
structure Crv (b:Int) (D:List (Int×Int)):Prop where
 b1:1<=b
 p : ∀ c ∈ D,Stp1 c
 s:D.Pairwise fun a b=>stp a b=true
 ex:sX D D.length=b
 ey:sY D D.length=b
section
variable {b:Int}{D:List (Int×Int)}
def qry (h : ∀ c ∈ D,Stp1 c) {i j:Nat} (hij:i<=j):sX D i<=sX D j/\sY D i<=sY D j:=by
 obtain ⟨d,rfl⟩:=Qep hij;clear hij
 induction d with
 | zero=>exact ⟨Y6 _,Y6 _⟩
 | succ d ih =>
  rw [<- Qka];cases ec:D[i+d]? with
  | none =>
   have e:D.take (i+d+1)=D.take (i+d):=by rw [Zs,ec];simp
   unfold sX sY at ih ⊢;rw [e];exact ih
  | some c =>
   obtain ⟨a1,a2⟩:=qcs ec;have hc:=h c (Qf ec);have:=hc.x;have:=hc.y;omega
def Crv.le (h:Crv b D) {i:Nat} (hi:i<=D.length):(0<=sX D i/\sX D i<=b)/\0<=sY D i/\sY D i<=b:=by
 have a:=qry h.p (Vg i);have c:=qry h.p hi;rw [h.ex,h.ey] at c;have z1:sX D 0=0:=rfl;have z2:sY D 0=0:=rfl;omega
def Crv.on (h:Crv b D) {i:Nat}{c:Int×Int} (hi:1<=i) (hc:D[i]?=some c):0<c.1:=by
 have il:=(Qg.mp hc).1;have e0:D[0]?=some (D[0]'(by omega)):=Qc _;have q:=Z6.mp h.s 0 i (by omega) il (by omega);have ec:D[i]=c:=Qn ((Qc il).symm.trans hc);rw [ec,qag] at q;unfold crs at q;have p0:=h.p _ (Qf e0);have pc:=h.p _ (Qf hc);have x1:0<=c.2*D[0].1:=Zo pc.y p0.x;have:=pc.x;rcases Yu 0 c.1 with z|z
 ·exact z
 ·have:c.1=0:=by omega
  rw [this,Yn] at q;omega
def Crv.ne (h:Crv b D):1<=D.length:=by
 cases D with
 | nil=>have:=h.ex;have:=h.b1;simp [sX] at *;omega
 | cons c D=>simp
def Crv.last (h:Crv b D) {c:Int×Int} (hc:D[D.length-1]?=some c):0<c.1:=by
 by_cases z:1<=D.length-1
 ·exact h.on z hc
 ·have l:=h.ne;have e1:D.length=0+1:=by omega
  have e:=h.ex;rw [e1,Qdq] at hc;rw [e1,(qcs hc).1] at e;have z1:sX D 0=0:=rfl;have:=h.b1;omega
def Crv.under (h:Crv b D) {m:Nat}{c:Int×Int} (hc:D[m]?=some c) {i:Nat} (hi:i<=D.length):(sY D i-sY D m)*c.1<=c.2*(sX D i-sX D m):=by
 have ml:=(Qg.mp hc).1;have em:D[m]=c:=Qn ((Qc ml).symm.trans hc);have pc:=h.p _ (Qf hc);have at_ : ∀ j,j<D.length -> ∃ d,D[j]?=some d/\(m<=j->d.2*c.1<=c.2*d.1)/\(j<=m->c.2*d.1<=d.2*c.1):=fun j hj=>by
  refine ⟨D[j],Qc hj,fun hmj=>?_,fun hmj=>?_⟩
  ·rcases J6 hmj with z|z
   ·have q:=Z6.mp h.s m j ml hj z;rw [em,qag] at q;unfold crs at q;omega
   ·subst z;rw [em];exact Y6 _
  ·rcases J6 hmj with z|z
   ·have q:=Z6.mp h.s j m hj ml z;rw [em,qag] at q;unfold crs at q;omega
   ·subst z;rw [em];exact Y6 _
 rcases Nat.le_total m i with z|z
 ·obtain ⟨d,rfl⟩:=Qep z;clear z
  induction d with
  | zero=>simp
  | succ d ih =>
   have ih:=ih (by omega);obtain ⟨e,he,l1,_⟩:=at_ (m+d) (by omega);obtain ⟨a1,a2⟩:=qcs he;rw [<- Qka,a1,a2];have l1:=l1 (by omega);have r1:(sY D (m+d)+e.2-sY D m)*c.1=(sY D (m+d)-sY D m)*c.1+e.2*c.1:=by grind
   have r2:c.2*(sX D (m+d)+e.1-sX D m)=c.2*(sX D (m+d)-sX D m)+c.2*e.1:=by grind
   rw [r1,r2];omega
 ·have key : ∀ d,d<=m->(sY D (m-d)-sY D m)*c.1<=c.2*(sX D (m-d)-sX D m):=fun d=>by
   induction d with
   | zero=>intro _;simp
   | succ d ih =>
    intro hd;have ih:=ih (by omega);obtain ⟨e,he,_,l2⟩:=at_ (m-(d+1)) (by omega);obtain ⟨a1,a2⟩:=qcs he;have em:m-(d+1)+1=m-d:=by omega
    rw [em] at a1 a2;rw [a1,a2] at ih;have l2:=l2 (by omega);have r1:(sY D (m-(d+1))+e.2-sY D m)*c.1=(sY D (m-(d+1))-sY D m)*c.1+e.2*c.1:=by grind
    have r2:c.2*(sX D (m-(d+1))+e.1-sX D m)=c.2*(sX D (m-(d+1))-sX D m)+c.2*e.1:=by grind
    rw [r1,r2] at ih;omega
  have:=key (m-i) (by omega);have e:m-(m-i)=i:=by omega
  rw [e] at this;exact this
end
def qnu {P:Nat->Bool} (h : ∀ i j,i<=j->P j=true->P i=true) : ∀ k:Nat,∃ m,m<=k/\(Qx k).filter P=Qx m/\(∀ i,i<m->P i=true)/\(m<k->P m=false)
 | 0=>⟨0,Qr _,rfl,fun i hi=>by omega,fun hi=>by omega⟩
 | k+1=>by
  obtain ⟨m,a,b,c,d⟩:=qnu h k;rw [Yx,Yc,b];rcases J6 a with z|z
  ·have f:P k=false:=by
    cases q:P k with
    | false=>rfl
    | true=>have:=h m k a q;rw [d z] at this;cases this
   refine ⟨m,by omega,?_,c,fun _=>d z⟩;simp [f]
  ·subst z;cases q:P m with
   | false=>exact ⟨m,by omega,by simp [q],c,fun _=>q⟩
   | true =>
    refine ⟨m+1,by omega,by rw [Yx];simp [q],fun i hi=>?_,fun hi=>by omega⟩;rcases J6 (Nat.le_of_lt_succ hi) with w|w
    ·exact c i w
    ·rw [w];exact q
def hgN (b:Int) (D:List (Int×Int)) (m:Nat) (d:Int×Int) (t c:Int):Int:=sY D m*(d.1*c)+d.2*(t*b-sX D m*c)
def hgM (b:Int) (d:Int×Int) (c:Int):Int:=b*(d.1*c)
def dPt (b x y:Int):Qh :=.tuple [dSh (shT x b) (shB x b),dSh (shT y b) (shB y b)]
def qic {t u b c:Int} (hb:0<b) (hc:0<c) (h:t*c=u*b):shT t b=shT u c/\shB t b=shB u c:=by
 obtain ⟨s1,e1⟩:=qck (t:=t) (b:=b) (by omega);obtain ⟨s2,e2⟩:=qck (t:=u) (b:=c) (by omega);refine zaia s1 s2 ?_;refine Z3 (show b*c≠0 from Qih (Zm hb hc)) ?_
 calc shT t b*shB u c*(b*c)=(shT t b*b)*(shB u c*c):=by grind
  _=(t*shB t b)*(shB u c*c):=by rw [e1]
  _=(t*c)*shB t b*shB u c:=by grind
  _=(u*b)*shB t b*shB u c:=by rw [h]
  _=(u*shB u c)*(shB t b*b):=by grind
  _=(shT u c*c)*(shB t b*b):=by rw [e2]
  _=_:=by grind
def qzr {t u b c:Int} (hb:0<b) (hc:0<c):shT (shT t b*shB u c-shT u c*shB t b) (shB t b*shB u c)=shT (t*c-u*b) (b*c)/\shB (shT t b*shB u c-shT u c*shB t b) (shB t b*shB u c)=shB (t*c-u*b) (b*c):=by
 obtain ⟨s1,e1⟩:=qck (t:=t) (b:=b) (by omega);obtain ⟨s2,e2⟩:=qck (t:=u) (b:=c) (by omega);have p1:=s1.pos;have p2:=s2.pos;refine qic (Zm (by omega) (by omega)) (Zm hb hc) ?_
 calc (shT t b*shB u c-shT u c*shB t b)*(b*c)=(shT t b*b)*(shB u c*c)-(shT u c*c)*(shB t b*b):=by grind
  _=_:=by rw [e1,e2];grind
def zajg {t u b c:Int} (hb:0<b) (hc:0<c):shT (shT t b*shB u c+shT u c*shB t b) (shB t b*shB u c)=shT (t*c+u*b) (b*c)/\shB (shT t b*shB u c+shT u c*shB t b) (shB t b*shB u c)=shB (t*c+u*b) (b*c):=by
 obtain ⟨s1,e1⟩:=qck (t:=t) (b:=b) (by omega);obtain ⟨s2,e2⟩:=qck (t:=u) (b:=c) (by omega);have p1:=s1.pos;have p2:=s2.pos;refine qic (Zm (by omega) (by omega)) (Zm hb hc) ?_
 calc (shT t b*shB u c+shT u c*shB t b)*(b*c)=(shT t b*b)*(shB u c*c)+(shT u c*c)*(shB t b*b):=by grind
  _=_:=by rw [e1,e2];grind
def zahs {t u b c:Int} (hb:0<b) (hc:0<c):shT (shT t b*shT u c) (shB t b*shB u c)=shT (t*u) (b*c)/\shB (shT t b*shT u c) (shB t b*shB u c)=shB (t*u) (b*c):=by
 obtain ⟨s1,e1⟩:=qck (t:=t) (b:=b) (by omega);obtain ⟨s2,e2⟩:=qck (t:=u) (b:=c) (by omega);have p1:=s1.pos;have p2:=s2.pos;refine qic (Zm (by omega) (by omega)) (Zm hb hc) ?_
 calc shT t b*shT u c*(b*c)=(shT t b*b)*(shT u c*c):=by grind
  _=_:=by rw [e1,e2];grind
def zakb {t u b:Int} (hb:0<b) (hu:0<u):0<shB t b*shT u b/\shT (shT t b*shB u b) (shB t b*shT u b)=shT t u/\shB (shT t b*shB u b) (shB t b*shT u b)=shB t u:=by
 obtain ⟨s1,e1⟩:=qck (t:=t) (b:=b) (by omega);obtain ⟨s2,e2⟩:=qck (t:=u) (b:=b) (by omega);have p1:=s1.pos;have p2:=s2.pos;have u0:0<shT u b:=by
  have:0<shT u b*b:=by rw [e2];exact Zm hu (by omega)
  rcases Yu 0 (shT u b) with z|z
  ·exact z
  ·have:=Zo (show 0 <= - shT u b by omega) (show 0<=b by omega);rw [Qje] at this;omega
 have q0:=Zm (show 0<shB t b by omega) u0;refine ⟨q0,qic q0 hu ?_⟩;refine Z3 (show b≠0 by omega) ?_
 calc shT t b*shB u b*u*b=(shT t b*b)*(shB u b*u):=by grind
  _=(t*shB t b)*(u*shB u b):=by rw [e1];grind
  _=t*shB t b*(shT u b*b):=by rw [e2]
  _=_:=by grind
def qzg {t u b:Int} (hb:0<b):shT (shT t b*shB u b-shT u b*shB t b) (shB t b*shB u b)=shT (t-u) b/\shB (shT t b*shB u b-shT u b*shB t b) (shB t b*shB u b)=shB (t-u) b:=by
 obtain ⟨a1,a2⟩:=qzr (t:=t) (u:=u) hb hb;obtain ⟨c1,c2⟩:=qic (t:=t*b-u*b) (u:=t-u) (Zm hb hb) hb (by grind);exact ⟨a1.trans c1,a2.trans c2⟩
def qz {x b:Int}{m:Nat} (h0:0<=x) (h:x<=b) (hz:intBits b<=m):intBits x<=m:=Yj (by omega) hz
def zakj {t u b c:Int} (hb:0<b) (hc:0<c):shT t b*shB u c<shT u c*shB t b↔t*c<u*b:=by
 obtain ⟨s1,e1⟩:=qck (t:=t) (b:=b) (by omega);obtain ⟨s2,e2⟩:=qck (t:=u) (b:=c) (by omega);have p1:=s1.pos;have p2:=s2.pos;have bc:=Zm hb hc;have qq:=Zm (show 0<shB t b by omega) (show 0<shB u c by omega);have k1:shT t b*shB u c*(b*c)=(t*c)*(shB t b*shB u c):=by
  calc shT t b*shB u c*(b*c)=(shT t b*b)*(shB u c*c):=by grind
   _=_:=by rw [e1];grind
 have k2:shT u c*shB t b*(b*c)=(u*b)*(shB t b*shB u c):=by
  calc shT u c*shB t b*(b*c)=(shT u c*c)*(shB t b*b):=by grind
   _=_:=by rw [e2];grind
 constructor
 ·intro h;have:=Y7 h bc;rw [k1,k2] at this;exact Vd this (by omega)
 ·intro h;have:=Y7 h qq;rw [<- k1,<- k2] at this;exact Vd this (by omega)
def zaek {α:Type} (L:List α) (h:1<=L.length):qqx L none (some (-1))=L.take (L.length-1):=by
 unfold qqx HT.sIx;have e : ¬ (0<=(-1:Int)):=by decide
 simp [e]
 congr 1
 omega
def crP (b:Int) (D:List (Int×Int)) (i:Nat):Qh:=dPt b (sX D i) (sY D i)
def qna (ds:List Qh) (q:Qh->Prop):Prop := ∃ (b:Int) (D:List (Int×Int)) (t c:Int),ds=[.list ((Qx (D.length+1)).map (crP b D)),dSh (shT t c) (shB t c)]/\((Crv b D/\D.length<=60/\intBits b<=200)/\1<=c/\0<=t/\t<=c/\intBits c<=200) /\
 ∀ m d,D[m]?=some d->0<d.1->sX D m*c<=t*b->t*b<=sX D (m+1)*c->q (.tuple [crP b D m,crP b D (m+1)])
def qoc:FnScope ["corners","x","reached"] ["corners","x"] (defScope qhg):=sc0
def qwg (F:Def K mg "line_at" qhg ["corners","x"]) (T:Txt K mg cs)
 (O_below:Ok P w K mg base "below" 4 ["one","other"] (PSp K qoj))
 : Ok P w K mg base "line_at" 5 ["corners","x"] (PSp K qna):=by
  refine F.vok qoc (by rintro ds q ⟨_,_,_,_,h,_⟩;rw [h];rfl) fun f cdv A outer s H E hr ds q h=>?_;obtain ⟨b,D,t,c,rfl,⟨⟨C,lD,zb⟩,c1,t0,tc,zc⟩,h⟩:=h;refine ⟨_,(qe (qrg (i:=2) (caps:=["x"]) (own:=["corner"]) (ix:=[1]) qoc.nd rfl ⟨rfl,rfl,rfl,rfl,rfl,rfl⟩ (qG (qy (qgw (qa 0) qhr (qdl (qmc qd))))) (fun _ _ _ _=>(qo (i:=1) (show Z7 (["x","corner"]:List Str) by decide))) (fun _ _ _ _=>(qaf (qS (qr O_below.c hr.m (qc (qa 0) (qc (qh (qa 1) qd) qf)))))) (fun _ _ _ _=>(qa 1)))
   (qg (qt (qat (qc (qh (qa 2) (qmc qd)) (qc (qh (qa 0) (qu qbx T.len_ L2.boot_len (qc (qa 2) qf))) qf)))))),?_⟩
  have k1:=C.ne;have b1:=C.b1;have zt:=qz t0 tc zc;obtain ⟨P,eP⟩ : ∃ P:Nat->Bool,P=fun j=>decide (sX D j*c<=t*b):=⟨_,rfl⟩
  intro r er;have er:r=(Qx D.length).map (crP b D):=by
   rw [er,zaek _ (by simp),Qe,Y1,Qdq,<- Qhc,List.take_range,Qdd (by omega)]
  subst er;refine ⟨qj (by simp;omega),fun i ys e=>ys=((Qx i).filter P).map (crP b D) /\ ∃ u,e=[.val (dSh (shT t c) (shB t c)),u],⟨rfl,_,rfl⟩,?_,?_⟩
  ·rintro i x ys e hx ⟨rfl,u,rfl⟩;rw [Qa] at hx;cases ei:(Qx D.length)[i]? with
   | none=>rw [ei] at hx;cases hx
   | some i' =>
    rw [ei] at hx;cases hx;have il:=(Qg.mp ei).1;rw [Y1] at il;rw [Q5 il] at ei;cases ei;obtain ⟨⟨x0,x1⟩,_⟩:=C.le (Yi il);have s1:=(qck (t:=t) (b:=c) (by omega)).1;have s2:=(qck (t:=sX D i) (b:=b) (by omega)).1;refine ⟨_,rfl,_,_,_,_,rfl,⟨⟨s1,qi (qdk zt) (by decide),qi (qeh zc) (by decide)⟩,⟨s2,qi (qdk (qz x0 x1 zb)) (by decide),qi (qeh zb) (by decide)⟩⟩,?_⟩;have lt:=zakj (t:=t) (u:=sX D i) (b:=c) (c:=b) (by omega) (by omega);by_cases w:t*b<sX D i*c
    ·refine iteZ (by rw [decide_eq_true (lt.mpr w)];rfl) ⟨?_,.val (crP b D i),rfl⟩;rw [Yx,Yc];have:P i=false:=by rw [eP];exact decide_eq_false (by omega)
     simp [this]
    ·refine iteY (by rw [decide_eq_false (fun z=>w (lt.mp z))];rfl) ⟨?_,.val (crP b D i),rfl⟩;rw [Yx,Yc];have:P i=true:=by rw [eP];exact decide_eq_true (by omega)
     simp [this]
  rintro ys e ⟨rfl,u,rfl⟩;rw [Qe,Y1];obtain ⟨m,m1,m2,m3,m4⟩:=qnu (P:=P) (fun i j hij hj=>by
   rw [eP] at hj ⊢;have:=of_decide_eq_true hj;refine decide_eq_true ?_;have:=Q6 (qry C.p hij).1 (show 0<=c by omega);omega) D.length
  rw [m2];have mp:1<=m:=by
   rcases J5 m with z|z
   ·subst z;have:=m4 (by omega);rw [eP] at this;have:=of_decide_eq_false this;have z0:sX D 0=0:=rfl;rw [z0,Qbb] at this;exact absurd (Zo t0 (show 0<=b by omega)) this
   ·exact z
  obtain ⟨m',rfl⟩ : ∃ m',m=m'+1:=⟨m-1,by omega⟩
  have hd:D[m']?=some (D[m']'(by omega)):=Qc _;obtain ⟨q1,_⟩:=qcs hd;have p1:sX D m'*c<=t*b:=by
   have:=m3 m' (by omega);rw [eP] at this;exact of_decide_eq_true this
  have fin:0<(D[m']'(by omega)).1/\t*b<=sX D (m'+1)*c:=by
   rcases J6 m1 with z|z
   ·have:=m4 z;rw [eP] at this;have:=of_decide_eq_false this;refine ⟨?_,by omega⟩;have lt:sX D m'*c<sX D (m'+1)*c:=by omega
    have:=Vd lt (by omega);omega
   ·have e:D.length-1=m':=by omega
    have hl:D[D.length-1]?=some (D[m']'(by omega)):=by rw [e];exact hd
    refine ⟨C.last hl,?_⟩;rw [z,C.ex,Vb b];exact Q6 tc (by omega)
  refine ⟨_,atI_last (by rw [Qe,Y1,Qdq,Qa,Q5 (by omega)];rfl),crP b D (m'+1),?_,szl,h m' _ hd fin.1 p1 fin.2⟩;rw [Qe,Y1];exact qbl (by rw [Qa,Q5 (by omega)];rfl)
def qus (ds:List Qh) (k:Qh->Prop):Prop := ∃ p q r s,ds=[dSh p q,dSh r s]/\(ShW p q/\ShW r s)/\k (dSh (shT (p*s+r*q) (q*s)) (shB (p*s+r*q) (q*s)))
def zaeb:FnScope ["one","other"] ["one","other"] (defScope qnd):=sc0
def zadv (F:Def K mg "added" qnd ["one","other"]) (T:Txt K mg cs)
 (O_check_shares:Ok P w K mg base "check_shares" 3 ["one","other"] (PSp K qbc))
 (O_reduced:Ok P w K mg base "reduced" 2 ["top","bottom"] (PSp K qct))
 : Ok P w K mg base "added" 4 ["one","other"] (PSp K qus):=by
  refine F.vok zaeb (by rintro ds q ⟨_,_,_,_,h,_⟩;rw [h];rfl) fun f cdv A outer s H E hr ds k h=>?_;obtain ⟨p,q,r,s,rfl,⟨hp,hr'⟩,h⟩:=h;refine ⟨_,(qe (qnp (qr O_check_shares.c hr.m (qc (qa 0) (qc (qa 1) qf))))
   (qg (qt (qr O_reduced.c hr.m (qc (qm qar (qm qC (qh (qa 0) qd) (qh (qa 1) qd)) (qm qC (qh (qa 1) qd) (qh (qa 0) qd))) (qc (qm qC (qh (qa 0) qd) (qh (qa 1) qd)) qf)))))),?_⟩
  exact ⟨p,q,r,s,rfl,⟨hp.s,hr'.s⟩,_,rfl,_,rfl,qak hp.b1 hr'.b2,_,rfl,_,rfl,qak hr'.b1 hp.b2,_,rfl,_,rfl,qak hp.b2 hr'.b2,hp.bot hr',h⟩
def qoe (ds:List Qh) (k:Qh->Prop):Prop := ∃ p q r s,ds=[dSh p q,dSh r s]/\(ShW p q/\ShW r s)/\k (dSh (shT (p*s-r*q) (q*s)) (shB (p*s-r*q) (q*s)))
def zact:FnScope ["one","other"] ["one","other"] (defScope qno):=sc0
def zacs (F:Def K mg "taken" qno ["one","other"]) (T:Txt K mg cs)
 (O_check_shares:Ok P w K mg base "check_shares" 3 ["one","other"] (PSp K qbc))
 (O_reduced:Ok P w K mg base "reduced" 2 ["top","bottom"] (PSp K qct))
 : Ok P w K mg base "taken" 4 ["one","other"] (PSp K qoe):=by
  refine F.vok zact (by rintro ds q ⟨_,_,_,_,h,_⟩;rw [h];rfl) fun f cdv A outer s H E hr ds k h=>?_;obtain ⟨p,q,r,s,rfl,⟨hp,hr'⟩,h⟩:=h;refine ⟨_,(qe (qnp (qr O_check_shares.c hr.m (qc (qa 0) (qc (qa 1) qf))))
   (qg (qt (qr O_reduced.c hr.m (qc (qm qqa (qm qC (qh (qa 0) qd) (qh (qa 1) qd)) (qm qC (qh (qa 1) qd) (qh (qa 0) qd))) (qc (qm qC (qh (qa 0) qd) (qh (qa 1) qd)) qf)))))),?_⟩
  exact ⟨p,q,r,s,rfl,⟨hp.s,hr'.s⟩,_,rfl,_,rfl,qak hp.b1 hr'.b2,_,rfl,_,rfl,qak hr'.b1 hp.b2,_,rfl,_,rfl,qak hp.b2 hr'.b2,hp.bot hr',h⟩
def qvq (ds:List Qh) (k:Qh->Prop):Prop := ∃ p q r s,ds=[dSh p q,dSh r s]/\(ShW p q/\ShW r s)/\k (dSh (shT (p*r) (q*s)) (shB (p*r) (q*s)))
def zady:FnScope ["one","other"] ["one","other"] (defScope qnh):=sc0
def zaet (F:Def K mg "times" qnh ["one","other"]) (T:Txt K mg cs)
 (O_check_shares:Ok P w K mg base "check_shares" 3 ["one","other"] (PSp K qbc))
 (O_reduced:Ok P w K mg base "reduced" 2 ["top","bottom"] (PSp K qct))
 : Ok P w K mg base "times" 4 ["one","other"] (PSp K qvq):=by
  refine F.vok zady (by rintro ds q ⟨_,_,_,_,h,_⟩;rw [h];rfl) fun f cdv A outer s H E hr ds k h=>?_;obtain ⟨p,q,r,s,rfl,⟨hp,hr'⟩,h⟩:=h;refine ⟨_,(qe (qnp (qr O_check_shares.c hr.m (qc (qa 0) (qc (qa 1) qf))))
   (qg (qt (qr O_reduced.c hr.m (qc (qm qC (qh (qa 0) qd) (qh (qa 1) qd)) (qc (qm qC (qh (qa 0) qd) (qh (qa 1) qd)) qf)))))),?_⟩
  exact ⟨p,q,r,s,rfl,⟨hp.s,hr'.s⟩,_,rfl,_,rfl,qak hp.b1 hr'.b1,_,rfl,_,rfl,qak hp.b2 hr'.b2,hp.bot hr',h⟩
def qot (ds:List Qh) (q:Qh->Prop):Prop := ∃ (b x0 y0 x1 y1:Int),ds=[.tuple [dPt b x0 y0,dPt b x1 y1]]/\(1<=b/\x0<x1/\intBits b<=200/\(0<=x0/\x1<=b)/\0<=y0/\y0<=y1/\y1<=b)/\q (dSh (shT (y1-y0) (x1-x0)) (shB (y1-y0) (x1-x0)))
def qox:FnScope ["line","run","rise"] ["line"] (defScope qmv):=sc0
def zaef (F:Def K mg "slope" qmv ["line"]) (T:Txt K mg cs)
 (O_share:Ok P w K mg base "share" 3 ["top","bottom"] (PSp K qgv))
 (O_taken:Ok P w K mg base "taken" 4 ["one","other"] (PSp K qoe))
 : Ok P w K mg base "slope" 5 ["line"] (PSp K qot):=by
  refine F.vok qox (by rintro ds q ⟨_,_,_,_,_,h,_⟩;rw [h];rfl) fun f cdv A outer s H E hr ds q h=>?_;obtain ⟨b,x0,y0,x1,y1,rfl,⟨b1,x01,zb,⟨x00,x1b⟩,y00,y01,y1b⟩,h⟩:=h;refine ⟨_,(qe (ql (i:=1) qox.nd (qr O_taken.c hr.m (qc (qh (qh (qa 0) qd) qd) (qc (qh (qh (qa 0) qd) qd) qf))))
   (qe (ql (i:=2) qox.nd (qr O_taken.c hr.m (qc (qh (qh (qa 0) qd) qd) (qc (qh (qh (qa 0) qd) qd) qf))))
   (qg (qt (qr O_share.c hr.m (qc (qm qC (qh (qa 2) qd) (qh (qa 1) qd)) (qc (qm qC (qh (qa 2) qd) (qh (qa 1) qd)) qf))))))),?_⟩
  have zz : ∀ {t:Int},0<=t->t<=b->intBits t<=4000:=fun h1 h2=>qi (qz h1 h2 zb) (by decide);have sw : ∀ {t:Int},0<=t->t<=b->ShW (shT t b) (shB t b):=fun h1 h2=>qjj (by omega) (zz h1 h2) (zz (by omega) (by omega));obtain ⟨a1,a2⟩:=qzg (t:=x1) (u:=x0) (b:=b) (by omega);obtain ⟨a3,a4⟩:=qzg (t:=y1) (u:=y0) (b:=b) (by omega);obtain ⟨d0,d1,d2⟩:=zakb (t:=y1-y0) (u:=x1-x0) (b:=b) (by omega) (by omega);refine ⟨_,rfl,_,rfl,_,rfl,_,rfl,_,_,_,_,rfl,⟨sw (by omega) (by omega),sw (by omega) (by omega)⟩,?_⟩;rw [a1,a2];refine ⟨_,rfl,_,rfl,_,rfl,_,rfl,_,_,_,_,rfl,⟨sw (by omega) (by omega),sw (by omega) (by omega)⟩,?_⟩;rw [a3,a4];have w1:=sw (t:=x1-x0) (by omega) (by omega);have w2:=sw (t:=y1-y0) (by omega) (by omega);refine ⟨_,rfl,_,rfl,qak w2.b1 w1.b2,_,rfl,_,rfl,qak w2.b2 w1.b1,?_⟩;have nz:shB (y1-y0) b*shT (x1-x0) b≠0:=by omega
  have zz2:intBits (shB (y1-y0) b*shT (x1-x0) b)<=9000:=qi (Yp w2.b2 w1.b1) (by decide);rw [<- d1,<- d2] at h
  first
   | exact ⟨_,_,rfl,.inl ⟨_,_,rfl,rfl,⟨nz,zz2⟩,h⟩⟩
   | exact ⟨⟨nz,zz2⟩,h⟩
def qjb (ds:List Qh) (q:Qh->Prop):Prop := ∃ (b x0 y0 x1 y1 t c:Int),ds=[.tuple [dPt b x0 y0,dPt b x1 y1],dSh (shT t c) (shB t c)]/\((1<=b/\x0<x1/\intBits b<=200/\(0<=x0/\x1<=b)/\0<=y0/\y0<=y1/\y1<=b)/\(1<=c/\0<=t/\t<=c/\intBits c<=200)/\x0*c<=t*b) /\
 q (dSh (shT (y0*((x1-x0)*c)+(y1-y0)*(t*b-x0*c)) (b*((x1-x0)*c))) (shB (y0*((x1-x0)*c)+(y1-y0)*(t*b-x0*c)) (b*((x1-x0)*c))))
def qrl:FnScope ["line","x"] ["line","x"] (defScope qep):=sc0
def qro (F:Def K mg "height_on" qep ["line","x"]) (T:Txt K mg cs)
 (O_added:Ok P w K mg base "added" 4 ["one","other"] (PSp K qus))
 (O_taken:Ok P w K mg base "taken" 4 ["one","other"] (PSp K qoe))
 (O_times:Ok P w K mg base "times" 4 ["one","other"] (PSp K qvq))
 (O_slope:Ok P w K mg base "slope" 5 ["line"] (PSp K qot))
 : Ok P w K mg base "height_on" 6 ["line","x"] (PSp K qjb):=by
  refine F.vok qrl (by rintro ds q ⟨_,_,_,_,_,_,_,h,_⟩;rw [h];rfl) fun f cdv A outer s H E hr ds q h=>?_;obtain ⟨b,x0,y0,x1,y1,t,c,rfl,⟨pre,⟨c1,t0,tc,zc⟩,xt⟩,h⟩:=h;refine ⟨_,(qg (qt (qr O_added.c hr.m (qc (qh (qh (qa 0) qd) qd) (qc (qr O_times.c hr.m (qc (qr O_slope.c hr.m (qc (qa 0) qf)) (qc (qr O_taken.c hr.m (qc (qa 1) (qc (qh (qh (qa 0) qd) qd) qf))) qf))) qf))))),?_⟩;obtain ⟨b1,x01,zb,⟨x00,x1b⟩,y00,y01,y1b⟩:=id pre;have zcb:intBits (c*b)<=400:=qi (Yp zc zb) (by decide);have u0:0<=t*b-x0*c:=by omega
  have u1:t*b-x0*c<=c*b:=by
   have a1:t*b<=c*b:=Q6 tc (by omega);have a2:0<=x0*c:=Zo x00 (by omega);omega
  have cb0:0<c*b:=Zm (by omega) (by omega);have zd:intBits (x1-x0)<=200:=qz (by omega) (by omega) zb;have ze:intBits (y1-y0)<=200:=qz (by omega) (by omega) zb;have zu:intBits (t*b-x0*c)<=400:=qz u0 u1 zcb;have p1:0<(x1-x0)*(c*b):=Zm (by omega) cb0;obtain ⟨a1,a2⟩:=qzr (t:=t) (u:=x0) (b:=c) (c:=b) (by omega) (by omega);obtain ⟨a3,a4⟩:=zahs (t:=y1-y0) (u:=t*b-x0*c) (b:=x1-x0) (c:=c*b) (by omega) cb0;obtain ⟨a5,a6⟩:=zajg (t:=y0) (u:=(y1-y0)*(t*b-x0*c)) (b:=b) (c:=(x1-x0)*(c*b)) (by omega) p1;have p2:0<b*((x1-x0)*c):=Zm (by omega) (Zm (by omega) (by omega));obtain ⟨a7,a8⟩:=qic (t:=y0*((x1-x0)*(c*b))+(y1-y0)*(t*b-x0*c)*b) (b:=b*((x1-x0)*(c*b))) (u:=y0*((x1-x0)*c)+(y1-y0)*(t*b-x0*c)) (c:=b*((x1-x0)*c)) (Zm (by omega) p1) p2 (by grind);have w0:ShW (shT y0 b) (shB y0 b):=qjj (by omega) (qi (qz y00 (by omega) zb) (by decide)) (qi zb (by decide));have w1:ShW (shT x0 b) (shB x0 b):=qjj (by omega) (qi (qz x00 (by omega) zb) (by decide)) (qi zb (by decide));have w2:ShW (shT t c) (shB t c):=qjj (by omega) (qi (qz t0 tc zc) (by decide)) (qi zc (by decide));have w3:ShW (shT (y1-y0) (x1-x0)) (shB (y1-y0) (x1-x0)):=qjj (by omega) (qi ze (by decide)) (qi zd (by decide));have w4:ShW (shT (t*b-x0*c) (c*b)) (shB (t*b-x0*c) (c*b)):=qjj (by omega) (qi zu (by decide)) (qi zcb (by decide));have w5:ShW (shT ((y1-y0)*(t*b-x0*c)) ((x1-x0)*(c*b))) (shB ((y1-y0)*(t*b-x0*c)) ((x1-x0)*(c*b))):=qjj (by omega) (qi (Yp ze zu) (by decide)) (qi (Yp zd zcb) (by decide));refine ⟨_,rfl,_,rfl,b,x0,y0,x1,y1,rfl,pre,_,rfl,_,rfl,_,_,_,_,rfl,⟨w2,w1⟩,?_⟩;rw [a1,a2];refine ⟨_,_,_,_,rfl,⟨w3,w4⟩,?_⟩;rw [a3,a4];refine ⟨_,_,_,_,rfl,⟨w0,w5⟩,?_⟩;rw [a5,a6,a7,a8];exact h
def qzt (p r:Int):Qh :=.tuple [.tuple [.int 0,.int (-p)],.tuple [.int 0,.int r]]
def qkz (ds:List Qh) (q:Qh->Prop):Prop := ∃ (p r:Int),ds=[dSh p r]/\q (qzt p r)
def qua:FnScope ["steepness"] ["steepness"] (defScope qfu):=sc0
def qtv (F:Def K mg "two_acts" qfu ["steepness"]) (T:Txt K mg cs)
 : Ok P w K mg base "two_acts" 1 ["steepness"] (PSp K qkz):=by
  refine F.vok qua (by rintro ds q ⟨_,_,h,_⟩;rw [h];rfl) fun f cdv A outer s H E hr ds q h=>?_;obtain ⟨p,r,rfl,h⟩:=h;refine ⟨_,(qg (qt (qat (qc (qat (qc qd (qc (qmc (qh (qa 0) qd)) qf))) (qc (qat (qc qd (qc (qh (qa 0) qd) qf))) qf))))),?_⟩;exact ⟨_,rfl,szl,_,rfl,szl,szl,h⟩
def qyb {a b:Int×Int} (h:stp a b=true) : ¬ stp b a=true:=fun z=>by
 rw [qag] at h z;rw [qbg] at z;omega
def qre : ∀ {l m:List (Int×Int)},(l.Pairwise fun a b=>stp a b=true)->(m.Pairwise fun a b=>stp a b=true)->(∀ x,x ∈ l↔x ∈ m)->l=m
 | [],[],_,_,_=>rfl
 | [],b::m,_,_,h=>by have:=(h b).mpr (by simp);cases this
 | a::l,[],_,_,h=>by have:=(h a).mp (by simp);cases this
 | a::l,b::m,h1,h2,h=>by
  rw [Qhf] at h1 h2;have ab:a=b:=Yw fun ne=>by
   have x1:a ∈ m:=by
    rcases Qs.mp ((h a).mp (by simp)) with z|z
    ·exact absurd z ne
    ·exact z
   have x2:b ∈ l:=by
    rcases Qs.mp ((h b).mpr (by simp)) with z|z
    ·exact absurd z.symm ne
    ·exact z
   exact qyb (h1.1 b x2) (h2.1 a x1)
  subst ab;rw [qre h1.2 h2.2 fun x=>⟨fun hx=>?_,fun hx=>?_⟩]
  ·rcases Qs.mp ((h x).mp (Qm _ hx)) with z|z
   ·have:=h1.1 x hx;rw [z,qsg] at this;cases this
   ·exact z
  ·rcases Qs.mp ((h x).mpr (Qm _ hx)) with z|z
   ·have:=h2.1 x hx;rw [z,qsg] at this;cases this
   ·exact z
def qzp (c:Int×Int) : ∀ l:List (Int×Int),(∀ x ∈ l,crs x c=0)->crs ((l.map (·.1)).sum,(l.map (·.2)).sum) c=0
 | [],_=>by unfold crs;simp
 | x::l,h=>by
  have ih:=qzp c l fun y hy=>h y (Qm _ hy);have hx:=h x (by simp);unfold crs at ih hx ⊢;simp only [Qt,Q3] at ih ⊢;rw [Qgm,Qav];omega
section
variable {L:List (Int×Int)}
def qie (L:List (Int×Int)) (c:Int×Int):crs (cls L c) c=0:=qzp c _ fun x hx=>by simpa using (Zt.mp hx).2
def qoq (hL : ∀ c ∈ L,Stp1 c) {c d:Int×Int} (hc:Stp1 c) (hd:Stp1 d) (h:crs c d=0):cls L c=cls L d:=by
 have e:(L.filter fun x=>crs x c==0)=L.filter fun x=>crs x d==0:=Qbx fun x hx=>by
  by_cases z:crs x c=0
  ·have:crs x d=0:=qhp hc z h;rw [z,this]
  ·have:crs x d≠0:=fun w=>z (qhp hd w (by rw [qbg,h];rfl));have e1:(crs x c==0)=false:=by simpa using z
   have e2:(crs x d==0)=false:=by simpa using this
   rw [e1,e2]
 unfold cls;rw [e]
def qsn : ∀ {l:List Int},(∀ x ∈ l,0<=x)->0<=l.sum /\ ∀ x ∈ l,x<=l.sum
 | [],_=>⟨by simp,fun x hx=>by cases hx⟩
 | y::l,h=>by
  obtain ⟨a,b⟩:=qsn fun x hx=>h x (Qm _ hx);have:=h y (by simp);rw [Q3];refine ⟨by omega,fun x hx=>?_⟩;rcases Qs.mp hx with rfl|z
  ·omega
  ·have:=b x z;omega
def qpa (hL : ∀ c ∈ L,Stp1 c) {c:Int×Int} (hc:c ∈ L):Stp1 (cls L c):=by
 have m:c ∈ L.filter fun x=>crs x c==0:=Zt.mpr ⟨hc,by rw [qjv];rfl⟩;have f1 : ∀ y ∈ (L.filter fun x=>crs x c==0).map (·.1),0<=y:=fun y hy=>by
  obtain ⟨z,hz,rfl⟩:=Ql.mp hy;exact (hL z (Zt.mp hz).1).x
 have f2 : ∀ y ∈ (L.filter fun x=>crs x c==0).map (·.2),0<=y:=fun y hy=>by
  obtain ⟨z,hz,rfl⟩:=Ql.mp hy;exact (hL z (Zt.mp hz).1).y
 have n1:=qsn f1;have n2:=qsn f2;have m1:=n1.2 c.1 (Ql.mpr ⟨c,m,rfl⟩);have m2:=n2.2 c.2 (Ql.mpr ⟨c,m,rfl⟩);have:=(hL c hc).p;exact ⟨n1.1,n2.1,by show 0<((L.filter fun x=>crs x c==0).map (·.1)).sum+((L.filter fun x=>crs x c==0).map (·.2)).sum;omega⟩
def zael {a a' b b':Int×Int} (ha:Stp1 a) (ha':Stp1 a') (hb:Stp1 b) (hb':Stp1 b') (h:stp a b=true) (h1:crs a a'=0) (h2:crs b b'=0):stp a' b'=true:=by
 have s1:=qzu ha hb hb' h h2;rw [qag];rcases Yu 0 (crs a' b') with z|z
 ·exact z
 ·exfalso;by_cases w:crs a' b'=0
  ·have:=qhp ha' h1 w;rw [qag] at s1;omega
  ·have s2:stp b' a'=true:=qag.mpr (by rw [qbg];omega);exact qyb s1 (qzu hb' ha' ha s2 (by rw [qbg,h1];rfl))
def Leads.srt (hL : ∀ c ∈ L,Stp1 c) {Ls:List (Int×Int)} (h:Leads L Ls):(Ls.map (cls L)).Pairwise fun a b=>stp a b=true:=by
 rw [Qhy];refine Qjr (fun {a b} ha hb hab=>?_) h.s;exact zael (hL a (h.m a ha)) (qpa hL (h.m a ha)) (hL b (h.m b hb)) (qpa hL (h.m b hb)) hab (by rw [qbg,qie];rfl) (by rw [qbg,qie];rfl)
end
def qqg {r:List Int}{k:Nat} (h:r.length=k):(Qx k).map (fun j=>(r[j]?).getD 0)=r:=by
 refine Z1 fun i=>?_;rw [Qa];by_cases hi:i<k
 ·rw [Q5 hi,Qc (show i<r.length by omega)];show some ((r[i]?).getD 0)=_;rw [Qc (show i<r.length by omega)];rfl
 ·rw [Qy (by simp;omega),Qy (by omega)];rfl
structure DOf (R:List (List Int)) (n:Nat) (D:List (Int×Int)):Prop where
 s:D.Pairwise fun a b=>stp a b=true
 m : ∀ x,x ∈ D ↔ ∃ c ∈ qV R n,x=cls (qV R n) c
def DOf.uniq {R:List (List Int)}{n:Nat}{D D':List (Int×Int)} (h:DOf R n D) (h':DOf R n D'):D=D':=qre h.s h'.s fun x=>(h.m x).trans (h'.m x).symm
def Leads.dof {b:Int}{R:List (List Int)}{n:Nat}{Ls:List (Int×Int)} (hT:Tab b R n) (h:Leads (qV R n) Ls):DOf R n (Ls.map (cls (qV R n))):=by
 have so : ∀ c ∈ qV R n,Stp1 c:=fun c hc=>qgz hT hc;refine ⟨h.srt so,fun x=>⟨fun hx=>?_,fun ⟨c,hc,e⟩=>?_⟩⟩
 ·obtain ⟨c,hc,rfl⟩:=Ql.mp hx;exact ⟨c,h.m c hc,rfl⟩
 ·obtain ⟨l,hl,z⟩:=h.a c hc;exact Ql.mpr ⟨l,hl,by rw [e];exact (qoq so (so c hc) (so l (h.m l hl)) z).symm⟩
def qhe (f:Int×Int->Int) (p:Int×Int->Bool) : ∀ L:List (Int×Int),(L.map f).sum=((L.filter p).map f).sum+((L.filter fun x => !p x).map f).sum
 | []=>rfl
 | x::L=>by
  have ih:=qhe f p L;rw [Qt,Q3,ih,Yy,Yy];cases q:p x with
  | true=>simp;omega
  | false=>simp;omega
def qsp (f:Int×Int->Int) : ∀ (Ls L:List (Int×Int)),(∀ c ∈ L,Stp1 c)->(∀ l ∈ Ls,Stp1 l)->(Ls.Pairwise fun a b=>crs a b≠0)->(∀ c ∈ L,∃ l ∈ Ls,crs c l=0) ->
 (Ls.map fun l=>((L.filter fun x=>crs x l==0).map f).sum).sum=(L.map f).sum
  | [],L,_,_,_,ha=>by
   cases L with
   | nil=>rfl
   | cons c L=>obtain ⟨l,hl,_⟩:=ha c (by simp);cases hl
  | l::Ls,L,hL,hl,hp,ha=>by
   rw [Qhf] at hp;have ih:=qsp f Ls (L.filter fun x => !(crs x l==0)) (fun c hc=>hL c (Zt.mp hc).1) (fun c hc=>hl c (Qm _ hc)) hp.2 (fun c hc=>by
    obtain ⟨h1,h2⟩:=Zt.mp hc;obtain ⟨l',m',e⟩:=ha c h1;rcases Qs.mp m' with rfl|z
    ·rw [e] at h2;cases h2
    ·exact ⟨l',z,e⟩)
   rw [Qt,Q3,qhe f (fun x=>crs x l==0) L,<- ih]
   congr 2
   refine Zg fun l' m'=>?_;rw [Qbk]
   congr 2
   refine Qbx fun x hx=>?_;by_cases z:crs x l'=0
   ·have nz:crs x l≠0:=fun w=>hp.1 l' m' (qhp (hL x hx) (by rw [qbg,w];rfl) z);have e1:(crs x l==0)=false:=by simpa using nz
    rw [z,e1];rfl
   ·have e1:(crs x l'==0)=false:=by simpa using z
    rw [e1];rfl
def DOf.crv {b:Int}{R:List (List Int)}{n:Nat}{D:List (Int×Int)} (hT:Tab b R n) (h2:R.length=2) (h:DOf R n D):Crv b D:=by
 have so : ∀ c ∈ qV R n,Stp1 c:=fun c hc=>qgz hT hc;have pD : ∀ x ∈ D,Stp1 x/\cls (qV R n) x=x:=fun x hx=>by
  obtain ⟨c,hc,rfl⟩:=(h.m x).mp hx;have p:=qpa so hc;exact ⟨p,qoq so p (so c hc) (qie _ c)⟩
 have key : ∀ (f:Int×Int->Int) (t:Nat),t<2->(∀ s,f (qv R s)=at2 R t s)->(∀ x ∈ D,f x=(((qV R n).filter fun y=>crs y x==0).map f).sum)->(∀ c:Int×Int,c.1=0->c.2=0->f c=0)->((D.take D.length).map f).sum=b:=fun f t ht hf hx hz=>by
  have er:R[t]?=some (R[t]'(by omega)):=Qc _;have rm:=Qf er;have a:=qsp f D (qV R n) so (fun l hl=>(pD l hl).1) (h.s.imp fun {a b} q z=>by rw [qag,z] at q;omega) (fun c hc=>⟨_,(h.m _).mpr ⟨c,hc,rfl⟩,by rw [qbg,qie];rfl⟩);rw [Zl,Zg hx,a,<- hT.sum _ rm,<- qqg (hT.len _ rm)];unfold qV;have sp:=qhe f (fun c=>decide (0<c.1+c.2)) ((Qx n).map (qv R));have zero:((((Qx n).map (qv R)).filter fun x => !decide (0<x.1+x.2)).map f).sum=0:=by
   have : ∀ l:List (Int×Int),(∀ x ∈ l,f x=0)->(l.map f).sum=0:=fun l=>by
    induction l with
    | nil=>intro _;rfl
    | cons x l ih=>intro hh;rw [Qt,Q3,hh x (by simp),ih fun y hy=>hh y (Qm _ hy)];rfl
   refine this _ fun x hx=>?_;obtain ⟨m1,m2⟩:=Zt.mp hx;obtain ⟨j,_,rfl⟩:=Ql.mp m1;have a0:0<=(qv R j).1:=qcn hT.nn 0 j;have a1:0<=(qv R j).2:=qcn hT.nn 1 j;have : ¬ (0<(qv R j).1+(qv R j).2):=by simpa using m2
   exact hz _ (by omega) (by omega)
  rw [zero,Qfo] at sp;rw [<- sp,Zz]
  congr 1
  refine Zg fun j _=>?_;show f (qv R j)=_;rw [hf,qbs er]
 refine ⟨hT.pos,fun c hc=>(pD c hc).1,h.s,?_,?_⟩
 ·exact key (·.1) 0 (by omega) (fun _=>rfl) (fun x hx=>(congrArg Prod.fst (pD x hx).2).symm) fun c e _=>e
 ·exact key (·.2) 1 (by omega) (fun _=>rfl) (fun x hx=>(congrArg Prod.snd (pD x hx).2).symm) fun c _ e=>e
def chW (D:List (Int×Int)) (c:Int) (i j:Nat):Int:=(sX D j-sX D i)*c
def chF (b:Int) (D:List (Int×Int)) (t c:Int) (i:Nat):Int:=t*b-sX D i*c
def chH (b:Int) (D:List (Int×Int)) (t c:Int) (i j:Nat):Int:=if 0<chW D c i j then sY D i*chW D c i j+(sY D j-sY D i)*chF b D t c i else sY D j
def chU (D:List (Int×Int)) (c:Int) (i j:Nat):Int:=if 0<chW D c i j then chW D c i j else 1
structure Cho (b:Int) (D:List (Int×Int)) (t c:Int) (i j:Nat):Prop where
 ij:i<=j
 jl:j<=D.length
 f0:0<=chF b D t c i
 fw:chF b D t c i<=chW D c i j
section
variable {b:Int}{D:List (Int×Int)}{t c:Int}{i j:Nat}
def zajc:0<chU D c i j:=by unfold chU;split <;> omega
def Cho.le (C:Crv b D) (c1:1<=c) {m:Nat}{d:Int×Int} (hd:D[m]?=some d) (h:Cho b D t c i j):chH b D t c i j*(d.1*c)<=(sY D m*(d.1*c)+d.2*(t*b-sX D m*c))*chU D c i j:=by
 obtain ⟨ij,jl,f0,fw⟩:=h;have a:=C.under hd (i:=i) (by omega);have e:=C.under hd (i:=j) jl;unfold chF at f0 fw;unfold chW at fw;have li : ∀ (x:Int) (y:Int),(y-sY D m)*d.1<=d.2*(x-sX D m)->y*(d.1*c)<=sY D m*(d.1*c)+d.2*(x*c-sX D m*c):=fun x y h=>by
  have:=Q6 h (show 0<=c by omega);have e1:(y-sY D m)*d.1*c=y*(d.1*c)-sY D m*(d.1*c):=by grind
  have e2:d.2*(x-sX D m)*c=d.2*(x*c-sX D m*c):=by grind
  omega
 have l1:=li _ _ a;have l2:=li _ _ e;unfold chH chU;by_cases w:0<chW D c i j
 ·rw [if_pos w,if_pos w];unfold chF;obtain ⟨F,eF⟩ : ∃ F,F=t*b-sX D i*c:=⟨_,rfl⟩
  obtain ⟨W,eW⟩ : ∃ W,W=chW D c i j:=⟨_,rfl⟩
  have eW':W=(sX D j-sX D i)*c:=by rw [eW];rfl
  rw [<- eF] at f0 fw ⊢;rw [<- eW'] at fw;rw [<- eW] at w ⊢;have m1:=Q6 l1 (show 0<=W-F by omega);have m2:=Q6 l2 f0;have g1:(sY D i*W+(sY D j-sY D i)*F)*(d.1*c)=sY D i*(d.1*c)*(W-F)+sY D j*(d.1*c)*F:=by grind
  have g2:(sY D m*(d.1*c)+d.2*(t*b-sX D m*c))*W=(sY D m*(d.1*c)+d.2*(sX D i*c-sX D m*c))*(W-F)+(sY D m*(d.1*c)+d.2*(sX D j*c-sX D m*c))*F:=by
   have:t*b=F+sX D i*c:=by omega
   rw [this];have:sX D j*c=W+sX D i*c:=by rw [eW'];grind
   rw [this];grind
  rw [g1,g2];omega
 ·rw [if_neg w,if_neg w];unfold chW at w;have:t*b=sX D j*c:=by
   have:(sX D j-sX D i)*c=sX D j*c-sX D i*c:=by grind
   omega
  rw [this,Qat];exact l2
def qvu {m:Nat}{d:Int×Int} (c1:1<=c) (hd:D[m]?=some d) (d0:0<d.1) (h1:sX D m*c<=t*b) (h2:t*b<=sX D (m+1)*c):Cho b D t c m (m+1)/\chH b D t c m (m+1)=sY D m*(d.1*c)+d.2*(t*b-sX D m*c)/\chU D c m (m+1)=d.1*c:=by
 obtain ⟨a1,a2⟩:=qcs hd;have ml:=(Qg.mp hd).1;have ew:chW D c m (m+1)=d.1*c:=by unfold chW;rw [a1];grind
 have wp:0<chW D c m (m+1):=by rw [ew];exact Zm d0 (by omega)
 refine ⟨⟨by omega,by omega,by unfold chF;omega,?_⟩,?_,?_⟩
 ·unfold chF chW;have:(sX D (m+1)-sX D m)*c=sX D (m+1)*c-sX D m*c:=by grind
  omega
 ·unfold chH;rw [if_pos wp,ew,a2];unfold chF;grind
 ·unfold chU;rw [if_pos wp,ew]
def Cho.nn (C:Crv b D) (c1:1<=c) (h:Cho b D t c i j) (zb:intBits b<=200) (zc:intBits c<=200):(0<=chH b D t c i j/\intBits (chH b D t c i j)<=700)/\intBits (chU D c i j)<=400:=by
 obtain ⟨ij,jl,f0,fw⟩:=h;have l1:=C.le (i:=i) (by omega);have l2:=C.le jl;have b1:=C.b1;have w0:0<=chW D c i j:=by omega
 have wb:chW D c i j<=b*c:=by
  unfold chW;exact Q6 (by omega) (by omega)
 have zw:intBits (chW D c i j)<=400:=qz w0 wb (qi (Yp zb zc) (by decide));refine ⟨?_,?_⟩
 ·unfold chH;split
  ·obtain ⟨W,eW⟩ : ∃ W,W=chW D c i j:=⟨_,rfl⟩
   obtain ⟨F,eF⟩ : ∃ F,F=chF b D t c i:=⟨_,rfl⟩
   rw [<- eF] at f0 fw ⊢;rw [<- eW] at fw w0 wb zw ⊢;have e:sY D i*W+(sY D j-sY D i)*F=sY D i*(W-F)+sY D j*F:=by grind
   have n1:0<=sY D i*(W-F):=Zo (by omega) (by omega);have n2:0<=sY D j*F:=Zo (by omega) f0;have u1:sY D i*(W-F)<=b*(W-F):=Q6 (by omega) (by omega);have u2:sY D j*F<=b*F:=Q6 (by omega) f0;have u3:b*(W-F)+b*F=b*W:=by grind
   rw [e];exact ⟨by omega,qz (by omega) (by omega) (qi (Yp zb zw) (by decide))⟩
  ·exact ⟨by omega,qi (qz (by omega) (by omega) zb) (by decide)⟩
 ·unfold chU;split
  ·exact zw
  ·decide
end
def vOf (p r:Int) (x:Int×Int):Int:=r*x.2-p*x.1
def qmk (z:Int):Int:=if 0<z then z else 0
def qcr (p r:Int) (L:List (Int×Int)):Int:=(L.map fun x=>qmk (vOf p r x)).sum
def zaiz (z:Int):0<=qmk z/\z<=qmk z:=by unfold qmk;split <;> omega
def qyq {z:Int} (h:0<=z):qmk z=z:=by unfold qmk;split <;> omega
def qyr {z:Int} (h:z<=0):qmk z=0:=by unfold qmk;split <;> omega
def zacc (p r:Int) : ∀ L:List (Int×Int),(L.map (vOf p r)).sum=r*(L.map (·.2)).sum-p*(L.map (·.1)).sum
 | []=>by simp
 | x::L=>by
  rw [Qt,Q3,zacc p r L,Qt,Q3,Qt,Q3];unfold vOf;grind
def zafv {p r:Int}{x l:Int×Int} (hx:Stp1 x) (hl:Stp1 l) (h:crs x l=0):(0<=vOf p r l->0<=vOf p r x)/\(vOf p r l<=0->vOf p r x<=0):=by
 have e:vOf p r x*(l.1+l.2)=vOf p r l*(x.1+x.2):=by
  unfold crs at h;have h:x.2*l.1=l.2*x.1:=by omega
  unfold vOf;grind
 have q1:=hx.p;have q2:=hl.p;refine ⟨fun z=>?_,fun z=>?_⟩
 ·have:=Zo z (show 0<=x.1+x.2 by omega);rw [<- e] at this;rcases Yu (vOf p r x) 0 with w|w
  ·have:=Qap w q2;omega
  ·exact w
 ·have:=Zo (show 0 <= - vOf p r l by omega) (show 0<=x.1+x.2 by omega);rw [Qje,<- e] at this;rcases Yu 0 (vOf p r x) with w|w
  ·have:=Zm w q2;omega
  ·exact w
def qss (p r:Int) (L M:List (Int×Int)):qcr p r (L++M)=qcr p r L+qcr p r M:=by
 unfold qcr;rw [Q9,Jh]
def qti (p r:Int) : ∀ L:List (Int×Int),0<=qcr p r L/\(L.map (vOf p r)).sum<=qcr p r L
 | []=>by simp [qcr]
 | x::L=>by
  have ih:=qti p r L;have:=zaiz (vOf p r x);unfold qcr at ih ⊢;rw [Qt,Q3,Qt,Q3];omega
def qsk {p r:Int} : ∀ {L:List (Int×Int)},(∀ x ∈ L,0<=vOf p r x)->qcr p r L=(L.map (vOf p r)).sum
 | [],_=>rfl
 | x::L,h=>by
  have ih:=qsk (L:=L) fun y hy=>h y (Qm _ hy);unfold qcr at ih ⊢;rw [Qt,Q3,Qt,Q3,ih,qyq (h x (by simp))]
def qjr {p r:Int} : ∀ {L:List (Int×Int)},(∀ x ∈ L,vOf p r x<=0)->qcr p r L=0
 | [],_=>rfl
 | x::L,h=>by
  have ih:=qjr (L:=L) fun y hy=>h y (Qm _ hy);unfold qcr at ih ⊢;rw [Qt,Q3,ih,qyr (h x (by simp))];rfl
def zacz {b:Int}{R:List (List Int)}{n:Nat} (hT:Tab b R n) (p r:Int):qcr p r ((Qx n).map (qv R))=qcr p r (qV R n):=by
 unfold qcr;rw [qhe (fun x=>qmk (vOf p r x)) (fun c=>decide (0<c.1+c.2)) ((Qx n).map (qv R))];have zero:qcr p r (((Qx n).map (qv R)).filter fun x => !decide (0<x.1+x.2))=0:=qjr fun x hx=>by
  obtain ⟨m1,m2⟩:=Zt.mp hx;obtain ⟨j,_,rfl⟩:=Ql.mp m1;have a0:0<=(qv R j).1:=qcn hT.nn 0 j;have a1:0<=(qv R j).2:=qcn hT.nn 1 j;have : ¬ (0<(qv R j).1+(qv R j).2):=by simpa using m2
  have e1:(qv R j).1=0:=by omega
  have e2:(qv R j).2=0:=by omega
  unfold vOf;rw [e1,e2,Yn,Yn];omega
 unfold qcr at zero;rw [zero,Qfo];rfl
def DOf.bst {b:Int}{R:List (List Int)}{n:Nat}{D:List (Int×Int)} (hT:Tab b R n) (h:DOf R n D) (p r:Int):qcr p r ((Qx n).map (qv R))=qcr p r D:=by
 rw [zacz hT];have so : ∀ c ∈ qV R n,Stp1 c:=fun c hc=>qgz hT hc;have pD : ∀ x ∈ D,Stp1 x/\cls (qV R n) x=x:=fun x hx=>by
  obtain ⟨c,hc,rfl⟩:=(h.m x).mp hx;have p:=qpa so hc;exact ⟨p,qoq so p (so c hc) (qie _ c)⟩
 have a:=qsp (fun x=>qmk (vOf p r x)) D (qV R n) so (fun l hl=>(pD l hl).1) (h.s.imp fun {a b} q z=>by rw [qag,z] at q;omega) (fun c hc=>⟨_,(h.m _).mpr ⟨c,hc,rfl⟩,by rw [qbg,qie];rfl⟩);unfold qcr;rw [<- a]
 congr 1
 refine Zg fun l hl=>?_;obtain ⟨pl,el⟩:=pD l hl;have key:(((qV R n).filter fun x=>crs x l==0).map (vOf p r)).sum=vOf p r l:=by
  rw [zacc]
  conv=>rhs;rw [<- el]
  rfl
 have mem : ∀ x ∈ (qV R n).filter fun x=>crs x l==0,Stp1 x/\crs x l=0:=fun x hx=>by
  obtain ⟨m1,m2⟩:=Zt.mp hx;exact ⟨so x m1,by simpa using m2⟩
 rcases Int.le_total 0 (vOf p r l) with z|z
 ·have:=qsk (p:=p) (r:=r) (L:=(qV R n).filter fun x=>crs x l==0) fun x hx=>(zafv (mem x hx).1 pl (mem x hx).2).1 z;unfold qcr at this;rw [this,key,qyq z]
 ·have:=qjr (p:=p) (r:=r) (L:=(qV R n).filter fun x=>crs x l==0) fun x hx=>(zafv (mem x hx).1 pl (mem x hx).2).2 z;unfold qcr at this;rw [this,qyr z]
section
variable {b c:Int}{D E:List (Int×Int)}
def zahr (p r:Int) (D:List (Int×Int)) (i:Nat):r*sY D i-p*sX D i<=qcr p r D:=by
 conv=>rhs;rw [<- Qfp i D]
 rw [qss];have a:=(qti p r (D.take i)).2;have e:=(qti p r (D.drop i)).1;rw [zacc] at a;unfold sX sY;omega
def zaiu (C:Crv b D) {m:Nat}{d:Int×Int} (hd:D[m]?=some d) {p r:Int} (d0:0<d.1) (r0:0<r) (e:p*d.1=d.2*r):qcr p r D=r*sY D m-p*sX D m:=by
 have ml:=(Qg.mp hd).1;have em:D[m]=d:=Qn ((Qc ml).symm.trans hd);have ev : ∀ x:Int×Int,vOf p r x*d.1=crs x d*r:=fun x=>by
  unfold vOf crs
  calc (r*x.2-p*x.1)*d.1=r*x.2*d.1-(p*d.1)*x.1:=by grind
   _=_:=by rw [e];grind
 have up : ∀ x:Int×Int,0<=crs x d->0<=vOf p r x:=fun x h=>by
  have:=Zo h (show 0<=r by omega);rw [<- ev] at this;rcases Yu (vOf p r x) 0 with w|w
  ·have:=Qap w d0;omega
  ·exact w
 have dn : ∀ x:Int×Int,crs x d<=0->vOf p r x<=0:=fun x h=>by
  have:=Zo (show 0 <= - crs x d by omega) (show 0<=r by omega);rw [Qje,<- ev] at this;rcases Yu 0 (vOf p r x) with w|w
  ·have:=Zm w d0;omega
  ·exact w
 conv=>lhs;rw [<- Qfp m D]
 rw [qss,qsk (L:=D.take m),qjr (L:=D.drop m),zacc,Qfo]
 ·rfl
 ·intro x hx;obtain ⟨j,hj,rfl⟩:=Qcs.mp hx;rw [List.getElem_drop];rw [Qcj] at hj;refine dn _ ?_;rcases J5 j with z|z
  ·subst z;have:D[m+0]=d:=em;rw [this,qjv];exact Y6 _
  ·have q:=Z6.mp C.s m (m+j) ml (by omega) (by omega);rw [em,qag] at q;rw [qbg];omega
 ·intro x hx;obtain ⟨j,hj,rfl⟩:=Qcs.mp hx;rw [List.getElem_take];rw [Qaq] at hj;refine up _ ?_;have q:=Z6.mp C.s j m (by omega) ml (by omega);rw [em,qag] at q;omega
def qwp (b:Int) (D:List (Int×Int)) (c:Int) (E:List (Int×Int)) (i:Nat):Prop := ∀ i' j',Cho b D (sX E i) c i' j'->chH b D (sX E i) c i' j'*c<sY E i*b*chU D c i' j'
def zajh (C:Crv b D) (c1:1<=c) {i m:Nat}{d:Int×Int} (hd:D[m]?=some d) (d0:0<d.1) (h1:sX D m*c<=sX E i*b) (h2:sX E i*b<=sX D (m+1)*c):qwp b D c E i↔hgN b D m d (sX E i) c*c<sY E i*hgM b d c:=by
 obtain ⟨ch,eh,eu⟩:=qvu c1 hd d0 h1 h2;have dc:0<d.1*c:=Zm d0 (by omega);constructor
 ·intro h;have:=h _ _ ch;rw [eh,eu] at this;unfold hgN hgM;have e:sY E i*(b*(d.1*c))=sY E i*b*(d.1*c):=by grind
  rw [e];exact this
 ·intro h i' j' q;have l:=q.le C c1 hd;have u0:0<chU D c i' j':=zajc;refine Vd (a:=d.1*c) ?_ (by omega);have s1:=Q6 l (show 0<=c by omega);have s2:=Y7 h u0;unfold hgN hgM at s2
  calc chH b D (sX E i) c i' j'*c*(d.1*c)=chH b D (sX E i) c i' j'*(d.1*c)*c:=by grind
   _<=_:=s1
   _=(sY D m*(d.1*c)+d.2*(sX E i*b-sX D m*c))*c*chU D c i' j':=by grind
   _<_:=s2
   _=_:=by grind
def zaec (C:Crv b D) (c1:1<=c) {i m:Nat}{d:Int×Int} (hd:D[m]?=some d) (d0:0<d.1) (h:hgN b D m d (sX E i) c*c<sY E i*hgM b d c) {p r:Int} (r0:0<r) (e:p*d.1=d.2*r):qcr p r D*c<qcr p r E*b:=by
 have b1:=C.b1;rw [zaiu C hd d0 r0 e];have l:=Q6 (zahr p r E i) (show 0<=b by omega);refine Int.lt_of_lt_of_le ?_ l;refine Vd (a:=d.1*c) ?_ (J7 (Zm d0 (by omega)));unfold hgN hgM at h;have h:=Y7 h r0;generalize sY D m=y at *;generalize sX D m=x at *;generalize sX E i=t at *;generalize sY E i=s at *;have k1:(r*y-p*x)*c*(d.1*c)=(y*(d.1*c)+d.2*(t*b-x*c))*c*r-d.2*r*(t*b)*c:=by
  calc (r*y-p*x)*c*(d.1*c)=r*y*c*(d.1*c)-(p*d.1)*x*c*c:=by grind
   _=_:=by rw [e];grind
 have k2:(r*s-p*t)*b*(d.1*c)=s*(b*(d.1*c))*r-d.2*r*(t*b)*c:=by
  calc (r*s-p*t)*b*(d.1*c)=r*s*b*(d.1*c)-(p*d.1)*t*b*c:=by grind
   _=_:=by rw [e];grind
 rw [k1,k2];omega
def zafw {p r:Int} (p0:0<=p) (r0:0<=r) : ∀ {L:List (Int×Int)},(∀ x ∈ L,Stp1 x)->qcr p r L<=r*(L.map (·.2)).sum
 | [],_=>by simp [qcr]
 | x::L,h=>by
  have ih:=zafw p0 r0 (L:=L) fun y hy=>h y (Qm _ hy);have hx:=h x (by simp);unfold qcr at ih ⊢;rw [Qt,Q3,Qt,Q3,Qav];have a:=Zo p0 hx.x;have e:=Zo r0 hx.y;have:qmk (vOf p r x)<=r*x.2:=by unfold qmk vOf;split <;> omega
  omega
def qvd (C:Crv b D) {p r:Int} (p0:0<=p) (r0:0<=r) (zb:intBits b<=200) (zr:intBits r<=2000):intBits (qcr p r D)<=2200:=by
 have u:=zafw p0 r0 C.p;have e:=C.ey;unfold sY at e;rw [Zl] at e;rw [e] at u;exact qz (qti p r D).1 u (qi (Yp zr zb) (by decide))
end
def Shp (n:Nat) (d:Qh):Prop:=d.canLay0=true/\d.depth<=n
def qso {n:Nat} : ∀ {l:List Qh},(∀ x ∈ l,Shp n x)->Jg l=true/\Qfq l<=n
 | [],_=>by simp [Jg,Qfq]
 | x::l,h=>by
  obtain ⟨a,b⟩:=qso fun y hy=>h y (Qm _ hy);obtain ⟨c,d⟩:=h x (by simp);rw [Jg,Qfq,a,c];exact ⟨rfl,by omega⟩
def zaje (i:Int) (n:Nat):Shp n (.int i):=by simp [Shp,Qal,Qii]
def zahl {n:Nat}{l:List Qh} (h : ∀ x ∈ l,Shp n x):Shp (n+1) (.list l):=by
 obtain ⟨a,b⟩:=qso h;rw [Shp,Qal,Qii];exact ⟨a,by omega⟩
def qsa {n:Nat}{l:List Qh} (h : ∀ x ∈ l,Shp n x):Shp (n+1) (.tuple l):=by
 obtain ⟨a,b⟩:=qso h;rw [Shp,Qal,Qii];exact ⟨a,by omega⟩
def quy (ns:List Int) (n:Nat) : ∀ x ∈ ns.map Q2,Shp n x:=fun x hx=>by
 obtain ⟨i,_,rfl⟩:=Ql.mp hx;exact zaje i n
def Shp.ok {n:Nat}{d:Qh} (h:Shp n d) (hn:n<=64:=by decide):V2 d=true:=by
 unfold V2;rw [h.1,decide_eq_true (Zr h.2 hn)];rfl
def Shp.refl {n:Nat}{d:Qh} (h:Shp n d):Qba d d=true:=SeqAt.eqv_refl d h.1
section
variable {b:Int}{r u:List Int}{n:Nat}{Gs:List (List Nat)}
def qyl {i j:Nat} (hi:Col (qB [r,u] i)) (hj:Col (qB [r,u] j)):nrm (qB [r,u] i)=nrm (qB [r,u] j)↔crs (qv [r,u] i) (qv [r,u] j)=0:=by
 constructor
 ·intro e;have:=qnq e 0 1 _ _ _ _ (show (qB [r,u] i)[0]?=some (qv [r,u] i).1 from rfl) (show (qB [r,u] i)[1]?=some (qv [r,u] i).2 from rfl) (show (qB [r,u] j)[0]?=some (qv [r,u] j).1 from rfl) (show (qB [r,u] j)[1]?=some (qv [r,u] j).2 from rfl);unfold crs;have e2:(qv [r,u] i).1*(qv [r,u] j).2=(qv [r,u] j).2*(qv [r,u] i).1:=Vb _ _;omega
 ·intro e;refine qnk hi hj rfl fun s t x y v w hx hy hv hw=>?_;unfold crs at e;have lt2 : ∀ {z:Nat}{k:Nat}{q:Int},(qB [r,u] k)[z]?=some q->(z=0/\q=(qv [r,u] k).1)\/(z=1/\q=(qv [r,u] k).2):=fun {z k q} h=>by
   match z,h with
   | 0,h=>exact .inl ⟨rfl,(Qn h).symm⟩
   | 1,h=>exact .inr ⟨rfl,(Qn h).symm⟩
   | z+2,h=>cases h
  have e1:(qv [r,u] i).1*(qv [r,u] j).2=(qv [r,u] i).2*(qv [r,u] j).1:=by
   rw [Vb (qv [r,u] i).1];omega
  rcases lt2 hx with ⟨s0,rfl⟩|⟨s0,rfl⟩ <;> rcases lt2 hy with ⟨t0,rfl⟩|⟨t0,rfl⟩ <;> rcases lt2 hv with ⟨s1,rfl⟩|⟨s1,rfl⟩ <;> rcases lt2 hw with ⟨t1,rfl⟩|⟨t1,rfl⟩ <;> first|(exfalso;clear e e1 hi hj;omega)|exact rfl|exact e1|exact e1.symm
end
def zaka {R:List (List Int)} (h2:R.length=2) (j:Nat):qB R j=[(qv R j).1,(qv R j).2]:=by
 match R,h2 with
 | [r,s],_=>rfl
def qou {b:Int}{R:List (List Int)}{n s:Nat} (hT:Tab b R n) (h2:R.length=2):(qB R s).any (· != 0)=true↔0<(qv R s).1+(qv R s).2:=by
 have a0:=qcn hT.nn 0 s;have a1:=qcn hT.nn 1 s;have e1:(qv R s).1=at2 R 0 s:=rfl;have e2:(qv R s).2=at2 R 1 s:=rfl;rw [zaka h2,e1,e2];simp;omega
def qvz (g:Nat->Int×Int) (p:Int×Int->Bool) (f:Int×Int->Int) : ∀ n:Nat,(((((Qx n).map g)).filter p).map f).sum=qQ n fun s=>if p (g s)=true then f (g s) else 0
 | 0=>rfl
 | n+1=>by
  rw [Yx,Q9,Yc,Q9,Jh,qvz g p f n];show _=qQ n _+_
  congr 1
  show ((List.filter p [g n]).map f).sum=if p (g n)=true then f (g n) else 0
  by_cases h:p (g n)=true
  ·rw [if_pos h];simp [h]
  ·rw [if_neg h];simp [h]
section
variable {b:Int}{R:List (List Int)}{n:Nat}{Gs:List (List Nat)}
def qyd (hT:Tab b R n) (h2:R.length=2) (h:GrsOf R n Gs) {l:Nat}{G:List Nat} (hl:Gs[l]?=some G) {i s:Nat} (hi:i ∈ G) (hs:s<n):s ∈ G↔(0<(qv R s).1+(qv R s).2/\crs (qv R s) (qv R i)=0):=by
 obtain ⟨ok,pt⟩:=h.ok hT;have gm:=Qf hl;obtain ⟨ci,ei⟩:=pt.pr G gm i hi
 match R,h2,h,hT,ok,pt,ci,ei with
 | [r,u],h2,h,hT,ok,pt,ci,ei =>
 constructor
 ·intro hm;obtain ⟨cs,es⟩:=pt.pr G gm s hm;refine ⟨(qou hT h2).mp ?_,(qyl cs ci).mp (es.trans ei.symm)⟩;obtain ⟨x,hx,nz⟩:=cs.nz;exact Z9.mpr ⟨x,hx,by simpa using nz⟩
 ·rintro ⟨pos,e⟩;have sn:=(qou hT h2).mpr pos;obtain ⟨G',g',s'⟩:=pt.all s hs sn;obtain ⟨l',hl'⟩:=V5.mp g';obtain ⟨cs,es⟩:=pt.pr G' g' s s';have en:nrm (jc [r,u] G')=nrm (jc [r,u] G):=by rw [<- es,<- ei];exact (qyl cs ci).mpr e
  obtain ⟨p,hp,_,eG⟩:=h;rw [eG] at hl hl';have:=zakv hT.nn hp hl' hl en;subst this;have:G=G':=Qn (hl.symm.trans hl');rw [this];exact s'
def qyu (hT:Tab b R n) (h2:R.length=2) (h:GrsOf R n Gs) {l:Nat}{G:List Nat} (hl:Gs[l]?=some G) {i:Nat} (hi:i ∈ G):qv (R.map (qbh Gs)) l=cls (qV R n) (qv R i):=by
 obtain ⟨ok,pt⟩:=h.ok hT;have gm:=Qf hl;have key : ∀ (t:Nat) (f:Int×Int->Int),t<2->(∀ s,f (qv R s)=at2 R t s)->at2 (R.map (qbh Gs)) t l=(((qV R n).filter fun x=>crs x (qv R i)==0).map f).sum:=fun t f ht hf=>by
  have er:R[t]?=some (R[t]'(by omega)):=Qc _;rw [qoa er hl,qjs _ (pt.nd G gm) (ok.lt G gm)];unfold qV;rw [Qbk,qvz];refine qM fun s hs=>?_;have iff:=qyd hT h2 h hl hi hs;have e1:((R[t]'(by omega))[s]?).getD 0=f (qv R s):=by rw [hf,qbs er]
  rw [e1];by_cases m:s ∈ G
  ·obtain ⟨x1,x2⟩:=iff.mp m;rw [if_pos m,if_pos];simp [x1,x2]
  ·rw [if_neg m,if_neg];intro z;rw [Ye] at z;exact m (iff.mpr ⟨by simpa using z.2,by simpa using z.1⟩)
 show (at2 (R.map (qbh Gs)) 0 l,at2 (R.map (qbh Gs)) 1 l)=_;rw [key 0 (·.1) (by omega) fun s=>rfl,key 1 (·.2) (by omega) fun s=>rfl];rfl
end
def zana {g:Int}{D S:List (Int×Int)} (h:D=S.map fun c=>(g*c.1,g*c.2)) (i:Nat):sX D i=g*sX S i/\sY D i=g*sY S i:=by
 have key : ∀ (f:Int×Int->Int) (l:List (Int×Int)),(∀ c:Int×Int,f (g*c.1,g*c.2)=g*f c)->((l.map fun c=>(g*c.1,g*c.2)).map f).sum=g*(l.map f).sum:=fun f l hf=>by
  induction l with
  | nil=>simp
  | cons c l ih=>rw [Qt,Qt,Q3,ih,Qt,Q3,hf,Qav]
 unfold sX sY;rw [h,<- Qhc];exact ⟨key (·.1) _ fun _=>rfl,key (·.2) _ fun _=>rfl⟩
def zalo {T:List (List Int)}{k:Nat}{p:Array Nat} (hp:PmN k p) (hs : ∀ i j,i<j->j<k->stp (qv T (p.getD i 0)) (qv T (p.getD j 0))=true):(p.toList.map (qv T)).Pairwise fun a b=>stp a b=true:=by
 rw [Z6];intro i j hi hj hij;have ei:i<k:=by rw [Qe,Zf,hp.s] at hi;exact hi
 have ej:j<k:=by rw [Qe,Zf,hp.s] at hj;exact hj
 have at_ : ∀ {i:Nat} (hi:i<(p.toList.map (qv T)).length),i<k->(p.toList.map (qv T))[i]=qv T (p.getD i 0):=fun {i} hi ei=>by
  have e:(p.toList.map (qv T))[i]?=some (qv T (p.getD i 0)):=by rw [Qa,V4,hp.get ei];rfl
  exact Qn ((Qc hi).symm.trans e)
 rw [at_ hi ei,at_ hj ej];exact hs i j hij ej
section
variable {b f:Int}{R T:List (List Int)}{n k:Nat}{p:Array Nat}
def zabu (hT:Tab f T k) (h2:T.length=2) (hp:PmN k p):sX (p.toList.map (qv T)) k=f/\sY (p.toList.map (qv T)) k=f:=by
 have key : ∀ (g:Int×Int->Int) (t:Nat),t<2->(∀ j,g (qv T j)=at2 T t j)->(((p.toList.map (qv T)).take k).map g).sum=f:=fun g t ht hg=>by
  have er:T[t]?=some (T[t]'(by omega)):=Qc _;have rm:=Qf er;have l:(p.toList.map (qv T)).length=k:=by rw [Qe,Zf,hp.s]
  rw [<- l,Zl,Zz,qvo (hp.p.map (g ∘ qv T)),<- hT.sum _ rm,<- qqg (hT.len _ rm)]
  congr 1
  refine Zg fun j _=>?_;show g (qv T j)=_;rw [hg,qbs er]
 exact ⟨key (·.1) 0 (by omega) fun _=>rfl,key (·.2) 1 (by omega) fun _=>rfl⟩
end
section
variable {b f:Int}{R T:List (List Int)}{n k:Nat}{p:Array Nat}{Gs:List (List Nat)}
def zaiq (hT:Tab b R n) (h2:R.length=2) (h:GrsOf R n Gs) (x:Int×Int):x ∈ (Qx Gs.length).map (qv (R.map (qbh Gs))) ↔ ∃ c ∈ qV R n,x=cls (qV R n) c:=by
 obtain ⟨ok,pt⟩:=h.ok hT;constructor
 ·intro hx;obtain ⟨l,hl,rfl⟩:=Ql.mp hx;have hl:=Zp.mp hl;have el:Gs[l]?=some Gs[l]:=Qc hl;have gm:=Qf el;obtain ⟨i,G',eG⟩:=Zq (ok.ne _ gm);have hi:i ∈ Gs[l]:=by rw [eG];simp
  have si:=((qyd hT h2 h el hi (ok.lt _ gm i hi)).mp hi).1;exact ⟨qv R i,Zt.mpr ⟨Ql.mpr ⟨i,Zp.mpr (ok.lt _ gm i hi),rfl⟩,by simpa using si⟩,qyu hT h2 h el hi⟩
 ·rintro ⟨c,hc,rfl⟩;obtain ⟨h1,h3⟩:=Zt.mp hc;obtain ⟨s,hs,rfl⟩:=Ql.mp h1;obtain ⟨G,g1,g2⟩:=pt.all s (Zp.mp hs) ((qou hT h2).mpr (by simpa using h3));obtain ⟨l,hl⟩:=V5.mp g1;exact Ql.mpr ⟨l,Zp.mpr (Qg.mp hl).1,qyu hT h2 h hl g2⟩
def qzm (hT:Tab b R n) (h2:R.length=2) (fr:Frm b R n f T k) (hp:PmN k p) (hs : ∀ i j,i<j->j<k->stp (qv T (p.getD i 0)) (qv T (p.getD j 0))=true) :
 ∃ D,DOf R n D/\Crv b D/\D.length=k/\(Qx (k+1)).map (crn f (p.toList.map (qv T)))=(Qx (k+1)).map (crn b D):=by
  obtain ⟨Gs,hG,e⟩:=fr.g;obtain ⟨ef,eT⟩:=zacy e;obtain ⟨ok,pt⟩:=hG.ok hT;have tJ:=jTab hT ok;have Jn:R.map (qbh Gs)≠[]:=fun z=>by have:=congrArg Qeh z;simp at this;rw [this] at h2;simp at h2
  obtain ⟨g,g0,e1,e2⟩:=qxk tJ Jn;rw [ef] at e1;rw [eT] at e2;have Tn:T≠[]:=fun z=>by have:=fr.len;rw [z,h2] at this;simp at this
  have tg:=tJ.gls Jn;rw [ef,eT] at tg;have ek:k=Gs.length:=Gls.wide Tn fr.gls tg;have lT:T.length=2:=by rw [fr.len,h2]
  have f0:=fr.gls.t.pos;have b0:=hT.pos;have cJ : ∀ j,qv (R.map (qbh Gs)) j=(g*(qv T j).1,g*(qv T j).2):=fun j=>by
   show (at2 (R.map (qbh Gs)) 0 j,at2 (R.map (qbh Gs)) 1 j)=(g*at2 T 0 j,g*at2 T 1 j);rw [e2,e2]
  have eJ:p.toList.map (qv (R.map (qbh Gs)))=(p.toList.map (qv T)).map fun c=>(g*c.1,g*c.2):=by
   rw [Zz];exact Zg fun j _=>cJ j
  have pw:=zalo hp hs;have pJ:(p.toList.map (qv (R.map (qbh Gs)))).Pairwise fun a b=>stp a b=true:=by
   rw [eJ,Qhy];refine pw.imp fun {a c} h=>?_;rw [qag] at h ⊢;unfold crs at h ⊢;show 0<g*a.2*(g*c.1)-g*c.2*(g*a.1);have:g*a.2*(g*c.1)-g*c.2*(g*a.1)=(g*g)*(a.2*c.1-c.2*a.1):=by grind
   rw [this];exact Zm (Zm g0 g0) h
  have so : ∀ c ∈ qV R n,Stp1 c:=fun c hc=>qgz hT hc;have lD:(p.toList.map (qv (R.map (qbh Gs)))).length=k:=by rw [Qe,Zf,hp.s]
  have dof:DOf R n (p.toList.map (qv (R.map (qbh Gs)))):=⟨pJ,fun x=>by
   rw [<- zaiq hT h2 hG,<- ek];exact (hp.p.map (qv (R.map (qbh Gs)))).mem_iff⟩
  have sm:=fun i=>zana eJ i;obtain ⟨x1,x2⟩:=zabu fr.gls.t lT hp;refine ⟨_,dof,⟨b0,fun c hc=>?_,pJ,?_,?_⟩,lD,?_⟩
  ·obtain ⟨d,hd,rfl⟩:=(dof.m c).mp hc;exact qpa so hd
  ·rw [lD,(sm k).1,x1,e1]
  ·rw [lD,(sm k).2,x2,e1]
  ·refine Zg fun i _=>?_;unfold crn;rw [(sm i).1,(sm i).2];obtain ⟨a1,a2⟩:=qic (t:=sX (p.toList.map (qv T)) i) (u:=g*sX (p.toList.map (qv T)) i) (b:=f) (c:=b) (by omega) (by omega) (by rw [<- e1];grind);obtain ⟨a3,a4⟩:=qic (t:=sY (p.toList.map (qv T)) i) (u:=g*sY (p.toList.map (qv T)) i) (b:=f) (c:=b) (by omega) (by omega) (by rw [<- e1];grind);rw [a1,a2,a3,a4]
end
structure G2 (b:Int) (R:List (List Int)) (n:Nat):Prop where
 t:Tab b R n
 l:R.length=2
 n1:1<=n
 n2:n<=12
 z:intBits b<=200
def qym (ds:List Qh) (q:Qh->Prop):Prop := ∃ (b:Int) (R:List (List Int)) (n:Nat) (c:Int) (S:List (List Int)) (m:Nat),ds=[qL b R,qL c S]/\(G2 b R n/\G2 c S m) /\
 ∀ D E,DOf R n D->DOf S m E->((∀ i,i<=E.length -> ¬ qwp b D c E i)->q .none) /\
  ∀ i k d,i<=E.length->(∀ j,j<i -> ¬ qwp b D c E j)->qwp b D c E i->D[k]?=some d->0<d.1->hgN b D k d (sX E i) c*c<sY E i*hgM b d c->q (.tuple [crP c E i,qzt (shT d.2 d.1) (shB d.2 d.1)])
def qnb:FnScope ["one","other","corners","corner","line"] ["one","other"] (defScope qtl):=sc0
def zaho (F:Def K mg "held" qtl ["one","other"]) (T:Txt K mg cs)
 (O_below:Ok P w K mg base "below" 4 ["one","other"] (PSp K qoj))
 (O_curve:Ok P w K mg base "curve" 6 ["glass"] (qfq [cs.tb,cs.tb1] (FSp K qov)))
 (O_line_at:Ok P w K mg base "line_at" 5 ["corners","x"] (PSp K qna))
 (O_slope:Ok P w K mg base "slope" 5 ["line"] (PSp K qot))
 (O_height_on:Ok P w K mg base "height_on" 6 ["line","x"] (PSp K qjb))
 (O_two_acts:Ok P w K mg base "two_acts" 1 ["steepness"] (PSp K qkz))
 : Ok P w K mg base "held" 7 ["one","other"] (qfq [cs.tb,cs.tb1] (PSp K qym)):=by
  refine F.tvok qnb (by rintro ds q ⟨_,_,_,_,_,_,h,_⟩;rw [h];rfl) fun f cdv A outer s H E hr hTb ds q h=>?_;obtain ⟨b,R,n,c,S,m,rfl,⟨g1,g2⟩,h⟩:=h;refine ⟨_,(qe (ql (i:=2) qnb.nd (qy (qfc (O_curve.t hTb) hr.m (qc (qa 0) qf))))
   (qe (qab rfl (qG (qy (qfc (O_curve.t hTb) hr.m (qc (qa 1) qf)))) (qo (i:=3) qnb.nd) (qe (ql (i:=4) qnb.nd (qr O_line_at.c hr.m (qc (qa 2) (qc (qh (qa 3) qd) qf))))
   (qg (qas (qS (qr O_below.c hr.m (qc (qr O_height_on.c hr.m (qc (qa 4) (qc (qh (qa 3) qd) qf))) (qc (qh (qa 3) qd) qf)))) (qg (qt (qat (qc (qa 3) (qc (qr O_two_acts.c hr.m (qc (qr O_slope.c hr.m (qc (qa 4) qf)) qf)) qf))))) qA))))
   (qg (qt qjf)))),?_⟩
  refine ⟨b,R,n,rfl,⟨g1.t,g1.l,g1.n1,g1.n2,g1.z⟩,fun f' T' k p fr hp hs=>?_⟩;obtain ⟨D,hD,C,lD,eL⟩:=qzm g1.t g1.l fr hp hs;rw [eL];have kn:=fr.kn;refine ⟨c,S,m,rfl,⟨g2.t,g2.l,g2.n1,g2.n2,g2.z⟩,fun f2 T2 k2 p2 fr2 hp2 hs2=>?_⟩;obtain ⟨E',hE,C2,lE,eL2⟩:=qzm g2.t g2.l fr2 hp2 hs2;rw [eL2];have h:=h D E' hD hE;have b1:=C.b1;have c1:=C2.b1;have n12:=g1.n2;have zb:=g1.z;have zc:=g2.z;obtain ⟨L,eLL⟩ : ∃ L,L=(Qx (k+1)).map (crn b D):=⟨_,rfl⟩
  rw [<- eLL];refine ⟨fun i e => ∃ t3 t4,e=[.val (qL b R),.val (qL c S),.val (.list L),t3,t4] /\ ∀ j,j<i -> ¬ qwp b D c E' j,⟨.non,.non,rfl,fun j z=>by omega⟩,?_,?_⟩
  ·rintro i x e hx ⟨t3,t4,rfl,M⟩;rw [Qa] at hx;cases ei:(Qx (k2+1))[i]? with
   | none=>rw [ei] at hx;cases hx
   | some i' =>
    rw [ei] at hx;cases hx;have il:=(Qg.mp ei).1;rw [Y1] at il;rw [Q5 il] at ei;cases ei;have il:i<=E'.length:=by omega
    obtain ⟨⟨x0,x1⟩,y0,y1⟩:=C2.le il;refine ⟨_,rfl,b,D,sX E' i,c,by rw [lD,eLL];rfl,⟨⟨C,by omega,zb⟩,c1,x0,x1,zc⟩,fun m' d hd d0 h1 h2=>?_⟩;have ml:=(Qg.mp hd).1;obtain ⟨a1,a2⟩:=qcs hd;have l0:=C.le (Yi ml);have l1:=C.le (i:=m'+1) ml;have pd:=(C.p d (Qf hd)).y;have pre:1<=b/\sX D m'<sX D (m'+1)/\intBits b<=200/\(0<=sX D m'/\sX D (m'+1)<=b)/\0<=sY D m'/\sY D m'<=sY D (m'+1)/\sY D (m'+1)<=b:=⟨b1,by omega,zb,⟨by omega,by omega⟩,by omega,by omega,by omega⟩
    have w1:sX D (m'+1)-sX D m'=d.1:=by omega
    have w2:sY D (m'+1)-sY D m'=d.2:=by omega
    refine ⟨_,rfl,b,sX D m',sY D m',sX D (m'+1),sY D (m'+1),sX E' i,c,rfl,⟨pre,⟨c1,x0,x1,zc⟩,h1⟩,?_⟩;rw [w1,w2];obtain ⟨ch,eh,eu⟩:=qvu c1 hd d0 h1 h2;obtain ⟨⟨n1,n2⟩,n3⟩:=ch.nn C c1 zb zc;rw [eh] at n1 n2;rw [eu] at n3;have dc:0<d.1*c:=Zm d0 (by omega);have mp:0<hgM b d c:=Zm (by omega) dc;have zM:intBits (hgM b d c)<=600:=qi (Yp zb n3) (by decide);have s1:=(qck (t:=hgN b D m' d (sX E' i) c) (b:=hgM b d c) (by omega)).1;have s2:=(qck (t:=sY E' i) (b:=c) (by omega)).1;have sd1:ShD (shT (hgN b D m' d (sX E' i) c) (hgM b d c)) (shB (hgN b D m' d (sX E' i) c) (hgM b d c)):=⟨s1,qi (m:=700) (qdk n2) (by decide),qi (qeh zM) (by decide)⟩
    have sd2:ShD (shT (sY E' i) c) (shB (sY E' i) c):=⟨s2,qi (qdk (qz y0 y1 zc)) (by decide),qi (qeh zc) (by decide)⟩
    have lt:=zakj (t:=hgN b D m' d (sX E' i) c) (u:=sY E' i) (b:=hgM b d c) (c:=c) mp (by omega);have iff:=zajh C c1 (E:=E') (i:=i) hd d0 h1 h2;refine ⟨_,rfl,_,_,_,_,rfl,⟨sd1,sd2⟩,qmm (fun yes=>?_) (fun no=>?_)⟩
    ·have yes:=lt.mp yes;refine ⟨b,sX D m',sY D m',sX D (m'+1),sY D (m'+1),rfl,pre,?_⟩;rw [w1,w2];exact ⟨_,_,rfl,szl,h.2 i m' d il M (iff.mpr yes) hd d0 yes⟩
    ·refine ⟨_,_,rfl,fun j hj=>?_⟩;by_cases e:j=i
     ·subst e;exact fun z=>no (lt.mpr (iff.mp z))
     ·exact M j (by omega)
  ·rintro e ⟨t3,t4,rfl,M⟩;rw [Qe,Y1] at M;exact h.1 fun i hi=>M i (by omega)
def qda:DC
 | [d],q=>q (.bool (match d with | .int _=>true|_=>false))
 | _,_=>False
def qpp:FnScope ["_law_found"] ["_law_found"] (defScope qdw):=sc0
def qpg (F:Def K mg "_law_whole" qdw ["_law_found"]) (T:Txt K mg cs)
 : Ok P w K mg base "_law_whole" 1 ["_law_found"] (PSp K qda):=by
  refine F.vok qpp (fun ds q h=>by unfold qda at h;split at h;all_goals first|rfl|exact h.elim) fun f cdv A outer s H E hr ds q h=>?_
  match ds,h with
  | [d],h =>
  refine ⟨_,(qg (qt (qpb (qfk T.isinstance_ T.int_ L2.boot_int (qa 0)) (qpv (zagk (qfk T.isinstance_ T.bool_ L2.boot_bool (qa 0))))))),?_⟩;cases d <;> exact h
def qfa (ds:List Qh) (k:Qh->Prop):Prop := ∃ p q,ds=[dSh p q]/\Shr p q/\k (.bool true)
def gcd_start' {p q:Int} (h:1<=q):Qeo (if p<0 then -p else p).toNat q.toNat=Yq p q:=by
 have:=qkp p q
 rwa [if_neg (show ¬ q<0 by omega)] at this
def qae:FnScope ["_law_found","_law_one","_law_other","_law_rest"] ["_law_found"] (defScope qbt):=sc0
def qjy (F:Def K mg "_law_is_share" qbt ["_law_found"]) (T:Txt K mg cs)
 (O__law_whole:Ok P w K mg base "_law_whole" 1 ["_law_found"] (PSp K qda))
 : Ok P w K mg base "_law_is_share" 2 ["_law_found"] (PSp K qfa):=by
  refine F.vok qae (by rintro ds q ⟨_,_,h,_⟩;rw [h];rfl) fun f cdv A outer s H E hr ds k h=>?_;obtain ⟨p,q,rfl,hp,h⟩:=h;refine ⟨_,(qe (qas (VW.pt (qdi (qaf (qS (qfk T.isinstance_ T.tuple_ L2.boot_tuple (qa 0)))) (qcu (qO (qsl hr.units) (qu qbx T.len_ L2.boot_len (qc (qa 0) qf)) qd)))) (qg (qt qdv)) qA)
   (qe (qas (VW.pt (qdi (qaf (qS (qr O__law_whole.c hr.m (qc (qh (qa 0) qd) qf)))) (qcu (qaf (qS (qr O__law_whole.c hr.m (qc (qh (qa 0) qd) qf))))))) (qg (qt qdv)) qA)
   (qe (ql (i:=1) qae.nd (qu zagy T.abs_ L2.boot_abs (qc (qh (qa 0) qd) qf)))
   (qe (ql (i:=2) qae.nd (qh (qa 0) qd))
   (qe (qas (qO o_lt (qa 2) qd) (qg (qt qdv)) qA)
   (qe (qjm (qO o_gt (qa 2) qd) (qe (ql (i:=3) qae.nd (qm qhj (qa 1) (qa 2)))
   (qe (ql (i:=1) qae.nd (qa 2))
   (qg (ql (i:=2) qae.nd (qa 3))))))
   (qg (qt (qgl (quz hr.units) (qa 1) qd))))))))),?_⟩
  have hq:=hp.pos;refine ⟨rfl,rfl,_,rfl,_,rfl,_,rfl,_,rfl,qmm (fun h=>absurd h (by omega)) (fun _=>?_)⟩;refine ⟨fun m e => ∃ x y r,e=[.val (dSh p q),.val (.int x),.val (.int y),r]/\0<=x/\0<=y/\Qeo x.toNat y.toNat=1/\m=y.toNat,⟨_,_,_,_,rfl,?_,by omega,(gcd_start' hq).trans hp.gcd,rfl⟩,?_⟩
  ·show 0<=(if p<0 then -p else p);split <;> omega
  rintro m e ⟨x,y,r,rfl,hx,hy,hg,rfl⟩;refine qmm (fun hne=>?_) (fun he=>?_)
  ·obtain ⟨t1,t2,t3⟩:=qoo hx hy (by omega) hg;exact ⟨by omega,(x%y).toNat,by omega,y,x%y,_,rfl,hy,t1,t3,rfl⟩
  ·have ex:x=1:=qrx hx (show y=0 by omega) hg;subst ex;exact ⟨rfl,rfl,h⟩
structure SfPre (p q t b:Int):Prop where
 s:Shr p q
 b1:intBits p<=4000
 b2:intBits q<=4000
 b3:intBits t<=4000
 b4:intBits b<=4000
 e:p*b=t*q
def qdz (ds:List Qh) (k:Qh->Prop):Prop := ∃ p q t b,ds=[dSh p q,.int t,.int b]/\SfPre p q t b/\k (.bool true)
def qih:FnScope ["_law_found","_law_top","_law_bottom"] ["_law_found","_law_top","_law_bottom"] (defScope qbe):=sc0
def qij (F:Def K mg "_law_stands_for" qbe ["_law_found","_law_top","_law_bottom"]) (T:Txt K mg cs)
 (O__law_is_share:Ok P w K mg base "_law_is_share" 2 ["_law_found"] (PSp K qfa))
 : Ok P w K mg base "_law_stands_for" 3 ["_law_found","_law_top","_law_bottom"] (PSp K qdz):=by
  refine F.vok qih (by rintro ds q ⟨_,_,_,_,h,_⟩;rw [h];rfl) fun f cdv A outer s H E hr ds k h=>?_;obtain ⟨p,q,t,b,rfl,hp,h⟩:=h;refine ⟨_,(qg (qt (qpb (qr O__law_is_share.c hr.m (qc (qa 0) qf)) (qpv (qgl (quz hr.units) (qm qC (qh (qa 0) qd) (qa 2)) (qm qC (qa 1) (qh (qa 0) qd))))))),?_⟩;refine ⟨p,q,rfl,hp.s,_,rfl,qak hp.b1 hp.b4,_,rfl,qak hp.b3 hp.b2,rfl,rfl,?_⟩;rw [hp.e,qrz,beq_self_eq_true];exact h
def qfs (ds:List Qh) (q:Qh->Prop):Prop := ∃ a b:Int×Int,ds=[dP a,dP b]/\(intBits a.1<=4000/\intBits a.2<=4000/\intBits b.1<=4000/\intBits b.2<=4000)/\q (.int (crs a b))
def qly:FnScope ["_law_one","_law_other"] ["_law_one","_law_other"] (defScope qcd):=sc0
def qlz (F:Def K mg "_law_steeper" qcd ["_law_one","_law_other"]) (T:Txt K mg cs)
 : Ok P w K mg base "_law_steeper" 1 ["_law_one","_law_other"] (PSp K qfs):=by
  refine F.vok qly (by rintro ds q ⟨_,_,h,_⟩;rw [h];rfl) fun f cdv A outer s H E hr ds q h=>?_;obtain ⟨a,b,rfl,⟨z1,z2,z3,z4⟩,h⟩:=h;refine ⟨_,(qg (qt (qm qqa (qm qC (qh (qa 0) qd) (qh (qa 1) qd)) (qm qC (qh (qa 1) qd) (qh (qa 0) qd))))),?_⟩;exact ⟨_,rfl,_,rfl,qak z2 z3,_,rfl,_,rfl,qak z4 z1,h⟩
def qhq (ds:List Qh) (q:List Qh->Prop):Prop := ∃ (b:Int) (R:List (List Int)) (n:Nat),ds=[qL b R]/\(Tab b R n/\R.length=2/\n<=60/\intBits b<=200) /\ ∀ Ls,Leads (qV R n) Ls->Ls.length<=60->q ((Ls.map (cls (qV R n))).map dP)
def qwz {L Ls left:List (Int×Int)}{lead:Int×Int} (hL : ∀ c ∈ L,Stp1 c) (el:left=L.filter fun c=>Ls.all fun l=>crs c l != 0) (hm : ∀ l ∈ Ls,l ∈ L) (hs:Ls.Pairwise fun a b=>stp a b=true) (hb : ∀ l ∈ Ls,∀ c ∈ left,stp l c=true) (hl:lead ∈ left) (hx : ∀ c ∈ left,crs c lead<=0) :
 (left.filter fun c=>crs c lead==0)=L.filter (fun c=>crs c lead==0)/\(left.filter fun c=>crs c lead != 0)=(L.filter fun c=>(Ls++[lead]).all fun l=>crs c l != 0)/\(∀ l ∈ Ls++[lead],l ∈ L)/\(Ls++[lead]).Pairwise (fun a b=>stp a b=true)/\(∀ l ∈ Ls++[lead],∀ c ∈ left.filter (fun c=>crs c lead != 0),stp l c=true)/\(left.filter fun c=>crs c lead != 0).length<left.length:=by
  have sub : ∀ c ∈ left,c ∈ L /\ ∀ l ∈ Ls,crs c l≠0:=fun c hc=>by
   rw [el] at hc;obtain ⟨h1,h2⟩:=Zt.mp hc;exact ⟨h1,fun l hl=>by have:=Z8.mp h2 l hl;simpa using this⟩
  have lL:=(sub lead hl).1;refine ⟨?_,?_,fun l h=>?_,?_,fun l h c hc=>?_,?_⟩
  ·rw [el,Qbk];refine Qbx fun c hc=>?_;by_cases z:crs c lead=0
   ·have:(Ls.all fun l=>crs c l != 0)=true:=Z8.mpr fun l h=>by
     have n1:crs c l≠0:=fun w=>(sub lead hl).2 l h (qhp (hL c hc) (by rw [qbg,z];rfl) w);simpa using n1
    rw [this,z];rfl
   ·have:(crs c lead==0)=false:=by simpa using z
    rw [this,Qji]
  ·rw [el,Qbk];refine Qbx fun c _=>?_;rw [List.all_append,Bool.and_comm];simp
  ·rcases Zd.mp h with h|h
   ·exact hm l h
   ·rw [Qp.mp h];exact lL
  ·refine Qgd.mpr ⟨hs,List.pairwise_singleton _ _,fun a ha b hb'=>?_⟩;rw [Qp.mp hb'];exact hb a ha lead hl
  ·obtain ⟨h1,h2⟩:=Zt.mp hc;rcases Zd.mp h with h|h
   ·exact hb l h c h1
   ·rw [Qp.mp h,qag,qbg];have:=hx c h1;have n0:crs c lead≠0:=by simpa using h2
    omega
  ·refine Qgy (J8 _ _) fun e=>?_;have:=List.length_filter_eq_length_iff.mp e lead hl;rw [qjv] at this;cases this
def qW:FnScope ["_law_glass_here","_law_left","_law_k","_law_found","_law_lead","_law_step","_law_same"] ["_law_glass_here"] (defScope qdy):=sc0
def qpd (F:Def K mg "_law_steps" qdy ["_law_glass_here"]) (T:Txt K mg cs)
 (O__law_steeper:Ok P w K mg base "_law_steeper" 1 ["_law_one","_law_other"] (PSp K qfs))
 : Ok P w K mg base "_law_steps" 2 ["_law_glass_here"] (FSp K qhq):=by
  refine F.vokF qW (by rintro ds q ⟨_,_,_,h,_⟩;rw [h];rfl) fun f cdv A outer s H E hr ds q h=>?_;obtain ⟨b,R,n,rfl,⟨hT,r2,n2,zb⟩,h⟩:=h;refine ⟨_,(qe (qca (i:=1) qW.nd (qR qf))
   (qe (qab rfl (qai T.range_ (qu qbx T.len_ L2.boot_len (qc (qh (qh (qa 0) qd) qd) qf))) (qo (i:=2) qW.nd) (qg (qas (qO o_gt (qm qar (qh (qh (qh (qa 0) qd) qd) (qa 2)) (qh (qh (qh (qa 0) qd) qd) (qa 2))) qd) (qg (qaj 1 (qat (qc (qh (qh (qh (qa 0) qd) qd) (qa 2)) (qc (qh (qh (qh (qa 0) qd) qd) (qa 2)) qf))))) qA)))
   (qe (qca (i:=3) qW.nd (qR qf))
   (qe (qjm (zahn 1 (qsl hr.units) (qy (qR qf))) (qe (ql (i:=4) qW.nd (zalk 1 qd))
   (qjh 1 (qe (qab rfl (qG (qa 1)) (qo (i:=5) qW.nd) (qg (qas (qO o_gt (qr O__law_steeper.c hr.m (qc (qa 5) (qc (qa 4) qf))) qd) (qg (ql (i:=4) qW.nd (qa 5))) qA)))
   (qe (qrg (i:=6) (caps:=["_law_lead"]) (own:=["_law_step"]) (ix:=[4]) qW.nd rfl ⟨rfl,rfl,rfl,rfl,rfl,rfl⟩ (qG (qa 1)) (fun _ _ _ _=>(qo (i:=1) (show Z7 (["_law_lead","_law_step"]:List Str) by decide))) (fun _ _ _ _=>(qO (quz hr.units) (qr O__law_steeper.c hr.m (qc (qa 1) (qc (qa 0) qf))) qd)) (fun _ _ _ _=>(qa 1)))
   (qe (qaj 3 (qat (qc (qu (qob rfl) T.sum_ L2.boot_sum (qc (qy (qaa (caps:=[]) (own:=["_law_step"]) (ix:=[]) rfl ⟨rfl,rfl,rfl,rfl,rfl,rfl⟩ (qG (qa 6)) (fun _ _ _ _=>(qo (i:=0) (show Z7 (["_law_step"]:List Str) by decide))) (fun _ _ _ _=>(qh (qa 0) qd)))) qf)) (qc (qu (qob rfl) T.sum_ L2.boot_sum (qc (qy (qaa (caps:=[]) (own:=["_law_step"]) (ix:=[]) rfl ⟨rfl,rfl,rfl,rfl,rfl,rfl⟩ (qG (qa 6)) (fun _ _ _ _=>(qo (i:=0) (show Z7 (["_law_step"]:List Str) by decide))) (fun _ _ _ _=>(qh (qa 0) qd)))) qf)) qf))))
   (qg (qwy (i:=1) (caps:=["_law_lead"]) (own:=["_law_step"]) (ix:=[4]) qW.nd rfl ⟨rfl,rfl,rfl,rfl,rfl,rfl⟩ (qG (qa 1)) (fun _ _ _ _=>(qo (i:=1) (show Z7 (["_law_lead","_law_step"]:List Str) by decide))) (fun _ _ _ _=>(qO (qsl hr.units) (qr O__law_steeper.c hr.m (qc (qa 1) (qc (qa 0) qf))) qd)) (fun _ _ _ _=>(qa 1))))))))))
   (qg (qhx 3)))))),?_⟩
  match R,r2,hT,h with
  | [r,u],_,hT,h =>
  have lr:=hT.len r (by simp);have lu:=hT.len u (by simp);have nn : ∀ j,0<=(qv [r,u] j).1/\0<=(qv [r,u] j).2:=fun j=>⟨qcn hT.nn 0 j,qcn hT.nn 1 j⟩
  have zc : ∀ {m:Nat}{c:Int×Int},c ∈ qV [r,u] m->intBits c.1<=4000/\intBits c.2<=4000:=fun {m c} hc=>by
   obtain ⟨h1,_⟩:=Zt.mp hc;obtain ⟨j,_,rfl⟩:=Ql.mp h1;have le : ∀ v ∈ [r,u],intBits ((v[j]?).getD 0)<=4000:=fun v hv=>by
    cases e:v[j]? with
    | none=>decide
    | some x=>exact qi (hT.bits zb hv (Qf e)) (by decide)
   exact ⟨le r (by simp),le u (by simp)⟩
  have ls : ∀ m,(qV [r,u] m).length<=m:=fun m=>by
   have:=J8 (fun c:Int×Int=>decide (0<c.1+c.2)) ((Qx m).map (qv [r,u]));rw [Qe,Y1] at this;exact this
  refine ⟨szl,_,rfl,_,rfl,⟨by omega,by simp;omega⟩,fun i e => ∃ t2 t3 t4 t5 t6,e=[.val (qL b [r,u]),.own ((qV [r,u] i).map dP),t2,t3,t4,t5,t6],⟨_,_,_,_,_,rfl⟩,?_,?_⟩
  ·rintro i x e hx ⟨t2,t3,t4,t5,t6,rfl⟩;obtain ⟨hi',rfl⟩:=qan hx;rw [Vc];have hi:i<n:=by simp at hi';omega
   have e1:r[i]?=some (qv [r,u] i).1:=by rw [Qc (by omega)];show _=some ((r[i]?).getD 0);rw [Qc (by omega)];rfl
   have e2:u[i]?=some (qv [r,u] i).2:=by rw [Qc (by omega)];show _=some ((u[i]?).getD 0);rw [Qc (by omega)];rfl
   have a1:atI (r.map Q2) (i:Int)=some (.int (qv [r,u] i).1):=qbl (by rw [Qa,e1];rfl);have a2:atI (u.map Q2) (i:Int)=some (.int (qv [r,u] i).2):=qbl (by rw [Qa,e2];rfl);refine ⟨_,rfl,_,rfl,_,a1,_,rfl,_,rfl,_,a2,qmm (fun pos=>?_) (fun neg=>?_)⟩
   ·refine ⟨rfl,_,rfl,_,rfl,_,a1,_,rfl,_,rfl,_,a2,szl,rfl,qj ?_,.val (.int i),t3,t4,t5,t6,?_⟩
    ·show ((qV [r,u] i).map dP).length<=1000;have:=ls i;rw [Qe];omega
    ·rw [qne,if_pos pos,Q9];rfl
   ·refine ⟨.val (.int i),t3,t4,t5,t6,?_⟩;rw [qne,if_neg neg];rfl
  rintro e ⟨t2,t3,t4,t5,t6,rfl⟩;have en:(qsf 0 (((r.map Q2).length:Nat):Int).toNat).length=n:=by rw [qP];simp [lr]
  rw [en];obtain ⟨L,eL⟩ : ∃ L,L=qV [r,u] n:=⟨_,rfl⟩
  have hL : ∀ c ∈ L,Stp1 c:=fun c hc=>qgz hT (eL ▸ hc);have zL : ∀ c ∈ L,intBits c.1<=4000/\intBits c.2<=4000:=fun c hc=>zc (eL ▸ hc);have lL:L.length<=60:=by have:=ls n;rw [<- eL] at this;omega
  rw [<- eL] at h ⊢;refine ⟨szl,fun m e => ∃ (Ls left:List (Int×Int)) (t2 t4 t5 t6:Sl),e=[.val (qL b [r,u]),.own (left.map dP),t2,.own ((Ls.map (cls L)).map dP),t4,t5,t6]/\(left=L.filter fun c=>Ls.all fun l=>crs c l != 0)/\(∀ l ∈ Ls,l ∈ L)/\(Ls.Pairwise fun a b=>stp a b=true)/\(∀ l ∈ Ls,∀ c ∈ left,stp l c=true)/\m=left.length/\Ls.length+left.length<=60,⟨_,[],L,t2,t4,t5,t6,rfl,?_,fun l hl=>(by cases hl),Qhr,fun l hl=>(by cases hl),rfl,by simpa using lL⟩,?_⟩
  ·exact (List.filter_eq_self.mpr fun c _=>rfl).symm
  rintro m e ⟨Ls,left,t2,t4,t5,t6,rfl,el,hm,hs,hb,rfl,ll⟩;have lle:left.length<=60:=by
   have:=J8 (fun c=>Ls.all fun l=>crs c l != 0) L;rw [<- el] at this;omega
  have sub : ∀ c ∈ left,c ∈ L:=fun c hc=>by rw [el] at hc;exact (Zt.mp hc).1
  have sh:Shp 2 (.list (left.map dP)):=zahl fun x hx=>by
   obtain ⟨c,_,rfl⟩:=Ql.mp hx;exact qsa (quy [c.1,c.2] 0)
  refine ⟨rfl,szl,rfl,sh.ok,rfl,rfl,?_⟩;by_cases z:left=[]
  ·subst z;refine iteN rfl ⟨_,rfl,h Ls ⟨hm,hs,fun c hc=>?_⟩ (by simpa using ll)⟩;have hc0:c ∉ L.filter fun c=>Ls.all fun l=>crs c l != 0:=by rw [<- el];simp
   have:=fun w=>hc0 (Zt.mpr ⟨hc,w⟩);rw [Z8] at this;refine Yw fun no=>this fun l hl=>?_;have:crs c l≠0:=fun w=>no ⟨l,hl,w⟩;simpa using this
  obtain ⟨c0,rest,e0⟩:=Zq z;refine iteY (by show (!PyData.eqv (.list (left.map dP)) (.list []))=true;rw [e0];simp [Qba,Qh.eqvAll]) ?_;refine ⟨rfl,rfl,dP c0,by rw [e0];exact qgx _ _,?_⟩;refine ⟨fun i e => ∃ lead t5,e=[.val (qL b [r,u]),.val (.list (left.map dP)),t2,.own ((Ls.map (cls L)).map dP),.val (dP lead),t5,t6]/\lead ∈ left /\ ∀ c ∈ left.take i,crs c lead<=0,⟨c0,_,rfl,by rw [e0];simp,fun c hc=>by simp at hc⟩,?_,?_⟩
  ·rintro i x e hx ⟨lead,t5,rfl,hl,hle⟩;rw [Qa] at hx;cases ec:left[i]? with
   | none=>rw [ec] at hx;cases hx
   | some c =>
    rw [ec] at hx;cases hx;have cm:=Qf ec;have z1:=zL c (sub c cm);have z2:=zL lead (sub lead hl);have et:left.take (i+1)=left.take i++[c]:=by rw [Zs,ec];rfl
    refine ⟨c,lead,rfl,⟨z1.1,z1.2,z2.1,z2.2⟩,qmm (fun pos=>⟨c,_,rfl,cm,fun d hd=>?_⟩) (fun neg=>⟨lead,_,rfl,hl,fun d hd=>?_⟩)⟩
    ·rw [et] at hd;rcases Zd.mp hd with hd|hd
     ·have h1:=hle d hd;have dm:=Qge hd;rcases Yu 0 (crs d c) with w|w
      ·have a1:=hL d (sub d dm);have a2:=hL c (sub c cm);have a3:=hL lead (sub lead hl);have:=qxr ⟨a1.x,a1.y⟩ ⟨a2.x,a2.y⟩ ⟨a3.x,a3.y⟩ (qag.mpr w) (qag.mpr pos);rw [qag] at this;omega
      ·exact w
     ·rw [Qp.mp hd,qjv];exact Y6 _
    ·rw [et] at hd;rcases Zd.mp hd with hd|hd
     ·exact hle d hd
     ·rw [Qp.mp hd];omega
  rintro e ⟨lead,t5,rfl,hl,hle⟩;rw [Qe,Zl] at hle;have z2:=zL lead (sub lead hl);obtain ⟨n1,n2',n3,n4,n5,n6⟩:=qwz hL el hm hs hb hl hle;refine ⟨qj (by rw [Qe];omega),fun i ys e=>ys=((left.take i).filter fun c=>crs c lead==0).map dP /\ ∃ s,e=[.val (dP lead),s],⟨rfl,_,rfl⟩,?_,?_⟩
  ·rintro i x ys e hx ⟨rfl,s,rfl⟩;rw [Qa] at hx;cases ec:left[i]? with
   | none=>rw [ec] at hx;cases hx
   | some c =>
    rw [ec] at hx;cases hx;have z1:=zL c (sub c (Qf ec));have et:left.take (i+1)=left.take i++[c]:=by rw [Zs,ec];rfl
    refine ⟨c,lead,rfl,⟨z1.1,z1.2,z2.1,z2.2⟩,rfl,rfl,qmd (fun w=>⟨?_,.val (dP c),rfl⟩) (fun w=>⟨?_,.val (dP c),rfl⟩)⟩
    ·rw [et,Yc,Q9,Yy,if_pos (by rw [w];rfl)];rfl
    ·rw [et,Yc,Yy,if_neg (by simpa using w)];simp
  rintro ys e ⟨rfl,s,rfl⟩;rw [Qe,Zl,n1];obtain ⟨sm,esm⟩ : ∃ sm,sm=L.filter fun c=>crs c lead==0:=⟨_,rfl⟩
  have lsm:sm.length<=60:=by rw [esm];exact Zr (J8 _ _) lL
  rw [<- esm];refine ⟨rfl,qN ((sm.map (·.1)).map Q2) (by simp) (qj (by simp;omega)) (fun e => ∃ s,e=[s]) ⟨_,rfl⟩ ?_ ?_⟩
  ·rintro i x ys e hx hys ⟨s,rfl⟩;rw [Qa] at hx;cases ec:sm[i]? with
   | none=>rw [ec] at hx;cases hx
   | some c =>
    rw [ec] at hx;cases hx;refine ⟨_,rfl,qw ?_ hys,_,rfl⟩;rw [Qa,Qa,ec];rfl
  refine ⟨_,rfl,qN ((sm.map (·.2)).map Q2) (by simp) (qj (by simp;omega)) (fun e => ∃ s,e=[s]) ⟨_,rfl⟩ ?_ ?_⟩
  ·rintro i x ys e hx hys ⟨s,rfl⟩;rw [Qa] at hx;cases ec:sm[i]? with
   | none=>rw [ec] at hx;cases hx
   | some c =>
    rw [ec] at hx;cases hx;refine ⟨_,rfl,qw ?_ hys,_,rfl⟩;rw [Qa,Qa,ec];rfl
  refine ⟨_,rfl,szl,rfl,qj ?_,?_⟩
  ·show ((Ls.map (cls L)).map dP).length<=1000;rw [Qe,Qe];omega
  refine ⟨qj (by rw [Qe];omega),fun i ys e=>ys=((left.take i).filter fun c=>crs c lead != 0).map dP /\ ∃ s,e=[.val (dP lead),s],⟨rfl,_,rfl⟩,?_,?_⟩
  ·rintro i x ys e hx ⟨rfl,s,rfl⟩;rw [Qa] at hx;cases ec:left[i]? with
   | none=>rw [ec] at hx;cases hx
   | some c =>
    rw [ec] at hx;cases hx;have z1:=zL c (sub c (Qf ec));have et:left.take (i+1)=left.take i++[c]:=by rw [Zs,ec];rfl
    refine ⟨c,lead,rfl,⟨z1.1,z1.2,z2.1,z2.2⟩,rfl,rfl,qig (fun w=>⟨?_,.val (dP c),rfl⟩) (fun w=>⟨?_,.val (dP c),rfl⟩)⟩
    ·rw [et,Yc,Q9,Yy,if_pos (by simpa using w)];rfl
    ·rw [et,Yc,Yy,if_neg (by rw [w];decide)];simp
  rintro ys e ⟨rfl,s,rfl⟩;rw [Qe,Zl];refine ⟨_,n6,Ls++[lead],left.filter (fun c=>crs c lead != 0),t2,.val (dP lead),t5,.val (.list (sm.map dP)),?_,n2',n3,n4,n5,rfl,?_⟩
  ·rw [Q9,Q9];have ecl:cls L lead=((sm.map (·.1)).sum,(sm.map (·.2)).sum):=by unfold cls;rw [esm]
   show _=[_,_,_,Sl.own (_++[dP (cls L lead)]),_,_,_];rw [ecl];rfl
  ·rw [Yk];simp only [Zk,Ji];omega
def qft (ds:List Qh) (q:List Qh->Prop):Prop := ∃ (b:Int) (R:List (List Int)) (n:Nat),ds=[qL b R]/\(Tab b R n/\R.length=2/\n<=60/\intBits b<=200) /\ ∀ Ls,Leads (qV R n) Ls->Ls.length<=60->q ((qsi (Ls.map (cls (qV R n)))).map dP)
def qZ:FnScope ["_law_glass_here","_law_x","_law_y","_law_found","_law_step"] ["_law_glass_here"] (defScope qce):=sc0
def qlr (F:Def K mg "_law_corners" qce ["_law_glass_here"]) (T:Txt K mg cs)
 (O__law_steps:Ok P w K mg base "_law_steps" 2 ["_law_glass_here"] (FSp K qhq))
 : Ok P w K mg base "_law_corners" 3 ["_law_glass_here"] (FSp K qft):=by
  refine F.vokF qZ (by rintro ds q ⟨_,_,_,h,_⟩;rw [h];rfl) fun f cdv A outer s H E hr ds q h=>?_;obtain ⟨b,R,n,rfl,pre,h⟩:=h;refine ⟨_,(qe (ql (i:=1) qZ.nd qd)
   (qe (ql (i:=2) qZ.nd qd)
   (qe (qca (i:=3) qZ.nd (qR (qc (qat (qc qd (qc qd qf))) qf)))
   (qe (qab rfl (qG (qy (qfc O__law_steps.c hr.m (qc (qa 0) qf)))) (qo (i:=4) qZ.nd) (qe (ql (i:=1) qZ.nd (qm qar (qa 1) (qh (qa 4) qd)))
   (qe (ql (i:=2) qZ.nd (qm qar (qa 2) (qh (qa 4) qd)))
   (qg (qaj 3 (qat (qc (qa 1) (qc (qa 2) qf))))))))
   (qg (qhx 3)))))),?_⟩
  refine ⟨szl,szl,b,R,n,rfl,pre,fun Ls hL ll=>?_⟩;obtain ⟨D,eD⟩ : ∃ D,D=Ls.map (cls (qV R n)):=⟨_,rfl⟩
  have lD:D.length<=60:=by rw [eD,Qe];exact ll
  have h:=h Ls hL ll;rw [<- eD] at h ⊢;refine ⟨fun i e => ∃ t,e=[.val (qL b R),.val (.int (sX D i)),.val (.int (sY D i)),.own (((Qx (i+1)).map fun i=>(sX D i,sY D i)).map dP),t],⟨.non,rfl⟩,?_,?_⟩
  ·rintro i x e hx ⟨t,rfl⟩;rw [Qa] at hx;cases ec:D[i]? with
   | none=>rw [ec] at hx;cases hx
   | some c =>
    rw [ec] at hx;cases hx;have hi:=(Qg.mp ec).1;obtain ⟨x1,x2⟩:=qcs ec;refine ⟨_,rfl,_,rfl,rfl,szl,rfl,qj ?_,.val (dP c),?_⟩
    ·show (((Qx (i+1)).map fun i=>(sX D i,sY D i)).map dP).length<=1000;simp;omega
    ·rw [x1,x2,Yx (n:=i+1),Q9,Q9];show _=[_,_,_,Sl.own (_++[dP (sX D (i+1),sY D (i+1))]),_];rw [x1,x2];rfl
  ·rintro e ⟨t,rfl⟩;rw [Qe];exact ⟨_,rfl,h⟩
def AbvP (b:Int) (D:List (Int×Int)) (t y c:Int):Prop := ∀ i j,Cho b D t c i j->chH b D t c i j*c<y*b*chU D c i j
def qhs (ds:List Qh) (q:Qh->Prop):Prop := ∃ (b:Int) (D:List (Int×Int)) (t y c:Int),ds=[.list ((qsi D).map dP),.int b,dP (t,y),.int c]/\((Crv b D/\D.length<=60/\intBits b<=200)/\1<=c/\intBits c<=200/\(0<=t/\t<=c)/\0<=y/\y<=c) /\
 (AbvP b D t y c->q (.bool true))/\(¬ AbvP b D t y c->q (.bool false))
def qU:FnScope ["_law_some","_law_whole_here","_law_point","_law_bottom","_law_i","_law_j","_law_wide","_law_far","_law_high","_law_under"] ["_law_some","_law_whole_here","_law_point","_law_bottom"] (defScope qdx):=sc0
def qpu (F:Def K mg "_law_above" qdx ["_law_some","_law_whole_here","_law_point","_law_bottom"]) (T:Txt K mg cs)
 : Ok P w K mg base "_law_above" 1 ["_law_some","_law_whole_here","_law_point","_law_bottom"] (PSp K qhs):=by
  refine F.vok qU (by rintro ds q ⟨_,_,_,_,_,h,_⟩;rw [h];rfl) fun f cdv A outer s H E hr ds q h=>?_;obtain ⟨b,D,t,y,c,rfl,⟨⟨C,lD,zb⟩,c1,zc,⟨t0,tc⟩,y0,yc⟩,hy,hn⟩:=h;refine ⟨_,(qe (qab rfl (qai T.range_ (qu qbx T.len_ L2.boot_len (qc (qa 0) qf))) (qo (i:=4) qU.nd) (qg (qab rfl (zabl T.range_ (qa 4) (qu qbx T.len_ L2.boot_len (qc (qa 0) qf))) (qo (i:=5) qU.nd) (qe (ql (i:=6) qU.nd (qm qC (qm qqa (qh (qh (qa 0) (qa 5)) qd) (qh (qh (qa 0) (qa 4)) qd)) (qa 3)))
   (qe (ql (i:=7) qU.nd (qm qqa (qm qC (qh (qa 2) qd) (qa 1)) (qm qC (qh (qh (qa 0) (qa 4)) qd) (qa 3))))
   (qg (qas (zaei o_le o_le qd (qa 7) (qa 6)) (qe (ql (i:=8) qU.nd (qh (qh (qa 0) (qa 5)) qd))
   (qe (ql (i:=9) qU.nd qd)
   (qkc (qas (qO o_gt (qa 6) qd) (qe (ql (i:=8) qU.nd (qm qar (qm qC (qh (qh (qa 0) (qa 4)) qd) (qa 6)) (qm qC (qm qqa (qh (qh (qa 0) (qa 5)) qd) (qh (qh (qa 0) (qa 4)) qd)) (qa 7))))
   (qg (ql (i:=9) qU.nd (qa 6)))) qA)
   (qg (qas (qO o_ge (qm qC (qa 8) (qa 3)) (qm qC (qm qC (qh (qa 2) qd) (qa 1)) (qa 9))) (qg (qt qdv)) qA))))) qA)))))))
   (qg (qt qdv))),?_⟩
  have lP:((qsi D).map dP).length=D.length+1:=by unfold qsi;simp
  have aC : ∀ k,k<=D.length->atI ((qsi D).map dP) (k:Int)=some (dP (sX D k,sY D k)):=fun k hk=>qbl (by unfold qsi;rw [Qa,Qa,Q5 (by omega)];rfl);obtain ⟨L,eL⟩ : ∃ L,L=(qsi D).map dP:=⟨_,rfl⟩
  rw [<- eL] at lP aC ⊢;refine ⟨⟨by omega,by rw [lP];omega⟩,fun i e => ∃ t4 t5 t6 t7 t8 t9,e=[.val (.list L),.val (.int b),.val (dP (t,y)),.val (.int c),t4,t5,t6,t7,t8,t9] /\ ∀ p r,Cho b D t c p r->p<i->chH b D t c p r*c<y*b*chU D c p r,⟨.non,.non,.non,.non,.non,.non,rfl,fun p r _ z=>by omega⟩,?_,?_⟩
  ·rintro i x e hx ⟨t4,t5,t6,t7,t8,t9,rfl,M⟩;obtain ⟨hi',rfl⟩:=qan hx;rw [Vc];have hi:i<=D.length:=by rw [lP] at hi';omega
   clear hi' hx;obtain ⟨⟨xi0,xi1⟩,yi0,yi1⟩:=C.le hi;have zI : ∀ {z:Int},0<=z->z<=b->intBits z<=4000:=fun h1 h2=>qi (qz h1 h2 zb) (by decide);have b1:=C.b1;have zct:=qz t0 tc zc;refine ⟨⟨by omega,by rw [lP];omega⟩,fun k e => ∃ t5 t6 t7 t8 t9,e=[.val (.list L),.val (.int b),.val (dP (t,y)),.val (.int c),.val (.int i),t5,t6,t7,t8,t9] /\ ∀ r,Cho b D t c i r->r<i+k->chH b D t c i r*c<y*b*chU D c i r,⟨_,_,_,_,_,rfl,fun r z w=>by have:=z.ij;omega⟩,?_,?_⟩
   ·rintro k x e hx ⟨t5,t6,t7,t8,t9,rfl,N⟩;obtain ⟨hk',rfl⟩:=qan hx;have hk:i+k<=D.length:=by rw [lP] at hk';omega
    clear hk' hx;obtain ⟨j,ej⟩ : ∃ j,j=i+k:=⟨_,rfl⟩
    rw [show (i:Int)+(k:Int)=(j:Int) by omega];rw [<- ej] at N hk;have fin:(Cho b D t c i j->chH b D t c i j*c<y*b*chU D c i j) -> ∀ r,Cho b D t c i r->r<i+(k+1)->chH b D t c i r*c<y*b*chU D c i r:=fun z r w1 w2=>by
     by_cases e:r=j
     ·subst e;exact z w1
     ·exact N r w1 (by omega)
    obtain ⟨⟨xj0,xj1⟩,yj0,yj1⟩:=C.le hk;have up : ∀ {z:Int}{m:Nat},intBits z<=m->m<=4000->intBits z<=4000:=fun h1 h2=>qi h1 h2;refine ⟨_,aC j hk,_,rfl,_,aC i hi,_,rfl,qak (qi (intBits_sub_le (qz xj0 xj1 zb) (qz xi0 xi1 zb)) (by decide)) (up zc (by decide)),_,rfl,qak (up zct (by decide)) (up zb (by decide)),_,aC i hi,_,rfl,qak (zI xi0 xi1) (up zc (by decide)),?_⟩;refine qmm (fun f0=>qmm (fun fw=>?_) (fun no=>?_)) (fun no=>?_)
    ·have ch:Cho b D t c i j:=⟨by omega,hk,f0,fw⟩
     obtain ⟨⟨n1,n2⟩,n3⟩:=ch.nn C c1 zb zc;have wb:chW D c i j<=b*c:=Q6 (by omega) (by omega);have f0:0<=chF b D t c i:=f0;have fw:chF b D t c i<=chW D c i j:=fw;have zw:intBits (chW D c i j)<=4000:=qi (qz (by omega) wb (Yp zb zc)) (by decide);have zf:intBits (chF b D t c i)<=4000:=qi (qz (b:=b*c) f0 (by omega) (Yp zb zc)) (by decide);refine ⟨_,aC j hk,_,rfl,fun e=>e=[.val (.list L),.val (.int b),.val (dP (t,y)),.val (.int c),.val (.int i),.val (.int j),.val (.int (chW D c i j)),.val (.int (chF b D t c i)),.val (.int (chH b D t c i j)),.val (.int (chU D c i j))],?_,?_⟩
     ·refine qmm (fun w=>?_) (fun w=>?_)
      ·refine ⟨_,aC i hi,_,rfl,qak (zI yi0 yi1) zw,_,aC j hk,_,rfl,_,aC i hi,_,rfl,qak (qi (intBits_sub_le (qz yj0 yj1 zb) (qz yi0 yi1 zb)) (by decide)) zf,?_⟩;have w:0<chW D c i j:=w;unfold chH chU;rw [if_pos w,if_pos w];rfl
      ·have w : ¬ 0<chW D c i j:=w;unfold chH chU;rw [if_neg w,if_neg w];rfl
     ·rintro e rfl;have zy:=qz y0 yc zc;refine ⟨qak (qi n2 (by decide)) (up zc (by decide)),_,rfl,qak (up zy (by decide)) (up zb (by decide)),qak (up (Yp zy zb) (by decide)) (qi n3 (by decide)),qmm (fun yes=>?_) (fun no=>?_)⟩
      ·exact hn fun z=>by
        have:=z i j ch;have yes:y*b*chU D c i j<=chH b D t c i j*c:=yes;omega
      ·have no : ¬ y*b*chU D c i j<=chH b D t c i j*c:=no;exact ⟨_,_,_,_,_,rfl,fin fun _=>by omega⟩
    ·exact ⟨_,_,_,_,_,rfl,fin fun z=>(no z.fw).elim⟩
    ·exact ⟨_,_,_,_,_,rfl,fin fun z=>(no z.f0).elim⟩
   ·rintro e ⟨t5,t6,t7,t8,t9,rfl,N⟩;rw [qP,lP] at N;refine ⟨_,_,_,_,_,_,rfl,fun p r z w=>?_⟩;by_cases e:p=i
    ·subst e;have:=z.jl;exact N r z (by omega)
    ·exact M p r z (by omega)
  ·rintro e ⟨t4,t5,t6,t7,t8,t9,rfl,M⟩;rw [qP,lP] at M;exact hy fun i j z=>M i j z (by have:=z.ij;have:=z.jl;omega)
def qhu (ds:List Qh) (q:Qh->Prop):Prop := ∃ (b:Int) (R:List (List Int)) (n:Nat) (c:Int) (S:List (List Int)) (m:Nat),ds=[qL b R,qL c S]/\((Tab b R n/\R.length=2/\n<=60/\intBits b<=200)/\(Tab c S m/\S.length=2/\m<=60/\intBits c<=200)) /\
 ∀ D E,DOf R n D->DOf S m E->((∀ i,i<=E.length -> ¬ qwp b D c E i)->q .none) /\
  ∀ i,i<=E.length->(∀ j,j<i -> ¬ qwp b D c E j)->qwp b D c E i->q (dP (sX E i,sY E i))
def qet:FnScope ["_law_one","_law_other","_law_some","_law_point"] ["_law_one","_law_other"] (defScope qdr):=sc0
def qpr (F:Def K mg "_law_first" qdr ["_law_one","_law_other"]) (T:Txt K mg cs)
 (O__law_corners:Ok P w K mg base "_law_corners" 3 ["_law_glass_here"] (FSp K qft))
 (O__law_above:Ok P w K mg base "_law_above" 1 ["_law_some","_law_whole_here","_law_point","_law_bottom"] (PSp K qhs))
 : Ok P w K mg base "_law_first" 4 ["_law_one","_law_other"] (PSp K qhu):=by
  refine F.vok qet (by rintro ds q ⟨_,_,_,_,_,_,h,_⟩;rw [h];rfl) fun f cdv A outer s H E hr ds q h=>?_;obtain ⟨b,R,n,c,S,m,rfl,⟨g1,g2⟩,h⟩:=h;refine ⟨_,(qe (ql (i:=2) qet.nd (qy (qfc O__law_corners.c hr.m (qc (qa 0) qf))))
   (qe (qab rfl (qG (qy (qfc O__law_corners.c hr.m (qc (qa 1) qf)))) (qo (i:=3) qet.nd) (qg (qas (qS (qr O__law_above.c hr.m (qc (qa 2) (qc (qh (qa 0) qd) (qc (qa 3) (qc (qh (qa 1) qd) qf)))))) (qg (qt (qa 3))) qA)))
   (qg (qt qjf)))),?_⟩
  refine ⟨b,R,n,rfl,g1,fun Ls hL ll=>?_⟩;obtain ⟨hT,r2,n2,zb⟩:=g1;have hD:=hL.dof hT;obtain ⟨D,eD⟩ : ∃ D,D=Ls.map (cls (qV R n)):=⟨_,rfl⟩
  have lD:D.length<=60:=by rw [eD,Qe];exact ll
  rw [<- eD] at hD ⊢;have C:=hD.crv hT r2;refine ⟨c,S,m,rfl,g2,fun Ls2 hL2 ll2=>?_⟩;obtain ⟨hT2,r22,m2,zc⟩:=g2;have hE:=hL2.dof hT2;obtain ⟨E',eE⟩ : ∃ D,D=Ls2.map (cls (qV S m)):=⟨_,rfl⟩
  rw [<- eE] at hE ⊢;have C2:=hE.crv hT2 r22;have h:=h D E' hD hE;have c1:=C2.b1;obtain ⟨L,eL⟩ : ∃ L,L=(qsi D).map dP:=⟨_,rfl⟩
  rw [<- eL];refine ⟨fun i e => ∃ t3,e=[.val (qL b R),.val (qL c S),.val (.list L),t3] /\ ∀ j,j<i -> ¬ qwp b D c E' j,⟨.non,rfl,fun j z=>by omega⟩,?_,?_⟩
  ·rintro i x e hx ⟨t3,rfl,M⟩;unfold qsi at hx;rw [Qa,Qa] at hx;cases ei:(Qx (E'.length+1))[i]? with
   | none=>rw [ei] at hx;cases hx
   | some i' =>
    rw [ei] at hx;cases hx;have il:=(Qg.mp ei).1;rw [Y1] at il;rw [Q5 il] at ei;cases ei;have il:i<=E'.length:=by omega
    obtain ⟨⟨x0,x1⟩,y0,y1⟩:=C2.le il;refine ⟨_,rfl,_,rfl,b,D,sX E' i,sY E' i,c,by rw [eL],⟨⟨C,lD,zb⟩,c1,zc,⟨x0,x1⟩,y0,y1⟩,fun yes=>?_,fun no=>?_⟩
    ·exact h.2 i il M yes
    ·refine ⟨_,rfl,fun j hj=>?_⟩;by_cases e:j=i
     ·subst e;exact no
     ·exact M j (by omega)
  ·rintro e ⟨t3,rfl,M⟩;have lE:((qsi E').map dP).length=E'.length+1:=by unfold qsi;simp
   rw [lE] at M;exact h.1 fun i hi=>M i (by omega)
def qiy (ds:List Qh) (q:Qh->Prop):Prop := ∃ (b:Int) (R:List (List Int)) (n:Nat) (p r:Int),ds=[qL b R,qzt p r]/\(Tab b R n/\R.length=2/\n<=60/\intBits b<=200/\intBits p<=2000/\intBits r<=2000)/\q (.int (qcr p r ((Qx n).map (qv R))))
def yOf (p r:Int) (k j:Nat):Int:=if j=0 then 0 else if k=0 then -p else r
def zall (p r:Int) {k j:Nat} (hk:k<2) (hj:j<2) : ∃ l,atI [Qkg [.int 0,.int (-p)],.tuple [.int 0,.int r]] (k:Int)=some (.tuple l)/\atI l (j:Int)=some (.int (yOf p r k j)):=by
 have h1:k=0\/k=1:=by omega
 have h2:j=0\/j=1:=by omega
 rcases h1 with rfl|rfl <;> rcases h2 with rfl|rfl
 ·exact ⟨[.int 0,.int (-p)],rfl,rfl⟩
 ·exact ⟨[.int 0,.int (-p)],rfl,rfl⟩
 ·exact ⟨[.int 0,.int r],rfl,rfl⟩
 ·exact ⟨[.int 0,.int r],rfl,rfl⟩
def qbp:FnScope ["_law_glass_here","_law_payoffs_here","_law_found","_law_k","_law_sums","_law_act"] ["_law_glass_here","_law_payoffs_here"] (defScope qeq):=sc0
def qrt (F:Def K mg "_law_best" qeq ["_law_glass_here","_law_payoffs_here"]) (T:Txt K mg cs)
 : Ok P w K mg base "_law_best" 1 ["_law_glass_here","_law_payoffs_here"] (PSp K qiy):=by
  refine F.vok qbp (by rintro ds q ⟨_,_,_,_,_,h,_⟩;rw [h];rfl) fun f cdv A outer s H E hr ds q h=>?_;obtain ⟨b,R,n,p,r,rfl,⟨hT,r2,n2,zb,zp,zr⟩,h⟩:=h;refine ⟨_,(qe (ql (i:=2) qbp.nd qd)
   (qe (qab rfl (qai T.range_ (qu qbx T.len_ L2.boot_len (qc (qh (qh (qa 0) qd) qd) qf))) (qo (i:=3) qbp.nd) (qe (qca (i:=4) qbp.nd (qR qf))
   (qe (qab rfl (qai T.range_ qd) (qo (i:=5) qbp.nd) (qg (qaj 4 (qu (qob rfl) T.sum_ L2.boot_sum (qc (qy (qaa (caps:=["_law_glass_here","_law_payoffs_here","_law_k","_law_act"]) (own:=["_law_stand"]) (ix:=[0,1,3,5]) rfl ⟨rfl,rfl,rfl,rfl,rfl,rfl⟩ (qai T.range_ qd) (fun _ _ _ _=>(qo (i:=4) (show Z7 (["_law_glass_here","_law_payoffs_here","_law_k","_law_act","_law_stand"]:List Str) by decide))) (fun _ _ _ _=>(qm qC (qh (qh (qh (qa 0) qd) (qa 4)) (qa 2)) (qh (qh (qa 1) (qa 4)) (qa 3)))))) qf)))))
   (qjh 4 (qg (ql (i:=2) qbp.nd (qm qar (qa 2) (qu (zamy rfl) T.max_ L2.boot_max (qc (qa 4) qf)))))))))
   (qg (qt (qa 2))))),?_⟩
  have row : ∀ k,k<2 -> ∃ ro,R[k]?=some ro/\ro ∈ R/\ro.length=n:=fun k hk=>by
   have e:R[k]?=some (R[k]'(by omega)):=Qc _;exact ⟨_,e,Qf e,hT.len _ (Qf e)⟩
  obtain ⟨ro0,g0,m0,l0⟩:=row 0 (by decide);have a0:atI (R.map qdg) 0=some (qdg ro0):=qbl (j:=0) (by rw [Qa,g0];rfl);refine ⟨_,rfl,_,a0,?_⟩;refine ⟨⟨by omega,by rw [Qe,l0];omega⟩,fun i e => ∃ t3 t4 t5,e=[.val (qL b R),.val (qzt p r),.val (.int (qcr p r ((Qx i).map (qv R)))),t3,t4,t5],⟨_,_,_,rfl⟩,?_,?_⟩
  ·rintro i x e hx ⟨t3,t4,t5,rfl⟩;obtain ⟨hi',rfl⟩:=qan hx;rw [Vc];have hi:i<n:=by rw [Qe,l0] at hi';omega
   clear hi' hx;obtain ⟨B,eB⟩ : ∃ B,B=qcr p r ((Qx i).map (qv R)):=⟨_,rfl⟩
   have step:qcr p r ((Qx (i+1)).map (qv R))=B+qmk (vOf p r (qv R i)):=by
    rw [Yx,Q9,qss,<- eB];simp [qcr]
   rw [<- eB];refine ⟨szl,⟨by decide,by decide⟩,fun j e => ∃ t5,e=[.val (qL b R),.val (qzt p r),.val (.int B),.val (.int i),.own (((Qx j).map fun a=>at2 R 0 i*yOf p r 0 a+at2 R 1 i*yOf p r 1 a).map .int),t5],⟨_,rfl⟩,?_,?_⟩
   ·rintro j x e hx ⟨t5,rfl⟩;obtain ⟨hj',rfl⟩:=qan hx;rw [Vc];have hj:j<2:=by omega
    clear hj' hx;refine ⟨rfl,⟨by decide,by decide⟩,?_⟩;refine ⟨qj (by rw [qP];decide),fun k ys e=>ys=(([at2 R 0 i*yOf p r 0 j,at2 R 1 i*yOf p r 1 j]:List Int).map Q2).take k /\ ∃ v,e=[.val (qL b R),.val (qzt p r),.val (.int i),.val (.int j),v],⟨by simp,_,rfl⟩,?_,?_⟩
    ·rintro k d ys e hd ⟨hys,v,rfl⟩;obtain ⟨hk',rfl⟩:=qan hd;rw [Vc];have hk:k<2:=by omega
     clear hk' hd;obtain ⟨ro,gr,mr,lr⟩:=row k hk;obtain ⟨l,p1,p2⟩:=zall p r hk hj;have a1:atI (R.map qdg) (k:Int)=some (qdg ro):=qbl (by rw [Qa,gr];rfl);have a2:atI (ro.map Q2) (i:Int)=some (.int (at2 R k i)):=qbl (by rw [Qa,Qc (by omega),qbs gr,Qc (by omega)];rfl);have z1:intBits (at2 R k i)<=200:=by
      rw [qbs gr,Qc (by omega)];have:=hT.le mr (Ze (show i<ro.length by omega));exact qz this.1 this.2 zb
     have z2:intBits (yOf p r k j)<=2000:=by
      unfold yOf;split
      ·decide
      ·split
       ·exact Yj (by omega) zp
       ·exact zr
     refine ⟨_,rfl,_,a1,_,a2,_,p1,_,p2,qak (qi z1 (by decide)) (qi z2 (by decide)),qw ?_ hys,_,rfl⟩;have h1:k=0\/k=1:=by omega
     rcases h1 with rfl|rfl <;> rfl
    rintro ys e ⟨hys,v,rfl⟩;have hys:ys=([at2 R 0 i*yOf p r 0 j,at2 R 1 i*yOf p r 1 j]:List Int).map Q2:=hys;subst hys;refine ⟨_,rfl,rfl,qj (by show (((Qx j).map fun a=>at2 R 0 i*yOf p r 0 a+at2 R 1 i*yOf p r 1 a).map Q2).length<=1000;simp;omega),.val (.int j),?_⟩;rw [Yx,Q9,Q9];show _=[_,_,_,_,Sl.own (_++[Q2 (at2 R 0 i*yOf p r 0 j+at2 R 1 i*yOf p r 1 j)]),_];rw [show at2 R 0 i*yOf p r 0 j+at2 R 1 i*yOf p r 1 j=([at2 R 0 i*yOf p r 0 j,at2 R 1 i*yOf p r 1 j]:List Int).sum by simp];rfl
   ·rintro e ⟨t5,rfl⟩;refine ⟨[at2 R 0 i*yOf p r 0 0+at2 R 1 i*yOf p r 1 0,at2 R 0 i*yOf p r 0 1+at2 R 1 i*yOf p r 1 1],rfl,by simp,fun M hM hle=>?_⟩;have e0:at2 R 0 i*yOf p r 0 0+at2 R 1 i*yOf p r 1 0=0:=by
     show at2 R 0 i*0+at2 R 1 i*0=0;omega
    have e1:at2 R 0 i*yOf p r 0 1+at2 R 1 i*yOf p r 1 1=vOf p r (qv R i):=by
     show at2 R 0 i * -p+at2 R 1 i*r=r*at2 R 1 i-p*at2 R 0 i;grind
    rw [e0,e1] at hM hle;have l1:=hle _ (show (0:Int) ∈ [0,vOf p r (qv R i)] by simp);have l2:=hle _ (show vOf p r (qv R i) ∈ [0,vOf p r (qv R i)] by simp);have eM:M=qmk (vOf p r (qv R i)):=by
     simp only [Qs,Yf,or_false] at hM;unfold qmk;split <;> omega
    exact ⟨_,_,_,by rw [step,<- eM];rfl⟩
  ·rintro e ⟨t3,t4,t5,rfl⟩;rw [qP,Qe,l0,Qed];exact h
def qfw (ds:List Qh) (q:Qh->Prop):Prop := ∃ (p r:Int),ds=[qzt p r]/\q (.bool true)
def qga:FnScope ["_law_found","_law_row"] ["_law_found"] (defScope qcg):=sc0
def qls (F:Def K mg "_law_payoffs" qcg ["_law_found"]) (T:Txt K mg cs)
 (O__law_whole:Ok P w K mg base "_law_whole" 1 ["_law_found"] (PSp K qda))
 : Ok P w K mg base "_law_payoffs" 2 ["_law_found"] (PSp K qfw):=by
  refine F.vok qga (by rintro ds q ⟨_,_,h,_⟩;rw [h];rfl) fun f cdv A outer s H E hr ds q h=>?_;obtain ⟨p,r,rfl,h⟩:=h;refine ⟨_,(qe (qas (VW.pt (qdi (qaf (qS (qfk T.isinstance_ T.tuple_ L2.boot_tuple (qa 0)))) (qcu (qO (qsl hr.units) (qu qbx T.len_ L2.boot_len (qc (qa 0) qf)) qd)))) (qg (qt qdv)) qA)
   (qe (qab rfl (qG (qa 0)) (qo (i:=1) qga.nd) (qg (qas (VW.pt (qdi (qaf (qS (qfk T.isinstance_ T.tuple_ L2.boot_tuple (qa 1)))) (qdi (qO (qsl hr.units) (qu qbx T.len_ L2.boot_len (qc (qa 1) qf)) qd) (qdi (qaf (qS (qr O__law_whole.c hr.m (qc (qh (qa 1) qd) qf)))) (qcu (qaf (qS (qr O__law_whole.c hr.m (qc (qh (qa 1) qd) qf))))))))) (qg (qt qdv)) qA)))
   (qg (qt qdv)))),?_⟩
  refine ⟨rfl,rfl,qig (fun z=>(z rfl).elim) (fun _=>?_)⟩;refine ⟨fun i e => ∃ t1,e=[.val (qzt p r),t1],⟨_,rfl⟩,?_,?_⟩
  ·rintro i x e hx ⟨t1,rfl⟩;have hx : ∃ a b:Int,x = .tuple [.int a,.int b]:=by
    have hm:=Qf hx;simp only [Qs,Yf,or_false] at hm;rcases hm with rfl|rfl
    ·exact ⟨_,_,rfl⟩
    ·exact ⟨_,_,rfl⟩
   obtain ⟨a,b,rfl⟩:=hx;refine ⟨rfl,rfl,qig (fun z=>(z rfl).elim) (fun _=>?_)⟩;exact ⟨_,rfl,_,rfl,_,rfl⟩
  ·rintro e ⟨t1,rfl⟩;exact h
def qif (ds:List Qh) (q:Qh->Prop):Prop := ∃ (b:Int) (R:List (List Int)) (n:Nat) (c:Int) (S:List (List Int)) (m:Nat),ds=[qL b R,qL c S]/\(G2 b R n/\G2 c S m)/\q (.bool true)
def zajd (c:Int) (E:List (Int×Int)) (i:Nat):Shp 2 (crP c E i):=qsa fun y hy=>by
 simp only [Qs,Yf,or_false] at hy;rcases hy with rfl|rfl <;> exact qsa (quy [_,_] 0)
def zakm {z c:Int} (z0:0<=z) (z1:z<=c) (c1:1<=c) (zc:intBits c<=200):SfPre (shT z c) (shB z c) z c:=by
 obtain ⟨s1,s2⟩:=qck (t:=z) (b:=c) (by omega);have zz:=qz z0 z1 zc;exact ⟨s1,qi (qdk zz) (by decide),qi (qeh zc) (by decide),qi zz (by decide),qi zc (by decide),s2⟩
def qbr:FnScope ["_law_one","_law_other","_law_due","_law_found","_law_corner","_law_payoffs_here"] ["_law_one","_law_other"] (defScope qdu):=sc0
def qpq (F:Def K mg "_law_right" qdu ["_law_one","_law_other"]) (T:Txt K mg cs)
 (O_held:Ok P w K mg base "held" 7 ["one","other"] (qfq [cs.tb,cs.tb1] (PSp K qym)))
 (O__law_stands_for:Ok P w K mg base "_law_stands_for" 3 ["_law_found","_law_top","_law_bottom"] (PSp K qdz))
 (O__law_first:Ok P w K mg base "_law_first" 4 ["_law_one","_law_other"] (PSp K qhu))
 (O__law_best:Ok P w K mg base "_law_best" 1 ["_law_glass_here","_law_payoffs_here"] (PSp K qiy))
 (O__law_payoffs:Ok P w K mg base "_law_payoffs" 2 ["_law_found"] (PSp K qfw))
 : Ok P w K mg base "_law_right" 8 ["_law_one","_law_other"] (qfq [cs.tb,cs.tb1] (PSp K qif)):=by
  refine F.tvok qbr (by rintro ds q ⟨_,_,_,_,_,_,h,_⟩;rw [h];rfl) fun f cdv A outer s H E hr hTb ds q h=>?_;obtain ⟨b,R,n,c,S,m,rfl,⟨g1,g2⟩,h⟩:=h;refine ⟨_,(qe (ql (i:=2) qbr.nd (qr O__law_first.c hr.m (qc (qa 0) (qc (qa 1) qf))))
   (qe (ql (i:=3) qbr.nd (qr (O_held.t hTb) hr.m (qc (qa 0) (qc (qa 1) qf))))
   (qe (qas (VW.pt (qdi (qO zaci (qa 2) qjf) (qcu (qO zaci (qa 3) qjf)))) (qg (qt (qpb (qgl zaci (qa 2) qjf) (qpv (qgl zaci (qa 3) qjf))))) qA)
   (qe (qas (VW.pt (qdi (qaf (qS (qfk T.isinstance_ T.tuple_ L2.boot_tuple (qa 3)))) (qdi (qO (qsl hr.units) (qu qbx T.len_ L2.boot_len (qc (qa 3) qf)) qd) (qcu (qaf (qS (qr O__law_payoffs.c hr.m (qc (qh (qa 3) qd) qf)))))))) (qg (qt qdv)) qA)
   (qe (zagl (qa 3) (qsw (n:=2) rfl (qdn (qo (i:=4) qbr.nd) (qdn (qo (i:=5) qbr.nd) qnr))))
   (qe (qas (VW.pt (qdi (qaf (qS (qfk T.isinstance_ T.tuple_ L2.boot_tuple (qa 4)))) (qcu (qO (qsl hr.units) (qu qbx T.len_ L2.boot_len (qc (qa 4) qf)) qd)))) (qg (qt qdv)) qA)
   (qe (qas (VW.pt (qdi (qaf (qS (qr O__law_stands_for.c hr.m (qc (qh (qa 4) qd) (qc (qh (qa 2) qd) (qc (qh (qa 1) qd) qf)))))) (qcu (qaf (qS (qr O__law_stands_for.c hr.m (qc (qh (qa 4) qd) (qc (qh (qa 2) qd) (qc (qh (qa 1) qd) qf))))))))) (qg (qt qdv)) qA)
   (qe (qas (qO o_le (qm qC (qr O__law_best.c hr.m (qc (qa 1) (qc (qa 5) qf))) (qh (qa 0) qd)) (qm qC (qr O__law_best.c hr.m (qc (qa 0) (qc (qa 5) qf))) (qh (qa 1) qd))) (qg (qt qdv)) qA)
   (qg (qt (qgl (quz hr.units) (qh (qr (O_held.t hTb) hr.m (qc (qa 0) (qc (qa 1) qf))) qd) (qa 4)))))))))))),?_⟩
  have n12:=g1.n2;have m12:=g2.n2;refine ⟨b,R,n,c,S,m,rfl,⟨⟨g1.t,g1.l,by omega,g1.z⟩,g2.t,g2.l,by omega,g2.z⟩,fun D E' hD hE=>?_⟩;have C:=hD.crv g1.t g1.l;have C2:=hE.crv g2.t g2.l;have b1:=C.b1;have c1:=C2.b1;refine ⟨fun none=>?_,fun i hi fst yes=>?_⟩
  ·refine ⟨b,R,n,c,S,m,rfl,⟨g1,g2⟩,fun D' E2 hD' hE2=>?_⟩;obtain rfl:=hD.uniq hD';obtain rfl:=hE.uniq hE2;exact ⟨fun _=>⟨rfl,rfl,rfl,h⟩,fun i k d hi _ yes _ _ _=>(none i hi yes).elim⟩
  ·refine ⟨b,R,n,c,S,m,rfl,⟨g1,g2⟩,fun D' E2 hD' hE2=>?_⟩;obtain rfl:=hD.uniq hD';obtain rfl:=hE.uniq hE2;refine ⟨fun none=>(none i hi yes).elim,fun i2 k d hi2 fst2 yes2 hd d0 lt=>?_⟩;have ei:i2=i:=by
    rcases Qee i i2 with z|z|z
    ·exact (fst2 i z yes).elim
    ·exact z.symm
    ·exact (fst i2 z yes2).elim
   subst ei;obtain ⟨⟨x0,x1⟩,y0,y1⟩:=C2.le hi;refine ⟨rfl,rfl,rfl,rfl,qig (fun z=>(z rfl).elim) (fun _=>⟨_,rfl,_,_,rfl,?_⟩)⟩;have zp:intBits (shT d.2 d.1)<=2000:=by
    have:=C.le (Yi (Qg.mp hd).1);have l1:=C.le (i:=k+1) (Qg.mp hd).1;have a:=qcs hd;have pd:=C.p d (Qf hd);exact qi (qdk (qz pd.y (show d.2<=b by omega) g1.z)) (by decide)
   have zr:intBits (shB d.2 d.1)<=2000:=by
    have:=C.le (Yi (Qg.mp hd).1);have l1:=C.le (i:=k+1) (Qg.mp hd).1;have a:=qcs hd;exact qi (qeh (qz (show 0<=d.1 by omega) (show d.1<=b by omega) g1.z)) (by decide)
   obtain ⟨sh,es⟩:=qck (t:=d.2) (b:=d.1) (by omega);have gain:=zaec C c1 (E:=E') hd d0 lt (p:=shT d.2 d.1) (r:=shB d.2 d.1) (by have:=sh.pos;omega) es;have rp:=sh.pos;have pp:0<=shT d.2 d.1:=by
    have pd:=C.p d (Qf hd);have:=Zo pd.y (show 0<=shB d.2 d.1 by omega);rw [<- es] at this;rcases Yu (shT d.2 d.1) 0 with w|w
    ·have:=Qap w d0;omega
    ·exact w
   have q1:=qvd C pp (show 0<=shB d.2 d.1 by omega) g1.z zr;have q2:=qvd C2 pp (show 0<=shB d.2 d.1 by omega) g2.z zr;rw [<- hD.bst g1.t] at q1;rw [<- hE.bst g2.t] at q2;rw [<- hD.bst g1.t,<- hE.bst g2.t] at gain;generalize shT d.2 d.1=p at *;generalize shB d.2 d.1=r at *;have zb:=g1.z;have zc:=g2.z;refine ⟨rfl,rfl,rfl,rfl,qig (fun z=>(z rfl).elim) (fun _=>?_)⟩;refine ⟨_,rfl,_,rfl,_,rfl,_,_,_,_,rfl,zakm x0 x1 c1 zc,_,rfl,_,rfl,_,rfl,_,_,_,_,rfl,zakm y0 y1 c1 zc,?_⟩;refine ⟨c,S,m,p,r,rfl,⟨g2.t,g2.l,by omega,zc,zp,zr⟩,_,rfl,qak (qi q2 (by decide)) (qi zb (by decide)),b,R,n,p,r,rfl,⟨g1.t,g1.l,by omega,zb,zp,zr⟩,_,rfl,qak (qi q1 (by decide)) (qi zc (by decide)),qmm (fun le=>?_) (fun _=>?_)⟩
   ·exact absurd gain (Int.not_lt.mpr le)
   refine ⟨b,R,n,c,S,m,rfl,⟨g1,g2⟩,fun D' E2 hD' hE2=>?_⟩;obtain rfl:=hD.uniq hD';obtain rfl:=hE.uniq hE2;refine ⟨fun none=>(none i2 hi yes).elim,fun i3 k3 d3 hi3 fst3 yes3 _ _ _=>?_⟩;have ei:i3=i2:=by
    rcases Qee i2 i3 with z|z|z
    ·exact (fst3 i2 z yes).elim
    ·exact z.symm
    ·exact (fst i3 z yes3).elim
   subst ei;have shC:=zajd c E' i3;refine ⟨_,rfl,shC.ok,shC.ok,?_⟩;show q (.bool (Qba (crP c E' i3) (crP c E' i3)));rw [shC.refl];exact h
def tie (r:List Int):List Int:=[r.getD 0 0+r.getD 2 0,r.getD 1 0]
def qjc (ds:List Qh) (q:Qh->Prop):Prop := ∃ (b:Int) (R:List (List Int)),ds=[qL b R]/\(Tab b R 3/\R.length=2/\intBits b<=200) /\ ∀ b' R',Gls b' R' 2->R'.length=2->intBits b'<=200->q (qL b' R')
def qfo:FnScope ["_law_glass_here","_law_rows_here","_law_row"] ["_law_glass_here"] (defScope qeo):=sc0
def qrm (F:Def K mg "_law_tied" qeo ["_law_glass_here"]) (T:Txt K mg cs)
 (O__law_made:Ok P w K mg base "_law_made" 2 ["_law_bottom","_law_rows_here"] (PSp K qbq))
 : Ok P w K mg base "_law_tied" 3 ["_law_glass_here"] (PSp K qjc):=by
  refine F.vok qfo (by rintro ds q ⟨_,_,h,_⟩;rw [h];rfl) fun f cdv A outer s H E hr ds q h=>?_;obtain ⟨b,R,rfl,⟨hT,r2,zb⟩,h⟩:=h;refine ⟨_,(qe (qca (i:=1) qfo.nd (qR qf))
   (qe (qab rfl (qG (qh (qa 0) qd)) (qo (i:=2) qfo.nd) (qg (qaj 1 (qy (qmg (qy (qR (qc (qm qar (qh (qa 2) qd) (qh (qa 2) (qmc qd))) qf))) (qy (zabp zank T.list_ L2.boot_list (qc (qkk (qa 2) (qdl qd) (qdl (qmc qd))) qf))))))))
   (qjh 1 (qg (qt (qr O__law_made.c hr.m (qc (qh (qa 0) qd) (qc (qa 1) qf)))))))),?_⟩
  have r3 : ∀ ro ∈ R,∃ x y z,ro=[x,y,z]:=fun ro hr=>by
   have:=hT.len ro hr
   match ro,this with
   | [x,y,z],_=>exact ⟨x,y,z,rfl⟩
  have b1:=hT.pos;have tt:Tab b (R.map tie) 2:=by
   refine ⟨b1,fun t ht=>?_,fun t ht w hw=>?_,fun t ht=>?_⟩
   ·obtain ⟨ro,hr,rfl⟩:=Ql.mp ht;rfl
   ·obtain ⟨ro,hr,rfl⟩:=Ql.mp ht;have nn:=hT.nn ro hr;obtain ⟨x,y,z,rfl⟩:=r3 ro hr;have h1:=nn x (by simp);have h2:=nn y (by simp);have h3:=nn z (by simp);have hw:w ∈ [x+z,y]:=hw;simp only [Qs,Yf,or_false] at hw;rcases hw with rfl|rfl <;> omega
   ·obtain ⟨ro,hr,rfl⟩:=Ql.mp ht;have sm:=hT.sum ro hr;obtain ⟨x,y,z,rfl⟩:=r3 ro hr;show [x+z,y].sum=b;simp only [Q3,Qfm] at sm ⊢;omega
  refine ⟨szl,_,rfl,fun i e => ∃ t2,e=[.val (qL b R),.own ((R.take i).map fun r => .list ((tie r).map .int)),t2],⟨_,rfl⟩,?_,?_⟩
  ·rintro i x e hx ⟨t2,rfl⟩;rw [Qa] at hx;cases ec:R[i]? with
   | none=>rw [ec] at hx;cases hx
   | some ro =>
    rw [ec] at hx;cases hx;have il:=(Qg.mp ec).1;obtain ⟨x,y,z,rfl⟩:=r3 ro (Qf ec);refine ⟨rfl,_,rfl,_,rfl,szl,fun r er=>?_⟩;have er:r=[.int y]:=er;subst er;refine ⟨by rw [Z0];simp,rfl,qj (by show ((R.take i).map fun r=>Qkm ((tie r).map .int)).length<=1000;simp;omega),.val (qdg [x,y,z]),?_⟩;rw [Zs,ec,Q9];rfl
  ·rintro e ⟨t2,rfl⟩;rw [Qe,Zl];have tn:R.map tie≠[]:=fun z=>by have:=congrArg Qeh z;simp at this;rw [this] at r2;simp at r2
   have g:=tt.gls tn;have gp:=g.t.pos;refine ⟨_,rfl,b,_,R.map tie,2,?_,⟨qbz _,tt,tn,by simp;omega,by decide,qi zb (by decide)⟩,h _ _ g (by simp [qaw];exact r2) (qz (by omega) (Jt _ (by omega)) zb)⟩;rw [Zz];rfl
def qrc (C:Addr) (ds:List Qh) (q:Qh->Prop) (e:Addr->Prop):Prop := ∃ (b:Int) (R:List (List Int)),ds=[qL b R]/\R.length≠2/\e C
def qul:FnScope ["glass","form","x","y","corners","step"] ["glass"] (defScope qfv):=sc0
def que (F:Def K mg "curve" qfv ["glass"]) (T:Txt K mg cs)
 (O_stands:Ok P w K mg base "stands" 1 ["glass"] (PSp K qkm))
 : OkX P w K mg base "curve" 2 ["glass"] (qfq [cs.tb,cs.tb1] (XSp K (qrc cs.NoFit))):=by
  refine F.tvokX qul (by rintro ds q e ⟨_,_,h,_⟩;rw [h];rfl) fun f cdv A outer s H E hr hp ht hTb ds q e h=>?_;obtain ⟨b,R,rfl,r2,h⟩:=h;refine ⟨_,(qfi (zamo (qO (qsl hr.units) (qr O_stands.c hr.m (qc (qa 0) qf)) qd) (qfi (zabd ht rfl T.NoFit_ T.NoFit_x.exc (qc zamf qf))
   (qkg qA)) (qkg qA))
   (qkg qff)),?_⟩
  refine ⟨b,R,rfl,rfl,rfl,qig (fun _=>⟨szl,h⟩) (fun z=>(r2 (by omega)).elim)⟩
def qut (C:Addr) (ds:List Qh) (q:Qh->Prop) (e:Addr->Prop):Prop := ∃ (b:Int) (R:List (List Int)) (c:Int) (S:List (List Int)),ds=[qL b R,qL c S] /\
 ((R.length≠2/\e C)\/((∃ n,Tab b R n/\R.length=2/\1<=n/\n<=12/\intBits b<=200)/\S.length≠2/\e C))
def qim:FnScope ["one","other","corners","corner","line"] ["one","other"] (defScope qhh):=sc0
def qwv (F:Def K mg "held" qhh ["one","other"]) (T:Txt K mg cs)
 (O_curve:Ok P w K mg base "curve" 6 ["glass"] (qfq [cs.tb,cs.tb1] (FSp K qov)))
 (O_curve__x:OkX P w K mg base "curve" 2 ["glass"] (qfq [cs.tb,cs.tb1] (XSp K (qrc cs.NoFit))))
 : OkX P w K mg base "held" 7 ["one","other"] (qfq [cs.tb,cs.tb1] (XSp K (qut cs.NoFit))):=by
  refine F.tvokX qim (by rintro ds q e ⟨_,_,_,_,h,_⟩;rw [h];rfl) fun f cdv A outer s H E hr hp ht hTb ds q e h=>?_;obtain ⟨b,R,c,S,rfl,h⟩:=h;refine ⟨_,(qfi (zamp (zahc (i:=2) qim.nd (qxt hp (O_curve__x.t hTb) hr.m (qc (qa 0) qf))) (zaly (ql (i:=2) qim.nd (qy (qfc (O_curve.t hTb) hr.m (qc (qa 0) qf))))))
   (qfi (zada rfl (qxt hp (O_curve__x.t hTb) hr.m (qc (qa 1) qf)))
   (qkg qff))),?_⟩
  rcases h with ⟨h1,h2⟩|⟨⟨n,hT,r2,n1,n2,zb⟩,h1,h2⟩
  ·exact .inl ⟨b,R,rfl,h1,h2⟩
  ·refine .inr ⟨b,R,n,rfl,⟨hT,r2,n1,n2,zb⟩,fun f' T' k p' _ _ _=>?_⟩;exact ⟨c,S,rfl,h1,h2⟩
def qej (ds:List Qh) (k:Qh->Prop):Prop := ∃ (b:Int) (R:List (List Int)) (c:Int) (S:List (List Int)),ds=[qL b R,qL c S]/\(R.length≠2\/((∃ n,Tab b R n/\R.length=2/\1<=n/\n<=12/\intBits b<=200)/\S.length≠2))/\k (.bool true)
def qbf:FnScope ["_law_one","_law_other","_law_caught","error"] ["_law_one","_law_other"] (defScope qbm):=sc0
def qiw (F:Def K mg "_law_is_no_fit" qbm ["_law_one","_law_other"]) (T:Txt K mg cs)
 (O_held__x:OkX P w K mg base "held" 7 ["one","other"] (qfq [cs.tb,cs.tb1] (XSp K (qut cs.NoFit))))
 : Ok P w K mg base "_law_is_no_fit" 8 ["_law_one","_law_other"] (qfq [cs.tb,cs.tb1] (PSp K qej)):=by
  refine F.tvok qbf (by rintro ds q ⟨_,_,_,_,h,_⟩;rw [h];rfl) fun f cdv A outer s H E hr hTb ds k h=>?_;obtain ⟨b,R,c,S,rfl,h1,h⟩:=h;refine ⟨_,(qe (ql (i:=2) qbf.nd qjf)
   (qe (zamu (i:=3) (C':=cs.GlassError) rfl rfl qbf.nd T.GlassError_ T.GlassError_e (fun _ _ _ hp=>(qfi (zadk (qxt hp (O_held__x.t hTb) hr.m (qc (qa 0) (qc (qa 1) qf))))
   (qkg qA))) (fun _ _=>(qg (zajp (i:=2) 3 qbf.nd))))
   (qg (qt (zanb 2 T.isinstance_ (zaik (v :=.ref cs.NoFit) rfl T.NoFit_ rfl) rfl))))),?_⟩
  refine ⟨b,R,c,S,rfl,?_⟩;rcases h1 with h1|⟨h1,h2⟩
  ·exact .inl ⟨h1,T.u_NoFit_GlassError,T.NoFit_x,_,T.k_NoFit_NoFit,h⟩
  ·exact .inr ⟨h1,h2,T.u_NoFit_GlassError,T.NoFit_x,_,T.k_NoFit_NoFit,h⟩
def zaeq : ∀ m:Nat,m<41->2<=m -> ∀ d:Nat,d<6->2<=d->Qcz 1 (m:Int) (d:Int)=true/\Yd 1 (m:Int) (d:Int)=((Yd 1 (m:Int) (d:Int)).toNat:Int):=by decide
def zakg {j c:Int} (h1:2<=j) (h2:j<=40) (c1:2<=c) (c2:c<=5) : ∃ n,Rng3 1 j c n:=by
 obtain ⟨m,rfl⟩:=Y8 (show 0<=j by omega);obtain ⟨d,rfl⟩:=Y8 (show 0<=c by omega);obtain ⟨a,b⟩:=zaeq m (by omega) (by omega) d (by omega) (by omega);exact ⟨_,by omega,by omega,a,b⟩
def zacw {n k c:Int} (k1:2<=k) (k2:k<=40) (c1:2<=c) (c2:c<=5) : ∃ m,Rng3 1 (if (if n>2 then n else 2)<k then (if n>2 then n else 2) else k) c m :=
 zakg (by split <;> split <;> omega) (by split <;> split <;> omega) c1 c2
def zahi : ∀ m:Nat,m<41->2<=m -> ∀ d:Nat,d<6->2<=d->Yd 1 (m:Int) (d:Int)<=40/\Yd 1 (m:Int) (d:Int)*d<=50:=by decide
def zaal {j c:Int}{n:Nat} (h:Rng3 1 j c n) (h1:2<=j) (h2:j<=40) (c1:2<=c) (c2:c<=5):(n:Int)*c<=50:=by
 obtain ⟨m,rfl⟩:=Y8 (show 0<=j by omega);obtain ⟨d,rfl⟩:=Y8 (show 0<=c by omega);have:=zahi m (by omega) (by omega) d (by omega) (by omega);rw [h.n] at this;exact this.2
def qvb {b:Int}{R:List (List Int)}{n:Nat} (hT:Tab b R n) (l1:2<=R.length) : ∃ r0 r1,qqx (R.map qdg) none (some 2)=[r0,r1].map qdg/\Tab b [r0,r1] n:=by
 match R,l1 with
 | [],l1=>simp at l1
 | [_],l1=>simp at l1
 | r0::r1::R',_ =>
  have sub : ∀ r ∈ [r0,r1],r ∈ r0::r1::R':=fun r hr=>by
   simp only [Qs,Yf,or_false] at hr;rcases hr with rfl|rfl <;> simp
  exact ⟨r0,r1,rfl,hT.pos,fun r hr=>hT.len r (sub r hr),fun r hr=>hT.nn r (sub r hr),fun r hr=>hT.sum r (sub r hr)⟩
def row0 {b:Int}{R:List (List Int)}{n:Nat} (hT:Tab b R n) (l:R.length=2) : ∃ r0,atI (R.map qdg) 0=some (qdg r0)/\r0.length=n:=by
 match R,l with
 | r0::R',_=>exact ⟨r0,qgx _ _,hT.len r0 (by simp)⟩
def qyg {b:Int}{r0 r1:List Int}{n:Nat} (hT:Tab b [r0,r1] n) (n1:1<=n) (n2:n<=12) (hb:b<=1000000000000000000):G2 (b/(qE [r0,r1]:Int)) (qaw [r0,r1] (qE [r0,r1])) n/\b/(qE [r0,r1]:Int)<=b:=by
 have g:=hT.gls (by simp);have b1:=hT.pos;have g1:=g.t.pos;have le:b/(qE [r0,r1]:Int)<=b:=Jt _ (by omega);exact ⟨⟨g.t,by simp [qaw],n1,n2,qi (qdb (by omega) (by omega)) (by decide)⟩,le⟩
def qyc {b a:Int}{R D:List (List Int)}{n o:Nat} (hT:Tab b R n) (r2:R.length=2) (hD:Tab a D o) (l:D.length=n) (o1:1<=o) (o2:o<=12) (h1:b<=999999) (h2:a<=999999):G2 (b*a/(qE (qdj R D o):Int)) (qaw (qdj R D o) (qE (qdj R D o))) o/\b*a/(qE (qdj R D o):Int)<=1000000000000000000:=by
 have t:=hT.prod hD l;have lp:(qdj R D o).length=2:=by simp [qdj];exact r2
 have g:=t.gls (fun z=>by rw [z] at lp;simp at lp);have b1:=hT.pos;have a1:=hD.pos;have g1:=g.t.pos;have le:b*a/(qE (qdj R D o):Int)<=b*a:=Jt _ (Zo (by omega) (by omega));have le2:b*a<=999999*999999:=Qdu h1 h2 (by omega) (by omega);exact ⟨⟨g.t,by simp [qaw];exact lp,o1,o2,qi (qdb (by omega) (by omega)) (by decide)⟩,by omega⟩
def qdp:FnScope ["_law_script","_law_sorts","_law_at","_law_one","_law_other","_law_sort","_law_near_here","_law_tied_here"] ["_law_script"] (defScope qlu):=sc0
def zaoc {f:Addr}{fd:Vy} (F:Fun K "law" "law" qlu f fd) (T:Txt K mg cs)
 (O__law_made:Ok P w K mg base "_law_made" 2 ["_law_bottom","_law_rows_here"] (PSp K qbq))
 (O__law_glass:Ok P w K mg base "_law_glass" 3 ["_law_script","_law_at","_law_heights","_law_most"] (PSp K qhv))
 (O__law_product:Ok P w K mg base "_law_product" 3 ["_law_one","_law_other"] (PSp K qgc))
 (O__law_near:Ok P w K mg base "_law_near" 3 ["_law_script","_law_at"] (PSp K qje))
 (O__law_right:Ok P w K mg base "_law_right" 8 ["_law_one","_law_other"] (qfq [cs.tb,cs.tb1] (PSp K qif)))
 (O__law_tied:Ok P w K mg base "_law_tied" 3 ["_law_glass_here"] (PSp K qjc))
 (O__law_is_no_fit:Ok P w K mg base "_law_is_no_fit" 8 ["_law_one","_law_other"] (qfq [cs.tb,cs.tb1] (PSp K qej)))
 : FnOk P w K mg base CX0 9 f fd ["_law_script"] (qpo [cs.tb,cs.tb1] K):=by
  refine F.vlawT qdp rfl fun cdv A outer s H E hr hTb ns hlen=>?_;refine ⟨_,(qe (ql (i:=1) qdp.nd (qm qjo (qh (qy (qmg (qa 0) (qy (qR (qc qd qf))))) qd) qd))
   (qe (qab rfl (zabc T.range_ qd (qu (zamv rfl) T.min_ L2.boot_min (qc qd (qc (qu (zaoa rfl) T.max_ L2.boot_max (qc qd (qc (qu qbx T.len_ L2.boot_len (qc (qa 0) qf)) qf))) qf))) qd) (qo (i:=2) qdp.nd) (qe (ql (i:=3) qdp.nd (qr O__law_glass.c hr.m (qc (qa 0) (qc (qa 2) (qc (qy (qR (qc qd (qc qd qf)))) (qc qd qf))))))
   (qe (ql (i:=4) qdp.nd (qr O__law_glass.c hr.m (qc (qa 0) (qc (qm qar (qa 2) qd) (qc (qy (qR (qc qd (qc qd qf)))) (qc qd qf))))))
   (qe (qas (VW.pt (zaoi (qO o_gt (qm qar (qu qbx T.len_ L2.boot_len (qc (qh (qa 3) qd) qf)) (qu qbx T.len_ L2.boot_len (qc (qh (qa 4) qd) qf))) qd) (zair (qaf (qS (qr (O__law_is_no_fit.t hTb) hr.m (qc (qa 3) (qc (qa 4) qf)))))))) (qg (qt qdv)) qA)
   (qe (ql (i:=3) qdp.nd (qr O__law_made.c hr.m (qc (qh (qa 3) qd) (qc (qkk (qh (qa 3) qd) qhr (qdl qd)) qf))))
   (qe (ql (i:=4) qdp.nd (qr O__law_made.c hr.m (qc (qh (qa 4) qd) (qc (qkk (qh (qa 4) qd) qhr (qdl qd)) qf))))
   (qe (ql (i:=5) qdp.nd (qm qhj (qa 1) qd))
   (qe (ql (i:=1) qdp.nd (qm qjo (qa 1) qd))
   (qkc (qas (qO (quz hr.units) (qa 5) qd) (qg (ql (i:=4) qdp.nd (qr O__law_product.c hr.m (qc (qa 3) (qc (qr O__law_glass.c hr.m (qc (qa 0) (qc (qm qar (qa 2) qd) (qc (qy (qxv (qR (qc (qu qbx T.len_ L2.boot_len (qc (qh (qh (qa 3) qd) qd) qf)) qf)) qd)) (qc qd qf))))) qf))))) qA)
   (qkc (qas (qO (quz hr.units) (qa 5) qd) (qg (ql (i:=3) qdp.nd (qr O__law_product.c hr.m (qc (qa 4) (qc (qr O__law_glass.c hr.m (qc (qa 0) (qc (qm qar (qa 2) qd) (qc (qy (qxv (qR (qc (qu qbx T.len_ L2.boot_len (qc (qh (qh (qa 4) qd) qd) qf)) qf)) qd)) (qc qd qf))))) qf))))) qA)
   (qe (qas (VW.pt (qdi (qaf (qS (qr (O__law_right.t hTb) hr.m (qc (qa 3) (qc (qa 4) qf))))) (qcu (qaf (qS (qr (O__law_right.t hTb) hr.m (qc (qa 4) (qc (qa 3) qf)))))))) (qg (qt qdv)) qA)
   (qe (ql (i:=6) qdp.nd (qr O__law_near.c hr.m (qc (qa 0) (qc (qm qar (qa 2) qd) qf))))
   (qe (ql (i:=7) qdp.nd (qr O__law_tied.c hr.m (qc (qa 6) qf)))
   (qg (qas (VW.pt (qdi (qaf (qS (qr (O__law_right.t hTb) hr.m (qc (qa 6) (qc (qa 7) qf))))) (qdi (qaf (qS (qr (O__law_right.t hTb) hr.m (qc (qa 7) (qc (qa 6) qf))))) (qcu (qaf (qS (qr (O__law_right.t hTb) hr.m (qc (qa 3) (qc (qa 6) qf))))))))) (qg (qt qdv)) qA)))))))))))))))
   (qg (qt qdv)))),?_⟩
  obtain ⟨z0,ez⟩ : ∃ z,atI (ns.map Q2++[.int 0]) 0=some (.int z):=by
   cases ns with
   | nil=>exact ⟨0,rfl⟩
   | cons a l=>exact ⟨a,qgx _ _⟩
  refine ⟨szl,by rw [Z0];simp;omega,_,ez,by decide,?_⟩;obtain ⟨n0,hn0⟩:=zacw (n:=((ns.map Q2).length:Nat)) (k:=25) (c:=3) (by decide) (by decide) (by decide) (by decide);have n0k:=zaal hn0 (by split <;> split <;> omega) (by split <;> split <;> omega) (by decide) (by decide);refine ⟨n0,hn0,fun i e => ∃ (u:Int) (t2 t3 t4 t5 t6 t7:Sl),e=[.val (.list (ns.map .int)),.val (.int u),t2,t3,t4,t5,t6,t7],⟨_,_,_,_,_,_,_,rfl⟩,?_,?_⟩
  ·rintro i x e hx ⟨u,t2,t3,t4,t5,t6,t7,rfl⟩;obtain ⟨hi,rfl⟩:=zaez hx;clear hx;have sm : ∀ {z:Int},1<=z->z<=999998000001->intBits z<=200:=fun h1 h2=>qi (qdb (by omega) (by omega)) (by decide);refine ⟨szl,ns,1+i*3,2,4,12,rfl,⟨hlen,by omega,by decide,by decide,by decide,by decide,by decide⟩,fun b R n hG hb l1 l2 n1 n2=>?_⟩;refine ⟨szl,ns,1+i*3+1,2,4,12,rfl,⟨hlen,by omega,by decide,by decide,by decide,by decide,by decide⟩,fun c S m hS hc k1 k2 m1 m2=>?_⟩;have b1:=hG.t.pos;have c1:=hS.t.pos;have n12:n<=12:=by omega
   have m12:m<=12:=by omega
   obtain ⟨r0,r1,eR,tR⟩:=qvb hG.t (by omega);obtain ⟨s0,s1,eS,tS⟩:=qvb hS.t (by omega);obtain ⟨gR,leR⟩:=qyg tR n1 n12 (by omega);obtain ⟨gS,leS⟩:=qyg tS m1 m12 (by omega);have zb:intBits b<=200:=qi (qdb (by omega) (by omega)) (by decide);have zc:intBits c<=200:=qi (qdb (by omega) (by omega)) (by decide);have nf:((R.map qdg).length:Int)+((S.map qdg).length:Int)>4->R.length≠2\/((∃ n,Tab b R n/\R.length=2/\1<=n/\n<=12/\intBits b<=200)/\S.length≠2):=fun w=>by
    rw [Qe,Qe] at w;by_cases e:R.length=2
    ·exact .inr ⟨⟨n,hG.t,e,n1,n12,zb⟩,by omega⟩
    ·exact .inl e
   refine ⟨_,rfl,_,rfl,(fun rest=>qmm (fun w=>⟨b,R,c,S,rfl,nf w,rest⟩) (fun _=>rest)) ?_⟩;refine ⟨_,rfl,_,rfl,fun r er=>?_⟩;have er:r=[r0,r1].map qdg:=er.trans eR;subst er;refine ⟨b,_,[r0,r1],n,rfl,⟨qfe _,tR,by simp,by simp,by omega,qi zb (by decide)⟩,?_⟩;refine ⟨_,rfl,_,rfl,fun r er=>?_⟩;have er:r=[s0,s1].map qdg:=er.trans eS;subst er;refine ⟨c,_,[s0,s1],m,rfl,⟨qfe _,tS,by simp,by simp,by omega,qi zc (by decide)⟩,?_⟩;generalize b/(qE [r0,r1]:Int)=b' at *;generalize qaw [r0,r1] (qE [r0,r1])=R2 at *;generalize c/(qE [s0,s1]:Int)=c' at *;generalize qaw [s0,s1] (qE [s0,s1])=S2 at *;have n1':=gR.n1;have m1':=gS.n1;have b'1:=gR.t.pos;have c'1:=gS.t.pos;refine ⟨by decide,by decide,fun e => ∃ (c3:Int) (S3:List (List Int)) (m3:Nat),(G2 c3 S3 m3/\(u%3=2->c3<=999999))/\e=[.val (.list (ns.map .int)),.val (.int (u/3)),.val (.int (1+i*3)),.val (qL b' R2),.val (qL c3 S3),.val (.int (u%3)),t6,t7],?_,?_⟩
   ·refine ⟨rfl,rfl,qmd (fun w=>?_) (fun _=>⟨c',S2,m,⟨gS,fun _=>by omega⟩,rfl⟩)⟩;obtain ⟨q0,aq,lq⟩:=row0 gR.t gR.l;refine ⟨_,rfl,_,aq,szl,⟨by decide,by decide,qha (by simp)⟩,?_⟩;rintro l0 e1;have e1:l0=[.int ((q0.map Q2).length:Nat),.int ((q0.map Q2).length:Nat)]:=e1;subst e1;have eM:(((q0.map Q2).length:Nat):Int)=(n:Int):=by simp [lq]
    refine ⟨ns,1+i*3+2,((q0.map Q2).length:Nat),((q0.map Q2).length:Nat),12,rfl,⟨hlen,by omega,by omega,by omega,by omega,by decide,by decide⟩,fun a D o hD ha l5 l6 o1 o2=>?_⟩;have lD:D.length=n:=by omega
    obtain ⟨gp,_⟩:=qyc gR.t gR.l hD.t lD o1 (by omega) (by omega) ha;exact ⟨b',R2,n,a,D,o,rfl,⟨gR.t,hD.t,fun z=>by have:=gR.l;rw [z] at this;simp at this,lD,n1',by omega,by have:=gR.l;omega,by omega,qi gR.z (by decide),qi (qdb (by have:=hD.t.pos;omega) (by omega)) (by decide)⟩,_,_,o,⟨gp,fun z=>by omega⟩,rfl⟩
   rintro e ⟨c3,S3,m3,⟨g3,c3l⟩,rfl⟩;refine ⟨fun e => ∃ (b4:Int) (R4:List (List Int)) (n4:Nat),G2 b4 R4 n4/\e=[.val (.list (ns.map .int)),.val (.int (u/3)),.val (.int (1+i*3)),.val (qL b4 R4),.val (qL c3 S3),.val (.int (u%3)),t6,t7],?_,?_⟩
   ·refine ⟨rfl,rfl,qmd (fun w=>?_) (fun _=>⟨b',R2,n,gR,rfl⟩)⟩;obtain ⟨q0,aq,lq⟩:=row0 g3.t g3.l;have m31:=g3.n1;have m32:=g3.n2;have c31:=g3.t.pos;refine ⟨_,rfl,_,aq,szl,⟨by decide,by decide,qha (by simp)⟩,?_⟩;rintro l0 e1;have e1:l0=[.int ((q0.map Q2).length:Nat),.int ((q0.map Q2).length:Nat)]:=e1;subst e1;have eM:(((q0.map Q2).length:Nat):Int)=(m3:Int):=by simp [lq]
    refine ⟨ns,1+i*3+2,((q0.map Q2).length:Nat),((q0.map Q2).length:Nat),12,rfl,⟨hlen,by omega,by omega,by omega,by omega,by decide,by decide⟩,fun a D o hD ha l5 l6 o1 o2=>?_⟩;have lD:D.length=m3:=by omega
    obtain ⟨gp,_⟩:=qyc g3.t g3.l hD.t lD o1 (by omega) (c3l w) ha;exact ⟨c3,S3,m3,a,D,o,rfl,⟨g3.t,hD.t,fun z=>by have:=g3.l;rw [z] at this;simp at this,lD,m31,by omega,by have:=g3.l;omega,by omega,qi g3.z (by decide),qi (qdb (by have:=hD.t.pos;omega) (by omega)) (by decide)⟩,_,_,o,gp,rfl⟩
   rintro e ⟨b4,R4,n4,g4,rfl⟩;refine ⟨b4,R4,n4,c3,S3,m3,rfl,⟨g4,g3⟩,c3,S3,m3,b4,R4,n4,rfl,⟨g3,g4⟩,?_⟩;refine ⟨ns,1+i*3+1,rfl,⟨by omega,by omega,hlen⟩,fun d Q gQ q2 zd=>?_⟩;refine ⟨d,Q,rfl,⟨gQ.t,q2,zd⟩,fun d' Q' gQ' q2' zd'=>?_⟩;have g5:G2 d Q 3:=⟨gQ.t,q2,by decide,by decide,zd⟩
   have g6:G2 d' Q' 2:=⟨gQ'.t,q2',by decide,by decide,zd'⟩
   exact ⟨d,Q,3,d',Q',2,rfl,⟨g5,g6⟩,d',Q',2,d,Q,3,rfl,⟨g6,g5⟩,b4,R4,n4,d,Q,3,rfl,⟨g4,g5⟩,_,_,_,_,_,_,_,rfl⟩
  ·rintro e ⟨u,t2,t3,t4,t5,t6,t7,rfl⟩;rfl
end
def qwb {α:Type}{n:Nat}{us:List α} (h:us.length=n+1) : ∃ a r,us=a::r/\r.length=n:=by
 cases us with
 | nil=>cases h
 | cons a r=>exact ⟨a,r,rfl,Nat.succ.inj h⟩
def us1 {α:Type}{us:List α} (h:us.length=1) : ∃ a0:α,us=[a0]:=by
 obtain ⟨a0,u0,rfl,h0⟩:=qwb h;cases u0 with
 | nil=>exact ⟨a0,rfl⟩
 | cons _ _=>cases h0
def us2 {α:Type}{us:List α} (h:us.length=2) : ∃ a0 a1:α,us=[a0,a1]:=by
 obtain ⟨a0,u0,rfl,h0⟩:=qwb h;obtain ⟨a1,u1,rfl,h1⟩:=qwb h0;cases u1 with
 | nil=>exact ⟨a0,a1,rfl⟩
 | cons _ _=>cases h1
def us3 {α:Type}{us:List α} (h:us.length=3) : ∃ a0 a1 a2:α,us=[a0,a1,a2]:=by
 obtain ⟨a0,u0,rfl,h0⟩:=qwb h;obtain ⟨a1,u1,rfl,h1⟩:=qwb h0;obtain ⟨a2,u2,rfl,h2⟩:=qwb h1;cases u2 with
 | nil=>exact ⟨a0,a1,a2,rfl⟩
 | cons _ _=>cases h2
def us4 {α:Type}{us:List α} (h:us.length=4) : ∃ a0 a1 a2 a3:α,us=[a0,a1,a2,a3]:=by
 obtain ⟨a0,u0,rfl,h0⟩:=qwb h;obtain ⟨a1,u1,rfl,h1⟩:=qwb h0;obtain ⟨a2,u2,rfl,h2⟩:=qwb h1;obtain ⟨a3,u3,rfl,h3⟩:=qwb h2;cases u3 with
 | nil=>exact ⟨a0,a1,a2,a3,rfl⟩
 | cons _ _=>cases h3
inductive LK (K:Qd) (x q:Str) (st:Stmt) (f:Addr):Prop
 | mk {oc kV dc pm cd ct:Value}{od an:Option Addr}{sl:Array (Option Value)} (l:K.lookup f=some ⟨oc,od,.func (Ys x q (defArgs st) (defBody st) (defScope st) .none kV dc pm an cd ct),sl⟩) (c:V8 K cd q=true) (k:Vi K (.ref f)=true):LK K x q st f
def LK.fn {K:Qd}{x q:Str}{st:Stmt}{f:Addr} (h:LK K x q st f):(∃ fd,Fun K x q st f fd)/\Vi K (.ref f)=true:=by
 cases h with
 | mk l c k=>exact ⟨⟨_,qth l c k⟩,k⟩
inductive DK (K:Qd) (x:Str) (st:Stmt):Prop
 | mk {f:Addr} (a:Yo K Zh x=some (some (.ref f))) (l:LK K x x st f):DK K x st
def DK.df {K:Qd}{x:Str}{st:Stmt}{ps:List Str}{h:Heap}{mg:Str->Option Value} (d:DK K x st) (X:K.In h) (G:h.Ns Zh mg)
 (hb : ∀ (kV doc pm:Value) (an:Option Addr) (cdv ct:Value) (us:List Value),us.length=ps.length->Qcx (Ys x x (defArgs st) (defBody st) (defScope st) .none kV doc pm an cdv ct) ⟨us,[]⟩=pure (ps.zip us):=by (intro _ _ _ _ _ _ us hl;first|(obtain ⟨_,rfl⟩:=us1 hl;rfl)|(obtain ⟨_,_,rfl⟩:=us2 hl;rfl)|(obtain ⟨_,_,_,rfl⟩:=us3 hl;rfl)|(obtain ⟨_,_,_,_,rfl⟩:=us4 hl;rfl))):Def K mg x st ps:=by
  cases d with
  | mk a l =>
   obtain ⟨⟨_,F⟩,_⟩:=l.fn;exact ⟨_,_,F,Qae X G a,F.binds hb⟩
abbrev Nq0 (K:Qd) (x:Str) (y:Addr):Prop:=Yo K Zh x=some (some (.ref y))
def all_mk {l:Qfk}{w:World}{K:Qd}{h:Heap}{mg:Str->Option Value}{fa:Addr} (X:K.In h) (G:h.Ns Zh mg) (hfa:mg "law" = some (.ref fa))
 {c_tb c_tb1 c_c0 c_c1 c_bm:Addr} (b_bm:Nq0 K "__builtins__" c_bm)
 (l0:DK K "_law_common" qcy)
 (l1:DK K "_law_made" qem)
 (l2:DK K "_law_drawn" qdt)
 (l3:DK K "_law_cut" qgd)
 (l4:DK K "_law_rows" qen)
 (l5:DK K "_law_glass" qds)
 (l6:DK K "_law_product" qcj)
 (l7:DK K "_law_near" qer)
 (l8:DK K "is_whole" qfx)
 (l9:DK K "divisor" qhn)
 (l10:DK K "is_share" qge)
 (l11:DK K "check_shares" qcc)
 (l12:DK K "below" qmu)
 (l13:DK K "reduced" qhi)
 (l14:DK K "share" qny)
 (l15:DK K "stands" qjq)
 (l16:DK K "signs" qnx)
 (l17:DK K "column" qjt)
 (l18:DK K "common_divisor" qbj)
 (l19:DK K "divided" qhc)
 (l20:DK K "lowest_table" qch)
 (l21:DK K "over_bottom" qcx)
 (l22:DK K "table_of_shares" qbd)
 (l23:DK K "one_sign" qfp)
 (l24:DK K "joined_number" qbv)
 (l25:DK K "joined_column" qbu)
 {f26:Addr}{od26 an26:Option Addr}{sl26:Array (Option Value)}{oc26 kV26 dc26 pm26 ct26:Value}
 (a26:Nq0 K "sorted_groups" f26) (l26:K.lookup f26=some ⟨oc26,od26,.func (Ys "sorted_groups" "sorted_groups" (defArgs qY) (defBody qY) (defScope qY) .none kV26 dc26 pm26 an26 (.ref c_c0) ct26),sl26⟩) (c26:V8 K (.ref c_c0) "sorted_groups" = true) (k26:Vi K (.ref f26)=true)
 (l27:DK K "joined_numbers" qbk)
 (l28:DK K "place_of" qgg)
 (l29:DK K "parts_of" qfz)
 (l30:DK K "least" qnw)
 (l31:DK K "is_steeper" qdq)
 {f32:Addr}{od32 an32:Option Addr}{sl32:Array (Option Value)}{oc32 kV32 dc32 pm32 ct32:Value}
 (a32:Nq0 K "steepest_first" f32) (l32:K.lookup f32=some ⟨oc32,od32,.func (Ys "steepest_first" "steepest_first" (defArgs qT) (defBody qT) (defScope qT) .none kV32 dc32 pm32 an32 (.ref c_c1) ct32),sl32⟩) (c32:V8 K (.ref c_c1) "steepest_first" = true) (k32:Vi K (.ref f32)=true)
 (l33:DK K "curve" qni)
 (l34:DK K "line_at" qhg)
 (l35:DK K "added" qnd)
 (l36:DK K "taken" qno)
 (l37:DK K "times" qnh)
 (l38:DK K "slope" qmv)
 (l39:DK K "height_on" qep)
 (l40:DK K "two_acts" qfu)
 (l41:DK K "held" qtl)
 (l42:DK K "_law_whole" qdw)
 (l43:DK K "_law_is_share" qbt)
 (l44:DK K "_law_stands_for" qbe)
 (l45:DK K "_law_steeper" qcd)
 (l46:DK K "_law_steps" qdy)
 (l47:DK K "_law_corners" qce)
 (l48:DK K "_law_above" qdx)
 (l49:DK K "_law_first" qdr)
 (l50:DK K "_law_best" qeq)
 (l51:DK K "_law_payoffs" qcg)
 (l52:DK K "_law_right" qdu)
 (l53:DK K "_law_tied" qeo)
 (l54:DK K "curve" qfv)
 (l55:DK K "held" qhh)
 (l56:DK K "_law_is_no_fit" qbm)
 {f57:Addr}{od57 an57:Option Addr}{sl57:Array (Option Value)}{oc57 kV57 dc57 pm57 cd57 ct57:Value}
 (a57:Nq0 K "law" f57) (l57:K.lookup f57=some ⟨oc57,od57,.func (Ys "law" "law" (defArgs qlu) (defBody qlu) (defScope qlu) .none kV57 dc57 pm57 an57 cd57 ct57),sl57⟩) (c57:V8 K cd57 "law" = true) (k57:Vi K (.ref f57)=true)
 (z_abs:Yo K Zh "abs" = some none)
 (z_any:Yo K Zh "any" = some none)
 (z_bool:Yo K Zh "bool" = some none)
 (z_enumerate:Yo K Zh "enumerate" = some none)
 (z_int:Yo K Zh "int" = some none)
 (z_isinstance:Yo K Zh "isinstance" = some none)
 (z_len:Yo K Zh "len" = some none)
 (z_list:Yo K Zh "list" = some none)
 (z_max:Yo K Zh "max" = some none)
 (z_min:Yo K Zh "min" = some none)
 (z_range:Yo K Zh "range" = some none)
 (z_sorted:Yo K Zh "sorted" = some none)
 (z_sum:Yo K Zh "sum" = some none)
 (z_tuple:Yo K Zh "tuple" = some none)
 {c_GlassError:Addr} (b_GlassError:Nq0 K "GlassError" c_GlassError)
 {c_NoFit:Addr} (b_NoFit:Nq0 K "NoFit" c_NoFit)
 (f_GlassError_e:Y5 K c_GlassError qmp "ValueError.__new__" = true)
 (f_NoFit_e:Y5 K c_NoFit qmp "ValueError.__new__" = true)
 (f_NoFit_x_ga:Jv K (.ref c_NoFit) "__getattribute__" = some (some (.builtin "BaseException.__getattribute__")))
 (f_NoFit_x_na:Jv K (.ref c_NoFit) "__getattr__" = some none)
 (f_NoFit_x_cl:Jv K (.ref c_NoFit) "__class__" = some (some (.builtin "object.__class__")))
 (f_u_NoFit_GlassError:(zacd K c_NoFit).contains (.ref c_GlassError)=true)
 (f_k_NoFit_NoFit:Ju K (.ref c_NoFit) (.ref c_NoFit)=some true)
 (f_tab_h:qtb K c_c0 c_tb=true)
 (f_bm_h:blIn K c_bm c_tb=true)
 (f_tab1_h:qtb K c_c1 c_tb1=true)
 (f_bm1_h:blIn K c_bm c_tb1=true)
 : ∃ fd:Vy,(∀ (s:Qk) (v:Value),Qhz s fd ⟨[v],[]⟩ [("_law_script",v)]) /\ ∀ base:Heap,K.In base->base.Ns Zh mg->FnOk l.prog w K mg base CX0 9 fa fd ["_law_script"] (qpo [c_tb,c_tb1] K):=by
  have e:=hfa.symm.trans (Qae X G a57);cases e;have T:Txt K mg ⟨c_GlassError,c_NoFit,c_tb,c_tb1,c_c0,c_c1,c_bm⟩:=⟨Qae X G b_GlassError,Qae X G b_NoFit,f_GlassError_e,f_NoFit_e,⟨f_NoFit_e,f_NoFit_x_ga,f_NoFit_x_na,f_NoFit_x_cl⟩,⟨f_NoFit_e,f_u_NoFit_GlassError⟩,f_k_NoFit_NoFit,f_tab_h,f_bm_h,f_tab1_h,f_bm1_h,Qae X G b_bm,Zy X G z_abs,Zy X G z_any,Zy X G z_bool,Zy X G z_enumerate,Zy X G z_int,Zy X G z_isinstance,Zy X G z_len,Zy X G z_list,Zy X G z_max,Zy X G z_min,Zy X G z_range,Zy X G z_sorted,Zy X G z_sum,Zy X G z_tuple⟩
  have D0:Def K mg "_law_common" qcy ["_law_one","_law_other"]:=l0.df X G;have D1:Def K mg "_law_made" qem ["_law_bottom","_law_rows_here"]:=l1.df X G;have D2:Def K mg "_law_drawn" qdt ["_law_script","_law_at","_law_sizes"]:=l2.df X G;have D3:Def K mg "_law_cut" qgd ["_law_bottom","_law_cuts"]:=l3.df X G;have D4:Def K mg "_law_rows" qen ["_law_script","_law_at","_law_heights","_law_most"]:=l4.df X G;have D5:Def K mg "_law_glass" qds ["_law_script","_law_at","_law_heights","_law_most"]:=l5.df X G;have D6:Def K mg "_law_product" qcj ["_law_one","_law_other"]:=l6.df X G;have D7:Def K mg "_law_near" qer ["_law_script","_law_at"]:=l7.df X G;have D8:Def K mg "is_whole" qfx ["thing"]:=l8.df X G;have D9:Def K mg "divisor" qhn ["one","other"]:=l9.df X G;have D10:Def K mg "is_share" qge ["thing"]:=l10.df X G;have D11:Def K mg "check_shares" qcc ["one","other"]:=l11.df X G;have D12:Def K mg "below" qmu ["one","other"]:=l12.df X G;have D13:Def K mg "reduced" qhi ["top","bottom"]:=l13.df X G;have D14:Def K mg "share" qny ["top","bottom"]:=l14.df X G;have D15:Def K mg "stands" qjq ["glass"]:=l15.df X G;have D16:Def K mg "signs" qnx ["glass"]:=l16.df X G;have D17:Def K mg "column" qjt ["rows","place"]:=l17.df X G;have D18:Def K mg "common_divisor" qbj ["rows"]:=l18.df X G;have D19:Def K mg "divided" qhc ["row","common"]:=l19.df X G;have D20:Def K mg "lowest_table" qch ["bottom","rows"]:=l20.df X G;have D21:Def K mg "over_bottom" qcx ["row","bottom"]:=l21.df X G;have D22:Def K mg "table_of_shares" qbd ["rows"]:=l22.df X G;have D23:Def K mg "one_sign" qfp ["place","many"]:=l23.df X G;have D24:Def K mg "joined_number" qbv ["row","group"]:=l24.df X G;have D25:Def K mg "joined_column" qbu ["glass","group"]:=l25.df X G;have F26:=qth (st:=qY) l26 c26 k26;have D26:DefT K mg "sorted_groups" qY ["glass"] c_c0:=⟨_,_,_,_,_,_,_,_,_,l26,c26,k26,Qae X G a26,F26.binds (ps:=["glass"]) fun _ _ _ _ _ _ us hl=>by obtain ⟨_,rfl⟩:=us1 hl;rfl⟩
  have D27:Def K mg "joined_numbers" qbk ["row","groups"]:=l27.df X G;have D28:Def K mg "place_of" qgg ["sign","groups"]:=l28.df X G;have D29:Def K mg "parts_of" qfz ["group","glass"]:=l29.df X G;have D30:Def K mg "least" qnw ["glass"]:=l30.df X G;have D31:Def K mg "is_steeper" qdq ["one","other"]:=l31.df X G;have F32:=qth (st:=qT) l32 c32 k32;have D32:DefT K mg "steepest_first" qT ["steps"] c_c1:=⟨_,_,_,_,_,_,_,_,_,l32,c32,k32,Qae X G a32,F32.binds (ps:=["steps"]) fun _ _ _ _ _ _ us hl=>by obtain ⟨_,rfl⟩:=us1 hl;rfl⟩
  have D33:Def K mg "curve" qni ["glass"]:=l33.df X G;have D34:Def K mg "line_at" qhg ["corners","x"]:=l34.df X G;have D35:Def K mg "added" qnd ["one","other"]:=l35.df X G;have D36:Def K mg "taken" qno ["one","other"]:=l36.df X G;have D37:Def K mg "times" qnh ["one","other"]:=l37.df X G;have D38:Def K mg "slope" qmv ["line"]:=l38.df X G;have D39:Def K mg "height_on" qep ["line","x"]:=l39.df X G;have D40:Def K mg "two_acts" qfu ["steepness"]:=l40.df X G;have D41:Def K mg "held" qtl ["one","other"]:=l41.df X G;have D42:Def K mg "_law_whole" qdw ["_law_found"]:=l42.df X G;have D43:Def K mg "_law_is_share" qbt ["_law_found"]:=l43.df X G;have D44:Def K mg "_law_stands_for" qbe ["_law_found","_law_top","_law_bottom"]:=l44.df X G;have D45:Def K mg "_law_steeper" qcd ["_law_one","_law_other"]:=l45.df X G;have D46:Def K mg "_law_steps" qdy ["_law_glass_here"]:=l46.df X G;have D47:Def K mg "_law_corners" qce ["_law_glass_here"]:=l47.df X G;have D48:Def K mg "_law_above" qdx ["_law_some","_law_whole_here","_law_point","_law_bottom"]:=l48.df X G;have D49:Def K mg "_law_first" qdr ["_law_one","_law_other"]:=l49.df X G;have D50:Def K mg "_law_best" qeq ["_law_glass_here","_law_payoffs_here"]:=l50.df X G;have D51:Def K mg "_law_payoffs" qcg ["_law_found"]:=l51.df X G;have D52:Def K mg "_law_right" qdu ["_law_one","_law_other"]:=l52.df X G;have D53:Def K mg "_law_tied" qeo ["_law_glass_here"]:=l53.df X G;have D54:Def K mg "curve" qfv ["glass"]:=l54.df X G;have D55:Def K mg "held" qhh ["one","other"]:=l55.df X G;have D56:Def K mg "_law_is_no_fit" qbm ["_law_one","_law_other"]:=l56.df X G;have F57:=qth (st:=qlu) l57 c57 k57;refine ⟨Ys "law" "law" (defArgs qlu) (defBody qlu) (defScope qlu) .none kV57 dc57 pm57 an57 cd57 ct57,fun s v => .of_eq rfl,fun base KB _=>?_⟩;have O0:=qms (P:=l.prog) (w:=w) (base:=base) D0 T;have O1:=qrq D1 T O0;have O2:=qps (P:=l.prog) (w:=w) (base:=base) D2 T;have O3:=qtw (P:=l.prog) (w:=w) (base:=base) D3 T;have O4:=qrk D4 T O2 O3;have O5:=qpn D5 T O1 O4;have O6:=qlv D6 T O1;have O7:=qrj D7 T O1 O2;have O8:=quf (P:=l.prog) (w:=w) (base:=base) D8 T;have O9:=qwu (P:=l.prog) (w:=w) (base:=base) D9 T;have O10:=quj D10 T O8 O9;have O11:=qlx D11 T O10;have O12:=zadw D12 T O11;have O13:=qxd D13 T O9;have O14:=zadg D14 T O8 O13;have O15:=zabf (P:=l.prog) (w:=w) (base:=base) D15 T;have O16:=zacr (P:=l.prog) (w:=w) (base:=base) D16 T;have O17:=zaaj (P:=l.prog) (w:=w) (base:=base) D17 T;have O18:=qit D18 T O9;have O19:=qxh (P:=l.prog) (w:=w) (base:=base) D19 T;have O20:=qma D20 T O18 O19;have O21:=qmr (P:=l.prog) (w:=w) (base:=base) D21 T;have O22:=qii D22 T O9 O21;have O23:=qug (P:=l.prog) (w:=w) (base:=base) D23 T;have O24:=qkf (P:=l.prog) (w:=w) (base:=base) D24 T;have O25:=qjx D25 T O24;have O26:=qka D26 T KB O16 O17 O18 O19 O25;have O27:=qiu D27 T O24;have O28:=quh (P:=l.prog) (w:=w) (base:=base) D28 T;have O29:=qud D29 T O14 O16 O17 O25;have O30:=zaex D30 T O16 O20 O22 O23 O26 O27 O28 O29;have O31:=qpt (P:=l.prog) (w:=w) (base:=base) D31 T;have O32:=qiv D32 T KB O31;have O33:=zadl D33 T O14 O15 O16 O17 O30 O32;have O34:=qwg D34 T O12;have O35:=zadv D35 T O11 O13;have O36:=zacs D36 T O11 O13;have O37:=zaet D37 T O11 O13;have O38:=zaef D38 T O14 O36;have O39:=qro D39 T O35 O36 O37 O38;have O40:=qtv (P:=l.prog) (w:=w) (base:=base) D40 T;have O41:=zaho D41 T O12 O33 O34 O38 O39 O40;have O42:=qpg (P:=l.prog) (w:=w) (base:=base) D42 T;have O43:=qjy D43 T O42;have O44:=qij D44 T O43;have O45:=qlz (P:=l.prog) (w:=w) (base:=base) D45 T;have O46:=qpd D46 T O45;have O47:=qlr D47 T O46;have O48:=qpu (P:=l.prog) (w:=w) (base:=base) D48 T;have O49:=qpr D49 T O47 O48;have O50:=qrt (P:=l.prog) (w:=w) (base:=base) D50 T;have O51:=qls D51 T O42;have O52:=qpq D52 T O41 O44 O49 O50 O51;have O53:=qrm D53 T O1;have O54:=que D54 T O15;have O55:=qwv D55 T O33 O54;have O56:=qiw D56 T O55;exact zaoc (P:=l.prog) (w:=w) (K:=K) (mg:=mg) (base:=base) F57 T O1 O5 O6 O7 O52 O53 O56
def walk {l:Qfk}{q:Zi}{loose:List Str}{XP:(Str->Option Value)->Heap->Prop}{YP:World->Heap->Prop}{d:DefRec}{K:Qct->Qd}{tbs:List Addr} (hn:l.most=some 63) (hdf:d.params.defaults=[])
 (hY : ∀ (w:World) (h:Heap),YP w h->(K w.params).In h /\ ∀ b ∈ tbs,∃ c,h.TableAt c b #[]) (hKt : ∀ P,∀ b ∈ tbs,(K P).lookup b=none)
 (F : ∀ (w:World) (mg:Str->Option Value) (fa:Addr) (h:Heap),(K w.params).In h->h.Ns Zh mg->mg d.name=some (.ref fa) ->
 ∃ fd:Vy,(∀ (s:Qk) (u:Value),Qhz s fd ⟨[u],[]⟩ [("_law_script",u)]) /\ ∀ base:Heap,(K w.params).In base->base.Ns Zh mg->FnOk l.prog w (K w.params) mg base CX0 9 fa fd ["_law_script"] (qpo tbs (K w.params))) :
 Qjx q loose XP YP l.row.toRowW d [] (fun f vs=>Qjp f vs) :=
  L2.walk_ofT (n:=63) (k:=9) (x := "_law_script") (tbs:=fun _=>tbs) (CX:=fun _=>CX0) (sp:=fun w=>qpo tbs (K w.params)) hn (by decide) hdf ⟨rfl,by decide,by decide⟩ hY hKt F (fun _ _ a ns hl ht hS=>⟨ht,a,ns,rfl,hS,hl,fun _=>rfl⟩) fun _ _ _ _ _ z=>z
noncomputable section
open PySem PySem.W PySem.Calls PyProof.Rows
abbrev N0:=BT.node
abbrev nl0:=BT.nil
abbrev xs9:Value:=.str "law_dullglass_k45_two_acts" 502
abbrev xl9 (o:Obj):=N0 o nl0 nl0
def en0 (P:Qct) (x:Str) (t:Nat) (v:Value):Qde:=⟨Qh.keyHash P x,.str x t,v⟩
def tu0 (vs:List Value):Obj:=⟨.type "tuple",none,.seq vs.toArray 0,#[]⟩
def em0:Obj:=⟨.none,none,.fields #[],#[]⟩
def fo0 (n q:Str) (s:Stmt) (pm:Value) (c:Nat):Obj:=⟨.type "function",none,.func (Ys n q (L2.defArgs s) (L2.defBody s) (L2.defScope s) .none .none .none pm none (.ref c) .none),#[]⟩
def pr0 (n q:Str) (s:Stmt):Obj:=⟨.none,none,.func ⟨n,q,L2.defArgs s,.stmts (L2.defBody s),L2.defScope s,0,[],.none,.none,.none,.none,none,.none,.none,0⟩,#[]⟩
def co0 (n q:Str) (t:Nat) (l ac fl:Int) (a:Nat) (b:Bool) (x y z:Value) (u:Nat):Obj:=⟨.type "code",none,.fields #[.str n t,.str q (t+1),.str "/claim/cut.py" (t+2),.int l 0,.int ac 0,.int 0 0,.int 0 0,.int fl 0,.ref a,.bool b,.int 181 0,.ref (a+1),.none,x,y,z,.int u 0,.int l 0,.str "/claim/cut.py" (u+1)],#[]⟩
def co1 (n:Str) (t:Nat) (l ac fl:Int) (a:Nat) (b:Bool) (u:Nat):Obj:=co0 n n t l ac fl a b (.ref (a+2)) (.ref (a+3)) (.ref (a+4)) u
def fo1 (n:Str) (s:Nat) (pm:Value) (c:Nat):Obj:=fo0 n n (top s) pm c
lay_quick Qi
def env0:Env:={ scope:=Qi.main.scope,locals:=mainNs,globals:=mainNs,cells:=[],code:=(.ref 13),frame:=some 14 }
def cE0:Code :=.body (behindTheImports Qi) env0
def ls0:List Str:=[Qq "GlassError",Qq "NoShare",Qq "NoFit",Qq "is_whole",Qq "divisor",Qq "share",Qq "reduced",Qq "is_share",Qq "check_shares",Qq "added",Qq "taken",Qq "times",Qq "below",Qq "common_divisor",Qq "lowest_table",Qq "divided",Qq "table_of_shares",Qq "over_bottom",Qq "stands",Qq "signs",Qq "column",Qq "one_sign",Qq "least",Qq "sorted_groups",Qq "joined_column",Qq "joined_numbers",Qq "joined_number",Qq "place_of",Qq "parts_of",Qq "curve",Qq "steepest_first",Qq "is_steeper",Qq "line_at",Qq "height_on",Qq "slope",Qq "held",Qq "two_acts",Qq "_law_drawn",Qq "_law_common",Qq "_law_made",Qq "_law_cut",Qq "_law_rows",Qq "_law_glass",Qq "_law_whole",Qq "_law_is_share",Qq "_law_stands_for",Qq "_law_product",Qq "_law_steeper",Qq "_law_steps",Qq "_law_corners",Qq "_law_near",Qq "_law_above",Qq "_law_first",Qq "_law_best",Qq "_law_payoffs",Qq "_law_right",Qq "_law_tied",Qq "_law_is_no_fit"]
def lf0:Life:=⟨[],[],[],0,[],[],false,#[],[],0,false,false,false,0,[2000,10,10],false,0,true,[],[],0,false⟩
def o13a:Obj:=co0 "<module>" "<module>" 182 1 0 0 11 false .none .none .none 185
def o14a:Obj:=⟨(.type "frame"),none,.plain,#[(some (.ref 13)),(some (.ref 3)),(some (.ref 3)),none,(some (.str "__main__" 164)),none,(some (.ref 0))]⟩
def o3 (P:Qct):Obj:=⟨(.type "dict"),none,(.dict #[en0 P "__name__" 165 xs9,en0 P "__doc__" 166 .none,en0 P "__package__" 167 .none,en0 P "__loader__" 168 (.builtin "__main__.__loader__#opaque"),en0 P "__spec__" 169 .none,en0 P "__annotations__" 170 (.ref 6),en0 P "__builtins__" 171 (.ref 4),en0 P "__file__" 173 (.str "/claim/cut.py" 172),en0 P "__cached__" 174 .none,en0 P "GlassError" 206 (.ref 24),en0 P "NoShare" 222 (.ref 37),en0 P "NoFit" 238 (.ref 49),en0 P "is_whole" 247 (.ref 58),en0 P "divisor" 256 (.ref 65),en0 P "share" 264 (.ref 72),en0 P "reduced" 273 (.ref 79),en0 P "is_share" 280 (.ref 86),en0 P "check_shares" 288 (.ref 93),en0 P "added" 296 (.ref 100),en0 P "taken" 304 (.ref 107),en0 P "times" 312 (.ref 114),en0 P "below" 320 (.ref 121),en0 P "common_divisor" 332 (.ref 128),en0 P "lowest_table" 338 (.ref 133),en0 P "divided" 344 (.ref 138),en0 P "table_of_shares" 350 (.ref 143),en0 P "over_bottom" 356 (.ref 148),en0 P "stands" 363 (.ref 155),en0 P "signs" 370 (.ref 162),en0 P "column" 376 (.ref 167),en0 P "one_sign" 382 (.ref 172),en0 P "least" 390 (.ref 177),en0 P "sorted_groups" 402 (.ref 184),en0 P "joined_column" 408 (.ref 189),en0 P "joined_numbers" 414 (.ref 194),en0 P "joined_number" 420 (.ref 199),en0 P "place_of" 430 (.ref 206),en0 P "parts_of" 436 (.ref 211),en0 P "curve" 444 (.ref 216),en0 P "steepest_first" 452 (.ref 223),en0 P "is_steeper" 460 (.ref 230),en0 P "line_at" 466 (.ref 235),en0 P "height_on" 474 (.ref 242),en0 P "slope" 483 (.ref 249),en0 P "held" 494 (.ref 256),en0 P "two_acts" 501 (.ref 263),en0 P "_law_drawn" 518 (.ref 270),en0 P "_law_common" 527 (.ref 277),en0 P "_law_made" 533 (.ref 282),en0 P "_law_cut" 544 (.ref 289),en0 P "_law_rows" 562 (.ref 296),en0 P "_law_glass" 574 (.ref 303),en0 P "_law_whole" 581 (.ref 310),en0 P "_law_is_share" 591 (.ref 317),en0 P "_law_stands_for" 600 (.ref 324),en0 P "_law_product" 606 (.ref 329),en0 P "_law_steeper" 614 (.ref 336),en0 P "_law_steps" 620 (.ref 341),en0 P "_law_corners" 631 (.ref 348),en0 P "_law_near" 637 (.ref 353),en0 P "_law_above" 653 (.ref 360),en0 P "_law_first" 663 (.ref 367),en0 P "_law_best" 669 (.ref 372),en0 P "_law_payoffs" 677 (.ref 379),en0 P "_law_right" 689 (.ref 386),en0 P "_law_tied" 698 (.ref 393),en0 P "_law_is_no_fit" 708 (.ref 400),en0 P "law" 722 (.ref 407)] 68),#[]⟩
def o12:Obj:=⟨.none,none,(.fields #[(.int (2) 0),(.int (0) 0),(.ref 20),(.int (4) 0),(.int (0) 0),(.ref 33),(.int (6) 0),(.int (0) 0),(.ref 45),(.int (9) 0),(.int (0) 0),(.ref 57),(.int (11) 0),(.int (0) 0),(.ref 64),(.int (19) 0),(.int (0) 0),(.ref 71),(.int (23) 0),(.int (0) 0),(.ref 78),(.int (28) 0),(.int (0) 0),(.ref 85),(.int (34) 0),(.int (0) 0),(.ref 92),(.int (37) 0),(.int (0) 0),(.ref 99),(.int (40) 0),(.int (0) 0),(.ref 106),(.int (43) 0),(.int (0) 0),(.ref 113),(.int (46) 0),(.int (0) 0),(.ref 120),(.int (50) 0),(.int (0) 0),(.ref 127),(.int (56) 0),(.int (0) 0),(.ref 132),(.int (59) 0),(.int (0) 0),(.ref 137),(.int (61) 0),(.int (0) 0),(.ref 142),(.int (67) 0),(.int (0) 0),(.ref 147),(.int (69) 0),(.int (0) 0),(.ref 154),(.int (71) 0),(.int (0) 0),(.ref 161),(.int (73) 0),(.int (0) 0),(.ref 166),(.int (75) 0),(.int (0) 0),(.ref 171),(.int (78) 0),(.int (0) 0),(.ref 176),(.int (84) 0),(.int (0) 0),(.ref 183),(.int (92) 0),(.int (0) 0),(.ref 188),(.int (94) 0),(.int (0) 0),(.ref 193),(.int (96) 0),(.int (0) 0),(.ref 198),(.int (98) 0),(.int (0) 0),(.ref 205),(.int (103) 0),(.int (0) 0),(.ref 210),(.int (107) 0),(.int (0) 0),(.ref 215),(.int (119) 0),(.int (0) 0),(.ref 222),(.int (121) 0),(.int (0) 0),(.ref 229),(.int (123) 0),(.int (0) 0),(.ref 234),(.int (126) 0),(.int (0) 0),(.ref 241),(.int (128) 0),(.int (0) 0),(.ref 248),(.int (132) 0),(.int (0) 0),(.ref 255),(.int (139) 0),(.int (0) 0),(.ref 262),(.int (142) 0),(.int (0) 0),(.ref 269),(.int (158) 0),(.int (0) 0),(.ref 276),(.int (164) 0),(.int (0) 0),(.ref 281),(.int (173) 0),(.int (0) 0),(.ref 288),(.int (180) 0),(.int (0) 0),(.ref 295),(.int (191) 0),(.int (0) 0),(.ref 302),(.int (194) 0),(.int (0) 0),(.ref 309),(.int (196) 0),(.int (0) 0),(.ref 316),(.int (210) 0),(.int (0) 0),(.ref 323),(.int (212) 0),(.int (0) 0),(.ref 328),(.int (220) 0),(.int (0) 0),(.ref 335),(.int (222) 0),(.int (0) 0),(.ref 340),(.int (237) 0),(.int (0) 0),(.ref 347),(.int (246) 0),(.int (0) 0),(.ref 352),(.int (254) 0),(.int (0) 0),(.ref 359),(.int (268) 0),(.int (0) 0),(.ref 366),(.int (274) 0),(.int (0) 0),(.ref 371),(.int (282) 0),(.int (0) 0),(.ref 378),(.int (289) 0),(.int (0) 0),(.ref 385),(.int (304) 0),(.int (0) 0),(.ref 392),(.int (309) 0),(.int (0) 0),(.ref 399),(.int (316) 0),(.int (0) 0),(.ref 406)]),#[]⟩
def o16:Obj:=⟨(.type "builtin_function_or_method"),none,(.fields #[(.builtin "type.__prepare__"),(.type "type")]),#[]⟩
def o17 (P:Qct):Obj:=⟨(.type "dict"),none,(.dict #[en0 P "__module__" 196 (.str "dullglass.errors" 187),en0 P "__qualname__" 198 (.str "GlassError" 197),en0 P "__firstlineno__" 200 (.int (2) 199),en0 P "__static_attributes__" 201 (.ref 22)] 4),#[]⟩
def o20:Obj:=co0 "GlassError" "GlassError" 191 2 0 0 18 false .none .none .none 194
def o21:Obj:=⟨(.type "frame"),none,.plain,#[(some (.ref 20)),(some (.ref 3)),(some (.ref 17)),none,(some (.str "dullglass.errors" 187)),none,(some (.ref 0))]⟩
def o23 (P:Qct):Obj:=⟨(.type "dict"),none,(.dict #[en0 P "__module__" 196 (.str "dullglass.errors" 187),en0 P "__firstlineno__" 200 (.int (2) 199),en0 P "__static_attributes__" 201 (.ref 22),en0 P "__weakref__" 203 (.ref 25),en0 P "__doc__" 204 .none] 3),#[]⟩
def o24:Obj:=⟨(.type "type"),none,(.cls ⟨"GlassError",[(.type "ValueError")],[(.ref 24),(.type "ValueError"),(.type "Exception"),(.type "BaseException"),(.type "object")],23,"GlassError",true,[],[(.ref 37),(.ref 49)],false,none,false⟩),#[(some (.ref 15)),none,(some (.str "GlassError" 189)),(some (.str "GlassError" 197)),(some (.builtin "ValueError.__new__")),(some (.bool true))]⟩
def o25:Obj:=⟨(.type "getset_descriptor"),none,(.fields #[(.str "__weakref__" 202),(.ref 24),(.builtin "ExceptionGroup.__weakref__"),.none]),#[]⟩
def o26:Obj:=⟨(.type "super"),none,(.fields #[(.ref 24),(.ref 24),(.ref 24)]),#[]⟩
def o27:Obj:=⟨(.type "builtin_function_or_method"),none,(.fields #[(.builtin "object.__init_subclass__"),(.ref 24)]),#[]⟩
def o29:Obj:=⟨(.type "builtin_function_or_method"),none,(.fields #[(.builtin "type.__prepare__"),(.type "type")]),#[]⟩
def o30 (P:Qct):Obj:=⟨(.type "dict"),none,(.dict #[en0 P "__module__" 214 (.str "dullglass.errors" 187),en0 P "__qualname__" 216 (.str "NoShare" 215),en0 P "__firstlineno__" 218 (.int (4) 217),en0 P "__static_attributes__" 219 (.ref 35)] 4),#[]⟩
def o33:Obj:=co0 "NoShare" "NoShare" 209 4 0 0 31 false .none .none .none 212
def o34:Obj:=⟨(.type "frame"),none,.plain,#[(some (.ref 33)),(some (.ref 3)),(some (.ref 30)),none,(some (.str "dullglass.errors" 187)),none,(some (.ref 0))]⟩
def o36 (P:Qct):Obj:=⟨(.type "dict"),none,(.dict #[en0 P "__module__" 214 (.str "dullglass.errors" 187),en0 P "__firstlineno__" 218 (.int (4) 217),en0 P "__static_attributes__" 219 (.ref 35),en0 P "__doc__" 220 .none] 2),#[]⟩
def o37:Obj:=⟨(.type "type"),none,(.cls ⟨"NoShare",[(.ref 24)],[(.ref 37),(.ref 24),(.type "ValueError"),(.type "Exception"),(.type "BaseException"),(.type "object")],36,"NoShare",true,[],[],false,none,false⟩),#[(some (.ref 28)),none,(some (.str "NoShare" 207)),(some (.str "NoShare" 215)),(some (.builtin "ValueError.__new__")),(some (.bool true))]⟩
def o38:Obj:=⟨(.type "super"),none,(.fields #[(.ref 37),(.ref 37),(.ref 37)]),#[]⟩
def o39:Obj:=⟨(.type "builtin_function_or_method"),none,(.fields #[(.builtin "object.__init_subclass__"),(.ref 37)]),#[]⟩
def o41:Obj:=⟨(.type "builtin_function_or_method"),none,(.fields #[(.builtin "type.__prepare__"),(.type "type")]),#[]⟩
def o42 (P:Qct):Obj:=⟨(.type "dict"),none,(.dict #[en0 P "__module__" 230 (.str "dullglass.errors" 187),en0 P "__qualname__" 232 (.str "NoFit" 231),en0 P "__firstlineno__" 234 (.int (6) 233),en0 P "__static_attributes__" 235 (.ref 47)] 4),#[]⟩
def o45:Obj:=co0 "NoFit" "NoFit" 225 6 0 0 43 false .none .none .none 228
def o46:Obj:=⟨(.type "frame"),none,.plain,#[(some (.ref 45)),(some (.ref 3)),(some (.ref 42)),none,(some (.str "dullglass.errors" 187)),none,(some (.ref 0))]⟩
def o48 (P:Qct):Obj:=⟨(.type "dict"),none,(.dict #[en0 P "__module__" 230 (.str "dullglass.errors" 187),en0 P "__firstlineno__" 234 (.int (6) 233),en0 P "__static_attributes__" 235 (.ref 47),en0 P "__doc__" 236 .none] 2),#[]⟩
def o49:Obj:=⟨(.type "type"),none,(.cls ⟨"NoFit",[(.ref 24)],[(.ref 49),(.ref 24),(.type "ValueError"),(.type "Exception"),(.type "BaseException"),(.type "object")],48,"NoFit",true,[],[],false,none,false⟩),#[(some (.ref 40)),none,(some (.str "NoFit" 223)),(some (.str "NoFit" 231)),(some (.builtin "ValueError.__new__")),(some (.bool true))]⟩
def o50:Obj:=⟨(.type "super"),none,(.fields #[(.ref 49),(.ref 49),(.ref 49)]),#[]⟩
def o51:Obj:=⟨(.type "builtin_function_or_method"),none,(.fields #[(.builtin "object.__init_subclass__"),(.ref 49)]),#[]⟩
def o57:Obj:=co1 "is_whole" 241 9 1 3 52 true 245
def o58:Obj:=fo1 "is_whole" 5 (.str "dullglass.shares" 239) 57
def o64:Obj:=co1 "divisor" 248 11 2 3 59 true 254
def o65:Obj:=fo1 "divisor" 6 (.str "dullglass.shares" 239) 64
def o71:Obj:=co1 "share" 257 19 2 3 66 true 262
def o72:Obj:=fo1 "share" 7 (.str "dullglass.shares" 239) 71
def o78:Obj:=co1 "reduced" 265 23 2 3 73 true 271
def o79:Obj:=fo1 "reduced" 8 (.str "dullglass.shares" 239) 78
def o85:Obj:=co1 "is_share" 274 28 1 3 80 true 278
def o86:Obj:=fo1 "is_share" 9 (.str "dullglass.shares" 239) 85
def o92:Obj:=co1 "check_shares" 281 34 2 3 87 true 286
def o93:Obj:=fo1 "check_shares" 10 (.str "dullglass.shares" 239) 92
def o99:Obj:=co1 "added" 289 37 2 3 94 true 294
def o100:Obj:=fo1 "added" 11 (.str "dullglass.shares" 239) 99
def o106:Obj:=co1 "taken" 297 40 2 3 101 true 302
def o107:Obj:=fo1 "taken" 12 (.str "dullglass.shares" 239) 106
def o113:Obj:=co1 "times" 305 43 2 3 108 true 310
def o114:Obj:=fo1 "times" 13 (.str "dullglass.shares" 239) 113
def o120:Obj:=co1 "below" 313 46 2 3 115 true 318
def o121:Obj:=fo1 "below" 14 (.str "dullglass.shares" 239) 120
def o127:Obj:=co1 "common_divisor" 323 50 1 3 122 true 330
def o128:Obj:=fo1 "common_divisor" 16 (.str "dullglass.glasses" 321) 127
def o132:Obj:=co0 "lowest_table" "lowest_table" 333 56 2 3 129 true .none .none (.ref 131) 336
def o133:Obj:=fo1 "lowest_table" 17 (.str "dullglass.glasses" 321) 132
def o137:Obj:=co0 "divided" "divided" 339 59 2 3 134 true .none .none (.ref 136) 342
def o138:Obj:=fo1 "divided" 18 (.str "dullglass.glasses" 321) 137
def o142:Obj:=co0 "table_of_shares" "table_of_shares" 345 61 1 3 139 true .none .none (.ref 141) 348
def o143:Obj:=fo1 "table_of_shares" 19 (.str "dullglass.glasses" 321) 142
def o147:Obj:=co0 "over_bottom" "over_bottom" 351 67 2 3 144 true .none .none (.ref 146) 354
def o148:Obj:=fo1 "over_bottom" 20 (.str "dullglass.glasses" 321) 147
def o154:Obj:=co1 "stands" 357 69 1 3 149 true 361
def o155:Obj:=fo1 "stands" 21 (.str "dullglass.glasses" 321) 154
def o161:Obj:=co1 "signs" 364 71 1 3 156 true 368
def o162:Obj:=fo1 "signs" 22 (.str "dullglass.glasses" 321) 161
def o166:Obj:=co0 "column" "column" 371 73 2 3 163 true .none .none (.ref 165) 374
def o167:Obj:=fo1 "column" 23 (.str "dullglass.glasses" 321) 166
def o171:Obj:=co0 "one_sign" "one_sign" 377 75 2 3 168 true .none .none (.ref 170) 380
def o172:Obj:=fo1 "one_sign" 24 (.str "dullglass.glasses" 321) 171
def o176:Obj:=co0 "least" "least" 385 78 1 3 173 true .none .none (.ref 175) 388
def o177:Obj:=fo1 "least" 26 (.str "dullglass.least" 383) 176
def o183:Obj:=co1 "sorted_groups" 391 84 1 3 178 true 400
def o184:Obj:=fo1 "sorted_groups" 27 (.str "dullglass.least" 383) 183
def o188:Obj:=co0 "joined_column" "joined_column" 403 92 2 3 185 true .none .none (.ref 187) 406
def o189:Obj:=fo1 "joined_column" 28 (.str "dullglass.least" 383) 188
def o193:Obj:=co0 "joined_numbers" "joined_numbers" 409 94 2 3 190 true .none .none (.ref 192) 412
def o194:Obj:=fo1 "joined_numbers" 29 (.str "dullglass.least" 383) 193
def o198:Obj:=co0 "joined_number" "joined_number" 415 96 2 3 195 true .none .none (.ref 197) 418
def o199:Obj:=fo1 "joined_number" 30 (.str "dullglass.least" 383) 198
def o205:Obj:=co1 "place_of" 421 98 2 3 200 true 428
def o206:Obj:=fo1 "place_of" 31 (.str "dullglass.least" 383) 205
def o210:Obj:=co0 "parts_of" "parts_of" 431 103 2 3 207 true .none .none (.ref 209) 434
def o211:Obj:=fo1 "parts_of" 32 (.str "dullglass.least" 383) 210
def o215:Obj:=co0 "curve" "curve" 439 107 1 3 212 true .none .none (.ref 214) 442
def o216:Obj:=fo1 "curve" 34 (.str "dullglass.curves" 437) 215
def o222:Obj:=co1 "steepest_first" 445 119 1 3 217 true 450
def o223:Obj:=fo1 "steepest_first" 35 (.str "dullglass.curves" 437) 222
def o229:Obj:=co1 "is_steeper" 453 121 2 3 224 true 458
def o230:Obj:=fo1 "is_steeper" 36 (.str "dullglass.curves" 437) 229
def o234:Obj:=co0 "line_at" "line_at" 461 123 2 3 231 true .none .none (.ref 233) 464
def o235:Obj:=fo1 "line_at" 37 (.str "dullglass.curves" 437) 234
def o241:Obj:=co1 "height_on" 467 126 2 3 236 true 472
def o242:Obj:=fo1 "height_on" 38 (.str "dullglass.curves" 437) 241
def o248:Obj:=co1 "slope" 475 128 1 3 243 true 481
def o249:Obj:=fo1 "slope" 39 (.str "dullglass.curves" 437) 248
def o255:Obj:=co1 "held" 484 132 2 3 250 true 492
def o256:Obj:=fo1 "held" 40 (.str "dullglass.curves" 437) 255
def o262:Obj:=co1 "two_acts" 495 139 1 3 257 true 499
def o263:Obj:=fo1 "two_acts" 41 (.str "dullglass.curves" 437) 262
def o269:Obj:=co1 "_law_drawn" 504 142 3 3 264 true 516
def o270:Obj:=fo1 "_law_drawn" 43 xs9 269
def o276:Obj:=co1 "_law_common" 519 158 2 3 271 true 525
def o277:Obj:=fo1 "_law_common" 44 xs9 276
def o281:Obj:=co0 "_law_made" "_law_made" 528 164 2 3 278 true .none .none (.ref 280) 531
def o282:Obj:=fo1 "_law_made" 45 xs9 281
def o288:Obj:=co1 "_law_cut" 534 173 2 3 283 true 542
def o289:Obj:=fo1 "_law_cut" 46 xs9 288
def o295:Obj:=co1 "_law_rows" 545 180 4 3 290 true 560
def o296:Obj:=fo1 "_law_rows" 47 xs9 295
def o302:Obj:=co1 "_law_glass" 563 191 4 3 297 true 572
def o303:Obj:=fo1 "_law_glass" 48 xs9 302
def o309:Obj:=co1 "_law_whole" 575 194 1 3 304 true 579
def o310:Obj:=fo1 "_law_whole" 49 xs9 309
def o316:Obj:=co1 "_law_is_share" 582 196 1 3 311 true 589
def o317:Obj:=fo1 "_law_is_share" 50 xs9 316
def o323:Obj:=co1 "_law_stands_for" 592 210 3 3 318 true 598
def o324:Obj:=fo1 "_law_stands_for" 51 xs9 323
def o328:Obj:=co0 "_law_product" "_law_product" 601 212 2 3 325 true .none .none (.ref 327) 604
def o329:Obj:=fo1 "_law_product" 52 xs9 328
def o335:Obj:=co1 "_law_steeper" 607 220 2 3 330 true 612
def o336:Obj:=fo1 "_law_steeper" 53 xs9 335
def o340:Obj:=co0 "_law_steps" "_law_steps" 615 222 1 3 337 true .none .none (.ref 339) 618
def o341:Obj:=fo1 "_law_steps" 54 xs9 340
def o347:Obj:=co1 "_law_corners" 621 237 1 3 342 true 629
def o348:Obj:=fo1 "_law_corners" 55 xs9 347
def o352:Obj:=co0 "_law_near" "_law_near" 632 246 2 3 349 true .none .none (.ref 351) 635
def o353:Obj:=fo1 "_law_near" 56 xs9 352
def o359:Obj:=co1 "_law_above" 638 254 4 3 354 true 651
def o360:Obj:=fo1 "_law_above" 57 xs9 359
def o366:Obj:=co1 "_law_first" 654 268 2 3 361 true 661
def o367:Obj:=fo1 "_law_first" 58 xs9 366
def o371:Obj:=co0 "_law_best" "_law_best" 664 274 2 3 368 true .none .none (.ref 370) 667
def o372:Obj:=fo1 "_law_best" 59 xs9 371
def o378:Obj:=co1 "_law_payoffs" 670 282 1 3 373 true 675
def o379:Obj:=fo1 "_law_payoffs" 60 xs9 378
def o385:Obj:=co1 "_law_right" 678 289 2 3 380 true 687
def o386:Obj:=fo1 "_law_right" 61 xs9 385
def o392:Obj:=co1 "_law_tied" 690 304 1 3 387 true 696
def o393:Obj:=fo1 "_law_tied" 62 xs9 392
def o399:Obj:=co1 "_law_is_no_fit" 699 309 2 3 394 true 706
def o400:Obj:=fo1 "_law_is_no_fit" 63 xs9 399
def o406:Obj:=co1 "law" 709 316 1 3 401 true 720
def o407:Obj:=fo1 "law" 64 xs9 406
def tA0 (P:Qct):BT:=(N0 (boot_o_0 P) (N0 (boot_o_1 P) (N0 (boot_o_3 P) (xl9 (boot_o_7 P)) (xl9 (tu0 []))) (N0 (boot_o_5 P) (xl9 (boot_o_9 P)) (xl9 o13a))) (N0 (boot_o_2 P) (N0 (boot_o_4 P) (xl9 (boot_o_8 P)) (xl9 em0)) (N0 (boot_o_6 P) (xl9 (boot_o_10 P)) (xl9 o14a))))
def tE0 (P:Qct):BT:=(N0 (boot_o_0 P) (N0 (boot_o_1 P) (N0 (o3 P) (N0 (boot_o_7 P) (N0 (tu0 [(.type "ValueError")]) (N0 (tu0 []) (N0 (pr0 "divisor" "divisor" (top 6)) (N0 o127 (xl9 o255) (xl9 (tu0 []))) (N0 em0 (xl9 em0) nl0)) (N0 em0 (N0 (tu0 []) (xl9 (pr0 "_law_cut" "_law_cut" (top 46))) nl0) (N0 o223 (xl9 (pr0 "_law_near" "_law_near" (top 56))) nl0))) (N0 (tu0 []) (N0 o79 (N0 o143 (xl9 (tu0 [])) (xl9 o399)) (N0 (tu0 []) (xl9 o335) nl0)) (N0 (tu0 []) (N0 (pr0 "least" "least" (top 26)) (xl9 o303) nl0) (N0 (tu0 []) (xl9 o367) nl0)))) (N0 (o23 P) (N0 o39 (N0 o71 (N0 em0 (xl9 o263) (xl9 (pr0 "_law_tied" "_law_tied" (top 62)))) (N0 o199 (xl9 (pr0 "_law_product" "_law_product" (top 52))) nl0)) (N0 (tu0 [(.str "one" 300),(.str "other" 301)]) (N0 o167 (xl9 o295) nl0) (N0 (tu0 []) (xl9 o359) nl0))) (N0 (tu0 []) (N0 (tu0 []) (N0 (tu0 [(.str "glass" 360)]) (xl9 em0) (xl9 o407)) (N0 o215 (xl9 em0) nl0)) (N0 (pr0 "below" "below" (top 14)) (N0 o183 (xl9 (tu0 [])) nl0) (N0 (pr0 "slope" "slope" (top 39)) (xl9 (tu0 [(.str "_law_found" 673),(.str "_law_row" 674)])) nl0))))) (N0 (tu0 []) (N0 em0 (N0 (tu0 []) (N0 em0 (N0 (pr0 "lowest_table" "lowest_table" (top 17)) (xl9 (tu0 [(.str "steepness" 498)])) (xl9 (tu0 []))) (N0 (tu0 []) (xl9 o323) nl0)) (N0 o99 (N0 (tu0 []) (xl9 em0) nl0) (N0 (tu0 []) (xl9 em0) nl0))) (N0 o51 (N0 (tu0 []) (N0 o147 (xl9 (pr0 "_law_common" "_law_common" (top 44))) (xl9 (tu0 [(.str "_law_script" 712),(.str "_law_sorts" 713),(.str "_law_at" 714),(.str "_law_one" 715),(.str "_law_other" 716),(.str "_law_sort" 717),(.str "_law_near_here" 718),(.str "_law_tied_here" 719)]))) (N0 o211 (xl9 (pr0 "_law_steps" "_law_steps" (top 54))) nl0)) (N0 (tu0 []) (N0 em0 (xl9 (tu0 [])) nl0) (N0 (tu0 []) (xl9 o371) nl0)))) (N0 o27 (N0 (tu0 []) (N0 (tu0 [(.str "top" 268),(.str "bottom" 269),(.str "common" 270)]) (N0 (tu0 []) (xl9 (tu0 [])) (xl9 em0)) (N0 (tu0 []) (xl9 em0) nl0)) (N0 o107 (N0 o171 (xl9 (tu0 [(.str "_law_script" 566),(.str "_law_at" 567),(.str "_law_heights" 568),(.str "_law_most" 569),(.str "_law_bottom" 570),(.str "_law_rows_here" 571)])) nl0) (N0 o235 (xl9 (tu0 [(.str "_law_one" 657),(.str "_law_other" 658),(.str "_law_some" 659),(.str "_law_point" 660)])) nl0))) (N0 (tu0 []) (N0 (pr0 "check_shares" "check_shares" (top 10)) (N0 o155 (xl9 (tu0 [])) nl0) (N0 (tu0 [(.str "steps" 448)]) (xl9 o347) nl0)) (N0 em0 (N0 (pr0 "joined_column" "joined_column" (top 28)) (xl9 (pr0 "_law_is_share" "_law_is_share" (top 50))) nl0) (N0 em0 (xl9 o379) nl0)))))) (N0 (boot_o_5 P) (N0 (boot_o_9 P) (N0 (o17 P) (N0 o33 (N0 o65 (N0 (tu0 []) (xl9 (tu0 [])) (xl9 o385)) (N0 o193 (xl9 (tu0 [])) nl0)) (N0 (tu0 []) (N0 o161 (xl9 o289) nl0) (N0 em0 (xl9 o353) nl0))) (N0 o49 (N0 em0 (N0 em0 (xl9 (tu0 [(.str "_law_one" 522),(.str "_law_other" 523),(.str "_law_rest" 524)])) (xl9 (tu0 []))) (N0 (pr0 "parts_of" "parts_of" (top 32)) (xl9 (tu0 [])) nl0)) (N0 o113 (N0 o177 (xl9 em0) nl0) (N0 o241 (xl9 em0) nl0)))) (N0 o25 (N0 o41 (N0 (tu0 []) (N0 o137 (xl9 em0) (xl9 o393)) (N0 em0 (xl9 o329) nl0)) (N0 (pr0 "taken" "taken" (top 12)) (N0 em0 (xl9 (tu0 [])) nl0) (N0 (pr0 "line_at" "line_at" (top 37)) (xl9 (tu0 [])) nl0))) (N0 o57 (N0 (tu0 [(.str "one" 284),(.str "other" 285)]) (N0 (pr0 "stands" "stands" (top 21)) (xl9 o281) nl0) (N0 (tu0 []) (xl9 (tu0 [])) nl0)) (N0 o121 (N0 (tu0 []) (xl9 (tu0 [(.str "_law_found" 585),(.str "_law_one" 586),(.str "_law_other" 587),(.str "_law_rest" 588)])) nl0) (N0 o249 (xl9 (pr0 "_law_payoffs" "_law_payoffs" (top 60))) nl0))))) (N0 o13a (N0 o21 (N0 o37 (N0 (tu0 []) (N0 o133 (xl9 (pr0 "two_acts" "two_acts" (top 41))) (xl9 (tu0 [(.str "_law_glass_here" 693),(.str "_law_rows_here" 694),(.str "_law_row" 695)]))) (N0 (pr0 "joined_number" "joined_number" (top 30)) (xl9 (tu0 [])) nl0)) (N0 (tu0 []) (N0 (pr0 "column" "column" (top 23)) (xl9 (tu0 [])) nl0) (N0 o229 (xl9 (tu0 [])) nl0))) (N0 em0 (N0 o85 (N0 (tu0 []) (xl9 o277) (xl9 (pr0 "law" "law" (top 64)))) (N0 em0 (xl9 o341) nl0)) (N0 (tu0 [(.str "one" 316),(.str "other" 317)]) (N0 (tu0 [(.str "glass" 399)]) (xl9 o309) nl0) (N0 (tu0 [(.str "line" 478),(.str "run" 479),(.str "rise" 480)]) (xl9 (tu0 [])) nl0)))) (N0 o29 (N0 o45 (N0 (pr0 "reduced" "reduced" (top 8)) (N0 (pr0 "table_of_shares" "table_of_shares" (top 19)) (xl9 o269) (xl9 (tu0 []))) (N0 o205 (xl9 (tu0 [])) nl0)) (N0 em0 (N0 (tu0 []) (xl9 (pr0 "_law_glass" "_law_glass" (top 48))) nl0) (N0 em0 (xl9 (pr0 "_law_first" "_law_first" (top 58))) nl0))) (N0 (tu0 [(.str "one" 251),(.str "other" 252),(.str "rest" 253)]) (N0 o93 (N0 em0 (xl9 (tu0 [(.str "_law_bottom" 537),(.str "_law_cuts" 538),(.str "_law_row" 539),(.str "_law_last" 540),(.str "_law_cut_here" 541)])) nl0) (N0 (pr0 "steepest_first" "steepest_first" (top 35)) (xl9 (tu0 [])) nl0)) (N0 (tu0 []) (N0 o189 (xl9 o317) nl0) (N0 (tu0 []) (xl9 em0) nl0))))))) (N0 (boot_o_2 P) (N0 (boot_o_4 P) (N0 (boot_o_8 P) (N0 o16 (N0 em0 (N0 o64 (N0 o128 (xl9 o256) (xl9 (pr0 "_law_right" "_law_right" (top 61)))) (N0 (pr0 "joined_numbers" "joined_numbers" (top 29)) (xl9 (tu0 [(.str "_law_found" 595),(.str "_law_top" 596),(.str "_law_bottom" 597)])) nl0)) (N0 (tu0 [(.str "one" 292),(.str "other" 293)]) (N0 (pr0 "signs" "signs" (top 22)) (xl9 o288) nl0) (N0 (tu0 []) (xl9 o352) nl0))) (N0 (o48 P) (N0 (tu0 []) (N0 (tu0 []) (xl9 em0) (xl9 o400)) (N0 em0 (xl9 o336) nl0)) (N0 (pr0 "times" "times" (top 13)) (N0 o176 (xl9 (tu0 [])) nl0) (N0 (pr0 "height_on" "height_on" (top 38)) (xl9 (tu0 [])) nl0)))) (N0 o24 (N0 (tu0 [(.ref 24)]) (N0 o72 (N0 (pr0 "divided" "divided" (top 18)) (xl9 (tu0 [])) (xl9 o392)) (N0 (tu0 []) (xl9 o328) nl0)) (N0 (tu0 []) (N0 (tu0 []) (xl9 o296) nl0) (N0 em0 (xl9 o360) nl0))) (N0 (pr0 "is_whole" "is_whole" (top 5)) (N0 em0 (N0 (tu0 []) (xl9 (pr0 "_law_made" "_law_made" (top 45))) nl0) (N0 o216 (xl9 (tu0 [(.str "_law_glass_here" 624),(.str "_law_x" 625),(.str "_law_y" 626),(.str "_law_found" 627),(.str "_law_step" 628)])) nl0)) (N0 o120 (N0 o184 (xl9 em0) nl0) (N0 o248 (xl9 (tu0 [])) nl0))))) (N0 o12 (N0 o20 (N0 (o36 P) (N0 (tu0 [(.str "top" 260),(.str "bottom" 261)]) (N0 o132 (xl9 (tu0 [])) (xl9 em0)) (N0 em0 (xl9 o324) nl0)) (N0 o100 (N0 em0 (xl9 (tu0 [(.str "_law_script" 548),(.str "_law_at" 549),(.str "_law_heights" 550),(.str "_law_most" 551),(.str "_law_sizes" 552),(.str "_law_head" 553),(.str "_law_many" 554),(.str "_law_bottom" 555),(.str "_law_cuts" 556),(.str "_law_rows_here" 557),(.str "_law_k" 558),(.str "_law_at_row" 559)])) nl0) (N0 (pr0 "is_steeper" "is_steeper" (top 36)) (xl9 (tu0 [(.str "_law_some" 641),(.str "_law_whole_here" 642),(.str "_law_point" 643),(.str "_law_bottom" 644),(.str "_law_i" 645),(.str "_law_j" 646),(.str "_law_wide" 647),(.str "_law_far" 648),(.str "_law_high" 649),(.str "_law_under" 650)])) nl0))) (N0 (tu0 []) (N0 (pr0 "is_share" "is_share" (top 9)) (N0 o148 (xl9 o276) (xl9 (tu0 []))) (N0 (tu0 []) (xl9 o340) nl0)) (N0 em0 (N0 (tu0 [(.str "glass" 394),(.str "groups" 395),(.str "sign" 396),(.str "numbers" 397),(.str "alone" 398)]) (xl9 (pr0 "_law_whole" "_law_whole" (top 49))) nl0) (N0 em0 (xl9 o372) nl0)))) (N0 (tu0 [(.ref 24)]) (N0 em0 (N0 (tu0 []) (N0 em0 (xl9 (pr0 "_law_drawn" "_law_drawn" (top 43))) (xl9 (tu0 [(.str "_law_one" 702),(.str "_law_other" 703),(.str "_law_caught" 704),(.str "error" 705)]))) (N0 (pr0 "place_of" "place_of" (top 31)) (xl9 (tu0 [(.str "_law_one" 610),(.str "_law_other" 611)])) nl0)) (N0 (tu0 []) (N0 o172 (xl9 (tu0 [])) nl0) (N0 (tu0 []) (xl9 (tu0 [])) nl0))) (N0 em0 (N0 o92 (N0 (tu0 []) (xl9 em0) nl0) (N0 (tu0 [(.str "steps" 449)]) (xl9 o348) nl0)) (N0 (tu0 [(.str "rows" 326),(.str "common" 327),(.str "row" 328),(.str "number" 329)]) (N0 o188 (xl9 o316) nl0) (N0 (tu0 [(.str "one" 487),(.str "other" 488),(.str "corners" 489),(.str "corner" 490),(.str "line" 491)]) (xl9 (tu0 [])) nl0)))))) (N0 (boot_o_6 P) (N0 (boot_o_10 P) (N0 (tu0 []) (N0 o34 (N0 (tu0 []) (N0 em0 (xl9 em0) (xl9 o386)) (N0 o194 (xl9 (pr0 "_law_stands_for" "_law_stands_for" (top 51))) nl0)) (N0 (pr0 "added" "added" (top 11)) (N0 o162 (xl9 (tu0 [])) nl0) (N0 (tu0 [(.str "one" 456),(.str "other" 457)]) (xl9 (tu0 [])) nl0))) (N0 o50 (N0 (tu0 [(.str "thing" 277)]) (N0 (pr0 "over_bottom" "over_bottom" (top 20)) (xl9 (tu0 [])) (xl9 em0)) (N0 o210 (xl9 em0) nl0)) (N0 o114 (N0 (tu0 []) (xl9 (tu0 [(.str "_law_found" 578)])) nl0) (N0 o242 (xl9 (pr0 "_law_best" "_law_best" (top 59))) nl0)))) (N0 o26 (N0 (o42 P) (N0 em0 (N0 o138 (xl9 (tu0 [(.str "_law_script" 507),(.str "_law_at" 508),(.str "_law_sizes" 509),(.str "_law_cell" 510),(.str "_law_found" 511),(.str "_law_top" 512),(.str "_law_first_here" 513),(.str "_law_k" 514),(.str "_law_second" 515)])) (xl9 (tu0 []))) (N0 (tu0 [(.str "sign" 424),(.str "groups" 425),(.str "place" 426),(.str "group" 427)]) (xl9 (tu0 [])) nl0)) (N0 o106 (N0 (pr0 "one_sign" "one_sign" (top 24)) (xl9 em0) nl0) (N0 o234 (xl9 em0) nl0))) (N0 o58 (N0 (tu0 []) (N0 o154 (xl9 o282) nl0) (N0 em0 (xl9 (pr0 "_law_corners" "_law_corners" (top 55))) nl0)) (N0 (tu0 []) (N0 em0 (xl9 (tu0 [])) nl0) (N0 (tu0 []) (xl9 o378) nl0))))) (N0 o14a (N0 (tu0 []) (N0 o38 (N0 (pr0 "share" "share" (top 7)) (N0 (tu0 []) (xl9 o262) (xl9 (tu0 []))) (N0 o198 (xl9 em0) nl0)) (N0 em0 (N0 o166 (xl9 (pr0 "_law_rows" "_law_rows" (top 47))) nl0) (N0 o230 (xl9 (pr0 "_law_above" "_law_above" (top 57))) nl0))) (N0 (tu0 [(.str "thing" 244)]) (N0 o86 (N0 em0 (xl9 (tu0 [])) (xl9 o406)) (N0 (pr0 "curve" "curve" (top 34)) (xl9 (tu0 [])) nl0)) (N0 (tu0 []) (N0 (pr0 "sorted_groups" "sorted_groups" (top 27)) (xl9 o310) nl0) (N0 (tu0 []) (xl9 em0) nl0)))) (N0 (o30 P) (N0 o46 (N0 o78 (N0 o142 (xl9 o270) (xl9 (pr0 "_law_is_no_fit" "_law_is_no_fit" (top 63)))) (N0 o206 (xl9 (pr0 "_law_steeper" "_law_steeper" (top 53))) nl0)) (N0 (tu0 [(.str "one" 308),(.str "other" 309)]) (N0 em0 (xl9 o302) nl0) (N0 (tu0 [(.str "line" 470),(.str "x" 471)]) (xl9 o366) nl0))) (N0 (tu0 []) (N0 (tu0 []) (N0 (tu0 [(.str "glass" 367)]) (xl9 (tu0 [])) nl0) (N0 o222 (xl9 em0) nl0)) (N0 (pr0 "common_divisor" "common_divisor" (top 16)) (N0 (tu0 []) (xl9 (tu0 [])) nl0) (N0 (pr0 "held" "held" (top 40)) (xl9 (tu0 [(.str "_law_one" 681),(.str "_law_other" 682),(.str "_law_due" 683),(.str "_law_found" 684),(.str "_law_corner" 685),(.str "_law_payoffs_here" 686)])) nl0))))))))
lay_quick My.cE0 My.env0 My.ls0
def zaqa (w:World):(fun os=>topGo Qfu Qi w 11 (some (.ref 6)) 12 (Qjf (boot_heap w.params) (Qaf []) boot_drawn boot_toks os) (topStub Qi))=fun os=>some ((Qby (tA0 w.params) 15 lf0 (Qaf []) boot_drawn 187 os).abs,Thread.mk (denote Qfu cE0) cE0 ⟨0,0,0,0⟩ [topFrame ⟨0,0,0,0⟩]):=by
 rewrite [PySem.W.Fast.te15667345088766844465,Y0,PySem.W.Fast.te14204337333197835536,PySem.W.Fast.te11892475500146522536,PySem.W.Fast.te2665708160071446767]
 kernel_rfl
def zaig (w:World):(fun os=>segRun Qfu Qi w 11 (some (.ref 6)) 1 1 (Qby (tA0 w.params) 15 lf0 (Qaf []) boot_drawn 187 os).abs (blockOf (behindTheImports Qi) env0 cE0 ⟨0,0,0,0⟩ [topFrame ⟨0,0,0,0⟩]))=fun os=>some (.next,(Qby (tA0 w.params) 15 lf0 (Qaf []) boot_drawn 187 os).abs,cE0,⟨0,0,0,0⟩):=by
 rewrite [PySem.W.Fast.te14374325043358763698,Y0,PySem.W.Fast.te14204337333197835536,PySem.W.Fast.te2665708160071446767,PySem.W.Fast.te13849342267361746138]
 kernel_rfl
def zapx (w:World):(fun os=>segRunT Qfu Qi w 11 (some (.ref 6)) 1 2337 (Qby (tA0 w.params) 15 lf0 (Qaf []) boot_drawn 187 os) (piecesOf (behindTheImports Qi) env0 cE0 ⟨0,0,0,0⟩ [topFrame ⟨0,0,0,0⟩]))=fun os=>some (.next,(Qby (tE0 w.params) 408 lf0 (Qaf []) boot_drawn 723 os),cE0,⟨316,0,337,15⟩):=by
 rewrite [PySem.W.Fast.te10110043849684766642,Y0,PySem.W.Fast.te14204337333197835536,PySem.W.Fast.te2665708160071446767,PySem.W.Fast.te13849342267361746138]
 kernel_rfl
def zaqc (w:World):(fun os=>topRun Qfu Qi w 11 (some (.ref 6)) 2 (Qby (tE0 w.params) 408 lf0 (Qaf []) boot_drawn 723 os).abs ⟨doneF .next,cE0,⟨316,0,337,15⟩,[topFrame ⟨0,0,0,0⟩]⟩)=fun os=>some (Qby (tE0 w.params) 408 lf0 (Qaf []) boot_drawn 723 os).abs:=by
 rewrite [PySem.W.Fast.te14082659384304107361,Y0,PySem.W.Fast.te14204337333197835536,PySem.W.Fast.te2665708160071446767]
 kernel_rfl
def zapu (w:World) (os:OsState):topRun Qfu Qi w 11 (some (.ref 6)) (12+(1+(2337+2))) (Qjf (boot_heap w.params) (Qaf []) boot_drawn boot_toks os) (topStub Qi)=some (Qby (tE0 w.params) 408 lf0 (Qaf []) boot_drawn 723 os).abs :=
 go_top (congrFun (zaqa w) os) (piece_block (congrFun (zaig w) os) (by
  have q:=piece_app (rest:=[]) (segRun_of (congrFun (zapx w) os)) (piece_nil (congrFun (zaqc w) os))
  rwa [Y3] at q))
def zanw:opening Qi=plainProg Qi.main.scope.names:=by kernel_rfl
def zahf (s:Qk):fenceModules? Qi s=some s:=by kernel_rfl
def zamb (w:World):((boot_heap w.params).isNs Zh&&(Qaf []:Array Qit).size==0,(boot_heap w.params).objs.size,(boot_heap w.params).nsMap Zh "__annotations__")=(true,11,(some (.ref 6))):=by kernel_rfl
def zapg (w:World):(fun os=>(staticsOk (importedModules Qi.main.body) (boot_heap w.params) (absHeap (tE0 w.params) 408 lf0)&&namesBound Qi (absHeap (tE0 w.params) 408 lf0)&&gensDone (Qjf (absHeap (tE0 w.params) 408 lf0) (Qaf []) boot_drawn 723 os)&&laidKept (boot_heap w.params) (absHeap (tE0 w.params) 408 lf0)))=fun _=>true:=by
 rewrite [Qbc,PySem.W.Fast.te14204337333197835536]
 kernel_rfl
def zaos (w:World):(fun os=>openSeen (view Qi [64]) ls0 (importedModules Qi.main.body) (fun _=>true) true (Qjf (absHeap (tE0 w.params) 408 lf0) (Qaf []) boot_drawn 723 os))=fun _=>openGood (view Qi [64]) ls0:=by
 rewrite [PySem.W.Fast.te4187177175401517315,Qbc,PySem.W.Fast.te14204337333197835536,PySem.W.Fast.te4294247251607483543]
 kernel_rfl
def K0 (P:Qct):Frag:=(nat_lit 2,(boot_o_2 P))::(nat_lit 3,(o3 P))::(nat_lit 23,(o23 P))::(nat_lit 24,o24)::(nat_lit 25,o25)::(nat_lit 36,(o36 P))::(nat_lit 37,o37)::(nat_lit 48,(o48 P))::(nat_lit 49,o49)::(nat_lit 57,o57)::(nat_lit 58,o58)::(nat_lit 64,o64)::(nat_lit 65,o65)::(nat_lit 71,o71)::(nat_lit 72,o72)::(nat_lit 78,o78)::(nat_lit 79,o79)::(nat_lit 85,o85)::(nat_lit 86,o86)::(nat_lit 92,o92)::(nat_lit 93,o93)::(nat_lit 99,o99)::(nat_lit 100,o100)::(nat_lit 106,o106)::(nat_lit 107,o107)::(nat_lit 113,o113)::(nat_lit 114,o114)::(nat_lit 120,o120)::(nat_lit 121,o121)::(nat_lit 127,o127)::(nat_lit 128,o128)::(nat_lit 132,o132)::(nat_lit 133,o133)::(nat_lit 137,o137)::(nat_lit 138,o138)::(nat_lit 142,o142)::(nat_lit 143,o143)::(nat_lit 147,o147)::(nat_lit 148,o148)::(nat_lit 154,o154)::(nat_lit 155,o155)::(nat_lit 161,o161)::(nat_lit 162,o162)::(nat_lit 166,o166)::(nat_lit 167,o167)::(nat_lit 171,o171)::(nat_lit 172,o172)::(nat_lit 176,o176)::(nat_lit 177,o177)::(nat_lit 183,o183)::(nat_lit 184,o184)::(nat_lit 188,o188)::(nat_lit 189,o189)::(nat_lit 193,o193)::(nat_lit 194,o194)::(nat_lit 198,o198)::(nat_lit 199,o199)::(nat_lit 205,o205)::(nat_lit 206,o206)::(nat_lit 210,o210)::(nat_lit 211,o211)::(nat_lit 215,o215)::(nat_lit 216,o216)::(nat_lit 222,o222)::(nat_lit 223,o223)::(nat_lit 229,o229)::(nat_lit 230,o230)::(nat_lit 234,o234)::(nat_lit 235,o235)::(nat_lit 241,o241)::(nat_lit 242,o242)::(nat_lit 248,o248)::(nat_lit 249,o249)::(nat_lit 255,o255)::(nat_lit 256,o256)::(nat_lit 262,o262)::(nat_lit 263,o263)::(nat_lit 269,o269)::(nat_lit 270,o270)::(nat_lit 276,o276)::(nat_lit 277,o277)::(nat_lit 281,o281)::(nat_lit 282,o282)::(nat_lit 288,o288)::(nat_lit 289,o289)::(nat_lit 295,o295)::(nat_lit 296,o296)::(nat_lit 302,o302)::(nat_lit 303,o303)::(nat_lit 309,o309)::(nat_lit 310,o310)::(nat_lit 316,o316)::(nat_lit 317,o317)::(nat_lit 323,o323)::(nat_lit 324,o324)::(nat_lit 328,o328)::(nat_lit 329,o329)::(nat_lit 335,o335)::(nat_lit 336,o336)::(nat_lit 340,o340)::(nat_lit 341,o341)::(nat_lit 347,o347)::(nat_lit 348,o348)::(nat_lit 352,o352)::(nat_lit 353,o353)::(nat_lit 359,o359)::(nat_lit 360,o360)::(nat_lit 366,o366)::(nat_lit 367,o367)::(nat_lit 371,o371)::(nat_lit 372,o372)::(nat_lit 378,o378)::(nat_lit 379,o379)::(nat_lit 385,o385)::(nat_lit 386,o386)::(nat_lit 392,o392)::(nat_lit 393,o393)::(nat_lit 399,o399)::(nat_lit 400,o400)::(nat_lit 406,o406)::(nat_lit 407,o407)::(nat_lit 4,(boot_o_4 P))::[]
def K1 (P:Qct):Frag:=(nat_lit 179,em0)::(nat_lit 218,em0)::K0 P
def as0:List Addr:=[179,218,2,3,23,24,25,36,37,48,49,57,58,64,65,71,72,78,79,85,86,92,93,99,100,106,107,113,114,120,121,127,128,132,133,137,138,142,143,147,148,154,155,161,162,166,167,171,172,176,177,183,184,188,189,193,194,198,199,205,206,210,211,215,216,222,223,229,230,234,235,241,242,248,249,255,256,262,263,269,270,276,277,281,282,288,289,295,296,302,303,309,310,316,317,323,324,328,329,335,336,340,341,347,348,352,353,359,360,366,367,371,372,378,379,385,386,392,393,399,400,406,407,4]
def zaij (w:World):(fun (os:OsState)=>as0.map (absHeap (tE0 w.params) 408 lf0).get?)=fun _=>(K1 w.params).map fun p=>some p.2:=by kernel_rfl
def left0:LeftO Qi (view Qi [64]) ls0 (fun _=>true) (fun s=>as0.map s.heap.get?) (fun w=>(K1 w.params).map fun p=>some p.2) 100000 :=
 LeftO.of_pieces (H₀:=boot_heap) (H₁:=fun P=>absHeap (tE0 P) 408 lf0) (gs₁:=Qaf []) (d₁:=boot_drawn) (k₁:=723) (boot_open zanw rfl zahf) zamb zapu rfl fun w=>by
  funext os
  exact congr (congrArg Prod.mk (congrFun (zapg w) os)) (congr (congrArg Prod.mk (congrFun (zaos w) os)) (congrFun (zaij w) os))
end
end My
open PySem PySem.W PyProof.Rows
set_option maxRecDepth 100000 in
set_option maxHeartbeats 0 in
theorem PySem.Challenge.cw_dullglass_k45_two_acts_holds : PySem.Challenge.rw_dullglass_k45_two_acts.Holds := by
 w_on;o_law
 refine holds_open (q:=view Qi [64]) (XP:=fun _ _=>True) (YP:=InK My.K1) My.left0 (InK.of fun _=>by kernel_rfl) InK.keeps (fun _ _=>Qbu) (fun _ _ _ _ _=>Qbu) (by rfl) (by rfl) (by rfl) (fun s _=>recFacts_nil rfl) (by rfl) (by assumption) (by decide +kernel) ⟨rfl,rfl,rfl,rfl,rfl,by decide +kernel⟩ ?hw ?hc
 case hw=>w_witness2
 k_fill
 refine My.walk (l:=Jz) (K:=My.K0) (tbs:=[179,218]) rfl rfl (fun w h Y=>L2.tabs_in (ts:=[(179,183),(218,222)]) (by rfl) (by rfl) Y) (fun _=>L2.none_all (ts:=[(179,183),(218,222)]) (by rfl)) ?F
 case F =>
  k_fill
  intro w mg fa h KX G hmg;refine' My.all_mk (c_tb:=179) (c_tb1:=218) KX G hmg ..
  iterate 3 all_goals try first|k_is|k_exc|rfl|(refine' My.DK.mk ?a (My.LK.mk ?l ?c ?k); (case a=>k_is); (case l=>k_is); (case c=>k_is); (case k=>k_is))|(refine' My.LK.mk ?l ?c ?k; (case l=>k_is); (case c=>k_is); (case k=>k_is))
