import PyProof.Rows.All
import Wide.All
import OpenK.AllK
import Wide.FinOn
import Lean
import PyProof.EqAt
import PyProof.EqKinds
import PyProof.TupleCall
import PySem.Challenge.RW_dullglass_k49_whole_what_a_shelf_is_wort
set_option Elab.async false
set_option linter.all false
set_option maxRecDepth 100000
set_option maxHeartbeats 4000000
set_option genSizeOf false
set_option genInjectivity false
open List renaming getElem?_map->Qa,getElem?_eq_getElem->Qc,length_map->Qe,mem_of_getElem?->Qg,getElem?_eq_some_iff->Qk,range->Qm,getElem?_range->Qn,exists_cons_of_ne_nil->Qq,mem_map->Qr,size_toArray->Qu,mem_cons_of_mem->Qy,mem_cons->Q1,mem_singleton->Q3,Nodup->Q4,map_append->Q6,mem_append_right->Q7,getElem?_eq_none->Q8,replicate->Zb,getElem?_append_left->Zc,mem_append->Ze,take_of_length_le->Zf,mem_range->Zg,getElem_mem->Zi,length_append->Zj,getElem?_append_right->Zm,length_cons->Zp,take_length->Z0,length_take->Z3,all_eq_true->Z4,mem_append_left->Ya,take_add_one->Yb,length_range->Yc,map_cons->Yh,mem_filter->Yi,length_set->Yp,replicate_succ->Yq,lookup_cons->Yt,not_mem_nil->Yu,append_nil->Yy,flatten_cons->Y3,getElem?_cons_succ->Y8,sum_cons->Y9,map_map->Vf,length_replicate->Vj,mem_of_mem_take->Vo,getElem?_of_mem->Vp,getElem?_replicate->Vr,length_drop->V5,getElem?_zipWith->Ja,length_filter_le->Jb,mem_of_mem_drop->Je,getElem?_take_of_lt->Jh,ext_getElem?->Jj,filterMap_cons->Jr,map_take->Jv,filter_cons_of_neg->Jw,eq_nil_of_length_eq_zero->J2,drop_of_length_le->J6,getElem?_set->Qab,mem_iff_getElem->Qaj,mem_flatten->Qap,map_congr_left->Qav,eq_of_mem_replicate->Qbc,mem_cons_self->Qbg,contains_cons->Qbj,filter_append->Qbm,filter_cons_of_pos->Qbn,lookup->Qbu,zipWith->Qch,getElem?_set_ne->Qcl,map_drop->Qcs,nodup_cons->Qdb,getElem_of_mem->Qdc,sum_append->Qdd,mem_filterMap->Qdk,getElem?_drop->Qdm,getElem?_zip_eq_some->Qdr,any_cons->Qei,length_eq_zero_iff->Qej,any_eq_true->Qep,getElem?_set_self->Qeu,of_mem_zip->Qfc,map_nil->Qfd,getElem?_mapIdx->Qfy,length_take_le'->Qfz,forIn_nil->Qgb,range_add->Qgc,toList_toArray->Qgi,length_pos_iff->Qgk,take_succ_cons->Qgm,set_cons_succ->Qgu,append_assoc->Qhi,filter_congr->Qhm,map_set->Qhy,cons_append->Qig,zipIdx_cons->Qih,length->Qis,nil_append->Qit,zipIdx_nil->Qiw,forIn_cons->Qix,length_nil->Qje,foldl->Qjs,all_cons->Qjx,map->Qkc
open PySem.W renaming Frag->Qd,findIn->Za,mg_none_of->Zo,nsIn->Zy,kitOne->Z2,excIn->Yv,emptyDict->Y2,keepIn->Y5,mg_of->Vt,fnOf->Vv,instObj->Vy,kia_one->V1,isFn->Jp,looks_findIn->Qah,plainGet->Qan,hideAll_get->Qas,callWith_K->Qbh,cellsFrom_some->Qbq,hasDictIn->Qbt,codeIn->Qcd,plainGet_of->Qcy,makesIn->Qcz,lookIn->Qdq,methodObj->Qdx,plainOver->Qdy,takerIn->Qfa,methodCall_KW->Qfb,OpenLaw->Qff,of_hideAll->Qgq,handedIn->Qic,hideAll->Qiq,WalkO->Qjy
open PySem.Challenge renaming pw_dullglass_k49_whole_what_a_shelf_is_wort->Qf,rw_dullglass_k49_whole_what_a_shelf_is_wort->Vi
open PySem renaming PyData->Qh,wpAny_bind->Qi,Shared->Ql,starEach->Qp,sizeLine->Qz,wpAny_pure->Q9,mainGlobals->Zk,bootBuiltins->Zq,Program->Zr,foldedSetIterable->Zu,compareOp->Z6,Around->Ye,wpAny_setField_rec->Yf,wpAny_truthy_bool->Yl,wpAny_field->Ys,wpAny_mono->Yw,backTo->Vc,wpAny_callSpecial?_slot->Vd,swapsWith->Vm,FuncData->Vn,cellsFrom->Vq,attributeBase->Vu,wpAny_loadPart_at->Vx,mem_of_lookup->V0,binaryOp->V2,wpAny_pyIter_tuple->Jc,wpAny_seqItems->Jd,intBits_le_of_natAbs->Jf,assignEach->Jn,wpAny_passesOwn->Jo,keywordEach->Jx,wpAny_call_entry->J3,wpAny_Call_Name_kw->J8,letOwnedTupleGo->Qaa,behindInMarks->Qae,wpAny_pyIter_list->Qaf,notedBy->Qak,IsPair->Qam,NameKind->Qar,excClassObj->Qaw,wpAny_isSubtype_exc->Qax,Keyword->Qbo,wpAny_standAt->Qbp,Params->Qbs,call_meets->Qbz,sliceBounds->Qca,wpAny_newObj_type->Qcb,wpAny_pyIter_enum->Qcc,intBits_mul_le->Qce,holding->Qck,assign->Qcm,wpAny_updateSeq_pair->Qco,backToKw->Qct,swappedStores->Qcu,swapsWithSole->Qcv,wpAny_execs_nil->Qdh,wpAny_letOwnedTupleGo_enum->Qdj,codeAny_mono->Qdp,codeAny->Qdw,codeAmong->Qed,pushCells->Qef,wpAny_assign_Name->Qeg,comprehension->Qem,wpAny_attempt->Qen,wpAny_onRaise->Qeo,pyNext->Qet,exec_Assign_Name_used->Qfl,pushCells_keeps->Qfm,standAt->Qfn,treeTable->Qfo,wpAny_loadPart'->Qfp,wpAny_rule->Qfq,codeAny_call_builtin->Qga,IsEnum->Qgd,rawInt->Qge,wpAny_letGo->Qgn,PassesOwn->Qhb,TriplesOk->Qhc,assignInOrder->Qhd,getMethod->Qhe,wpAny_holding->Qhf,list_append->Qhj,builtinsNs->Qho,callerA->Qhp,Within->Qhq,concat_meets->Qhz,isTrue->Qia,seqIndex_neg->Qib,GenState->Qim,ZipApart->Qin,bindName->Qio,Str->Qip,BindsTo->Qjh,IsEnumOut->Qji,OwnTail->Qjj,lastMarks->Qjk,relabel->Qjl,seqIndex_of->Qjm,sizeLine_eq->Qjn,Spec->Qjp,call->Qjt
open PySem.Heap renaming get?_push_of_some->Qj,lt_size->Qt,get?_push_size->Q2,size_push->Z5,SameBut->Yo,get?_update_other->Qbr,get?_update_self->Qfe,ExtBut->Qiv
open PySem.Str renaming ofString->Qo
open Nat renaming le_refl->Qs,ne_of_lt->Q5,lt_of_lt_of_le->Zs,le_trans->Z7,ne_of_gt->Z8,le_of_lt->Yg,mul_le_mul->Yk,lt_trans->Yx,zero_le->Y7,eq_zero_or_pos->Va,min_eq_left->Vk,lt_irrefl->V6,gcd->J5,mul_le_mul_right->Qai,lt_succ_self->Qao,min_eq_right->Qaq,mul_comm->Qaz,lt_succ_of_lt->Qbw,succ_mul->Qcf,le_add_right->Qcj,le_of_dvd->Qcr,not_lt->Qcx,le_succ->Qda,lt_of_le_of_lt->Qdl,eq_of_mul_eq_mul_left->Qdt,div_eq_of_lt->Qeq,add_sub_add_right->Qfh,not_succ_le_self->Qft,add_mul_div_left->Qfx,gcd_zero_right->Qgx,lt_or_gt_of_ne->Qgy,gcd_comm->Qhu,zero_add->Qhv,min_self->Qhx,succ_ne_self->Qif,one_mul->Qjb,not_lt_zero->Qjf,dvd_trans->Qjz
open PySem.PyData renaming int->Qw,eqv->Vw,canLayAll0->Ji,canLay0->J4,list->Qbx,tuple->Qdn,depthAll->Qfj,depth->Qfk,bool->Qkk
open Option.some renaming inj->Qx
open False renaming elim->Zd
open PySem.Builtin.SmallTypes renaming ownedTupleIsFree->Zh,nextOf->Zv,ownedTupleHandOut->Zx
open Int renaming eq_ofNat_of_zero_le->Zl,toNat_natCast->Zt,mul_comm->Z9,mul_nonneg->Yd,eq_of_mul_eq_mul_left->Yj,gcd->Ym,mul_pos->Yr,le_refl->Vb,zero_add->Vg,mul_le_mul_of_nonneg_right->Vl,natAbs_dvd_natAbs->V8,zero_mul->V9,mul_ediv_cancel_left->Jl,le_of_lt->Jq,mul_assoc->Jt,natCast_dvd_natCast->Ju,mul_le_mul_of_nonneg_left->Jz,emod_lt_of_pos->J7,dvd_trans->Qac,eq_of_mul_eq_mul_right->Qag,le_of_mul_le_mul_left->Qal,toNat_of_nonneg->Qau,lt_or_le->Qba,mul_zero->Qbb,mul_nonneg_of_nonpos_of_nonpos->Qbd,mul_nonpos_of_nonneg_of_nonpos->Qbe,emod_nonneg->Qbk,natCast_mul->Qbl,gcd_pos_of_ne_zero_right->Qcq,mul_lt_mul_of_pos_right->Qdg,natAbs_mul->Qdu,natCast_ediv->Qer,ediv_le_self->Qes,mul_dvd_mul->Qfi,mul_ediv_cancel'->Qfw,ediv_mul_cancel->Qgl,ofNat_dvd_left->Qgz,gcd_dvd_right->Qhl,dvd_refl->Qhw,natCast_emod->Qij,gcd_dvd_left->Qik,gcd_mul_left->Qil,mul_one->Qir,ediv_nonneg->Qiz,mul_neg->Qjc,mul_add->Qjd,le_of_dvd->Qka,toNat->Qkg
open Bool renaming false_ne_true->Zn,and_eq_true_iff->Ve,and_eq_true->Jy,eq_iff_iff->Qbi,or_eq_false_iff->Qfv,or_eq_true->Qja,and_false->Qjo
open Classical renaming propDecidable->Zw
open Or renaming inr->Zz,inl->Yn
open Ne renaming symm->Z1
open PySem.W.Fast renaming te14364793385576792824->Yz,te5923862056798008813->Qbf
open PySem.Value renaming ref->Y1,none->Qay,builtin->Qek,int->Qey,bool->Qjq,type->Qjr,str->Qkd,bytes->Qkh,float->Qki
open PySem.Builtin.List renaming listTooLong->Y4
open PyProof.Rows renaming callWith_type1->Y6,envOfC->Qcn,assignInOrder_cons->Qdo,AllBare->Qdv,kindOf->Qee,subscriptTail_builtinR->Qex,IntsAre->Qhn
open PySem.IntMulOk renaming of_left->Vh,of_right->Jm
open PySem.F renaming plainAttrs_list->Vs,excBase_ValueError->V3,slot_tuple_iterator_next->V4,slot_enumerate_next->J9,typeOf_object_class->Qcg,args_tuple_iterator_next_1->Qcp,entry_tuple_iterator_next->Qde,slot_zip_next->Qdf,args_tuple_add_2->Qdz,slot_list_append->Qea,slot_list_extend->Qeb,type_list_extend->Qec,entry_tuple_add->Qeh,args_enumerate_next_1->Qel,slot_tuple_add->Qev,entry_enumerate_next->Qew,args_list_extend_2->Qfs,excAttr_ValueError->Qfu,entry_list_extend->Qgh,slot_list_extend->Qgs,slot_gs_get->Qgv,args_zip_next_1->Qhk,entry_zip_next->Qii,slot_int_rmul->Qiu
open Array renaming length_toList->Vz,mk->Qad,toList_append->Qgf,toList->Qke
open PySem.SeqAt renaming shaped->V7
open Option renaming isSome_iff_exists->Jg,getD_some->Qci,isNone_iff_eq_none->Qds,toList_some->Qha,getD_none->Qid,none->Qkj,map->Qkq
open PySem.AutoSeq1 renaming wpAny_loadPart'->Jk
open PySem.NameKind renaming cell->Js,free->Qgt
open PySem.Builtin.Int renaming intBits->Qat
open True renaming intro->Qbv
open PySem.W.SharedT renaming mk->Qby
open PySem.Obj renaming mapSeq->Qcw,data_mapFields->Qgw
open PySem.Calls renaming Name_function_global->Qdi,evalArgs_plain->Qfr
open PySem.Data renaming cell->Qez,fields->Qgg,seq->Qkn
open PySem.PassesOwn renaming never->Qfg
open PySem.Heap.SameBut renaming update->Qgj
open PySem.SeqAt.EqAt renaming int_str->Qgo,str_int->Qgp,int_int->Qgr
open Sum renaming inl->Qhg,inr->Qhh
open PySem.Around renaming under->Qhr
open PySem.Code renaming isFrame->Qhs
open Nat.succ renaming inj->Qht
open PySem.IsL renaming update->Qie
open PySem.Shared renaming heap->Qiy,mk->Qjg
open PySem.Walks renaming list->Qju
open PySem.Paired renaming length->Qjv
open PySem.Builtin.Range renaming rangeSize->Qjw
open Prod.mk renaming injEq->Qkb
open PyProof.Rows.IsTup renaming new->Qkf
open PySem.W.Looks renaming here->Qkl,ld->Qkr
open PySem.Heap.IsSliceOf renaming new->Qkm
open PySem.W.WShape renaming has->Qko
open List.Pairwise renaming nil->Qkp
abbrev Nd0 (x:Qip):Prop:=(x==("__debug__":Qip))=false
abbrev Nd1 (x:Qip):Prop:=(x==("__classdict__":Qip))=false
namespace L2
open PySem PySem.Spec PyProof.Rows
section
abbrev Key:=Sum Int Str
def zamr:Key->Value->Bool
 | .inl k,v=>Value.isInt k v
 | .inr x,v=>Value.isStrOf x v
def keyH (w:World):Key->Int
 | .inl k=>hashInt k
 | .inr x=>hashStr w x
def qap : ∀ {k:Key}{v:Value},zamr k v=true->(∃ i t,k=Qhg i/\v=Qey i t)\/(∃ x t,k=Qhh x/\v=Qkd x t)
 | .inl i,v,h=>by
  obtain ⟨t,e⟩:=Value.isInt_shape (k:=i) (v:=v) h;exact .inl ⟨i,t,rfl,e⟩
 | .inr x,v,h=>by
  obtain ⟨t,e⟩:=Value.isStrOf_shape (x:=x) (v:=v) h;exact .inr ⟨x,t,rfl,e⟩
def zaoe (a b:Int):decide ((Qhg a:Key)=Qhg b)=(a==b):=by
 by_cases e:a=b
 ·subst e;simp
 ·have h : ¬ (Qhg a:Key)=Qhg b:=fun q=>e (Qhg.inj q);rw [decide_eq_false h];exact (beq_eq_false_iff_ne.mpr e).symm
def zaog (a b:Str):decide ((Qhh a:Key)=Qhh b)=decide (a=b):=by
 by_cases e:a=b
 ·subst e;simp
 ·have h : ¬ (Qhh a:Key)=Qhh b:=fun q=>e (Qhh.inj q);rw [decide_eq_false h,decide_eq_false e]
def zand (a:Int) (b:Str):decide ((Qhg a:Key)=Qhh b)=false:=decide_eq_false (fun q=>nomatch q)
def zapd (a:Str) (b:Int):decide ((Qhh a:Key)=Qhg b)=false:=decide_eq_false (fun q=>nomatch q)
def qud (prog:Zr) (w:World):PySem.KeyKind prog w Key where
 is:=zamr
 hash:=keyH w
 inj:=fun v a b ha hb=>by
  rcases qap ha with ⟨i,t,rfl,rfl⟩|⟨x,t,rfl,rfl⟩
  ·rcases qap hb with ⟨j,u,rfl,e⟩|⟨y,u,rfl,e⟩
   ·injection e with e1 _;rw [e1]
   ·exact nomatch e
  ·rcases qap hb with ⟨j,u,rfl,e⟩|⟨y,u,rfl,e⟩
   ·exact nomatch e
   ·injection e with e1 _;rw [e1]
 byValue:=fun k v h=>by
  rcases qap h with ⟨i,t,rfl,rfl⟩|⟨x,t,rfl,rfl⟩ <;> rfl
 pyHash:=fun hv h=>by
  rcases qap hv with ⟨i,t,rfl,rfl⟩|⟨x,t,rfl,rfl⟩
  ·exact wpAny_pyHash_int h
  ·exact wpAny_pyHash_str h
 eqBool:=fun hu hv h=>by
  rcases qap hu with ⟨i,t,rfl,rfl⟩|⟨x,t,rfl,rfl⟩
  ·rcases qap hv with ⟨j,u,rfl,rfl⟩|⟨y,u,rfl,rfl⟩
   ·rw [zaoe] at h;exact wpAny_eqBool_int h
   ·rw [zand] at h;exact Qgo i t y u _ _ _ _ h
  ·rcases qap hv with ⟨j,u,rfl,rfl⟩|⟨y,u,rfl,rfl⟩
   ·rw [zapd] at h;exact Qgp x t j u _ _ _ _ h
   ·rw [zaog] at h;exact wpAny_eqBool_str h
 «strs»:=fun k x t v h=>by
  rcases qap h with ⟨i,u,rfl,e⟩|⟨y,u,rfl,e⟩
  ·exact nomatch e
  ·injection e with e1 _;subst e1;cases v <;> rfl
end
section
inductive V where
 | non|bl (b:Bool)|int (i:Int)|str (x:Str)|byt (b:Array UInt8)|flt (b:UInt64)|ref (a:Addr)|ty (n:String)
 deriving DecidableEq
def RelV:V->Value->Prop
 | .non,u=>u=Qay
 | .bl b,u=>u=Qjq b
 | .int i,u => ∃ t,u=Qey i t
 | .str x,u => ∃ t,u=Qkd x t
 | .byt b,u => ∃ t,u=Qkh b t
 | .flt b,u => ∃ t,u=Qki b t
 | .ref a,u=>u=Y1 a
 | .ty n,u=>u=Qjr n
abbrev Vals:List V->List Value->Prop:=Paired RelV
def Vals.length {xs:List V}{us:List Value} (r:Vals xs us):xs.length=us.length:=Qjv r
def Vals.get : ∀ {xs:List V}{us:List Value}{i:Nat}{x:V},Vals xs us->xs[i]?=some x -> ∃ u,us[i]?=some u/\RelV x u
 | _,_,_,_,.nil,e=>by simp at e
 | _,_,0,_,.cons r _,e=>by simp at e;subst e;exact ⟨_,rfl,r⟩
 | _,_,i+1,x,.cons _ t,e=>by
  obtain ⟨u,h1,h2⟩:=Vals.get (i:=i) (x:=x) t (by simpa using e);exact ⟨u,by simpa using h1,h2⟩
def Vals.set {x:V}{u:Value} (r:RelV x u) : ∀ {xs:List V}{us:List Value} (i:Nat),Vals xs us->Vals (xs.set i x) (us.set i u)
 | _,_,_,.nil => .nil
 | _,_,0,.cons _ t => .cons r t
 | _,_,i+1,.cons q t => .cons q (Vals.set r i t)
def Vals.append : ∀ {xs ys:List V}{us ws:List Value},Vals xs us->Vals ys ws->Vals (xs++ys) (us++ws)
 | _,_,_,_,.nil,s=>s
 | _,_,_,_,.cons r t,s => .cons r (Vals.append t s)
def Vals.take : ∀ {xs:List V}{us:List Value} (n:Nat),Vals xs us->Vals (xs.take n) (us.take n)
 | _,_,0,_ => .nil
 | _,_,_+1,.nil => .nil
 | _,_,n+1,.cons r t => .cons r (Vals.take n t)
def Vals.drop : ∀ {xs:List V}{us:List Value} (n:Nat),Vals xs us->Vals (xs.drop n) (us.drop n)
 | _,_,0,r=>r
 | _,_,_+1,.nil => .nil
 | _,_,n+1,.cons _ t=>Vals.drop n t
def RelO:Option V->Option Value->Prop
 | some v,some u=>RelV v u
 | none,none=>True
 | _,_=>False
def KV {κ:Type}:List (κ×V)->List (κ×Value)->Prop:=Paired fun (p:κ×V) (q:κ×Value)=>p.1=q.1/\RelV p.2 q.2
def kV:Key->V
 | .inl i => .int i
 | .inr x => .str x
inductive HO where
 | lst (xs:List V)
 | tup (xs:List V)
 | dK (kvs:List (Key×V))|dT (kvs:List (List Key×V))
 | set (S:Int->Bool) (n:Nat)
 | ins (C dx:Addr) (fs:List (Str×V))
 | own (x:Addr)
 | xd (fs:List (Str×V))
 | met (f x:Addr)
 | rng (lo hi:Int)
 | frz (o:Obj) (u:HO)
 | tbl (ps:Array Value)
 | ext (φ:Heap->Prop)
abbrev Hp:=Addr->Option HO
def upd (H:Hp) (a:Addr) (o:HO):Hp:=fun b=>if b=a then some o else H b
def ql {H:Hp}{a:Addr}{o:HO}:upd H a o a=some o:=by unfold upd;rw [if_pos rfl]
def qk {H:Hp}{a b:Addr}{o:HO} (h:b≠a):upd H a o b=H b:=by unfold upd;rw [if_neg h]
def qzx {H:Hp}{a:Addr}{o u:HO}:upd (upd H a o) a u=upd H a u:=by
 funext b;unfold upd;split <;> rfl
def qm {H:Hp}{a b:Addr}{o:HO} (h:H a=some o) (h':H b=none):a≠b:=by
 intro e;subst e;rw [h] at h';cases h'
section
variable (P:Zr) (w:World)
def ObjOk (H:Hp) (h:Heap) (a:Addr):HO->Prop
 | .lst xs=>xs.length<=Qz /\ ∃ (its:List Value) (n:Nat),Vals xs its/\h.get? a=some { cls :=.type "list",data :=.seq its.toArray n }
 | .tup xs=>xs.length<=Qz /\ ∃ its:List Value,Vals xs its/\IsTup h a its.toArray
 | .dK kvs=>kvs.length<=Qz/\(a==sysModules)=false /\ ∃ vs,KV kvs vs/\h.DictOf (qud P w) a vs
 | .dT kvs=>kvs.length<=Qz/\(a==sysModules)=false /\ ∃ xs:List (List Key×Addr×Value),
  Paired (fun (p:List Key×V) (q:List Key×Addr×Value)=>p.1=q.1/\H q.2.1=some (.tup (p.1.map kV))/\RelV p.2 q.2.2) kvs xs /\
  ∃ o es ep,h.get? a=some o/\o.ExactDict/\o.data = .dict es ep/\es.toList=xs.map (entryOfKey (tupleKind (qud P w)))/\(xs.map (·.1)).Nodup
 | .set S n=>h.SetOf (intKind P w) a S n
 | .ins C dx fs=>H dx=some (.own a)/\fs.length<=1000/\dx≠a/\h.get? a=some (Vy C dx) /\
  ∃ mA,h.Ns1 dx mA/\(∀ f,RelO (fs.lookup f) (mA f))/\Qhq mA (fs.map (·.1))
 | .own _ => ∃ o,h.get? a=some o
 | .xd fs => ∃ mA,h.Ns1 a mA /\ ∀ f,RelO (fs.lookup f) (mA f)
 | .rng lo hi => ∃ t u v,h.get? a=some { cls :=.type "range",data :=.fields #[.int lo t,.int hi u,.int 1 v] }
 | .frz o u=>h.get? a=some o/\ObjOk H h a u
 | .tbl ps=>h.get? a=some { cls :=.none,data :=.fields ps }
 | .met f x=>h.get? a=some (Qdx (.ref f) (.ref x))
 | .ext φ=>φ h/\(∃ o,h.get? a=some o) /\ ∀ h1 h2:Heap,φ h1->(∀ o,h1.get? a=some o->h2.get? a=some o)->φ h2
def HOk (H:Hp) (h:Heap):Prop := ∀ a o,H a=some o->ObjOk P w H h a o
end
section
variable {P:Zr}{w:World}{H H':Hp}{h h':Heap}{a:Addr}{o:HO}
def ObjOk.lt (x:ObjOk P w H h a o):a<h.objs.size:=by
 cases o with
 | lst xs=>obtain ⟨_,_,_,_,e⟩:=x;exact Qt e
 | tup xs=>obtain ⟨_,_,_,p⟩:=x;exact p.lt
 | dK kvs=>obtain ⟨_,_,_,_,o,_,_,e,_⟩:=x;exact Qt e
 | dT kvs=>obtain ⟨_,_,_,_,o,_,_,e,_⟩:=x;exact Qt e
 | set S n=>obtain ⟨o,_,_,_,e,_⟩:=x;exact Qt e
 | ins C dx fs=>obtain ⟨_,_,_,e,_⟩:=x;exact Qt e
 | own y=>obtain ⟨_,e⟩:=x;exact Qt e
 | xd fs=>obtain ⟨_,⟨_,_,_,e,_⟩,_⟩:=x;exact Qt e
 | rng lo hi=>obtain ⟨_,_,_,e⟩:=x;exact Qt e
 | frz ob u=>obtain ⟨e,_⟩:=x;exact Qt e
 | tbl ps=>exact Qt (show h.get? a=some _ from x)
 | met f y=>exact Qt (show h.get? a=some _ from x)
 | ext φ=>obtain ⟨_,⟨_,e⟩,_⟩:=x;exact Qt e
def Paired.mapP {α β:Type}{F G:α->β->Prop} : ∀ {l₁:List α}{l₂:List β},Paired F l₁ l₂->(∀ a b,F a b->G a b)->Paired G l₁ l₂
 | _,_,.nil,_ => .nil
 | _,_,.cons r t,f => .cons (f _ _ r) (Paired.mapP t f)
def ObjOk.stay (x:ObjOk P w H h a o) (k : ∀ b u,(b=a\/H b=some (.own a))->h.get? b=some u->h'.get? b=some u)
 (ho : ∀ b,H b=some (.own a)->H' b=some (.own a)) (ht : ∀ b xs,H b=some (.tup xs)->H' b=some (.tup xs)):ObjOk P w H' h' a o:=by
  induction o with
  | lst xs=>obtain ⟨z,its,n,r,e⟩:=x;exact ⟨z,its,n,r,k _ _ (.inl rfl) e⟩
  | tup xs=>obtain ⟨z,its,r,ob,e,c⟩:=x;exact ⟨z,its,r,ob,k _ _ (.inl rfl) e,c⟩
  | dK kvs=>obtain ⟨z,y,vs,r,ob,es,ep,e,c⟩:=x;exact ⟨z,y,vs,r,ob,es,ep,k _ _ (.inl rfl) e,c⟩
  | dT kvs =>
   obtain ⟨z,y,xs,r,ob,es,ep,e,c⟩:=x;exact ⟨z,y,xs,Paired.mapP r fun p q z=>⟨z.1,ht _ _ z.2.1,z.2.2⟩,ob,es,ep,k _ _ (.inl rfl) e,c⟩
  | set S n=>obtain ⟨ob,es,ep,t,e,c⟩:=x;exact ⟨ob,es,ep,t,k _ _ (.inl rfl) e,c⟩
  | ins C dx fs =>
   obtain ⟨d,z,ne,e,mA,⟨od,es,ep,e2,c⟩,r⟩:=x;exact ⟨ho _ d,z,ne,k _ _ (.inl rfl) e,mA,⟨od,es,ep,k _ _ (.inr d) e2,c⟩,r⟩
  | own y=>obtain ⟨ob,e⟩:=x;exact ⟨ob,k _ _ (.inl rfl) e⟩
  | xd fs=>obtain ⟨mA,⟨od,es,ep,e,c⟩,r⟩:=x;exact ⟨mA,⟨od,es,ep,k _ _ (.inl rfl) e,c⟩,r⟩
  | rng lo hi=>obtain ⟨t,u,v,e⟩:=x;exact ⟨t,u,v,k _ _ (.inl rfl) e⟩
  | frz ob u ih=>obtain ⟨e,q⟩:=x;exact ⟨k _ _ (.inl rfl) e,ih q⟩
  | tbl ps =>
   have e:h.get? a=some { cls :=.none,data :=.fields ps }:=x;show h'.get? a=some { cls :=.none,data :=.fields ps };exact k a _ (.inl rfl) e
  | met f y =>
   have e:h.get? a=some (Qdx (.ref f) (.ref y)):=x;show h'.get? a=some (Qdx (.ref f) (.ref y));exact k a _ (.inl rfl) e
  | ext φ=>obtain ⟨p,⟨o,e⟩,st⟩:=x;exact ⟨st _ _ p fun o q=>k _ _ (.inl rfl) q,⟨o,k _ _ (.inl rfl) e⟩,st⟩
def HOk.lt (x:HOk P w H h) (e:H a=some o):a<h.objs.size:=(x a o e).lt
def HOk.fresh (x:HOk P w H h) (e:h.objs.size<=a):H a=none:=by
 cases q:H a with
 | none=>rfl
 | some u=>exact absurd (Zs (x.lt q) e) (V6 _)
def HOk.kept (x:HOk P w H h) (k : ∀ b u,h.get? b=some u->h'.get? b=some u):HOk P w H h':=fun a o e =>
 (x a o e).stay (fun b u _ q=>k b u q) (fun _ q=>q) fun _ _ q=>q
def HOk.laid (x:HOk P w H h) (k : ∀ b u,h.get? b=some u->h'.get? b=some u) (hp:h.objs.size<=a) (new:ObjOk P w (upd H a o) h' a o):HOk P w (upd H a o) h':=fun b u e=>by
 have hn:=x.fresh hp;by_cases hb:b=a
 ·subst hb;rw [ql] at e;cases e;exact new
 ·rw [qk hb] at e;exact (x b u e).stay (fun c v _ q=>k c v q) (fun c q=>by rw [qk (qm q hn)];exact q) fun c xs q=>by rw [qk (qm q hn)];exact q
end
def Rd (H:Hp) (a:Addr) (u:HO):Prop:=H a=some u \/ ∃ o,H a=some (.frz o u)
def Rd.ok {P:Zr}{w:World}{H:Hp}{h:Heap}{a:Addr}{u:HO} (r:Rd H a u) (x:HOk P w H h):ObjOk P w H h a u:=by
 rcases r with r|⟨o,r⟩
 ·exact x a u r
 ·obtain ⟨_,q⟩:=x a _ r;exact q
def Mut:Option HO->Prop
 | some (.lst _)=>True
 | some (.dK _)=>True
 | some (.dT _)=>True
 | some (.set _ _)=>True
 | some (.ins _ _ _)=>True
 | some (.ext _)=>True
 | _=>False
section
variable {P:Zr}{w:World}{H:Hp}{h h':Heap}{x e:Addr}{o':HO}
def HOk.write (ok:HOk P w H h) (mu:Mut (H x)) (he:e=x\/H e=some (.own x)) (k : ∀ b u,b≠e->h.get? b=some u->h'.get? b=some u) (heo : ∃ u,h'.get? e=some u)
 (new:ObjOk P w (upd H x o') h' x o'):HOk P w (upd H x o') h':=fun b u q=>by
  have nown : ∀ c y,H c=some (.own y)->c≠x:=fun c y r z=>by subst z;rw [r] at mu;exact mu
  have ntup : ∀ c xs,H c=some (.tup xs)->c≠x:=fun c xs r z=>by subst z;rw [r] at mu;exact mu
  by_cases hb:b=x
  ·subst hb;rw [ql] at q;cases q;exact new
  ·rw [qk hb] at q;by_cases hbe:b=e
   ·have q':H b=some (.own x):=by
     rcases he with z|z
     ·exact absurd (hbe.trans z) hb
     ·rw [hbe];exact z
    rw [q] at q';cases q';obtain ⟨v,hv⟩:=heo;exact ⟨v,by rw [hbe];exact hv⟩
   ·refine (ok b u q).stay (fun c v hc r=>k c v ?_ r) (fun c r=>by rw [qk (nown c b r)];exact r) fun c xs r=>by rw [qk (ntup c xs r)];exact r
    rcases hc with rfl|hc
    ·exact hbe
    ·rintro rfl;rcases he with z|z
     ·exact nown c b hc z
     ·rw [hc] at z;cases z;exact hb rfl
end
def zaru (o:Obj):Prop := ∃ vs q t,o.data = .fields vs/\vs[1]?=some (.str q t)
structure GoodT (H:Hp) (ps:Array Value):Prop where
 tr:Qhc ps.toList
 co : ∀ (pos:Pos) (v:Value),Qed pos ps.toList=some v -> ∃ c o u,v = .ref c/\H c=some (.frz o u)/\zaru o
def GoodT.nil {H:Hp}:GoodT H #[]:=⟨trivial,fun pos v h=>by simp [Qed] at h⟩
def GoodT.mono {H H':Hp}{ps:Array Value} (g:GoodT H ps) (f : ∀ b o u,H b=some (.frz o u)->H' b=some (.frz o u)):GoodT H' ps:=⟨g.tr,fun pos v h=>by
 obtain ⟨c,o,u,z,e,k⟩:=g.co pos v h;exact ⟨c,o,u,z,f _ _ _ e,k⟩⟩
def qnp : ∀ {a b:List Value},Qhc a->Qhc b->Qhc (a++b)
 | [],_,_,h=>h
 | .int _ _ :: .int _ _::_::r,_,g,h=>qnp (a:=r) g h
def qsy {pos:Pos}{v:Value} : ∀ {a b:List Value},Qhc a->Qed pos (a++b)=some v->Qed pos a=some v\/Qed pos b=some v
 | [],_,_,h => .inr h
 | .int i _ :: .int j _::x::r,b,g,h=>by
  have h:(if i==pos.line&&j==pos.col then some x else Qed pos (r++b))=some v:=h;show (if i==pos.line&&j==pos.col then some x else Qed pos r)=some v\/_;split at h
  ·left;rw [if_pos (by assumption)];exact h
  ·rw [if_neg (by assumption)];exact qsy (a:=r) g h
def GoodT.app {H:Hp}{a b:Array Value} (g:GoodT H a) (k:GoodT H b):GoodT H (a++b):=⟨by rw [Qgf];exact qnp g.tr k.tr,fun pos v h=>by
 rw [Qgf] at h;rcases qsy g.tr h with h|h
 ·exact g.co pos v h
 ·exact k.co pos v h⟩
structure Un (fs ex:List Addr) (H H':Hp) (h h':Heap):Prop where
 keep : ∀ b o,h.get? b=some o->H b=none->b ∉ fs->b ∉ ex->h'.get? b=some o
 slot : ∀ b o,h.get? b=some o->H b=none->b ∈ fs->b ∉ ex -> ∃ sl,h'.get? b=some { o with slots:=sl }
 free : ∀ b o,h.get? b=some o->H b=none->b ∉ ex->H' b=none
 there : ∀ b o,h.get? b=some o->b ∉ ex -> ∃ o',h'.get? b=some o'
 tups : ∀ b xs,H b=some (.tup xs)->H' b=some (.tup xs)
 frzs : ∀ b o u,H b=some (.frz o u)->H' b=some (.frz o u)
 tbls : ∀ b ps,H b=some (.tbl ps) -> ∃ more,H' b=some (.tbl (ps++more))/\GoodT H' more
section
variable {fs fs' ex ex':List Addr}{H H1 H2:Hp}{h h1 h2 h':Heap}{a x e:Addr}{o:HO}
def Un.any (u:Un fs ex H H1 h h1) {b:Addr}{ob:Obj} (q:h.get? b=some ob) (n:H b=none) (hx:b ∉ ex) : ∃ sl,h1.get? b=some { ob with slots:=sl }:=by
 by_cases hb:b ∈ fs
 ·exact u.slot b ob q n hb hx
 ·exact ⟨ob.slots,u.keep b ob q n hb hx⟩
def Un.kept (k : ∀ b u,h.get? b=some u->h'.get? b=some u):Un fs ex H H h h' :=
 ⟨fun b ob q _ _ _=>k b ob q,fun b ob q _ _ _=>⟨ob.slots,k b ob q⟩,fun _ _ _ n _=>n,fun b ob q _=>⟨ob,k b ob q⟩,fun _ _ q=>q,fun _ _ _ q=>q,fun _ ps q=>⟨#[],by rw [q];simp,.nil⟩⟩
def Un.refl:Un fs ex H H h h:=Un.kept fun _ _ q=>q
def Un.laid (k : ∀ b u,h.get? b=some u->h'.get? b=some u) (hp:h.objs.size<=a) (hn:H a=none):Un fs ex H (upd H a o) h h' where
 keep:=fun b u q _ _ _=>k b u q
 slot:=fun b u q _ _ _=>⟨u.slots,k b u q⟩
 free:=fun b u q n _=>by rw [qk (Q5 (Zs (Qt q) hp))];exact n
 there:=fun b u q _=>⟨u,k b u q⟩
 tups:=fun b xs q=>by rw [qk (qm q hn)];exact q
 frzs:=fun b u xs q=>by rw [qk (qm q hn)];exact q
 tbls:=fun b ps q=>⟨#[],by rw [qk (qm q hn),q];simp,.nil⟩
def Un.write (mu:Mut (H x)) (he:e=x\/H e=some (.own x)) (k : ∀ b u,b≠e->h.get? b=some u->h'.get? b=some u) (heo : ∃ u,h'.get? e=some u):Un fs ex H (upd H x o) h h':=by
 have hx : ∀ b,H b=none->b≠x:=fun b n z=>by subst z;rw [n] at mu;exact mu
 have hb : ∀ b,H b=none->b≠e:=fun b n z=>by
  subst z;rcases he with r|r
  ·exact hx b n r
  ·rw [n] at r;cases r
 have hm : ∀ b u,H b=some u -> ¬ Mut (some u)->b≠x:=fun b u q nm z=>by subst z;rw [q] at mu;exact nm mu
 refine ⟨fun b u q n _ _=>k b u (hb b n) q,fun b u q n _ _=>⟨u.slots,k b u (hb b n) q⟩,fun b u q n _=>by rw [qk (hx b n)];exact n,fun b u q _=>?_,
  fun b xs q=>by rw [qk (hm b _ q fun z=>z)];exact q,fun b u xs q=>by rw [qk (hm b _ q fun z=>z)];exact q,fun b ps q=>⟨#[],by rw [qk (hm b _ q fun z=>z),q];simp,.nil⟩⟩
 by_cases hbe:b=e
 ·subst hbe;exact heo
 ·exact ⟨u,k b u hbe q⟩
end
def trk (h:Heap) (H:Hp):List Addr:=(Qm h.objs.size).filter fun a=>(H a).isSome
def qyg (h:Heap) (H:Hp):Heap:=Qiq h (trk h H)
def zadg (h:Heap) (H:Hp):(qyg h H).objs.size=h.objs.size:=PySem.W.hideAll_size _ _
def zaed {h:Heap}{H:Hp}{b:Addr}{o:Obj} (e:h.get? b=some o) (n:H b=none):(qyg h H).get? b=some o :=
 Qas _ e fun hm=>by
  have q:(H b).isSome=true:=(Yi.mp hm).2;rw [n] at q;simp at q
def zakh {h:Heap}{H:Hp}{b:Addr}{o:Obj} (e:(qyg h H).get? b=some o):h.get? b=some o/\H b=none:=by
 have e':h.get? b=some o:=Qgq (trk h H) e;refine ⟨e',?_⟩;cases q:H b with
 | none=>rfl
 | some x =>
  have hm:b ∈ trk h H:=Yi.mpr ⟨Zg.mpr (Qt e'),by simp [q]⟩;have z:(qyg h H).get? b=none:=PySem.W.hideAll_none (trk h H) hm;rw [z] at e;cases e
def zali (g h:Heap) (L:Addr):List (Addr×Obj):=(Qm h.objs.size).filterMap fun a=>if a=L\/(g.get? a).isSome=true then none else (h.get? a).map fun o=>(a,o)
def rest (g h:Heap) (L d:Addr):List (Addr×Obj):=(zali g h L).filter fun p=>decide (p.1≠d)
end
section
structure Mod (K:Qd) (mg:Str->Option Value) (base:Heap):Prop where
 kin:K.In base
 glob:base.Ns Zk mg
 blt : ∃ mb,base.Ns Qho mb /\ ∀ x:Str,x ≠ "__name__" -> mb x=Zq x
 nolimit:base.NoLimit
structure Cx where
 prog:Zr
 w:World
 K:Qd
 mg:Str->Option Value
 base:Heap
 A:Ye
 N:List Str
 s₀:Ql
 H₀:Hp
 env:Env
 outer:List Env
 stack:List Env
 ex:List Addr
 fn:Str->Bool
 calm:Bool
 pn:List (Addr×Obj)
 xe:Value->Ql->Prop
def frs (l:List Env):List Addr:=l.filterMap (·.frame)
abbrev Cx.fs (X:Cx):List Addr:=frs X.outer
def Vis (sc:Scope) (x:Str):Prop:=sc.names.lookup x=some .local\/sc.names.lookup x=some .cell\/sc.names.lookup x=some .free
def Loc (sc:Scope) (x:Str):Prop:=sc.names.lookup x=some .local\/sc.names.lookup x=some .cell
def Look (env:Env) (h:Heap) (m:Str->Option Value) (x:Str) (u:Value):Prop :=
 (env.kindOf x=some .local/\m x=some u)\/((env.kindOf x=some .cell\/env.kindOf x=some .free) /\ ∃ c,env.cells.lookup x=some c/\h.IsCell c (some u))
structure Cx.Ok (X:Cx):Prop where
 mod:Mod X.K X.mg X.base
 kind:X.env.scope.kind = .function
 glob:X.env.globals=Zk
 blt:X.env.builtins=Qho
 above:X.s₀.heap.objs.size<=X.env.locals
 inj : ∀ x y c,X.env.cells.lookup x=some c->X.env.cells.lookup y=some c->x=y
 has : ∀ x,(X.env.kindOf x=some .cell\/X.env.kindOf x=some .free) -> ∃ c,X.env.cells.lookup x=some c
 cab : ∀ x c,X.fn x=true->X.env.cells.lookup x=some c->X.s₀.heap.objs.size<=c
 hd:X.calm=true->X.A.handled=none
 frames:X.A.frames=some X.stack
 stk:X.stack=X.outer\/(X.stack=X.env::X.outer/\X.env.frame=some X.env.locals)
 exf : ∀ b ∈ X.ex,b≠X.env.locals /\ ∀ x c,X.env.cells.lookup x=some c->c≠b
 bs : ∀ b o,X.base.get? b=some o->X.s₀.heap.get? b=some o/\X.H₀ b=none
 bsz:X.base.objs.size<=X.s₀.heap.objs.size
 noex : ∀ b o,X.base.get? b=some o->b ∉ X.ex
 exfs : ∀ b ∈ X.ex,b ∉ X.fs
 funs:X.s₀.heap.FunFrames X.base X.outer
 frf : ∀ b ∈ X.fs,X.H₀ b=none
structure Inv (X:Cx) (pins:List (Addr×Obj)) (σ:List (Option V)) (H:Hp) (s:Ql):Prop where
 ok:X.Ok
 os:s.os=X.s₀.os
 bare:Qdv s.gens
 base:Un X.fs X.ex X.H₀ H X.s₀.heap s.heap
 loc : ∃ m,s.heap.Ns X.env.locals m /\ ∀ (i:Nat) (x:Str) (v:V),X.N[i]?=some x->σ[i]?=some (some v)->Vis X.env.scope x -> ∃ u,RelV v u/\Look X.env s.heap m x u
 cell : ∀ x c,X.env.cells.lookup x=some c -> ∃ v,s.heap.IsCell c v
 free:H X.env.locals=none
 freeC : ∀ x c,X.env.cells.lookup x=some c->H c=none
 pin : ∀ p ∈ X.pn++pins,s.heap.get? p.1=some p.2/\H p.1=none/\p.1≠X.env.locals/\p.1 ∉ X.fs /\ ∀ v,p.2.data ≠ .cell v
 hok:HOk X.prog X.w H s.heap
 len:σ.length=X.N.length
section
variable {X:Cx}{pins:List (Addr×Obj)}{σ:List (Option V)}{H H':Hp}{s:Ql}{h':Heap}
def Cx.Ok.nofr (ok:X.Ok) {b:Addr}{o:Obj} (e:X.base.get? b=some o):b ∉ X.fs:=fun hb=>by
 have:=(ok.funs.mem hb).1;rw [e] at this;cases this
def Inv.bs (I:Inv X pins σ H s) : ∀ b o,X.base.get? b=some o->s.heap.get? b=some o/\H b=none:=fun b o e =>
 ⟨I.base.keep b o (I.ok.bs b o e).1 (I.ok.bs b o e).2 (I.ok.nofr e) (I.ok.noex b o e),I.base.free b o (I.ok.bs b o e).1 (I.ok.bs b o e).2 (I.ok.noex b o e)⟩
def Inv.bk (I:Inv X pins σ H s) : ∀ b o,X.base.get? b=some o->s.heap.get? b=some o:=fun b o e=>(I.bs b o e).1
def Inv.mod (I:Inv X pins σ H s):Mod X.K X.mg X.base:=I.ok.mod
def Inv.kIn (I:Inv X pins σ H s):X.K.In s.heap:=I.ok.mod.kin.keeps I.bk
def Inv.lt (I:Inv X pins σ H s):X.env.locals<s.heap.objs.size:=let ⟨_,hn,_⟩:=I.loc;hn.lt
def Inv.sz (I:Inv X pins σ H s):X.s₀.heap.objs.size<=s.heap.objs.size:=Z7 I.ok.above (Yg I.lt)
def Inv.nofs (I:Inv X pins σ H s) {a:Addr} (h:s.heap.objs.size<=a):a ∉ X.fs:=fun hb=>by
 obtain ⟨_,o,ho,_⟩:=I.ok.funs.mem hb;exact absurd (Zs (Qt ho) (Z7 I.sz h)) (V6 _)
def Inv.cne (I:Inv X pins σ H s) : ∀ x c,X.env.cells.lookup x=some c->c≠X.env.locals:=fun x c e z=>by
 obtain ⟨v,o,ho,hd⟩:=I.cell x c e;obtain ⟨m,⟨o',es,ep,ho',hd',_⟩,_⟩:=I.loc;rw [z,ho'] at ho;cases ho;rw [hd'] at hd;cases hd
def Inv.funs (I:Inv X pins σ H s):s.heap.FunFrames X.base X.outer:=by
 have all : ∀ (l:List Env),(∀ b ∈ frs l,b ∈ X.fs)->X.s₀.heap.FunFrames X.base l->s.heap.FunFrames X.base l:=by
  intro l
  induction l with
  | nil=>intro _ _;trivial
  | cons env r ih =>
   intro hs hl;obtain ⟨hk,⟨L,o,hf,hn,ho,hd⟩,hr⟩:=hl;have hL:L ∈ X.fs:=hs L (by unfold frs;rw [Jr,hf];exact Qbg);obtain ⟨sl,e⟩:=I.base.slot L o ho (I.ok.frf L hL) hL fun z=>I.ok.exfs L z hL;exact ⟨hk,⟨L,_,hf,hn,e,hd⟩,ih (fun b hb=>hs b (by unfold frs;rw [Jr,hf];exact Qy _ hb)) hr⟩
 exact all X.outer (fun _ hb=>hb) I.ok.funs
def Inv.stack (I:Inv X pins σ H s):s.heap.FunFrames X.base X.stack:=by
 rcases I.ok.stk with e|⟨e,hf⟩
 ·rw [e];exact I.funs
 ·rw [e];obtain ⟨m,hn,_⟩:=I.loc;refine .cons (by rw [I.ok.kind];decide) hf hn ?_ I.funs;exact Heap.get?_none_of_le (Z7 I.ok.bsz I.ok.above)
def Inv.stkSub (I:Inv X pins σ H s) : ∀ b ∈ frs X.stack,b ∈ X.env.locals::X.fs:=fun b hb=>by
 rcases I.ok.stk with e|⟨e,hf⟩
 ·rw [e] at hb;exact Qy _ hb
 ·rw [e] at hb;unfold frs at hb;rw [Jr,hf] at hb;exact hb
def Inv.stkFree (I:Inv X pins σ H s) : ∀ b ∈ frs X.stack,H b=none:=fun b hb=>by
 rcases Q1.mp (I.stkSub b hb) with e|hb
 ·rw [e];exact I.free
 ·obtain ⟨_,o,ho,_⟩:=I.ok.funs.mem hb;exact I.base.free b o ho (I.ok.frf b hb) fun z=>I.ok.exfs b z hb
def Inv.step {g':Array Qim}{t':Nat}{d':Drawn}{ch:List Addr} (I:Inv X pins σ H s)
 (hch : ∀ b ∈ ch,(b ∈ X.ex\/X.s₀.heap.objs.size<=b)/\b≠X.env.locals/\(∀ x c,X.env.cells.lookup x=some c->c≠b) /\ ∀ p ∈ X.pn++pins,p.1≠b)
 (keep : ∀ b o,b≠X.env.locals->b ∉ X.fs->b ∉ ch->s.heap.get? b=some o->H b=none->h'.get? b=some o)
 (slot : ∀ b o,b≠X.env.locals->b ∈ X.fs->b ∉ ch->s.heap.get? b=some o->H b=none -> ∃ sl,h'.get? b=some { o with slots:=sl }) (free : ∀ b o,b ∉ ch->s.heap.get? b=some o->H b=none->H' b=none)
  (there : ∀ b o,b ∉ ch->s.heap.get? b=some o -> ∃ o',h'.get? b=some o')
  (tups : ∀ b xs,H b=some (.tup xs)->H' b=some (.tup xs)) (frzs : ∀ b o u,H b=some (.frz o u)->H' b=some (.frz o u)) (tbls : ∀ b ps,H b=some (.tbl ps) -> ∃ more,H' b=some (.tbl (ps++more))/\GoodT H' more)
  (ns : ∀ m,s.heap.Ns X.env.locals m->h'.Ns X.env.locals m) (hok:HOk X.prog X.w H' h') (hg:Qdv g') :
  Inv X pins σ H' { s with heap:=h',gens:=g',drawn:=d',toks:=t' }:=by
  have neL : ∀ b o,X.s₀.heap.get? b=some o->b≠X.env.locals:=fun b o e=>Q5 (Zs (Qt e) I.ok.above);have neC : ∀ b o,X.s₀.heap.get? b=some o->b ∉ X.ex->b ∉ ch:=fun b o e hx hb=>by
   rcases (hch b hb).1 with z|z
   ·exact hx z
   ·exact absurd (Zs (Qt e) z) (V6 _)
  have cellK : ∀ x c,X.env.cells.lookup x=some c -> ∀ v,s.heap.IsCell c v->h'.IsCell c v:=fun x c e v xx1=>by
   obtain ⟨o,ho,hd⟩:=xx1;have nch:c ∉ ch:=fun z=>(hch c z).2.2.1 x c e rfl;by_cases hc:c ∈ X.fs
   ·obtain ⟨sl,q⟩:=slot c o (I.cne x c e) hc nch ho (I.freeC x c e);exact ⟨_,q,hd⟩
   ·exact ⟨o,keep c o (I.cne x c e) hc nch ho (I.freeC x c e),hd⟩
  refine ⟨I.ok,I.os,hg,⟨fun b o e n hb hx=>?_,fun b o e n hb hx=>?_,fun b o e n hx=>?_,fun b o e hx=>?_,fun b xs e=>tups b xs (I.base.tups b xs e),fun b o xs e=>frzs b o xs (I.base.frzs b o xs e),fun b ps e=>?_⟩,?_,fun x c e=>?_,?_,fun x c e=>?_,fun p hp=>?_,hok,I.len⟩
  ·exact keep b o (neL b o e) hb (neC b o e hx) (I.base.keep b o e n hb hx) (I.base.free b o e n hx)
  ·obtain ⟨sl,e1⟩:=I.base.slot b o e n hb hx;obtain ⟨sl',e2⟩:=slot b _ (neL b o e) hb (neC b o e hx) e1 (I.base.free b o e n hx);exact ⟨sl',e2⟩
  ·obtain ⟨o',e1⟩:=I.base.there b o e hx;exact free b o' (neC b o e hx) e1 (I.base.free b o e n hx)
  ·obtain ⟨o',e1⟩:=I.base.there b o e hx;exact there b o' (neC b o e hx) e1
  ·obtain ⟨m1,e1,g1⟩:=I.base.tbls b ps e;obtain ⟨m2,e2,g2⟩:=tbls b _ e1;exact ⟨m1++m2,by rw [e2,Array.append_assoc],(g1.mono frzs).app g2⟩
  ·obtain ⟨m,hn,hl⟩:=I.loc;refine ⟨m,ns m hn,fun i x v e1 e2 e3=>?_⟩;obtain ⟨u,r,l⟩:=hl i x v e1 e2 e3;refine ⟨u,r,?_⟩;rcases l with l|⟨k,c,e,z⟩
   ·exact .inl l
   ·exact .inr ⟨k,c,e,cellK x c e _ z⟩
  ·obtain ⟨v,z⟩:=I.cell x c e;exact ⟨v,cellK x c e v z⟩
  ·obtain ⟨m,⟨o,_,_,ho,_⟩,_⟩:=I.loc;exact free _ o (fun z=>(hch _ z).2.1 rfl) ho I.free
  ·obtain ⟨v,o,ho,hd⟩:=I.cell x c e;exact free c o (fun z=>(hch c z).2.2.1 x c e rfl) ho (I.freeC x c e)
  ·obtain ⟨e,n,ne,nf,d⟩:=I.pin p hp;have nch:p.1 ∉ ch:=fun z=>(hch p.1 z).2.2.2 p hp rfl;exact ⟨keep p.1 p.2 ne nf nch e n,free p.1 p.2 nch e n,ne,nf,d⟩
def Inv.un {t':Nat} (I:Inv X pins σ H s) (u:Un X.fs [] H H' s.heap h') (hok:HOk X.prog X.w H' h'):Inv X pins σ H' { s with heap:=h',toks:=t' }:=by
 obtain ⟨m,⟨o,es,ep,ho,r⟩,_⟩:=id I.loc;obtain ⟨sl,hL⟩:=u.any ho I.free (by simp);exact I.step (g':=s.gens) (d':=s.drawn) (ch:=[]) (fun _ z=>nomatch z) (fun b o _ hb _ e n=>u.keep b o e n hb (by simp)) (fun b o _ hb _ e n=>u.slot b o e n hb (by simp)) (fun b o _ e n=>u.free b o e n (by simp)) (fun b o _ e=>u.there b o e (by simp)) u.tups u.frzs u.tbls (fun m' hm=>by
  obtain ⟨o',es',ep',ho',r'⟩:=hm;rw [ho] at ho';cases ho';exact ⟨_,es',ep',hL,r'⟩) hok I.bare
def Inv.call {g':Array Qim}{t':Nat}{d':Drawn}{ch:List Addr} (I:Inv X pins σ H s) (u:Un (frs X.stack) ch H H' s.heap h') (hok:HOk X.prog X.w H' h') (hg:Qdv g')
 (hch : ∀ b ∈ ch,(b ∈ X.ex\/X.s₀.heap.objs.size<=b)/\b≠X.env.locals/\(∀ x c,X.env.cells.lookup x=some c->c≠b) /\ ∀ p ∈ X.pn++pins,p.1≠b) :
 Inv X pins σ H' { s with heap:=h',gens:=g',drawn:=d',toks:=t' }:=by
  obtain ⟨m,⟨o,es,ep,ho,r⟩,_⟩:=id I.loc;obtain ⟨sl,hL⟩:=u.any ho I.free fun z=>(hch _ z).2.1 rfl;exact I.step (ch:=ch) hch (fun b o hL hb hc e n=>u.keep b o e n (fun z=>(Q1.mp (I.stkSub b z)).elim hL hb) hc) (fun b o _ _ hc e n=>u.any e n hc) (fun b o hc e n=>u.free b o e n hc) (fun b o hc e=>u.there b o e hc) u.tups u.frzs u.tbls (fun m' hm=>by
   obtain ⟨o',es',ep',ho',r'⟩:=hm;rw [ho] at ho';cases ho';exact ⟨_,es',ep',hL,r'⟩) hok hg
def Inv.turned {t':Nat}{it:Addr} (I:Inv X pins σ H s) (k : ∀ b o,b≠it->s.heap.get? b=some o->h'.get? b=some o) (hn:H it=none) (hL:it≠X.env.locals)
 (h1:it ∈ X.ex\/X.s₀.heap.objs.size<=it) (h2 : ∀ x c,X.env.cells.lookup x=some c->c≠it) (h3 : ∀ p ∈ X.pn++pins,p.1≠it):Inv X pins σ H { s with heap:=h',toks:=t' }:=by
  have nit : ∀ b u,H b=some u->b≠it:=fun b u e z=>by rw [z,hn] at e;cases e
  refine I.step (g':=s.gens) (d':=s.drawn) (ch:=[it]) (fun b hb=>?_) (fun b o _ _ hc e _=>k b o (fun z=>hc (by simp [z])) e) (fun b o _ _ hc e _=>⟨o.slots,k b o (fun z=>hc (by simp [z])) e⟩) (fun _ _ _ _ n=>n)
   (fun b o hc e=>⟨o,k b o (fun z=>hc (by simp [z])) e⟩) (fun _ _ e=>e) (fun _ _ _ e=>e) (fun b ps e=>⟨#[],by rw [e];simp,.nil⟩) (fun m hm=>?_) (fun b u e=>?_) I.bare
  ·have e:b=it:=by simpa using hb
   subst e;exact ⟨h1,hL,h2,h3⟩
  ·obtain ⟨o,es,ep,ho,r⟩:=hm;exact ⟨o,es,ep,k _ o (Z1 hL) ho,r⟩
  ·refine (I.hok b u e).stay (fun c v hc q=>k c v ?_ q) (fun _ q=>q) fun _ _ q=>q;rcases hc with z|z
   ·rw [z];exact nit b u e
   ·exact nit c _ z
def Inv.tok (I:Inv X pins σ H s) (t:Nat):Inv X pins σ H { s with toks:=t }:=I.un (h':=s.heap) (t':=t) Un.refl I.hok
def Inv.kept {t':Nat} (I:Inv X pins σ H s) (k : ∀ b u,s.heap.get? b=some u->h'.get? b=some u):Inv X pins σ H { s with heap:=h',toks:=t' }:=I.un (Un.kept k) (I.hok.kept k)
def Inv.laid {a:Addr}{o:HO}{t':Nat} (I:Inv X pins σ H s) (k : ∀ b u,s.heap.get? b=some u->h'.get? b=some u) (hp:s.heap.objs.size<=a) (new:ObjOk X.prog X.w (upd H a o) h' a o) :
 Inv X pins σ (upd H a o) { s with heap:=h',toks:=t' }:=I.un (Un.laid k hp (I.hok.fresh hp)) (I.hok.laid k hp new)
def Inv.write {x e:Addr}{o:HO}{t':Nat} (I:Inv X pins σ H s) (mu:Mut (H x)) (he:e=x\/H e=some (.own x)) (k : ∀ b u,b≠e->s.heap.get? b=some u->h'.get? b=some u) (heo : ∃ u,h'.get? e=some u)
 (new:ObjOk X.prog X.w (upd H x o) h' x o):Inv X pins σ (upd H x o) { s with heap:=h',toks:=t' }:=I.un (Un.write mu he k heo) (I.hok.write mu he k heo new)
def Inv.pins_of {pins':List (Addr×Obj)} (I:Inv X pins σ H s) (h : ∀ p ∈ pins',s.heap.get? p.1=some p.2/\H p.1=none/\p.1≠X.env.locals/\p.1 ∉ X.fs /\ ∀ v,p.2.data ≠ .cell v):Inv X pins' σ H s :=
 ⟨I.ok,I.os,I.bare,I.base,I.loc,I.cell,I.free,I.freeC,fun p hp=>(Ze.mp hp).elim (fun z=>I.pin p (Ya _ z)) (h p),I.hok,I.len⟩
def qra {N:List Str} (hN:N.Nodup) {i j:Nat}{x:Str} (a:N[i]?=some x) (b:N[j]?=some x):i=j:=by
 obtain ⟨h1,e1⟩:=Qk.mp a;obtain ⟨h2,e2⟩:=Qk.mp b;exact (List.getElem_inj hN).mp (e1.trans e2.symm)
def zabz {M:Model}{A:Ye}{E:Value->Ql->Prop}{i:Nat}{x:Str}{v:V}{u:Value}{Q:Unit->Ql->Prop} (I:Inv X pins σ H s) (hN:X.N.Nodup) (hi:X.N[i]?=some x) (hx:Loc X.env.scope x) (r:RelV v u)
 (h : ∀ s',Inv X pins (σ.set i (some v)) H s'->(∃ a,Yo a s.heap s'.heap/\(a=X.env.locals\/X.env.cells.lookup x=some a))->Q () s') (hf:X.fn x=true\/X.env.scope.names.lookup x=some .local:=by first|exact .inl rfl|exact .inr rfl|assumption):wpAny M A (storeName X.env x u) Q E s:=by
  obtain ⟨m,hn,hl⟩:=id I.loc;have hcls:(X.env.scope.kind == .class||(X.env.scope.kind == .module&&X.env.locals != X.env.globals))=false:=by rw [I.ok.kind];rfl
  have hiσ:i<σ.length:=by rw [I.len];exact (Qk.mp hi).1
  have cne:=I.cne;have tracked : ∀ {a:Addr}{h':Heap},(∃ o,s.heap.get? a=some o/\H a=none)->Yo a s.heap h'->HOk X.prog X.w H h':=fun {a h'} ha hs b ob e=>by
   obtain ⟨_,_,hfree⟩:=ha;refine (I.hok b ob e).stay (fun c w' hc q=>(hs.2 c ?_).trans q) (fun _ q=>q) fun _ _ q=>q;rintro rfl;rcases hc with rfl|hc
   ·rw [hfree] at e;cases e
   ·rw [hfree] at hc;cases hc
  rcases hx with hk|hk
  ·refine wpAny_storeName_local hk hn (fun h' hn' hs=>?_) hcls;obtain ⟨oL,_,_,hoL,_⟩:=id hn;refine h _ ⟨I.ok,I.os,I.bare,⟨fun b o e n hb hx=>?_,fun b o e n hb hx=>?_,I.base.free,fun b o e hx=>?_,I.base.tups,I.base.frzs,I.base.tbls⟩,⟨_,hn',fun j y v' e1 e2 e3=>?_⟩,fun y c e=>?_,I.free,I.freeC,fun p hp=>?_,tracked ⟨oL,hoL,I.free⟩ hs,by simpa using I.len⟩ ⟨_,hs,.inl rfl⟩
   ·exact (hs.2 b (Q5 (Zs (Qt e) I.ok.above))).trans (I.base.keep b o e n hb hx)
   ·obtain ⟨sl,e1⟩:=I.base.slot b o e n hb hx;exact ⟨sl,(hs.2 b (Q5 (Zs (Qt e) I.ok.above))).trans e1⟩
   ·obtain ⟨o',e1⟩:=I.base.there b o e hx;exact ⟨o',(hs.2 b (Q5 (Zs (Qt e) I.ok.above))).trans e1⟩
   ·by_cases hj:j=i
    ·subst hj;rw [hi] at e1;cases e1;rw [Qeu hiσ] at e2;cases e2;exact ⟨u,r,.inl ⟨hk,by simp⟩⟩
    ·rw [Qcl (Z1 hj)] at e2;obtain ⟨u',r',q⟩:=hl j y v' e1 e2 e3;refine ⟨u',r',?_⟩;rcases q with ⟨k,e⟩|⟨k,c,e,z⟩
     ·refine .inl ⟨k,?_⟩;have:y≠x:=fun e=>hj (qra hN e1 (e ▸ hi));simp [this,e]
     ·exact .inr ⟨k,c,e,z.sameBut hs (cne y c e)⟩
   ·obtain ⟨w',z⟩:=I.cell y c e;exact ⟨w',z.sameBut hs (cne y c e)⟩
   ·obtain ⟨e,n,ne,nf,d⟩:=I.pin p hp;exact ⟨(hs.2 p.1 ne).trans e,n,ne,nf,d⟩
  ·have hfn:X.fn x=true:=by
    rcases hf with z|z
    ·exact z
    ·rw [z] at hk;cases hk
   obtain ⟨c,hc⟩:=I.ok.has x (.inl hk);obtain ⟨w',z⟩:=I.cell x c hc;refine wpAny_storeName_cell I.ok.kind hk hc z (fun h' hc' hs=>?_);obtain ⟨oc,hoc,hocd⟩:=id z;refine h { s with heap:=h' } ⟨I.ok,I.os,I.bare,⟨fun b o e n hb hx=>?_,fun b o e n hb hx=>?_,I.base.free,fun b o e hx=>?_,I.base.tups,I.base.frzs,I.base.tbls⟩,⟨m,hn.sameBut hs (Z1 (cne x c hc)),fun j y v' e1 e2 e3=>?_⟩,fun y c' e=>?_,I.free,I.freeC,fun p hp=>?_,tracked ⟨oc,hoc,I.freeC x c hc⟩ hs,by simpa using I.len⟩ ⟨c,hs,.inr hc⟩
   ·exact (hs.2 b (Q5 (Zs (Qt e) (I.ok.cab x c hfn hc)))).trans (I.base.keep b o e n hb hx)
   ·obtain ⟨sl,e1⟩:=I.base.slot b o e n hb hx;exact ⟨sl,(hs.2 b (Q5 (Zs (Qt e) (I.ok.cab x c hfn hc)))).trans e1⟩
   ·obtain ⟨o',e1⟩:=I.base.there b o e hx;exact ⟨o',(hs.2 b (Q5 (Zs (Qt e) (I.ok.cab x c hfn hc)))).trans e1⟩
   ·by_cases hj:j=i
    ·subst hj;rw [hi] at e1;cases e1;rw [Qeu hiσ] at e2;cases e2;exact ⟨u,r,.inr ⟨.inl hk,c,hc,hc'⟩⟩
    ·rw [Qcl (Z1 hj)] at e2;obtain ⟨u',r',q⟩:=hl j y v' e1 e2 e3;refine ⟨u',r',?_⟩;rcases q with q|⟨k,c',e,z'⟩
     ·exact .inl q
     ·refine .inr ⟨k,c',e,z'.sameBut hs ?_⟩;rintro rfl;exact hj (qra hN e1 (I.ok.inj _ _ _ e hc ▸ hi))
   ·by_cases hcc:c'=c
    ·subst hcc;exact ⟨_,hc'⟩
    ·obtain ⟨w2,z2⟩:=I.cell y c' e;exact ⟨w2,z2.sameBut hs hcc⟩
   ·obtain ⟨e,n,ne,nf,d⟩:=I.pin p hp;refine ⟨(hs.2 p.1 ?_).trans e,n,ne,nf,d⟩;intro q;rw [q,hoc] at e;have q':oc=p.2:=Qx e;exact d w' (by rw [<- q'];exact hocd)
def qfr {M:Model}{A:Ye}{E:Value->Ql->Prop}{i:Nat}{x:Str}{v:V}{u:Value}{Q:Unit->Ql->Prop} (I:Inv X pins σ H s) (hN:X.N.Nodup) (hi:X.N[i]?=some x) (hx:Loc X.env.scope x) (r:RelV v u)
 (h : ∀ s',Inv X pins (σ.set i (some v)) H s'->Q () s') (hf:X.fn x=true\/X.env.scope.names.lookup x=some .local:=by first|exact .inl rfl|exact .inr rfl|assumption):wpAny M A (storeName X.env x u) Q E s :=
  zabz I hN hi hx r (fun s' I' _=>h s' I') hf
def Inv.call' {s':Ql}{ch:List Addr} (I:Inv X pins σ H s) (ho:s'.os=s.os) (u:Un (frs X.stack) ch H H' s.heap s'.heap) (hok:HOk X.prog X.w H' s'.heap) (hg:Qdv s'.gens)
 (hch : ∀ b ∈ ch,(b ∈ X.ex\/X.s₀.heap.objs.size<=b)/\b≠X.env.locals/\(∀ x c,X.env.cells.lookup x=some c->c≠b) /\ ∀ p ∈ X.pn++pins,p.1≠b):Inv X pins σ H' s':=by
  obtain ⟨h',g',d',t',o'⟩:=s';have e:o'=s.os:=ho;subst e;exact I.call (g':=g') (t':=t') (d':=d') u hok hg hch
end
abbrev XK:=Value->Option Addr->Hp->Prop
abbrev St:=List (Option V)
abbrev VK:=V->Hp->Prop
abbrev TE:=St->Hp->VK->Prop
abbrev TT:=St->Hp->(Bool->Hp->Prop)->Prop
abbrev TA:=St->Hp->(List V->Hp->Prop)->Prop
structure Ends where
 nx:St->Hp->Prop
 rt:VK
 bk:St->Hp->Prop:=fun _ _=>False
 ct:St->Hp->Prop:=fun _ _=>False
abbrev TS:=Ends->St->Hp->Prop
def EP (X:Cx) (pins:List (Addr×Obj)) (σ:St) (Q:VK) (u:Value) (s':Ql):Prop := ∃ v H',Inv X pins σ H' s'/\RelV v u/\Q v H'
def TP (X:Cx) (pins:List (Addr×Obj)) (σ:St) (Q:Bool->Hp->Prop) (b:Bool) (s':Ql):Prop := ∃ H',Inv X pins σ H' s'/\Q b H'
def AP (X:Cx) (pins:List (Addr×Obj)) (σ:St) (Q:List V->Hp->Prop) (us:List Value) (s':Ql):Prop := ∃ vs H',Inv X pins σ H' s'/\Vals vs us/\Q vs H'
def SP (X:Cx) (pins:List (Addr×Obj)) (D:Ends) (f:Flow) (s':Ql):Prop :=
 match f with
 | .next => ∃ σ' H',Inv X pins σ' H' s'/\D.nx σ' H'
 | .brk => ∃ σ' H',Inv X pins σ' H' s'/\D.bk σ' H'
 | .cont => ∃ σ' H',Inv X pins σ' H' s'/\D.ct σ' H'
 | .ret u => ∃ v σ' H',Inv X pins σ' H' s'/\RelV v u/\D.rt v H'
def PE (X:Cx) (e:Expr) (t:TE):Prop :=
 ∀ (pins:List (Addr×Obj)) (s:Ql) (σ:St) (H:Hp) (Q:VK),Inv X pins σ H s->t σ H Q->wpAny (model X.prog X.w) X.A (eval e X.env) (EP X pins σ Q) X.xe s
def PT (X:Cx) (e:Expr) (t:TT):Prop :=
 ∀ (pins:List (Addr×Obj)) (s:Ql) (σ:St) (H:Hp) (Q:Bool->Hp->Prop),Inv X pins σ H s->t σ H Q->wpAny (model X.prog X.w) X.A (Qia e X.env (eval e X.env)) (TP X pins σ Q) X.xe s
def PW (X:Cx) (e:Expr) (t:TT):Prop :=
 ∀ (whole:Sem Value) (pins:List (Addr×Obj)) (s:Ql) (σ:St) (H:Hp) (Q:Bool->Hp->Prop),Inv X pins σ H s->t σ H Q->wpAny (model X.prog X.w) X.A (Qia e X.env whole) (TP X pins σ Q) X.xe s
def PW.pt {X:Cx}{e:Expr}{t:TT} (h:PW X e t):PT X e t:=h _
def PA (X:Cx) (es:List Expr) (t:TA):Prop :=
 ∀ (pos:Pos) (pins:List (Addr×Obj)) (s:Ql) (σ:St) (H:Hp) (Q:List V->Hp->Prop),Inv X pins σ H s->t σ H Q->wpAny (model X.prog X.w) X.A (spliced (Vc pos (Qp es X.env))) (AP X pins σ Q) X.xe s
def PS (X:Cx) (st:Stmt) (t:TS):Prop :=
 ∀ (pins:List (Addr×Obj)) (s:Ql) (σ:St) (H:Hp) (D:Ends),Inv X pins σ H s->t D σ H->wpAny (model X.prog X.w) X.A (exec st X.env) (SP X pins D) X.xe s
def PSs (X:Cx) (st:List Stmt) (t:TS):Prop :=
 ∀ (pins:List (Addr×Obj)) (s:Ql) (σ:St) (H:Hp) (D:Ends),Inv X pins σ H s->t D σ H->wpAny (model X.prog X.w) X.A (execs st X.env) (SP X pins D) X.xe s
def thn {α:Type}{t:Sem α}{Q Q':α->Ql->Prop}{M:Model}{A:Ye}{E:Value->Ql->Prop}{s:Ql} (h:wpAny M A t Q E s) (hQ : ∀ a s,Q a s->Q' a s):wpAny M A t Q' E s:=Yw h hQ fun _ _ x=>x
end
section
section
variable {X:Cx}
def tVar (i:Nat):TE:=fun σ H Q => ∃ v,σ[i]?=some (some v)/\Q v H
def tC (v:V):TE:=fun _ H Q=>Q v H
def qbu {i:Nat}{x:Str}{pos:Pos} (hN:X.N[i]?=some x) (hv:Vis X.env.scope x) (hd:Nd0 x:=by decide) (hcd:Nd1 x:=by decide):PE X (.Name x pos) (tVar i):=by
 intro pins s σ H Q I h;obtain ⟨v,e,h⟩:=h;obtain ⟨m,hn,hl⟩:=I.loc;obtain ⟨u,r,l⟩:=hl i x v hN e hv;have fin:EP X pins σ Q u s:=⟨v,H,I,r,h⟩
 rcases l with ⟨hk,hm⟩|⟨hk,c,hc,hcell⟩
 ·exact wpAny_Name (wpAny_loadName_local I.ok.kind hk hn hm fin) hd
 ·rcases hk with hk|hk
  ·exact wpAny_Name (wpAny_loadName_cell I.ok.kind hk hc hcell fin) hd
  ·exact wpAny_Name (wpAny_loadName_free I.ok.kind hk hc hcell fin hcd) hd
def qzd {i j pos}:PE X (.Constant (.int i) j pos) (tC (.int i)):=fun _ _ _ H _ I h=>wpAny_Constant_int ⟨.int i,H,I.tok _,⟨_,rfl⟩,h⟩
def zarm {b j pos}:PE X (.Constant (.bool b) j pos) (tC (.bl b)):=fun _ _ _ H _ I h=>Constant_bool ⟨.bl b,H,I,rfl,h⟩
def zang {j pos}:PE X (.Constant .none j pos) (tC .non):=fun _ _ _ H _ I h=>Constant_none ⟨.non,H,I,rfl,h⟩
def qzm {x j pos}:PE X (.Constant (.str x) j pos) (tC (.str x)):=fun _ _ _ H _ I h=>Calls.Constant_str ⟨.str x,H,I.tok _,⟨_,rfl⟩,h⟩
def Gl (X:Cx) (x:Str):Prop:=X.env.kindOf x=some .globalImplicit
def qjt {E:Value->Ql->Prop}{pins:List (Addr×Obj)}{s:Ql}{σ:St}{H:Hp}{x:Str}{u:Value}{pos:Pos}{Q:Value->Ql->Prop} (I:Inv X pins σ H s) (hg:Gl X x) (hm:X.mg x=some u) (h:Q u s)
 (hd:Nd0 x:=by decide):wpAny (model X.prog X.w) X.A (eval (.Name x pos) X.env) Q E s :=
  Qdi I.ok.kind hg (Calls.loadGlobal_global (by rw [I.ok.glob];exact I.mod.glob.keeps I.bk) hm h) hd
def qlj {E:Value->Ql->Prop}{pins:List (Addr×Obj)}{s:Ql}{σ:St}{H:Hp}{x:Str}{u:Value}{pos:Pos}{Q:Value->Ql->Prop} (I:Inv X pins σ H s) (hg:Gl X x) (hm:X.mg x=none) (hv:Zq x=some u) (h:Q u s)
 (hn:x ≠ "__name__":=by decide) (hd:Nd0 x:=by decide):wpAny (model X.prog X.w) X.A (eval (.Name x pos) X.env) Q E s:=by
  obtain ⟨mb,h1,h2⟩:=I.mod.blt;exact Qdi I.ok.kind hg (Calls.loadGlobal_builtin (by rw [I.ok.glob];exact I.mod.glob.keeps I.bk) hm (by rw [I.ok.blt];exact h1.keeps I.bk) ((h2 x hn).trans hv) h) hd
def qqb {x:Str}{v:V}{u:Value}{pos:Pos} (hg:Gl X x) (hm:X.mg x=some u) (r:RelV v u) (hd:Nd0 x:=by decide):PE X (.Name x pos) (tC v) :=
 fun _ _ _ H _ I h=>qjt I hg hm ⟨v,H,I,r,h⟩ hd
def zabg {x:Str}{v:V}{u:Value}{pos:Pos} (hg:Gl X x) (hm:X.mg x=none) (hv:Zq x=some u) (r:RelV v u) (hn:x ≠ "__name__":=by decide) (hd:Nd0 x:=by decide):PE X (.Name x pos) (tC v) :=
 fun _ _ _ H _ I h=>qlj I hg hm hv ⟨v,H,I,r,h⟩ hn hd
variable {a b:Expr}{ta tb:TE}{pos:Pos}
def tB (t:TE):TT:=fun σ H Q=>t σ H fun x H1 => ∃ c,x = .bl c/\Q c H1
def zanr {e:Expr}{t:TE} (h:PE X e t) (he : ∀ whole,Qia e X.env whole=(do let v <- whole;Qfn e.pos;Qck [v] (truthy v)):=by intro _;rfl):PT X e (tB t):=by
 intro pins s σ H Q I hw;refine isTrue_plain (thn (h pins s σ H _ I hw) fun v s1 xx2=>?_) (he _);obtain ⟨x,H1,I1,r1,q1⟩:=xx2;obtain ⟨d,rfl,q⟩:=q1;cases r1;exact Yl ⟨H1,I1,q⟩
variable {tA tB':TT}{rest:List Expr}
def tAnd (t u:TT):TT:=fun σ H Q=>t σ H fun c H1=>if c=true then u σ H1 Q else Q false H1
def tOr (t u:TT):TT:=fun σ H Q=>t σ H fun c H1=>if c=true then Q true H1 else u σ H1 Q
def tNot (t:TT):TT:=fun σ H Q=>t σ H fun c H1=>Q (!c) H1
def zaip (ha:PT X a tA):PW X (.BoolOp .And [a] pos) tA:=by
 intro wh pins s σ H Q I h;refine isTrue_and (thn (ha pins s σ H Q I h) fun c s1 e=>?_);cases c with
 | true=>exact isTrue_and_nil e
 | false=>exact e
def zank (ha:PT X a tA):PW X (.BoolOp .Or [a] pos) tA:=by
 intro wh pins s σ H Q I h;refine isTrue_or (thn (ha pins s σ H Q I h) fun c s1 e=>?_);cases c with
 | false=>exact isTrue_or_nil e
 | true=>exact e
def zamz (ha:PT X a tA) (hb:PW X (.BoolOp .And (b::rest) pos) tB'):PW X (.BoolOp .And (a::b::rest) pos) (tAnd tA tB'):=by
 intro wh pins s σ H Q I h;refine isTrue_and (thn (ha pins s σ H _ I h) fun c s1 xx3=>?_);obtain ⟨H1,I1,q1⟩:=xx3;cases c with
 | true=>exact hb wh pins s1 σ H1 Q I1 q1
 | false=>exact ⟨H1,I1,q1⟩
def zaqm (ha:PT X a tA) (hb:PW X (.BoolOp .Or (b::rest) pos) tB'):PW X (.BoolOp .Or (a::b::rest) pos) (tOr tA tB'):=by
 intro wh pins s σ H Q I h;refine isTrue_or (thn (ha pins s σ H _ I h) fun c s1 xx4=>?_);obtain ⟨H1,I1,q1⟩:=xx4;cases c with
 | true=>exact ⟨H1,I1,q1⟩
 | false=>exact hb wh pins s1 σ H1 Q I1 q1
def zaom (ha:PT X a tA):PT X (.UnaryOp .Not a pos) (tNot tA):=by
 intro pins s σ H Q I h;exact isTrue_not (ha pins s σ H (fun c H1=>Q (!c) H1) I h)
def zars (ta tb:TE):TE:=fun σ H Q=>ta σ H fun x H1 => ∃ c,x = .bl c/\if c=true then tb σ H1 Q else Q (.bl false) H1
def tOrV (ta tb:TE):TE:=fun σ H Q=>ta σ H fun x H1 => ∃ c,x = .bl c/\if c=true then Q (.bl true) H1 else tb σ H1 Q
def zapz (ta:TE):TE:=fun σ H Q=>ta σ H fun x H1 => ∃ c,x = .bl c/\Q (.bl (!c)) H1
def zann {op}{t:TE} (h:PE X a t):PE X (.BoolOp op [a] pos) t:=fun pins s σ H Q I hw=>BoolOp_one (h pins s σ H Q I hw)
def zanm (ha:PE X a ta) (hb:PE X (.BoolOp .And (b::rest) pos) tb):PE X (.BoolOp .And (a::b::rest) pos) (zars ta tb):=by
 intro pins s σ H Q I h;refine BoolOp_and (thn (ha pins s σ H _ I h) fun v s1 xx5=>?_);obtain ⟨x,H1,I1,r1,q1⟩:=xx5;obtain ⟨c,rfl,q1⟩:=q1;cases r1;refine Yl ?_;cases c with
 | true=>exact hb pins s1 σ H1 Q I1 q1
 | false=>exact ⟨.bl false,H1,I1,rfl,q1⟩
def zari (ha:PE X a ta) (hb:PE X (.BoolOp .Or (b::rest) pos) tb):PE X (.BoolOp .Or (a::b::rest) pos) (tOrV ta tb):=by
 intro pins s σ H Q I h;refine BoolOp_or (thn (ha pins s σ H _ I h) fun v s1 xx6=>?_);obtain ⟨x,H1,I1,r1,q1⟩:=xx6;obtain ⟨c,rfl,q1⟩:=q1;cases r1;refine Yl ?_;cases c with
 | false=>exact hb pins s1 σ H1 Q I1 q1
 | true=>exact ⟨.bl true,H1,I1,rfl,q1⟩
def zaoc (ha:PE X a ta):PE X (.UnaryOp .Not a pos) (zapz ta):=by
 intro pins s σ H Q I h;refine UnaryOp_ (thn (ha pins s σ H _ I h) fun v s1 xx7=>?_);obtain ⟨x,H1,I1,r1,q1⟩:=xx7;obtain ⟨c,rfl,q1⟩:=q1;cases r1;exact not_of (Yl ⟨.bl (!c),H1,I1,rfl,q1⟩)
def tIf (t:TT) (ta tb:TE):TE:=fun σ H Q=>t σ H fun c H1=>if c=true then ta σ H1 Q else tb σ H1 Q
def zael {c:Expr} (hc:PT X c tA) (ha:PE X a ta) (hb:PE X b tb):PE X (.IfExp c a b pos) (tIf tA ta tb):=by
 intro pins s σ H Q I h;refine wpAny_IfExp (thn (hc pins s σ H _ I h) fun d s1 xx8=>?_);obtain ⟨H1,I1,q1⟩:=xx8;cases d with
 | true=>exact ha pins s1 σ H1 Q I1 q1
 | false=>exact hb pins s1 σ H1 Q I1 q1
end
end
section
def SqL (K:Qd) (H:Hp) (a:Addr) (xs:List V):Prop :=
 Rd H a (.lst xs) \/
  ∃ (o:Obj) (its:Array Value) (n:Nat),K.lookup a=some o/\o.cls = .type "list" /\ o.dict=none/\o.data = .seq its n/\its.size<=Qz/\Vals xs its.toList
def SqT (K:Qd) (H:Hp) (a:Addr) (xs:List V):Prop :=
 Rd H a (.tup xs) \/
  ∃ (o:Obj) (its:Array Value) (n:Nat),K.lookup a=some o/\o.cls = .type "tuple" /\ o.data = .seq its n/\its.size<=Qz/\Vals xs its.toList
def absV:Value->Option V
 | .none=>some .non
 | .bool b=>some (.bl b)
 | .int i _=>some (.int i)
 | .str x _=>some (.str x)
 | .bytes b _=>some (.byt b)
 | .float b _=>some (.flt b)
 | .ref a=>some (.ref a)
 | .type n=>some (.ty n)
 | _=>none
def RelV.abs {x:V}{u:Value} (r:RelV x u):absV u=some x:=by
 cases x with
 | non=>cases r;rfl
 | bl _=>cases r;rfl
 | int _=>obtain ⟨t,rfl⟩:=r;rfl
 | str _=>obtain ⟨t,rfl⟩:=r;rfl
 | byt _=>obtain ⟨t,rfl⟩:=r;rfl
 | flt _=>obtain ⟨t,rfl⟩:=r;rfl
 | ref _=>cases r;rfl
 | ty _=>cases r;rfl
def RelV.inj {x y:V}{u:Value} (r:RelV x u) (q:RelV y u):x=y:=Qx (r.abs.symm.trans q.abs)
def Vals.inj : ∀ {xs ys:List V}{us:List Value},Vals xs us->Vals ys us->xs=ys
 | _,_,_,.nil,.nil=>rfl
 | _,_,_,.cons r t,.cons r' t'=>by rw [r.inj r',Vals.inj t t']
section
variable {X:Cx}{pins:List (Addr×Obj)}{σ:St}{H:Hp}{s:Ql}{a:Addr}{xs ys:List V}
def SqL.of {K:Qd} (h:H a=some (.lst xs)):SqL K H a xs :=.inl (.inl h)
def SqT.of {K:Qd} (h:H a=some (.tup xs)):SqT K H a xs :=.inl (.inl h)
def Inv.list (I:Inv X pins σ H s) (h:SqL X.K H a xs) : ∃ its:List Value,Vals xs its/\PlainL s.heap a its.toArray/\xs.length<=Qz:=by
 rcases h with h|⟨o,its,n,hk,hc,hd,hs,hz,r⟩
 ·obtain ⟨z,its,n,r,e⟩:=h.ok I.hok;exact ⟨its,r,⟨_,n,e,rfl,rfl,rfl⟩,z⟩
 ·refine ⟨its.toList,r,⟨o,n,I.kIn a o hk,hc,hd,by simpa using hs⟩,?_⟩;have e:=r.length;simp only [Vz] at e;omega
def Inv.tuple (I:Inv X pins σ H s) (h:SqT X.K H a xs) : ∃ its:List Value,Vals xs its/\IsTup s.heap a its.toArray/\xs.length<=Qz:=by
 rcases h with h|⟨o,its,n,hk,hc,hs,hz,r⟩
 ·obtain ⟨z,its,r,p⟩:=h.ok I.hok;exact ⟨its,r,p,z⟩
 ·refine ⟨its.toList,r,⟨o,I.kIn a o hk,hc,n,by simpa using hs⟩,?_⟩;have e:=r.length;simp only [Vz] at e;omega
def Inv.list_inj (I:Inv X pins σ H s) (h:SqL X.K H a xs) (h':SqL X.K H a ys):xs=ys:=by
 obtain ⟨its,r,⟨o,n,e,_,_,d⟩,_⟩:=I.list h;obtain ⟨its',r',⟨o',n',e',_,_,d'⟩,_⟩:=I.list h';rw [e] at e';cases e';rw [d] at d';injection d' with d1 _;have:its=its':=by simpa using congrArg Qke d1
 subst this;exact r.inj r'
def Inv.tuple_inj (I:Inv X pins σ H s) (h:SqT X.K H a xs) (h':SqT X.K H a ys):xs=ys:=by
 obtain ⟨its,r,⟨o,e,_,n,d⟩,_⟩:=I.tuple h;obtain ⟨its',r',⟨o',e',_,n',d'⟩,_⟩:=I.tuple h';rw [e] at e';cases e';rw [d] at d';injection d' with d1 _;have:its=its':=by simpa using congrArg Qke d1
 subst this;exact r.inj r'
end
abbrev Cx.wish (X:Cx) (E:Value->Ql->Prop):Cx:={ X with xe:=E }
abbrev Cx.nox (X:Cx):Cx:=X.wish fun _ _=>False
def Cx.Ok.wish {X:Cx} (ok:X.Ok) (E:Value->Ql->Prop):(X.wish E).Ok :=
 ⟨ok.mod,ok.kind,ok.glob,ok.blt,ok.above,ok.inj,ok.has,ok.cab,ok.hd,ok.frames,ok.stk,ok.exf,ok.bs,ok.bsz,ok.noex,ok.exfs,ok.funs,ok.frf⟩
def Cx.Ok.unwish {X:Cx}{E:Value->Ql->Prop} (ok:(X.wish E).Ok):X.Ok :=
 ⟨ok.mod,ok.kind,ok.glob,ok.blt,ok.above,ok.inj,ok.has,ok.cab,ok.hd,ok.frames,ok.stk,ok.exf,ok.bs,ok.bsz,ok.noex,ok.exfs,ok.funs,ok.frf⟩
section
variable {X:Cx}{pins:List (Addr×Obj)}{σ:St}{H:Hp}{s:Ql}{E:Value->Ql->Prop}
def Inv.wish (I:Inv X pins σ H s) (E:Value->Ql->Prop):Inv (X.wish E) pins σ H s:=⟨I.ok.wish E,I.os,I.bare,I.base,I.loc,I.cell,I.free,I.freeC,I.pin,I.hok,I.len⟩
def Inv.unwish (I:Inv (X.wish E) pins σ H s):Inv X pins σ H s:=⟨I.ok.unwish,I.os,I.bare,I.base,I.loc,I.cell,I.free,I.freeC,I.pin,I.hok,I.len⟩
def SP.unwish {D:Ends}{f:Flow}{s':Ql} (h:SP (X.wish E) pins D f s'):SP X pins D f s':=by
 cases f with
 | next=>obtain ⟨σ',H',I,q⟩:=h;exact ⟨σ',H',I.unwish,q⟩
 | brk=>obtain ⟨σ',H',I,q⟩:=h;exact ⟨σ',H',I.unwish,q⟩
 | cont=>obtain ⟨σ',H',I,q⟩:=h;exact ⟨σ',H',I.unwish,q⟩
 | ret u=>obtain ⟨v,σ',H',I,r,q⟩:=h;exact ⟨v,σ',H',I.unwish,r,q⟩
def PSs.nox {st:List Stmt}{t:TS} (h:PSs X.nox st t):PSs X st t:=fun pins s σ H D I hw =>
 Yw (h pins s σ H D (I.wish _) hw) (fun _ _ q=>q.unwish) fun _ _ z=>Zd z
end
section
variable {X:Cx}{st:Stmt}{rest:List Stmt}{t u:TS}{e:Expr}{te:TE}{pos:Pos}
def zare:TS:=fun D σ H=>D.nx σ H
def tSeq (t u:TS):TS:=fun D σ H=>t { D with nx:=u D } σ H
def zabp:PSs X [] zare:=fun _ _ σ H _ I h=>Qdh ⟨σ,H,I,h⟩
def qM (h1:PS X st t) (h2:PSs X rest u):PSs X (st::rest) (tSeq t u):=by
 intro pins s σ H D I h;refine wpAny_execs_cons (thn (h1 pins s σ H { D with nx:=u D } I h) fun f s1 q=>?_);cases f with
 | next =>
  obtain ⟨σ',H',I',q⟩:=q;exact h2 pins s1 σ' H' D I' q
 | ret v=>exact q
 | brk=>exact q
 | cont=>exact q
def qhw (h1:PS X st t):PSs X [st] t:=by
 intro pins s σ H D I h;refine wpAny_execs_cons (thn (h1 pins s σ H D I h) fun f s1 q=>?_);cases f with
 | next=>exact Qdh q
 | ret v=>exact q
 | brk=>exact q
 | cont=>exact q
def Inv.quiet {pins:List (Addr×Obj)}{σ:St}{H:Hp}{s:Ql} (I:Inv X pins σ H s):interactive X.env=false:=by simp [interactive,I.ok.kind]
def zarn (te:TE):TS:=fun D σ H=>te σ H fun _ H1=>D.nx σ H1
def qhv (he:PE X e te) (hs:Vm e none pos.line X.env=pure false:=by rfl):PS X (.Expr e pos) (zarn te):=by
 intro pins s σ H D I h;exact wpAny_Expr_any (thn (he pins s σ H _ I h) fun v s1 xx11=>by obtain ⟨x,H1,I1,r1,q1⟩:=xx11;exact ⟨σ,H1,I1,q1⟩) I.quiet hs
def tRet (te:TE):TS:=fun D σ H=>te σ H D.rt
def qog (he:PE X e te):PS X (.Return (some e) pos) (tRet te):=by
 intro pins s σ H D I h;exact wpAny_Return_some (thn (he pins s σ H _ I h) fun v s1 xx12=>by obtain ⟨x,H1,I1,r1,q1⟩:=xx12;exact ⟨x,σ,H1,I1,r1,q1⟩)
def tIfS (c:TT) (t u:TS):TS:=fun D σ H=>c σ H fun b H1=>if b=true then t D σ H1 else u D σ H1
def zain {c:Expr}{a b:List Stmt}{tc:TT} (hc:PT X c tc) (ha:PSs X a t) (hb:PSs X b u):PS X (.If c a b pos) (tIfS tc t u):=by
 intro pins s σ H D I h;refine wpAny_If (thn (hc pins s σ H _ I h) fun d s1 xx13=>?_);obtain ⟨H1,I1,q1⟩:=xx13;cases d with
 | true=>exact ha pins s1 σ H1 D I1 q1
 | false=>exact hb pins s1 σ H1 D I1 q1
def zapf:TS:=fun _ _ _=>False
def zadl {sts:List Stmt}:PSs X sts zapf:=fun _ _ _ _ _ _ h=>h.elim
end
abbrev TG:=V->St->Hp->(St->Hp->Prop)->Prop
abbrev TGs:=List V->St->Hp->(St->Hp->Prop)->Prop
def PG (X:Cx) (target:Expr) (t:TG):Prop :=
 ∀ (pins:List (Addr×Obj)) (s:Ql) (σ:St) (H:Hp) (v:V) (u:Value) (Q:St->Hp->Prop),Inv X pins σ H s->RelV v u->t v σ H Q ->
  wpAny (model X.prog X.w) X.A (Qcm target X.env u) (fun _ s' => ∃ σ' H',Inv X pins σ' H' s'/\Q σ' H') X.xe s
def PGs (X:Cx) (ts:List Expr) (t:TGs):Prop :=
 ∀ (pins:List (Addr×Obj)) (s:Ql) (σ:St) (H:Hp) (vs:List V) (us:List Value) (Q:St->Hp->Prop),Inv X pins σ H s->Vals vs us->t vs σ H Q ->
  wpAny (model X.prog X.w) X.A (Qhd ((Jn ts X.env).map (·.2)) us) (fun _ s' => ∃ σ' H',Inv X pins σ' H' s'/\Q σ' H') X.xe s
abbrev TSet:=V->V->V->Hp->(Hp->Prop)->Prop
def PSet (X:Cx) (t:TSet):Prop :=
 ∀ (pins:List (Addr×Obj)) (s:Ql) (σ:St) (H:Hp) (o i v:V) (ov iv u:Value) (Q:Hp->Prop),Inv X pins σ H s->RelV o ov->RelV i iv->RelV v u->t o i v H Q ->
  wpAny (model X.prog X.w) X.A (setItem ov iv u) (fun _ s' => ∃ H',Inv X pins σ H' s'/\Q H') X.xe s
section
variable {X:Cx}{pos:Pos}
def qyt (i:Nat):TG:=fun v σ H Q=>Q (σ.set i (some v)) H
def zakp {i:Nat}{x:Str} (hN:X.N.Nodup) (hi:X.N[i]?=some x) (hx:Loc X.env.scope x) (hf:X.fn x=true\/X.env.scope.names.lookup x=some .local:=by first|exact .inl rfl|exact .inr rfl|assumption):PG X (.Name x pos) (qyt i):=by
 intro pins s σ H v u Q I r h;exact Qeg (qfr I hN hi hx r (fun s' I'=>⟨_,H,I',h⟩) hf)
def gNil:TGs:=fun vs σ H Q=>vs=[]/\Q σ H
def zaqw (t:TG) (u:TGs):TGs:=fun vs σ H Q => ∃ v r,vs=v::r/\t v σ H fun σ' H'=>u r σ' H' Q
def zajk:PGs X [] gNil:=by
 intro pins s σ H vs us Q I r h;obtain ⟨e,h⟩:=h;subst e;cases r;exact assignInOrder_nil ⟨σ,H,I,h⟩
def zaff {e:Expr}{es:List Expr}{t:TG}{u:TGs} (h1:PG X e t) (h2:PGs X es u)
 (hs:(Jn (e::es) X.env).map (·.2)=Qcm e X.env::(Jn es X.env).map (·.2):=by rfl):PGs X (e::es) (zaqw t u):=by
  intro pins s σ H vs us Q I r h;obtain ⟨v,vr,e1,h⟩:=h;subst e1;cases r with
  | cons r rr =>
   rw [hs];refine Qdo (thn (h1 pins s σ H _ _ _ I r h) fun _ s1 xx14=>?_);obtain ⟨σ1,H1,I1,q1⟩:=xx14;exact h2 pins s1 σ1 H1 _ _ Q I1 rr q1
def gTup (K:Qd) (n:Nat) (t:TGs):TG:=fun v σ H Q => ∃ a xs,v = .ref a/\SqT K H a xs/\xs.length=n/\t xs σ H Q
def zanf {es:List Expr}{k:Nat}{t:TGs}{n:Nat} (hc:X.calm=true) (h:PGs X es t)
 (hn:(Jn es X.env).length=n:=by rfl) (hst:(Jn es X.env).findIdx? (·.1)=none:=by rfl):PG X (.Tuple es k pos) (gTup X.K n t):=by
  intro pins s σ H v u Q I r hw;obtain ⟨a,xs,e1,hq,hl,hw⟩:=hw;subst e1;cases r;obtain ⟨its,rv,ht,hz⟩:=I.tuple hq;refine assign_Tuple_tuple (I.ok.hd hc) ht (by simp [hn,<- hl,rv.length]) hst fun h' hx=>?_;have I1:Inv X pins σ H { s with heap:=h' }:=I.kept (t':=s.toks) fun b o e=>hx b o (Q5 (Qt e)) e;exact h pins _ σ H xs _ Q I1 (by simpa using rv) hw
def gSub (to ti:TE) (t:TSet):TG:=fun v σ H Q=>to σ H fun o H1=>ti σ H1 fun i H2=>t o i v H2 fun H3=>Q σ H3
def zahv {o i:Expr}{to ti:TE}{t:TSet} (ho:PE X o to) (hi:PE X i ti) (hs:PSet X t)
 (ha : ∀ v,Qcm (.Subscript o i pos) X.env v=(do
 let ov <- Qck [v] (eval o X.env)
 let iv <- Qck [v,ov] (eval i X.env)
 Qfn pos
 Qck [v,ov,iv] (setItem ov iv v)
 release [v,ov,iv] []):=by intro _;rfl):PG X (.Subscript o i pos) (gSub to ti t):=by
  intro pins s σ H v u Q I r h;rw [ha];refine Qi (Qhf (thn (ho pins s σ H _ I h) fun ov s1 xx17=>?_));obtain ⟨x,H1,I1,r1,q1⟩:=xx17;refine Qi (Qhf (thn (hi pins s1 σ H1 _ I1 q1) fun iv s2 xx16=>?_));obtain ⟨y,H2,I2,r2,q2⟩:=xx16;refine Qi (Qbp (Qi (Qhf (thn (hs pins s2 σ H2 x y v ov iv u _ I2 r1 r2 r q2) fun _ s3 xx15=>?_))));obtain ⟨H3,I3,q3⟩:=xx15;exact wpAny_release ⟨σ,H3,I3,q3⟩
def tAsg (te:TE) (g:TG):TS:=fun D σ H=>te σ H fun x H1=>g x σ H1 D.nx
def qzj {tg e:Expr}{te:TE}{g:TG} (he:PE X e te) (hg:PG X tg g) (hs:Qcv [tg] e pos.line X.env=pure false:=by rfl) (hw:Qcu [tg] e X.env=pure none:=by rfl)
 (h1:(Jn [tg] X.env).map (·.2)=[Qcm tg X.env]:=by rfl):PS X (.Assign [tg] e pos) (tAsg te g):=by
 intro pins s σ H D I h;refine wpAny_Assign_stores (thn (he pins s σ H _ I h) fun v s1 xx18=>?_) hs hw;obtain ⟨x,H1,I1,r1,q1⟩:=xx18;rw [h1];exact thn (hg pins s1 σ H1 x v _ I1 r1 q1) fun _ s2 q=>q
def qgo {i:Nat}{x:Str}{e:Expr}{te:TE}{pos':Pos} (hN:X.N.Nodup) (hi:X.N[i]?=some x) (hx:Loc X.env.scope x) (he:PE X e te) (hs:Vm e (some (.Name x pos')) pos.line X.env=pure false:=by rfl) (hf:X.fn x=true\/X.env.scope.names.lookup x=some .local:=by first|exact .inl rfl|exact .inr rfl|assumption) :
 PS X (.Assign [.Name x pos'] e pos) (tAsg te (qyt i)):=by
 intro pins s σ H D I h;refine wpAny_Assign_Name (thn (he pins s σ H _ I h) fun v s1 xx19=>?_) hs;obtain ⟨y,H1,I1,r1,q1⟩:=xx19;exact qfr I1 hN hi hx r1 (fun s2 I2=>⟨_,H1,I2,q1⟩) hf
def tPar (i j:Nat) (ta:TA):TS:=fun D σ H=>ta σ H fun vs H1 => ∃ v w,vs=[v,w]/\D.nx ((σ.set i (some v)).set j (some w)) H1
def zaoj {i j:Nat}{x y:Str}{a b:Expr}{ta:TA}{px py pt:Pos}{kt k2 pt2} (hc:X.calm=true) (hN:X.N.Nodup) (hi:X.N[i]?=some x) (hj:X.N[j]?=some y) (hij:i≠j)
 (hx:X.env.scope.names.lookup x=some .local) (hy:X.env.scope.names.lookup y=some .local) (ha:PA X [a,b] ta)
 (hw:Qcu [.Tuple [.Name x px,.Name y py] kt pt] (.Tuple [a,b] k2 pt2) X.env=pure (some [x,y]))
 (hs:Qcv [.Tuple [.Name x px,.Name y py] kt pt] (.Tuple [a,b] k2 pt2) pos.line X.env=pure false:=by rfl) :
  PS X (.Assign [.Tuple [.Name x px,.Name y py] kt pt] (.Tuple [a,b] k2 pt2) pos) (tPar i j ta):=by
  intro pins s σ H D I h;rw [exec_Assign_arm];refine Qi (Qbp ?_);rw [hs];refine Qi (Q9 ?_);rw [if_neg (by decide)];refine Qi (Tuple_ (thn (ha _ pins s σ H _ I h) fun us s1 xx20=>?_));obtain ⟨vs,H1,I1,r1,q1⟩:=xx20;obtain ⟨v,w,e1,q1⟩:=q1;subst e1;obtain ⟨u1,u2,rfl,rv,rw'⟩ : ∃ u1 u2,us=[u1,u2]/\RelV v u1/\RelV w u2:=by
   cases r1 with
   | cons p q =>
    cases q with
    | cons p' q' =>
     cases q';exact ⟨_,_,rfl,p,p'⟩
  refine Qcb ?_ (by show 2<=Qz;decide);have I2:Inv X pins σ H1 { s1 with heap:=s1.heap.push { cls :=.type "tuple",data :=.seq [u1,u2].toArray } }:=I1.kept (t':=s1.toks) fun b o e=>Qj _ e;rw [hw];refine Qi (Q9 ?_);show wpAny (model X.prog X.w) X.A (do rule "assign.swapped-stores";let items <- unpackItems (.ref s1.heap.objs.size) 2 none;Qhd [fun v=>Qio X.env y v,fun v=>Qio X.env x v] items.reverse;pure Flow.next) _ _ _;refine Qi (Qfq (Qi (unpackItems_tuple (items := #[u1,u2]) (I.ok.hd hc) (Qkf s1.heap _) fun h' hx'=>?_)));have I3:=I2.kept (h':=h') (t':=s1.toks) fun b o e=>hx' b o (Q5 (Qt e)) e;show wpAny _ _ (Qhd [fun v=>Qio X.env y v,fun v=>Qio X.env x v] [u2,u1] >>= fun _=>pure Flow.next) _ _ _;refine Qi (Qdo (wpAny_bindName (qfr I3 hN hj (.inl hy) rw' (fun s2 I4=>?_) (.inr hy))));refine Qdo (wpAny_bindName (qfr I4 hN hi (.inl hx) rv (fun s3 I5=>assignInOrder_nil (Q9 ?_)) (.inr hx)));rw [List.set_comm _ _ (Z1 hij)] at I5;exact ⟨_,H1,I5,q1⟩
end
section
variable {X:Cx}{pos:Pos}
def zaoz (c:TT) (tb:TS):TS:=fun D σ H => ∃ W:Nat->St->Hp->Prop,(∃ m,W m σ H) /\ ∀ m σ H,W m σ H ->
 c σ H fun b H1=>if b=true then ∃ N:St->Hp->Prop,(∀ σ' H',N σ' H' -> ∃ m',m'<m/\W m' σ' H')/\tb { D with nx:=N,ct:=N,bk:=D.nx } σ H1 else D.nx σ H1
def qxb {c:Expr}{body:List Stmt}{tc:TT}{tb:TS} (hp:Qhb (model X.prog X.w) X.A X.env X.xe) (hc:PT X c tc) (hb:PSs X body tb):PS X (.While c body [] pos) (zaoz tc tb):=by
 intro pins s σ H D I h;obtain ⟨W,⟨m0,w0⟩,turn⟩:=h;refine wpAny_While (codeAny_whileLoop (fun n s' => ∃ σ' H',Inv X pins σ' H' s'/\W n σ' H') ?_ m0 ⟨σ,H,I,w0⟩);rintro n s1 ⟨σ1,H1,I1,w1⟩;refine Jo hp (thn (hc pins s1 σ1 H1 _ I1 (turn n σ1 H1 w1)) fun b s2 xx21=>?_);obtain ⟨H2,I2,q2⟩:=xx21;cases b with
 | true =>
  obtain ⟨N,hN,q2⟩:=q2;rw [if_pos rfl];refine Jo hp (thn (hb pins s2 σ1 H2 _ I2 q2) fun f s3 q3=>?_);cases f with
  | next =>
   obtain ⟨σ3,H3,I3,n3⟩:=q3;obtain ⟨m',hm,w3⟩:=hN σ3 H3 n3;exact ⟨m',hm,σ3,H3,I3,w3⟩
  | cont =>
   obtain ⟨σ3,H3,I3,n3⟩:=q3;obtain ⟨m',hm,w3⟩:=hN σ3 H3 n3;exact ⟨m',hm,σ3,H3,I3,w3⟩
  | brk=>exact q3
  | ret v=>exact q3
 | false =>
  rw [if_neg Zn];exact Qdh ⟨σ1,H2,I2,q2⟩
end
structure It where
 go:Nat->Hp->Prop
 yld:Nat->Hp->V->Hp->Prop
 stop:Nat->Hp->Prop
def FpOk (X:Cx) (pins:List (Addr×Obj)) (H:Hp) (b:Addr):Prop :=
 H b=none/\b≠X.env.locals/\b ∉ X.fs/\(b ∈ X.ex\/X.s₀.heap.objs.size<=b)/\(∀ x c,X.env.cells.lookup x=some c->c≠b) /\ ∀ p ∈ X.pn++pins,p.1≠b
def Inv.fpOk {X:Cx}{pins:List (Addr×Obj)}{σ:St}{H H':Hp}{s:Ql}{b:Addr} (I:Inv X pins σ H s) (hb:s.heap.objs.size<=b) (hn:H' b=none):FpOk X pins H' b:=by
 refine ⟨hn,Z8 (Zs I.lt hb),I.nofs hb,.inr (Z7 I.sz hb),fun x c e z=>?_,fun p hp z=>?_⟩
 ·obtain ⟨v,q⟩:=I.cell x c e;exact absurd (Zs q.lt (by rw [z];exact hb)) (V6 _)
 ·exact absurd (Zs (Qt (I.pin p hp).1) (by rw [z];exact hb)) (V6 _)
structure Turn (P:Zr) (w:World) (K:Qd) (tg:Expr) (J:It) (fp:List Addr) (it:Addr) (tn:Nat->Heap->Prop):Prop where
 mem:it ∈ fp
 obj : ∀ i h,tn i h -> ∀ b ∈ fp,∃ o,h.get? b=some o /\ ∀ v,o.data ≠ .cell v
 keep : ∀ i h h',tn i h->(∀ b ∈ fp,∀ o,h.get? b=some o->h'.get? b=some o)->tn i h'
 item : ∀ (X:Cx),X.prog=P->X.w=w->X.K=K->X.calm=true -> ∀ (i:Nat) (pins:List (Addr×Obj)) (s:Ql) (σ:St) (H:Hp) (E:Value->Ql->Prop),Inv X pins σ H s->(∀ b ∈ fp,FpOk X pins H b)->tn i s.heap->J.go i H ->
  wpAny (model P w) X.A (Qet (.ref it)) (fun r s1 => ∃ u,r=some u /\
   wpAny (model P w) X.A (Qaa tg (.ref it) u) (fun _ s2 => ∃ x H',Inv X pins σ H' s2/\RelV x u/\J.yld i H x H'/\tn (i+1) s2.heap /\ ∀ b ∈ fp,H' b=none) E s1) E s
 done : ∀ (X:Cx),X.prog=P->X.w=w->X.K=K->X.calm=true -> ∀ (i:Nat) (pins:List (Addr×Obj)) (s:Ql) (σ:St) (H:Hp) (E:Value->Ql->Prop),Inv X pins σ H s->(∀ b ∈ fp,FpOk X pins H b)->tn i s.heap->J.stop i H ->
  wpAny (model P w) X.A (Qet (.ref it)) (fun r s1=>r=none/\Inv X pins σ H s1) E s
 self : ∀ (A:Ye) (i:Nat) (s:Ql) (Q:Value->Ql->Prop) (E:Value->Ql->Prop),tn i s.heap->Q (.ref it) s->wpAny (model P w) A (pyIter (.ref it)) Q E s
abbrev TI:=St->Hp->(It->Hp->Prop)->Prop
def PIE (X:Cx) (pins:List (Addr×Obj)) (σ:St) (tg:Expr) (R:It->Hp->Prop) (itv:Value) (s2:Ql):Prop :=
 ∃ (it:Addr) (fp:List Addr) (tn:Nat->Heap->Prop) (J:It) (H':Hp),itv = .ref it/\Inv X pins σ H' s2/\Turn X.prog X.w X.K tg J fp it tn/\tn 0 s2.heap/\(∀ b ∈ fp,FpOk X pins H' b)/\R J H'
def PI (X:Cx) (tg iter:Expr) (wi:TI):Prop :=
 ∀ (pins:List (Addr×Obj)) (s:Ql) (σ:St) (H:Hp) (R:It->Hp->Prop),Inv X pins σ H s->wi σ H R ->
  wpAny (model X.prog X.w) X.A (eval iter X.env) (fun v s1=>wpAny (model X.prog X.w) X.A (pyIter v) (PIE X pins σ tg R) X.xe s1) X.xe s
def zaii {M:Model}{A:Ye}{E:Value->Ql->Prop}{s:Ql}{tg:Expr}{it:Addr}{u:Value}{o:Obj}{n:String}{vs:Array Value}{Q:Unit->Ql->Prop} (ho:s.heap.get? it=some o) (hc:o.cls = .type n) (hd:o.data = .fields vs)
 (hn:["enumerate","zip","dict_itemiterator","dict_reverseitemiterator","odict_iterator","itertools.zip_longest","itertools.pairwise"].contains n=false) (hQ:Q () s):wpAny M A (Qaa tg (.ref it) u) Q E s:=by
  unfold Qaa;cases tg <;> first
   | exact Q9 hQ
   | (cases u <;> first
    | exact Q9 hQ
    | (refine Qi (wpAny_load ho ?_)
       rw [hc,hd];show wpAny M A (if (["enumerate","zip","dict_itemiterator","dict_reverseitemiterator","odict_iterator","itertools.zip_longest","itertools.pairwise"].contains n&&vs[0]?==some (Qge _))=true then _ else _) Q E s;rw [if_neg (by intro h;rw [hn,Bool.false_and] at h;cases h)];exact Q9 hQ))
def Itl (K:Qd) (a:Addr):It :=
 ⟨fun i H => ∃ xs x,SqL K H a xs/\xs[i]?=some x,fun i H x H'=>H'=H /\ ∀ xs,SqL K H a xs->xs[i]?=some x,fun i H => ∃ xs,SqL K H a xs/\xs.length<=i⟩
def Itt (K:Qd) (a:Addr):It :=
 ⟨fun i H => ∃ xs x,SqT K H a xs/\xs[i]?=some x,fun i H x H'=>H'=H /\ ∀ xs,SqT K H a xs->xs[i]?=some x,fun i H => ∃ xs,SqT K H a xs/\xs.length<=i⟩
def Itr (lo:Int) (n:Nat):It:=⟨fun i _=>i<n,fun i H x H'=>H'=H/\x = .int (lo+i),fun i _=>n<=i⟩
def zadj {P:Zr}{w:World}{K:Qd}{tg:Expr} (a it:Addr):Turn P w K tg (Itl K a) [it] it (fun i h=>h.IsListIter it a i) where
 mem:=by simp
 obj:=fun i h st b hb=>by
  have e:b=it:=by simpa using hb
  subst e;obtain ⟨o,e,c,d⟩:=st;exact ⟨o,e,fun v z=>by rw [d] at z;cases z⟩
 keep:=fun i h h' st k=>st.at fun o e=>k it (by simp) o e
 item:=by
  intro X hP hw hK hc i pins s σ H E I hf st hg;subst hP hw hK;obtain ⟨xs,x,hq,hx⟩:=hg;obtain ⟨its,rv,p,hz⟩:=I.list hq;obtain ⟨u,hu,ru⟩:=rv.get hx;obtain ⟨f0,f1,f2,f3,f4,f5⟩:=hf it (by simp);refine wpAny_pyNext_list_item st p.isList (x:=u) (by simpa using hu) fun h' st' sb=>?_;have I1:Inv X pins σ H { s with heap:=h' }:=I.turned (t':=s.toks) (fun b o hb e=>(sb.2 b hb).trans e) f0 f1 f3 f4 f5;obtain ⟨o,e,c,d⟩:=id st';exact ⟨u,rfl,zaii (s:={ s with heap:=h' }) e c d (by decide) ⟨x,H,I1,ru,⟨rfl,fun ys hy=>by rw [I.list_inj hy hq];exact hx⟩,st',fun b hb=>(hf b hb).1⟩⟩
 done:=by
  intro X hP hw hK hc i pins s σ H E I hf st hg;subst hP hw hK;obtain ⟨xs,hq,hx⟩:=hg;obtain ⟨its,rv,p,hz⟩:=I.list hq;obtain ⟨f0,f1,f2,f3,f4,f5⟩:=hf it (by simp);have hl:=rv.length;exact wpAny_pyNext_list_end (I.ok.hd hc) st p.isList (by simp;omega) fun h' eb=>⟨rfl,I.turned (t':=s.toks) (fun b o hb e=>eb b o hb e) f0 f1 f3 f4 f5⟩
 self:=fun _ _ _ _ _ st h=>wpAny_pyIter_listiter st h
def qyf {P:Zr}{w:World}{K:Qd}{tg:Expr} (a it:Addr):Turn P w K tg (Itt K a) [it] it (fun i h=>h.IsTupleIter it a i) where
 mem:=by simp
 obj:=fun i h st b hb=>by
  have e:b=it:=by simpa using hb
  subst e;obtain ⟨o,e,c,d⟩:=st;exact ⟨o,e,fun v z=>by rw [d] at z;cases z⟩
 keep:=fun i h h' st k=>st.at fun o e=>k it (by simp) o e
 item:=by
  intro X hP hw hK hc i pins s σ H E I hf st hg;subst hP hw hK;obtain ⟨xs,x,hq,hx⟩:=hg;obtain ⟨its,rv,p,hz⟩:=I.tuple hq;obtain ⟨u,hu,ru⟩:=rv.get hx;obtain ⟨f0,f1,f2,f3,f4,f5⟩:=hf it (by simp);refine wpAny_pyNext_tuple_item st (show s.heap.IsTuple a its.toArray from p) (x:=u) (by simpa using hu) fun h' st' sb=>?_;have I1:Inv X pins σ H { s with heap:=h' }:=I.turned (t':=s.toks) (fun b o hb e=>(sb.2 b hb).trans e) f0 f1 f3 f4 f5;obtain ⟨o,e,c,d⟩:=id st';exact ⟨u,rfl,zaii (s:={ s with heap:=h' }) e c d (by decide) ⟨x,H,I1,ru,⟨rfl,fun ys hy=>by rw [I.tuple_inj hy hq];exact hx⟩,st',fun b hb=>(hf b hb).1⟩⟩
 done:=by
  intro X hP hw hK hc i pins s σ H E I hf st hg;subst hP hw hK;obtain ⟨xs,hq,hx⟩:=hg;obtain ⟨its,rv,p,hz⟩:=I.tuple hq;obtain ⟨f0,f1,f2,f3,f4,f5⟩:=hf it (by simp);have hl:=rv.length;exact wpAny_pyNext_tuple_end (I.ok.hd hc) st (show s.heap.IsTuple a its.toArray from p) (by simp;omega) fun h' eb=>⟨rfl,I.turned (t':=s.toks) (fun b o hb e=>eb b o hb e) f0 f1 f3 f4 f5⟩
 self:=fun _ _ _ _ _ st h=>wpAny_pyIter_tupleiter st h
def qxt {P:Zr}{w:World}{K:Qd}{tg:Expr} (it:Addr) (lo:Int) (n:Nat):Turn P w K tg (Itr lo n) [it] it (fun i h=>IsRangeIter h it (lo+(i:Nat)*1) ((n:Int)-(i:Nat)) 1) where
 mem:=by simp
 obj:=fun i h st b hb=>by
  have e:b=it:=by simpa using hb
  subst e;exact ⟨_,st,fun v z=>by
   have z':Qgg _=Qez v:=z;cases z'⟩
 keep:=fun i h h' st k=>k it (by simp) _ st
 item:=by
  intro X hP hw hK hc i pins s σ H E I hf st hg;subst hP hw hK;obtain ⟨f0,f1,f2,f3,f4,f5⟩:=hf it (by simp);have W:=Walks.range (prog:=X.prog) (w:=X.w) (I.ok.hd hc) it lo 1 n;refine W.item i s _ _ hg st fun v h' tk hv st' kk=>?_;obtain ⟨t,rfl⟩:=hv;have I1:Inv X pins σ H { s with heap:=h',toks:=tk }:=I.turned (fun b o hb e=>kk b o (by simpa using hb) e) f0 f1 f3 f4 f5;refine ⟨_,rfl,zaii (s:={ s with heap:=h',toks:=tk }) (n := "range_iterator") st' rfl rfl (by decide) ⟨.int (lo+i),H,I1,⟨t,?_⟩,⟨rfl,rfl⟩,st',fun b hb=>(hf b hb).1⟩⟩;rw [Qir]
 done:=by
  intro X hP hw hK hc i pins s σ H E I hf st hg;subst hP hw hK;obtain ⟨f0,f1,f2,f3,f4,f5⟩:=hf it (by simp);exact wpAny_pyNext_range_end (I.ok.hd hc) st (by have:n<=i:=hg;omega) fun h' eb=>⟨rfl,I.turned (t':=s.toks) (fun b o hb e=>eb b o hb e) f0 f1 f3 f4 f5⟩
 self:=fun _ _ _ _ _ st h=>wpAny_pyIter_rangeiter st h
end
section
section
variable {X:Cx}{tg:Expr}
def zafr {pins:List (Addr×Obj)}{σ:St}{H:Hp}{s:Ql}{R:It->Hp->Prop}{E:Value->Ql->Prop}{lo hi:Int}{t u v:Tok}{tk:Nat} (I:Inv X pins σ H s) (h1 : -(2^62)<=lo) (h2:lo<2^62) (h3 : -(2^62)<=hi) (h4:hi<2^62)
 (q:R (Itr lo (hi-lo).toNat) H):wpAny (model X.prog X.w) X.A (pyIter (.ref s.heap.objs.size)) (PIE X pins σ tg R) E { s with heap:=s.heap.push { cls :=.type "range",data :=.fields #[.int lo t,.int hi u,.int 1 v] },toks:=tk }:=by
  refine wpAny_pyIter_range (IsRange.new ..) (small_one h1 h2 h3 h4) ?_;have I1:Inv X pins σ H { s with heap:=s.heap.push { cls :=.type "range",data :=.fields #[.int lo t,.int hi u,.int 1 v] },toks:=tk }:=I.kept fun b o e=>Qj _ e;refine ⟨(s.heap.push { cls :=.type "range",data :=.fields #[.int lo t,.int hi u,.int 1 v] }).objs.size,[(s.heap.push { cls :=.type "range",data :=.fields #[.int lo t,.int hi u,.int 1 v] }).objs.size],_,_,H,rfl,
   I1.kept (t':=tk) fun b o e=>Qj _ e,qxt _ lo (hi-lo).toNat,?_,fun b hb=>?_,q⟩
  ·have e1:lo+((0:Nat):Int)*1=lo:=by simp
   have e2:(((hi-lo).toNat:Nat):Int)-((0:Nat):Int)=Qjw lo hi 1:=by rw [rangeSize_one];split <;> omega
   show IsRangeIter _ _ (lo+((0:Nat):Int)*1) ((((hi-lo).toNat:Nat):Int)-((0:Nat):Int)) 1;rw [e1,e2];exact Q2 _ rfl
  ·have e:b=(s.heap.push { cls :=.type "range",data :=.fields #[.int lo t,.int hi u,.int 1 v] }).objs.size:=by simpa using hb
   subst e;exact I1.fpOk (Qs _) (I1.hok.fresh (Qs _))
def zaqg (ta:TA):TI:=fun σ H R=>ta σ H fun vs H1 => ∃ j:Int,vs=[.int j] /\ -(2^62)<=j/\j<2^62/\R (Itr 0 j.toNat) H1
def zabv {a:Expr}{ta:TA}{p pos:Pos} (hg:Gl X "range") (hm:X.mg "range" = none) (ha:PA X [a] ta) (hs:Qp [a] X.env=[(false,eval a X.env)]:=by rfl):PI X tg (.Call (.Name "range" p) [a] [] pos) (zaqg ta):=by
 intro pins s σ H R I h;refine Call_ (qlj I hg hm boot_range (Y6 (thn (ha pos pins s σ H _ I h) fun us s1 xx22=>?_) hs rfl));obtain ⟨vs,H1,I1,r1,q1⟩:=xx22;obtain ⟨j,e,q1,q2,q⟩:=q1;subst e;cases r1 with
 | cons r rr =>
  cases rr;obtain ⟨t,rfl⟩:=r;exact call_range_1 (zafr I1 (by omega) (by omega) q1 q2 (by simpa using q))
def tFor (wi:TI) (g:TG) (tb:TS):TS:=fun D σ H=>wi σ H fun J H1 => ∃ W:Nat->Nat->St->Hp->Prop,(∃ m,W 0 m σ H1) /\ ∀ i m σ H,W i m σ H ->
 (J.stop i H/\D.nx σ H)\/(J.go i H /\ ∃ N:St->Hp->Prop,(∀ σ' H',N σ' H' -> ∃ m',m'<m/\W (i+1) m' σ' H') /\ ∀ x H',J.yld i H x H'->g x σ H' fun σ2 H2=>tb { D with nx:=N,ct:=N,bk:=D.nx } σ2 H2)
def qux (fp:List Addr) (h:Heap):List (Addr×Obj):=fp.filterMap fun b=>(h.get? b).map fun o=>(b,o)
def qhf {fp:List Addr}{h:Heap}{b:Addr}{o:Obj} (hb:b ∈ fp) (e:h.get? b=some o):(b,o) ∈ qux fp h:=Qdk.mpr ⟨b,hb,by rw [e];rfl⟩
def zadb {fp:List Addr}{h:Heap}{p:Addr×Obj} (hp:p ∈ qux fp h):p.1 ∈ fp/\h.get? p.1=some p.2:=by
 obtain ⟨b,hb,e⟩:=Qdk.mp hp;cases q:h.get? b with
 | none=>rw [q] at e;cases e
 | some o =>
  rw [q] at e;have e':(b,o)=p:=Qx e;subst e';exact ⟨hb,q⟩
def Inv.pinned {pins:List (Addr×Obj)}{σ:St}{H:Hp}{s:Ql}{fp:List Addr} (I:Inv X pins σ H s) (hf : ∀ b ∈ fp,FpOk X pins H b) (ho : ∀ b ∈ fp,∃ o,s.heap.get? b=some o /\ ∀ v,o.data ≠ .cell v):Inv X (pins++qux fp s.heap) σ H s :=
 I.pins_of fun p hp=>(Ze.mp hp).elim (fun z=>I.pin p (Q7 _ z)) fun z=>by
  obtain ⟨hb,e⟩:=zadb z;obtain ⟨f0,f1,f2,_⟩:=hf p.1 hb;obtain ⟨o,e',d⟩:=ho p.1 hb;rw [e] at e';cases e';exact ⟨e,f0,f1,f2,d⟩
def Inv.unpinned {pins pl:List (Addr×Obj)}{σ:St}{H:Hp}{s:Ql} (I:Inv X (pins++pl) σ H s):Inv X pins σ H s:=I.pins_of fun p hp=>I.pin p (Q7 _ (Ya _ hp))
def zahj {iter:Expr}{body:List Stmt}{wi:TI}{g:TG}{tb:TS}{pos:Pos} (hp:Qhb (model X.prog X.w) X.A X.env X.xe) (hc:X.calm=true) (hi:PI X tg iter wi) (hg:PG X tg g) (hb:PSs X body tb)
 (hs : ∀ x,Zu iter X.env x=pure x:=by intro _;rfl):PS X (.For tg iter body [] pos) (tFor wi g tb):=by
  intro pins s σ H D I h;refine wpAny_For (thn (hi pins s σ H _ I h) fun v s1 h1=>thn h1 fun itv s2 h2=>?_) hs;obtain ⟨it,fp,tn,J,H2,e,I2,T,st2,f2,W,⟨m0,w0⟩,turn⟩:=h2;subst e;have stat : ∀ {H':Hp},(∀ b ∈ fp,H' b=none) -> ∀ b ∈ fp,FpOk X pins H' b:=fun hn b hb=>⟨hn b hb,(f2 b hb).2⟩
  refine codeAny_forLoop_any (fun n s' => ∃ i σ' H',Inv X pins σ' H' s'/\tn i s'.heap/\(∀ b ∈ fp,H' b=none)/\W i n σ' H') ?_ m0 ⟨0,σ,H2,I2,st2,fun b hb=>(f2 b hb).1,w0⟩;rintro n s3 ⟨i,σ3,H3,I3,st3,fr3,w3⟩;rcases turn i n σ3 H3 w3 with ⟨stop,qn⟩|⟨go,N,hN,step⟩
  ·refine Jo hp (thn (T.done X rfl rfl rfl hc i pins s3 σ3 H3 X.xe I3 (stat fr3) st3 stop) fun r s4 xx26=>?_);obtain ⟨hr,I4⟩:=xx26;subst hr;exact Qdh ⟨σ3,H3,I4,qn⟩
  ·refine Jo hp (thn (T.item X rfl rfl rfl hc i pins s3 σ3 H3 X.xe I3 (stat fr3) st3 go) fun r s4 xx25=>?_);obtain ⟨u,hr,h4⟩:=xx25;subst hr;refine Jo hp (thn h4 fun _ s5 xx24=>?_);obtain ⟨x,H5,I5,r5,y5,st5,fr5⟩:=xx24;have I5':=I5.pinned (stat fr5) (T.obj _ _ st5);refine Jo hp (thn (hg _ s5 σ3 H5 x u _ I5' r5 (step x H5 y5)) fun _ s6 xx23=>?_);obtain ⟨σ6,H6,I6,q6⟩:=xx23;refine Jo hp (thn (hb _ s6 σ6 H6 _ I6 q6) fun f s7 q7=>?_);have again : ∀ {σ7:St}{H7:Hp},Inv X (pins++qux fp s5.heap) σ7 H7 s7->N σ7 H7 -> ∃ m,m<n /\ ∃ i σ' H',Inv X pins σ' H' s7/\tn i s7.heap/\(∀ b ∈ fp,H' b=none)/\W i m σ' H':=fun {σ7 H7} I7 n7=>by
    obtain ⟨m',hm,w7⟩:=hN σ7 H7 n7;refine ⟨m',hm,i+1,σ7,H7,I7.unpinned,T.keep _ _ _ st5 fun b hb o e=>(I7.pin (b,o) (Q7 _ (Q7 _ (qhf hb e)))).1,fun b hb=>?_,w7⟩;obtain ⟨o,e,d⟩:=T.obj _ _ st5 b hb;exact (I7.pin (b,o) (Q7 _ (Q7 _ (qhf hb e)))).2.1
   cases f with
   | next=>obtain ⟨σ7,H7,I7,n7⟩:=q7;exact again I7 n7
   | cont=>obtain ⟨σ7,H7,I7,n7⟩:=q7;exact again I7 n7
   | brk=>obtain ⟨σ7,H7,I7,q7⟩:=q7;exact ⟨σ7,H7,I7.unpinned,q7⟩
   | ret v=>obtain ⟨x7,σ7,H7,I7,r7,q7⟩:=q7;exact ⟨x7,σ7,H7,I7.unpinned,r7,q7⟩
end
end
section
abbrev R2:=V->V->Hp->VK->Prop
def OpR (X:Cx) (f:Value->Value->Sem Value) (r:R2):Prop :=
 ∀ (pins:List (Addr×Obj)) (s:Ql) (σ:St) (H:Hp) (x y:V) (v u:Value) (Q:VK),Inv X pins σ H s->RelV x v->RelV y u->r x y H Q ->
  wpAny (model X.prog X.w) X.A (f v u) (EP X pins σ Q) X.xe s
def UnR (X:Cx) (f:Value->Sem Value) (r:V->Hp->VK->Prop):Prop :=
 ∀ (pins:List (Addr×Obj)) (s:Ql) (σ:St) (H:Hp) (x:V) (v:Value) (Q:VK),Inv X pins σ H s->RelV x v->r x H Q ->
  wpAny (model X.prog X.w) X.A (f v) (EP X pins σ Q) X.xe s
def CallR (X:Cx) (f:Value) (r:List V->Hp->VK->Prop):Prop :=
 ∀ (pins:List (Addr×Obj)) (s:Ql) (σ:St) (H:Hp) (xs:List V) (us:List Value) (Q:VK),Inv X pins σ H s->Vals xs us->r xs H Q ->
  wpAny (model X.prog X.w) X.A (call f us) (EP X pins σ Q) X.xe s
def TruR (X:Cx) (r:V->Hp->(Bool->Hp->Prop)->Prop):Prop :=
 ∀ (pins:List (Addr×Obj)) (s:Ql) (σ:St) (H:Hp) (x:V) (v:Value) (Q:Bool->Hp->Prop),Inv X pins σ H s->RelV x v->r x H Q ->
  wpAny (model X.prog X.w) X.A (truthy v) (TP X pins σ Q) X.xe s
def tOp (r:R2) (ta tb:TE):TE:=fun σ H Q=>ta σ H fun x H1=>tb σ H1 fun y H2=>r x y H2 Q
def tUn (r:V->Hp->VK->Prop) (ta:TE):TE:=fun σ H Q=>ta σ H fun x H1=>r x H1 Q
def rI (C:Int->Int->Prop) (g:Int->Int->V):R2:=fun x y H Q => ∃ i j,x = .int i/\y = .int j/\C i j/\Q (g i j) H
def rI0 (g:Int->Int->V):R2:=fun x y H Q => ∃ i j,x = .int i/\y = .int j/\Q (g i j) H
def rU (g:Int->V):V->Hp->VK->Prop:=fun x H Q => ∃ i,x = .int i/\Q (g i) H
section
variable {X:Cx}{a b c:Expr}{ta tb tc:TE}{pos:Pos}
def binT (ha:PE X a ta) (hb:PE X b tb) {pins:List (Addr×Obj)}{s:Ql}{σ:St}{H:Hp}{R:V->V->Hp->Prop} (I:Inv X pins σ H s)
 (h:ta σ H fun x H1=>tb σ H1 fun y H2=>R x y H2) {Q:Value->Ql->Prop}{f:Value->Value->Sem Value}
 (hf : ∀ v u s2 x y H2,Inv X pins σ H2 s2->RelV x v->RelV y u->R x y H2->wpAny (model X.prog X.w) X.A (f v u) Q X.xe s2) :
 wpAny (model X.prog X.w) X.A (eval a X.env) (fun v s₁=>wpAny (model X.prog X.w) X.A (eval b X.env) (fun u s₂=>wpAny (model X.prog X.w) X.A (f v u) Q X.xe s₂) X.xe s₁) X.xe s:=by
  refine thn (ha pins s σ H _ I h) fun v s1 xx28=>?_;obtain ⟨x,H1,I1,r1,q1⟩:=xx28;refine thn (hb pins s1 σ H1 _ I1 q1) fun u s2 xx27=>?_;obtain ⟨y,H2,I2,r2,q2⟩:=xx27;exact hf v u s2 x y H2 I2 r1 r2 q2
def zaie {op:Operator}{r:R2} (ho:OpR X (V2 op) r) (ha:PE X a ta) (hb:PE X b tb):PE X (.BinOp a op b pos) (tOp r ta tb):=by
 intro pins s σ H Q I h;exact wpAny_BinOp (binT ha hb I h fun v u s2 x y H2 I2 rx ry q=>ho pins s2 σ H2 x y v u Q I2 rx ry q)
def zalw {op:UnaryOp}{r:V->Hp->VK->Prop} (ho:UnR X (unaryOp op) r) (ha:PE X a ta):PE X (.UnaryOp op a pos) (tUn r ta):=by
 intro pins s σ H Q I h;exact UnaryOp_ (thn (ha pins s σ H _ I h) fun v s1 xx29=>by obtain ⟨x,H1,I1,r1,q1⟩:=xx29;exact ho pins s1 σ H1 x v Q I1 r1 q1)
def opI {f:Value->Value->Sem Value}{C:Int->Int->Prop}{g:Int->Int->Int}
 (rule : ∀ (i j:Int) (t u:Tok) (s:Ql) (Q:Value->Ql->Prop) (E:Value->Ql->Prop),C i j->Q (.int (g i j) s.toks) { s with toks:=s.toks+1 }->wpAny (model X.prog X.w) X.A (f (.int i t) (.int j u)) Q E s) :
  OpR X f (rI C fun i j => .int (g i j)):=by
  intro pins s σ H x y v u Q I rx ry h;obtain ⟨i,j,rfl,rfl,hc,q⟩:=h;obtain ⟨t,rfl⟩:=rx;obtain ⟨t',rfl⟩:=ry;exact rule i j t t' s _ _ hc ⟨.int (g i j),H,I.tok _,⟨_,rfl⟩,q⟩
def opI0 {f:Value->Value->Sem Value}{g:Int->Int->Int}
 (rule : ∀ (i j:Int) (t u:Tok) (s:Ql) (Q:Value->Ql->Prop) (E:Value->Ql->Prop),Q (.int (g i j) s.toks) { s with toks:=s.toks+1 }->wpAny (model X.prog X.w) X.A (f (.int i t) (.int j u)) Q E s) :
  OpR X f (rI0 fun i j => .int (g i j)):=by
  intro pins s σ H x y v u Q I rx ry h;obtain ⟨i,j,rfl,rfl,q⟩:=h;obtain ⟨t,rfl⟩:=rx;obtain ⟨t',rfl⟩:=ry;exact rule i j t t' s _ _ ⟨.int (g i j),H,I.tok _,⟨_,rfl⟩,q⟩
def opB0 {f:Value->Value->Sem Value}{g:Int->Int->Bool}
 (rule : ∀ (i j:Int) (t u:Tok) (s:Ql) (Q:Value->Ql->Prop) (E:Value->Ql->Prop),Q (.bool (g i j)) s->wpAny (model X.prog X.w) X.A (f (.int i t) (.int j u)) Q E s) :
 OpR X f (rI0 fun i j => .bl (g i j)):=by
  intro pins s σ H x y v u Q I rx ry h;obtain ⟨i,j,rfl,rfl,q⟩:=h;obtain ⟨t,rfl⟩:=rx;obtain ⟨t',rfl⟩:=ry;exact rule i j t t' s _ _ ⟨.bl (g i j),H,I,rfl,q⟩
def zanj:OpR X (V2 .Add) (rI0 fun i j => .int (i+j)):=opI0 fun _ _ _ _ _ _ _ q=>add_int q
def zanh:OpR X (V2 .Sub) (rI0 fun i j => .int (i-j)):=opI0 fun _ _ _ _ _ _ _ q=>sub_int q
def zapi:OpR X (V2 .Mod) (rI (fun _ j=>0<j) fun i j => .int (i%j)):=opI fun i j _ _ _ _ _ hc q=>by
 have h1:(0:Int)<j:=hc;exact mod_int' (by omega) (by rw [Int.fmod_eq_emod_of_nonneg i (by omega)];exact q)
def unI {f:Value->Sem Value}{g:Int->Int}
 (rule : ∀ (i:Int) (t:Tok) (s:Ql) (Q:Value->Ql->Prop) (E:Value->Ql->Prop),Q (.int (g i) s.toks) { s with toks:=s.toks+1 }->wpAny (model X.prog X.w) X.A (f (.int i t)) Q E s) :
  UnR X f (rU fun i => .int (g i)):=by
  intro pins s σ H x v Q I rx h;obtain ⟨i,rfl,q⟩:=h;obtain ⟨t,rfl⟩:=rx;exact rule i t s _ _ ⟨.int (g i),H,I.tok _,⟨_,rfl⟩,q⟩
def zahp:UnR X (unaryOp .USub) (rU fun i => .int (-i)):=unI fun _ _ _ _ _ q=>neg_int q
end
section
variable {X:Cx}{a b c:Expr}{ta tb tc:TE}{pos:Pos}
def zaou {pins:List (Addr×Obj)}{σ:St}{H:Hp}{s:Ql}{Q:VK}{k k':Bool} (I:Inv X pins σ H s) (q:Q (.bl k) H) (e:k=k'):EP X pins σ Q (.bool k') s:=by
 subst e;exact ⟨.bl k,H,I,rfl,q⟩
def zarl:OpR X (Z6 .Lt) (rI0 fun i j => .bl (decide (i<j))):=opB0 fun _ _ _ _ _ _ _ q=>lt_int q
def zaqu:OpR X (Z6 .LtE) (rI0 fun i j => .bl (decide (i<=j))):=opB0 fun _ _ _ _ _ _ _ q=>le_int q
def zarx:OpR X (Z6 .Gt) (rI0 fun i j => .bl (decide (j<i))):=opB0 fun _ _ _ _ _ _ _ q=>gt_int q
def zarz:OpR X (Z6 .GtE) (rI0 fun i j => .bl (decide (j<=i))):=opB0 fun _ _ _ _ _ _ _ q=>ge_int q
def zaod:OpR X (Z6 .Is) (fun x y H Q=>y = .non/\Q (.bl (decide (x = .non))) H):=by
 intro pins s σ H x y v u Q I rx ry h;obtain ⟨rfl,q⟩:=h;cases ry;refine is_none_gen (zaou I q ?_);cases x <;> first
  | (cases rx;rfl)
  | (obtain ⟨t,rfl⟩:=rx;rfl)
def qzk (b:Expr) {op:CmpOp} (h:op ≠ .In:=by decide) (h2:op ≠ .NotIn:=by decide):Qae op b=false:=by
 have e1:(op==CmpOp.In)=false:=by cases op <;> first|rfl|exact absurd rfl h
 have e2:(op==CmpOp.NotIn)=false:=by cases op <;> first|rfl|exact absurd rfl h2
 cases b <;> simp [Qae,e1,e2]
def zajg {op:CmpOp}{r:R2} (ho:OpR X (Z6 op) r) (ha:PE X a ta) (hb:PE X b tb) (hm:Qae op b=false):PE X (.Compare a [op] [b] pos) (tOp r ta tb):=by
 intro pins s σ H Q I h;exact wpAny_Compare1 (binT ha hb I h fun v u s2 x y H2 I2 rx ry q=>ho pins s2 σ H2 x y v u Q I2 rx ry q) hm
def zamc (t:TE):TT:=fun σ H Q=>t σ H fun x H' => ∃ k,x = .bl k/\Q k H'
def zabo {op:CmpOp}{r:R2} (ho:OpR X (Z6 op) r) (ha:PE X a ta) (hb:PE X b tb) (hm:Qae op b=false):PT X (.Compare a [op] [b] pos) (zamc (tOp r ta tb)):=by
 intro pins s σ H Q I h;refine wpAny_isTrue_Compare1 (thn (ha pins s σ H _ I h) fun v s1 ⟨x,H1,I1,r1,q1⟩=>thn (hb pins s1 σ H1 _ I1 q1) fun u s2 ⟨y,H2,I2,r2,q2⟩ =>
  thn (ho pins s2 σ H2 x y v u _ I2 r1 r2 q2) fun c s3 ⟨z,H3,I3,r3,k,e,q3⟩=>?_) hm
 subst e;cases r3;exact Yl ⟨H3,I3,q3⟩
def qze (r r':R2) (ta tb tc:TE):TE:=fun σ H Q=>ta σ H fun x H1=>tb σ H1 fun y H2=>r x y H2 fun z H3 => ∃ k,z = .bl k /\
 (if k=true then tc σ H3 fun w' H4=>r' y w' H4 Q else Q (.bl false) H3)
def zagi {op op':CmpOp}{r r':R2} (ho:OpR X (Z6 op) r) (ho':OpR X (Z6 op') r') (ha:PE X a ta) (hb:PE X b tb) (hc:PE X c tc)
 (hm:Qjk [op,op'] [b,c]=false:=by with_unfolding_all rfl):PE X (.Compare a [op,op'] [b,c] pos) (qze r r' ta tb tc):=by
  intro pins s σ H Q I h;refine Compare_chain (thn (ha pins s σ H _ I h) fun v s1 ⟨x,H1,I1,r1,q1⟩=>chain_link (thn (hb pins s1 σ H1 _ I1 q1) fun u s2 ⟨y,H2,I2,r2,q2⟩ =>
   thn (ho pins s2 σ H2 x y v u _ I2 r1 r2 q2) fun d s3 ⟨z,H3,I3,r3,k,e,q3⟩=>?_)) hm
  subst e;cases r3;refine Yl ?_;cases k with
  | false=>exact ite_ff ⟨.bl false,H3,I3,rfl,q3⟩
  | true=>exact ite_tt (chain_last (thn (hc pins s3 σ H3 _ I3 q3) fun w' s4 xx33=>by obtain ⟨z',H4,I4,r4,q4⟩:=xx33;exact ho' pins s4 σ H4 y z' u w' Q I4 r2 r4 q4))
def zagc {op op':CmpOp}{r r':R2} (ho:OpR X (Z6 op) r) (ho':OpR X (Z6 op') r') (ha:PE X a ta) (hb:PE X b tb) (hc:PE X c tc)
 (hm:Qjk [op,op'] [b,c]=false:=by with_unfolding_all rfl):PT X (.Compare a [op,op'] [b,c] pos) (zamc (qze r r' ta tb tc)):=by
  intro pins s σ H Q I h;refine isTrue_chain (thn (ha pins s σ H _ I h) fun v s1 ⟨x,H1,I1,r1,q1⟩=>test_link (thn (hb pins s1 σ H1 _ I1 q1) fun u s2 ⟨y,H2,I2,r2,q2⟩ =>
   thn (ho pins s2 σ H2 x y v u _ I2 r1 r2 q2) fun d s3 ⟨z,H3,I3,r3,k,e,q3⟩=>?_)) hm
  subst e;cases r3;refine Yl ?_;cases k with
  | false =>
   obtain ⟨k',e',q'⟩:=q3;cases e';exact ite_ff ⟨H3,I3,q'⟩
  | true =>
   refine ite_tt (test_last (thn (hc pins s3 σ H3 _ I3 q3) fun w' s4 ⟨z',H4,I4,r4,q4⟩=>thn (ho' pins s4 σ H4 y z' u w' _ I4 r2 r4 q4) fun d' s5 xx37=>?_));obtain ⟨z2,H5,I5,r5,k2,e2,q5⟩:=xx37;subst e2;cases r5;exact Yl ⟨H5,I5,q5⟩
def TruV (K:Qd) (x:V) (H:Hp) (k:Bool):Prop :=
 match x with
 | .non=>k=false
 | .bl b=>k=b
 | .int i=>k=(i != 0)
 | .str y=>y.length<=Qz/\k=((y.length:Int) != 0)
 | .byt y=>y.size<=Qz/\k=((y.size:Int) != 0)
 | .ref p=>(∃ xs,SqL K H p xs/\k = !xs.isEmpty)\/(∃ xs,SqT K H p xs/\k = !xs.isEmpty) \/ ∃ kvs,H p=some (.dK kvs)/\k = !kvs.isEmpty
 | _=>False
def qyb {κ:Type}{kvs:List (κ×V)}{vs:List (κ×Value)} (r:KV kvs vs):(!vs.isEmpty) = !kvs.isEmpty:=by
 cases r <;> rfl
def qqg {xs:List V}{its:List Value} (r:Vals xs its):(!its.toArray.isEmpty) = !xs.isEmpty:=by
 cases r <;> simp
def qli:(Qz:Nat)<2^63:=by rw [Qjn];decide
def zamt:TruR X (fun x H Q => ∃ k,TruV X.K x H k/\Q k H):=by
 intro pins s σ H x v Q I rx h;obtain ⟨k,e,q⟩:=h;have hl:=qli;have hs:Qz=16777216:=Qjn;cases x with
 | non =>
  cases rx;have e':k=false:=e;subst e';exact truthy_none ⟨H,I,q⟩
 | bl b =>
  cases rx;have e':k=b:=e;subst e';exact Yl ⟨H,I,q⟩
 | int i =>
  obtain ⟨t,rfl⟩:=rx;have e':k=(i != 0):=e;subst e';exact PySem.P.truthy_int ⟨H,I,q⟩
 | str y =>
  obtain ⟨t,rfl⟩:=rx;obtain ⟨hy,e'⟩:y.length<=Qz/\k=((y.length:Int) != 0):=e;subst e';exact PySem.P.truthy_str (by omega) ⟨H,I.tok _,q⟩
 | byt y =>
  obtain ⟨t,rfl⟩:=rx;obtain ⟨hy,e'⟩:y.size<=Qz/\k=((y.size:Int) != 0):=e;subst e';exact PySem.W.truthy_bytes (by omega) ⟨H,I.tok _,q⟩
 | ref p =>
  cases rx;have e':(∃ xs,SqL X.K H p xs/\k = !xs.isEmpty)\/(∃ xs,SqT X.K H p xs/\k = !xs.isEmpty) \/ ∃ kvs,H p=some (.dK kvs)/\k = !kvs.isEmpty:=e;rcases e' with ⟨xs,hx,e'⟩|⟨xs,hx,e'⟩|⟨kvs,hx,e'⟩
  ·subst e';obtain ⟨its,r,pl,hz⟩:=I.list hx;have hlen:=r.length;exact wpAny_truthy_list pl.isList (by simp only [Qu];omega) ⟨H,I.tok _,by rw [qqg r];exact q⟩
  ·subst e';obtain ⟨its,r,pl,hz⟩:=I.tuple hx;have hlen:=r.length;exact truthy_tuple pl (by simp only [Qu];omega) ⟨H,I.tok _,by rw [qqg r];exact q⟩
  ·subst e';obtain ⟨hz,hS,vs,r,m⟩:kvs.length<=Qz/\(p==sysModules)=false /\ ∃ vs,KV kvs vs/\s.heap.DictOf (qud X.prog X.w) p vs:=I.hok p _ hx;have hlen:kvs.length=vs.length:=Qjv r;exact wpAny_truthy_dict hS m (by omega) ⟨H,I.tok _,by rw [qyb r];exact q⟩
 | _=>exact (show False from e).elim
def zagz (ha:PE X a ta) (he : ∀ whole,Qia a X.env whole=(do let v <- whole;Qfn a.pos;Qck [v] (truthy v))) :
 PT X a (fun σ H Q=>ta σ H fun x H' => ∃ k,TruV X.K x H' k/\Q k H'):=by
  intro pins s σ H Q I h;exact isTrue_plain (thn (ha pins s σ H _ I h) fun v s1 xx42=>by obtain ⟨x,H1,I1,r1,q1⟩:=xx42;exact zamt pins s1 σ H1 x v Q I1 r1 q1) (he _)
def qyw:OpR X (V2 .Add) (fun x y H Q => ∃ i j,x = .str i/\y = .str j/\i.length+j.length<=Qz/\Q (.str (i++j)) H):=by
 intro pins s σ H x y v u Q I rx ry h;obtain ⟨i,j,rfl,rfl,hz,q⟩:=h;obtain ⟨t,rfl⟩:=rx;obtain ⟨t',rfl⟩:=ry;exact add_str (fun t' tk=>⟨.str (i++j),H,I.tok _,⟨_,rfl⟩,q⟩) hz
def qic {x:V}{us:List Value} (r:Vals [x] us) : ∃ u,us=[u]/\RelV x u:=by
 cases r with
 | cons r1 r2=>cases r2;exact ⟨_,rfl,r1⟩
def zaif {x y:V}{us:List Value} (r:Vals [x,y] us) : ∃ u w',us=[u,w']/\RelV x u/\RelV y w':=by
 cases r with
 | cons r1 r2 =>
  cases r2 with
  | cons r3 r4=>cases r4;exact ⟨_,_,rfl,r1,r3⟩
def zafj:CallR X (.builtin "abs") (fun xs H Q => ∃ i,xs=[.int i]/\Q (.int (if i<0 then -i else i)) H):=by
 intro pins s σ H xs us Q I r h;obtain ⟨i,rfl,q⟩:=h;obtain ⟨u,rfl,t,rfl⟩:=qic r;exact call_abs_int fun u tk=>⟨.int (if i<0 then -i else i),H,I.tok _,⟨_,rfl⟩,q⟩
def zabt:CallR X (.type "int") (fun xs H Q=>(∃ i,xs=[.int i]/\Q (.int i) H) \/ ∃ k,xs=[.bl k]/\Q (.int (if k then 1 else 0)) H):=by
 intro pins s σ H xs us Q I r h;rcases h with ⟨i,rfl,q⟩|⟨k,rfl,q⟩
 ·obtain ⟨u,rfl,t,rfl⟩:=qic r;exact call_int_int ⟨.int i,H,I,⟨_,rfl⟩,q⟩
 ·obtain ⟨u,rfl,r1⟩:=qic r;cases r1;exact call_int_bool ⟨.int (if k then 1 else 0),H,I.tok _,⟨_,rfl⟩,q⟩
end
end
section
structure ObjM (h:Heap) (x dx C:Addr) (mA:Str->Option Value):Prop where
 obj:h.get? x=some (Vy C dx)
 ns:h.Ns1 dx mA
 ne:dx≠x
def zabx {h:Heap}{dx:Addr}{mA:Str->Option Value} (n:h.Ns1 dx mA) : ∃ od,h.get? dx=some od /\ ∀ name,Qdq name od=some (mA name):=by
 obtain ⟨o,es,ep,ho,hd,hk,_,hm⟩:=n;refine ⟨o,ho,fun name=>?_⟩;have e:=hm name;unfold nsFind findBy at e;rw [<- Array.find?_toList] at e;unfold Qdq;rw [hd];dsimp only;split
 ·rename_i y q;rw [q] at e;exact congrArg some e
 ·rename_i q;rw [q] at e;have a:es.toList.any (·.refKey)=false:=by
   rw [List.any_eq_false];intro y hy;obtain ⟨z,t,hkey⟩:=hk y (Array.mem_toList_iff.mp hy);simp [DictEntry.refKey,hkey]
  have a' : ¬ es.toList.any (·.refKey)=true:=by rw [a];exact Zn
  rw [if_neg a'];exact congrArg some e
def ObjM.look {h:Heap}{x dx C:Addr}{mA:Str->Option Value} (I:ObjM h x dx C mA) : ∃ od,PySem.W.InstAt h x (Vy C dx) C (some od) /\ ∀ name,Qdq name od=some (mA name) :=
 let ⟨od,ho,hl⟩:=zabx I.ns
 ⟨od,⟨I.obj,rfl,rfl,ho⟩,hl⟩
section
variable {prog:Zr}{w:World}{A:Ye}{E:Value->Ql->Prop}{s:Ql}{K:Qd}{x dx C f:Addr}{mA:Str->Option Value}{name:Str}{v:Value}
def zaki {expr:Bool}{Q:Value->Ql->Prop} (X:K.In s.heap) (I:ObjM s.heap x dx C mA) (hg:Qan K C name=true) (hh:Qbt K C=true)
 (ha:Za K (.ref C) name=some none) (hv:mA name=some v) (hv':Qic v=true) (h:Q v { s with toks:=s.toks+1 }) :
  wpAny (model prog w) A (getAttr (.ref x) name expr) Q E s:=by
  obtain ⟨od,J,hl⟩:=I.look;exact PySem.W.get_value X J (Qcy hg).1 (PySem.W.findObj_own hh ha rfl (by rw [hl,hv])) hv' h
def zagr {pl:Sem Bool}{Q:Value×List Value->Ql->Prop} (X:K.In s.heap) (I:ObjM s.heap x dx C mA) (hg:Qan K C name=true)
 (hf:Za K (.ref C) name=some (some (.ref f))) (ht:Jp K (.ref f)=true) (hv:mA name=none) (h:Q (.ref f,[.ref x]) s) :
 wpAny (model prog w) A (Qhe (.ref x) name pl) Q E s:=by
  obtain ⟨od,J,hl⟩:=I.look;exact PySem.W.method_fn X J (Qcy hg).1 (Qcy hg).2 hf (beq_iff_eq.mp ht) (by show (Qdq name od).map (·.isSome)=some false;rw [hl,hv];rfl) h
def zalq {ns:List Str}{Q:Unit->Ql->Prop} (X:K.In s.heap) (I:ObjM s.heap x dx C mA)
 (hs:Za K (.ref C) "__setattr__" = some (some (.builtin "object.__setattr__"))) (hp:Qdy K C=true) (ht:Qfa K C name=some none) (hh:Qbt K C=true)
 (hw:Qhq mA ns) (hsz:ns.length<=Qz)
 (h : ∀ h',ObjM h' x dx C (fun y=>if y=name then some v else mA y)->Yo dx s.heap h'->Q () { s with heap:=h',toks:=s.toks+2 }) :
  wpAny (model prog w) A (setAttr (.ref x) name v) Q E s:=by
  obtain ⟨od,J,hl⟩:=I.look;refine PySem.W.set_plain X J hs (PySem.W.osa_open (s:={ s with toks:=s.toks+1 }) (r:=none) X J hp ht fun b=>?_);obtain ⟨cd,hc,hd'⟩:=PySem.W.any_some hh;have hx:s.heap.get? x=some ⟨.ref C,some dx,.plain,#[]⟩:=I.obj;refine Qi (Q9 (Qi (Qi (wpAny_loadPart hx (Qi (Qkl (s:={ s with toks:=s.toks+1 }) (PySem.W.looks_clsIn X hc) ?_))))));rw [hd'];refine Q9 (a:=some dx) (Qi (Q9 (Qi ?_)));refine wpAny_nsSet1 (s:={ s with toks:=s.toks+1 }) I.ns fun h' hn2 hs2=>?_;obtain ⟨oD,esD,epD,hoD,hdD,hcD⟩:=hn2.count (Qhq.cons name v hw);refine Qi (wpAny_lookBehind hoD (by rw [hdD];exact pastItsLine_dict (Z7 hcD (by rw [Zp];omega))) ?_);exact Q9 (h _ ⟨(hs2.2 _ (Z1 I.ne)).trans I.obj,hn2,I.ne⟩ hs2)
def zaev {R:Result->Ql->Prop}{vs:List Value}{kw:List (Str×Value)} (X:K.In s.heap) (hm:Qcz K C=true)
 (hi:Za K (.ref C) "__init__" = some (some (.ref f))) (hf:PySem.W.typeIn K (.ref f)=some (.type "function"))
 (h:Qdw (model prog w) (A.under (.builtin "type.__call__" ⟨.ref C::vs,kw⟩)) (.call (.ref f) ⟨.ref (s.heap.objs.size+1)::vs,kw⟩) (PySem.W.InitBack (s.heap.objs.size+1) R)
 { s with heap:=(s.heap.push Y2).push (Vy C s.heap.objs.size) }) :
  Qdw (model prog w) A (.call (.ref C) ⟨vs,kw⟩) R s:=by
  obtain ⟨hh,g,d,t,os⟩:=s;exact PySem.W.make_core (PySem.W.makes_of X hm) (Qah X hi) (fun self=>PySem.W.bind_fn X self hf) (.inl rfl) h
end
def qnd (f:Str) (v:V):List (Str×V)->List (Str×V)
 | []=>[(f,v)]
 | (g,x)::r=>if g=f then (g,v)::r else (g,x)::qnd f v r
def qnn (f g:Str) (v:V) : ∀ fs:List (Str×V),(qnd f v fs).lookup g=if g=f then some v else fs.lookup g
 | []=>by
  show Qbu g [(f,v)]=_;by_cases h:g=f
  ·have hb:(g==f)=true:=beq_iff_eq.mpr h;simp only [Qbu,hb,if_pos h]
  ·have hb:(g==f)=false:=beq_eq_false_iff_ne.mpr h;simp only [Qbu,hb,if_neg h]
 | (k,x)::r=>by
  have ih:=qnn f g v r;rw [show qnd f v ((k,x)::r)=(if k=f then (k,v)::r else (k,x)::qnd f v r) from rfl];by_cases hk:k=f
  ·rw [if_pos hk];by_cases h:g=k
   ·have hb:(g==k)=true:=beq_iff_eq.mpr h;simp only [Qbu,hb,if_pos (h.trans hk)]
   ·have hb:(g==k)=false:=beq_eq_false_iff_ne.mpr h;simp only [Qbu,hb,if_neg (fun e:g=f=>h (e.trans hk.symm))]
  ·rw [if_neg hk];by_cases h:g=k
   ·have hb:(g==k)=true:=beq_iff_eq.mpr h;simp only [Qbu,hb,if_neg (fun e:g=f=>hk (h.symm.trans e))]
   ·have hb:(g==k)=false:=beq_eq_false_iff_ne.mpr h;simp only [Qbu,hb];exact ih
def qmr (f:Str) (v:V) : ∀ fs:List (Str×V),f ∈ (qnd f v fs).map (·.1) /\ ∀ g,g ∈ fs.map (·.1)->g ∈ (qnd f v fs).map (·.1)
 | []=>⟨by simp [qnd],fun g h=>by simp at h⟩
 | (k,x)::r=>by
  obtain ⟨i1,i2⟩:=qmr f v r;rw [show qnd f v ((k,x)::r)=(if k=f then (k,v)::r else (k,x)::qnd f v r) from rfl];by_cases hk:k=f
  ·rw [if_pos hk];subst hk;exact ⟨by simp,fun g h=>by simpa using h⟩
  ·rw [if_neg hk];refine ⟨?_,fun g h=>?_⟩
   ·rw [Yh];exact Qy _ i1
   ·rw [Yh] at h ⊢;rcases Q1.mp h with e|e
    ·exact Q1.mpr (.inl e)
    ·exact Qy _ (i2 g e)
def qnb (f:Str) (v:V) : ∀ fs:List (Str×V),(qnd f v fs).length<=fs.length+1
 | []=>by simp [qnd]
 | (k,x)::r=>by
  have ih:=qnb f v r;rw [show qnd f v ((k,x)::r)=(if k=f then (k,v)::r else (k,x)::qnd f v r) from rfl];by_cases hk:k=f
  ·rw [if_pos hk,Zp,Zp];omega
  ·rw [if_neg hk,Zp,Zp];omega
def RelO.some_of {v:V}{o:Option Value} (r:RelO (some v) o) : ∃ u,o=some u/\RelV v u:=by
 cases o with
 | none=>exact (show False from r).elim
 | some u=>exact ⟨u,rfl,r⟩
def RelO.none_of {o:Option Value} (r:RelO none o):o=none:=by
 cases o with
 | none=>rfl
 | some u=>exact (show False from r).elim
def zacw {v:V}{u:Value} (r:RelV v u):Qic u=true:=by
 cases v with
 | non=>cases (show u=Qay from r);rfl
 | bl b=>cases (show u=Qjq b from r);rfl
 | int i=>obtain ⟨t,e⟩:=(show ∃ t,u=Qey i t from r);cases e;rfl
 | str x=>obtain ⟨t,e⟩:=(show ∃ t,u=Qkd x t from r);cases e;rfl
 | byt b=>obtain ⟨t,e⟩:=(show ∃ t,u=Qkh b t from r);cases e;rfl
 | flt b=>obtain ⟨t,e⟩:=(show ∃ t,u=Qki b t from r);cases e;rfl
 | ref a=>cases (show u=Y1 a from r);rfl
 | ty n=>cases (show u=Qjr n from r);rfl
section
variable {P:Zr}{w:World}{H H':Hp}{h h':Heap}{a C dx:Addr}{fs fs':List (Str×V)}
def qtw (hok:HOk P w H h) (e:H a=some (.ins C dx fs)) : ∃ mA,ObjM h a dx C mA/\(∀ f,RelO (fs.lookup f) (mA f))/\Qhq mA (fs.map (·.1))/\fs.length<=1000/\H dx=some (.own a):=by
 obtain ⟨d,z,ne,ob,mA,n,r,q⟩:=(show ObjOk P w H h a (.ins C dx fs) from hok a _ e)
 exact ⟨mA,⟨ob,n,ne⟩,r,q,z,d⟩
end
structure Cls (K:Qd) (C:Addr):Prop where
 pg:Qan K C Str.empty=true
 hd:Qbt K C=true
 po:Qdy K C=true
 sa:Za K (.ref C) "__setattr__" = some (some (.builtin "object.__setattr__"))
def Cls.get {K:Qd}{C:Addr} (c:Cls K C) (f:Str):Qan K C f=true:=c.pg
def NoAttr (K:Qd) (C:Addr) (f:Str):Prop:=Za K (.ref C) f=some none
def NoAttr.taker {K:Qd}{C:Addr}{f:Str} (n:NoAttr K C f):Qfa K C f=some none:=by
 unfold Qfa;rw [show Za K (.ref C) f=some none from n];rfl
structure Meth (K:Qd) (C:Addr) (m:Str) (f:Addr):Prop where
 at_:Za K (.ref C) m=some (some (.ref f))
 fn:Jp K (.ref f)=true
 kp:Y5 K (.ref f)=true
section
variable {X:Cx}{pins:List (Addr×Obj)}{σ:St}{H:Hp}{s:Ql}{a C dx:Addr}{fs:List (Str×V)}{f:Str}{v:V}{A:Ye}{E:Value->Ql->Prop}
def qyx {b:Bool}{Q:Value->Ql->Prop} (I:Inv X pins σ H s) (e:H a=some (.ins C dx fs)) (c:Cls X.K C) (n:NoAttr X.K C f) (l:fs.lookup f=some v)
 (h : ∀ u s',Inv X pins σ H s'->RelV v u->Q u s'):wpAny (model X.prog X.w) A (getAttr (.ref a) f b) Q E s:=by
  obtain ⟨mA,O,r,_,_,_⟩:=qtw I.hok e;obtain ⟨u,hu,ru⟩:=RelO.some_of (v:=v) (o:=mA f) (by rw [<- l];exact r f);exact zaki I.kIn O (c.get f) c.hd n hu (zacw ru) (h u _ (I.tok _) ru)
def qoy {m:Str}{g:Addr}{pl:Sem Bool}{Q:Value×List Value->Ql->Prop} (I:Inv X pins σ H s) (e:H a=some (.ins C dx fs)) (c:Cls X.K C) (k:Meth X.K C m g) (l:fs.lookup m=none)
 (h:Q (.ref g,[.ref a]) s):wpAny (model X.prog X.w) A (Qhe (.ref a) m pl) Q E s:=by
  obtain ⟨mA,O,r,_,_,_⟩:=qtw I.hok e;have hn:mA m=none:=RelO.none_of (by rw [<- l];exact r m);exact zagr I.kIn O (c.get m) k.at_ k.fn hn h
def qyc {y:V}{u:Value}{Q:Unit->Ql->Prop} (I:Inv X pins σ H s) (e:H a=some (.ins C dx fs)) (c:Cls X.K C) (n:NoAttr X.K C f) (hl:fs.length<1000) (ry:RelV y u)
 (h : ∀ s',Inv X pins σ (upd H a (.ins C dx (qnd f y fs))) s'->Q () s'):wpAny (model X.prog X.w) A (setAttr (.ref a) f u) Q E s:=by
  obtain ⟨mA,O,r,wi,_,ho⟩:=qtw I.hok e;have hz:(fs.map (·.1)).length<=Qz:=by rw [Qe,Qjn];omega
  refine zalq I.kIn O c.sa c.po n.taker c.hd wi hz fun h' O' sb=>h _ ?_;have hd : ∃ o,h'.get? dx=some o:=let ⟨o,_,_,e',_⟩:=O'.ns; ⟨o,e'⟩;refine I.write (x:=a) (e:=dx) (by rw [e];exact Qbv) (.inr ho) (fun b q hb z=>(sb.2 b hb).trans z) hd ?_;refine ⟨by rw [qk O.ne];exact ho,?_,O.ne,O'.obj,_,O'.ns,fun g=>?_,fun g hg=>?_⟩
  ·have:=qnb f y fs;omega
  ·show RelO ((qnd f y fs).lookup g) (if g=f then some u else mA g);rw [qnn];by_cases q:g=f
   ·rw [if_pos q,if_pos q];exact ry
   ·rw [if_neg q,if_neg q];exact r g
  ·by_cases q:g=f
   ·rw [q];exact (qmr f y fs).1
   ·refine (qmr f y fs).2 g (wi g fun z=>hg ?_);show (if g=f then some u else mA g)=none;rw [if_neg q];exact z
def Inv.made (I:Inv X pins σ H s):Inv X pins σ (upd (upd H s.heap.objs.size (.own (s.heap.objs.size+1))) (s.heap.objs.size+1) (.ins C s.heap.objs.size []))
 { s with heap:=(s.heap.push Y2).push (Vy C s.heap.objs.size) }:=by
  have e1:(s.heap.push Y2).get? s.heap.objs.size=some Y2:=Q2 s.heap rfl;have e2:((s.heap.push Y2).push (Vy C s.heap.objs.size)).get? (s.heap.objs.size+1)=some (Vy C s.heap.objs.size):=by
   have:=Q2 (s.heap.push Y2) (o:=Vy C s.heap.objs.size) rfl
   rwa [Z5] at this
  have e3:(s.heap.push Y2).Ns s.heap.objs.size (fun _=>none):=⟨Y2,#[],_,e1,rfl,(fun e he=>absurd he (by simp)),fun _=>rfl⟩
  have I1:=I.laid (a:=s.heap.objs.size) (o :=.own (s.heap.objs.size+1)) (h':=s.heap.push Y2) (t':=s.toks) (fun b u q=>Qj _ q) (Qs _) ⟨_,e1⟩;refine I1.laid (a:=s.heap.objs.size+1) (o :=.ins C s.heap.objs.size []) (t':=s.toks) (fun b u q=>Qj _ q) (Nat.le_of_eq (Z5 _ _)) ?_;have ne:s.heap.objs.size≠s.heap.objs.size+1:=Q5 (Qao _);refine ⟨by rw [qk ne,ql],Y7 _,ne,e2,fun _=>none,(Heap.Ns1.of_empty e3).at fun o q=>Qj _ q,fun _=>Qbv,fun y hy=>absurd rfl hy⟩
def zajr {prog:Zr}{w:World}{env:Env}{e:Expr}{f:Str}{pos:Pos}{s:Ql}{Q:Value->Ql->Prop} (hb:Vu e f env (eval e env)=eval e env)
 (h:wpAny (model prog w) A (eval e env) (fun o s₁=>wpAny (model prog w) A (getAttr o f true) Q E s₁) E s):wpAny (model prog w) A (eval (.Attribute e f pos) env) Q E s :=
  Attribute_any_ h (by rw [arm_eval_Attribute,hb])
end
def tFld (K:Qd) (ta:TE) (f:Str):TE:=fun σ H Q=>ta σ H fun x H1 => ∃ a C dx fs v,x = .ref a/\H1 a=some (.ins C dx fs)/\Cls K C/\NoAttr K C f/\fs.lookup f=some v/\Q v H1
def sFld (K:Qd) (ta tv:TE) (f:Str):TS:=fun D σ H=>tv σ H fun y H1=>ta σ H1 fun x H2 => ∃ a C dx fs,x = .ref a/\H2 a=some (.ins C dx fs)/\Cls K C/\NoAttr K C f/\fs.length<1000 /\
 D.nx σ (upd H2 a (.ins C dx (qnd f y fs)))
section
variable {X:Cx}{o e value:Expr}{f:Str}{pos pos' tpos:Pos}{ta tv:TE}
def qvi (he:PE X e ta) (hb:Vu e f X.env (eval e X.env)=eval e X.env):PE X (.Attribute e f pos) (tFld X.K ta f):=by
 intro pins s σ H Q I h;refine zajr hb (thn (he pins s σ H _ I h) fun u s1 xx43=>?_);obtain ⟨x,H1,I1,rx,a,C,dx,fs,v,ex,ea,c,n,l,q⟩:=xx43;subst ex;obtain rfl:u=Y1 a:=rx;exact qyx I1 ea c n l fun u' s2 I2 ru=>⟨v,H1,I2,ru,q⟩
def qoi (ha:PE X o ta) (hv:PE X value tv) (hs:Vm value (some (.Attribute o f pos')) pos.line X.env=pure false):PS X (.Assign [.Attribute o f pos'] value pos) (sFld X.K ta tv f):=by
 intro pins s σ H D I h;refine plainObj_wpAny_Assign_Attribute (thn (hv pins s σ H _ I h) fun u s1 ⟨y,H1,I1,ry,q⟩=>thn (ha pins s1 σ H1 _ I1 q) fun ov s2 xx44=>?_) hs;obtain ⟨x,H2,I2,rx,a,C,dx,fs,ex,ea,c,n,l,q2⟩:=xx44;subst ex;obtain rfl:ov=Y1 a:=rx;exact qyc I2 ea c n l ry fun s3 I3=>⟨σ,_,I3,q2⟩
end
section
variable {X:Cx}{pins:List (Addr×Obj)}{σ:St}{H:Hp}{s:Ql}{A:Ye}{E:Value->Ql->Prop}{Q:Value->Ql->Prop}{c:Value}{b:Bool}
end
end
section
structure Room (k:Nat) (A:Ye):Prop where
 hd:A.handled=none
 dp:A.depth+3*k+5<recursionLimit
 un:A.units+16*k+200<cLine
def Room.mono {j k:Nat}{A:Ye} (r:Room k A) (h:j<=k):Room j A:=⟨r.hd,by have:=r.dp;omega,by have:=r.un;omega⟩
def Room.deeper {k:Nat}{A:Ye} (r:Room (k+1) A) (env:Env):Room k (A.deeper env) :=
 ⟨r.hd,by have:=r.dp;show A.depth+1+3*k+5<_;omega,by have:=r.un;show A.units+3+16*k+200<_;omega⟩
def qxw {A:Ye}{C:Addr}{us:List Value}{kw:List (Str×Value)}:(A.under (.builtin "type.__call__" ⟨.ref C::us,kw⟩)).depth=A.depth+1:=by
 first|rfl|simp [Qhr,Code.weight,Code.isCreation,Code.isGuard,Code.isCaller,Code.frames,Qhs,guardIds]
def qyn {A:Ye}{C:Addr}{us:List Value}{kw:List (Str×Value)}:(A.under (.builtin "type.__call__" ⟨.ref C::us,kw⟩)).units=A.units+1:=by
 first|rfl|simp [Qhr,Code.cUnits,Code.frames,Qhs]
def Room.make {k:Nat}{A:Ye} (r:Room (k+1) A) (C:Addr) (us:List Value) (kw:List (Str×Value)):Room k (A.under (.builtin "type.__call__" ⟨.ref C::us,kw⟩)) :=
 ⟨r.hd,by have:=r.dp;rw [qxw];omega,by have:=r.un;rw [qyn];omega⟩
def Room.depth {k:Nat}{A:Ye} (r:Room k A):A.depth<recursionLimit:=by have:=r.dp;omega
def Room.units {k:Nat}{A:Ye} (r:Room k A):A.units+64<cLine:=by have:=r.un;omega
def tNil:TA:=fun _ H Q=>Q [] H
def zady (ta:TE) (tr:TA):TA:=fun σ H Q=>ta σ H fun x H1=>tr σ H1 fun xs H2=>Q (x::xs) H2
section
variable {X:Cx}{e:Expr}{es:List Expr}{te:TE}{t:TA}{pos:Pos}
def qaw:PA X [] tNil:=fun _ _ _ _ H Q I h=>Calls.spliced_nil ⟨[],H,I,.nil,h⟩
def qH (ha:PE X e te) (hr:PA X es t) (hs:Qp (e::es) X.env=(false,eval e X.env)::Qp es X.env:=by rfl):PA X (e::es) (zady te t):=by
 intro pos pins s σ H Q I h;rw [hs];show wpAny _ _ (spliced ((false,eval e X.env)::Vc pos (Qp es X.env))) _ _ s;refine Calls.spliced_cons (thn (ha pins s σ H _ I h) fun u s1 xx47=>?_);obtain ⟨x,H1,I1,r1,q1⟩:=xx47;exact thn (hr pos pins s1 σ H1 _ I1 q1) fun us s2 xx46=>by obtain ⟨xs,H2,I2,r2,q2⟩:=xx46;exact ⟨x::xs,H2,I2,.cons r1 r2,q2⟩
def tTup (t:TA):TE:=fun σ H Q=>t σ H fun xs H1=>xs.length<=Qz /\ ∀ p,H1 p=none->Q (.ref p) (upd H1 p (.tup xs))
def tLst (t:TA):TE:=fun σ H Q=>t σ H fun xs H1=>xs.length<=Qz /\ ∀ p,H1 p=none->Q (.ref p) (upd H1 p (.lst xs))
def qvh {x1} (h:PA X es t):PE X (.Tuple es x1 pos) (tTup t):=by
 intro pins s σ H Q I hq;refine wpAny_Tuple_spliced (thn (h pos pins s σ H _ I hq) fun us s1 ⟨xs,H1,I1,r,z,q⟩=>⟨by rw [<- r.length];exact z,?_⟩);have hf:H1 s1.heap.objs.size=none:=I1.hok.fresh (Qs _);refine ⟨.ref s1.heap.objs.size,upd H1 s1.heap.objs.size (.tup xs),I1.laid (t':=s1.toks) (fun b u e=>Qj _ e) (Qs _) ?_,rfl,q _ hf⟩;exact ⟨z,us,r,⟨_,Q2 _ rfl,rfl,_,rfl⟩⟩
def zaoy (h:PA X es t):PE X (.List es pos) (tLst t):=by
 intro pins s σ H Q I hq;refine wpAny_List_spliced (thn (h pos pins s σ H _ I hq) fun us s1 ⟨xs,H1,I1,r,z,q⟩=>⟨by rw [<- r.length];exact z,?_⟩);have hf:H1 s1.heap.objs.size=none:=I1.hok.fresh (Qs _);refine ⟨.ref s1.heap.objs.size,upd H1 s1.heap.objs.size (.lst xs),I1.laid (t':=s1.toks) (fun b u e=>Qj _ e) (Qs _) ?_,rfl,q _ hf⟩;exact ⟨z,us,0,r,Q2 _ rfl⟩
end
abbrev Sp:=List V->Hp->VK->XK->Prop
abbrev CXT:=List Env->Hp->Ql->XK->Value->Ql->Prop
structure Env0 (P:Zr) (w:World) (K:Qd) (mg:Str->Option Value) (base:Heap) (A:Ye) (outer:List Env) (s:Ql) (H:Hp):Prop where
 frames:A.frames=some outer
 mod:Mod K mg base
 bs : ∀ b o,base.get? b=some o->s.heap.get? b=some o/\H b=none
 bsz:base.objs.size<=s.heap.objs.size
 funs:s.heap.FunFrames base outer
 frf : ∀ b ∈ frs outer,H b=none
 hok:HOk P w H s.heap
 bare:Qdv s.gens
def CE (outer:List Env) (P:Zr) (w:World) (H:Hp) (s:Ql) (Q:VK) (u:Value) (s':Ql):Prop :=
 ∃ v H',s'.os=s.os/\Qdv s'.gens/\Un (frs outer) [] H H' s.heap s'.heap/\HOk P w H' s'.heap/\RelV v u/\Q v H'
def CR (CX:CXT) (outer:List Env) (P:Zr) (w:World) (H:Hp) (s:Ql) (Q:VK) (E:XK) (r:Result) (s':Ql):Prop :=
 match r with
 | .ok (.ret u)=>CE outer P w H s Q u s'
 | .ok _=>False
 | .error e=>CX outer H s E e s'
structure FnOk (P:Zr) (w:World) (K:Qd) (mg:Str->Option Value) (base:Heap) (CX:CXT) (k:Nat) (f:Addr) (fd:Vn) (ps:List Str) (sp:Sp):Prop where
 len : ∀ vs H Q E,sp vs H Q E->vs.length=ps.length
 run : ∀ (A:Ye) (outer:List Env) (s:Ql) (H:Hp) (args:Args) (us:List Value) (vs:List V) (Q:VK) (E:XK),Room k A->Env0 P w K mg base A outer s H->Qjh s fd args (ps.zip us)->Vals vs us->sp vs H Q E ->
  Qdw (model P w) A (.call (.ref f) args) (CR CX outer P w H s Q E) s
def FnOk.imp {P:Zr}{w:World}{K:Qd}{mg:Str->Option Value}{base:Heap}{CX:CXT}{k:Nat}{f:Addr}{fd:Vn}{ps:List Str}{sp sp':Sp} (F:FnOk P w K mg base CX k f fd ps sp)
 (h : ∀ vs H Q E,sp' vs H Q E->sp vs H Q E):FnOk P w K mg base CX k f fd ps sp' :=
  ⟨fun vs H Q E q=>F.len vs H Q E (h _ _ _ _ q),fun A outer s H args us vs Q E hr he hb hv hs=>F.run A outer s H args us vs Q E hr he hb hv (h _ _ _ _ hs)⟩
def Env0.make {P:Zr}{w:World}{K:Qd}{mg:Str->Option Value}{base:Heap}{A:Ye}{outer:List Env}{s:Ql}{H:Hp} (e:Env0 P w K mg base A outer s H) (C:Addr) (us:List Value) (kw:List (Str×Value)) :
 Env0 P w K mg base (A.under (.builtin "type.__call__" ⟨.ref C::us,kw⟩)) outer s H:=⟨by first|exact e.frames|(simpa [Qhr,Code.envs,Qhs,pushEnvs] using e.frames),e.mod,e.bs,e.bsz,e.funs,e.frf,e.hok,e.bare⟩
section
variable {X:Cx}{pins:List (Addr×Obj)}{σ:St}{H:Hp}{s s':Ql}
def Inv.env0 (I:Inv X pins σ H s):Env0 X.prog X.w X.K X.mg X.base X.A X.stack s H :=
 ⟨I.ok.frames,I.ok.mod,I.bs,Z7 I.ok.bsz I.sz,I.stack,I.stkFree,I.hok,I.bare⟩
def Inv.after {Q:VK}{u:Value} (I:Inv X pins σ H s) (h:CE X.stack X.prog X.w H s Q u s'):EP X pins σ Q u s':=by
 obtain ⟨v,H',os,bare,un,hok,r,q⟩:=h;obtain ⟨hh,g,d,t,os'⟩:=s';obtain rfl:os'=s.os:=os;exact ⟨v,H',I.call (h':=hh) (g':=g) (d':=d) (t':=t) (ch:=[]) un hok bare (fun b z=>absurd z (by simp)),r,q⟩
end
def qse (sp:Sp) (dvs:List V) (E:XK) (t:TA):TE:=fun σ H Q=>t σ H fun vs H1=>sp (vs++dvs) H1 Q E
def zads (C:Addr) (m:Str) (sp:Sp) (dvs:List V) (E:XK) (ta:TE) (t:TA):TE:=fun σ H Q=>ta σ H fun x H1 => ∃ a dx fs,x = .ref a/\H1 a=some (.ins C dx fs)/\fs.lookup m=none /\
 t σ H1 fun vs H2=>sp (x::(vs++dvs)) H2 Q E
def zaqe (C:Addr) (sp:Sp) (dvs:List V) (E:XK) (t:TA):TE:=fun σ H Q=>t σ H fun vs H1 => ∀ x dx,H1 x=none->H1 dx=none->dx≠x ->
 sp (.ref x::(vs++dvs)) (upd (upd H1 dx (.own x)) x (.ins C dx [])) (fun v H2=>v = .non/\Q (.ref x) H2) E
def Binds (K:Qd) (fd:Vn) (ps:List Str) (ds:List Value):Prop :=
 ∀ (s:Ql) (us:List Value),K.In s.heap->(us++ds).length=ps.length->Qjh s fd ⟨us,[]⟩ (ps.zip (us++ds))
def Binds.all {K:Qd}{fd:Vn}{ps:List Str} (h : ∀ us:List Value,us.length=ps.length->bindArgs fd ⟨us,[]⟩=pure (ps.zip us)):Binds K fd ps []:=fun s us _ hl=>by
 rw [Yy] at hl ⊢;exact .of_eq (h us hl)
def qlm (CX:CXT) (X:Cx) (E:XK):Prop := ∀ (pins:List (Addr×Obj)) (σ:St) (H:Hp) (s:Ql) (e:Value) (s':Ql),Inv X pins σ H s->CX X.stack H s E e s'->X.xe e s'
section
variable {X:Cx}{CX:CXT}{k:Nat}{f C:Addr}{fd:Vn}{ps:List Str}{sp:Sp}{dvs:List V}{ds:List Value}{E:XK}{x m:Str}{p pos apos:Pos}{e o:Expr}{es:List Expr}{ta:TE}{t:TA}
def qyy {pins:List (Addr×Obj)}{σ:St}{H:Hp}{s:Ql}{Q:VK}{us:List Value}{vs:List V} (F:FnOk X.prog X.w X.K X.mg X.base CX k f fd ps sp) (hr:Room k X.A) (hb:Binds X.K fd ps ds) (hd:Vals dvs ds) (hx:qlm CX X E)
 (I:Inv X pins σ H s) (r:Vals vs us) (h:sp (vs++dvs) H Q E):wpAny (model X.prog X.w) X.A (call (.ref f) us) (EP X pins σ Q) X.xe s:=by
  have r2:Vals (vs++dvs) (us++ds):=r.append hd;have hl:(us++ds).length=ps.length:=by rw [<- r2.length];exact F.len _ _ _ _ h
  refine wpAny_call (Qdp (F.run X.A X.stack s H ⟨us,[]⟩ (us++ds) (vs++dvs) Q E hr I.env0 (hb s us I.kIn hl) r2 h) fun r s' hq=>?_);cases r with
  | error e=>exact hx pins σ H s e s' I hq
  | ok fl =>
   cases fl with
   | ret u=>exact I.after hq
   | next=>exact Zd hq
   | brk=>exact Zd hq
   | cont=>exact Zd hq
def quj {pl:Sem Bool} (he:PE X o ta) (c:Cls X.K C) (hm:Meth X.K C m f) (F:FnOk X.prog X.w X.K X.mg X.base CX k f fd ps sp) (hr:Room k X.A) (hb:Binds X.K fd ps ds) (hd:Vals dvs ds) (hx:qlm CX X E) (ha:PA X (e::es) t)
 (hst:Qp (e::es) X.env=(false,eval e X.env)::Qp es X.env:=by rfl) (hpl:(Vc pos (Qp es X.env)).any (·.1)=false:=by rfl)
  (ht:eval (.Call (.Attribute o m apos) (e::es) [] pos) X.env=(do
   let ov <- eval o X.env
   Qfn apos.atName
   let (f,first) <- Qck [ov] (Qhe ov m pl)
   callWith pos f first (Vc pos (Qp (e::es) X.env)) (Qct pos (Jx [] X.env))):=by rfl) :
  PE X (.Call (.Attribute o m apos) (e::es) [] pos) (zads C m sp dvs E ta t):=by
  intro pins s σ H Q I h;refine Qfb (pl:=pl) (thn (he pins s σ H _ I h) fun u s1 xx51=>?_) ht;obtain ⟨x,H1,I1,rx,a,dx,fs,ex,ea,l,q⟩:=xx51;subst ex;obtain rfl:u=Y1 a:=rx;refine qoy I1 ea c hm l ?_;refine Qbh (first:=[.ref a]) (h₀:=X.base) I.ok.mod.kin hm.kp (thn (ha pos pins s1 σ H1 _ I1 q) fun us s2 ⟨vs,H2,I2,r,q2⟩=>⟨I2.kIn,?_⟩) hst hpl;exact qyy (us :=.ref a::us) (vs :=.ref a::vs) F hr hb hd hx I2 (.cons rfl r) q2
def qqq {pl:Sem Bool} (he:PE X o ta) (c:Cls X.K C) (hm:Meth X.K C m f) (F:FnOk X.prog X.w X.K X.mg X.base CX k f fd ps sp) (hr:Room k X.A) (hb:Binds X.K fd ps ds) (hd:Vals dvs ds) (hx:qlm CX X E)
 (ht:eval (.Call (.Attribute o m apos) [] [] pos) X.env=(do
 let ov <- eval o X.env
 Qfn apos.atName
 let (f,first) <- Qck [ov] (Qhe ov m pl)
 callWith pos f first (Vc pos (Qp [] X.env)) (Qct pos (Jx [] X.env))):=by rfl) :
  PE X (.Call (.Attribute o m apos) [] [] pos) (zads C m sp dvs E ta tNil):=by
  intro pins s σ H Q I h;refine Qfb (pl:=pl) (thn (he pins s σ H _ I h) fun u s1 xx52=>?_) ht;obtain ⟨x,H1,I1,rx,a,dx,fs,ex,ea,l,q⟩:=xx52;subst ex;obtain rfl:u=Y1 a:=rx;refine qoy I1 ea c hm l ?_;exact PySem.W.callWith_K0 (first:=[.ref a]) I1.kIn hm.kp (qyy (us:=[.ref a]) (vs:=[.ref a]) F hr hb hd hx I1 (.cons rfl .nil) q)
structure Mk (K:Qd) (C f:Addr):Prop where
 makes:Qcz K C=true
 init:Za K (.ref C) "__init__" = some (some (.ref f))
 fn:Jp K (.ref f)=true
 kp:Y5 K (.ref C)=true
def zage {pins:List (Addr×Obj)}{σ:St}{H:Hp}{s:Ql}{Q:VK}{us:List Value}{vs:List V} (M:Mk X.K C f) (F:FnOk X.prog X.w X.K X.mg X.base CX k f fd ps sp) (hr:Room (k+1) X.A) (hb:Binds X.K fd ps ds) (hd:Vals dvs ds)
 (hx:qlm CX X E) (I:Inv X pins σ H s) (r:Vals vs us)
 (h : ∀ x dx,H x=none->H dx=none->dx≠x->sp (.ref x::(vs++dvs)) (upd (upd H dx (.own x)) x (.ins C dx [])) (fun v H2=>v = .non/\Q (.ref x) H2) E) :
 wpAny (model X.prog X.w) X.A (call (.ref C) us) (EP X pins σ Q) X.xe s:=by
  have hq:=h (s.heap.objs.size+1) s.heap.objs.size (I.hok.fresh (Qda _)) (I.hok.fresh (Qs _)) (Q5 (Qao _));have I2:=Inv.made (C:=C) I;have r2:Vals (V.ref (s.heap.objs.size+1)::(vs++dvs)) (Y1 (s.heap.objs.size+1)::(us++ds)) :=.cons rfl (r.append hd);have hl:(Y1 (s.heap.objs.size+1)::us++ds).length=ps.length:=by
   have e:=r2.length;rw [F.len _ _ _ _ hq] at e;exact e.symm
  refine wpAny_call (zaev (f:=f) I.kIn M.makes M.init (beq_iff_eq.mp M.fn) (Qdp (F.run _ X.stack _ _ ⟨Y1 (s.heap.objs.size+1)::us,[]⟩ (Y1 (s.heap.objs.size+1)::(us++ds)) _ _ E (hr.make C us [])
   (I2.env0.make C us []) (hb _ (Y1 (s.heap.objs.size+1)::us) I2.kIn hl) r2 hq) fun r s' hq'=>?_))
  cases r with
  | error e=>exact hx pins σ _ _ e s' I2 hq'
  | ok fl =>
   cases fl with
   | ret u =>
    obtain ⟨v,H',I3,rv,ev,q3⟩:=I2.after hq';subst ev;exact ⟨rv,⟨V.ref (s.heap.objs.size+1),H',I3,rfl,q3⟩⟩
   | next=>exact Zd hq'
   | brk=>exact Zd hq'
   | cont=>exact Zd hq'
def zaix (M:Mk X.K C f) (F:FnOk X.prog X.w X.K X.mg X.base CX k f fd ps sp) (hr:Room (k+1) X.A) (hg:Gl X x) (hm:X.mg x=some (.ref C)) (hb:Binds X.K fd ps ds) (hd:Vals dvs ds) (hx:qlm CX X E)
 (ha:PA X (e::es) t) (hdb:Nd0 x:=by decide) (he:Qp (e::es) X.env=(false,eval e X.env)::Qp es X.env:=by rfl) (hpl:(Vc pos (Qp es X.env)).any (·.1)=false:=by rfl) :
  PE X (.Call (.Name x p) (e::es) [] pos) (zaqe C sp dvs E t):=by
  intro pins s σ H Q I h;refine J8 (qjt I hg hm ?_ hdb);refine Qbh (h₀:=X.base) I.ok.mod.kin M.kp (thn (ha pos pins s σ H _ I h) fun us s1 ⟨vs,H1,I1,r,q⟩=>⟨I1.kIn,?_⟩) he hpl;exact zage M F hr hb hd hx I1 r q
end
section
variable {X:Cx}{CX:CXT}{k:Nat}{f C:Addr}{fd:Vn}{ps ks:List Str}{sp:Sp}{E:XK}{x m:Str}{p pos apos kpos:Pos}{e o:Expr}{es:List Expr}{kws:List Qbo}{te ta:TE}{t tk:TA}{nm:Option Str}
variable {g:List Value->List Value->List Value}{gV:List V->List V->List V}
end
structure FnScope (N P:List Str) (sc:Scope):Prop where
 kind:sc.kind = .function
 co:sc.isCoroutine=false
 gen:sc.isGenerator=false
 nd:N.Nodup
 pre:N.take P.length=P
 par : ∀ x ∈ P,sc.names.lookup x=some .local\/sc.names.lookup x=some .cell
 nofree : ∀ y ∈ sc.names,y.2 ≠ .free
def qsn {Qee:Str->Option Qar}{x:Str} : ∀ {binds:List (Str×Value)}{m:Str->Option Value},(∀ v,(x,v) ∉ binds)->bindL Qee binds m x=m x
 | [],_,_=>rfl
 | (n,v)::r,m,h=>by
  unfold bindL;rw [qsn fun w hw=>h w (Qy _ hw)];split
  ·have:x≠n:=by rintro rfl;exact h v Qbg
   simp [this]
  ·rfl
def qsh {Qee:Str->Option Qar}{x:Str} : ∀ {binds:List (Str×Value)}{m:Str->Option Value},(∀ v,(x,v) ∉ binds)->bindC Qee binds m x=m x
 | [],_,_=>rfl
 | (n,v)::r,m,h=>by
  unfold bindC;rw [qsh fun w hw=>h w (Qy _ hw)];split
  ·rfl
  ·have:x≠n:=by rintro rfl;exact h v Qbg
   simp [this]
def qsx {Qee:Str->Option Qar}{x:Str}{v:Value} : ∀ {P:List Str}{vs:List Value}{i:Nat}{m:Str->Option Value},P.Nodup->P[i]?=some x->vs[i]?=some v->Qee x=some .local ->
 bindL Qee (P.zip vs) m x=some v
  | [],_,_,_,_,h,_,_=>by simp at h
  | _::_,[],_,_,_,_,h,_=>by simp at h
  | p::P,w::vs,0,m,nd,h1,h2,hk=>by
   simp at h1 h2;subst h1;subst h2;show bindL Qee ((p,w)::P.zip vs) m p=_;unfold bindL;rw [qsn fun v hv=>(Qdb.mp nd).1 (Qfc hv).1,if_pos hk];simp
  | p::P,w::vs,i+1,m,nd,h1,h2,hk=>by
   show bindL Qee ((p,w)::P.zip vs) m x=_;unfold bindL;exact qsx (i:=i) (Qdb.mp nd).2 (by simpa using h1) (by simpa using h2) hk
def qso {Qee:Str->Option Qar}{x:Str}{v:Value} : ∀ {P:List Str}{vs:List Value}{i:Nat}{m:Str->Option Value},P.Nodup->P[i]?=some x->vs[i]?=some v->Qee x≠some .local ->
 bindC Qee (P.zip vs) m x=some v
  | [],_,_,_,_,h,_,_=>by simp at h
  | _::_,[],_,_,_,_,h,_=>by simp at h
  | p::P,w::vs,0,m,nd,h1,h2,hk=>by
   simp at h1 h2;subst h1;subst h2;show bindC Qee ((p,w)::P.zip vs) m p=_;unfold bindC;rw [qsh fun v hv=>(Qdb.mp nd).1 (Qfc hv).1,if_neg hk];simp
  | p::P,w::vs,i+1,m,nd,h1,h2,hk=>by
   show bindC Qee ((p,w)::P.zip vs) m x=_;unfold bindC;exact qso (i:=i) (Qdb.mp nd).2 (by simpa using h1) (by simpa using h2) hk
def start (N:List Str) (vs:List V):St:=vs.map some++Zb (N.length-vs.length) none
def qge (CX:CXT) (P:Zr) (w:World) (K:Qd) (mg:Str->Option Value) (base:Heap) (N:List Str) (qual:Str) (scope:Scope) (f:Addr) (cd:Value) (A:Ye) (outer:List Env) (s:Ql) (H:Hp) (E:XK):Cx where
 prog:=P
 w:=w
 K:=K
 mg:=mg
 base:=base
 A:=A.deeper (Qcn qual scope s.heap.objs.size f cd)
 N:=N
 s₀:=s
 H₀:=H
 env:=Qcn qual scope s.heap.objs.size f cd
 outer:=outer
 stack:=Qcn qual scope s.heap.objs.size f cd::outer
 ex:=[]
 calm:=true
 fn:=fun _=>true
 pn:=[]
 xe:=fun e s'=>wpAny (model P w) (A.deeper (Qcn qual scope s.heap.objs.size f cd)) (leaving (Qcn qual scope s.heap.objs.size f cd) e) (fun _ s''=>CX outer H s E e s'') (fun e' s''=>CX outer H s E e' s'') s'
def qws {sc:Scope}{n:Nat}{x:Str} (h:sc.names.lookup x=some .cell) : ∃ c,(Vq n sc.names []).lookup x=some c:=by
 have q:=Qbq sc.names n [] (.inl h);exact Jg.mp q
def zack {CX:CXT}{P:Zr}{w:World}{K:Qd}{mg:Str->Option Value}{base:Heap}{N ps:List Str}{qual:Str}{scope:Scope}{f:Addr}{cd:Value}{A:Ye}{outer:List Env}{s s1:Ql}{H:Hp}{E:XK}{us:List Value}{vs:List V}
 (S:FnScope N ps scope) (hd:A.handled=none) (e0:Env0 P w K mg base A outer s H) (hl:vs.length=ps.length) (r:Vals vs us)
 (x:InCallC s s.heap.objs.size (bindL (Qcn qual scope s.heap.objs.size f cd).kindOf (ps.zip us) fun _=>none) (Vq (s.heap.objs.size+1) scope.names []) (bindC (Qcn qual scope s.heap.objs.size f cd).kindOf (ps.zip us) fun _=>none) s1) :
 Inv (qge CX P w K mg base N qual scope f cd A outer s H E) [] (start N vs) H s1:=by
  have hpl:ps.length<=N.length:=by have:=congrArg Qis S.pre;rw [Z3] at this;omega
  obtain ⟨h1,tk,rfl,hk⟩:=x.done;have noA : ∀ b:Addr,b ∉ (qge CX P w K mg base N qual scope f cd A outer s H E).ex:=fun b z=>absurd (show b ∈ ([]:List Addr) from z) (by simp);refine ⟨⟨e0.mod,S.kind,rfl,rfl,Qs _,fun y z c h1 h2=>?_,fun y hy=>?_,fun y c _ h=>?_,fun _=>hd,Ye.frames_deeper e0.frames,.inr ⟨rfl,rfl⟩,fun b z=>absurd z (noA b),e0.bs,e0.bsz,fun b _ _=>noA b,fun b z=>absurd z (noA b),e0.funs,e0.frf⟩,
   rfl,e0.bare,Un.kept hk,⟨_,x.toInCall.ns,fun i y v h1 h2 h3=>?_⟩,fun y c h=>⟨_,x.cell y c h⟩,e0.hok.fresh (Qs _),fun y c h=>?_,fun p hp=>absurd (show p ∈ ([]:List (Addr×Obj)) from hp) (by simp),e0.hok.kept hk,?_⟩
  ·exact name_of_addr x.apart (V0 h1) (V0 h2)
  ·have hy:scope.names.lookup y=some .cell\/scope.names.lookup y=some .free:=hy;rcases hy with hy|hy
   ·exact qws hy
   ·exact absurd rfl (S.nofree _ (V0 hy))
  ·exact Yg (x.above y c (V0 h))
  ·have hi:i<vs.length:=by
    unfold start at h2;by_cases hi:i<vs.length
    ·exact hi
    ·rw [Zm (by simpa using hi)] at h2;rw [Vr] at h2;split at h2 <;> cases h2
   have ha:vs[i]?=some v:=by
    unfold start at h2;rw [Zc (by simpa using hi),Qa] at h2;cases e:vs[i]? with
    | none=>rw [e] at h2;cases h2
    | some a=>rw [e] at h2;cases h2;rfl
   obtain ⟨u,hu,rv⟩:=r.get ha;have hp:ps[i]?=some y:=by
    rw [<- S.pre,Jh (by omega)];exact h1
   have ndP:ps.Nodup:=by rw [<- S.pre];exact S.nd.sublist (List.take_sublist _ _)
   refine ⟨u,rv,?_⟩;rcases S.par y (Qg hp) with k|k
   ·exact .inl ⟨k,qsx ndP hp hu k⟩
   ·obtain ⟨c,e⟩:=qws (n:=s.heap.objs.size+1) k;refine .inr ⟨.inl k,c,e,?_⟩;have q:=x.cell y c e;rw [qso ndP hp hu (by show scope.names.lookup y≠_;rw [k];decide)] at q;exact q
  ·exact e0.hok.fresh (Yg (x.above y c (V0 h)))
  ·unfold start;show _=N.length;rw [Zj,Qe,Vj];omega
def zame {CX:CXT}{P:Zr}{w:World}{K:Qd}{mg:Str->Option Value}{base:Heap}{k:Nat}{f:Addr}{name qual:Str}{params:Arguments}{body:List Stmt}{scope:Scope}{dV kV doc pm cdv ct oc:Value}{an od:Option Addr}
 {osl:Array (Option Value)}{N ps:List Str}{sp:Sp} (lk:K.lookup f=some ⟨oc,od,.func (Vv name qual params body scope dV kV doc pm an cdv ct),osl⟩) (hcd:Qcd K cdv qual=true) (S:FnScope N ps scope)
 (len : ∀ vs H Q E,sp vs H Q E->vs.length=ps.length)
 (hbody : ∀ (A:Ye) (outer:List Env) (s:Ql) (H:Hp) (vs:List V) (Q:VK) (E:XK),Room k (A.deeper (Qcn qual scope s.heap.objs.size f cdv))->sp vs H Q E ->
 ∃ t,PSs (qge CX P w K mg base N qual scope f cdv A outer s H E) body t/\t { nx:=fun _ H'=>Q .non H',rt:=Q } (start N vs) H) :
  FnOk P w K mg base CX (k+1) f (Vv name qual params body scope dV kV doc pm an cdv ct) ps sp:=by
  refine ⟨len,fun A outer s H args us vs Q E hr e0 hb r hsp=>?_⟩;have hl:=len _ _ _ _ hsp;have KX:K.In s.heap:=e0.mod.kin.keeps fun b o e=>(e0.bs b o e).1;have lim:s.heap.NoLimit:=e0.mod.nolimit.keeps fun b o e=>(e0.bs b o e).1;have hkind : ∀ y ∈ ps.zip us,scope.names.lookup y.1=some .local\/(scope.names.lookup y.1=some .cell/\((Vq (s.heap.objs.size+1) scope.names []).lookup y.1).isSome=true):=fun xx54 hy=>by
   obtain ⟨n,v⟩:=xx54;rcases S.par n (Qfc hy).1 with q|q
   ·exact .inl q
   ·exact .inr ⟨q,Qbq _ _ _ (.inl q)⟩
  refine codeAny_call_function hr.depth (KX _ _ lk) rfl S.co S.gen rfl (PySem.W.codeRec_of KX hcd) (hb _ _ _ _ ?_);refine wpAny_newFunctionEnv_cells S.kind hkind fun env he s1 x=>?_;subst he;refine ⟨lim.keeps x.toInCall.keep,codeAny_func ?_⟩;obtain ⟨t,ht,hq⟩:=hbody A outer s H vs Q E (hr.deeper _) hsp;have I:Inv (qge CX P w K mg base N qual scope f cdv A outer s H E) [] (start N vs) H s1:=zack S hr.hd e0 hl r x;refine Yw (ht [] s1 (start N vs) H _ I hq) (fun fl s' hs=>?_) fun e s' hs=>hs;have fin : ∀ {σ':St}{H':Hp}{v:V}{u:Value},Inv (qge CX P w K mg base N qual scope f cdv A outer s H E) [] σ' H' s'->RelV v u->Q v H'->CE outer P w H s Q u s' :=
   fun {σ' H' v u} J rv q=>⟨v,H',J.os,J.bare,J.base,J.hok,rv,q⟩
  cases fl with
  | ret u =>
   obtain ⟨v,σ',H',J,rv,q⟩:=hs;exact fin J rv q
  | next =>
   obtain ⟨σ',H',J,q⟩:=hs;exact fin (v:=V.non) (u:=Qay) J rfl q
  | brk =>
   obtain ⟨_,_,_,q⟩:=hs;exact Zd q
  | cont =>
   obtain ⟨_,_,_,q⟩:=hs;exact Zd q
end
section
section
variable {X:Cx}{x:Str}{p pos:Pos}{e:Expr}{es:List Expr}{t:TA}{id T:String}{r:List V->Hp->VK->Prop}
def tCB (r:List V->Hp->VK->Prop) (t:TA):TE:=fun σ H Q=>t σ H fun vs H1=>r vs H1 Q
def qgq (hc:CallR X (.builtin id) r) (hg:Gl X x) (hm:X.mg x=none) (hv:Zq x=some (.builtin id)) (ha:PA X (e::es) t) (hn:x ≠ "__name__":=by decide) (hdb:Nd0 x:=by decide)
 (he:Qp (e::es) X.env=(false,eval e X.env)::Qp es X.env:=by rfl) (hpl:(Vc pos (Qp es X.env)).any (·.1)=false:=by rfl):PE X (.Call (.Name x p) (e::es) [] pos) (tCB r t):=by
 intro pins s σ H Q I h;refine J8 (qlj I hg hm hv ?_ hn hdb);exact PyProof.Rows.callWith_builtin1 (thn (ha pos pins s σ H _ I h) fun us s1 xx55=>by obtain ⟨vs,H1,I1,r1,q1⟩:=xx55;exact hc pins s1 σ H1 vs us Q I1 r1 q1) he hpl
def qjn (hc:CallR X (.type T) r) (hg:Gl X x) (hm:X.mg x=none) (hv:Zq x=some (.type T)) (ha:PA X (e::es) t) (hn:x ≠ "__name__":=by decide) (hdb:Nd0 x:=by decide)
 (he:Qp (e::es) X.env=(false,eval e X.env)::Qp es X.env:=by rfl) (hpl:(Vc pos (Qp es X.env)).any (·.1)=false:=by rfl):PE X (.Call (.Name x p) (e::es) [] pos) (tCB r t):=by
 intro pins s σ H Q I h;refine J8 (qlj I hg hm hv ?_ hn hdb);exact Y6 (thn (ha pos pins s σ H _ I h) fun us s1 xx56=>by obtain ⟨vs,H1,I1,r1,q1⟩:=xx56;exact hc pins s1 σ H1 vs us Q I1 r1 q1) he hpl
end
end
end L2
namespace HT
open PySem PyProof.Rows
section
open PySem.SeqAt
open PySem.AutoSeq1 (wpAny_loadPart')
open PySem.MeetsSeq PySem.MeetsSeq2 PySem.MeetsSeq3
end
section
variable {prog:Zr}{w:World}{A:Ye}{E:Value->Ql->Prop}{s:Ql}
def cat_tup {t b:Addr}{vs ws:List Value}{Q:Value->Ql->Prop} (ht:IsTup s.heap t vs.toArray) (hb:IsTup s.heap b ws.toArray) (hv:vs≠[])
 (h1:ws=[]->Q (.ref t) s) (h2:ws≠[]->Q (.ref s.heap.objs.size) { s with heap:=s.heap.push { cls :=.type "tuple",data :=.seq (vs++ws).toArray } })
  (hsz:vs.length+ws.length<=Qz):wpAny (model prog w) A (V2 .Add (.ref t) (.ref b)) Q E s:=by
  obtain ⟨⟨cls,dd,data,sl⟩,ho,hc,n,hd⟩:=id ht;obtain ⟨⟨cls2,dd2,data2,sl2⟩,ho2,hc2,n2,hd2⟩:=id hb;simp only at hc hd hc2 hd2;subst hc hd hc2 hd2;have e:vs.toArray++ws.toArray=(vs++ws).toArray:=by simp
  by_cases hw:ws=[]
  ·exact Qhz ⟨_,ho,rfl⟩ ⟨_,ho2,rfl⟩ noFill_tuple_add seq_tuple_add Qev Qeh (Qdz _ _)
    (tuple_addW1 t b vs.toArray ws.toArray n n2 dd dd2 sl sl2 (by simpa using hv) (by simp [hw])) ⟨ho,ho2,h1 hw⟩
  ·refine Qhz ⟨_,ho,rfl⟩ ⟨_,ho2,rfl⟩ noFill_tuple_add seq_tuple_add Qev Qeh (Qdz _ _)
    (tuple_addW2 t b vs.toArray ws.toArray n n2 dd dd2 sl sl2 (by simpa using hv) (by simpa using hw) (by rw [Qu,Qu];exact hsz)) ⟨ho,ho2,?_⟩
   rw [e];exact h2 hw
def sIx (n d:Nat):Option Int->Nat
 | none=>d
 | some v=>if v<0 then (v+(n:Int)).toNat else min v.toNat n
def sIx_none (n d:Nat):sIx n d none=d:=rfl
def sIx_nat (n d k:Nat):sIx n d (some (k:Int))=min k n:=by
 show (if (k:Int)<0 then ((k:Int)+(n:Int)).toNat else min (k:Int).toNat n)=min k n;rw [if_neg (by omega),Zt]
end
end HT
namespace L2
open PySem PySem.Spec PyProof.Rows
section
abbrev TO:=St->Hp->(Option Int->Hp->Prop)->Prop
def PO (X:Cx) (e:Option Expr) (t:TO):Prop :=
 ∀ (pins:List (Addr×Obj)) (s:Ql) (σ:St) (H:Hp) (Q:Option Int->Hp->Prop),Inv X pins σ H s->t σ H Q ->
  wpAny (model X.prog X.w) X.A (evalPart e X.env) (fun u s' => ∃ o H',Inv X pins σ H' s'/\IsPart u o/\Q o H') X.xe s
def zajo:TO:=fun _ H Q=>Q none H
def zaqy (t:TE):TO:=fun σ H Q=>t σ H fun x H1 => ∃ i,x = .int i/\Q (some i) H1
def qpt {ns:List Int} : ∀ {us:List Value},Vals (ns.map V.int) us->Qhn us ns:=by
 induction ns with
 | nil=>intro us r;rw [Qfd] at r;cases r;exact .nil
 | cons n ns ih =>
  intro us r;rw [Yh] at r;cases r with
  | cons r1 r2 =>
   obtain ⟨t,e⟩:=r1;subst e;exact .cons n t (ih r2)
section
variable {X:Cx}{e:Expr}{te:TE}{lo hi:Option Expr}{tl th:TO}{pos p2:Pos}
def zajp:PO X none zajo:=by
 intro pins s σ H Q I h;rw [evalPart_none];exact Q9 ⟨none,H,I,.none,h⟩
def zaky (h:PE X e te):PO X (some e) (zaqy te):=by
 intro pins s σ H Q I hw;rw [evalPart_some];refine thn (h pins s σ H _ I hw) fun u s1 xx57=>?_;obtain ⟨x,H1,I1,r1,q1⟩:=xx57;obtain ⟨i,rfl,q⟩:=q1;obtain ⟨t,rfl⟩:=r1;exact ⟨some i,H1,I1,.int i t,q⟩
def SlR (X:Cx) (r:V->Option Int->Option Int->Hp->VK->Prop):Prop :=
 ∀ (pins:List (Addr×Obj)) (s:Ql) (σ:St) (H:Hp) (x:V) (v vl vu:Value) (lo hi:Option Int) (sl:Addr) (Q:VK),Inv X pins σ H s->RelV x v->s.heap.IsSliceOf sl vl vu .none->IsPart vl lo->IsPart vu hi->r x lo hi H Q ->
  ∃ T id,typeLookup (.type T) "__getitem__" = pure (some (.builtin id))/\s.TypeIs v T/\wpAny (model X.prog X.w) X.A (getItem v (.ref sl)) (EP X pins σ Q) X.xe s
def tSl (r:V->Option Int->Option Int->Hp->VK->Prop) (te:TE) (tl th:TO):TE:=fun σ H Q=>te σ H fun x H1=>tl σ H1 fun l H2=>th σ H2 fun u H3=>r x l u H3 Q
def zagy {r:V->Option Int->Option Int->Hp->VK->Prop} (hr:SlR X r) (he:PE X e te) (hl:PO X lo tl) (hu:PO X hi th):PE X (.Subscript e (.Slice lo hi none p2) pos) (tSl r te tl th):=by
 intro pins s σ H Q I h;refine Subscript_ (thn (he pins s σ H _ I h) fun v s1 xx60=>?_);obtain ⟨x,H1,I1,r1,q1⟩:=xx60;refine wpAny_Slice (thn (hl pins s1 σ H1 _ I1 q1) fun vl s2 ⟨l,H2,I2,pl,q2⟩=>thn (hu pins s2 σ H2 _ I2 q2) fun vu s3 xx58=>?_);obtain ⟨u,H3,I3,pu,q3⟩:=xx58;rw [evalPart_none];refine Q9 ?_;have I4:Inv X pins σ H3 { s3 with heap:=s3.heap.push { cls :=.type "slice",data :=.fields #[vl,vu,.none] } }:=I3.kept (t':=s3.toks) fun b ob q=>Qj _ q;obtain ⟨T,id,hT,ht,hg⟩:=hr pins { s3 with heap:=s3.heap.push { cls :=.type "slice",data :=.fields #[vl,vu,.none] } } σ H3 x v vl vu l u s3.heap.objs.size Q I4 r1 (Qkm ..) pl pu q3;show wpAny (model X.prog X.w) X.A (subscriptTail e (.Slice lo hi none p2) v (.ref s3.heap.objs.size)) (EP X pins σ Q) X.xe { s3 with heap:=s3.heap.push { cls :=.type "slice",data :=.fields #[vl,vu,.none] } };exact tail_any (ops:=[.ref s3.heap.objs.size,v]) ht hT hg (by with_unfolding_all rfl)
def cutV (xs:List V) (lo hi:Option Int):List V:=(xs.drop (HT.sIx xs.length 0 lo)).take (HT.sIx xs.length xs.length hi-HT.sIx xs.length 0 lo)
def qvx (xs:List V) (lo hi:Option Int):(cutV xs lo hi).length<=xs.length:=by
 unfold cutV;rw [Z3,V5];omega
def zaqq (K:Qd):R2:=fun x y H Q => ∃ a b xs ys,x = .ref a/\y = .ref b/\SqT K H a xs/\SqT K H b ys/\xs≠[]/\xs.length+ys.length<=Qz /\
 (ys=[]->Q (.ref a) H)/\(ys≠[] -> ∀ p,H p=none->Q (.ref p) (upd H p (.tup (xs++ys))))
def Vals.nil_iff {xs:List V}{us:List Value} (r:Vals xs us):us=[]↔xs=[]:=by
 cases r with
 | nil=>simp
 | cons _ _=>simp
def zakd:OpR X (V2 .Add) (zaqq X.K):=by
 intro pins s σ H x y v u Q I rx ry h;obtain ⟨a,b,xs,ys,rfl,rfl,ha,hb,hx,hz,q1,q2⟩:=h;cases rx;cases ry;obtain ⟨its,r1,p1,_⟩:=I.tuple ha;obtain ⟨its2,r2,p2,_⟩:=I.tuple hb;refine HT.cat_tup p1 p2 (fun z=>hx (r1.nil_iff.mp z)) (fun z=>⟨.ref a,H,I,rfl,q1 (r2.nil_iff.mp z)⟩) (fun z=>?_) (by rw [<- r1.length,<- r2.length];exact hz);refine ⟨.ref s.heap.objs.size,_,I.laid (t':=s.toks) (o :=.tup (xs++ys)) (fun b ob q=>Qj _ q) (Qs _) ?_,rfl,q2 (fun w=>z (r2.nil_iff.mpr w)) _ (I.hok.fresh (Qs _))⟩;exact ⟨by rw [Zj];exact hz,_,r1.append r2,Qkf _ _⟩
end
end
section
def ixN (n:Nat) (i:Int):Option Nat:=if 0<=i then (if i<n then some i.toNat else none) else if -(n:Int)<=i then some (i+n).toNat else none
def atI {α:Type} (xs:List α) (i:Int):Option α:=(ixN xs.length i).bind fun j=>xs[j]?
def zaaz {n:Nat}{i:Int}{j:Nat} (h:ixN n i=some j):seqIndex? i n=some j/\j<n /\ -(n:Int)<=i/\i<n:=by
 unfold ixN at h;by_cases h0:0<=i
 ·rw [if_pos h0] at h;by_cases h1:i<n
  ·rw [if_pos h1] at h;have e:i.toNat=j:=Qx h;exact ⟨by rw [Qjm h0 h1,e],by omega,by omega,h1⟩
  ·rw [if_neg h1] at h;cases h
 ·rw [if_neg h0] at h;by_cases h1 : -(n:Int)<=i
  ·rw [if_pos h1] at h;have e:(i+n).toNat=j:=Qx h;exact ⟨by rw [Qib (by omega) h1,e],by omega,h1,by omega⟩
  ·rw [if_neg h1] at h;cases h
def quo {α:Type}{xs:List α}{i:Int}{v:α} (h:atI xs i=some v) : ∃ j,seqIndex? i xs.length=some j/\xs[j]?=some v/\j<xs.length /\ -(xs.length:Int)<=i/\i<xs.length:=by
 unfold atI at h;cases e:ixN xs.length i with
 | none=>rw [e] at h;cases h
 | some j =>
  rw [e] at h;obtain ⟨h1,h2,h3,h4⟩:=zaaz e;exact ⟨j,h1,h,h2,h3,h4⟩
def qP {α:Type}{xs:List α}{j:Nat}{v:α} (h:xs[j]?=some v):atI xs (j:Int)=some v:=by
 have hj:j<xs.length:=(Qk.mp h).1;have e:ixN xs.length (j:Int)=some j:=by
  unfold ixN;rw [if_pos (by omega),if_pos (by omega)];simp
 unfold atI;rw [e];exact h
def atI_last {α:Type} (xs:List α) (v:α):atI (xs++[v]) (-1)=some v:=by
 have hl:(xs++[v]).length=xs.length+1:=by simp
 have e:ixN (xs++[v]).length (-1)=some xs.length:=by
  unfold ixN;rw [hl,if_neg (by decide),if_pos (by omega)]
  congr 1
  omega
 unfold atI;rw [e];show (xs++[v])[xs.length]?=some v;simp
def quq (b:Expr):Prop := ∀ o i,subscripted b false o i=operate [o,i] (getItem o i)
def IxR (X:Cx) (r:R2):Prop :=
 ∀ (value slice:Expr) (pins:List (Addr×Obj)) (s:Ql) (σ:St) (H:Hp) (x y:V) (v u:Value) (Q:VK),Inv X pins σ H s->RelV x v->RelV y u->r x y H Q ->
  subscripted slice false v u=operate [v,u] (getItem v u)->wpAny (model X.prog X.w) X.A (subscriptTail value slice v u) (EP X pins σ Q) X.xe s
def MtR (X:Cx) (id:String) (r:V->List V->Hp->VK->Prop):Prop :=
 ∀ (pins:List (Addr×Obj)) (s:Ql) (σ:St) (H:Hp) (x:V) (xs:List V) (v:Value) (us:List Value) (Q:VK),Inv X pins σ H s->RelV x v->Vals xs us->r x xs H Q ->
  wpAny (model X.prog X.w) X.A (call (.builtin id) (v::us)) (EP X pins σ Q) X.xe s
section
variable {X:Cx}{a b:Expr}{ta tb:TE}{pos:Pos}
def IxR.or {r r':R2} (h:IxR X r) (h':IxR X r'):IxR X (fun x y H Q=>r x y H Q\/r' x y H Q):=by
 intro value slice pins s σ H x y v u Q I rx ry q hs;rcases q with q|q
 ·exact h value slice pins s σ H x y v u Q I rx ry q hs
 ·exact h' value slice pins s σ H x y v u Q I rx ry q hs
def zadn {r:R2} (hr:IxR X r) (ha:PE X a ta) (hb:PE X b tb) (hs:quq b):PE X (.Subscript a b pos) (tOp r ta tb):=by
 intro pins s σ H Q I h;exact Subscript_ (binT ha hb I h fun v u s2 x y H2 I2 rx ry q=>hr a b pins s2 σ H2 x y v u Q I2 rx ry q (hs _ _))
def rIxL (K:Qd):R2:=fun x y H Q => ∃ p xs i v,x = .ref p/\y = .int i/\SqL K H p xs/\atI xs i=some v/\Q v H
def rIxT (K:Qd):R2:=fun x y H Q => ∃ p xs i v,x = .ref p/\y = .int i/\SqT K H p xs/\atI xs i=some v/\Q v H
def rIxS:R2:=fun x y H Q => ∃ z i c,x = .str z/\y = .int i/\z.length<=Qz/\atI z.cps.toList i=some c/\Q (.str ⟨#[c]⟩) H
def qpz:IxR X (rIxL X.K):=by
 intro value slice pins s σ H x y v u Q I rx ry h hs;obtain ⟨p,xs,i,z,rfl,rfl,hq,he,q⟩:=h;cases rx;obtain ⟨t,rfl⟩:=ry;obtain ⟨its,r,pl,hz⟩:=I.list hq;obtain ⟨j,h1,h2,h3,h4,h5⟩:=quo he;obtain ⟨w,ew,rw'⟩:=r.get h2;have hl:=r.length;have hn:=qli;have fin:EP X pins σ Q w s:=⟨z,H,I,rw',q⟩
 by_cases h0:0<=i
 ·have hj:i.toNat=j:=by
   rw [Qjm h0 h5] at h1;exact Qx h1
  exact item_listR pl.isList h0 (by omega) (by rw [hj];simpa using ew) fin hs
 ·have hj:(i+(its.toArray.size:Int)).toNat=j:=by
   rw [Qib (by omega) h4] at h1;rw [Qu,<- hl];exact Qx h1
  exact Qex (x:=w) pl.isList.typeIs slot_list_getitem.lookup
   (wpAny_getItem_list_neg (Q:=fun r s'=>r=w/\EP X pins σ Q r s') pl.isList (by omega) (by rw [Qu] <;> omega) (by omega) (by rw [hj];simpa using ew) ⟨rfl,fin⟩) hs
def zano:IxR X (rIxT X.K):=by
 intro value slice pins s σ H x y v u Q I rx ry h hs;obtain ⟨p,xs,i,z,rfl,rfl,hq,he,q⟩:=h;cases rx;obtain ⟨t,rfl⟩:=ry;obtain ⟨its,r,pl,hz⟩:=I.tuple hq;obtain ⟨j,h1,h2,h3,h4,h5⟩:=quo he;obtain ⟨w,ew,rw'⟩:=r.get h2;have hl:=r.length;have hn:=qli;have fin:EP X pins σ Q w s:=⟨z,H,I,rw',q⟩
 exact Qex (x:=w) pl.typeIs slot_tuple_getitem.lookup
  (getItem_tuple (j:=j) (Q:=fun r s'=>r=w/\EP X pins σ Q r s') pl (by omega) (by omega) (by rw [Qu,<- hl];exact h1) (by simpa using ew) ⟨rfl,fin⟩) hs
def zanv:IxR X rIxS:=by
 intro value slice pins s σ H x y v u Q I rx ry h hs;obtain ⟨z,i,c,rfl,rfl,hz,he,q⟩:=h;obtain ⟨t,rfl⟩:=rx;obtain ⟨t',rfl⟩:=ry;obtain ⟨j,h1,h2,h3,h4,h5⟩:=quo he;have hl:z.cps.toList.length=z.length:=by simp [Str.length]
 rw [hl] at h1 h4 h5;have hn:=qli;exact tail_any (typeIs_str s z t) slot_str_getitem.lookup (getItem_str (c:=c) (by
  have e1:decide (i < -(2^63:Int))=false:=decide_eq_false (by omega);have e2:decide (i>=2^63)=false:=decide_eq_false (by omega);rw [e1,e2,Bool.or_false]) (by rw [h1];simpa using h2) ⟨.str ⟨#[c]⟩,H,I.tok _,⟨_,rfl⟩,q⟩) hs
def rIx (K:Qd):R2:=fun x y H Q=>rIxL K x y H Q\/rIxT K x y H Q\/rIxS x y H Q
def zapa:IxR X (rIx X.K):=qpz.or (zano.or zanv)
def qxx (its:List Value) (n j:Nat) (u:Value):Qcw (·.setIfInBounds j u) { cls :=.type "list",data :=.seq its.toArray n }={ cls :=.type "list",data :=.seq (its.set j u).toArray n }:=by
 simp [Qcw]
def Inv.lst {pins:List (Addr×Obj)}{σ:St}{H:Hp}{s:Ql}{p:Addr}{xs:List V} (I:Inv X pins σ H s) (h:H p=some (.lst xs)) :
 ∃ (its:List Value) (n:Nat),Vals xs its/\s.heap.get? p=some { cls :=.type "list",data :=.seq its.toArray n }/\xs.length<=Qz:=by
  obtain ⟨z,its,n,r,e⟩:=I.hok p _ h;exact ⟨its,n,r,e,z⟩
def Inv.lstUpd {pins:List (Addr×Obj)}{σ:St}{H:Hp}{s:Ql}{p:Addr}{xs ys:List V}{its its':List Value}{n n':Nat}{f:Obj->Obj} (I:Inv X pins σ H s) (h:H p=some (.lst xs))
 (ho:s.heap.get? p=some { cls :=.type "list",data :=.seq its.toArray n }) (hf:f { cls :=.type "list",data :=.seq its.toArray n }={ cls :=.type "list",data :=.seq its'.toArray n' }) (r:Vals ys its') (hz:ys.length<=Qz) (t:Nat) :
  Inv X pins σ (upd H p (.lst ys)) { s with heap:=s.heap.update p f,toks:=t }:=by
  have e:(s.heap.update p f).get? p=some { cls :=.type "list",data :=.seq its'.toArray n' }:=by
   rw [Qfe f ho (by rw [hf] <;> rfl),hf]
  refine I.write (x:=p) (e:=p) (by rw [h];trivial) (.inl rfl) (fun b u hb q=>(Qbr _ _ (Z1 hb)).trans q) ⟨_,e⟩ ?_;exact ⟨hz,its',n',r,e⟩
def zaqr:V->V->V->Hp->(Hp->Prop)->Prop:=fun o i v H Q => ∃ p xs k j,o = .ref p/\i = .int k/\H p=some (.lst xs)/\ixN xs.length k=some j/\Q (upd H p (.lst (xs.set j v)))
def qwt:PSet X zaqr:=by
 intro pins s σ H o i v ov iv u Q I ro ri rv h;obtain ⟨p,xs,k,j,rfl,rfl,hp,hj,q⟩:=h;cases ro;obtain ⟨t,rfl⟩:=ri;obtain ⟨its,n,r,ho,hz⟩:=I.lst hp;obtain ⟨h1,h2,h3,h4⟩:=zaaz hj;have hl:=r.length;have hn:=qli;have I':Inv X pins σ (upd H p (.lst (xs.set j v))) { s with heap:=s.heap.update p (Qcw (·.setIfInBounds j u)) } :=
  I.lstUpd hp ho (qxx its n j u) (r.set rv j) (by rw [Yp];exact hz) s.toks
 by_cases h0:0<=k
 ·have hk:k.toNat=j:=by
   rw [Qjm h0 h4] at h1;exact Qx h1
  exact PySem.W.ki_setAt ho h0 (by omega) (by rw [Qu,<- hl];exact h4) (by rw [hk];exact ⟨_,I',q⟩)
 ·have hk:(k+(its.toArray.size:Int)).toNat=j:=by
   rw [Qib (by omega) h3] at h1;rw [Qu,<- hl];exact Qx h1
  exact PySem.W.ki_setBack ho (by omega) (by rw [Qu,<- hl];exact h3) (by omega) (by rw [hk];exact ⟨_,I',q⟩)
def qtn (lo hi:Option Int) (n:Nat):(Qca lo hi none n).1=((HT.sIx n 0 lo:Nat):Int)/\(Qca lo hi none n).2.1=((HT.sIx n n hi:Nat):Int)/\(Qca lo hi none n).2.2=1:=by
 refine ⟨?_,?_,rfl⟩
 ·cases lo with
  | none=>simp [Qca,HT.sIx]
  | some i =>
   simp only [Qca,HT.sIx,Qid,show (1:Int)>0 by decide,if_true];by_cases h:i<0
   ·simp only [h,if_true] <;> omega
   ·simp only [h,if_false] <;> omega
 ·cases hi with
  | none=>simp [Qca,HT.sIx]
  | some i =>
   simp only [Qca,HT.sIx,Qid,show (1:Int)>0 by decide,if_true];by_cases h:i<0
   ·simp only [h,if_true] <;> omega
   ·simp only [h,if_false] <;> omega
def qrp (its:List Value) (lo hi:Option Int):slicePick its.toArray lo hi none=((its.drop (HT.sIx its.length 0 lo)).take (HT.sIx its.length its.length hi-HT.sIx its.length 0 lo)).toArray:=by
 obtain ⟨h1,h2,h3⟩:=qtn lo hi its.toArray.size;unfold slicePick;rw [h1,h2,h3];simp only [sliceRange_one,pick_run,Qu] <;> rfl
def rSlL (K:Qd):V->Option Int->Option Int->Hp->VK->Prop:=fun x lo hi H Q => ∃ a xs,x = .ref a/\SqL K H a xs /\ ∀ p,H p=none->Q (.ref p) (upd H p (.lst (cutV xs lo hi)))
def zald:SlR X (rSlL X.K):=by
 intro pins s σ H x v vl vu lo hi sl Q I rx hs pl pu h;obtain ⟨a,xs,rfl,hx,q⟩:=h;cases rx;obtain ⟨its,r,ht,hz⟩:=I.list hx;have hlen:=r.length;refine ⟨"list",_,slot_list_getitem.lookup,ht.isList.typeIs,?_⟩;refine wpAny_getItem_list_slice ht.isList hs pl pu .none (by simp) ?_ (by rw [Qu] <;> omega);rw [qrp,<- hlen];refine ⟨.ref s.heap.objs.size,_,I.laid (t':=s.toks) (o :=.lst (cutV xs lo hi)) (fun b ob q=>Qj _ q) (Qs _) ?_,rfl,q _ (I.hok.fresh (Qs _))⟩;exact ⟨Z7 (qvx xs lo hi) hz,_,0,(r.drop (HT.sIx xs.length 0 lo)).take (HT.sIx xs.length xs.length hi-HT.sIx xs.length 0 lo),Q2 _ rfl⟩
def qnv:V->Bool
 | .non=>true
 | .bl _=>true
 | .int _=>true
 | .str _=>true
 | _=>false
def eqV:V->V->Bool
 | .non,.non=>true
 | .bl a,.bl b=>a==b
 | .bl a,.int b=>(if a then 1 else 0)==b
 | .int a,.bl b=>a==(if b then 1 else 0)
 | .int a,.int b=>a==b
 | .str a,.str b=>a==b
 | _,_=>false
def zany {A:Ye}{s:Ql}{y x:V}{u v:Value} (ry:RelV y u) (rx:RelV x v) (fy:qnv y=true) (fx:qnv x=true):SeqAt.EqAt A s u v (eqV y x):=by
 cases y with
 | non =>
  cases ry;cases x with
  | non=>cases rx;exact SeqAt.EqAt.same _
  | bl b=>cases rx;exact SeqAt.EqAt.none_bool b
  | int b=>obtain ⟨t,rfl⟩:=rx;exact SeqAt.EqAt.none_int b t
  | str b=>obtain ⟨t,rfl⟩:=rx;exact SeqAt.EqAt.none_str b t
  | _=>exact absurd (show false=true from fx) Zn
 | bl a =>
  cases ry;cases x with
  | non=>cases rx;exact SeqAt.EqAt.bool_none a
  | bl b=>cases rx;exact SeqAt.EqAt.bool_bool a b
  | int b=>obtain ⟨t,rfl⟩:=rx;exact SeqAt.EqAt.bool_int a b t
  | str b=>obtain ⟨t,rfl⟩:=rx;exact SeqAt.EqAt.bool_str a b t
  | _=>exact absurd (show false=true from fx) Zn
 | int a =>
  obtain ⟨t',rfl⟩:=ry;cases x with
  | non=>cases rx;exact SeqAt.EqAt.int_none a t'
  | bl b=>cases rx;exact SeqAt.EqAt.int_bool a t' b
  | int b=>obtain ⟨t,rfl⟩:=rx;exact Qgr a t' b t
  | str b=>obtain ⟨t,rfl⟩:=rx;exact Qgo a t' b t
  | _=>exact absurd (show false=true from fx) Zn
 | str a =>
  obtain ⟨t',rfl⟩:=ry;cases x with
  | non=>cases rx;exact SeqAt.EqAt.str_none a t'
  | bl b=>cases rx;exact SeqAt.EqAt.str_bool a t' b
  | int b=>obtain ⟨t,rfl⟩:=rx;exact Qgp a t' b t
  | str b=>obtain ⟨t,rfl⟩:=rx;exact SeqAt.EqAt.str_str a t' b t
  | _=>exact absurd (show false=true from fx) Zn
 | _=>exact absurd (show false=true from fy) Zn
def eqU (x:V) (u:Value):Bool:=match u with
 | .none=>eqV .non x
 | .bool b=>eqV (.bl b) x
 | .int i _=>eqV (.int i) x
 | .str z _=>eqV (.str z) x
 | _=>false
def zahr {x y:V}{u:Value} (r:RelV y u) (f:qnv y=true):eqU x u=eqV y x:=by
 cases y with
 | non=>cases r;rfl
 | bl b=>cases r;rfl
 | int i=>obtain ⟨t,rfl⟩:=r;rfl
 | str z=>obtain ⟨t,rfl⟩:=r;rfl
 | _=>exact absurd (show false=true from f) Zn
def qum {x:V} : ∀ {xs:List V}{us:List Value},Vals xs us->xs.all qnv=true->us.any (eqU x)=xs.any fun y=>eqV y x
 | _,_,.nil,_=>rfl
 | y::xs,u::us,.cons r t,f=>by
  rw [Qjx,Jy] at f;rw [Qei,Qei,zahr r f.1,qum t f.2]
def qqp {A:Ye}{s:Ql}{x:V}{v:Value} (rx:RelV x v) (fx:qnv x=true) : ∀ {xs:List V}{us:List Value},Vals xs us->xs.all qnv=true -> ∀ u ∈ us,SeqAt.EqAt A s u v (eqU x u)
 | _,_,.nil,_=>fun u hu=>by cases hu
 | y::xs,u::us,.cons r t,f=>fun u' hu=>by
  rw [Qjx,Jy] at f;rcases Q1.mp hu with rfl|hu
  ·rw [zahr r f.1];exact zany r rx f.1 fx
  ·exact qqp rx fx t f.2 u' hu
def inV (x:V) (xs:List V):Bool:=xs.any fun y=>eqV y x
def rIn (K:Qd) (neg:Bool):R2:=fun x y H Q => ∃ p xs,y = .ref p/\(SqL K H p xs\/SqT K H p xs)/\qnv x=true/\xs.all qnv=true/\Q (.bl (if neg then !inV x xs else inV x xs)) H
def qtt:OpR X (Z6 .NotIn) (rIn X.K true):=by
 intro pins s σ H x y v u Q I rx ry h;obtain ⟨p,xs,rfl,hq,fx,fs,q⟩:=h;cases ry;rcases hq with hq|hq
 ·obtain ⟨its,r,pl,hz⟩:=I.list hq;refine SeqAt.notIn_listAt (eqU x) pl.isList (fun w hw=>qqp rx fx r fs w (by simpa using hw)) ⟨.bl _,H,I,rfl,?_⟩;rw [show its.toArray.any (eqU x)=its.any (eqU x) by simp,qum r fs];exact q
 ·obtain ⟨its,r,pl,hz⟩:=I.tuple hq;refine SeqAt.notIn_tupleAt (eqU x) pl (fun w hw=>qqp rx fx r fs w (by simpa using hw)) ⟨.bl _,H,I,rfl,?_⟩;rw [show its.toArray.any (eqU x)=its.any (eqU x) by simp,qum r fs];exact q
def qgt:CallR X (.builtin "len") (fun xs H Q => ∃ p ys,xs=[.ref p]/\(SqL X.K H p ys\/SqT X.K H p ys)/\Q (.int ys.length) H):=by
 intro pins s σ H xs us Q I r h;obtain ⟨p,ys,rfl,hq,q⟩:=h;obtain ⟨u,rfl,rx⟩:=qic r;cases rx;have hn:=qli;rcases hq with hq|hq
 ·obtain ⟨its,r',pl,hz⟩:=I.list hq;have hlen:=r'.length;exact Calls.call_len_list pl.isList (by simp only [Qu] <;> omega) ⟨.int ys.length,H,I.tok _,⟨s.toks+1,by rw [Qu,hlen]⟩,q⟩
 ·obtain ⟨its,r',pl,hz⟩:=I.tuple hq;have hlen:=r'.length;exact len_tuple pl (by simp only [Qu] <;> omega) ⟨.int ys.length,H,I.tok _,⟨s.toks+1,by rw [Qu,hlen]⟩,q⟩
def qtp:CallR X (.builtin "len") (fun xs H Q => ∃ z,xs=[.str z]/\z.length<=Qz/\Q (.int z.length) H):=by
 intro pins s σ H xs us Q I r h;obtain ⟨z,rfl,hz,q⟩:=h;obtain ⟨u,rfl,t,rfl⟩:=qic r;have hn:=qli;exact len_str (by omega) ⟨.int z.length,H,I.tok _,⟨_,rfl⟩,q⟩
def CallR.or {f:Value}{r r':List V->Hp->VK->Prop} (h:CallR X f r) (h':CallR X f r'):CallR X f (fun xs H Q=>r xs H Q\/r' xs H Q):=by
 intro pins s σ H xs us Q I rs q;rcases q with q|q
 ·exact h pins s σ H xs us Q I rs q
 ·exact h' pins s σ H xs us Q I rs q
def qto:CallR X (.type "list") (fun xs H Q => ∃ p ys,xs=[.ref p]/\(SqL X.K H p ys\/SqT X.K H p ys) /\ ∀ l,H l=none->Q (.ref l) (upd H l (.lst ys))):=by
 intro pins s σ H xs us Q I r h;obtain ⟨p,ys,rfl,hq,q⟩:=h;obtain ⟨u,rfl,rx⟩:=qic r;cases rx;have fin : ∀ (its:List Value),Vals ys its->ys.length<=Qz -> ∀ (h':Heap) (c':Nat),(∀ b o',s.heap.get? b=some o'->h'.get? b=some o') ->
  h'.get? s.heap.objs.size=some { cls :=.type "list",dict:=none,data :=.seq its.toArray c',slots := #[] }->EP X pins σ Q (.ref s.heap.objs.size) { s with heap:=h' }:=fun its r' hz h' c' kp e =>
  ⟨.ref s.heap.objs.size,_,I.laid (t':=s.toks) kp (Qs _) (show ObjOk X.prog X.w _ h' _ (.lst ys) from ⟨hz,its,c',r',e⟩),rfl,q _ (I.hok.fresh (Qs _))⟩
 rcases hq with hq|hq
 ·obtain ⟨its,r',pl,hz⟩:=I.list hq;have hlen:=r'.length;obtain ⟨o,ho,hc,n,hd⟩:=pl.isList;exact call_list_seq p (.inl rfl) ho hc hd (fun h' c' kp e=>fin its r' hz h' c' kp e) (by simp only [Qu] <;> omega)
 ·obtain ⟨its,r',pl,hz⟩:=I.tuple hq;have hlen:=r'.length;obtain ⟨o,ho,hc,n,hd⟩:=pl;exact call_list_seq p (.inr rfl) ho hc hd (fun h' c' kp e=>fin its r' hz h' c' kp e) (by simp only [Qu] <;> omega)
def qrd:CallR X (.type "tuple") (fun xs H Q => ∃ p ys,xs=[.ref p]/\((SqL X.K H p ys /\ ∀ l,H l=none->Q (.ref l) (upd H l (.tup ys)))\/(SqT X.K H p ys/\Q (.ref p) H))):=by
 intro pins s σ H xs us Q I r h;obtain ⟨p,ys,rfl,h⟩:=h;obtain ⟨u,rfl,rx⟩:=qic r;cases rx;rcases h with ⟨hq,q⟩|⟨hq,q⟩
 ·obtain ⟨its,r',pl,hz⟩:=I.list hq;have hlen:=r'.length;refine call_tuple_list pl.isList (fun h' kp=>?_) (by simp only [Qu] <;> omega);have I1:Inv X pins σ H { s with heap:=h' }:=I.kept (t':=s.toks) kp;have I2:Inv X pins σ (upd H h'.objs.size (.tup ys)) { s with heap:=h'.push { cls :=.type "tuple",data :=.seq its.toArray } } :=
   I1.laid (t':=s.toks) (fun b o e=>Qj _ e) (Qs _) (show ObjOk X.prog X.w _ _ _ (.tup ys) from ⟨hz,its,r',Qkf _ _⟩)
  exact ⟨.ref h'.objs.size,_,I2,rfl,q _ (I1.hok.fresh (Qs _))⟩
 ·obtain ⟨its,r',pl,hz⟩:=I.tuple hq;exact call_tuple_same pl ⟨.ref p,H,I,rfl,q⟩
def tyV (K:Qd) (T:String) (x:V) (H:Hp):Prop:=match x with
 | .str _=>T = "str"
 | .int _=>T = "int"
 | .ref p=>(T = "list" /\ ∃ xs,SqL K H p xs)\/(T = "tuple" /\ ∃ o,K.lookup p=some o/\o.cls = .type "tuple" /\ o.dict=none) \/
  (T = "dict" /\ ((∃ kvs,H p=some (.dK kvs)) \/ ∃ kvs,H p=some (.dT kvs)))\/(T = "set" /\ ∃ S n,H p=some (.set S n))
 | _=>False
def zanc {pins:List (Addr×Obj)}{σ:St}{H:Hp}{s:Ql}{T:String}{x:V}{v:Value} (I:Inv X pins σ H s) (r:RelV x v) (ty:tyV X.K T x H) :
 s.TypeIs v T /\ ∀ a,v = .ref a -> ∃ ob,s.heap.get? a=some ob/\ob.dict=none:=by
  cases x with
  | str z =>
   obtain ⟨t,rfl⟩:=r;cases (show T = "str" from ty);exact ⟨typeIs_str s z t,fun _ e=>nomatch e⟩
  | int i =>
   obtain ⟨t,rfl⟩:=r;cases (show T = "int" from ty);exact ⟨typeIs_int s i t,fun _ e=>nomatch e⟩
  | ref p =>
   cases r;rcases ty with ⟨rfl,xs,hq⟩|⟨rfl,o,hk,hc,hd⟩|⟨rfl,hk⟩|⟨rfl,S,n,hk⟩
   ·obtain ⟨its,_,pl,_⟩:=I.list hq;refine ⟨pl.isList.typeIs,fun a e=>?_⟩;cases e;obtain ⟨o,n,e,c,hd,_⟩:=pl;exact ⟨o,e,hd⟩
   ·refine ⟨⟨o,I.kIn p o hk,hc⟩,fun a e=>?_⟩;cases e;exact ⟨o,I.kIn _ o hk,hd⟩
   ·have z : ∃ o,s.heap.get? p=some o/\o.ExactDict:=by
     rcases hk with ⟨kvs,hk⟩|⟨kvs,hk⟩
     ·obtain ⟨_,_,_,_,o,_,_,e,ex,_⟩:=I.hok p _ hk;exact ⟨o,e,ex⟩
     ·obtain ⟨_,_,_,_,o,_,_,e,ex,_⟩:=I.hok p _ hk;exact ⟨o,e,ex⟩
    obtain ⟨o,e,ex⟩:=z;refine ⟨⟨o,e,ex.1⟩,fun a e2=>?_⟩;cases e2;exact ⟨o,e,ex.2.1⟩
   ·obtain ⟨o,_,_,_,e,ex,_⟩:=I.hok p _ hk;refine ⟨⟨o,e,ex.1⟩,fun a e2=>?_⟩;cases e2;exact ⟨o,e,ex.2.1⟩
  | _=>exact Zd ty
def tBM (K:Qd) (T:String) (r:V->List V->Hp->VK->Prop) (to:TE) (t:TA):TE:=fun σ H Q=>to σ H fun x H1=>tyV K T x H1/\t σ H1 fun xs H2=>r x xs H2 Q
variable {o e:Expr}{es:List Expr}{to:TE}{t:TA}{name:Str}{apos cpos:Pos}{T id:String}{r:V->List V->Hp->VK->Prop}
def qyv (pa:PlainAttrs T) (slot:Slot T name id) (hty:typeOf (.builtin id)=pure (.type "method_descriptor")) (hm:MtR X id r) (ho:PE X o to) (ha:PA X (e::es) t)
 (hbase:Vu o name X.env (eval o X.env)=eval o X.env:=by rfl)
  (hfew:((Vc cpos (Qp (e::es) X.env)).all (fun x => !x.1)&&(Qct cpos (Jx [] X.env)).all (fun x=>x.1.isSome)
   && decide ((e::es).length+([]:List Qbo).length+(if ([]:List Qbo).isEmpty then 0 else 1)<30))=true:=by rfl)
  (hline:(apos.endLine==cpos.line)=true:=by rfl) (hs:Qp (e::es) X.env=(false,eval e X.env)::Qp es X.env:=by rfl) (hplain:(Vc cpos (Qp es X.env)).any (·.1)=false:=by rfl) :
  PE X (.Call (.Attribute o name apos) (e::es) [] cpos) (tBM X.K T r to t):=by
  intro pins s σ H Q I h;refine wpAny_Call_method_late hbase hfew hline rfl (thn (ho pins s σ H _ I h) fun v s1 xx62=>?_);obtain ⟨x,H1,I1,r1,ty,q1⟩:=xx62;obtain ⟨h1,h2⟩:=zanc I1 r1 ty;refine ⟨T,id,pa,slot,hty,h1,h2,?_⟩;have hA:=ha cpos pins s1 σ H1 _ I1 q1;rw [hs] at hA ⊢;refine Calls.callWith_builtin (by show (false||(Vc cpos (Qp es X.env)).any (·.1))=false;rw [hplain] <;> rfl) (Qfr ?_);exact thn hA fun us s2 xx61=>by obtain ⟨vs,H2,I2,r2,q2⟩:=xx61;exact hm pins s2 σ H2 x vs v us Q I2 r1 r2 q2
/- xs.append(e),list.index on a module's tuple .. are MtR facts of 06m -/
end
end
section
def MtM (X:Cx) (id:String) (r:V->List V->Hp->VK->Prop):Prop :=
 ∀ (pins:List (Addr×Obj)) (s:Ql) (σ:St) (H:Hp) (x:V) (xs:List V) (v:Value) (us:List Value) (Q:VK),Inv X pins σ H s->RelV x v->Vals xs us->r x xs H Q ->
  wpAny (model X.prog X.w) X.A (call (.builtin id) (v::us)) (EP X pins σ Q) X.xe s
def Vals.one : ∀ {x:V}{us:List Value},Vals [x] us -> ∃ u,us=[u]/\RelV x u
 | _,_,.cons r .nil=>⟨_,rfl,r⟩
def Vals.two : ∀ {x y:V}{us:List Value},Vals [x,y] us -> ∃ u v,us=[u,v]/\RelV x u/\RelV y v
 | _,_,_,.cons r (.cons q .nil)=>⟨_,_,rfl,r,q⟩
def Vals.rep {xs:List V}{us:List Value} (h:Vals xs us) : ∀ k:Nat,Vals (Zb k xs).flatten (Zb k us).flatten
 | 0 => .nil
 | k+1=>by
  rw [Yq,Yq,Y3,Y3];exact Vals.append h (Vals.rep h k)
def qsm (its:List Value) : ∀ (k:Nat) (acc:List Value),
 Qjs (fun x1 x2=>x1++x2) acc.toArray (Zb k its.toArray)=(acc++(Zb k its).flatten).toArray
  | 0,acc=>by simp
  | k+1,acc=>by
   have e:acc.toArray++its.toArray=(acc++its).toArray:=by simp
   have e2:(acc++its)++(Zb k its).flatten=acc++(Zb (k+1) its).flatten:=by
    rw [Yq,Y3,Qhi]
   rw [<- e2,<- qsm its k (acc++its),<- e,Yq,List.foldl_cons]
section
variable {X:Cx}{pins:List (Addr×Obj)}{σ:St}{H:Hp}{s:Ql}{l b:Addr}{xs ys zs:List V}
def Inv.lset {its its':List Value}{n:Nat}{f:Array Value->Array Value}{t':Nat} (I:Inv X pins σ H s) (hH:H l=some (.lst xs))
 (e:s.heap.get? l=some { cls :=.type "list",data :=.seq its.toArray n }) (hf:f its.toArray=its'.toArray) (hv:Vals ys its') (hz:ys.length<=Qz) :
  Inv X pins σ (upd H l (.lst ys)) { s with heap:=s.heap.update l (Qcw f),toks:=t' }:=by
  have q:=Qie e f;rw [hf] at q;refine I.write (x:=l) (e:=l) (by rw [hH];exact trivial) (.inl rfl) (fun b' u hb hu=>(Qbr s.heap (Qcw f) (Z1 hb)).trans hu) ⟨_,q⟩ ?_;exact ⟨hz,its',_,hv,q⟩
def Inv.lnew {its:List Value}{t':Nat} (I:Inv X pins σ H s) (hv:Vals ys its) (hz:ys.length<=Qz) :
 Inv X pins σ (upd H s.heap.objs.size (.lst ys)) { s with heap:=s.heap.push { cls :=.type "list",data :=.seq its.toArray },toks:=t' } :=
  I.laid (fun _ _ q=>Qj _ q) (Qs _) ⟨hz,its,0,hv,Q2 _ rfl⟩
def Inv.fresh (I:Inv X pins σ H s):H s.heap.objs.size=none:=I.hok.fresh (Qs _)
def Inv.lstM (I:Inv X pins σ H s) (hH:H l=some (.lst xs)):xs.length<=Qz /\ ∃ (its:List Value) (n:Nat),Vals xs its/\xs.length=its.length/\s.heap.get? l=some { cls :=.type "list",data :=.seq its.toArray n }:=by
 obtain ⟨z,its,n,r,e⟩:=I.hok l _ hH;exact ⟨z,its,n,r,r.length,e⟩
def qqy {n:Nat} (h:n<=Qz):Y4 n=false:=by
 unfold Y4;exact decide_eq_false (by omega)
end
section
variable {X:Cx}
def zaas:V->List V->Hp->VK->Prop:=fun x vs H Q => ∃ l xs y,x = .ref l/\vs=[y]/\H l=some (.lst xs)/\xs.length<Qz/\Q .non (upd H l (.lst (xs++[y])))
def zacc:MtM X "list.append" zaas:=by
 intro pins s σ H x vs v us Q I rx rv h;obtain ⟨l,xs,y,rfl,rfl,hH,hz,q⟩:=h;cases rx;obtain ⟨u,rfl,ru⟩:=rv.one;obtain ⟨z,its,n,r,hl,e⟩:=I.lstM hH;refine Qbz F.slot_list_append ⟨_,e,rfl⟩ F.entry_list_append (F.args_list_append_2 _ _) (Qhj l its.toArray n u (by rw [Qu];omega)) ⟨e,?_⟩;refine ⟨.non,_,I.lset (its':=its++[u]) hH e (by simp) (r.append (.cons ru .nil)) ?_,rfl,q⟩;rw [Zj,List.length_singleton];omega
def zakq:V->List V->Hp->VK->Prop:=fun x vs H Q => ∃ l b xs zs,x = .ref l/\vs=[.ref b]/\H l=some (.lst xs)/\H b=some (.lst zs)/\xs.length+zs.length<=Qz/\Q .non (upd H l (.lst (xs++zs)))
def zacf:MtM X "list.extend" zakq:=by
 intro pins s σ H x vs v us Q I rx rv h;obtain ⟨l,b,xs,zs,rfl,rfl,hH,hB,hz,q⟩:=h;cases rx;obtain ⟨u,rfl,ru⟩:=rv.one;cases ru;obtain ⟨z,its,n,r,hl,e⟩:=I.lstM hH;obtain ⟨z2,its2,n2,r2,hl2,e2⟩:=I.lstM hB;have hsz:its.toArray.size+its2.toArray.size<=Qz:=by rw [Qu,Qu];omega
 have hlong : ¬ (!its.toArray.isEmpty&&Y4 (its.toArray.size+its2.toArray.size))=true:=by
  rw [qqy hsz,Qjo];exact Zn
 refine Qbz Qgs ⟨_,e,rfl⟩ Qgh (Qfs _ _)
  (AutoSeq1.list_extend_list_list_0 l its.toArray n b its2.toArray n2 hlong (by rw [Qu];omega) (by omega)) ⟨e,e2,?_⟩
 refine ⟨.non,_,I.lset (its':=its++its2) hH e (by simp) (r.append r2) ?_,rfl,q⟩;rw [Zj];omega
def rRep:R2:=fun x y H Q => ∃ l k xs,x = .ref l/\y = .int k/\H l=some (.lst xs) /\ -(2^63)<=k/\k<2^63/\xs.length*k.toNat<=Qz /\
 ∀ p,H p=none->Q (.ref p) (upd H p (.lst (Zb k.toNat xs).flatten))
def zaiy {α:Type} (xs:List α) (k:Nat):(Zb k xs).flatten.length=k*xs.length:=by
 induction k with
 | zero=>simp
 | succ k ih=>rw [Yq,Y3,Zj,ih,Qcf,Nat.add_comm]
def zaov:OpR X (V2 .Mult) rRep:=by
 intro pins s σ H x y v u Q I rx ry h;obtain ⟨l,k,xs,rfl,rfl,hH,h1,h2,hz,q⟩:=h;cases rx;obtain ⟨t,rfl⟩:=ry;obtain ⟨z,its,n,r,hl,e⟩:=I.lstM hH;have hlen:its.toArray.size*k.toNat<=Qz:=by rw [Qu,<- hl];exact hz
 have hcap : ¬ its.toArray.size*k.toNat>(2^63-1)/8:=by
  have:(Qz:Nat)<=(2^63-1)/8:=by decide
  omega
 have hfit : ¬ (!Builtin.List.listFitsIndex k)=true:=by
  rw [fitsIndex_both h1 h2];exact Zn
 have hlong : ¬ Y4 (its.toArray.size*k.toNat)=true:=by
  rw [qqy hlen];exact Zn
 have hnew:Qjs (fun x1 x2=>x1++x2) #[] (Zb (if its.toArray.isEmpty=true then 0 else k.toNat) its.toArray)=(Zb k.toNat its).flatten.toArray:=by
  have f0 : ∀ m:Nat,Qjs (fun x1 x2=>x1++x2) #[] (Zb m its.toArray)=(Zb m its).flatten.toArray:=fun m=>by
   have:=qsm its m [];rw [Qit] at this;exact this
  rw [f0];cases its with
  | nil=>simp
  | cons a r'=>rw [if_neg (by simp)]
 refine wpAny_binaryOp_repeat_ref (T := "list") (U := "int") (by decide) ⟨_,e,rfl⟩ (fun s'=>typeIs_int s' k t) noFill_list_mul F.fills_int_mul Qiu repeat_list F.slot_int_index.lookup
  (Qbz Qiu (typeIs_int s k t) F.entry_int_rmul (F.args_int_rmul_2 _ _) (int___rmul___int_list k t l its.toArray n)
   ⟨e,rfl,⟨_,e,rfl⟩,Qbz F.slot_list_mul ⟨_,e,rfl⟩ F.entry_list_mul (F.args_list_mul_2 _ _) (AutoListH.list___mul___list_int_3 l its.toArray n k t hfit hcap hlong) ⟨e,?_⟩⟩)
 rw [hnew];exact ⟨.ref _,_,I.lnew (t':=s.toks) (r.rep k.toNat) (by rw [zaiy,Qaz];exact hz),rfl,q _ I.fresh⟩
end
section
variable {prog:Zr}{w:World}{A:Ye}{E:Value->Ql->Prop}{s:Ql}
set_option maxRecDepth 100000 in
end
section
variable {X:Cx}
end
end
end L2
namespace Att
open PySem PySem.W PySem.Calls PyProof.Rows
def qnz {P:Qbs}{h:Heap} : ∀ (ns:List Int) (vs:List Value),WellAll P h vs (ns.map WData.int)->Qhn vs ns:=by
 intro ns
 induction ns with
 | nil =>
  intro vs w;rw [Qfd] at w;cases w;exact .nil
 | cons n ns ih =>
  intro vs w;rw [Yh] at w;cases w with
  | cons a b =>
   cases a;exact .cons _ _ (ih _ b)
def zadm {l:OpenLaw}{n:Nat} (hn:l.most=some n) {P:Qbs}{h:Heap}{args:List WData}{vals:List Value}
 (hpre:l.row.toRowW.claim.pre args=true) (hwl:WellAll P h vals args) :
 ∃ a vs ns,vals=[Y1 a]/\args=[WData.list (ns.map WData.int)]/\h.get? a=some { cls :=.type "list",data :=.seq vs.toArray }/\Qhn vs ns/\ns.length<=n:=by
  have hsh:WShape.hasAll [] args [.list .int]=true:=(pre_splitW hpre).1;have hc:l.pre.holds [] { args:=args }=true:=(pre_splitW hpre).2;obtain ⟨d,r,rfl,h1,h2⟩:=hasAllW_cons hsh;obtain rfl:=hasAllW_nil h2;obtain ⟨xs,rfl,h3⟩:=hasW_list h1;obtain ⟨ns,rfl⟩:=items_int h3;have hlen:ns.length<=n:=by
   unfold OpenLaw.pre at hc;have h4:(WTm.not (.lt (.lit (.int (n:Int))) (.len (.arg 0)))).holds [] { args:=[.list (ns.map .int)] }=true:=by
    have h4:=(holds_andW hc).1;rw [hn] at h4;exact h4
   have h5:=condW_of h4 (w_not (w_lt w_lit (w_len_list (w_arg rfl))));rw [Qe] at h5;refine Nat.le_of_not_lt fun q=>?_;have q':(n:Int)<((ns.length:Nat):Int):=by omega
   first
    | (rw [decide_eq_true q'] at h5;exact absurd h5 (by decide))
    | (simp at h5;omega)
  cases hwl with
  | cons w1 w2 =>
   cases w2;cases w1 with
   | list ho hall=>exact ⟨_,_,ns,rfl,rfl,ho,qnz ns _ hall,hlen⟩
def zacn (l:OpenLaw) (args:List WData):l.row.toRowW.claim.post args (.bool true) args=true :=
 postW_of (r:=l.row.toRowW) (X:=(true==true))
  (show Qko [] (.bool true) .bool=true by first|rfl|decide|simp [Qko,WShape.arms,WShape.armsAll])
  (show (WTm.eq .res (.lit (.bool true))).value [] { args:=args,res:=some (.bool true),after:=args }=some (.bool (true==true)) from w_eq_bool (w_res rfl) w_lit) rfl
def attach_call {l:OpenLaw}{n:Nat}{q:Zr}{loose:List Str}{XP:(Str->Option Value)->Heap->Prop}{YP:World->Heap->Prop}{d:DefRec}
 (hn:l.most=some n) (hdf:d.params.defaults=[])
 (call : ∀ (w:World) (s₀ s₁:Ql) (mg mb:Str->Option Value) (fa:Addr) (o:Obj) (pm cd doc:Value) (a:Addr) (vs:List Value) (ns:List Int),
 Ground q loose [] XP w s₀ mg mb s₁.heap->YP w s₁.heap ->
 s₁.heap.get? fa=some o->o.data = .func (docDef d.name d.params d.body d.scope pm cd doc)->s₁.heap.CodeRec cd d.name->mg d.name=some (.ref fa) ->
 s₁.heap.get? a=some { cls :=.type "list",data :=.seq vs.toArray }->Qhn vs ns->ns.length<=n->s₁.gens = #[] ->
  Qdw (model l.prog w) Qhp (.call (.ref fa) ⟨[.ref a],[]⟩) (fun r s'=>r = .ok (.ret (.bool true))/\OldK s₁.heap s'.heap/\s'.os=s₁.os/\Qdv s'.gens) s₁) :
  WalkO q loose XP YP l.row.toRowW d [] (fun f vs=>Qjt f vs):=by
  intro w s₀ s₁ mg mb G Y fa o pm cd doc dV kV ho hd hcd hD hmg hg args vals as hpre hlay hrd hwl hlo;obtain rfl:dV = .none:=Dflts.none hD hdf;obtain rfl:kV = .none:=Dflts.noKw hD;obtain ⟨a,vs,ns,rfl,rfl,hobj,hints,hlen⟩:=zadm hn hpre hwl;refine enter_call (Qdp (call w s₀ s₁ mg mb fa o pm cd doc a vs ns G Y ho (fd_plain hd) hcd hmg hobj hints hlen hg) fun r s' hq=>?_);obtain ⟨rfl,h2,h3,h4⟩:=hq;exact ⟨.inl ⟨.bool true,.bool true,[],rfl,fun _=>rfl,.bool true,zacn l _,fun _=>⟨Qkp,fun _ hm=>(nomatch hm)⟩⟩,h2,h3,h4⟩
section
variable {prog:Zr}{w:World}{A:Ye}{E:Value->Ql->Prop}{s:Ql}{K:Frag}
end
end Att
namespace L2
open PySem PySem.Spec PyProof.Rows
section
def qms : ∀ {vs:List Value}{ns:List Int},Qhn vs ns->Vals (ns.map V.int) vs
 | _,_,.nil => .nil
 | _,_,.cons n t h => .cons ⟨t,rfl⟩ (qms h)
def Only (H:Hp):Prop := ∀ b,H b=none \/ ∃ o xs,H b=some (.frz o (.lst xs))
def zaga {P:Zr}{w:World}{K:Qd}{mg mb:Str->Option Value}{CX:CXT}{k:Nat}{fa a:Addr}{fd:Vn}{x:Str}{sp:Sp}{s₁:Ql}{vs:List Value}{ns:List Int}
 (KX:K.In s₁.heap) (hns:s₁.heap.Ns Zk mg) (hb:s₁.heap.Ns Qho mb) (hbb : ∀ x:Str,x ≠ "__name__" -> mb x=Zq x) (hlim:s₁.heap.NoLimit) (hg:s₁.gens = #[])
 (ha:s₁.heap.get? a=some { cls :=.type "list",data :=.seq vs.toArray }) (hi:Qhn vs ns) (hl:ns.length<=Qz) (hr:Room k Qhp)
  (F : ∀ base:Heap,K.In base->base.Ns Zk mg->FnOk P w K mg base CX k fa fd [x] sp) (hbind : ∀ (s:Ql) (u:Value),Qjh s fd ⟨[u],[]⟩ [(x,u)])
  (hsp : ∀ H:Hp,Only H->SqL K H a (ns.map V.int)->sp [.ref a] H (fun v _=>v = .bl true) fun _ _ _=>False)
  (hCX : ∀ H e s',CX [] H s₁ (fun _ _ _=>False) e s'->False) :
  Qdw (model P w) Qhp (.call (.ref fa) ⟨[.ref a],[]⟩) (fun r s'=>r = .ok (.ret (.bool true))/\OldK s₁.heap s'.heap/\s'.os=s₁.os/\Qdv s'.gens) s₁:=by
  have rv:=qms hi;have lenV:=hi.length;have core : ∀ H:Hp,Only H->SqL K H a (ns.map V.int)->HOk P w H s₁.heap->(∀ b,H b≠none->b=a)->(H a≠none->K.lookup a=none) ->
   Qdw (model P w) Qhp (.call (.ref fa) ⟨[.ref a],[]⟩) (fun r s'=>r = .ok (.ret (.bool true))/\OldK s₁.heap s'.heap/\s'.os=s₁.os/\Qdv s'.gens) s₁:=by
   intro H hO hS hok hA hK;have base_of : ∀ {b:Addr}{o:Obj},s₁.heap.get? b=some o->H b=none->(qyg s₁.heap H).get? b=some o:=fun e n=>zaed e n;have noA : ∀ {b:Addr}{o:Obj}{es:Array DictEntry}{ep:Nat},s₁.heap.get? b=some o->o.data = .dict es ep->H b=none:=fun {b o es ep} e d=>by
    cases q:H b with
    | none=>rfl
    | some u =>
     have e':b=a:=hA b (by rw [q];simp);subst e';rw [ha] at e;cases e;have d':Qkn vs.toArray _=Data.dict es ep:=d;cases d'
   have nsK : ∀ {b:Addr}{m:Str->Option Value},s₁.heap.Ns b m->(qyg s₁.heap H).Ns b m:=fun {b m} ⟨o,es,ep,e,d,r⟩=>⟨o,es,ep,base_of e (noA e d),d,r⟩
   have hKb:K.In (qyg s₁.heap H):=fun b o e=>base_of (KX b o e) (by
    cases q:H b with
    | none=>rfl
    | some u =>
     have e':b=a:=hA b (by rw [q];simp);subst e';rw [hK (by rw [q];simp)] at e;cases e)
   have hM:Mod K mg (qyg s₁.heap H):=⟨hKb,nsK hns,⟨mb,nsK hb,hbb⟩,let ⟨mc,h1,h2⟩:=hlim; ⟨mc,nsK h1,h2⟩⟩
   have e0:Env0 P w K mg (qyg s₁.heap H) Qhp [] s₁ H:=⟨rfl,hM,fun b o e=>zakh e,Nat.le_of_eq (zadg _ _),trivial,fun b hb=>absurd (show b ∈ ([]:List Addr) from hb) (by simp),hok,.of_eq hg⟩
   refine Qdp ((F _ hKb (nsK hns)).run Qhp [] s₁ H ⟨[.ref a],[]⟩ [.ref a] [.ref a] _ _ hr e0 (hbind s₁ (.ref a)) (.cons rfl .nil) (hsp H hO hS)) fun r s' h=>?_;cases r with
   | error e=>exact (hCX H e s' h).elim
   | ok fl =>
    cases fl with
    | next=>exact Zd h
    | brk=>exact Zd h
    | cont=>exact Zd h
    | ret u =>
     obtain ⟨v,H',os,bare,un,hok',r',q⟩:=h;have q':v = .bl true:=q;subst q';obtain rfl:u=Qjq true:=r';refine ⟨rfl,OldK.of_keep fun b o e=>?_,os,bare⟩;cases q:H b with
     | none=>exact un.keep b o e q (by intro z;exact absurd (show b ∈ ([]:List Addr) from z) (by simp)) (by simp)
     | some u =>
      rcases hO b with z|⟨ob,xs,z⟩
      ·rw [q] at z;cases z
      ·have z2:=un.frzs b ob _ z;obtain ⟨e1,_⟩:=hok b _ z;obtain ⟨e2,_⟩:=hok' b _ z2;rw [e] at e1;cases e1;exact e2
  cases hk:K.lookup a with
  | some o =>
   have e:=KX a o hk;rw [ha] at e;cases e;refine core (fun _=>none) (fun _ => .inl rfl) (.inr ⟨_,vs.toArray,_,hk,rfl,rfl,rfl,by rw [Qu,lenV];exact hl,by simpa using rv⟩) (fun b u z=>by have z':(none:Option HO)=some u:=z;cases z') (fun b z=>absurd rfl z) fun z=>absurd rfl z
  | none =>
   refine core (fun b=>if b=a then some (.frz { cls :=.type "list",data :=.seq vs.toArray } (.lst (ns.map V.int))) else none) (fun b=>?_) (.inl (.inr ⟨{ cls :=.type "list",data :=.seq vs.toArray },if_pos rfl⟩)) (fun b u z=>?_) (fun b z=>?_) fun _=>hk
   ·by_cases hb:b=a
    ·exact .inr ⟨_,_,if_pos hb⟩
    ·exact .inl (if_neg hb)
   ·by_cases hb:b=a
    ·have z':=(if_pos hb).symm.trans z;cases z';subst hb;exact ⟨ha,by rw [Qe];exact hl,vs,_,rv,ha⟩
    ·have z':=(if_neg hb).symm.trans z;cases z'
   ·by_cases hb:b=a
    ·exact hb
    ·exact absurd (if_neg hb) z
end
section
def walk_of {l:Qff}{n k:Nat}{q:Zr}{loose:List Str}{XP:(Str->Option Value)->Heap->Prop}{YP:World->Heap->Prop}{d:DefRec}{K:Qbs->Qd}{CX:World->CXT}{sp:World->Sp}{x:Str}
 (hn:l.most=some n) (hn2:n<=Qz) (hdf:d.params.defaults=[]) (hr:Room k Qhp)
 (hY : ∀ (w:World) (h:Heap),YP w h->(K w.params).In h)
 (F : ∀ (w:World) (mg:Str->Option Value) (fa:Addr) (h:Heap),(K w.params).In h->h.Ns Zk mg->mg d.name=some (.ref fa) ->
 ∃ fd:Vn,(∀ (s:Ql) (u:Value),Qjh s fd ⟨[u],[]⟩ [(x,u)]) /\
 ∀ base:Heap,(K w.params).In base->base.Ns Zk mg->FnOk l.prog w (K w.params) mg base (CX w) k fa fd [x] (sp w))
 (hsp : ∀ (w:World) (H:Hp) (a:Addr) (ns:List Int),ns.length<=n->Only H->SqL (K w.params) H a (ns.map V.int)->sp w [.ref a] H (fun v _=>v = .bl true) fun _ _ _=>False)
 (hCX : ∀ (w:World) (H:Hp) (s:Ql) (e:Value) (s':Ql),CX w [] H s (fun _ _ _=>False) e s'->False) :
 Qjy q loose XP YP l.row.toRowW d [] (fun f vs=>Qjt f vs):=by
  refine Att.attach_call hn hdf fun w s₀ s₁ mg mb fa o pm cd doc a vs ns G Y ho hd hcd hmg hobj hints hlen hg=>?_;have KX:=hY w _ Y;obtain ⟨fd,hb,hF⟩:=F w mg fa _ KX G.T.g hmg;exact zaga KX G.T.g G.T.b G.T.builtins G.T.nolimit hg hobj hints (Z7 hlen hn2) hr hF hb (fun H hO hS=>hsp w H a ns hlen hO hS) fun H e s'=>hCX w H s₁ e s'
end
section
def defArgs (s:Stmt):Arguments:=match s with
 | .FunctionDef _ a _ _ _ _ _ _ _ _=>a
 | _=>{ posonlyargs:=[],args:=[],vararg:=none,kwonlyargs:=[],kw_defaults:=[],kwarg:=none,defaults:=[] }
def defBody (s:Stmt):List Stmt:=match s with
 | .FunctionDef _ _ b _ _ _ _ _ _ _=>b
 | _=>[]
def defScope (s:Stmt):Scope:=match s with
 | .FunctionDef _ _ _ _ _ _ sc _ _ _=>sc
 | _=>{ kind :=.function,names:=[],isGenerator:=false,isCoroutine:=false }
abbrev CX0:CXT:=fun _ _ _ _ _ _=>False
abbrev E0:XK:=fun _ _ _=>False
def qqe {X:Cx}:qlm CX0 X E0:=fun _ _ _ _ _ _ _ h=>h.elim
structure Fun (K:Qd) (x qual:Str) (st:Stmt) (f:Addr) (fd:Vn):Prop where
 ex : ∃ (oc:Value) (od:Option Addr) (kV doc pm:Value) (an:Option Addr) (cdv ct:Value) (osl:Array (Option Value)),
  fd=Vv x qual (defArgs st) (defBody st) (defScope st) .none kV doc pm an cdv ct/\K.lookup f=some ⟨oc,od,.func fd,osl⟩/\Qcd K cdv qual=true
 kp:Y5 K (.ref f)=true
section
variable {P:Zr}{w:World}{K:Qd}{mg:Str->Option Value}{base:Heap}
def Fun.ok {x qual:Str}{st:Stmt}{f:Addr}{fd:Vn}{N ps:List Str}{k:Nat}{sp:Sp} (F:Fun K x qual st f fd) (S:FnScope N ps (defScope st)) (len : ∀ vs H Q E,sp vs H Q E->vs.length=ps.length)
 (hbody : ∀ (cdv:Value) (A:Ye) (outer:List Env) (s:Ql) (H:Hp) (vs:List V) (Q:VK) (E:XK),Room k (A.deeper (Qcn qual (defScope st) s.heap.objs.size f cdv))->sp vs H Q E ->
 ∃ t,PSs (qge CX0 P w K mg base N qual (defScope st) f cdv A outer s H E).nox (defBody st) t/\t { nx:=fun _ H'=>Q .non H',rt:=Q } (start N vs) H):FnOk P w K mg base CX0 (k+1) f fd ps sp:=by
  obtain ⟨oc,od,kV,doc,pm,an,cdv,ct,osl,rfl,lk,hcd⟩:=F.ex;refine zame lk hcd S len fun A outer s H vs Q E hr hsp=>?_;obtain ⟨t,h,q⟩:=hbody cdv A outer s H vs Q E hr hsp;exact ⟨t,h.nox,q⟩
def Fun.binds {x qual:Str}{st:Stmt}{f:Addr}{fd:Vn}{ps:List Str} (F:Fun K x qual st f fd)
 (h : ∀ (kV doc pm:Value) (an:Option Addr) (cdv ct:Value) (us:List Value),us.length=ps.length->bindArgs (Vv x qual (defArgs st) (defBody st) (defScope st) .none kV doc pm an cdv ct) ⟨us,[]⟩=pure (ps.zip us)):Binds K fd ps []:=by
  obtain ⟨oc,od,kV,doc,pm,an,cdv,ct,osl,rfl,lk,hcd⟩:=F.ex;exact .all (h kV doc pm an cdv ct)
def zahy {x qual:Str}{st:Stmt}{f:Addr}{oc:Value}{od an:Option Addr}{osl:Array (Option Value)}{kV doc pm cdv ct:Value} (l:K.lookup f=some ⟨oc,od,.func (Vv x qual (defArgs st) (defBody st) (defScope st) .none kV doc pm an cdv ct),osl⟩)
 (c:Qcd K cdv qual=true) (k:Y5 K (.ref f)=true):Fun K x qual st f (Vv x qual (defArgs st) (defBody st) (defScope st) .none kV doc pm an cdv ct):=⟨⟨oc,od,kV,doc,pm,an,cdv,ct,osl,rfl,l,c⟩,k⟩
end
def qi {n:Nat} (h:n<=1000):n<Qz:=Qdl h (by decide)
section
variable {X:Cx}
def pv (i:Nat) {x:Str}{pos:Pos} (hN:X.N[i]?=some x:=by rfl) (hv:Vis X.env.scope x:=by first|exact Yn rfl|exact Zz (Yn rfl)|exact Zz (Zz rfl)) (hd:Nd0 x:=by decide)
 (hcd:Nd1 x:=by decide):PE X (.Name x pos) (tVar i):=qbu hN hv hd hcd
end
def qsg {A B:Prop} (h:B):if false=true then A else B:=by
 rw [if_neg Zn];exact h
def qtx {A B:Prop} (h:A):if true=true then A else B:=by
 rw [if_pos rfl];exact h
def NoT:HO->Prop
 | .tbl _=>False
 | _=>True
structure Kp (o:HO) (x:Option HO):Prop where
 to:NoT o->x=some o
 tb : ∀ ps,o = .tbl ps -> ∃ ps',x=some (.tbl ps')
def Kp.of {o:HO}{x:Option HO} (h:x=some o):Kp o x:=⟨fun _=>h,fun ps e=>⟨ps,by rw [h,e]⟩⟩
def Same (H H':Hp):Prop := ∀ b o,H b=some o->Kp o (H' b)
def zaof (o:HO):NoT o \/ ∃ ps,o = .tbl ps:=by
 cases o <;> first|exact .inr ⟨_,rfl⟩|exact .inl trivial
def Same.of {H H':Hp} (h : ∀ b o,H b=some o->H' b=some o):Same H H':=fun b o e => .of (h b o e)
def Same.at {H H':Hp} (s:Same H H') {b:Addr}{o:HO} (e:H b=some o) (n:NoT o:=by trivial):H' b=some o:=(s b o e).to n
def Same.any {H H':Hp} (s:Same H H') {b:Addr}{o:HO} (e:H b=some o) : ∃ o',H' b=some o':=by
 rcases zaof o with n|⟨ps,rfl⟩
 ·exact ⟨o,(s b o e).to n⟩
 ·obtain ⟨ps',e'⟩:=(s b _ e).tb ps rfl;exact ⟨_,e'⟩
def Same.refl (H:Hp):Same H H :=.of fun _ _ h=>h
def Same.trans {H H1 H2:Hp} (a:Same H H1) (b:Same H1 H2):Same H H2:=fun c o h=>⟨fun n=>(b c o ((a c o h).to n)).to n,fun ps e=>let ⟨ps',e'⟩:=(a c o h).tb ps e; (b c _ e').tb ps' rfl⟩
def Same.free {H H':Hp} (e:Same H H') {l:Addr} (h:H' l=Qkj):H l=Qkj:=by
 cases q:H l with
 | none=>rfl
 | some o =>
  obtain ⟨o',z⟩:=e.any q;rw [z] at h;cases h
def Same.seq {K:Qd}{H H':Hp}{a:Addr}{xs:List V} (e:Same H H') (h:SqL K H a xs):SqL K H' a xs:=by
 rcases h with (h|⟨o,h⟩)|h
 ·exact .inl (.inl (e.at h))
 ·exact .inl (.inr ⟨o,e.at h⟩)
 ·exact .inr h
end
section
mutual
def Is (K:Qd) (H:Hp):Qh->V->Prop
 | .none,v=>v = .non
 | .bool b,v=>v = .bl b
 | .int i,v=>v = .int i
 | .str x,v=>v = .str x
 | .list l,v => ∃ a xs,v = .ref a/\SqL K H a xs/\Iss K H l xs
 | .tuple l,v => ∃ a xs,v = .ref a/\SqT K H a xs/\Iss K H l xs
 | .dict l,v => ∃ a kvs,v = .ref a/\H a=some (.dK kvs)/\(!l.isEmpty) = !kvs.isEmpty
def Iss (K:Qd) (H:Hp):List Qh->List V->Prop
 | [],xs=>xs=[]
 | d::l,xs => ∃ x r,xs=x::r/\Is K H d x/\Iss K H l r
end
instance {o:HO}{x:Option HO}:Coe (x=some o) (Kp o x):=⟨Kp.of⟩
instance {l:List V}{x:Option HO}:CoeOut (Kp (.lst l) x) (x=some (.lst l)):=⟨fun k=>k.to trivial⟩
instance {l:List V}{x:Option HO}:CoeOut (Kp (.tup l) x) (x=some (.tup l)):=⟨fun k=>k.to trivial⟩
instance {l:List (Key×V)}{x:Option HO}:CoeOut (Kp (.dK l) x) (x=some (.dK l)):=⟨fun k=>k.to trivial⟩
instance {l:List (List Key×V)}{x:Option HO}:CoeOut (Kp (.dT l) x) (x=some (.dT l)):=⟨fun k=>k.to trivial⟩
instance {C d:Addr}{l:List (Str×V)}{x:Option HO}:CoeOut (Kp (.ins C d l) x) (x=some (.ins C d l)):=⟨fun k=>k.to trivial⟩
instance {f:Heap->Prop}{x:Option HO}:CoeOut (Kp (.ext f) x) (x=some (.ext f)):=⟨fun k=>k.to trivial⟩
def Kp.tr {o:HO}{x y:Option HO} (k:Kp o x) (h : ∀ u,x=some u->Kp u y):Kp o y:=⟨fun n=>(h _ (k.to n)).to n,fun ps e=>let ⟨ps',z⟩:=k.tb ps e; (h _ z).tb ps' rfl⟩
def zako {H H':Hp}{a:Addr}{u:HO} (s:Same H H') (h:Rd H a u) (n:NoT u:=by trivial):Rd H' a u:=by
 rcases h with h|⟨o,h⟩
 ·exact .inl (s.at h n)
 ·exact .inr ⟨o,s.at h⟩
def qK {K:Qd}{H H':Hp}{a:Addr}{xs:List V} (s:Same H H') (h:SqT K H a xs):SqT K H' a xs:=by
 rcases h with h|h
 ·exact .inl (zako s h)
 ·exact .inr h
def qbx {H:Hp}{p:Addr}{o:HO} (h:H p=none):Same H (upd H p o) :=.of fun b u e=>by
 rw [qk (qm e h)];exact e
mutual
def Is.mono {K:Qd}{H H':Hp} (s:Same H H') : ∀ {d:Qh}{v:V},Is K H d v->Is K H' d v
 | .none,_,h=>by unfold Is at h ⊢;exact h
 | .bool _,_,h=>by unfold Is at h ⊢;exact h
 | .int _,_,h=>by unfold Is at h ⊢;exact h
 | .str _,_,h=>by unfold Is at h ⊢;exact h
 | .list l,_,h=>by
  unfold Is at h ⊢;obtain ⟨a,xs,e,q,r⟩:=h;exact ⟨a,xs,e,s.seq q,Iss.mono s r⟩
 | .tuple l,_,h=>by
  unfold Is at h ⊢;obtain ⟨a,xs,e,q,r⟩:=h;exact ⟨a,xs,e,qK s q,Iss.mono s r⟩
 | .dict _,_,h=>by
  unfold Is at h ⊢;obtain ⟨a,kvs,e,q,m⟩:=h;exact ⟨a,kvs,e,s.at q,m⟩
def Iss.mono {K:Qd}{H H':Hp} (s:Same H H') : ∀ {l:List Qh}{xs:List V},Iss K H l xs->Iss K H' l xs
 | [],_,h=>by unfold Iss at h ⊢;exact h
 | d::l,_,h=>by
  unfold Iss at h ⊢;obtain ⟨x,r,e,p,q⟩:=h;exact ⟨x,r,e,Is.mono s p,Iss.mono s q⟩
end
section
variable {K:Qd}{H H':Hp}
def qok:Is K H .none .non:=by unfold Is;rfl
def qfn (b:Bool):Is K H (.bool b) (.bl b):=by unfold Is;rfl
def qO (i:Int):Is K H (.int i) (.int i):=by unfold Is;rfl
def qzg (x:Str):Is K H (.str x) (.str x):=by unfold Is;rfl
def qdo {a:Addr}{xs:List V}{l:List Qh} (h:SqL K H a xs) (r:Iss K H l xs):Is K H (.list l) (.ref a):=by unfold Is;exact ⟨a,xs,rfl,h,r⟩
def qjy {a:Addr}{xs:List V}{l:List Qh} (h:SqT K H a xs) (r:Iss K H l xs):Is K H (.tuple l) (.ref a):=by unfold Is;exact ⟨a,xs,rfl,h,r⟩
def qQ:Iss K H [] []:=by unfold Iss;rfl
def qB {d:Qh}{l:List Qh}{x:V}{xs:List V} (h:Is K H d x) (r:Iss K H l xs):Iss K H (d::l) (x::xs):=by unfold Iss;exact ⟨x,xs,rfl,h,r⟩
def Is.bl_inv {b:Bool}{v:V} (h:Is K H (.bool b) v):v = .bl b:=by unfold Is at h;exact h
def Is.int_inv {i:Int}{v:V} (h:Is K H (.int i) v):v = .int i:=by unfold Is at h;exact h
def Is.non_inv {v:V} (h:Is K H .none v):v = .non:=by unfold Is at h;exact h
def Is.lst_inv {l:List Qh}{v:V} (h:Is K H (.list l) v) : ∃ a xs,v = .ref a/\SqL K H a xs/\Iss K H l xs:=by unfold Is at h;exact h
def Is.tup_inv {l:List Qh}{v:V} (h:Is K H (.tuple l) v) : ∃ a xs,v = .ref a/\SqT K H a xs/\Iss K H l xs:=by unfold Is at h;exact h
def Is.dct_inv {l:List (Qh×Qh)}{v:V} (h:Is K H (.dict l) v) : ∃ a kvs,v = .ref a/\H a=some (.dK kvs)/\(!l.isEmpty) = !kvs.isEmpty:=by unfold Is at h;exact h
def Iss.nil_inv {xs:List V} (h:Iss K H [] xs):xs=[]:=by unfold Iss at h;exact h
def Iss.cons_inv {d:Qh}{l:List Qh}{xs:List V} (h:Iss K H (d::l) xs) : ∃ x r,xs=x::r/\Is K H d x/\Iss K H l r:=by unfold Iss at h;exact h
def Iss.len : ∀ {l:List Qh}{xs:List V},Iss K H l xs->xs.length=l.length
 | [],_,h=>by rw [h.nil_inv];rfl
 | d::l,_,h=>by
  obtain ⟨x,r,rfl,_,q⟩:=h.cons_inv;simp [Iss.len q]
def Iss.get : ∀ {l:List Qh}{xs:List V}{i:Nat}{d:Qh},Iss K H l xs->l[i]?=some d -> ∃ x,xs[i]?=some x/\Is K H d x
 | [],_,i,d,h,e=>by simp at e
 | d'::l,_,0,d,h,e=>by
  obtain ⟨x,r,rfl,p,q⟩:=h.cons_inv;simp at e;subst e;exact ⟨x,rfl,p⟩
 | d'::l,_,i+1,d,h,e=>by
  obtain ⟨x,r,rfl,p,q⟩:=h.cons_inv;obtain ⟨y,e1,e2⟩:=Iss.get q (show l[i]?=some d by simpa using e);exact ⟨y,by simpa using e1,e2⟩
def Iss.get' : ∀ {l:List Qh}{xs:List V}{i:Nat}{x:V},Iss K H l xs->xs[i]?=some x -> ∃ d,l[i]?=some d/\Is K H d x:=fun {l xs i x} h e=>by
 have hl:=h.len;have hi:i<xs.length:=(Qk.mp e).1;obtain ⟨d,hd⟩ : ∃ d,l[i]?=some d:=⟨l[i]'(by omega),Qc _⟩
 obtain ⟨y,e1,e2⟩:=h.get hd;rw [e] at e1;cases e1;exact ⟨d,hd,e2⟩
def qaa : ∀ {l m:List Qh}{xs ys:List V},Iss K H l xs->Iss K H m ys->Iss K H (l++m) (xs++ys)
 | [],m,_,ys,h,h'=>by rw [h.nil_inv];exact h'
 | d::l,m,_,ys,h,h'=>by
  obtain ⟨x,r,rfl,p,q⟩:=h.cons_inv;exact qB p (qaa q h')
def qqi : ∀ {l:List Qh}{xs:List V} (n:Nat),Iss K H l xs->Iss K H (l.take n) (xs.take n)
 | _,_,0,_=>qQ
 | [],_,n+1,h=>by rw [h.nil_inv];exact qQ
 | d::l,_,n+1,h=>by
  obtain ⟨x,r,rfl,p,q⟩:=h.cons_inv;exact qB p (qqi n q)
def qqv : ∀ {l:List Qh}{xs:List V} (n:Nat),Iss K H l xs->Iss K H (l.drop n) (xs.drop n)
 | _,_,0,h=>h
 | [],_,n+1,h=>by rw [h.nil_inv];exact qQ
 | d::l,_,n+1,h=>by
  obtain ⟨x,r,rfl,p,q⟩:=h.cons_inv;exact qqv n q
def qiv : ∀ ns:List Int,Iss K H (ns.map .int) (ns.map V.int)
 | []=>qQ
 | n::ns=>qB (qO n) (qiv ns)
def Iss.ints_inv : ∀ {ns:List Int}{xs:List V},Iss K H (ns.map .int) xs->xs=ns.map V.int
 | [],_,h=>h.nil_inv
 | n::ns,_,h=>by
  obtain ⟨x,r,rfl,p,q⟩:=h.cons_inv;rw [p.int_inv,Iss.ints_inv q];rfl
end
section
variable {X:Cx}{pins:List (Addr×Obj)}{σ:St}{H:Hp}{s:Ql}
mutual
def Is.reads (I:Inv X pins σ H s) : ∀ {d:Qh}{x:V}{u:Value},d.canLay0=true->Is X.K H d x->RelV x u -> ∃ as,Reads s.heap u d as
 | .none,_,u,_,h,r=>by
  rw [h.non_inv] at r;cases r;exact ⟨_,.none⟩
 | .bool b,_,u,_,h,r=>by
  rw [h.bl_inv] at r;cases r;exact ⟨_,.bool b⟩
 | .int i,_,u,_,h,r=>by
  rw [h.int_inv] at r;obtain ⟨t,rfl⟩:=r;exact ⟨_,.int i t⟩
 | .str x,_,u,_,h,r=>by
  unfold Is at h;subst h;obtain ⟨t,rfl⟩:=r;exact ⟨_,.str x t⟩
 | .list l,_,u,z,h,r=>by
  obtain ⟨a,xs,rfl,q,p⟩:=h.lst_inv;cases r;obtain ⟨its,rv,pl,_⟩:=I.list q;obtain ⟨o,ho,hc,n,hd⟩:=pl.isList;obtain ⟨as,ra⟩:=Iss.reads I (by simpa [J4] using z) p rv;exact ⟨_,.list ho hc hd (by rw [Qgi];exact ra)⟩
 | .tuple l,_,u,z,h,r=>by
  obtain ⟨a,xs,rfl,q,p⟩:=h.tup_inv;cases r;obtain ⟨its,rv,pl,_⟩:=I.tuple q;obtain ⟨o,ho,hc,n,hd⟩:=pl;obtain ⟨as,ra⟩:=Iss.reads I (by simpa [J4] using z) p rv;exact ⟨_,.tuple ho hc hd (by rw [Qgi];exact ra)⟩
 | .dict _,_,u,z,h,r=>by simp [J4] at z
def Iss.reads (I:Inv X pins σ H s) : ∀ {l:List Qh}{xs:List V}{us:List Value},Ji l=true->Iss X.K H l xs->Vals xs us -> ∃ as,ReadsAll s.heap us l as
 | [],_,us,_,h,r=>by
  rw [h.nil_inv] at r;cases r;exact ⟨_,.nil⟩
 | d::l,_,us,z,h,r=>by
  have z':d.canLay0=true/\Ji l=true:=by simpa [Ji] using z
  obtain ⟨x,y,rfl,p,q⟩:=h.cons_inv;cases r with
  | cons r1 r2 =>
   obtain ⟨as,ra⟩:=Is.reads I z'.1 p r1;obtain ⟨bs,rb⟩:=Iss.reads I z'.2 q r2;exact ⟨_,.cons ra rb⟩
end
end
section
variable {X:Cx}
def rEqD (K:Qd):R2:=fun x y H Q => ∃ d e,Is K H d x/\Is K H e y/\V7 d=true/\V7 e=true/\Q (.bl (Vw d e)) H
def rNeD (K:Qd):R2:=fun x y H Q => ∃ d e,Is K H d x/\Is K H e y/\V7 d=true/\V7 e=true/\Q (.bl (!PyData.eqv d e)) H
def zapc (hu:X.A.units+64<cLine):OpR X (Z6 .Eq) (rEqD X.K):=by
 intro pins s σ H x y v u Q I rx ry h;obtain ⟨d,e,h1,h2,z1,z2,q⟩:=h;obtain ⟨as,ra⟩:=Is.reads I (Ve.mp z1).1 h1 rx;obtain ⟨bs,rb⟩:=Is.reads I (Ve.mp z2).1 h2 ry;exact SeqAt.compareEq_shaped ra rb z1 z2 hu ⟨.bl (Vw d e),H,I,rfl,q⟩
def zaot (hu:X.A.units+64<cLine):OpR X (Z6 .NotEq) (rNeD X.K):=by
 intro pins s σ H x y v u Q I rx ry h;obtain ⟨d,e,h1,h2,z1,z2,q⟩:=h;obtain ⟨as,ra⟩:=Is.reads I (Ve.mp z1).1 h1 rx;obtain ⟨bs,rb⟩:=Is.reads I (Ve.mp z2).1 h2 ry;exact SeqAt.compareNe_shaped ra rb z1 z2 hu ⟨.bl (!PyData.eqv d e),H,I,rfl,q⟩
def zakr:OpR X (V2 .Mult) (rI IntMulOk fun i j => .int (i*j)):=opI fun _ _ _ _ _ _ _ hc q=>mul_int q hc
def zamg (_ j:Int):Prop:=j≠0/\Qat j<=9000
def qwu:OpR X (V2 .FloorDiv) (rI zamg fun i j => .int (i.fdiv j)):=opI fun i j _ _ _ _ _ hc q=>by
 refine floordiv_int hc.1 q (.inl (PyProof.noPylong_of_log2 ?_));have h:=hc.2;unfold Qat at h;rw [if_neg (by simpa using hc.1)] at h;omega
def zaqo (K:Qd):R2:=fun x y H Q => ∃ a b xs zs,x = .ref a/\y = .ref b/\SqL K H a xs/\SqL K H b zs/\xs.length+zs.length<=Qz /\
 ∀ p,H p=none->Q (.ref p) (upd H p (.lst (xs++zs)))
def zaae:OpR X (V2 .Add) (zaqo X.K):=by
 intro pins s σ H x y v u Q I rx ry h;obtain ⟨a,b,xs,zs,rfl,rfl,hA,hB,hz,q⟩:=h;cases rx;cases ry;obtain ⟨its,r,pl,z1⟩:=I.list hA;obtain ⟨its2,r2,pl2,z2⟩:=I.list hB;have l1:=r.length;have l2:=r2.length;obtain ⟨⟨cls,dd,data,sl⟩,ho,hc,n,hd⟩:=pl.isList;obtain ⟨⟨cls2,dd2,data2,sl2⟩,ho2,hc2,n2,hd2⟩:=pl2.isList;simp only at hc hd hc2 hd2;subst hc hd hc2 hd2;have e:its.toArray++its2.toArray=(its++its2).toArray:=by simp
 refine Qhz ⟨_,ho,rfl⟩ ⟨_,ho2,rfl⟩ noFill_list_add seq_list_add PySem.F.slot_list_add PySem.F.entry_list_add (PySem.F.args_list_add_2 _ _) (list_addW a b its.toArray its2.toArray n n2 dd dd2 sl sl2 (by simp only [Qu];omega)) ⟨ho,ho2,?_⟩;rw [e];exact ⟨.ref _,_,I.lnew (t':=s.toks) (r.append r2) (by rw [Zj];omega),rfl,q _ I.fresh⟩
def tyD:Qh->String
 | .none => "NoneType"
 | .bool _ => "bool"
 | .int _ => "int"
 | .str _ => "str"
 | .list _ => "list"
 | .tuple _ => "tuple"
 | .dict _ => "dict"
def zagf {pins:List (Addr×Obj)}{σ:St}{H:Hp}{s:Ql}{A:Ye}{E:Value->Ql->Prop}{Q:Value->Ql->Prop}{c:Value}{b:Bool}{d:Qh}{x:V}{u:Value}
 (I:Inv X pins σ H s) (hd:Is X.K H d x) (rx:RelV x u) (e:Z2 X.K (.type (tyD d)) c=some b) (h : ∀ tk,Q (.bool b) { s with toks:=tk }) :
  wpAny (model X.prog X.w) A (call (.builtin "isinstance") [u,c]) Q E s:=by
  cases d with
  | none=>rw [hd.non_inv] at rx;cases rx;exact V1 PySem.W.kitx_none I.kIn Qbv e (fun z=>nomatch z) h
  | bool y=>rw [hd.bl_inv] at rx;cases rx;exact V1 PySem.W.kitx_bool I.kIn Qbv e (fun z=>nomatch z) h
  | int i=>rw [hd.int_inv] at rx;obtain ⟨t,rfl⟩:=rx;exact V1 PySem.W.kitx_int I.kIn Qbv e (fun z=>nomatch z) h
  | str y =>
   unfold Is at hd;subst hd;obtain ⟨t,rfl⟩:=rx;exact V1 PySem.W.kitx_str I.kIn Qbv e (fun z=>nomatch z) h
  | list l =>
   obtain ⟨a,xs,rfl,q,_⟩:=hd.lst_inv;cases rx;obtain ⟨its,_,pl,_⟩:=I.list q;obtain ⟨o,ho,hc,_⟩:=pl.isList;exact V1 PySem.W.kitx_list I.kIn ⟨o,ho,hc⟩ e (fun z=>nomatch z) h
  | tuple l =>
   obtain ⟨a,xs,rfl,q,_⟩:=hd.tup_inv;cases rx;obtain ⟨its,_,pl,_⟩:=I.tuple q;obtain ⟨o,ho,hc,_⟩:=pl;exact V1 PySem.W.kitx_tuple I.kIn ⟨o,ho,hc⟩ e (fun z=>nomatch z) h
  | dict l =>
   obtain ⟨a,kvs,rfl,q,_⟩:=hd.dct_inv;cases rx;obtain ⟨_,_,vs,_,p⟩:=(show ObjOk X.prog X.w H s.heap a (.dK kvs) from I.hok a _ q)
   obtain ⟨o,es,ep,h1,h2,_⟩:=p;exact V1 PySem.W.kitx_dict I.kIn ⟨o,h1,h2.1⟩ e (fun z=>nomatch z) h
def rIsD (K:Qd):List V->Hp->VK->Prop:=fun xs H Q => ∃ d x n b,xs=[x,.ty n]/\Is K H d x/\Z2 K (.type (tyD d)) (.type n)=some b/\Q (.bl b) H
def zafu:CallR X (.builtin "isinstance") (rIsD X.K):=by
 intro pins s σ H xs us Q I r h;obtain ⟨d,x,n,b,rfl,hd,e,q⟩:=h;obtain ⟨u,c,rfl,rx,rc⟩:=zaif r;cases rc;exact zagf I hd rx e fun tk=>⟨.bl b,H,I.tok tk,rfl,q⟩
def Iss.atI {K:Qd}{H:Hp}{l:List Qh}{xs:List V}{i:Int}{d:Qh} (h:Iss K H l xs) (e:L2.atI l i=some d) : ∃ x,L2.atI xs i=some x/\Is K H d x:=by
 unfold L2.atI at e ⊢;rw [h.len];cases q:ixN l.length i with
 | none=>rw [q] at e;cases e
 | some j =>
  rw [q] at e;exact h.get e
end
def Ite (K:Qd) (a:Addr):It :=
 ⟨fun i H => ∃ xs x,SqL K H a xs/\xs[i]?=some x,fun i H v H' => ∃ p x,(∀ xs,SqL K H a xs->xs[i]?=some x)/\H p=none/\v = .ref p/\H'=upd H p (.tup [.int i,x]),fun i H => ∃ xs,SqL K H a xs/\xs.length<=i⟩
def zadk {P:Zr}{w:World}{K:Qd}{elts:List Expr}{x1:Nat}{tpos:Pos} (a e it:Addr) (hne:e≠it) :
 Turn P w K (.Tuple elts x1 tpos) (Ite K a) [e,it] e (fun i h=>(∃ old,Qgd h e it (i:Nat) old)/\h.IsListIter it a i) where
  mem:=by simp
  obj:=fun i h st b hb=>by
   obtain ⟨⟨old,s1⟩,s2⟩:=st;have hb':b=e\/b=it:=by simpa using hb
   rcases hb' with rfl|rfl
   ·exact ⟨_,s1,fun v z=>by have z':Qgg _=Qez v:=z;cases z'⟩
   ·obtain ⟨o,q,c,d⟩:=s2;exact ⟨o,q,fun v z=>by rw [d] at z;cases z⟩
  keep:=fun i h h' st k=>by
   obtain ⟨⟨old,s1⟩,s2⟩:=st;exact ⟨⟨old,k e (by simp) _ s1⟩,s2.at fun o q=>k it (by simp) o q⟩
  item:=by
   intro X hP hw hK hc i pins s σ H E I hf st hg;subst hP hw hK;obtain ⟨xs,x,hq,hx⟩:=hg;obtain ⟨its,rv,p,hz⟩:=I.list hq;obtain ⟨u,hu,ru⟩:=rv.get hx;obtain ⟨⟨old,s1⟩,s2⟩:=st;obtain ⟨f0,f1,f2,f3,f4,f5⟩:=hf e (by simp);obtain ⟨g0,g1,g2,g3,g4,g5⟩:=hf it (by simp);have hel:e<s.heap.objs.size:=Qt s1;refine wpAny_pyNext_enum_item s1 s2 p.isList (x:=u) (by simpa using hu) hne fun h₁ ho hi ht hz₁ hk=>⟨_,rfl,?_⟩
   refine Qdj (s:={ s with heap:=h₁,toks:=s.toks+1 }) ho fun h₂ he₂ hs₂=>?_;replace hs₂:Yo e h₁ h₂:=hs₂
   have fresh:H s.heap.objs.size=none:=I.hok.fresh (Qs _);have kk : ∀ b o,b≠e->b≠it->s.heap.get? b=some o->h₂.get? b=some o:=fun b o b1 b2 q=>hs₂.extBut b o b1 (hk b o b1 b2 q);have nb : ∀ b v,H b=some v->b≠e/\b≠it:=fun b v q=>⟨fun z=>(by rw [z,f0] at q;cases q),fun z=>(by rw [z,g0] at q;cases q)⟩
   have ht₂:h₂.get? s.heap.objs.size=some { cls :=.type "tuple",data :=.seq #[.int i s.toks,u] }:=(hs₂.2 _ (Z8 hel)).trans ht;have I1:Inv X pins σ (upd H s.heap.objs.size (.tup [.int i,x])) { s with heap:=h₂,toks:=s.toks+1 }:=by
    refine I.step (g':=s.gens) (d':=s.drawn) (ch:=[e,it]) (fun b hb=>?_) (fun b o _ _ hc q _=>kk b o (fun z=>hc (by simp [z])) (fun z=>hc (by simp [z])) q)
     (fun b o _ _ hc q _=>⟨o.slots,kk b o (fun z=>hc (by simp [z])) (fun z=>hc (by simp [z])) q⟩) (fun b o _ q n=>by rw [qk (Q5 (Qt q))];exact n)
     (fun b o hc q=>⟨o,kk b o (fun z=>hc (by simp [z])) (fun z=>hc (by simp [z])) q⟩) (fun b ys q=>by rw [qk (qm q fresh)];exact q) (fun b o v q=>by rw [qk (qm q fresh)];exact q)
     (fun b ps q=>⟨#[],by rw [qk (qm q fresh),q];simp,.nil⟩) (fun m hm=>?_) (fun b v q=>?_) I.bare
    ·have hb':b=e\/b=it:=by simpa using hb
     rcases hb' with rfl|rfl
     ·exact ⟨f3,f1,f4,f5⟩
     ·exact ⟨g3,g1,g4,g5⟩
    ·obtain ⟨o,es,ep,ho',r⟩:=hm;exact ⟨o,es,ep,kk _ o (Z1 f1) (Z1 g1) ho',r⟩
    ·by_cases hb:b=s.heap.objs.size
     ·subst hb;rw [ql] at q;cases q;exact ⟨(by show 2<=Qz;decide),[.int i s.toks,u],.cons ⟨s.toks,rfl⟩ (.cons ru .nil),⟨_,ht₂,rfl,_,rfl⟩⟩
     ·rw [qk hb] at q;refine (I.hok b v q).stay (fun c ob hc z=>?_) (fun c z=>by rw [qk (qm z fresh)];exact z) fun c ys z=>by rw [qk (qm z fresh)];exact z
      rcases hc with hc|hc
      ·subst hc;exact kk _ _ (nb _ _ q).1 (nb _ _ q).2 z
      ·exact kk _ _ (nb _ _ hc).1 (nb _ _ hc).2 z
   refine ⟨.ref s.heap.objs.size,_,I1,rfl,⟨s.heap.objs.size,x,fun ys hy=>by rw [I.list_inj hy hq];exact hx,fresh,rfl,rfl⟩,⟨⟨u,?_⟩,?_⟩,fun b hb=>?_⟩
   ·have e1:((i+1:Nat):Int)=(i:Int)+1:=by push_cast;rfl
    rw [e1];exact he₂
   ·exact hi.extBut hs₂.extBut (Z1 hne)
   ·have hb':b=e\/b=it:=by simpa using hb
    have hlt:b<s.heap.objs.size:=by
     rcases hb' with rfl|rfl
     ·exact hel
     ·obtain ⟨o,q,_⟩:=s2;exact Qt q
    rw [qk (Q5 hlt)];exact (hf b hb).1
  done:=by
   intro X hP hw hK hc i pins s σ H E I hf st hg;subst hP hw hK;obtain ⟨xs,hq,hx⟩:=hg;obtain ⟨its,rv,p,hz⟩:=I.list hq;obtain ⟨⟨old,s1⟩,s2⟩:=st;obtain ⟨g0,g1,g2,g3,g4,g5⟩:=hf it (by simp);have hl:=rv.length;exact wpAny_pyNext_enum_end (I.ok.hd hc) s1 s2 p.isList (by simp;omega) fun h' eb=>⟨rfl,I.turned (t':=s.toks) (fun b o hb q=>eb b o hb q) g0 g1 g3 g4 g5⟩
  self:=fun A i s Q E st h=>by
   obtain ⟨⟨old,s1⟩,s2⟩:=st;exact Qcc s1 h
section
variable {X:Cx}{elts:List Expr}{x1:Nat}{tpos:Pos}
def zapu (K:Qd) (ta:TA):TI:=fun σ H R=>ta σ H fun vs H1 => ∃ a,vs=[.ref a]/\(∃ xs,SqL K H1 a xs)/\R (Ite K a) H1
def zalf {a:Expr}{ta:TA}{p pos:Pos} (hg:Gl X "enumerate") (hm:X.mg "enumerate" = none) (ha:PA X [a] ta) (hs:Qp [a] X.env=[(false,eval a X.env)]:=by rfl) :
 PI X (.Tuple elts x1 tpos) (.Call (.Name "enumerate" p) [a] [] pos) (zapu X.K ta):=by
 intro pins s σ H R I h;refine Call_ (qlj I hg hm boot_enumerate (Y6 (thn (ha pos pins s σ H _ I h) fun us s1 xx63=>?_) hs rfl));obtain ⟨vs,H1,I1,r1,q1⟩:=xx63;obtain ⟨l,e,⟨xs,hq⟩,q⟩:=q1;subst e;cases r1 with
 | cons r rr =>
  cases rr;cases r;obtain ⟨its,rv,pl,hz⟩:=I1.list hq;refine call_enumerate_list pl.isList fun h' he hi hz' hk=>?_;refine Qcc he ?_;have I2:Inv X pins σ H1 { s1 with heap:=h' }:=I1.kept (t':=s1.toks) hk;refine ⟨s1.heap.objs.size+1,[s1.heap.objs.size+1,s1.heap.objs.size],_,_,H1,rfl,I2,zadk l _ _ (Qif _),⟨⟨_,he⟩,hi⟩,fun b hb=>?_,q⟩;have hb':b=s1.heap.objs.size+1\/b=s1.heap.objs.size:=by simpa using hb
  have hle:s1.heap.objs.size<=b:=by
   rcases hb' with rfl|rfl
   ·exact Qda _
   ·exact Qs _
  exact I1.fpOk hle (I1.hok.fresh hle)
end
def szl {α:Type}{l:List α} (h:decide (l.length<=1000)=true:=by rfl):l.length<=Qz:=Yg (qi (of_decide_eq_true h))
def zaak (i j:Int):Vw (.int i) (.int j)=(i==j):=by simp only [Vw]
def qoj {i j:Int}{A B:Prop} (h1:i≠j->A) (h2:i=j->B):if (!PyData.eqv (.int i) (.int j))=true then A else B:=by
 rw [zaak];by_cases h:i=j
 ·subst h;simpa using h2 rfl
 ·have e:(i==j)=false:=by simpa using h
  rw [e];simpa using h1 h
def qgp {i j:Int}{A B:Prop} (h1:i=j->A) (h2:i≠j->B):if (Vw (.int i) (.int j))=true then A else B:=by
 rw [zaak];by_cases h:i=j
 ·subst h;simpa using h1 rfl
 ·have e:(i==j)=false:=by simpa using h
  rw [e];simpa using h2 h
def qip {p A B:Prop} [Decidable p] (h1:p->A) (h2 : ¬ p->B):if decide p=true then A else B:=by
 by_cases h:p
 ·simpa [h] using h1 h
 ·simpa [h] using h2 h
def qql {ns:List Int}{i:Int} (h0:0<=i) (h1:i<ns.length) : ∃ n,L2.atI (ns.map Qw) i=some (.int n):=by
 have hi:i.toNat<ns.length:=by omega
 refine ⟨ns[i.toNat],?_⟩;have e:(ns.map Qw)[i.toNat]?=some (.int ns[i.toNat]):=by simp [hi]
 have:=qP e
 rwa [Qau h0] at this
def boot_abs:Zq "abs" = some (.builtin "abs"):=by decide +kernel
def boot_max:Zq "max" = some (.builtin "max"):=by decide +kernel
def boot_len:Zq "len" = some (.builtin "len"):=by decide +kernel
def qhe:Zq "isinstance" = some (.builtin "isinstance"):=by decide +kernel
def boot_int:Zq "int" = some (.type "int"):=by decide +kernel
def boot_bool:Zq "bool" = some (.type "bool"):=by decide +kernel
def boot_tuple:Zq "tuple" = some (.type "tuple"):=by decide +kernel
def boot_list:Zq "list" = some (.type "list"):=by decide +kernel
section
variable {K:Qd}
end
structure Def (K:Qd) (mg:Str->Option Value) (x:Str) (st:Stmt) (ps:List Str):Prop where
 ex : ∃ (f:Addr) (fd:Vn),Fun K x x st f fd/\mg x=some (.ref f)/\Binds K fd ps []
structure Ok (P:Zr) (w:World) (K:Qd) (mg:Str->Option Value) (base:Heap) (x:Str) (k:Nat) (ps:List Str) (sp:Sp):Prop where
 ex : ∃ (f:Addr) (fd:Vn),FnOk P w K mg base CX0 k f fd ps sp/\mg x=some (.ref f)/\Y5 K (.ref f)=true/\Binds K fd ps []
section
variable {P:Zr}{w:World}{K:Qd}{mg:Str->Option Value}{base:Heap}
def Def.ok {x:Str}{st:Stmt}{N ps:List Str}{k:Nat}{sp:Sp} (F:Def K mg x st ps) (S:FnScope N ps (defScope st)) (len : ∀ vs H Q E,sp vs H Q E->vs.length=ps.length)
 (hbody : ∀ (f:Addr) (cdv:Value) (A:Ye) (outer:List Env) (s:Ql) (H:Hp) (vs:List V) (Q:VK) (E:XK),Room k (A.deeper (Qcn x (defScope st) s.heap.objs.size f cdv))->sp vs H Q E ->
 ∃ t,PSs (qge CX0 P w K mg base N x (defScope st) f cdv A outer s H E).nox (defBody st) t/\t { nx:=fun _ H'=>Q .non H',rt:=Q } (start N vs) H):Ok P w K mg base x (k+1) ps sp:=by
  obtain ⟨f,fd,Fn,hm,hb⟩:=F.ex;exact ⟨f,fd,Fn.ok S len (hbody f),hm,Fn.kp,hb⟩
end
section
variable {X:Cx}{x:Str}{k:Nat}{ps:List Str}{sp:Sp}{p pos:Pos}{e:Expr}{es:List Expr}{t:TA}
structure OkC (X:Cx) (x:Str) (k:Nat) (ps:List Str) (sp:Sp):Prop where
 ex : ∃ sp0,Ok X.prog X.w X.K X.mg X.base x k ps sp0 /\ ∀ (pins:List (Addr×Obj)) (σ:St) (H:Hp) (s:Ql) (vs:List V) (Q:VK) (E:XK),Inv X pins σ H s->sp vs H Q E->sp0 vs H Q E
def Ok.c (O:Ok X.prog X.w X.K X.mg X.base x k ps sp):OkC X x k ps sp:=⟨sp,O,fun _ _ _ _ _ _ _ _ h=>h⟩
def zaig (O:OkC X x k ps sp) (hr:Room k X.A) (ha:PA X (e::es) t) (hg:Gl X x:=by rfl) (hdb:Nd0 x:=by decide)
 (he:Qp (e::es) X.env=(false,eval e X.env)::Qp es X.env:=by rfl) (hpl:(Vc pos (Qp es X.env)).any (·.1)=false:=by rfl):PE X (.Call (.Name x p) (e::es) [] pos) (qse sp [] E0 t):=by
 obtain ⟨sp0,⟨f,fd,F,hm,hk,hb⟩,up⟩:=O.ex;intro pins s σ H Q I h;refine J8 (qjt I hg hm ?_ hdb);refine Qbh (h₀:=X.base) I.ok.mod.kin hk (thn (ha pos pins s σ H _ I h) fun us s1 ⟨vs,H1,I1,r,q⟩=>⟨I1.kIn,?_⟩) he hpl;exact qyy F hr hb .nil qqe I1 r (up _ _ _ _ _ _ _ I1 q)
def zadc {o:Expr}{to:TE}{te:TE}{apos cpos:Pos} (ho:PE X o to) (he:PE X e te) (hbase:Vu o "append" X.env (eval o X.env)=eval o X.env:=by rfl)
 (hfew:((Vc cpos (Qp [e] X.env)).all (fun x => !x.1)&&(Qct cpos (Jx [] X.env)).all (fun x=>x.1.isSome)
  && decide ([e].length+([]:List Qbo).length+(if ([]:List Qbo).isEmpty then 0 else 1)<30))=true:=by rfl)
 (hline:(apos.endLine==cpos.line)=true:=by rfl) (hs:Qp [e] X.env=(false,eval e X.env)::Qp [] X.env:=by rfl) (hplain:(Vc cpos (Qp [] X.env)).any (·.1)=false:=by rfl) :
 PE X (.Call (.Attribute o "append" apos) [e] [] cpos) (tBM X.K "list" zaas to (zady te tNil)) :=
 qyv Vs Qea PySem.F.type_list_append zacc ho (qH he qaw hs) hbase hfew hline hs hplain
end
end
section
def qny (cells:List (Str×Addr)):List (Str×Qar)->List (Str×Addr)->List (Str×Addr)
 | [],acc=>acc
 | (n,k)::r,acc=>if (k == .free)=true then (match cells.lookup n with|some c=>qny cells r ((n,c)::acc)|none=>qny cells r acc) else qny cells r acc
def qjo {cells:List (Str×Addr)} : ∀ {names:List (Str×Qar)}{acc:List (Str×Addr)}{p:Str×Addr},p ∈ qny cells names acc->p ∈ acc\/cells.lookup p.1=some p.2
 | [],acc,p,h => .inl h
 | (n,k)::r,acc,p,h=>by
  unfold qny at h;split at h
  ·split at h
   ·rename_i c hc;rcases qjo h with h|h
    ·rcases Q1.mp h with h|h
     ·subst h;exact .inr hc
     ·exact .inl h
    ·exact .inr h
   ·exact qjo h
  ·exact qjo h
def qjf {cells:List (Str×Addr)} : ∀ {names:List (Str×Qar)}{acc:List (Str×Addr)}{x:Str},((∃ c,(x,c) ∈ acc)\/((x,Qgt) ∈ names /\ ∃ c,cells.lookup x=some c)) -> ∃ c,(x,c) ∈ qny cells names acc
 | [],acc,x,h=>by
  rcases h with h|h
  ·exact h
  ·exact absurd h.1 (by simp)
 | (n,k)::r,acc,x,h=>by
  unfold qny;split
  ·rename_i hk;split
   ·rename_i c hc;refine qjf ?_;rcases h with ⟨d,h⟩|⟨h,d,hd⟩
    ·exact .inl ⟨d,Qy _ h⟩
    ·rcases Q1.mp h with h|h
     ·cases h;exact .inl ⟨c,by simp⟩
     ·exact .inr ⟨h,d,hd⟩
   ·rename_i hc;refine qjf ?_;rcases h with h|⟨h,d,hd⟩
    ·exact .inl h
    ·rcases Q1.mp h with h|h
     ·cases h;rw [hd] at hc;cases hc
     ·exact .inr ⟨h,d,hd⟩
  ·rename_i hk;refine qjf ?_;rcases h with h|⟨h,d,hd⟩
   ·exact .inl h
   ·rcases Q1.mp h with h|h
    ·cases h;exact absurd rfl hk
    ·exact .inr ⟨h,d,hd⟩
def qrv {x:Str}{c:Addr} : ∀ {names:List (Str×Qar)}{n:Nat}{acc:List (Str×Addr)},(Vq n names acc).lookup x=some c->(n<=c/\(x,Js) ∈ names)\/acc.lookup x=some c
 | [],_,_,h => .inr h
 | (y,k)::r,n,acc,h=>by
  unfold Vq at h;split at h
  ·rename_i hk;rcases qrv h with ⟨h1,h2⟩|h1
   ·exact .inl ⟨by omega,Qy _ h2⟩
   ·by_cases e:x=y
    ·subst e;have hb:(x==x)=true:=by simp
     rw [Yt,hb] at h1;have hk':k = .cell:=by simpa using hk
     subst hk';cases h1;exact .inl ⟨Qs _,by simp⟩
    ·have hb:(x==y)=false:=by simpa using e
     rw [Yt,hb] at h1;exact .inr h1
  ·rcases qrv h with ⟨h1,h2⟩|h1
   ·exact .inl ⟨h1,Qy _ h2⟩
   ·exact .inr h1
def qzi {x:Str} : ∀ {names:List (Str×Qar)}{n:Nat}{acc:List (Str×Addr)},(x,Js) ∉ names->(Vq n names acc).lookup x=acc.lookup x
 | [],_,_,_=>rfl
 | (y,k)::r,n,acc,h=>by
  have hr:(x,Js) ∉ r:=fun z=>h (Qy _ z);unfold Vq;split
  ·rename_i hk;have hk':k = .cell:=by simpa using hk
   subst hk';have e:x≠y:=fun z=>h (by rw [z];simp);have hb:(x==y)=false:=by simpa using e
   rw [qzi hr,Yt,hb]
  ·exact qzi hr
def qqw {x:Str}{c lo:Nat} : ∀ {names:List (Str×Qar)}{n:Nat}{acc:List (Str×Addr)},lo<=n->((x,Js) ∈ names \/ ∃ a,acc.lookup x=some a/\lo<=a)->(Vq n names acc).lookup x=some c->lo<=c
 | [],_,acc,_,h,e=>by
  rcases h with h|⟨a,h1,h2⟩
  ·simp at h
  ·have e:acc.lookup x=some c:=e;rw [h1] at e;cases e;exact h2
 | (y,k)::r,n,acc,hn,h,e=>by
  unfold Vq at e;split at e
  ·rename_i hk;refine qqw (lo:=lo) (by omega) ?_ e;by_cases z:x=y
   ·subst z;have hb:(x==x)=true:=by simp
    exact .inr ⟨n,by rw [Yt,hb],hn⟩
   ·have hb:(x==y)=false:=by simpa using z
    rcases h with h|⟨a,h1,h2⟩
    ·rcases Q1.mp h with h|h
     ·cases h;exact absurd rfl z
     ·exact .inl h
    ·exact .inr ⟨a,by rw [Yt,hb];exact h1,h2⟩
  ·rename_i hk;refine qqw hn ?_ e;rcases h with h|h
   ·rcases Q1.mp h with h|h
    ·cases h;exact absurd rfl hk
    ·exact .inl h
   ·exact .inr h
def qza {x y:Str}{c:Addr} : ∀ {names:List (Str×Qar)}{n:Nat}{acc:List (Str×Addr)},(∀ z a,acc.lookup z=some a->a<n)->n<=c->(Vq n names acc).lookup x=some c->(Vq n names acc).lookup y=some c->x=y
 | [],n,acc,hA,hn,h,_=>absurd (hA x c h) (Qcx.mpr hn)
 | (w,k)::r,n,acc,hA,hn,h,h'=>by
  unfold Vq at h h';split at h
  ·rename_i hk;rw [if_pos hk] at h';have hA' : ∀ z a,((w,n)::acc).lookup z=some a->a<n+1:=fun z a q=>by
    rw [Yt] at q;split at q
    ·cases q;exact Qao _
    ·exact Qbw (hA z a q)
   have at_n : ∀ z,((w,n)::acc).lookup z=some n->z=w:=fun z q=>by
    rw [Yt] at q;split at q
    ·rename_i hb;exact beq_iff_eq.mp hb
    ·exact absurd (hA z n q) (V6 _)
   by_cases e:c=n
   ·subst e;have a1:x=w:=by
     rcases qrv h with ⟨q,_⟩|q
     ·exact absurd q (Qft _)
     ·exact at_n x q
    have a2:y=w:=by
     rcases qrv h' with ⟨q,_⟩|q
     ·exact absurd q (Qft _)
     ·exact at_n y q
    rw [a1,a2]
   ·exact qza hA' (Nat.lt_of_le_of_ne hn (Z1 e)) h h'
  ·rename_i hk;rw [if_neg hk] at h';exact qza hA hn h h'
def quc {x:Str}{c:Addr} : ∀ {names:List (Str×Qar)}{h:Heap}{acc:List (Str×Addr)},(Vq h.objs.size names acc).lookup x=some c->acc.lookup x=some c\/(Qef h names).IsCell c none
 | [],_,_,e => .inl e
 | (y,k)::r,h,acc,e=>by
  unfold Vq at e;unfold Qef;split at e
  ·rename_i hk;rw [if_pos hk];have e':(Vq (h.push { cls :=.type "cell",data :=.cell none }).objs.size r ((y,h.objs.size)::acc)).lookup x=some c:=by rw [Z5];exact e
   rcases quc e' with q|q
   ·rw [Yt] at q;split at q
    ·have q:=Qx q;subst q;exact .inr ⟨_,Qfm _ _ _ _ (Q2 _ rfl),rfl⟩
    ·exact .inl q
   ·exact .inr q
  ·rename_i hk;rw [if_neg hk];exact quc e
def zacg {M:Model}{A:Ye}{E:Value->Ql->Prop}{s:Ql}{scope:Scope}{globals:Addr}{cl:List (Str×Addr)}{qual:Str}{outer:Env}{Q:Env->Ql->Prop}
 (hQ:Q (newEnv scope s.heap.objs.size globals (Vq (s.heap.objs.size+1) scope.names cl) qual none .none (some outer) Qho) { s with heap:=Qef (s.heap.push { cls :=.type "dict",data :=.dict #[] }) scope.names }) :
  wpAny M A (newFunctionEnv scope globals cl [] qual none .none (some outer)) Q E s:=by
  simp only [newFunctionEnv,Option.isSome_some,if_true];refine Qi (wpAny_alloc ?_);refine Qi (wpAny_layCells _ (fun name kind cells=>by cases hkc:kind==Js <;> simp [hkc]) _ _ _ _ ?_);rw [show ({ s with heap:=s.heap.push { cls :=.type "dict",data :=.dict #[] } }:Ql).heap.objs.size=s.heap.objs.size+1 from Z5 ..];rw [Qgb];exact Qi (Q9 (Q9 hQ))
structure CompScope (env:Env) (scope:Scope) (caps:List Str):Prop where
 clos:closureFor scope env=pure (qny env.cells scope.names [])
 kind:scope.kind = .function
 cells:scope.names.all (fun y => !(y.2 == .cell)||scope.names.lookup y.1==some .cell)=true
 names:scope.names.all (fun y => !(y.2 == .local)||scope.names.lookup y.1==some .local)=true
 free:scope.names.all (fun y => !(y.2 == .free)||(env.cells.lookup y.1).isSome)=true
 cap:caps.all (fun x=>scope.names.lookup x==some .free&&(env.scope.names.lookup x==some .cell||env.scope.names.lookup x==some .free))=true
def qhj {β:Type} : ∀ {l:List (Str×β)}{x:Str}{c:β},l.lookup x=some c->(x,c) ∈ l:=fun h=>V0 h
def qqc : ∀ {l:List (Str×Addr)}{x:Str}{c:Addr},(x,c) ∈ l -> ∃ d,l.lookup x=some d
 | [],_,_,h=>by simp at h
 | (y,d)::r,x,c,h=>by
  by_cases e:x=y
  ·subst e;exact ⟨d,by simp⟩
  ·have hb:(x==y)=false:=by simpa using e
   rcases Q1.mp h with h|h
   ·cases h;exact absurd rfl e
   ·obtain ⟨d',hd⟩:=qqc h;exact ⟨d',by rw [Yt,hb];exact hd⟩
section
variable {env:Env}{scope:Scope}{caps:List Str}
abbrev clOf (scope:Scope) (env:Env):List (Str×Addr):=qny env.cells scope.names []
def CompScope.sub (S:CompScope env scope caps) {x:Str}{c:Addr} (h:(clOf scope env).lookup x=some c):env.cells.lookup x=some c:=by
 rcases qjo (qhj h) with h|h
 ·simp at h
 ·exact h
def qim {x:Str}{k:Qar} (h:(Qjl scope env).names.lookup x=some k) : ∃ k',(x,k') ∈ scope.names/\(k'=k\/(k' = .free/\k = .cell)):=by
 have hm:=qhj h;obtain ⟨⟨n,k0⟩,h1,h2⟩:=Qr.mp hm;dsimp only at h2;split at h2
 ·rename_i hc;cases h2;have:k0 = .free:=by
   have:=(Ve.mp (Ve.mp hc).1).1;simpa using this
  subst this;exact ⟨_,h1,.inr ⟨rfl,rfl⟩⟩
 ·cases h2;exact ⟨_,h1,.inl rfl⟩
abbrev qsd (scope:Scope) (env:Env) (n:Nat):List (Str×Addr):=Vq n scope.names (clOf scope env)
def CompScope.hasF (S:CompScope env scope caps) {x:Str} (key:(x,Qgt) ∈ scope.names) : ∃ c,(clOf scope env).lookup x=some c:=by
 have:=Z4.mp S.free _ key;have hs:(env.cells.lookup x).isSome=true:=by simpa using this
 obtain ⟨c,hc⟩:=Jg.mp hs;obtain ⟨d,hd⟩:=qjf (cells:=env.cells) (names:=scope.names) (acc:=[]) (.inr ⟨key,c,hc⟩);exact qqc hd
def CompScope.isC (S:CompScope env scope caps) {x:Str} (h:(x,Js) ∈ scope.names):scope.names.lookup x=some .cell:=by
 have:=Z4.mp S.cells _ h;simpa using this
def CompScope.has (S:CompScope env scope caps) {x:Str} (n:Nat) (h:(Qjl scope env).names.lookup x=some .cell\/(Qjl scope env).names.lookup x=some .free) : ∃ c,(qsd scope env n).lookup x=some c:=by
 have key:scope.names.lookup x=some .cell\/(x,Qgt) ∈ scope.names:=by
  rcases h with h|h
  ·obtain ⟨k',h1,h2⟩:=qim h;rcases h2 with rfl|⟨rfl,_⟩
   ·exact .inl (S.isC h1)
   ·exact .inr h1
  ·obtain ⟨k',h1,h2⟩:=qim h;rcases h2 with rfl|⟨_,h2⟩
   ·exact .inr h1
   ·cases h2
 refine Jg.mp (Qbq scope.names n _ ?_);rcases key with k|k
 ·exact .inl k
 ·obtain ⟨c,hc⟩:=S.hasF k;exact .inr (by rw [hc];rfl)
def CompScope.look (S:CompScope env scope caps) {x:Str}{n:Nat}{c:Addr} (h:(qsd scope env n).lookup x=some c):(n<=c/\(x,Js) ∈ scope.names)\/env.cells.lookup x=some c:=by
 rcases qrv h with q|q
 ·exact .inl q
 ·exact .inr (S.sub q)
end
def blk (X:Cx) (pins:List (Addr×Obj)) (scope:Scope) (N':List Str) (s3:Ql) (H:Hp) (ex:List Addr):Cx where
 prog:=X.prog
 w:=X.w
 K:=X.K
 mg:=X.mg
 base:=X.base
 A:=X.A
 N:=N'
 s₀:=s3
 H₀:=H
 env:=compEnvC scope (qsd scope X.env (s3.heap.objs.size+1)) s3.heap.objs.size X.env
 outer:=X.stack
 stack:=X.stack
 ex:=ex
 fn:=fun x=>scope.names.lookup x==some .cell
 calm:=X.calm
 pn:=X.pn++pins
 xe:=fun _ _=>False
def qpn (ix:List Nat) (k:Nat) (σ:St):St:=ix.map (fun i=>(σ[i]?).join)++Zb k none
def qye (ix:List Nat) (k:Nat) (wi:TI) (g:TG) (te:TE):TE:=fun σ H Q=>wi σ H fun J H1 => ∃ W:Nat->Nat->List V->St->Hp->Prop,(∃ m,W 0 m [] (qpn ix k σ) H1) /\ ∀ i m ys σ1 H2,W i m ys σ1 H2 ->
 (J.stop i H2/\ys.length<=Qz /\ ∀ p,H2 p=none->Q (.ref p) (upd H2 p (.lst ys))) \/
 (J.go i H2/\ys.length<Qz /\ ∃ N:V->St->Hp->Prop,(∀ y σ2 H5,N y σ2 H5 -> ∃ m',m'<m/\W (i+1) m' (ys++[y]) σ2 H5) /\ ∀ x H3,J.yld i H2 x H3->g x σ1 H3 fun σ2 H4=>te σ2 H4 fun y H5=>N y σ2 H5)
def qhx {prog:Zr}{w:World}{A:Ye}{R:Result->Ql->Prop}{s:Ql}{elt target iter:Expr}{scope:Scope}{pos:Pos}{it acc:Value}{env:Env} (I:Nat->Ql->Prop)
 (turn : ∀ n s,I n s->wpAny (model prog w) A (Qet it) (fun r s₁=>match r with
  | none=>R (.ok .next) s₁
  | some v=>wpAny (model prog w) A (Qaa target it v) (fun _ s₁'=>wpAny (model prog w) A (Qcm target env v) (fun _ s₂=>wpAny (model prog w) A (eval elt env) (fun x s₃ =>
   wpAny (model prog w) A (call (.builtin "list.append") [acc,x]) (fun _ s₄ => ∃ m,m<n/\I m s₄) (Qak (model prog w) A env fun e s'=>R (.error e) s') s₃)
   (Qak (model prog w) A env fun e s'=>R (.error e) s') s₂) (Qak (model prog w) A env fun e s'=>R (.error e) s') s₁') (Qak (model prog w) A env fun e s'=>R (.error e) s') s₁) (Qak (model prog w) A env fun e s'=>R (.error e) s') s)
  (n:Nat) (h:I n s):Qdw (model prog w) A (.compLoop (.ListComp elt [⟨target,iter,[],0⟩] scope pos) 0 it acc env) R s:=by
  refine codeAny_loop rfl I (fun n s hI=>?_) n h;show wpAny _ _ ((compTurn (.ListComp elt [⟨target,iter,[],0⟩] scope pos) 0 it acc env).onRaise (fun x=>do noteFrame x env;theTreesLotGoes x)) _ _ s;refine wpAny_noted ?_;rw [compTurn_list1];refine Qi (Qbp (Qi (Yw (turn n s hI) (fun r s₁ h₁=>?_) fun _ _ h'=>h')));cases r with
  | none=>exact Q9 h₁
  | some v =>
   exact Qi (Yw h₁ (fun _ s₁' h₁'=>Qi (Yw h₁' (fun _ s₂ h₂=>Qi (Qi (Yw h₂ (fun x s₃ h₃=>Qi (Yw h₃
    (fun _ s₄ h₄=>Q9 (Q9 ⟨rfl,h₄⟩)) fun _ _ h'=>h')) fun _ _ h'=>h'))) fun _ _ h'=>h')) fun _ _ h'=>h')
section
variable {X:Cx}{elt target iter:Expr}{scope:Scope}{pos:Pos}{caps own:List Str}{ix:List Nat}{wi:TI}{g:TG}{te:TE}
def tYes:TT:=fun _ H Q=>Q true H
abbrev TstT:=Env->(Bool->Ql->Prop)->(Value->Ql->Prop)->Ql->Prop
def zarb (prog:Zr) (w:World) (A:Ye) (elt target iter:Expr) (cs:List Expr) (scope:Scope) (pos:Pos) (Tst:TstT):Prop := ∀ {R:Result->Ql->Prop}{s:Ql}{it acc:Value}{env:Env} (I:Nat->Ql->Prop)
 (turn : ∀ n s,I n s->wpAny (model prog w) A (Qet it) (fun r s₁=>match r with
  | none=>R (.ok .next) s₁
  | some v=>wpAny (model prog w) A (Qaa target it v) (fun _ s₁'=>wpAny (model prog w) A (Qcm target env v) (fun _ s₂=>Tst env (fun b s₂'=>match b with
   | true=>wpAny (model prog w) A (eval elt env) (fun x s₃ =>
    wpAny (model prog w) A (call (.builtin "list.append") [acc,x]) (fun _ s₄ => ∃ m,m<n/\I m s₄) (Qak (model prog w) A env fun e s'=>R (.error e) s') s₃)
    (Qak (model prog w) A env fun e s'=>R (.error e) s') s₂'
   | false => ∃ m,m<n/\I m s₂') (Qak (model prog w) A env fun e s'=>R (.error e) s') s₂) (Qak (model prog w) A env fun e s'=>R (.error e) s') s₁') (Qak (model prog w) A env fun e s'=>R (.error e) s') s₁) (Qak (model prog w) A env fun e s'=>R (.error e) s') s)
 (n:Nat) (h:I n s),Qdw (model prog w) A (.compLoop (.ListComp elt [⟨target,iter,cs,0⟩] scope pos) 0 it acc env) R s
def qmu {cs:List Expr}{tt:TT}{Tst:TstT} (hloop:zarb X.prog X.w X.A elt target iter cs scope pos Tst) (hc:X.calm=true) (S:CompScope X.env scope caps) (hi:PI X target iter wi)
 (hg : ∀ pins s3 H ex,PG (blk X pins scope (caps++own) s3 H ex) target g)
 (he : ∀ pins s3 H ex,PE (blk X pins scope (caps++own) s3 H ex) elt te)
 (htst : ∀ pins s3 H ex pins' s σ H' Qb P E,Inv (blk X pins scope (caps++own) s3 H ex) pins' σ H' s->tt σ H' Qb->(∀ b s' H'',Inv (blk X pins scope (caps++own) s3 H ex) pins' σ H'' s'->Qb b H''->P b s')->Tst (blk X pins scope (caps++own) s3 H ex).env P E s)
 (hix:caps.length=ix.length) (hcapB:(caps.zip ix).all (fun p=>X.N[p.2]?==some p.1)=true)
 (hs : ∀ x,Zu iter X.env x=pure x) {use:Option (Value->Sem Unit)}{Q0:Value->Ql->Prop}{Qv:VK}{pins:List (Addr×Obj)}{s:Ql}{σ:St}{H:Hp}{pos':Pos} (I:Inv X pins σ H s) {Inner:It->Hp->Prop} (h:wi σ H Inner)
 (hin : ∀ J H1,Inner J H1 -> ∃ W:Nat->Nat->List V->St->Hp->Prop,(∃ m,W 0 m [] (qpn ix own.length σ) H1) /\ ∀ i m ys σ1 H2,W i m ys σ1 H2 ->
 (J.stop i H2/\ys.length<=Qz /\ ∀ p,H2 p=none->Qv (.ref p) (upd H2 p (.lst ys))) \/
 (J.go i H2/\ys.length<Qz /\ ∃ (N:V->St->Hp->Prop) (N0:St->Hp->Prop),(∀ y σ2 H5,N y σ2 H5 -> ∃ m',m'<m/\W (i+1) m' (ys++[y]) σ2 H5)/\(∀ σ2 H5,N0 σ2 H5 -> ∃ m',m'<m/\W (i+1) m' ys σ2 H5) /\
 ∀ x H3,J.yld i H2 x H3->g x σ1 H3 fun σ2 H4=>tt σ2 H4 fun b H5=>match b with|true=>te σ2 H5 fun y H6=>N y σ2 H6|false=>N0 σ2 H5))
 (fin : ∀ (D C:Addr) (s6:Ql) (H6:Hp) (m6:Str->Option Value),s6.heap.Ns C m6->Inv X pins σ H6 s6->H6 C=none->C≠X.env.locals->C ∉ X.fs->(C ∈ X.ex\/X.s₀.heap.objs.size<=C)->(∀ x c,X.env.cells.lookup x=some c->c≠C)->(∀ p ∈ X.pn++pins,p.1≠C)->Qv (.ref D) H6 ->
 compPost (model X.prog X.w) X.A X.xe use Q0 (.ref D) C (.ok .next) s6) :
 wpAny (model X.prog X.w) X.A (Qem (.ListComp elt [⟨target,iter,cs,0⟩] scope pos) scope X.env pos' (newList []) false (eval iter X.env) use) Q0 X.xe s:=by
  have hcap : ∀ (j:Nat) (x:Str) (i:Nat),caps[j]?=some x->ix[j]?=some i->X.N[i]?=some x:=fun j x i h1 h2=>by
   have hm:(x,i) ∈ caps.zip ix:=by
    have:(caps.zip ix)[j]?=some (x,i):=by rw [Qdr];exact ⟨h1,h2⟩
    exact Qg this
   have:=Z4.mp hcapB _ hm;simpa using this
  have hnm : ∀ y ∈ scope.names,y.2 = .local->scope.names.lookup y.1=some .local:=fun y hy hl=>by
   have:=Z4.mp S.names y hy;rw [hl] at this;simpa using this
  refine wpAny_comprehension_free (use:=use) rfl hs S.clos S.kind hnm (thn (hi pins s σ H _ I h) fun v s1 h1=>thn h1 fun itv s2 h2=>?_);obtain ⟨it,fp,tn,J,H2,e,I2,T,st2,f2,hJ⟩:=h2;obtain ⟨W,⟨m0,w0⟩,turn⟩:=hin J H2 hJ;subst e;refine Qcb (zacg ?_);dsimp only;generalize eh0:s2.heap.push { cls :=.type "list",data :=.seq #[] }=h3;have hns₁:(Qef (h3.push { cls :=.type "dict",data :=.dict #[] }) scope.names).Ns h3.objs.size (fun _=>none):=(Heap.Ns.new h3 (.type "dict")).keeps (Qfm _ _);have hkp : ∀ b o,h3.get? b=some o->(Qef (h3.push { cls :=.type "dict",data :=.dict #[] }) scope.names).get? b=some o:=fun b o q=>Qfm _ _ b o (Qj _ q);have hcl₁ : ∀ x c,(qsd scope X.env (h3.objs.size+1)).lookup x=some c->(clOf scope X.env).lookup x=some c\/(Qef (h3.push { cls :=.type "dict",data :=.dict #[] }) scope.names).IsCell c none:=fun x c q=>by
   refine quc (h:=h3.push { cls :=.type "dict",data :=.dict #[] }) ?_;rw [Z5];exact q
  generalize Qef (h3.push { cls :=.type "dict",data :=.dict #[] }) scope.names=h₁ at hns₁ hkp hcl₁ ⊢;obtain ⟨s3,hs3⟩ : ∃ s3:Ql,s3={ s2 with heap:=h3 }:=⟨_,rfl⟩
  have e3:h3=s3.heap:=by rw [hs3]
  subst e3;have eh:s3.heap=s2.heap.push { cls :=.type "list",data :=.seq ([]:List Value).toArray }:=eh0.symm;have hC:s3.heap.objs.size=s2.heap.objs.size+1:=by rw [eh,Z5]
  have hDlt:s2.heap.objs.size<s3.heap.objs.size:=by omega
  have k23 : ∀ b o,s2.heap.get? b=some o->s3.heap.get? b=some o:=fun b o q=>by rw [eh];exact Qj _ q
  have hD3:s3.heap.get? s2.heap.objs.size=some { cls :=.type "list",data :=.seq ([]:List Value).toArray }:=by rw [eh];exact Q2 _ rfl
  have I3:Inv X pins σ H2 s3:=by rw [hs3];exact I2.kept (t':=s2.toks) k23
  have k34 : ∀ b o,s3.heap.get? b=some o->h₁.get? b=some o:=hkp;have fpl : ∀ b ∈ fp,b<s2.heap.objs.size:=fun b hb=>by
   obtain ⟨o,q,_⟩:=T.obj 0 _ st2 b hb;exact Qt q
  have cel : ∀ x c,X.env.cells.lookup x=some c->c<s2.heap.objs.size:=fun x c q=>by
   obtain ⟨v,o,z,_⟩:=I2.cell x c q;exact Qt z
  have ncl : ∀ x c,(qsd scope X.env (s3.heap.objs.size+1)).lookup x=some c->X.env.cells.lookup x=some c\/s3.heap.objs.size<c:=fun x c q=>(S.look q).elim (fun z => .inr z.1) .inl;have pnl : ∀ p ∈ X.pn++pins,p.1<s2.heap.objs.size:=fun p hp=>Qt (I2.pin p hp).1;have hDn:H2 s2.heap.objs.size=none:=I2.hok.fresh (Qs _);have ok:(blk X pins scope (caps++own) s3 H2 (s2.heap.objs.size::fp)).Ok:=by
   refine ⟨I2.mod,S.kind,I2.ok.glob,I2.ok.blt,Qs _,fun x y c h1 h2=>?_,fun x hx=>S.has _ hx,fun x c hf q=>?_,I2.ok.hd,I2.ok.frames,.inl rfl,fun b hb=>?_,I3.bs,?_,fun b o q hb=>?_,fun b hb=>?_,I3.stack,I3.stkFree⟩
   ·rcases ncl x c h1 with q1|q1
    ·rcases ncl y c h2 with q2|q2
     ·exact I2.ok.inj x y c q1 q2
     ·exact absurd (Yx (cel x c q1) hDlt) (Qcx.mpr (Yg q2))
    ·exact qza (n:=s3.heap.objs.size+1) (acc:=clOf scope X.env) (fun z a q=>Qbw (Yx (cel z a (S.sub q)) hDlt)) q1 h1 h2
   ·exact Z7 (Qda _) (qqw (lo:=s3.heap.objs.size+1) (Qs _) (.inl (qhj (beq_iff_eq.mp hf))) q)
   ·have hb':b=s2.heap.objs.size\/b ∈ fp:=Q1.mp hb;rcases hb' with rfl|hb'
    ·exact ⟨Q5 hDlt,fun x c q=>(ncl x c q).elim (fun z=>Q5 (cel x c z)) fun z=>Z8 (Yx hDlt z)⟩
    ·exact ⟨Q5 (Yx (fpl b hb') hDlt),fun x c q=>(ncl x c q).elim (fun z=>(f2 b hb').2.2.2.2.1 x c z) fun z=>Z8 (Yx (fpl b hb') (Yx hDlt z))⟩
   ·exact Z7 I2.ok.bsz I3.sz
   ·have hlt:b<X.base.objs.size:=Qt q;have hb':b=s2.heap.objs.size\/b ∈ fp:=Q1.mp hb;have h1:=I2.ok.bsz;have h2:=I2.sz;rcases hb' with rfl|hb'
    ·exact absurd hlt (Qcx.mpr (Z7 h1 h2))
    ·rcases (f2 b hb').2.2.2.1 with z|z
     ·exact I2.ok.noex b o q z
     ·exact absurd hlt (Qcx.mpr (Z7 h1 z))
   ·have hb':b=s2.heap.objs.size\/b ∈ fp:=Q1.mp hb;intro z;have z':=I2.stkSub b z;rcases hb' with rfl|hb'
    ·rcases Q1.mp z' with z'|z'
     ·exact Z8 I2.lt z'
     ·exact I2.nofs (Qs _) z'
    ·rcases Q1.mp z' with z'|z'
     ·exact (f2 b hb').2.1 z'
     ·exact (f2 b hb').2.2.1 z'
  have len0:(qpn ix own.length σ).length=(caps++own).length:=by unfold qpn;simp [hix]
  have I4:Inv (blk X pins scope (caps++own) s3 H2 (s2.heap.objs.size::fp)) [] (qpn ix own.length σ) H2 { s2 with heap:=h₁ }:=by
   obtain ⟨mX,nsX,lkX⟩:=I3.loc;refine ⟨ok,(by show s2.os=s3.os;rw [hs3]),I2.bare,Un.kept k34,⟨_,hns₁,fun j x v h1 h2 h3=>?_⟩,fun x c q=>?_,I3.hok.fresh (Qs _),fun x c q=>(ncl x c q).elim (fun z=>I3.freeC x c z) fun z=>I3.hok.fresh (Yg z),fun p hp=>?_,I3.hok.kept k34,len0⟩
   ·-- a captured name
    have hj:j<ix.length:=by
     unfold qpn at h2;by_cases hj:j<ix.length
     ·exact hj
     ·rw [Zm (by simpa using hj),Vr] at h2;split at h2 <;> cases h2
    have h1':caps[j]?=some x:=by
     have:(caps++own)[j]?=some x:=h1
     rwa [Zc (by omega)] at this
    have hij:ix[j]?=some ix[j]:=Qc hj;have hv:σ[ix[j]]?=some (some v):=by
     unfold qpn at h2;rw [Zc (by simpa using hj),Qa,hij] at h2;have h2':(σ[ix[j]]?).join=some v:=by simpa using h2
     cases q:σ[ix[j]]? with
     | none=>rw [q] at h2';cases h2'
     | some o=>rw [q] at h2';cases o with
      | none=>cases h2'
      | some y=>have:y=v:=by simpa using h2'
                rw [this]
    have hk:=Z4.mp S.cap x (Qg h1');obtain ⟨k1,k2⟩:=Ve.mp hk;have k1':scope.names.lookup x=some .free:=by simpa using k1
    have k2':X.env.scope.names.lookup x=some .cell\/X.env.scope.names.lookup x=some .free:=by simpa using k2
    obtain ⟨u,ru,lk⟩:=lkX ix[j] x v (hcap j x _ h1' hij) hv (k2'.elim (fun z => .inr (.inl z)) (fun z => .inr (.inr z)));refine ⟨u,ru,?_⟩;have hrel:(Qjl scope X.env).names.lookup x=some .cell\/(Qjl scope X.env).names.lookup x=some .free:=by
     rcases h3 with h3|h3|h3
     ·have h3':(Qjl scope X.env).names.lookup x=some Qar.local:=h3;obtain ⟨k',m1,m2⟩:=qim h3';rcases m2 with rfl|⟨_,m2⟩
      ·have:=hnm _ m1 rfl;rw [k1'] at this;cases this
      ·cases m2
     ·exact .inl h3
     ·exact .inr h3
    have hxc:(x,Js) ∉ scope.names:=fun z=>by
     have:=S.isC z;rw [k1'] at this;cases this
    obtain ⟨c,hcl⟩:=S.hasF (qhj k1');have hcl':(qsd scope X.env (s3.heap.objs.size+1)).lookup x=some c:=(qzi hxc).trans hcl;rcases lk with ⟨kl,_⟩|⟨_,c',ec,ic⟩
    ·have kl':X.env.scope.names.lookup x=some .local:=kl;rcases k2' with z|z <;> (rw [kl'] at z;cases z)
    ·have:=S.sub hcl;have ee:c'=c:=by rw [ec] at this;exact Qx this
     exact .inr ⟨hrel,c,hcl',ee ▸ ic.keeps k34⟩
   ·rcases hcl₁ x c q with z|z
    ·obtain ⟨v,ic⟩:=I3.cell x c (S.sub z);exact ⟨v,ic.keeps k34⟩
    ·exact ⟨_,z⟩
   ·have hp':p ∈ X.pn++pins:=by simpa [blk] using hp
    obtain ⟨q1,q2,q3,q4,q5⟩:=I3.pin p hp';refine ⟨k34 _ _ q1,q2,Q5 (Yx (pnl p hp') hDlt),fun z=>?_,q5⟩;rcases Q1.mp (I3.stkSub p.1 z) with z'|z'
    ·exact q3 z'
    ·exact q4 z'
  have hD4:h₁.get? s2.heap.objs.size=some { cls :=.type "list",data :=.seq ([]:List Value).toArray }:=k34 _ _ hD3;have st4:tn 0 h₁:=T.keep _ _ _ st2 fun b _ o q=>k34 b o (k23 b o q);have fpk : ∀ {H':Hp}{ob:Obj},(∀ b ∈ fp,H' b=none) -> ∀ b ∈ fp,FpOk (blk X pins scope (caps++own) s3 H2 (s2.heap.objs.size::fp)) [(s2.heap.objs.size,ob)] H' b:=fun {H' ob} hn b hb=>by
   obtain ⟨_,a1,a2,a3,a4,a5⟩:=f2 b hb;refine ⟨hn b hb,Q5 (Yx (fpl b hb) hDlt),fun z=>?_,.inl (Qy _ hb),fun x c q=>(ncl x c q).elim (fun z=>a4 x c z) fun z=>Z8 (Yx (fpl b hb) (Yx hDlt z)),fun p hp=>?_⟩
   ·rcases Q1.mp (I2.stkSub b z) with z'|z'
    ·exact a1 z'
    ·exact a2 z'
   ·have hp':p ∈ X.pn++pins\/p=(s2.heap.objs.size,ob):=by simpa [blk,or_assoc] using hp
    rcases hp' with hp'|rfl
    ·exact a5 p hp'
    ·exact Z8 (fpl b hb)
  have loop : ∀ s5:Ql,s5=({ s2 with heap:=h₁ }:Ql) ->
   Qdw (model X.prog X.w) X.A (.compLoop (.ListComp elt [⟨target,iter,cs,0⟩] scope pos) 0 (.ref it) (.ref s2.heap.objs.size) (compEnvC scope (qsd scope X.env (s3.heap.objs.size+1)) s3.heap.objs.size X.env))
    (compPost (model X.prog X.w) X.A X.xe use Q0 (.ref s2.heap.objs.size) s3.heap.objs.size) s5:=by
   rintro s5 rfl;refine hloop (fun n s' => ∃ i ys its cp σ' H',Inv (blk X pins scope (caps++own) s3 H2 (s2.heap.objs.size::fp)) [] σ' H' s'/\tn i s'.heap/\(∀ b ∈ fp,H' b=none)/\H' s2.heap.objs.size=none /\
    s'.heap.get? s2.heap.objs.size=some { cls :=.type "list",data :=.seq (its:List Value).toArray cp }/\Vals ys its/\W i n ys σ' H') ?_ m0 ⟨0,[],[],_,_,H2,I4,st4,fun b hb=>(f2 b hb).1,hDn,hD4,.nil,w0⟩
   rintro n s5 ⟨i,ys,its,cp,σ5,H5,I5,st5,fr5,hD5,gD5,rv5,w5⟩;have Dfs:s2.heap.objs.size ∉ (blk X pins scope (caps++own) s3 H2 (s2.heap.objs.size::fp)).fs:=fun z=>by
    rcases Q1.mp (I2.stkSub _ z) with z'|z'
    ·exact Z8 I2.lt z'
    ·exact I2.nofs (Qs _) z'
   have I5':Inv (blk X pins scope (caps++own) s3 H2 (s2.heap.objs.size::fp)) [(s2.heap.objs.size,{ cls :=.type "list",data :=.seq its.toArray cp })] σ5 H5 s5:=by
    refine I5.pins_of fun p hp=>?_;have hp':p ∈ (blk X pins scope (caps++own) s3 H2 (s2.heap.objs.size::fp)).pn++[]\/p=(s2.heap.objs.size,{ cls :=.type "list",data :=.seq its.toArray cp }):=by
     first
      | exact .inr (Q3.mp hp)
      | (rcases Ze.mp hp with z|z
         ·exact .inl (Ya _ z)
         ·exact .inr (Q3.mp z))
    rcases hp' with z|rfl
    ·exact I5.pin p z
    ·exact ⟨gD5,hD5,Q5 hDlt,Dfs,fun v z=>by cases z⟩
   rcases turn i n ys σ5 H5 w5 with ⟨stop,hz,qn⟩|⟨go,hz,N,N0,hN,hN0,step⟩
   ·refine thn (T.done (blk X pins scope (caps++own) s3 H2 (s2.heap.objs.size::fp)) rfl rfl rfl hc i _ s5 σ5 H5 _ I5' (fpk fr5) st5 stop) fun r s6 ⟨hr,I6⟩=>?_;subst hr;obtain ⟨m6,ns6,_⟩:=id I6.loc;have gD6:=(I6.pin _ (Q7 _ (Q3.mpr rfl))).1;have kC : ∀ b o,b≠s3.heap.objs.size->s6.heap.get? b=some o->s6.heap.get? b=some o:=fun b o _ q=>q;have bne : ∀ b o,s2.heap.get? b=some o->b≠s3.heap.objs.size:=fun b o q=>Q5 (Yx (Qt q) hDlt);have bnD : ∀ b o,s2.heap.get? b=some o->b≠s2.heap.objs.size:=fun b o q=>Q5 (Qt q);have nC : ∀ b u,H5 b=some u->b≠s3.heap.objs.size:=fun b u q z=>by
     have z1:H5 s3.heap.objs.size=none:=I6.free;rw [z,z1] at q;cases q
    have U:=I6.base;have IX:Inv X pins σ (upd H5 s2.heap.objs.size (.lst ys)) s6:=by
     refine I2.call' (ch:=s2.heap.objs.size::fp) ?_ ?_ ?_ I6.bare ?_
     ·show s6.os=s2.os;rw [I6.os];show s3.os=s2.os;rw [hs3]
     ·refine ⟨fun b o q n hb hx=>kC b o (bne b o q) (U.keep b o (k23 b o q) n hb hx),fun b o q n hb hx=>?_,fun b o q n hx=>?_,fun b o q hx=>?_,fun b xs q=>?_,fun b o u q=>?_,fun b ps q=>?_⟩
      ·obtain ⟨sl,z⟩:=U.slot b o (k23 b o q) n hb hx;exact ⟨sl,kC b _ (bne b o q) z⟩
      ·rw [qk (bnD b o q)];exact U.free b o (k23 b o q) n hx
      ·obtain ⟨o',z⟩:=U.there b o (k23 b o q) hx;exact ⟨o',kC b _ (bne b o q) z⟩
      ·have:=U.tups b xs q;rw [qk (qm this hD5)];exact this
      ·have:=U.frzs b o u q;rw [qk (qm this hD5)];exact this
      ·obtain ⟨more,z,gm⟩:=U.tbls b ps q;exact ⟨more,by rw [qk (qm z hD5)];exact z,gm.mono fun b o u q=>by rw [qk (qm q hD5)];exact q⟩
     ·intro b u q;by_cases hb:b=s2.heap.objs.size
      ·subst hb;rw [ql] at q;cases q;exact ⟨hz,its,cp,rv5,kC _ _ (Q5 hDlt) gD6⟩
      ·rw [qk hb] at q;refine (I6.hok b u q).stay (fun c ob hc z=>kC c ob ?_ z) (fun c z=>by rw [qk (qm z hD5)];exact z) fun c xs z=>by rw [qk (qm z hD5)];exact z
       rcases hc with hc|hc
       ·rw [hc];exact nC b u q
       ·exact nC c _ hc
     ·intro b hb;have hb':b=s2.heap.objs.size\/b ∈ fp:=Q1.mp hb;rcases hb' with rfl|hb'
      ·exact ⟨.inr I2.sz,Z8 I2.lt,fun x c q=>Q5 (cel x c q),fun p hp=>Q5 (pnl p hp)⟩
      ·obtain ⟨_,a1,_,a3,a4,a5⟩:=f2 b hb';exact ⟨a3,a1,a4,a5⟩
    have hCH:(upd H5 s2.heap.objs.size (.lst ys)) s3.heap.objs.size=none:=by
     rw [qk (Z8 hDlt)];exact I6.free
    exact fin _ _ s6 _ m6 ns6 IX hCH (Z8 (Yx I2.lt hDlt)) (I2.nofs (Yg hDlt)) (.inr (Z7 I2.sz (Yg hDlt))) (fun x c q=>Q5 (Yx (cel x c q) hDlt)) (fun p hp=>Q5 (Yx (pnl p hp) hDlt)) (qn _ hD5)
   ·refine thn (T.item (blk X pins scope (caps++own) s3 H2 (s2.heap.objs.size::fp)) rfl rfl rfl hc i _ s5 σ5 H5 _ I5' (fpk fr5) st5 go) fun r s6 ⟨u,hr,h6⟩=>?_;subst hr;refine thn h6 fun _ s7 xx69=>?_;obtain ⟨x,H7,I7,r7,y7,st7,fr7⟩:=xx69;have I7':=I7.pinned (fpk fr7) (T.obj _ _ st7);refine Yw (hg pins s3 H2 _ _ s7 σ5 H7 x u _ I7' r7 (step x H7 y7)) (fun _ s8 xx68=>?_) fun _ _ z=>z.elim;obtain ⟨σ8,H8,I8,q8⟩:=xx68;refine htst pins s3 H2 _ _ s8 σ8 H8 _ _ _ I8 q8 fun bt s8' H8' I8' q8'=>?_;cases bt with
    | false =>
     have q9:N0 σ8 H8':=q8';obtain ⟨m',hm',w9⟩:=hN0 σ8 H8' q9;have gD9:=(I8'.pin (s2.heap.objs.size,{ cls :=.type "list",data :=.seq its.toArray cp }) (Q7 _ (Ya _ (Q3.mpr rfl))))
     have pin8 : ∀ b ∈ fp,∀ o,s7.heap.get? b=some o->s8'.heap.get? b=some o/\H8' b=none:=fun b hb o q=>by
      have z:=I8'.pin (b,o) (Q7 _ (Q7 _ (qhf hb q)));exact ⟨z.1,z.2.1⟩
     refine ⟨m',hm',i+1,ys,its,cp,σ8,H8',?_,?_,fun b hb=>?_,gD9.2.1,gD9.1,rv5,w9⟩
     ·exact (I8'.pins_of (pins':=[]) (fun p hp=>by
       first
        | exact absurd hp (by simp)
        | (rw [Yy] at hp;exact I8'.pin p (Ya _ hp))))
     ·exact T.keep _ _ _ st7 fun b hb o q=>(pin8 b hb o q).1
     ·obtain ⟨o,q,_⟩:=T.obj _ _ st7 b hb;exact (pin8 b hb o q).2
    | true =>
     refine Yw (he pins s3 H2 _ _ s8' σ8 H8' _ I8' q8') (fun uy s9 xx67=>?_) fun _ _ z=>z.elim;obtain ⟨y,H9,I9,r9,n9⟩:=xx67;obtain ⟨m',hm',w9⟩:=hN y σ8 H9 n9;have gD9:=(I9.pin (s2.heap.objs.size,{ cls :=.type "list",data :=.seq its.toArray cp }) (Q7 _ (Ya _ (Q3.mpr rfl))))
     have pin9 : ∀ b ∈ fp,∀ o,s7.heap.get? b=some o->s9.heap.get? b=some o/\H9 b=none:=fun b hb o q=>by
      have z:=I9.pin (b,o) (Q7 _ (Q7 _ (qhf hb q)));exact ⟨z.1,z.2.1⟩
     have hl9:=rv5.length;refine Qbz Qea ⟨_,gD9.1,rfl⟩ PySem.F.entry_list_append (PySem.F.args_list_append_2 _ _) (Qhj s2.heap.objs.size its.toArray cp uy (by rw [Qu];omega)) ⟨gD9.1,?_⟩;have qD:=Qie gD9.1 (fun xs=>xs.push uy);have ep:its.toArray.push uy=(its++[uy]).toArray:=by simp
     rw [ep] at qD;have up : ∀ b o,b≠s2.heap.objs.size->s9.heap.get? b=some o->(s9.heap.update s2.heap.objs.size (Qcw fun xs=>xs.push uy)).get? b=some o:=fun b o hb q=>(Qbr s9.heap _ (Z1 hb)).trans q;refine ⟨m',hm',i+1,ys++[y],its++[uy],_,σ8,H9,?_,?_,fun b hb=>?_,gD9.2.1,qD,rv5.append (.cons r9 .nil),w9⟩
     ·refine (I9.pins_of (pins':=[]) (fun p hp=>by
       first
        | exact absurd hp (by simp)
        | (rw [Yy] at hp;exact I9.pin p (Ya _ hp)))).turned (it:=s2.heap.objs.size) up gD9.2.1 (Q5 hDlt) (.inl (Qbg ..)) (fun x c q=>(ncl x c q).elim (fun z=>Q5 (cel x c z)) fun z=>Z8 (Yx hDlt z)) fun p hp=>?_
      have hp':p ∈ X.pn++pins:=by simpa [blk] using hp
      exact Q5 (pnl p hp')
     ·exact T.keep _ _ _ st7 fun b hb o q=>up b o (Q5 (fpl b hb)) (pin9 b hb o q).1
     ·obtain ⟨o,q,_⟩:=T.obj _ _ st7 b hb;exact (pin9 b hb o q).2
  exact codeAny_compStart_list (loop _ rfl) (T.self _ 0 _ _ _ st4 (loop _ rfl))
def qqa (hc:X.calm=true) (S:CompScope X.env scope caps) (hi:PI X target iter wi)
 (hg : ∀ pins s3 H ex,PG (blk X pins scope (caps++own) s3 H ex) target g)
 (he : ∀ pins s3 H ex,PE (blk X pins scope (caps++own) s3 H ex) elt te)
 (hix:caps.length=ix.length) (hcapB:(caps.zip ix).all (fun p=>X.N[p.2]?==some p.1)=true)
 (hs : ∀ x,Zu iter X.env x=pure x) {use:Option (Value->Sem Unit)}{Q0:Value->Ql->Prop}{Qv:VK}{pins:List (Addr×Obj)}{s:Ql}{σ:St}{H:Hp}{pos':Pos} (I:Inv X pins σ H s) (h:qye ix own.length wi g te σ H Qv)
 (fin : ∀ (D C:Addr) (s6:Ql) (H6:Hp) (m6:Str->Option Value),s6.heap.Ns C m6->Inv X pins σ H6 s6->H6 C=none->C≠X.env.locals->C ∉ X.fs->(C ∈ X.ex\/X.s₀.heap.objs.size<=C)->(∀ x c,X.env.cells.lookup x=some c->c≠C)->(∀ p ∈ X.pn++pins,p.1≠C)->Qv (.ref D) H6 ->
 compPost (model X.prog X.w) X.A X.xe use Q0 (.ref D) C (.ok .next) s6) :
 wpAny (model X.prog X.w) X.A (Qem (.ListComp elt [⟨target,iter,[],0⟩] scope pos) scope X.env pos' (newList []) false (eval iter X.env) use) Q0 X.xe s:=by
  refine qmu (cs:=[]) (tt:=tYes) (Tst:=fun _ P _ s=>P true s) (fun J turn n h=>qhx J turn n h) hc S hi hg he (fun _ _ _ _ _ s _ H' _ _ _ I q k=>k true s H' I q) hix hcapB hs I h (fun J H1 z=>?_) fin;obtain ⟨W,w0,turn⟩:=z;refine ⟨W,w0,fun i m ys σ1 H2 w=>?_⟩;rcases turn i m ys σ1 H2 w with z|z
  ·exact .inl z
  ·obtain ⟨go,hz,N,hN,step⟩:=z;exact .inr ⟨go,hz,N,fun _ _=>False,hN,fun _ _ z=>z.elim,step⟩
def qzv (hc:X.calm=true) (S:CompScope X.env scope caps) (hi:PI X target iter wi)
 (hg : ∀ pins s3 H ex,PG (blk X pins scope (caps++own) s3 H ex) target g)
 (he : ∀ pins s3 H ex,PE (blk X pins scope (caps++own) s3 H ex) elt te)
 (hix:caps.length=ix.length:=by rfl) (hcapB:(caps.zip ix).all (fun p=>X.N[p.2]?==some p.1)=true:=by rfl)
  (hs : ∀ x,Zu iter X.env x=pure x:=by intro _;rfl):PE X (.ListComp elt [⟨target,iter,[],0⟩] scope pos) (qye ix own.length wi g te):=by
  intro pins s σ H Q I h;rw [eval_ListComp];exact qqa (use:=none) (Q0:=EP X pins σ Q) hc S hi hg he hix hcapB hs I h fun D C s6 H6 m6 ns6 IX c1 c2 c3 c4 c5 c6 q=>⟨m6,ns6,fun h' sb=>⟨.ref D,H6,IX.turned (t':=s6.toks) (it:=C) (fun b o hb q=>sb.extBut b o hb q) c1 c2 c4 c5 c6,rfl,q⟩⟩
end
end
section
inductive Sl where
 | non
 | val (d:Qh)
 | own (ds:List Qh)
 | pen (ds:List Qh)
 | new (d:Qh)
 | exc (C:Addr)
  | obj (a C:Addr) (nm:List Str) (fs:List (Str×Qh))
abbrev Sto:=List Sl
def gS:Sto->Nat->Sl
 | [],_ => .non
 | s::_,0=>s
 | _::r,i+1=>gS r i
def Sl.mut:Sl->Bool
 | .own _=>true
 | .pen _=>true
 | _=>false
def vS (σ:St) (i:Nat):Option V:=(σ[i]?).join
def qdr : ∀ (e:Sto) (i j:Nat) (s:Sl),gS (e.set i s) j=if i=j/\i<e.length then s else gS e j
 | [],i,j,s=>by simp [gS]
 | x::e,0,0,s=>by simp [gS]
 | x::e,0,j+1,s=>by simp [gS]
 | x::e,i+1,0,s=>by simp [gS]
 | x::e,i+1,j+1,s=>by
  simp only [Qgu,gS,qdr e i j s,Zp,Nat.add_right_cancel_iff,Nat.add_lt_add_iff_right]
def qzo : ∀ {e:Sto}{i:Nat},e.length<=i->gS e i = .non
 | [],_,_=>by simp [gS]
 | x::e,0,h=>by simp at h
 | x::e,i+1,h=>by simp only [gS];exact qzo (by simpa using h)
def qoh (σ:St) (i j:Nat) (v:Option V):vS (σ.set i v) j=if i=j/\i<σ.length then v else vS σ j:=by
 unfold vS;rw [Qab];by_cases h:i=j
 ·subst h;by_cases h2:i<σ.length
  ·simp [h2]
  ·simp [h2]
 ·simp [h]
def qav {σ:St}{i:Nat}{v:V} (h:vS σ i=some v):σ[i]?=some (some v):=by
 unfold vS at h;cases e:σ[i]? with
 | none=>rw [e] at h;cases h
 | some o=>rw [e] at h;cases o with
  | none=>cases h
  | some u=>simpa using h
structure Frm where
 B:Hp
 He:Hp
 F0:Hp
mutual
def IsN (K:Qd) (H:Hp):Qh->V->Prop
 | .none,v=>v = .non
 | .bool b,v=>v = .bl b
 | .int i,v=>v = .int i
 | .str x,v=>v = .str x
 | .list l,v => ∃ a xs,v = .ref a/\H a=some (.lst xs)/\IssN K H l xs
 | .tuple l,v => ∃ a xs,v = .ref a/\H a=some (.tup xs)/\IssN K H l xs
 | .dict _,_=>False
def IssN (K:Qd) (H:Hp):List Qh->List V->Prop
 | [],xs=>xs=[]
 | d::l,xs => ∃ x r,xs=x::r/\IsN K H d x/\IssN K H l r
end
mutual
def IsN.is {K:Qd}{H H':Hp} (s:Same H H') : ∀ {d:Qh}{v:V},IsN K H d v->Is K H' d v
 | .none,_,h=>by unfold IsN at h;unfold Is;exact h
 | .bool _,_,h=>by unfold IsN at h;unfold Is;exact h
 | .int _,_,h=>by unfold IsN at h;unfold Is;exact h
 | .str _,_,h=>by unfold IsN at h;unfold Is;exact h
 | .list l,_,h=>by
  unfold IsN at h;unfold Is;obtain ⟨a,xs,e,q,r⟩:=h;exact ⟨a,xs,e,SqL.of (s _ _ q),IssN.is s r⟩
 | .tuple l,_,h=>by
  unfold IsN at h;unfold Is;obtain ⟨a,xs,e,q,r⟩:=h;exact ⟨a,xs,e,SqT.of (s _ _ q),IssN.is s r⟩
 | .dict _,_,h=>by unfold IsN at h;exact h.elim
def IssN.is {K:Qd}{H H':Hp} (s:Same H H') : ∀ {l:List Qh}{xs:List V},IssN K H l xs->Iss K H' l xs
 | [],_,h=>by unfold IssN at h;unfold Iss;exact h
 | d::l,_,h=>by
  unfold IssN at h;unfold Iss;obtain ⟨x,r,e,p,q⟩:=h;exact ⟨x,r,e,IsN.is s p,IssN.is s q⟩
end
mutual
def IsN.mono {K:Qd}{H H':Hp} (s:Same H H') : ∀ {d:Qh}{v:V},IsN K H d v->IsN K H' d v
 | .none,_,h=>by unfold IsN at h ⊢;exact h
 | .bool _,_,h=>by unfold IsN at h ⊢;exact h
 | .int _,_,h=>by unfold IsN at h ⊢;exact h
 | .str _,_,h=>by unfold IsN at h ⊢;exact h
 | .list l,_,h=>by
  unfold IsN at h ⊢;obtain ⟨a,xs,e,q,r⟩:=h;exact ⟨a,xs,e,s _ _ q,IssN.mono s r⟩
 | .tuple l,_,h=>by
  unfold IsN at h ⊢;obtain ⟨a,xs,e,q,r⟩:=h;exact ⟨a,xs,e,s _ _ q,IssN.mono s r⟩
 | .dict _,_,h=>by unfold IsN at h;exact h.elim
def IssN.mono {K:Qd}{H H':Hp} (s:Same H H') : ∀ {l:List Qh}{xs:List V},IssN K H l xs->IssN K H' l xs
 | [],_,h=>by unfold IssN at h ⊢;exact h
 | d::l,_,h=>by
  unfold IssN at h ⊢;obtain ⟨x,r,e,p,q⟩:=h;exact ⟨x,r,e,IsN.mono s p,IssN.mono s q⟩
end
def qrr (M:Frm) (F:Hp):Hp:=fun b=>if (M.He b).isNone=true/\(M.B b).isNone=true then F b else none
def qpb {M:Frm}{F:Hp}:Same (qrr M F) F:=fun b o e=>by
 unfold qrr at e;split at e
 ·exact .of e
 ·cases e
def qsi {M:Frm}{F F':Hp} (s:Same F F'):Same (qrr M F) (qrr M F'):=fun b o e=>by
 unfold qrr at e ⊢;split at e
 ·rename_i h;rw [if_pos h];exact s b o e
 ·cases e
def zaaq {M:Frm}{F:Hp}{a:Addr}{o:HO} (h1:M.He a=none) (h2:M.B a=none) (h3:F a=some o):qrr M F a=some o:=by
 unfold qrr;rw [if_pos ⟨by rw [h1];rfl,by rw [h2];rfl⟩];exact h3
def qwf {M:Frm}{F:Hp}{a:Addr}{o:HO} (h:qrr M F a=some o):M.He a=none/\M.B a=none/\F a=some o:=by
 unfold qrr at h;split at h
 ·rename_i z;exact ⟨Qds.mp z.1,Qds.mp z.2,h⟩
 ·cases h
def qow (C ea:Addr):HO :=.ext fun h => ∃ o,h.get? ea=some o/\o.cls = .ref C
section
variable (K:Qd) (M:Frm) (F H:Hp)
def SlotOk:Sl->Option V->Prop
 | .non,_=>True
 | .val d,x => ∃ v,x=some v/\Is K F d v
 | .own ds,x => ∃ a vs,x=some (.ref a)/\H a=some (.lst vs)/\F a=none/\M.B a=none/\M.He a=none/\Iss K F ds vs
 | .pen ds,x => ∃ a vs,x=some (.ref a)/\H a=some (.lst vs)/\F a=none/\M.B a=none/\(∃ o,M.He a=some o)/\Iss K F ds vs
 | .new d,x => ∃ v,x=some v/\IsN K (qrr M F) d v
 | .exc C,x => ∃ ea,x=some (.ref ea)/\F ea=some (qow C ea)
 | .obj a C nm fs,x => ∃ dx vs,x=some (.ref a)/\M.B a=some (.ins C dx vs)/\vs.map (·.1)=nm /\ ∀ f d,(f,d) ∈ fs -> ∃ v,vs.lookup f=some v/\Is K F d v
structure EnvOk (env:Sto) (σ:St):Prop where
 len:env.length=σ.length
 slot : ∀ i,SlotOk K M F H (gS env i) (vS σ i)
 dis : ∀ i j a,i≠j->(gS env i).mut=true->(gS env j).mut=true->vS σ i=some (.ref a)->vS σ j=some (.ref a)->False
 f0:Same M.F0 F
 fe:Same M.F0 M.He
 fh:Same F H
 bh:Same M.B H
 new : ∀ b o,F b=some o->M.F0 b=some o\/M.He b=none
 dom : ∀ b o,M.He b=some o -> ∃ o',H b=some o'
end
structure Go (F H F' H':Hp):Prop where
 f:Same F F'
 h:Same H H'
 fh:Same F' H'
 new : ∀ b o,F' b=some o->F b=some o\/H b=none
def qF {H H':Hp} (s:Same H H') {b:Addr} (h:H' b=none):H b=none:=s.free h
def Go.refl {F H:Hp} (s:Same F H):Go F H F H:=⟨.refl _,.refl _,s,fun _ _ h => .inl h⟩
def Go.trans {F H F1 H1 F2 H2:Hp} (a:Go F H F1 H1) (b:Go F1 H1 F2 H2):Go F H F2 H2 :=
 ⟨a.f.trans b.f,a.h.trans b.h,b.fh,fun c o h=>(b.new c o h).elim (fun q=>a.new c o q) fun q => .inr (qF a.h q)⟩
def Go.put {F H:Hp}{p:Addr}{o:HO} (s:Same F H) (h:H p=none):Go F H (upd F p o) (upd H p o):=by
 refine ⟨qbx (qF s h),qbx h,fun b u e=>?_,fun b u e=>?_⟩
 ·unfold upd at e ⊢;split at e
  ·rename_i z;rw [if_pos z];exact .of e
  ·rename_i z;rw [if_neg z];exact s b u e
 ·unfold upd at e;split at e
  ·rename_i z;subst z;exact .inr h
  ·exact .inl e
def Go.side {F H:Hp}{p:Addr}{o:HO} (s:Same F H) (h:H p=none):Go F H F (upd H p o) :=
 ⟨.refl _,qbx h,s.trans (qbx h),fun _ _ e => .inl e⟩
section
variable {K:Qd}{M:Frm}{F H F' H':Hp}{env:Sto}{σ:St}
def SlotOk.go {s:Sl}{x:Option V} (h:SlotOk K M F H s x) (g:Go F H F' H'):SlotOk K M F' H' s x:=by
 have nf : ∀ {a:Addr}{o:HO},H a=some o->F a=none->F' a=none:=fun {a o} h1 h2=>by
  cases e:F' a with
  | none=>rfl
  | some u=>rcases g.new a u e with q|q
            ·rw [h2] at q;cases q
            ·rw [h1] at q;cases q
 cases s with
 | non=>trivial
 | val d=>obtain ⟨v,e,i⟩:=h;exact ⟨v,e,i.mono g.f⟩
 | own ds=>obtain ⟨a,vs,e,h1,h2,h3,h4,h5⟩:=h;exact ⟨a,vs,e,g.h _ _ h1,nf h1 h2,h3,h4,h5.mono g.f⟩
 | pen ds=>obtain ⟨a,vs,e,h1,h2,h3,hx,h5⟩:=h;exact ⟨a,vs,e,g.h _ _ h1,nf h1 h2,h3,hx,h5.mono g.f⟩
 | new d=>obtain ⟨v,e,i⟩:=h;exact ⟨v,e,i.mono (qsi g.f)⟩
 | exc C=>obtain ⟨ea,e,i⟩:=h;exact ⟨ea,e,g.f.at i⟩
 | obj a0 C nm fs=>obtain ⟨dx,vs,e,b,hn,i⟩:=h;exact ⟨dx,vs,e,b,hn,fun f d m=>let ⟨v,l,j⟩:=i f d m; ⟨v,l,j.mono g.f⟩⟩
def EnvOk.go (I:EnvOk K M F H env σ) (g:Go F H F' H'):EnvOk K M F' H' env σ where
 len:=I.len
 slot:=fun i=>(I.slot i).go g
 dis:=I.dis
 f0:=I.f0.trans g.f
 fe:=I.fe
 fh:=g.fh
 bh:=I.bh.trans g.h
 new:=fun b o e=>(g.new b o e).elim (fun q=>I.new b o q) fun q=>by
  refine .inr ?_;cases z:M.He b with
  | none=>rfl
  | some u=>obtain ⟨o',q'⟩:=I.dom b u z;rw [q] at q';cases q'
 dom:=fun b o e=>let ⟨o',q⟩:=I.dom b o e;g.h.any q
def EnvOk.he (I:EnvOk K M F H env σ) {a:Addr} (h:H a=none):M.He a=none:=by
 cases z:M.He a with
 | none=>rfl
 | some u=>obtain ⟨o',q'⟩:=I.dom a u z;rw [h] at q';cases q'
def EnvOk.setv (I:EnvOk K M F H env σ) {i:Nat}{d:Qh}{v:V} (h:Is K F d v):EnvOk K M F H (env.set i (.val d)) (σ.set i (some v)) where
 len:=by rw [Yp,Yp];exact I.len
 slot:=fun j=>by
  rw [qdr,qoh,I.len];split
  ·exact ⟨v,rfl,h⟩
  ·exact I.slot j
 dis:=fun j k a hjk h1 h2 h3 h4=>by
  rw [qdr] at h1 h2;rw [qoh] at h3 h4;rw [I.len] at h1 h2;split at h1
  ·cases h1
  ·rename_i z1;split at h2
   ·cases h2
   ·rename_i z2;rw [if_neg z1] at h3;rw [if_neg z2] at h4;exact I.dis j k a hjk h1 h2 h3 h4
 f0:=I.f0
 fe:=I.fe
 fh:=I.fh
 bh:=I.bh
 new:=I.new
 dom:=I.dom
def EnvOk.seto (I:EnvOk K M F H env σ) {i:Nat}{ds:List Qh}{a:Addr}{vs:List V} (h1:H a=some (.lst vs)) (h2:F a=none) (h3:M.B a=none) (h4:M.He a=none)
 (h5 : ∀ j,(gS env j).mut=true->vS σ j≠some (.ref a)) (h6:Iss K F ds vs):EnvOk K M F H (env.set i (.own ds)) (σ.set i (some (.ref a))) where
  len:=by rw [Yp,Yp];exact I.len
  slot:=fun j=>by
   rw [qdr,qoh,I.len];split
   ·exact ⟨a,vs,rfl,h1,h2,h3,h4,h6⟩
   ·exact I.slot j
  dis:=fun j k b hjk m1 m2 e1 e2=>by
   rw [qdr] at m1 m2;rw [qoh] at e1 e2;rw [I.len] at m1 m2;by_cases z1:i=j/\i<σ.length
   ·rw [if_pos z1] at m1 e1;have z2 : ¬ (i=k/\i<σ.length):=fun z=>hjk (z1.1.symm.trans z.1);rw [if_neg z2] at m2 e2;injection e1 with e1;injection e1 with e1;subst e1;exact h5 k m2 e2
   ·rw [if_neg z1] at m1 e1;by_cases z2:i=k/\i<σ.length
    ·rw [if_pos z2] at m2 e2;injection e2 with e2;injection e2 with e2;subst e2;exact h5 j m1 e1
    ·rw [if_neg z2] at m2 e2;exact I.dis j k b hjk m1 m2 e1 e2
  f0:=I.f0
  fe:=I.fe
  fh:=I.fh
  bh:=I.bh
  new:=I.new
  dom:=I.dom
def Sl.upd:Sl->List Qh->Sl
 | .own _,ds => .own ds
 | .pen _,ds => .pen ds
 | s,_=>s
def Sl.cnt:Sl->List Qh
 | .own ds=>ds
 | .pen ds=>ds
 | _=>[]
def SlotOk.addr {s:Sl}{x:Option V} (h:SlotOk K M F H s x) (m:s.mut=true) : ∃ a vs,x=some (.ref a)/\H a=some (.lst vs)/\F a=none/\M.B a=none/\Iss K F s.cnt vs:=by
 cases s with
 | non=>cases m
 | val d=>cases m
 | own ds=>obtain ⟨a,vs,e,h1,h2,h3,h4,h5⟩:=h;exact ⟨a,vs,e,h1,h2,h3,h5⟩
 | pen ds=>obtain ⟨a,vs,e,h1,h2,h3,hx,h5⟩:=h;exact ⟨a,vs,e,h1,h2,h3,h5⟩
 | new d=>cases m
 | exc C=>cases m
 | obj a0 C nm fs=>cases m
def zamq {e:Sto}{i:Nat} (h:(gS e i).mut=true):i<e.length:=by
 by_cases z:i<e.length
 ·exact z
 ·rw [qzo (by omega)] at h;cases h
def EnvOk.chg (I:EnvOk K M F H env σ) {i:Nat}{a:Addr}{ds:List Qh}{vs:List V} (m:(gS env i).mut=true) (ea:vS σ i=some (.ref a)) (h:Iss K F ds vs):EnvOk K M F (upd H a (.lst vs)) (env.set i ((gS env i).upd ds)) σ:=by
 obtain ⟨a',vs0,e,h1,h2,h3,h5⟩:=(I.slot i).addr m;rw [ea] at e;injection e with e;injection e with e;subst e;have hi:=zamq m;have mu:((gS env i).upd ds).mut=true:=by
  cases q:gS env i with
  | non=>rw [q] at m;cases m
  | val d=>rw [q] at m;cases m
  | own d=>rfl
  | pen d=>rfl
  | new d=>rw [q] at m;cases m
  | exc C=>rw [q] at m;cases m
  | obj a0 C nm fs=>rw [q] at m;cases m
 have muj : ∀ j,(gS (env.set i ((gS env i).upd ds)) j).mut=(gS env j).mut:=fun j=>by
  rw [qdr];split
  ·rename_i z;rw [mu,<- z.1,m]
  ·rfl
 refine ⟨by rw [Yp];exact I.len,fun j=>?_,fun j k b hjk m1 m2 e1 e2=>I.dis j k b hjk (muj j ▸ m1) (muj k ▸ m2) e1 e2,I.f0,I.fe,fun b o e=>?_,fun b o e=>?_,I.new,fun b o e=>?_⟩
 ·rw [qdr];by_cases z:i=j
  ·subst z;rw [if_pos ⟨rfl,hi⟩];have S:=I.slot i;cases q:gS env i with
   | non=>rw [q] at m;cases m
   | val d=>rw [q] at m;cases m
   | own ds0 =>
    rw [q] at S;obtain ⟨a',vs',e,g1,g2,g3,g4,g5⟩:=S;rw [ea] at e;injection e with e;injection e with e;subst e;exact ⟨a,vs,ea,ql,g2,g3,g4,h⟩
   | pen ds0 =>
    rw [q] at S;obtain ⟨a',vs',e,g1,g2,g3,gx,g5⟩:=S;rw [ea] at e;injection e with e;injection e with e;subst e;exact ⟨a,vs,ea,ql,g2,g3,gx,h⟩
   | new d=>rw [q] at m;cases m
   | exc C=>rw [q] at m;cases m
   | obj a0 C nm fs=>rw [q] at m;cases m
  ·rw [if_neg (fun y=>z y.1)];have S:=I.slot j;cases q:gS env j with
   | non=>trivial
   | val d=>rw [q] at S;exact S
   | own ds0 =>
    rw [q] at S;obtain ⟨b,vs',e,g1,g2,g3,g4,g5⟩:=S;have hb:b≠a:=fun y=>by subst y;exact I.dis i j b z m (by rw [q];rfl) ea e
    exact ⟨b,vs',e,by rw [qk hb];exact g1,g2,g3,g4,g5⟩
   | pen ds0 =>
    rw [q] at S;obtain ⟨b,vs',e,g1,g2,g3,gx,g5⟩:=S;have hb:b≠a:=fun y=>by subst y;exact I.dis i j b z m (by rw [q];rfl) ea e
    exact ⟨b,vs',e,by rw [qk hb];exact g1,g2,g3,gx,g5⟩
   | new d=>rw [q] at S;exact S
   | exc C=>rw [q] at S;exact S
   | obj a0 C nm fs=>rw [q] at S;exact S
 ·rw [qk (qm e h2)];exact I.fh b o e
 ·rw [qk (qm e h3)];exact I.bh b o e
 ·obtain ⟨o',q⟩:=I.dom b o e;by_cases z:b=a
  ·subst z;exact ⟨_,ql⟩
  ·exact ⟨o',by rw [qk z];exact q⟩
def EnvOk.frz (I:EnvOk K M F H env σ) {a:Addr}{vs:List V} (h1:H a=some (.lst vs)) (h2:F a=none) (h4:M.He a=none) (h5 : ∀ j,(gS env j).mut=true->vS σ j≠some (.ref a)) :
 EnvOk K M (upd F a (.lst vs)) H env σ/\Same F (upd F a (.lst vs)):=by
  have sF:Same F (upd F a (.lst vs)):=qbx h2;refine ⟨⟨I.len,fun j=>?_,I.dis,I.f0.trans sF,I.fe,fun b o e=>?_,I.bh,fun b o e=>?_,I.dom⟩,sF⟩
  ·have S:=I.slot j;have n5:=h5 j;cases q:gS env j with
   | non=>trivial
   | val d=>rw [q] at S;obtain ⟨v,e,i⟩:=S;exact ⟨v,e,i.mono sF⟩
   | own ds0 =>
    rw [q] at S n5;obtain ⟨b,vs',e,g1,g2,g3,g4,g5⟩:=S;have hb:b≠a:=fun y=>by subst y;exact n5 rfl e
    exact ⟨b,vs',e,g1,by rw [qk hb];exact g2,g3,g4,g5.mono sF⟩
   | pen ds0 =>
    rw [q] at S n5;obtain ⟨b,vs',e,g1,g2,g3,gx,g5⟩:=S;have hb:b≠a:=fun y=>by subst y;exact n5 rfl e
    exact ⟨b,vs',e,g1,by rw [qk hb];exact g2,g3,gx,g5.mono sF⟩
   | new d=>rw [q] at S;obtain ⟨v,e,i⟩:=S;exact ⟨v,e,i.mono (qsi sF)⟩
   | exc C=>rw [q] at S;obtain ⟨ea,e,i⟩:=S;exact ⟨ea,e,sF.at i⟩
   | obj a0 C nm fs=>rw [q] at S;obtain ⟨dx,vs',e,b',hn,i⟩:=S;exact ⟨dx,vs',e,b',hn,fun f d m=>let ⟨v,l,j⟩:=i f d m; ⟨v,l,j.mono sF⟩⟩
  ·by_cases z:b=a
   ·subst z;rw [ql] at e;rw [h1];exact .of e
   ·rw [qk z] at e;exact I.fh b o e
  ·by_cases z:b=a
   ·subst z;exact .inr h4
   ·rw [qk z] at e;exact I.new b o e
def EnvOk.drop (I:EnvOk K M F H env σ) (i:Nat):EnvOk K M F H (env.set i .non) σ where
 len:=by rw [Yp];exact I.len
 slot:=fun j=>by
  rw [qdr];split
  ·trivial
  ·exact I.slot j
 dis:=fun j k a hjk h1 h2 h3 h4=>by
  rw [qdr] at h1 h2;split at h1
  ·cases h1
  ·split at h2
   ·cases h2
   ·exact I.dis j k a hjk h1 h2 h3 h4
 f0:=I.f0
 fe:=I.fe
 fh:=I.fh
 bh:=I.bh
 new:=I.new
 dom:=I.dom
def EnvOk.tell (I:EnvOk K M F H env σ) {i:Nat}{d:Qh}{v:V} (e:vS σ i=some v) (h:Is K F d v):EnvOk K M F H (env.set i (.val d)) σ where
 len:=by rw [Yp];exact I.len
 slot:=fun j=>by
  rw [qdr];split
  ·rename_i z;rw [<- z.1];exact ⟨v,e,h⟩
  ·exact I.slot j
 dis:=fun j k a hjk h1 h2 h3 h4=>by
  rw [qdr] at h1 h2;split at h1
  ·cases h1
  ·split at h2
   ·cases h2
   ·exact I.dis j k a hjk h1 h2 h3 h4
 f0:=I.f0
 fe:=I.fe
 fh:=I.fh
 bh:=I.bh
 new:=I.new
 dom:=I.dom
def Sl.fz:Sl->Sl
 | .own ds => .val (.list ds)
 | s=>s
def EnvOk.freeze (I:EnvOk K M F H env σ) (i:Nat) : ∃ F',EnvOk K M F' H (env.set i (gS env i).fz) σ/\Same F F':=by
 have same : ∀ s,gS env i=s->env.set i s=env:=fun s h=>by
  subst h;apply Jj;intro j;rw [Qab];split
  ·rename_i z;subst z;split
   ·rename_i hi;have : ∀ (e:Sto) (n:Nat) (h:n<e.length),some (gS e n)=e[n]?:=by
     intro e
     induction e with
     | nil=>intro n h;simp at h
     | cons x e ih=>intro n h;cases n with
      | zero=>rfl
      | succ n=>simp only [gS,Y8];exact ih n (by simpa using h)
    exact this env i hi
   ·rename_i hi;rw [Q8 (by omega)]
  ·rfl
 cases q:gS env i with
 | non=>exact ⟨F,by rw [show Sl.fz .non = .non from rfl,same _ q];exact I,.refl _⟩
 | val d=>exact ⟨F,by rw [show Sl.fz (.val d) = .val d from rfl,same _ q];exact I,.refl _⟩
 | pen ds=>exact ⟨F,by rw [show Sl.fz (.pen ds) = .pen ds from rfl,same _ q];exact I,.refl _⟩
 | new d=>exact ⟨F,by rw [show Sl.fz (.new d) = .new d from rfl,same _ q];exact I,.refl _⟩
 | exc C=>exact ⟨F,by rw [show Sl.fz (.exc C) = .exc C from rfl,same _ q];exact I,.refl _⟩
 | obj a0 C nm fs=>exact ⟨F,by rw [show Sl.fz (.obj a0 C nm fs) = .obj a0 C nm fs from rfl,same _ q];exact I,.refl _⟩
 | own ds =>
  have S:=I.slot i;rw [q] at S;obtain ⟨a,vs,e,h1,h2,h3,h4,h5⟩:=S;obtain ⟨J,s⟩:=(I.drop i).frz h1 h2 h4 (fun j m z=>by
   rw [qdr] at m;split at m
   ·cases m
   ·rename_i hn;by_cases hij:i=j
    ·subst hij;exact hn ⟨rfl,zamq (by rw [q];rfl)⟩
    ·exact I.dis i j a hij (by rw [q];rfl) m e z)
  have T:=J.tell (i:=i) (d :=.list ds) e (qdo (SqL.of ql) (h5.mono s));rw [List.set_set] at T;exact ⟨_,T,s⟩
end
end
section
abbrev WE:=Sto->(Qh->Sto->Prop)->Prop
abbrev WF:=Sto->(List Qh->Sto->Prop)->Prop
abbrev WT:=Sto->(Bool->Sto->Prop)->Prop
inductive Ret where
 | val (d:Qh)
 | own (ds:List Qh)
 | new (d:Qh)
def Ret.data:Ret->Qh
 | .val d=>d
 | .own ds => .list ds
 | .new d=>d
structure WEnds where
 nx:Sto->Prop
 rt:Ret->Sto->Prop
 bk:Sto->Prop:=fun _=>False
 ct:Sto->Prop:=fun _=>False
abbrev WS:=WEnds->Sto->Prop
abbrev WG:=Qh->Sto->(Sto->Prop)->Prop
abbrev WGs:=List Qh->Sto->(Sto->Prop)->Prop
abbrev D2:=Qh->Qh->(Qh->Prop)->Prop
abbrev DC:=List Qh->(Qh->Prop)->Prop
section
variable (K:Qd)
def qcm (W:WE):TE:=fun σ H R => ∃ M env F Q,EnvOk K M F H env σ/\W env Q /\ ∀ d v F' H' env',EnvOk K M F' H' env' σ->Same F F'->Is K F' d v->Q d env'->R v H'
def qsc (W:WF):TE:=fun σ H R => ∃ M env F Q,EnvOk K M F H env σ/\W env Q /\ ∀ a vs ds F' H' env',EnvOk K M F' H' env' σ->Same F F'->H' a=some (.lst vs)->F' a=none->M.B a=none->M.He a=none ->
 (∀ i,(gS env' i).mut=true->vS σ i≠some (.ref a))->Iss K F' ds vs->Q ds env'->R (.ref a) H'
def qkq (W:WF):TA:=fun σ H R => ∃ M env F Q,EnvOk K M F H env σ/\W env Q /\ ∀ ds vs F' H' env',EnvOk K M F' H' env' σ->Same F F'->Iss K F' ds vs->Q ds env'->R vs H'
def qsb (W:WT):TT:=fun σ H R => ∃ M env F Q,EnvOk K M F H env σ/\W env Q /\ ∀ b F' H' env',EnvOk K M F' H' env' σ->Same F F'->Q b env'->R b H'
def RetOk (M:Frm) (F H:Hp):Ret->V->Prop
 | .val d,v=>Is K F d v
 | .own ds,v => ∃ a vs,v = .ref a/\H a=some (.lst vs)/\F a=none/\M.B a=none/\M.He a=none/\Iss K F ds vs
 | .new d,v=>IsN K (qrr M F) d v
structure EndsOk (M:Frm) (F:Hp) (DD:WEnds) (D:Ends):Prop where
 nx : ∀ env' F' H' σ',EnvOk K M F' H' env' σ'->Same F F'->DD.nx env'->D.nx σ' H'
 rt : ∀ r v env' F' H' σ',EnvOk K M F' H' env' σ'->Same F F'->RetOk K M F' H' r v->DD.rt r env'->D.rt v H'
 bk : ∀ env' F' H' σ',EnvOk K M F' H' env' σ'->Same F F'->DD.bk env'->D.bk σ' H'
 ct : ∀ env' F' H' σ',EnvOk K M F' H' env' σ'->Same F F'->DD.ct env'->D.ct σ' H'
def zadq (W:WS):TS:=fun D σ H => ∃ M env F DD,EnvOk K M F H env σ/\W DD env/\EndsOk K M F DD D
def qko (W:WG):TG:=fun v σ H R => ∃ M env F d Q,EnvOk K M F H env σ/\Is K F d v/\W d env Q /\ ∀ F' H' env' σ',EnvOk K M F' H' env' σ'->Same F F'->Q env'->R σ' H'
def zanq (W:WGs):TGs:=fun vs σ H R => ∃ M env F ds Q,EnvOk K M F H env σ/\Iss K F ds vs/\W ds env Q /\ ∀ F' H' env' σ',EnvOk K M F' H' env' σ'->Same F F'->Q env'->R σ' H'
def qvb (r:D2):R2:=fun x y H Q => ∃ F dx dy q,Same F H/\Is K F dx x/\Is K F dy y/\r dx dy q /\ ∀ d v F' H',Go F H F' H'->Is K F' d v->q d->Q v H'
def zadu (r:DC):List V->Hp->VK->Prop:=fun vs H Q => ∃ F ds q,Same F H/\Iss K F ds vs/\r ds q /\ ∀ d v F' H',Go F H F' H'->Is K F' d v->q d->Q v H'
def qvd (r:List Qh->(List Qh->Prop)->Prop):List V->Hp->VK->Prop:=fun vs H Q => ∃ F ds q,Same F H/\Iss K F ds vs/\r ds q /\ ∀ l a xs F' H',Go F H F' H'->H a=none->F' a=none->H' a=some (.lst xs)->Iss K F' l xs->q l->Q (.ref a) H'
structure ItD (J:It) (F:Hp) (ds:List Qh):Prop where
 go : ∀ i H,Same F H->i<ds.length->J.go i H
 stop : ∀ H,Same F H->J.stop ds.length H
 yld : ∀ i H x H' F1,Same F F1->Same F1 H->i<ds.length->J.yld i H x H' -> ∃ d F2,ds[i]?=some d/\Go F1 H F2 H'/\Is K F2 d x
def qoc (W:WF):TI:=fun σ H R => ∃ M env F Q,EnvOk K M F H env σ/\W env Q /\ ∀ ds J F' H' env',EnvOk K M F' H' env' σ->Same F F'->ItD K J F' ds->Q ds env'->R J H'
end
section
variable {K:Qd}{M:Frm}{F F':Hp}{DD:WEnds}{D:Ends}
def EndsOk.mono (h:EndsOk K M F DD D) (s:Same F F'):EndsOk K M F' DD D :=
 ⟨fun e f g i j k=>h.nx e f g i j (s.trans k),fun r v e f g i j k=>h.rt r v e f g i j (s.trans k),fun e f g i j k=>h.bk e f g i j (s.trans k),fun e f g i j k=>h.ct e f g i j (s.trans k)⟩
end
def VE (X:Cx) (e:Expr) (W:WE):Prop:=PE X e (qcm X.K W)
def VF (X:Cx) (e:Expr) (W:WF):Prop:=PE X e (qsc X.K W)
def VA (X:Cx) (e:List Expr) (W:WF):Prop:=PA X e (qkq X.K W)
def VT (X:Cx) (e:Expr) (W:WT):Prop:=PT X e (qsb X.K W)
def VW (X:Cx) (e:Expr) (W:WT):Prop:=PW X e (qsb X.K W)
def VW.pt {X:Cx}{e:Expr}{W:WT} (h:VW X e W):VT X e W:=PW.pt h
def VS (X:Cx) (st:Stmt) (W:WS):Prop:=PS X st (zadq X.K W)
def VSs (X:Cx) (st:List Stmt) (W:WS):Prop:=PSs X st (zadq X.K W)
def VG (X:Cx) (e:Expr) (W:WG):Prop:=PG X e (qko X.K W)
def VGs (X:Cx) (e:List Expr) (W:WGs):Prop:=PGs X e (zanq X.K W)
def VI (X:Cx) (tg e:Expr) (W:WF):Prop:=PI X tg e (qoc X.K W)
def OpV (X:Cx) (f:Value->Value->Sem Value) (r:D2):Prop:=OpR X f (qvb X.K r)
def qku (X:Cx) (f:Value) (r:DC):Prop:=CallR X f (zadu X.K r)
def qro (X:Cx) (f:Value) (r:List Qh->(List Qh->Prop)->Prop):Prop:=CallR X f (qvd X.K r)
section
variable {X:Cx}
def PE.imp {e:Expr}{t t':TE} (h:PE X e t) (i : ∀ σ H Q,t' σ H Q->t σ H Q):PE X e t':=fun pins s σ H Q I q=>h pins s σ H Q I (i σ H Q q)
def PA.imp {e:List Expr}{t t':TA} (h:PA X e t) (i : ∀ σ H Q,t' σ H Q->t σ H Q):PA X e t':=fun pos pins s σ H Q I q=>h pos pins s σ H Q I (i σ H Q q)
def PT.imp {e:Expr}{t t':TT} (h:PT X e t) (i : ∀ σ H Q,t' σ H Q->t σ H Q):PT X e t':=fun pins s σ H Q I q=>h pins s σ H Q I (i σ H Q q)
def PW.imp {e:Expr}{t t':TT} (h:PW X e t) (i : ∀ σ H Q,t' σ H Q->t σ H Q):PW X e t':=fun wh pins s σ H Q I q=>h wh pins s σ H Q I (i σ H Q q)
def PS.imp {e:Stmt}{t t':TS} (h:PS X e t) (i : ∀ D σ H,t' D σ H->t D σ H):PS X e t':=fun pins s σ H D I q=>h pins s σ H D I (i D σ H q)
def PSs.imp {e:List Stmt}{t t':TS} (h:PSs X e t) (i : ∀ D σ H,t' D σ H->t D σ H):PSs X e t':=fun pins s σ H D I q=>h pins s σ H D I (i D σ H q)
def PG.imp {e:Expr}{t t':TG} (h:PG X e t) (i : ∀ v σ H Q,t' v σ H Q->t v σ H Q):PG X e t':=fun pins s σ H v u Q I r q=>h pins s σ H v u Q I r (i v σ H Q q)
def PGs.imp {e:List Expr}{t t':TGs} (h:PGs X e t) (i : ∀ v σ H Q,t' v σ H Q->t v σ H Q):PGs X e t':=fun pins s σ H v u Q I r q=>h pins s σ H v u Q I r (i v σ H Q q)
def PI.imp {tg e:Expr}{t t':TI} (h:PI X tg e t) (i : ∀ σ H Q,t' σ H Q->t σ H Q):PI X tg e t':=fun pins s σ H Q I q=>h pins s σ H Q I (i σ H Q q)
def OpR.imp {f:Value->Value->Sem Value}{r r':R2} (h:OpR X f r) (i : ∀ x y H Q,r' x y H Q->r x y H Q):OpR X f r':=fun pins s σ H x y v u Q I a b q=>h pins s σ H x y v u Q I a b (i x y H Q q)
def CallR.imp {f:Value}{r r':List V->Hp->VK->Prop} (h:CallR X f r) (i : ∀ x H Q,r' x H Q->r x H Q):CallR X f r':=fun pins s σ H x u Q I a q=>h pins s σ H x u Q I a (i x H Q q)
def IxR.imp {r r':R2} (h:IxR X r) (i : ∀ x y H Q,r' x y H Q->r x y H Q):IxR X r':=fun value slice pins s σ H x y v u Q I a b q=>h value slice pins s σ H x y v u Q I a b (i x y H Q q)
def wVar (i:Nat):WE:=fun env Q=>match gS env i with | .val d=>Q d env | .new d=>Q d env|_=>False
def qb (i:Nat) {x:Str}{pos:Pos} (hN:X.N[i]?=some x:=by rfl) (hv:Vis X.env.scope x:=by first|exact Yn rfl|exact Zz (Yn rfl)|exact Zz (Zz rfl)) (hd:Nd0 x:=by decide)
 (hcd:Nd1 x:=by decide):VE X (.Name x pos) (wVar i):=(qbu hN hv hd hcd).imp fun σ H R xx72=>by
 obtain ⟨M,env,F,Q,I,h,k⟩:=xx72;have S:=I.slot i;unfold wVar at h;cases q:gS env i with
 | val d =>
  rw [q] at S h;obtain ⟨v,e,j⟩:=S;exact ⟨v,qav e,k d v F H env I (.refl _) j h⟩
 | new d =>
  rw [q] at S h;obtain ⟨v,e,j⟩:=S;exact ⟨v,qav e,k d v F H env I (.refl _) (j.is qpb) h⟩
 | non=>rw [q] at h;exact h.elim
 | own ds=>rw [q] at h;exact h.elim
 | pen ds=>rw [q] at h;exact h.elim
 | exc C=>rw [q] at h;exact h.elim
 | obj a0 C nm fs=>rw [q] at h;exact h.elim
def wC (d:Qh):WE:=fun env Q=>Q d env
def ve_c {e:Expr}{v:V}{d:Qh} (h:PE X e (tC v)) (i : ∀ F,Is X.K F d v):VE X e (wC d):=h.imp fun σ H R xx73=>by obtain ⟨M,env,F,Q,I,h,k⟩:=xx73;exact k d v F H env I (.refl _) (i F) h
def qe {i j pos}:VE X (.Constant (.int i) j pos) (wC (.int i)):=ve_c qzd fun _=>qO i
def qoa {b j pos}:VE X (.Constant (.bool b) j pos) (wC (.bool b)):=ve_c zarm fun _=>qfn b
def qre {j pos}:VE X (.Constant .none j pos) (wC .none):=ve_c zang fun _=>qok
def qcv {x j pos}:VE X (.Constant (.str x) j pos) (wC (.str x)):=ve_c qzm fun _=>qzg x
def qgr {x:Str}{i:Int}{pos:Pos} (h : ∃ t,X.mg x=some (.int i t)) (hg:Gl X x:=by rfl) (hd:Nd0 x:=by decide):VE X (.Name x pos) (wC (.int i)):=by
 obtain ⟨t,hm⟩:=h;exact ve_c (qqb (v :=.int i) hg hm ⟨t,rfl⟩ hd) fun _=>qO i
def wOp (r:D2) (Wa Wb:WE):WE:=fun env Q=>Wa env fun x e1=>Wb e1 fun y e2=>r x y fun d=>Q d e2
def qpi {r:D2}{Wa Wb:WE}{σ:St}{H:Hp}{R:VK} (h:qcm X.K (wOp r Wa Wb) σ H R):tOp (qvb X.K r) (qcm X.K Wa) (qcm X.K Wb) σ H R:=by
 obtain ⟨M,env,F,Q,I,h,k⟩:=h;exact ⟨M,env,F,_,I,h,fun d v F1 H1 e1 I1 s1 i1 h1=>⟨M,e1,F1,_,I1,h1,fun d2 v2 F2 H2 e2 I2 s2 i2 h2 =>
  ⟨F2,d,d2,_,I2.fh,i1.mono s2,i2,h2,fun d3 v3 F3 H3 g i3 q=>k d3 v3 F3 H3 e2 (I2.go g) (s1.trans (s2.trans g.f)) i3 q⟩⟩⟩
section
variable {a b c:Expr}{Wa Wb Wc:WE}{pos:Pos}
def qt {op:Operator}{r:D2} (ho:OpV X (V2 op) r) (ha:VE X a Wa) (hb:VE X b Wb):VE X (.BinOp a op b pos) (wOp r Wa Wb) :=
 (zaie ho ha hb).imp fun _ _ _ h=>qpi h
def qkc {op:CmpOp}{r:D2} (ho:OpV X (Z6 op) r) (ha:VE X a Wa) (hb:VE X b Wb) (hm:Qae op b=false:=by first|exact qzk _|with_unfolding_all rfl):VE X (.Compare a [op] [b] pos) (wOp r Wa Wb) :=
 (zajg ho ha hb hm).imp fun _ _ _ h=>qpi h
def qya (W:WE):WT:=fun env Q=>W env fun d e=>match d with | .bool b=>Q b e|_=>False
def qjb {W:WE}{σ:St}{H:Hp}{R:Bool->Hp->Prop} (h:qsb X.K (qya W) σ H R):qcm X.K W σ H fun x H' => ∃ k,x = .bl k/\R k H':=by
 obtain ⟨M,env,F,Q,I,h,k⟩:=h;refine ⟨M,env,F,_,I,h,fun d v F1 H1 e1 I1 s1 i1 h1=>?_⟩;cases d with
 | bool b=>exact ⟨b,i1.bl_inv,k b F1 H1 e1 I1 s1 h1⟩
 | _=>exact Zd h1
def qE {op:CmpOp}{r:D2} (ho:OpV X (Z6 op) r) (ha:VE X a Wa) (hb:VE X b Wb) (hm:Qae op b=false:=by first|exact qzk _|with_unfolding_all rfl):VT X (.Compare a [op] [b] pos) (qya (wOp r Wa Wb)) :=
 (zabo ho ha hb hm).imp fun σ H R h=>qpi (qjb h)
def qdk {e:Expr}{W:WE} (h:VE X e W) (he : ∀ whole,Qia e X.env whole=(do let v <- whole;Qfn e.pos;Qck [v] (truthy v)):=by intro _;rfl):VT X e (qya W) :=
 (zanr h he).imp fun σ H R h=>qjb h
def truD:Qh->Bool
 | .none=>false
 | .bool b=>b
 | .int i=>i != 0
 | .str x=>(x.length:Int) != 0
 | .list l => !l.isEmpty
 | .tuple l => !l.isEmpty
 | .dict l => !l.isEmpty
def wTru (W:WE):WT:=fun env Q=>W env fun d e=>(∀ x,d = .str x->x.length<=Qz)/\Q (truD d) e
def Iss.emp {K:Qd}{H:Hp}{l:List Qh}{xs:List V} (h:Iss K H l xs):(!l.isEmpty) = !xs.isEmpty:=by
 cases l with
 | nil=>rw [h.nil_inv];rfl
 | cons d l=>obtain ⟨x,r,rfl,_⟩:=h.cons_inv;rfl
def zape {e:Expr}{W:WE} (h:VE X e W) (he : ∀ whole,Qia e X.env whole=(do let v <- whole;Qfn e.pos;Qck [v] (truthy v)):=by intro _;rfl):VT X e (wTru W) :=
 (zagz h he).imp fun σ H R xx74=>by
  obtain ⟨M,env,F,Q,I,h,k⟩:=xx74;refine ⟨M,env,F,_,I,h,fun d v F1 H1 e1 I1 s1 i1 h1=>⟨truD d,?_,k _ F1 H1 e1 I1 s1 h1.2⟩⟩;replace i1:=i1.mono I1.fh
  cases d with
  | none=>rw [i1.non_inv];rfl
  | bool b=>rw [i1.bl_inv];rfl
  | int i=>rw [i1.int_inv];rfl
  | str x=>unfold Is at i1;subst i1;exact ⟨h1.1 x rfl,rfl⟩
  | list l=>obtain ⟨a,xs,rfl,q,r⟩:=i1.lst_inv;exact .inl ⟨xs,q,r.emp⟩
  | tuple l=>obtain ⟨a,xs,rfl,q,r⟩:=i1.tup_inv;exact .inr (.inl ⟨xs,q,r.emp⟩)
  | dict l=>obtain ⟨a,kvs,rfl,q,m⟩:=i1.dct_inv;exact .inr (.inr ⟨kvs,q,m⟩)
def qzl (r r':D2) (Wa Wb Wc:WE):WE:=fun env Q=>Wa env fun x e1=>Wb e1 fun y e2=>r x y fun z=>match z with
 | .bool k=>if k=true then Wc e2 fun w e3=>r' y w fun d=>Q d e3 else Q (.bool false) e2
 | _=>False
def qpe {r r':D2}{σ:St}{H:Hp}{R:VK} (h:qcm X.K (qzl r r' Wa Wb Wc) σ H R):qze (qvb X.K r) (qvb X.K r') (qcm X.K Wa) (qcm X.K Wb) (qcm X.K Wc) σ H R:=by
 obtain ⟨M,env,F,Q,I,h,k⟩:=h;refine ⟨M,env,F,_,I,h,fun d v F1 H1 e1 I1 s1 i1 h1=>⟨M,e1,F1,_,I1,h1,fun d2 v2 F2 H2 e2 I2 s2 i2 h2=>⟨F2,d,d2,_,I2.fh,i1.mono s2,i2,h2,fun d3 v3 F3 H3 g i3 q=>?_⟩⟩⟩;have I3:=I2.go g;have s3:=s1.trans (s2.trans g.f);cases d3 with
 | bool b =>
  refine ⟨b,i3.bl_inv,?_⟩;cases b with
  | false=>exact qsg (k _ _ F3 H3 e2 I3 s3 (qfn false) q)
  | true=>exact qtx ⟨M,e2,F3,_,I3,q,fun d4 v4 F4 H4 e4 I4 s4 i4 h4=>⟨F4,d2,d4,_,I4.fh,(i2.mono g.f).mono s4,i4,h4,fun d5 v5 F5 H5 g5 i5 q5=>k d5 v5 F5 H5 e4 (I4.go g5) (s3.trans (s4.trans g5.f)) i5 q5⟩⟩
 | _=>exact Zd q
def zafp {op op':CmpOp}{r r':D2} (ho:OpV X (Z6 op) r) (ho':OpV X (Z6 op') r') (ha:VE X a Wa) (hb:VE X b Wb) (hc:VE X c Wc)
 (hm:Qjk [op,op'] [b,c]=false:=by with_unfolding_all rfl):VE X (.Compare a [op,op'] [b,c] pos) (qzl r r' Wa Wb Wc):=(zagi ho ho' ha hb hc hm).imp fun _ _ _ h=>qpe h
def qwi {op op':CmpOp}{r r':D2} (ho:OpV X (Z6 op) r) (ho':OpV X (Z6 op') r') (ha:VE X a Wa) (hb:VE X b Wb) (hc:VE X c Wc)
 (hm:Qjk [op,op'] [b,c]=false:=by with_unfolding_all rfl):VT X (.Compare a [op,op'] [b,c] pos) (qya (qzl r r' Wa Wb Wc)):=(zagc ho ho' ha hb hc hm).imp fun _ _ _ h=>qpe (qjb h)
end
section
variable {a b c:Expr}{Wa Wb Wc:WE}{Ta Tb Tc:WT}{pos:Pos}{rest:List Expr}
def wAnd (t u:WT):WT:=fun env Q=>t env fun k e=>if k=true then u e Q else Q false e
def wOr (t u:WT):WT:=fun env Q=>t env fun k e=>if k=true then Q true e else u e Q
def wNot (t:WT):WT:=fun env Q=>t env fun k e=>Q (!k) e
def zabl (ha:VT X a Ta):VW X (.BoolOp .And [a] pos) Ta:=zaip ha
def qfg (ha:VT X a Ta):VW X (.BoolOp .Or [a] pos) Ta:=zank ha
def zahi (ha:VT X a Ta) (hb:VW X (.BoolOp .And (b::rest) pos) Tb):VW X (.BoolOp .And (a::b::rest) pos) (wAnd Ta Tb):=(zamz ha hb).imp fun σ H R xx75=>by
 obtain ⟨M,env,F,Q,I,h,k⟩:=xx75;refine ⟨M,env,F,_,I,h,fun x F1 H1 e1 I1 s1 h1=>?_⟩;cases x with
 | true=>exact qtx ⟨M,e1,F1,Q,I1,h1,fun y F2 H2 e2 I2 s2 h2=>k y F2 H2 e2 I2 (s1.trans s2) h2⟩
 | false=>exact qsg (k false F1 H1 e1 I1 s1 h1)
def qhm (ha:VT X a Ta) (hb:VW X (.BoolOp .Or (b::rest) pos) Tb):VW X (.BoolOp .Or (a::b::rest) pos) (wOr Ta Tb):=(zaqm ha hb).imp fun σ H R xx76=>by
 obtain ⟨M,env,F,Q,I,h,k⟩:=xx76;refine ⟨M,env,F,_,I,h,fun x F1 H1 e1 I1 s1 h1=>?_⟩;cases x with
 | true=>exact qtx (k true F1 H1 e1 I1 s1 h1)
 | false=>exact qsg ⟨M,e1,F1,Q,I1,h1,fun y F2 H2 e2 I2 s2 h2=>k y F2 H2 e2 I2 (s1.trans s2) h2⟩
def qdj (ha:VT X a Ta):VT X (.UnaryOp .Not a pos) (wNot Ta):=(zaom ha).imp fun σ H R xx77=>by
 obtain ⟨M,env,F,Q,I,h,k⟩:=xx77;exact ⟨M,env,F,_,I,h,fun x F1 H1 e1 I1 s1 h1=>k (!x) F1 H1 e1 I1 s1 h1⟩
def zaqs (Wa Wb:WE):WE:=fun env Q=>Wa env fun d e=>match d with | .bool k=>if k=true then Wb e Q else Q (.bool false) e|_=>False
def wOrV (Wa Wb:WE):WE:=fun env Q=>Wa env fun d e=>match d with | .bool k=>if k=true then Q (.bool true) e else Wb e Q|_=>False
def zaqv (Wa:WE):WE:=fun env Q=>Wa env fun d e=>match d with | .bool k=>Q (.bool (!k)) e|_=>False
def qll {op} (h:VE X a Wa):VE X (.BoolOp op [a] pos) Wa:=zann h
def qrg (ha:VE X a Wa) (hb:VE X (.BoolOp .And (b::rest) pos) Wb):VE X (.BoolOp .And (a::b::rest) pos) (zaqs Wa Wb):=(zanm ha hb).imp fun σ H R xx78=>by
 obtain ⟨M,env,F,Q,I,h,k⟩:=xx78;refine ⟨M,env,F,_,I,h,fun d v F1 H1 e1 I1 s1 i1 h1=>?_⟩;cases d with
 | bool x =>
  refine ⟨x,i1.bl_inv,?_⟩;cases x with
  | true=>exact qtx ⟨M,e1,F1,Q,I1,h1,fun d2 v2 F2 H2 e2 I2 s2 i2 h2=>k d2 v2 F2 H2 e2 I2 (s1.trans s2) i2 h2⟩
  | false=>exact qsg (k _ _ F1 H1 e1 I1 s1 (qfn false) h1)
 | _=>exact Zd h1
def zalv (ha:VE X a Wa) (hb:VE X (.BoolOp .Or (b::rest) pos) Wb):VE X (.BoolOp .Or (a::b::rest) pos) (wOrV Wa Wb):=(zari ha hb).imp fun σ H R xx79=>by
 obtain ⟨M,env,F,Q,I,h,k⟩:=xx79;refine ⟨M,env,F,_,I,h,fun d v F1 H1 e1 I1 s1 i1 h1=>?_⟩;cases d with
 | bool x =>
  refine ⟨x,i1.bl_inv,?_⟩;cases x with
  | false=>exact qsg ⟨M,e1,F1,Q,I1,h1,fun d2 v2 F2 H2 e2 I2 s2 i2 h2=>k d2 v2 F2 H2 e2 I2 (s1.trans s2) i2 h2⟩
  | true=>exact qtx (k _ _ F1 H1 e1 I1 s1 (qfn true) h1)
 | _=>exact Zd h1
def zaic (ha:VE X a Wa):VE X (.UnaryOp .Not a pos) (zaqv Wa):=(zaoc ha).imp fun σ H R xx80=>by
 obtain ⟨M,env,F,Q,I,h,k⟩:=xx80;refine ⟨M,env,F,_,I,h,fun d v F1 H1 e1 I1 s1 i1 h1=>?_⟩;cases d with
 | bool x=>exact ⟨x,i1.bl_inv,k _ _ F1 H1 e1 I1 s1 (qfn _) h1⟩
 | _=>exact Zd h1
def wIfE (t:WT) (Wa Wb:WE):WE:=fun env Q=>t env fun k e=>if k=true then Wa e Q else Wb e Q
def qgs (hc:VT X c Tc) (ha:VE X a Wa) (hb:VE X b Wb):VE X (.IfExp c a b pos) (wIfE Tc Wa Wb):=(zael hc ha hb).imp fun σ H R xx81=>by
 obtain ⟨M,env,F,Q,I,h,k⟩:=xx81;refine ⟨M,env,F,_,I,h,fun x F1 H1 e1 I1 s1 h1=>?_⟩;cases x with
 | true=>exact qtx ⟨M,e1,F1,Q,I1,h1,fun d2 v2 F2 H2 e2 I2 s2 i2 h2=>k d2 v2 F2 H2 e2 I2 (s1.trans s2) i2 h2⟩
 | false=>exact qsg ⟨M,e1,F1,Q,I1,h1,fun d2 v2 F2 H2 e2 I2 s2 i2 h2=>k d2 v2 F2 H2 e2 I2 (s1.trans s2) i2 h2⟩
end
section
variable {a b:Expr}{Wa Wb:WE}{pos p2:Pos}
def wUn (r:Qh->(Qh->Prop)->Prop) (W:WE):WE:=fun env Q=>W env fun d e=>r d fun y=>Q y e
def dNeg:Qh->(Qh->Prop)->Prop
 | .int i,q=>q (.int (-i))
 | _,_=>False
def qlk (ha:VE X a Wa):VE X (.UnaryOp .USub a pos) (wUn dNeg Wa):=(zalw zahp ha).imp fun σ H R xx82=>by
 obtain ⟨M,env,F,Q,I,h,k⟩:=xx82;refine ⟨M,env,F,_,I,h,fun d v F1 H1 e1 I1 s1 i1 h1=>?_⟩;cases d with
 | int i=>exact ⟨i,i1.int_inv,k _ _ F1 H1 e1 I1 s1 (qO _) h1⟩
 | _=>exact Zd h1
def dIx:D2
 | .list l,.int i,q => ∃ d,atI l i=some d/\q d
 | .tuple l,.int i,q => ∃ d,atI l i=some d/\q d
 | _,_,_=>False
def ix_V:IxR X (qvb X.K dIx):=zapa.imp fun x y H Q xx83=>by
 obtain ⟨F,dx,dy,q,s,i1,i2,h,k⟩:=xx83;cases dx with
 | list l=>cases dy with
  | int i =>
   obtain ⟨d,e,hq⟩:=h;obtain ⟨a,xs,rfl,hs,hr⟩:=i1.lst_inv;obtain ⟨z,ez,hz⟩:=hr.atI e;exact .inl ⟨a,xs,i,z,rfl,i2.int_inv,s.seq hs,ez,k d z F H (.refl s) hz hq⟩
  | _=>exact Zd h
 | tuple l=>cases dy with
  | int i =>
   obtain ⟨d,e,hq⟩:=h;obtain ⟨a,xs,rfl,hs,hr⟩:=i1.tup_inv;obtain ⟨z,ez,hz⟩:=hr.atI e;exact .inr (.inl ⟨a,xs,i,z,rfl,i2.int_inv,qK s hs,ez,k d z F H (.refl s) hz hq⟩)
  | _=>exact Zd h
 | _=>exact Zd h
def qr (ha:VE X a Wa) (hb:VE X b Wb) (hs:quq b:=by exact (fun _ _=>rfl)):VE X (.Subscript a b pos) (wOp dIx Wa Wb):=(zadn ix_V ha hb hs).imp fun _ _ _ h=>qpi h
abbrev WO:=Sto->(Option Int->Sto->Prop)->Prop
def zaqa (K:Qd) (W:WO):TO:=fun σ H R => ∃ M env F Q,EnvOk K M F H env σ/\W env Q /\ ∀ o F' H' env',EnvOk K M F' H' env' σ->Same F F'->Q o env'->R o H'
def zalo:WO:=fun env Q=>Q none env
def zarh (W:WE):WO:=fun env Q=>W env fun d e=>match d with | .int i=>Q (some i) e|_=>False
def VO (X:Cx) (e:Option Expr) (W:WO):Prop:=PO X e (zaqa X.K W)
def PO.imp {e:Option Expr}{t t':TO} (h:PO X e t) (i : ∀ σ H Q,t' σ H Q->t σ H Q):PO X e t':=fun pins s σ H Q I q=>h pins s σ H Q I (i σ H Q q)
def qfk:VO X none zalo:=zajp.imp fun σ H R xx84=>by obtain ⟨M,env,F,Q,I,h,k⟩:=xx84;exact k none F H env I (.refl _) h
def qce (ha:VE X a Wa):VO X (some a) (zarh Wa):=(zaky ha).imp fun σ H R xx85=>by
 obtain ⟨M,env,F,Q,I,h,k⟩:=xx85;refine ⟨M,env,F,_,I,h,fun d v F1 H1 e1 I1 s1 i1 h1=>?_⟩;cases d with
 | int i=>exact ⟨i,i1.int_inv,k (some i) F1 H1 e1 I1 s1 h1⟩
 | _=>exact Zd h1
def qlg {α:Type} (ds:List α) (lo hi:Option Int):List α:=(ds.drop (HT.sIx ds.length 0 lo)).take (HT.sIx ds.length ds.length hi-HT.sIx ds.length 0 lo)
def zakx {K:Qd}{H:Hp}{l:List Qh}{xs:List V} (h:Iss K H l xs) (lo hi:Option Int):Iss K H (qlg l lo hi) (cutV xs lo hi):=by
 have e:cutV xs lo hi=(xs.drop (HT.sIx l.length 0 lo)).take (HT.sIx l.length l.length hi-HT.sIx l.length 0 lo):=by unfold cutV;rw [h.len]
 rw [e];exact qqi _ (qqv _ h)
def wSlL (Wa:WE) (Wl Wh:WO):WF:=fun env Q=>Wa env fun d e1=>Wl e1 fun lo e2=>Wh e2 fun hi e3=>match d with | .list l => ∀ r,r=qlg l lo hi->Q r e3|_=>False
def qby {lo hi:Option Expr}{Wl Wh:WO} (he:VE X a Wa) (hl:VO X lo Wl) (hu:VO X hi Wh):VF X (.Subscript a (.Slice lo hi none p2) pos) (wSlL Wa Wl Wh) :=
 (zagy zald he hl hu).imp fun σ H R xx86=>by
  obtain ⟨M,env,F,Q,I,h,k⟩:=xx86;refine ⟨M,env,F,_,I,h,fun d v F1 H1 e1 I1 s1 i1 h1=>⟨M,e1,F1,_,I1,h1,fun lo F2 H2 e2 I2 s2 h2=>⟨M,e2,F2,_,I2,h2,fun hi F3 H3 e3 I3 s3 h3=>?_⟩⟩⟩;cases d with
  | list l =>
   obtain ⟨a,xs,rfl,hs,hr⟩:=(i1.mono (s2.trans s3)).lst_inv;refine ⟨a,xs,rfl,I3.fh.seq hs,fun p hp=>?_⟩;have g:=Go.side (o:=HO.lst (cutV xs lo hi)) I3.fh hp;refine k p _ _ F3 _ e3 (I3.go g) (s1.trans (s2.trans s3)) ql (qF I3.fh hp) (qF I3.bh hp) (I3.he hp) (fun i m z=>?_) (zakx hr lo hi) (h3 _ rfl);obtain ⟨b,vs,e,q,_⟩:=(I3.slot i).addr m;rw [z] at e;injection e with e;injection e with e;subst e;rw [hp] at q;cases q
  | _=>exact Zd h3
end
def wL (W:WF):WE:=fun env Q=>W env fun ds e=>Q (.list ds) e
def qy {e:Expr}{W:WF} (h:VF X e W):VE X e (wL W):=h.imp fun σ H R xx87=>by
 obtain ⟨M,env,F,Q,I,h,k⟩:=xx87;refine ⟨M,env,F,_,I,h,fun a vs ds F1 H1 e1 I1 s1 h1 h2 h3 h4 h5 h6 h7=>?_⟩;obtain ⟨J,s⟩:=I1.frz h1 h2 h4 h5;exact k _ _ _ H1 e1 J (s1.trans s) (qdo (SqL.of ql) (h6.mono s)) h7
def qni {K:Qd}{M:Frm}{F H:Hp}{env:Sto}{σ:St} (I:EnvOk K M F H env σ) {p:Addr} (hp:H p=none) : ∀ i,(gS env i).mut=true->vS σ i≠some (.ref p):=fun i m z=>by
 obtain ⟨b,vs,e,q,_⟩:=(I.slot i).addr m;rw [z] at e;injection e with e;injection e with e;subst e;rw [hp] at q;cases q
def qjq {K:Qd}{M:Frm}{F H:Hp}{env:Sto}{σ:St}{R:VK}{Q:List Qh->Sto->Prop}{F0:Hp}{l:List Qh}{xs:List V} (I:EnvOk K M F H env σ) (s:Same F0 F) (hi:Iss K F l xs) (h:Q l env)
 (k : ∀ a vs ds F' H' env',EnvOk K M F' H' env' σ->Same F0 F'->H' a=some (.lst vs)->F' a=none->M.B a=none->M.He a=none->(∀ i,(gS env' i).mut=true->vS σ i≠some (.ref a))->Iss K F' ds vs->Q ds env'->R (.ref a) H') :
 ∀ p,H p=none->R (.ref p) (upd H p (.lst xs)):=fun p hp =>
  k p xs l F _ env (I.go (.side I.fh hp)) s ql (qF I.fh hp) (qF I.bh hp) (I.he hp) (qni I hp) hi h
section
variable {e:Expr}{es:List Expr}{W:WE}{Wr:WF}{pos:Pos}
def wNil:WF:=fun env Q=>Q [] env
def zaim (W:WE) (Wr:WF):WF:=fun env Q=>W env fun d e1=>Wr e1 fun ds e2=>Q (d::ds) e2
def qd:VA X [] wNil:=qaw.imp fun σ H R xx88=>by obtain ⟨M,env,F,Q,I,h,k⟩:=xx88;exact k [] [] F H env I (.refl _) qQ h
def qc (ha:VE X e W) (hr:VA X es Wr) (hs:Qp (e::es) X.env=(false,eval e X.env)::Qp es X.env:=by rfl):VA X (e::es) (zaim W Wr) :=
 (qH ha hr hs).imp fun σ H R xx89=>by obtain ⟨M,env,F,Q,I,h,k⟩:=xx89;exact ⟨M,env,F,_,I,h,fun d v F1 H1 e1 I1 s1 i1 h1=>⟨M,e1,F1,_,I1,h1,fun ds vs F2 H2 e2 I2 s2 i2 h2=>k (d::ds) (v::vs) F2 H2 e2 I2 (s1.trans s2) (qB (i1.mono s2) i2) h2⟩⟩
def wTup (Wr:WF):WE:=fun env Q=>Wr env fun ds e=>ds.length<=Qz/\Q (.tuple ds) e
def qkf {x1} (h:VA X es Wr):VE X (.Tuple es x1 pos) (wTup Wr):=(qvh h).imp fun σ H R xx90=>by
 obtain ⟨M,env,F,Q,I,h,k⟩:=xx90;refine ⟨M,env,F,_,I,h,fun ds vs F1 H1 e1 I1 s1 i1 h1=>⟨by rw [i1.len];exact h1.1,fun p hp=>?_⟩⟩;have g:=Go.put (o:=HO.tup vs) I1.fh hp;exact k _ _ _ _ e1 (I1.go g) (s1.trans g.f) (qjy (SqT.of ql) (i1.mono g.f)) h1.2
def wLst (Wr:WF):WF:=fun env Q=>Wr env fun ds e=>ds.length<=Qz/\Q ds e
def qZ (h:VA X es Wr):VF X (.List es pos) (wLst Wr):=(zaoy h).imp fun σ H R xx91=>by
 obtain ⟨M,env,F,Q,I,h,k⟩:=xx91;exact ⟨M,env,F,_,I,h,fun ds vs F1 H1 e1 I1 s1 i1 h1=>⟨by rw [i1.len];exact h1.1,qjq I1 s1 i1 h1.2 k⟩⟩
end
end
end
section
section
variable {X:Cx}
def dI2 (g:Int->Int->(Qh->Prop)->Prop):D2
 | .int i,.int j,q=>g i j q
 | _,_,_=>False
def zalx {g:Int->Int->(Qh->Prop)->Prop}{x y:Qh}{q:Qh->Prop} (h:dI2 g x y q) : ∃ i j,x = .int i/\y = .int j/\g i j q:=by
 cases x with
 | int i=>cases y with
  | int j=>exact ⟨i,j,rfl,rfl,h⟩
  | _=>exact Zd h
 | _=>exact Zd h
def zadv {f:Value->Value->Sem Value}{C:Int->Int->Prop}{g:Int->Int->Qh}{gv:Int->Int->V} (h:OpR X f (rI C gv)) (hg : ∀ i j F,Is X.K F (g i j) (gv i j)):OpV X f (dI2 fun i j q=>C i j/\q (g i j)):=h.imp fun x y H Q xx92=>by
 obtain ⟨F,dx,dy,q,s,i1,i2,h,k⟩:=xx92;obtain ⟨i,j,rfl,rfl,c,hq⟩:=zalx h;exact ⟨i,j,i1.int_inv,i2.int_inv,c,k _ _ F H (.refl s) (hg i j F) hq⟩
def qry {f:Value->Value->Sem Value}{g:Int->Int->Qh}{gv:Int->Int->V} (h:OpR X f (rI0 gv)) (hg : ∀ i j F,Is X.K F (g i j) (gv i j)):OpV X f (dI2 fun i j q=>q (g i j)):=h.imp fun x y H Q xx93=>by
 obtain ⟨F,dx,dy,q,s,i1,i2,h,k⟩:=xx93;obtain ⟨i,j,rfl,rfl,hq⟩:=zalx h;exact ⟨i,j,i1.int_inv,i2.int_inv,k _ _ F H (.refl s) (hg i j F) hq⟩
abbrev dSub:D2:=dI2 fun i j q=>q (.int (i-j))
abbrev zapx:D2:=dI2 fun i j q=>IntMulOk i j/\q (.int (i*j))
abbrev zapt:D2:=dI2 fun i j q=>zamg i j/\q (.int (i.fdiv j))
abbrev dDiv:D2:=dI2 fun i j q=>(0<j/\Qat j<=9000)/\q (.int (i/j))
abbrev dMod:D2:=dI2 fun i j q=>0<j/\q (.int (i%j))
abbrev dLt:D2:=dI2 fun i j q=>q (.bool (decide (i<j)))
abbrev dLe:D2:=dI2 fun i j q=>q (.bool (decide (i<=j)))
abbrev dGt:D2:=dI2 fun i j q=>q (.bool (decide (j<i)))
abbrev dGe:D2:=dI2 fun i j q=>q (.bool (decide (j<=i)))
def qks:OpV X (V2 .Sub) dSub:=qry zanh fun _ _ _=>qO _
def qae:OpV X (V2 .Mult) zapx:=zadv zakr fun _ _ _=>qO _
def zahe:OpV X (V2 .FloorDiv) zapt:=zadv qwu fun _ _ _=>qO _
def zajd:OpR X (V2 .FloorDiv) (rI (fun _ j=>0<j/\Qat j<=9000) fun i j => .int (i/j)):=qwu.imp fun x y H Q xx94=>by
 obtain ⟨i,j,e1,e2,c,q⟩:=xx94;exact ⟨i,j,e1,e2,⟨by have:=c.1;omega,c.2⟩,by show Q (V.int (i.fdiv j)) H;rw [Int.fdiv_eq_ediv_of_nonneg _ (Jq c.1)];exact q⟩
def qjd:OpV X (V2 .FloorDiv) dDiv:=zadv zajd fun _ _ _=>qO _
def qjh:OpV X (V2 .Mod) dMod:=zadv zapi fun _ _ _=>qO _
def qyk:OpV X (Z6 .Lt) dLt:=qry zarl fun _ _ _=>qfn _
def o_le:OpV X (Z6 .LtE) dLe:=qry zaqu fun _ _ _=>qfn _
def qxk:OpV X (Z6 .Gt) dGt:=qry zarx fun _ _ _=>qfn _
def o_ge:OpV X (Z6 .GtE) dGe:=qry zarz fun _ _ _=>qfn _
def dEq:D2:=fun d e q=>V7 d=true/\V7 e=true/\q (.bool (Vw d e))
def dNe:D2:=fun d e q=>V7 d=true/\V7 e=true/\q (.bool (!PyData.eqv d e))
def qmg (hu:X.A.units+64<cLine):OpV X (Z6 .Eq) dEq:=(zapc hu).imp fun x y H Q xx95=>by
 obtain ⟨F,dx,dy,q,s,i1,i2,h,k⟩:=xx95;exact ⟨dx,dy,i1.mono s,i2.mono s,h.1,h.2.1,k _ _ F H (.refl s) (qfn _) h.2.2⟩
def qpy (hu:X.A.units+64<cLine):OpV X (Z6 .NotEq) dNe:=(zaot hu).imp fun x y H Q xx96=>by
 obtain ⟨F,dx,dy,q,s,i1,i2,h,k⟩:=xx96;exact ⟨dx,dy,i1.mono s,i2.mono s,h.1,h.2.1,k _ _ F H (.refl s) (qfn _) h.2.2⟩
def que:Qh->Bool
 | .none=>true
 | _=>false
def dIsN:D2:=fun d e q=>e = .none/\q (.bool (que d))
def qwa {K:Qd}{F:Hp}{d:Qh}{x:V} (h:Is K F d x):decide (x = .non)=que d:=by
 cases d with
 | none=>rw [h.non_inv];rfl
 | bool b=>rw [h.bl_inv];rfl
 | int b=>rw [h.int_inv];rfl
 | str b=>unfold Is at h;rw [h];rfl
 | list l=>obtain ⟨a,xs,rfl,_⟩:=h.lst_inv;rfl
 | tuple l=>obtain ⟨a,xs,rfl,_⟩:=h.tup_inv;rfl
 | dict l=>obtain ⟨a,xs,rfl,_⟩:=h.dct_inv;rfl
def zamd:OpV X (Z6 .Is) dIsN:=zaod.imp fun x y H Q xx97=>by
 obtain ⟨F,dx,dy,q,s,i1,i2,h,k⟩:=xx97;obtain ⟨rfl,hq⟩:=h;exact ⟨i2.non_inv,by rw [qwa i1];exact k _ _ F H (.refl s) (qfn _) hq⟩
def dAdd:D2
 | .int i,.int j,q=>q (.int (i+j))
 | .list l,.list m,q=>l.length+m.length<=Qz/\q (.list (l++m))
 | .tuple l,.tuple m,q=>l≠[]/\l.length+m.length<=Qz/\q (.tuple (l++m))
 | .str x,.str y,q=>x.length+y.length<=Qz/\q (.str (x++y))
 | _,_,_=>False
def qcc:OpV X (V2 .Add) dAdd:=by
 rintro pins s σ H x y v u Q I rx ry ⟨F,dx,dy,q,sm,i1,i2,h,k⟩;cases dx with
 | int i=>cases dy with
  | int j=>exact zanj pins s σ H x y v u Q I rx ry ⟨i,j,i1.int_inv,i2.int_inv,k _ _ F H (.refl sm) (qO _) h⟩
  | _=>exact Zd h
 | list l=>cases dy with
  | list m =>
   obtain ⟨a,xs,rfl,hs,hr⟩:=i1.lst_inv;obtain ⟨b,ys,rfl,ht,hq⟩:=i2.lst_inv;refine zaae pins s σ H _ _ v u Q I rx ry ⟨a,b,xs,ys,rfl,rfl,sm.seq hs,sm.seq ht,by rw [hr.len,hq.len];exact h.1,fun p hp=>?_⟩;have g:=Go.put (o:=HO.lst (xs++ys)) sm hp;exact k _ _ _ _ g (qdo (SqL.of ql) ((qaa hr hq).mono g.f)) h.2
  | _=>exact Zd h
 | tuple l=>cases dy with
  | tuple m =>
   obtain ⟨a,xs,rfl,hs,hr⟩:=i1.tup_inv;obtain ⟨b,ys,rfl,ht,hq⟩:=i2.tup_inv;refine zakd pins s σ H _ _ v u Q I rx ry ⟨a,b,xs,ys,rfl,rfl,qK sm hs,qK sm ht,fun z=>h.1 (Qej.mp (by rw [<- hr.len,z];rfl)),by rw [hr.len,hq.len];exact h.2.1,fun z=>?_,fun _ p hp=>?_⟩
   ·have hm:m=[]:=Qej.mp (by rw [<- hq.len,z];rfl);subst hm;refine k _ _ F H (.refl sm) i1 ?_;have:=h.2.2;rw [Yy] at this;exact this
   ·have g:=Go.put (o:=HO.tup (xs++ys)) sm hp;exact k _ _ _ _ g (qjy (SqT.of ql) ((qaa hr hq).mono g.f)) h.2.2
  | _=>exact Zd h
 | str x0=>cases dy with
  | str y0 =>
   unfold Is at i1 i2;exact qyw pins s σ H x y v u Q I rx ry ⟨x0,y0,i1,i2,h.1,k _ _ F H (.refl sm) (qzg _) h.2⟩
  | _=>exact Zd h
 | _=>exact Zd h
def wCat (Wa Wb:WE):WF:=fun env Q=>Wa env fun x e1=>Wb e1 fun y e2=>match x,y with
 | .list l,.list m=>l.length+m.length<=Qz/\Q (l++m) e2
 | _,_=>False
def qff {a b:Expr}{Wa Wb:WE}{pos:Pos} (ha:VE X a Wa) (hb:VE X b Wb):VF X (.BinOp a .Add b pos) (wCat Wa Wb):=(zaie zaae ha hb).imp fun σ H R xx98=>by
 obtain ⟨M,env,F,Q,I,h,k⟩:=xx98;refine ⟨M,env,F,_,I,h,fun d v F1 H1 e1 I1 s1 i1 h1=>⟨M,e1,F1,_,I1,h1,fun d2 v2 F2 H2 e2 I2 s2 i2 h2=>?_⟩⟩;cases d with
 | list l=>cases d2 with
  | list m =>
   obtain ⟨a,xs,rfl,hs,hr⟩:=(i1.mono s2).lst_inv;obtain ⟨b,ys,rfl,ht,hq⟩:=i2.lst_inv;exact ⟨a,b,xs,ys,rfl,rfl,I2.fh.seq hs,I2.fh.seq ht,by rw [hr.len,hq.len];exact h2.1,qjq I2 (s1.trans s2) (qaa hr hq) h2.2 k⟩
  | _=>exact Zd h2
 | _=>exact Zd h2
def wRep (Wa:WF) (Wb:WE):WF:=fun env Q=>Wa env fun l e1=>Wb e1 fun y e2=>match y with
 | .int n=>(-(2^63)<=n/\n<2^63/\l.length*n.toNat<=Qz) /\ ∀ r,r=(Zb n.toNat l).flatten->Q r e2
 | _=>False
def zaad {K:Qd}{H:Hp}{l:List Qh}{xs:List V} (h:Iss K H l xs) : ∀ k:Nat,Iss K H (Zb k l).flatten (Zb k xs).flatten
 | 0=>by simpa using qQ
 | k+1=>by rw [Yq,Yq,Y3,Y3];exact qaa h (zaad h k)
def EnvOk.keep {K:Qd}{M:Frm}{F H:Hp}{env:Sto}{σ:St} (I:EnvOk K M F H env σ) {a:Addr}{o:HO} (h:H a=some o) (h5 : ∀ i,(gS env i).mut=true->vS σ i≠some (.ref a)) (h6:M.B a=none) (h7:F a=none) :
 EnvOk K ⟨upd M.B a o,M.He,M.F0⟩ F H env σ where
  len:=I.len
  slot:=fun i=>by
   have S:=I.slot i;have n:=h5 i;cases q:gS env i with
   | non=>trivial
   | val d=>rw [q] at S;exact S
   | own ds =>
    rw [q] at S n;obtain ⟨b,vs,e,g1,g2,g3,g4,g5⟩:=S;have hb:b≠a:=fun z=>by subst z;exact n rfl e
    exact ⟨b,vs,e,g1,g2,by show upd M.B a o b=none;rw [qk hb];exact g3,g4,g5⟩
   | pen ds =>
    rw [q] at S n;obtain ⟨b,vs,e,g1,g2,g3,gx,g5⟩:=S;have hb:b≠a:=fun z=>by subst z;exact n rfl e
    exact ⟨b,vs,e,g1,g2,by show upd M.B a o b=none;rw [qk hb];exact g3,gx,g5⟩
   | new d =>
    rw [q] at S;obtain ⟨v,e,j⟩:=S;refine ⟨v,e,j.mono fun b u eb=>?_⟩;obtain ⟨z1,z2,z3⟩:=qwf eb;have hb:b≠a:=fun z=>by subst z;rw [h7] at z3;cases z3
    exact .of (zaaq (M:=⟨upd M.B a o,M.He,M.F0⟩) z1 (by show upd M.B a o b=none;rw [qk hb];exact z2) z3)
   | exc C=>rw [q] at S;exact S
   | obj a0 C nm fs =>
    rw [q] at S;obtain ⟨dx,vs,e,g1,g2⟩:=S;exact ⟨dx,vs,e,by show upd M.B a o a0=_;rw [qk (qm g1 h6)];exact g1,g2⟩
  dis:=I.dis
  f0:=I.f0
  fe:=I.fe
  fh:=I.fh
  bh:=fun b u e=>by
   have e:upd M.B a o b=some u:=e;by_cases z:b=a
   ·subst z;rw [ql] at e;exact .of (by rw [<- e];exact h)
   ·rw [qk z] at e;exact I.bh b u e
  new:=I.new
  dom:=I.dom
def EnvOk.unkeep {K:Qd}{M:Frm}{F H:Hp}{env:Sto}{σ:St}{a:Addr}{o:HO} (I:EnvOk K ⟨upd M.B a o,M.He,M.F0⟩ F H env σ) (h6:M.B a=none) (ho : ∀ C dx vs,o ≠ .ins C dx vs:=by intro _ _ _ z;cases z) (hn:NoT o:=by trivial):EnvOk K M F H env σ/\H a=some o:=by
 have mb : ∀ b,upd M.B a o b=none->M.B b=none:=fun b e=>by
  by_cases z:b=a
  ·subst z;exact h6
  ·rw [qk z] at e;exact e
 refine ⟨⟨I.len,fun i=>?_,I.dis,I.f0,I.fe,I.fh,fun b u e=>?_,I.new,I.dom⟩,I.bh.at ql hn⟩
 ·have S:=I.slot i;cases q:gS env i with
  | non=>trivial
  | val d=>rw [q] at S;exact S
  | own ds=>rw [q] at S;obtain ⟨b,vs,e,g1,g2,g3,g4,g5⟩:=S;exact ⟨b,vs,e,g1,g2,mb b g3,g4,g5⟩
  | pen ds=>rw [q] at S;obtain ⟨b,vs,e,g1,g2,g3,gx,g5⟩:=S;exact ⟨b,vs,e,g1,g2,mb b g3,gx,g5⟩
  | new d =>
   rw [q] at S;obtain ⟨v,e,j⟩:=S;refine ⟨v,e,j.mono fun b u eb=>?_⟩;obtain ⟨z1,z2,z3⟩:=qwf eb;exact .of (zaaq (M:=M) z1 (mb b z2) z3)
  | exc C=>rw [q] at S;exact S
  | obj a0 C nm fs =>
   rw [q] at S;obtain ⟨dx,vs,e,g1,g2⟩:=S;have g1:upd M.B a o a0=some (.ins C dx vs):=g1;by_cases z:a0=a
   ·subst z;rw [ql] at g1;exact (ho C dx vs (Qx g1)).elim
   ·rw [qk z] at g1;exact ⟨dx,vs,e,g1,g2⟩
 ·exact I.bh b u (by show upd M.B a o b=some u;rw [qk (qm e h6)];exact e)
def zahl {a b:Expr}{Wa:WF}{Wb:WE}{pos:Pos} (ha:VF X a Wa) (hb:VE X b Wb):VF X (.BinOp a .Mult b pos) (wRep Wa Wb):=(zaie zaov ha hb).imp fun σ H R xx99=>by
 obtain ⟨M,env,F,Q,I,h,k⟩:=xx99;refine ⟨M,env,F,_,I,h,fun p vs l F1 H1 e1 I1 s1 g1 g2 g3 g4 g5 g6 h1=>⟨_,e1,F1,_,I1.keep g1 g5 g3 g2,h1,fun d2 v2 F2 H2 e2 I2 s2 i2 h2=>?_⟩⟩;obtain ⟨I3,hp⟩:=I2.unkeep g3;cases d2 with
 | int n =>
  obtain ⟨⟨n1,n2,n3⟩,hq⟩:=h2;exact ⟨p,n,vs,rfl,i2.int_inv,hp,n1,n2,by rw [g6.len];exact n3,qjq I3 (s1.trans s2) (zaad (g6.mono s2) n.toNat) (hq _ rfl) k⟩
 | _=>exact Zd h2
section
variable {x:Str}{p pos:Pos}{e:Expr}{es:List Expr}{Wr:WF}{id T:String}{r:DC}{rf:List Qh->(List Qh->Prop)->Prop}
def zadw (r:DC) (Wr:WF):WE:=fun env Q=>Wr env fun ds e=>r ds fun d=>Q d e
def qvk (r:List Qh->(List Qh->Prop)->Prop) (Wr:WF):WF:=fun env Q=>Wr env fun ds e=>r ds fun l=>Q l e
def qmt {σ:St}{H:Hp}{R:VK} (h:qcm X.K (zadw r Wr) σ H R):qkq X.K Wr σ H fun vs H1=>zadu X.K r vs H1 R:=by
 obtain ⟨M,env,F,Q,I,h,k⟩:=h;exact ⟨M,env,F,_,I,h,fun ds vs F1 H1 e1 I1 s1 i1 h1=>⟨F1,ds,_,I1.fh,i1,h1,fun d v F2 H2 g i2 q=>k d v F2 H2 e1 (I1.go g) (s1.trans g.f) i2 q⟩⟩
def qkp {σ:St}{H:Hp}{R:VK} (h:qsc X.K (qvk rf Wr) σ H R):qkq X.K Wr σ H fun vs H1=>qvd X.K rf vs H1 R:=by
 obtain ⟨M,env,F,Q,I,h,k⟩:=h;refine ⟨M,env,F,_,I,h,fun ds vs F1 H1 e1 I1 s1 i1 h1=>⟨F1,ds,_,I1.fh,i1,h1,fun l a xs F2 H2 g ha hf hh hi q=>?_⟩⟩;exact k a xs l F2 H2 e1 (I1.go g) (s1.trans g.f) hh hf (qF I1.bh ha) (I1.he ha) (qni I1 ha) hi q
def qv (hc:qku X (.builtin id) r) (hm:X.mg x=none) (hv:Zq x=some (.builtin id)) (ha:VA X (e::es) Wr) (hg:Gl X x:=by rfl) (hn:x ≠ "__name__":=by decide) (hdb:Nd0 x:=by decide)
 (he:Qp (e::es) X.env=(false,eval e X.env)::Qp es X.env:=by rfl) (hpl:(Vc pos (Qp es X.env)).any (·.1)=false:=by rfl):VE X (.Call (.Name x p) (e::es) [] pos) (zadw r Wr) :=
 (qgq hc hg hm hv ha hn hdb he hpl).imp fun _ _ _ h=>qmt h
def qba (hc:qku X (.type T) r) (hm:X.mg x=none) (hv:Zq x=some (.type T)) (ha:VA X (e::es) Wr) (hg:Gl X x:=by rfl) (hn:x ≠ "__name__":=by decide) (hdb:Nd0 x:=by decide)
 (he:Qp (e::es) X.env=(false,eval e X.env)::Qp es X.env:=by rfl) (hpl:(Vc pos (Qp es X.env)).any (·.1)=false:=by rfl):VE X (.Call (.Name x p) (e::es) [] pos) (zadw r Wr) :=
 (qjn hc hg hm hv ha hn hdb he hpl).imp fun _ _ _ h=>qmt h
def zafx (hc:qro X (.builtin id) rf) (hm:X.mg x=none) (hv:Zq x=some (.builtin id)) (ha:VA X (e::es) Wr) (hg:Gl X x:=by rfl) (hn:x ≠ "__name__":=by decide) (hdb:Nd0 x:=by decide)
 (he:Qp (e::es) X.env=(false,eval e X.env)::Qp es X.env:=by rfl) (hpl:(Vc pos (Qp es X.env)).any (·.1)=false:=by rfl):VF X (.Call (.Name x p) (e::es) [] pos) (qvk rf Wr) :=
 (qgq hc hg hm hv ha hn hdb he hpl).imp fun _ _ _ h=>qkp h
def qsl (hc:qro X (.type T) rf) (hm:X.mg x=none) (hv:Zq x=some (.type T)) (ha:VA X (e::es) Wr) (hg:Gl X x:=by rfl) (hn:x ≠ "__name__":=by decide) (hdb:Nd0 x:=by decide)
 (he:Qp (e::es) X.env=(false,eval e X.env)::Qp es X.env:=by rfl) (hpl:(Vc pos (Qp es X.env)).any (·.1)=false:=by rfl):VF X (.Call (.Name x p) (e::es) [] pos) (qvk rf Wr) :=
 (qjn hc hg hm hv ha hn hdb he hpl).imp fun _ _ _ h=>qkp h
def PSp (K:Qd) (sp:DC):Sp:=fun vs H Q _=>zadu K sp vs H Q
def FSp (K:Qd) (sp:List Qh->(List Qh->Prop)->Prop):Sp:=fun vs H Q _=>qvd K sp vs H Q
def qw {k:Nat}{ps:List Str}{sp:DC} (O:OkC X x k ps (PSp X.K sp)) (hr:Room k X.A) (ha:VA X (e::es) Wr) (hg:Gl X x:=by rfl) (hdb:Nd0 x:=by decide)
 (he:Qp (e::es) X.env=(false,eval e X.env)::Qp es X.env:=by rfl) (hpl:(Vc pos (Qp es X.env)).any (·.1)=false:=by rfl):VE X (.Call (.Name x p) (e::es) [] pos) (zadw sp Wr) :=
 (zaig O hr ha hg hdb he hpl).imp fun σ H R h=>by
  have e:qse (PSp X.K sp) [] E0 (qkq X.K Wr) σ H R=qkq X.K Wr σ H fun vs H1=>zadu X.K sp vs H1 R:=by unfold qse PSp;simp only [Yy]
  rw [e];exact qmt h
def qlw {k:Nat}{ps:List Str}{sp:List Qh->(List Qh->Prop)->Prop} (O:OkC X x k ps (FSp X.K sp)) (hr:Room k X.A) (ha:VA X (e::es) Wr) (hg:Gl X x:=by rfl) (hdb:Nd0 x:=by decide)
 (he:Qp (e::es) X.env=(false,eval e X.env)::Qp es X.env:=by rfl) (hpl:(Vc pos (Qp es X.env)).any (·.1)=false:=by rfl):VF X (.Call (.Name x p) (e::es) [] pos) (qvk sp Wr) :=
 (zaig O hr ha hg hdb he hpl).imp fun σ H R h=>by
  have e:qse (FSp X.K sp) [] E0 (qkq X.K Wr) σ H R=qkq X.K Wr σ H fun vs H1=>qvd X.K sp vs H1 R:=by unfold qse FSp;simp only [Yy]
  rw [e];exact qkp h
end
def dAbs:DC
 | [.int i],q=>q (.int (if i<0 then -i else i))
 | _,_=>False
def zarw:DC
 | [.int i],q=>q (.int i)
 | [.bool b],q=>q (.int (if b then 1 else 0))
 | _,_=>False
def dLen:DC
 | [.list l],q=>q (.int l.length)
 | [.tuple l],q=>q (.int l.length)
 | [.str x],q=>x.length<=Qz/\q (.int x.length)
 | _,_=>False
def qmk {K:Qd}{H:Hp}{d:Qh}{vs:List V} (h:Iss K H [d] vs) : ∃ v,vs=[v]/\Is K H d v:=by
 obtain ⟨x,r,rfl,p,q⟩:=h.cons_inv;rw [q.nil_inv];exact ⟨x,rfl,p⟩
def iss2 {K:Qd}{H:Hp}{d e:Qh}{vs:List V} (h:Iss K H [d,e] vs) : ∃ v u,vs=[v,u]/\Is K H d v/\Is K H e u:=by
 obtain ⟨x,r,rfl,p,q⟩:=h.cons_inv;obtain ⟨y,rfl,q'⟩:=qmk q;exact ⟨x,y,rfl,p,q'⟩
def zaij:qku X (.builtin "abs") dAbs:=zafj.imp fun xs H Q xx100=>by
 obtain ⟨F,ds,q,s,i,h,k⟩:=xx100
 match ds,h,i with
 | [.int n],h,i =>
  obtain ⟨v,rfl,j⟩:=qmk i;exact ⟨n,by rw [j.int_inv],k _ _ F H (.refl s) (qO _) h⟩
def zaqp:qku X (.type "int") zarw:=zabt.imp fun xs H Q xx101=>by
 obtain ⟨F,ds,q,s,i,h,k⟩:=xx101
 match ds,h,i with
 | [.int n],h,i =>
  obtain ⟨v,rfl,j⟩:=qmk i;exact .inl ⟨n,by rw [j.int_inv],k _ _ F H (.refl s) (qO _) h⟩
 | [.bool n],h,i =>
  obtain ⟨v,rfl,j⟩:=qmk i;exact .inr ⟨n,by rw [j.bl_inv],k _ _ F H (.refl s) (qO _) h⟩
def qbd:qku X (.builtin "len") dLen:=(qgt.or qtp).imp fun xs H Q xx102=>by
 obtain ⟨F,ds,q,s,i,h,k⟩:=xx102
 match ds,h,i with
 | [.list l],h,i =>
  obtain ⟨v,rfl,j⟩:=qmk i;obtain ⟨a,xs,rfl,hs,hr⟩:=j.lst_inv;exact .inl ⟨a,xs,rfl,.inl (s.seq hs),k _ _ F H (.refl s) (by rw [hr.len];exact qO _) h⟩
 | [.tuple l],h,i =>
  obtain ⟨v,rfl,j⟩:=qmk i;obtain ⟨a,xs,rfl,hs,hr⟩:=j.tup_inv;exact .inl ⟨a,xs,rfl,.inr (qK s hs),k _ _ F H (.refl s) (by rw [hr.len];exact qO _) h⟩
 | [.str z],h,i =>
  obtain ⟨v,rfl,j⟩:=qmk i;unfold Is at j;subst j;exact .inr ⟨z,rfl,h.1,k _ _ F H (.refl s) (qO _) h.2⟩
def zanw:List Qh->(List Qh->Prop)->Prop
 | [.list l],q=>q l
 | [.tuple l],q=>q l
 | _,_=>False
def zaho:qro X (.type "list") zanw:=qto.imp fun xs H Q xx103=>by
 obtain ⟨F,ds,q,s,i,h,k⟩:=xx103
 match ds,h,i with
 | [.list l],h,i =>
  obtain ⟨v,rfl,j⟩:=qmk i;obtain ⟨a,xs,rfl,hs,hr⟩:=j.lst_inv;exact ⟨a,xs,rfl,.inl (s.seq hs),fun p hp=>k l p xs F _ (.side s hp) hp (qF s hp) ql hr h⟩
 | [.tuple l],h,i =>
  obtain ⟨v,rfl,j⟩:=qmk i;obtain ⟨a,xs,rfl,hs,hr⟩:=j.tup_inv;exact ⟨a,xs,rfl,.inr (qK s hs),fun p hp=>k l p xs F _ (.side s hp) hp (qF s hp) ql hr h⟩
def zaoi:DC
 | [.list l],q=>q (.tuple l)
 | [.tuple l],q=>q (.tuple l)
 | _,_=>False
def qej:qku X (.type "tuple") zaoi:=qrd.imp fun xs H Q xx104=>by
 obtain ⟨F,ds,q,s,i,h,k⟩:=xx104
 match ds,h,i with
 | [.list l],h,i =>
  obtain ⟨v,rfl,j⟩:=qmk i;obtain ⟨a,xs,rfl,hs,hr⟩:=j.lst_inv;refine ⟨a,xs,rfl,.inl ⟨s.seq hs,fun p hp=>?_⟩⟩;have g:=Go.put (o:=HO.tup xs) s hp;exact k _ _ _ _ g (qjy (SqT.of ql) (hr.mono g.f)) h
 | [.tuple l],h,i =>
  obtain ⟨v,rfl,j⟩:=qmk i;obtain ⟨a,xs,rfl,hs,hr⟩:=j.tup_inv;exact ⟨a,xs,rfl,.inr ⟨qK s hs,k _ _ F H (.refl s) j h⟩⟩
end
end
section
section
variable {X:Cx}
section
variable {a b c e o:Expr}{W Wa Wb:WE}{Tc:WT}{pos pos':Pos}{st:Stmt}{sts rest:List Stmt}{Wt Wu:WS}{WfF:WF}
def zarf:WS:=fun D env=>D.nx env
def wSeq (t u:WS):WS:=fun D env=>t { D with nx:=u D } env
def wMid (t u:WS):WS:=fun D env => ∃ Md:Sto->Prop,t { D with nx:=Md } env /\ ∀ e,Md e->u D e
def zaph:WS:=fun _ _=>False
def qz:VSs X [] zarf:=zabp.imp fun D σ H xx105=>by obtain ⟨M,env,F,DD,I,h,k⟩:=xx105;exact k.nx env F H σ I (.refl _) h
def qg (h:VS X st Wt):VSs X [st] Wt:=qhw h
def qf (h1:VS X st Wt) (h2:VSs X rest Wu):VSs X (st::rest) (wSeq Wt Wu):=(qM h1 h2).imp fun D σ H xx106=>by
 obtain ⟨M,env,F,DD,I,h,k⟩:=xx106;exact ⟨M,env,F,{ DD with nx:=Wu DD },I,h,fun e' F' H' σ' I' s' h'=>⟨M,e',F',DD,I',h',k.mono s'⟩,k.rt,k.bk,k.ct⟩
def qcz (h1:VS X st Wt) (h2:VSs X rest Wu):VSs X (st::rest) (wMid Wt Wu):=(qM h1 h2).imp fun D σ H xx107=>by
 obtain ⟨M,env,F,DD,I,⟨Md,h,hm⟩,k⟩:=xx107;exact ⟨M,env,F,{ DD with nx:=Md },I,h,fun e' F' H' σ' I' s' h'=>⟨M,e',F',DD,I',hm e' h',k.mono s'⟩,k.rt,k.bk,k.ct⟩
def qca:VSs X sts zaph:=zadl.imp fun D σ H xx108=>by obtain ⟨M,env,F,DD,I,h,k⟩:=xx108;exact h.elim
def wFz (i:Nat) (t:WS):WS:=fun D env=>t D (env.set i (gS env i).fz)
def qhz (i:Nat) (h:VSs X sts Wt):VSs X sts (wFz i Wt):=h.imp fun D σ H xx109=>by
 obtain ⟨M,env,F,DD,I,h,k⟩:=xx109;obtain ⟨F',J,s⟩:=I.freeze i;exact ⟨M,_,F',DD,J,h,k.mono s⟩
def zamn (W:WE):WS:=fun D env=>W env fun _ e=>D.nx e
def qfl (he:VE X e W) (hs:Vm e none pos.line X.env=pure false:=by rfl):VS X (.Expr e pos) (zamn W):=(qhv he hs).imp fun D σ H xx110=>by
 obtain ⟨M,env,F,DD,I,h,k⟩:=xx110;exact ⟨M,env,F,_,I,h,fun d v F1 H1 e1 I1 s1 i1 h1=>k.nx e1 F1 H1 σ I1 s1 h1⟩
def wRet (W:WE):WS:=fun D env=>W env fun d e=>D.rt (.val d) e
def qx (he:VE X e W):VS X (.Return (some e) pos) (wRet W):=(qog he).imp fun D σ H xx111=>by
 obtain ⟨M,env,F,DD,I,h,k⟩:=xx111;exact ⟨M,env,F,_,I,h,fun d v F1 H1 e1 I1 s1 i1 h1=>k.rt (.val d) v e1 F1 H1 σ I1 s1 i1 h1⟩
def zara (W:WF):WS:=fun D env=>W env fun l e=>D.rt (.own l) e
def qgg (he:VF X e WfF):VS X (.Return (some e) pos) (zara WfF):=(qog he).imp fun D σ H xx112=>by
 obtain ⟨M,env,F,DD,I,h,k⟩:=xx112;exact ⟨M,env,F,_,I,h,fun p vs l F1 H1 e1 I1 s1 g1 g2 g3 g4 g5 g6 h1=>k.rt (.own l) _ e1 F1 H1 σ I1 s1 ⟨p,vs,rfl,g1,g2,g3,g4,g6⟩ h1⟩
def zami (i:Nat):WS:=fun D env=>match gS env i with | .own ds=>D.rt (.own ds) env|_=>False
def qtv (i:Nat) {x:Str}{px:Pos} (hN:X.N[i]?=some x:=by rfl) (hv:Vis X.env.scope x:=by first|exact Yn rfl|exact Zz (Yn rfl)|exact Zz (Zz rfl)) (hd:Nd0 x:=by decide)
 (hcd:Nd1 x:=by decide):VS X (.Return (some (.Name x px)) pos) (zami i):=(qog (qbu hN hv hd hcd)).imp fun D σ H xx113=>by
 obtain ⟨M,env,F,DD,I,h,k⟩:=xx113;have S:=I.slot i;unfold zami at h;cases q:gS env i with
 | own ds =>
  rw [q] at S h;obtain ⟨p,vs,e,g1,g2,g3,g4,g5⟩:=S;exact ⟨_,qav e,k.rt (.own ds) _ env F H σ I (.refl _) ⟨p,vs,rfl,g1,g2,g3,g4,g5⟩ h⟩
 | non=>rw [q] at h;exact h.elim
 | val d=>rw [q] at h;exact h.elim
 | pen ds=>rw [q] at h;exact h.elim
 | new d=>rw [q] at h;exact h.elim
 | exc C=>rw [q] at h;exact h.elim
 | obj a0 C nm fs=>rw [q] at h;exact h.elim
def wIf (Tc:WT) (t u:WS):WS:=fun D env=>Tc env fun k e=>if k=true then t D e else u D e
def qar {A B:List Stmt} (hc:VT X c Tc) (ha:VSs X A Wt) (hb:VSs X B Wu):VS X (.If c A B pos) (wIf Tc Wt Wu):=(zain hc ha hb).imp fun D σ H xx114=>by
 obtain ⟨M,env,F,DD,I,h,k⟩:=xx114;refine ⟨M,env,F,_,I,h,fun x F1 H1 e1 I1 s1 h1=>?_⟩;cases x with
 | true=>exact qtx ⟨M,e1,F1,DD,I1,h1,k.mono s1⟩
 | false=>exact qsg ⟨M,e1,F1,DD,I1,h1,k.mono s1⟩
def wSet (i:Nat) (W:WE):WS:=fun D env=>W env fun d e=>D.nx (e.set i (.val d))
def qA {i:Nat}{x:Str} (hN:X.N.Nodup) (he:VE X e W) (hi:X.N[i]?=some x:=by rfl) (hx:Loc X.env.scope x:=by first|exact Yn rfl|exact Zz rfl) (hs:Vm e (some (.Name x pos')) pos.line X.env=pure false:=by rfl)
 (hf:X.fn x=true\/X.env.scope.names.lookup x=some .local:=by first|exact .inl rfl|exact .inr rfl):VS X (.Assign [.Name x pos'] e pos) (wSet i W):=(qgo hN hi hx he hs hf).imp fun D σ H xx115=>by
 obtain ⟨M,env,F,DD,I,h,k⟩:=xx115;exact ⟨M,env,F,_,I,h,fun d v F1 H1 e1 I1 s1 i1 h1=>k.nx _ F1 H1 _ (I1.setv i1) s1 h1⟩
def zalz (i:Nat) (W:WF):WS:=fun D env=>W env fun l e=>D.nx (e.set i (.own l))
def qfj {i:Nat}{x:Str} (hN:X.N.Nodup) (he:VF X e WfF) (hi:X.N[i]?=some x:=by rfl) (hx:Loc X.env.scope x:=by first|exact Yn rfl|exact Zz rfl) (hs:Vm e (some (.Name x pos')) pos.line X.env=pure false:=by rfl)
 (hf:X.fn x=true\/X.env.scope.names.lookup x=some .local:=by first|exact .inl rfl|exact .inr rfl):VS X (.Assign [.Name x pos'] e pos) (zalz i WfF):=(qgo hN hi hx he hs hf).imp fun D σ H xx116=>by
 obtain ⟨M,env,F,DD,I,h,k⟩:=xx116;exact ⟨M,env,F,_,I,h,fun p vs l F1 H1 e1 I1 s1 g1 g2 g3 g4 g5 g6 h1=>k.nx _ F1 H1 _ (I1.seto g1 g2 g3 g4 g5 g6) s1 h1⟩
def zanu (i:Nat):WG:=fun d env Q=>Q (env.set i (.val d))
def qo {i:Nat}{x:Str} (hN:X.N.Nodup) (hi:X.N[i]?=some x:=by rfl) (hx:Loc X.env.scope x:=by first|exact Yn rfl|exact Zz rfl) (hf:X.fn x=true\/X.env.scope.names.lookup x=some .local:=by first|exact .inl rfl|exact .inr rfl):VG X (.Name x pos) (zanu i) :=
 (zakp hN hi hx hf).imp fun v σ H R xx117=>by obtain ⟨M,env,F,d,Q,I,j,h,k⟩:=xx117;exact k F H _ _ (I.setv j) (.refl _) h
def zasa:WGs:=fun ds env Q=>ds=[]/\Q env
def zanz (G:WG) (Gs:WGs):WGs:=fun ds env Q=>match ds with|[]=>False|d::r=>G d env fun e=>Gs r e Q
def qcy:VGs X [] zasa:=zajk.imp fun v σ H R xx118=>by
 obtain ⟨M,env,F,ds,Q,I,j,h,k⟩:=xx118;obtain ⟨rfl,h⟩:=h;exact ⟨j.nil_inv,k F H env σ I (.refl _) h⟩
def qJ {es:List Expr}{G:WG}{Gs:WGs} (h1:VG X e G) (h2:VGs X es Gs) (hs:(Jn (e::es) X.env).map (·.2)=Qcm e X.env::(Jn es X.env).map (·.2):=by rfl):VGs X (e::es) (zanz G Gs) :=
 (zaff h1 h2 hs).imp fun v σ H R xx119=>by
  obtain ⟨M,env,F,ds,Q,I,j,h,k⟩:=xx119;cases ds with
  | nil=>exact Zd h
  | cons d r =>
   obtain ⟨x,xs,rfl,j1,j2⟩:=j.cons_inv;exact ⟨x,xs,rfl,M,env,F,d,_,I,j1,h,fun F1 H1 e1 σ1 I1 s1 q1=>⟨M,e1,F1,r,Q,I1,j2.mono s1,q1,fun F2 H2 e2 σ2 I2 s2 q2=>k F2 H2 e2 σ2 I2 (s1.trans s2) q2⟩⟩
def zaqi (n:Nat) (Gs:WGs):WG:=fun d env Q=>match d with | .tuple l=>l.length=n/\Gs l env Q|_=>False
def qfc {es:List Expr}{kk n:Nat}{Gs:WGs} (hc:X.calm=true) (h:VGs X es Gs) (hn:(Jn es X.env).length=n:=by rfl) (hst:(Jn es X.env).findIdx? (·.1)=none:=by rfl):VG X (.Tuple es kk pos) (zaqi n Gs) :=
 (zanf hc h hn hst).imp fun v σ H R xx120=>by
  obtain ⟨M,env,F,d,Q,I,j,h,k⟩:=xx120;cases d with
  | tuple l =>
   obtain ⟨a,xs,rfl,hs,hr⟩:=j.tup_inv;exact ⟨a,xs,rfl,qK I.fh hs,by rw [hr.len];exact h.1,M,env,F,l,Q,I,hr,h.2,k⟩
  | _=>exact Zd h
def wAsg (W:WE) (G:WG):WS:=fun D env=>W env fun d e=>G d e D.nx
def zapg {tg:Expr}{G:WG} (he:VE X e W) (hg:VG X tg G) (hs:Qcv [tg] e pos.line X.env=pure false:=by rfl) (hw:Qcu [tg] e X.env=pure none:=by rfl)
 (h1:(Jn [tg] X.env).map (·.2)=[Qcm tg X.env]:=by rfl):VS X (.Assign [tg] e pos) (wAsg W G):=(qzj he hg hs hw h1).imp fun D σ H xx121=>by
 obtain ⟨M,env,F,DD,I,h,k⟩:=xx121;exact ⟨M,env,F,_,I,h,fun d v F1 H1 e1 I1 s1 i1 h1=>⟨M,e1,F1,d,_,I1,i1,h1,fun F2 H2 e2 σ2 I2 s2 q2=>k.nx e2 F2 H2 σ2 I2 (s1.trans s2) q2⟩⟩
def wApp (i:Nat) (W:WE):WS:=fun D env=>(gS env i).mut=true/\W env fun d e=>(gS e i).mut=true/\(gS e i).cnt.length<Qz/\D.nx (e.set i ((gS e i).upd ((gS e i).cnt++[d])))
def qcx (i:Nat) {x:Str}{px apos cpos:Pos} (he:VE X e W) (hN:X.N[i]?=some x:=by rfl) (hv:Vis X.env.scope x:=by first|exact Yn rfl|exact Zz (Yn rfl)|exact Zz (Zz rfl)) (hd:Nd0 x:=by decide)
 (hcd:Nd1 x:=by decide)
 (hbase:Vu (.Name x px) "append" X.env (eval (.Name x px) X.env)=eval (.Name x px) X.env:=by rfl)
 (hfew:((Vc cpos (Qp [e] X.env)).all (fun x => !x.1)&&(Qct cpos (Jx [] X.env)).all (fun x=>x.1.isSome)
  && decide ([e].length+([]:List Qbo).length+(if ([]:List Qbo).isEmpty then 0 else 1)<30))=true:=by rfl)
 (hline:(apos.endLine==cpos.line)=true:=by rfl) (hst:Qp [e] X.env=(false,eval e X.env)::Qp [] X.env:=by rfl) (hplain:(Vc cpos (Qp [] X.env)).any (·.1)=false:=by rfl)
 (hs:Vm (.Call (.Attribute (.Name x px) "append" apos) [e] [] cpos) none pos.line X.env=pure false:=by rfl):VS X (.Expr (.Call (.Attribute (.Name x px) "append" apos) [e] [] cpos) pos) (wApp i W) :=
 (qhv (zadc (qbu hN hv hd hcd) he hbase hfew hline hst hplain) hs).imp fun D σ H xx122=>by
  obtain ⟨M,env,F,DD,I,⟨hm,h⟩,k⟩:=xx122;obtain ⟨p,vs,ep,g1,g2,g3,g4⟩:=(I.slot i).addr hm;refine ⟨_,qav ep,.inl ⟨rfl,_,SqL.of g1⟩,M,env,F,_,I,h,fun d v F1 H1 e1 I1 s1 i1 h1=>?_⟩;obtain ⟨m1,z1,q1⟩:=h1;obtain ⟨p',vs1,ep',f1,f2,f3,f4⟩:=(I1.slot i).addr m1;rw [ep] at ep';injection ep' with ep';injection ep' with ep';subst ep';exact ⟨p,vs1,v,rfl,rfl,f1,by rw [f4.len];exact z1,k.nx _ F1 _ σ (I1.chg m1 ep (qaa f4 (qB i1 qQ))) s1 q1⟩
def wPut (i:Nat) (W Wj:WE):WS:=fun D env=>W env fun d e1=>(gS e1 i).mut=true/\Wj e1 fun y e2=>match y with
 | .int n=>(gS e2 i).mut=true /\ ∃ j,ixN (gS e2 i).cnt.length n=some j/\D.nx (e2.set i ((gS e2 i).upd ((gS e2 i).cnt.set j d)))
 | _=>False
def zaah {K:Qd}{H:Hp}{d:Qh}{v:V} (h:Is K H d v) : ∀ {l:List Qh}{xs:List V} (j:Nat),Iss K H l xs->Iss K H (l.set j d) (xs.set j v)
 | [],_,j,r=>by rw [r.nil_inv];simpa using qQ
 | x::l,_,0,r=>by obtain ⟨y,ys,rfl,p,q⟩:=r.cons_inv;exact qB h q
 | x::l,_,j+1,r=>by obtain ⟨y,ys,rfl,p,q⟩:=r.cons_inv;exact qB p (zaah h j q)
def qhy (i:Nat) {x:Str}{px:Pos} (he:VE X e W) (hj:VE X b Wb) (hN:X.N[i]?=some x:=by rfl) (hv:Vis X.env.scope x:=by first|exact Yn rfl|exact Zz (Yn rfl)|exact Zz (Zz rfl)) (hd:Nd0 x:=by decide)
 (hcd:Nd1 x:=by decide)
 (ha : ∀ v,Qcm (.Subscript (.Name x px) b pos') X.env v=(do
  let ov <- Qck [v] (eval (.Name x px) X.env)
  let iv <- Qck [v,ov] (eval b X.env)
  Qfn pos'
  Qck [v,ov,iv] (setItem ov iv v)
  release [v,ov,iv] []):=by intro _;rfl)
 (hs:Qcv [.Subscript (.Name x px) b pos'] e pos.line X.env=pure false:=by rfl) (hw:Qcu [.Subscript (.Name x px) b pos'] e X.env=pure none:=by rfl)
 (h1:(Jn [.Subscript (.Name x px) b pos'] X.env).map (·.2)=[Qcm (.Subscript (.Name x px) b pos') X.env]:=by rfl):VS X (.Assign [.Subscript (.Name x px) b pos'] e pos) (wPut i W Wb) :=
 (qzj he (zahv (qbu hN hv hd hcd) hj qwt ha) hs hw h1).imp fun D σ H xx123=>by
  obtain ⟨M,env,F,DD,I,h,k⟩:=xx123;refine ⟨M,env,F,_,I,h,fun d v F1 H1 e1 I1 s1 i1 h1=>?_⟩;obtain ⟨m1,h1⟩:=h1;obtain ⟨p,vs,ep,g1,g2,g3,g4⟩:=(I1.slot i).addr m1;refine ⟨_,qav ep,M,e1,F1,_,I1,h1,fun d2 v2 F2 H2 e2 I2 s2 i2 h2=>?_⟩;cases d2 with
  | int n =>
   obtain ⟨m2,j,hj,q⟩:=h2;obtain ⟨p',vs1,ep',f1,f2,f3,f4⟩:=(I2.slot i).addr m2;rw [ep] at ep';injection ep' with ep';injection ep' with ep';subst ep';exact ⟨p,vs1,n,j,rfl,i2.int_inv,f1,by rw [f4.len];exact hj,k.nx _ F2 _ σ (I2.chg m2 ep (zaah (i1.mono s2) j f4)) (s1.trans s2) q⟩
  | _=>exact Zd h2
def wIxO (i:Nat) (Wj:WE):WE:=fun env Q=>(gS env i).mut=true/\Wj env fun y e=>match y with
 | .int n=>(gS e i).mut=true /\ ∃ d,atI (gS e i).cnt n=some d/\Q d e
 | _=>False
def qcd (i:Nat) {x:Str}{px:Pos} (hj:VE X b Wb) (hN:X.N[i]?=some x:=by rfl) (hv:Vis X.env.scope x:=by first|exact Yn rfl|exact Zz (Yn rfl)|exact Zz (Zz rfl)) (hd:Nd0 x:=by decide)
 (hcd:Nd1 x:=by decide) (hs:quq b:=by exact (fun _ _=>rfl)):VE X (.Subscript (.Name x px) b pos) (wIxO i Wb) :=
 (zadn qpz (qbu hN hv hd hcd) hj hs).imp fun σ H R xx124=>by
  obtain ⟨M,env,F,Q,I,⟨m,h⟩,k⟩:=xx124;obtain ⟨p,vs,ep,g1,g2,g3,g4⟩:=(I.slot i).addr m;refine ⟨_,qav ep,M,env,F,_,I,h,fun d2 v2 F2 H2 e2 I2 s2 i2 h2=>?_⟩;cases d2 with
  | int n =>
   obtain ⟨m2,d,hd,q⟩:=h2;obtain ⟨p',vs1,ep',f1,f2,f3,f4⟩:=(I2.slot i).addr m2;rw [ep] at ep';injection ep' with ep';injection ep' with ep';subst ep';obtain ⟨z,ez,hz⟩:=f4.atI hd;exact ⟨p,vs1,n,z,rfl,i2.int_inv,SqL.of f1,ez,k d z F2 H2 e2 I2 s2 hz q⟩
  | _=>exact Zd h2
def zapw (i:Nat):WE:=fun env Q=>(gS env i).mut=true/\Q (.int (gS env i).cnt.length) env
def zaka (i:Nat) {x:Str}{px p:Pos} (hm:X.mg "len" = none) (hN:X.N[i]?=some x:=by rfl) (hv:Vis X.env.scope x:=by first|exact Yn rfl|exact Zz (Yn rfl)|exact Zz (Zz rfl)) (hd:Nd0 x:=by decide)
 (hcd:Nd1 x:=by decide) (hg:Gl X "len":=by rfl) (hs:Qp [.Name x px] X.env=(false,eval (.Name x px) X.env)::Qp [] X.env:=by rfl) (hpl:(Vc pos (Qp [] X.env)).any (·.1)=false:=by rfl) :
 VE X (.Call (.Name "len" p) [.Name x px] [] pos) (zapw i) :=
 (qgq qgt hg hm boot_len (qH (qbu hN hv hd hcd) qaw hs) (by decide) (by decide) hs hpl).imp fun σ H R xx125=>by
  obtain ⟨M,env,F,Q,I,⟨m,h⟩,k⟩:=xx125;obtain ⟨a,vs,ep,g1,g2,g3,g4⟩:=(I.slot i).addr m;exact ⟨_,qav ep,a,vs,rfl,.inl (SqL.of g1),k _ _ F H env I (.refl _) (by rw [g4.len];exact qO _) h⟩
def zaoo (Tc:WT) (t:WS):WS:=fun D env => ∃ P:Nat->Sto->Prop,(∃ m,P m env) /\ ∀ m e,P m e->Tc e fun k e1=>if k=true then t { D with nx:=fun e2 => ∃ m',m'<m/\P m' e2,ct:=fun e2 => ∃ m',m'<m/\P m' e2,bk:=D.nx } e1 else D.nx e1
def qwb {body:List Stmt} (hc:VT X c Tc) (hb:VSs X body Wt) (hp:Qhb (model X.prog X.w) X.A X.env X.xe:=by exact Qfg):VS X (.While c body [] pos) (zaoo Tc Wt) :=
 (qxb hp hc hb).imp fun D σ H xx129=>by
  obtain ⟨M,env,F,DD,I,⟨P,⟨m0,p0⟩,turn⟩,k⟩:=xx129;refine ⟨fun m σ' H' => ∃ e' F',EnvOk X.K M F' H' e' σ'/\Same F F'/\P m e',⟨m0,env,F,I,.refl _,p0⟩,fun m σ1 H1 xx128=>?_⟩;obtain ⟨e1,F1,I1,s1,p1⟩:=xx128;refine ⟨M,e1,F1,_,I1,turn m e1 p1,fun x F2 H2 e2 I2 s2 h2=>?_⟩;cases x with
  | true =>
   refine qtx ⟨fun σ' H' => ∃ m',m'<m /\ ∃ e' F',EnvOk X.K M F' H' e' σ'/\Same F F'/\P m' e',fun σ' H' z=>z,M,e2,F2,_,I2,h2,?_⟩;have s02:=s1.trans s2;exact ⟨fun e3 F3 H3 σ3 I3 s3 xx127=>by obtain ⟨m',l,p3⟩:=xx127;exact ⟨m',l,e3,F3,I3,s02.trans s3,p3⟩,fun r v e3 F3 H3 σ3 I3 s3=>k.rt r v e3 F3 H3 σ3 I3 (s02.trans s3),
    fun e3 F3 H3 σ3 I3 s3=>k.nx e3 F3 H3 σ3 I3 (s02.trans s3),fun e3 F3 H3 σ3 I3 s3 xx126=>by obtain ⟨m',l,p3⟩:=xx126;exact ⟨m',l,e3,F3,I3,s02.trans s3,p3⟩⟩
  | false=>exact qsg (k.nx e2 F2 H2 σ1 I2 (s1.trans s2) h2)
def wFor (Wi:WF) (G:WG) (t:WS):WS:=fun D env=>Wi env fun ds e0 => ∃ P:Nat->Sto->Prop,P 0 e0 /\
 (∀ i d e,ds[i]?=some d->P i e->G d e fun e1=>t { D with nx:=P (i+1),ct:=P (i+1),bk:=D.nx } e1) /\ ∀ e,P ds.length e->D.nx e
def qbh {tg iter:Expr}{body:List Stmt}{Wi:WF}{G:WG} (hc:X.calm=true) (hi:VI X tg iter Wi) (hg:VG X tg G) (hb:VSs X body Wt)
 (hs : ∀ x,Zu iter X.env x=pure x:=by intro _;rfl) (hp:Qhb (model X.prog X.w) X.A X.env X.xe:=by exact Qfg):VS X (.For tg iter body [] pos) (wFor Wi G Wt) :=
  (zahj hp hc hi hg hb hs).imp fun D σ H xx132=>by
   obtain ⟨M,env,F,DD,I,h,k⟩:=xx132;refine ⟨M,env,F,_,I,h,fun ds J F1 H1 e1 I1 s1 jt xx131=>?_⟩;obtain ⟨P,p0,turn,fin⟩:=xx131;refine ⟨fun i m σ' H'=>m=ds.length-i/\i<=ds.length /\ ∃ e' F',EnvOk X.K M F' H' e' σ'/\Same F1 F'/\P i e',⟨ds.length,by simp,Y7 _,e1,F1,I1,.refl _,p0⟩,fun i m σ2 H2 xx130=>?_⟩;obtain ⟨hm,hi,e2,F2,I2,s2,p2⟩:=xx130;by_cases hl:i=ds.length
   ·subst hl;exact .inl ⟨jt.stop H2 (s2.trans I2.fh),k.nx e2 F2 H2 σ2 I2 (s1.trans s2) (fin e2 p2)⟩
   ·have hlt:i<ds.length:=by omega
    refine .inr ⟨jt.go i H2 (s2.trans I2.fh) hlt,fun σ' H' => ∃ e' F',EnvOk X.K M F' H' e' σ'/\Same F1 F'/\P (i+1) e',fun σ' H' z=>⟨ds.length-(i+1),by omega,rfl,hlt,z⟩,fun x H3 hy=>?_⟩;obtain ⟨d,F3,hd,g,j⟩:=jt.yld i H2 x H3 F2 s2 I2.fh hlt hy;refine ⟨M,e2,F3,d,_,I2.go g,j,turn i d e2 hd p2,fun F4 H4 e4 σ4 I4 s4 h4=>⟨M,e4,F4,_,I4,h4,?_⟩⟩;have s14:=s2.trans (g.f.trans s4);exact ⟨fun e5 F5 H5 σ5 I5 s5 p5=>⟨e5,F5,I5,s14.trans s5,p5⟩,fun r v e5 F5 H5 σ5 I5 s5=>k.rt r v e5 F5 H5 σ5 I5 ((s1.trans s14).trans s5),
     fun e5 F5 H5 σ5 I5 s5=>k.nx e5 F5 H5 σ5 I5 ((s1.trans s14).trans s5),fun e5 F5 H5 σ5 I5 s5 p5=>⟨e5,F5,I5,s14.trans s5,p5⟩⟩
end
end
end
section
section
variable {X:Cx}
def qkr : ∀ {bs:List Bool}{us:List Value},Vals (bs.map V.bl) us->LSm.BoolsAre us bs
 | [],_,h=>by cases h;exact .nil
 | b::bs,_,h=>by
  cases h with
  | cons r t=>cases r;exact .cons b (qkr t)
def rAll (K:Qd):List V->Hp->VK->Prop:=fun xs H Q => ∃ (a:Addr) (bs:List Bool),xs=[.ref a]/\SqL K H a (bs.map V.bl)/\Q (.bl (bs.all id)) H
def zafi (hc:X.calm=true):CallR X (.builtin "all") (rAll X.K):=by
 intro pins s σ H xs us Q I r h;obtain ⟨a,bs,rfl,ha,q⟩:=h;obtain ⟨u,rfl,rx⟩:=qic r;cases rx;obtain ⟨its,rv,pl,_⟩:=I.list ha;have hl:=pl.isList;have hb:=qkr rv;have hlt:a<s.heap.objs.size:=pl.lt;refine call_all_walk (Qaf hl ?_);refine ⟨s.heap.objs.size,[s.heap.objs.size,a],[s.heap.objs.size],its.toArray.size,_,_,fun i=>(bs[i]?).getD true,rfl,Qju (A:=X.A.in1) (I.ok.hd hc) _ a (Q5 hlt) its.toArray,
  ⟨⟨_,Q2 _ rfl,rfl,rfl⟩,hl.push _⟩,fun i v s' Q' E' hP hQ=>?_,fun h' tk hk=>?_⟩
 ·obtain ⟨b,e,rfl⟩:=hb.get i v (by simpa using hP);simp only [e,Qci] at hQ;exact Yl hQ
 ·have hlen:its.toArray.size=bs.length:=by rw [Qu];exact hb.length
  have e:((Qm its.toArray.size).all fun i=>(bs[i]?).getD true)=bs.all id:=by
   rw [hlen,Qbi,Z4,Z4];constructor
   ·intro z b hb';obtain ⟨i,hi,rfl⟩:=Qdc hb';have:=z i (Zg.mpr hi);simpa [hi] using this
   ·intro z i hi;have hi':=Zg.mp hi;simpa [hi'] using z _ (Zi hi')
  rw [e];refine ⟨.bl (bs.all id),H,I.kept (t':=tk) (fun b o z=>hk b o (fun hm=>?_) (Qj _ z)),rfl,q⟩;rw [Q3.mp hm] at z;exact V6 _ (Qt z)
def qnf : ∀ (ns:List Int) (n:Nat),n<=ns.length->preSum (fun i=>(ns[i]?).getD 0) n=(ns.take n).sum
 | ns,0,_=>by simp [preSum]
 | ns,n+1,h=>by
  have hn:n<ns.length:=h;have e:(ns[n]?).getD 0=ns[n]:=by rw [Qc hn];rfl
  have e2:(ns.take n++[ns[n]]).sum=(ns.take n).sum+ns[n]:=by rw [Qdd];simp
  rw [preSum,qnf ns n (Yg hn),e,Yb,Qc hn];exact e2.symm
def qqn : ∀ {ns:List Int}{us:List Value},Vals (ns.map V.int) us -> ∀ (i:Nat) (v:Value),us[i]?=some v -> ∃ t,v = .int ((ns[i]?).getD 0) t
 | [],_,h,i,v,e=>by cases h;simp at e
 | n::ns,_,h,i,v,e=>by
  cases h with
  | cons r t =>
   cases i with
   | zero =>
    obtain ⟨k,rfl⟩:=r;have:Qey n k=v:=by simpa using e
    exact ⟨k,by rw [<- this];rfl⟩
   | succ i =>
    obtain ⟨k,hk⟩:=qqn t i v (by simpa using e);exact ⟨k,by simpa using hk⟩
def rSum (K:Qd):List V->Hp->VK->Prop:=fun xs H Q => ∃ (a:Addr) (ns:List Int),xs=[.ref a]/\(SqL K H a (ns.map V.int)\/SqT K H a (ns.map V.int))/\Q (.int ns.sum) H
def zafm (hc:X.calm=true):CallR X (.builtin "sum") (rSum X.K):=by
 intro pins s σ H xs us Q I r h;obtain ⟨a,ns,rfl,ha,q⟩:=h;obtain ⟨u,rfl,rx⟩:=qic r;cases rx;have fin : ∀ (its:List Value) (h':Heap) (tk t':Nat),its.length=ns.length->(∀ b o,s.heap.get? b=some o->h'.get? b=some o)->EP X pins σ Q (.int (preSum (fun i=>(ns[i]?).getD 0) its.toArray.size) t') { s with heap:=h',toks:=tk }:=fun its h' tk t' hl hk=>by
  have e:preSum (fun i=>(ns[i]?).getD 0) its.toArray.size=ns.sum:=by
   rw [Qu,hl,qnf ns _ (Qs _),Z0]
  rw [e];exact ⟨.int ns.sum,H,I.kept (t':=tk) hk,⟨t',rfl⟩,q⟩
 have old : ∀ {h':Heap}{ob:Obj},(∀ b o,b ∉ [s.heap.objs.size]->(s.heap.push ob).get? b=some o->h'.get? b=some o) -> ∀ b o,s.heap.get? b=some o->h'.get? b=some o:=fun hk b o z =>
  hk b o (fun hm=>by rw [Q3.mp hm] at z;exact V6 _ (Qt z)) (Qj _ z)
 rcases ha with ha|ha
 ·obtain ⟨its,rv,pl,_⟩:=I.list ha;have hl:=pl.isList;have hlt:a<s.heap.objs.size:=pl.lt;have hlen:its.length=ns.length:=by rw [<- rv.length,Qe]
  refine call_sum_walkG (Qaf hl ?_);refine ⟨s.heap.objs.size,[s.heap.objs.size,a],[s.heap.objs.size],its.toArray.size,_,_,fun i=>(ns[i]?).getD 0,rfl,Qju (A:=X.A.in1) (I.ok.hd hc) _ a (Q5 hlt) its.toArray,
   ⟨⟨_,Q2 _ rfl,rfl,rfl⟩,hl.push _⟩,fun b hb=>?_,fun i v hP=>qqn rv i v (by simpa using hP),fun h' tk t' hk=>fin its h' tk t' hlen (old hk)⟩
  have hb':b=s.heap.objs.size\/b=a:=by simpa using hb
  rw [Z5];rcases hb' with rfl|rfl
  ·exact Qao _
  ·exact Qbw hlt
 ·obtain ⟨its,rv,pl,_⟩:=I.tuple ha;have hl:s.heap.IsTuple a its.toArray:=pl;have hlt:a<s.heap.objs.size:=IsTup.lt pl;have hlen:its.length=ns.length:=by rw [<- rv.length,Qe]
  refine call_sum_walkG (Jc hl ?_);refine ⟨s.heap.objs.size,[s.heap.objs.size,a],[s.heap.objs.size],its.toArray.size,_,_,fun i=>(ns[i]?).getD 0,rfl,Walks.tuple (A:=X.A.in1) (I.ok.hd hc) _ a (Q5 hlt) its.toArray,
   ⟨⟨_,Q2 _ rfl,rfl,rfl⟩,pl.push _⟩,fun b hb=>?_,fun i v hP=>qqn rv i v (by simpa using hP),fun h' tk t' hk=>fin its h' tk t' hlen (old hk)⟩
  have hb':b=s.heap.objs.size\/b=a:=by simpa using hb
  rw [Z5];rcases hb' with rfl|rfl
  ·exact Qao _
  ·exact Qbw hlt
def zaiw (K:Qd):List V->Hp->VK->Prop:=fun xs H Q => ∃ (a:Addr) (ns:List Int),xs=[.ref a]/\SqL K H a (ns.map V.int)/\ns.length<64 /\ ∀ (p:Addr) (ns':List Int),H p=none->ns'.Perm ns->ns'.Pairwise (· <= ·)->Q (.ref p) (upd H p (.lst (ns'.map V.int)))
def qvs:CallR X (.builtin "sorted") (zaiw X.K):=by
 intro pins s σ H xs us Q I r h;obtain ⟨a,ns,rfl,ha,h64,q⟩:=h;obtain ⟨u,rfl,rx⟩:=qic r;cases rx;obtain ⟨its,rv,pl,_⟩:=I.list ha;have hlen:its.length=ns.length:=by rw [<- rv.length,Qe]
 refine sorted_ints pl.isList (qpt rv) (by omega) fun out ns' a1 a2 a3=>?_;obtain ⟨e,he⟩:=sortedAll_at s.heap its out;have hl':ns'.length=ns.length:=a2.length_eq;refine ⟨.ref (s.heap.objs.size+1),_,I.laid (t':=s.toks) (a:=s.heap.objs.size+1) (o :=.lst (ns'.map V.int)) (fun b o z=>sortedAll_old z) (Qda _) ?_,rfl,q _ ns' (I.hok.fresh (Qda _)) a2 a3⟩;exact ⟨Yg (qi (by rw [Qe];omega)),out.toList,e,qms a1,by rw [Array.toArray_toList];exact he⟩
def iAny (K:Qd) (tl:TE):TI:=fun σ H R=>tl σ H fun x H1 => ∃ a,x = .ref a/\(((∃ xs,SqL K H1 a xs)/\R (Itl K a) H1)\/((∃ xs,SqT K H1 a xs)/\R (Itt K a) H1))
def zapb {tg l:Expr}{tl:TE} (hl:PE X l tl):PI X tg l (iAny X.K tl):=by
 intro pins s σ H R I h;refine thn (hl pins s σ H _ I h) fun v s1 xx133=>?_;obtain ⟨x,H1,I1,r1,q1⟩:=xx133;obtain ⟨a,e,q1⟩:=q1;subst e;cases r1;rcases q1 with ⟨⟨xs,hq⟩,q⟩|⟨⟨xs,hq⟩,q⟩
 ·obtain ⟨its,rv,p,hz⟩:=I1.list hq;refine Qaf p.isList ?_;refine ⟨s1.heap.objs.size,[s1.heap.objs.size],_,_,H1,rfl,I1.kept (t':=s1.toks) fun b o e=>Qj _ e,zadj a _,⟨_,Q2 _ rfl,rfl,rfl⟩,fun b hb=>?_,q⟩;have e:b=s1.heap.objs.size:=by simpa using hb
  subst e;exact I1.fpOk (Qs _) (I1.hok.fresh (Qs _))
 ·obtain ⟨its,rv,p,hz⟩:=I1.tuple hq;refine Jc (show s1.heap.IsTuple a its.toArray from p) ?_;refine ⟨s1.heap.objs.size,[s1.heap.objs.size],_,_,H1,rfl,I1.kept (t':=s1.toks) fun b o e=>Qj _ e,qyf a _,⟨_,Q2 _ rfl,rfl,rfl⟩,fun b hb=>?_,q⟩;have e:b=s1.heap.objs.size:=by simpa using hb
  subst e;exact I1.fpOk (Qs _) (I1.hok.fresh (Qs _))
end
def boot_all:Zq "all" = some (.builtin "all"):=by decide +kernel
def boot_sum:Zq "sum" = some (.builtin "sum"):=by decide +kernel
def boot_sorted:Zq "sorted" = some (.builtin "sorted"):=by decide +kernel
end
section
section
variable {X:Cx}
def zakf {K:Qd}{F:Hp}{a:Addr}{xs:List V}{l:List Qh} (hs:SqL K F a xs) (hr:Iss K F l xs):ItD K (Itl K a) F l where
 go:=fun i H s hi=>⟨xs,xs[i]'(by rw [hr.len];exact hi),s.seq hs,Qc _⟩
 stop:=fun H s=>⟨xs,s.seq hs,by rw [hr.len];exact Qs _⟩
 yld:=fun i H x H' F1 s1 s2 hi hy=>by
  obtain ⟨rfl,hy⟩:=hy;obtain ⟨d,e1,e2⟩:=hr.get' (hy xs ((s1.trans s2).seq hs));exact ⟨d,F1,e1,.refl s2,e2.mono s1⟩
def zakw {K:Qd}{F:Hp}{a:Addr}{xs:List V}{l:List Qh} (hs:SqT K F a xs) (hr:Iss K F l xs):ItD K (Itt K a) F l where
 go:=fun i H s hi=>⟨xs,xs[i]'(by rw [hr.len];exact hi),qK s hs,Qc _⟩
 stop:=fun H s=>⟨xs,qK s hs,by rw [hr.len];exact Qs _⟩
 yld:=fun i H x H' F1 s1 s2 hi hy=>by
  obtain ⟨rfl,hy⟩:=hy;obtain ⟨d,e1,e2⟩:=hr.get' (hy xs (qK (s1.trans s2) hs));exact ⟨d,F1,e1,.refl s2,e2.mono s1⟩
def qua (lo:Int) (n:Nat):List Qh:=(Qm n).map fun (k:Nat) => .int (lo+(k:Int))
def qs (lo:Int) (n:Nat):(qua lo n).length=n:=by simp [qua]
def qwl {lo:Int}{n i:Nat} (h:i<n):(qua lo n)[i]?=some (.int (lo+i)):=by simp [qua,h]
def qU {lo:Int}{n i:Nat}{d:Qh} (h:(qua lo n)[i]?=some d):i<n/\d = .int (lo+i):=by
 have hi:i<n:=by
  have:=(Qk.mp h).1
  rwa [qs] at this
 rw [qwl hi] at h;exact ⟨hi,(Qx h).symm⟩
def zais {K:Qd}{F:Hp}{lo:Int}{n:Nat}:ItD K (Itr lo n) F (qua lo n) where
 go:=fun i H s hi=>by rw [qs] at hi;exact hi
 stop:=fun H s=>by rw [qs];exact Qs _
 yld:=fun i H x H' F1 s1 s2 hi hy=>by
  obtain ⟨rfl,rfl⟩:=hy;rw [qs] at hi;exact ⟨_,F1,qwl hi,.refl s2,qO _⟩
def qnt (l:List Qh):List Qh:=(Qm l.length).map fun (k:Nat) => .tuple [.int k,(l[k]?).getD .none]
def qcb (l:List Qh):(qnt l).length=l.length:=by simp [qnt]
def qmz {l:List Qh}{i:Nat}{d:Qh} (h:l[i]?=some d):(qnt l)[i]?=some (.tuple [.int i,d]):=by
 have hi:=(Qk.mp h).1;have e:l[i]=d:=by rw [Qc hi] at h;exact Qx h
 simp [qnt,hi,e]
def qja {l:List Qh}{i:Nat}{d:Qh} (h:(qnt l)[i]?=some d) : ∃ x,l[i]?=some x/\d = .tuple [.int i,x]:=by
 have hi:i<l.length:=by
  have:=(Qk.mp h).1
  rwa [qcb] at this
 have e:=qmz (Qc hi);rw [h] at e;exact ⟨_,Qc hi,Qx e⟩
def zaej {K:Qd}{F:Hp}{a:Addr}{xs:List V}{l:List Qh} (hs:SqL K F a xs) (hr:Iss K F l xs):ItD K (Ite K a) F (qnt l) where
 go:=fun i H s hi=>by rw [qcb] at hi;exact ⟨xs,xs[i]'(by rw [hr.len];exact hi),s.seq hs,Qc _⟩
 stop:=fun H s=>by rw [qcb];exact ⟨xs,s.seq hs,by rw [hr.len];exact Qs _⟩
 yld:=fun i H x H' F1 s1 s2 hi hy=>by
  obtain ⟨p,y,hy,hp,rfl,rfl⟩:=hy;obtain ⟨d,e1,e2⟩:=hr.get' (hy xs ((s1.trans s2).seq hs));have g:=Go.put (o:=HO.tup [.int i,y]) s2 hp;exact ⟨_,_,qmz e1,g,qjy (SqT.of ql) (qB (qO _) (qB ((e2.mono s1).mono g.f) qQ))⟩
section
variable {tg a b c:Expr}{W:WE}{Wr:WF}{p pos:Pos}
def isTy (T:String):Qh->Bool
 | .none=>false
 | .bool _=>T == "bool" || T == "int"
 | .int _=>T == "int"
 | .str _=>T == "str"
 | .list _=>T == "list"
 | .tuple _=>T == "tuple"
 | .dict _=>T == "dict"
def dSum:DC
 | [.list l],q => ∃ ns:List Int,l=ns.map .int/\q (.int ns.sum)
 | [.tuple l],q => ∃ ns:List Int,l=ns.map .int/\q (.int ns.sum)
 | _,_=>False
def qfs:Qh->Option (List Qh)
 | .list l=>some l
 | .tuple l=>some l
 | _=>none
def qek {d:Qh}{l:List Qh}{Q:List Qh->Prop} (h:qfs d=some l) (q:Q l):(qfs d).elim False Q:=by rw [h];exact q
def zait {d:Qh}{l:List Qh}{i:Int}{x:Qh}{q:Qh->Prop} (h:qfs d=some l) (e:atI l i=some x) (hq:q x):dIx d (.int i) q:=by
 cases d with
 | list m=>cases h;exact ⟨x,e,hq⟩
 | tuple m=>cases h;exact ⟨x,e,hq⟩
 | _=>cases h
def zaqf (W:WE):WF:=fun env Q=>W env fun d e=>(qfs d).elim False fun l=>Q l e
def qR (h:VE X a W):VI X tg a (zaqf W):=(zapb h).imp fun σ H R xx134=>by
 obtain ⟨M,env,F,Q,I,h,k⟩:=xx134;refine ⟨M,env,F,_,I,h,fun d v F1 H1 e1 I1 s1 i1 h1=>?_⟩;cases d with
 | list l =>
  obtain ⟨b,xs,rfl,hs,hr⟩:=i1.lst_inv;exact ⟨b,rfl,.inl ⟨⟨xs,I1.fh.seq hs⟩,k l _ F1 H1 e1 I1 s1 (zakf hs hr) h1⟩⟩
 | tuple l =>
  obtain ⟨b,xs,rfl,hs,hr⟩:=i1.tup_inv;exact ⟨b,rfl,.inr ⟨⟨xs,qK I1.fh hs⟩,k l _ F1 H1 e1 I1 s1 (zakw hs hr) h1⟩⟩
 | _=>exact Zd h1
def wiR1 (W:WE):WF:=fun env Q=>W env fun d e=>match d with
 | .int j=>(-(2^62)<=j/\j<2^62)/\Q (qua 0 j.toNat) e
 | _=>False
def qC (hm:X.mg "range" = none) (ha:VE X a W) (hg:Gl X "range":=by rfl) (hs:Qp [a] X.env=[(false,eval a X.env)]:=by rfl) (hs':Qp [a] X.env=(false,eval a X.env)::Qp [] X.env:=by rfl):VI X tg (.Call (.Name "range" p) [a] [] pos) (wiR1 W) :=
 (zabv hg hm (qH ha qaw hs') hs).imp fun σ H R xx135=>by
  obtain ⟨M,env,F,Q,I,h,k⟩:=xx135;refine ⟨M,env,F,_,I,h,fun d v F1 H1 e1 I1 s1 i1 h1=>?_⟩;cases d with
  | int j=>exact ⟨j,by rw [i1.int_inv],h1.1.1,h1.1.2,k _ _ F1 H1 e1 I1 s1 zais h1.2⟩
  | _=>exact Zd h1
def wiEn (W:WE):WF:=fun env Q=>W env fun d e=>match d with
 | .list l=>Q (qnt l) e
 | _=>False
def qut {elts:List Expr}{x1:Nat}{tpos:Pos} (hm:X.mg "enumerate" = none) (ha:VE X a W) (hg:Gl X "enumerate":=by rfl) (hs:Qp [a] X.env=[(false,eval a X.env)]:=by rfl) (hs':Qp [a] X.env=(false,eval a X.env)::Qp [] X.env:=by rfl) :
 VI X (.Tuple elts x1 tpos) (.Call (.Name "enumerate" p) [a] [] pos) (wiEn W) :=
 (zalf hg hm (qH ha qaw hs') hs).imp fun σ H R xx136=>by
  obtain ⟨M,env,F,Q,I,h,k⟩:=xx136;refine ⟨M,env,F,_,I,h,fun d v F1 H1 e1 I1 s1 i1 h1=>?_⟩;cases d with
  | list l =>
   obtain ⟨b,xs,rfl,hs,hr⟩:=i1.lst_inv;exact ⟨b,rfl,⟨xs,I1.fh.seq hs⟩,k _ _ F1 H1 e1 I1 s1 (zaej hs hr) h1⟩
  | _=>exact Zd h1
end
def Sl.seen:Sl->Sl
 | .val d => .val d
 | .new d => .val d
 | _ => .non
def qxe (ix:List Nat) (k:Nat) (env:Sto):Sto:=ix.map (fun i=>(gS env i).seen)++Zb k .non
def zadr (ix:List Nat) (k:Nat) (Wi:WF) (G:WG) (We:WE):WF:=fun env Q=>Wi env fun ds e0=>ds.length<Qz /\ ∃ P:Nat->List Qh->Sto->Prop,P 0 [] (qxe ix k e0) /\
 (∀ i d ys e,ds[i]?=some d->P i ys e->G d e fun e1=>We e1 fun y e2=>P (i+1) (ys++[y]) e2) /\ ∀ ys e,P ds.length ys e->Q ys e0
def qrz : ∀ (ix:List Nat) (f:Nat->Sl) (r:Sto) (j:Nat),gS (ix.map f++r) j=match ix[j]? with|some i=>f i|none=>gS r (j-ix.length)
 | [],f,r,j=>by simp
 | i::ix,f,r,0=>by simp [gS]
 | i::ix,f,r,j+1=>by simp only [Yh,Qig,gS,Y8,Zp,Qfh];exact qrz ix f r j
def qkg (k j:Nat):gS (Zb k .non) j = .non:=by
 induction k generalizing j with
 | zero=>simp [gS]
 | succ k ih=>cases j with
  | zero=>simp [Yq,gS]
  | succ j=>simp only [Yq,gS];exact ih j
def zahx (ix:List Nat) (k:Nat) (σ:St) (j i:Nat) (h:ix[j]?=some i):vS (qpn ix k σ) j=vS σ i:=by
 have hj:=(Qk.mp h).1;unfold vS qpn;rw [Zc (by simpa using hj),Qa,h];rfl
def EnvOk.cap {K:Qd}{M:Frm}{F H:Hp}{env:Sto}{σ:St} (I:EnvOk K M F H env σ) (ix:List Nat) (k:Nat):EnvOk K ⟨H,H,F⟩ F H (qxe ix k env) (qpn ix k σ) where
 len:=by simp [qxe,qpn]
 slot:=fun j=>by
  unfold qxe;rw [qrz];cases h:ix[j]? with
  | none=>rw [qkg];trivial
  | some i =>
   show SlotOk K _ F H (gS env i).seen _;rw [zahx ix k σ j i h];have S:=I.slot i;cases q:gS env i with
   | val d=>rw [q] at S;exact S
   | non=>trivial
   | own ds=>trivial
   | pen ds=>trivial
   | new d=>rw [q] at S;obtain ⟨v,e,j⟩:=S;exact ⟨v,e,j.is qpb⟩
   | exc C=>trivial
   | obj a0 C nm fs=>trivial
 dis:=fun i j a _ h1=>by
  unfold qxe at h1;rw [qrz] at h1;cases h:ix[i]? with
  | none=>rw [h,qkg] at h1;cases h1
  | some n =>
   rw [h] at h1;replace h1:(gS env n).seen.mut=true:=h1
   cases q:gS env n <;> rw [q] at h1 <;> cases h1
 f0 :=.refl _
 fe:=I.fh
 fh:=I.fh
 bh :=.refl _
 new:=fun b o e => .inl e
 dom:=fun b o e=>⟨o,e⟩
def EnvOk.goOf {K:Qd}{F H F' H':Hp}{env:Sto}{σ:St} (I:EnvOk K ⟨H,H,F⟩ F' H' env σ):Go F H F' H':=⟨I.f0,I.bh,I.fh,I.new⟩
section
variable {K:Qd}{ix:List Nat}{n:Nat}{Wi:WF}{G:WG}{We:WE}{σ:St}{H:Hp}{R:VK}
def qmx (h:qsc K (zadr ix n Wi G We) σ H R):qye ix n (qoc K Wi) (qko K G) (qcm K We) σ H R:=by
 obtain ⟨M,env,F,Q,I,h,k⟩:=h;refine ⟨M,env,F,_,I,h,fun ds J F1 H1 e1 I1 s1 jt xx138=>?_⟩;obtain ⟨hz,P,p0,turn,fin⟩:=xx138;refine ⟨fun i m ys σ1 H'=>m=ds.length-i/\i<=ds.length /\ ∃ e' F' l,EnvOk K ⟨H1,H1,F1⟩ F' H' e' σ1/\Iss K F' l ys/\ys.length=i/\P i l e',⟨ds.length,by simp,Y7 _,qxe ix n e1,F1,[],I1.cap ix n,qQ,rfl,p0⟩,?_⟩;rintro i m ys σ1 H2 ⟨hm,hi,e2,F2,l,I2,i2,hl,p2⟩;have g2:=I2.goOf;by_cases he:i=ds.length
 ·subst he;exact .inl ⟨jt.stop H2 (g2.f.trans g2.fh),by omega,qjq (I1.go g2) (s1.trans g2.f) i2 (fin l e2 p2) k⟩
 ·have hlt:i<ds.length:=by omega
  refine .inr ⟨jt.go i H2 (g2.f.trans g2.fh) hlt,by omega,fun y σ' H' => ∃ e' F' l',EnvOk K ⟨H1,H1,F1⟩ F' H' e' σ'/\Iss K F' l' (ys++[y])/\P (i+1) l' e',
   fun y σ' H' xx137=>by obtain ⟨e',F',l',I',i',p'⟩:=xx137;exact ⟨ds.length-(i+1),by omega,rfl,hlt,e',F',l',I',i',by simp [hl],p'⟩,fun x H3 hy=>?_⟩
  obtain ⟨d,F3,hd,g,j⟩:=jt.yld i H2 x H3 F2 g2.f g2.fh hlt hy;refine ⟨_,e2,F3,d,_,I2.go g,j,turn i d l e2 hd p2,fun F4 H4 e4 σ4 I4 s4 h4=>⟨_,e4,F4,_,I4,h4,fun d5 v5 F5 H5 e5 I5 s5 i5 h5=>?_⟩⟩;exact ⟨e5,F5,l++[d5],I5,qaa ((i2.mono (g.f.trans s4)).mono s5) (qB i5 qQ),h5⟩
end
def qL {elt target iter:Expr}{scope:Scope}{pos:Pos}{caps own:List Str}{ix:List Nat}{Wi:WF}{G:WG}{We:WE} (hc:X.calm=true) (S:CompScope X.env scope caps) (hi:VI X target iter Wi)
 (hg : ∀ pins s3 H ex,VG (blk X pins scope (caps++own) s3 H ex) target G)
 (he : ∀ pins s3 H ex,VE (blk X pins scope (caps++own) s3 H ex) elt We)
 (hix:caps.length=ix.length:=by rfl) (hcapB:(caps.zip ix).all (fun p=>X.N[p.2]?==some p.1)=true:=by rfl)
  (hs : ∀ x,Zu iter X.env x=pure x:=by intro _;rfl):VF X (.ListComp elt [⟨target,iter,[],0⟩] scope pos) (zadr ix own.length Wi G We) :=
  (qzv (g:=qko X.K G) (te:=qcm X.K We) hc S hi hg he hix hcapB hs).imp fun _ _ _ h=>qmx h
def qS {ix:List Nat}{k:Nat}{G:WG}{We:WE}{Q:List Qh->Sto->Prop}{ds:List Qh}{e0:Sto} (L:List Qh) (hl:L.length=ds.length) (hz:L.length<Qz) (Iv:Sto->Prop) (h0:Iv (qxe ix k e0))
 (h : ∀ (i:Nat) d ys e,ds[i]?=some d->ys=L.take i->Iv e->G d e fun e1=>We e1 fun y e2=>ys++[y]=L.take (i+1)/\Iv e2) (q:Q L e0) :
 ds.length<Qz /\ ∃ P:Nat->List Qh->Sto->Prop,P 0 [] (qxe ix k e0)/\(∀ i d ys e,ds[i]?=some d->P i ys e->G d e fun e1=>We e1 fun y e2=>P (i+1) (ys++[y]) e2) /\ ∀ ys e,P ds.length ys e->Q ys e0 :=
  ⟨by omega,fun i ys e=>ys=L.take i/\Iv e,⟨by simp,h0⟩,fun i d ys e hd hp=>h i d ys e hd hp.1 hp.2,fun ys e hp=>by rw [hp.1,<- hl,Z0];exact q⟩
def qq {α:Type}{L ys:List α}{y:α}{i:Nat} (e:L[i]?=some y) (h:ys=L.take i):ys++[y]=L.take (i+1):=by
 rw [h,Yb,e];rfl
def wIsi (T:String) (W:WE):WE:=fun env Q=>W env fun d e=>Q (.bool (isTy T d)) e
section
variable {a:Expr}{W:WE}{p pos pT:Pos}{T:String}{t:Str}
def qol (hm:X.mg "isinstance" = none) (ht:X.mg t=none) (hv:Zq t=some (.type T)) (ha:VE X a W) (hk : ∀ d,Z2 X.K (.type (tyD d)) (.type T)=some (isTy T d):=by intro d;cases d <;> rfl)
 (hg:Gl X "isinstance":=by rfl) (hgt:Gl X t:=by rfl) (hn:t ≠ "__name__":=by decide) (hdt:Nd0 t:=by decide)
 (hs:Qp [a,.Name t pT] X.env=(false,eval a X.env)::Qp [.Name t pT] X.env:=by rfl) (hs2:Qp [.Name t pT] X.env=(false,eval (.Name t pT) X.env)::Qp [] X.env:=by rfl) (hpl:(Vc pos (Qp [.Name t pT] X.env)).any (·.1)=false:=by rfl) :
 VE X (.Call (.Name "isinstance" p) [a,.Name t pT] [] pos) (wIsi T W) :=
 (qgq zafu hg hm qhe (qH ha (qH (zabg (v :=.ty T) hgt ht hv rfl hn hdt) qaw hs2) hs) (by decide) (by decide) hs hpl).imp fun σ H R xx139=>by
  obtain ⟨M,env,F,Q,I,h,k⟩:=xx139;exact ⟨M,env,F,_,I,h,fun d v F1 H1 e1 I1 s1 i1 h1=>⟨d,v,T,isTy T d,rfl,i1.mono I1.fh,hk d,k _ _ F1 H1 e1 I1 s1 (qfn _) h1⟩⟩
end
def zadp (hc:X.calm=true):qku X (.builtin "sum") dSum:=(zafm hc).imp fun xs H Q xx140=>by
 obtain ⟨F,ds,q,s,i,h,k⟩:=xx140
 match ds,h,i with
 | [.list l],h,i =>
  obtain ⟨v,rfl,j⟩:=qmk i;obtain ⟨a,xs,rfl,hs,hr⟩:=j.lst_inv;obtain ⟨ns,rfl,hq⟩:=h;rw [hr.ints_inv] at hs;exact ⟨a,ns,rfl,.inl (s.seq hs),k _ _ F H (.refl s) (qO _) hq⟩
 | [.tuple l],h,i =>
  obtain ⟨v,rfl,j⟩:=qmk i;obtain ⟨a,xs,rfl,hs,hr⟩:=j.tup_inv;obtain ⟨ns,rfl,hq⟩:=h;rw [hr.ints_inv] at hs;exact ⟨a,ns,rfl,.inr (qK s hs),k _ _ F H (.refl s) (qO _) hq⟩
def zaoq:List Qh->(List Qh->Prop)->Prop
 | [.list l],q => ∃ ns:List Int,l=ns.map .int/\ns.length<64 /\ ∀ ns':List Int,ns'.Perm ns->ns'.Pairwise (· <= ·)->q (ns'.map .int)
 | _,_=>False
def zafk:qro X (.builtin "sorted") zaoq:=qvs.imp fun xs H Q xx141=>by
 obtain ⟨F,ds,q,s,i,h,k⟩:=xx141
 match ds,h,i with
 | [.list l],h,i =>
  obtain ⟨v,rfl,j⟩:=qmk i;obtain ⟨a,xs,rfl,hs,hr⟩:=j.lst_inv;obtain ⟨ns,rfl,hz,hq⟩:=h;rw [hr.ints_inv] at hs;exact ⟨a,ns,rfl,s.seq hs,hz,fun p ns' hp h1 h2=>k _ p _ F _ (.side s hp) hp (qF s hp) ql (qiv ns') (hq ns' h1 h2)⟩
def dAll:DC
 | [.list l],q => ∃ bs:List Bool,l=bs.map .bool/\q (.bool (bs.all id))
 | _,_=>False
def Iss.bools_inv {K:Qd}{H:Hp} : ∀ {bs:List Bool}{xs:List V},Iss K H (bs.map .bool) xs->xs=bs.map V.bl
 | [],_,h=>h.nil_inv
 | n::ns,_,h=>by
  obtain ⟨x,r,rfl,p,q⟩:=h.cons_inv;rw [p.bl_inv,Iss.bools_inv q];rfl
def zary (hc:X.calm=true):qku X (.builtin "all") dAll:=(zafi hc).imp fun xs H Q xx142=>by
 obtain ⟨F,ds,q,s,i,h,k⟩:=xx142
 match ds,h,i with
 | [.list l],h,i =>
  obtain ⟨v,rfl,j⟩:=qmk i;obtain ⟨a,xs,rfl,hs,hr⟩:=j.lst_inv;obtain ⟨bs,rfl,hq⟩:=h;rw [hr.bools_inv] at hs;exact ⟨a,bs,rfl,s.seq hs,k _ _ F H (.refl s) (qfn _) hq⟩
end
def qam (N:List Str) (ds:List Qh):Sto:=ds.map .val++Zb (N.length-ds.length) .non
def qrk : ∀ (ds:List Qh) (r:Sto) (j:Nat),gS (ds.map .val++r) j=match ds[j]? with|some d => .val d|none=>gS r (j-ds.length)
 | [],r,j=>by simp
 | i::ix,r,0=>by simp [gS]
 | i::ix,r,j+1=>by simp only [Yh,Qig,gS,Y8,Zp,Qfh];exact qrk ix r j
def qqz {N:List Str}{vs:List V}{j:Nat}{v:V} (h:vs[j]?=some v):vS (start N vs) j=some v:=by
 have hj:=(Qk.mp h).1;unfold vS start;rw [Zc (by simpa using hj),Qa,h];rfl
def qee {K:Qd}{F H:Hp}{N:List Str}{ds:List Qh}{vs:List V} (s:Same F H) (i:Iss K F ds vs):EnvOk K ⟨H,H,F⟩ F H (qam N ds) (start N vs) where
 len:=by simp [qam,start,i.len]
 slot:=fun j=>by
  unfold qam;rw [qrk];cases h:ds[j]? with
  | none=>rw [qkg];trivial
  | some d =>
   obtain ⟨x,e1,e2⟩:=i.get h;exact ⟨x,qqz e1,e2⟩
 dis:=fun i j a _ h1=>by
  unfold qam at h1;rw [qrk] at h1;cases h:ds[i]? with
  | none=>rw [h,qkg] at h1;cases h1
  | some d=>rw [h] at h1;cases h1
 f0 :=.refl _
 fe:=s
 fh:=s
 bh :=.refl _
 new:=fun b o e => .inl e
 dom:=fun b o e=>⟨o,e⟩
section
variable {P:Zr}{w:World}{K:Qd}{mg:Str->Option Value}{base:Heap}
def RetOk.is {F H F' H':Hp}{env:Sto}{σ:St}{r:Ret}{v:V} (I:EnvOk K ⟨H,H,F⟩ F' H' env σ) (h:RetOk K ⟨H,H,F⟩ F' H' r v) : ∃ F'',Go F H F'' H'/\Is K F'' r.data v:=by
 have g:=I.goOf;cases r with
 | val d=>exact ⟨F',g,h⟩
 | new d=>exact ⟨F',g,IsN.is qpb h⟩
 | own ds =>
  obtain ⟨a,vs,rfl,h1,h2,h3,h4,h5⟩:=h;have s:Same F' (upd F' a (.lst vs)):=qbx h2;refine ⟨upd F' a (.lst vs),⟨g.f.trans s,g.h,fun b o e=>?_,fun b o e=>?_⟩,qdo (SqL.of ql) (h5.mono s)⟩
  ·by_cases z:b=a
   ·subst z;rw [ql] at e;rw [h1];exact .of e
   ·rw [qk z] at e;exact g.fh b o e
  ·by_cases z:b=a
   ·subst z;exact .inr h4
   ·rw [qk z] at e;exact g.new b o e
def Def.vok {x:Str}{st:Stmt}{N ps:List Str}{k:Nat}{sp:DC} (F:Def K mg x st ps) (S:FnScope N ps (defScope st)) (len : ∀ ds q,sp ds q->ds.length=ps.length)
 (hbody : ∀ (f:Addr) (cdv:Value) (A:Ye) (outer:List Env) (s:Ql) (H:Hp) (E:XK),Room k (A.deeper (Qcn x (defScope st) s.heap.objs.size f cdv)) -> ∀ ds q,sp ds q ->
 ∃ W,VSs (qge CX0 P w K mg base N x (defScope st) f cdv A outer s H E).nox (defBody st) W/\W { nx:=fun _=>q .none,rt:=fun r _=>q r.data } (qam N ds)):Ok P w K mg base x (k+1) ps (PSp K sp) :=
  F.ok S (fun vs H Q E xx144=>by obtain ⟨F,ds,q,_,i,h,_⟩:=xx144;rw [i.len];exact len ds q h) fun f cdv A outer s H vs Q E hr xx143=>by
   obtain ⟨F,ds,q,sm,i,h,kk⟩:=xx143;obtain ⟨W,hW,hq⟩:=hbody f cdv A outer s H E hr ds q h;refine ⟨_,hW,⟨H,H,F⟩,qam N ds,F,_,qee sm i,hq,⟨fun e1 F1 H1 σ1 I1 s1 q1=>kk _ _ F1 H1 I1.goOf qok q1,fun r v e1 F1 H1 σ1 I1 s1 r1 q1=>?_,fun _ _ _ _ _ _ h=>h.elim,fun _ _ _ _ _ _ h=>h.elim⟩⟩;obtain ⟨F2,g,j⟩:=r1.is I1;exact kk _ _ F2 H1 g j q1
def Def.vokF {x:Str}{st:Stmt}{N ps:List Str}{k:Nat}{sp:List Qh->(List Qh->Prop)->Prop} (F:Def K mg x st ps) (S:FnScope N ps (defScope st)) (len : ∀ ds q,sp ds q->ds.length=ps.length)
 (hbody : ∀ (f:Addr) (cdv:Value) (A:Ye) (outer:List Env) (s:Ql) (H:Hp) (E:XK),Room k (A.deeper (Qcn x (defScope st) s.heap.objs.size f cdv)) -> ∀ ds q,sp ds q ->
 ∃ W,VSs (qge CX0 P w K mg base N x (defScope st) f cdv A outer s H E).nox (defBody st) W/\W { nx:=fun _=>False,rt:=fun r _ => ∃ l,r = .own l/\q l } (qam N ds)):Ok P w K mg base x (k+1) ps (FSp K sp) :=
  F.ok S (fun vs H Q E xx146=>by obtain ⟨F,ds,q,_,i,h,_⟩:=xx146;rw [i.len];exact len ds q h) fun f cdv A outer s H vs Q E hr xx145=>by
   obtain ⟨F,ds,q,sm,i,h,kk⟩:=xx145;obtain ⟨W,hW,hq⟩:=hbody f cdv A outer s H E hr ds q h;refine ⟨_,hW,⟨H,H,F⟩,qam N ds,F,_,qee sm i,hq,⟨fun e1 F1 H1 σ1 I1 s1 q1=>q1.elim,fun r v e1 F1 H1 σ1 I1 s1 r1 q1=>?_,fun _ _ _ _ _ _ h=>h.elim,fun _ _ _ _ _ _ h=>h.elim⟩⟩;obtain ⟨l,rfl,q1⟩:=q1;obtain ⟨a,vs,rfl,h1,h2,h3,h4,h5⟩:=r1;exact kk l a vs F1 H1 I1.goOf h4 h2 h1 h5 q1
def qxp (K:Qd):Sp:=fun vs H Q _ => ∃ (a:Addr) (ns:List Int),vs=[.ref a]/\SqL K H a (ns.map V.int)/\ns.length<=63 /\ ∀ H',Q (.bl true) H'
def Fun.vlaw {x:Str}{st:Stmt}{f:Addr}{fd:Vn}{N ps:List Str}{k:Nat} (F:Fun K x x st f fd) (S:FnScope N ps (defScope st)) (hp:ps.length=1)
 (hbody : ∀ (cdv:Value) (A:Ye) (outer:List Env) (s:Ql) (H:Hp) (E:XK),Room k (A.deeper (Qcn x (defScope st) s.heap.objs.size f cdv)) -> ∀ ns:List Int,ns.length<=63 ->
 ∃ W,VSs (qge CX0 P w K mg base N x (defScope st) f cdv A outer s H E).nox (defBody st) W/\W { nx:=fun _=>False,rt:=fun r _=>r.data = .bool true } (qam N [.list (ns.map .int)])):FnOk P w K mg base CX0 (k+1) f fd ps (qxp K):=by
  refine F.ok S (fun vs H Q E h=>?_) (fun cdv A outer s H vs Q E hr h=>?_)
  ·obtain ⟨a,ns,rfl,_⟩:=h;exact hp.symm
  ·obtain ⟨a,ns,rfl,hS,hlen,kk⟩:=h;have hi:Iss K H [.list (ns.map .int)] [.ref a]:=qB (qdo hS (qiv ns)) qQ;obtain ⟨W,hW,hq⟩:=hbody cdv A outer s H E hr ns hlen;refine ⟨_,hW,⟨H,H,H⟩,qam N _,H,_,qee (.refl _) hi,hq,⟨fun e1 F1 H1 σ1 I1 s1 q1=>q1.elim,fun r v e1 F1 H1 σ1 I1 s1 r1 q1=>?_,fun _ _ _ _ _ _ h=>h.elim,fun _ _ _ _ _ _ h=>h.elim⟩⟩;obtain ⟨F2,g,j⟩:=r1.is I1;have q1:r.data = .bool true:=q1;rw [q1] at j;rw [j.bl_inv];exact kk H1
end
end
section
section
variable (K:Qd)
def zaqb (W:WE):TE:=fun σ H R => ∃ M env F Q,EnvOk K M F H env σ/\W env Q /\ ∀ d v F' H' env',EnvOk K M F' H' env' σ->Same F F'->IsN K (qrr M F') d v->Q d env'->R v H'
def zaol (W:WF):TE:=fun σ H R => ∃ M env F Q,EnvOk K M F H env σ/\W env Q /\ ∀ a vs ds F' H' env',EnvOk K M F' H' env' σ->Same F F'->H' a=some (.lst vs)->F' a=none->M.B a=none->M.He a=none ->
 (∀ i,(gS env' i).mut=true->vS σ i≠some (.ref a))->IssN K (qrr M F') ds vs->Q ds env'->R (.ref a) H'
structure EndsT (M:Frm) (DD:WEnds) (D:Ends):Prop where
 nx : ∀ env' F' H' σ',EnvOk K M F' H' env' σ'->DD.nx env'->D.nx σ' H'
 rt : ∀ r v env' F' H' σ',EnvOk K M F' H' env' σ'->RetOk K M F' H' r v->DD.rt r env'->D.rt v H'
 bk : ∀ env' F' H' σ',EnvOk K M F' H' env' σ'->DD.bk env'->D.bk σ' H'
 ct : ∀ env' F' H' σ',EnvOk K M F' H' env' σ'->DD.ct env'->D.ct σ' H'
def zaib (W:WS):TS:=fun D σ H => ∃ M env F DD,EnvOk K M F H env σ/\W DD env/\EndsT K M DD D
end
def VN (X:Cx) (e:Expr) (W:WE):Prop:=PE X e (zaqb X.K W)
def VFN (X:Cx) (e:Expr) (W:WF):Prop:=PE X e (zaol X.K W)
def VST (X:Cx) (st:Stmt) (W:WS):Prop:=PS X st (zaib X.K W)
def VSsT (X:Cx) (st:List Stmt) (W:WS):Prop:=PSs X st (zaib X.K W)
section
variable {X:Cx}{a b e:Expr}{W:WE}{Wf:WF}{pos p:Pos}
end
section
variable {P:Zr}{w:World}{K:Qd}{mg:Str->Option Value}{base:Heap}
end
section
variable {X:Cx}{c e:Expr}{Tc:WT}{W:WE}{Wt Wu:WS}{st:Stmt}{sts rest:List Stmt}{pos pos':Pos}
mutual
def immD:Qh->Bool
 | .list _=>false
 | .tuple l=>qva l
 | .dict _=>false
 | _=>true
def qva:List Qh->Bool
 | []=>true
 | d::l=>immD d&&qva l
end
mutual
def Is.imm {K:Qd}{F F':Hp} (s : ∀ b o,F b=some o->(∀ xs,o ≠ .lst xs)->F' b=some o) : ∀ {d:Qh}{v:V},immD d=true->Is K F d v->Is K F' d v
 | .none,_,_,h=>by unfold Is at h ⊢;exact h
 | .bool _,_,_,h=>by unfold Is at h ⊢;exact h
 | .int _,_,_,h=>by unfold Is at h ⊢;exact h
 | .str _,_,_,h=>by unfold Is at h ⊢;exact h
 | .list l,_,m,h=>by unfold immD at m;cases m
 | .dict l,_,m,h=>by unfold immD at m;cases m
 | .tuple l,_,m,h=>by
  unfold immD at m;unfold Is at h ⊢;obtain ⟨a,xs,e,q,r⟩:=h;refine ⟨a,xs,e,?_,Iss.imm s m r⟩;rcases q with (q|⟨o,q⟩)|q
  ·exact .inl (.inl (s _ _ q (fun _ z=>nomatch z)))
  ·exact .inl (.inr ⟨o,s _ _ q (fun _ z=>nomatch z)⟩)
  ·exact .inr q
def Iss.imm {K:Qd}{F F':Hp} (s : ∀ b o,F b=some o->(∀ xs,o ≠ .lst xs)->F' b=some o) : ∀ {l:List Qh}{xs:List V},qva l=true->Iss K F l xs->Iss K F' l xs
 | [],_,_,h=>by unfold Iss at h ⊢;exact h
 | d::l,_,m,h=>by
  unfold qva at m;rw [Jy] at m;unfold Iss at h ⊢;obtain ⟨x,r,e,p,q⟩:=h;exact ⟨x,r,e,Is.imm s m.1 p,Iss.imm s m.2 q⟩
end
end
section
variable {X:Cx}
def zair:D2:=fun x y q => ∃ (i:Int) (ns:List Int),x = .int i/\qfs y=some (ns.map .int)/\q (.bool (!ns.any (· == i)))
def qqj (i:Int) : ∀ ns:List Int,inV (.int i) (ns.map V.int)=ns.any (· == i)
 | []=>rfl
 | n::ns=>by
  have:=qqj i ns;unfold inV at this ⊢;rw [Yh,Qei,Qei,this];rfl
def qsk (ns:List Int):(ns.map V.int).all qnv=true:=by
 rw [Z4];intro x hx;obtain ⟨i,_,rfl⟩:=Qr.mp hx;rfl
def zalp {neg:Bool}{x y:V}{H:Hp}{Q:VK}{F:Hp}{dy:Qh}{i:Int}{ns:List Int} (s:Same F H) (i1:Is X.K F (.int i) x) (i2:Is X.K F dy y) (e:qfs dy=some (ns.map .int)) (q:Q (.bl (if neg then !ns.any (· == i) else ns.any (· == i))) H):rIn X.K neg x y H Q:=by
 rw [i1.int_inv];cases dy with
 | list l =>
  cases e;obtain ⟨a,xs,rfl,hs,hr⟩:=i2.lst_inv;rw [hr.ints_inv] at hs;exact ⟨a,_,rfl,.inl (s.seq hs),rfl,qsk ns,by rw [qqj];exact q⟩
 | tuple l =>
  cases e;obtain ⟨a,xs,rfl,hs,hr⟩:=i2.tup_inv;rw [hr.ints_inv] at hs;exact ⟨a,_,rfl,.inr (qK s hs),rfl,qsk ns,by rw [qqj];exact q⟩
 | _=>cases e
def zaeh:OpV X (Z6 .NotIn) zair:=OpR.imp qtt fun x y H Q xx147=>by
 obtain ⟨F,dx,dy,q,s,i1,i2,⟨i,ns,e1,e2,hq⟩,k⟩:=xx147;subst e1;exact zalp s i1 i2 e2 (k _ _ F H (.refl s) (qfn _) hq)
end
end
section
section
variable {X:Cx}{elt target iter:Expr}{scope:Scope}{pos:Pos}{caps own:List Str}{ix:List Nat}{wi:TI}{g:TG}{te:TE}
def quu {i:Nat}{y:Str}{py spos:Pos} (hN:X.N.Nodup) (hiy:X.N[i]?=some y) (hy:X.env.scope.names.lookup y=some .local) (hsw:Vm (.ListComp elt [⟨target,iter,[],0⟩] scope pos) (some (.Name y py)) spos.line X.env=pure true) (hc:X.calm=true) (S:CompScope X.env scope caps) (hi:PI X target iter wi)
 (hg : ∀ pins s3 H ex,PG (blk X pins scope (caps++own) s3 H ex) target g)
 (he : ∀ pins s3 H ex,PE (blk X pins scope (caps++own) s3 H ex) elt te)
 (hix:caps.length=ix.length:=by rfl) (hcapB:(caps.zip ix).all (fun p=>X.N[p.2]?==some p.1)=true:=by rfl)
  (hs : ∀ x,Zu iter X.env x=pure x:=by intro _;rfl):PS X (.Assign [.Name y py] (.ListComp elt [⟨target,iter,[],0⟩] scope pos) spos) (tAsg (qye ix own.length wi g te) (qyt i)):=by
  intro pins s σ H D I h;rw [Qfl _ _ _ _ hsw];refine Qi (Qbp (Qi ?_));show wpAny _ _ (do let _ <- Qem (.ListComp elt [⟨target,iter,[],0⟩] scope pos) scope X.env _ (newList []) false (eval iter X.env) (some (Qcm (.Name y py) X.env))) _ _ s;refine Qi (thn (qqa (use:=some (Qcm (.Name y py) X.env)) (Q0:=fun _ s'=>SP X pins D .next s') hc S hi hg he hix hcapB hs I h fun D' C s6 H6 m6 ns6 IX c1 c2 c3 c4 c5 c6 q=>?_) (fun _ s' hq=>Q9 (Q9 hq)));obtain ⟨oC,esC,epC,hoC,hdC,rC⟩:=id ns6;have IX':Inv X (pins++[(C,oC)]) σ H6 s6:=IX.pins_of fun p hp=>by
   rcases Ze.mp hp with z|z
   ·exact IX.pin p (Q7 _ z)
   ·rw [Q3.mp z];exact ⟨hoC,c1,c2,c3,fun v q=>by rw [hdC] at q;cases q⟩
  show wpAny _ _ (Qcm (.Name y py) X.env (.ref D')) _ _ _;refine Qeg (qfr IX' hN hiy (Yn hy) (v :=.ref D') rfl (fun s7 I7=>?_) (.inr hy));have gC:s7.heap.get? C=some oC:=(I7.pin (C,oC) (Q7 _ (Q7 _ (Q3.mpr rfl)))).1;refine ⟨m6,⟨oC,esC,epC,gC,hdC,rC⟩,fun h' sb=>?_⟩;exact ⟨_,_,I7.unpinned.turned (t':=s7.toks) (it:=C) (fun b o hb q=>sb.extBut b o hb q) c1 c2 c4 c5 c6,q⟩
end
section
variable {K:Qd}{ix:List Nat}{n:Nat}{Wi:WF}{G:WG}{We:WE}{σ:St}{H:Hp}{R:VK}
end
section
variable {X:Cx}{elt target iter:Expr}{scope:Scope}{pos py spos:Pos}{caps own:List Str}{ix:List Nat}{Wi:WF}{G:WG}{We:WE}{i:Nat}{y:Str}
def qpm (hN:X.N.Nodup) (hc:X.calm=true) (S:CompScope X.env scope caps) (hi:VI X target iter Wi) (hg : ∀ pins s3 H ex,VG (blk X pins scope (caps++own) s3 H ex) target G) (he : ∀ pins s3 H ex,VE (blk X pins scope (caps++own) s3 H ex) elt We)
 (hiy:X.N[i]?=some y:=by rfl) (hy:X.env.scope.names.lookup y=some .local:=by rfl) (hsw:Vm (.ListComp elt [⟨target,iter,[],0⟩] scope pos) (some (.Name y py)) spos.line X.env=pure true:=by rfl)
  (hix:caps.length=ix.length:=by rfl) (hcapB:(caps.zip ix).all (fun p=>X.N[p.2]?==some p.1)=true:=by rfl) (hs : ∀ x,Zu iter X.env x=pure x:=by intro _;rfl) :
  VS X (.Assign [.Name y py] (.ListComp elt [⟨target,iter,[],0⟩] scope pos) spos) (wSet i (wL (zadr ix own.length Wi G We))) :=
  (quu (wi:=qoc X.K Wi) (g:=qko X.K G) (te:=qcm X.K We) hN hiy hy hsw hc S hi hg he hix hcapB hs).imp fun D σ H ⟨M,env,F,DD,I,h,k⟩=>qmx ⟨M,env,F,_,I,h,fun a vs ds F1 H1 e1 I1 s1 h1 h2 h3 h4 h5 h6 h7=>by
   obtain ⟨J,s⟩:=I1.frz h1 h2 h4 h5;exact k.nx _ _ H1 _ (J.setv (qdo (SqL.of ql) (h6.mono s))) (s1.trans s) h7⟩
def qma (hN:X.N.Nodup) (hc:X.calm=true) (S:CompScope X.env scope caps) (hi:VI X target iter Wi) (hg : ∀ pins s3 H ex,VG (blk X pins scope (caps++own) s3 H ex) target G) (he : ∀ pins s3 H ex,VE (blk X pins scope (caps++own) s3 H ex) elt We)
 (hiy:X.N[i]?=some y:=by rfl) (hy:X.env.scope.names.lookup y=some .local:=by rfl) (hsw:Vm (.ListComp elt [⟨target,iter,[],0⟩] scope pos) (some (.Name y py)) spos.line X.env=pure true:=by rfl)
  (hix:caps.length=ix.length:=by rfl) (hcapB:(caps.zip ix).all (fun p=>X.N[p.2]?==some p.1)=true:=by rfl) (hs : ∀ x,Zu iter X.env x=pure x:=by intro _;rfl) :
  VS X (.Assign [.Name y py] (.ListComp elt [⟨target,iter,[],0⟩] scope pos) spos) (zalz i (zadr ix own.length Wi G We)) :=
  (quu (wi:=qoc X.K Wi) (g:=qko X.K G) (te:=qcm X.K We) hN hiy hy hsw hc S hi hg he hix hcapB hs).imp fun D σ H ⟨M,env,F,DD,I,h,k⟩=>qmx ⟨M,env,F,_,I,h,fun a vs ds F1 H1 e1 I1 s1 h1 h2 h3 h4 h5 h6 h7 =>
   k.nx _ F1 H1 _ (I1.seto h1 h2 h3 h4 h5 h6) s1 h7⟩
end
end
section
section
variable {X:Cx}{tg:Expr}
end
def qdi (H:Hp) (a:Addr):Hp:=fun b=>if b=a then none else H b
structure GoP (a:Addr) (F H F' H':Hp):Prop where
 f:Same F F'
 h:Same (qdi H a) H'
 fh:Same F' H'
 new : ∀ b o,F' b=some o->F b=some o\/H b=none
 fa:F' a=none
def EnvOk.goP {K:Qd}{M:Frm}{F H F' H':Hp}{env:Sto}{σ:St}{i:Nat}{a:Addr}{ps ps':List V}{ds':List Qh} (I:EnvOk K M F H env σ) (m:(gS env i).mut=true) (ea:vS σ i=some (.ref a)) (ha:H a=some (.lst ps))
 (g:GoP a F H F' H') (h':H' a=some (.lst ps')) (hi:Iss K F' ds' ps'):EnvOk K M F' H' (env.set i ((gS env i).upd ds')) σ:=by
  have g1:Go F H F' (upd H' a (.lst ps)):=by
   refine ⟨g.f,fun b o e=>?_,fun b o e=>?_,g.new⟩
   ·by_cases z:b=a
    ·subst z;exact .of (by rw [ql,<- e,ha])
    ·rw [qk z];exact g.h b o (by unfold qdi;rw [if_neg z];exact e)
   ·rw [qk (qm e g.fa)];exact g.fh b o e
  have J:=(I.go g1).chg m ea hi;have e:upd (upd H' a (.lst ps)) a (.lst ps')=H':=by
   rw [qzx]
   funext b
   by_cases z:b=a
   ·subst z;rw [ql,h']
   ·rw [qk z]
  rw [e] at J;exact J
abbrev DP:=List Qh->List Qh->(Qh->List Qh->Prop)->Prop
def zahk (K:Qd) (r:DP):List V->Hp->VK->Prop:=fun vs H Q => ∃ F a ps rest ds0 ds q,vs = .ref a::rest/\Same F H/\F a=none/\H a=some (.lst ps)/\Iss K F ds0 ps/\Iss K F ds rest/\r ds0 ds q /\
 ∀ d v F' H' ps' ds',GoP a F H F' H'->H' a=some (.lst ps')->Iss K F' ds' ps'->Is K F' d v->q d ds'->Q v H'
def NSp (K:Qd) (sp:DP):Sp:=fun vs H Q _=>zahk K sp vs H Q
section
variable {X:Cx}
def zahs (i:Nat) (r:DP) (Wr:WF):WE:=fun env Q=>(gS env i).mut=true/\Wr env fun ds e=>(gS e i).mut=true/\r (gS e i).cnt ds fun d ds'=>Q d (e.set i ((gS e i).upd ds'))
def qV (i:Nat) {x y:Str}{p py pos:Pos}{es:List Expr}{Wr:WF}{k:Nat}{ps:List Str}{sp:DP} (O:OkC X x k ps (NSp X.K sp)) (hr:Room k X.A) (ha:VA X es Wr)
 (hN:X.N[i]?=some y:=by rfl) (hv:Vis X.env.scope y:=by first|exact Yn rfl|exact Zz (Yn rfl)|exact Zz (Zz rfl)) (hd:Nd0 y:=by decide) (hcd:Nd1 y:=by decide)
  (hg:Gl X x:=by rfl) (hdb:Nd0 x:=by decide)
  (he:Qp (.Name y py::es) X.env=(false,eval (.Name y py) X.env)::Qp es X.env:=by rfl) (hpl:(Vc pos (Qp es X.env)).any (·.1)=false:=by rfl):VE X (.Call (.Name x p) (.Name y py::es) [] pos) (zahs i sp Wr) :=
  (zaig O hr (qH (t:=qkq X.K Wr) (qbu hN hv hd hcd) ha he) hg hdb he hpl).imp fun σ H R xx150=>by
   obtain ⟨M,env,F,Q,I,⟨m,h⟩,k⟩:=xx150;obtain ⟨a,vs,ea,g1,g2,g3,g4⟩:=(I.slot i).addr m;have e:qse (NSp X.K sp) [] E0 (zady (tVar i) (qkq X.K Wr)) σ H R=zady (tVar i) (qkq X.K Wr) σ H fun vs H1=>zahk X.K sp vs H1 R:=by unfold qse NSp;simp only [Yy]
   rw [e];refine ⟨_,qav ea,M,env,F,_,I,h,fun ds us F1 H1 e1 I1 s1 i1 h1=>?_⟩;obtain ⟨m1,h1⟩:=h1;obtain ⟨a',vs1,ea',f1,f2,f3,f4⟩:=(I1.slot i).addr m1;rw [ea] at ea';injection ea' with ea';injection ea' with ea';subst ea';exact ⟨F1,a,vs1,us,_,ds,_,rfl,I1.fh,f2,f1,f4,i1,h1,fun d v F2 H2 ps2 ds2 g e2 i2 j2 q=>k d v F2 H2 _ (I1.goP m1 ea f1 g e2 i2) (s1.trans g.f) j2 q⟩
end
def qxo {K:Qd}{F H:Hp}{N:List Str}{a:Addr}{ps:List V}{ds0 ds:List Qh}{vs:List V} (s:Same F H) (fa:F a=none) (ha:H a=some (.lst ps)) (i0:Iss K F ds0 ps) (i:Iss K F ds vs) :
 EnvOk K ⟨qdi H a,H,F⟩ F H (.pen ds0::qam N.tail ds) (start N (.ref a::vs))↔(qam N.tail ds).length+1=(start N (.ref a::vs)).length:=by
  constructor
  ·intro I;exact I.len
  intro hl;refine ⟨by simpa using hl,fun j=>?_,fun i j b hij h1 h2=>?_,.refl _,s,s,fun b o e=>?_,fun b o e => .inl e,fun b o e=>⟨o,e⟩⟩
  ·cases j with
   | zero =>
    exact ⟨a,ps,qqz (N:=N) (vs :=.ref a::vs) (j:=0) rfl,ha,fa,by show qdi H a a=none;unfold qdi;rw [if_pos rfl],⟨_,ha⟩,i0⟩
   | succ j =>
    show SlotOk K _ F H (gS (qam N.tail ds) j) _;unfold qam;rw [qrk];cases h:ds[j]? with
    | none=>rw [qkg];trivial
    | some d =>
     obtain ⟨x,e1,e2⟩:=i.get h;exact ⟨x,qqz (N:=N) (vs :=.ref a::vs) (j:=j+1) (by simpa using e1),e2⟩
  ·have no : ∀ k,(gS (qam N.tail ds) k).mut=false:=fun k=>by
    unfold qam;rw [qrk];cases h:ds[k]? with
    | none=>rw [qkg];rfl
    | some d=>rfl
   cases i with
   | zero=>cases j with
    | zero=>exact absurd rfl hij
    | succ j=>have h2':(gS (qam N.tail ds) j).mut=true:=h2
              rw [no] at h2';cases h2'
   | succ i=>have h1':(gS (qam N.tail ds) i).mut=true:=h1
             rw [no] at h1';cases h1'
  ·have e:qdi H a b=some o:=e;unfold qdi at e;split at e
   ·cases e
   ·exact .of e
section
variable {P:Zr}{w:World}{K:Qd}{mg:Str->Option Value}{base:Heap}
def Def.vokP {x:Str}{st:Stmt}{N ps:List Str}{k:Nat}{sp:DP} (F:Def K mg x st ps) (S:FnScope N ps (defScope st)) (len : ∀ ds0 ds q,sp ds0 ds q->ds.length+1=ps.length) (hNp:ps.length<=N.length)
 (hbody : ∀ (f:Addr) (cdv:Value) (A:Ye) (outer:List Env) (s:Ql) (H:Hp) (E:XK),Room k (A.deeper (Qcn x (defScope st) s.heap.objs.size f cdv)) -> ∀ ds0 ds q,sp ds0 ds q ->
 ∃ W,VSs (qge CX0 P w K mg base N x (defScope st) f cdv A outer s H E).nox (defBody st) W /\
 W { nx:=fun e => ∃ ds',gS e 0 = .pen ds'/\q .none ds',rt:=fun r e => ∃ d ds',r = .val d/\gS e 0 = .pen ds'/\q d ds' } (.pen ds0::qam N.tail ds)):Ok P w K mg base x (k+1) ps (NSp K sp) :=
  F.ok S (fun vs H Q E xx152=>by obtain ⟨F,a,ps',rest,ds0,ds,q,e,_,_,_,_,i,h,_⟩:=xx152;rw [e,Zp,i.len];exact len ds0 ds q h) fun f cdv A outer s H vs Q E hr xx151=>by
   obtain ⟨F,a,ps',rest,ds0,ds,q,e,sm,fa,ha,i0,i,h,kk⟩:=xx151;subst e;obtain ⟨W,hW,hq⟩:=hbody f cdv A outer s H E hr ds0 ds q h;have hl:=len ds0 ds q h;have hlen:(qam N.tail ds).length+1=(start N (.ref a::rest)).length:=by
    simp only [qam,start,Zj,Qe,Vj,List.length_tail,Zp,i.len];omega
   have same : ∀ {e1:Sto}{F1 H1:Hp}{σ1:St}{ds':List Qh},EnvOk K ⟨qdi H a,H,F⟩ F1 H1 e1 σ1->gS e1 0 = .pen ds'->GoP a F H F1 H1 /\ ∃ ps2,H1 a=some (.lst ps2)/\Iss K F1 ds' ps2:=fun {e1 F1 H1 σ1 ds'} I1 e0=>by
    have T:=I1.slot 0;rw [e0] at T;obtain ⟨b,vs2,eb,h1,h2,h3,⟨o,h4⟩,h5⟩:=T;have hb:b=a:=by
     rcases Nat.decEq b a with z|z
     ·have h3':qdi H a b=none:=h3;unfold qdi at h3';rw [if_neg z] at h3';have h4':H b=some o:=h4;rw [h4'] at h3';cases h3'
     ·exact z
    subst hb;exact ⟨⟨I1.f0,I1.bh,I1.fh,I1.new,h2⟩,vs2,h1,h5⟩
   refine ⟨_,hW,⟨qdi H a,H,F⟩,_,F,_,(qxo sm fa ha i0 i).mpr hlen,hq,⟨fun e1 F1 H1 σ1 I1 s1 q1=>?_,fun r v e1 F1 H1 σ1 I1 s1 r1 q1=>?_,fun _ _ _ _ _ _ h=>h.elim,fun _ _ _ _ _ _ h=>h.elim⟩⟩
   ·obtain ⟨ds',e0,q1⟩:=q1;obtain ⟨g,ps2,h1,h5⟩:=same I1 e0;exact kk _ _ F1 H1 ps2 ds' g h1 h5 qok q1
   ·obtain ⟨d,ds',rfl,e0,q1⟩:=q1;obtain ⟨g,ps2,h1,h5⟩:=same I1 e0;exact kk _ _ F1 H1 ps2 ds' g h1 h5 r1 q1
end
end
section
def capP (i0:Nat) (ix:List Nat) (k:Nat) (env:Sto):Sto:=ix.map (fun i=>if i=i0 then .pen (gS env i0).cnt else (gS env i).seen)++Zb k .non
def qzn (i0 j0:Nat) (ix:List Nat) (k:Nat) (Wi:WF) (G:WG) (We:WE):WF:=fun env Q=>Wi env fun ds e0=>ds.length<Qz/\(gS e0 i0).mut=true /\ ∃ P:Nat->List Qh->Sto->Prop,P 0 [] (capP i0 ix k e0) /\
 (∀ i d ys e,ds[i]?=some d->P i ys e->G d e fun e1=>We e1 fun y e2=>P (i+1) (ys++[y]) e2) /\ ∀ ys e,P ds.length ys e -> ∃ ds',gS e j0 = .pen ds'/\Q ys (e0.set i0 ((gS e0 i0).upd ds'))
def EnvOk.capP {K:Qd}{M:Frm}{F H:Hp}{env:Sto}{σ:St}{i0:Nat}{a:Addr} (I:EnvOk K M F H env σ) (m:(gS env i0).mut=true) (ea:vS σ i0=some (.ref a)) (ix:List Nat) (k:Nat) (nd : ∀ j j':Nat,ix[j]?=some i0->ix[j']?=some i0->j=j') :
 EnvOk K ⟨qdi H a,H,F⟩ F H (L2.capP i0 ix k env) (qpn ix k σ) where
  len:=by simp [L2.capP,qpn]
  slot:=fun j=>by
   unfold L2.capP;rw [qrz];cases h:ix[j]? with
   | none=>rw [qkg];trivial
   | some i =>
    show SlotOk K _ F H (if i=i0 then .pen (gS env i0).cnt else (gS env i).seen) _;rw [zahx ix k σ j i h];by_cases z:i=i0
    ·subst z;rw [if_pos rfl];obtain ⟨a',vs,e,h1,h2,h3,h5⟩:=(I.slot i).addr m;rw [ea] at e;injection e with e;injection e with e;subst e;exact ⟨a,vs,ea,h1,h2,by show qdi H a a=none;unfold qdi;rw [if_pos rfl],⟨_,h1⟩,h5⟩
    ·rw [if_neg z];have S:=I.slot i;cases q:gS env i with
     | val d=>rw [q] at S;exact S
     | non=>trivial
     | own ds=>trivial
     | pen ds=>trivial
     | new d=>rw [q] at S;obtain ⟨v,e,j⟩:=S;exact ⟨v,e,j.is qpb⟩
     | exc C=>trivial
     | obj a0 C nm fs=>trivial
  dis:=fun i j b hij h1 h2=>by
   have key : ∀ n,(gS (L2.capP i0 ix k env) n).mut=true->ix[n]?=some i0:=fun n hn=>by
    unfold L2.capP at hn;rw [qrz] at hn;cases h:ix[n]? with
    | none=>rw [h,qkg] at hn;cases hn
    | some c =>
     rw [h] at hn;replace hn:(if c=i0 then Sl.pen (gS env i0).cnt else (gS env c).seen).mut=true:=hn
     by_cases z:c=i0
     ·rw [z]
     ·rw [if_neg z] at hn;cases q:gS env c <;> rw [q] at hn <;> cases hn
   exact absurd (nd i j (key i h1) (key j h2)) hij
  f0 :=.refl _
  fe:=I.fh
  fh:=I.fh
  bh:=fun b o e=>by
   have e:qdi H a b=some o:=e;unfold qdi at e;split at e
   ·cases e
   ·exact .of e
  new:=fun b o e => .inl e
  dom:=fun b o e=>⟨o,e⟩
def EnvOk.penGo {K:Qd}{F H F1 H1:Hp}{a:Addr}{e1:Sto}{σ1:St}{j:Nat}{ds':List Qh} (I1:EnvOk K ⟨qdi H a,H,F⟩ F1 H1 e1 σ1) (e0:gS e1 j = .pen ds'):GoP a F H F1 H1 /\ ∃ ps2,H1 a=some (.lst ps2)/\Iss K F1 ds' ps2:=by
 have T:=I1.slot j;rw [e0] at T;obtain ⟨b,vs2,eb,h1,h2,h3,⟨o,h4⟩,h5⟩:=T;have hb:b=a:=by
  rcases Nat.decEq b a with z|z
  ·have h3':qdi H a b=none:=h3;unfold qdi at h3';rw [if_neg z] at h3';have h4':H b=some o:=h4;rw [h4'] at h3';cases h3'
  ·exact z
 subst hb;exact ⟨⟨I1.f0,I1.bh,I1.fh,I1.new,h2⟩,vs2,h1,h5⟩
def qpu {K:Qd}{ix:List Nat}{n i0 j0:Nat}{Wi:WF}{G:WG}{We:WE}{σ:St}{H:Hp}{R:VK} (nd : ∀ j j':Nat,ix[j]?=some i0->ix[j']?=some i0->j=j') (h:qsc K (qzn i0 j0 ix n Wi G We) σ H R):qye ix n (qoc K Wi) (qko K G) (qcm K We) σ H R:=by
 obtain ⟨M,env,F,Q,I,h,k⟩:=h;refine ⟨M,env,F,_,I,h,fun ds J F1 H1 e1 I1 s1 jt xx154=>?_⟩;obtain ⟨hz,hm,P,p0,turn,fin⟩:=xx154;obtain ⟨a,vs,ea,a1,a2,a3,a4⟩:=(I1.slot i0).addr hm;refine ⟨fun i m ys σ1 H'=>m=ds.length-i/\i<=ds.length /\ ∃ e' F' l,EnvOk K ⟨qdi H1 a,H1,F1⟩ F' H' e' σ1/\Iss K F' l ys/\ys.length=i/\P i l e',⟨ds.length,by simp,Y7 _,capP i0 ix n e1,F1,[],I1.capP hm ea ix n nd,qQ,rfl,p0⟩,?_⟩;rintro i m ys σ1 H2 ⟨hm',hi,e2,F2,l,I2,i2,hl,p2⟩;by_cases he:i=ds.length
 ·subst he;obtain ⟨ds',e0,q⟩:=fin l e2 p2;obtain ⟨g,ps2,h1,h5⟩:=I2.penGo e0;exact .inl ⟨jt.stop H2 (I2.f0.trans I2.fh),by omega,qjq (I1.goP hm ea a1 g h1 h5) (s1.trans g.f) i2 q k⟩
 ·have hlt:i<ds.length:=by omega
  refine .inr ⟨jt.go i H2 (I2.f0.trans I2.fh) hlt,by omega,fun y σ' H' => ∃ e' F' l',EnvOk K ⟨qdi H1 a,H1,F1⟩ F' H' e' σ'/\Iss K F' l' (ys++[y])/\P (i+1) l' e',
   fun y σ' H' xx153=>by obtain ⟨e',F',l',I',i',p'⟩:=xx153;exact ⟨ds.length-(i+1),by omega,rfl,hlt,e',F',l',I',i',by simp [hl],p'⟩,fun x H3 hy=>?_⟩
  obtain ⟨d,F3,hd,g,j⟩:=jt.yld i H2 x H3 F2 I2.f0 I2.fh hlt hy;refine ⟨_,e2,F3,d,_,I2.go g,j,turn i d l e2 hd p2,fun F4 H4 e4 σ4 I4 s4 h4=>⟨_,e4,F4,_,I4,h4,fun d5 v5 F5 H5 e5 I5 s5 i5 h5=>?_⟩⟩;exact ⟨e5,F5,l++[d5],I5,qaa ((i2.mono (g.f.trans s4)).mono s5) (qB i5 qQ),h5⟩
section
variable {X:Cx}{elt target iter:Expr}{scope:Scope}{pos py spos:Pos}{caps own:List Str}{ix:List Nat}{Wi:WF}{G:WG}{We:WE}{i i0 j0:Nat}{y:Str}
def qlt (hc:X.calm=true) (S:CompScope X.env scope caps) (hi:VI X target iter Wi) (hg : ∀ pins s3 H ex,VG (blk X pins scope (caps++own) s3 H ex) target G) (he : ∀ pins s3 H ex,VE (blk X pins scope (caps++own) s3 H ex) elt We)
 (nd : ∀ j j':Nat,ix[j]?=some i0->ix[j']?=some i0->j=j')
 (hix:caps.length=ix.length:=by rfl) (hcapB:(caps.zip ix).all (fun p=>X.N[p.2]?==some p.1)=true:=by rfl) (hs : ∀ x,Zu iter X.env x=pure x:=by intro _;rfl):VF X (.ListComp elt [⟨target,iter,[],0⟩] scope pos) (qzn i0 j0 ix own.length Wi G We) :=
  (qzv (wi:=qoc X.K Wi) (g:=qko X.K G) (te:=qcm X.K We) hc S hi hg he hix hcapB hs).imp fun σ H R h=>qpu nd h
def zafh (hN:X.N.Nodup) (hc:X.calm=true) (S:CompScope X.env scope caps) (hi:VI X target iter Wi) (hg : ∀ pins s3 H ex,VG (blk X pins scope (caps++own) s3 H ex) target G) (he : ∀ pins s3 H ex,VE (blk X pins scope (caps++own) s3 H ex) elt We)
 (nd : ∀ j j':Nat,ix[j]?=some i0->ix[j']?=some i0->j=j')
 (hiy:X.N[i]?=some y:=by rfl) (hy:X.env.scope.names.lookup y=some .local:=by rfl) (hsw:Vm (.ListComp elt [⟨target,iter,[],0⟩] scope pos) (some (.Name y py)) spos.line X.env=pure true:=by rfl)
  (hix:caps.length=ix.length:=by rfl) (hcapB:(caps.zip ix).all (fun p=>X.N[p.2]?==some p.1)=true:=by rfl) (hs : ∀ x,Zu iter X.env x=pure x:=by intro _;rfl) :
  VS X (.Assign [.Name y py] (.ListComp elt [⟨target,iter,[],0⟩] scope pos) spos) (wSet i (wL (qzn i0 j0 ix own.length Wi G We))) :=
  (quu (wi:=qoc X.K Wi) (g:=qko X.K G) (te:=qcm X.K We) hN hiy hy hsw hc S hi hg he hix hcapB hs).imp fun D σ H ⟨M,env,F,DD,I,h,k⟩=>qpu nd ⟨M,env,F,_,I,h,fun a vs ds F1 H1 e1 I1 s1 h1 h2 h3 h4 h5 h6 h7=>by
   obtain ⟨J,s⟩:=I1.frz h1 h2 h4 h5;exact k.nx _ _ H1 _ (J.setv (qdo (SqL.of ql) (h6.mono s))) (s1.trans s) h7⟩
end
def qiq {ix:List Nat}{i0:Nat} (h:(Qm ix.length).all (fun j=>(Qm ix.length).all fun j' => !(ix[j]?==some i0&&ix[j']?==some i0)||j==j')=true) : ∀ j j':Nat,ix[j]?=some i0->ix[j']?=some i0->j=j':=fun j j' h1 h2=>by
 have a:=(Qk.mp h1).1;have b:=(Qk.mp h2).1;have q:=Z4.mp (Z4.mp h j (Zg.mpr a)) j' (Zg.mpr b);simpa [h1,h2] using q
end
section
def ObjOk.obj {P:Zr}{w:World}{H:Hp}{h:Heap}{a:Addr}{o:HO} (x:ObjOk P w H h a o) : ∃ u,h.get? a=some u:=by
 cases o with
 | lst xs=>obtain ⟨_,_,_,_,e⟩:=x;exact ⟨_,e⟩
 | tup xs=>obtain ⟨_,_,_,ob,e,_⟩:=x;exact ⟨_,e⟩
 | dK kvs=>obtain ⟨_,_,_,_,o,_,_,e,_⟩:=x;exact ⟨_,e⟩
 | dT kvs=>obtain ⟨_,_,_,_,o,_,_,e,_⟩:=x;exact ⟨_,e⟩
 | set S n=>obtain ⟨o,_,_,_,e,_⟩:=x;exact ⟨_,e⟩
 | ins C dx fs=>obtain ⟨_,_,_,e,_⟩:=x;exact ⟨_,e⟩
 | own y=>exact x
 | xd fs=>obtain ⟨_,⟨_,_,_,e,_⟩,_⟩:=x;exact ⟨_,e⟩
 | rng lo hi=>obtain ⟨_,_,_,e⟩:=x;exact ⟨_,e⟩
 | frz ob u=>obtain ⟨e,_⟩:=x;exact ⟨_,e⟩
 | tbl ps=>exact ⟨_,(show h.get? a=some _ from x)⟩
 | met f y=>exact ⟨_,(show h.get? a=some _ from x)⟩
 | ext φ=>obtain ⟨_,e,_⟩:=x;exact e
def CX1 (P:Zr) (w:World):CXT:=fun outer H s E e s' => ∃ (ea C:Addr) (a0:Value) (B:Heap) (H':Hp),e = .ref ea/\Heap.FlyingW B outer ea (.ref C) a0 s'.heap/\s'.os=s.os/\Qdv s'.gens /\
 Un (frs outer) [] H H' s.heap s'.heap/\HOk P w H' s'.heap/\(∀ b u,H' b=some u -> ∃ o,B.get? b=some o)/\(∀ b o,s.heap.get? b=some o->b ∉ frs outer -> ∃ o',B.get? b=some o')/\E (.ref C) none H'
section
variable {X:Cx}{pins:List (Addr×Obj)}{σ:St}{H:Hp}{s:Ql}
def land (I:Inv X pins σ H s) (hex:X.ex=[]) (hst:X.stack=X.env::X.outer) (hfr:X.env.frame=some X.env.locals) {h'':Heap}
 (kB : ∀ b o,s.heap.get? b=some o->b ∉ frs X.stack->((∃ o',X.s₀.heap.get? b=some o') \/ ∃ u,H b=some u)->h''.get? b=some o)
 (sl : ∀ b o,s.heap.get? b=some o->(∀ vs,o.data ≠ .fields vs) -> ∃ sl,h''.get? b=some { o with slots:=sl }):Un X.fs [] X.H₀ H X.s₀.heap h''/\HOk X.prog X.w H h'':=by
  have fsOf : ∀ b,b ∈ frs X.stack->b=X.env.locals\/b ∈ X.fs:=fun b hb=>by
   rcases Q1.mp (I.stkSub b hb) with z|z
   ·exact .inl z
   ·exact .inr z
  have old : ∀ b o,X.s₀.heap.get? b=some o->b ∉ X.fs->b ∉ frs X.stack:=fun b o q n hb=>by
   rcases fsOf b hb with z|z
   ·exact absurd (Qt q) (Qcx.mpr (z ▸ I.ok.above))
   ·exact n z
  have nx : ∀ b,b ∉ X.ex:=fun b=>by rw [hex];simp
  have frame : ∀ b ∈ X.fs,∃ o,s.heap.get? b=some o /\ ∀ vs,o.data ≠ .fields vs:=fun b hb=>by
   have hb':b ∈ frs X.stack:=by
    rw [hst];unfold frs;rw [Jr,hfr];exact Qy _ hb
   obtain ⟨_,o,ho,hd⟩:=I.stack.mem hb';exact ⟨o,ho,hd⟩
  refine ⟨⟨fun b o q n hb _=>kB b o (I.base.keep b o q n hb (nx b)) (old b o q hb) (.inl ⟨o,q⟩),fun b o q n hb _=>?_,fun b o q n _=>I.base.free b o q n (nx b),fun b o q _=>?_,I.base.tups,I.base.frzs,I.base.tbls⟩,fun a u e=>?_⟩
  ·obtain ⟨s1,h1⟩:=I.base.slot b o q n hb (nx b);obtain ⟨o',ho',hd⟩:=frame b hb;rw [h1] at ho';cases ho';obtain ⟨s2,h2⟩:=sl b _ h1 hd;exact ⟨s2,h2⟩
  ·obtain ⟨o',h1⟩:=I.base.there b o q (nx b);by_cases hb:b ∈ X.fs
   ·obtain ⟨o2,ho2,hd⟩:=frame b hb;obtain ⟨s2,h2⟩:=sl b _ ho2 hd;exact ⟨_,h2⟩
   ·exact ⟨o',kB b o' h1 (old b o q hb) (.inl ⟨o,q⟩)⟩
  ·have nf : ∀ b v,H b=some v->b ∉ frs X.stack:=fun b v eb hb=>by rw [I.stkFree b hb] at eb;cases eb
   refine (I.hok a u e).stay (fun c ob hc z=>?_) (fun c z=>z) (fun c xs z=>z);rcases hc with hc|hc
   ·subst hc;exact kB _ _ z (nf _ _ e) (.inr ⟨_,e⟩)
   ·exact kB _ _ z (nf _ _ hc) (.inr ⟨_,hc⟩)
end
def qvg (X:Cx) (E:XK):Prop := ∀ (pins:List (Addr×Obj)) (σ:St) (H:Hp) (s:Ql) (h':Heap) (e C:Addr) (args:List Value),Inv X pins σ H s->Heap.MadeExcOf s.heap h' e (.ref C) args->E (.ref C) none H->X.xe (.ref e) { s with heap:=h' }
section
variable {P:Zr}{w:World}{K:Qd}{mg:Str->Option Value}{base:Heap}{N:List Str}{qual:Str}{scope:Scope}{f:Addr}{cd:Value}{A:Ye}{outer:List Env}{s:Ql}{H:Hp}{E:XK}
def zacd:qvg (qge (CX1 P w) P w K mg base N qual scope f cd A outer s H E) E:=by
 intro pins σ H1 s1 h' e C args I hx q;have hin : ∀ env ∈ (qge (CX1 P w) P w K mg base N qual scope f cd A outer s H E).stack,∀ b,env.frame=some b->b ∈ frs (qge (CX1 P w) P w K mg base N qual scope f cd A outer s H E).stack:=fun env he b hb=>Qdk.mpr ⟨env,he,hb⟩;refine wpAny_leaves_madeW (base:=Qiq s1.heap (frs (qge (CX1 P w) P w K mg base N qual scope f cd A outer s H E).stack)) (h:=s1.heap) (s:={ s1 with heap:=h' }) I.ok.frames rfl (fun b o z=>Qgq _ z) (PySem.W.funFrames_hide I.stack hin) hx fun h'' t x1 x2 x3 x4=>?_;have kB : ∀ b o,s1.heap.get? b=some o->b ∉ frs (qge (CX1 P w) P w K mg base N qual scope f cd A outer s H E).stack->h''.get? b=some o:=fun b o z n=>x1.1 b o (Qas _ z n);obtain ⟨u,ok⟩:=land I rfl rfl rfl (fun b o z n _=>kB b o z n) (fun b o z d=>x4 b o (hx.keeps b o z) d);have nf : ∀ b v,H1 b=some v->b ∉ frs (qge (CX1 P w) P w K mg base N qual scope f cd A outer s H E).stack:=fun b v eb hb=>by rw [I.stkFree b hb] at eb;cases eb
 refine ⟨e,C,.ref t,_,H1,rfl,x1,I.os,I.bare,u,ok,fun b v eb=>?_,fun b o z n=>?_,q⟩
 ·obtain ⟨o,ho⟩:=(I.hok b v eb).obj;exact ⟨o,Qas _ ho (nf b v eb)⟩
 ·obtain ⟨o',ho'⟩:=I.base.there b o z (by simp [qge]);refine ⟨o',Qas _ ho' fun hb=>?_⟩;rcases Q1.mp (I.stkSub b hb) with y|y
  ·exact absurd (Qt z) (Qcx.mpr (y ▸ I.ok.above))
  ·exact n y
def zacx:qlm (CX1 P w) (qge (CX1 P w) P w K mg base N qual scope f cd A outer s H E) E:=by
 intro pins σ H1 s1 e s' I hx;obtain ⟨ea,C,a0,B,H',rfl,fl,os,bare,u,ok,tB,pB,q⟩:=hx;have I':Inv (qge (CX1 P w) P w K mg base N qual scope f cd A outer s H E) pins σ H' s':=I.call' os u ok bare fun b hb=>nomatch hb
 refine wpAny_leaves_onW I.ok.frames rfl fl fun h'' x1 x4=>?_;have old : ∀ b o,s.heap.get? b=some o->b ∉ frs outer -> ∃ o',B.get? b=some o':=fun b o z n=>by
  obtain ⟨o',ho'⟩:=I.base.there b o z (by simp [qge]);refine pB b o' ho' fun hb=>?_;rcases Q1.mp (I.stkSub b hb) with y|y
  ·exact absurd (Qt z) (Qcx.mpr (y ▸ I.ok.above))
  ·exact n y
 have kB : ∀ b o,s'.heap.get? b=some o->b ∉ frs (qge (CX1 P w) P w K mg base N qual scope f cd A outer s H E).stack->((∃ o',s.heap.get? b=some o') \/ ∃ v,H' b=some v)->h''.get? b=some o:=fun b o z n t=>by
  obtain ⟨o',ho'⟩ : ∃ o',B.get? b=some o':=by
   rcases t with ⟨o',t⟩|⟨v,t⟩
   ·exact old b o' t fun hb=>n (Qy _ hb)
   ·exact tB b v t
  have:=fl.1 b o' ho';rw [z] at this;cases this;exact x1.1 b _ ho'
 obtain ⟨u',ok'⟩:=land I' rfl rfl rfl kB (fun b o z d=>x4 b o z d);exact ⟨ea,C,a0,B,H',rfl,x1,I'.os,I'.bare,u',ok',tB,old,q⟩
end
end
section
def qyd (K:Qd) (C:Addr):List Value:=match K.lookup C with
 | some ⟨_,_,.cls cd,_⟩=>cd.mro
 | _=>[]
def qki {K:Qd}{h:Heap}{C:Addr}{bmB:List Value}{newId:String} (X:K.In h) (q:Yv K C bmB newId=true) :
 ∃ bm N nm qn bs hd sn sub ab col dd k0 k1 k2 k3 k5 mN,h.get? C=some (Qaw nm qn C N bs bm hd sn sub ab col dd k0 k1 k2 k3 k5 newId)/\h.Ns N mN/\mN "__init__" = none/\Qjj h bmB bm/\qyd K C = .ref C::bm:=by
  unfold Yv at q;split at q
  case h_2=>cases q
  rename_i dd c sl ho;split at q
  case h_2=>cases q
  rename_i C' bm k0 k1 k2 k3 n k5 hm hs;simp only [Jy,beq_iff_eq,Bool.not_eq_true'] at q;obtain ⟨⟨⟨⟨⟨e1,e2⟩,hdel⟩,ht⟩,hok⟩,hni⟩:=q;have hC:=X _ _ ho;have hs':sl = #[k0,k1,k2,k3,some (.builtin n),k5]:=Array.ext' hs;cases c;dsimp only at hm hdel hok hni;subst e1 e2 hm hdel hs';exact ⟨bm,_,_,_,_,_,_,_,_,_,dd,k0,k1,k2,k3,k5,_,hC,.of_isNs (PySem.W.isNs_of_in X hok),PySem.W.nsMap_none_of_in X hok hni,PySem.W.tail_of_in X ht,by unfold qyd;rw [ho]⟩
abbrev qmm:List Value:=[.type "ValueError",.type "Exception",.type "BaseException",.type "object"]
def zana (C:Addr) (E:XK) (t:TA):TS:=fun _ σ H=>t σ H fun vs H'=>vs.length<=Qz/\E (.ref C) none H'
section
variable {X:Cx}{x:Str}{C:Addr}{E:XK}{e:Expr}{es:List Expr}{t:TA}{np cpos pos:Pos}
def zaez (hT:qvg X E) (hc:X.calm=true) (hg:Gl X x) (hm:X.mg x=some (.ref C)) (hq:Yv X.K C qmm "ValueError.__new__" = true) (ha:PA X (e::es) t)
 (hdb:Nd0 x:=by decide) (he:Qp (e::es) X.env=(false,eval e X.env)::Qp es X.env:=by rfl) (hpl:(Vc cpos (Qp es X.env)).any (·.1)=false:=by rfl) :
  PS X (.Raise (some (.Call (.Name x np) (e::es) [] cpos)) none pos) (zana C E t):=by
  intro pins s σ H D I h;obtain ⟨bm,N,nm,qn,bs,hd,sn,sub,ab,col,dd,k0,k1,k2,k3,k5,mN,hC,hN,hni,T,_⟩:=qki I.mod.kin hq;refine wpAny_Raise_call_subU (C:=C) (nm:=nm) (q:=qn) (N:=N) (bs:=bs) (bm:=bm) (hdct:=hd) (sn:=sn) (sub:=sub) (ab:=ab) (col:=col) (dd:=dd) (k0:=k0) (k1:=k1) (k2:=k2) (k3:=k3) (k5:=k5)
   V3 (by decide) V3 (mN:=mN) (T.hasType V3.hasBase) (I.ok.hd hc) (by rw [he];show (false||(Vc cpos (Qp es X.env)).any (·.1))=false;rw [hpl];rfl) hni
   (qjt I hg hm ⟨rfl,?_⟩ hdb)
  have h1:=ha cpos pins s σ H _ I h;rw [he] at h1 ⊢;refine Qfr (thn h1 fun us s1 xx156=>?_);obtain ⟨vs,H1,I1,r,q⟩:=xx156;exact ⟨rfl,r.length ▸ q.1,I1.bk _ _ hC,hN.keeps I1.bk,T.keeps I1.bk,fun h' ea hx=>hT pins σ H1 s1 h' ea C us I1 hx q.2⟩
end
end
section
section
variable {M:Model}{A:Ye}{E:Value->Ql->Prop}{C N C' N':Addr}{nm nm' q q':Str}{bs bm bs' bm':List Value}
def qou {h:Heap}{g:Array Qim}{d:Drawn}{t:Nat}{os:OsState}{e:Addr}{oe:Obj}{Q:Bool->Ql->Prop}{hdct sn sub ab col dd k0 k1 k2 k3 k5 newId hdct' sn' sub' ab' col' dd' k0' k1' k2' k3' k5' newId'}
 (hC:h.get? C=some (Qaw nm q C N bs bm hdct sn sub ab col dd k0 k1 k2 k3 k5 newId)) (hC':h.get? C'=some (Qaw nm' q' C' N' bs' bm' hdct' sn' sub' ab' col' dd' k0' k1' k2' k3' k5' newId'))
 (he:h.get? e=some oe) (hcls:oe.cls = .ref C) (hbase:bm'.contains (.type "BaseException")=true) (b:Bool) (hb:(Y1 C::bm).contains (.ref C')=b)
 (hq:Q b ⟨h,g,d,t,os⟩):wpAny M A (excMatches (.ref e) (.ref C')) Q E ⟨h,g,d,t,os⟩:=by
  have hcB:(Y1 C'::bm').contains (.type "BaseException")=true:=by rw [Qbj,hbase,Bool.or_true]
  have f:=tc_notTuple;unfold excMatches
  repeat (first|(with_reducible refine Vx he ?_;rw [hcls])|with_reducible refine Vx hC' ?_|(with_reducible refine Qax hC' ?_;rw [hcB])|(with_reducible refine Qax hC ?_;rw [hb])|wp_step)
  cases b <;> (wp_walk;exact hq)
end
section
variable {X:Cx}{pins:List (Addr×Obj)}{σ:St}{H1 H2:Hp}{s1 s':Ql}{B h5:Heap}
def Inv.flown (I:Inv X pins σ H1 s1) (os:s'.os=s1.os) (bare:Qdv s'.gens) (u:Un (frs X.stack) [] H1 H2 s1.heap s'.heap) (ok:HOk X.prog X.w H2 s'.heap)
 (tB : ∀ b v,H2 b=some v -> ∃ o,B.get? b=some o) (pB : ∀ b o,s1.heap.get? b=some o->b ∉ frs X.stack -> ∃ o',B.get? b=some o') (fl:B.StaysIn s'.heap) (st:B.StaysIn h5) (up:s'.heap.UpToSlots h5) (hst : ∀ b ∈ X.fs,b ∈ frs X.stack) :
 Inv X pins σ H2 { s' with heap:=h5 }:=by
  obtain ⟨hh,g',d',t',o'⟩:=s';have e:o'=s1.os:=os;subst e;have inB : ∀ b o,B.get? b=some o->hh.get? b=some o:=fl;have kB : ∀ b o,hh.get? b=some o->(∃ o',B.get? b=some o')->h5.get? b=some o:=fun b o z xx157=>by
   obtain ⟨o',t⟩:=xx157;have:=inB b o' t;rw [z] at this;cases this;exact st b _ t
  have nofr : ∀ b,b ∈ frs X.stack -> ∃ o,s1.heap.get? b=some o /\ ∀ vs,o.data ≠ .fields vs:=fun b hb=>by
   obtain ⟨_,o,ho,hd⟩:=I.stack.mem hb;exact ⟨o,ho,hd⟩
  have sl : ∀ b o,b ∈ frs X.stack->s1.heap.get? b=some o->H1 b=none -> ∃ sl,h5.get? b=some { o with slots:=sl }:=fun b o hb z n=>by
   obtain ⟨o2,ho2,hd⟩:=nofr b hb;rw [z] at ho2;cases ho2;obtain ⟨x1,y1⟩:=u.any z n (by simp);obtain ⟨x2,y2⟩:=up b _ y1 hd;exact ⟨x2,y2⟩
  show Inv X pins σ H2 { s1 with heap:=h5,gens:=g',drawn:=d',toks:=t' };refine Inv.step (s:=s1) (ch:=[]) I (fun b z=>nomatch z) (fun b o hL hb _ z n=>?_) (fun b o hL hb _ z n=>sl b o (hst b hb) z n) (fun b o _ z n=>u.free b o z n (by simp)) (fun b o _ z=>?_) u.tups u.frzs u.tbls (fun m hm=>?_) (fun b v eb=>?_) bare
  ·have nf:b ∉ frs X.stack:=fun hq=>(Q1.mp (I.stkSub b hq)).elim hL hb;exact kB b o (u.keep b o z n nf (by simp)) (pB b o z nf)
  ·by_cases hq:b ∈ frs X.stack
   ·obtain ⟨x,y⟩:=sl b o hq z (I.stkFree b hq);exact ⟨_,y⟩
   ·obtain ⟨o',t⟩:=pB b o z hq;exact ⟨o',st b o' t⟩
  ·obtain ⟨o,es,ep,ho,r⟩:=hm;by_cases hq:X.env.locals ∈ frs X.stack
   ·obtain ⟨x,y⟩:=sl _ o hq ho I.free;exact ⟨_,es,ep,y,r⟩
   ·exact ⟨o,es,ep,kB _ o (u.keep _ o ho I.free hq (by simp)) (pB _ o ho hq),r⟩
  ·refine (ok b v eb).stay (fun c ob hc z=>?_) (fun c z=>z) (fun c xs z=>z);rcases hc with hc|hc
   ·subst hc;exact kB _ _ z (tB _ _ eb)
   ·exact kB _ _ z (tB _ _ hc)
end
section
variable {X:Cx}{pins:List (Addr×Obj)}{σ:St}{H:Hp}{s:Ql}
def Inv.caught {C ea:Addr}{oe:Obj}{ws:Array Value} (I:Inv X pins σ H s) (hn:H ea=none) (he:s.heap.get? ea=some oe) (hc:oe.cls = .ref C) (hd:oe.data = .fields ws) (hpn : ∀ p ∈ X.pn++pins,p.1≠ea)
 (h0 : ∀ b o,X.s₀.heap.get? b=some o->b ∉ X.ex->b≠ea):Inv X pins σ (upd H ea (qow C ea)) s:=by
  have up : ∀ b,b≠ea->upd H ea (qow C ea) b=H b:=fun b hb=>by unfold upd;rw [if_neg hb]
  have neT : ∀ b v,H b=some v->upd H ea (qow C ea) b=some v:=fun b v e=>by
   rw [up b fun z=>by rw [z,hn] at e;cases e];exact e
  have nL:X.env.locals≠ea:=fun z=>by
   obtain ⟨m,⟨o,es,ep,ho,ho2,_⟩,_⟩:=I.loc;rw [z,he] at ho;cases ho;rw [hd] at ho2;cases ho2
  have nC : ∀ x c,X.env.cells.lookup x=some c->c≠ea:=fun x c e z=>by
   obtain ⟨v,o,ho,ho2⟩:=I.cell x c e;rw [z,he] at ho;cases ho;rw [hd] at ho2;cases ho2
  refine ⟨I.ok,I.os,I.bare,⟨I.base.keep,I.base.slot,fun b o e n hx=>?_,I.base.there,fun b xs e=>neT _ _ (I.base.tups b xs e),fun b o xs e=>neT _ _ (I.base.frzs b o xs e),fun b ps e=>?_⟩,I.loc,I.cell,?_,fun x c e=>?_,fun p hp=>?_,fun b v e=>?_,I.len⟩
  ·rw [up b (h0 b o e hx)];exact I.base.free b o e n hx
  ·obtain ⟨more,q,gm⟩:=I.base.tbls b ps e;exact ⟨more,neT _ _ q,gm.mono fun b o u z=>neT _ _ z⟩
  ·rw [up _ nL];exact I.free
  ·rw [up _ (nC x c e)];exact I.freeC x c e
  ·obtain ⟨a1,a2,a3⟩:=I.pin p hp;exact ⟨a1,(up _ (hpn p hp)).trans a2,a3⟩
  ·by_cases z:b=ea
   ·subst z;have e':qow C b=v:=by unfold upd at e;rw [if_pos rfl] at e;exact Qx e
    subst e';exact ⟨⟨oe,he,hc⟩,⟨oe,he⟩,fun h1 h2 xx158 k=>by obtain ⟨o,q1,q2⟩:=xx158;exact ⟨o,k o q1,q2⟩⟩
   ·rw [up b z] at e;exact (I.hok b v e).stay (fun c ob _ q=>q) (fun c q=>neT _ _ q) (fun c xs q=>neT _ _ q)
end
end
section
section
variable {X:Cx}{pins pins0:List (Addr×Obj)}{σ:St}{H:Hp}{s:Ql}
abbrev Cx.inX (X:Cx) (A':Ye) (xe':Value->Ql->Prop):Cx:={ X with A:=A',calm:=false,xe:=xe' }
abbrev Cx.inT (X:Cx) (pn':List (Addr×Obj)) (xe':Value->Ql->Prop):Cx:={ X with pn:=pn',xe:=xe' }
def Inv.toX {A':Ye}{xe':Value->Ql->Prop} (I:Inv X pins σ H s) (hA:A'.frames=X.A.frames):Inv (X.inX A' xe') pins σ H s :=
 ⟨⟨I.ok.mod,I.ok.kind,I.ok.glob,I.ok.blt,I.ok.above,I.ok.inj,I.ok.has,I.ok.cab,(fun z=>by cases z),hA.trans I.ok.frames,I.ok.stk,I.ok.exf,I.ok.bs,I.ok.bsz,I.ok.noex,I.ok.exfs,I.ok.funs,I.ok.frf⟩,
  I.os,I.bare,I.base,I.loc,I.cell,I.free,I.freeC,I.pin,I.hok,I.len⟩
def Inv.ofX {A':Ye}{xe':Value->Ql->Prop} (ok:X.Ok) (I:Inv (X.inX A' xe') pins σ H s):Inv X pins σ H s :=
 ⟨ok,I.os,I.bare,I.base,I.loc,I.cell,I.free,I.freeC,I.pin,I.hok,I.len⟩
def Inv.toT {xe':Value->Ql->Prop} (I:Inv X pins0 σ H s):Inv (X.inT (X.pn++pins0) xe') [] σ H s :=
 ⟨⟨I.ok.mod,I.ok.kind,I.ok.glob,I.ok.blt,I.ok.above,I.ok.inj,I.ok.has,I.ok.cab,I.ok.hd,I.ok.frames,I.ok.stk,I.ok.exf,I.ok.bs,I.ok.bsz,I.ok.noex,I.ok.exfs,I.ok.funs,I.ok.frf⟩,
  I.os,I.bare,I.base,I.loc,I.cell,I.free,I.freeC,fun p hp=>I.pin p (by simpa using hp),I.hok,I.len⟩
def Inv.ofT {xe':Value->Ql->Prop} (ok:X.Ok) (I:Inv (X.inT (X.pn++pins0) xe') pins σ H s):Inv X pins0 σ H s :=
 ⟨ok,I.os,I.bare,I.base,I.loc,I.cell,I.free,I.freeC,fun p hp=>I.pin p (Ya _ hp),I.hok,I.len⟩
def qpw {M:Model}{A:Ye}{E:Value->Ql->Prop}{i:Nat}{n:Str}{pos:Pos}{Q:Unit->Ql->Prop} (I:Inv X pins σ H s) (hN:X.N.Nodup) (hi:X.N[i]?=some n) (hl:X.env.scope.names.lookup n=some .local)
 (h : ∀ s',Inv X pins (σ.set i none) H s'->Q () s'):wpAny M A (do Qio X.env n .none;unbindBehindTheSuite X.env n pos) Q E s:=by
  obtain ⟨m,hn,hl'⟩:=id I.loc;have hcls:(X.env.scope.kind == .class||(X.env.scope.kind == .module&&X.env.locals != X.env.globals))=false:=by rw [I.ok.kind];rfl
  refine wpAny_nameGoes_keeps hl hn hcls fun h' v hn' hs=>h _ ?_;have lt : ∀ b o,X.s₀.heap.get? b=some o->b≠X.env.locals:=fun b o e=>Q5 (Zs (Qt e) I.ok.above);refine ⟨I.ok,I.os,I.bare,⟨fun b o e a c d=>(hs.2 b (lt b o e)).trans (I.base.keep b o e a c d),fun b o e a c d=>?_,I.base.free,fun b o e d=>?_,I.base.tups,I.base.frzs,I.base.tbls⟩,⟨_,hn',fun j y v' e1 e2 e3=>?_⟩,fun y c e=>?_,I.free,I.freeC,fun p hp=>?_,fun b ob e=>?_,by simpa using I.len⟩
  ·obtain ⟨sl,e1⟩:=I.base.slot b o e a c d;exact ⟨sl,(hs.2 b (lt b o e)).trans e1⟩
  ·obtain ⟨o',e1⟩:=I.base.there b o e d;exact ⟨o',(hs.2 b (lt b o e)).trans e1⟩
  ·have hj:j≠i:=fun z=>by
    subst z;rw [Qab] at e2;split at e2
    ·split at e2 <;> cases e2
    ·exact absurd rfl (by assumption)
   rw [Qcl (Z1 hj)] at e2;obtain ⟨u',r',q⟩:=hl' j y v' e1 e2 e3;refine ⟨u',r',?_⟩;rcases q with ⟨k,e⟩|⟨k,c,e,z⟩
   ·have:y≠n:=fun e=>hj (qra hN e1 (e ▸ hi));exact .inl ⟨k,by simp [this,e]⟩
   ·exact .inr ⟨k,c,e,z.sameBut hs (I.cne y c e)⟩
  ·obtain ⟨w',z⟩:=I.cell y c e;exact ⟨w',z.sameBut hs (I.cne y c e)⟩
  ·obtain ⟨e,n,ne,nf,d⟩:=I.pin p hp;exact ⟨(hs.2 p.1 ne).trans e,n,ne,nf,d⟩
  ·refine (I.hok b ob e).stay (fun c w' hc q=>(hs.2 c ?_).trans q) (fun _ q=>q) fun _ _ q=>q;rintro rfl;rcases hc with rfl|hc
   ·rw [I.free] at e;cases e
   ·rw [I.free] at hc;cases hc
end
def qir (X:Cx) (σ:St) (E:XK):Prop := ∀ (pins:List (Addr×Obj)) (H:Hp) (s:Ql) (e:Value) (s':Ql),Inv X pins σ H s->CX1 X.prog X.w X.stack H s E e s'->X.xe e s'
def zadt (K:Qd) (C C':Addr):Prop:=Yv K C qmm "ValueError.__new__" = true/\(qyd K C).contains (.ref C')=true
def qzc (K:Qd) (C':Addr) (i:Nat) (ts:TS) (D:Ends):St->XK:=fun σ c _ H => ∃ C,c = .ref C/\zadt K C C' /\ ∀ ea,H ea=none ->
 ts { nx:=fun σ2 H3=>D.nx (σ2.set i none) H3,rt:=D.rt,bk:=fun σ2 H3=>D.bk (σ2.set i none) H3,ct:=fun σ2 H3=>D.ct (σ2.set i none) H3 } (σ.set i (some (.ref ea))) (upd H ea (qow C ea))
def tTry (K:Qd) (C':Addr) (i:Nat) (tb:(St->XK)->TS) (ts:TS):TS:=fun D σ H=>tb (qzc K C' i ts D) D σ H
section
variable {X:Cx}{body suite:List Stmt}{b₀:Stmt}{x n:Str}{np hpos pos:Pos}{C':Addr}{i:Nat}{tb:(St->XK)->TS}{ts:TS}
def zant (hst:X.stack=X.env::X.outer) (hfr:X.env.frame=some X.env.locals) (hN:X.N.Nodup) (hi:X.N[i]?=some n) (hl:X.env.scope.names.lookup n=some .local) (hg:Gl X x) (hm:X.mg x=some (.ref C'))
 (hq:Yv X.K C' qmm "ValueError.__new__" = true) (hb : ∀ pn xe Ex,(∀ σ,qir (X.inT pn xe) σ (Ex σ))->PSs (X.inT pn xe) body (tb Ex)) (hs : ∀ A xe,PSs (X.inX A xe) (b₀::suite) ts) (hd:Nd0 x:=by decide) :
  PS X (.Try body [.ExceptHandler (some (.Name x np)) (some n) (b₀::suite) hpos] [] [] pos) (tTry X.K C' i tb ts):=by
  intro pins s σ H D I h;have ok:=I.ok;refine wpAny_Try_except (Yw (hb (X.pn++pins) (fun e s' => ∃ σ1 H1 s1,Inv X pins σ1 H1 s1/\CX1 X.prog X.w X.stack H1 s1 (qzc X.K C' i ts D σ1) e s') (qzc X.K C' i ts D) (fun σ1 pins1 H1 s1 e s' I1 c=>⟨σ1,H1,s1,I1.ofT ok,c⟩) [] s σ H D I.toT h) (fun f s1 q=>?_) fun e s' q=>?_)
  ·cases f with
   | next=>obtain ⟨σ',H',I',q⟩:=q;exact Q9 ⟨σ',H',I'.ofT ok,q⟩
   | brk=>obtain ⟨σ',H',I',q⟩:=q;exact ⟨σ',H',I'.ofT ok,q⟩
   | cont=>obtain ⟨σ',H',I',q⟩:=q;exact ⟨σ',H',I'.ofT ok,q⟩
   | ret u=>obtain ⟨v,σ',H',I',r,q⟩:=q;exact ⟨v,σ',H',I'.ofT ok,r,q⟩
  obtain ⟨σ1,H1,s1,I1,ea,C,a0,B,H2,rfl,fl,os,bare,u,okH,tB,pB,C2,e2,⟨q1,q2⟩,q3⟩:=q;cases e2;have sub : ∀ b ∈ X.fs,b ∈ frs X.stack:=fun b hb=>by
   rw [hst];unfold frs;rw [Jr,hfr];exact Qy _ hb
  have hn2:H2 ea=none:=by
   rcases z:H2 ea with _|v
   ·rfl
   ·obtain ⟨o,ho⟩:=tB _ _ z;rw [fl.2.1] at ho;cases ho
  refine wpAny_looks_onW (ok.frames.trans (by rw [hst])) hfr (hst ▸ fl) fun h4 held4 up4=>?_;refine wpAny_landsW held4 fun h5 fl5 up5=>?_;have I5:Inv X pins σ1 H2 { s' with heap:=h5 }:=I1.flown os bare u okH tB pB fl.1 fl5.1 (up4.trans up5) sub;obtain ⟨ob,hob,hobc⟩:=fl5.there;obtain ⟨bm,N,nm,qn,bs,hd1,sn,sb,ab,col,dd,k0,k1,k2,k3,k5,mN,hC,hNs,hni,T,hmr⟩:=qki I5.kIn q1;obtain ⟨bm',N',nm',qn',bs',hd1',sn',sb',ab',col',dd',k0',k1',k2',k3',k5',mN',hC',hNs',hni',T',hmr'⟩:=qki I5.kIn hq;refine wpAny_handleBy_cons (codeAny_handlers_test (qjt (X:=X.inX (X.A.mark (some (.ref ea))) X.xe) (I5.toX rfl) hg hm ?_ hd)) (by intro q;cases q);refine qou hC hC' hob hobc (T'.hasType V3.hasBase) true (hmr ▸ q2) (codeAny_handlers_suite_as ?_);refine lands_againW fl5 fun h6 fl6 up6=>?_;have I6:Inv X pins σ1 H2 { s' with heap:=h6 }:=I1.flown os bare u okH tB pB fl.1 fl6.1 ((up4.trans up5).trans up6) sub;obtain ⟨oe,ws,hoe,hoec,hoed,hoe0⟩:=fl6.first;have notB : ∀ b o,B.get? b=some o->b≠ea:=fun b o z y=>by rw [y,fl.2.1] at z;cases z
  have notF : ∀ b,b ∈ frs X.stack->b≠ea:=fun b hb y=>by
   obtain ⟨_,o,ho,hd⟩:=I6.stack.mem hb;rw [y,hoe] at ho;cases ho;exact hd _ hoed
  have not1 : ∀ b o,s1.heap.get? b=some o->b≠ea:=fun b o z=>by
   by_cases hb:b ∈ frs X.stack
   ·exact notF b hb
   ·obtain ⟨o',t⟩:=pB b o z hb;exact notB b o' t
  have I7:Inv X pins σ1 (upd H2 ea (qow C ea)) { s' with heap:=h6 }:=I6.caught hn2 hoe hoec hoed (fun p hp=>not1 _ _ (I1.pin p hp).1) fun b o z hx=>by
   obtain ⟨o',ho'⟩:=I1.base.there b o z hx;exact not1 b o' ho'
  refine qfr (X:=X) I7 hN hi (.inl hl) (show RelV (.ref ea) (.ref ea) from rfl) (fun s8 I8=>?_) (.inr hl);refine Yw (hs (X.A.mark (some (.ref ea))) _ pins s8 _ _ _ (I8.toX rfl) (q3 ea hn2)) (fun f s9 q=>?_) fun _ _ z=>z;cases f with
  | next=>obtain ⟨σ',H',I',q⟩:=q;exact qpw (X:=X) (I'.ofX ok) hN hi hl fun s' I''=>⟨_,H',I'',q⟩
  | brk=>obtain ⟨σ',H',I',q⟩:=q;exact qpw (X:=X) (I'.ofX ok) hN hi hl fun s' I''=>⟨_,H',I'',q⟩
  | cont=>obtain ⟨σ',H',I',q⟩:=q;exact qpw (X:=X) (I'.ofX ok) hN hi hl fun s' I''=>⟨_,H',I'',q⟩
  | ret u=>obtain ⟨v,σ',H',I',r,q⟩:=q;exact qpw (X:=X) (I'.ofX ok) hN hi hl fun s' I''=>⟨v,_,H',I'',r,q⟩
end
end
section
section
variable {K:Qd}{M:Frm}{F H:Hp}{env:Sto}{σ:St}
def EnvOk.sets (I:EnvOk K M F H env σ) {i:Nat}{s:Sl}{v:Option V} (m:s.mut=false) (h:SlotOk K M F H s v):EnvOk K M F H (env.set i s) (σ.set i v) where
 len:=by rw [Yp,Yp];exact I.len
 slot:=fun j=>by
  rw [qdr,qoh,I.len];split
  ·exact h
  ·exact I.slot j
 dis:=fun j k a hjk h1 h2 h3 h4=>by
  rw [qdr] at h1 h2;rw [qoh] at h3 h4;rw [I.len] at h1 h2;split at h1
  ·rw [m] at h1;cases h1
  ·rename_i z1;split at h2
   ·rw [m] at h2;cases h2
   ·rename_i z2;rw [if_neg z1] at h3;rw [if_neg z2] at h4;exact I.dis j k a hjk h1 h2 h3 h4
 f0:=I.f0
 fe:=I.fe
 fh:=I.fh
 bh:=I.bh
 new:=I.new
 dom:=I.dom
def EnvOk.caught (I:EnvOk K M F H env σ) {i:Nat}{C ea:Addr} (h:H ea=none):EnvOk K M (upd F ea (qow C ea)) (upd H ea (qow C ea)) (env.set i (.exc C)) (σ.set i (some (.ref ea)))/\Same F (upd F ea (qow C ea)):=by
 have hf:F ea=none:=qF I.fh h;have g:Go F H (upd F ea (qow C ea)) (upd H ea (qow C ea)):=⟨qbx hf,qbx h,fun b o e=>by
  by_cases z:b=ea
  ·subst z;rw [ql] at e ⊢;exact .of e
  ·rw [qk z] at e ⊢;exact I.fh b o e,fun b o e=>by
  by_cases z:b=ea
  ·subst z;exact .inr h
  ·rw [qk z] at e;exact .inl e⟩
 exact ⟨(I.go g).sets rfl ⟨ea,rfl,ql⟩,g.f⟩
end
abbrev WX:=Addr->Sto->Prop
def ExOk (K:Qd) (M:Frm) (F:Hp) (Wx:WX) (Ex:St->XK):Prop := ∀ C env' F' H' σ',EnvOk K M F' H' env' σ'->Same F F'->Wx C env'->Ex σ' (.ref C) none H'
def ExOk.mono {K:Qd}{M:Frm}{F F':Hp}{Wx:WX}{Ex:St->XK} (h:ExOk K M F Wx Ex) (s:Same F F'):ExOk K M F' Wx Ex:=fun C e f g i j k=>h C e f g i j (s.trans k)
def zanx (K:Qd) (Ex:St->XK) (W:WX->WE):TE:=fun σ H R => ∃ M env F Wx Q,EnvOk K M F H env σ/\W Wx env Q/\ExOk K M F Wx Ex /\ ∀ d v F' H' env',EnvOk K M F' H' env' σ->Same F F'->Is K F' d v->Q d env'->R v H'
def qzb (K:Qd) (Ex:St->XK) (W:WX->WS):TS:=fun D σ H => ∃ M env F Wx DD,EnvOk K M F H env σ/\W Wx DD env/\ExOk K M F Wx Ex/\EndsOk K M F DD D
def VEX (X:Cx) (Ex:St->XK) (e:Expr) (W:WX->WE):Prop:=PE X e (zanx X.K Ex W)
def VSX (X:Cx) (Ex:St->XK) (st:Stmt) (W:WX->WS):Prop:=PS X st (qzb X.K Ex W)
def qxs (X:Cx) (Ex:St->XK) (st:List Stmt) (W:WX->WS):Prop:=PSs X st (qzb X.K Ex W)
abbrev DE:=List Qh->(Qh->Prop)->(Addr->Prop)->Prop
def XSp (K:Qd) (sp:DE):Sp:=fun vs H Q E => ∃ F ds q e,Same F H/\Iss K F ds vs/\sp ds q e/\(∀ d v F' H',Go F H F' H'->Is K F' d v->q d->Q v H') /\ ∀ C F' H',Go F H F' H'->e C->E (.ref C) none H'
structure OkX (P:Zr) (w:World) (K:Qd) (mg:Str->Option Value) (base:Heap) (x:Str) (k:Nat) (ps:List Str) (sp:Sp):Prop where
 ex : ∃ (f:Addr) (fd:Vn),FnOk P w K mg base (CX1 P w) k f fd ps sp/\mg x=some (.ref f)/\Y5 K (.ref f)=true/\Binds K fd ps []
structure OkXC (X:Cx) (x:Str) (k:Nat) (ps:List Str) (sp:Sp):Prop where
 ex : ∃ sp0,OkX X.prog X.w X.K X.mg X.base x k ps sp0 /\ ∀ (pins:List (Addr×Obj)) (σ:St) (H:Hp) (s:Ql) (vs:List V) (Q:VK) (E:XK),Inv X pins σ H s->sp vs H Q E->sp0 vs H Q E
def OkX.c {X:Cx}{x:Str}{k:Nat}{ps:List Str}{sp:Sp} (O:OkX X.prog X.w X.K X.mg X.base x k ps sp):OkXC X x k ps sp:=⟨sp,O,fun _ _ _ _ _ _ _ _ h=>h⟩
section
variable {X:Cx}{Ex:St->XK}{x:Str}{k:Nat}{ps:List Str}{sp:DE}{e c:Expr}{es:List Expr}{p pos:Pos}{Wr:WF}{st:Stmt}{rest A B:List Stmt}{Tc:WT}{W:WX->WE}{Wt Wu:WX->WS}{W0:WS}
def zajj {pins:List (Addr×Obj)}{σ:St}{H:Hp}{s:Ql}{Q:VK}{f:Addr}{fd:Vn}{us:List Value}{vs:List V}{sp:Sp}{E:XK} (F:FnOk X.prog X.w X.K X.mg X.base (CX1 X.prog X.w) k f fd ps sp) (hr:Room k X.A) (hb:Binds X.K fd ps []) (hx:qir X σ E)
 (I:Inv X pins σ H s) (r:Vals vs us) (h:sp vs H Q E):wpAny (model X.prog X.w) X.A (call (.ref f) us) (EP X pins σ Q) X.xe s:=by
  have hl:us.length=ps.length:=by rw [<- r.length];exact F.len _ _ _ _ h
  have hl':(us++[]).length=ps.length:=by rw [Yy];exact hl
  have hb':=hb s us I.kIn hl';rw [Yy] at hb';refine wpAny_call (Qdp (F.run X.A X.stack s H ⟨us,[]⟩ us vs Q E hr I.env0 hb' r h) fun r s' hq=>?_);cases r with
  | error e=>exact hx pins H s e s' I hq
  | ok fl =>
   cases fl with
   | ret u=>exact I.after hq
   | next=>exact Zd hq
   | brk=>exact Zd hq
   | cont=>exact Zd hq
def zaos (sp:DE) (Wr:WF):WX->WE:=fun Wx env Q=>Wr env fun ds e=>sp ds (fun d=>Q d e) fun C=>Wx C e
def qvf (hx : ∀ σ,qir X σ (Ex σ)) (O:OkXC X x k ps (XSp X.K sp)) (hr:Room k X.A) (ha:VA X (e::es) Wr) (hg:Gl X x:=by rfl) (hdb:Nd0 x:=by decide)
 (he:Qp (e::es) X.env=(false,eval e X.env)::Qp es X.env:=by rfl) (hpl:(Vc pos (Qp es X.env)).any (·.1)=false:=by rfl):VEX X Ex (.Call (.Name x p) (e::es) [] pos) (zaos sp Wr):=by
 obtain ⟨sp0,⟨f,fd,F,hm,hk,hb⟩,up⟩:=O.ex;rintro pins s σ H Q I ⟨M,env,F0,Wx,q,J,h,hex,kk⟩;refine J8 (qjt I hg hm ?_ hdb);refine Qbh (h₀:=X.base) I.ok.mod.kin hk (thn (ha pos pins s σ H (fun vs H1=>XSp X.K sp vs H1 Q (Ex σ)) I ⟨M,env,F0,_,J,h,fun ds vs F1 H1 e1 I1 s1 i1 h1=>?_⟩) fun us s1 ⟨vs,H1,I1,r,q⟩=>⟨I1.kIn,?_⟩) he hpl
 ·exact ⟨F1,ds,_,_,I1.fh,i1,h1,fun d v F2 H2 g i2 q=>kk d v F2 H2 e1 (I1.go g) (s1.trans g.f) i2 q,fun C F2 H2 g q=>hex C e1 F2 H2 σ (I1.go g) (s1.trans g.f) q⟩
 ·exact zajj F hr hb (hx σ) I1 r (up _ _ _ _ _ _ _ I1 q)
def qcg (h:VSs X rest W0):qxs X Ex rest (fun _=>W0):=PSs.imp h fun D σ H xx160=>by obtain ⟨M,env,F,Wx,DD,I,h,hx,k⟩:=xx160;exact ⟨M,env,F,DD,I,h,k⟩
def qlp (he:VEX X Ex e W) (hs:Vm e none pos.line X.env=pure false:=by rfl):VSX X Ex (.Expr e pos) (fun Wx=>zamn (W Wx)):=(qhv he hs).imp fun D σ H xx161=>by
 obtain ⟨M,env,F,Wx,DD,I,h,hx,k⟩:=xx161;exact ⟨M,env,F,Wx,_,I,h,hx,fun d v F1 H1 e1 I1 s1 i1 h1=>k.nx e1 F1 H1 σ I1 s1 h1⟩
def qyz (hc:VT X c Tc) (ha:qxs X Ex A Wt) (hb:qxs X Ex B Wu):VSX X Ex (.If c A B pos) (fun Wx=>wIf Tc (Wt Wx) (Wu Wx)):=(zain hc ha hb).imp fun D σ H xx162=>by
 obtain ⟨M,env,F,Wx,DD,I,h,hx,k⟩:=xx162;refine ⟨M,env,F,_,I,h,fun x F1 H1 e1 I1 s1 h1=>?_⟩;cases x with
 | true=>exact qtx ⟨M,e1,F1,Wx,DD,I1,h1,hx.mono s1,k.mono s1⟩
 | false=>exact qsg ⟨M,e1,F1,Wx,DD,I1,h1,hx.mono s1,k.mono s1⟩
def qaq (h1:VSX X Ex st Wt) (h2:qxs X Ex rest Wu):qxs X Ex (st::rest) (fun Wx=>wSeq (Wt Wx) (Wu Wx)):=(qM h1 h2).imp fun D σ H xx163=>by
 obtain ⟨M,env,F,Wx,DD,I,h,hx,k⟩:=xx163;exact ⟨M,env,F,Wx,{ DD with nx:=Wu Wx DD },I,h,hx,fun e' F' H' σ' I' s' h'=>⟨M,e',F',Wx,DD,I',h',hx.mono s',k.mono s'⟩,k.rt,k.bk,k.ct⟩
end
end
section
section
variable {X:Cx}{Ex:St->XK}{E:XK}{x y n:Str}{k i j:Nat}{ps:List Str}{sp:DE}{e:Expr}{es:List Expr}{p np cpos hpos pos pos':Pos}{Wr:WF}{st b₀:Stmt}{body suite:List Stmt}{C C':Addr}{Wb:WX->WS}{Ws:WS}
def zamw (C:Addr) (Wr:WF):WX->WS:=fun Wx _ env=>Wr env fun ds e=>ds.length<=Qz/\Wx C e
def qmv (hT:qvg X E) (hc:X.calm=true) (hm:X.mg x=some (.ref C)) (hq:Yv X.K C qmm "ValueError.__new__" = true) (ha:VA X (e::es) Wr) (hg:Gl X x:=by rfl)
 (hdb:Nd0 x:=by decide) (he:Qp (e::es) X.env=(false,eval e X.env)::Qp es X.env:=by rfl) (hpl:(Vc cpos (Qp es X.env)).any (·.1)=false:=by rfl) :
 VSX X (fun _=>E) (.Raise (some (.Call (.Name x np) (e::es) [] cpos)) none pos) (zamw C Wr):=(zaez hT hc hg hm hq ha hdb he hpl).imp fun D σ H xx164=>by
 obtain ⟨M,env,F,Wx,DD,I,h,hx,k⟩:=xx164;exact ⟨M,env,F,_,I,h,fun ds vs F1 H1 e1 I1 s1 i1 h1=>⟨by rw [i1.len];exact h1.1,hx C e1 F1 H1 σ I1 s1 h1.2⟩⟩
def wTry (K:Qd) (C':Addr) (i:Nat) (Wb:WX->WS) (Ws:WS):WS:=fun D env=>Wb (fun C e=>zadt K C C' /\
 Ws { nx:=fun e'=>D.nx (e'.set i .non),rt:=fun r e'=>D.rt r (e'.set i .non),bk:=fun e'=>D.bk (e'.set i .non),ct:=fun e'=>D.ct (e'.set i .non) } (e.set i (.exc C))) D env
def zapj (hst:X.stack=X.env::X.outer) (hfr:X.env.frame=some X.env.locals) (hN:X.N.Nodup) (hm:X.mg x=some (.ref C')) (hq:Yv X.K C' qmm "ValueError.__new__" = true)
 (hb : ∀ pn xe Ex,(∀ σ,qir (X.inT pn xe) σ (Ex σ))->qxs (X.inT pn xe) Ex body Wb) (hs : ∀ A xe,VSs (X.inX A xe) (b₀::suite) Ws)
 (hi:X.N[i]?=some n:=by rfl) (hl:X.env.scope.names.lookup n=some .local:=by rfl) (hg:Gl X x:=by rfl) (hd:Nd0 x:=by decide) :
  VS X (.Try body [.ExceptHandler (some (.Name x np)) (some n) (b₀::suite) hpos] [] [] pos) (wTry X.K C' i Wb Ws) :=
  PS.imp (zant (tb:=fun Ex=>qzb X.K Ex Wb) (ts:=zadq X.K Ws) hst hfr hN hi hl hg hm hq hb hs hd) fun D σ H xx166=>by
   obtain ⟨M,env,F,DD,I,h,k⟩:=xx166;refine ⟨M,env,F,_,DD,I,h,fun C env' F' H' σ' I' s' ⟨u,hw⟩=>⟨C,rfl,u,fun ea hea=>?_⟩,k⟩;obtain ⟨J,s2⟩:=I'.caught (i:=i) (C:=C) hea;have go : ∀ {env2 F2 H2 σ2},EnvOk X.K M F2 H2 env2 σ2->EnvOk X.K M F2 H2 (env2.set i .non) (σ2.set i none):=fun I2=>I2.sets rfl trivial;exact ⟨M,_,_,_,J,hw,fun e3 F3 H3 σ3 I3 s3 q3=>k.nx _ F3 H3 _ (go I3) (s'.trans (s2.trans s3)) q3,fun r v e3 F3 H3 σ3 I3 s3 r3 q3=>k.rt r v _ F3 H3 _ (go I3) (s'.trans (s2.trans s3)) r3 q3,
    fun e3 F3 H3 σ3 I3 s3 q3=>k.bk _ F3 H3 _ (go I3) (s'.trans (s2.trans s3)) q3,fun e3 F3 H3 σ3 I3 s3 q3=>k.ct _ F3 H3 _ (go I3) (s'.trans (s2.trans s3)) q3⟩
def zamm (i j:Nat):WS:=fun D env=>match gS env j with | .exc C=>D.nx (env.set i (.exc C))|_=>False
def zakm (j:Nat) (hN:X.N.Nodup) (hj:X.N[j]?=some y:=by rfl) (hv:Vis X.env.scope y:=by first|exact Yn rfl|exact Zz (Yn rfl)|exact Zz (Zz rfl)) (hi:X.N[i]?=some x:=by rfl)
 (hx:Loc X.env.scope x:=by first|exact Yn rfl|exact Zz rfl) (hd:Nd0 y:=by decide) (hcd:Nd1 y:=by decide)
 (hs:Vm (.Name y p) (some (.Name x pos')) pos.line X.env=pure false:=by rfl) (hf:X.fn x=true\/X.env.scope.names.lookup x=some .local:=by first|exact .inl rfl|exact .inr rfl) :
 VS X (.Assign [.Name x pos'] (.Name y p) pos) (zamm i j):=PS.imp (qgo hN hi hx (qbu hj hv hd hcd) hs hf) fun D σ H xx167=>by
 obtain ⟨M,env,F,DD,I,h,k⟩:=xx167;have S:=I.slot j;unfold zamm at h;cases q:gS env j with
 | exc C =>
  rw [q] at S h;obtain ⟨ea,e,z⟩:=S;exact ⟨_,qav e,k.nx _ F H _ (I.sets (i:=i) (s :=.exc C) rfl ⟨ea,rfl,z⟩) (.refl _) h⟩
 | non=>rw [q] at h;exact h.elim
 | obj a0 C nm fs=>rw [q] at h;exact h.elim
 | val d=>rw [q] at h;exact h.elim
 | own ds=>rw [q] at h;exact h.elim
 | pen ds=>rw [q] at h;exact h.elim
 | new d=>rw [q] at h;exact h.elim
end
section
variable {P:Zr}{w:World}{K:Qd}{mg:Str->Option Value}{base:Heap}
def Def.vokX {x:Str}{st:Stmt}{N ps:List Str}{k:Nat}{sp:DE} (F:Def K mg x st ps) (S:FnScope N ps (defScope st)) (len : ∀ ds q e,sp ds q e->ds.length=ps.length)
 (hbody : ∀ (f:Addr) (cdv:Value) (A:Ye) (outer:List Env) (s:Ql) (H:Hp) (E:XK),Room k (A.deeper (Qcn x (defScope st) s.heap.objs.size f cdv)) ->
 (∀ σ,qir (qge (CX1 P w) P w K mg base N x (defScope st) f cdv A outer s H E) σ E)->qvg (qge (CX1 P w) P w K mg base N x (defScope st) f cdv A outer s H E) E -> ∀ ds q e,sp ds q e ->
 ∃ W,qxs (qge (CX1 P w) P w K mg base N x (defScope st) f cdv A outer s H E) (fun _=>E) (defBody st) W/\W (fun C _=>e C) { nx:=fun _=>q .none,rt:=fun r _=>q r.data } (qam N ds)):OkX P w K mg base x (k+1) ps (XSp K sp):=by
  obtain ⟨f,fd,Fn,hm,hb⟩:=F.ex;refine ⟨f,fd,?_,hm,Fn.kp,hb⟩;obtain ⟨oc,od,kV,doc,pm,an,cdv,ct,osl,rfl,lk,hcd⟩:=Fn.ex;refine zame lk hcd S (fun vs H Q E xx169=>by obtain ⟨F,ds,q,e,_,i,h,_⟩:=xx169;rw [i.len];exact len ds q e h) fun A outer s H vs Q E hr xx168=>?_;obtain ⟨F,ds,q,e,sm,i,h,kk,kx⟩:=xx168;obtain ⟨W,hW,hq⟩:=hbody f cdv A outer s H E hr (fun σ pins H1 s1 e1 s' I c=>zacx pins σ H1 s1 e1 s' I c) zacd ds q e h;refine ⟨_,hW,⟨H,H,F⟩,qam N ds,F,_,_,qee sm i,hq,fun C e1 F1 H1 σ1 I1 s1 q1=>kx C F1 H1 I1.goOf q1,⟨fun e1 F1 H1 σ1 I1 s1 q1=>kk _ _ F1 H1 I1.goOf qok q1,fun r v e1 F1 H1 σ1 I1 s1 r1 q1=>?_,fun _ _ _ _ _ _ h=>h.elim,fun _ _ _ _ _ _ h=>h.elim⟩⟩;obtain ⟨F2,g,j⟩:=r1.is I1;exact kk _ _ F2 H1 g j q1
end
end
section
section
variable {prog:Zr}{w:World}{A:Ye}{E:Value->Ql->Prop}{h:Heap}{g:Array Qim}{d:Drawn}{t:Nat}{os:OsState}{a:Addr}{o:Obj}{K:Qd}
 {nm q:Str}{C N:Addr}{bs bm:List Value}{hdct:Bool}{sn:List Str}{sub:List Value}{ab:Bool}{col:Option Bool}{dd:Option Addr}{k0 k1 k2 k3 k5:Option Value}{newId:String}
def zamy {R:Result->Ql->Prop} (hC:h.get? C=some (Qaw nm q C N bs bm hdct sn sub ab col dd k0 k1 k2 k3 k5 newId)) (T:Qjj h qmm bm) (hx:h.get? a=some o) (hc:o.cls = .ref C) (hq:R (.ok (.ret (.ref C))) ⟨h,g,d,t,os⟩) :
 Qdw (model prog w) A (.call (.builtin "getset_descriptor.__get__") ⟨[.builtin "object.__class__",.ref a,.ref C],[]⟩) R ⟨h,g,d,t,os⟩:=by
  have hT5:(⟨h,g,d,t,os⟩:Ql).TypeIs (.builtin "object.__class__") "getset_descriptor" := Qcg;have hcB:(Y1 C::bm).contains (.type (".".intercalate ("object.__class__".cutAt '.').dropLast))=true:=by
   rw [F.owner_object_class,Qbj,T.hasType (X := "object") (b:=true) (by decide)];rfl
  refine Qga Qgv.plain F.entry_gs_get (Qgv.check _ _ _ _ _ _ _ _ hT5 (F.args_gs_get _ _ _) ?_)
  repeat (any_goals (first|assumption|(with_reducible refine Vx hx ?_;rw [hc])|(with_reducible refine Qax hC ?_;rw [hcB])|wp_step))
  refine ⟨Code.quiet_builtin _ (by decide +kernel),codeAny_builtin F.entry_object_class ?_⟩
  repeat (any_goals (first|assumption|(with_reducible refine Vx hx ?_;rw [hc])|wp_step))
def zaeu {tk:Tok}{Q:Fin->Ql->Prop} (X:K.In h) (hf:Za K (.ref C) "__class__" = some (some (.builtin "object.__class__"))) (hC:h.get? C=some (Qaw nm q C N bs bm hdct sn sub ab col dd k0 k1 k2 k3 k5 newId)) (T:Qjj h qmm bm)
 (hx:h.get? a=some o) (hc:o.cls = .ref C) (hq:Q (.done (.ret (.ref C))) ⟨h,g,d,t,os⟩) :
 wpAny (model prog w) A (Builtin.«object.__getattribute__» ⟨[.ref a,.str "__class__" tk],[]⟩) Q E ⟨h,g,d,t,os⟩:=by
  have hT5:(⟨h,g,d,t,os⟩:Ql).TypeIs (.builtin "object.__class__") "getset_descriptor" := Qcg;have f5:=Qcg;have f6:=Qgv.lookup;have f7:=F.slot_gs_set.lookup;have L:=Qah (M:=model prog w) X hf
  repeat (any_goals (first|assumption|(with_reducible refine Vx hx ?_;rw [hc])|with_reducible refine L.at ?_|wp_step))
  refine zamy hC T hx hc ?_
  repeat (any_goals (first|assumption|wp_step))
def zagn {M:Model}{nameV:Value}{Q:Unit->Ql->Prop} (hC:h.get? C=some (Qaw nm q C N bs bm hdct sn sub ab col dd k0 k1 k2 k3 k5 newId)) (T:Qjj h qmm bm)
 (hx:h.get? a=some o) (hc:o.cls = .ref C) (hq:Q () ⟨h,g,d,t,os⟩):wpAny M A (checkBuiltinCall "BaseException.__getattribute__" ⟨[.ref a,nameV],[]⟩) Q E ⟨h,g,d,t,os⟩:=by
  have hk:builtinKind "BaseException.__getattribute__" = some .slot:=by decide +kernel
  have hsplit:splitId "BaseException.__getattribute__" = some ("BaseException","__getattribute__"):=by decide +kernel
  have hcB:(Y1 C::bm).contains (.type "BaseException")=true:=by rw [Qbj,T.hasType (X := "BaseException") (b:=true) (by decide)];rfl
  have ha:=F.args_bexc_ga (.ref a) nameV;simp only [checkBuiltinCall,hk,hsplit];refine Qi ?_;unfold isInstance
  repeat (first|(with_reducible refine Vx hx ?_;rw [hc])|(with_reducible refine Qax hC ?_;rw [hcB])|wp_step)
  exact hq
structure XCls (K:Qd) (C:Addr):Prop where
 exc:Yv K C qmm "ValueError.__new__" = true
 ga:Za K (.ref C) "__getattribute__" = some (some (.builtin "BaseException.__getattribute__"))
 na:Za K (.ref C) "__getattr__" = some none
 cl:Za K (.ref C) "__class__" = some (some (.builtin "object.__class__"))
def zaqk {tk:Tok}{Q:Value->Ql->Prop} (X:K.In h) (Z:XCls K C) (hC:h.get? C=some (Qaw nm q C N bs bm hdct sn sub ab col dd k0 k1 k2 k3 k5 newId)) (T:Qjj h qmm bm)
 (hx:h.get? a=some o) (hc:o.cls = .ref C) (hq:Q (.ref C) ⟨h,g,d,t,os⟩):wpAny (model prog w) A (getAttrBy (.ref a) (.str "__class__" tk) false) Q E ⟨h,g,d,t,os⟩:=by
  have f3:=Qfu.ga.bind (.ref a);have hx2:(Qek "BaseException.__getattribute__" == Qek "object.__getattribute__")=false:=by decide +kernel
  have hx1:(onTheHeap (Y1 C)&&Qek "BaseException.__getattribute__" == Qek "object.__getattribute__")=false:=by rw [hx2];rfl
  have L:=Qah (M:=model prog w) X Z.ga;have L2:=Qah (M:=model prog w) X Z.na
  repeat (any_goals (first|assumption|(with_reducible refine Vx hx ?_;rw [hc])|with_reducible refine L.at ?_|with_reducible refine L2.at ?_|wp_step))
  refine Qga Qfu.ga.plain F.entry_bexc_ga (zagn hC T hx hc (zaeu X Z.cl hC T hx hc ?_))
  repeat (any_goals (first|assumption|wp_step))
def zajq {Q:Option Value->Ql->Prop} (X:K.In h) (Z:XCls K C) (hC:h.get? C=some (Qaw nm q C N bs bm hdct sn sub ab col dd k0 k1 k2 k3 k5 newId)) (T:Qjj h qmm bm)
 (hx:h.get? a=some o) (hc:o.cls = .ref C) (hq:Q (some (.ref C)) ⟨h,g,d,t+1,os⟩):wpAny (model prog w) A (getAttr? (.ref a) "__class__") Q E ⟨h,g,d,t,os⟩:=by
  unfold getAttr? getAttrBy?
  repeat (any_goals (first|assumption|with_reducible apply zaqk X Z hC T hx hc|wp_step))
end
def zaec {K:Qd}{a C:Addr} (Z:XCls K C):PySem.W.KitX K (.ref a) (.ref C) (fun h => ∃ o,h.get? a=some o/\o.cls = .ref C) where
 ty:=fun M h X xx170=>by obtain ⟨o,h1,h2⟩:=xx170;exact h2 ▸ (Qkr h1).andThen .now
 it:=fun M h X _=>by
  obtain ⟨bm,N,nm,qn,bs,hd,sn,sub,ab,col,dd,k0,k1,k2,k3,k5,mN,hC,_⟩:=qki X Z.exc;intro A' Q' E' s' k q;unfold isType loadHead;exact Qi (wpAny_loadPart (k _ _ hC) (Q9 q))
 ne:=fun h tp dd its n sl X htp=>by
  obtain ⟨bm,N,nm,qn,bs,hd,sn,sub,ab,col,dd',k0,k1,k2,k3,k5,mN,hC,_⟩:=qki X Z.exc;refine Bool.eq_false_iff.mpr fun q=>?_;have e:C=tp:=Y1.inj (beq_iff_eq.mp q);subst e;have z:=Qx (hC.symm.trans htp);have z2:=congrArg Obj.data z;exact Data.noConfusion z2
 ca:=fun {prog w A E Q s} X ⟨o,h1,h2⟩ k=>by
  obtain ⟨bm,N,nm,qn,bs,hd,sn,sub,ab,col,dd',k0,k1,k2,k3,k5,mN,hC,hN,hni,T,_⟩:=qki X Z.exc;obtain ⟨hh,g,d,t,os⟩:=s;exact zajq X Z hC T h1 h2 k
end
section
def clsV:V->Option Value
 | .ty n=>some (.type n)
 | .ref a=>some (.ref a)
 | _=>none
def zagq {v:V}{u u':Value} (r:RelV v u) (h:clsV v=some u'):u=u':=by
 cases v with
 | ty n=>cases h;exact r
 | ref a=>cases h;exact r
 | _=>cases h
def rIsX (K:Qd):List V->Hp->VK->Prop:=fun xs H Q => ∃ (C ea:Addr) (c:V) (u:Value) (b:Bool),xs=[.ref ea,c]/\H ea=some (qow C ea)/\XCls K C/\clsV c=some u/\Z2 K (.ref C) u=some b/\Q (.bl b) H
section
variable {X:Cx}
def zagu:CallR X (.builtin "isinstance") (rIsX X.K):=by
 intro pins s σ H xs us Q I r h;obtain ⟨C,ea,c,u,b,rfl,ha,Z,hc,e,q⟩:=h;obtain ⟨u1,u2,rfl,rx,rc⟩:=zaif r;cases rx;rw [zagq rc hc];obtain ⟨p,_,_⟩:=(show ObjOk X.prog X.w H s.heap ea (qow C ea) from I.hok ea _ ha)
 exact V1 (zaec Z) I.kIn p e (fun z=>nomatch z) fun tk=>⟨.bl b,H,I.tok tk,rfl,q⟩
def wIsX (K:Qd) (j:Nat) (u:Value):WE:=fun env Q=>match gS env j with | .exc C=>XCls K C /\ ∃ b,Z2 K (.ref C) u=some b/\Q (.bool b) env|_=>False
section
variable {y:Str}{c:Expr}{cs:List Expr}{v:V}{vs:List V}{u:Value}{us:List Value}{p py pt pos:Pos}{x1:Nat}
def qve (j:Nat) (hm:X.mg "isinstance" = none) (hc:PE X c (tC v)) (hu:clsV v=some u) (hj:X.N[j]?=some y:=by rfl) (hv:Vis X.env.scope y:=by first|exact Yn rfl|exact Zz (Yn rfl)|exact Zz (Zz rfl))
 (hg:Gl X "isinstance":=by rfl) (hd:Nd0 y:=by decide) (hcd:Nd1 y:=by decide)
 (hs:Qp [.Name y py,c] X.env=(false,eval (.Name y py) X.env)::Qp [c] X.env:=by rfl) (hs2:Qp [c] X.env=(false,eval c X.env)::Qp [] X.env:=by rfl) (hpl:(Vc pos (Qp [c] X.env)).any (·.1)=false:=by rfl) :
 VE X (.Call (.Name "isinstance" p) [.Name y py,c] [] pos) (wIsX X.K j u) :=
 (qgq zagu hg hm qhe (qH (qbu hj hv hd hcd) (qH hc qaw hs2) hs) (by decide) (by decide) hs hpl).imp fun σ H R xx171=>by
  obtain ⟨M,env,F,Q,I,h,k⟩:=xx171;have S:=I.slot j;unfold wIsX at h;cases q:gS env j with
  | exc C =>
   rw [q] at S h;obtain ⟨ea,e,z⟩:=S;obtain ⟨Z,b,hb,h⟩:=h;exact ⟨_,qav e,C,ea,v,u,b,rfl,I.fh.at z,Z,hu,hb,k _ _ F H env I (.refl _) (qfn _) h⟩
  | non=>rw [q] at h;exact h.elim
  | obj a0 C nm fs=>rw [q] at h;exact h.elim
  | val d=>rw [q] at h;exact h.elim
  | own ds=>rw [q] at h;exact h.elim
  | pen ds=>rw [q] at h;exact h.elim
  | new d=>rw [q] at h;exact h.elim
end
end
end
section
section
variable {prog:Zr}{w:World}{A:Ye}{E:Value->Ql->Prop}{s:Ql}
def SqIt (b:Bool) (h:Heap) (j l:Addr) (i:Nat):Prop:=match b with
 | true=>h.IsTupleIter j l i
 | false=>h.IsListIter j l i
def SqOf (b:Bool) (h:Heap) (l:Addr) (us:Array Value):Prop:=match b with
 | true=>h.IsTuple l us
 | false=>h.IsList l us
def itTy:Bool->String
 | true => "tuple_iterator"
 | false => "list_iterator"
abbrev itO (b:Bool) (l:Addr):Obj:={ cls :=.type (itTy b),data :=.fields #[.ref l,.int 0 0] }
def SqIt.at' {b:Bool}{h h':Heap}{j l:Addr}{i:Nat} (x:SqIt b h j l i) (e : ∀ o,h.get? j=some o->h'.get? j=some o):SqIt b h' j l i:=by
 cases b with
 | true=>exact Heap.IsTupleIter.at x e
 | false=>exact Heap.IsListIter.at x e
def SqIt.but {b:Bool}{h h':Heap}{j l c:Addr}{i:Nat} (x:SqIt b h j l i) (e:Yo c h h') (n:j≠c):SqIt b h' j l i:=x.at' fun o q=>e.extBut j o n q
def SqIt.obj {b:Bool}{h:Heap}{j l:Addr}{i:Nat} (x:SqIt b h j l i) : ∃ o,h.get? j=some o /\ ∀ v,o.data ≠ .cell v:=by
 cases b with
 | true=>obtain ⟨o,q,_,d⟩:=x;exact ⟨o,q,fun v z=>by rw [d] at z;cases z⟩
 | false=>obtain ⟨o,q,_,d⟩:=x;exact ⟨o,q,fun v z=>by rw [d] at z;cases z⟩
def SqOf.at' {b:Bool}{h h':Heap}{l:Addr}{us:Array Value} (x:SqOf b h l us) (e : ∀ o,h.get? l=some o->h'.get? l=some o):SqOf b h' l us:=by
 cases b with
 | true=>obtain ⟨o,q,r⟩:=x;exact ⟨o,e o q,r⟩
 | false=>exact Heap.IsList.at x e
def SqOf.but {b:Bool}{h h':Heap}{l c:Addr}{us:Array Value} (x:SqOf b h l us) (e:Yo c h h') (n:l≠c):SqOf b h' l us:=x.at' fun o q=>e.extBut l o n q
def SqOf.lt {b:Bool}{h:Heap}{l:Addr}{us:Array Value} (x:SqOf b h l us):l<h.objs.size:=by
 cases b with
 | true=>obtain ⟨o,q,_⟩:=x;exact Qt q
 | false=>obtain ⟨o,q,_⟩:=x;exact Qt q
def qwq {j t:Addr}{k:Nat}{us:Array Value}{u:Value}{Q:Value->Ql->Prop} (hj:s.heap.IsTupleIter j t k) (ht:s.heap.IsTuple t us) (hu:us[k]?=some u)
 (q : ∀ h',h'.IsTupleIter j t (k+1)->Yo j s.heap h'->Q u { s with heap:=h' }):wpAny (model prog w) A (Zv (.ref j)) Q E s:=by
  obtain ⟨ob,e1,e2,e3⟩:=id hj;obtain ⟨ot,f1,_,nt,f3⟩:=ht;unfold Zv;refine Qi (Vd (name:=Qo "__next__") hj.typeIs V4 (J3 V4 hj.typeIs Qde ?_ (Qcp _)));show wpAny _ _ (field (.ref j) 0 >>= _) _ _ s;refine Qi (Ys e1 e3 (x :=.ref t) rfl ?_);show wpAny _ _ (if (Y1 t==Qay)=true then _ else _) _ _ s;rw [if_neg (fun z:(Y1 t==Qay)=true=>Zn z)];show wpAny _ _ (field (.ref j) 1 >>= _) _ _ s;refine Qi (Ys e1 e3 (x :=.int k 0) rfl ?_);show wpAny _ _ (seqItems? (.ref t) >>= _) _ _ s;refine Qi (Jd f1 f3 ?_);simp only [Zt,hu];refine Qi (wpAny_setField e1 e3 (by simp) (Q9 ⟨u,rfl,Q9 (q _ ?_ (Qgj ..))⟩));exact ⟨_,Qfe _ e1 (Obj.isFreed_of_fields (Qgw e3 _)),(Obj.cls_mapFields ..).trans e2,by rw [Qgw e3];simp [Qge]⟩
def qzy {j t:Addr}{k:Nat}{us:Array Value}{Q:Value->Ql->Prop} (hh:A.handled=none) (hj:s.heap.IsTupleIter j t k) (ht:s.heap.IsTuple t us) (hu:us[k]?=none)
 (q : ∀ h' e,Qiv j s.heap h'->(∃ o,h'.get? e=some o/\o.cls = .type "StopIteration")->E (.ref e) { s with heap:=h' }):wpAny (model prog w) A (Zv (.ref j)) Q E s:=by
  obtain ⟨ob,e1,e2,e3⟩:=id hj;obtain ⟨ot,f1,_,nt,f3⟩:=ht;unfold Zv;refine Qi (Vd (name:=Qo "__next__") hj.typeIs V4 (J3 V4 hj.typeIs Qde ?_ (Qcp _)));show wpAny _ _ (field (.ref j) 0 >>= _) _ _ s;refine Qi (Ys e1 e3 (x :=.ref t) rfl ?_);show wpAny _ _ (if (Y1 t==Qay)=true then _ else _) _ _ s;rw [if_neg (fun z:(Y1 t==Qay)=true=>Zn z)];show wpAny _ _ (field (.ref j) 1 >>= _) _ _ s;refine Qi (Ys e1 e3 (x :=.int k 0) rfl ?_);show wpAny _ _ (seqItems? (.ref t) >>= _) _ _ s;refine Qi (Jd f1 f3 ?_);simp only [Zt,hu];refine Qi (Qfq (Qi (wpAny_setField e1 e3 (by simp) ?_)));show wpAny _ _ (newExc (.type "StopIteration") [] >>= _) _ _ _;refine Qi (?_:wpAny _ _ (newExc (.type "StopIteration") []) _ _ _);simp only [newExc,newTuple];refine Qi (Qcb (?_:_) (by size_fits));refine Qi (m:=firstArgMember _ _) (wpAny_of_eq (a:=Qay) (by first|rfl|(simp only [firstArgMember];rfl)|skip) ?_);refine Qcb (?_:_) (by size_fits);simp only [raiseNew];refine Qi (wpAny_handled (?_:_))
  first|rw [hh]|rw [show A.in1.handled=none from hh]
  refine Qi (Q9 (wpAny_throw (?_:_)));exact q _ _ (((Qgj ..).extBut.push _).push _) ⟨_,Q2 _ rfl,rfl⟩
def qqo {b:Bool}{j l:Addr}{k:Nat}{us:Array Value}{u:Value}{Q:Value->Ql->Prop} (hj:SqIt b s.heap j l k) (hl:SqOf b s.heap l us) (hu:us[k]?=some u)
 (q : ∀ h',SqIt b h' j l (k+1)->Yo j s.heap h'->Q u { s with heap:=h' }):wpAny (model prog w) A (Zv (.ref j)) Q E s:=by
  cases b with
  | true=>exact qwq hj hl hu q
  | false=>exact wpAny_nextOf_list_item hj hl hu q
def zaax {b:Bool}{j l:Addr}{k:Nat}{us:Array Value}{Q:Value->Ql->Prop} (hh:A.handled=none) (hj:SqIt b s.heap j l k) (hl:SqOf b s.heap l us) (hu:us[k]?=none)
 (q : ∀ h' e,Qiv j s.heap h'->(∃ o,h'.get? e=some o/\o.cls = .type "StopIteration")->E (.ref e) { s with heap:=h' }):wpAny (model prog w) A (Zv (.ref j)) Q E s:=by
  cases b with
  | true=>exact qzy hh hj hl hu q
  | false=>exact wpAny_nextOf_list_end hh hj hl hu q
def zaba {b:Bool}{l:Addr}{us:Array Value}{Q:Value->Ql->Prop} (hl:SqOf b s.heap l us) (q:Q (.ref s.heap.objs.size) { s with heap:=s.heap.push (itO b l) }):wpAny (model prog w) A (pyIter (.ref l)) Q E s:=by
 cases b with
 | true=>exact Jc hl q
 | false=>exact Qaf hl q
def zahb {b c:Bool}{z TI TO j1 j2 l1 l2:Addr}{k1 k2:Nat}{us vs:Array Value}{u v x0 y0:Value}{Q:Value->Ql->Prop} (D:Qin z TI TO j1 j2 l1 l2)
 (a0:IsZip s.heap z TI TO .none) (a1:Qam s.heap TI (.ref j1) (.ref j2)) (a2:Qam s.heap TO x0 y0)
 (e1:SqIt b s.heap j1 l1 k1) (e2:SqIt c s.heap j2 l2 k2) (g1:SqOf b s.heap l1 us) (g2:SqOf c s.heap l2 vs) (hu:us[k1]?=some u) (hv:vs[k2]?=some v)
 (q : ∀ h',IsZip h' z TI TO (Qge s.heap.objs.size)->Qam h' TO u v->SqIt b h' j1 l1 (k1+1)->SqIt c h' j2 l2 (k2+1)->Qam h' s.heap.objs.size u v->h'.objs.size=s.heap.objs.size+1 ->
 (∀ a o,a≠z->a≠TO->a≠j1->a≠j2->s.heap.get? a=some o->h'.get? a=some o)->Q (.ref s.heap.objs.size) { s with heap:=h' }) :
  wpAny (model prog w) A (Builtin.«zip.__next__» ⟨[.ref z],[]⟩) (fun r s' => ∃ y,r = .done (.ret y)/\Q y s') E s:=by
  show wpAny _ _ (field (.ref z) 2 >>= _) _ _ _;refine Qi (Ys a0 rfl (x :=.bool false) rfl ?_);show wpAny _ _ (field (.ref z) 3 >>= _) _ _ _;refine Qi (Ys a0 rfl (x :=.ref TI) rfl ?_);refine Qi (Jd a1 rfl ?_);show wpAny _ _ (Zh (.ref z) >>= _) _ _ _;refine Qi (?_:wpAny _ _ (Zh (.ref z)) _ _ _);unfold Zh;refine Qi (Ys a0 rfl (x :=.none) rfl (Q9 ?_));simp only [if_true];refine Qi (Qfq (?_:_));refine Qi (Ys a0 rfl (x :=.ref TO) rfl ?_);refine Qi (Yf a0 (by simp) fun p1 b0 m1=>?_);replace b0:IsZip p1 z TI TO .ellipsis:=b0
  refine Qi (?_:_);simp only [Qih,Qiw,Qix,Qgb];refine Qi (Qi (Qeo (?_:_)));show wpAny _ _ (Zv (.ref j1) >>= _) _ _ _;refine Qi (qqo (e1.but m1 D.i1z) (g1.but m1 D.l1z) hu fun p2 f1 m2=>Q9 ?_);have c2:Qam p2 TO x0 y0:=m2.extBut _ _ D.TOi1 (m1.extBut _ _ D.TOz a2);refine Qi (Jd c2 rfl ?_);refine Qi (Qco c2 fun p3 c3 m3=>?_);replace c3:Qam p3 TO u y0:=c3
  refine Qi (Qgn (Q9 (?_:_)));refine Qi (Qi (Qeo (?_:_)));show wpAny _ _ (Zv (.ref j2) >>= _) _ _ _;refine Qi (qqo (((e2.but m1 D.i2z).but m2 D.i12.symm).but m3 D.TOi2.symm) (((g2.but m1 D.l2z).but m2 D.l2i1).but m3 D.l2TO) hv fun p4 f2 m4=>Q9 ?_);have c4:Qam p4 TO u y0:=m4.extBut _ _ D.TOi2 c3;refine Qi (Jd c4 rfl ?_);refine Qi (Qco c4 fun p5 c5 m5=>?_);replace c5:Qam p5 TO u v:=c5
  refine Qi (Qgn (Q9 (Q9 (?_:_))));refine Qi (Jd c5 rfl ?_);refine Qi (wpAny_newTuple (?_:_));have sz:p5.objs.size=s.heap.objs.size:=by rw [m5.1,m4.1,m3.1,m2.1,m1.1]
  have b5:IsZip p5 z TI TO .ellipsis:=m5.extBut _ _ D.TOz.symm (m4.extBut _ _ D.i2z.symm (m3.extBut _ _ D.TOz.symm (m2.extBut _ _ D.i1z.symm b0)));have k5 : ∀ a o,a≠z->a≠TO->a≠j1->a≠j2->s.heap.get? a=some o->p5.get? a=some o:=fun a o n1 n2 n3 n4 e =>
   m5.extBut _ _ n2 (m4.extBut _ _ n4 (m3.extBut _ _ n2 (m2.extBut _ _ n3 (m1.extBut _ _ n1 e))))
  have f5:SqIt b p5 j1 l1 (k1+1):=((f1.but m3 D.TOi1.symm).but m4 D.i12).but m5 D.TOi1.symm;have f6:SqIt c p5 j2 l2 (k2+1):=f2.but m5 D.TOi2.symm;have zlt:z<p5.objs.size:=Qt b5;show wpAny _ _ (Zx (.ref z) (.ref p5.objs.size) >>= _) _ _ _;refine Qi (?_:wpAny _ _ (Zx (.ref z) (.ref p5.objs.size)) _ _ _);unfold Zx;have b6:IsZip (p5.push { cls :=.type "tuple",data :=.seq #[u,v] }) z TI TO .ellipsis:=Qj _ b5;refine Qi (Yf b6 (by simp) fun p7 b7 m7=>?_);replace b7:IsZip p7 z TI TO (Qge p5.objs.size):=b7
  refine Yf b7 (by simp) fun p8 b8 m8=>?_;replace b8:IsZip p8 z TI TO (Qge p5.objs.size):=b8
  have up : ∀ a o,a≠z->p5.get? a=some o->p8.get? a=some o:=fun a o n e=>m8.extBut _ _ n (m7.extBut _ _ n (Qj _ e));have t8:Qam p8 p5.objs.size u v:=m8.extBut _ _ (Z8 zlt) (m7.extBut _ _ (Z8 zlt) (Q2 _ rfl));have z8:p8.objs.size=p5.objs.size+1:=by rw [m8.1,m7.1,Z5]
  rw [sz] at b8 t8 z8;refine Q9 ⟨_,rfl,(?_:Q (.ref p5.objs.size) _)⟩;rw [sz];exact q p8 b8 (up _ _ D.TOz c5) (f5.at' fun o e=>up _ o D.i1z e) (f6.at' fun o e=>up _ o D.i2z e) t8 z8 fun a o n1 n2 n3 n4 e=>up a o n1 (k5 a o n1 n2 n3 n4 e)
def zajm {b c:Bool}{z TI TO j1 j2 l1 l2:Addr}{k1 k2:Nat}{us vs:Array Value}{x0 y0:Value}{Q:Fin->Ql->Prop} (hh:A.handled=none) (D:Qin z TI TO j1 j2 l1 l2)
 (a0:IsZip s.heap z TI TO .none) (a1:Qam s.heap TI (.ref j1) (.ref j2)) (a2:Qam s.heap TO x0 y0)
 (e1:SqIt b s.heap j1 l1 k1) (e2:SqIt c s.heap j2 l2 k2) (g1:SqOf b s.heap l1 us) (g2:SqOf c s.heap l2 vs) (hend:us[k1]?=none\/vs[k2]?=none)
 (q : ∀ h' e,(∀ a o,a≠z->a≠TO->a≠j1->a≠j2->s.heap.get? a=some o->h'.get? a=some o)->(∃ o,h'.get? e=some o/\o.cls = .type "StopIteration")->E (.ref e) { s with heap:=h' }) :
  wpAny (model prog w) A (Builtin.«zip.__next__» ⟨[.ref z],[]⟩) Q E s:=by
  show wpAny _ _ (field (.ref z) 2 >>= _) _ _ _;refine Qi (Ys a0 rfl (x :=.bool false) rfl ?_);show wpAny _ _ (field (.ref z) 3 >>= _) _ _ _;refine Qi (Ys a0 rfl (x :=.ref TI) rfl ?_);refine Qi (Jd a1 rfl ?_);show wpAny _ _ (Zh (.ref z) >>= _) _ _ _;refine Qi (?_:wpAny _ _ (Zh (.ref z)) _ _ _);unfold Zh;refine Qi (Ys a0 rfl (x :=.none) rfl (Q9 ?_));simp only [if_true];refine Qi (Qfq (?_:_));refine Qi (Ys a0 rfl (x :=.ref TO) rfl ?_);refine Qi (Yf a0 (by simp) fun p1 b0 m1=>?_);replace b0:IsZip p1 z TI TO .ellipsis:=b0
  refine Qi (?_:_);simp only [Qih,Qiw,Qix,Qgb];refine Qi (Qi (Qeo (?_:_)));show wpAny _ _ (Zv (.ref j1) >>= _) _ _ _;cases hu:us[k1]? with
  | none =>
   refine Qi (zaax hh (e1.but m1 D.i1z) (g1.but m1 D.l1z) hu fun p2 e m2 he=>?_);obtain ⟨oe,h3,h4⟩:=he;have b2:IsZip p2 z TI TO .ellipsis:=m2 _ _ D.i1z.symm b0;have nz:e≠z:=fun x=>by subst x;rw [b2] at h3;cases h3;simp at h4
   exact Yf b2 (by simp) fun p3 _ m3=>q p3 e (fun a o n1 _ n3 _ x=>m3.extBut _ _ n1 (m2 _ _ n3 (m1.extBut _ _ n1 x))) ⟨oe,m3.extBut _ _ nz h3,h4⟩
  | some u =>
   have hv:vs[k2]?=none:=by
    rcases hend with h|h
    ·rw [hu] at h;cases h
    ·exact h
   refine Qi (qqo (e1.but m1 D.i1z) (g1.but m1 D.l1z) hu fun p2 f1 m2=>Q9 ?_);have c2:Qam p2 TO x0 y0:=m2.extBut _ _ D.TOi1 (m1.extBut _ _ D.TOz a2);refine Qi (Jd c2 rfl ?_);refine Qi (Qco c2 fun p3 c3 m3=>?_);refine Qi (Qgn (Q9 (?_:_)));refine Qi (Qi (Qeo (?_:_)));show wpAny _ _ (Zv (.ref j2) >>= _) _ _ _;refine Qi (zaax hh (((e2.but m1 D.i2z).but m2 D.i12.symm).but m3 D.TOi2.symm) (((g2.but m1 D.l2z).but m2 D.l2i1).but m3 D.l2TO) hv fun p4 e m4 he=>?_);obtain ⟨oe,h3,h4⟩:=he;have b4:IsZip p4 z TI TO .ellipsis:=m4 _ _ D.i2z.symm (m3.extBut _ _ D.TOz.symm (m2.extBut _ _ D.i1z.symm b0));have nz:e≠z:=fun x=>by subst x;rw [b4] at h3;cases h3;simp at h4
   exact Yf b4 (by simp) fun p5 _ m5=>q p5 e (fun a o n1 n2 n3 n4 x=>m5.extBut _ _ n1 (m4 _ _ n4 (m3.extBut _ _ n2 (m2.extBut _ _ n3 (m1.extBut _ _ n1 x))))) ⟨oe,m5.extBut _ _ nz h3,h4⟩
def zaew {b c:Bool}{z TI TO j1 j2 l1 l2:Addr}{k1 k2:Nat}{us vs:Array Value}{u v x0 y0:Value}{Q:Option Value->Ql->Prop} (D:Qin z TI TO j1 j2 l1 l2)
 (a0:IsZip s.heap z TI TO .none) (a1:Qam s.heap TI (.ref j1) (.ref j2)) (a2:Qam s.heap TO x0 y0)
 (e1:SqIt b s.heap j1 l1 k1) (e2:SqIt c s.heap j2 l2 k2) (g1:SqOf b s.heap l1 us) (g2:SqOf c s.heap l2 vs) (hu:us[k1]?=some u) (hv:vs[k2]?=some v)
 (q : ∀ h',IsZip h' z TI TO (Qge s.heap.objs.size)->Qam h' TO u v->SqIt b h' j1 l1 (k1+1)->SqIt c h' j2 l2 (k2+1)->Qam h' s.heap.objs.size u v->h'.objs.size=s.heap.objs.size+1 ->
 (∀ a o,a≠z->a≠TO->a≠j1->a≠j2->s.heap.get? a=some o->h'.get? a=some o)->Q (some (.ref s.heap.objs.size)) { s with heap:=h' }) :
  wpAny (model prog w) A (Qet (.ref z)) Q E s:=by
  have ty:s.TypeIs (.ref z) "zip":=⟨_,a0,rfl⟩
  unfold Qet;exact Qi (Qen (Vd (name:=Qo "__next__") ty Qdf (J3 Qdf ty Qii
   (zahb D a0 a1 a2 e1 e2 g1 g2 hu hv fun h' r1 r2 r3 r4 r5 r6 r7=>Q9 (q h' r1 r2 r3 r4 r5 r6 r7)) (Qhk _))))
def zale {b c:Bool}{z TI TO j1 j2 l1 l2:Addr}{k1 k2:Nat}{us vs:Array Value}{x0 y0:Value}{Q:Option Value->Ql->Prop} (hh:A.handled=none) (D:Qin z TI TO j1 j2 l1 l2)
 (a0:IsZip s.heap z TI TO .none) (a1:Qam s.heap TI (.ref j1) (.ref j2)) (a2:Qam s.heap TO x0 y0)
 (e1:SqIt b s.heap j1 l1 k1) (e2:SqIt c s.heap j2 l2 k2) (g1:SqOf b s.heap l1 us) (g2:SqOf c s.heap l2 vs) (hend:us[k1]?=none\/vs[k2]?=none)
 (q : ∀ h',(∀ a o,a≠z->a≠TO->a≠j1->a≠j2->s.heap.get? a=some o->h'.get? a=some o)->Q none { s with heap:=h' }):wpAny (model prog w) A (Qet (.ref z)) Q E s:=by
  have ty:s.TypeIs (.ref z) "zip":=⟨_,a0,rfl⟩
  unfold Qet;refine Qi (Qen (Vd (name:=Qo "__next__") ty Qdf (J3 Qdf ty Qii (zajm hh D a0 a1 a2 e1 e2 g1 g2 hend fun h' e hk he=>?_) (Qhk _))));obtain ⟨o,ho,hc⟩:=he;exact Qi (wpAny_isInstance (T := "StopIteration") (b:=true) ⟨o,ho,hc⟩ isSubtype_stop (Q9 (q _ hk)))
abbrev zh1 (b:Bool) (h:Heap) (l:Addr):Heap:=h.push (itO b l)
abbrev zh2 (b c:Bool) (h:Heap) (l1 l2:Addr):Heap:=(zh1 b h l1).push (itO c l2)
abbrev zh3 (b c:Bool) (h:Heap) (l1 l2:Addr):Heap:=(zh2 b c h l1 l2).push { cls :=.type "tuple",data :=.seq #[.ref h.objs.size,.ref (zh1 b h l1).objs.size] }
abbrev zh4 (b c:Bool) (h:Heap) (l1 l2:Addr):Heap:=(zh3 b c h l1 l2).push { cls :=.type "tuple",data :=.seq #[.none,.none] }
abbrev zh5 (b c:Bool) (h:Heap) (l1 l2:Addr):Heap:=(zh4 b c h l1 l2).push { cls :=.type "zip",data :=.fields #[.none,.bool false,.bool false,.ref (zh2 b c h l1 l2).objs.size,.ref (zh3 b c h l1 l2).objs.size] }
def zaop (b c:Bool) (l1 l2:Addr) (us vs:Array Value):Meets (Builtin.«zip.__new__» ⟨[.type "zip",.ref l1,.ref l2],[]⟩)
 (fun _ R s=>SqOf b s.heap l1 us/\SqOf c s.heap l2 vs/\R (.ok (.ret (.ref (zh4 b c s.heap l1 l2).objs.size))) { s with heap:=zh5 b c s.heap l1 l2 }) :=
  .of_wp fun prog w A R s h=>by
   obtain ⟨hp,g,d,tk,os⟩:=s;obtain ⟨g1,g2,h⟩:=h;have hsub:=sub_zip;have y1:SqOf b (Qiy ⟨hp,g,d,tk,os⟩) l1 us:=g1;have y2:SqOf c (Qiy ⟨hp.push (itO b l1),g,d,tk,os⟩) l2 vs:=SqOf.at' g2 fun o e=>Qj _ e
   wp_walk using zaba y1,zaba y2
   exact ⟨_,rfl,h⟩
def zakl {b c:Bool}{l1 l2:Addr}{us vs:Array Value}{Q:Value->Ql->Prop} (g1:SqOf b s.heap l1 us) (g2:SqOf c s.heap l2 vs)
 (q : ∀ h',IsZip h' (s.heap.objs.size+4) (s.heap.objs.size+2) (s.heap.objs.size+3) .none->Qam h' (s.heap.objs.size+2) (.ref s.heap.objs.size) (.ref (s.heap.objs.size+1)) ->
 Qam h' (s.heap.objs.size+3) .none .none->SqIt b h' s.heap.objs.size l1 0->SqIt c h' (s.heap.objs.size+1) l2 0->(∀ a o,s.heap.get? a=some o->h'.get? a=some o)->Q (.ref (s.heap.objs.size+4)) { s with heap:=h' }) :
  wpAny (model prog w) A (call (.type "zip") [.ref l1,.ref l2]) Q E s:=by
  refine callType_new F.called_zip (by decide) (F.typeCall_zip_2 _ _) (F.newCall_zip_2 _ _) (fun ob=>F.args_object_init_3 ob _ _) F.entry_zip_new (zaop b c l1 l2 us vs) ⟨g1,g2,?_⟩;have n1:(zh1 b s.heap l1).objs.size=s.heap.objs.size+1:=Z5 ..;have n2:(zh2 b c s.heap l1 l2).objs.size=s.heap.objs.size+2:=by rw [Z5,n1]
  have n3:(zh3 b c s.heap l1 l2).objs.size=s.heap.objs.size+3:=by rw [Z5,n2]
  have n4:(zh4 b c s.heap l1 l2).objs.size=s.heap.objs.size+4:=by rw [Z5,n3]
  have r5:(zh5 b c s.heap l1 l2).get? (zh4 b c s.heap l1 l2).objs.size=some _:=Q2 _ rfl;have r4:(zh5 b c s.heap l1 l2).get? (zh3 b c s.heap l1 l2).objs.size=some _:=Qj _ (Q2 _ rfl);have r3:(zh5 b c s.heap l1 l2).get? (zh2 b c s.heap l1 l2).objs.size=some _:=Qj _ (Qj _ (Q2 _ rfl));have r2:(zh5 b c s.heap l1 l2).get? (zh1 b s.heap l1).objs.size=some (itO c l2):=Qj _ (Qj _ (Qj _ (Q2 _ rfl)));have r1:(zh5 b c s.heap l1 l2).get? s.heap.objs.size=some (itO b l1):=Qj _ (Qj _ (Qj _ (Qj _ (Q2 _ rfl))));show _/\_;rw [n2,n3,n4] at r5;rw [n1,n2] at r3;rw [n3] at r4;rw [n1] at r2;rw [n4];have si : ∀ {b:Bool}{h:Heap}{a l:Addr},h.get? a=some (itO b l)->SqIt b h a l 0:=fun {b}{h}{a}{l} e=>by
   cases b with
   | true=>exact ⟨_,e,rfl,rfl⟩
   | false=>exact ⟨_,e,rfl,rfl⟩
  exact ⟨⟨_,r5,rfl⟩,q _ r5 r3 r4 (si r1) (si r2) fun a o x=>Qj _ (Qj _ (Qj _ (Qj _ (Qj _ x))))⟩
end
end
section
def SqX (b:Bool) (K:Qd) (H:Hp) (a:Addr) (xs:List V):Prop:=match b with
 | true=>SqT K H a xs
 | false=>SqL K H a xs
section
variable {X:Cx}{pins:List (Addr×Obj)}{σ:St}{H:Hp}{s:Ql}{b:Bool}{a:Addr}{xs ys:List V}
def Inv.sqx (I:Inv X pins σ H s) (h:SqX b X.K H a xs) : ∃ its:List Value,Vals xs its/\SqOf b s.heap a its.toArray:=by
 cases b with
 | true =>
  obtain ⟨its,r,p,_⟩:=I.tuple h;obtain ⟨o,ho,hc,n,hd⟩:=p;exact ⟨its,r,o,ho,hc,n,hd⟩
 | false =>
  obtain ⟨its,r,p,_⟩:=I.list h;exact ⟨its,r,p.isList⟩
def Inv.sqx_inj (I:Inv X pins σ H s) (h:SqX b X.K H a xs) (h':SqX b X.K H a ys):xs=ys:=by
 cases b with
 | true=>exact I.tuple_inj h h'
 | false=>exact I.list_inj h h'
end
def Itz (K:Qd) (b c:Bool) (l m:Addr):It :=
 ⟨fun i H => ∃ xs ys x y,SqX b K H l xs/\SqX c K H m ys/\xs[i]?=some x/\ys[i]?=some y,fun i H v H' => ∃ p x y,(∀ xs,SqX b K H l xs->xs[i]?=some x)/\(∀ ys,SqX c K H m ys->ys[i]?=some y)/\H p=none/\v = .ref p/\H'=upd H p (.tup [x,y]),
  fun i H => ∃ xs ys,SqX b K H l xs/\SqX c K H m ys/\(xs.length<=i\/ys.length<=i)⟩
def zaet {P:Zr}{w:World}{K:Qd}{elts:List Expr}{x1:Nat}{tpos:Pos}{b c:Bool} (z TI TO j1 j2 l m:Addr) (D:Qin z TI TO j1 j2 l m) :
 Turn P w K (.Tuple elts x1 tpos) (Itz K b c l m) [z,TI,TO,j1,j2] z (fun i h=>IsZip h z TI TO .none/\Qam h TI (.ref j1) (.ref j2)/\(∃ x0 y0,Qam h TO x0 y0)/\SqIt b h j1 l i/\SqIt c h j2 m i) where
  mem:=by simp
  obj:=fun i h st a ha=>by
   obtain ⟨s0,s1,⟨x0,y0,s2⟩,s3,s4⟩:=st;simp only [Q1,Yu,or_false] at ha;rcases ha with rfl|rfl|rfl|rfl|rfl
   ·exact ⟨_,s0,fun v z=>by have z':Qgg _=Qez v:=z;cases z'⟩
   ·exact ⟨_,s1,fun v z=>by have z':Qkn _ _=Qez v:=z;cases z'⟩
   ·exact ⟨_,s2,fun v z=>by have z':Qkn _ _=Qez v:=z;cases z'⟩
   ·exact s3.obj
   ·exact s4.obj
  keep:=fun i h h' st k=>by
   obtain ⟨s0,s1,⟨x0,y0,s2⟩,s3,s4⟩:=st;exact ⟨k z (by simp) _ s0,k TI (by simp) _ s1,⟨x0,y0,k TO (by simp) _ s2⟩,s3.at' fun o q=>k j1 (by simp) o q,s4.at' fun o q=>k j2 (by simp) o q⟩
  item:=by
   intro X hP hw hK hc i pins s σ H E I hf st hg;subst hP hw hK;obtain ⟨xs,ys,x,y,hq,hq',hx,hy⟩:=hg;obtain ⟨us,rv,p1⟩:=I.sqx hq;obtain ⟨vs,rw',p2⟩:=I.sqx hq';obtain ⟨u,hu,ru⟩:=rv.get hx;obtain ⟨v,hv,rv'⟩:=rw'.get hy;obtain ⟨s0,s1,⟨x0,y0,s2⟩,s3,s4⟩:=st;obtain ⟨z0,z1,z2,z3,z4,z5⟩:=hf z (by simp);obtain ⟨o0,o1,o2,o3,o4,o5⟩:=hf TO (by simp);obtain ⟨f0,f1,f2,f3,f4,f5⟩:=hf j1 (by simp);obtain ⟨g0,g1,g2,g3,g4,g5⟩:=hf j2 (by simp);have zlt:z<s.heap.objs.size:=Qt s0;refine zaew D s0 s1 s2 s3 s4 p1 p2 (u:=u) (v:=v) (by simpa using hu) (by simpa using hv) fun h₁ a0 a2 a3 a4 ht hz₁ hk=>⟨_,rfl,?_⟩
   refine wpAny_letOwnedTupleGo_zip (s:={ s with heap:=h₁ }) a0 fun h₂ he₂ hs₂=>?_;replace hs₂:Yo z h₁ h₂:=hs₂
   have fresh:H s.heap.objs.size=none:=I.hok.fresh (Qs _);have kk : ∀ a o,a≠z->a≠TO->a≠j1->a≠j2->s.heap.get? a=some o->h₂.get? a=some o:=fun a o b1 b2 b3 b4 q=>hs₂.extBut a o b1 (hk a o b1 b2 b3 b4 q);have kc : ∀ a o,a ∉ [z,TO,j1,j2]->s.heap.get? a=some o->h₂.get? a=some o:=fun a o hc q=>kk a o (fun z=>hc (by simp [z])) (fun z=>hc (by simp [z])) (fun z=>hc (by simp [z])) (fun z=>hc (by simp [z])) q;have nb : ∀ a o v,s.heap.get? a=some o->H a=some v->h₂.get? a=some o:=fun a o v e q=>kk a o (fun n=>by rw [n,z0] at q;cases q) (fun n=>by rw [n,o0] at q;cases q) (fun n=>by rw [n,f0] at q;cases q) (fun n=>by rw [n,g0] at q;cases q) e;have ht₂:h₂.get? s.heap.objs.size=some { cls :=.type "tuple",data :=.seq #[u,v] }:=(hs₂.2 _ (Z8 zlt)).trans ht;have I1:Inv X pins σ (upd H s.heap.objs.size (.tup [x,y])) { s with heap:=h₂ }:=by
    refine I.step (t':=s.toks) (g':=s.gens) (d':=s.drawn) (ch:=[z,TO,j1,j2]) (fun a ha=>?_) (fun a o _ _ hc q _=>kc a o hc q)
     (fun a o _ _ hc q _=>⟨o.slots,kc a o hc q⟩) (fun a o _ q n=>by rw [qk (Q5 (Qt q))];exact n)
     (fun a o hc q=>⟨o,kc a o hc q⟩) (fun a ys q=>by rw [qk (qm q fresh)];exact q) (fun a o v q=>by rw [qk (qm q fresh)];exact q)
     (fun a ps q=>⟨#[],by rw [qk (qm q fresh),q];simp,.nil⟩) (fun m hm=>?_) (fun a v' q=>?_) I.bare
    ·simp only [Q1,Yu,or_false] at ha;rcases ha with rfl|rfl|rfl|rfl
     ·exact ⟨z3,z1,z4,z5⟩
     ·exact ⟨o3,o1,o4,o5⟩
     ·exact ⟨f3,f1,f4,f5⟩
     ·exact ⟨g3,g1,g4,g5⟩
    ·obtain ⟨o,es,ep,ho',r⟩:=hm;exact ⟨o,es,ep,kk _ o (Z1 z1) (Z1 o1) (Z1 f1) (Z1 g1) ho',r⟩
    ·by_cases hb:a=s.heap.objs.size
     ·subst hb;rw [ql] at q;cases q;exact ⟨(by show 2<=Qz;decide),[u,v],.cons ru (.cons rv' .nil),⟨_,ht₂,rfl,_,rfl⟩⟩
     ·rw [qk hb] at q;refine (I.hok a v' q).stay (fun d ob hd e=>?_) (fun d e=>by rw [qk (qm e fresh)];exact e) fun d ws e=>by rw [qk (qm e fresh)];exact e
      rcases hd with hd|hd
      ·subst hd;exact nb _ _ _ e q
      ·exact nb _ _ _ e hd
   refine ⟨.ref s.heap.objs.size,_,I1,rfl,⟨s.heap.objs.size,x,y,fun ws hw=>by rw [I.sqx_inj hw hq];exact hx,fun ws hw=>by rw [I.sqx_inj hw hq'];exact hy,fresh,rfl,rfl⟩,⟨he₂,?_,⟨u,v,?_⟩,?_,?_⟩,fun a ha=>?_⟩
   ·exact hs₂.extBut _ _ D.TIz (hk _ _ D.TIz D.TITO D.TIi1 D.TIi2 s1)
   ·exact hs₂.extBut _ _ D.TOz a2
   ·exact a3.but hs₂ D.i1z
   ·exact a4.but hs₂ D.i2z
   ·have hlt:a<s.heap.objs.size:=by
     simp only [Q1,Yu,or_false] at ha;rcases ha with rfl|rfl|rfl|rfl|rfl
     ·exact zlt
     ·exact Qt s1
     ·exact Qt s2
     ·obtain ⟨o,q,_⟩:=s3.obj;exact Qt q
     ·obtain ⟨o,q,_⟩:=s4.obj;exact Qt q
    rw [qk (Q5 hlt)];exact (hf a ha).1
  done:=by
   intro X hP hw hK hc i pins s σ H E I hf st hg;subst hP hw hK;obtain ⟨xs,ys,hq,hq',hx⟩:=hg;obtain ⟨us,rv,p1⟩:=I.sqx hq;obtain ⟨vs,rw',p2⟩:=I.sqx hq';obtain ⟨s0,s1,⟨x0,y0,s2⟩,s3,s4⟩:=st;obtain ⟨z0,z1,z2,z3,z4,z5⟩:=hf z (by simp);obtain ⟨o0,o1,o2,o3,o4,o5⟩:=hf TO (by simp);obtain ⟨f0,f1,f2,f3,f4,f5⟩:=hf j1 (by simp);obtain ⟨g0,g1,g2,g3,g4,g5⟩:=hf j2 (by simp);have l1:=rv.length;have l2:=rw'.length;refine zale (I.ok.hd hc) D s0 s1 s2 s3 s4 p1 p2 (by rcases hx with hx|hx;exact .inl (by simp;omega);exact .inr (by simp;omega)) fun h' hk=>⟨rfl,?_⟩
   have kc : ∀ a o,a ∉ [z,TO,j1,j2]->s.heap.get? a=some o->h'.get? a=some o:=fun a o hc q=>hk a o (fun z=>hc (by simp [z])) (fun z=>hc (by simp [z])) (fun z=>hc (by simp [z])) (fun z=>hc (by simp [z])) q;have nb : ∀ a o v,s.heap.get? a=some o->H a=some v->h'.get? a=some o:=fun a o v e q=>hk a o (fun n=>by rw [n,z0] at q;cases q) (fun n=>by rw [n,o0] at q;cases q) (fun n=>by rw [n,f0] at q;cases q) (fun n=>by rw [n,g0] at q;cases q) e;refine I.step (t':=s.toks) (g':=s.gens) (d':=s.drawn) (ch:=[z,TO,j1,j2]) (fun a ha=>?_) (fun a o _ _ hc q _=>kc a o hc q)
    (fun a o _ _ hc q _=>⟨o.slots,kc a o hc q⟩) (fun a o _ q n=>n) (fun a o hc q=>⟨o,kc a o hc q⟩) (fun a ys q=>q) (fun a o v q=>q) (fun a ps q=>⟨#[],by rw [q];simp,.nil⟩) (fun m hm=>?_) (fun a v' q=>?_) I.bare
   ·simp only [Q1,Yu,or_false] at ha;rcases ha with rfl|rfl|rfl|rfl
    ·exact ⟨z3,z1,z4,z5⟩
    ·exact ⟨o3,o1,o4,o5⟩
    ·exact ⟨f3,f1,f4,f5⟩
    ·exact ⟨g3,g1,g4,g5⟩
   ·obtain ⟨o,es,ep,ho',r⟩:=hm;exact ⟨o,es,ep,hk _ o (Z1 z1) (Z1 o1) (Z1 f1) (Z1 g1) ho',r⟩
   ·refine (I.hok a v' q).stay (fun d ob hd e=>?_) (fun d e=>e) fun d ws e=>e;rcases hd with hd|hd
    ·subst hd;exact nb _ _ _ e q
    ·exact nb _ _ _ e hd
  self:=fun A i s Q E st h=>wpAny_pyIter_zip st.1 h
def zafd:Zq "zip" = some (.type "zip"):=by decide +kernel
section
variable {X:Cx}{elts:List Expr}{x1:Nat}{tpos:Pos}
def iZip (K:Qd) (ta:TA):TI:=fun σ H R=>ta σ H fun vs H1 => ∃ b c l m,vs=[.ref l,.ref m]/\(∃ xs,SqX b K H1 l xs)/\(∃ ys,SqX c K H1 m ys)/\R (Itz K b c l m) H1
def zaoa {a b:Expr}{ta:TA}{p pos:Pos} (hg:Gl X "zip") (hm:X.mg "zip" = none) (ha:PA X [a,b] ta) (hs:Qp [a,b] X.env=[(false,eval a X.env),(false,eval b X.env)]:=by rfl) (hs2:Qp [b] X.env=[(false,eval b X.env)]:=by rfl) :
 PI X (.Tuple elts x1 tpos) (.Call (.Name "zip" p) [a,b] [] pos) (iZip X.K ta):=by
 intro pins s σ H R I h;refine Call_ (qlj I hg hm zafd (Y6 (thn (ha pos pins s σ H _ I h) fun us s1 xx172=>?_) (by rw [hs,hs2]) (by rw [hs2];rfl)));obtain ⟨vs,H1,I1,r1,q1⟩:=xx172;obtain ⟨kb,kc,l,m,e,⟨xs,hq⟩,⟨ys,hq'⟩,q⟩:=q1;subst e;cases r1 with
 | cons r rr =>
  cases rr with
  | cons r' rr =>
   cases rr;cases r;cases r';obtain ⟨its,rv,pl⟩:=I1.sqx hq;obtain ⟨its',rv',pl'⟩:=I1.sqx hq';refine zakl pl pl' fun h' a0 a1 a2 a3 a4 hk=>?_;refine wpAny_pyIter_zip a0 ?_;have I2:Inv X pins σ H1 { s1 with heap:=h' }:=I1.kept (t':=s1.toks) hk;refine ⟨s1.heap.objs.size+4,[s1.heap.objs.size+4,s1.heap.objs.size+2,s1.heap.objs.size+3,s1.heap.objs.size,s1.heap.objs.size+1],_,_,H1,rfl,I2,zaet (b:=kb) (c:=kc) _ _ _ _ _ l m (zipApart_new pl.lt pl'.lt),⟨a0,a1,⟨_,_,a2⟩,a3,a4⟩,fun b hb=>?_,q⟩;have hle:s1.heap.objs.size<=b:=by
    simp only [Q1,Yu,or_false] at hb;rcases hb with rfl|rfl|rfl|rfl|rfl
    ·exact Qcj _ 4
    ·exact Qcj _ 2
    ·exact Qcj _ 3
    ·exact Qs _
    ·exact Qcj _ 1
   exact I1.fpOk hle (I1.hok.fresh hle)
end
def zipD (l m:List Qh):List Qh:=(l.zip m).map fun p => .tuple [p.1,p.2]
def qbw (l m:List Qh):(zipD l m).length=min l.length m.length:=by simp [zipD]
def qwn {l m:List Qh}{i:Nat}{x y:Qh} (h1:l[i]?=some x) (h2:m[i]?=some y):(zipD l m)[i]?=some (.tuple [x,y]):=by
 unfold zipD;rw [Qa,Qdr (z:=(x,y)) |>.mpr ⟨h1,h2⟩];rfl
def qfq {l m:List Qh}{i:Nat}{d:Qh} (h:(zipD l m)[i]?=some d) : ∃ x y,l[i]?=some x/\m[i]?=some y/\d = .tuple [x,y]:=by
 have hi:=(Qk.mp h).1;rw [qbw] at hi;have h1:i<l.length:=by omega
 have h2:i<m.length:=by omega
 have e:=qwn (Qc h1) (Qc h2);rw [h] at e;exact ⟨_,_,Qc h1,Qc h2,Qx e⟩
def qcw {b:Bool}{K:Qd}{F H:Hp}{a:Addr}{xs:List V} (s:Same F H) (h:SqX b K F a xs):SqX b K H a xs:=by
 cases b with
 | true=>exact qK s h
 | false=>exact s.seq h
def zakj {b c:Bool}{K:Qd}{F:Hp}{a a':Addr}{xs ys:List V}{l m:List Qh} (hs:SqX b K F a xs) (hr:Iss K F l xs) (hs':SqX c K F a' ys) (hr':Iss K F m ys):ItD K (Itz K b c a a') F (zipD l m) where
 go:=fun i H s hi=>by
  rw [qbw] at hi;exact ⟨xs,ys,xs[i]'(by rw [hr.len];omega),ys[i]'(by rw [hr'.len];omega),qcw s hs,qcw s hs',Qc _,Qc _⟩
 stop:=fun H s=>by
  rw [qbw];refine ⟨xs,ys,qcw s hs,qcw s hs',?_⟩;rw [hr.len,hr'.len];omega
 yld:=fun i H x H' F1 s1 s2 hi hy=>by
  obtain ⟨p,y,y',hy,hy',hp,rfl,rfl⟩:=hy;obtain ⟨d,e1,e2⟩:=hr.get' (hy xs (qcw (s1.trans s2) hs));obtain ⟨d',e1',e2'⟩:=hr'.get' (hy' ys (qcw (s1.trans s2) hs'));have g:=Go.put (o:=HO.tup [y,y']) s2 hp;exact ⟨_,_,qwn e1 e1',g,qjy (SqT.of ql) (qB ((e2.mono s1).mono g.f) (qB ((e2'.mono s1).mono g.f) qQ))⟩
def zahc {K:Qd}{F:Hp}{d:Qh}{l:List Qh}{v:V} (e:qfs d=some l) (i:Is K F d v) : ∃ b a xs,v = .ref a/\SqX b K F a xs/\Iss K F l xs:=by
 cases d with
 | list m=>cases e;obtain ⟨a,xs,rfl,hs,hr⟩:=i.lst_inv;exact ⟨false,a,xs,rfl,hs,hr⟩
 | tuple m=>cases e;obtain ⟨a,xs,rfl,hs,hr⟩:=i.tup_inv;exact ⟨true,a,xs,rfl,hs,hr⟩
 | _=>cases e
section
variable {X:Cx}{a b:Expr}{p pos:Pos}{elts:List Expr}{x1:Nat}{tpos:Pos}
def zaqx (Wa Wb:WE):WF:=fun env Q=>Wa env fun x e1=>Wb e1 fun y e=>(qfs x).elim False fun l=>(qfs y).elim False fun m=>Q (zipD l m) e
def qhu {Wa Wb:WE} (hm:X.mg "zip" = none) (ha:VE X a Wa) (hb:VE X b Wb) (hg:Gl X "zip":=by rfl) (hs:Qp [a,b] X.env=[(false,eval a X.env),(false,eval b X.env)]:=by rfl) (hs2:Qp [b] X.env=[(false,eval b X.env)]:=by rfl)
 (hs3:Qp [a,b] X.env=(false,eval a X.env)::Qp [b] X.env:=by rfl) (hs4:Qp [b] X.env=(false,eval b X.env)::Qp [] X.env:=by rfl):VI X (.Tuple elts x1 tpos) (.Call (.Name "zip" p) [a,b] [] pos) (zaqx Wa Wb) :=
 (zaoa hg hm (qH ha (qH hb qaw hs4) hs3) hs hs2).imp fun σ H R xx173=>by
  obtain ⟨M,env,F,Q,I,h,k⟩:=xx173;refine ⟨M,env,F,_,I,h,fun d v F1 H1 e1 I1 s1 i1 h1=>⟨M,e1,F1,_,I1,h1,fun d2 v2 F2 H2 e2 I2 s2 i2 h2=>?_⟩⟩;cases q1:qfs d with
  | none=>rw [q1] at h2;exact h2.elim
  | some l =>
   cases q2:qfs d2 with
   | none=>rw [q1,q2] at h2;exact h2.elim
   | some m =>
    rw [q1,q2] at h2;obtain ⟨kb,a1,xs,rfl,z1,z2⟩:=zahc q1 (i1.mono s2);obtain ⟨kc,a2,ys,rfl,z3,z4⟩:=zahc q2 i2;exact ⟨kb,kc,a1,a2,rfl,⟨xs,qcw I2.fh z1⟩,⟨ys,qcw I2.fh z3⟩,k _ _ F2 H2 e2 I2 (s1.trans s2) (zakj z1 z2 z3 z4) h2⟩
end
end
section
def boot_ValueError:Zq "ValueError" = some (.type "ValueError"):=by decide +kernel
section
variable {X:Cx}
end
end
section
section
variable {X:Cx}{e:Expr}{W:WF}{We:WE}{pos:Pos}
def wExt (i:Nat) (W:WF):WS:=fun D env=>(gS env i).mut=true/\W env fun l e=>(gS e i).mut=true/\(gS e i).cnt.length+l.length<=Qz/\D.nx (e.set i ((gS e i).upd ((gS e i).cnt++l)))
def qtj (i:Nat) {x:Str}{px apos cpos:Pos} (he:VF X e W) (hN:X.N[i]?=some x:=by rfl) (hv:Vis X.env.scope x:=by first|exact Yn rfl|exact Zz (Yn rfl)|exact Zz (Zz rfl)) (hd:Nd0 x:=by decide)
 (hcd:Nd1 x:=by decide)
 (hbase:Vu (.Name x px) "extend" X.env (eval (.Name x px) X.env)=eval (.Name x px) X.env:=by rfl)
 (hfew:((Vc cpos (Qp [e] X.env)).all (fun x => !x.1)&&(Qct cpos (Jx [] X.env)).all (fun x=>x.1.isSome)
  && decide ([e].length+([]:List Qbo).length+(if ([]:List Qbo).isEmpty then 0 else 1)<30))=true:=by rfl)
 (hline:(apos.endLine==cpos.line)=true:=by rfl) (hst:Qp [e] X.env=(false,eval e X.env)::Qp [] X.env:=by rfl) (hplain:(Vc cpos (Qp [] X.env)).any (·.1)=false:=by rfl)
 (hs:Vm (.Call (.Attribute (.Name x px) "extend" apos) [e] [] cpos) none pos.line X.env=pure false:=by rfl):VS X (.Expr (.Call (.Attribute (.Name x px) "extend" apos) [e] [] cpos) pos) (wExt i W) :=
 (qhv (qyv Vs Qeb Qec zacf (qbu hN hv hd hcd) (qH he qaw hst) hbase hfew hline hst hplain) hs).imp fun D σ H xx174=>by
  obtain ⟨M,env,F,DD,I,⟨hm,h⟩,k⟩:=xx174;obtain ⟨p,vs,ep,g1,g2,g3,g4⟩:=(I.slot i).addr hm;refine ⟨_,qav ep,.inl ⟨rfl,_,SqL.of g1⟩,M,env,F,_,I,h,fun a us ds F1 H1 e1 I1 s1 hH hF _ _ _ i1 h1=>?_⟩;obtain ⟨m1,z1,q1⟩:=h1;obtain ⟨p',vs1,ep',f1,f2,f3,f4⟩:=(I1.slot i).addr m1;rw [ep] at ep';injection ep' with ep';injection ep' with ep';subst ep';exact ⟨p,a,vs1,us,rfl,rfl,f1,hH,by rw [f4.len,i1.len];exact z1,k.nx _ F1 _ σ (I1.chg m1 ep (qaa f4 i1)) s1 q1⟩
end
end
section
section
variable {prog:Zr}{w:World}{A:Ye}{E:Value->Ql->Prop}{s:Ql}
end
section
variable {X:Cx}
end
end
section
section
variable {X:Cx}{a b c d:Expr}{pos:Pos}{ta tb tc td:TE}
variable {Wa Wb Wc Wd:WE}
end
end
section
def qtz (ix:List Nat) (k:Nat) (wi:TI) (g:TG) (tt:TT) (te:TE):TE:=fun σ H Q=>wi σ H fun J H1 => ∃ W:Nat->Nat->List V->St->Hp->Prop,(∃ m,W 0 m [] (qpn ix k σ) H1) /\ ∀ i m ys σ1 H2,W i m ys σ1 H2 ->
 (J.stop i H2/\ys.length<=Qz /\ ∀ p,H2 p=none->Q (.ref p) (upd H2 p (.lst ys))) \/
 (J.go i H2/\ys.length<Qz /\ ∃ (N:V->St->Hp->Prop) (N0:St->Hp->Prop),(∀ y σ2 H5,N y σ2 H5 -> ∃ m',m'<m/\W (i+1) m' (ys++[y]) σ2 H5)/\(∀ σ2 H5,N0 σ2 H5 -> ∃ m',m'<m/\W (i+1) m' ys σ2 H5) /\
  ∀ x H3,J.yld i H2 x H3->g x σ1 H3 fun σ2 H4=>tt σ2 H4 fun b H5=>match b with|true=>te σ2 H5 fun y H6=>N y σ2 H6|false=>N0 σ2 H5)
def qel {prog:Zr}{w:World}{A:Ye}{R:Result->Ql->Prop}{s:Ql}{elt target iter cnd:Expr}{scope:Scope}{pos:Pos}{it acc:Value}{env:Env} (I:Nat->Ql->Prop)
 (turn : ∀ n s,I n s->wpAny (model prog w) A (Qet it) (fun r s₁=>match r with
  | none=>R (.ok .next) s₁
  | some v=>wpAny (model prog w) A (Qaa target it v) (fun _ s₁'=>wpAny (model prog w) A (Qcm target env v) (fun _ s₂=>wpAny (model prog w) A (Qia cnd env (eval cnd env)) (fun b s₂'=>match b with
   | true=>wpAny (model prog w) A (eval elt env) (fun x s₃ =>
    wpAny (model prog w) A (call (.builtin "list.append") [acc,x]) (fun _ s₄ => ∃ m,m<n/\I m s₄) (Qak (model prog w) A env fun e s'=>R (.error e) s') s₃)
    (Qak (model prog w) A env fun e s'=>R (.error e) s') s₂'
   | false => ∃ m,m<n/\I m s₂') (Qak (model prog w) A env fun e s'=>R (.error e) s') s₂) (Qak (model prog w) A env fun e s'=>R (.error e) s') s₁') (Qak (model prog w) A env fun e s'=>R (.error e) s') s₁) (Qak (model prog w) A env fun e s'=>R (.error e) s') s)
  (n:Nat) (h:I n s):Qdw (model prog w) A (.compLoop (.ListComp elt [⟨target,iter,[cnd],0⟩] scope pos) 0 it acc env) R s:=by
  refine codeAny_loop rfl I (fun n s hI=>?_) n h;show wpAny _ _ ((compTurn (.ListComp elt [⟨target,iter,[cnd],0⟩] scope pos) 0 it acc env).onRaise (fun x=>do noteFrame x env;theTreesLotGoes x)) _ _ s;refine wpAny_noted (?_:_);rw [compTurn_list];refine Qi (Qbp (Qi (Yw (turn n s hI) (fun r s₁ h₁=>?_) fun _ _ z=>z)));cases r with
  | none=>exact Q9 h₁
  | some v =>
   refine Qi (Yw h₁ (fun _ s₁' h₁'=>Qi (Yw h₁' (fun _ s₂ h₂=>?_) fun _ _ z=>z)) fun _ _ z=>z);refine Qi (wpAny_tests_one (Yw h₂ (fun b s₂' hb=>?_) fun _ _ z=>z));cases b with
   | true =>
    refine Qi (Qi (Yw hb (fun x s₃ h₃=>Qi (Yw h₃ (fun _ s₄ h₄=>Q9 (Q9 ⟨rfl,h₄⟩)) fun _ _ z=>z)) fun _ _ z=>z))
   | false=>exact Qi (Q9 (Q9 ⟨rfl,hb⟩))
section
variable {X:Cx}{elt target iter cnd:Expr}{scope:Scope}{pos:Pos}{caps own:List Str}{ix:List Nat}{wi:TI}{g:TG}{te:TE}{tt:TT}
def zada (hc:X.calm=true) (S:CompScope X.env scope caps) (hi:PI X target iter wi)
 (hg : ∀ pins s3 H ex,PG (blk X pins scope (caps++own) s3 H ex) target g)
 (he : ∀ pins s3 H ex,PE (blk X pins scope (caps++own) s3 H ex) elt te)
 (ht : ∀ pins s3 H ex,PT (blk X pins scope (caps++own) s3 H ex) cnd tt)
 (hix:caps.length=ix.length:=by rfl) (hcapB:(caps.zip ix).all (fun p=>X.N[p.2]?==some p.1)=true:=by rfl)
  (hs : ∀ x,Zu iter X.env x=pure x:=by intro _;rfl):PE X (.ListComp elt [⟨target,iter,[cnd],0⟩] scope pos) (qtz ix own.length wi g tt te):=by
  intro pins s σ H Q I h;rw [eval_ListComp];refine qmu (cs:=[cnd]) (tt:=tt) (Tst:=fun env P E s=>wpAny (model X.prog X.w) X.A (Qia cnd env (eval cnd env)) P E s) (fun J turn n h=>qel J turn n h) (use:=none) (Q0:=EP X pins σ Q) hc S hi hg he (fun pins s3 H ex pins' s σ H' Qb P E I q k=>Yw (ht pins s3 H ex pins' s σ H' Qb I q) (fun b s' z=>?_) fun _ _ z=>z.elim) hix hcapB hs I h (fun J H1 z=>z) fun D C s6 H6 m6 ns6 IX c1 c2 c3 c4 c5 c6 q=>⟨m6,ns6,fun h' sb=>⟨.ref D,H6,IX.turned (t':=s6.toks) (it:=C) (fun b o hb q=>sb.extBut b o hb q) c1 c2 c4 c5 c6,rfl,q⟩⟩
  obtain ⟨H'',I'',q''⟩:=z;exact k b s' H'' I'' q''
def quf (ix:List Nat) (k:Nat) (Wi:WF) (G:WG) (Wt:WT) (We:WE):WF:=fun env Q=>Wi env fun ds e0=>ds.length<Qz /\ ∃ P:Nat->List Qh->Sto->Prop,P 0 [] (qxe ix k e0) /\
 (∀ i d ys e,ds[i]?=some d->P i ys e->G d e fun e1=>Wt e1 fun b e2=>if b=true then We e2 fun y e3=>P (i+1) (ys++[y]) e3 else P (i+1) ys e2) /\ ∀ ys e,P ds.length ys e->Q ys e0
section
variable {K:Qd}{ix:List Nat}{n:Nat}{Wi:WF}{G:WG}{Wt:WT}{We:WE}{σ:St}{H:Hp}{R:VK}
def qnh (h:qsc K (quf ix n Wi G Wt We) σ H R):qtz ix n (qoc K Wi) (qko K G) (qsb K Wt) (qcm K We) σ H R:=by
 obtain ⟨M,env,F,Q,I,h,k⟩:=h;refine ⟨M,env,F,_,I,h,fun ds J F1 H1 e1 I1 s1 jt xx177=>?_⟩;obtain ⟨hz,P,p0,turn,fin⟩:=xx177;refine ⟨fun i m ys σ1 H'=>m=ds.length-i/\i<=ds.length /\ ∃ e' F' l,EnvOk K ⟨H1,H1,F1⟩ F' H' e' σ1/\Iss K F' l ys/\ys.length<=i/\P i l e',⟨ds.length,by simp,Y7 _,qxe ix n e1,F1,[],I1.cap ix n,qQ,Qs _,p0⟩,?_⟩;rintro i m ys σ1 H2 ⟨hm,hi,e2,F2,l,I2,i2,hl,p2⟩;have g2:=I2.goOf;by_cases he:i=ds.length
 ·subst he;exact .inl ⟨jt.stop H2 (g2.f.trans g2.fh),by omega,qjq (I1.go g2) (s1.trans g2.f) i2 (fin l e2 p2) k⟩
 ·have hlt:i<ds.length:=by omega
  refine .inr ⟨jt.go i H2 (g2.f.trans g2.fh) hlt,by omega,fun y σ' H' => ∃ e' F' l',EnvOk K ⟨H1,H1,F1⟩ F' H' e' σ'/\Iss K F' l' (ys++[y])/\P (i+1) l' e',fun σ' H' => ∃ e' F' l',EnvOk K ⟨H1,H1,F1⟩ F' H' e' σ'/\Iss K F' l' ys/\P (i+1) l' e',
   fun y σ' H' xx176=>by obtain ⟨e',F',l',I',i',p'⟩:=xx176;exact ⟨ds.length-(i+1),by omega,rfl,hlt,e',F',l',I',i',by simp;omega,p'⟩,fun σ' H' xx175=>by obtain ⟨e',F',l',I',i',p'⟩:=xx175;exact ⟨ds.length-(i+1),by omega,rfl,hlt,e',F',l',I',i',by omega,p'⟩,fun x H3 hy=>?_⟩
  obtain ⟨d,F3,hd,g,j⟩:=jt.yld i H2 x H3 F2 g2.f g2.fh hlt hy;refine ⟨_,e2,F3,d,_,I2.go g,j,turn i d l e2 hd p2,fun F4 H4 e4 σ4 I4 s4 h4=>⟨_,e4,F4,_,I4,h4,fun b F5 H5 e5 I5 s5 h5=>?_⟩⟩;cases b with
  | true =>
   rw [if_pos rfl] at h5;refine ⟨_,e5,F5,_,I5,h5,fun d6 v6 F6 H6 e6 I6 s6 i6 h6=>?_⟩;exact ⟨e6,F6,l++[d6],I6,qaa (((i2.mono (g.f.trans s4)).mono s5).mono s6) (qB i6 qQ),h6⟩
  | false =>
   rw [if_neg Zn] at h5;exact ⟨e5,F5,l,I5,(i2.mono (g.f.trans s4)).mono s5,h5⟩
end
def qmw {elt target iter cnd:Expr}{scope:Scope}{pos:Pos}{caps own:List Str}{ix:List Nat}{Wi:WF}{G:WG}{Wt:WT}{We:WE} (hc:X.calm=true) (S:CompScope X.env scope caps) (hi:VI X target iter Wi)
 (hg : ∀ pins s3 H ex,VG (blk X pins scope (caps++own) s3 H ex) target G) (ht : ∀ pins s3 H ex,VT (blk X pins scope (caps++own) s3 H ex) cnd Wt)
 (he : ∀ pins s3 H ex,VE (blk X pins scope (caps++own) s3 H ex) elt We)
 (hix:caps.length=ix.length:=by rfl) (hcapB:(caps.zip ix).all (fun p=>X.N[p.2]?==some p.1)=true:=by rfl)
  (hs : ∀ x,Zu iter X.env x=pure x:=by intro _;rfl):VF X (.ListComp elt [⟨target,iter,[cnd],0⟩] scope pos) (quf ix own.length Wi G Wt We) :=
  (zada (g:=qko X.K G) (tt:=qsb X.K Wt) (te:=qcm X.K We) hc S hi hg he ht hix hcapB hs).imp fun _ _ _ h=>qnh h
end
end
section
def isIn (k:Int):Value->Bool
 | .int b _=>b==k
 | _=>false
def qpl : ∀ {ns:List Int}{us:List Value},Vals (ns.map V.int) us -> ∀ (i:Nat) (u:Value),us[i]?=some u -> ∃ n t,ns[i]?=some n/\u = .int n t
 | [],_,.nil,i,u,h=>by simp at h
 | n::ns,_,.cons r q,0,u,h=>by
  obtain ⟨t,rfl⟩:=r;simp at h;exact ⟨n,t,rfl,h.symm⟩
 | n::ns,_,.cons r q,i+1,u,h=>by
  obtain ⟨m,t,a,b⟩:=qpl q i u (by simpa using h);exact ⟨m,t,by simpa using a,b⟩
section
variable {X:Cx}
def zaci:MtM X "list.index" (fun x vs H Q => ∃ (a:Addr) (ns:List Int) (k:Int) (j:Nat),x = .ref a/\vs=[.int k]/\SqL X.K H a (ns.map V.int)/\ns[j]?=some k/\(∀ m,m<j->ns[m]?≠some k)/\Q (.int (j:Nat)) H):=by
 intro pins s σ H x vs v us Q I rx rv h;obtain ⟨a,ns,k,j,rfl,rfl,hs,hj,hno,q⟩:=h;cases rx;obtain ⟨u,rfl,ru⟩:=rv.one;obtain ⟨tk,rfl⟩:=ru;obtain ⟨its,r,⟨⟨cls,dd,data,sl⟩,n,e,hc,hd,hdt⟩,hz⟩:=I.list hs;simp only at hc hd hdt;subst hc hd hdt;have hl:ns.length=its.length:=by have:=r.length;simpa using this
 have hjl:=(Qk.mp hj).1;have hjs:j<its.toArray.size:=by simp;omega
 refine Qbz F.slot_list_index ⟨_,e,rfl⟩ F.entry_list_index (F.args_list_index_2 _ _) (SeqAt.list_indexAt a its.toArray n none sl (.int k tk) (isIn k) j hjs ?_ ?_ ?_) ⟨e,fun y hy=>?_,?_⟩
 ·have hz':ns.length<=Qz:=by simpa using hz
  have:Qz<2^62:=by decide
  omega
 ·obtain ⟨m,t,a1,a2⟩:=qpl r j its[j] (Qc _);rw [hj] at a1;cases a1;show isIn k its[j]=true;rw [a2];simp [isIn]
 ·intro m hm hmj;have hml:m<its.length:=by simpa using hm
  obtain ⟨z,t,a1,a2⟩:=qpl r m its[m] (Qc _);have h2:z≠k:=fun q=>hno m hmj (by rw [a1,q]);show isIn k its[m]=false;rw [a2];simp [isIn,h2]
 ·have hy':y ∈ its:=by simpa using hy
  obtain ⟨i,hi,rfl⟩:=Qdc hy';obtain ⟨z,t,a1,a2⟩:=qpl r i its[i] (Qc _);rw [a2];exact Qgr z t k tk
 ·exact ⟨.int (j:Nat),H,I.tok _,⟨_,rfl⟩,q⟩
end
def iss_ints' {K:Qd}{F:Hp} : ∀ {ns:List Int}{xs:List V},Iss K F (ns.map Qw) xs->xs=ns.map V.int
 | [],_,h=>h.nil_inv
 | b::bs,_,h=>by obtain ⟨y,ys,rfl,p,q⟩:=h.cons_inv;rw [p.int_inv,iss_ints' q];rfl
section
variable {X:Cx}{e:Expr}{We:WE}{pos:Pos}
def zaqz (i:Nat) (f:Qh->Qh->(Qh->Prop)->Prop) (W:WE):WE:=fun env Q => ∃ l,gS env i = .val (.list l)/\W env fun d e=>f (.list l) d fun r=>Q r e
def zakv:Qh->Qh->(Qh->Prop)->Prop:=fun l d q => ∃ (ns:List Int) (k:Int) (j:Nat),l = .list (ns.map .int)/\d = .int k/\ns[j]?=some k/\(∀ m,m<j->ns[m]?≠some k)/\q (.int (j:Nat))
variable {x:Str}{px apos cpos:Pos}
def zacy (i:Nat) (he:VE X e We) (hN:X.N[i]?=some x:=by rfl) (hv:Vis X.env.scope x:=by first|exact Yn rfl|exact Zz (Yn rfl)|exact Zz (Zz rfl)) (hd:Nd0 x:=by decide)
 (hcd:Nd1 x:=by decide) (hbase:Vu (.Name x px) "index" X.env (eval (.Name x px) X.env)=eval (.Name x px) X.env:=by rfl)
 (hfew:((Vc cpos (Qp [e] X.env)).all (fun x => !x.1)&&(Qct cpos (Jx [] X.env)).all (fun x=>x.1.isSome)&&decide ([e].length+([]:List Qbo).length+(if ([]:List Qbo).isEmpty then 0 else 1)<30))=true:=by rfl)
 (hline:(apos.endLine==cpos.line)=true:=by rfl) (hst:Qp [e] X.env=(false,eval e X.env)::Qp [] X.env:=by rfl) (hplain:(Vc cpos (Qp [] X.env)).any (·.1)=false:=by rfl) :
 VE X (.Call (.Attribute (.Name x px) "index" apos) [e] [] cpos) (zaqz i zakv We) :=
 (qyv Vs PySem.F.slot_list_index PySem.F.type_list_index zaci (qbu hN hv hd hcd) (qH he qaw hst) hbase hfew hline hst hplain).imp fun σ H R xx178=>by
  obtain ⟨M,env,F,Q,I,⟨l,hm,h⟩,k⟩:=xx178;have S:=I.slot i;rw [hm] at S;obtain ⟨v,ev,jv⟩:=S;obtain ⟨a,xs,rfl,hs,hr⟩:=jv.lst_inv;refine ⟨_,qav ev,.inl ⟨rfl,xs,I.fh.seq hs⟩,M,env,F,_,I,h,fun d v F1 H1 e1 I1 s1 i1 h1=>?_⟩;obtain ⟨bs,kb,j,el,rfl,hj,hno,q⟩:=h1;cases el;have ex:=iss_ints' hr;subst ex;exact ⟨a,bs,kb,j,rfl,by rw [i1.int_inv],(s1.trans I1.fh).seq hs,hj,hno,k _ _ F1 H1 e1 I1 s1 (qO _) q⟩
end
end
section
def qzh {h:Heap}{a:Addr}{us:Array Value} (p:IsTup h a us):h.IsTuple a us:=p
section
variable {prog:Zr}{w:World}{A:Ye}{E:Value->Ql->Prop}{s:Ql}
def zafo {e j l:Addr}{k:Nat}{us:Array Value}{u old:Value}{Q:Value->Ql->Prop} (a0:Qgd s.heap e j k old) (a1:s.heap.IsTupleIter j l k) (g1:s.heap.IsTuple l us) (hu:us[k]?=some u) (hne:e≠j)
 (q : ∀ h',Qji h' e j ((k:Int)+1) u s.heap.objs.size->h'.IsTupleIter j l (k+1)->h'.get? s.heap.objs.size=some { cls :=.type "tuple",data :=.seq #[.int k s.toks,u] }->h'.objs.size=s.heap.objs.size+1 ->
  (∀ b o,b≠e->b≠j->s.heap.get? b=some o->h'.get? b=some o)->Q (.ref s.heap.objs.size) { s with heap:=h',toks:=s.toks+1 }) :
  wpAny (model prog w) A (Builtin.«enumerate.__next__» ⟨[.ref e],[]⟩) (fun r s' => ∃ v,r = .done (.ret v)/\Q v s') E s:=by
  obtain ⟨p0,g,d,t0,os⟩:=s;show wpAny _ _ (field (.ref e) 2 >>= _) _ _ _;refine Qi (Ys a0 rfl (x :=.ref j) rfl ?_);refine Qi (qwq a1 g1 hu fun p1 b1 m1=>?_);replace m1:Yo j p0 p1:=m1
  have c1:Qgd p1 e j k old:=(m1.2 e hne).trans a0;show wpAny _ _ (field (.ref e) 3 >>= _) _ _ ⟨p1,g,d,t0,os⟩;refine Qi (Ys c1 rfl (x:=Qge k) rfl ?_);show wpAny _ _ (field (.ref e) 4 >>= _) _ _ ⟨p1,g,d,t0,os⟩;refine Qi (Ys c1 rfl (x :=.none) rfl ?_);show wpAny _ _ (mkInt k >>= _) _ _ ⟨p1,g,d,t0,os⟩;refine Qi (wpAny_mkInt (?_:_));show wpAny _ _ (setField (.ref e) 3 (Qge ((k:Int)+1)) >>= _) _ _ ⟨p1,g,d,t0+1,os⟩;refine Qi (Yf c1 (by simp) fun p2 c2 m2=>?_);replace m2:Yo e p1 p2:=m2
  replace c2:Qgd p2 e j ((k:Int)+1) old:=c2
  show wpAny _ _ (setField (.ref e) 4 .none >>= _) _ _ ⟨p2,g,d,t0+1,os⟩;refine Qi (Yf c2 (by simp) fun p3 c3 m3=>?_);replace m3:Yo e p2 p3:=m3
  replace c3:Qgd p3 e j ((k:Int)+1) old:=c3
  show wpAny _ _ (newTuple [.int k t0,u] >>= _) _ _ ⟨p3,g,d,t0+1,os⟩;refine Qi (wpAny_newTuple (?_:_));have c4:Qgd (p3.push { cls :=.type "tuple",data :=.seq #[.int k t0,u] }) e j ((k:Int)+1) old:=Qj _ c3;generalize hp4:p3.push { cls :=.type "tuple",data :=.seq #[.int k t0,u] }=p4 at c4;have z3:p3.objs.size=p0.objs.size:=by rw [m3.1,m2.1,m1.1]
  have elt:e<p0.objs.size:=Qt a0;have t4:p4.get? p0.objs.size=some { cls :=.type "tuple",data :=.seq #[.int k t0,u] }:=by rw [<- hp4,<- z3];exact Q2 _ rfl
  have z4:p4.objs.size=p0.objs.size+1:=by rw [<- hp4,Z5,z3]
  have k4 : ∀ b o,b≠e->b≠j->p0.get? b=some o->p4.get? b=some o:=fun b o n1 n2 h=>by
   rw [<- hp4];exact Qj _ (m3.extBut b o n1 (m2.extBut b o n1 (m1.extBut b o n2 h)))
  have b4:p4.IsTupleIter j l (k+1):=by
   rw [<- hp4];obtain ⟨o,ho,r⟩:=(b1.extBut m2.extBut (Z1 hne)).extBut m3.extBut (Z1 hne);exact ⟨o,Qj _ ho,r⟩
  show wpAny _ _ (Zh (.ref e) >>= _) _ _ ⟨p4,g,d,t0+1,os⟩;rw [z3];clear hp4 c3 m3 c2 m2 c1 m1 b1 z3 p3 p2 p1;refine Qi (?_:wpAny _ _ (Zh (.ref e)) _ _ _);unfold Zh;refine Qi (Ys c4 rfl (x :=.none) rfl (Q9 ?_));simp only [if_true];refine Qi (Qfq (?_:_));refine Qi (Ys c4 rfl (x:=old) rfl ?_);refine Qi (Yf c4 (by simp) fun p5 c5 m5=>?_);replace m5:Yo e p4 p5:=m5
  replace c5:Qgd p5 e j ((k:Int)+1) u:=c5
  show wpAny _ _ (Zx (.ref e) (.ref p0.objs.size) >>= _) _ _ ⟨p5,g,d,t0+1,os⟩;refine Qi (?_:wpAny _ _ (Zx (.ref e) (.ref p0.objs.size)) _ _ _);unfold Zx;refine Qi (Yf c5 (by simp) fun p6 c6 m6=>?_);replace m6:Yo e p5 p6:=m6
  replace c6:Qji p6 e j ((k:Int)+1) u p0.objs.size:=c6
  refine Yf c6 (by simp) fun p7 c7 m7=>?_;replace m7:Yo e p6 p7:=m7
  replace c7:Qji p7 e j ((k:Int)+1) u p0.objs.size:=c7
  refine Qi (Qgn (Q9 ⟨_,rfl,q p7 c7 ?_ ?_ ?_ ?_⟩))
  ·exact ((b4.extBut m5.extBut (Z1 hne)).extBut m6.extBut (Z1 hne)).extBut m7.extBut (Z1 hne)
  ·exact m7.extBut _ _ (Z8 elt) (m6.extBut _ _ (Z8 elt) (m5.extBut _ _ (Z8 elt) t4))
  ·rw [m7.1,m6.1,m5.1,z4]
  ·exact fun b o n1 n2 h=>m7.extBut b o n1 (m6.extBut b o n1 (m5.extBut b o n1 (k4 b o n1 n2 h)))
def zact {e j l:Addr}{k:Nat}{us:Array Value}{x old:Value}{Q:Option Value->Ql->Prop} (a0:Qgd s.heap e j k old) (a1:s.heap.IsTupleIter j l k) (g1:s.heap.IsTuple l us) (hu:us[k]?=some x) (hne:e≠j)
 (q : ∀ h',Qji h' e j ((k:Int)+1) x s.heap.objs.size->h'.IsTupleIter j l (k+1)->h'.get? s.heap.objs.size=some { cls :=.type "tuple",data :=.seq #[.int k s.toks,x] }->h'.objs.size=s.heap.objs.size+1 ->
  (∀ b o,b≠e->b≠j->s.heap.get? b=some o->h'.get? b=some o)->Q (some (.ref s.heap.objs.size)) { s with heap:=h',toks:=s.toks+1 }):wpAny (model prog w) A (Qet (.ref e)) Q E s:=by
  have ty:s.TypeIs (.ref e) "enumerate":=⟨_,a0,rfl⟩
  unfold Qet;exact Qi (Qen (Vd (name:=Qo "__next__") ty J9 (J3 J9 ty Qew
   (zafo a0 a1 g1 hu hne fun h' r1 r2 r3 r4 r5=>Q9 (q h' r1 r2 r3 r4 r5)) (Qel _))))
def zaey {e j l:Addr}{k:Nat}{us:Array Value}{old:Value}{Q:Option Value->Ql->Prop} (hh:A.handled=none) (a0:Qgd s.heap e j k old) (a1:s.heap.IsTupleIter j l k) (g1:s.heap.IsTuple l us) (hu:us[k]?=none)
 (q : ∀ h',Qiv j s.heap h'->Q none { s with heap:=h' }):wpAny (model prog w) A (Qet (.ref e)) Q E s:=by
  have ty:s.TypeIs (.ref e) "enumerate":=⟨_,a0,rfl⟩
  unfold Qet;refine Qi (Qen (Vd (name:=Qo "__next__") ty J9 (J3 J9 ty Qew (?_:_) (Qel _))));show wpAny _ _ (field (.ref e) 2 >>= _) _ _ _;refine Qi (Ys a0 rfl (x :=.ref j) rfl ?_);refine Qi (qzy hh a1 g1 hu fun h' x m hx=>?_);obtain ⟨o,ho,hc⟩:=hx;exact Qi (wpAny_isInstance (T := "StopIteration") (b:=true) ⟨o,ho,hc⟩ isSubtype_stop (Q9 (q _ m)))
def zaeg (l:Addr) (us:Array Value):Meets (Builtin.«enumerate.__new__» ⟨[.type "enumerate",.ref l],[]⟩) (fun _ R s=>s.heap.IsTuple l us /\
 R (.ok (.ret (.ref (s.heap.push (itO true l)).objs.size))) { s with heap:=(s.heap.push (itO true l)).push { cls :=.type "enumerate",data :=.fields #[.none,.bool false,.ref s.heap.objs.size,Qge 0,.none,.none] } }) :=
  .of_wp fun prog w A R s h=>by
   obtain ⟨p0,g,d,tk,os⟩:=s;obtain ⟨hl,h⟩:=h;obtain ⟨ob,o1,o2,n,o3⟩:=id hl;have hsub:=sub_enumerate;have y1:Heap.IsTuple (Qiy ⟨p0,g,d,tk,os⟩) l us:=hl
   wp_walk using Jk o1
   refine wpAny_stack_any fun st=>Q9 ?_;split
   ·rename_i c _ _ _ _ _;cases (c==Qjr "enumerate")
    ·wp_walk using Jk o1,Jc y1
     exact ⟨_,rfl,h⟩
    ·wp_walk using Jk o1,Jc y1
     exact ⟨_,rfl,h⟩
   ·wp_walk using Jk o1,Jc y1
    exact ⟨_,rfl,h⟩
def zacl {l:Addr}{us:Array Value}{Q:Value->Ql->Prop} (hL:s.heap.IsTuple l us)
 (h : ∀ h',Qgd h' (s.heap.objs.size+1) s.heap.objs.size 0 .none->h'.IsTupleIter s.heap.objs.size l 0->h'.objs.size=s.heap.objs.size+2->(∀ b o,s.heap.get? b=some o->h'.get? b=some o)->Q (.ref (s.heap.objs.size+1)) { s with heap:=h' }) :
  wpAny (model prog w) A (call (.type "enumerate") [.ref l]) Q E s:=by
  refine callType_new F.called_enumerate (by decide) (F.typeCall_enumerate_1 _) (F.newCall_enumerate_1 _) (fun ob=>F.args_object_init_2 ob _) F.entry_enumerate_new (zaeg l us) ⟨hL,?_⟩;have hz:(s.heap.push (itO true l)).objs.size=s.heap.objs.size+1:=Z5 ..;have g2:((s.heap.push (itO true l)).push { cls :=.type "enumerate",data :=.fields #[.none,.bool false,.ref s.heap.objs.size,Qge 0,.none,.none] }).get? (s.heap.push (itO true l)).objs.size=some _:=Q2 _ rfl;have g1:((s.heap.push (itO true l)).push { cls :=.type "enumerate",data :=.fields #[.none,.bool false,.ref s.heap.objs.size,Qge 0,.none,.none] }).get? s.heap.objs.size=some (itO true l):=Qj _ (Q2 _ rfl);show _/\_;rw [hz] at g2 ⊢;exact ⟨⟨_,g2,rfl⟩,h _ g2 ⟨_,g1,rfl,rfl⟩ (by rw [Z5,hz]) fun b o x=>Qj _ (Qj _ x)⟩
end
def IteT (K:Qd) (a:Addr):It :=
 ⟨fun i H => ∃ xs x,SqT K H a xs/\xs[i]?=some x,fun i H v H' => ∃ p x,(∀ xs,SqT K H a xs->xs[i]?=some x)/\H p=none/\v = .ref p/\H'=upd H p (.tup [.int i,x]),fun i H => ∃ xs,SqT K H a xs/\xs.length<=i⟩
def qxn {P:Zr}{w:World}{K:Qd}{elts:List Expr}{x1:Nat}{tpos:Pos} (a e it:Addr) (hne:e≠it) :
 Turn P w K (.Tuple elts x1 tpos) (IteT K a) [e,it] e (fun i h=>(∃ old,Qgd h e it (i:Nat) old)/\h.IsTupleIter it a i) where
  mem:=by simp
  obj:=fun i h st b hb=>by
   obtain ⟨⟨old,s1⟩,s2⟩:=st;have hb':b=e\/b=it:=by simpa using hb
   rcases hb' with rfl|rfl
   ·exact ⟨_,s1,fun v z=>by have z':Qgg _=Qez v:=z;cases z'⟩
   ·obtain ⟨o,q,c,d⟩:=s2;exact ⟨o,q,fun v z=>by rw [d] at z;cases z⟩
  keep:=fun i h h' st k=>by
   obtain ⟨⟨old,s1⟩,s2⟩:=st;exact ⟨⟨old,k e (by simp) _ s1⟩,s2.at fun o q=>k it (by simp) o q⟩
  item:=by
   intro X hP hw hK hc i pins s σ H E I hf st hg;subst hP hw hK;obtain ⟨xs,x,hq,hx⟩:=hg;obtain ⟨its,rv,p,hz⟩:=I.tuple hq;obtain ⟨u,hu,ru⟩:=rv.get hx;obtain ⟨⟨old,s1⟩,s2⟩:=st;obtain ⟨f0,f1,f2,f3,f4,f5⟩:=hf e (by simp);obtain ⟨g0,g1,g2,g3,g4,g5⟩:=hf it (by simp);have hel:e<s.heap.objs.size:=Qt s1;refine zact s1 s2 (qzh p) (x:=u) (by simpa using hu) hne fun h₁ ho hi ht hz₁ hk=>⟨_,rfl,?_⟩
   refine Qdj (s:={ s with heap:=h₁,toks:=s.toks+1 }) ho fun h₂ he₂ hs₂=>?_;replace hs₂:Yo e h₁ h₂:=hs₂
   have fresh:H s.heap.objs.size=none:=I.hok.fresh (Qs _);have kk : ∀ b o,b≠e->b≠it->s.heap.get? b=some o->h₂.get? b=some o:=fun b o b1 b2 q=>hs₂.extBut b o b1 (hk b o b1 b2 q);have nb : ∀ b v,H b=some v->b≠e/\b≠it:=fun b v q=>⟨fun z=>(by rw [z,f0] at q;cases q),fun z=>(by rw [z,g0] at q;cases q)⟩
   have ht₂:h₂.get? s.heap.objs.size=some { cls :=.type "tuple",data :=.seq #[.int i s.toks,u] }:=(hs₂.2 _ (Z8 hel)).trans ht;have I1:Inv X pins σ (upd H s.heap.objs.size (.tup [.int i,x])) { s with heap:=h₂,toks:=s.toks+1 }:=by
    refine I.step (g':=s.gens) (d':=s.drawn) (ch:=[e,it]) (fun b hb=>?_) (fun b o _ _ hc q _=>kk b o (fun z=>hc (by simp [z])) (fun z=>hc (by simp [z])) q)
     (fun b o _ _ hc q _=>⟨o.slots,kk b o (fun z=>hc (by simp [z])) (fun z=>hc (by simp [z])) q⟩) (fun b o _ q n=>by rw [qk (Q5 (Qt q))];exact n)
     (fun b o hc q=>⟨o,kk b o (fun z=>hc (by simp [z])) (fun z=>hc (by simp [z])) q⟩) (fun b ys q=>by rw [qk (qm q fresh)];exact q) (fun b o v q=>by rw [qk (qm q fresh)];exact q)
     (fun b ps q=>⟨#[],by rw [qk (qm q fresh),q];simp,.nil⟩) (fun m hm=>?_) (fun b v q=>?_) I.bare
    ·have hb':b=e\/b=it:=by simpa using hb
     rcases hb' with rfl|rfl
     ·exact ⟨f3,f1,f4,f5⟩
     ·exact ⟨g3,g1,g4,g5⟩
    ·obtain ⟨o,es,ep,ho',r⟩:=hm;exact ⟨o,es,ep,kk _ o (Z1 f1) (Z1 g1) ho',r⟩
    ·by_cases hb:b=s.heap.objs.size
     ·subst hb;rw [ql] at q;cases q;exact ⟨(by show 2<=Qz;decide),[.int i s.toks,u],.cons ⟨s.toks,rfl⟩ (.cons ru .nil),⟨_,ht₂,rfl,_,rfl⟩⟩
     ·rw [qk hb] at q;refine (I.hok b v q).stay (fun c ob hc z=>?_) (fun c z=>by rw [qk (qm z fresh)];exact z) fun c ys z=>by rw [qk (qm z fresh)];exact z
      rcases hc with hc|hc
      ·subst hc;exact kk _ _ (nb _ _ q).1 (nb _ _ q).2 z
      ·exact kk _ _ (nb _ _ hc).1 (nb _ _ hc).2 z
   refine ⟨.ref s.heap.objs.size,_,I1,rfl,⟨s.heap.objs.size,x,fun ys hy=>by rw [I.tuple_inj hy hq];exact hx,fresh,rfl,rfl⟩,⟨⟨u,?_⟩,?_⟩,fun b hb=>?_⟩
   ·have e1:((i+1:Nat):Int)=(i:Int)+1:=by push_cast;rfl
    rw [e1];exact he₂
   ·exact hi.extBut hs₂.extBut (Z1 hne)
   ·have hb':b=e\/b=it:=by simpa using hb
    have hlt:b<s.heap.objs.size:=by
     rcases hb' with rfl|rfl
     ·exact hel
     ·obtain ⟨o,q,_⟩:=s2;exact Qt q
    rw [qk (Q5 hlt)];exact (hf b hb).1
  done:=by
   intro X hP hw hK hc i pins s σ H E I hf st hg;subst hP hw hK;obtain ⟨xs,hq,hx⟩:=hg;obtain ⟨its,rv,p,hz⟩:=I.tuple hq;obtain ⟨⟨old,s1⟩,s2⟩:=st;obtain ⟨g0,g1,g2,g3,g4,g5⟩:=hf it (by simp);have hl:=rv.length;exact zaey (I.ok.hd hc) s1 s2 (qzh p) (by simp;omega) fun h' eb=>⟨rfl,I.turned (t':=s.toks) (fun b o hb q=>eb b o hb q) g0 g1 g3 g4 g5⟩
  self:=fun A i s Q E st h=>by
   obtain ⟨⟨old,s1⟩,s2⟩:=st;exact Qcc s1 h
section
variable {X:Cx}{elts:List Expr}{x1:Nat}{tpos:Pos}
def zanb (K:Qd) (ta:TA):TI:=fun σ H R=>ta σ H fun vs H1 => ∃ a,vs=[.ref a]/\(∃ xs,SqT K H1 a xs)/\R (IteT K a) H1
def zafv {a:Expr}{ta:TA}{p pos:Pos} (hg:Gl X "enumerate") (hm:X.mg "enumerate" = none) (ha:PA X [a] ta) (hs:Qp [a] X.env=[(false,eval a X.env)]:=by rfl) :
 PI X (.Tuple elts x1 tpos) (.Call (.Name "enumerate" p) [a] [] pos) (zanb X.K ta):=by
 intro pins s σ H R I h;refine Call_ (qlj I hg hm boot_enumerate (Y6 (thn (ha pos pins s σ H _ I h) fun us s1 xx179=>?_) hs rfl));obtain ⟨vs,H1,I1,r1,q1⟩:=xx179;obtain ⟨l,e,⟨xs,hq⟩,q⟩:=q1;subst e;cases r1 with
 | cons r rr =>
  cases rr;cases r;obtain ⟨its,rv,pl,hz⟩:=I1.tuple hq;refine zacl (qzh pl) fun h' he hi hz' hk=>?_;refine Qcc he ?_;have I2:Inv X pins σ H1 { s1 with heap:=h' }:=I1.kept (t':=s1.toks) hk;refine ⟨s1.heap.objs.size+1,[s1.heap.objs.size+1,s1.heap.objs.size],_,_,H1,rfl,I2,qxn l _ _ (Qif _),⟨⟨_,he⟩,hi⟩,fun b hb=>?_,q⟩;have hb':b=s1.heap.objs.size+1\/b=s1.heap.objs.size:=by simpa using hb
  have hle:s1.heap.objs.size<=b:=by
   rcases hb' with rfl|rfl
   ·exact Qda _
   ·exact Qs _
  exact I1.fpOk hle (I1.hok.fresh hle)
end
def zacr {K:Qd}{F:Hp}{a:Addr}{xs:List V}{l:List Qh} (hs:SqT K F a xs) (hr:Iss K F l xs):ItD K (IteT K a) F (qnt l) where
 go:=fun i H s hi=>by rw [qcb] at hi;exact ⟨xs,xs[i]'(by rw [hr.len];exact hi),qK s hs,Qc _⟩
 stop:=fun H s=>by rw [qcb];exact ⟨xs,qK s hs,by rw [hr.len];exact Qs _⟩
 yld:=fun i H x H' F1 s1 s2 hi hy=>by
  obtain ⟨p,y,hy,hp,rfl,rfl⟩:=hy;obtain ⟨d,e1,e2⟩:=hr.get' (hy xs (qK (s1.trans s2) hs));have g:=Go.put (o:=HO.tup [.int i,y]) s2 hp;exact ⟨_,_,qmz e1,g,qjy (SqT.of ql) (qB (qO _) (qB ((e2.mono s1).mono g.f) qQ))⟩
section
variable {X:Cx}{a:Expr}{W:WE}{p pos:Pos}
def zasb (W:WE):WF:=fun env Q=>W env fun d e=>match d with
 | .tuple l=>Q (qnt l) e
 | _=>False
def zaeo {elts:List Expr}{x1:Nat}{tpos:Pos} (hm:X.mg "enumerate" = none) (ha:VE X a W) (hg:Gl X "enumerate":=by rfl) (hs:Qp [a] X.env=[(false,eval a X.env)]:=by rfl) (hs':Qp [a] X.env=(false,eval a X.env)::Qp [] X.env:=by rfl) :
 VI X (.Tuple elts x1 tpos) (.Call (.Name "enumerate" p) [a] [] pos) (zasb W) :=
 (zafv hg hm (qH ha qaw hs') hs).imp fun σ H R xx180=>by
  obtain ⟨M,env,F,Q,I,h,k⟩:=xx180;refine ⟨M,env,F,_,I,h,fun d v F1 H1 e1 I1 s1 i1 h1=>?_⟩;cases d with
  | tuple l =>
   obtain ⟨b,xs,rfl,hs,hr⟩:=i1.tup_inv;exact ⟨b,rfl,⟨xs,qK I1.fh hs⟩,k _ _ F1 H1 e1 I1 s1 (zacr hs hr) h1⟩
  | _=>exact Zd h1
def qkt {α:Type} (l:List α) (k:Nat) (y:α):List α:=l.take k++y::l.drop k
def Vals.ins {xs:List V}{us:List Value}{y:V}{u:Value} (k:Nat) (r:Vals xs us) (ry:RelV y u):Vals (qkt xs k y) (qkt us k u):=(r.take k).append (.cons ry (r.drop k))
def zaja:V->List V->Hp->VK->Prop:=fun x vs H Q => ∃ l xs i y,x = .ref l/\vs=[.int i,y]/\H l=some (.lst xs)/\0<=i/\i<=xs.length/\xs.length<Qz/\Q .non (upd H l (.lst (qkt xs i.toNat y)))
def zadh:MtM X "list.insert" zaja:=by
 intro pins s σ H x vs v us Q I rx rv h;obtain ⟨l,xs,i,y,rfl,rfl,hH,i0,i1,hz,q⟩:=h;cases rx;obtain ⟨u,w',rfl,ru,rw'⟩:=rv.two;obtain ⟨t,rfl⟩:=ru;obtain ⟨z,its,n,r,hl,e⟩:=I.lstM hH;have hsl:Qz<2^62:=by decide
 refine Qbz F.slot_list_insert ⟨_,e,rfl⟩ F.entry_list_insert (F.args_list_insert_3 _ _ _) (AutoSeq1.list_insert_list_int_val_1 l its.toArray n i t w' (by rw [fitsIndex_both (by omega) (by omega)];decide) (by rw [Qu];omega)) ⟨e,?_⟩;refine ⟨.non,_,I.lset (its':=qkt its i.toNat w') hH e ?_ (Vals.ins i.toNat r rw') ?_,rfl,q⟩
 ·have hk:(if i<0 then (i+(its.toArray.size:Int)).toNat else min i.toNat its.toArray.size)=i.toNat:=by
   rw [if_neg (by omega),Qu,Vk (by omega)]
  simp only [hk];unfold qkt;apply Array.toList_inj.mp;simp;exact Zf (by simp)
 ·unfold qkt;simp only [Zj,Zp,Z3,V5];omega
def zakz {K:Qd}{H:Hp}{l:List Qh}{xs:List V}{d:Qh}{y:V} (k:Nat) (r:Iss K H l xs) (h:Is K H d y):Iss K H (qkt l k d) (qkt xs k y):=qaa (qqi k r) (qB h (qqv k r))
variable {e1 e2:Expr}{W1 W2:WE}
def wIns (i:Nat) (W1 W2:WE):WS:=fun D env=>(gS env i).mut=true/\W1 env fun d e=>W2 e fun y e'=>match d with
 | .int n=>(gS e' i).mut=true/\(0<=n/\n<=(gS e' i).cnt.length/\(gS e' i).cnt.length<Qz)/\D.nx (e'.set i ((gS e' i).upd (qkt (gS e' i).cnt n.toNat y)))
 | _=>False
def zach (i:Nat) {x:Str}{px apos cpos:Pos} (h1:VE X e1 W1) (h2:VE X e2 W2) (hN:X.N[i]?=some x:=by rfl) (hv:Vis X.env.scope x:=by first|exact Yn rfl|exact Zz (Yn rfl)|exact Zz (Zz rfl)) (hd:Nd0 x:=by decide)
 (hcd:Nd1 x:=by decide)
 (hbase:Vu (.Name x px) "insert" X.env (eval (.Name x px) X.env)=eval (.Name x px) X.env:=by rfl)
 (hfew:((Vc cpos (Qp [e1,e2] X.env)).all (fun x => !x.1)&&(Qct cpos (Jx [] X.env)).all (fun x=>x.1.isSome)
  && decide ([e1,e2].length+([]:List Qbo).length+(if ([]:List Qbo).isEmpty then 0 else 1)<30))=true:=by rfl)
 (hline:(apos.endLine==cpos.line)=true:=by rfl) (hst:Qp [e1,e2] X.env=(false,eval e1 X.env)::Qp [e2] X.env:=by rfl) (hst2:Qp [e2] X.env=(false,eval e2 X.env)::Qp [] X.env:=by rfl) (hplain:(Vc cpos (Qp [e2] X.env)).any (·.1)=false:=by rfl)
 (hs:Vm (.Call (.Attribute (.Name x px) "insert" apos) [e1,e2] [] cpos) none pos.line X.env=pure false:=by rfl):VS X (.Expr (.Call (.Attribute (.Name x px) "insert" apos) [e1,e2] [] cpos) pos) (wIns i W1 W2) :=
 (qhv (qyv Vs PySem.F.slot_list_insert PySem.F.type_list_insert zadh (qbu hN hv hd hcd) (qH h1 (qH h2 qaw hst2) hst) hbase hfew hline hst hplain) hs).imp fun D σ H xx181=>by
  obtain ⟨M,env,F,DD,I,⟨hm,h⟩,k⟩:=xx181;obtain ⟨p,vs,ep,g1,g2,g3,g4⟩:=(I.slot i).addr hm;refine ⟨_,qav ep,.inl ⟨rfl,_,SqL.of g1⟩,M,env,F,_,I,h,fun d v F1 H1 e1 I1 s1 i1 h1=>⟨M,e1,F1,_,I1,h1,fun d2 v2 F2 H2 e2 I2 s2 i2 h2=>?_⟩⟩;cases d with
  | int n =>
   obtain ⟨m1,⟨n0,n1,z1⟩,q1⟩:=h2;obtain ⟨p',vs1,ep',f1,f2,f3,f4⟩:=(I2.slot i).addr m1;rw [ep] at ep';injection ep' with ep';injection ep' with ep';subst ep';have fl:=f4.len;exact ⟨p,vs1,n,v2,rfl,by rw [i1.int_inv],f1,n0,by omega,by omega,k.nx _ F2 _ σ (I2.chg m1 ep (zakz n.toNat f4 i2)) (s1.trans s2) q1⟩
  | _=>exact Zd h2
def wPar (i j:Nat) (Wr:WF):WS:=fun D env=>Wr env fun ds e=>match ds with
 | [d,d']=>D.nx ((e.set i (.val d)).set j (.val d'))
 | _=>False
def zans {i j:Nat}{x y:Str}{a b:Expr}{Wr:WF}{px py pt pos:Pos}{kt k2 pt2} (hc:X.calm=true) (hN:X.N.Nodup) (ha:VA X [a,b] Wr) (hi:X.N[i]?=some x:=by rfl) (hj:X.N[j]?=some y:=by rfl) (hij:i≠j:=by decide)
 (hx:X.env.scope.names.lookup x=some .local:=by rfl) (hy:X.env.scope.names.lookup y=some .local:=by rfl)
 (hw:Qcu [.Tuple [.Name x px,.Name y py] kt pt] (.Tuple [a,b] k2 pt2) X.env=pure (some [x,y]):=by rfl)
 (hs:Qcv [.Tuple [.Name x px,.Name y py] kt pt] (.Tuple [a,b] k2 pt2) pos.line X.env=pure false:=by rfl) :
 VS X (.Assign [.Tuple [.Name x px,.Name y py] kt pt] (.Tuple [a,b] k2 pt2) pos) (wPar i j Wr) :=
 (zaoj hc hN hi hj hij hx hy ha hw hs).imp fun D σ H xx182=>by
  obtain ⟨M,env,F,DD,I,h,k⟩:=xx182;refine ⟨M,env,F,_,I,h,fun ds vs F1 H1 e1 I1 s1 i1 h1=>?_⟩;cases ds with
  | nil=>exact h1.elim
  | cons d r=>cases r with
   | nil=>exact h1.elim
   | cons d' r=>cases r with
    | cons _ _=>exact h1.elim
    | nil =>
     obtain ⟨v,w',rfl,j1,j2⟩:=iss2 i1;exact ⟨v,w',rfl,k.nx _ F1 H1 _ ((I1.setv j1).setv j2) s1 h1⟩
end
end
section
section
variable {X:Cx}
def zade (hc:X.calm=true):CallR X (.builtin "max") (fun xs H Q => ∃ (a:Addr) (ns:List Int),xs=[.ref a]/\SqL X.K H a (ns.map V.int)/\ns≠[] /\ ∀ M,M ∈ ns->(∀ x ∈ ns,x<=M)->Q (.int M) H):=by
 intro pins s σ H xs us Q I r h;obtain ⟨a,ns,rfl,ha,hn,q⟩:=h;obtain ⟨u,rfl,rx⟩:=qic r;cases rx;obtain ⟨its,rv,pl,_⟩:=I.list ha;have ii:Qhn its ns:=qpt rv;obtain ⟨ys,ey⟩:=ii.allInts.items;have en:ns=ys.toList.map (·.1):=by rw [<- ii.numsOf,<- nums_intItems,<- ey]
 have ys0:0<ys.size:=by
  have z:=Qgk.mpr hn;rw [en,Qe,Vz] at z;exact z
 have hl:=pl.isList;rw [ey] at hl;refine max_intList (I.ok.hd hc) hl ys0 fun v h' tk hv hk=>?_;obtain ⟨t,rfl⟩:=intItems_at hv;obtain ⟨_,h2⟩:=argBest_gt (numAt ys) (ys.size-1);refine ⟨.int _,H,I.kept (t':=tk) hk,⟨t,rfl⟩,q _ ?_ fun x hx=>?_⟩
 ·rw [en,numAt_eq];exact getD_mem (by rw [Qe,Vz];omega)
 ·rw [en] at hx;obtain ⟨j,hj,rfl⟩:=mem_getD hx;rw [Qe,Vz] at hj;rw [<- numAt_eq];exact h2 j (by omega)
def zapv:DC
 | [.list l],q => ∃ ns:List Int,l=ns.map .int/\ns≠[] /\ ∀ M,M ∈ ns->(∀ x ∈ ns,x<=M)->q (.int M)
 | _,_=>False
def zanl (hc:X.calm=true):qku X (.builtin "max") zapv:=(zade hc).imp fun xs H Q xx183=>by
 obtain ⟨F,ds,q,s,i,h,k⟩:=xx183
 match ds,h,i with
 | [.list l],⟨ns,e,hn,hq⟩,i =>
  subst e;obtain ⟨v,rfl,j⟩:=qmk i;obtain ⟨a,xs,rfl,hs,hr⟩:=j.lst_inv;have ex:=iss_ints' hr;subst ex;exact ⟨a,ns,rfl,s.seq hs,hn,fun M h1 h2=>k _ _ F H (.refl s) (qO _) (hq M h1 h2)⟩
end
end
section
section
variable {X:Cx}
end
end
section
section
variable {X:Cx}
end
section
variable {P:Zr}{w:World}{K:Qd}{mg:Str->Option Value}{base:Heap}
end
end
section
section
variable {X:Cx}{elt target iter cnd:Expr}{scope:Scope}{pos:Pos}{caps own:List Str}{ix:List Nat}{wi:TI}{g:TG}{te:TE}{tt:TT}
def zadd {i:Nat}{y:Str}{py spos:Pos} (hN:X.N.Nodup) (hiy:X.N[i]?=some y) (hy:X.env.scope.names.lookup y=some .local) (hsw:Vm (.ListComp elt [⟨target,iter,[cnd],0⟩] scope pos) (some (.Name y py)) spos.line X.env=pure true) (hc:X.calm=true) (S:CompScope X.env scope caps) (hi:PI X target iter wi)
 (hg : ∀ pins s3 H ex,PG (blk X pins scope (caps++own) s3 H ex) target g)
 (he : ∀ pins s3 H ex,PE (blk X pins scope (caps++own) s3 H ex) elt te)
 (ht : ∀ pins s3 H ex,PT (blk X pins scope (caps++own) s3 H ex) cnd tt)
 (hix:caps.length=ix.length:=by rfl) (hcapB:(caps.zip ix).all (fun p=>X.N[p.2]?==some p.1)=true:=by rfl)
  (hs : ∀ x,Zu iter X.env x=pure x:=by intro _;rfl):PS X (.Assign [.Name y py] (.ListComp elt [⟨target,iter,[cnd],0⟩] scope pos) spos) (tAsg (qtz ix own.length wi g tt te) (qyt i)):=by
  intro pins s σ H D I h;rw [Qfl _ _ _ _ hsw];refine Qi (Qbp (Qi ?_));show wpAny _ _ (do let _ <- Qem (.ListComp elt [⟨target,iter,[cnd],0⟩] scope pos) scope X.env _ (newList []) false (eval iter X.env) (some (Qcm (.Name y py) X.env))) _ _ s;refine Qi (thn (qmu (cs:=[cnd]) (tt:=tt) (Tst:=fun env P E s=>wpAny (model X.prog X.w) X.A (Qia cnd env (eval cnd env)) P E s) (fun J turn n h=>qel J turn n h) (use:=some (Qcm (.Name y py) X.env)) (Q0:=fun _ s'=>SP X pins D .next s') (Qv:=fun x H1=>qyt i x σ H1 D.nx) hc S hi hg he
   (fun pins s3 H ex pins' s σ H' Qb P E I q k=>Yw (ht pins s3 H ex pins' s σ H' Qb I q) (fun b s' z=>by obtain ⟨H'',I'',q''⟩:=z;exact k b s' H'' I'' q'') fun _ _ z=>z.elim) hix hcapB hs I h (fun J H1 z=>z) fun D' C s6 H6 m6 ns6 IX c1 c2 c3 c4 c5 c6 q=>?_) (fun _ s' hq=>Q9 (Q9 hq)))
  obtain ⟨oC,esC,epC,hoC,hdC,rC⟩:=id ns6;have IX':Inv X (pins++[(C,oC)]) σ H6 s6:=IX.pins_of fun p hp=>by
   rcases Ze.mp hp with z|z
   ·exact IX.pin p (Q7 _ z)
   ·rw [Q3.mp z];exact ⟨hoC,c1,c2,c3,fun v q=>by rw [hdC] at q;cases q⟩
  show wpAny _ _ (Qcm (.Name y py) X.env (.ref D')) _ _ _;refine Qeg (qfr IX' hN hiy (Yn hy) (v :=.ref D') rfl (fun s7 I7=>?_) (.inr hy));have gC:s7.heap.get? C=some oC:=(I7.pin (C,oC) (Q7 _ (Q7 _ (Q3.mpr rfl)))).1;refine ⟨m6,⟨oC,esC,epC,gC,hdC,rC⟩,fun h' sb=>?_⟩;exact ⟨_,_,I7.unpinned.turned (t':=s7.toks) (it:=C) (fun b o hb q=>sb.extBut b o hb q) c1 c2 c4 c5 c6,q⟩
end
section
variable {X:Cx}{elt target iter cnd:Expr}{scope:Scope}{pos py spos:Pos}{caps own:List Str}{ix:List Nat}{Wi:WF}{G:WG}{Wt:WT}{We:WE}{i:Nat}{y:Str}
end
end
section
section
variable {κ:Type} [DecidableEq κ]
end
section
variable {P:Zr}{w:World}{H:Hp}{h:Heap}{a:Addr}
end
section
variable {X:Cx}{pins:List (Addr×Obj)}{σ:St}{H:Hp}{s:Ql}{a:Addr}{y v:V}{u r:Value}{o:Option V}{A:Ye}{E:Value->Ql->Prop}
end
section
variable {X:Cx}{pins:List (Addr×Obj)}{σ:St}{H:Hp}{s:Ql}{a:Addr}{kvs:List (Key×V)}{k:Key}{u:Value}{A:Ye}{E:Value->Ql->Prop}
end
section
variable {X:Cx}{o i e value:Expr}{pos pos' tpos:Pos}{td ty tv:TE}
end
section
variable {X:Cx}{pos:Pos}
end
section
variable {X:Cx}{pins:List (Addr×Obj)}{σ:St}{H:Hp}{s:Ql}{a:Addr}{y d:V}{u r:Value}{o:Option V}{A:Ye}{E:Value->Ql->Prop}
end
section
variable {X:Cx}{o e f:Expr}{apos cpos:Pos}{td ty tx:TE}
end
end
section
section
variable {X:Cx}
end
end
section
abbrev DO:=List Str->List (Str×Qh)->List Qh->(Qh->Prop)->Prop
abbrev DOF:=List Str->List (Str×Qh)->List Qh->(List Qh->Prop)->Prop
def Flds (K:Qd) (F:Hp) (us:List (Str×V)) (nm:List Str) (fs:List (Str×Qh)):Prop:=us.map (·.1)=nm /\ ∀ f d,(f,d) ∈ fs -> ∃ v,us.lookup f=some v/\Is K F d v
def OSp (K:Qd) (C:Addr) (sp:DO):Sp:=fun vs H Q _ => ∃ a dx us rest F nm fs ds q,vs = .ref a::rest/\H a=some (.ins C dx us)/\Same F H/\Flds K F us nm fs/\Iss K F ds rest/\sp nm fs ds q /\
 ∀ d v F' H',Go F H F' H'->Is K F' d v->q d->Q v H'
def OFSp (K:Qd) (C:Addr) (sp:DOF):Sp:=fun vs H Q _ => ∃ a dx us rest F nm fs ds q,vs = .ref a::rest/\H a=some (.ins C dx us)/\Same F H/\Flds K F us nm fs/\Iss K F ds rest/\sp nm fs ds q /\
 ∀ l b xs F' H',Go F H F' H'->H b=none->F' b=none->H' b=some (.lst xs)->Iss K F' l xs->q l->Q (.ref b) H'
structure OkM (P:Zr) (w:World) (K:Qd) (mg:Str->Option Value) (base:Heap) (C:Addr) (m:Str) (k:Nat) (ps:List Str) (sp:Sp):Prop where
 ex : ∃ (f:Addr) (fd:Vn),FnOk P w K mg base CX0 k f fd ps sp/\Meth K C m f/\Binds K fd ps []
structure MDef (K:Qd) (C:Addr) (m qual:Str) (st:Stmt) (ps:List Str):Prop where
 ex : ∃ (f:Addr) (fd:Vn),Fun K m qual st f fd/\Meth K C m f/\Binds K fd ps []
def qad {α:Type} : ∀ {l:List (Str×α)}{f:Str}{d:α},l.lookup f=some d->(f,d) ∈ l
 | (g,e)::l,f,d,h=>by
  rw [Yt] at h;cases q:f==g with
  | true =>
   rw [q] at h;have e1:f=g:=beq_iff_eq.mp q;have e2:e=d:=Qx h;subst e1 e2;simp
  | false =>
   rw [q] at h;exact Qy _ (qad h)
def qlc {α:Type} : ∀ {l:List (Str×α)}{nm:List Str}{f:Str},l.map (·.1)=nm->nm.contains f=false->l.lookup f=none
 | [],_,f,_,_=>rfl
 | (g,e)::l,nm,f,h,q=>by
  subst h;rw [Yh,Qbj,Qfv] at q;rw [Yt];have q1:(f==g)=false:=q.1;rw [q1];exact qlc rfl q.2
section
variable {P:Zr}{w:World}{K:Qd}{mg:Str->Option Value}{base:Heap}
def qrq (N:List Str) (a C:Addr) (nm:List Str) (fs:List (Str×Qh)) (ds:List Qh):Sto:=(qam N (.none::ds)).set 0 (.obj a C nm fs)
def qhk {F H:Hp}{N:List Str}{C:Addr}{nm:List Str}{fs:List (Str×Qh)}{us:List (Str×V)}{a dx:Addr}{ds:List Qh}{rest:List V} (s:Same F H) (ha:H a=some (.ins C dx us)) (hf:Flds K F us nm fs) (i:Iss K F ds rest) :
 EnvOk K ⟨H,H,F⟩ F H (qrq N a C nm fs ds) (start N (.ref a::rest)):=by
  have I:=qee (K:=K) (N:=N) s (qB qok i);have e:start N (.ref a::rest)=(start N (.non::rest)).set 0 (some (.ref a)):=rfl;rw [e];exact I.sets (i:=0) (s :=.obj a C nm fs) rfl ⟨dx,us,rfl,ha,hf.1,hf.2⟩
def MDef.vok {C:Addr}{m qual:Str}{st:Stmt}{N ps:List Str}{k:Nat}{sp:DO} (F:MDef K C m qual st ps) (S:FnScope N ps (defScope st)) (len : ∀ nm fs ds q,sp nm fs ds q->ds.length+1=ps.length)
 (hbody : ∀ (f:Addr) (cdv:Value) (A:Ye) (outer:List Env) (s:Ql) (H:Hp) (E:XK),Room k (A.deeper (Qcn qual (defScope st) s.heap.objs.size f cdv)) -> ∀ a nm fs ds q,sp nm fs ds q ->
 ∃ W,VSs (qge CX0 P w K mg base N qual (defScope st) f cdv A outer s H E).nox (defBody st) W/\W { nx:=fun _=>q .none,rt:=fun r _=>q r.data } (qrq N a C nm fs ds)):OkM P w K mg base C m (k+1) ps (OSp K C sp):=by
  obtain ⟨f,fd,Fn,hm,hb⟩:=F.ex;refine ⟨f,fd,Fn.ok S (fun vs H Q E xx185=>by obtain ⟨a,dx,us,rest,F,nm,fs,ds,q,e,_,_,_,i,h,_⟩:=xx185;rw [e,Zp,i.len];exact len nm fs ds q h) fun cdv A outer s H vs Q E hr xx184=>?_,hm,hb⟩;obtain ⟨a,dx,us,rest,F,nm,fs,ds,q,e,ha,sm,hf,i,h,kk⟩:=xx184;subst e;obtain ⟨W,hW,hq⟩:=hbody f cdv A outer s H E hr a nm fs ds q h;refine ⟨_,hW,⟨H,H,F⟩,qrq N a C nm fs ds,F,_,qhk sm ha hf i,hq,⟨fun e1 F1 H1 σ1 I1 s1 q1=>kk _ _ F1 H1 I1.goOf qok q1,fun r v e1 F1 H1 σ1 I1 s1 r1 q1=>?_,fun _ _ _ _ _ _ h=>h.elim,fun _ _ _ _ _ _ h=>h.elim⟩⟩;obtain ⟨F2,g,j⟩:=r1.is I1;exact kk _ _ F2 H1 g j q1
def MDef.vokF {C:Addr}{m qual:Str}{st:Stmt}{N ps:List Str}{k:Nat}{sp:DOF} (F:MDef K C m qual st ps) (S:FnScope N ps (defScope st)) (len : ∀ nm fs ds q,sp nm fs ds q->ds.length+1=ps.length)
 (hbody : ∀ (f:Addr) (cdv:Value) (A:Ye) (outer:List Env) (s:Ql) (H:Hp) (E:XK),Room k (A.deeper (Qcn qual (defScope st) s.heap.objs.size f cdv)) -> ∀ a nm fs ds q,sp nm fs ds q ->
 ∃ W,VSs (qge CX0 P w K mg base N qual (defScope st) f cdv A outer s H E).nox (defBody st) W/\W { nx:=fun _=>False,rt:=fun r _ => ∃ l,r = .own l/\q l } (qrq N a C nm fs ds)):OkM P w K mg base C m (k+1) ps (OFSp K C sp):=by
  obtain ⟨f,fd,Fn,hm,hb⟩:=F.ex;refine ⟨f,fd,Fn.ok S (fun vs H Q E xx187=>by obtain ⟨a,dx,us,rest,F,nm,fs,ds,q,e,_,_,_,i,h,_⟩:=xx187;rw [e,Zp,i.len];exact len nm fs ds q h) fun cdv A outer s H vs Q E hr xx186=>?_,hm,hb⟩;obtain ⟨a,dx,us,rest,F,nm,fs,ds,q,e,ha,sm,hf,i,h,kk⟩:=xx186;subst e;obtain ⟨W,hW,hq⟩:=hbody f cdv A outer s H E hr a nm fs ds q h;refine ⟨_,hW,⟨H,H,F⟩,qrq N a C nm fs ds,F,_,qhk sm ha hf i,hq,⟨fun e1 F1 H1 σ1 I1 s1 q1=>q1.elim,fun r v e1 F1 H1 σ1 I1 s1 r1 q1=>?_,fun _ _ _ _ _ _ h=>h.elim,fun _ _ _ _ _ _ h=>h.elim⟩⟩;obtain ⟨l,rfl,q1⟩:=q1;obtain ⟨b,xs,rfl,h1,h2,h3,h4,h5⟩:=r1;exact kk l b xs F1 H1 I1.goOf h4 h2 h1 h5 q1
end
section
variable {X:Cx}
def wFld (C:Addr) (i:Nat) (f:Str):WE:=fun env Q=>match gS env i with | .obj _ C' _ fs=>C'=C /\ ∃ d,fs.lookup f=some d/\Q d env|_=>False
def qcu (i:Nat) {C:Addr}{x f:Str}{px pos:Pos} (c:Cls X.K C) (n:NoAttr X.K C f) (hN:X.N[i]?=some x:=by rfl) (hv:Vis X.env.scope x:=by first|exact Yn rfl|exact Zz (Yn rfl)|exact Zz (Zz rfl)) (hd:Nd0 x:=by decide)
 (hcd:Nd1 x:=by decide) (hb:Vu (.Name x px) f X.env (eval (.Name x px) X.env)=eval (.Name x px) X.env:=by rfl):VE X (.Attribute (.Name x px) f pos) (wFld C i f) :=
 (qvi (qbu hN hv hd hcd) hb).imp fun σ H R xx188=>by
  obtain ⟨M,env,F,Q,I,h,k⟩:=xx188;have S:=I.slot i;unfold wFld at h;cases q:gS env i with
  | obj a C' nm0 fs =>
   rw [q] at S h;obtain ⟨rfl,d,hl,h⟩:=h;obtain ⟨dx,vs,e,hB,nm,hfs⟩:=S;obtain ⟨v,l,j⟩:=hfs f d (qad hl);exact ⟨_,qav e,a,C',dx,vs,v,rfl,I.bh _ _ hB,c,n,l,k d v F H env I (.refl _) j h⟩
  | non=>rw [q] at h;exact h.elim
  | val d=>rw [q] at h;exact h.elim
  | own ds=>rw [q] at h;exact h.elim
  | pen ds=>rw [q] at h;exact h.elim
  | new d=>rw [q] at h;exact h.elim
  | exc C=>rw [q] at h;exact h.elim
def zail (C:Addr) (i:Nat) (m:Str) (sp:DO) (Wr:WF):WE:=fun env Q=>match gS env i with
 | .obj _ C' nm fs=>C'=C/\nm.contains m=false/\Wr env fun ds e=>match gS e i with | .obj _ C2 nm2 fs2=>C2=C/\sp nm2 fs2 ds fun d=>Q d e|_=>False
 | _=>False
def zacb {C:Addr}{i:Nat}{m:Str}{sp:DO}{Wr:WF}{σ:St}{H:Hp}{R:VK} (h:qcm X.K (zail C i m sp Wr) σ H R):zads C m (OSp X.K C sp) [] E0 (tVar i) (qkq X.K Wr) σ H R:=by
 obtain ⟨M,env,F,Q,I,h,k⟩:=h;have S:=I.slot i;unfold zail at h;cases q:gS env i with
 | obj a C' nm0 fs =>
  rw [q] at S h;obtain ⟨rfl,hl,h⟩:=h;obtain ⟨dx,vs,e,hB,nm,hfs⟩:=S;refine ⟨_,qav e,a,dx,vs,rfl,I.bh _ _ hB,qlc nm hl,M,env,F,_,I,h,fun ds us F1 H1 e1 I1 s1 i1 h1=>?_⟩;have S1:=I1.slot i;cases q1:gS e1 i with
  | obj a2 C2 nm3 fs2 =>
   rw [q1] at S1 h1;obtain ⟨rfl,h1⟩:=h1;obtain ⟨dx2,vs2,e2,hB2,nm2,hfs2⟩:=S1;rw [e] at e2;injection e2 with e2;injection e2 with e2;subst e2;show OSp X.K C2 sp (V.ref a::(us++[])) H1 R E0;rw [Yy];exact ⟨a,dx2,vs2,us,F1,nm3,fs2,ds,_,rfl,I1.bh _ _ hB2,I1.fh,⟨nm2,hfs2⟩,i1,h1,fun d v F2 H2 g i2 q=>k d v F2 H2 e1 (I1.go g) (s1.trans g.f) i2 q⟩
  | non=>rw [q1] at h1;exact h1.elim
  | val d=>rw [q1] at h1;exact h1.elim
  | own ds=>rw [q1] at h1;exact h1.elim
  | pen ds=>rw [q1] at h1;exact h1.elim
  | new d=>rw [q1] at h1;exact h1.elim
  | exc C=>rw [q1] at h1;exact h1.elim
 | non=>rw [q] at h;exact h.elim
 | val d=>rw [q] at h;exact h.elim
 | own ds=>rw [q] at h;exact h.elim
 | pen ds=>rw [q] at h;exact h.elim
 | new d=>rw [q] at h;exact h.elim
 | exc C=>rw [q] at h;exact h.elim
def zalk (i:Nat) {C:Addr}{x m:Str}{px apos pos:Pos}{pl:Sem Bool}{e:Expr}{es:List Expr}{Wr:WF}{k:Nat}{ps:List Str}{sp:DO} (O:OkM X.prog X.w X.K X.mg X.base C m k ps (OSp X.K C sp)) (c:Cls X.K C) (hr:Room k X.A) (ha:VA X (e::es) Wr)
 (hN:X.N[i]?=some x:=by rfl) (hv:Vis X.env.scope x:=by first|exact Yn rfl|exact Zz (Yn rfl)|exact Zz (Zz rfl)) (hd:Nd0 x:=by decide) (hcd:Nd1 x:=by decide)
  (hst:Qp (e::es) X.env=(false,eval e X.env)::Qp es X.env:=by rfl) (hpl:(Vc pos (Qp es X.env)).any (·.1)=false:=by rfl)
  (ht:eval (.Call (.Attribute (.Name x px) m apos) (e::es) [] pos) X.env=(do
   let ov <- eval (.Name x px) X.env
   Qfn apos.atName
   let (f,first) <- Qck [ov] (Qhe ov m pl)
   callWith pos f first (Vc pos (Qp (e::es) X.env)) (Qct pos (Jx [] X.env))):=by rfl) :
  VE X (.Call (.Attribute (.Name x px) m apos) (e::es) [] pos) (zail C i m sp Wr):=by
  obtain ⟨f,fd,F,hm,hb⟩:=O.ex;exact (quj (pl:=pl) (qbu hN hv hd hcd) c hm F hr hb .nil qqe ha hst hpl ht).imp fun σ H R h=>zacb h
end
end
section
section
variable {X:Cx}
def VE.pe {e:Expr}{W:WE} (h:VE X e W):PE X e (qcm X.K W):=h
def VF.pe {e:Expr}{W:WF} (h:VF X e W):PE X e (qsc X.K W):=h
def VT.pt {e:Expr}{W:WT} (h:VT X e W):PT X e (qsb X.K W):=h
def VS.ps {st:Stmt}{W:WS} (h:VS X st W):PS X st (zadq X.K W):=h
end
structure GoX (a b:Addr) (F H F' H':Hp):Prop where
 f:Same F F'
 h : ∀ c o,c≠a->c≠b->H c=some o->Kp o (H' c)
 fh:Same F' H'
 new : ∀ c o,F' c=some o->F c=some o\/H c=none
def zahn {a:Addr}{o:HO}{F H F' H':Hp} (hF:F a=none) (hH:H a=some o) (g:Go (upd F a o) H F' H'):Go F H (qdi F' a) H':=by
 refine ⟨fun b u e=>?_,g.h,fun b u e=>?_,fun b u e=>?_⟩
 ·have hb:b≠a:=qm e hF;unfold qdi;rw [if_neg hb];exact g.f b u (by rw [qk hb];exact e)
 ·unfold qdi at e;split at e
  ·cases e
  ·exact g.fh b u e
 ·unfold qdi at e;split at e
  ·cases e
  ·rename_i hb;rcases g.new b u e with q|q
   ·rw [qk hb] at q;exact .inl q
   ·exact .inr q
mutual
def qsa:Qh->Bool
 | .list _=>false
 | .dict _=>false
 | .tuple l=>qjw l
 | _=>true
def qjw:List Qh->Bool
 | []=>true
 | d::l=>qsa d&&qjw l
end
mutual
def Is.off {K:Qd}{F:Hp}{a:Addr}{xs:List V} (hF:F a=some (.lst xs)) : ∀ {d:Qh}{v:V},qsa d=true->Is K F d v->Is K (qdi F a) d v
 | .none,_,_,h=>by unfold Is at h ⊢;exact h
 | .bool _,_,_,h=>by unfold Is at h ⊢;exact h
 | .int _,_,_,h=>by unfold Is at h ⊢;exact h
 | .str _,_,_,h=>by unfold Is at h ⊢;exact h
 | .list l,_,z,h=>by simp [qsa] at z
 | .dict l,_,z,h=>by simp [qsa] at z
 | .tuple l,_,z,h=>by
  unfold Is at h ⊢;obtain ⟨b,ys,e,q,r⟩:=h;refine ⟨b,ys,e,?_,Iss.off hF (by simpa [qsa] using z) r⟩;rcases q with q|q
  ·refine .inl ?_;rcases q with q|⟨o,q⟩
   ·refine .inl ?_;unfold qdi;rw [if_neg (fun y=>by subst y;rw [hF] at q;cases q)];exact q
   ·refine .inr ⟨o,?_⟩;unfold qdi;rw [if_neg (fun y=>by subst y;rw [hF] at q;cases q)];exact q
  ·exact .inr q
def Iss.off {K:Qd}{F:Hp}{a:Addr}{xs:List V} (hF:F a=some (.lst xs)) : ∀ {l:List Qh}{vs:List V},qjw l=true->Iss K F l vs->Iss K (qdi F a) l vs
 | [],_,_,h=>by unfold Iss at h ⊢;exact h
 | d::l,_,z,h=>by
  unfold Iss at h ⊢;obtain ⟨x,r,e,p,q⟩:=h;have z':qsa d=true/\qjw l=true:=by simpa [qjw] using z
  exact ⟨x,r,e,Is.off hF z'.1 p,Iss.off hF z'.2 q⟩
end
section
variable {X:Cx}
def boot_rng:Zq "range" = some (.type "range"):=by decide +kernel
def zabu:CallR X (.type "range") (fun xs H Q => ∃ i j,xs=[.int i,.int j] /\ ∀ l,H l=none->Q (.ref l) (upd H l (.rng i j))):=by
 intro pins s σ H xs us Q I r h;obtain ⟨i,j,rfl,q⟩:=h;obtain ⟨u,c,rfl,⟨t,rfl⟩,⟨t',rfl⟩⟩:=zaif r;refine call_range_2 ⟨.ref s.heap.objs.size,_,I.laid (a:=s.heap.objs.size) (o :=.rng i j) (t':=s.toks+1) (fun _ _ q=>Qj _ q) (Qs _) ?_,rfl,q _ (I.hok.fresh (Qs _))⟩;exact ⟨t,t',s.toks,Q2 _ rfl⟩
def rngV (i:Int) (n:Nat):List V:=(Qm n).map fun (k:Nat)=>V.int (i+k)
def zafy {i:Int}{n:Nat}{acc:Array Value} (h:ItemsOf (fun (k:Nat) (v:Value) => ∃ t,v=Qey (i+(k:Int)*1) t) acc n):Vals (rngV i n) acc.toList:=by
 have key : ∀ (m:Nat) (l:List Value),l.length=m -> ∀ o:Nat,(∀ k v,l[k]?=some v -> ∃ t,v=Qey (i+((o+k:Nat):Int)) t)->Vals ((List.range' o m).map fun (k:Nat)=>V.int (i+k)) l:=by
  intro m
  induction m with
  | zero =>
   intro l hl o _;cases l with
   | nil=>exact .nil
   | cons _ _=>cases hl
  | succ m ih =>
   intro l hl o hk;cases l with
   | nil=>cases hl
   | cons v l =>
    rw [List.range'_succ,Yh];refine .cons (hk 0 v rfl) (ih l (Qht hl) (o+1) fun k w hw=>?_);obtain ⟨t,e⟩:=hk (k+1) w (by simpa using hw);exact ⟨t,by rw [e];congr 2 <;> omega⟩
 unfold rngV;rw [List.range_eq_range'];refine key n acc.toList (by rw [Vz];exact h.1) 0 fun k v hv=>?_;obtain ⟨t,e⟩:=h.2 k v (by rw [<- Array.getElem?_toList];exact hv);exact ⟨t,by rw [e];congr 2 <;> omega⟩
def zacu (hc:X.calm=true):CallR X (.type "list") (fun xs H Q => ∃ r i j,xs=[.ref r]/\H r=some (.rng i j)/\(-(2^62)<=i/\i<2^62 /\ -(2^62)<=j/\j<2^62)/\(j-i).toNat<=1000 /\ ∀ l,H l=none->Q (.ref l) (upd H l (.lst (rngV i (j-i).toNat)))):=by
 intro pins s σ H xs us Q I r h;obtain ⟨p,i,j,rfl,hp,⟨h1,h2,h3,h4⟩,hl,q⟩:=h;obtain ⟨u,rfl,rx⟩:=qic r;cases rx;obtain ⟨t,t',v,ho⟩:=(show ObjOk X.prog X.w H s.heap p (.rng i j) from I.hok p _ hp)
 refine call_list_range (I.ok.hd hc) (a:=i) (b:=j) (c:=1) (t:=t) (u:=t') (v:=v) (n:=(j-i).toNat) ho (small_one h1 h2 h3 h4) (by rw [rangeSize_one];split <;> omega) (by omega) fun h' tk acc' c' kp hS hacc=>?_;refine ⟨.ref s.heap.objs.size,_,I.laid (t':=tk) kp (Qs _) (show ObjOk X.prog X.w _ h' _ (.lst (rngV i (j-i).toNat)) from ⟨?_,acc'.toList,c',zafy hacc,?_⟩),rfl,q _ (I.hok.fresh (Qs _))⟩
 ·unfold rngV;rw [Qe,Yc];exact Yg (qi hl)
 ·rw [hS]
end
end
section
def qlu {F H:Hp}{a:Addr}{o:HO} (s:Same F H) (h:H a=some o):Same (upd F a o) H:=fun b u e=>by
 by_cases z:b=a
 ·subst z;rw [ql] at e;exact .of (by rw [<- e];exact h)
 ·rw [qk z] at e;exact s b u e
def qmq {F H:Hp}{a:Addr}{o:HO} (s:Same F H) (h:H a=some o):Same F (upd F a o):=fun b u e=>by
 by_cases z:b=a
 ·subst z;rw [ql];have:=s _ _ e;rw [h] at this;exact this
 ·rw [qk z];exact .of e
def zaar {F H F' H':Hp}{a:Addr}{o:HO} (g:Go F H F' H') (h:H a=some o) (f:F a=none):F' a=none:=by
 cases e:F' a with
 | none=>rfl
 | some u =>
  rcases g.new a u e with q|q
  ·rw [f] at q;cases q
  ·rw [h] at q;cases q
def qyh {F H F' H':Hp}{b:Addr}{o:HO} (g:Go F H F' H') (hb:H b=none) (h':H' b=some o):Go F H (upd F' b o) H' where
 f:=g.f.trans (qmq g.fh h')
 h:=g.h
 fh:=qlu g.fh h'
 new:=fun c u e=>by
  by_cases z:c=b
  ·subst z;exact .inr hb
  ·rw [qk z] at e;exact g.new c u e
def GoX.go {F H F1 H1 F2 H2:Hp}{a b:Addr} (g:Go F H F1 H1) (x:GoX a b F1 H1 F2 H2) (na:H a=none) (nb:H b=none):Go F H F2 H2 where
 f:=g.f.trans x.f
 h:=fun c o e=>(g.h c o e).tr fun u z=>x.h c u (qm e na) (qm e nb) z
 fh:=x.fh
 new:=fun c o e=>(x.new c o e).elim (fun q=>g.new c o q) fun q => .inr (qF g.h q)
section
variable {K:Qd}{M:Frm}{F H:Hp}
def Slots (K:Qd) (M:Frm) (F H:Hp):Sto->St->Prop
 | [],σ=>σ=[]
 | s::e,σ => ∃ x r,σ=x::r/\(SlotOk K M F H s x/\s.mut=false)/\Slots K M F H e r
def qzf (K:Qd) (M:Frm) (F H:Hp):Sto->St->Prop
 | [],σ=>σ=[]
 | s::e,σ => ∃ x r,σ=x::r/\SlotOk K M F H s x/\qzf K M F H e r
def Slots.len : ∀ {e:Sto}{σ:St},Slots K M F H e σ->e.length=σ.length
 | [],σ,h=>by
  have h:σ=[]:=h;subst h;rfl
 | s::e,σ,h=>by
  obtain ⟨x,r,rfl,_,h⟩:=h;rw [Zp,Zp,Slots.len h]
def Slots.at : ∀ {e:Sto}{σ:St},Slots K M F H e σ -> ∀ i,SlotOk K M F H (gS e i) (vS σ i)/\(gS e i).mut=false
 | [],σ,h,i=>by
  rw [qzo (Y7 _)];exact ⟨trivial,rfl⟩
 | s::e,σ,h,0=>by
  obtain ⟨x,r,rfl,q,h⟩:=h;exact q
 | s::e,σ,h,i+1=>by
  obtain ⟨x,r,rfl,q,h⟩:=h;have e1:vS (x::r) (i+1)=vS r i:=by unfold vS;rw [Y8]
  rw [e1];exact Slots.at h i
def qzp {env:Sto}{σ:St} (s:Same F H) (h:Slots K ⟨H,H,F⟩ F H env σ):EnvOk K ⟨H,H,F⟩ F H env σ where
 len:=h.len
 slot:=fun i=>(h.at i).1
 dis:=fun i j a _ m _ _ _=>by rw [(h.at i).2] at m;cases m
 f0 :=.refl _
 fe:=s
 fh:=s
 bh :=.refl _
 new:=fun b o e => .inl e
 dom:=fun b o e=>⟨o,e⟩
def qtl : ∀ {env:Sto}{σ:St},env.length=σ.length->(∀ i,SlotOk K M F H (gS env i) (vS σ i))->qzf K M F H env σ
 | [],[],_,_=>rfl
 | [],_::_,h,_=>by cases h
 | _::_,[],h,_=>by cases h
 | s::e,x::σ,h,k=>⟨x,σ,rfl,k 0,qtl (Qht h) fun i=>by
  have q:=k (i+1);have e1:vS (x::σ) (i+1)=vS σ i:=by unfold vS;rw [Y8]
  rw [e1] at q;exact q⟩
def EnvOk.all {env:Sto}{σ:St} (I:EnvOk K M F H env σ):qzf K M F H env σ:=qtl I.len I.slot
end
def SolSp (K:Qd) (sp:DC):Sp:=fun vs H Q _ => ∃ F ds q,Same F H/\Iss K F ds vs/\sp ds q /\
 ∀ d t p lb xs F' H',Go F H F' H'->Is K F' d (.ref p)->H' p=some (.tup [t,.ref lb])->H lb=none->H' lb=some (.lst xs)->xs.length<=900->q d->Q (.ref p) H'
def SolSp.psp {K:Qd}{sp:DC}{vs:List V}{H:Hp}{Q:VK}{E:XK} (h:PSp K sp vs H Q E):SolSp K sp vs H Q E:=by
 obtain ⟨F,ds,q,s,i,h,k⟩:=h;exact ⟨F,ds,q,s,i,h,fun d t p lb xs F' H' g j _ _ _ _ z=>k d (.ref p) F' H' g j z⟩
def zaau {K:Qd}{F H F1 H1:Hp}{p a:Addr}{xs:List V}{ds:List Qh}{w:Str} (g:Go F H F1 H1) (ha:H a=none) (h1:H1 a=some (.lst xs)) (i:Iss K F1 ds xs) (hp:H1 p=none) :
 ∃ F2,Go F H F2 (upd H1 p (.tup [.str w,.ref a]))/\Is K F2 (.tuple [.str w,.list ds]) (.ref p)/\upd H1 p (.tup [.str w,.ref a]) p=some (.tup [.str w,.ref a])/\upd H1 p (.tup [.str w,.ref a]) a=some (.lst xs):=by
  have g2:=qyh g ha h1;have g3:=Go.put (o:=HO.tup [.str w,.ref a]) g2.fh hp;have ne:a≠p:=qm h1 hp;refine ⟨_,g2.trans g3,qjy (SqT.of ql) (qB (qzg w) (qB (qdo (SqL.of ?_) (i.mono ((qmq g.fh h1).trans g3.f))) qQ)),ql,by rw [qk ne];exact h1⟩;rw [qk ne];exact ql
def Ok.imp' {P:Zr}{w:World}{K:Qd}{mg:Str->Option Value}{base:Heap}{x:Str}{k:Nat}{ps:List Str}{sp sp':Sp} (O:Ok P w K mg base x k ps sp) (h : ∀ vs H Q E,sp' vs H Q E->sp vs H Q E):Ok P w K mg base x k ps sp':=by
 obtain ⟨f,fd,F,a,b,c⟩:=O.ex;exact ⟨f,fd,F.imp h,a,b,c⟩
def zard {P:Zr}{w:World}{K:Qd}{mg:Str->Option Value}{base:Heap}{x:Str}{k:Nat}{ps:List Str}{sp:DC} (O:Ok P w K mg base x k ps (SolSp K sp)):Ok P w K mg base x k ps (PSp K sp):=O.imp' fun _ _ _ _ z=>SolSp.psp z
section
variable {X:Cx}
end
section
variable {X:Cx}
end
end
section
section
variable {X:Cx}
end
end
section
section
variable {X:Cx}
end
end
section
def zalr (l:Addr) (its:Array Value) (n:Nat) (b:Addr) (dc:Option Addr) (its2:Array Value) (n2:Nat) (sl:Array (Option Value)) (h0 : ¬(!its.isEmpty&&Y4 (its.size+its2.size))=true) (h1:its.size<=Qz) (h2:its.size+its2.size<=Qz+1) :
 Meets (Builtin.«list.extend» ⟨[.ref l,.ref b],[]⟩) (fun _ Rr s=>s.heap.get? l=some { cls :=.type "list",dict:=none,data :=.seq its n,slots := #[] }/\s.heap.get? b=some ⟨.type "tuple",dc,.seq its2 n2,sl⟩/\Rr (.ok (.ret Qay)) { s with heap:=s.heap.update l (Qcw fun x=>x++its2),toks:=s.toks }) :=
  .of_wp fun prog w A Rr s h=>by
   obtain ⟨hp,g,d,tk,os⟩:=s;obtain ⟨hl,hb,h⟩:=h;have f2:=sub_tuple_tuple;have f3:=sub_list_list;have f4:=sub_tuple_list;have f5:=sub_list_tuple;have hz':(its++its2).size<=Qz+1:=by rw [Array.size_append];exact h2
   wp_walk using (wpAny_updateSeq hl rfl (hz:=h1) (_hz':=hz')),Qfp hl,Qfp hb
   exact ⟨_,rfl,h⟩
def zaro (K:Qd):V->List V->Hp->VK->Prop:=fun x vs H Q => ∃ l b xs zs,x = .ref l/\vs=[.ref b]/\H l=some (.lst xs)/\SqT K H b zs/\xs.length+zs.length<=Qz/\Q .non (upd H l (.lst (xs++zs)))
section
variable {X:Cx}{e:Expr}{We:WE}{pos:Pos}
def zalm:MtM X "list.extend" (zaro X.K):=by
 intro pins s σ H x vs v us Q I rx rv h;obtain ⟨l,b,xs,zs,rfl,rfl,hH,hB,hz,q⟩:=h;cases rx;obtain ⟨u,rfl,ru⟩:=rv.one;cases ru;obtain ⟨z,its,n,r,hl,e⟩:=I.lstM hH;obtain ⟨its2,r2,⟨o,e2,oc,n2,od⟩,z2⟩:=I.tuple hB;obtain ⟨c,dc,dd,sl⟩:=o;dsimp only at oc od;subst oc od;have hl2:=r2.length;have hsz:its.toArray.size+its2.toArray.size<=Qz:=by rw [Qu,Qu];omega
 have hlong : ¬ (!its.toArray.isEmpty&&Y4 (its.toArray.size+its2.toArray.size))=true:=by
  rw [qqy hsz,Qjo];exact Zn
 refine Qbz Qgs ⟨_,e,rfl⟩ Qgh (Qfs _ _) (zalr l its.toArray n b dc its2.toArray n2 sl hlong (by rw [Qu];omega) (by omega)) ⟨e,e2,?_⟩;refine ⟨.non,_,I.lset (its':=its++its2) hH e (by simp) (r.append r2) ?_,rfl,q⟩;rw [Zj];omega
def zaql (i:Nat) (We:WE):WS:=fun D env=>(gS env i).mut=true/\We env fun d e=>match d with
 | .tuple l=>(gS e i).mut=true/\(gS e i).cnt.length+l.length<=Qz/\D.nx (e.set i ((gS e i).upd ((gS e i).cnt++l)))
 | _=>False
def qxu (i:Nat) {x:Str}{px apos cpos:Pos} (he:VE X e We) (hN:X.N[i]?=some x:=by rfl) (hv:Vis X.env.scope x:=by first|exact Yn rfl|exact Zz (Yn rfl)|exact Zz (Zz rfl)) (hd:Nd0 x:=by decide)
 (hcd:Nd1 x:=by decide)
 (hbase:Vu (.Name x px) "extend" X.env (eval (.Name x px) X.env)=eval (.Name x px) X.env:=by rfl)
 (hfew:((Vc cpos (Qp [e] X.env)).all (fun x => !x.1)&&(Qct cpos (Jx [] X.env)).all (fun x=>x.1.isSome)
  && decide ([e].length+([]:List Qbo).length+(if ([]:List Qbo).isEmpty then 0 else 1)<30))=true:=by rfl)
 (hline:(apos.endLine==cpos.line)=true:=by rfl) (hst:Qp [e] X.env=(false,eval e X.env)::Qp [] X.env:=by rfl) (hplain:(Vc cpos (Qp [] X.env)).any (·.1)=false:=by rfl)
 (hs:Vm (.Call (.Attribute (.Name x px) "extend" apos) [e] [] cpos) none pos.line X.env=pure false:=by rfl):VS X (.Expr (.Call (.Attribute (.Name x px) "extend" apos) [e] [] cpos) pos) (zaql i We) :=
 (qhv (qyv Vs Qeb Qec zalm (qbu hN hv hd hcd) (qH he qaw hst) hbase hfew hline hst hplain) hs).imp fun D σ H xx189=>by
  obtain ⟨M,env,F,DD,I,⟨hm,h⟩,k⟩:=xx189;obtain ⟨p,vs,ep,g1,g2,g3,g4⟩:=(I.slot i).addr hm;refine ⟨_,qav ep,.inl ⟨rfl,_,SqL.of g1⟩,M,env,F,_,I,h,fun d2 v2 F1 H1 e1 I1 s1 i1 h1=>?_⟩;cases d2 with
  | tuple l =>
   obtain ⟨m1,z1,q1⟩:=h1;obtain ⟨p',vs1,ep',f1,f2,f3,f4⟩:=(I1.slot i).addr m1;rw [ep] at ep';injection ep' with ep';injection ep' with ep';subst ep';obtain ⟨a,xs,rfl,hs',hr⟩:=i1.tup_inv;exact ⟨p,a,vs1,xs,rfl,rfl,f1,qK I1.fh hs',by rw [f4.len,hr.len];exact z1,k.nx _ F1 _ σ (I1.chg m1 ep (qaa f4 hr)) s1 q1⟩
  | _=>exact Zd h1
end
end
section
section
variable {X:Cx}
end
end
section
section
variable {X:Cx}{pos:Pos}
end
end
section
mutual
def qvn:Qh->Bool
 | .list _=>false
 | .dict _=>false
 | .tuple l=>quy l
 | _=>true
def quy:List Qh->Bool
 | []=>true
 | d::l=>qvn d&&quy l
end
mutual
def zahd {K:Qd}{F:Hp}{a:Addr}{vs:List V} (h:F a=some (.lst vs)) : ∀ {d:Qh}{v:V},qvn d=true->Is K F d v->Is K (qdi F a) d v
 | .none,_,_,i=>by unfold Is at i ⊢;exact i
 | .bool _,_,_,i=>by unfold Is at i ⊢;exact i
 | .int _,_,_,i=>by unfold Is at i ⊢;exact i
 | .str _,_,_,i=>by unfold Is at i ⊢;exact i
 | .list l,_,z,_=>by unfold qvn at z;cases z
 | .dict l,_,z,_=>by unfold qvn at z;cases z
 | .tuple l,_,z,i=>by
  unfold qvn at z;unfold Is at i ⊢;obtain ⟨b,xs,e,q,r⟩:=i;refine ⟨b,xs,e,?_,zabd h z r⟩;rcases q with (q|⟨o,q⟩)|q
  ·exact .inl (.inl (by unfold qdi;rw [if_neg (fun c=>by rw [c,h] at q;cases q)];exact q))
  ·exact .inl (.inr ⟨o,by unfold qdi;rw [if_neg (fun c=>by rw [c,h] at q;cases q)];exact q⟩)
  ·exact .inr q
def zabd {K:Qd}{F:Hp}{a:Addr}{vs:List V} (h:F a=some (.lst vs)) : ∀ {l:List Qh}{xs:List V},quy l=true->Iss K F l xs->Iss K (qdi F a) l xs
 | [],_,_,i=>by unfold Iss at i ⊢;exact i
 | d::l,_,z,i=>by
  unfold quy at z;rw [Jy] at z;unfold Iss at i ⊢;obtain ⟨x,r,e,p,q⟩:=i;exact ⟨x,r,e,zahd h z.1 p,zabd h z.2 q⟩
end
section
variable {X:Cx}
end
end
section
section
variable {X:Cx}{Ex:St->XK}{a b:Expr}{rest:List Expr}{pos:Pos}{Wa Wx2:WX->WE}{Wb:WE}
end
end
section
section
variable {X:Cx}
def rAny (K:Qd):List V->Hp->VK->Prop:=fun xs H Q => ∃ (a:Addr) (bs:List Bool),xs=[.ref a]/\SqL K H a (bs.map V.bl)/\Q (.bl (bs.any id)) H
def zagb (hc:X.calm=true):CallR X (.builtin "any") (rAny X.K):=by
 intro pins s σ H xs us Q I r h;obtain ⟨a,bs,rfl,ha,q⟩:=h;obtain ⟨u,rfl,rx⟩:=qic r;cases rx;obtain ⟨its,rv,pl,_⟩:=I.list ha;have hl:=pl.isList;have hb:=qkr rv;have hlt:a<s.heap.objs.size:=pl.lt;refine call_any_walk (Qaf hl ?_);refine ⟨s.heap.objs.size,[s.heap.objs.size,a],[s.heap.objs.size],its.toArray.size,_,_,fun i=>(bs[i]?).getD true,rfl,Qju (A:=X.A.in1) (I.ok.hd hc) _ a (Q5 hlt) its.toArray,
  ⟨⟨_,Q2 _ rfl,rfl,rfl⟩,hl.push _⟩,fun i v s' Q' E' hP hQ=>?_,fun h' tk hk=>?_⟩
 ·obtain ⟨b,e,rfl⟩:=hb.get i v (by simpa using hP);simp only [e,Qci] at hQ;exact Yl hQ
 ·have hlen:its.toArray.size=bs.length:=by rw [Qu];exact hb.length
  have e:((Qm its.toArray.size).any fun i=>(bs[i]?).getD true)=bs.any id:=by
   rw [hlen,Qbi,Qep,Qep];constructor
   ·rintro ⟨i,hi,z⟩;have hi':=Zg.mp hi;refine ⟨bs[i],Zi hi',?_⟩;simpa [hi'] using z
   ·rintro ⟨b,hb',z⟩;obtain ⟨i,hi,rfl⟩:=Qdc hb';exact ⟨i,Zg.mpr hi,by simpa [hi] using z⟩
  rw [e];refine ⟨.bl (bs.any id),H,I.kept (t':=tk) (fun b o z=>hk b o (fun hm=>?_) (Qj _ z)),rfl,q⟩;rw [Q3.mp hm] at z;exact V6 _ (Qt z)
def boot_any:Zq "any" = some (.builtin "any"):=by decide +kernel
def dAny:DC
 | [.list l],q => ∃ bs:List Bool,l=bs.map .bool/\q (.bool (bs.any id))
 | _,_=>False
def zaqh (hc:X.calm=true):qku X (.builtin "any") dAny:=(zagb hc).imp fun xs H Q xx190=>by
 obtain ⟨F,ds,q,s,i,h,k⟩:=xx190
 match ds,h,i with
 | [.list l],h,i =>
  obtain ⟨v,rfl,j⟩:=qmk i;obtain ⟨a,xs,rfl,hs,hr⟩:=j.lst_inv;obtain ⟨bs,rfl,hq⟩:=h;rw [hr.bools_inv] at hs;exact ⟨a,bs,rfl,s.seq hs,k _ _ F H (.refl s) (qfn _) hq⟩
end
section
variable {X:Cx}{elt target iter cnd:Expr}{scope:Scope}{pos py spos:Pos}{caps own:List Str}{ix:List Nat}{Wi:WF}{G:WG}{Wt:WT}{We:WE}{i:Nat}{y:Str}
def zaby (hN:X.N.Nodup) (hc:X.calm=true) (S:CompScope X.env scope caps) (hi:VI X target iter Wi) (hg : ∀ pins s3 H ex,VG (blk X pins scope (caps++own) s3 H ex) target G) (ht : ∀ pins s3 H ex,VT (blk X pins scope (caps++own) s3 H ex) cnd Wt) (he : ∀ pins s3 H ex,VE (blk X pins scope (caps++own) s3 H ex) elt We)
 (hiy:X.N[i]?=some y:=by rfl) (hy:X.env.scope.names.lookup y=some .local:=by rfl) (hsw:Vm (.ListComp elt [⟨target,iter,[cnd],0⟩] scope pos) (some (.Name y py)) spos.line X.env=pure true:=by rfl)
  (hix:caps.length=ix.length:=by rfl) (hcapB:(caps.zip ix).all (fun p=>X.N[p.2]?==some p.1)=true:=by rfl) (hs : ∀ x,Zu iter X.env x=pure x:=by intro _;rfl) :
  PS X (.Assign [.Name y py] (.ListComp elt [⟨target,iter,[cnd],0⟩] scope pos) spos) (fun D σ H=>qsc X.K (quf ix own.length Wi G Wt We) σ H fun v H'=>D.nx (σ.set i (some v)) H') :=
  (zadd (wi:=qoc X.K Wi) (g:=qko X.K G) (tt:=qsb X.K Wt) (te:=qcm X.K We) hN hiy hy hsw hc S hi hg he ht hix hcapB hs).imp fun D σ H h=>qnh h
end
end
section
section
variable {X:Cx}{b:Expr}{Wb:WE}{pos px:Pos}
def wOpO (i:Nat) (r:D2) (Wb:WE):WE:=fun env Q=>(gS env i).mut=true/\Wb env fun y e=>(gS e i).mut=true/\r (.list (gS e i).cnt) y fun d=>qvn d=true/\Q d e
def zaft {i:Nat}{r:D2}{σ:St}{H:Hp}{R:VK} (h:qcm X.K (wOpO i r Wb) σ H R):tOp (qvb X.K r) (tVar i) (qcm X.K Wb) σ H R:=by
 obtain ⟨M,env,F,Q,I,⟨m,h⟩,k⟩:=h;obtain ⟨a,vs,ea,g1,g2,g3,g4⟩:=(I.slot i).addr m;refine ⟨_,qav ea,M,env,F,_,I,h,fun d v F1 H1 e1 I1 s1 i1 h1=>?_⟩;obtain ⟨m1,h1⟩:=h1;obtain ⟨a',vs1,ea',f1,f2,f3,f4⟩:=(I1.slot i).addr m1;rw [ea] at ea';injection ea' with ea';injection ea' with ea';subst ea';have sn:Same F1 (upd F1 a (.lst vs1)):=qbx f2;refine ⟨upd F1 a (.lst vs1),_,d,_,fun b o eb=>?_,qdo (SqL.of ql) (f4.mono sn),i1.mono sn,h1,fun d2 v2 F2 H2 g j ⟨fd,q⟩=>?_⟩
 ·by_cases z:b=a
  ·subst z;rw [ql] at eb;rw [f1];exact .of eb
  ·rw [qk z] at eb;exact I1.fh b o eb
 ·have fa:F2 a=some (.lst vs1):=g.f a _ ql;have G:Go F1 H1 (qdi F2 a) H2:=by
   refine ⟨fun b o eb=>?_,g.h,fun b o eb=>?_,fun b o eb=>?_⟩
   ·unfold qdi;rw [if_neg (qm eb f2)];exact sn.trans g.f b o eb
   ·unfold qdi at eb;split at eb
    ·cases eb
    ·exact g.fh b o eb
   ·unfold qdi at eb;split at eb
    ·cases eb
    ·rename_i z;rcases g.new b o eb with q|q
     ·rw [qk z] at q;exact .inl q
     ·exact .inr q
  exact k d2 v2 _ H2 e1 (I1.go G) (s1.trans G.f) (zahd fa fd j) q
def zajw (i:Nat) {op:CmpOp}{r:D2}{x:Str} (ho:OpV X (Z6 op) r) (hb:VE X b Wb) (hN:X.N[i]?=some x:=by rfl) (hv:Vis X.env.scope x:=by first|exact Yn rfl|exact Zz (Yn rfl)|exact Zz (Zz rfl)) (hd:Nd0 x:=by decide)
 (hcd:Nd1 x:=by decide) (hm:Qae op b=false:=by first|exact qzk _|with_unfolding_all rfl):VT X (.Compare (.Name x px) [op] [b] pos) (qya (wOpO i r Wb)) :=
 (zabo ho (qbu hN hv hd hcd) hb hm).imp fun σ H R h=>zaft (qjb h)
end
end
section
section
variable {X:Cx}{Ex:St->XK}{pos:Pos}{Wt:WX->WS}
def zark (Wi:WF) (G:WG) (t:WX->WS):WX->WS:=fun Wx D env=>Wi env fun ds e0 => ∃ P:Nat->Sto->Prop,P 0 e0 /\
 (∀ i d e,ds[i]?=some d->P i e->G d e fun e1=>t Wx { D with nx:=P (i+1),ct:=P (i+1),bk:=D.nx } e1) /\ ∀ e,P ds.length e->D.nx e
def zabh {tg iter:Expr}{body:List Stmt}{Wi:WF}{G:WG} (hc:X.calm=true) (hi:VI X tg iter Wi) (hg:VG X tg G) (hb:qxs X Ex body Wt)
 (hs : ∀ x,Zu iter X.env x=pure x:=by intro _;rfl) (hp:Qhb (model X.prog X.w) X.A X.env X.xe:=by exact Qhb.leaving):VSX X Ex (.For tg iter body [] pos) (zark Wi G Wt) :=
  (zahj hp hc hi hg hb hs).imp fun D σ H xx194=>by
   obtain ⟨M,env,F,Wx,DD,I,h,hx,k⟩:=xx194;refine ⟨M,env,F,_,I,h,fun ds J F1 H1 e1 I1 s1 jt xx193=>?_⟩;obtain ⟨P,p0,turn,fin⟩:=xx193;refine ⟨fun i m σ' H'=>m=ds.length-i/\i<=ds.length /\ ∃ e' F',EnvOk X.K M F' H' e' σ'/\Same F1 F'/\P i e',⟨ds.length,by simp,Y7 _,e1,F1,I1,.refl _,p0⟩,fun i m σ2 H2 xx192=>?_⟩;obtain ⟨hm,hi,e2,F2,I2,s2,p2⟩:=xx192;by_cases hl:i=ds.length
   ·subst hl;exact .inl ⟨jt.stop H2 (s2.trans I2.fh),k.nx e2 F2 H2 σ2 I2 (s1.trans s2) (fin e2 p2)⟩
   ·have hlt:i<ds.length:=by omega
    refine .inr ⟨jt.go i H2 (s2.trans I2.fh) hlt,fun σ' H' => ∃ e' F',EnvOk X.K M F' H' e' σ'/\Same F1 F'/\P (i+1) e',fun σ' H' z=>⟨ds.length-(i+1),by omega,rfl,hlt,z⟩,fun x H3 hy=>?_⟩;obtain ⟨d,F3,hd,g,j⟩:=jt.yld i H2 x H3 F2 s2 I2.fh hlt hy;refine ⟨M,e2,F3,d,_,I2.go g,j,turn i d e2 hd p2,fun F4 H4 e4 σ4 I4 s4 h4=>⟨M,e4,F4,Wx,_,I4,h4,hx.mono (s1.trans (s2.trans (g.f.trans s4))),?_⟩⟩;have s14:=s2.trans (g.f.trans s4);exact ⟨fun e5 F5 H5 σ5 I5 s5 p5=>⟨e5,F5,I5,s14.trans s5,p5⟩,fun r v e5 F5 H5 σ5 I5 s5=>k.rt r v e5 F5 H5 σ5 I5 ((s1.trans s14).trans s5),
     fun e5 F5 H5 σ5 I5 s5=>k.nx e5 F5 H5 σ5 I5 ((s1.trans s14).trans s5),fun e5 F5 H5 σ5 I5 s5 p5=>⟨e5,F5,I5,s14.trans s5,p5⟩⟩
end
end
end L2
def L2.Room.m {j k:Nat}{A:PySem.Around} (r:L2.Room k A) (h:j<=k:=by decide):L2.Room j A:=r.mono h
namespace My
open PySem L2
seal VE VF VA VT VW VS VSs VG VGs VI VO OpV qku qro VN VFN VST VSsT VEX VSX qxs
def top (i:Nat):Stmt:=Qf.main.body.getD i (.Pass ⟨0,0,0,0⟩)
def qbt (s:Stmt) (j:Nat):Stmt:=match s with | .ClassDef _ _ _ body _ _ _ _ _ _ _=>body.getD j (.Pass ⟨0,0,0,0⟩)|s=>s
abbrev qly:Stmt:=top 16
abbrev qak:Stmt:=top 21
abbrev qoz:Stmt:=top 17
abbrev qbi:Stmt:=top 34
abbrev qdu:Stmt:=top 44
abbrev qdq:Stmt:=top 26
abbrev qjl:Stmt:=top 7
abbrev qlq:Stmt:=top 27
abbrev qet:Stmt:=top 29
abbrev qbr:Stmt:=qbt (top 28) 0
abbrev qen:Stmt:=qbt (top 28) 1
abbrev qbb:Stmt:=qbt (top 28) 4
abbrev qbq:Stmt:=qbt (top 28) 3
abbrev qjg:Stmt:=top 30
abbrev qbn:Stmt:=qbt (top 28) 2
abbrev qgw:Stmt:=top 6
abbrev qjj:Stmt:=top 9
abbrev qqd:Stmt:=top 8
abbrev qer:Stmt:=qbt (top 28) 5
abbrev qlr:Stmt:=top 25
abbrev qiz:Stmt:=top 36
abbrev qdf:Stmt:=top 37
abbrev qga:Stmt:=top 35
abbrev qdv:Stmt:=top 38
abbrev qgv:Stmt:=top 10
abbrev qdd:Stmt:=top 11
abbrev qpf:Stmt:=top 12
abbrev qdz:Stmt:=top 15
abbrev qbk:Stmt:=top 14
abbrev qjm:Stmt:=top 40
abbrev qep:Stmt:=top 39
abbrev qhi:Stmt:=top 33
abbrev qas:Stmt:=top 45
abbrev qgz:Stmt:=top 48
abbrev qiy:Stmt:=top 47
abbrev qew:Stmt:=top 46
abbrev qln:Stmt:=top 49
abbrev qvm:Stmt:=top 43
abbrev qhl:Stmt:=top 58
abbrev qeo:Stmt:=top 59
abbrev qfy:Stmt:=top 60
abbrev qdc:Stmt:=top 67
abbrev qde:Stmt:=top 61
abbrev qdg:Stmt:=top 63
abbrev qhg:Stmt:=top 64
abbrev qes:Stmt:=top 65
abbrev qex:Stmt:=top 66
abbrev qdm:Stmt:=top 68
abbrev qdh:Stmt:=top 69
abbrev qev:Stmt:=top 70
abbrev qX:Stmt:=top 21
abbrev qal:Stmt:=top 34
abbrev qbp:Stmt:=top 44
abbrev qjc:Stmt:=top 43
abbrev qfz:Stmt:=top 71
abbrev qdb:Stmt:=top 72
abbrev qcj:Stmt:=top 53
abbrev qjk:Stmt:=top 54
abbrev qlv:Stmt:=top 18
abbrev qmb:Stmt:=top 19
abbrev qpg:Stmt:=top 55
abbrev qvl:Stmt:=top 51
abbrev qbo:Stmt:=top 56
abbrev qvj:Stmt:=top 52
abbrev qfx:Stmt:=top 73
abbrev qnr:Stmt:=top 74
def sc0 {N P:List Str}{sc:Scope} (a:sc.kind = .function:=by rfl) (b:sc.isCoroutine=false:=by rfl) (c:sc.isGenerator=false:=by rfl) (d:N.Nodup:=by decide +kernel) (e:N.take P.length=P:=by rfl) (f : ∀ x ∈ P,sc.names.lookup x=some .local\/sc.names.lookup x=some .cell:=by decide +kernel) (g : ∀ y ∈ sc.names,y.2 ≠ .free:=by decide +kernel):FnScope N P sc:=⟨a,b,c,d,e,f,g⟩
def pv {X:Cx} (i:Nat) {x:Str}{pos:Pos} (hN:X.N[i]?=some x:=by rfl) (hv:Vis X.env.scope x:=by first|exact Yn rfl|exact Zz (Yn rfl)|exact Zz (Zz rfl)) (hd:Nd0 x:=by decide) (hc:Nd1 x:=by decide):PE X (.Name x pos) (tVar i):=qbu hN hv hd hc
structure Cs where
 Board:Addr
 GlassError:Addr
 NoFit:Addr
 TooMany:Addr
structure Txt (K:Qd) (mg:Str->Option Value) (cs:Cs):Prop where
 Board_:mg "Board" = some (.ref cs.Board)
 GlassError_:mg "GlassError" = some (.ref cs.GlassError)
 NoFit_:mg "NoFit" = some (.ref cs.NoFit)
 TooMany_:mg "TooMany" = some (.ref cs.TooMany)
 Board_c:Cls K cs.Board
 Board_mk:Qcz K cs.Board=true
 Board_kp:Y5 K (.ref cs.Board)=true
 Board_n_bottom:NoAttr K cs.Board "bottom"
 Board_n_lines:NoAttr K cs.Board "lines"
 Board_n_stands_for:NoAttr K cs.Board "stands_for"
 Board_n_unknowns:NoAttr K cs.Board "unknowns"
 GlassError_e:Yv K cs.GlassError qmm "ValueError.__new__" = true
 NoFit_e:Yv K cs.NoFit qmm "ValueError.__new__" = true
 TooMany_e:Yv K cs.TooMany qmm "ValueError.__new__" = true
 NoFit_x:XCls K cs.NoFit
 u_NoFit_GlassError:zadt K cs.NoFit cs.GlassError
 k_NoFit_ValueError:Z2 K (.ref cs.NoFit) (.type "ValueError")=some true
 k_NoFit_NoFit:Z2 K (.ref cs.NoFit) (.ref cs.NoFit)=some true
 k_NoFit_TooMany:Z2 K (.ref cs.NoFit) (.ref cs.TooMany)=some false
 TooMany_x:XCls K cs.TooMany
 u_TooMany_GlassError:zadt K cs.TooMany cs.GlassError
 k_TooMany_ValueError:Z2 K (.ref cs.TooMany) (.type "ValueError")=some true
 k_TooMany_NoFit:Z2 K (.ref cs.TooMany) (.ref cs.NoFit)=some false
 k_TooMany_TooMany:Z2 K (.ref cs.TooMany) (.ref cs.TooMany)=some true
 ValueError_:mg "ValueError" = none
 abs_:mg "abs" = none
 all_:mg "all" = none
 any_:mg "any" = none
 bool_:mg "bool" = none
 enumerate_:mg "enumerate" = none
 int_:mg "int" = none
 isinstance_:mg "isinstance" = none
 len_:mg "len" = none
 list_:mg "list" = none
 max_:mg "max" = none
 range_:mg "range" = none
 sorted_:mg "sorted" = none
 sum_:mg "sum" = none
 tuple_:mg "tuple" = none
 zip_:mg "zip" = none
 MOST_COMPARED_ : ∃ t,mg "MOST_COMPARED" = some (.int 4 t)
 MOST_GLASSES_ : ∃ t,mg "MOST_GLASSES" = some (.int 5 t)
 MOST_ROWS_ : ∃ t,mg "MOST_ROWS" = some (.int 24 t)
 MOST_UNKNOWNS_ : ∃ t,mg "MOST_UNKNOWNS" = some (.int 20 t)
section
variable {P:Zr}{w:World}{K:Qd}{mg:Str->Option Value}{base:Heap}{cs:Cs}
def qww {a b:Int}{g:Nat} (h0:0<=a) (hb:0<=b) (h1:b≠0) (h:J5 a.toNat b.toNat=g) :
 0<=a%b/\a%b<b/\J5 b.toNat (a%b).toNat=g:=by
  have hp:0<b:=by omega
  have e1:=Qbk a h1;have e2:=J7 a hp;refine ⟨e1,e2,?_⟩;have e3:(a%b).toNat=a.toNat%b.toNat:=by
   have:((a.toNat%b.toNat:Nat):Int)=a%b:=by
    rw [Qij,Qau h0,Qau hb]
   rw [<- this];rfl
  rw [e3,<- h,Qhu b.toNat,Qhu a.toNat];exact (Nat.gcd_rec _ _).symm
def zaaa {a:Int}{b:Int}{g:Nat} (h0:0<=a) (h1:b=0) (h:J5 a.toNat b.toNat=g):a=(g:Int):=by
 subst h1;rw [<- h];have:J5 a.toNat (Qkg 0)=a.toNat:=Qgx _;rw [this];omega
def zacz (a b:Int):J5 (if a<0 then -a else a).toNat (if b<0 then -b else b).toNat=Ym a b:=by
 have e : ∀ x:Int,(if x<0 then -x else x).toNat=x.natAbs:=fun x=>by split <;> omega
 rw [e,e];rfl
structure Shr (p q:Int):Prop where
 pos:1<=q
 gcd:Ym p q=1
def cm (t b:Int):Int:=if b<0 then -(Ym t b:Int) else (Ym t b:Int)
def shT (t b:Int):Int:=t.fdiv (cm t b)
def shB (t b:Int):Int:=b.fdiv (cm t b)
def zaao {t b:Int} (hb:b≠0):0<Ym t b:=Qcq t hb
def zamo {t b:Int} (hb:b≠0):cm t b≠0:=by
 have:=zaao (t:=t) hb;unfold cm;split <;> omega
def zafz (t b:Int):cm t b∣t:=by
 have h:(Ym t b:Int)∣t:=Qik ..;unfold cm;split
 ·exact Int.neg_dvd.mpr h
 ·exact h
def zafn (t b:Int):cm t b∣b:=by
 have h:(Ym t b:Int)∣b:=Qhl ..;unfold cm;split
 ·exact Int.neg_dvd.mpr h
 ·exact h
def qnj {c t:Int} (h:c∣t):c*(t.fdiv c)=t:=Int.mul_fdiv_cancel' h
def zalb (t b:Int):cm t b*shT t b=t:=qnj (zafz t b)
def qov (t b:Int):cm t b*shB t b=b:=qnj (zafn t b)
def qtk (t b:Int):(cm t b).natAbs=Ym t b:=by unfold cm;split <;> omega
def quz {t b:Int} (hb:b≠0):Shr (shT t b) (shB t b)/\shT t b*b=t*shB t b:=by
 have h1:=zalb t b;have h2:=qov t b;have hc:=zamo (t:=t) hb;have hg:=zaao (t:=t) hb;refine ⟨⟨?_,?_⟩,?_⟩
 ·by_cases hn:b<0
  ·have hcn:cm t b<0:=by unfold cm;rw [if_pos hn];omega
   have:0<shB t b:=by
    rcases Qba 0 (shB t b) with h|h
    ·exact h
    ·have:=Qbd (Jq hcn) h;omega
   omega
  ·have hcn:0<cm t b:=by unfold cm;rw [if_neg hn];omega
   have hbp:0<b:=by omega
   have:0<shB t b:=by
    rcases Qba 0 (shB t b) with h|h
    ·exact h
    ·have:=Qbe (Jq hcn) h;omega
   omega
 ·have e:Ym (cm t b*shT t b) (cm t b*shB t b)=(cm t b).natAbs*Ym (shT t b) (shB t b):=Qil ..;rw [h1,h2,qtk] at e;have e2:Ym t b*1=Ym t b*Ym (shT t b) (shB t b):=by omega
  exact (Qdt hg e2).symm
 ·have e:shT t b*(cm t b*shB t b)=(cm t b*shT t b)*shB t b:=by
   rw [<- Jt,Z9 (shT t b)]
  rw [h2,h1] at e;exact e
def zajb {k m n:Int} (h:Ym m k=1) (e:k∣m*n):k∣n:=by
 have e':k.natAbs∣m.natAbs*n.natAbs:=by rw [<- Qdu];exact V8.mpr e
 have c:Nat.Coprime k.natAbs m.natAbs:=by
  show J5 k.natAbs m.natAbs=1;rw [Qhu];exact h
 exact V8.mp (c.dvd_of_dvd_mul_left e')
open Builtin.Int (intBits)
def zala {t b:Int}{m:Nat} (hb:b≠0) (h:intBits b<=m):intBits (cm t b)<=m:=by
 refine Jf ?_ h;rw [qtk];exact Qcr (by omega) (Nat.gcd_dvd_right t.natAbs b.natAbs)
def qis {t b:Int}{m:Nat} (h:intBits t<=m):intBits (shT t b)<=m:=intBits_fdiv_le h
def qxi {t b:Int}{m:Nat} (h:intBits b<=m):intBits (shB t b)<=m:=intBits_fdiv_le h
def qkv {a b:Int} (ha:intBits a<=4000) (hb:intBits b<=4000):IntMulOk a b :=.of_le ha hb (by decide)
def qu {x:Int}{m n:Nat} (h:intBits x<=m) (e:m<=n):intBits x<=n:=Z7 h e
def qaf {x:Int} (h1 : -(2^64)<x) (h2:x<2^64):intBits x<=64:=intBits_le_64 h1 h2
def qsu {zs:List Int}{i:Nat}{z:Int} (h:zs[i]?=some z):zs.take (i+1)=zs.take i++[z]:=by
 rw [Yb,h];rfl
def qaj {zs:List Int}{i:Nat}{x:Qh} (h:(zs.map Qw)[i]?=some x) : ∃ z,x = .int z/\zs[i]?=some z/\z ∈ zs:=by
 rw [Qa] at h;cases e:zs[i]? with
 | none=>rw [e] at h;cases h
 | some z =>
  rw [e] at h;exact ⟨z,(Qx h).symm,rfl,Qg e⟩
structure Tab (b:Int) (R:List (List Int)) (n:Nat):Prop where
 pos:1<=b
 len : ∀ r ∈ R,r.length=n
 nn : ∀ r ∈ R,∀ x ∈ r,0<=x
 sum : ∀ r ∈ R,r.sum=b
def qao (r:List Int):Qh :=.list (r.map .int)
def qef (r:List Int):Qh :=.tuple (r.map .int)
def quk {α:Type}{l:List α}{i:Nat}{x:α} (h:l[i]?=some x):x ∈ l:=Qg h
def qem {n:Nat} (h:n<=1000):n<=Qz:=Yg (qi h)
def qbl {α:Type} (y:α) (l:List α):atI (y::l) 0=some y:=qP (j:=0) rfl
def qmf {α:Type}{l:List α}{i:Int}{x:α} (h0:0<=i) (h:l[i.toNat]?=some x):atI l i=some x:=by
 have:=qP h
 rwa [Qau h0] at this
def iteB {c:Bool}{A B:Prop} (h1:c=true->A) (h2:c=false->B):if c=true then A else B:=by
 cases c with
 | true=>exact qtx (h1 rfl)
 | false=>exact qsg (h2 rfl)
def qeb (R:List (List Int)):Qh :=.list (R.map qao)
def zaia : ∀ {r:List Int},(∀ n ∈ r,0<=n)->0<=r.sum
 | [],_=>by simp
 | n::r,h=>by
  rw [Y9];have a:=h n (by simp);have b:=zaia fun m hm=>h m (Qy _ hm);omega
def qph : ∀ {r:List Int}{x:Int},(∀ n ∈ r,0<=n)->x ∈ r->x<=r.sum
 | n::r,x,h,hx=>by
  rw [Y9];have a:=h n (by simp);have b:=zaia fun m hm=>h m (Qy _ hm);rcases Q1.mp hx with rfl|hx
  ·omega
  ·have:=qph (fun m hm=>h m (Qy _ hm)) hx;omega
def Tab.le {b:Int}{R:List (List Int)}{n:Nat}{r:List Int}{x:Int} (h:Tab b R n) (hr:r ∈ R) (hx:x ∈ r):0<=x/\x<=b :=
 ⟨h.nn r hr x hx,h.sum r hr ▸ qph (h.nn r hr) hx⟩
def iteN {b:Bool}{A B:Prop} (h:b=true) (k:B):if (!b)=true then A else B:=by rw [h];exact qsg k
def iteY {b:Bool}{A B:Prop} (h:b=true) (k:A):if b=true then A else B:=by rw [h];exact qtx k
def qrs {b:Bool}{A B:Prop} (h:b=false) (k:B):if b=true then A else B:=by rw [h];exact qsg k
def qay (g:Nat) (r:List Int):Nat:=r.foldl (fun (g:Nat) (n:Int)=>Ym g n) g
def qcq (R:List (List Int)):Nat:=R.foldl qay 0
def qgu : ∀ (r:List Int) (g:Nat),qay g r∣g
 | [],g=>Nat.dvd_refl _
 | n::r,g=>Qjz (qgu r (Ym g n)) (by have:=Int.gcd_dvd_natAbs_left (g:Int) n;simpa using this)
def qlo : ∀ (r:List Int) (g:Nat),∀ n ∈ r,(qay g r:Int)∣n
 | m::r,g,n,h=>by
  rcases Q1.mp h with rfl|h
  ·exact Qac (Ju.mpr (qgu r (Ym g n))) (Qhl ..)
  ·exact qlo r (Ym g m) n h
def qjx : ∀ (R:List (List Int)) (g:Nat),R.foldl qay g∣g
 | [],g=>Nat.dvd_refl _
 | r::R,g=>Qjz (qjx R (qay g r)) (qgu r g)
def qti : ∀ (R:List (List Int)) (g:Nat),∀ r ∈ R,∀ n ∈ r,((R.foldl qay g:Nat):Int)∣n
 | s::R,g,r,h,n,hn=>by
  rcases Q1.mp h with rfl|h
  ·exact Qac (Ju.mpr (qjx R (qay g r))) (qlo r g n hn)
  ·exact qti R (qay g s) r h n hn
def qiw {R:List (List Int)}{r:List Int}{n:Int} (h:r ∈ R) (hn:n ∈ r):(qcq R:Int)∣n:=qti R 0 r h n hn
def qwr (k:Nat) : ∀ (r:List Int) (g:Nat),qay (k*g) (r.map fun n=>(k:Int)*n)=k*qay g r
 | [],g=>rfl
 | n::r,g=>by
  have e:Ym ((k*g:Nat):Int) ((k:Int)*n)=k*Ym g n:=by
   rw [Qbl,Qil];rfl
  show qay (Ym ((k*g:Nat):Int) ((k:Int)*n)) (r.map fun n=>(k:Int)*n)=_;rw [e];exact qwr k r (Ym g n)
def qtg (k:Nat) : ∀ (R:List (List Int)) (g:Nat),(R.map fun r=>r.map fun n=>(k:Int)*n).foldl qay (k*g)=k*R.foldl qay g
 | [],g=>rfl
 | r::R,g=>by
  show (R.map fun r=>r.map fun n=>(k:Int)*n).foldl qay (qay (k*g) (r.map fun n=>(k:Int)*n))=_;rw [qwr];exact qtg k R (qay g r)
def zagj (k:Nat) (R:List (List Int)):qcq (R.map fun r=>r.map fun n=>(k:Int)*n)=k*qcq R:=qtg k R 0
def qju (R:List (List Int)) (g:Int):List (List Int):=R.map fun r=>r.map fun n=>n/g
def qin {α:Type}{f:α->α} : ∀ {l:List α},(∀ x ∈ l,f x=x)->l.map f=l
 | [],_=>rfl
 | x::l,h=>by rw [Yh,h x (by simp),qin fun y hy=>h y (Qy _ hy)]
def zafg {R:List (List Int)}:(qju R (qcq R)).map (fun r=>r.map fun n=>(qcq R:Int)*n)=R:=by
 unfold qju;rw [Vf];refine qin fun r hr=>?_;show (r.map fun n=>n/(qcq R:Int)).map (fun n=>(qcq R:Int)*n)=r;rw [Vf];exact qin fun n hn=>Qfw (qiw hr hn)
def zago {R:List (List Int)} (h:0<qcq R):qcq (qju R (qcq R))=1:=by
 have e:=zagj (qcq R) (qju R (qcq R));rw [zafg] at e;have e2:qcq R*1=qcq R*qcq (qju R (qcq R)):=by omega
 exact (Qdt h e2).symm
def qxh : ∀ {r:List Int},(∀ n ∈ r,n=0)->r.sum=0
 | [],_=>rfl
 | n::r,h=>by rw [Y9,h n (by simp),qxh fun m hm=>h m (Qy _ hm)];rfl
def Tab.gpos {b:Int}{R:List (List Int)}{n:Nat} (h:Tab b R n) (hR:R≠[]):0<qcq R:=by
 rcases Va (qcq R) with e|e
 ·exfalso;obtain ⟨r,R',rfl⟩:=Qq hR;have h1:=h.sum r (by simp);have h2 : ∀ m ∈ r,m=0:=fun m hm=>by
   have:=qiw (R:=r::R') (by simp) hm;rw [e] at this;exact Int.zero_dvd.mp this
  rw [qxh h2] at h1;have:=h.pos;omega
 ·exact e
def qzz {g:Int} : ∀ {r:List Int},(∀ n ∈ r,g∣n)->g∣r.sum
 | [],_=>by simp
 | n::r,h=>by rw [Y9];exact Int.dvd_add (h n (by simp)) (qzz fun m hm=>h m (Qy _ hm))
def Tab.gdvd {b:Int}{R:List (List Int)}{n:Nat} (h:Tab b R n) (hR:R≠[]):(qcq R:Int)∣b:=by
 obtain ⟨r,R',rfl⟩:=Qq hR;rw [<- h.sum r (by simp)];exact qzz fun m hm=>qiw (by simp) hm
def zaay {g:Int} : ∀ {r:List Int},(∀ n ∈ r,g∣n)->(r.map fun n=>n/g).sum=r.sum/g
 | [],_=>by simp
 | n::r,h=>by
  rw [Yh,Y9,Y9,zaay fun m hm=>h m (Qy _ hm)];exact (Int.add_ediv_of_dvd_left (h n (by simp))).symm
def Tab.low {b:Int}{R:List (List Int)}{n:Nat} (h:Tab b R n) (hR:R≠[]):Tab (b/qcq R) (qju R (qcq R)) n:=by
 have hp:=h.gpos hR;have hd:=h.gdvd hR;have hb:=h.pos;have hgb:(qcq R:Int)<=b:=Qka (by omega) hd;refine ⟨?_,?_,?_,?_⟩
 ·exact (Int.le_ediv_iff_mul_le (by omega)).mpr (by omega)
 ·intro r hr;obtain ⟨s,hs,rfl⟩:=Qr.mp hr;rw [Qe];exact h.len s hs
 ·intro r hr x hx;obtain ⟨s,hs,rfl⟩:=Qr.mp hr;obtain ⟨y,hy,rfl⟩:=Qr.mp hx;exact Qiz (h.nn s hs y hy) (by omega)
 ·intro r hr;obtain ⟨s,hs,rfl⟩:=Qr.mp hr;rw [zaay fun m hm=>qiw hs hm,h.sum s hs]
def qss (g:Nat) (r:List Int) (n:Int):qay g (r++[n])=Ym (qay g r) n:=by unfold qay;rw [List.foldl_append];rfl
def RowsD (d:Qh) (R:List (List Int)):Prop := ∃ l,qfs d=some l/\l.map (fun x=>(qfs x).getD [])=R.map (fun r=>r.map Qw) /\ ∀ x ∈ l,(qfs x).isSome=true
def RowsD.len {d:Qh}{R:List (List Int)}{l:List Qh} (h:RowsD d R) (e:qfs d=some l):l.length=R.length:=by
 obtain ⟨m,e',h1,_⟩:=h;rw [e] at e';cases e';have:=congrArg Qis h1;simpa using this
def RowsD.get {d:Qh}{R:List (List Int)}{l:List Qh}{i:Nat}{x:Qh} (h:RowsD d R) (e:qfs d=some l) (hx:l[i]?=some x) : ∃ r,R[i]?=some r/\qfs x=some (r.map .int):=by
 obtain ⟨m,e',h1,h2⟩:=h;rw [e] at e';cases e';have h3:(l.map fun x=>(qfs x).getD [])[i]?=some ((qfs x).getD []):=by rw [Qa,hx];rfl
 rw [h1,Qa] at h3;obtain ⟨y,hy⟩:=Jg.mp (h2 x (Qg hx));cases q:R[i]? with
 | none=>rw [q] at h3;cases h3
 | some r =>
  rw [q] at h3;refine ⟨r,rfl,?_⟩;rw [hy] at h3 ⊢;exact h3.symm
def RowsD.of {d:Qh}{R:List (List Int)}{f:List Qh->Qh} (hf : ∀ l,qfs (f l)=some l) (e:qfs d=some (R.map fun r=>f (r.map .int))):RowsD d R:=by
 refine ⟨_,e,?_,?_⟩
 ·rw [Vf];refine Qav fun r _=>?_;simp [hf]
 ·intro x hx;obtain ⟨r,_,rfl⟩:=Qr.mp hx;simp [hf]
def qau (b:Int) (R:List (List Int)):Qh :=.tuple [.int b,.tuple (R.map qef)]
def qsr (R:List (List Int)):RowsD (.tuple (R.map qef)) R:=RowsD.of (f :=.tuple) (fun _=>rfl) rfl
def qgm (ds:List Qh) (q:Qh->Prop):Prop := ∃ b R,ds=[qau b R]/\q (.int (R.length:Nat))
def zacj:FnScope ["glass"] ["glass"] (defScope qly):=sc0
def zacm (F:Def K mg "stands" qly ["glass"]) (T:Txt K mg cs)
 : Ok P w K mg base "stands" 1 ["glass"] (PSp K qgm):=by
  refine F.vok zacj (by rintro ds q ⟨_,_,h,_⟩;rw [h];rfl) fun f cdv A outer s H E hr ds q h=>?_;obtain ⟨b,R,rfl,h⟩:=h;refine ⟨_,(qg (qx (qv qbd T.len_ L2.boot_len (qc (qr (qb 0) qe) qd)))),?_⟩;refine ⟨_,rfl,?_⟩;have e:(R.map qef).length=R.length:=by simp
  show q (.int ((R.map qef).length:Nat));rw [e];exact h
def qbf (ds:List Qh) (q:Qh->Prop):Prop := ∃ b R c S,ds=[qau b R,qau c S]/\R.length=S.length/\q .none
def qhp:FnScope ["one","other"] ["one","other"] (defScope qak):=sc0
def qhq (F:Def K mg "check_alike_stands" qak ["one","other"]) (T:Txt K mg cs)
 (O_stands:Ok P w K mg base "stands" 1 ["glass"] (PSp K qgm))
 : Ok P w K mg base "check_alike_stands" 2 ["one","other"] (PSp K qbf):=by
  refine F.vok qhp (by rintro ds q ⟨_,_,_,_,h,_⟩;rw [h];rfl) fun f cdv A outer s H E hr ds q h=>?_;obtain ⟨b,R,c,S,rfl,hl,h⟩:=h;refine ⟨_,(qg (qar (qE (qpy hr.units) (qw O_stands.c hr.m (qc (qb 0) qd)) (qw O_stands.c hr.m (qc (qb 1) qd))) qca qz)),?_⟩;refine ⟨b,R,rfl,c,S,rfl,rfl,rfl,qoj (fun z=>?_) (fun _=>h)⟩;exfalso;apply z;rw [hl]
def qcp (ds:List Qh) (q:Qh->Prop):Prop := ∃ b r R,ds=[qau b (r::R)]/\q (.int (r.length:Nat))
def zaei:FnScope ["glass"] ["glass"] (defScope qoz):=sc0
def zafc (F:Def K mg "signs" qoz ["glass"]) (T:Txt K mg cs)
 : Ok P w K mg base "signs" 1 ["glass"] (PSp K qcp):=by
  refine F.vok zaei (by rintro ds q ⟨_,_,_,h,_⟩;rw [h];rfl) fun f cdv A outer s H E hr ds q h=>?_;obtain ⟨b,r,R,rfl,h⟩:=h;refine ⟨_,(qg (qx (qv qbd T.len_ L2.boot_len (qc (qr (qr (qb 0) qe) qe) qd)))),?_⟩;refine ⟨_,rfl,_,qbl _ _,?_⟩;have e:(r.map Qw).length=r.length:=by simp
  show q (.int ((r.map Qw).length:Nat));rw [e];exact h
def qcn (ds:List Qh) (q:Qh->Prop):Prop := ∃ b r R,ds=[qau b (r::R)]/\r.length<=4/\q .none
def qkk:FnScope ["glass"] ["glass"] (defScope qbi):=sc0
def qkj (F:Def K mg "check_few_signs" qbi ["glass"]) (T:Txt K mg cs)
 (O_signs:Ok P w K mg base "signs" 1 ["glass"] (PSp K qcp))
 : Ok P w K mg base "check_few_signs" 2 ["glass"] (PSp K qcn):=by
  refine F.vok qkk (by rintro ds q ⟨_,_,_,h,_⟩;rw [h];rfl) fun f cdv A outer s H E hr ds q h=>?_;obtain ⟨b,r,R,rfl,hl,h⟩:=h;refine ⟨_,(qg (qar (qE qxk (qw O_signs.c hr.m (qc (qb 0) qd)) (qgr T.MOST_COMPARED_)) qca qz)),?_⟩;exact ⟨b,r,R,rfl,qip (fun z=>by omega) (fun _=>h)⟩
def bFs (n d:Int) (Ls:List (List Int)) (ss:List Int):List (Str×Qh):=[("unknowns",.int n),("bottom",.int d),("lines",.list (Ls.map qao)),("stands_for",.list (ss.map .int))]
def bNm:List Str:=["unknowns","bottom","lines","stands_for"]
def at2 (Ls:List (List Int)) (k j:Nat):Int:=(((Ls[k]?).getD [])[j]?).getD 0
structure Bd (m w:Nat) (Ls:List (List Int)) (ss:List Int):Prop where
 l:Ls.length=m
 s:ss.length=m
 w : ∀ r ∈ Ls,r.length=w
 z : ∀ r ∈ Ls,∀ x ∈ r,intBits x<=2000
def Bd.row {m w:Nat}{Ls:List (List Int)}{ss:List Int} (h:Bd m w Ls ss) {k:Int} (h0:0<=k) (h1:k<m) : ∃ r,Ls[k.toNat]?=some r/\atI (Ls.map qao) k=some (qao r)/\r.length=w:=by
 have hl:=h.l;have e:Ls[k.toNat]?=some (Ls[k.toNat]'(by omega)):=Qc _;exact ⟨_,e,qmf h0 (by rw [Qa,e];rfl),h.w _ (Qg e)⟩
def Bd.at {m w:Nat}{Ls:List (List Int)}{ss:List Int} (h:Bd m w Ls ss) {k j:Nat}{r:List Int} (hr:Ls[k]?=some r) (hj:j<w):r[j]?=some (at2 Ls k j)/\intBits (at2 Ls k j)<=2000:=by
 have hl:=h.w r (Qg hr);have e:r[j]?=some (r[j]'(by omega)):=Qc _;have e2:at2 Ls k j=r[j]'(by omega):=by unfold at2;rw [hr];show (r[j]?).getD 0=_;rw [e];rfl
 rw [e2];exact ⟨e,h.z r (Qg hr) _ (Zi _)⟩
def zahh {l:Nat}{j:Int} (h0:0<=j) (h:j<l):ixN l j=some j.toNat:=by
 unfold ixN;rw [if_pos h0,if_pos h]
def atI_last {α:Type}{l:List α}{x:α} (h:l[l.length-1]?=some x):atI l (-1)=some x:=by
 have h0:0<l.length:=by
  rcases Va l.length with e|e
  ·rw [Q8 (by omega)] at h;cases h
  ·exact e
 unfold atI ixN;rw [if_neg (by decide),if_pos (by omega)];show l[(-1+(l.length:Int)).toNat]?=some x;rw [show (-1+(l.length:Int)).toNat=l.length-1 by omega];exact h
def qib (Ls:List (List Int)) (ss:List Int) (w k c p:Nat):Bool :=
 decide (at2 Ls k (w-1)*at2 Ls c p<at2 Ls c (w-1)*at2 Ls k p)||(decide (at2 Ls k (w-1)*at2 Ls c p=at2 Ls c (w-1)*at2 Ls k p)&&decide ((ss[k]?).getD 0<(ss[c]?).getD 0))
def Tg (Ls:List (List Int)) (ss:List Int) (w p i r:Nat):Prop:=0<at2 Ls r p /\ ∀ k,k<i->0<at2 Ls k p ->
 at2 Ls r (w-1)*at2 Ls k p<=at2 Ls k (w-1)*at2 Ls r p/\(at2 Ls r (w-1)*at2 Ls k p=at2 Ls k (w-1)*at2 Ls r p->(ss[r]?).getD 0<=(ss[k]?).getD 0)
section
variable {Ls:List (List Int)}{ss:List Int}{w p i r:Nat}
def Tg.skip (h:Tg Ls ss w p i r) (hn : ¬ 0<at2 Ls i p):Tg Ls ss w p (i+1) r:=⟨h.1,fun k hk hp=>by
 by_cases e:k=i
 ·subst e;exact (hn hp).elim
 ·exact h.2 k (by omega) hp⟩
def Tg.stay (h:Tg Ls ss w p i r) (ht:qib Ls ss w i r p=false):Tg Ls ss w p (i+1) r:=⟨h.1,fun k hk hp=>by
 by_cases e:k=i
 ·subst e;unfold qib at ht;rw [Qfv,Bool.and_eq_false_iff,decide_eq_false_iff_not,decide_eq_false_iff_not,decide_eq_false_iff_not] at ht;refine ⟨by omega,fun e=>?_⟩;rcases ht.2 with z|z
  ·exact (z e.symm).elim
  ·omega
 ·exact h.2 k (by omega) hp⟩
def Tg.first (hn : ∀ k,k<i -> ¬ 0<at2 Ls k p) (hp:0<at2 Ls i p):Tg Ls ss w p (i+1) i:=⟨hp,fun k hk hp'=>by
 by_cases e:k=i
 ·subst e;exact ⟨Vb _,fun _=>Vb _⟩
 ·exact (hn k (by omega) hp').elim⟩
def Tg.take (h:Tg Ls ss w p i r) (hp:0<at2 Ls i p) (ht:qib Ls ss w i r p=true):Tg Ls ss w p (i+1) i:=⟨hp,fun k hk hk'=>by
 by_cases e:k=i
 ·subst e;exact ⟨Vb _,fun _=>Vb _⟩
 ·obtain ⟨a,b⟩:=h.2 k (by omega) hk';have hr:=h.1;unfold qib at ht;rw [Qja,Jy,decide_eq_true_eq,decide_eq_true_eq,decide_eq_true_eq] at ht;generalize at2 Ls k p=ak at *;generalize at2 Ls i p=ai at *;generalize at2 Ls r p=ar at *;generalize at2 Ls k (w-1)=sk at *;generalize at2 Ls i (w-1)=si at *;generalize at2 Ls r (w-1)=sr at *;have c1:si*ar<=sr*ai:=by omega
  have d1:(si*ar)*ak<=(sr*ai)*ak:=Vl c1 (by omega);have d2:(sr*ak)*ai<=(sk*ar)*ai:=Vl a (by omega);have e1:(sr*ai)*ak=(sr*ak)*ai:=by grind
  have e2:(si*ar)*ak=ar*(si*ak):=by grind
  have e3:(sk*ar)*ai=ar*(sk*ai):=by grind
  refine ⟨Qal (a:=ar) (by omega) hr,fun e=>?_⟩;rw [e] at e2;have g1:(si*ar)*ak=(sr*ai)*ak:=by omega
  have g2:(sr*ak)*ai=(sk*ar)*ai:=by omega
  have g1:=Qag (by omega) g1;have g2:=Qag (by omega) g2;have:=b g2;omega⟩
end
def sgn (i:Nat):Int:=if i%2=0 then 1 else -1
def zaer (i:Nat):sgn (i+1) = - sgn i:=by
 unfold sgn;split <;> split <;> omega
def qj:Nat->(Nat->Int)->Int
 | 0,_=>0
 | n+1,f=>qj n f+f n
def qh {f g:Nat->Int} : ∀ {n:Nat},(∀ i,i<n->f i=g i)->qj n f=qj n g
 | 0,_=>rfl
 | n+1,h=>by
  show qj n f+f n=qj n g+g n;rw [qh fun i hi=>h i (by omega),h n (by omega)]
def qai {f:Nat->Int}{n:Nat} (h : ∀ i,i<n->f i=0):qj n f=0:=by
 induction n with
 | zero=>rfl
 | succ n ih =>
  show qj n f+f n=0;rw [ih fun i hi=>h i (by omega),h n (by omega)];rfl
def qfo (k l:Int) (f g:Nat->Int) : ∀ n:Nat,qj n (fun i=>k*f i+l*g i)=k*qj n f+l*qj n g
 | 0=>by show (0:Int)=k*0+l*0;omega
 | n+1=>by
  show qj n (fun i=>k*f i+l*g i)+(k*f n+l*g n)=k*(qj n f+f n)+l*(qj n g+g n);rw [qfo k l f g n];grind
def qp (k:Int) (f:Nat->Int) (n:Nat):qj n (fun i=>k*f i)=k*qj n f:=by
 have:=qfo k 0 f (fun _=>0) n;simpa using this
def qco (f g:Nat->Int) (n:Nat):qj n (fun i=>f i+g i)=qj n f+qj n g:=by
 have:=qfo 1 1 f g n;simpa using this
def qT {f:Nat->Int}{n r:Nat} (hr:r<n) (h : ∀ i,i<n->i≠r->f i=0):qj n f=f r:=by
 induction n with
 | zero=>omega
 | succ n ih =>
  show qj n f+f n=f r;by_cases e:r=n
  ·subst e;rw [qai fun i hi=>h i (by omega) (by omega)];omega
  ·rw [ih (by omega) fun i hi=>h i (by omega),h n (by omega) (by omega)];omega
def zaex {f:Nat->Int}{n r s:Nat} (hr:r<n) (hs:s<n) (hrs:r≠s) (h : ∀ i,i<n->i≠r->i≠s->f i=0):qj n f=f r+f s:=by
 have e:qj n f=qj n (fun i=>(if i=r then f r else 0)+(if i=s then f s else 0)):=qh fun i hi=>by
  by_cases e1:i=r
  ·subst e1;rw [if_pos rfl,if_neg hrs];omega
  ·by_cases e2:i=s
   ·subst e2;rw [if_neg e1,if_pos rfl];omega
   ·rw [if_neg e1,if_neg e2,h i hi e1 e2];rfl
 rw [e,qco,qT hr fun i _ z=>if_neg z,qT hs fun i _ z=>if_neg z,if_pos rfl,if_pos rfl]
def qwk {f:Nat->Nat->Int} : ∀ n:Nat,(∀ i j,i<=j->j<n->f (j+1) i = - f i j)->qj (n+1) (fun i=>qj n (f i))=0
 | 0,_=>rfl
 | n+1,h=>by
  have ih:=qwk n fun i j hi hj=>h i j hi (by omega);have e:qj (n+1) (fun i=>qj (n+1) (f i))=qj (n+1) (fun i=>qj n (f i))+qj (n+1) (fun i=>f i n):=by
   rw [<- qco];rfl
  have e2:qj (n+1) (f (n+1)) = - qj (n+1) (fun i=>f i n):=by
   rw [qh (g:=fun i => -1*f i n) fun i hi=>by rw [h i n (by omega) (by omega)];omega,qp];omega
  show qj (n+1) (fun i=>qj (n+1) (f i))+qj (n+1) (f (n+1))=0;rw [e,e2,ih];omega
def skip (i x:Nat):Nat:=if x<i then x else x+1
def quv {i x m:Nat} (h:x<m):skip i x<m+1:=by unfold skip;split <;> omega
def zacp {i j x:Nat} (h:i<=j):skip (j+1) (skip i x)=skip i (skip j x):=by
 unfold skip;split <;> split <;> split <;> (try split) <;> omega
def det:Nat->(Nat->Nat->Int)->Int
 | 0,_=>1
 | m+1,a=>qj (m+1) fun i=>sgn i*a i 0*det m (fun x y=>a (skip i x) (y+1))
def qfe : ∀ {m:Nat}{a b:Nat->Nat->Int},(∀ x y,x<m->y<m->a x y=b x y)->det m a=det m b
 | 0,_,_,_=>rfl
 | m+1,a,b,h=>qh fun i hi=>by
  rw [h i 0 hi (by omega),qfe fun x y hx hy=>h (skip i x) (y+1) (quv hx) (by omega)]
def qY (a:Nat->Nat->Int) (y:Nat) (v:Nat->Int):Nat->Nat->Int:=fun x z=>if z=y then v x else a x z
def qab {a:Nat->Nat->Int}{y:Nat}{v:Nat->Int}{x:Nat}:qY a y v x y=v x:=if_pos rfl
def qat {a:Nat->Nat->Int}{y z:Nat}{v:Nat->Int}{x:Nat} (h:z≠y):qY a y v x z=a x z:=if_neg h
def qgj (k l:Int) (u v:Nat->Int) : ∀ {m:Nat} (a:Nat->Nat->Int) {y:Nat},y<m -> ∀ (u v:Nat->Int),
 det m (qY a y fun x=>k*u x+l*v x)=k*det m (qY a y u)+l*det m (qY a y v)
  | m+1,a,0,_,u,v=>by
   unfold det;rw [<- qfo];refine qh fun i _=>?_;have e : ∀ w,(fun x y=>qY a 0 w (skip i x) (y+1))=fun x y=>a (skip i x) (y+1):=fun w=>by
    funext x y;exact qat (by omega)
   rw [e,e,e,qab,qab,qab];grind
  | m+1,a,y+1,hy,u,v=>by
   unfold det;rw [<- qfo];refine qh fun i _=>?_;have e : ∀ w:Nat->Int,(fun x z=>qY a (y+1) w (skip i x) (z+1))=qY (fun x z=>a (skip i x) (z+1)) y fun x=>w (skip i x):=fun w=>by
    funext x z
    unfold qY;by_cases h:z=y
    ·subst h;rw [if_pos rfl,if_pos rfl]
    ·rw [if_neg (by omega),if_neg h]
   rw [e,e,e,qat (by omega),qat (by omega),qat (by omega)];rw [qgj k l u v (fun x z=>a (skip i x) (z+1)) (show y<m by omega) (fun x=>u (skip i x)) (fun x=>v (skip i x))];grind
def qub : ∀ {m:Nat}{a:Nat->Nat->Int}{y:Nat},y+1<m->(∀ x,x<m->a x y=a x (y+1))->det m a=0
 | m+2,a,0,_,h=>by
  have e:det (m+2) a=qj (m+2) (fun i=>qj (m+1) (fun j=>sgn i*a i 0*(sgn j*a (skip i j) 1*det m (fun x y=>a (skip i (skip j x)) (y+2))))):=by
   show qj (m+2) _=_;refine qh fun i _=>?_;rw [qp];rfl
  rw [e];refine qwk (m+1) fun i j hi hj=>?_;have s1:skip (j+1) i=i:=by unfold skip;rw [if_pos (by omega)]
  have s2:skip i j=j+1:=by unfold skip;rw [if_neg (by omega)]
  rw [s1,s2,zaer,<- h i (by omega),<- h (j+1) (by omega)];have e3:(fun x y=>a (skip (j+1) (skip i x)) (y+2))=fun x y=>a (skip i (skip j x)) (y+2):=by
   funext x y;rw [zacp hi]
  rw [e3];grind
 | m+1,a,y+1,hy,h=>by
  show qj (m+1) _=0;refine qai fun i _=>?_;rw [qub (m:=m) (a:=fun x z=>a (skip i x) (z+1)) (y:=y) (by omega) fun x hx=>h (skip i x) (quv hx)];omega
def qfi {a:Nat->Nat->Int}{y z:Nat}{u v:Nat->Int} (h:y≠z):qY (qY a y u) z v=qY (qY a z v) y u:=by
 funext x t
 unfold qY;by_cases h1:t=z
 ·by_cases h2:t=y
  ·omega
  ·simp [h1,Z1 h]
 ·simp [h1]
def qed {a:Nat->Nat->Int}{y:Nat}:qY a y (fun x=>a x y)=a:=by
 funext x t
 unfold qY;by_cases h:t=y
 ·subst h;rw [if_pos rfl]
 ·rw [if_neg h]
def qzu {m:Nat}{a:Nat->Nat->Int}{y z:Nat} (hy:y<m) (hz:z<m) (hyz:y≠z) (h0 : ∀ w:Nat->Int,det m (qY (qY a y w) z w)=0) (u v:Nat->Int) :
 det m (qY (qY a y u) z v) = - det m (qY (qY a y v) z u):=by
  have e:=h0 fun x=>1*u x+1*v x;rw [qgj 1 1 u v _ hz] at e;rw [qfi hyz,qfi hyz,qgj 1 1 u v _ hy,qgj 1 1 u v _ hy,<- qfi hyz,<- qfi hyz,<- qfi hyz,<- qfi hyz,h0 u,h0 v] at e;omega
def qui : ∀ (d:Nat) {m:Nat}{a:Nat->Nat->Int}{y:Nat},y+d+1<m->(∀ x,x<m->a x y=a x (y+d+1))->det m a=0
 | 0,m,a,y,hm,h=>qub hm h
 | d+1,m,a,y,hm,h=>by
  have h0 : ∀ w:Nat->Int,det m (qY (qY a (y+d+1) w) (y+d+2) w)=0:=fun w=>qub (y:=y+d+1) (by omega) fun x _=>by
   rw [qat (by omega),qab,qab]
  have e:=qzu (by omega) (by omega) (by omega) h0 (fun x=>a x (y+d+1)) (fun x=>a x (y+d+2));rw [qed,show qY a (y+d+2) (fun x=>a x (y+d+2))=a from qed] at e;rw [e,qui d (y:=y) (by omega) fun x hx=>?_]
  ·rfl
  ·rw [qat (by omega),qat (by omega),qat (by omega),qab];exact h x hx
def qiu {m:Nat}{a:Nat->Nat->Int}{y z:Nat} (hy:y<m) (hz:z<m) (hyz:y≠z) (h : ∀ x,x<m->a x y=a x z):det m a=0:=by
 rcases Qgy hyz with g|g
 ·obtain ⟨d,rfl⟩ : ∃ d,z=y+d+1:=⟨z-y-1,by omega⟩
  exact qui d hz h
 ·obtain ⟨d,rfl⟩ : ∃ d,y=z+d+1:=⟨y-z-1,by omega⟩
  exact qui d hy fun x hx=>(h x hx).symm
def zafb {m:Nat}{a:Nat->Nat->Int}{y z:Nat} (hy:y<m) (hz:z<m) (hyz:y≠z) (u v:Nat->Int) :
 det m (qY (qY a y u) z v) = - det m (qY (qY a y v) z u) :=
  qzu hy hz hyz (fun w=>qiu hy hz hyz fun x _=>by rw [qat hyz,qab,qab]) u v
def quh : ∀ m:Nat,det m (fun x y=>if x=y then 1 else 0)=1
 | 0=>rfl
 | m+1=>by
  show qj (m+1) _=1;rw [qT (r:=0) (by omega) fun i _ hi=>by show sgn i*(if i=0 then 1 else 0)*_=0;rw [if_neg hi,Qbb,V9]];have e:(fun x y=>if skip 0 x=y+1 then (1:Int) else 0)=fun x y=>if x=y then 1 else 0:=by
   funext x y
   have:skip 0 x=x+1:=by unfold skip;rw [if_neg (by omega)]
   rw [this];simp
  rw [e,quh m];rfl
def qmh {m:Nat} (a:Nat->Nat->Int) {y:Nat} (hy:y<m) (c:Nat->Int) (w:Nat->Nat->Int) : ∀ n:Nat,
 det m (qY a y fun x=>qj n fun i=>c i*w i x)=qj n fun i=>c i*det m (qY a y (w i))
  | 0=>by
   have e:=qgj 0 0 (fun _=>0) (fun _=>0) a hy (fun _=>0) (fun _=>0);simp at e;exact e
  | n+1=>by
   have e:(fun x=>qj (n+1) fun i=>c i*w i x)=fun x=>1*(qj n fun i=>c i*w i x)+c n*w n x:=by
    funext x;show (qj n fun i=>c i*w i x)+c n*w n x=_;omega
   rw [e,qgj 1 (c n) (w n) (w n) a hy,qmh a hy c w n];show _=(qj n fun i=>c i*det m (qY a y (w i)))+c n*det m (qY a y (w n));omega
structure InPre (n:Nat) (R:List (List Int)) (b:List Int):Prop where
 l:b.length=R.length
 w : ∀ r ∈ R,r.length=n
 hn:n<=20
 hm:R.length<=24
structure SvPre (n:Nat) (R:List (List Int)) (b:List Int):Prop where
 i:InPre n R b
 n1:1<=n
 m1:1<=R.length
 z : ∀ r ∈ R,∀ x ∈ r,x.natAbs<=20000000
 zb : ∀ x ∈ b,x.natAbs<=20000000
def FitV (n:Nat) (R:List (List Int)) (b:List Int) (vs:List (Int×Int)):Prop:=vs.length=n /\ ∃ d:Int,0<d/\intBits d<=2000/\(∀ x ∈ vs,Shr x.1 x.2/\0<=x.1/\x.2∣d/\intBits x.1<=2000) /\
 ∀ k,k<R.length->d*(b[k]?).getD 0=qj n fun u=>at2 R k u*(((vs[u]?).getD (0,1)).1*(d/((vs[u]?).getD (0,1)).2))
def zaik (n:Nat) (R:List (List Int)) (b:List Int) (ws:List Int):Prop:=ws.length=R.length/\(∀ j,j<n->(qj R.length fun l=>at2 R l j*(ws[l]?).getD 0)<=0)/\0<qj R.length fun l=>(b[l]?).getD 0*(ws[l]?).getD 0
def qxv {a:Nat->Nat->Int}{y:Nat}{u v:Nat->Int}:qY (qY a y u) y v=qY a y v:=by
 funext x t
 unfold qY;by_cases h:t=y
 ·rw [if_pos h,if_pos h]
 ·rw [if_neg h,if_neg h,if_neg h]
def qea {m:Nat}{a:Nat->Nat->Int}{y:Nat}{u v:Nat->Int} (h : ∀ x,x<m->u x=v x):det m (qY a y u)=det m (qY a y v) :=
 qfe fun x z hx _=>by
  unfold qY;by_cases e:z=y
  ·rw [if_pos e,if_pos e,h x hx]
  ·rw [if_neg e,if_neg e]
structure Brd (m:Nat) (col:Nat->Nat->Int) (B:Nat->Nat->Int) (L:Nat->Nat->Int) (d:Int):Prop where
 pos:0<d
 hd:d=det m B
 hL : ∀ k,k<m -> ∀ j,L k j=det m (qY B k (col j))
 hI : ∀ j x,x<m->d*col j x=qj m fun k=>L k j*B x k
def zace (m:Nat) (col:Nat->Nat->Int):Brd m col (fun x y=>if x=y then 1 else 0) (fun k j=>col j k) 1 where
 pos:=by omega
 hd:=(quh m).symm
 hL:=fun k hk j=>by
  have e:det m (qY (fun x y=>if x=y then 1 else 0) k (col j))=det m (qY (fun x y=>if x=y then 1 else 0) k fun x=>qj m fun i=>col j i*(if x=i then 1 else 0)) :=
   qea fun x hx=>by
    rw [qT hx fun i _ hi=>by rw [if_neg (Z1 hi)];omega,if_pos rfl];omega
  rw [e,qmh _ hk (fun i=>col j i) (fun i x=>if x=i then 1 else 0)];rw [qT hk fun i hi hik=>?_]
  ·rw [show qY (fun x y=>if x=y then (1:Int) else 0) k (fun x=>if x=k then 1 else 0)=fun x y=>if x=y then 1 else 0 from qed (a:=fun x y=>if x=y then (1:Int) else 0),quh];omega
  ·rw [qiu hk hi (Z1 hik) fun x _=>by rw [qab,qat hik]];omega
 hI:=fun j x hx=>by
  show 1*col j x=qj m fun k=>col j k*(if x=k then 1 else 0);rw [qT hx fun i _ hi=>by rw [if_neg (Z1 hi)];omega,if_pos rfl];omega
def piv (L:Nat->Nat->Int) (d:Int) (r c:Nat):Nat->Nat->Int:=fun k j=>if k=r then L r j else (L k j*L r c-L k c*L r j)/d
def Brd.exact {m:Nat}{col B L:Nat->Nat->Int}{d:Int} (h:Brd m col B L d) {r c:Nat} (hr:r<m) {k j:Nat} (hk:k<m) (hkr:k≠r) :
 d*det m (qY (qY B r (col c)) k (col j))=L k j*L r c-L k c*L r j:=by
  have e1:d*det m (qY (qY B r (col c)) k (col j))=det m (qY (qY B r (col c)) k fun x=>d*col j x):=by
   have:=qgj d 0 (col j) (col j) (qY B r (col c)) hk (col j) (col j);simp at this;exact this.symm
  rw [e1,qea (v:=fun x=>qj m fun i=>L i j*B x i) fun x hx=>h.hI j x hx,qmh _ hk (fun i=>L i j) (fun i x=>B x i)];rw [zaex hk hr hkr fun i hi hik hir=>?_]
  ·have t1:det m (qY (qY B r (col c)) k fun x=>B x k)=L r c:=by
    rw [h.hL r hr c]
    congr 1
    have:(fun x=>B x k)=fun x=>qY B r (col c) x k:=by funext x;exact (qat hkr).symm
    rw [this,qed]
   have t2:det m (qY (qY B r (col c)) k fun x=>B x r) = - L k c:=by
    rw [zafb hr hk (Z1 hkr),qed,<- h.hL k hk c]
   rw [t1,t2];grind
  ·rw [qiu hk hi (Z1 hik) fun x _=>by rw [qab,qat hik,qat hir]];omega
def Brd.next {m:Nat}{col B L:Nat->Nat->Int}{d:Int} (h:Brd m col B L d) {r c:Nat} (hr:r<m) (hp:0<L r c) :
 Brd m col (qY B r (col c)) (piv L d r c) (L r c) /\ ∀ k,k<m->k≠r -> ∀ j,d*piv L d r c k j=L k j*L r c-L k c*L r j:=by
  have hd0:d≠0:=by have:=h.pos;omega
  have ex : ∀ k,k<m->k≠r -> ∀ j,piv L d r c k j=det m (qY (qY B r (col c)) k (col j)):=fun k hk hkr j=>by
   unfold piv;rw [if_neg hkr,<- h.exact hr hk hkr,Jl _ hd0]
  have ex2 : ∀ k,k<m->k≠r -> ∀ j,d*piv L d r c k j=L k j*L r c-L k c*L r j:=fun k hk hkr j=>by
   rw [ex k hk hkr j,h.exact hr hk hkr]
  refine ⟨⟨hp,h.hL r hr c,fun k hk j=>?_,fun j x hx=>?_⟩,ex2⟩
  ·by_cases e:k=r
   ·subst e;rw [qxv,<- h.hL k hk j];unfold piv;rw [if_pos rfl]
   ·exact ex k hk e j
  ·refine Yj hd0 ?_;rw [<- qp];have t : ∀ k,k<m->d*(piv L d r c k j*qY B r (col c) x k)=(L r c*(L k j*B x k)+(- L r j)*(L k c*B x k))+(if k=r then L r j*(d*col c x) else 0):=fun k hk=>by
    by_cases e:k=r
    ·subst e;rw [qab,if_pos rfl];unfold piv;rw [if_pos rfl];grind
    ·rw [qat e,if_neg e,<- Jt,ex2 k hk e j];grind
   rw [qh t,qco,qfo,<- h.hI j x hx,<- h.hI c x hx,qT hr fun i _ hi=>if_neg hi,if_pos rfl];grind
def Brd.basic {m:Nat}{col B L:Nat->Nat->Int}{d:Int} (h:Brd m col B L d) {i j:Nat} (hi:i<m) (e : ∀ x,x<m->B x i=col j x) {k:Nat} (hk:k<m) :
 L k j=if k=i then d else 0:=by
  rw [h.hL k hk j,qea (v:=fun x=>B x i) fun x hx=>(e x hx).symm];by_cases q:k=i
  ·subst q;rw [if_pos rfl,qed,<- h.hd]
  ·rw [if_neg q];exact qiu hk hi q fun x _=>by rw [qab,qat (Z1 q)]
def Brd.comb {m:Nat}{col B L:Nat->Nat->Int}{d:Int} (h:Brd m col B L d) {j n:Nat} (f:Nat->Int) (at':Nat->Nat) (e : ∀ x,x<m->col j x=qj n fun l=>f l*col (at' l) x) {k:Nat} (hk:k<m) :
 L k j=qj n fun l=>f l*L k (at' l):=by
  rw [h.hL k hk j,qea e,qmh _ hk f (fun l=>col (at' l))];exact qh fun l _=>by rw [h.hL k hk]
def qji (f:Nat->Nat->Int) (n:Nat) : ∀ m:Nat,qj m (fun i=>qj n (f i))=qj n (fun k=>qj m fun i=>f i k)
 | 0=>(qai fun _ _=>rfl).symm
 | m+1=>by
  show qj m (fun i=>qj n (f i))+qj n (f m)=qj n (fun k=>(qj m fun i=>f i k)+f m k);rw [qji f n m,qco]
def qxf {f:Nat->Int} : ∀ {n:Nat},qj n f<0 -> ∃ k,k<n/\f k<0
 | 0,h=>absurd h (by show ¬ (0:Int)<0;omega)
 | n+1,h=>by
  have h':qj n f+f n<0:=h;by_cases q:f n<0
  ·exact ⟨n,by omega,q⟩
  ·obtain ⟨k,hk,z⟩:=qxf (f:=f) (n:=n) (by omega);exact ⟨k,by omega,z⟩
def qlx {f:Nat->Int} : ∀ {n:Nat},0<qj n f -> ∃ k,k<n/\0<f k
 | 0,h=>absurd h (by show ¬ (0:Int)<0;omega)
 | n+1,h=>by
  have h':0<qj n f+f n:=h;by_cases q:0<f n
  ·exact ⟨n,by omega,q⟩
  ·obtain ⟨k,hk,z⟩:=qlx (f:=f) (n:=n) (by omega);exact ⟨k,by omega,z⟩
def qcr {f:Nat->Int} : ∀ {n:Nat},(∀ k,k<n->0<=f k)->0<=qj n f
 | 0,_=>by show (0:Int)<=0;omega
 | n+1,h=>by
  have a:=qcr (f:=f) (n:=n) fun k hk=>h k (by omega);have b:=h n (by omega);show 0<=qj n f+f n;omega
structure Sta where
 st:Nat->Int
 L:Nat->Nat->Int
 d:Int
def Bas (col:Nat->Nat->Int) (st:Nat->Int):Nat->Nat->Int:=fun x k=>if st k<0 then (if x=k then 1 else 0) else col (st k).toNat x
structure Good (m n:Nat) (col:Nat->Nat->Int) (b:Sta):Prop where
 brd:Brd m col (Bas col b.st) b.L b.d
 sum : ∀ k,k<m->0<=b.L k (n+m)
 top : ∀ k,k<m->b.st k<n
def lack (m:Nat) (b:Sta) (j:Nat):Int:=qj m fun k=>if b.st k<0 then b.L k j else 0
structure Stp (m n:Nat) (b:Sta) (c r:Nat) (b':Sta):Prop where
 c1:c<n
 c2:0<lack m b c
 c3 : ∀ j,j<c->lack m b j<=0
 r1:r<m
 r2:0<b.L r c
 r3 : ∀ k,k<m->0<b.L k c->b.L r (n+m)*b.L k c<=b.L k (n+m)*b.L r c
 r4 : ∀ k,k<m->0<b.L k c->b.L r (n+m)*b.L k c=b.L k (n+m)*b.L r c->b.st r<=b.st k
 st:b'.st=fun k=>if k=r then (c:Int) else b.st k
 L:b'.L=piv b.L b.d r c
 d:b'.d=b.L r c
def zafs {col:Nat->Nat->Int}{st:Nat->Int}{r c:Nat}:Bas col (fun k=>if k=r then (c:Int) else st k)=qY (Bas col st) r (col c):=by
 funext x k
 have e1 : ∀ v:Int,(fun k=>if k=r then (c:Int) else st k) k=v->Bas col (fun k=>if k=r then (c:Int) else st k) x k=if v<0 then (if x=k then 1 else 0) else col v.toNat x:=fun v hv=>by
  unfold Bas;rw [hv]
 by_cases e:k=r
 ·rw [e1 c (if_pos e),if_neg (by omega),e,qab];rfl
 ·rw [e1 (st k) (if_neg e),qat e];rfl
def Good.basic {m n:Nat}{col:Nat->Nat->Int}{b:Sta} (h:Good m n col b) {i j:Nat} (hi:i<m) (e:b.st i=(j:Int)) {k:Nat} (hk:k<m):b.L k j=if k=i then b.d else 0 :=
 h.brd.basic hi (fun x _=>by unfold Bas;rw [e,if_neg (by omega)];rfl) hk
def Good.lack0 {m n:Nat}{col:Nat->Nat->Int}{b:Sta} (h:Good m n col b) {i j:Nat} (hi:i<m) (e:b.st i=(j:Int)):lack m b j=0 :=
 qai fun k hk=>by
  by_cases q:b.st k<0
  ·rw [if_pos q,h.basic hi e hk,if_neg (fun z=>by subst z;omega)]
  ·rw [if_neg q]
def Good.next {m n:Nat}{col:Nat->Nat->Int}{b b':Sta}{c r:Nat} (h:Good m n col b) (s:Stp m n b c r b') :
 Good m n col b' /\ ∀ k,k<m->k≠r -> ∀ j,b.d*b'.L k j=b.L k j*b.L r c-b.L k c*b.L r j:=by
  obtain ⟨h1,h2⟩:=h.brd.next s.r1 s.r2;have e:=zafs (col:=col) (st:=b.st) (r:=r) (c:=c);rw [<- s.L] at h2;refine ⟨⟨?_,fun k hk=>?_,fun k hk=>?_⟩,h2⟩
  ·rw [s.st,e,s.L,s.d];exact h1
  ·by_cases q:k=r
   ·subst q;rw [s.L];unfold piv;rw [if_pos rfl];exact h.sum k hk
   ·have z:=h2 k hk q (n+m);have dp:=h.brd.pos;have s0:=h.sum k hk;have s1:=h.sum r s.r1;have p0:=s.r2;have:0<=b.d*b'.L k (n+m):=by
     rw [z];by_cases g:0<b.L k c
     ·have:=s.r3 k hk g;have e2:b.L k c*b.L r (n+m)=b.L r (n+m)*b.L k c:=Z9 ..;omega
     ·have a1:0<=b.L k (n+m)*b.L r c:=Yd s0 (by omega);have a2:b.L k c*b.L r (n+m)<=0:=Int.mul_nonpos_of_nonpos_of_nonneg (by omega) s1;omega
    exact Int.nonneg_of_mul_nonneg_right this dp
  ·rw [s.st];show (if k=r then (c:Int) else b.st k)<n;by_cases q:k=r
   ·rw [if_pos q];have:=s.c1;omega
   ·rw [if_neg q];exact h.top k hk
def zalj {m n:Nat}{col:Nat->Nat->Int}{a b:Sta} (ha:Good m n col a) (hb:Good m n col b) (same : ∀ k,k<m->(a.st k<0↔b.st k<0)) (e:Nat) :
 a.d*lack m b e=b.d*lack m a e+qj m fun k=>if a.st k<0 then 0 else a.L k e*lack m b (a.st k).toNat:=by
  have one : ∀ i,i<m->a.d*b.L i e=qj m fun k=>a.L k e*det m (qY (Bas col b.st) i fun x=>Bas col a.st x k):=fun i hi=>by
   have e1:a.d*b.L i e=det m (qY (Bas col b.st) i fun x=>a.d*col e x):=by
    rw [hb.brd.hL i hi e];have:=qgj a.d 0 (col e) (col e) (Bas col b.st) hi (col e) (col e);simp at this;exact this.symm
   rw [e1,qea (v:=fun x=>qj m fun k=>a.L k e*Bas col a.st x k) fun x hx=>ha.brd.hI e x hx,qmh _ hi (fun k=>a.L k e) (fun k x=>Bas col a.st x k)]
  have phi : ∀ i k,i<m->k<m->det m (qY (Bas col b.st) i fun x=>Bas col a.st x k)=if a.st k<0 then (if i=k then b.d else 0) else b.L i (a.st k).toNat:=fun i k hi hk=>by
   by_cases q:a.st k<0
   ·rw [if_pos q];have q2:=(same k hk).mp q;have e2:(fun x=>Bas col a.st x k)=fun x=>Bas col b.st x k:=by
     funext x;unfold Bas;rw [if_pos q,if_pos q2]
    rw [e2];by_cases g:i=k
    ·subst g;rw [if_pos rfl,qed,<- hb.brd.hd]
    ·rw [if_neg g];exact qiu hi hk g fun x _=>by rw [qab,qat (Z1 g)]
   ·rw [if_neg q,hb.brd.hL i hi];exact qea fun x _=>by unfold Bas;rw [if_neg q]
  have l1:a.d*lack m b e=qj m fun i=>qj m fun k=>if b.st i<0 then a.L k e*(if a.st k<0 then (if i=k then b.d else 0) else b.L i (a.st k).toNat) else 0:=by
   unfold lack;rw [<- qp];refine qh fun i hi=>?_;by_cases q:b.st i<0
   ·rw [if_pos q,one i hi];exact qh fun k hk=>by rw [if_pos q,phi i k hi hk]
   ·rw [if_neg q,qai fun k _=>if_neg q];omega
  rw [l1,qji];have l2 : ∀ k,k<m->(qj m fun i=>if b.st i<0 then a.L k e*(if a.st k<0 then (if i=k then b.d else 0) else b.L i (a.st k).toNat) else 0)
   = b.d*(if a.st k<0 then a.L k e else 0)+(if a.st k<0 then 0 else a.L k e*lack m b (a.st k).toNat):=fun k hk=>by
   by_cases q:a.st k<0
   ·rw [if_pos q,if_pos q,qT hk fun i hi hik=>by
     by_cases g:b.st i<0
     ·rw [if_pos g,if_pos q,if_neg hik];omega
     ·rw [if_neg g],if_pos ((same k hk).mp q),if_pos q,if_pos rfl,Z9];omega
   ·rw [if_neg q,if_neg q];unfold lack;rw [<- qp,Qbb,Vg];exact qh fun i _=>by
     by_cases g:b.st i<0
     ·rw [if_pos g,if_pos g,if_neg q]
     ·rw [if_neg g,if_neg g];omega
  rw [qh l2,qco,qp];rfl
def qty {Q:Nat->Prop}{a b:Nat} (hab:a<=b) (ha : ¬ Q a) (hb:Q b) : ∃ τ,a<=τ/\τ<b /\ ¬ Q τ/\Q (τ+1):=by
 induction b with
 | zero =>
  have:a=0:=by omega
  subst this;exact (ha hb).elim
 | succ b ih =>
  by_cases e:a=b+1
  ·subst e;exact (ha hb).elim
  ·by_cases q:Q b
   ·obtain ⟨τ,h1,h2,h3,h4⟩:=ih (by omega) q;exact ⟨τ,h1,by omega,h3,h4⟩
   ·exact ⟨b,by omega,by omega,q,hb⟩
def qwm {Q:Nat->Prop}{T a b:Nat} (hT:Q T↔Q 0) (ha:a<=T) (hb:b<=T) (h1 : ¬ Q a) (h2:Q b) : ∃ τ,τ<T /\ ¬ Q τ/\Q (τ+1):=by
 by_cases q:a<=b
 ·obtain ⟨τ,_,h,h3,h4⟩:=qty q h1 h2;exact ⟨τ,by omega,h3,h4⟩
 ·by_cases q0:Q T
  ·obtain ⟨τ,_,h,h3,h4⟩:=qty ha h1 q0;exact ⟨τ,h,h3,h4⟩
  ·have z : ¬ Q 0:=fun z=>q0 (hT.mpr z);obtain ⟨τ,_,h,h3,h4⟩:=qty (Y7 b) z h2;exact ⟨τ,by omega,h3,h4⟩
def zahm (f:Nat->Nat) : ∀ {T:Nat},0<T -> ∃ β,β<T /\ ∀ τ,τ<T->f τ<=f β
 | 1,_=>⟨0,by omega,fun τ h=>by have:τ=0:=by omega
                                subst this;exact Qs _⟩
 | T+2,_=>by
  obtain ⟨β,h1,h2⟩:=zahm f (T:=T+1) (by omega);by_cases q:f β<=f (T+1)
  ·refine ⟨T+1,by omega,fun τ h=>?_⟩;by_cases e:τ=T+1
   ·subst e;exact Qs _
   ·exact Z7 (h2 τ (by omega)) q
  ·refine ⟨β,by omega,fun τ h=>?_⟩;by_cases e:τ=T+1
   ·subst e;omega
   ·exact h2 τ (by omega)
def zaqt {m n:Nat}{col:Nat->Nat->Int}{b:Nat->Sta}{cs rs:Nat->Nat}{T:Nat} (hT:0<T) (h0:Good m n col (b 0)) (hs : ∀ τ,τ<T->Stp m n (b τ) (cs τ) (rs τ) (b (τ+1)))
 (he : ∀ k,k<m->(b T).st k=(b 0).st k):False:=by
  have G : ∀ τ,τ<=T->Good m n col (b τ):=fun τ=>by
   induction τ with
   | zero=>exact fun _=>h0
   | succ τ ih=>exact fun h=>((ih (by omega)).next (hs τ (by omega))).1
  have bs : ∀ x k,k<m->Bas col (b T).st x k=Bas col (b 0).st x k:=fun x k hk=>by unfold Bas;rw [he k hk]
  have eL : ∀ k,k<m -> ∀ j,(b T).L k j=(b 0).L k j:=fun k hk j=>by
   rw [(G T (Qs _)).brd.hL k hk,h0.brd.hL k hk];exact qfe fun x y _ hy=>by
    unfold qY;by_cases e:y=k
    ·rw [if_pos e,if_pos e]
    ·rw [if_neg e,if_neg e,bs x y hy]
  have ed:(b T).d=(b 0).d:=by
   rw [(G T (Qs _)).brd.hd,h0.brd.hd];exact qfe fun x y _ hy=>bs x y hy
  have a1 : ∀ τ,τ<T -> ∀ k,(b (τ+1)).st k<0->(b τ).st k<0:=fun τ h k z=>by
   rw [(hs τ h).st] at z;by_cases e:k=rs τ
   ·have z':(if k=rs τ then (cs τ:Int) else (b τ).st k)<0:=z;rw [if_pos e] at z';omega
   ·have z':(if k=rs τ then (cs τ:Int) else (b τ).st k)<0:=z;rw [if_neg e] at z';exact z'
  have a2 : ∀ i τ,τ+i<=T -> ∀ k,(b (τ+i)).st k<0->(b τ).st k<0:=fun i=>by
   induction i with
   | zero=>exact fun τ _ k z=>z
   | succ i ih=>exact fun τ h k z=>ih τ (by omega) k (a1 (τ+i) (by omega) k z)
  have art : ∀ τ,τ<=T -> ∀ k,k<m->((b τ).st k<0↔(b 0).st k<0):=fun τ h k hk=>by
   constructor
   ·intro z;have:=a2 τ 0 (by omega) k (by rw [Qhv];exact z);exact this
   ·intro z;rw [<- he k hk] at z;exact a2 (T-τ) τ (by omega) k (by rw [show τ+(T-τ)=T by omega];exact z)
  have rn : ∀ τ,τ<T -> ¬ (b τ).st (rs τ)<0:=fun τ h z=>by
   have z1:=(art τ (by omega) _ (hs τ h).r1).mp z;have z2:=(art (τ+1) (by omega) _ (hs τ h).r1).mpr z1;rw [(hs τ h).st] at z2;have z3:(if rs τ=rs τ then (cs τ:Int) else (b τ).st (rs τ))<0:=z2;rw [if_pos rfl] at z3;omega
  have lk : ∀ τ,τ<T -> ∀ j,(b τ).d*lack m (b (τ+1)) j=lack m (b τ) j*(b τ).L (rs τ) (cs τ)-lack m (b τ) (cs τ)*(b τ).L (rs τ) j:=fun τ h j=>by
   have nx:=((G τ (by omega)).next (hs τ h)).2;have e1:(b τ).d*lack m (b (τ+1)) j=qj m fun k=>(b τ).L (rs τ) (cs τ)*(if (b τ).st k<0 then (b τ).L k j else 0)+(- (b τ).L (rs τ) j)*(if (b τ).st k<0 then (b τ).L k (cs τ) else 0):=by
    unfold lack;rw [<- qp];refine qh fun k hk=>?_;by_cases q:(b τ).st k<0
    ·have q2:(b (τ+1)).st k<0:=(art (τ+1) (by omega) k hk).mpr ((art τ (by omega) k hk).mp q);rw [if_pos q2,if_pos q,if_pos q,nx k hk (fun z=>rn τ h (z ▸ q)) j];grind
    ·have q2 : ¬ (b (τ+1)).st k<0:=fun z=>q (a1 τ h k z);rw [if_neg q2,if_neg q,if_neg q];grind
   rw [e1,qfo];unfold lack;grind
  have dp : ∀ τ,τ<=T->0<(b τ).d:=fun τ h=>(G τ h).brd.pos;have mono : ∀ τ,τ<=T->lack m (b τ) (n+m)*(b 0).d<=lack m (b 0) (n+m)*(b τ).d/\((∃ σ,σ<τ/\0<(b σ).L (rs σ) (n+m))->lack m (b τ) (n+m)*(b 0).d<lack m (b 0) (n+m)*(b τ).d):=fun τ=>by
   induction τ with
   | zero=>exact fun _=>⟨Vb _,fun xx200=>by obtain ⟨σ,h,_⟩:=xx200;exact absurd h (by omega)⟩
   | succ τ ih =>
    intro h;obtain ⟨i1,i2⟩:=ih (by omega);have s:=hs τ (by omega);have e:=lk τ (by omega) (n+m);rw [<- s.d] at e;have d0:=dp 0 (by omega);have d1:=dp τ (by omega);have d2:=dp (τ+1) h;have r0:=(G τ (by omega)).sum (rs τ) s.r1;have w0:0<=lack m (b τ) (cs τ)*(b τ).L (rs τ) (n+m):=Yd (by have:=s.c2;omega) r0;have key:(b τ).d*(lack m (b (τ+1)) (n+m)*(b 0).d)=(lack m (b τ) (n+m)*(b 0).d)*(b (τ+1)).d-(lack m (b τ) (cs τ)*(b τ).L (rs τ) (n+m))*(b 0).d:=by
     rw [<- Jt,e];grind
    have up:(lack m (b τ) (n+m)*(b 0).d)*(b (τ+1)).d<=(lack m (b 0) (n+m)*(b τ).d)*(b (τ+1)).d:=Vl i1 (by omega);have re:(lack m (b 0) (n+m)*(b τ).d)*(b (τ+1)).d=(b τ).d*(lack m (b 0) (n+m)*(b (τ+1)).d):=by grind
    have w1:0<=(lack m (b τ) (cs τ)*(b τ).L (rs τ) (n+m))*(b 0).d:=Yd w0 (by omega);refine ⟨Qal (a:=(b τ).d) (by omega) d1,fun ⟨σ,h1,h2⟩=>Int.lt_of_mul_lt_mul_left (a:=(b τ).d) ?_ (by omega)⟩;by_cases q:σ=τ
    ·subst q;have:0<(lack m (b σ) (cs σ)*(b σ).L (rs σ) (n+m))*(b 0).d:=Yr (Yr s.c2 h2) d0;omega
    ·have:=Qdg (i2 ⟨σ,by omega,h2⟩) d2;omega
  have deg : ∀ τ,τ<T->(b τ).L (rs τ) (n+m)=0:=fun τ h=>by
   have r0:=(G τ (by omega)).sum (rs τ) (hs τ h).r1;by_cases q:0<(b τ).L (rs τ) (n+m)
   ·have z:=(mono T (Qs _)).2 ⟨τ,h,q⟩;have e1:lack m (b T) (n+m)=lack m (b 0) (n+m):=qh fun k hk=>by rw [he k hk,eL k hk]
    rw [e1,ed] at z;exact (Int.lt_irrefl _ z).elim
   ·omega
  have zr : ∀ (j:Int) τ,τ<T->(∀ k,k<m->(b τ).st k=j->(b τ).L k (n+m)=0) -> ∀ k,k<m->(b (τ+1)).st k=j->(b (τ+1)).L k (n+m)=0:=fun j τ h z k hk e=>by
   have nx:=((G τ (by omega)).next (hs τ h)).2;by_cases q:k=rs τ
   ·rw [(hs τ h).L];unfold piv;rw [if_pos q];exact deg τ h
   ·have e':(b τ).st k=j:=by
     rw [(hs τ h).st] at e;have e2:(if k=rs τ then (cs τ:Int) else (b τ).st k)=j:=e;rw [if_neg q] at e2;exact e2
    have w:=nx k hk q (n+m);rw [z k hk e',deg τ h,V9,Qbb] at w;have d1:=dp τ (by omega);rcases Int.mul_eq_zero.mp (show (b τ).d*(b (τ+1)).L k (n+m)=0 by omega) with g|g
    ·omega
    ·exact g
  have zr2 : ∀ (j:Int) i τ,τ+i<=T->(∀ k,k<m->(b τ).st k=j->(b τ).L k (n+m)=0) -> ∀ k,k<m->(b (τ+i)).st k=j->(b (τ+i)).L k (n+m)=0:=fun j i=>by
   induction i with
   | zero=>exact fun τ _ z=>z
   | succ i ih=>exact fun τ h z=>zr j (τ+i) (by omega) (ih τ (by omega) z)
  have zero : ∀ (j:Int) α β,α<=T->β<=T->(∀ k,k<m->(b β).st k≠j) -> ∀ k,k<m->(b α).st k=j->(b α).L k (n+m)=0:=fun j α β ha hb z k hk e=>by
   have z0 : ∀ k,k<m->(b β).st k=j->(b β).L k (n+m)=0:=fun k hk e=>(z k hk e).elim;have zT : ∀ k,k<m->(b T).st k=j->(b T).L k (n+m)=0:=by
    have:=zr2 j (T-β) β (by omega) z0;rw [show β+(T-β)=T by omega] at this;exact this
   have zs : ∀ k,k<m->(b 0).st k=j->(b 0).L k (n+m)=0:=fun k hk e=>by rw [<- eL k hk];exact zT k hk (by rw [he k hk];exact e)
   have:=zr2 j α 0 (by omega) zs;rw [Qhv] at this;exact this k hk e
  obtain ⟨β,hβ,hmax⟩:=zahm cs hT
  let Q:Nat->Nat->Prop:=fun j τ => ∃ k,k<m/\(b τ).st k=(j:Int)
  have QT : ∀ j,Q j T↔Q j 0:=fun j=>⟨fun xx198=>by obtain ⟨k,hk,e⟩:=xx198;exact ⟨k,hk,by rw [<- he k hk];exact e⟩,fun xx197=>by obtain ⟨k,hk,e⟩:=xx197;exact ⟨k,hk,by rw [he k hk];exact e⟩⟩
  have inn : ∀ j τ,τ<T -> ¬ Q j τ->Q j (τ+1)->cs τ=j:=fun j τ h h1 xx196=>by
   obtain ⟨k,hk,e⟩:=xx196;rw [(hs τ h).st] at e;have e2:(if k=rs τ then (cs τ:Int) else (b τ).st k)=j:=e;by_cases q:k=rs τ
   ·rw [if_pos q] at e2;omega
   ·rw [if_neg q] at e2;exact (h1 ⟨k,hk,e2⟩).elim
  have nb : ∀ τ,τ<=T -> ∀ j,lack m (b τ) j≠0 -> ¬ Q j τ:=fun τ h j z xx195=>by obtain ⟨k,hk,e⟩:=xx195;exact z ((G τ h).lack0 hk e)
  have tn : ¬ Q (cs β) β:=nb β (by omega) _ (by have:=(hs β hβ).c2;omega);have tb:Q (cs β) (β+1):=⟨rs β,(hs β hβ).r1,by rw [(hs β hβ).st];exact if_pos rfl⟩
  obtain ⟨α,hα,o1,o2⟩:=qwm (Q:=fun τ => ¬ Q (cs β) τ) (T:=T) (a:=β+1) (b:=β) (by rw [QT]) (by omega) (by omega) (fun z=>z tb) tn;have o1:Q (cs β) α:=Classical.byContradiction o1;obtain ⟨k0,hk0,ek0⟩:=o1;have er:k0=rs α:=by
   by_cases q:k0=rs α
   ·exact q
   ·refine (o2 ⟨k0,hk0,?_⟩).elim;rw [(hs α hα).st];show (if k0=rs α then (cs α:Int) else (b α).st k0)=_;rw [if_neg q];exact ek0
  subst er;have e1:cs α<=cs β:=hmax α hα;have e2:cs α≠cs β:=fun z=>nb α (by omega) (cs α) (by have:=(hs α hα).c2;omega) ⟨rs α,hk0,by rw [ek0,z]⟩;have id:=zalj (G α (by omega)) (G β (by omega)) (fun k hk=>(art α (by omega) k hk).trans (art β (by omega) k hk).symm) (cs α);have p1:0<(b β).d*lack m (b α) (cs α):=Yr (dp β (by omega)) (hs α hα).c2;have p2:(b α).d*lack m (b β) (cs α)<=0:=Qbe (by have:=dp α (by omega);omega) ((hs β hβ).c3 (cs α) (by omega));obtain ⟨k,hk,hneg⟩:=qxf (show (qj m fun k=>if (b α).st k<0 then 0 else (b α).L k (cs α)*lack m (b β) ((b α).st k).toNat)<0 by omega);by_cases q:(b α).st k<0
  ·rw [if_pos q] at hneg;omega
  ·rw [if_neg q] at hneg;obtain ⟨j,ej⟩ : ∃ j:Nat,(b α).st k=(j:Int):=⟨((b α).st k).toNat,by omega⟩
   rw [ej] at hneg;have hneg:(b α).L k (cs α)*lack m (b β) j<0:=hneg;have jl:lack m (b β) j≠0:=fun z=>by rw [z,Qbb] at hneg;omega
   have jn:=nb β (by omega) j jl;obtain ⟨τ,hτ,u1,u2⟩:=qwm (Q:=Q j) (T:=T) (a:=β) (b:=α) (QT j) (by omega) (by omega) jn ⟨k,hk,ej⟩;have jle:j<=cs β:=by rw [<- inn j τ hτ u1 u2];exact hmax τ hτ
   by_cases jt:j=cs β
   ·subst jt;have ek:k=rs α:=by
     by_cases g:k=rs α
     ·exact g
     ·have w:=(G α (by omega)).basic hk ej hk;have w2:=(G α (by omega)).basic hk0 ek0 hk;rw [if_pos rfl] at w;rw [if_neg g,w] at w2;have:=dp α (by omega);omega
    subst ek;have:=Yr (hs α hα).r2 (hs β hβ).c2;omega
   ·have c3:=(hs β hβ).c3 j (by omega);have lp:0<(b α).L k (cs α):=by
     rcases Int.lt_trichotomy 0 ((b α).L k (cs α)) with g|g|g
     ·exact g
     ·rw [<- g,V9] at hneg;omega
     ·have:=Qbd (Jq g) c3;omega
    have z1:(b α).L k (n+m)=0:=zero j α β (by omega) (by omega) (fun k' hk' e=>jn ⟨k',hk',e⟩) k hk ej;have z2:=deg α hα;have tie:=(hs α hα).r4 k hk lp (by rw [z1,z2,V9,V9]);rw [ek0,ej] at tie;omega
def pig : ∀ (N T:Nat) (f:Nat->Nat),(∀ i,i<=T->f i<N)->(∀ i j,i<j->j<=T->f i≠f j)->T<N
 | 0,T,f,h,_=>absurd (h 0 (Y7 _)) (by omega)
 | N+1,T,f,h,hd=>by
  by_cases q : ∃ i,i<=T/\f i=N
  ·obtain ⟨i0,hi0,e0⟩:=q;cases T with
   | zero=>omega
   | succ T =>
    have sl : ∀ i,i<=T->skip i0 i<=T+1:=fun i hi=>by unfold skip;split <;> omega
    have sn : ∀ i,skip i0 i≠i0:=fun i=>by unfold skip;split <;> omega
    have sm : ∀ i j,i<j->skip i0 i<skip i0 j:=fun i j hij=>by unfold skip;split <;> split <;> omega
    have:=pig N T (fun i=>f (skip i0 i)) (fun i hi=>by
     have a:=h (skip i0 i) (sl i hi);have b:f (skip i0 i)≠N:=fun z=>by
      rcases Qgy (sn i) with g|g
      ·exact hd _ _ g hi0 (by rw [z,e0])
      ·exact hd _ _ g (sl i hi) (by rw [z,e0])
     show f (skip i0 i)<N;omega) fun i j hij hj=>hd _ _ (sm i j hij) (sl j hj)
    omega
  ·have:=pig N T f (fun i hi=>by
    have a:=h i hi;have b:f i≠N:=fun z=>q ⟨i,hi,z⟩;omega) hd
   omega
def enc (B:Nat) (st:Nat->Nat):Nat->Nat
 | 0=>0
 | k+1=>enc B st k+st k*B^k
def qvc {B:Nat}{st:Nat->Nat} : ∀ {m:Nat},(∀ k,k<m->st k<B)->enc B st m<B^m
 | 0,_=>by simp [enc]
 | m+1,h=>by
  have a:=qvc (B:=B) (st:=st) (m:=m) fun k hk=>h k (by omega);have b:=h m (by omega);show enc B st m+st m*B^m<B^(m+1);rw [Nat.pow_succ,Qaz (B^m) B];have:(st m+1)*B^m<=B*B^m:=Qai _ (by omega);rw [Nat.add_mul,Qjb] at this;omega
def zaai {B:Nat}{st st':Nat->Nat} : ∀ {m:Nat},(∀ k,k<m->st k<B)->(∀ k,k<m->st' k<B)->enc B st m=enc B st' m -> ∀ k,k<m->st k=st' k
 | 0,_,_,_,k,hk=>by omega
 | m+1,h,h',e,k,hk=>by
  have a:=qvc (B:=B) (st:=st) (m:=m) fun k hk=>h k (by omega);have a':=qvc (B:=B) (st:=st') (m:=m) fun k hk=>h' k (by omega);have e:enc B st m+st m*B^m=enc B st' m+st' m*B^m:=e;have top:st m=st' m:=by
   have p:0<B^m:=by omega
   have e1:(enc B st m+st m*B^m)/B^m=st m:=by
    rw [Qaz (st m),Qfx _ _ p,Qeq a];omega
   have e2:(enc B st' m+st' m*B^m)/B^m=st' m:=by
    rw [Qaz (st' m),Qfx _ _ p,Qeq a'];omega
   rw [<- e1,<- e2,e]
  by_cases q:k=m
  ·subst q;exact top
  ·rw [top] at e;exact zaai (m:=m) (fun k hk=>h k (by omega)) (fun k hk=>h' k (by omega)) (by omega) k (by omega)
structure Run (m n:Nat) (col:Nat->Nat->Int) (T:Nat) (b:Nat->Sta) (cs rs:Nat->Nat):Prop where
 good:Good m n col (b 0)
 low : ∀ k,k<m -> -(m:Int)<=(b 0).st k
 step : ∀ τ,τ<T->Stp m n (b τ) (cs τ) (rs τ) (b (τ+1))
def Run.at {m n:Nat}{col:Nat->Nat->Int}{T:Nat}{b:Nat->Sta}{cs rs:Nat->Nat} (h:Run m n col T b cs rs) : ∀ τ,τ<=T->Good m n col (b τ) /\ ∀ k,k<m -> -(m:Int)<=(b τ).st k
 | 0,_=>⟨h.good,h.low⟩
 | τ+1,hτ=>by
  obtain ⟨g,l⟩:=h.at τ (by omega);have s:=h.step τ (by omega);refine ⟨(g.next s).1,fun k hk=>?_⟩;rw [s.st];show _<=if k=rs τ then (cs τ:Int) else (b τ).st k
  by_cases q:k=rs τ
  ·rw [if_pos q];omega
  ·rw [if_neg q];exact l k hk
def Run.short {m n:Nat}{col:Nat->Nat->Int}{T:Nat}{b:Nat->Sta}{cs rs:Nat->Nat} (h:Run m n col T b cs rs):T<(n+m)^m:=by
 refine pig ((n+m)^m) T (fun τ=>enc (n+m) (fun k=>((b τ).st k+m).toNat) m) (fun i hi=>?_) fun i j hij hj e=>?_
 ·obtain ⟨g,l⟩:=h.at i hi;exact qvc fun k hk=>by have:=g.top k hk;have:=l k hk;omega
 ·obtain ⟨g,l⟩:=h.at i (by omega);obtain ⟨g',l'⟩:=h.at j hj;have e2:=zaai (fun k hk=>by have:=g.top k hk;have:=l k hk;omega) (fun k hk=>by have:=g'.top k hk;have:=l' k hk;omega) e;refine zaqt (b:=fun τ=>b (i+τ)) (cs:=fun τ=>cs (i+τ)) (rs:=fun τ=>rs (i+τ)) (T:=j-i) (by omega) g (fun τ hτ=>h.step (i+τ) (by omega)) fun k hk=>?_;show (b (i+(j-i))).st k=(b i).st k;rw [show i+(j-i)=j by omega];have a:=e2 k hk;have:=l k hk;have:=l' k hk;have a:((b i).st k+m).toNat=((b j).st k+m).toNat:=a;omega
def Run.snoc {m n:Nat}{col:Nat->Nat->Int}{T:Nat}{b:Nat->Sta}{cs rs:Nat->Nat} (h:Run m n col T b cs rs) {c r:Nat}{b':Sta} (s:Stp m n (b T) c r b') :
 Run m n col (T+1) (fun τ=>if τ<=T then b τ else b') (fun τ=>if τ<T then cs τ else c) (fun τ=>if τ<T then rs τ else r) where
  good:=by rw [if_pos (Y7 _)];exact h.good
  low:=by rw [if_pos (Y7 _)];exact h.low
  step:=fun τ hτ=>by
   by_cases q:τ<T
   ·rw [if_pos (by omega),if_pos q,if_pos q,if_pos (by omega)];exact h.step τ q
   ·have:τ=T:=by omega
    subst this;rw [if_pos (Qs _),if_neg q,if_neg q,if_neg (by omega)];exact s
def Good.fits {m n:Nat}{col:Nat->Nat->Int}{b:Sta} (h:Good m n col b) (h0:lack m b (n+m)=0) {x:Nat} (hx:x<m) :
 b.d*col (n+m) x=qj m fun k=>if b.st k<0 then 0 else b.L k (n+m)*col (b.st k).toNat x:=by
  rw [h.brd.hI (n+m) x hx];refine qh fun k hk=>?_;by_cases q:b.st k<0
  ·rw [if_pos q];have:b.L k (n+m)=0:=by
    have s0:=h.sum k hk;by_cases g:b.L k (n+m)=0
    ·exact g
    ·exfalso;have:0<lack m b (n+m):=by
      unfold lack;have e:(qj m fun i=>if b.st i<0 then b.L i (n+m) else 0)=(qj m fun i=>if i=k then b.L k (n+m) else 0)+qj m fun i=>if i=k then 0 else if b.st i<0 then b.L i (n+m) else 0:=by
       rw [<- qco];refine qh fun i _=>?_;by_cases z:i=k
       ·subst z;rw [if_pos rfl,if_pos rfl,if_pos q];omega
       ·rw [if_neg z,if_neg z];omega
      rw [e,qT hk fun i _ z=>if_neg z,if_pos rfl];have:0<=qj m fun i=>if i=k then 0 else if b.st i<0 then b.L i (n+m) else 0:=qcr fun i hi=>by
       by_cases z:i=k
       ·rw [if_pos z];omega
       ·rw [if_neg z];by_cases y:b.st i<0
        ·rw [if_pos y];exact h.sum i hi
        ·rw [if_neg y];omega
      omega
     omega
   rw [this];omega
  ·rw [if_neg q];unfold Bas;rw [if_neg q]
def zagx {m:Nat}{b:Sta}{c:Nat} (h:0<lack m b c) : ∃ k,k<m/\0<b.L k c:=by
 obtain ⟨k,hk,z⟩:=qlx h;by_cases q:b.st k<0
 ·rw [if_pos q] at z;exact ⟨k,hk,z⟩
 ·rw [if_neg q] at z;omega
def qit {f:Nat->Int}{C:Nat} : ∀ {n:Nat},(∀ i,i<n->(f i).natAbs<=C)->(qj n f).natAbs<=n*C
 | 0,_=>by simp [qj]
 | n+1,h=>by
  have a:=qit (f:=f) (C:=C) (n:=n) fun i hi=>h i (by omega);have b:=h n (by omega);show (qj n f+f n).natAbs<=_;rw [Nat.add_mul,Qjb];have:=Int.natAbs_add_le (qj n f) (f n);omega
def fct:Nat->Nat
 | 0=>1
 | n+1=>(n+1)*fct n
def qug {M:Nat} : ∀ {m:Nat}{a:Nat->Nat->Int},(∀ x y,x<m->y<m->(a x y).natAbs<=M)->(det m a).natAbs<=fct m*M^m
 | 0,_,_=>by simp [det,fct]
 | m+1,a,h=>by
  show (qj (m+1) _).natAbs<=(m+1)*fct m*M^(m+1);have e:(m+1)*fct m*M^(m+1)=(m+1)*(M*(fct m*M^m)):=by rw [Nat.pow_succ];grind
  rw [e];refine qit fun i hi=>?_;have d:=qug (M:=M) (m:=m) (a:=fun x y=>a (skip i x) (y+1)) fun x y hx hy=>h _ _ (quv hx) (by omega);have s:(sgn i).natAbs=1:=by unfold sgn;split <;> rfl
  rw [Qdu,Qdu,s,Qjb];exact Yk (h i 0 hi (by omega)) d
def qbz (f:Nat->Int) : ∀ n:Nat,((Qm n).map f).sum=qj n f
 | 0=>rfl
 | n+1=>by rw [List.range_succ,Q6,Qdd,qbz f n];simp [qj]
def qwp {f:Nat->Int}{n:Nat} (h : ∀ k,k<n->f k<=0):qj n f<=0:=by
 rcases Qba 0 (qj n f) with z|z
 ·obtain ⟨k,hk,p⟩:=qlx z;have:=h k hk;omega
 ·exact z
def qqx {B q d:Int} (hB:0<B) (hq:0<q) (h1:B∣d) (h2:q∣d):0<B*q/(Ym B q:Int)/\B*q/(Ym B q:Int)∣d/\B∣B*q/(Ym B q:Int)/\q∣B*q/(Ym B q:Int):=by
 obtain ⟨x,rfl⟩:=Zl (Jq hB);obtain ⟨y,rfl⟩:=Zl (Jq hq);have e:(x:Int)*(y:Int)/(Ym x y:Int)=((Nat.lcm x y:Nat):Int):=by
  unfold Nat.lcm;rw [Int.gcd_natCast_natCast,Qer,Qbl]
 rw [e];have p:0<Nat.lcm x y:=Nat.lcm_pos (by omega) (by omega);refine ⟨by omega,?_,Ju.mpr (Nat.dvd_lcm_left x y),Ju.mpr (Nat.dvd_lcm_right x y)⟩;rw [Qgz] at h1 h2 ⊢;exact Nat.lcm_dvd h1 h2
def dSh (p q:Int):Qh :=.tuple [.int p,.int q]
structure ShW (p q:Int):Prop where
 s:Shr p q
 b1:intBits p<=4000
 b2:intBits q<=4000
def ShW.bot {p q r s:Int} (h:ShW p q) (k:ShW r s):q*s≠0/\intBits (q*s)<=9000:=by
 have h1:=h.s.pos;have h2:=k.s.pos;have:=Yr (show 0<q by omega) (show 0<s by omega);exact ⟨by omega,qu (Qce h.b2 k.b2) (by decide)⟩
def zaoh {t b:Int} (hb:b≠0) (h1:intBits t<=4000) (h2:intBits b<=4000):ShW (shT t b) (shB t b):=⟨(quz hb).1,qis h1,qxi h2⟩
structure CmpPre (b:Int) (R:List (List Int)) (m:Nat) (c:Int) (S:List (List Int)) (n:Nat):Prop where
 r:Tab b R m
 s:Tab c S n
 l:R.length=S.length
 w1:1<=R.length
 w2:R.length<=4
 m1:1<=m
 m2:m<=4
 n1:1<=n
 n2:n<=4
 zb:b<=20000000
 zc:c<=20000000
def qci (r:List Int) (j n:Nat):List Int:=(Qm (r.length*n)).map fun p=>if p%n=j then (r[p/n]?).getD 0 else 0
def qmj (b:Int) (i m n:Nat):List Int:=(Qm (m*n)).map fun p=>if p/n=i then b else 0
def eqL (b:Int) (R:List (List Int)) (m n:Nat):List (List Int):=(R.map fun r=>(Qm n).map fun j=>qci r j n).flatten++(Qm m).map fun i=>qmj b i m n
def qgb (S:List (List Int)) (c:Int) (m:Nat):List Int:=S.flatten++(Qm m).map fun _=>c
def qaz {α:Type}{n:Nat} : ∀ {L:List (List α)},(∀ l ∈ L,l.length=n)->L.flatten.length=L.length*n
 | [],_=>by simp
 | l::L,h=>by
  rw [Y3,Zj,qaz fun x hx=>h x (Qy _ hx),h l (by simp),Zp,Qcf];omega
def qqu {α:Type}{n:Nat} : ∀ {L:List (List α)}{s j:Nat},(∀ l ∈ L,l.length=n)->j<n->L.flatten[s*n+j]?=(L[s]?).bind fun l=>l[j]?
 | [],s,j,_,_=>by simp
 | l::L,0,j,h,hj=>by
  have e:=h l (by simp);rw [Y3,Nat.zero_mul,Qhv,Zc (by omega)];rfl
 | l::L,s+1,j,h,hj=>by
  have e:=h l (by simp);rw [Y3,Zm (by rw [e,Qcf];omega),e,show (s+1)*n+j-n=s*n+j by rw [Qcf];omega,qqu (fun x hx=>h x (Qy _ hx)) hj];rfl
def qls (f:Nat->Int) (a:Nat) : ∀ b:Nat,qj (a+b) f=qj a f+qj b fun j=>f (a+j)
 | 0=>by show qj a f=qj a f+0;omega
 | b+1=>by
  show qj (a+b) f+f (a+b)=qj a f+(qj b (fun j=>f (a+j))+f (a+b));rw [qls f a b];omega
def qgl (f:Nat->Int) (n:Nat) : ∀ m:Nat,qj (m*n) f=qj m fun i=>qj n fun j=>f (i*n+j)
 | 0=>by rw [Nat.zero_mul];rfl
 | m+1=>by
  rw [Qcf,qls,qgl f n m];rfl
def qqs {i j n:Nat} (hj:j<n):(i*n+j)/n=i/\(i*n+j)%n=j:=by
 refine ⟨?_,?_⟩
 ·rw [Qaz,Nat.mul_add_div (by omega),Qeq hj,Nat.add_zero]
 ·rw [Qaz,Nat.mul_add_mod,Nat.mod_eq_of_lt hj]
def qfm {i j m n:Nat} (hi:i<m) (hj:j<n):i*n+j<m*n:=by
 have:(i+1)*n<=m*n:=Qai n hi;rw [Qcf] at this;omega
def qmc {r:List Int}{j n i j':Nat} (hi:i<r.length) (hj:j'<n):((qci r j n)[i*n+j']?).getD 0=if j'=j then (r[i]?).getD 0 else 0:=by
 unfold qci;rw [Qa,Qn (qfm hi hj)];show (if (i*n+j')%n=j then _ else _)=_;rw [(qqs hj).1,(qqs hj).2]
def qqh {b:Int}{i m n i' j':Nat} (hi:i'<m) (hj:j'<n):((qmj b i m n)[i'*n+j']?).getD 0=if i'=i then b else 0:=by
 unfold qmj;rw [Qa,Qn (qfm hi hj)];show (if (i'*n+j')/n=i then _ else _)=_;rw [(qqs hj).1]
section
variable {b:Int}{R:List (List Int)}{m:Nat}{c:Int}{S:List (List Int)}{n:Nat}
def qct (R:List (List Int)) (n:Nat) : ∀ l ∈ R.map fun r=>(Qm n).map fun j=>qci r j n,l.length=n:=fun l hl=>by
 obtain ⟨r,_,rfl⟩:=Qr.mp hl;simp
def qjv (b:Int) (R:List (List Int)) (m n:Nat):(eqL b R m n).length=R.length*n+m:=by
 unfold eqL;rw [Zj,qaz (qct R n),Qe,Qe,Yc]
def zaca (h:CmpPre b R m c S n):(qgb S c m).length=R.length*n+m:=by
 unfold qgb;rw [Zj,qaz h.s.len,Qe,Yc,h.l]
def qlz {s j:Nat} (hs:s<R.length) (hj:j<n):(eqL b R m n)[s*n+j]?=some (qci ((R[s]?).getD []) j n):=by
 unfold eqL;rw [Zc (by rw [qaz (qct R n),Qe];exact qfm hs hj),qqu (qct R n) hj,Qa,Qc hs];show ((Qm n).map fun j=>qci R[s] j n)[j]?=_;rw [Qa,Qn hj];rfl
def qpk {i:Nat} (hi:i<m):(eqL b R m n)[R.length*n+i]?=some (qmj b i m n):=by
 unfold eqL;rw [Zm (by rw [qaz (qct R n),Qe];omega),qaz (qct R n),Qe,show R.length*n+i-R.length*n=i by omega,Qa,Qn hi];rfl
def qpa (h:CmpPre b R m c S n) {s j:Nat} (hs:s<R.length) (hj:j<n):((qgb S c m)[s*n+j]?).getD 0=at2 S s j:=by
 have hs':s<S.length:=by rw [<- h.l];exact hs
 unfold qgb at2;rw [Zc (by rw [qaz h.s.len];exact qfm hs' hj),qqu h.s.len hj,Qc hs'];rfl
def qsq (h:CmpPre b R m c S n) {i:Nat} (hi:i<m):((qgb S c m)[R.length*n+i]?).getD 0=c:=by
 unfold qgb;rw [Zm (by rw [qaz h.s.len,h.l];omega),qaz h.s.len,h.l,show S.length*n+i-S.length*n=i by omega,Qa,Qn hi];rfl
def qpp (h:CmpPre b R m c S n) {s:Nat} (hs:s<R.length):((R[s]?).getD []).length=m:=by
 rw [Qc hs];exact h.r.len _ (Zi hs)
def zaep (h:CmpPre b R m c S n) {s j:Nat} (hs:s<R.length) (hj:j<n) (X:Nat->Int):(qj (m*n) fun u=>at2 (eqL b R m n) (s*n+j) u*X u)=qj m fun i=>at2 R s i*X (i*n+j):=by
 rw [qgl];refine qh fun i hi=>?_;rw [qT hj fun j' hj' ne=>?_]
 ·show ((((eqL b R m n)[s*n+j]?).getD [])[i*n+j]?).getD 0*_=_;rw [qlz hs hj];show ((qci ((R[s]?).getD []) j n)[i*n+j]?).getD 0*_=_;rw [qmc (by rw [qpp h hs];exact hi) hj,if_pos rfl];rfl
 ·show ((((eqL b R m n)[s*n+j]?).getD [])[i*n+j']?).getD 0*_=_;rw [qlz hs hj];show ((qci ((R[s]?).getD []) j n)[i*n+j']?).getD 0*_=_;rw [qmc (by rw [qpp h hs];exact hi) hj',if_neg ne,V9]
def zaiq {i:Nat} (hi:i<m) (X:Nat->Int):(qj (m*n) fun u=>at2 (eqL b R m n) (R.length*n+i) u*X u)=b*qj n fun j=>X (i*n+j):=by
 rw [qgl,qT hi fun i' hi' ne=>?_,<- qp]
 ·refine qh fun j hj=>?_;show ((((eqL b R m n)[R.length*n+i]?).getD [])[i*n+j]?).getD 0*_=_;rw [qpk hi];show ((qmj b i m n)[i*n+j]?).getD 0*_=_;rw [qqh hi hj,if_pos rfl]
 ·refine qai fun j hj=>?_;show ((((eqL b R m n)[R.length*n+i]?).getD [])[i'*n+j]?).getD 0*_=_;rw [qpk hi];show ((qmj b i m n)[i'*n+j]?).getD 0*_=_;rw [qqh hi' hj,if_neg ne,V9]
def zadf {r:List Int}{j n:Nat}{x:Int} (h:x ∈ qci r j n):x=0\/x ∈ r:=by
 obtain ⟨p,_,rfl⟩:=Qr.mp h;split
 ·cases e:r[p/n]? with
  | none=>exact .inl rfl
  | some y=>exact .inr (Qg e)
 ·exact .inl rfl
def zajy (h:CmpPre b R m c S n):SvPre (m*n) (eqL b R m n) (qgb S c m):=by
 have hb:=h.r.pos;have hc:=h.s.pos;have mn:m*n<=4*4:=Yk h.m2 h.n2;have wn:R.length*n<=4*4:=Yk h.w2 h.n2;have m1:=h.m1;have m2:=h.m2;have mn1:1*1<=m*n:=Yk h.m1 h.n1;have zb:=h.zb;have zc:=h.zc;refine ⟨⟨by rw [zaca h,qjv],fun r hr=>?_,by omega,by rw [qjv];omega⟩,by omega,by rw [qjv];omega,fun r hr x hx=>?_,fun x hx=>?_⟩
 ·unfold eqL at hr;rcases Ze.mp hr with q|q
  ·obtain ⟨l,hl,q⟩:=Qap.mp q;obtain ⟨r0,h0,rfl⟩:=Qr.mp hl;obtain ⟨j,_,rfl⟩:=Qr.mp q;simp [qci,h.r.len r0 h0]
  ·obtain ⟨i,_,rfl⟩:=Qr.mp q;simp [qmj]
 ·unfold eqL at hr;rcases Ze.mp hr with q|q
  ·obtain ⟨l,hl,q⟩:=Qap.mp q;obtain ⟨r0,h0,rfl⟩:=Qr.mp hl;obtain ⟨j,_,rfl⟩:=Qr.mp q;rcases zadf hx with rfl|hx
   ·decide
   ·have:=h.r.le h0 hx;omega
  ·obtain ⟨i,_,rfl⟩:=Qr.mp q;obtain ⟨p,_,rfl⟩:=Qr.mp hx;split <;> omega
 ·unfold qgb at hx;rcases Ze.mp hx with q|q
  ·obtain ⟨l,hl,q⟩:=Qap.mp q;have:=h.s.le hl q;omega
  ·obtain ⟨_,_,rfl⟩:=Qr.mp q;omega
structure Dul (b:Int) (R:List (List Int)) (m:Nat) (c:Int) (S:List (List Int)) (n:Nat) (B:Int) (D:List (List Int)):Prop where
 t:Tab B D n
 l:D.length=m
 e : ∀ s j,s<R.length->j<n->c*(qj m fun i=>at2 R s i*at2 D i j)=at2 S s j*b*B
structure Dls (b:Int) (R:List (List Int)) (m:Nat) (c:Int) (S:List (List Int)) (n:Nat) (B:Int) (D:List (List Int)):Prop where
 u:Dul b R m c S n B D
 g:qcq D=1
 z:intBits B<=3000
structure Dcs (b:Int) (R:List (List Int)) (m:Nat) (c:Int) (S:List (List Int)) (n:Nat) (W:List (List Int)):Prop where
 l:W.length=R.length
 w : ∀ r ∈ W,r.length=n
 v : ∃ v:Nat->Int,(∀ i j,i<m->j<n->(qj R.length fun s=>at2 R s i*at2 W s j)+b*v i<=0)/\0<(qj R.length fun s=>qj n fun j=>at2 S s j*at2 W s j)+c*qj m v
def qG {α:Type} (l:List α) (n w:Nat):List (List α):=(Qm w).map fun k=>(l.drop (k*n)).take n
def qdn {α:Type}{l:List α}{n w k:Nat} (hk:k<w):(qG l n w)[k]?=some ((l.drop (k*n)).take n):=by
 unfold qG;rw [Qa,Qn hk];rfl
def qzt {α:Type}{l:List α}{n k j:Nat} (hj:j<n):((l.drop (k*n)).take n)[j]?=l[k*n+j]?:=by
 rw [Jh hj,Qdm]
def qtc {l:List Int}{n w k j:Nat} (hk:k<w) (hj:j<n):at2 (qG l n w) k j=(l[k*n+j]?).getD 0:=by
 unfold at2;rw [qdn hk];show (((l.drop (k*n)).take n)[j]?).getD 0=_;rw [qzt hj]
def zagl (h:CmpPre b R m c S n) {ws:List Int} (hw:zaik (m*n) (eqL b R m n) (qgb S c m) ws):Dcs b R m c S n (qG ws n R.length):=by
 obtain ⟨h1,h2,h3⟩:=hw;rw [qjv] at h1 h2 h3;have hcut : ∀ k,k<R.length->((ws.drop (k*n)).take n).length=n:=fun k hk=>by
  rw [Z3,V5,h1];have n1:=h.n1;have a:=qfm (i:=k) (j:=n-1) (m:=R.length) (n:=n) hk (by omega);omega
 refine ⟨by simp [qG],fun r hr=>?_,fun i=>(ws[R.length*n+i]?).getD 0,fun i j hi hj=>?_,?_⟩
 ·obtain ⟨k,hk,rfl⟩:=Qr.mp hr;exact hcut k (Zg.mp hk)
 ·have:=h2 (i*n+j) (qfm hi hj);rw [qls,qgl] at this;have e1:(qj R.length fun s=>qj n fun j'=>at2 (eqL b R m n) (s*n+j') (i*n+j)*(ws[s*n+j']?).getD 0)=qj R.length fun s=>at2 R s i*at2 (qG ws n R.length) s j:=qh fun s hs=>by
   rw [qT hj fun j' hj' ne=>?_]
   ·rw [qtc hs hj];show ((((eqL b R m n)[s*n+j]?).getD [])[i*n+j]?).getD 0*_=_;rw [qlz hs hj];show ((qci ((R[s]?).getD []) j n)[i*n+j]?).getD 0*_=_;rw [qmc (by rw [qpp h hs];exact hi) hj,if_pos rfl];rfl
   ·show ((((eqL b R m n)[s*n+j']?).getD [])[i*n+j]?).getD 0*_=_;rw [qlz hs hj'];show ((qci ((R[s]?).getD []) j' n)[i*n+j]?).getD 0*_=_;rw [qmc (by rw [qpp h hs];exact hi) hj,if_neg (Z1 ne),V9]
  have e2:(qj m fun j'=>at2 (eqL b R m n) (R.length*n+j') (i*n+j)*(ws[R.length*n+j']?).getD 0)=b*(ws[R.length*n+i]?).getD 0:=by
   rw [qT hi fun i' hi' ne=>?_]
   ·show ((((eqL b R m n)[R.length*n+i]?).getD [])[i*n+j]?).getD 0*_=_;rw [qpk hi];show ((qmj b i m n)[i*n+j]?).getD 0*_=_;rw [qqh hi hj,if_pos rfl]
   ·show ((((eqL b R m n)[R.length*n+i']?).getD [])[i*n+j]?).getD 0*_=_;rw [qpk hi'];show ((qmj b i' m n)[i*n+j]?).getD 0*_=_;rw [qqh hi hj,if_neg (Z1 ne),V9]
  rw [e1,e2] at this;exact this
 ·rw [qls,qgl] at h3;have e1:(qj R.length fun s=>qj n fun j=>((qgb S c m)[s*n+j]?).getD 0*(ws[s*n+j]?).getD 0)=qj R.length fun s=>qj n fun j=>at2 S s j*at2 (qG ws n R.length) s j:=qh fun s hs=>qh fun j hj=>by
   rw [qpa h hs hj,qtc hs hj]
  have e2:(qj m fun i=>((qgb S c m)[R.length*n+i]?).getD 0*(ws[R.length*n+i]?).getD 0)=c*qj m fun i=>(ws[R.length*n+i]?).getD 0:=by
   rw [<- qp];exact qh fun i hi=>by rw [qsq h hi]
  rw [e1,e2] at h3;exact h3
structure LcmB (V:List (List (Int×Int))) (B:Int):Prop where
 pos:0<B
 dv : ∀ r ∈ V,∀ x ∈ r,x.2∣B
 un : ∀ d:Int,(∀ r ∈ V,∀ x ∈ r,x.2∣d)->B∣d
def qbs (B:Int) (r:List (Int×Int)):List Int:=r.map fun x=>x.1*(B/x.2)
def zakk {V:List (List (Int×Int))}{B g:Int} (h:LcmB V B) (hs : ∀ r ∈ V,∀ x ∈ r,Shr x.1 x.2) (g0:0<g) (gB:g∣B) (hg : ∀ r ∈ V,∀ y ∈ qbs B r,g∣y):g=1:=by
 obtain ⟨t,e⟩:=gB;have hB:=h.pos;have t0:0<t:=by
  rcases Qba 0 t with q|q
  ·exact q
  ·have:=Yd (Jq g0) (show 0 <= -t by omega);rw [Qjc] at this;omega
 have hd:B∣t:=h.un t fun r hr x hx=>by
  have s:=hs r hr x hx;obtain ⟨k,hk⟩:=hg r hr _ (Qr.mpr ⟨x,hx,rfl⟩);obtain ⟨u,hu⟩:=h.dv r hr x hx;have q0:x.2≠0:=by have:=s.pos;omega
  rw [hu,Jl _ q0] at hk;refine zajb s.gcd ⟨k,?_⟩;have:g*(x.1*t)=g*(x.2*k):=by
   have e':x.2*u=g*t:=by rw [<- hu,e]
   calc g*(x.1*t)=x.1*(g*t):=by grind
    _=x.1*(x.2*u):=by rw [e']
    _=x.2*(x.1*u):=by grind
    _=x.2*(g*k):=by rw [hk]
    _=g*(x.2*k):=by grind
  exact Yj (by omega) this
 have le1:=Qka t0 hd;rw [e] at le1;rcases Qba 1 g with q|q
 ·have:=Qdg q t0;omega
 ·omega
def qW (b c:Int) (x:Int×Int):Int×Int:=(shT (x.1*shT b c) (x.2*shB b c),shB (x.1*shT b c) (x.2*shB b c))
def qpq {b c:Int}{x:Int×Int} (hb:0<b) (hc:0<c) (hx:Shr x.1 x.2):Shr (qW b c x).1 (qW b c x).2/\(qW b c x).1*(x.2*c)=x.1*b*(qW b c x).2/\(qW b c x).2∣x.2*c:=by
 obtain ⟨s1,e1⟩:=quz (t:=b) (b:=c) (by omega);have hx0:=hx.pos;have q0:x.2*shB b c≠0:=by
  have:=Yr (show 0<x.2 by omega) (show 0<shB b c by have:=s1.pos;omega);omega
 obtain ⟨s2,e2⟩:=quz (t:=x.1*shT b c) (b:=x.2*shB b c) q0;refine ⟨s2,?_,?_⟩
 ·have hbb:shT b c≠0:=by
   intro z;rw [z,V9] at e1;have:=Yr hb (show 0<shB b c by have:=s1.pos;omega);omega
  have s0:shB b c≠0:=by have:=s1.pos;omega
  show shT (x.1*shT b c) (x.2*shB b c)*(x.2*c)=x.1*b*shB (x.1*shT b c) (x.2*shB b c);generalize shT (x.1*shT b c) (x.2*shB b c)=P at e2;generalize shB (x.1*shT b c) (x.2*shB b c)=Q at e2;generalize shT b c=t at *;generalize shB b c=u at *;have:u*(P*(x.2*c))=u*(x.1*b*Q):=by
   calc u*(P*(x.2*c))=(P*(x.2*u))*c:=by grind
    _=(x.1*t*Q)*c:=by rw [e2]
    _=x.1*Q*(t*c):=by grind
    _=x.1*Q*(b*u):=by rw [e1]
    _=u*(x.1*b*Q):=by grind
  exact Yj s0 this
 ·refine Qac (b:=x.2*shB b c) ⟨cm (x.1*shT b c) (x.2*shB b c),?_⟩ ?_
  ·exact (qov _ _).symm.trans (Z9 _ _)
  ·exact Qfi (Qhw _) ⟨cm b c,(qov _ _).symm.trans (Z9 _ _)⟩
def zagd {f:List (Int×Int)->List Int}{V:List (List (Int×Int))}{i j:Nat}{r:List (Int×Int)} (h:V[i]?=some r):at2 (V.map f) i j=((f r)[j]?).getD 0:=by
 unfold at2;rw [Qa,h];rfl
def zajt (h:CmpPre b R m c S n) {vs:List (Int×Int)} (hv:FitV (m*n) (eqL b R m n) (qgb S c m) vs) {B:Int} (hB:LcmB (qG (vs.map (qW b c)) n m) B) :
 Dls b R m c S n B ((qG (vs.map (qW b c)) n m).map (qbs B)):=by
  obtain ⟨vl,d,d0,zd,hx,he⟩:=hv;have hb:=h.r.pos;have hc:=h.s.pos;have n1:=h.n1;have hget : ∀ i j,i<m->j<n -> ∃ x,vs[i*n+j]?=some x/\x ∈ vs:=fun i j hi hj=>by
   have e:vs[i*n+j]?=some (vs[i*n+j]'(by rw [vl];exact qfm hi hj)):=Qc _;exact ⟨_,e,Qg e⟩
  have hrow : ∀ r ∈ qG (vs.map (qW b c)) n m,r.length=n /\ ∀ y ∈ r,∃ x ∈ vs,y=qW b c x:=fun r hr=>by
   obtain ⟨k,hk,rfl⟩:=Qr.mp hr;have hk:=Zg.mp hk;refine ⟨?_,fun y hy=>?_⟩
   ·rw [Z3,V5,Qe,vl];have a:=qfm (i:=k) (j:=n-1) (m:=m) (n:=n) hk (by omega);omega
   ·obtain ⟨x,hx,rfl⟩:=Qr.mp (Je (Vo hy));exact ⟨x,hx,rfl⟩
  have hsh : ∀ r ∈ qG (vs.map (qW b c)) n m,∀ y ∈ r,Shr y.1 y.2/\0<=y.1:=fun r hr y hy=>by
   obtain ⟨x,hxm,rfl⟩:=(hrow r hr).2 y hy;obtain ⟨q1,q2,_,_⟩:=hx x hxm;obtain ⟨g1,g2,_⟩:=qpq (show 0<b by omega) (show 0<c by omega) q1;refine ⟨g1,?_⟩;have e0:0<=x.1*b*(qW b c x).2:=Yd (Yd q2 (by omega)) (by have:=g1.pos;omega);rw [<- g2] at e0;have p0:0<x.2*c:=Yr (by have:=q1.pos;omega) (by omega);rcases Qba (qW b c x).1 0 with z|z
   ·have:=Int.mul_neg_of_neg_of_pos z p0;omega
   ·exact z
  have Bd:B∣d*c:=hB.un _ fun r hr y hy=>by
   obtain ⟨x,hxm,rfl⟩:=(hrow r hr).2 y hy;obtain ⟨q1,_,q3,_⟩:=hx x hxm;exact Qac (qpq (show 0<b by omega) (show 0<c by omega) q1).2.2 (Qfi q3 (Qhw _))
  have B0:=hB.pos;have key : ∀ i j,i<m->j<n->at2 ((qG (vs.map (qW b c)) n m).map (qbs B)) i j*(d*c)=B*b*(((vs[i*n+j]?).getD (0,1)).1*(d/((vs[i*n+j]?).getD (0,1)).2)):=fun i j hi hj=>by
   obtain ⟨x,ex,hxm⟩:=hget i j hi hj;obtain ⟨q1,q2,⟨e,he'⟩,_⟩:=hx x hxm;obtain ⟨g1,g2,_⟩:=qpq (show 0<b by omega) (show 0<c by omega) q1;have hy:((vs.map (qW b c)).drop (i*n)).take n ∈ qG (vs.map (qW b c)) n m:=Qg (qdn hi);have ey:(((vs.map (qW b c)).drop (i*n)).take n)[j]?=some (qW b c x):=by rw [qzt hj,Qa,ex];rfl
   obtain ⟨t,ht⟩:=hB.dv _ hy _ (Qg ey);rw [zagd (qdn hi),ex];unfold qbs;rw [Qa,ey];show (qW b c x).1*(B/(qW b c x).2)*(d*c)=B*b*(x.1*(d/x.2));have y0:(qW b c x).2≠0:=by have:=g1.pos;omega
   have x0:x.2≠0:=by have:=q1.pos;omega
   have e1:B/(qW b c x).2=t:=by rw [ht,Jl _ y0]
   have e2:d/x.2=e:=by rw [he',Jl _ x0]
   rw [e1,e2,ht,he'];generalize (qW b c x).1=P at *;generalize (qW b c x).2=Q at *
   calc P*t*(x.2*e*c)=(P*(x.2*c))*(t*e):=by grind
    _=(x.1*b*Q)*(t*e):=by rw [g2]
    _=Q*t*b*(x.1*e):=by grind
  have dc0:d*c≠0:=by have:=Yr d0 (show 0<c by omega);omega
  have hlen : ∀ r ∈ (qG (vs.map (qW b c)) n m).map (qbs B),r.length=n:=fun r hr=>by
   obtain ⟨r0,h0,rfl⟩:=Qr.mp hr;unfold qbs;rw [Qe];exact (hrow r0 h0).1
  have hnn : ∀ r ∈ (qG (vs.map (qW b c)) n m).map (qbs B),∀ x ∈ r,0<=x:=fun r hr x hx'=>by
   obtain ⟨r0,h0,rfl⟩:=Qr.mp hr;obtain ⟨y,hy,rfl⟩:=Qr.mp hx';obtain ⟨s1,s2⟩:=hsh r0 h0 y hy;exact Yd s2 (Qiz (by omega) (by have:=s1.pos;omega))
  have hsum : ∀ r ∈ (qG (vs.map (qW b c)) n m).map (qbs B),r.sum=B:=fun r hr=>by
   obtain ⟨i,hi⟩:=Vp hr;have hi':i<m:=by
    have:=(Qk.mp hi).1;simpa [qG] using this
   have er:r.sum=qj n fun j=>at2 ((qG (vs.map (qW b c)) n m).map (qbs B)) i j:=by
    have e1:r=(Qm n).map fun j=>at2 ((qG (vs.map (qW b c)) n m).map (qbs B)) i j:=by
     refine Jj fun j=>?_;rw [Qa];by_cases hj:j<n
     ·rw [Qn hj,Qc (by rw [hlen r hr];exact hj)];unfold at2;rw [hi];simp [hlen r hr,hj]
     ·rw [Q8 (by rw [hlen r hr];omega),Q8 (by simp;omega)];rfl
    have e2:=qbz (fun j=>at2 ((qG (vs.map (qW b c)) n m).map (qbs B)) i j) n;rw [<- e1] at e2;exact e2
   have e3:=he (R.length*n+i) (by rw [qjv];omega);rw [zaiq hi',qsq h hi'] at e3;have e4:(d*c)*r.sum=(d*c)*B:=by
    rw [er,<- qp];have:(qj n fun j=>d*c*at2 ((qG (vs.map (qW b c)) n m).map (qbs B)) i j)=qj n fun j=>(B*b)*(((vs[i*n+j]?).getD (0,1)).1*(d/((vs[i*n+j]?).getD (0,1)).2)):=qh fun j hj=>by
     rw [Z9 (d*c),key i j hi' hj]
    rw [this,qp,Jt B b,<- e3,Z9]
   exact Yj dc0 e4
  refine ⟨⟨⟨by omega,hlen,hnn,hsum⟩,by simp [qG],fun s j hs hj=>?_⟩,?_,?_⟩
  rotate_left
  ·have hT:Tab B ((qG (vs.map (qW b c)) n m).map (qbs B)) n:=⟨by omega,hlen,hnn,hsum⟩
   have hne:(qG (vs.map (qW b c)) n m).map (qbs B)≠[]:=fun z=>by
    have:=congrArg Qis z;simp [qG] at this;have:=h.m1;omega
   have g0:=hT.gpos hne;have:=zakk hB (fun r hr x hx=>(hsh r hr x hx).1) (show (0:Int)<qcq ((qG (vs.map (qW b c)) n m).map (qbs B)) by omega) (hT.gdvd hne) fun r hr y hy=>qiw (Qr.mpr ⟨r,hr,rfl⟩) hy;omega
  ·refine Jf (Qcr ?_ (V8.mpr Bd)) (qu (Qce zd (qaf (x:=c) (by omega) (by have:=h.zc;omega))) (by decide));omega
  ·have e3:=he (s*n+j) (by rw [qjv];have:=qfm (m:=R.length) hs hj;omega);rw [zaep h hs hj,qpa h hs hj] at e3;have:d*(c*qj m fun i=>at2 R s i*at2 ((qG (vs.map (qW b c)) n m).map (qbs B)) i j)=d*(at2 S s j*b*B):=by
    have e4:(qj m fun i=>(d*c)*(at2 R s i*at2 ((qG (vs.map (qW b c)) n m).map (qbs B)) i j))=qj m fun i=>(B*b)*(at2 R s i*(((vs[i*n+j]?).getD (0,1)).1*(d/((vs[i*n+j]?).getD (0,1)).2))):=qh fun i hi=>by
     have k:=key i j hi hj
     calc (d*c)*(at2 R s i*at2 ((qG (vs.map (qW b c)) n m).map (qbs B)) i j)=at2 R s i*(at2 ((qG (vs.map (qW b c)) n m).map (qbs B)) i j*(d*c)):=by grind
      _=_:=by rw [k];grind
    rw [qp,qp,<- e3] at e4;rw [<- Jt,e4];grind
   exact Yj (by omega) this
def zabn {b:Int}{R:List (List Int)}{m:Nat}{c:Int}{S:List (List Int)}{n:Nat}{B:Int}{D W:List (List Int)} (hb:0<b) (hc:0<c) (h:Dul b R m c S n B D) (w:Dcs b R m c S n W):False:=by
 obtain ⟨v,h1,h2⟩:=w.v;have hB:=h.t.pos;have s1:(qj m fun i=>qj n fun j=>at2 D i j*((qj R.length fun s=>at2 R s i*at2 W s j)+b*v i))<=0:=qwp fun i hi=>qwp fun j hj=>by
  have d0:0<=at2 D i j:=by
   unfold at2;cases e:D[i]? with
   | none=>exact Vb _
   | some r =>
    show 0<=(r[j]?).getD 0;cases e':r[j]? with
    | none=>exact Vb _
    | some x=>exact h.t.nn r (Qg e) x (Qg e')
  have:=Yd d0 (show 0 <= -((qj R.length fun s=>at2 R s i*at2 W s j)+b*v i) by have:=h1 i j hi hj;omega);rw [Qjc] at this;omega
 have rs : ∀ i,i<m->(qj n fun j=>at2 D i j)=B:=fun i hi=>by
  have hi':i<D.length:=by rw [h.l];exact hi
  have er:D[i]?=some D[i]:=Qc hi';have hl:=h.t.len _ (Zi hi');rw [<- h.t.sum _ (Zi hi')];have e1:(Qm n).map (fun j=>at2 D i j)=D[i]:=by
   refine Jj fun j=>?_;rw [Qa];by_cases hj:j<n
   ·rw [Qn hj,Qc (by rw [hl];exact hj)];unfold at2;rw [er];simp [hl,hj]
   ·rw [Q8 (l:=D[i]) (by rw [hl];omega),Q8 (by simp;omega)];rfl
  have e2:=qbz (fun j=>at2 D i j) n;rw [e1] at e2;exact e2.symm
 have s2:(qj m fun i=>qj n fun j=>at2 D i j*((qj R.length fun s=>at2 R s i*at2 W s j)+b*v i))=(qj R.length fun s=>qj n fun j=>at2 W s j*qj m fun i=>at2 R s i*at2 D i j)+b*B*qj m v:=by
  have a1 : ∀ i,i<m->(qj n fun j=>at2 D i j*((qj R.length fun s=>at2 R s i*at2 W s j)+b*v i))=(qj n fun j=>qj R.length fun s=>at2 D i j*(at2 R s i*at2 W s j))+b*B*v i:=fun i hi=>by
   have:(qj n fun j=>at2 D i j*((qj R.length fun s=>at2 R s i*at2 W s j)+b*v i))=qj n fun j=>(qj R.length fun s=>at2 D i j*(at2 R s i*at2 W s j))+(b*v i)*at2 D i j:=qh fun j hj=>by
    rw [qp,Qjd,Z9 (at2 D i j) (b*v i)]
   rw [this,qco,qp,rs i hi];grind
  rw [qh a1,qco,qp]
  congr 1
  have sw : ∀ (p q:Nat) (f:Nat->Nat->Int),(qj p fun i=>qj q fun j=>f i j)=qj q fun j=>qj p fun i=>f i j:=fun p q f=>by
   induction p with
   | zero=>exact (qai fun j _=>rfl).symm
   | succ p ih =>
    show (qj p fun i=>qj q fun j=>f i j)+qj q (fun j=>f p j)=qj q fun j=>(qj p fun i=>f i j)+f p j;rw [ih,qco]
  rw [qh fun i _=>sw n R.length fun j s=>at2 D i j*(at2 R s i*at2 W s j),sw];refine qh fun s hs=>?_;rw [sw];refine qh fun j hj=>?_;rw [<- qp];exact qh fun i _=>by grind
 have s3:c*(qj R.length fun s=>qj n fun j=>at2 W s j*qj m fun i=>at2 R s i*at2 D i j)=b*B*qj R.length fun s=>qj n fun j=>at2 S s j*at2 W s j:=by
  rw [<- qp,<- qp];refine qh fun s hs=>?_;rw [<- qp,<- qp];refine qh fun j hj=>?_;have:=h.e s j hs hj
  calc c*(at2 W s j*qj m fun i=>at2 R s i*at2 D i j)=at2 W s j*(c*qj m fun i=>at2 R s i*at2 D i j):=by grind
   _=at2 W s j*(at2 S s j*b*B):=by rw [this]
   _=_:=by grind
 rw [s2] at s1;have bB:=Yr hb (show 0<B by omega);have s4:=Yr bB h2;have s5:=Yd (Jq hc) (show 0 <= -((qj R.length fun s=>qj n fun j=>at2 W s j*qj m fun i=>at2 R s i*at2 D i j)+b*B*qj m v) by omega);rw [Qjc,Qjd,s3] at s5;rw [Qjd] at s4;have e:c*(b*B*qj m v)=b*B*(c*qj m v):=by grind
 omega
end
def dS (x:Int×Int):Qh:=dSh x.1 x.2
def shG {vs:List (Int×Int)}{i:Nat}{x:Qh} (h:(vs.map dS)[i]?=some x) : ∃ y,vs[i]?=some y/\x=dSh y.1 y.2:=by
 rw [Qa] at h;cases q:vs[i]? with
 | none=>rw [q] at h;cases h
 | some y=>rw [q] at h;exact ⟨y,rfl,(Qx h).symm⟩
def dvdB {x d:Int}{m:Nat} (h:x∣d) (d0:0<d) (z:intBits d<=m):intBits x<=m :=
 Jf (Qcr (by omega) (V8.mpr h)) z
def zapy (d:Qh) (V:List (List (Int×Int))):Prop := ∃ l,qfs d=some l/\l.length=V.length /\ ∀ (i:Nat) (x:Qh),l[i]?=some x -> ∃ r:List (Int×Int),V[i]?=some r/\qfs x=some (r.map dS)
structure LcmL (xs:List (Int×Int)) (B:Int):Prop where
 pos:0<B
 dv : ∀ x ∈ xs,x.2∣B
 un : ∀ d:Int,(∀ x ∈ xs,x.2∣d)->B∣d
def LcmL.nil:LcmL [] 1:=⟨by decide,fun x hx=>by simp at hx,fun d _=>⟨d,by omega⟩⟩
def LcmL.snoc {xs:List (Int×Int)}{B:Int}{y:Int×Int} (h:LcmL xs B) (hy:0<y.2):LcmL (xs++[y]) (B*y.2/(Ym B y.2:Int)):=by
 have k:=qqx (d:=B*y.2) h.pos hy ⟨_,rfl⟩ ⟨B,Z9 _ _⟩;refine ⟨k.1,fun x hx=>?_,fun d hd=>(qqx h.pos hy (h.un d fun x hx=>hd x (Ze.mpr (.inl hx))) (hd y (by simp))).2.1⟩;rcases Ze.mp hx with q|q
 ·exact Qac (h.dv x q) k.2.2.1
 ·rw [Q3.mp q];exact k.2.2.2
def LcmL.b {V:List (List (Int×Int))}{B:Int} (h:LcmL V.flatten B):LcmB V B :=
 ⟨h.pos,fun r hr x hx=>h.dv x (Qap.mpr ⟨r,hr,hx⟩),fun d hd=>h.un d fun x hx=>by
  obtain ⟨r,hr,hx⟩:=Qap.mp hx;exact hd r hr x hx⟩
def zarr {V:List (List (Int×Int))}{i:Nat}{r:List (Int×Int)} (h:V[i]?=some r):(V.take (i+1)).flatten=(V.take i).flatten++r:=by
 rw [Yb,h];simp
def zaqc {α:Type}{zs:List α}{i:Nat}{z:α} (h:zs[i]?=some z):zs.take (i+1)=zs.take i++[z]:=by
 rw [Yb,h];rfl
def zaks (b:Int) (R:List (List Int)) (m:Nat) (c:Int) (S:List (List Int)) (n:Nat) (q:Qh->Prop):Prop :=
 (∀ B D,Dls b R m c S n B D->q (.tuple [.str "dulls",qau B D])) /\ ∀ W,Dcs b R m c S n W->q (.tuple [.str "decision",.tuple (W.map qef)])
section
variable {b:Int}{R:List (List Int)}{m:Nat}{c:Int}{S:List (List Int)}{n:Nat}{B:Int}{D:List (List Int)}
def qxa {T:List (List Int)}{i j:Nat}{r:List Int}{x:Int} (h:T[i]?=some r) (k:r[j]?=some x):at2 T i j=x:=by
 unfold at2;rw [h];show (r[j]?).getD 0=x;rw [k];rfl
def qvo {T:List (List Int)} (h : ∀ r ∈ T,∀ x ∈ r,0<=x) (i j:Nat):0<=at2 T i j:=by
 unfold at2;cases e:T[i]? with
 | none=>exact Vb _
 | some r =>
  show 0<=(r[j]?).getD 0;cases e':r[j]? with
  | none=>exact Vb _
  | some x=>exact h r (Qg e) x (Qg e')
def qwo {r:List Int}{T:List (List Int)}{i:Nat} (h:T[i]?=some r):(qj r.length fun j=>at2 T i j)=r.sum:=by
 have e1:(Qm r.length).map (fun j=>at2 T i j)=r:=by
  refine Jj fun j=>?_;rw [Qa];by_cases hj:j<r.length
  ·rw [Qn hj,Qc hj];show some (at2 T i j)=_;rw [qxa h (Qc hj)]
  ·rw [Q8 (l:=r) (by omega),Q8 (by simp;omega)];rfl
 have e2:=qbz (fun j=>at2 T i j) r.length;rw [e1] at e2;exact e2.symm
def Tab.rs {T:List (List Int)} (h:Tab B T n) {i:Nat} (hi:i<T.length):(qj n fun j=>at2 T i j)=B:=by
 have e:T[i]?=some T[i]:=Qc hi;rw [<- h.len _ (Zi hi),qwo e,h.sum _ (Zi hi)]
def mkT (m n:Nat) (f:Nat->Nat->Int):List (List Int):=(Qm m).map fun i=>(Qm n).map fun j=>f i j
def zaid {m n:Nat}{f:Nat->Nat->Int}{i j:Nat} (hi:i<m) (hj:j<n):at2 (mkT m n f) i j=f i j:=by
 refine qxa (r:=(Qm n).map fun j=>f i j) ?_ ?_
 ·unfold mkT;rw [Qa,Qn hi];rfl
 ·rw [Qa,Qn hj];rfl
def qzs (m n:Nat) (f:Nat->Nat->Int):(mkT m n f).length=m:=by simp [mkT]
def zaam {m n:Nat}{f:Nat->Nat->Int}{B:Int} (hB:1<=B) (h0 : ∀ i j,i<m->j<n->0<=f i j) (hs : ∀ i,i<m->qj n (f i)=B):Tab B (mkT m n f) n where
 pos:=hB
 len:=fun r hr=>by
  obtain ⟨i,_,rfl⟩:=Qr.mp hr;simp
 nn:=fun r hr x hx=>by
  obtain ⟨i,hi,rfl⟩:=Qr.mp hr;obtain ⟨j,hj,rfl⟩:=Qr.mp hx;exact h0 i j (Zg.mp hi) (Zg.mp hj)
 sum:=fun r hr=>by
  obtain ⟨i,hi,rfl⟩:=Qr.mp hr;rw [qbz];exact hs i (Zg.mp hi)
def qmn (p q:Nat) (f:Nat->Nat->Int):(qj p fun i=>qj q fun j=>f i j)=qj q fun j=>qj p fun i=>f i j:=by
 induction p with
 | zero=>exact (qai fun j _=>rfl).symm
 | succ p ih =>
  show (qj p fun i=>qj q fun j=>f i j)+qj q (fun j=>f p j)=qj q fun j=>(qj p fun i=>f i j)+f p j;rw [ih,qco]
def qgn {f g:Nat->Int} : ∀ {n:Nat},(∀ i,i<n->f i<=g i)->qj n f<=qj n g
 | 0,_=>Vb _
 | n+1,h=>by
  show qj n f+f n<=qj n g+g n;have a:=qgn (f:=f) (g:=g) (n:=n) fun i hi=>h i (by omega);have b:=h n (by omega);omega
def qqt {a x y:Int} (h:0<=a) (e:x<=y):a*x<=a*y:=Jz e h
def Dul.trans {d:Int}{T:List (List Int)}{p:Nat}{C:Int}{E:List (List Int)} (hc:0<c) (hSR:S.length=R.length) (h:Dul b R m c S n B D) (k:Dul c S n d T p C E) :
 Dul b R m d T p (B*C) (mkT m p fun i l=>qj n fun j=>at2 D i j*at2 E j l):=by
  have hB:=h.t.pos;have hC:=k.t.pos;have hBC:0<B*C:=Yr (by omega) (by omega);refine ⟨zaam (by omega) (fun i l hi hl=>qcr fun j hj=>Yd (qvo h.t.nn i j) (qvo k.t.nn j l)) (fun i hi=>?_),qzs ..,fun s l hs hl=>?_⟩
  ·rw [qmn,qh (g:=fun j=>C*at2 D i j) fun j hj=>?_,qp,h.t.rs (by rw [h.l];exact hi),Z9];rw [qp,k.t.rs (by rw [k.l];exact hj),Z9]
  ·have e1:(qj m fun i=>at2 R s i*at2 (mkT m p fun i l=>qj n fun j=>at2 D i j*at2 E j l) i l)=qj n fun j=>at2 E j l*qj m fun i=>at2 R s i*at2 D i j:=by
    have a:(qj m fun i=>at2 R s i*at2 (mkT m p fun i l=>qj n fun j=>at2 D i j*at2 E j l) i l)=qj m fun i=>qj n fun j=>at2 E j l*(at2 R s i*at2 D i j):=qh fun i hi=>by
     rw [zaid hi hl,<- qp];exact qh fun j _=>by grind
    rw [a,qmn];exact qh fun j _=>by rw [qp]
   rw [e1];have e2:c*(qj n fun j=>at2 E j l*qj m fun i=>at2 R s i*at2 D i j)=b*B*qj n fun j=>at2 S s j*at2 E j l:=by
    rw [<- qp,<- qp];refine qh fun j hj=>?_;have:=h.e s j hs hj
    calc c*(at2 E j l*qj m fun i=>at2 R s i*at2 D i j)=at2 E j l*(c*qj m fun i=>at2 R s i*at2 D i j):=by grind
     _=at2 E j l*(at2 S s j*b*B):=by rw [this]
     _=_:=by grind
   have e3:=k.e s l (by rw [hSR];exact hs) hl;have:c*(d*qj n fun j=>at2 E j l*qj m fun i=>at2 R s i*at2 D i j)=c*(at2 T s l*b*(B*C)):=by
    calc c*(d*qj n fun j=>at2 E j l*qj m fun i=>at2 R s i*at2 D i j)=d*(c*qj n fun j=>at2 E j l*qj m fun i=>at2 R s i*at2 D i j):=by grind
     _=b*B*(d*qj n fun j=>at2 S s j*at2 E j l):=by rw [e2];grind
     _=b*B*(at2 T s l*c*C):=by rw [e3]
     _=_:=by grind
   exact Yj (by omega) this
def Dul.pick {f:Nat->Nat} (hf : ∀ i,i<m->f i<n) (h : ∀ s j,s<R.length->j<n->c*(qj m fun i=>at2 R s i*if f i=j then 1 else 0)=at2 S s j*b):Dul b R m c S n 1 (mkT m n fun i j=>if f i=j then 1 else 0):=by
 refine ⟨zaam (by decide) (fun i j _ _=>by split <;> decide) (fun i hi=>?_),qzs ..,fun s j hs hj=>?_⟩
 ·rw [qT (hf i hi) fun j _ ne=>if_neg (Z1 ne),if_pos rfl]
 ·rw [Qir,<- h s j hs hj]
  congr 1
  exact qh fun i hi=>by rw [zaid hi hj]
def Dul.self (b:Int) (R:List (List Int)) (m:Nat):Dul b R m b R m 1 (mkT m m fun i j=>if i=j then 1 else 0) :=
 Dul.pick (f:=id) (fun i hi=>hi) fun s j hs hj=>by
  rw [qT hj fun i _ ne=>by rw [if_neg (show ¬ id i=j from ne),Qbb],if_pos (show id j=j from rfl),Qir,Z9]
def qnl (f:Nat->Int):Nat->Int
 | 0=>f 0
 | k+1=>if qnl f k<f (k+1) then f (k+1) else qnl f k
def qus (f:Nat->Int) : ∀ {k i:Nat},i<=k->f i<=qnl f k
 | 0,i,h=>by rw [Nat.le_zero.mp h];exact Vb _
 | k+1,i,h=>by
  show f i<=if qnl f k<f (k+1) then f (k+1) else qnl f k
  by_cases e:i=k+1
  ·subst e;split <;> omega
  ·have:=qus f (show i<=k by omega);split <;> omega
def qpo (f:Nat->Int) : ∀ k:Nat,∃ i,i<=k/\qnl f k=f i
 | 0=>⟨0,Qs _,rfl⟩
 | k+1=>by
  obtain ⟨i,hi,e⟩:=qpo f k;show ∃ i,i<=k+1/\(if qnl f k<f (k+1) then f (k+1) else qnl f k)=f i;by_cases h:qnl f k<f (k+1)
  ·exact ⟨k+1,Qs _,by rw [if_pos h]⟩
  ·exact ⟨i,by omega,by rw [if_neg h,e]⟩
def qei (R Y:List (List Int)) (w m a:Nat):Int:=qj m fun i=>qnl (fun x=>qj w fun s=>at2 R s i*at2 Y s x) a
def Dul.best {Y:List (List Int)}{a:Nat} (hb:0<b) (hc:0<c) (h:Dul b R m c S n B D):qei S Y R.length n a*b<=qei R Y R.length m a*c:=by
 have hB:=h.t.pos;have key : ∀ j,j<n->b*B*qnl (fun x=>qj R.length fun s=>at2 S s j*at2 Y s x) a<=c*qj m fun i=>at2 D i j*qnl (fun x=>qj R.length fun s=>at2 R s i*at2 Y s x) a:=fun j hj=>by
  obtain ⟨x,hx,e⟩:=qpo (fun x=>qj R.length fun s=>at2 S s j*at2 Y s x) a;rw [e];have e1:b*B*(qj R.length fun s=>at2 S s j*at2 Y s x)=c*qj m fun i=>at2 D i j*qj R.length fun s=>at2 R s i*at2 Y s x:=by
   have a1:b*B*(qj R.length fun s=>at2 S s j*at2 Y s x)=qj R.length fun s=>at2 Y s x*(c*qj m fun i=>at2 R s i*at2 D i j):=by
    rw [<- qp];refine qh fun s hs=>?_;rw [h.e s j hs hj];grind
   have a2:(qj R.length fun s=>at2 Y s x*(c*qj m fun i=>at2 R s i*at2 D i j))=qj R.length fun s=>qj m fun i=>c*(at2 D i j*(at2 R s i*at2 Y s x)):=qh fun s hs=>by
    rw [<- qp,<- qp];exact qh fun i _=>by grind
   rw [a1,a2,qmn,<- qp];exact qh fun i hi=>by rw [qp,qp]
  rw [e1];exact qqt (by omega) (qgn fun i hi=>qqt (qvo h.t.nn i j) (qus (fun x=>qj R.length fun s=>at2 R s i*at2 Y s x) hx))
 have s1:b*B*qei S Y R.length n a<=c*B*qei R Y R.length m a:=by
  unfold qei;rw [<- qp];refine Int.le_trans (qgn key) ?_;rw [qp,qmn,Jt];refine qqt (by omega) ?_;rw [<- qp];refine qgn fun i hi=>?_;have:(qj n fun j=>at2 D i j*qnl (fun x=>qj R.length fun s=>at2 R s i*at2 Y s x) a)=B*qnl (fun x=>qj R.length fun s=>at2 R s i*at2 Y s x) a:=by
   rw [qh (g:=fun j=>qnl (fun x=>qj R.length fun s=>at2 R s i*at2 Y s x) a*at2 D i j) fun j _=>Z9 _ _,qp,h.t.rs (by rw [h.l];exact hi),Z9]
  rw [this];exact Vb _
 have s2:B*(qei S Y R.length n a*b)<=B*(qei R Y R.length m a*c):=by
  have e1:B*(qei S Y R.length n a*b)=b*B*qei S Y R.length n a:=by grind
  have e2:B*(qei R Y R.length m a*c)=c*B*qei R Y R.length m a:=by grind
  rw [e1,e2];exact s1
 exact Qal s2 (by omega)
end
def qwh (a b:List Int):Int:=(Qch (· * ·) a b).sum
def qgh (D:List (List Int)) (k:Nat):List Int:=D.map fun r=>(r[k]?).getD 0
def zaav {D:List (List Int)}{k:Nat}{x:Int} (h:x ∈ qgh D k):x=0 \/ ∃ d ∈ D,x ∈ d:=by
 obtain ⟨d,hd,rfl⟩:=Qr.mp h;cases e:d[k]? with
 | none=>exact .inl (by simp)
 | some y=>exact .inr ⟨d,hd,by simpa using Qg e⟩
def zajs {x b:Int}{m:Nat} (h0:0<=x) (h:x<=b) (hz:intBits b<=m):intBits x<=m:=Jf (by omega) hz
def Tab.bits {b:Int}{R:List (List Int)}{n m:Nat}{r:List Int}{x:Int} (h:Tab b R n) (hz:intBits b<=m) (hr:r ∈ R) (hx:x ∈ r):intBits x<=m:=zajs (h.le hr hx).1 (h.le hr hx).2 hz
def zaku {a b:List Int}{i:Nat}{x y:Int} (h1:a[i]?=some x) (h2:b[i]?=some y):(Qch (· * ·) a b)[i]?=some (x*y):=by
 rw [Ja,h1,h2]
def zakg {D:List (List Int)}{k i:Nat}{d:List Int}{x:Int} (h:D[i]?=some d) (hx:d[k]?=some x):(qgh D k)[i]?=some x:=by
 unfold qgh;rw [Qa,h];simp [hx]
def zajn (D:List (List Int)) (k:Nat):(qgh D k).length=D.length:=by simp [qgh]
structure Gls (b:Int) (R:List (List Int)) (n:Nat):Prop where
 t:Tab b R n
 g:qcq R=1
def Tab.gls {b:Int}{R:List (List Int)}{n:Nat} (h:Tab b R n) (hR:R≠[]):Gls (b/qcq R) (qju R (qcq R)) n:=⟨h.low hR,zago (h.gpos hR)⟩
abbrev lowT (b:Int) (P:List (List Int)):Qh:=qau (b/qcq P) (qju P (qcq P))
def qpj (a:Int) (cs:List Int) (b:Int):List Int:=Qch (fun lo hi=>hi-lo) (a::cs) (cs++[b])
def qwj : ∀ (cs:List Int) (a b:Int),cs.Pairwise (· <= ·)->(∀ c ∈ cs,a<=c/\c<=b)->a<=b->(qpj a cs b).length=cs.length+1/\(∀ x ∈ qpj a cs b,0<=x)/\(qpj a cs b).sum=b-a
 | [],a,b,_,_,hab=>by simp [qpj];omega
 | c::cs,a,b,hp,h,hab=>by
  have e:qpj a (c::cs) b=(c-a)::qpj c cs b:=rfl;obtain ⟨h1,h2⟩:=List.pairwise_cons.mp hp;obtain ⟨q1,q2⟩:=h c (by simp);obtain ⟨i1,i2,i3⟩:=qwj cs c b h2 (fun x hx=>⟨h1 x hx,(h x (Qy _ hx)).2⟩) q2;rw [e];refine ⟨by simp [i1],fun x hx=>?_,by rw [Y9,i3];omega⟩;rcases Q1.mp hx with rfl|hx
  ·omega
  ·exact i2 x hx
def qdp (r:List Int) (k s:Int) (at' to:Nat):List Int:=qkt ((r.map fun n=>n*k).set at' ((r[at']?).getD 0*s)) to ((r[at']?).getD 0*(k-s))
def zakb {α:Type}{l:List α}{k:Nat}{y:α} (h:k<=l.length):(qkt l k y).length=l.length+1:=by
 unfold qkt;simp;omega
def zakt {l:List Int}{k:Nat}{y:Int}:(qkt l k y).sum=l.sum+y:=by
 unfold qkt;have:=congrArg List.sum (List.take_append_drop k l);rw [Qdd] at this;rw [Qdd,Y9];omega
def zaiv {l:List Int}{k:Nat}{x y:Int} (h:x ∈ qkt l k y):x ∈ l\/x=y:=by
 unfold qkt at h;rcases Ze.mp h with h|h
 ·exact .inl (Vo h)
 ·rcases Q1.mp h with h|h
  ·exact .inr h
  ·exact .inl (Je h)
def set_sum' : ∀ {r:List Int}{i:Nat}{y:Int},i<r.length->(r.set i y).sum=r.sum-(r[i]?).getD 0+y
 | x::r,0,y,h=>by simp;omega
 | x::r,i+1,y,h=>by
  have h':i<r.length:=by simpa using h
  rw [Qgu,Y9,Y9,set_sum' h',Y8];omega
def qxj (k:Int) : ∀ (r:List Int),(r.map fun x=>x*k).sum=r.sum*k
 | []=>by simp
 | x::r=>by rw [Yh,Y9,Y9,qxj k r,Int.add_mul]
def zagw {r:List Int}{k s:Int}{a t:Nat} (ha:a<r.length) (ht:t<=r.length) (hr : ∀ x ∈ r,0<=x) (s0:0<=s) (sk:s<=k):(qdp r k s a t).length=r.length+1/\(∀ x ∈ qdp r k s a t,0<=x)/\(qdp r k s a t).sum=r.sum*k:=by
 unfold qdp;have hl:((r.map fun n=>n*k).set a ((r[a]?).getD 0*s)).length=r.length:=by simp
 have hra:0<=(r[a]?).getD 0:=by rw [Qc ha];exact hr _ (Zi ha)
 refine ⟨by rw [zakb (by omega),hl],fun x hx=>?_,?_⟩
 ·rcases zaiv hx with hx|rfl
  ·rcases List.mem_or_eq_of_mem_set hx with hx|rfl
   ·obtain ⟨y,hy,rfl⟩:=Qr.mp hx;exact Yd (hr y hy) (by omega)
   ·exact Yd hra s0
  ·exact Yd hra (by omega)
 ·rw [zakt,set_sum' (by simpa using ha),qxj,Qa,Qc ha];simp only [Option.map_some,Qci];grind
def qgk (R T:List (List Int)) (m n:Nat):List (List Int):=R.map fun r=>(Qm n).map fun j=>qj m fun i=>(r[i]?).getD 0*at2 T i j
def zalg {r:List Int} (h : ∀ x ∈ r,0<=x) (i:Nat):0<=(r[i]?).getD 0:=by
 cases e:r[i]? with
 | none=>exact Vb _
 | some x=>exact h x (Qg e)
def zafw {r:List Int}{m:Nat} (h:r.length=m):(qj m fun i=>(r[i]?).getD 0)=r.sum:=by
 have:=qwo (T:=[r]) (i:=0) (r:=r) rfl;rw [<- this,h];exact qh fun i _=>rfl
def qwc {b u:Int}{R T:List (List Int)}{m n:Nat} (hR:Tab b R m) (hT:Tab u T n) (hl:T.length=m):Tab (b*u) (qgk R T m n) n where
 pos:=by have:=Yr (show 0<b by have:=hR.pos;omega) (show 0<u by have:=hT.pos;omega);omega
 len:=fun r hr=>by
  obtain ⟨r0,_,rfl⟩:=Qr.mp hr;simp
 nn:=fun r hr x hx=>by
  obtain ⟨r0,h0,rfl⟩:=Qr.mp hr;obtain ⟨j,_,rfl⟩:=Qr.mp hx;exact qcr fun i _=>Yd (zalg (hR.nn r0 h0) i) (qvo hT.nn i j)
 sum:=fun r hr=>by
  obtain ⟨r0,h0,rfl⟩:=Qr.mp hr;rw [qbz,qmn,qh (g:=fun i=>u*(r0[i]?).getD 0) fun i hi=>?_,qp,zafw (hR.len r0 h0),hR.sum r0 h0,Z9];rw [qp,hT.rs (by rw [hl];exact hi),Z9]
def qfp {R:List (List Int)}{i:Nat}{x:Qh}{f:List Int->Qh} (h:(R.map f)[i]?=some x) : ∃ r,R[i]?=some r/\x=f r:=by
 rw [Qa] at h;cases hr:R[i]? with
 | none=>rw [hr] at h;cases h
 | some r=>rw [hr] at h;exact ⟨r,rfl,(Qx h).symm⟩
def Shp (n:Nat) (d:Qh):Prop:=d.canLay0=true/\d.depth<=n
def quw {n:Nat} : ∀ {l:List Qh},(∀ x ∈ l,Shp n x)->Ji l=true/\Qfj l<=n
 | [],_=>by simp [Ji,Qfj]
 | x::l,h=>by
  obtain ⟨a,b⟩:=quw fun y hy=>h y (Qy _ hy);obtain ⟨c,d⟩:=h x (by simp);rw [Ji,Qfj,a,c];exact ⟨rfl,by omega⟩
def qjp (i:Int) (n:Nat):Shp n (.int i):=by simp [Shp,J4,Qfk]
def qgi {n:Nat}{l:List Qh} (h : ∀ x ∈ l,Shp n x):Shp (n+1) (.list l):=by
 obtain ⟨a,b⟩:=quw h;rw [Shp,J4,Qfk];exact ⟨a,by omega⟩
def qmp {n:Nat}{l:List Qh} (h : ∀ x ∈ l,Shp n x):Shp (n+1) (.tuple l):=by
 obtain ⟨a,b⟩:=quw h;rw [Shp,J4,Qfk];exact ⟨a,by omega⟩
def zaha (ns:List Int) (n:Nat) : ∀ x ∈ ns.map Qw,Shp n x:=fun x hx=>by
 obtain ⟨i,_,rfl⟩:=Qr.mp hx;exact qjp i n
def Shp.ok {n:Nat}{d:Qh} (h:Shp n d) (hn:n<=64:=by decide):V7 d=true:=by
 unfold V7;rw [h.1,decide_eq_true (Z7 h.2 hn)];rfl
def Shp.refl {n:Nat}{d:Qh} (h:Shp n d):Vw d d=true:=SeqAt.eqv_refl d h.1
def zalc (r:List Int):Shp 1 (qef r):=qmp (zaha r 0)
def qul (b:Int) (R:List (List Int)):Shp 3 (qau b R):=qmp fun x hx=>by
 simp only [Q1,Yu,or_false] at hx;rcases hx with rfl|rfl
 ·exact qjp b 2
 ·exact qmp fun y hy=>by
   obtain ⟨r,_,rfl⟩:=Qr.mp hy;exact zalc r
def wd (g:Int×List (List Int)):Nat:=(g.2.headD []).length
def zadx {b:Int}{R:List (List Int)}{m:Nat} (h:Tab b R m) (n:1<=R.length):wd (b,R)=m:=by
 unfold wd;cases R with
 | nil=>simp at n
 | cons r R=>exact h.len r (by simp)
structure G30 (W:Nat) (B:Int) (g:Int×List (List Int)):Prop where
 h:Gls g.1 g.2 (wd g)
 m1:1<=wd g
 m2:wd g<=3
 l:g.2.length=W
 b:g.1<=B
def G30.of {W m:Nat}{B b:Int}{R:List (List Int)} (h:Gls b R m) (w:1<=W) (l:R.length=W) (m1:1<=m) (m2:m<=3) (hb:b<=B):G30 W B (b,R):=by
 have e:=zadx h.t (by omega);exact ⟨by rw [e];exact h,by omega,by omega,l,hb⟩
def dG (g:Int×List (List Int)):Qh:=qau g.1 g.2
structure GS (W:Nat) (B:Int) (g:Int×List (List Int)):Prop where
 h:Gls g.1 g.2 (wd g)
 m1:1<=wd g
 m2:wd g<=4
 l:g.2.length=W
 b:g.1<=B
def GS.of {W m:Nat}{B b:Int}{R:List (List Int)} (h:Gls b R m) (w:1<=W) (l:R.length=W) (m1:1<=m) (m2:m<=4) (hb:b<=B):GS W B (b,R):=by
 have e:=zadx h.t (by omega);exact ⟨by rw [e];exact h,by omega,by omega,l,hb⟩
def GS.pre {W:Nat}{g h:Int×List (List Int)} (w1:1<=W) (w2:W<=4) (a:GS W 2000000 g) (b:GS W 2000000 h):CmpPre g.1 g.2 (wd g) h.1 h.2 (wd h):=by
 have:=a.b;have:=b.b;have:=a.l;have:=b.l;have:=a.m1;have:=b.m1;have:=a.m2;have:=b.m2;exact ⟨a.h.t,b.h.t,by omega,by omega,by omega,by omega,by omega,by omega,by omega,by omega,by omega⟩
def GS.head {W:Nat}{B:Int}{g:Int×List (List Int)} (a:GS W B g) (w:1<=W) : ∃ r0 R0,g.2=r0::R0/\r0.length=wd g:=by
 obtain ⟨r0,R0,e⟩:=Qq (show g.2≠[] from fun z=>by have:=a.l;rw [z] at this;simp at this;omega);exact ⟨r0,R0,e,a.h.t.len r0 (by rw [e];simp)⟩
def trow_get' {L:List (Int×List (List Int))}{i:Nat}{x:Qh} (h:(L.map dG)[i]?=some x) : ∃ g,L[i]?=some g/\x=dG g:=by
 rw [Qa] at h;cases hr:L[i]? with
 | none=>rw [hr] at h;cases h
 | some r=>rw [hr] at h;exact ⟨r,rfl,(Qx h).symm⟩
structure Shf (L:List (Int×List (List Int))) (W:Nat):Prop where
 g : ∀ g ∈ L,GS W 2000000 g
 w1:2<=W
 w2:W<=4
 n1:1<=L.length
 n2:L.length<=5
def DL (g h:Int×List (List Int)):Prop := ∃ B D,Dul g.1 g.2 (wd g) h.1 h.2 (wd h) B D
def DLi (L:List (Int×List (List Int))) (i j:Nat):Prop := ∃ g h,L[i]?=some g/\L[j]?=some h/\DL g h
def Ans (g h:Int×List (List Int)) (d:Qh):Prop:=(∃ B D,Dls g.1 g.2 (wd g) h.1 h.2 (wd h) B D/\d = .tuple [.str "dulls",qau B D])\/(∃ Y,Dcs g.1 g.2 (wd g) h.1 h.2 (wd h) Y/\d = .tuple [.str "decision",.tuple (Y.map qef)])
structure AnsL (g:Int×List (List Int)) (L:List (Int×List (List Int))) (as:List Qh):Prop where
 l:as.length=L.length
 a : ∀ (j:Nat) h d,L[j]?=some h->as[j]?=some d->Ans g h d
structure AnsM (L:List (Int×List (List Int))) (As:List (List Qh)):Prop where
 l:As.length=L.length
 a : ∀ (i:Nat) g as,L[i]?=some g->As[i]?=some as->AnsL g L as
def AnsM.at {L:List (Int×List (List Int))}{As:List (List Qh)} (h:AnsM L As) {i j:Nat} (hi:i<L.length) (hj:j<L.length) : ∃ g k as d,L[i]?=some g/\L[j]?=some k/\As[i]?=some as/\as[j]?=some d/\Ans g k d:=by
 have e1:L[i]?=some L[i]:=Qc hi;have e2:L[j]?=some L[j]:=Qc hj;have e3:As[i]?=some (As[i]'(by rw [h.l];exact hi)):=Qc _;have a:=h.a i _ _ e1 e3;have e4:(As[i]'(by rw [h.l];exact hi))[j]?=some ((As[i]'(by rw [h.l];exact hi))[j]'(by rw [a.l];exact hj)):=Qc _;exact ⟨_,_,_,_,e1,e2,e3,e4,a.a j _ _ e2 e4⟩
def qme (L:List (Int×List (List Int))) (i j:Nat):Prop:=DLi L i j/\(i<j \/ ¬ DLi L j i)
def qpx (L:List (Int×List (List Int))) (j:Nat):Prop := ∃ i,i<L.length/\qme L i j
section
variable {L:List (Int×List (List Int))}{W:Nat}
def Shf.self (s:Shf L W) {i:Nat} (hi:i<L.length):DLi L i i:=⟨L[i],L[i],Qc hi,Qc hi,_,_,Dul.self _ _ _⟩
def Shf.trans (s:Shf L W) {i j k:Nat} (x:DLi L i j) (y:DLi L j k):DLi L i k:=by
 obtain ⟨g,h,e1,e2,B,D,x⟩:=x;obtain ⟨h',k',e3,e4,C,E,y⟩:=y;rw [e2] at e3;injection e3 with e3;subst e3;have a:=s.g g (Qg e1);have b:=s.g h (Qg e2);have:=b.h.t.pos;exact ⟨g,k',e1,e4,_,_,Dul.trans (by omega) (by rw [a.l,b.l]) x y⟩
def Shf.otrans (s:Shf L W) {i j k:Nat} (x:qme L i j) (y:qme L j k):qme L i k:=by
 refine ⟨s.trans x.1 y.1,?_⟩;by_cases z:DLi L k i
 ·left;have y1:j<k:=by
   rcases y.2 with q|q
   ·exact q
   ·exact (q (s.trans z x.1)).elim
  have x1:i<j:=by
   rcases x.2 with q|q
   ·exact q
   ·exact (q (s.trans y.1 z)).elim
  omega
 ·exact .inr z
def Shf.oirr (s:Shf L W) {i:Nat} (hi:i<L.length) : ¬ qme L i i:=fun x=>by
 rcases x.2 with q|q
 ·omega
 ·exact q (s.self hi)
def qzq (p q:Nat->Prop) (h : ∀ i,p i->q i) : ∀ n,(∃ i,i<n/\q i /\ ¬ p i)->(qj n fun i => @ite Int (p i) (Zw _) 1 0)<qj n fun i => @ite Int (q i) (Zw _) 1 0
 | 0,⟨i,hi,_⟩=>by omega
 | n+1,⟨i,hi,hq,hp⟩=>by
  have le : ∀ m,(qj m fun i => @ite Int (p i) (Zw _) 1 0)<=qj m fun i => @ite Int (q i) (Zw _) 1 0:=fun m=>qgn fun k _=>by
   by_cases a:p k
   ·rw [if_pos a,if_pos (h k a)];exact Vb _
   ·rw [if_neg a];by_cases b:q k
    ·rw [if_pos b];decide
    ·rw [if_neg b];exact Vb _
  show (qj n _)+(@ite Int (p n) (Zw _) 1 0)<(qj n _)+(@ite Int (q n) (Zw _) 1 0);by_cases e:i=n
  ·subst e;have:=le i;rw [if_neg hp,if_pos hq];omega
  ·have ih:=qzq p q h n ⟨i,by omega,hq,hp⟩;by_cases a:p n
   ·rw [if_pos a,if_pos (h n a)];omega
   ·rw [if_neg a];by_cases b:q n
    ·rw [if_pos b];omega
    ·rw [if_neg b];omega
def Shf.top (s:Shf L W) : ∀ (c:Nat) (j:Nat),j<L.length->(qj L.length fun i => @ite Int (qme L i j) (Zw _) 1 0)<=c -> ∃ t,t<L.length /\ ¬ qpx L t/\DLi L t j
 | 0,j,hj,hc=>by
  refine ⟨j,hj,fun xx201=>?_,s.self hj⟩;obtain ⟨i,hi,o⟩:=xx201;have:=qzq (fun _=>False) (fun i=>qme L i j) (fun _ z=>z.elim) L.length ⟨i,hi,o,id⟩;have z:(qj L.length fun i => @ite Int False (Zw _) 1 0)=0:=qai fun _ _=>if_neg id;omega
 | c+1,j,hj,hc=>by
  by_cases o:qpx L j
  ·obtain ⟨i,hi,o⟩:=o;have lt:=qzq (fun k=>qme L k i) (fun k=>qme L k j) (fun k z=>s.otrans z o) L.length ⟨i,hi,o,s.oirr hi⟩;obtain ⟨t,ht,nt,d⟩:=s.top c i hi (by omega);exact ⟨t,ht,nt,s.trans d o.1⟩
  ·exact ⟨j,hj,o,s.self hj⟩
def Shf.ex (s:Shf L W) {j:Nat} (hj:j<L.length) : ∃ t,t<L.length /\ ¬ qpx L t/\DLi L t j:=by
 obtain ⟨c,hc⟩:=Zl (show 0<=qj L.length fun i => @ite Int (qme L i j) (Zw _) 1 0 from qcr fun k _=>by
  by_cases a:qme L k j
  ·rw [if_pos a];decide
  ·rw [if_neg a];decide)
 exact s.top c j hj (by omega)
end
def qig (ds:List Qh) (q:Qh->Prop):Prop := ∃ (L:List (Int×List (List Int))) (W:Nat),ds=[.list (L.map dG)]/\Shf L W/\q .none
def qfa:FnScope ["shelf","glass"] ["shelf"] (defScope qdu):=sc0
def qop (F:Def K mg "check_shelf" qdu ["shelf"]) (T:Txt K mg cs)
 (O_check_alike_stands:Ok P w K mg base "check_alike_stands" 2 ["one","other"] (PSp K qbf))
 (O_check_few_signs:Ok P w K mg base "check_few_signs" 2 ["glass"] (PSp K qcn))
 : Ok P w K mg base "check_shelf" 3 ["shelf"] (PSp K qig):=by
  refine F.vok qfa (by rintro ds q ⟨_,_,h,_⟩;rw [h];rfl) fun f cdv A outer s H E hr ds q h=>?_;obtain ⟨L,W,rfl,hS,h⟩:=h;refine ⟨_,(qf (qar (VW.pt (qhm (qdj (qdk (qol T.isinstance_ T.list_ L2.boot_list (qb 0)))) (qfg (qdj (qwi o_le o_le qe (qv qbd T.len_ L2.boot_len (qc (qb 0) qd)) (qgr T.MOST_GLASSES_)))))) qca qz)
   (qf (qbh rfl (qR (qb 0)) (qo (i:=1) qfa.nd) (qg (qfl (qw O_check_alike_stands.c hr.m (qc (qr (qb 0) qe) (qc (qb 1) qd))))))
   (qg (qbh rfl (qR (qb 0)) (qo (i:=1) qfa.nd) (qg (qfl (qw O_check_few_signs.c hr.m (qc (qb 1) qd)))))))),?_⟩
  have n1:=hS.n1;have n2:=hS.n2;have w1:=hS.w1;have lL:(((L.map dG).length:Nat):Int)=L.length:=by rw [Qe]
  obtain ⟨g0,L0,eL⟩:=Qq (show L≠[] from fun z=>by rw [z] at n1;simp at n1);have a0:atI (L.map dG) 0=some (dG g0):=by rw [eL];exact qbl _ _
  have G0:=hS.g g0 (by rw [eL];simp);refine iteY (decide_eq_true (by rw [lL];omega)) (iteN (decide_eq_true (by rw [lL];omega)) ?_);refine ⟨fun i e => ∃ t,e=[.val (.list (L.map dG)),t],⟨_,rfl⟩,?_,?_⟩
  ·rintro i x e hx ⟨t,rfl⟩;obtain ⟨g,hg,rfl⟩:=trow_get' hx;have G:=hS.g g (Qg hg);exact ⟨_,a0,g0.1,g0.2,g.1,g.2,rfl,by rw [G0.l,G.l],_,rfl⟩
  rintro e ⟨t,rfl⟩;refine ⟨fun i e => ∃ t,e=[.val (.list (L.map dG)),t],⟨_,rfl⟩,?_,?_⟩
  ·rintro i x e hx ⟨t,rfl⟩;obtain ⟨g,hg,rfl⟩:=trow_get' hx;have G:=hS.g g (Qg hg);obtain ⟨r0,R0,e0,l0⟩:=G.head (by omega);have:=G.m2;exact ⟨g.1,r0,R0,by rw [<- e0];rfl,by omega,_,rfl⟩
  rintro e ⟨t,rfl⟩;exact h
def qii (ds:List Qh) (q:Qh->Prop):Prop := ∃ ns:List Int,ds=[.list (ns.map .int)]/\((∀ n ∈ ns,n<=0)->q .none) /\ ∀ (c:Nat) (x:Int),ns[c]?=some x->0<x->(∀ j y,j<c->ns[j]?=some y->y<=0)->q (.int c)
def qez:FnScope ["numbers","place","number"] ["numbers"] (defScope qdq):=sc0
def qoo (F:Def K mg "first_above" qdq ["numbers"]) (T:Txt K mg cs)
 : Ok P w K mg base "first_above" 1 ["numbers"] (PSp K qii):=by
  refine F.vok qez (by rintro ds q ⟨_,h,_⟩;rw [h];rfl) fun f cdv A outer s H E hr ds q h=>?_;obtain ⟨ns,rfl,h1,h2⟩:=h;refine ⟨_,(qf (qbh rfl (qut T.enumerate_ (qb 0)) (qfc (n:=2) rfl (qJ (qo (i:=1) qez.nd) (qJ (qo (i:=2) qez.nd) qcy))) (qg (qar (qE qxk (qb 2) qe) (qg (qx (qb 1))) qz)))
   (qg (qx qre))),?_⟩
  refine ⟨fun i e => ∃ t1 t2,e=[.val (.list (ns.map .int)),t1,t2] /\ ∀ j y,j<i->ns[j]?=some y->y<=0,⟨_,_,rfl,fun j y hj=>by omega⟩,?_,?_⟩
  ·rintro i x e hx ⟨t1,t2,rfl,hI⟩;obtain ⟨x,hx',rfl⟩:=qja hx;obtain ⟨x,rfl,hx',_⟩:=qaj hx';refine ⟨rfl,rfl,qip (fun a=>h2 i x hx' a hI) (fun a=>⟨_,_,rfl,fun j y hj hy=>?_⟩)⟩;by_cases e:j=i
   ·subst e;rw [hx'] at hy;cases hy;omega
   ·exact hI j y (by omega) hy
  ·rintro e ⟨t1,t2,rfl,hI⟩;rw [qcb,Qe] at hI;refine h1 fun n hn=>?_;obtain ⟨j,hj,rfl⟩:=Qaj.mp hn;exact hI j _ hj (Qc hj)
def qdx:DC
 | [.int a,.int b],q=>q (.int (Ym a b))
 | _,_=>False
def zahg (x:Int):0<=(if x<0 then -x else x):=by split <;> omega
def qds:FnScope ["one","other","rest"] ["one","other"] (defScope qjl):=sc0
def qyj (F:Def K mg "divisor" qjl ["one","other"]) (T:Txt K mg cs)
 : Ok P w K mg base "divisor" 1 ["one","other"] (PSp K qdx):=by
  refine F.vok qds (fun ds q h=>by unfold qdx at h;split at h;all_goals first|rfl|exact h.elim) fun f cdv A outer s H E hr ds q h=>?_
  match ds,h with
  | [.int a,.int b],h =>
  refine ⟨_,(qf (qA (i:=0) qds.nd (qv zaij T.abs_ L2.boot_abs (qc (qb 0) qd)))
   (qf (qA (i:=1) qds.nd (qv zaij T.abs_ L2.boot_abs (qc (qb 1) qd)))
   (qf (qwb (qE (qpy hr.units) (qb 1) qe) (qf (qA (i:=2) qds.nd (qt qjh (qb 0) (qb 1)))
   (qf (qA (i:=0) qds.nd (qb 1))
   (qg (qA (i:=1) qds.nd (qb 2))))))
   (qg (qx (qb 0)))))),?_⟩
  refine ⟨fun m e => ∃ x y r,e=[.val (.int x),.val (.int y),r]/\0<=x/\0<=y/\J5 x.toNat y.toNat=Ym a b/\m=y.toNat,⟨_,_,_,_,rfl,zahg a,zahg b,zacz a b,rfl⟩,?_⟩;rintro m e ⟨x,y,r,rfl,hx,hy,hg,rfl⟩;refine ⟨rfl,rfl,qoj (fun hne=>?_) (fun he=>?_)⟩
  ·obtain ⟨t1,t2,t3⟩:=qww hx hy hne hg;exact ⟨by omega,(x%y).toNat,by omega,y,x%y,_,rfl,hy,t1,t3,rfl⟩
  ·subst he;have:=zaaa hx rfl hg;rw [this];exact h
def qte (ds:List Qh) (q:List Qh->Prop):Prop := ∃ ws:List Int,ds=[.list (ws.map .int)]/\(ws.length<=400/\0<qay 0 ws/\intBits (qay 0 ws:Int)<=9000)/\q ((ws.map fun x=>x/(qay 0 ws:Int)).map .int)
def qje:FnScope ["weights","common","weight"] ["weights"] (defScope qlq):=sc0
def zacs (F:Def K mg "lowest" qlq ["weights"]) (T:Txt K mg cs)
 (O_divisor:Ok P w K mg base "divisor" 1 ["one","other"] (PSp K qdx))
 : Ok P w K mg base "lowest" 2 ["weights"] (FSp K qte):=by
  refine F.vokF qje (by rintro ds q ⟨_,h,_⟩;rw [h];rfl) fun f cdv A outer s H E hr ds q h=>?_;obtain ⟨ws,rfl,⟨hl,g0,g1⟩,h⟩:=h;refine ⟨_,(qf (qA (i:=1) qje.nd qe)
   (qf (qbh rfl (qR (qb 0)) (qo (i:=2) qje.nd) (qg (qA (i:=1) qje.nd (qw O_divisor.c hr.m (qc (qb 1) (qc (qb 2) qd))))))
   (qg (qgg (qL (caps:=["common"]) (own:=["weight"]) (ix:=[1]) rfl ⟨rfl,rfl,rfl,rfl,rfl,rfl⟩ (qR (qb 0)) (fun _ _ _ _=>(qo (i:=1) (show Q4 (["common","weight"]:List Str) by decide))) (fun _ _ _ _=>(qt qjd (qb 1) (qb 0)))))))),?_⟩
  refine ⟨fun i e => ∃ t c,e=[.val (.list (ws.map .int)),.val (.int c),t]/\c=(qay 0 (ws.take i):Int),⟨_,_,rfl,rfl⟩,?_,?_⟩
  ·rintro i x e hx ⟨t,_,rfl,rfl⟩;obtain ⟨x,rfl,hx,_⟩:=qaj hx;refine ⟨_,_,rfl,?_⟩;rw [qsu hx,qss]
  ·rintro e ⟨t,_,rfl,rfl⟩;rw [Qe,Z0];refine qS ((ws.map fun x=>x/(qay 0 ws:Int)).map .int) (by simp) (qi (by simp;omega)) (fun e => ∃ s,e=[.val (.int (qay 0 ws)),s]) ⟨_,rfl⟩ ?_ ⟨_,rfl,h⟩;rintro i x ys e hx hys ⟨s,rfl⟩;obtain ⟨x,rfl,hx,_⟩:=qaj hx;refine ⟨⟨by omega,g1⟩,qq ?_ hys,_,rfl⟩;rw [Qa,Qa,hx];rfl
def tn (s:Int):Int:=if s<0 then -1 else 1
def qon (row:List Int) (s:Int) (k m:Nat):List Int:=(row++(Qm m).map (fun j=>if j=k then 1 else 0)++[s]).map fun x=>tn s*x
def qkd (ds:List Qh) (q:List Qh->Prop):Prop := ∃ (row:List Int) (s:Int) (k m:Nat),ds=[.list (row.map .int),.int s,.int k,.int m]/\(row.length<=400/\m<=400)/\q ((qon row s k m).map .int)
def qgd:FnScope ["row","total","k","many","turned","marks"] ["row","total","k","many"] (defScope qet):=sc0
def qrl (F:Def K mg "first_line" qet ["row","total","k","many"]) (T:Txt K mg cs)
 : Ok P w K mg base "first_line" 1 ["row","total","k","many"] (FSp K qkd):=by
  refine F.vokF qgd (by rintro ds q ⟨_,_,_,_,h,_⟩;rw [h];rfl) fun f cdv A outer s H E hr ds q h=>?_;obtain ⟨row,s,k,m,rfl,⟨hl,hm⟩,h⟩:=h;refine ⟨_,(qcz (qA (i:=4) qgd.nd (qgs (qE qyk (qb 1) qe) (qlk qe) qe))
   (qf (qpm (caps:=["k"]) (own:=["place"]) (ix:=[2]) (i:=5) qgd.nd rfl ⟨rfl,rfl,rfl,rfl,rfl,rfl⟩ (qC T.range_ (qb 3)) (fun _ _ _ _=>(qo (i:=1) (show Q4 (["k","place"]:List Str) by decide))) (fun _ _ _ _=>(qgs (qE (qmg hr.units) (qb 1) (qb 0)) qe qe)))
   (qg (qgg (qL (caps:=["turned"]) (own:=["number"]) (ix:=[4]) rfl ⟨rfl,rfl,rfl,rfl,rfl,rfl⟩ (qR (qy (qff (qy (qff (qy (qsl zaho T.list_ L2.boot_list (qc (qb 0) qd))) (qb 5))) (qy (qZ (qc (qb 1) qd)))))) (fun _ _ _ _=>(qo (i:=1) (show Q4 (["turned","number"]:List Str) by decide))) (fun _ _ _ _=>(qt qae (qb 0) (qb 1)))))))),?_⟩
  refine ⟨fun e=>e=[.val (.list (row.map .int)),.val (.int s),.val (.int k),.val (.int m),.val (.int (tn s)),.non],?_,?_⟩
  ·refine qip (fun a=>?_) (fun a=>?_)
   ·show _=_;unfold tn;rw [if_pos a];rfl
   ·show _=_;unfold tn;rw [if_neg a];rfl
  rintro e rfl;have hrl:(qua 0 (m:Int).toNat).length=m:=by rw [qs];omega
  refine ⟨⟨by omega,by omega⟩,qi (by rw [hrl];omega),fun j ys e=>ys=(((Qm m).map fun j=>if j=k then (1:Int) else 0).map Qw).take j /\ ∃ u,e=[.val (.int k),u],⟨by simp,_,rfl⟩,?_,?_⟩
  ·rintro i x ys e hx ⟨hys,u,rfl⟩;obtain ⟨hi,rfl⟩:=qU hx;have hi':i<m:=by omega
   have ge:(((Qm m).map fun j=>if j=k then (1:Int) else 0).map Qw)[i]?=some (.int (if i=k then 1 else 0)):=by
    rw [Qa,Qa,Qn hi'];rfl
   refine ⟨rfl,rfl,qgp (fun a=>⟨qq (ge.trans ?_) hys,_,rfl⟩) (fun a=>⟨qq (ge.trans ?_) hys,_,rfl⟩)⟩
   ·rw [if_pos (by omega)]
   ·rw [if_neg (by omega)]
  rintro ys e ⟨hys,u,rfl⟩;rw [hrl,Zf (by simp)] at hys;subst hys;have hall:row.map Qw++((Qm m).map fun j=>if j=k then (1:Int) else 0).map Qw++[Qw s]=(row++((Qm m).map fun j=>if j=k then (1:Int) else 0)++[s]).map Qw:=by
   rw [Q6,Q6];rfl
  refine ⟨qem (by simp;omega),szl,qem (by simp;omega),?_⟩;refine qS ((qon row s k m).map .int) (by simp [qon]) (qi (by simp [qon];omega)) (fun e => ∃ u,e=[.val (.int (tn s)),u]) ⟨_,rfl⟩ ?_ ⟨_,rfl,h⟩;rintro i x ys e hx hys ⟨u,rfl⟩;rw [hall] at hx;obtain ⟨x,rfl,hx,_⟩:=qaj hx;refine ⟨Vh (by unfold tn;split <;> decide),qq ?_ hys,_,rfl⟩;unfold qon;rw [Qa,Qa,hx];rfl
structure BAt (K:Qd) (C:Addr) (H F:Hp) (a dx qa:Addr) (n:Nat) (d:Int) (Ls:List (List Int)) (ss:List Int) (vl:V):Prop where
 ha:H a=some (.ins C dx [("unknowns",.int n),("bottom",.int d),("lines",vl),("stands_for",.ref qa)])
 hl:Is K F (.list (Ls.map qao)) vl
 hq:H qa=some (.lst (ss.map V.int))
 fa:F a=none
 fq:F qa=none
def BAt.flds {K:Qd}{C:Addr}{H F:Hp}{a dx qa:Addr}{n:Nat}{d:Int}{Ls:List (List Int)}{ss:List Int}{vl:V} (h:BAt K C H F a dx qa n d Ls ss vl) :
 Flds K (upd F qa (.lst (ss.map V.int))) [("unknowns",.int n),("bottom",.int d),("lines",vl),("stands_for",.ref qa)] bNm (bFs n d Ls ss):=by
  have s:Same F (upd F qa (.lst (ss.map V.int))):=qbx h.fq;refine ⟨rfl,fun f e hm=>?_⟩;unfold bFs at hm;simp only [Q1,Yu,or_false,Qkb] at hm;rcases hm with ⟨rfl,rfl⟩|⟨rfl,rfl⟩|⟨rfl,rfl⟩|⟨rfl,rfl⟩
  ·exact ⟨_,rfl,qO _⟩
  ·exact ⟨_,rfl,qO _⟩
  ·exact ⟨_,rfl,h.hl.mono s⟩
  ·exact ⟨_,rfl,qdo (SqL.of ql) (qiv ss)⟩
def bFs3 (n d:Int) (Ls:List (List Int)):List (Str×Qh):=[("unknowns",.int n),("bottom",.int d),("lines",.list (Ls.map qao))]
def BAt.flds3 {K:Qd}{C:Addr}{H F:Hp}{a dx qa:Addr}{n:Nat}{d:Int}{Ls:List (List Int)}{ss:List Int}{vl:V} (h:BAt K C H F a dx qa n d Ls ss vl) :
 Flds K F [("unknowns",.int n),("bottom",.int d),("lines",vl),("stands_for",.ref qa)] bNm (bFs3 n d Ls):=by
  refine ⟨rfl,fun f e hm=>?_⟩;unfold bFs3 at hm;simp only [Q1,Yu,or_false,Qkb] at hm;rcases hm with ⟨rfl,rfl⟩|⟨rfl,rfl⟩|⟨rfl,rfl⟩
  ·exact ⟨_,rfl,qO _⟩
  ·exact ⟨_,rfl,qO _⟩
  ·exact ⟨_,rfl,h.hl⟩
def qI (R:List (List Int)) (b:List Int):List (List Int):=(Qm R.length).map fun k=>qon ((R[k]?).getD []) ((b[k]?).getD 0) k R.length
def qfd (m:Nat):List Int:=(Qm m).map fun (k:Nat) => -(m:Int)+k
def zaht (K:Qd) (C:Addr):Sp:=fun vs H Q _ => ∃ (a dx:Addr) (F:Hp) (vr vb:V) (n:Nat) (R:List (List Int)) (b:List Int),vs=[.ref a,.int n,vr,vb]/\H a=some (.ins C dx [])/\F a=none/\Same F H/\Is K F (qeb R) vr/\Is K F (.list (b.map .int)) vb/\InPre n R b /\
 ∀ F' H' vl qa,H qa=none->GoX a qa F H F' H'->BAt K C H' F' a dx qa n 1 (qI R b) (qfd R.length) vl->Q .non H'
def qky:FnScope ["self","unknowns","rows","sums"] ["self","unknowns","rows","sums"] (defScope qbr):=sc0
def qlb (F:MDef K cs.Board "__init__" "Board.__init__" qbr ["self","unknowns","rows","sums"]) (T:Txt K mg cs)
 (O_first_line:Ok P w K mg base "first_line" 1 ["row","total","k","many"] (FSp K qkd))
 : OkM P w K mg base cs.Board "__init__" 2 ["self","unknowns","rows","sums"] (zaht K cs.Board):=by
  obtain ⟨f,fd,Fn,hm,hb⟩:=F.ex;refine ⟨f,fd,Fn.ok qky (by rintro vs H Q E ⟨_,_,_,_,_,_,_,_,h,_⟩;rw [h];rfl) fun cdv A outer s H vs Q E hr h=>?_,hm,hb⟩;obtain ⟨a,dx,F0,vr,vb,n,R,b,rfl,ha,fa,sm,hR,hbs,hp,kk⟩:=h;refine ⟨_,qM (qoi (pv 0) (pv 1) rfl) (qM (qoi (pv 0) qzd rfl) (qM (qoi (pv 0) (VE.pe (qy (qL (caps:=["rows","sums"]) (own:=["k"]) (ix:=[2,3]) rfl ⟨rfl,rfl,rfl,rfl,rfl,rfl⟩ (qC T.range_ (qv qbd T.len_ L2.boot_len (qc (qb 2) qd))) (fun _ _ _ _=>(qo (i:=2) (show Q4 (["rows","sums","k"]:List Str) by decide))) (fun _ _ _ _=>(qy (qlw O_first_line.c hr.m (qc (qr (qb 0) (qb 2)) (qc (qr (qb 1) (qb 2)) (qc (qb 2) (qc (qv qbd T.len_ L2.boot_len (qc (qb 0) qd)) qd)))))))))) rfl)
   (qhw (qoi (pv 0) (qjn (zacu rfl) rfl T.list_ L2.boot_list (qH (qjn zabu rfl T.range_ L2.boot_rng (qH (zalw zahp (qgq qgt rfl T.len_ L2.boot_len (qH (pv 2) qaw))) (qH qzd qaw))) qaw)) rfl)))),?_⟩
  refine ⟨.int n,rfl,.ref a,rfl,a,cs.Board,dx,[],rfl,ha,T.Board_c,T.Board_n_unknowns,(show 0<1000 by decide),?_⟩;refine ⟨.ref a,rfl,a,cs.Board,dx,[("unknowns",.int n)],rfl,ql,T.Board_c,T.Board_n_bottom,(show 1<1000 by decide),?_⟩;rw [qzx];have hm24:=hp.hm;have sF2 : ∀ o,Same F0 (upd H a o):=fun o c u e=>by rw [qk (qm e fa)];exact sm c u e
  have I3:=qhk (K:=K) (N:=["self","unknowns","rows","sums"]) (nm:=["unknowns","bottom"]) (fs:=[]) (C:=cs.Board) (a:=a) (dx:=dx) (us:=[("unknowns",.int n),("bottom",.int 1)]) (sF2 (.ins cs.Board dx [("unknowns",.int n),("bottom",.int 1)])) ql ⟨rfl,fun f d z=>by cases z⟩ (qB (qO (n:Int)) (qB hR (qB hbs qQ)));refine ⟨_,_,F0,fun dd e=>dd = .list ((qI R b).map qao),I3,?_,fun dd v F5 H5 e5 I5 s5 i5 q5=>?_⟩
  ·have hlen:(R.map qao).length=R.length:=Qe _;have hrl:(qua 0 (((R.map qao).length:Nat):Int).toNat).length=R.length:=by rw [qs,hlen];omega
   refine ⟨⟨by rw [hlen];omega,by rw [hlen];omega⟩,?_⟩;refine qS ((qI R b).map qao) (by rw [hrl];simp [qI]) (qi (by simp [qI];omega)) (fun e => ∃ u,e=[.val (qeb R),.val (.list (b.map .int)),u]) ⟨_,rfl⟩ ?_ rfl;rintro i x ys e hx hys ⟨u,rfl⟩;obtain ⟨hi,rfl⟩:=qU hx;have hi':i<R.length:=by rw [hlen] at hi;omega
   have eR:R[i]?=some ((R[i]?).getD []):=by rw [Qc hi'];rfl
   have eb:b[i]?=some ((b[i]?).getD 0):=by rw [Qc (by rw [hp.l];exact hi')];rfl
   have lr:=hp.w _ (Qg eR);have hn20:=hp.hn;rw [Vg];refine ⟨_,qP (by rw [Qa,eR];rfl),_,qP (by rw [Qa,eb];rfl),(R[i]?).getD [],(b[i]?).getD 0,i,(R.map qao).length,rfl,⟨by omega,by rw [hlen];omega⟩,qq ?_ hys,_,rfl⟩;unfold qI;rw [Qa,Qa,Qn hi',hlen];rfl
  subst q5;have fa5:F5 a=none:=by
   cases e:F5 a with
   | none=>rfl
   | some o=>rcases I5.new a o e with q|q
             ·have q:F0 a=some o:=q;rw [fa] at q;cases q
             ·have q:upd H a (.ins cs.Board dx [("unknowns",.int n),("bottom",.int 1)]) a=none:=q;rw [ql] at q;cases q
  have Ha5:=I5.bh.at ql;refine ⟨.ref a,rfl,a,cs.Board,dx,[("unknowns",.int n),("bottom",.int 1)],rfl,Ha5,T.Board_c,T.Board_n_lines,(show 2<1000 by decide),?_⟩;obtain ⟨lr,xs,rfl,hsq,hxs⟩:=hR.lst_inv;have lx:xs.length=R.length:=by rw [hxs.len,Qe]
  have s6 : ∀ o,Same F5 (upd H5 a o):=fun o c u e=>by rw [qk (qm e fa5)];exact I5.fh c u e
  refine ⟨.ref lr,rfl,lr,xs,rfl,.inl ((s5.trans (s6 _)).seq hsq),xs.length,rfl,_,_,rfl,fun l hl=>?_⟩;refine ⟨l,-(xs.length:Int),0,rfl,ql,⟨by omega,by omega,by decide,by decide⟩,by omega,fun l2 hl2=>?_⟩;have la:l≠a:=fun z=>by rw [z,ql] at hl;cases hl
  have l2l:l2≠l:=fun z=>by rw [z,ql] at hl2;cases hl2
  rw [qk l2l] at hl2;have l2a:l2≠a:=fun z=>by rw [z,ql] at hl2;cases hl2
  rw [qk l2a] at hl2;rw [qk la] at hl;have hH:H l2=none:=by
   have:=qF I5.bh hl2;have this:upd H a _ l2=none:=this;rw [qk l2a] at this;exact this
  have fl:=qF I5.fh hl;have fl2:=qF I5.fh hl2;refine ⟨.ref a,rfl,a,cs.Board,dx,[("unknowns",.int n),("bottom",.int 1),("lines",v)],rfl,by rw [qk (Z1 l2a),qk (Z1 la)];exact ql,T.Board_c,T.Board_n_stands_for,(show 3<1000 by decide),?_⟩;refine kk F5 _ v l2 hH ⟨s5,fun c o c1 c2 e=>?_,fun c o e=>?_,fun c o e=>?_⟩ ⟨ql,i5,?_,fa5,fl2⟩
  ·have h5:Kp o (H5 c):=I5.bh c o (by show upd H a _ c=_;rw [qk c1];exact e);obtain ⟨o',e5⟩ : ∃ o',H5 c=some o':=I5.bh.any (b:=c) (o:=o) (by show upd H a _ c=_;rw [qk c1];exact e);rw [qk c1,qk c2,qk (qm e5 hl),qk c1];exact h5
  ·rw [qk (qm e fa5),qk (qm e fl2),qk (qm e fl),qk (qm e fa5)];exact I5.fh c o e
  ·rcases I5.new c o e with q|q
   ·exact .inl q
   ·have q:upd H a _ c=none:=q;rw [qk (qm e fa5)] at q;exact .inr q
  ·rw [qk l2a,ql];have e:(0 - -(xs.length:Int)).toNat=R.length:=by omega
   rw [e,lx];unfold rngV qfd;rw [Vf];rfl
def zagp {α β γ:Type}{g:α->β->γ}{a:List α}{b:List β}{i:Nat}{x:α}{y:β} (h1:a[i]?=some x) (h2:b[i]?=some y):(Qch g a b)[i]?=some (g x y):=by
 rw [Ja,h1,h2]
def qN (Ls:List (List Int)) (ss:List Int) (i j:Nat):Int:=qj i fun k=>if (ss[k]?).getD 0<0 then at2 Ls k j else 0
def qur (nm:List Str) (fs:List (Str×Qh)) (ds:List Qh) (q:List Qh->Prop):Prop := ∃ (n:Nat) (d:Int) (Ls:List (List Int)) (ss:List Int) (m:Nat),nm=bNm/\fs=bFs n d Ls ss/\ds=[]/\(Bd m (n+m+1) Ls ss/\n<=20/\m<=24)/\q (((Qm (n+m+1)).map (qN Ls ss m)).map .int)
def qcf:FnScope ["self","total","line","unknown"] ["self"] (defScope qen):=sc0
def qrw (F:MDef K cs.Board "lack" "Board.lack" qen ["self"]) (T:Txt K mg cs)
 : OkM P w K mg base cs.Board "lack" 1 ["self"] (OFSp K cs.Board qur):=by
  refine F.vokF qcf (by rintro nm fs ds q ⟨_,_,_,_,_,_,_,h,_⟩;rw [h];rfl) fun f cdv A outer s H E hr a0 nm fs ds q h=>?_;obtain ⟨n,d,Ls,ss,m,rfl,rfl,rfl,⟨hB,hn,hm⟩,h⟩:=h;refine ⟨_,(qf (qma (caps:=[]) (own:=["number"]) (ix:=[]) (i:=1) qcf.nd rfl ⟨rfl,rfl,rfl,rfl,rfl,rfl⟩ (qC T.range_ (qt qcc (qt qcc (qcu 0 T.Board_c T.Board_n_unknowns) (qv qbd T.len_ L2.boot_len (qc (qcu 0 T.Board_c T.Board_n_lines) qd))) qe)) (fun _ _ _ _=>(qo (i:=0) (show Q4 (["number"]:List Str) by decide))) (fun _ _ _ _=>qe))
   (qf (qbh rfl (qhu T.zip_ (qcu 0 T.Board_c T.Board_n_lines) (qcu 0 T.Board_c T.Board_n_stands_for)) (qfc (n:=2) rfl (qJ (qo (i:=2) qcf.nd) (qJ (qo (i:=3) qcf.nd) qcy))) (qg (qar (qE qyk (qb 3) qe) (qhz 1 (qg (qma (caps:=[]) (own:=["one","other"]) (ix:=[]) (i:=1) qcf.nd rfl ⟨rfl,rfl,rfl,rfl,rfl,rfl⟩ (qhu T.zip_ (qb 1) (qb 2)) (fun _ _ _ _=>(qfc (n:=2) rfl (qJ (qo (i:=0) (show Q4 (["one","other"]:List Str) by decide)) (qJ (qo (i:=1) (show Q4 (["one","other"]:List Str) by decide)) qcy)))) (fun _ _ _ _=>(qt qcc (qb 0) (qb 1)))))) qz)))
   (qg (qtv 1)))),?_⟩
  have hlen:(Ls.map qao).length=m:=by rw [Qe,hB.l]
  refine ⟨rfl,_,rfl,rfl,_,rfl,⟨by rw [hlen];omega,by rw [hlen];omega⟩,?_⟩;have hrl:(qua 0 ((n:Int)+((Ls.map qao).length:Nat)+1).toNat).length=n+m+1:=by rw [qs,hlen];omega
  refine ⟨qi (by rw [hrl];omega),fun k ys e=>ys=(Zb (n+m+1) (.int 0)).take k /\ ∃ u,e=[u],⟨by simp,_,rfl⟩,?_,?_⟩
  ·rintro i x ys e hx ⟨hys,s,rfl⟩;obtain ⟨hi,rfl⟩:=qU hx;rw [hlen] at hi;exact ⟨qq (by rw [Vr,if_pos (by omega)]) hys,_,rfl⟩
  rintro ys e ⟨hys,u,rfl⟩;rw [hrl,Zf (by rw [Vj];omega)] at hys;subst hys;have nx1 : ∀ i,(ss[i]?).getD 0<0 -> ∀ j,qN Ls ss (i+1) j=qN Ls ss i j+at2 Ls i j:=fun i a j=>by
   show qN Ls ss i j+(if _ then _ else _)=_;rw [if_pos a]
  have nx2 : ∀ i,¬ (ss[i]?).getD 0<0->qN Ls ss (i+1)=qN Ls ss i:=fun i a=>by
   funext j
   show qN Ls ss i j+(if _ then _ else _)=_;rw [if_neg a];omega
  refine ⟨rfl,_,rfl,rfl,_,rfl,fun i e => ∃ t1 t2 l,e=[.obj a0 cs.Board bNm (bFs n d Ls ss),.own l,t1,t2]/\l=((Qm (n+m+1)).map (qN Ls ss i)).map .int,⟨_,_,_,rfl,?_⟩,?_,?_⟩
  ·refine (List.eq_replicate_iff.mpr ⟨by simp,fun x hx=>?_⟩).symm;obtain ⟨y,hy,rfl⟩:=Qr.mp hx;obtain ⟨j,_,rfl⟩:=Qr.mp hy;rfl
  ·rintro i x e hx ⟨t1,t2,l,rfl,rfl⟩;obtain ⟨x,y,h3,h4,rfl⟩:=qfq hx;obtain ⟨u,rfl,hu,_⟩:=qaj h4;obtain ⟨r,er,rfl⟩ : ∃ r,Ls[i]?=some r/\qao r=x:=by
    rw [Qa] at h3;cases q:Ls[i]? with
    | none=>rw [q] at h3;cases h3
    | some r=>rw [q] at h3;exact ⟨r,rfl,Qx h3⟩
   have es:(ss[i]?).getD 0=u:=by rw [hu];rfl
   have lr:r.length=n+m+1:=hB.w r (Qg er);refine ⟨rfl,rfl,qip (fun a=>?_) (fun a=>?_)⟩
   ·have hzl:(zipD (((Qm (n+m+1)).map (qN Ls ss i)).map .int) (r.map .int)).length=n+m+1:=by rw [qbw];simp;omega
    refine ⟨qi (by rw [hzl];omega),fun k ys e=>ys=((((Qm (n+m+1)).map (qN Ls ss (i+1))).map Qw)).take k /\ ∃ s t,e=[s,t],⟨by simp,_,_,rfl⟩,?_,?_⟩
    rotate_left
    ·rintro ys e ⟨hys,s,t,rfl⟩;rw [hzl,Zf (by simp)] at hys;exact ⟨_,_,_,rfl,hys⟩
    rintro j z ys e hz ⟨hys,s,t,rfl⟩;obtain ⟨x,y,h5,h6,rfl⟩:=qfq hz;obtain ⟨x,rfl,h5,_⟩:=qaj h5;obtain ⟨y,rfl,h6,_⟩:=qaj h6;have hj:j<n+m+1:=by rw [<- lr];exact (Qk.mp h6).1
    have e1:x=qN Ls ss i j:=by
     rw [Qa,Qn hj] at h5;exact (Qx h5).symm
    have e2:y=at2 Ls i j:=by
     have:=(hB.at er hj).1;rw [h6] at this;exact Qx this
    refine ⟨rfl,rfl,qq ?_ hys,_,_,rfl⟩;rw [Qa,Qa,Qn hj,e1,e2];show some (Qw (qN Ls ss (i+1) j))=_;rw [nx1 i (by rw [es];exact a) j]
   ·exact ⟨_,_,_,rfl,by rw [nx2 i (by rw [es];exact a)]⟩
  ·rintro e ⟨t1,t2,l,rfl,rfl⟩;rw [qbw,hlen,Qe,hB.s,Qhx];exact ⟨_,rfl,h⟩
def qke (nm:List Str) (fs:List (Str×Qh)) (ds:List Qh) (q:Qh->Prop):Prop := ∃ (n d:Int) (Ls:List (List Int)) (ss:List Int) (m w k c p:Nat),nm=bNm/\fs=bFs n d Ls ss/\ds=[.int k,.int c,.int p]/\(Bd m w Ls ss/\k<m/\c<m/\p<w)/\q (.bool (qib Ls ss w k c p))
def qbv:FnScope ["self","k","chosen","place","one","other"] ["self","k","chosen","place"] (defScope qbb):=sc0
def qix (F:MDef K cs.Board "is_tighter" "Board.is_tighter" qbb ["self","k","chosen","place"]) (T:Txt K mg cs)
 : OkM P w K mg base cs.Board "is_tighter" 1 ["self","k","chosen","place"] (OSp K cs.Board qke):=by
  refine F.vok qbv (by rintro nm fs ds q ⟨_,_,_,_,_,_,_,_,_,_,_,h,_⟩;rw [h];rfl) fun f cdv A outer s H E hr a0 nm fs ds q h=>?_;obtain ⟨n,d,Ls,ss,m,w,k,c,p,rfl,rfl,rfl,⟨hB,hk,hc,hp⟩,h⟩:=h;refine ⟨_,(qf (qA (i:=4) qbv.nd (qt qae (qr (qr (qcu 0 T.Board_c T.Board_n_lines) (qb 1)) (qlk qe)) (qr (qr (qcu 0 T.Board_c T.Board_n_lines) (qb 2)) (qb 3))))
   (qf (qA (i:=5) qbv.nd (qt qae (qr (qr (qcu 0 T.Board_c T.Board_n_lines) (qb 2)) (qlk qe)) (qr (qr (qcu 0 T.Board_c T.Board_n_lines) (qb 1)) (qb 3))))
   (qg (qx (zalv (qkc qyk (qb 4) (qb 5)) (qll (qrg (qkc (qmg hr.units) (qb 4) (qb 5)) (qll (qkc qyk (qr (qcu 0 T.Board_c T.Board_n_stands_for) (qb 1)) (qr (qcu 0 T.Board_c T.Board_n_stands_for) (qb 2))))))))))),?_⟩
  obtain ⟨r,er,ar,lr⟩:=hB.row (k:=(k:Int)) (by omega) (by omega);obtain ⟨t,et,at',lt⟩:=hB.row (k:=(c:Int)) (by omega) (by omega);have er:Ls[k]?=some r:=er;have et:Ls[c]?=some t:=et;obtain ⟨r1,r2⟩:=hB.at er (j:=w-1) (by omega);obtain ⟨r3,r4⟩:=hB.at er hp;obtain ⟨t1,t2⟩:=hB.at et (j:=w-1) (by omega);obtain ⟨t3,t4⟩:=hB.at et hp;have gi : ∀ {l:List Int}{j:Nat}{x:Int},l[j]?=some x->(l.map Qw)[j]?=some (.int x):=fun e=>by rw [Qa,e];rfl
  have hs:=hB.s;have sk:ss[k]?=some ((ss[k]?).getD 0):=by rw [Qc (by omega)];rfl
  have sc:ss[c]?=some ((ss[c]?).getD 0):=by rw [Qc (by omega)];rfl
  refine ⟨rfl,_,rfl,_,ar,.int (at2 Ls k (w-1)),atI_last (by rw [Qe,lr];exact gi r1),rfl,_,rfl,_,at',_,qP (gi t3),qkv (qu r2 (by decide)) (qu t4 (by decide)),?_⟩;refine ⟨rfl,_,rfl,_,at',.int (at2 Ls c (w-1)),atI_last (by rw [Qe,lt];exact gi t1),rfl,_,rfl,_,ar,_,qP (gi r3),qkv (qu t2 (by decide)) (qu r4 (by decide)),?_⟩;have hq : ∀ b:Bool,b=qib Ls ss w k c p->q (.bool b):=fun b e=>by rw [e];exact h
  refine qip (fun a=>hq _ ?_) (fun a=>?_)
  ·unfold qib;rw [decide_eq_true a];rfl
  ·have af:decide (at2 Ls k (w-1)*at2 Ls c p<at2 Ls c (w-1)*at2 Ls k p)=false:=decide_eq_false a;refine ⟨rfl,rfl,qgp (fun e=>?_) (fun e=>hq _ ?_)⟩
   ·refine ⟨rfl,_,rfl,_,qP (gi sk),rfl,_,rfl,_,qP (gi sc),hq _ ?_⟩;unfold qib;rw [af,decide_eq_true e];rfl
   ·unfold qib;rw [af,decide_eq_false e];rfl
def qnm (nm:List Str) (fs:List (Str×Qh)) (ds:List Qh) (q:Qh->Prop):Prop := ∃ (n d:Int) (Ls:List (List Int)) (ss:List Int) (m w p:Nat),nm=bNm/\fs=bFs n d Ls ss/\ds=[.int p]/\(Bd m w Ls ss/\p<w/\m<=900 /\ ∃ k,k<m/\0<at2 Ls k p) /\ ∀ r,r<m->Tg Ls ss w p m r->q (.int r)
def TgI (Ls:List (List Int)) (ss:List Int) (w p i:Nat) (c:Qh):Prop:=(c = .none /\ ∀ k,k<i -> ¬ 0<at2 Ls k p) \/ ∃ r:Nat,c = .int r/\r<i/\Tg Ls ss w p i r
def qan:FnScope ["self","place","chosen","k","line"] ["self","place"] (defScope qbq):=sc0
def qla (F:MDef K cs.Board "tightest" "Board.tightest" qbq ["self","place"]) (T:Txt K mg cs)
 (O_Board_is_tighter:OkM P w K mg base cs.Board "is_tighter" 1 ["self","k","chosen","place"] (OSp K cs.Board qke))
 : OkM P w K mg base cs.Board "tightest" 2 ["self","place"] (OSp K cs.Board qnm):=by
  refine F.vok qan (by rintro nm fs ds q ⟨_,_,_,_,_,_,_,_,_,h,_⟩;rw [h];rfl) fun f cdv A outer s H E hr a0 nm fs ds q h=>?_;obtain ⟨n,d,Ls,ss,m,w,p,rfl,rfl,rfl,⟨hB,hp,hm,k0,hk0,z0⟩,h⟩:=h;refine ⟨_,(qf (qA (i:=2) qan.nd qre)
   (qf (qbh rfl (qut T.enumerate_ (qcu 0 T.Board_c T.Board_n_lines)) (qfc (n:=2) rfl (qJ (qo (i:=3) qan.nd) (qJ (qo (i:=4) qan.nd) qcy))) (qg (qar (VW.pt (zahi (qE qxk (qr (qb 4) (qb 1)) qe) (zabl (VW.pt (qhm (qE zamd (qb 2) qre) (qfg (qdk (zalk 0 O_Board_is_tighter T.Board_c hr.m (qc (qb 3) (qc (qb 2) (qc (qb 1) qd))))))))))) (qg (qA (i:=2) qan.nd (qb 3))) qz)))
   (qg (qx (qb 2))))),?_⟩
  refine ⟨rfl,_,rfl,fun i e => ∃ t1 t2 c,e=[.obj a0 cs.Board bNm (bFs n d Ls ss),.val (.int p),.val c,t1,t2]/\TgI Ls ss w p i c,⟨_,_,_,rfl,.inl ⟨rfl,fun k hk=>by omega⟩⟩,?_,?_⟩
  ·rintro i x e hx ⟨t1,t2,c,rfl,hI⟩;obtain ⟨x,hx',rfl⟩:=qja hx;clear hx;obtain ⟨r,er,rfl⟩ : ∃ r,Ls[i]?=some r/\qao r=x:=by
    rw [Qa] at hx';cases q:Ls[i]? with
    | none=>rw [q] at hx';cases hx'
    | some r=>rw [q] at hx';exact ⟨r,rfl,Qx hx'⟩
   have him:i<m:=by rw [<- hB.l];exact (Qk.mp er).1
   obtain ⟨r3,_⟩:=hB.at er hp;refine ⟨rfl,rfl,_,qP (by rw [Qa,r3];rfl),?_⟩;refine qip (fun a=>?_) (fun a=>?_)
   ·rcases hI with ⟨rfl,z⟩|⟨r',rfl,hr',ht⟩
    ·exact ⟨rfl,_,_,_,rfl,.inr ⟨i,rfl,by omega,Tg.first z a⟩⟩
    ·refine ⟨rfl,rfl,rfl,rfl,n,d,Ls,ss,m,w,i,r',p,rfl,rfl,rfl,⟨hB,him,by omega,hp⟩,iteB (fun t=>?_) (fun t=>?_)⟩
     ·exact ⟨_,_,_,rfl,.inr ⟨i,rfl,by omega,ht.take a t⟩⟩
     ·exact ⟨_,_,_,rfl,.inr ⟨r',rfl,by omega,ht.stay t⟩⟩
   ·refine ⟨_,_,_,rfl,?_⟩;rcases hI with ⟨rfl,z⟩|⟨r',rfl,hr',ht⟩
    ·exact .inl ⟨rfl,fun k hk=>by
      by_cases e:k=i
      ·subst e;exact a
      ·exact z k (by omega)⟩
    ·exact .inr ⟨r',rfl,by omega,ht.skip a⟩
  ·rintro e ⟨t1,t2,c,rfl,hI⟩;rw [qcb,Qe,hB.l] at hI;rcases hI with ⟨_,z⟩|⟨r,rfl,hr',ht⟩
   ·exact (z k0 hk0 z0).elim
   ·exact h r hr' ht
def qxd (r t:List Int) (p:Nat) (d:Int):List Int:=Qch (fun x y=>(x*(t[p]?).getD 0-(r[p]?).getD 0*y)/d) r t
def qpr (ds:List Qh) (q:List Qh->Prop):Prop := ∃ (r t:List Int) (p:Nat) (d:Int),ds=[.list (r.map .int),.list (t.map .int),.int p,.int d]/\(r.length=t.length/\p<r.length/\r.length<=900/\0<d/\intBits d<=2000/\(∀ x ∈ r,intBits x<=2000) /\ ∀ x ∈ t,intBits x<=2000)/\q ((qxd r t p d).map .int)
def qyu:FnScope ["line","pivot","place","bottom"] ["line","pivot","place","bottom"] (defScope qjg):=sc0
def qyi (F:Def K mg "cleared" qjg ["line","pivot","place","bottom"]) (T:Txt K mg cs)
 : Ok P w K mg base "cleared" 1 ["line","pivot","place","bottom"] (FSp K qpr):=by
  refine F.vokF qyu (by rintro ds q ⟨_,_,_,_,h,_⟩;rw [h];rfl) fun f cdv A outer s H E hr ds q h=>?_;obtain ⟨r,t,p,d,rfl,⟨hl,hp,hz,d0,d1,zr,zt⟩,h⟩:=h;refine ⟨_,(qg (qgg (qL (caps:=["line","pivot","place","bottom"]) (own:=["one","other"]) (ix:=[0,1,2,3]) rfl ⟨rfl,rfl,rfl,rfl,rfl,rfl⟩ (qhu T.zip_ (qb 0) (qb 1)) (fun _ _ _ _=>(qfc (n:=2) rfl (qJ (qo (i:=4) (show Q4 (["line","pivot","place","bottom","one","other"]:List Str) by decide)) (qJ (qo (i:=5) (show Q4 (["line","pivot","place","bottom","one","other"]:List Str) by decide)) qcy)))) (fun _ _ _ _=>(qt qjd (qt qks (qt qae (qb 4) (qr (qb 1) (qb 2))) (qt qae (qr (qb 0) (qb 2)) (qb 5))) (qb 3)))))),?_⟩;have er:r[p]?=some ((r[p]?).getD 0):=by rw [Qc hp];rfl
  have et:t[p]?=some ((t[p]?).getD 0):=by rw [Qc (by omega)];rfl
  have z1:=zr _ (Qg er);have z2:=zt _ (Qg et);refine qS ((qxd r t p d).map .int) (by rw [qbw];simp [qxd]) (qi (by simp [qxd];omega)) (fun e => ∃ s u,e=[.val (.list (r.map .int)),.val (.list (t.map .int)),.val (.int p),.val (.int d),s,u]) ⟨_,_,rfl⟩ ?_ ⟨_,rfl,h⟩;rintro i x ys e hx hys ⟨s,u,rfl⟩;obtain ⟨x,y,h3,h4,rfl⟩:=qfq hx;obtain ⟨x,rfl,h3,m3⟩:=qaj h3;obtain ⟨y,rfl,h4,m4⟩:=qaj h4;refine ⟨rfl,rfl,.int ((t[p]?).getD 0),qP (by rw [Qa,et];rfl),qkv (qu (zr x m3) (by decide)) (qu z2 (by decide)),.int ((r[p]?).getD 0),qP (by rw [Qa,er];rfl),qkv (qu z1 (by decide)) (qu (zt y m4) (by decide)),⟨d0,qu d1 (by decide)⟩,qq ?_ hys,_,_,rfl⟩;unfold qxd;rw [Qa,zagp h3 h4];rfl
def qom (Ls:List (List Int)) (r p:Nat) (d:Int):List (List Int):=Ls.mapIdx fun k line=>if k=r then line else qxd line ((Ls[r]?).getD []) p d
structure BrPre (n:Nat) (d:Int) (Ls:List (List Int)) (ss:List Int) (m p:Nat):Prop where
 b:Bd m (n+m+1) Ls ss
 hp:p<n
 hm:m<=24
 hn:n<=20
 d0:0<d
 d1:intBits d<=2000
 hk : ∃ k,k<m/\0<at2 Ls k p
def zabm (K:Qd) (C:Addr):Sp:=fun vs H Q _ => ∃ (a dx qa:Addr) (F:Hp) (vl:V) (n:Nat) (d:Int) (Ls:List (List Int)) (ss:List Int) (m p:Nat),vs=[.ref a,.int p]/\BAt K C H F a dx qa n d Ls ss vl/\Same F H/\BrPre n d Ls ss m p /\
 ∀ F' H' vl' r,r<m->Tg Ls ss (n+m+1) p m r->GoX a qa F H F' H'->BAt K C H' F' a dx qa n (at2 Ls r p) (qom Ls r p d) (ss.set r p) vl'->Q .non H'
def qbj:FnScope ["self","place","turn","pivot","bottom"] ["self","place"] (defScope qbn):=sc0
def qkx (F:MDef K cs.Board "bring_in" "Board.bring_in" qbn ["self","place"]) (T:Txt K mg cs)
 (O_Board_tightest:OkM P w K mg base cs.Board "tightest" 2 ["self","place"] (OSp K cs.Board qnm))
 (O_cleared:Ok P w K mg base "cleared" 1 ["line","pivot","place","bottom"] (FSp K qpr))
 : OkM P w K mg base cs.Board "bring_in" 3 ["self","place"] (zabm K cs.Board):=by
  obtain ⟨f,fd,Fn,hm,hb⟩:=F.ex;refine ⟨f,fd,Fn.ok qbj (by rintro vs H Q E ⟨_,_,_,_,_,_,_,_,_,_,_,h,_⟩;rw [h];rfl) fun cdv A outer s H vs Q E hr h=>?_,hm,hb⟩;obtain ⟨a,dx,qa,F0,vl,n,d,Ls,ss,m,p,rfl,hA,sm,hp,kk⟩:=h;obtain ⟨f1,fd1,F1,hm1,hb1⟩:=O_Board_tightest.ex;refine ⟨_,qM (qgo (i:=2) qbj.nd rfl (by first|exact Yn rfl|exact Zz rfl) (quj (pv 0) T.Board_c hm1 F1 hr.m hb1 .nil qqe (qH (pv 1) qaw)) rfl (by first|exact .inl rfl|exact .inr rfl))
   (qM (qgo (i:=3) qbj.nd rfl (by first|exact Yn rfl|exact Zz rfl) (zadn qpz (qvi (pv 0) rfl) (pv 2) (fun _ _=>rfl)) rfl (by first|exact .inl rfl|exact .inr rfl))
   (qM (qgo (i:=4) qbj.nd rfl (by first|exact Yn rfl|exact Zz rfl) (qvi (pv 0) rfl) rfl (by first|exact .inl rfl|exact .inr rfl))
   (qM (qoi (pv 0) (VE.pe (qy (qL (caps:=["place","turn","pivot","bottom"]) (own:=["k","line"]) (ix:=[1,2,3,4]) rfl ⟨rfl,rfl,rfl,rfl,rfl,rfl⟩ (qut T.enumerate_ (qcu 0 T.Board_c T.Board_n_lines)) (fun _ _ _ _=>(qfc (n:=2) rfl (qJ (qo (i:=4) (show Q4 (["place","turn","pivot","bottom","k","line"]:List Str) by decide)) (qJ (qo (i:=5) (show Q4 (["place","turn","pivot","bottom","k","line"]:List Str) by decide)) qcy)))) (fun _ _ _ _=>(qgs (qE (qmg hr.units) (qb 4) (qb 1)) (qb 5) (qy (qlw O_cleared.c hr.m (qc (qb 5) (qc (qb 2) (qc (qb 0) (qc (qb 3) qd))))))))))) rfl)
   (qM (qzj (pv 1) (zahv (qvi (pv 0) rfl) (pv 2) qwt (by intro _;rfl)) rfl rfl rfl)
   (qhw (qoi (pv 0) (zadn qpz (pv 3) (pv 1) (fun _ _=>rfl)) rfl)))))),?_⟩
  have hB:=hp.b;have p0:=hp.hp;have sF1:Same (upd F0 qa (.lst (ss.map V.int))) H:=qlu sm hA.hq;refine ⟨.ref a,rfl,a,dx,_,rfl,hA.ha,rfl,.int p,rfl,a,dx,_,[.int p],_,bNm,bFs n d Ls ss,[.int p],fun dd => ∃ r:Nat,r<m/\Tg Ls ss (n+m+1) p m r/\dd = .int r,rfl,hA.ha,sF1,hA.flds,qB (qO _) qQ,
   ⟨n,d,Ls,ss,m,n+m+1,p,rfl,rfl,rfl,⟨hB,by omega,by have:=hp.hm;omega,hp.hk⟩,fun r h1 h2=>⟨r,h1,h2,rfl⟩⟩,fun dd v F2 H2 g i2 q2=>?_⟩
  obtain ⟨r,hr',ht,rfl⟩:=q2;have ev:=i2.int_inv;subst ev;have sH:Same H H2:=g.h;have sF0:Same F0 H2:=sm.trans sH;obtain ⟨la,xs,rfl,hsq,hxs⟩:=hA.hl.lst_inv;obtain ⟨t,et,_,lt⟩:=hB.row (k:=(r:Int)) (by omega) (by omega);have et:Ls[r]?=some t:=et;obtain ⟨xr,exr,ixr⟩:=hxs.get (i:=r) (d:=qao t) (by rw [Qa,et];rfl);refine ⟨.ref a,rfl,a,cs.Board,dx,_,.ref la,rfl,sH.at hA.ha,T.Board_c,T.Board_n_lines,rfl,.int r,rfl,la,xs,r,xr,rfl,rfl,sF0.seq hsq,qP exr,?_⟩;refine ⟨.ref a,rfl,a,cs.Board,dx,_,.int d,rfl,sH.at hA.ha,T.Board_c,T.Board_n_bottom,rfl,?_⟩;have A2:BAt K cs.Board H2 F0 a dx qa n d Ls ss (.ref la):=⟨sH.at hA.ha,hA.hl,sH.at hA.hq,hA.fa,hA.fq⟩
  have I4:=qhk (K:=K) (N:=["self","place","turn","pivot","bottom"]) sF0 A2.ha A2.flds3 (qB (qO (p:Int)) (qB (qO (r:Int)) (qB ixr (qB (qO d) qQ))));refine ⟨⟨H2,H2,F0⟩,_,F0,fun dd e=>dd = .list ((qom Ls r p d).map qao),I4,?_,fun dd v F5 H5 e5 I5 s5 i5 q5=>?_⟩
  ·refine ⟨rfl,_,rfl,?_⟩;have hlen:Ls.length=m:=hB.l;have hm24:=hp.hm;refine qS ((qom Ls r p d).map qao) (by rw [qcb];simp [qom]) (qi (by simp [qom];omega)) (fun e => ∃ s u,e=[.val (.int p),.val (.int r),.val (qao t),.val (.int d),s,u]) ⟨_,_,rfl⟩ ?_ rfl;rintro i x ys e hx hys ⟨s,u,rfl⟩;obtain ⟨x,hx',rfl⟩:=qja hx;obtain ⟨l,el,rfl⟩ : ∃ l,Ls[i]?=some l/\qao l=x:=by
    rw [Qa] at hx';cases q:Ls[i]? with
    | none=>rw [q] at hx';cases hx'
    | some l=>rw [q] at hx';exact ⟨l,rfl,Qx hx'⟩
   have ll:=hB.w l (Qg el);have hn20:=hp.hn;have ge:((qom Ls r p d).map qao)[i]?=some (qao (if i=r then l else qxd l t p d)):=by
    unfold qom;rw [Qa,Qfy,el,et];rfl
   refine ⟨rfl,rfl,rfl,rfl,qgp (fun e=>⟨qq ?_ hys,_,_,rfl⟩) (fun e=>⟨l,t,p,d,rfl,⟨by omega,by omega,by omega,hp.d0,hp.d1,hB.z l (Qg el),hB.z t (Qg et)⟩,qq ?_ hys,_,_,rfl⟩)⟩
   ·rw [ge,if_pos (by omega)]
   ·rw [ge,if_neg (by omega)];rfl
  subst q5;have qne:qa≠a:=fun z=>by have:=hA.hq;rw [z,hA.ha] at this;cases this
  have Ha5:=I5.bh.at A2.ha;have Hq5:=I5.bh.at A2.hq;have fa5:F5 a=none:=by
   cases e:F5 a with
   | none=>rfl
   | some o=>rcases I5.new a o e with q|q
             ·have q:F0 a=some o:=q;rw [hA.fa] at q;cases q
             ·have q:H2 a=none:=q;rw [A2.ha] at q;cases q
  have fq5:F5 qa=none:=by
   cases e:F5 qa with
   | none=>rfl
   | some o=>rcases I5.new qa o e with q|q
             ·have q:F0 qa=some o:=q;rw [hA.fq] at q;cases q
             ·have q:H2 qa=none:=q;rw [A2.hq] at q;cases q
  obtain ⟨lb,ys,rfl,hsq2,hys⟩:=ixr.lst_inv;have eys:=hys.ints_inv;subst eys;obtain ⟨t3,_⟩:=hB.at et (j:=p) (by omega);refine ⟨.ref a,rfl,a,cs.Board,dx,_,rfl,Ha5,T.Board_c,T.Board_n_lines,(show 4<1000 by decide),?_⟩;refine ⟨.int p,rfl,.ref a,rfl,a,cs.Board,dx,_,.ref qa,rfl,ql,T.Board_c,T.Board_n_stands_for,rfl,.int r,rfl,qa,ss.map V.int,r,r,rfl,rfl,?_,?_,?_⟩
  ·rw [qk qne];exact Hq5
  ·rw [Qe,hB.s];exact zahh (by omega) (by omega)
  have sF7 : ∀ o1 o2,Same F5 (upd (upd H5 a o1) qa o2):=fun o1 o2 b u e=>by
   rw [qk (qm e fq5),qk (qm e fa5)];exact I5.fh b u e
  refine ⟨.ref lb,rfl,.int p,rfl,lb,t.map V.int,p,.int (at2 Ls r p),rfl,rfl,((s5.trans (sF7 _ _)).seq hsq2),qP (by rw [Qa,t3];rfl),?_⟩;refine ⟨.ref a,rfl,a,cs.Board,dx,[("unknowns",.int n),("bottom",.int d),("lines",v),("stands_for",.ref qa)],rfl,by rw [qk (Z1 qne)];exact ql,T.Board_c,T.Board_n_bottom,(show 4<1000 by decide),?_⟩;refine kk F5 _ v r hr' ht ⟨s5,fun c o c1 c2 e=>?_,fun c o e=>?_,fun c o e=>?_⟩ ⟨ql,i5,?_,fa5,fq5⟩
  ·rw [qk c1,qk c2,qk c1];exact sH.trans I5.bh c o e
  ·rw [qk (qm e fa5)];exact sF7 _ _ c o e
  ·rcases I5.new c o e with q|q
   ·exact .inl q
   ·exact .inr (qF sH q)
  ·rw [qk qne,ql,Qhy]
def zaow:Qh->Bool
 | .int _=>true
 | _=>false
def qeg:DC
 | [d],q=>q (.bool (zaow d))
 | _,_=>False
def qvp:FnScope ["thing"] ["thing"] (defScope qgw):=sc0
def qvu (F:Def K mg "is_whole" qgw ["thing"]) (T:Txt K mg cs)
 : Ok P w K mg base "is_whole" 1 ["thing"] (PSp K qeg):=by
  refine F.vok qvp (fun ds q h=>by unfold qeg at h;split at h;all_goals first|rfl|exact h.elim) fun f cdv A outer s H E hr ds q h=>?_
  match ds,h with
  | [d],h =>
  refine ⟨_,(qg (qx (qrg (qol T.isinstance_ T.int_ L2.boot_int (qb 0)) (qll (zaic (qol T.isinstance_ T.bool_ L2.boot_bool (qb 0))))))),?_⟩;cases d <;> exact h
def qgx:DC
 | [.int t,.int b],q=>(b≠0/\intBits b<=9000)/\q (dSh (shT t b) (shB t b))
 | _,_=>False
def qkn:FnScope ["top","bottom","common"] ["top","bottom"] (defScope qjj):=sc0
def qxm (F:Def K mg "reduced" qjj ["top","bottom"]) (T:Txt K mg cs)
 (O_divisor:Ok P w K mg base "divisor" 1 ["one","other"] (PSp K qdx))
 : Ok P w K mg base "reduced" 2 ["top","bottom"] (PSp K qgx):=by
  refine F.vok qkn (fun ds q h=>by unfold qgx at h;split at h;all_goals first|rfl|exact h.elim) fun f cdv A outer s H E hr ds q h=>?_
  match ds,h with
  | [.int t,.int b],⟨⟨hb,hz⟩,h⟩ =>
  refine ⟨_,(qf (qA (i:=2) qkn.nd (qw O_divisor.c hr.m (qc (qb 0) (qc (qb 1) qd))))
   (qcz (qar (qE qyk (qb 1) qe) (qg (qA (i:=2) qkn.nd (qlk (qb 2)))) qz)
   (qg (qx (qkf (qc (qt zahe (qb 0) (qb 2)) (qc (qt zahe (qb 1) (qb 2)) qd))))))),?_⟩
  have hc:=zamo (t:=t) hb;have hcz:=zala (t:=t) hb hz;refine ⟨fun e=>e=[.val (.int t),.val (.int b),.val (.int (cm t b))],?_,?_⟩
  ·refine qip (fun hn=>?_) (fun hn=>?_)
   ·show _=_;unfold cm;rw [if_pos hn];rfl
   ·show _=_;unfold cm;rw [if_neg hn];rfl
  ·rintro e rfl;exact ⟨⟨hc,hcz⟩,⟨hc,hcz⟩,szl,h⟩
def qio:DC
 | [.int t,.int b],q=>(b≠0/\intBits b<=9000)/\q (dSh (shT t b) (shB t b))
 | _,_=>False
def zagt:FnScope ["top","bottom"] ["top","bottom"] (defScope qqd):=sc0
def zaek (F:Def K mg "share" qqd ["top","bottom"]) (T:Txt K mg cs)
 (O_is_whole:Ok P w K mg base "is_whole" 1 ["thing"] (PSp K qeg))
 (O_reduced:Ok P w K mg base "reduced" 2 ["top","bottom"] (PSp K qgx))
 : Ok P w K mg base "share" 3 ["top","bottom"] (PSp K qio):=by
  refine F.vok zagt (fun ds q h=>by unfold qio at h;split at h;all_goals first|rfl|exact h.elim) fun f cdv A outer s H E hr ds q h=>?_
  match ds,h with
  | [.int t,.int b],h =>
  refine ⟨_,(qf (qar (VW.pt (qhm (qdj (qdk (qw O_is_whole.c hr.m (qc (qb 0) qd)))) (qhm (qdj (qdk (qw O_is_whole.c hr.m (qc (qb 1) qd)))) (qfg (qE (qmg hr.units) (qb 1) qe))))) qca qz)
   (qg (qx (qw O_reduced.c hr.m (qc (qb 0) (qc (qb 1) qd)))))),?_⟩
  exact ⟨rfl,rfl,qgp (fun z=>(h.1.1 z).elim) (fun _=>h)⟩
def qrj (d:Int) (Ls:List (List Int)) (ss:List Int) (m w i u:Nat) (x:Int×Int):Prop :=
 (∃ k,k<i/\ss[k]?=some (u:Int)/\x=(shT (at2 Ls k (w-1)) d,shB (at2 Ls k (w-1)) d))\/((∀ k,k<i->ss[k]?≠some (u:Int))/\x=(shT 0 1,shB 0 1))
def qun (nm:List Str) (fs:List (Str×Qh)) (ds:List Qh) (q:List Qh->Prop):Prop := ∃ (n:Nat) (d:Int) (Ls:List (List Int)) (ss:List Int) (m w:Nat),nm=bNm/\fs=bFs n d Ls ss/\ds=[]/\(Bd m w Ls ss/\0<d/\intBits d<=2000/\1<=w/\n<=900 /\ ∀ x ∈ ss,x<n) /\
 ∀ vs:List (Int×Int),vs.length=n->(∀ u x,vs[u]?=some x->qrj d Ls ss m w m u x)->q (vs.map fun x=>dSh x.1 x.2)
def qdw:FnScope ["self","found","line","unknown"] ["self"] (defScope qer):=sc0
def qru (F:MDef K cs.Board "told" "Board.told" qer ["self"]) (T:Txt K mg cs)
 (O_share:Ok P w K mg base "share" 3 ["top","bottom"] (PSp K qio))
 : OkM P w K mg base cs.Board "told" 4 ["self"] (OFSp K cs.Board qun):=by
  refine F.vokF qdw (by rintro nm fs ds q ⟨_,_,_,_,_,_,_,_,h,_⟩;rw [h];rfl) fun f cdv A outer s H E hr a0 nm fs ds q h=>?_;obtain ⟨n,d,Ls,ss,m,w,rfl,rfl,rfl,⟨hB,d0,d1,w1,hn,hs⟩,h⟩:=h;refine ⟨_,(qf (qma (caps:=[]) (own:=["place"]) (ix:=[]) (i:=1) qdw.nd rfl ⟨rfl,rfl,rfl,rfl,rfl,rfl⟩ (qC T.range_ (qcu 0 T.Board_c T.Board_n_unknowns)) (fun _ _ _ _=>(qo (i:=0) (show Q4 (["place"]:List Str) by decide))) (fun _ _ _ _=>(qw O_share.c hr.m (qc qe (qc qe qd)))))
   (qf (qbh rfl (qhu T.zip_ (qcu 0 T.Board_c T.Board_n_lines) (qcu 0 T.Board_c T.Board_n_stands_for)) (qfc (n:=2) rfl (qJ (qo (i:=2) qdw.nd) (qJ (qo (i:=3) qdw.nd) qcy))) (qg (qar (qE o_ge (qb 3) qe) (qg (qhy 1 (qw O_share.c hr.m (qc (qr (qb 2) (qlk qe)) (qc (qcu 0 T.Board_c T.Board_n_bottom) qd))) (qb 3))) qz)))
   (qg (qtv 1)))),?_⟩
  have hlen:(Ls.map qao).length=m:=by rw [Qe,hB.l]
  have hrl:(qua 0 (n:Int).toNat).length=n:=by rw [qs];omega
  refine ⟨rfl,_,rfl,⟨by omega,by omega⟩,qi (by rw [hrl];omega),fun k ys e=>ys=(Zb n (dSh (shT 0 1) (shB 0 1))).take k /\ ∃ u,e=[u],⟨by simp,_,rfl⟩,?_,?_⟩
  ·rintro i x ys e hx ⟨hys,s,rfl⟩;obtain ⟨hi,rfl⟩:=qU hx;exact ⟨⟨by decide,by decide⟩,qq (by rw [Vr,if_pos (by omega)]) hys,_,rfl⟩
  rintro ys e ⟨hys,u,rfl⟩;rw [hrl,Zf (by rw [Vj];omega)] at hys;subst hys;refine ⟨rfl,_,rfl,rfl,_,rfl,fun i e => ∃ t1 t2 l,e=[.obj a0 cs.Board bNm (bFs n d Ls ss),.own l,t1,t2] /\ ∃ vs:List (Int×Int),l=vs.map (fun x=>dSh x.1 x.2)/\vs.length=n /\ ∀ u x,vs[u]?=some x->qrj d Ls ss m w i u x,⟨_,_,_,rfl,Zb n (shT 0 1,shB 0 1),by rw [List.map_replicate],by simp,fun u x hx => .inr ⟨fun k hk=>by omega,?_⟩⟩,?_,?_⟩
  ·rw [Vr] at hx;split at hx
   ·exact (Qx hx).symm
   ·cases hx
  ·rintro i x e hx ⟨t1,t2,l,rfl,vs,rfl,hv,hI⟩;obtain ⟨x,y,h3,h4,rfl⟩:=qfq hx;obtain ⟨u,rfl,hu,hum⟩:=qaj h4;obtain ⟨r,er,rfl⟩ : ∃ r,Ls[i]?=some r/\qao r=x:=by
    rw [Qa] at h3;cases q:Ls[i]? with
    | none=>rw [q] at h3;cases h3
    | some r=>rw [q] at h3;exact ⟨r,rfl,Qx h3⟩
   have lr:r.length=w:=hB.w r (Qg er);obtain ⟨r1,r2⟩:=hB.at er (j:=w-1) (by omega);refine ⟨rfl,rfl,qip (fun a=>?_) (fun a=>?_)⟩
   ·have un:=hs u hum;refine ⟨.int (at2 Ls i (w-1)),atI_last (by rw [Qe,lr,Qa,r1];rfl),rfl,_,rfl,⟨by omega,qu d1 (by decide)⟩,rfl,rfl,u.toNat,?_,_,_,_,rfl,vs.set u.toNat (shT (at2 Ls i (w-1)) d,shB (at2 Ls i (w-1)) d),?_,by rw [Yp];exact hv,fun v x hx=>?_⟩
    ·exact zahh a (by show u<(((vs.map _).length:Nat):Int);rw [Qe,hv];exact un)
    ·rw [Qhy];rfl
    ·rw [Qab] at hx;by_cases e:u.toNat=v
     ·rw [if_pos e] at hx;split at hx
      ·exact .inl ⟨i,by omega,by rw [hu];congr 1;omega,(Qx hx).symm⟩
      ·cases hx
     ·rw [if_neg e] at hx;rcases hI v x hx with ⟨k,hk,h1,h2⟩|⟨h1,h2⟩
      ·exact .inl ⟨k,by omega,h1,h2⟩
      ·refine .inr ⟨fun k hk z=>?_,h2⟩;by_cases q:k=i
       ·subst q;rw [hu] at z;have:=Qx z;omega
       ·exact h1 k (by omega) z
   ·refine ⟨_,_,_,rfl,vs,rfl,hv,fun v x hx=>?_⟩;rcases hI v x hx with ⟨k,hk,h1,h2⟩|⟨h1,h2⟩
    ·exact .inl ⟨k,by omega,h1,h2⟩
    ·refine .inr ⟨fun k hk z=>?_,h2⟩;by_cases q:k=i
     ·subst q;rw [hu] at z;have:=Qx z;omega
     ·exact h1 k (by omega) z
  ·rintro e ⟨t1,t2,l,rfl,vs,rfl,hv,hI⟩;rw [qbw,hlen,Qe,hB.s,Qhx] at hI;exact ⟨_,rfl,h vs hv hI⟩
def qhn (Ls:List (List Int)) (ss:List Int) (d:Int):Sta:=⟨fun k=>(ss[k]?).getD 0,at2 Ls,d⟩
def qhb (Ls0:List (List Int)):Nat->Nat->Int:=fun j x=>at2 Ls0 x j
def Brd.congr {m:Nat}{col B B' L:Nat->Nat->Int}{d:Int} (h:Brd m col B L d) (e : ∀ x k,k<m->B x k=B' x k):Brd m col B' L d where
 pos:=h.pos
 hd:=by rw [h.hd];exact qfe fun x y _ hy=>e x y hy
 hL:=fun k hk j=>by
  rw [h.hL k hk j];exact qfe fun x y _ hy=>by
   unfold qY;by_cases z:y=k
   ·rw [if_pos z,if_pos z]
   ·rw [if_neg z,if_neg z,e x y hy]
 hI:=fun j x hx=>by
  rw [h.hI j x hx];exact qh fun k hk=>by rw [e x k hk]
def qht {f:Nat->List Int}{m k j:Nat} (hk:k<m):at2 ((Qm m).map f) k j=((f k)[j]?).getD 0:=by
 unfold at2;rw [Qa,Qn hk];rfl
def qmy {m k:Nat} (hk:k<m):((qfd m)[k]?).getD 0 = -(m:Int)+k:=by
 unfold qfd;rw [Qa,Qn hk];rfl
def zaeq (row:List Int) (s:Int) (k m:Nat):(qon row s k m).length=row.length+m+1:=by
 unfold qon;simp;omega
def qxg {row:List Int}{s:Int}{k m j:Nat} (h:j<row.length):((qon row s k m)[j]?).getD 0=tn s*(row[j]?).getD 0:=by
 unfold qon;rw [Qa,Zc (by simp;omega),Zc h,Qc h];rfl
def zacq {row:List Int}{s:Int}{k m j:Nat} (h:j<m):((qon row s k m)[row.length+j]?).getD 0=tn s*(if j=k then 1 else 0):=by
 unfold qon;rw [Qa,Zc (by simp;omega),Zm (by omega),Nat.add_sub_cancel_left,Qa,Qn h];rfl
def qqm {row:List Int}{s:Int}{k m:Nat}:((qon row s k m)[row.length+m]?).getD 0=tn s*s:=by
 unfold qon;rw [Qa,Zm (by simp)];simp
def zapk (s:Int):0<=tn s*s:=by unfold tn;split <;> omega
def qyr {n:Nat}{R:List (List Int)}{b:List Int} (hw : ∀ r ∈ R,r.length=n):Good R.length n (qhb (qI R b)) (qhn (qI R b) (qfd R.length) 1) where
 brd:=(zace R.length (qhb (qI R b))).congr fun x k hk=>by
  unfold Bas;rw [if_pos (show (qhn (qI R b) (qfd R.length) 1).st k<0 by show ((qfd R.length)[k]?).getD 0<0;rw [qmy hk];omega)]
 sum:=fun k hk=>by
  show 0<=at2 (qI R b) k (n+R.length);unfold qI;rw [qht hk];have e:((R[k]?).getD []).length=n:=by
   rw [Qc hk];exact hw _ (Zi _)
  rw [<- e,qqm];exact zapk _
 top:=fun k hk=>by
  show ((qfd R.length)[k]?).getD 0<n;rw [qmy hk];omega
def zabb {Ls:List (List Int)}{k j:Nat} (h:Ls.length<=k):at2 Ls k j=0:=by
 unfold at2;rw [Q8 h];rfl
def zags {Ls:List (List Int)}{w r p:Nat}{d:Int} (hw : ∀ l ∈ Ls,l.length=w) (hr:r<Ls.length):at2 (qom Ls r p d)=piv (at2 Ls) d r p:=by
 funext k j
 obtain ⟨t,et⟩ : ∃ t,Ls[r]?=some t:=⟨_,Qc hr⟩
 have lt:=hw t (Qg et);unfold piv;by_cases hk:k<Ls.length
 ·obtain ⟨l,el⟩ : ∃ l,Ls[k]?=some l:=⟨_,Qc hk⟩
  have ll:=hw l (Qg el);have e:at2 (qom Ls r p d) k j=((if k=r then l else qxd l t p d)[j]?).getD 0:=by
   unfold at2 qom;rw [Qfy,el,et];rfl
  rw [e];by_cases z:k=r
  ·subst z;rw [if_pos rfl,if_pos rfl];unfold at2;rw [el];rfl
  ·rw [if_neg z,if_neg z];have a1 : ∀ i,at2 Ls k i=(l[i]?).getD 0:=fun i=>by unfold at2;rw [el];rfl
   have a2 : ∀ i,at2 Ls r i=(t[i]?).getD 0:=fun i=>by unfold at2;rw [et];rfl
   rw [a1,a1,a2,a2];unfold qxd;by_cases hj:j<w
   ·rw [Ja,Qc (show j<l.length by omega),Qc (show j<t.length by omega)];rfl
   ·rw [Q8 (by simp;omega),Q8 (show l.length<=j by omega),Q8 (show t.length<=j by omega)];simp
 ·have z1 : ∀ i,at2 Ls k i=0:=fun i=>zabb (by omega);rw [zabb (by unfold qom;simp;omega),if_neg (by omega),z1,z1];simp
def zaok {Ls:List (List Int)}{ss:List Int}{d:Int}{m n c r:Nat} (hl:Ls.length=m) (hs:ss.length=m) (hw : ∀ l ∈ Ls,l.length=n+m+1) (c1:c<n) (c2:0<lack m (qhn Ls ss d) c) (c3 : ∀ j,j<c->lack m (qhn Ls ss d) j<=0)
 (hr:r<m) (ht:Tg Ls ss (n+m+1) c m r):Stp m n (qhn Ls ss d) c r (qhn (qom Ls r c d) (ss.set r c) (at2 Ls r c)) where
  c1:=c1
  c2:=c2
  c3:=c3
  r1:=hr
  r2:=ht.1
  r3:=fun k hk hp=>(ht.2 k hk hp).1
  r4:=fun k hk hp e=>(ht.2 k hk hp).2 e
  st:=by
   funext k
   show ((ss.set r (c:Int))[k]?).getD 0=if k=r then (c:Int) else (ss[k]?).getD 0
   rw [Qab];by_cases z:r=k
   ·subst z;rw [if_pos rfl,if_pos rfl,if_pos (by omega)];rfl
   ·rw [if_neg z,if_neg (Z1 z)]
  L:=zags hw (by omega)
  d:=rfl
def zaac {m M:Nat}{col:Nat->Nat->Int}{st:Nat->Int} (hM : ∀ j x,x<m->(col j x).natAbs<=M) (h1:1<=M) {x k:Nat} (hx:x<m):(Bas col st x k).natAbs<=M:=by
 unfold Bas;split
 ·split
  ·exact h1
  ·exact Y7 _
 ·exact hM _ _ hx
def Good.abs {m n M:Nat}{col:Nat->Nat->Int}{b:Sta} (h:Good m n col b) (hM : ∀ j x,x<m->(col j x).natAbs<=M) (h1:1<=M):(∀ k,k<m -> ∀ j,(b.L k j).natAbs<=fct m*M^m)/\b.d.natAbs<=fct m*M^m:=by
 refine ⟨fun k hk j=>?_,?_⟩
 ·rw [h.brd.hL k hk j];refine qug fun x y hx _=>?_;unfold qY;split
  ·exact hM _ _ hx
  ·exact zaac hM h1 hx
 ·rw [h.brd.hd];exact qug fun x y hx _=>zaac hM h1 hx
def qwd (m n:Nat) (b:Sta) (u:Nat):Int:=qj m fun k=>if b.st k=(u:Int) then b.L k (n+m) else 0
def Good.val {m n:Nat}{col:Nat->Nat->Int}{b:Sta} (h:Good m n col b) {k u:Nat} (hk:k<m) (e:b.st k=(u:Int)):qwd m n b u=b.L k (n+m):=by
 unfold qwd;rw [qT hk fun i hi hik=>if_neg fun z=>?_,if_pos e];have a:=h.basic hk e hk;have c:=h.basic hi z hk;rw [if_pos rfl] at a;rw [if_neg (Z1 hik),a] at c;have:=h.brd.pos;omega
def zagk {m n:Nat}{b:Sta}{u:Nat} (h : ∀ k,k<m->b.st k≠(u:Int)):qwd m n b u=0:=qai fun k hk=>if_neg (h k hk)
def Good.fits' {m n:Nat}{col:Nat->Nat->Int}{b:Sta} (h:Good m n col b) (h0:lack m b (n+m)=0) {x:Nat} (hx:x<m) :
 b.d*col (n+m) x=qj n fun u=>col u x*qwd m n b u:=by
  rw [h.fits h0 hx];have e:(qj n fun u=>col u x*qwd m n b u)=qj n fun u=>qj m fun k=>if b.st k=(u:Int) then col u x*b.L k (n+m) else 0:=qh fun u _=>by
   unfold qwd;rw [<- qp];exact qh fun k _=>by
    split
    ·rfl
    ·omega
  rw [e,qji];refine qh fun k hk=>?_;by_cases q:b.st k<0
  ·rw [if_pos q,qai fun u _=>if_neg (by omega)]
  ·rw [if_neg q];have t:=h.top k hk;rw [qT (r:=(b.st k).toNat) (by omega) fun u _ hu=>if_neg (by omega),if_pos (by omega),Z9]
def qth {m n:Nat}{col:Nat->Nat->Int}{b:Sta} (h:Good m n col b) {j N:Nat} (f:Nat->Int) (at':Nat->Nat) (e : ∀ x,x<m->col j x=qj N fun l=>f l*col (at' l) x) :
 lack m b j=qj N fun l=>f l*lack m b (at' l):=by
  unfold lack;have e2:(qj N fun l=>f l*qj m fun k=>if b.st k<0 then b.L k (at' l) else 0)=qj N fun l=>qj m fun k=>if b.st k<0 then f l*b.L k (at' l) else 0:=qh fun l _=>by
   rw [<- qp];exact qh fun k _=>by
    split
    ·rfl
    ·omega
  rw [e2,qji];refine qh fun k hk=>?_;by_cases q:b.st k<0
  ·rw [if_pos q,h.brd.comb f at' e hk];exact qh fun l _=>by rw [if_pos q]
  ·rw [if_neg q];exact (qai fun l _=>if_neg q).symm
def qsp {n:Nat}{R:List (List Int)}{b:List Int} (hw : ∀ r ∈ R,r.length=n) {x:Nat} (hx:x<R.length) :
 (∀ j,j<n->qhb (qI R b) j x=qj R.length fun l=>at2 R l j*qhb (qI R b) (n+l) x)/\qhb (qI R b) (n+R.length) x=qj R.length fun l=>(b[l]?).getD 0*qhb (qI R b) (n+l) x:=by
  have e:((R[x]?).getD []).length=n:=by
   rw [Qc hx];exact hw _ (Zi _)
  have mk : ∀ l,l<R.length->qhb (qI R b) (n+l) x=tn ((b[x]?).getD 0)*(if l=x then 1 else 0):=fun l hl=>by
   show at2 (qI R b) x (n+l)=_;unfold qI;rw [qht hx,<- e,zacq hl]
  refine ⟨fun j hj=>?_,?_⟩
  ·rw [qT hx fun l hl z=>by rw [mk l hl,if_neg z];omega,mk x hx,if_pos rfl];show at2 (qI R b) x j=_;unfold qI;rw [qht hx,qxg (by omega)];unfold at2;grind
  ·rw [qT hx fun l hl z=>by rw [mk l hl,if_neg z];omega,mk x hx,if_pos rfl];show at2 (qI R b) x (n+R.length)=_;unfold qI;rw [qht hx,<- e,qqm];grind
def Good.none' {n:Nat}{R:List (List Int)}{b:List Int}{s:Sta} (hw : ∀ r ∈ R,r.length=n) (h:Good R.length n (qhb (qI R b)) s) :
 (∀ j,j<n->(qj R.length fun l=>at2 R l j*lack R.length s (n+l))=lack R.length s j)/\(qj R.length fun l=>(b[l]?).getD 0*lack R.length s (n+l))=lack R.length s (n+R.length) :=
  ⟨fun j hj=>(qth h (fun l=>at2 R l j) (fun l=>n+l) fun x hx=>(qsp hw hx).1 j hj).symm,(qth h (fun l=>(b[l]?).getD 0) (fun l=>n+l) fun x hx=>(qsp hw hx).2).symm⟩
def Good.told' {n:Nat}{R:List (List Int)}{b:List Int}{s:Sta} (hw : ∀ r ∈ R,r.length=n) (h:Good R.length n (qhb (qI R b)) s) (h0:lack R.length s (n+R.length)=0) {x:Nat} (hx:x<R.length) :
 s.d*(b[x]?).getD 0=qj n fun u=>at2 R x u*qwd R.length n s u:=by
  have e:((R[x]?).getD []).length=n:=by
   rw [Qc hx];exact hw _ (Zi _)
  have f:=h.fits' h0 hx;have c1:qhb (qI R b) (n+R.length) x=tn ((b[x]?).getD 0)*(b[x]?).getD 0:=by
   show at2 (qI R b) x (n+R.length)=_;unfold qI;rw [qht hx,<- e,qqm]
  have c2 : ∀ u,u<n->qhb (qI R b) u x=tn ((b[x]?).getD 0)*at2 R x u:=fun u hu=>by
   show at2 (qI R b) x u=_;unfold qI;rw [qht hx,qxg (by omega)];rfl
  rw [c1,qh fun u hu=>by rw [c2 u hu,Jt],qp] at f;have t0:tn ((b[x]?).getD 0)≠0:=by unfold tn;split <;> decide
  refine Yj t0 ?_;rw [<- f];grind
def qwx : ∀ {m n:Nat},m<=n->fct m<=fct n
 | m,0,h=>by have:m=0:=by omega
             subst this;exact Qs _
 | m,n+1,h=>by
  by_cases e:m=n+1
  ·subst e;exact Qs _
  ·exact Z7 (qwx (m:=m) (n:=n) (by omega)) (Nat.le_mul_of_pos_left _ (by omega))
def qup {m x:Nat} (hm:m<=24) (h:x<=fct m*20000000^m):x<2^700:=by
 have a:fct m*20000000^m<=fct 24*20000000^24:=Yk (qwx hm) (Nat.pow_le_pow_right (by decide) hm);have b:fct 24*20000000^24<2^700:=by decide +kernel
 omega
def qxy (s x:Int):(tn s*x).natAbs=x.natAbs:=by unfold tn;split <;> omega
def qxc {l:List Int}{M:Nat} (h : ∀ x ∈ l,x.natAbs<=M) (j:Nat):((l[j]?).getD 0).natAbs<=M:=by
 cases e:l[j]? with
 | none=>simp
 | some x=>exact h x (Qg e)
def zaaj {R:List (List Int)}{b:List Int} (z : ∀ r ∈ R,∀ x ∈ r,x.natAbs<=20000000) (zb : ∀ x ∈ b,x.natAbs<=20000000) (j x:Nat) (hx:x<R.length):(qhb (qI R b) j x).natAbs<=20000000:=by
 show (at2 (qI R b) x j).natAbs<=_;unfold qI;rw [qht hx];refine qxc (fun y hy=>?_) j;unfold qon at hy;obtain ⟨w,hw,rfl⟩:=Qr.mp hy;rw [qxy];simp only [Ze,Qr,Q3] at hw;rcases hw with (hw|⟨i,_,rfl⟩)|rfl
 ·rw [Qc hx] at hw;exact z _ (Zi _) w hw
 ·split <;> decide
 ·exact qxc zb x
structure Rn (n:Nat) (R:List (List Int)) (b:List Int) (T:Nat) (d:Int) (Ls:List (List Int)) (ss:List Int):Prop where
 l:Ls.length=R.length
 s:ss.length=R.length
 w : ∀ r ∈ Ls,r.length=n+R.length+1
 run : ∃ st cs rs,Run R.length n (qhb (qI R b)) T st cs rs/\st T=qhn Ls ss d
def Rn.good {n:Nat}{R:List (List Int)}{b:List Int}{T:Nat}{d:Int}{Ls:List (List Int)}{ss:List Int} (h:Rn n R b T d Ls ss):Good R.length n (qhb (qI R b)) (qhn Ls ss d):=by
 obtain ⟨st,cs,rs,r,e⟩:=h.run;rw [<- e];exact (r.at T (Qs _)).1
def Rn.short {n:Nat}{R:List (List Int)}{b:List Int}{T:Nat}{d:Int}{Ls:List (List Int)}{ss:List Int} (h:Rn n R b T d Ls ss):T<(n+R.length)^R.length:=by
 obtain ⟨st,cs,rs,r,e⟩:=h.run;exact r.short
def Rn.first {n:Nat}{R:List (List Int)}{b:List Int} (h:SvPre n R b):Rn n R b 0 1 (qI R b) (qfd R.length) where
 l:=by simp [qI]
 s:=by simp [qfd]
 w:=fun r hr=>by
  unfold qI at hr;obtain ⟨k,hk,rfl⟩:=Qr.mp hr;have hk:=Zg.mp hk;rw [zaeq,Qc hk];show (R[k]).length+_+_=_;rw [h.i.w _ (Zi _)]
 run:=⟨fun _=>qhn (qI R b) (qfd R.length) 1,fun _=>0,fun _=>0,⟨qyr h.i.w,fun k hk=>by
  show _<=((qfd R.length)[k]?).getD 0;rw [qmy hk];omega,fun τ hτ=>by omega⟩,rfl⟩
def Rn.next {n:Nat}{R:List (List Int)}{b:List Int}{T:Nat}{d:Int}{Ls:List (List Int)}{ss:List Int}{c r:Nat} (h:Rn n R b T d Ls ss) (c1:c<n) (c2:0<qN Ls ss R.length c) (c3 : ∀ j,j<c->qN Ls ss R.length j<=0)
 (hr:r<R.length) (ht:Tg Ls ss (n+R.length+1) c R.length r):Rn n R b (T+1) (at2 Ls r c) (qom Ls r c d) (ss.set r c) where
  l:=by unfold qom;rw [List.length_mapIdx];exact h.l
  s:=by rw [Yp];exact h.s
  w:=fun l hl=>by
   unfold qom at hl;obtain ⟨k,hk,rfl⟩:=List.mem_mapIdx.mp hl;have a:=h.w _ (Zi hk);split
   ·exact a
   ·have e:Ls[r]?=some (Ls[r]'(by rw [h.l];exact hr)):=Qc _;have a2:=h.w _ (Qg e);unfold qxd;rw [List.length_zipWith,e];show min _ (Ls[r]'_).length=_;omega
  run:=by
   obtain ⟨st,cs,rs,rr,e⟩:=h.run;have s:=zaok (n:=n) (d:=d) h.l h.s h.w c1 c2 c3 hr ht;rw [<- e] at s;exact ⟨_,_,_,rr.snoc s,by show (if T+1<=T then _ else _)=_;rw [if_neg (by omega)]⟩
def Rn.bd {n:Nat}{R:List (List Int)}{b:List Int}{T:Nat}{d:Int}{Ls:List (List Int)}{ss:List Int} (h:Rn n R b T d Ls ss) (p:SvPre n R b):Bd R.length (n+R.length+1) Ls ss/\0<d/\intBits d<=2000:=by
 have g:=h.good;obtain ⟨a1,a2⟩:=g.abs (M:=20000000) (fun j x hx=>zaaj p.z p.zb j x hx) (by decide);have hm:=p.i.hm;refine ⟨⟨h.l,h.s,h.w,fun r hr x hx=>?_⟩,g.brd.pos,qu (intBits_le_iff.mpr (qup hm a2)) (by decide)⟩;obtain ⟨k,hk,rfl⟩:=Qaj.mp hr;obtain ⟨j,hj,rfl⟩:=Qaj.mp hx;have hk':k<R.length:=by rw [<- h.l];exact hk
 have e:at2 Ls k j=Ls[k][j]:=by
  unfold at2;rw [Qc hk];show (Ls[k][j]?).getD 0=_;rw [Qc hj];rfl
 rw [<- e];exact qu (intBits_le_iff.mpr (qup hm (a1 k hk' j))) (by decide)
def Rn.top {n:Nat}{R:List (List Int)}{b:List Int}{T:Nat}{d:Int}{Ls:List (List Int)}{ss:List Int} (h:Rn n R b T d Ls ss) : ∀ x ∈ ss,x<(n:Int):=fun x hx=>by
 obtain ⟨k,hk,rfl⟩:=Qaj.mp hx;have t:=h.good.top k (by rw [<- h.s];exact hk);have t:(ss[k]?).getD 0<(n:Int):=t;rw [Qc hk] at t;exact t
def Rn.nn {n:Nat}{R:List (List Int)}{b:List Int}{T:Nat}{d:Int}{Ls:List (List Int)}{ss:List Int} (h:Rn n R b T d Ls ss):0<=qN Ls ss R.length (n+R.length):=qcr fun k hk=>by
 have a:0<=at2 Ls k (n+R.length):=h.good.sum k hk;by_cases q:(ss[k]?).getD 0<0
 ·rw [if_pos q];exact a
 ·rw [if_neg q];omega
def zaqd:shB 0 1=1/\shT 0 1=0:=by decide
def Rn.fit {n:Nat}{R:List (List Int)}{b:List Int}{T:Nat}{d:Int}{Ls:List (List Int)}{ss:List Int} (h:Rn n R b T d Ls ss) (p:SvPre n R b) (h0 : ¬ 0<qN Ls ss R.length (n+R.length))
 {vs:List (Int×Int)} (hl:vs.length=n) (hv : ∀ u x,vs[u]?=some x->qrj d Ls ss R.length (n+R.length+1) R.length u x):FitV n R b vs:=by
  have g:=h.good;obtain ⟨hB,d0,d1⟩:=h.bd p;have nn:=h.nn;have z:lack R.length (qhn Ls ss d) (n+R.length)=0:=by
   have:qN Ls ss R.length (n+R.length)=0:=by omega
   exact this
  have hd:d≠0:=by omega
  have key : ∀ u x,vs[u]?=some x->(Shr x.1 x.2/\0<=x.1/\x.2∣d/\intBits x.1<=2000)/\qwd R.length n (qhn Ls ss d) u=x.1*(d/x.2):=fun u x hx=>by
   rcases hv u x hx with ⟨k,hk,e,rfl⟩|⟨e,rfl⟩
   ·have ev:qwd R.length n (qhn Ls ss d) u=at2 Ls k (n+R.length):=g.val hk (by show (ss[k]?).getD 0=_;rw [e];rfl);have hN:0<=at2 Ls k (n+R.length):=g.sum k hk;obtain ⟨row,er⟩ : ∃ row,Ls[k]?=some row:=⟨_,Qc (by rw [h.l];exact hk)⟩
    have hbits:intBits (at2 Ls k (n+R.length))<=2000:=(hB.at er (by omega)).2;rw [ev,show n+R.length+1-1=n+R.length from rfl];generalize at2 Ls k (n+R.length)=N at *;obtain ⟨s1,s2⟩:=quz (t:=N) hd;have s3:=qov N d;have q1:=s1.pos;have dv:shB N d∣d:=⟨cm N d,by rw [Z9];exact s3.symm⟩
    refine ⟨⟨s1,?_,dv,qis hbits⟩,?_⟩
    ·have:0<=shT N d*d:=by rw [s2];exact Yd hN (by omega)
     exact Int.nonneg_of_mul_nonneg_left this d0
    ·show N=shT N d*(d/shB N d);refine Qag (a:=shB N d) (by omega) ?_;rw [Jt,Qgl dv,s2]
   ·have ev:qwd R.length n (qhn Ls ss d) u=0:=zagk fun k hk y=>e k hk (by
     have y:(ss[k]?).getD 0=(u:Int):=y;rw [Qc (by rw [h.s];exact hk)] at y ⊢;exact congrArg some y)
    obtain ⟨b1,b2⟩:=zaqd;rw [ev,b1,b2];exact ⟨⟨⟨by decide,by decide⟩,by decide,⟨d,by omega⟩,intBits_le_iff.mpr (by decide +kernel)⟩,by omega⟩
  refine ⟨hl,d,d0,d1,fun x hx=>?_,fun k hk=>?_⟩
  ·obtain ⟨u,hu⟩:=Vp hx;exact (key u x hu).1
  ·have t:=g.told' p.i.w z hk;have t:d*(b[k]?).getD 0=_:=t;rw [t];refine qh fun u hu=>?_;have hu':vs[u]?=some (vs[u]'(by omega)):=Qc _;rw [(key u _ hu').2,hu'];rfl
def qtf : ∀ {ws:List Int}{g:Nat},qay g ws=0->g=0 /\ ∀ x ∈ ws,x=0
 | [],g,h=>⟨h,fun x hx=>by cases hx⟩
 | w::ws,g,h=>by
  obtain ⟨a,b⟩:=qtf (ws:=ws) (g:=Ym g w) h;have c:=Int.gcd_eq_zero_iff.mp a;refine ⟨by omega,fun x hx=>?_⟩;rcases Q1.mp hx with rfl|hx
  ·exact c.2
  ·exact b x hx
def wts (Ls:List (List Int)) (ss:List Int) (n m:Nat):List Int:=(Qm m).map fun l=>qN Ls ss m (n+l)
def Rn.none {n:Nat}{R:List (List Int)}{b:List Int}{T:Nat}{d:Int}{Ls:List (List Int)}{ss:List Int} (h:Rn n R b T d Ls ss) (p:SvPre n R b) (h0:0<qN Ls ss R.length (n+R.length)) (hc : ∀ j,j<n->qN Ls ss R.length j<=0) :
 0<qay 0 (wts Ls ss n R.length)/\zaik n R b ((wts Ls ss n R.length).map fun x=>x/(qay 0 (wts Ls ss n R.length):Int)):=by
  obtain ⟨e1,e2⟩:=h.good.none' p.i.w;have wl:(wts Ls ss n R.length).length=R.length:=by simp [wts]
  have wa : ∀ l,l<R.length->((wts Ls ss n R.length)[l]?).getD 0=qN Ls ss R.length (n+l):=fun l hl=>by
   unfold wts;rw [Qa,Qn hl];rfl
  have e1 : ∀ j,j<n->(qj R.length fun l=>at2 R l j*qN Ls ss R.length (n+l))=qN Ls ss R.length j:=e1;have e2:(qj R.length fun l=>(b[l]?).getD 0*qN Ls ss R.length (n+l))=qN Ls ss R.length (n+R.length):=e2;have gp:0<qay 0 (wts Ls ss n R.length):=by
   rcases Va (qay 0 (wts Ls ss n R.length)) with z|z
   ·have a:=(qtf z).2;rw [qai fun l hl=>by
     have:qN Ls ss R.length (n+l)=0:=a _ (Qr.mpr ⟨l,Zg.mpr hl,rfl⟩);rw [this,Qbb]] at e2
    omega
   ·exact z
  have dv:=qlo (wts Ls ss n R.length) 0;refine ⟨gp,?_⟩;generalize qay 0 (wts Ls ss n R.length)=g at *;have at' : ∀ l,l<R.length->(g:Int)*((((wts Ls ss n R.length).map fun x=>x/(g:Int))[l]?).getD 0)=qN Ls ss R.length (n+l):=fun l hl=>by
   have e:(wts Ls ss n R.length)[l]?=some (qN Ls ss R.length (n+l)):=by unfold wts;rw [Qa,Qn hl];rfl
   rw [Qa,e];show (g:Int)*(qN Ls ss R.length (n+l)/(g:Int))=_;exact Qfw (dv _ (Qg e))
  have gi:(0:Int)<g:=by omega
  refine ⟨by rw [Qe,wl],fun j hj=>?_,?_⟩
  ·have q:(g:Int)*(qj R.length fun l=>at2 R l j*((((wts Ls ss n R.length).map fun x=>x/(g:Int))[l]?).getD 0))=qN Ls ss R.length j:=by
    rw [<- e1 j hj,<- qp];exact qh fun l hl=>by rw [<- at' l hl];grind
   have c:=hc j hj;rcases Qba 0 (qj R.length fun l=>at2 R l j*((((wts Ls ss n R.length).map fun x=>x/(g:Int))[l]?).getD 0)) with y|y
   ·have:=Yr gi y;omega
   ·exact y
  ·have q:(g:Int)*(qj R.length fun l=>(b[l]?).getD 0*((((wts Ls ss n R.length).map fun x=>x/(g:Int))[l]?).getD 0))=qN Ls ss R.length (n+R.length):=by
    rw [<- e2,<- qp];exact qh fun l hl=>by rw [<- at' l hl];grind
   rw [<- q] at h0;rw [Z9] at h0;exact Int.pos_of_mul_pos_left h0 gi
def Rn.gbits {n:Nat}{R:List (List Int)}{b:List Int}{T:Nat}{d:Int}{Ls:List (List Int)}{ss:List Int} (h:Rn n R b T d Ls ss) (p:SvPre n R b) (h0:0<qN Ls ss R.length (n+R.length)):intBits (qay 0 (wts Ls ss n R.length):Int)<=9000:=by
 have g:=h.good;obtain ⟨a1,_⟩:=g.abs (M:=20000000) (fun j x hx=>zaaj p.z p.zb j x hx) (by decide);have hm:=p.i.hm;have e2:(qj R.length fun l=>(b[l]?).getD 0*qN Ls ss R.length (n+l))=qN Ls ss R.length (n+R.length):=(g.none' p.i.w).2;rw [<- e2] at h0;obtain ⟨l,hl,q⟩:=qlx h0;have nz:qN Ls ss R.length (n+l)≠0:=fun z=>by rw [z,Qbb] at q;omega
 have dv:=qlo (wts Ls ss n R.length) 0 (qN Ls ss R.length (n+l)) (Qr.mpr ⟨l,Zg.mpr hl,rfl⟩);have le:qay 0 (wts Ls ss n R.length)<=(qN Ls ss R.length (n+l)).natAbs:=Qcr (by omega) (Qgz.mp dv);have ab:(qN Ls ss R.length (n+l)).natAbs<=R.length*2^700:=qit fun k hk=>by
  by_cases q:(ss[k]?).getD 0<0
  ·rw [if_pos q];exact Yg (qup hm (a1 k hk (n+l)))
  ·rw [if_neg q];exact Y7 _
 refine qu (intBits_le_iff (m:=710).mpr ?_) (by decide);have:R.length*2^700<=24*2^700:=Qai _ hm;have t:24*2^700<2^710:=by decide +kernel
 rw [Int.natAbs_natCast];omega
def qox {n d:Nat}{v:Int} (h:0<=v):HT.sIx n d (some v)=min v.toNat n:=by
 show (if v<0 then _ else _)=_;rw [if_neg (by omega)]
def qzr {α:Type} (l:List α) {i:Int} (h:0<=i):qlg l (some i) none=l.drop i.toNat:=by
 unfold qlg;rw [qox h,HT.sIx_none];by_cases h1:i.toNat<=l.length
 ·rw [Vk h1,Zf (by simp)]
 ·rw [Qaq (by omega),J6 (Qs _),J6 (by omega)];simp
def qrc {α:Type} (l:List α) {j:Int} (h:0<=j):qlg l none (some j)=l.take j.toNat:=by
 unfold qlg;rw [qox h,HT.sIx_none,List.drop_zero,Nat.sub_zero];by_cases h1:j.toNat<=l.length
 ·rw [Vk h1]
 ·rw [Qaq (by omega),Zf (Qs _),Zf (by omega)]
def zajx {α:Type} (l:List α) {i j:Int} (h:0<=i) (h2:i<=j):qlg l (some i) (some j)=(l.drop i.toNat).take (j-i).toNat:=by
 unfold qlg;rw [qox h,qox (by omega)];by_cases h1:i.toNat<=l.length
 ·rw [Vk h1];by_cases h3:j.toNat<=l.length
  ·rw [Vk h3];congr 1;omega
  ·rw [Qaq (by omega),Zf (by simp),Zf (by simp;omega)]
 ·rw [Qaq (by omega),Qaq (by omega),J6 (Qs _),J6 (by omega)];simp
def qsf (ds:List Qh) (q:Qh->Prop):Prop := ∃ (n:Nat) (R:List (List Int)) (b:List Int),ds=[qeb R,.list (b.map .int)]/\SvPre n R b/\(∀ vs,FitV n R b vs->q (.tuple [.str "fits",.list (vs.map fun x=>dSh x.1 x.2)])) /\ ∀ ws,zaik n R b ws->q (.tuple [.str "none",.list (ws.map .int)])
def BAt.go {K:Qd}{C:Addr}{H F H' F':Hp}{a dx qa:Addr}{n:Nat}{d:Int}{Ls:List (List Int)}{ss:List Int}{vl:V} (h:BAt K C H F a dx qa n d Ls ss vl) (g:Go F H F' H'):BAt K C H' F' a dx qa n d Ls ss vl :=
 ⟨g.h _ _ h.ha,h.hl.mono g.f,g.h _ _ h.hq,zaar g h.ha h.fa,zaar g h.hq h.fq⟩
def lkD (n m:Nat) (Ls:List (List Int)) (ss:List Int):Qh :=.list (((Qm (n+m+1)).map (qN Ls ss m)).map .int)
def zabi {K:Qd}{C:Addr}{H F:Hp}{a dx qa:Addr}{n m:Nat}{d:Int}{Ls:List (List Int)}{ss:List Int}{vl:V} (hA:BAt K C H F a dx qa n d Ls ss vl) (sm:Same F H) (hB:Bd m (n+m+1) Ls ss) (hn:n<=20) (hm:m<=24) {Q:VK}{E:XK}
 (k : ∀ F' H' vk,Go F H F' H'->Is K F' (lkD n m Ls ss) vk->Q vk H'):OFSp K C qur [.ref a] H Q E:=by
  refine ⟨a,dx,_,[],upd F qa (.lst (ss.map V.int)),bNm,bFs n d Ls ss,[],fun l=>l=((Qm (n+m+1)).map (qN Ls ss m)).map .int,rfl,hA.ha,qlu sm hA.hq,hA.flds,qQ,⟨n,d,Ls,ss,m,rfl,rfl,rfl,⟨hB,hn,hm⟩,rfl⟩,fun l lb xs F' H' g hb1 hb2 hb3 hi q=>?_⟩;subst q;have ex:=hi.ints_inv;subst ex;exact k _ H' (.ref lb) (qyh (zahn hA.fq hA.hq g) hb1 hb3) (qdo (SqL.of ql) (qiv _))
def zaaw : ∀ vs:List (Int×Int),qjw (vs.map fun x=>dSh x.1 x.2)=true
 | []=>rfl
 | x::r=>by
  rw [Yh];unfold qjw;rw [zaaw r];simp [dSh,qsa,qjw]
def zaio {K:Qd}{C:Addr}{H F:Hp}{a dx qa:Addr}{n m w:Nat}{d:Int}{Ls:List (List Int)}{ss:List Int}{vl:V} (hA:BAt K C H F a dx qa n d Ls ss vl) (sm:Same F H) (hB:Bd m w Ls ss/\0<d/\intBits d<=2000/\1<=w/\n<=900 /\ ∀ x ∈ ss,x<(n:Int)) {Q:VK}{E:XK}
 (k : ∀ (vs:List (Int×Int)) lb xs F' H',Go F H F' H'->vs.length=n->(∀ u x,vs[u]?=some x->qrj d Ls ss m w m u x)->H lb=none->H' lb=some (.lst xs)->Iss K F' (vs.map fun x=>dSh x.1 x.2) xs->Q (.ref lb) H'):OFSp K C qun [.ref a] H Q E:=by
  refine ⟨a,dx,_,[],upd F qa (.lst (ss.map V.int)),bNm,bFs n d Ls ss,[],fun l => ∃ vs:List (Int×Int),l=(vs.map fun x=>dSh x.1 x.2)/\vs.length=n /\ ∀ u x,vs[u]?=some x->qrj d Ls ss m w m u x,rfl,hA.ha,qlu sm hA.hq,hA.flds,qQ,⟨n,d,Ls,ss,m,w,rfl,rfl,rfl,hB,fun vs h1 h2=>⟨vs,rfl,h1,h2⟩⟩,fun l lb xs F' H' g hb1 hb2 hb3 hi q=>?_⟩;obtain ⟨vs,rfl,h1,h2⟩:=q;exact k vs lb xs _ H' (zahn hA.fq hA.hq g) h1 h2 hb1 hb3 (Iss.off (g.f.at ql) (zaaw vs) hi)
def zagm {α:Type} (l:List α) {i:Nat} (h:i+1<=l.length):qlg l (some (i:Int)) (some (-1))=(l.drop i).take (l.length-1-i):=by
 have e:HT.sIx l.length l.length (some (-1))=l.length-1:=by
  show (if (-1:Int)<0 then ((-1:Int)+(l.length:Int)).toNat else min (-1:Int).toNat l.length)=l.length-1;rw [if_pos (by decide)];omega
 unfold qlg;rw [HT.sIx_nat,e,Vk (by omega)]
def zake {n m:Nat}{Ls:List (List Int)}{ss:List Int}:qlg (((Qm (n+m+1)).map (qN Ls ss m)).map Qw) none (some (n:Int))=((Qm n).map (qN Ls ss m)).map .int:=by
 rw [qrc _ (by omega),<- Jv,<- Jv,List.take_range,Zt,Vk (by omega)]
def zaob {n m:Nat}{Ls:List (List Int)}{ss:List Int}:qlg (((Qm (n+m+1)).map (qN Ls ss m)).map Qw) (some (n:Int)) (some (-1))=(wts Ls ss n m).map .int:=by
 rw [zagm _ (by simp)];refine Jj fun k=>?_;by_cases hk:k<m
 ·rw [Jh (by simp;omega),Qdm,Qa,Qa,Qn (by omega)];unfold wts;rw [Qa,Qa,Qn hk];rfl
 ·rw [Q8 (by simp;omega),Q8 (by simp [wts];omega)]
def qqr {C:Addr}{m:Str}{sp:Sp}{σ:St}{H:Hp}{Q:VK}{i:Nat}{a dx:Addr}{fs:List (Str×V)} (e:σ[i]?=some (some (.ref a))) (h:H a=some (.ins C dx fs)) (l:fs.lookup m=none) (k:sp [.ref a] H Q E0):zads C m sp [] E0 (tVar i) tNil σ H Q:=⟨_,e,a,dx,fs,rfl,h,l,k⟩
def len6 {α:Type}{l:List α} (h:l.length=6) : ∃ a0 a1 a2 a3 a4 a5,l=[a0,a1,a2,a3,a4,a5]:=by
 match l,h with
 | [a0,a1,a2,a3,a4,a5],_=>exact ⟨a0,a1,a2,a3,a4,a5,rfl⟩
def SvW (K:Qd) (C:Addr) (F H:Hp) (n:Nat) (R:List (List Int)) (b:List Int) (mm:Nat) (σ:St) (H1:Hp):Prop := ∃ T d Ls ss F1 a dx qa vl vr vb vk o5,
 mm+T=(n+R.length)^R.length/\σ=[some vr,some vb,some (.int n),some (.ref a),some vk,o5]/\Go F H F1 H1/\BAt K C H1 F1 a dx qa n d Ls ss vl/\H a=none/\H qa=none /\
 Is K F1 (qeb R) vr/\Is K F1 (.list (b.map .int)) vb/\Is K F1 (lkD n R.length Ls ss) vk/\Rn n R b T d Ls ss
def qfh:FnScope ["rows","sums","unknowns","board","lack","place"] ["rows","sums"] (defScope qlr):=sc0
def zabq (F:Def K mg "solved" qlr ["rows","sums"]) (T:Txt K mg cs)
 (O_first_above:Ok P w K mg base "first_above" 1 ["numbers"] (PSp K qii))
 (O_lowest:Ok P w K mg base "lowest" 2 ["weights"] (FSp K qte))
 (O_Board___init__:OkM P w K mg base cs.Board "__init__" 2 ["self","unknowns","rows","sums"] (zaht K cs.Board))
 (O_Board_lack:OkM P w K mg base cs.Board "lack" 1 ["self"] (OFSp K cs.Board qur))
 (O_Board_bring_in:OkM P w K mg base cs.Board "bring_in" 3 ["self","place"] (zabm K cs.Board))
 (O_Board_told:OkM P w K mg base cs.Board "told" 4 ["self"] (OFSp K cs.Board qun))
 : Ok P w K mg base "solved" 5 ["rows","sums"] (SolSp K qsf):=by
  refine F.ok qfh (by rintro vs H Q E ⟨F,ds,q,_,i,⟨_,_,_,h,_⟩,_⟩;rw [i.len,h];rfl) fun f cdv A outer s H vs Q E hr h=>?_;obtain ⟨F0,ds,q,sm,hi,⟨n,R,b,rfl,hp,k1,k2⟩,kk⟩:=h;obtain ⟨f1,fd1,F1,hm1,hb1⟩:=O_Board_lack.ex;obtain ⟨f2,fd2,F2,hm2,hb2⟩:=O_Board_bring_in.ex;obtain ⟨f3,fd3,F3,hm3,hb3⟩:=O_Board_told.ex;obtain ⟨f4,fd4,F4,hm4,hb4⟩:=O_Board___init__.ex;refine ⟨_,qM (VS.ps (qA (i:=2) qfh.nd (qgs (zape (qb 0)) (qv qbd T.len_ L2.boot_len (qc (qr (qb 0) qe) qd)) qe))) (qM (VS.ps (qar (VW.pt (qhm (qE qxk (qb 2) (qgr T.MOST_UNKNOWNS_)) (qfg (qE qxk (qv qbd T.len_ L2.boot_len (qc (qb 0) qd)) (qgr T.MOST_ROWS_))))) qca qz)) (qM (qgo (i:=3) qfh.nd rfl (by first|exact Yn rfl|exact Zz rfl) (zaix ⟨T.Board_mk,hm4.at_,hm4.fn,T.Board_kp⟩ F4 hr.m rfl T.Board_ hb4 .nil qqe (qH (pv 2) (qH (pv 0) (qH (pv 1) qaw)))) rfl (by first|exact .inl rfl|exact .inr rfl))
   (qM (qgo (i:=4) qfh.nd rfl (by first|exact Yn rfl|exact Zz rfl) (qqq (pv 3) T.Board_c hm1 F1 hr.m hb1 .nil qqe) rfl (by first|exact .inl rfl|exact .inr rfl))
   (qM (qxb Qfg (VT.pt (qE qxk (qr (qb 4) (qlk qe)) qe)) (qM (VS.ps (qA (i:=5) qfh.nd (qw O_first_above.c hr.m (qc (qy (qby (qb 4) qfk (qce (qb 2)))) qd)))) (qM (zain (VT.pt (qE zamd (qb 5) qre)) (qhw (qog (qvh (qH qzm (qH (VF.pe (qlw O_lowest.c hr.m (qc (qy (qby (qb 4) (qce (qb 2)) (qce (qlk qe)))) qd))) qaw))))) zabp) (qM (qhv (quj (pv 3) T.Board_c hm2 F2 hr.m hb2 .nil qqe (qH (pv 5) qaw))) (qhw (qgo (i:=4) qfh.nd rfl (by first|exact Yn rfl|exact Zz rfl) (qqq (pv 3) T.Board_c hm1 F1 hr.m hb1 .nil qqe) rfl (by first|exact .inl rfl|exact .inr rfl)))))))
   (qhw (qog (qvh (qH qzm (qH (qqq (pv 3) T.Board_c hm3 F3 hr.m hb3 .nil qqe) qaw))))))))),?_⟩
  have hn20:=hp.i.hn;have hm24:=hp.i.hm;refine ⟨⟨H,H,F0⟩,_,F0,{ nx:=fun e=>e=[.val (qeb R),.val (.list (b.map .int)),.val (.int n),.non,.non,.non],rt:=fun _ _=>False },qee sm hi,?_,⟨fun e1 F1 H1 σ1 I1 s1 q1=>?_,fun _ _ _ _ _ _ _ _ _ q=>q.elim,fun _ _ _ _ _ _ q=>q.elim,fun _ _ _ _ _ _ q=>q.elim⟩⟩
  ·have hR0:R≠[]:=fun z=>by have:=hp.m1;rw [z] at this;simp at this
   obtain ⟨r0,R0,eR⟩:=Qq hR0;have l0:r0.length=n:=hp.i.w r0 (by rw [eR];simp);have aR:atI (R.map qao) 0=some (qao r0):=by rw [eR];exact qbl _ _
   have eT:truD (qeb R)=true:=by rw [eR];rfl
   refine ⟨fun x z=>(by cases z),?_⟩;show if truD (qeb R)=true then _ else _
   rw [if_pos eT];refine ⟨qao r0,aR,?_⟩;show (_:Sto)=_;rw [show ((r0.map Qw).length:Int)=n by rw [Qe,l0]];rfl
  have q1:e1=_:=q1;subst q1;refine ⟨⟨H,H,F0⟩,_,F1,{ nx:=fun e=>e=[.val (qeb R),.val (.list (b.map .int)),.val (.int n),.non,.non,.non],rt:=fun _ _=>False },I1,?_,⟨fun e2 F2 H2 σ2 I2 s2 q2=>?_,fun _ _ _ _ _ _ _ _ _ q=>q.elim,fun _ _ _ _ _ _ q=>q.elim,fun _ _ _ _ _ _ q=>q.elim⟩⟩
  ·refine qip (fun z=>by exfalso;omega) (fun _=>?_);refine qip (fun z=>by exfalso;rw [Qe] at z;omega) (fun _=>?_);rfl
  have q2:e2=_:=q2;subst q2;have g2:=I2.goOf;obtain ⟨x0,x1,x2,x3,x4,x5,eσ⟩:=len6 I2.len.symm;obtain ⟨vr,e0,ir⟩:=(show ∃ v,x0=some v/\Is K F2 (qeb R) v by have:=I2.slot 0;rw [eσ] at this;exact this)
  obtain ⟨vb,e1,ib⟩:=(show ∃ v,x1=some v/\Is K F2 (.list (b.map .int)) v by have:=I2.slot 1;rw [eσ] at this;exact this)
  obtain ⟨v2,e2,i2⟩:=(show ∃ v,x2=some v/\Is K F2 (.int n) v by have:=I2.slot 2;rw [eσ] at this;exact this)
  rw [i2.int_inv] at e2;rw [e0,e1,e2] at eσ;subst eσ;refine ⟨.int n,rfl,vr,rfl,vb,rfl,fun x dx hx hdx hne=>?_⟩;have h2x:upd H2 dx (.own x) x=none:=by rw [qk (Z1 hne)];exact hx
  have gm:Go F0 H F2 (upd (upd H2 dx (.own x)) x (.ins cs.Board dx [])):=g2.trans ((Go.side g2.fh hdx).trans (Go.side (g2.fh.trans (qbx hdx)) h2x));refine ⟨x,dx,F2,vr,vb,n,R,b,rfl,ql,qF g2.fh hx,gm.fh,ir,ib,hp.i,fun F3 H3 vl qa hqa gx hA=>⟨rfl,?_⟩⟩;have na:H x=none:=qF g2.h hx;have nq:H qa=none:=qF gm.h hqa;have g3:=GoX.go gm gx na nq;have rn0:=Rn.first hp;refine qqr rfl hA.ha rfl (zabi hA g3.fh (rn0.bd hp).1 hn20 hm24 fun F4 H4 vk g4 ik=>?_);refine ⟨SvW K cs.Board F0 H n R b,⟨(n+R.length)^R.length,0,_,_,_,F4,x,dx,qa,vl,vr,vb,vk,_,rfl,rfl,g3.trans g4,hA.go g4,na,nq,(ir.mono gx.f).mono g4.f,(ib.mono gx.f).mono g4.f,ik,rn0⟩,?_⟩;clear rn0 ik g4 hA gx g3 nq na hqa gm h2x hne hdx hx ir ib g2 I2 s2 I1 s1;rintro mm σ H1 ⟨T',d,Ls,ss,F1,a,dx,qa,vl,vr,vb,vk,o5,hT,rfl,g,hA,na,nq,ir,ib,ik,rn⟩;obtain ⟨hB,d0,d1⟩:=rn.bd hp;have hE:EnvOk K ⟨H1,H1,F1⟩ F1 H1 [.val (qeb R),.val (.list (b.map .int)),.val (.int n),.obj a cs.Board bNm [],.val (lkD n R.length Ls ss),.non] [some vr,some vb,some (.int n),some (.ref a),some vk,o5] :=
   qzp g.fh ⟨_,_,rfl,⟨⟨vr,rfl,ir⟩,rfl⟩,_,_,rfl,⟨⟨vb,rfl,ib⟩,rfl⟩,_,_,rfl,⟨⟨_,rfl,qO _⟩,rfl⟩,_,_,rfl,⟨⟨dx,_,rfl,hA.ha,rfl,fun f d z=>by cases z⟩,rfl⟩,_,_,rfl,⟨⟨vk,rfl,ik⟩,rfl⟩,_,_,rfl,⟨trivial,rfl⟩,rfl⟩
  refine ⟨⟨H1,H1,F1⟩,_,F1,fun bb e=>bb=decide (0<qN Ls ss R.length (n+R.length))/\e=[.val (qeb R),.val (.list (b.map .int)),.val (.int n),.obj a cs.Board bNm [],.val (lkD n R.length Ls ss),.non],hE,?_,fun bb F2 H2 e2 I2 s2 q2=>?_⟩
  ·refine ⟨.int (qN Ls ss R.length (n+R.length)),atI_last ?_,?_⟩
   ·rw [Qe,Qe,Yc,Nat.add_sub_cancel,Qa,Qa,Qn (by omega)];rfl
   ·exact ⟨rfl,rfl⟩
  obtain ⟨rfl,rfl⟩:=q2;by_cases h0:0<qN Ls ss R.length (n+R.length)
  ·rw [decide_eq_true h0,if_pos rfl];refine ⟨fun σ' H' => ∃ m',m'<mm/\SvW K cs.Board F0 H n R b m' σ' H',fun σ' H' z=>z,?_⟩;refine ⟨⟨H1,H1,F1⟩,_,F2,{ nx:=fun e => ∃ dd,((dd = .none /\ ∀ j,j<n->qN Ls ss R.length j<=0) \/ ∃ c:Nat,dd = .int c/\c<n/\0<qN Ls ss R.length c /\ ∀ j,j<c->qN Ls ss R.length j<=0)/\e=[.val (qeb R),.val (.list (b.map .int)),.val (.int n),.obj a cs.Board bNm [],.val (lkD n R.length Ls ss),.val dd],rt:=fun _ _=>False },I2,?_,⟨fun e3 F3 H3 σ3 I3 s3 q3=>?_,fun _ _ _ _ _ _ _ _ _ q=>q.elim,fun _ _ _ _ _ _ q=>q.elim,fun _ _ _ _ _ _ q=>q.elim⟩⟩
   ·rintro r rfl;rw [zake];refine ⟨(Qm n).map (qN Ls ss R.length),rfl,fun z=>⟨.none,.inl ⟨rfl,fun j hj=>z _ (Qr.mpr ⟨j,Zg.mpr hj,rfl⟩)⟩,rfl⟩,fun c x z x0 zj=>?_⟩;have hc:c<n:=by
     have:=(Qk.mp z).1;simpa using this
    rw [Qa,Qn hc] at z;have z:=Qx z;refine ⟨.int c,.inr ⟨c,rfl,hc,by rw [z];exact x0,fun j hj=>zj j _ hj ?_⟩,rfl⟩;rw [Qa,Qn (by omega)];rfl
   obtain ⟨dd,hdd,rfl⟩:=q3;refine ⟨⟨H1,H1,F1⟩,_,F3,fun bb e=>bb=que dd/\e=[.val (qeb R),.val (.list (b.map .int)),.val (.int n),.obj a cs.Board bNm [],.val (lkD n R.length Ls ss),.val dd],I3,?_,fun bb F4 H4 e4 I4 s4 q4=>?_⟩
   ·exact ⟨rfl,rfl,rfl⟩
   obtain ⟨rfl,rfl⟩:=q4;rcases hdd with ⟨rfl,hc⟩|⟨c,rfl,c1,c2,c3⟩
   ·show if true=true then _ else _
    rw [if_pos rfl];obtain ⟨gp,hW⟩:=rn.none hp h0 hc;refine ⟨⟨H1,H1,F1⟩,_,F4,fun ds e=>ds=((wts Ls ss n R.length).map fun x=>x/(qay 0 (wts Ls ss n R.length):Int)).map .int,I4,?_,fun la xs ds F5 H5 e5 I5 s5 h1 h2 h3 h4 h5 h6 h7=>⟨szl,fun p hpp=>?_⟩⟩
    ·rintro r rfl;rw [zaob];exact ⟨wts Ls ss n R.length,rfl,⟨by simp [wts];omega,gp,rn.gbits hp h0⟩,rfl⟩
    subst h7;obtain ⟨F6,g6,i6,p1,p2⟩:=zaau (w := "none") (g.trans I5.goOf) (qF g.h h4) h1 h6 hpp;exact kk _ _ p la xs F6 _ g6 i6 p1 (qF g.h h4) p2 (by rw [h6.len];simp [wts];omega) (k2 _ hW)
   ·show if false=true then _ else _
    rw [if_neg (by decide)];have g4:=I4.goOf;have A4:=hA.go g4;obtain ⟨x0,x1,x2,x3,x4,x5,eσ⟩:=len6 I4.len.symm;obtain ⟨vr',e0,ir'⟩:=(show ∃ v,x0=some v/\Is K F4 (qeb R) v by have:=I4.slot 0;rw [eσ] at this;exact this)
    obtain ⟨vb',e1,ib'⟩:=(show ∃ v,x1=some v/\Is K F4 (.list (b.map .int)) v by have:=I4.slot 1;rw [eσ] at this;exact this)
    obtain ⟨v2,e2,i2⟩:=(show ∃ v,x2=some v/\Is K F4 (.int n) v by have:=I4.slot 2;rw [eσ] at this;exact this)
    have e3:x3=some (.ref a):=by
     have:=I4.slot 3;rw [eσ] at this;obtain ⟨_,_,z,_⟩:=this;exact z
    obtain ⟨v5,e5,i5⟩:=(show ∃ v,x5=some v/\Is K F4 (.int c) v by have:=I4.slot 5;rw [eσ] at this;exact this)
    obtain ⟨vk',e4,_⟩:=(show ∃ v,x4=some v/\Is K F4 (lkD n R.length Ls ss) v by have:=I4.slot 4;rw [eσ] at this;exact this)
    rw [i2.int_inv] at e2;rw [i5.int_inv] at e5;rw [e0,e1,e2,e3,e4,e5] at eσ;subst eσ;refine ⟨.ref a,rfl,a,dx,_,rfl,A4.ha,rfl,.int c,rfl,a,dx,qa,F4,vl,n,d,Ls,ss,R.length,c,rfl,A4,I4.fh,⟨hB,c1,hm24,hn20,d0,d1,zagx (b:=qhn Ls ss d) c2⟩,fun F5 H5 vl' r hr' ht gx A5=>?_⟩;have rn':=rn.next c1 c2 c3 hr' ht;have gg:=GoX.go (g.trans g4) gx na nq;have hS:=rn'.short;refine qqr rfl A5.ha rfl (zabi A5 gx.fh (rn'.bd hp).1 hn20 hm24 fun F6 H6 vk6 g6 ik6=>?_);exact ⟨(n+R.length)^R.length-(T'+1),by omega,T'+1,_,_,_,F6,a,dx,qa,vl',vr',vb',vk6,_,by omega,rfl,gg.trans g6,A5.go g6,na,nq,(ir'.mono gx.f).mono g6.f,(ib'.mono gx.f).mono g6.f,ik6,rn'⟩
  ·rw [decide_eq_false h0,if_neg (by decide)];have g2:=I2.goOf;have A2:=hA.go g2;refine qqr rfl A2.ha rfl (zaio A2 I2.fh ⟨hB,d0,d1,by omega,by omega,rn.top⟩ fun vs lb xs F3 H3 g3 hv1 hv2 hlb hH3 iss=>⟨szl,fun p hpp=>?_⟩);have nl:H lb=none:=qF (g.trans g2).h hlb;obtain ⟨F6,g6,i6,p1,p2⟩:=zaau (w := "fits") ((g.trans g2).trans g3) nl hH3 iss hpp;exact kk _ _ p lb xs F6 _ g6 i6 p1 nl p2 (by rw [iss.len,Qe];omega) (k1 vs (rn.fit hp h0 hv1 hv2))
def qps (ds:List Qh) (q:List Qh->Prop):Prop := ∃ (r:List Int) (j n:Nat),ds=[qef r,.int j,.int n]/\(r.length<=12/\1<=n/\n<=12)/\q ((qci r j n).map .int)
def qyq:FnScope ["row","new","many"] ["row","new","many"] (defScope qiz):=sc0
def qyp (F:Def K mg "seen_as" qiz ["row","new","many"]) (T:Txt K mg cs)
 : Ok P w K mg base "seen_as" 1 ["row","new","many"] (FSp K qps):=by
  refine F.vokF qyq (by rintro ds q ⟨_,_,_,h,_⟩;rw [h];rfl) fun f cdv A outer s H E hr ds q h=>?_;obtain ⟨r,j,n,rfl,⟨hl,n1,n2⟩,h⟩:=h;refine ⟨_,(qg (qgg (qL (caps:=["row","new","many"]) (own:=["place"]) (ix:=[0,1,2]) rfl ⟨rfl,rfl,rfl,rfl,rfl,rfl⟩ (qC T.range_ (qt qae (qv qbd T.len_ L2.boot_len (qc (qb 0) qd)) (qb 2))) (fun _ _ _ _=>(qo (i:=3) (show Q4 (["row","new","many","place"]:List Str) by decide))) (fun _ _ _ _=>(qgs (qE (qmg hr.units) (qt qjh (qb 3) (qb 2)) (qb 1)) (qr (qb 0) (qt qjd (qb 3) (qb 2))) qe))))),?_⟩;have lr:(((r.map Qw).length:Nat):Int)=r.length:=by rw [Qe]
  have mn:r.length*n<=12*12:=Yk hl n2;have e0:((r.length:Nat):Int)*((n:Nat):Int)=((r.length*n:Nat):Int):=by rw [Qbl]
  refine ⟨Jm (qaf (by omega) (by omega)),?_⟩;show _/\_;rw [lr,e0];refine ⟨⟨by omega,by omega⟩,qS ((qci r j n).map .int) (by rw [qs,Zt];simp [qci]) (qi (by simp [qci];omega)) (fun e => ∃ s,e=[.val (qef r),.val (.int j),.val (.int n),s]) ⟨_,rfl⟩ ?_ ⟨_,rfl,h⟩⟩;rintro i x ys e hx hys ⟨s,rfl⟩;obtain ⟨hi,rfl⟩:=qU hx;rw [Vg];have hi':i<r.length*n:=by omega
  have e1:((i:Nat):Int)%((n:Nat):Int)=((i%n:Nat):Int):=by rw [Qij]
  have e2:((i:Nat):Int)/((n:Nat):Int)=((i/n:Nat):Int):=by rw [Qer]
  have hd:i/n<r.length:=Nat.div_lt_of_lt_mul (by rw [Qaz];exact hi');have g:((qci r j n).map Qw)[i]?=some (.int (if i%n=j then (r[i/n]?).getD 0 else 0)):=by
   unfold qci;rw [Qa,Qa,Qn hi'];rfl
  have er:r[i/n]?=some ((r[i/n]?).getD 0):=by rw [Qc hd];rfl
  refine ⟨by omega,rfl,rfl,qgp (fun z=>?_) (fun z=>?_)⟩
  ·rw [e1] at z;refine ⟨⟨by omega,qu (qaf (by omega) (by omega)) (by decide)⟩,?_⟩;rw [e2];refine ⟨.int ((r[i/n]?).getD 0),qP (by rw [Qa,er];rfl),qq (g.trans ?_) hys,_,rfl⟩;rw [if_pos (by omega)]
  ·rw [e1] at z;refine ⟨qq (g.trans ?_) hys,_,rfl⟩;rw [if_neg (by omega)]
def qha (ds:List Qh) (q:List Qh->Prop):Prop := ∃ (b:Int) (r:List Int) (R:List (List Int)) (i n:Nat),ds=[qau b (r::R),.int i,.int n]/\(r.length<=12/\1<=n/\n<=12)/\q ((qmj b i r.length n).map .int)
def qnq:FnScope ["one","old","many"] ["one","old","many"] (defScope qdf):=sc0
def qob (F:Def K mg "shown_in_all" qdf ["one","old","many"]) (T:Txt K mg cs)
 (O_signs:Ok P w K mg base "signs" 1 ["glass"] (PSp K qcp))
 : Ok P w K mg base "shown_in_all" 2 ["one","old","many"] (FSp K qha):=by
  refine F.vokF qnq (by rintro ds q ⟨_,_,_,_,_,h,_⟩;rw [h];rfl) fun f cdv A outer s H E hr ds q h=>?_;obtain ⟨b,r,R,i,n,rfl,⟨hl,n1,n2⟩,h⟩:=h;refine ⟨_,(qg (qgg (qL (caps:=["one","old","many"]) (own:=["place"]) (ix:=[0,1,2]) rfl ⟨rfl,rfl,rfl,rfl,rfl,rfl⟩ (qC T.range_ (qt qae (qw O_signs.c hr.m (qc (qb 0) qd)) (qb 2))) (fun _ _ _ _=>(qo (i:=3) (show Q4 (["one","old","many","place"]:List Str) by decide))) (fun _ _ _ _=>(qgs (qE (qmg hr.units) (qt qjd (qb 3) (qb 2)) (qb 1)) (qr (qb 0) qe) qe))))),?_⟩;have mn:r.length*n<=12*12:=Yk hl n2;have e0:((r.length:Nat):Int)*((n:Nat):Int)=((r.length*n:Nat):Int):=by rw [Qbl]
  refine ⟨b,r,R,rfl,Jm (qaf (by omega) (by omega)),?_⟩;show _/\_;rw [e0];refine ⟨⟨by omega,by omega⟩,qS ((qmj b i r.length n).map .int) (by rw [qs,Zt];simp [qmj]) (qi (by simp [qmj];omega)) (fun e => ∃ s,e=[.val (qau b (r::R)),.val (.int i),.val (.int n),s]) ⟨_,rfl⟩ ?_ ⟨_,rfl,h⟩⟩;rintro k x ys e hx hys ⟨s,rfl⟩;obtain ⟨hk,rfl⟩:=qU hx;rw [Vg];have hk':k<r.length*n:=by omega
  have e2:((k:Nat):Int)/((n:Nat):Int)=((k/n:Nat):Int):=by rw [Qer]
  have g:((qmj b i r.length n).map Qw)[k]?=some (.int (if k/n=i then b else 0)):=by
   unfold qmj;rw [Qa,Qa,Qn hk'];rfl
  refine ⟨⟨by omega,qu (qaf (by omega) (by omega)) (by decide)⟩,rfl,rfl,qgp (fun z=>?_) (fun z=>?_)⟩
  ·rw [e2] at z;refine ⟨_,rfl,qq (g.trans ?_) hys,_,rfl⟩;rw [if_pos (by omega)]
  ·rw [e2] at z;refine ⟨qq (g.trans ?_) hys,_,rfl⟩;rw [if_neg (by omega)]
def qld (ds:List Qh) (q:List Qh->Prop):Prop := ∃ (b:Int) (R:List (List Int)) (m:Nat) (c:Int) (S:List (List Int)) (n:Nat),ds=[qau b R,qau c S]/\CmpPre b R m c S n/\q ((eqL b R m n).map qao)
def qeq:FnScope ["one","other","many","rows","row"] ["one","other"] (defScope qga):=sc0
def qtq (F:Def K mg "equations" qga ["one","other"]) (T:Txt K mg cs)
 (O_signs:Ok P w K mg base "signs" 1 ["glass"] (PSp K qcp))
 (O_seen_as:Ok P w K mg base "seen_as" 1 ["row","new","many"] (FSp K qps))
 (O_shown_in_all:Ok P w K mg base "shown_in_all" 2 ["one","old","many"] (FSp K qha))
 : Ok P w K mg base "equations" 3 ["one","other"] (FSp K qld):=by
  refine F.vokF qeq (by rintro ds q ⟨_,_,_,_,_,_,h,_⟩;rw [h];rfl) fun f cdv A outer s H E hr ds q h=>?_;obtain ⟨b,R,m,c,S,n,rfl,hp,h⟩:=h;refine ⟨_,(qf (qA (i:=2) qeq.nd (qw O_signs.c hr.m (qc (qb 1) qd)))
   (qf (qfj (i:=3) qeq.nd (qZ qd))
   (qf (qbh rfl (qR (qr (qb 0) qe)) (qo (i:=4) qeq.nd) (qg (qtj 3 (qL (caps:=["many","row"]) (own:=["sign"]) (ix:=[2,4]) rfl ⟨rfl,rfl,rfl,rfl,rfl,rfl⟩ (qC T.range_ (qb 2)) (fun _ _ _ _=>(qo (i:=2) (show Q4 (["many","row","sign"]:List Str) by decide))) (fun _ _ _ _=>(qy (qlw O_seen_as.c hr.m (qc (qb 1) (qc (qb 2) (qc (qb 0) qd))))))))))
   (qf (qtj 3 (qL (caps:=["one","many"]) (own:=["sign"]) (ix:=[0,2]) rfl ⟨rfl,rfl,rfl,rfl,rfl,rfl⟩ (qC T.range_ (qw O_signs.c hr.m (qc (qb 0) qd))) (fun _ _ _ _=>(qo (i:=2) (show Q4 (["one","many","sign"]:List Str) by decide))) (fun _ _ _ _=>(qy (qlw O_shown_in_all.c hr.m (qc (qb 0) (qc (qb 2) (qc (qb 1) qd))))))))
   (qg (qtv 3)))))),?_⟩
  have w1:=hp.w1;have w2:=hp.w2;have m1:=hp.m1;have m2:=hp.m2;have n1:=hp.n1;have n2:=hp.n2;have hl:=hp.l;obtain ⟨r0,R0,eR⟩:=Qq (show R≠[] from fun z=>by rw [z] at w1;simp at w1);obtain ⟨s0,S0,eS⟩:=Qq (show S≠[] from fun z=>by rw [z] at hl;rw [hl] at w1;simp at w1);have l1:r0.length=m:=hp.r.len r0 (by rw [eR];simp);have l2:s0.length=n:=hp.s.len s0 (by rw [eS];simp);have fl : ∀ i,i<=R.length->(((R.take i).map fun r=>(Qm n).map fun j=>qci r j n).flatten).length=i*n:=fun i hi=>by
   rw [qaz (qct _ n),Qe,Z3,Vk hi]
  refine ⟨c,s0,S0,by rw [eS],szl,_,rfl,fun i e => ∃ t4,e=[.val (qau b R),.val (qau c S),.val (.int n),.own ((((R.take i).map fun r=>(Qm n).map fun j=>qci r j n).flatten).map qao),t4],⟨_,by rw [l2];rfl⟩,?_,?_⟩
  ·rintro i x e hx ⟨t4,rfl⟩;obtain ⟨r,hr,rfl⟩:=qfp hx;have hi:i<R.length:=(Qk.mp hr).1;have lr:=hp.r.len r (Qg hr);refine ⟨rfl,⟨by omega,by omega⟩,?_⟩;refine ⟨qi (by rw [qs];omega),fun k ys e=>ys=(((Qm n).map fun j=>qci r j n).map qao).take k /\ ∃ u,e=[.val (.int n),.val (qef r),u],⟨by simp,_,rfl⟩,?_,?_⟩
   ·rintro j y ys e hy ⟨hys,s,rfl⟩;obtain ⟨hj,rfl⟩:=qU hy;rw [Vg];have hj':j<n:=by omega
    refine ⟨r,j,n,rfl,⟨by omega,by omega,by omega⟩,qq ?_ hys,_,rfl⟩;rw [Qa,Qa,Qn hj'];rfl
   ·rintro ys e ⟨hys,u,rfl⟩;rw [qs,Zt,Zf (by simp)] at hys;subst hys;have hf:=fl i (by omega);have hin:i*n<=4*4:=Yk (by omega) n2;refine ⟨rfl,qem ?_,.val (qef r),?_⟩
    ·show (((((R.take i).map fun r=>(Qm n).map fun j=>qci r j n).flatten).map qao)).length+(((Qm n).map fun j=>qci r j n).map qao).length<=1000;rw [Qe,Qe,Qe,Yc,hf];omega
    ·rw [Yb,hr];show _=[_,_,_,Sl.own _,_];simp;rfl
  rintro e ⟨t4,rfl⟩;rw [Qe,Z0];have hf:=fl R.length (Qs _);rw [Z0] at hf;have hin:R.length*n<=4*4:=Yk w2 n2;refine ⟨rfl,b,r0,R0,by rw [eR],⟨by omega,by omega⟩,?_⟩;refine ⟨qi (by rw [qs];omega),fun k ys e=>ys=(((Qm m).map fun i=>qmj b i m n).map qao).take k /\ ∃ u,e=[.val (qau b R),.val (.int n),u],⟨by simp,_,rfl⟩,?_,?_⟩
  ·rintro j y ys e hy ⟨hys,s,rfl⟩;obtain ⟨hj,rfl⟩:=qU hy;rw [Vg];have hj':j<m:=by omega
   refine ⟨b,r0,R0,j,n,by rw [eR],⟨by omega,by omega,by omega⟩,qq ?_ hys,_,rfl⟩;rw [Qa,Qa,Qn hj',l1];rfl
  ·rintro ys e ⟨hys,u,rfl⟩;rw [qs,Zt,l1,Zf (by simp)] at hys;subst hys;refine ⟨rfl,qem ?_,?_⟩
   ·show (((R.map fun r=>(Qm n).map fun j=>qci r j n).flatten).map qao).length+(((Qm m).map fun i=>qmj b i m n).map qao).length<=1000;rw [Qe,Qe,Qe,Yc,hf];omega
   ·rw [eqL,Q6] at h;exact ⟨_,rfl,h⟩
def qif (ds:List Qh) (q:List Qh->Prop):Prop := ∃ (b:Int) (R:List (List Int)) (m:Nat) (c:Int) (S:List (List Int)) (n:Nat),ds=[qau b R,qau c S]/\CmpPre b R m c S n/\q ((qgb S c m).map .int)
def qfb:FnScope ["one","other","sums","row"] ["one","other"] (defScope qdv):=sc0
def qos (F:Def K mg "wanted_sums" qdv ["one","other"]) (T:Txt K mg cs)
 (O_signs:Ok P w K mg base "signs" 1 ["glass"] (PSp K qcp))
 : Ok P w K mg base "wanted_sums" 2 ["one","other"] (FSp K qif):=by
  refine F.vokF qfb (by rintro ds q ⟨_,_,_,_,_,_,h,_⟩;rw [h];rfl) fun f cdv A outer s H E hr ds q h=>?_;obtain ⟨b,R,m,c,S,n,rfl,hp,h⟩:=h;refine ⟨_,(qf (qfj (i:=2) qfb.nd (qZ qd))
   (qf (qbh rfl (qR (qr (qb 1) qe)) (qo (i:=3) qfb.nd) (qg (qxu 2 (qb 3))))
   (qhz 2 (qg (qgg (qff (qb 2) (qy (qL (caps:=["other"]) (own:=["sign"]) (ix:=[1]) rfl ⟨rfl,rfl,rfl,rfl,rfl,rfl⟩ (qC T.range_ (qw O_signs.c hr.m (qc (qb 0) qd))) (fun _ _ _ _=>(qo (i:=1) (show Q4 (["other","sign"]:List Str) by decide))) (fun _ _ _ _=>(qr (qb 0) qe)))))))))),?_⟩
  have w1:=hp.w1;have w2:=hp.w2;have m2:=hp.m2;have n2:=hp.n2;have hl:=hp.l;obtain ⟨r0,R0,eR⟩:=Qq (show R≠[] from fun z=>by rw [z] at w1;simp at w1);have l1:r0.length=m:=hp.r.len r0 (by rw [eR];simp);have fl : ∀ i,i<=S.length->((S.take i).flatten).length=i*n:=fun i hi=>by
   rw [qaz (fun l hl=>hp.s.len l (Vo hl)),Z3,Vk hi]
  refine ⟨szl,_,rfl,fun i e => ∃ t3,e=[.val (qau b R),.val (qau c S),.own (((S.take i).flatten).map .int),t3],⟨_,rfl⟩,?_,?_⟩
  ·rintro i x e hx ⟨t3,rfl⟩;obtain ⟨r,hr,rfl⟩:=qfp hx;have hi:i<S.length:=(Qk.mp hr).1;have lr:=hp.s.len r (Qg hr);have hf:=fl i (by omega);have hin:i*n<=4*4:=Yk (by omega) n2;refine ⟨rfl,rfl,qem ?_,.val (qef r),?_⟩
   ·show (((S.take i).flatten).map Qw).length+(r.map Qw).length<=1000;rw [Qe,Qe,hf];omega
   ·rw [Yb,hr];show _=[_,_,Sl.own _,_];simp;rfl
  rintro e ⟨t3,rfl⟩;rw [Qe,Z0];have hf:=fl S.length (Qs _);rw [Z0] at hf;have hin:S.length*n<=4*4:=Yk (by omega) n2;refine ⟨b,r0,R0,by rw [eR],⟨by omega,by omega⟩,?_⟩;show _/\_;refine qS (((Qm m).map fun _=>c).map .int) (by simp [qs,l1]) (qi (by simp;omega)) (fun e => ∃ s,e=[.val (qau c S),s]) ⟨_,rfl⟩ ?_ ?_
  ·rintro j y ys e hy hys ⟨s,rfl⟩;obtain ⟨hj,rfl⟩:=qU hy;have hj':j<m:=by omega
   refine ⟨_,rfl,qq ?_ hys,_,rfl⟩;rw [Qa,Qa,Qn hj'];rfl
  ·refine ⟨qem ?_,?_⟩
   ·rw [Qe,Qe,Qe,Yc,hf];omega
   ·rw [qgb,Q6] at h;exact ⟨_,rfl,h⟩
def qng (ds:List Qh) (k:Qh->Prop):Prop := ∃ p q,ds=[dSh p q]/\Shr p q/\k (.bool true)
def qvr:FnScope ["thing"] ["thing"] (defScope qgv):=sc0
def qvt (F:Def K mg "is_share" qgv ["thing"]) (T:Txt K mg cs)
 (O_divisor:Ok P w K mg base "divisor" 1 ["one","other"] (PSp K qdx))
 (O_is_whole:Ok P w K mg base "is_whole" 1 ["thing"] (PSp K qeg))
 : Ok P w K mg base "is_share" 2 ["thing"] (PSp K qng):=by
  refine F.vok qvr (by rintro ds q ⟨_,_,h,_⟩;rw [h];rfl) fun f cdv A outer s H E hr ds k h=>?_;obtain ⟨p,q,rfl,hp,h⟩:=h;refine ⟨_,(qf (qar (VW.pt (qhm (qdj (qdk (qol T.isinstance_ T.tuple_ L2.boot_tuple (qb 0)))) (qfg (qE (qpy hr.units) (qv qbd T.len_ L2.boot_len (qc (qb 0) qd)) qe)))) (qg (qx qoa)) qz)
   (qf (qar (VW.pt (qhm (qdj (qdk (qw O_is_whole.c hr.m (qc (qr (qb 0) qe) qd)))) (qfg (qdj (qdk (qw O_is_whole.c hr.m (qc (qr (qb 0) qe) qd))))))) (qg (qx qoa)) qz)
   (qg (qx (qrg (qkc o_ge (qr (qb 0) qe) qe) (qll (qkc (qmg hr.units) (qw O_divisor.c hr.m (qc (qr (qb 0) qe) (qc (qr (qb 0) qe) qd))) qe))))))),?_⟩
  have hq:=hp.pos;refine ⟨rfl,rfl,_,rfl,_,rfl,_,rfl,?_⟩;refine qip (fun _=>⟨_,rfl,_,rfl,rfl,rfl,?_⟩) (fun z=>(z hq).elim);rw [hp.gcd];exact h
def qhc (ds:List Qh) (k:Qh->Prop):Prop := ∃ p q r s,ds=[dSh p q,dSh r s]/\(Shr p q/\Shr r s)/\k .none
def qod:FnScope ["one","other"] ["one","other"] (defScope qdd):=sc0
def qof (F:Def K mg "check_shares" qdd ["one","other"]) (T:Txt K mg cs)
 (O_is_share:Ok P w K mg base "is_share" 2 ["thing"] (PSp K qng))
 : Ok P w K mg base "check_shares" 3 ["one","other"] (PSp K qhc):=by
  refine F.vok qod (by rintro ds q ⟨_,_,_,_,h,_⟩;rw [h];rfl) fun f cdv A outer s H E hr ds k h=>?_;obtain ⟨p,q,r,s,rfl,⟨hp,hr'⟩,h⟩:=h;refine ⟨_,(qg (qar (VW.pt (qhm (qdj (qdk (qw O_is_share.c hr.m (qc (qb 0) qd)))) (qfg (qdj (qdk (qw O_is_share.c hr.m (qc (qb 1) qd))))))) qca qz)),?_⟩;exact ⟨p,q,rfl,hp,r,s,rfl,hr',h⟩
def qwz (ds:List Qh) (k:Qh->Prop):Prop := ∃ p q r s,ds=[dSh p q,dSh r s]/\(ShW p q/\ShW r s)/\k (dSh (shT (p*r) (q*s)) (shB (p*r) (q*s)))
def zaef:FnScope ["one","other"] ["one","other"] (defScope qpf):=sc0
def zaen (F:Def K mg "times" qpf ["one","other"]) (T:Txt K mg cs)
 (O_reduced:Ok P w K mg base "reduced" 2 ["top","bottom"] (PSp K qgx))
 (O_check_shares:Ok P w K mg base "check_shares" 3 ["one","other"] (PSp K qhc))
 : Ok P w K mg base "times" 4 ["one","other"] (PSp K qwz):=by
  refine F.vok zaef (by rintro ds q ⟨_,_,_,_,h,_⟩;rw [h];rfl) fun f cdv A outer s H E hr ds k h=>?_;obtain ⟨p,q,r,s,rfl,⟨hp,hr'⟩,h⟩:=h;refine ⟨_,(qf (qfl (qw O_check_shares.c hr.m (qc (qb 0) (qc (qb 1) qd))))
   (qg (qx (qw O_reduced.c hr.m (qc (qt qae (qr (qb 0) qe) (qr (qb 1) qe)) (qc (qt qae (qr (qb 0) qe) (qr (qb 1) qe)) qd)))))),?_⟩
  exact ⟨p,q,r,s,rfl,⟨hp.s,hr'.s⟩,_,rfl,_,rfl,qkv hp.b1 hr'.b1,_,rfl,_,rfl,qkv hp.b2 hr'.b2,hp.bot hr',h⟩
def qie (ds:List Qh) (q:Qh->Prop):Prop := ∃ (d:Qh) (r:List (Int×Int)) (B:Int),ds=[d,.int B]/\(qfs d=some (r.map dS)/\r.length<=900/\(∀ x ∈ r,Shr x.1 x.2/\intBits x.1<=4000/\x.2∣B)/\0<B/\intBits B<=4000)/\q (qef (qbs B r))
def qoq:FnScope ["row","bottom"] ["row","bottom"] (defScope qdz):=sc0
def qor (F:Def K mg "over_bottom" qdz ["row","bottom"]) (T:Txt K mg cs)
 : Ok P w K mg base "over_bottom" 1 ["row","bottom"] (PSp K qie):=by
  refine F.vok qoq (by rintro ds q ⟨_,_,_,h,_⟩;rw [h];rfl) fun f cdv A outer s H E hr ds q h=>?_;obtain ⟨d,r,B,rfl,⟨e,hl,hx,B0,zB⟩,h⟩:=h;refine ⟨_,(qg (qx (qba qej T.tuple_ L2.boot_tuple (qc (qy (qL (caps:=["bottom"]) (own:=["part"]) (ix:=[1]) rfl ⟨rfl,rfl,rfl,rfl,rfl,rfl⟩ (qR (qb 0)) (fun _ _ _ _=>(qo (i:=1) (show Q4 (["bottom","part"]:List Str) by decide))) (fun _ _ _ _=>(qt qae (qr (qb 1) qe) (qt qjd (qb 0) (qr (qb 1) qe)))))) qd)))),?_⟩;refine qek e (qS ((qbs B r).map .int) (by simp [qbs]) (qi (by simp [qbs];omega)) (fun e => ∃ s,e=[.val (.int B),s]) ⟨_,rfl⟩ ?_ h);rintro i x ys e hx' hys ⟨s,rfl⟩;obtain ⟨y,hy,rfl⟩:=shG hx';obtain ⟨s1,s2,s3⟩:=hx y (Qg hy);have q0:=s1.pos;refine ⟨.int y.1,rfl,.int y.2,rfl,⟨by omega,qu (dvdB s3 B0 zB) (by decide)⟩,qkv s2 (dvdB (x:=B/y.2) ⟨y.2,(Qgl s3).symm⟩ B0 zB),qq ?_ hys,_,rfl⟩;unfold qbs;rw [Qa,Qa,hy];rfl
def qey (ds:List Qh) (q:Qh->Prop):Prop := ∃ (d:Qh) (V:List (List (Int×Int))) (D0:Int),ds=[d]/\(zapy d V/\V.length<=900/\(∀ r ∈ V,r.length<=900 /\ ∀ x ∈ r,Shr x.1 x.2/\intBits x.1<=4000/\x.2∣D0)/\0<D0/\intBits D0<=4000) /\ ∀ B,LcmB V B->q (qau B (V.map (qbs B)))
def qah:FnScope ["rows","bottom","row","part"] ["rows"] (defScope qbk):=sc0
def qkl (F:Def K mg "table_of_shares" qbk ["rows"]) (T:Txt K mg cs)
 (O_divisor:Ok P w K mg base "divisor" 1 ["one","other"] (PSp K qdx))
 (O_over_bottom:Ok P w K mg base "over_bottom" 1 ["row","bottom"] (PSp K qie))
 : Ok P w K mg base "table_of_shares" 2 ["rows"] (PSp K qey):=by
  refine F.vok qah (by rintro ds q ⟨_,_,_,h,_⟩;rw [h];rfl) fun f cdv A outer s H E hr ds q h=>?_;obtain ⟨d,V,D0,rfl,⟨⟨l,e,el,hV⟩,hl,hx,d0,zd⟩,h⟩:=h;refine ⟨_,(qf (qA (i:=1) qah.nd qe)
   (qf (qbh rfl (qR (qb 0)) (qo (i:=2) qah.nd) (qg (qbh rfl (qR (qb 2)) (qo (i:=3) qah.nd) (qg (qA (i:=1) qah.nd (qt qjd (qt qae (qb 1) (qr (qb 3) qe)) (qw O_divisor.c hr.m (qc (qb 1) (qc (qr (qb 3) qe) qd)))))))))
   (qg (qx (qkf (qc (qb 1) (qc (qba qej T.tuple_ L2.boot_tuple (qc (qy (qL (caps:=["bottom"]) (own:=["row"]) (ix:=[1]) rfl ⟨rfl,rfl,rfl,rfl,rfl,rfl⟩ (qR (qb 0)) (fun _ _ _ _=>(qo (i:=1) (show Q4 (["bottom","row"]:List Str) by decide))) (fun _ _ _ _=>(qw O_over_bottom.c hr.m (qc (qb 1) (qc (qb 0) qd)))))) qd)) qd))))))),?_⟩
  refine qek e ⟨fun i e => ∃ t1 t2 B,e=[.val d,.val (.int B),t1,t2]/\LcmL (V.take i).flatten B/\B∣D0,⟨_,_,_,rfl,by simpa using LcmL.nil,⟨D0,by omega⟩⟩,?_,?_⟩
  ·rintro i x e' hxi ⟨t1,t2,B,rfl,hB,Bd⟩;obtain ⟨r,hr,er⟩:=hV i x hxi;refine qek er ⟨fun j e => ∃ t2 B,e=[.val d,.val (.int B),.val x,t2]/\LcmL ((V.take i).flatten++r.take j) B/\B∣D0,⟨_,_,rfl,by simpa using hB,Bd⟩,?_,?_⟩
   ·rintro j y e hy ⟨t2,B,rfl,hB,Bd⟩;obtain ⟨z,hz,rfl⟩:=shG hy;obtain ⟨s1,s2,s3⟩:=(hx r (Qg hr)).2 z (Qg hz);have q0:=s1.pos;have B0:=hB.pos;have gp:(0:Int)<(Ym B z.2:Nat):=by have:=Qcq B (show z.2≠0 by omega);omega
    refine ⟨.int z.2,rfl,qkv (dvdB Bd d0 zd) (dvdB s3 d0 zd),.int z.2,rfl,⟨gp,qu (dvdB (Qac (Qik ..) Bd) d0 zd) (by decide)⟩,_,_,rfl,?_,(qqx B0 (show 0<z.2 by omega) Bd s3).2.1⟩;rw [zaqc hz,<- Qhi];exact hB.snoc (by omega)
   ·rintro e ⟨t2,B,rfl,hB,Bd⟩;refine ⟨_,_,_,rfl,?_,Bd⟩;rw [Qe,Z0] at hB;rw [zarr hr];exact hB
  rintro e' ⟨t1,t2,B,rfl,hB,Bd⟩;rw [el,Z0] at hB;have hB':=hB.b;have B0:=hB.pos;have zB:=dvdB Bd d0 zd;refine qek e (qS ((V.map (qbs B)).map qef) (by simp [el]) (qi (by simp;omega)) (fun e => ∃ s,e=[.val (.int B),s]) ⟨_,rfl⟩ ?_ ⟨szl,h B hB'⟩);rintro i x ys e' hxi hys ⟨s,rfl⟩;obtain ⟨r,hr,er⟩:=hV i x hxi;obtain ⟨rl,rx⟩:=hx r (Qg hr);refine ⟨x,r,B,rfl,⟨er,rl,fun y hy=>⟨(rx y hy).1,(rx y hy).2.1,hB'.dv r (Qg hr) y hy⟩,B0,zB⟩,qq ?_ hys,_,rfl⟩;rw [Qa,Qa,hr];rfl
def qkm (ds:List Qh) (q:Qh->Prop):Prop := ∃ (l:List Qh) (n w:Nat),ds=[.list l,.int n,.int w]/\(n<=100/\w<=100)/\q (.list ((qG l n w).map .tuple))
def qys:FnScope ["flat","wide","many"] ["flat","wide","many"] (defScope qjm):=sc0
def qxz (F:Def K mg "in_rows" qjm ["flat","wide","many"]) (T:Txt K mg cs)
 : Ok P w K mg base "in_rows" 1 ["flat","wide","many"] (PSp K qkm):=by
  refine F.vok qys (by rintro ds q ⟨_,_,_,h,_⟩;rw [h];rfl) fun f cdv A outer s H E hr ds q h=>?_;obtain ⟨l,n,w,rfl,⟨hn,hw⟩,h⟩:=h;refine ⟨_,(qg (qx (qy (qL (caps:=["flat","wide"]) (own:=["k"]) (ix:=[0,1]) rfl ⟨rfl,rfl,rfl,rfl,rfl,rfl⟩ (qC T.range_ (qb 2)) (fun _ _ _ _=>(qo (i:=2) (show Q4 (["flat","wide","k"]:List Str) by decide))) (fun _ _ _ _=>(qba qej T.tuple_ L2.boot_tuple (qc (qy (qby (qb 0) (qce (qt qae (qb 2) (qb 1))) (qce (qt qae (qt qcc (qb 2) qe) (qb 1))))) qd))))))),?_⟩;refine ⟨⟨by omega,by omega⟩,qS ((qG l n w).map .tuple) (by simp [qG,qs]) (qi (by simp [qG];omega)) (fun e => ∃ s,e=[.val (.list l),.val (.int n),s]) ⟨_,rfl⟩ ?_ h⟩;rintro i x ys e hx hys ⟨s,rfl⟩;obtain ⟨hi,rfl⟩:=qU hx;rw [Vg];have hi':i<w:=by omega
  have e1:((i:Nat):Int)*((n:Nat):Int)=((i*n:Nat):Int):=by rw [Qbl]
  have e2:(((i:Nat):Int)+1)*((n:Nat):Int)=((i*n+n:Nat):Int):=by rw [Int.add_mul,e1];omega
  refine ⟨Jm (qaf (by omega) (by omega)),Jm (qaf (by omega) (by omega)),?_⟩;rintro z rfl;refine ⟨qq ?_ hys,_,rfl⟩;rw [Qa,qdn hi',e1,e2,zajx _ (by omega) (by omega)];show some (Qdn _)=some (Qdn _)
  congr 3
  omega
def qka (ds:List Qh) (q:Qh->Prop):Prop := ∃ (b:Int) (R:List (List Int)) (m:Nat) (c:Int) (S:List (List Int)) (n:Nat) (vs:List (Int×Int)),ds=[qau b R,qau c S,.list (vs.map dS)]/\(CmpPre b R m c S n/\FitV (m*n) (eqL b R m n) (qgb S c m) vs) /\ ∀ B D,Dls b R m c S n B D->q (qau B D)
def qgc:FnScope ["one","other","values","back","shares"] ["one","other","values"] (defScope qep):=sc0
def qrb (F:Def K mg "dulling_by" qep ["one","other","values"]) (T:Txt K mg cs)
 (O_signs:Ok P w K mg base "signs" 1 ["glass"] (PSp K qcp))
 (O_share:Ok P w K mg base "share" 3 ["top","bottom"] (PSp K qio))
 (O_times:Ok P w K mg base "times" 4 ["one","other"] (PSp K qwz))
 (O_table_of_shares:Ok P w K mg base "table_of_shares" 2 ["rows"] (PSp K qey))
 (O_in_rows:Ok P w K mg base "in_rows" 1 ["flat","wide","many"] (PSp K qkm))
 : Ok P w K mg base "dulling_by" 5 ["one","other","values"] (PSp K qka):=by
  refine F.vok qgc (by rintro ds q ⟨_,_,_,_,_,_,_,h,_⟩;rw [h];rfl) fun f cdv A outer s H E hr ds q h=>?_;obtain ⟨b,R,m,c,S,n,vs,rfl,⟨hp,hv⟩,h⟩:=h;refine ⟨_,(qf (qA (i:=3) qgc.nd (qw O_share.c hr.m (qc (qr (qb 0) qe) (qc (qr (qb 1) qe) qd))))
   (qf (qpm (caps:=["back"]) (own:=["value"]) (ix:=[3]) (i:=4) qgc.nd rfl ⟨rfl,rfl,rfl,rfl,rfl,rfl⟩ (qR (qb 2)) (fun _ _ _ _=>(qo (i:=1) (show Q4 (["back","value"]:List Str) by decide))) (fun _ _ _ _=>(qw O_times.c hr.m (qc (qb 1) (qc (qb 0) qd)))))
   (qg (qx (qw O_table_of_shares.c hr.m (qc (qw O_in_rows.c hr.m (qc (qb 4) (qc (qw O_signs.c hr.m (qc (qb 1) qd)) (qc (qw O_signs.c hr.m (qc (qb 0) qd)) qd)))) qd)))))),?_⟩
  have w1:=hp.w1;have m1:=hp.m1;have m2:=hp.m2;have n1:=hp.n1;have n2:=hp.n2;have hl:=hp.l;have b1:=hp.r.pos;have c1:=hp.s.pos;have zb:=hp.zb;have zc:=hp.zc;obtain ⟨r0,R0,eR⟩:=Qq (show R≠[] from fun z=>by rw [z] at w1;simp at w1);obtain ⟨s0,S0,eS⟩:=Qq (show S≠[] from fun z=>by rw [z] at hl;rw [hl] at w1;simp at w1);have l1:r0.length=m:=hp.r.len r0 (by rw [eR];simp);have l2:s0.length=n:=hp.s.len s0 (by rw [eS];simp);obtain ⟨vl,d,d0,zd,hx,_⟩:=id hv;have mn:m*n<=4*4:=Yk m2 n2;have bb:intBits b<=64:=qaf (by omega) (by omega);have cb:intBits c<=64:=qaf (by omega) (by omega);have hbk:ShW (shT b c) (shB b c):=zaoh (by omega) (qu bb (by decide)) (qu cb (by decide));have hvw : ∀ x ∈ vs,ShW x.1 x.2:=fun x hm=>by
   obtain ⟨q1,q2,q3,q4⟩:=hx x hm;exact ⟨q1,qu q4 (by decide),qu (dvdB q3 d0 zd) (by decide)⟩
  refine ⟨_,rfl,_,rfl,⟨by omega,qu cb (by decide)⟩,?_⟩;show _/\_;refine qS (ds:=vs.map dS) ((vs.map (qW b c)).map dS) (by simp) (qi (by rw [Qe,Qe,vl];omega)) (fun e => ∃ s,e=[.val (dSh (shT b c) (shB b c)),s]) ⟨_,rfl⟩ ?_ ?_
  ·rintro i x ys e hx' hys ⟨s,rfl⟩;obtain ⟨y,hy,rfl⟩:=shG hx';refine ⟨y.1,y.2,_,_,rfl,⟨hvw y (Qg hy),hbk⟩,qq ?_ hys,_,rfl⟩;rw [Qa,Qa,hy];rfl
  refine ⟨c,s0,S0,by rw [eS],b,r0,R0,by rw [eR],_,n,m,by rw [l1,l2],⟨by omega,by omega⟩,?_⟩;have dc0:0<d*c:=Yr d0 (by omega);have hrow : ∀ r ∈ qG (vs.map (qW b c)) n m,∀ y ∈ r,∃ x ∈ vs,y=qW b c x:=fun r hr y hy=>by
   obtain ⟨k,hk,rfl⟩:=Qr.mp hr;obtain ⟨x,hx,rfl⟩:=Qr.mp (Je (Vo hy));exact ⟨x,hx,rfl⟩
  refine ⟨_,qG (vs.map (qW b c)) n m,d*c,rfl,⟨⟨_,rfl,by simp [qG],fun i x hxi=>?_⟩,by simp [qG];omega,fun r hr=>⟨?_,fun y hy=>?_⟩,dc0,qu (Qce zd cb) (by decide)⟩,fun B hB=>h B _ (zajt hp hv hB)⟩
  ·rw [Qa] at hxi;cases e:(qG ((vs.map (qW b c)).map dS) n m)[i]? with
   | none=>rw [e] at hxi;cases hxi
   | some z =>
    rw [e] at hxi;have ez:=(Qx hxi).symm;subst ez;have hi:i<m:=by
     have:=(Qk.mp e).1;simpa [qG] using this
    rw [qdn hi] at e;have e':=(Qx e).symm;subst e';refine ⟨_,qdn hi,?_⟩;show some _=some _;rw [Jv,Qcs]
  ·obtain ⟨k,hk,rfl⟩:=Qr.mp hr;rw [Z3];omega
  ·obtain ⟨x,hxm,rfl⟩:=hrow r hr y hy;obtain ⟨q1,q2,q3,q4⟩:=hx x hxm;obtain ⟨g1,g2,g3⟩:=qpq (show 0<b by omega) (show 0<c by omega) q1;exact ⟨g1,qis (qu (Qce q4 (qis (qu bb (Qs _)))) (by decide)),Qac g3 (Qfi q3 (Qhw _))⟩
def shpS {x:Str} (n:Nat) (h:Qh.strOk x=true):Shp n (.str x):=by simp [Shp,J4,Qfk,h]
def qna (ds:List Qh) (q:Qh->Prop):Prop := ∃ (b:Int) (R:List (List Int)) (m:Nat) (c:Int) (S:List (List Int)) (n:Nat),ds=[qau b R,qau c S]/\CmpPre b R m c S n/\zaks b R m c S n q
def qnc:FnScope ["one","other","answer"] ["one","other"] (defScope qhi):=sc0
def qvy (F:Def K mg "compared" qhi ["one","other"]) (T:Txt K mg cs)
 (O_stands:Ok P w K mg base "stands" 1 ["glass"] (PSp K qgm))
 (O_check_alike_stands:Ok P w K mg base "check_alike_stands" 2 ["one","other"] (PSp K qbf))
 (O_signs:Ok P w K mg base "signs" 1 ["glass"] (PSp K qcp))
 (O_check_few_signs:Ok P w K mg base "check_few_signs" 2 ["glass"] (PSp K qcn))
 (O_solved:Ok P w K mg base "solved" 5 ["rows","sums"] (SolSp K qsf))
 (O_equations:Ok P w K mg base "equations" 3 ["one","other"] (FSp K qld))
 (O_wanted_sums:Ok P w K mg base "wanted_sums" 2 ["one","other"] (FSp K qif))
 (O_in_rows:Ok P w K mg base "in_rows" 1 ["flat","wide","many"] (PSp K qkm))
 (O_dulling_by:Ok P w K mg base "dulling_by" 5 ["one","other","values"] (PSp K qka))
 : Ok P w K mg base "compared" 6 ["one","other"] (PSp K qna):=by
  refine F.vok qnc (by rintro ds q ⟨_,_,_,_,_,_,h,_⟩;rw [h];rfl) fun f cdv A outer s H E hr ds q h=>?_;obtain ⟨b,R,m,c,S,n,rfl,hp,h1,h2⟩:=h;refine ⟨_,(qf (qfl (qw O_check_alike_stands.c hr.m (qc (qb 0) (qc (qb 1) qd))))
   (qf (qfl (qw O_check_few_signs.c hr.m (qc (qb 0) qd)))
   (qf (qfl (qw O_check_few_signs.c hr.m (qc (qb 1) qd)))
   (qf (qA (i:=2) qnc.nd (qw (zard O_solved).c hr.m (qc (qy (qlw O_equations.c hr.m (qc (qb 0) (qc (qb 1) qd)))) (qc (qy (qlw O_wanted_sums.c hr.m (qc (qb 0) (qc (qb 1) qd)))) qd))))
   (qf (qar (qE (qmg hr.units) (qr (qb 2) qe) qcv) (qg (qx (qkf (qc qcv (qc (qw O_dulling_by.c hr.m (qc (qb 0) (qc (qb 1) (qc (qr (qb 2) qe) qd)))) qd))))) qz)
   (qg (qx (qkf (qc qcv (qc (qba qej T.tuple_ L2.boot_tuple (qc (qw O_in_rows.c hr.m (qc (qr (qb 2) qe) (qc (qw O_signs.c hr.m (qc (qb 1) qd)) (qc (qw O_stands.c hr.m (qc (qb 1) qd)) qd)))) qd)) qd)))))))))),?_⟩
  have w1:=hp.w1;have w2:=hp.w2;have m2:=hp.m2;have n2:=hp.n2;have hl:=hp.l;obtain ⟨r0,R0,eR⟩:=Qq (show R≠[] from fun z=>by rw [z] at w1;simp at w1);obtain ⟨s0,S0,eS⟩:=Qq (show S≠[] from fun z=>by rw [z] at hl;rw [hl] at w1;simp at w1);have l1:r0.length=m:=hp.r.len r0 (by rw [eR];simp);have l2:s0.length=n:=hp.s.len s0 (by rw [eS];simp);have shF:=shpS (x := "fits") 0 (by decide +kernel);have shN:=shpS (x := "none") 0 (by decide +kernel);refine ⟨b,R,c,S,rfl,hl,b,r0,R0,by rw [eR],by omega,c,s0,S0,by rw [eS],by omega,b,R,m,c,S,n,rfl,hp,b,R,m,c,S,n,rfl,hp,m*n,eqL b R m n,qgb S c m,rfl,zajy hp,fun vs hv=>?_,fun ws hw=>?_⟩
  ·refine ⟨.str "fits",rfl,shF.ok,shF.ok,iteY shF.refl ⟨_,rfl,b,R,m,c,S,n,vs,rfl,⟨hp,hv⟩,fun B D hD=>⟨szl,h1 B D hD⟩⟩⟩
  ·refine ⟨.str "none",rfl,shN.ok,shF.ok,qrs (by decide +kernel) ⟨_,rfl,c,s0,S0,by rw [eS],c,S,rfl,_,n,R.length,by rw [l2,hl],⟨by omega,by omega⟩,?_⟩⟩;have e:(qG (ws.map Qw) n R.length).map Qdn=(qG ws n R.length).map qef:=by
    unfold qG qef;rw [Vf,Vf];refine Qav fun k _=>?_;show Qdn _=Qdn _;rw [Jv,Qcs]
   show _/\_;rw [e];exact ⟨szl,h2 _ (zagl hp hw)⟩
def zahz (ds:List Qh) (q:Qh->Prop):Prop := ∃ (L:List (Int×List (List Int))) (W:Nat) (g:Int×List (List Int)),ds=[dG g,.list (L.map dG)]/\(Shf L W/\GS W 2000000 g) /\ ∀ as,AnsL g L as->q (.list as)
def qia:FnScope ["glass","shelf"] ["glass","shelf"] (defScope qas):=sc0
def qid (F:Def K mg "compared_with_all" qas ["glass","shelf"]) (T:Txt K mg cs)
 (O_compared:Ok P w K mg base "compared" 6 ["one","other"] (PSp K qna))
 : Ok P w K mg base "compared_with_all" 7 ["glass","shelf"] (PSp K zahz):=by
  refine F.vok qia (by rintro ds q ⟨_,_,_,h,_⟩;rw [h];rfl) fun f cdv A outer s H E hr ds q h=>?_;obtain ⟨L,W,g,rfl,⟨hS,hg⟩,h⟩:=h;refine ⟨_,(qg (qx (qy (qL (caps:=["glass"]) (own:=["other"]) (ix:=[0]) rfl ⟨rfl,rfl,rfl,rfl,rfl,rfl⟩ (qR (qb 1)) (fun _ _ _ _=>(qo (i:=1) (show Q4 (["glass","other"]:List Str) by decide))) (fun _ _ _ _=>(qw O_compared.c hr.m (qc (qb 0) (qc (qb 1) qd)))))))),?_⟩;have n2:=hS.n2;have w1:=hS.w1;refine ⟨qi (by rw [Qe];omega),fun k ys e=>(ys.length=k /\ ∀ (j:Nat) k' d,L[j]?=some k'->ys[j]?=some d->Ans g k' d) /\ ∃ v,e=[.val (dG g),v],⟨⟨rfl,by simp⟩,_,rfl⟩,?_,?_⟩
  ·rintro i x ys e hx ⟨⟨hl,ha⟩,v,rfl⟩;obtain ⟨k',hk,rfl⟩:=trow_get' hx;have G:=hS.g k' (Qg hk);have snoc : ∀ d,Ans g k' d->((ys++[d]).length=i+1 /\ ∀ (j:Nat) k' d',L[j]?=some k'->(ys++[d])[j]?=some d'->Ans g k' d'):=fun d hd=>by
    refine ⟨by simp [hl],fun j k2 d2 h1 h2=>?_⟩;by_cases q:j<ys.length
    ·rw [Zc q] at h2;exact ha j k2 d2 h1 h2
    ·rw [Zm (by omega)] at h2;have:j-ys.length=0:=by
      rcases Va (j-ys.length) with z|z
      ·exact z
      ·rw [Q8 (by simp;omega)] at h2;cases h2
     rw [this] at h2;have e1:d=d2:=Qx h2;have e2:j=i:=by omega
     rw [e2,hk] at h1;injection h1 with h1;rw [<- e1,<- h1];exact hd
   exact ⟨g.1,g.2,wd g,k'.1,k'.2,wd k',rfl,GS.pre (by omega) hS.w2 hg G,fun B D hD=>⟨snoc _ (.inl ⟨B,D,hD,rfl⟩),_,rfl⟩,fun Y hY=>⟨snoc _ (.inr ⟨Y,hY,rfl⟩),_,rfl⟩⟩
  ·rintro ys e ⟨⟨hl,ha⟩,v,rfl⟩;rw [Qe] at hl;exact h ys ⟨hl,ha⟩
def qik (ds:List Qh) (q:Qh->Prop):Prop := ∃ (L:List (Int×List (List Int))) (W:Nat) (As:List (List Qh)) (i j:Nat),ds=[.int i,.int j,.list (As.map .list)]/\(Shf L W/\AnsM L As/\i<L.length/\j<L.length) /\ ∀ t,(t=true↔DLi L i j)->q (.bool t)
def qvw:FnScope ["one","other","answers"] ["one","other","answers"] (defScope qgz):=sc0
def qvz (F:Def K mg "dulls_so" qgz ["one","other","answers"]) (T:Txt K mg cs)
 : Ok P w K mg base "dulls_so" 1 ["one","other","answers"] (PSp K qik):=by
  refine F.vok qvw (by rintro ds q ⟨_,_,_,_,_,h,_⟩;rw [h];rfl) fun f cdv A outer s H E hr ds q h=>?_;obtain ⟨L,W,As,i,j,rfl,⟨hS,hA,hi,hj⟩,h⟩:=h;refine ⟨_,(qg (qx (qkc (qmg hr.units) (qr (qr (qr (qb 2) (qb 0)) (qb 1)) qe) qcv))),?_⟩;have shD:=shpS (x := "dulls") 0 (by decide +kernel);have shC:=shpS (x := "decision") 0 (by decide +kernel);have cd':Vw (.str "decision") (.str "dulls")=false:=by decide +kernel
  obtain ⟨g,k,as,d,e1,e2,e3,e4,hd⟩:=hA.at hi hj;have b1:=(hS.g g (Qg e1)).h.t.pos;have b2:=(hS.g k (Qg e2)).h.t.pos;have a1:atI (As.map Qbx) (i:Int)=some (.list as):=qP (by rw [Qa,e3];rfl);have a2:atI as (j:Int)=some d:=qP e4;rcases hd with ⟨B,D,hD,rfl⟩|⟨Y,hY,rfl⟩
  ·refine ⟨_,a1,_,a2,_,rfl,shD.ok,shD.ok,?_⟩;show q (.bool (Vw (.str "dulls") (.str "dulls")));rw [shD.refl];exact h true ⟨fun _=>⟨g,k,e1,e2,B,D,hD.u⟩,fun _=>rfl⟩
  ·refine ⟨_,a1,_,a2,_,rfl,shC.ok,shD.ok,?_⟩;show q (.bool (Vw (.str "decision") (.str "dulls")));rw [cd'];refine h false ⟨fun z=>(by cases z),fun xx202=>?_⟩;obtain ⟨g',k',x1,x2,B,D,hD⟩:=xx202;rw [e1] at x1;rw [e2] at x2;injection x1 with x1;injection x2 with x2;subst x1 x2;exact (zabn (by omega) (by omega) hD hY).elim
def qpd (ds:List Qh) (q:Qh->Prop):Prop := ∃ (L:List (Int×List (List Int))) (W:Nat) (As:List (List Qh)) (i j:Nat),ds=[.int i,.int j,.list (As.map .list)]/\(Shf L W/\AnsM L As/\i<L.length/\j<L.length) /\ ∀ t,(t=true↔qme L i j)->q (.bool t)
def qyo:FnScope ["one","other","answers"] ["one","other","answers"] (defScope qiy):=sc0
def qxl (F:Def K mg "outdoes" qiy ["one","other","answers"]) (T:Txt K mg cs)
 (O_dulls_so:Ok P w K mg base "dulls_so" 1 ["one","other","answers"] (PSp K qik))
 : Ok P w K mg base "outdoes" 2 ["one","other","answers"] (PSp K qpd):=by
  refine F.vok qyo (by rintro ds q ⟨_,_,_,_,_,h,_⟩;rw [h];rfl) fun f cdv A outer s H E hr ds q h=>?_;obtain ⟨L,W,As,i,j,rfl,⟨hS,hA,hi,hj⟩,h⟩:=h;refine ⟨_,(qg (qx (qrg (qw O_dulls_so.c hr.m (qc (qb 0) (qc (qb 1) (qc (qb 2) qd)))) (qll (zalv (qkc qyk (qb 0) (qb 1)) (qll (zaic (qw O_dulls_so.c hr.m (qc (qb 1) (qc (qb 0) (qc (qb 2) qd))))))))))),?_⟩;refine ⟨L,W,As,i,j,rfl,⟨hS,hA,hi,hj⟩,fun t ht=>iteB (fun e1=>?_) (fun e1=>?_)⟩
  ·refine qip (fun e2=>?_) (fun e2=>?_)
   ·exact h true ⟨fun _=>⟨ht.mp e1,.inl (by omega)⟩,fun _=>rfl⟩
   ·refine ⟨L,W,As,j,i,rfl,⟨hS,hA,hj,hi⟩,fun u hu=>h (!u) ⟨fun z=>⟨ht.mp e1,.inr fun y=>?_⟩,fun ⟨_,z⟩=>?_⟩⟩
    ·rw [hu.mpr y] at z;cases z
    ·rcases z with z|z
     ·omega
     ·cases u with
      | false=>rfl
      | true=>exact (z (hu.mp rfl)).elim
  ·refine h false ⟨fun z=>(by cases z),fun z=>?_⟩;rw [ht.mpr z.1] at e1;cases e1
def qjs (ds:List Qh) (q:Qh->Prop):Prop := ∃ (L:List (Int×List (List Int))) (W:Nat) (As:List (List Qh)) (j:Nat),ds=[.int j,.list (As.map .list)]/\(Shf L W/\AnsM L As/\j<L.length) /\ ∀ t,(t=true↔qpx L j)->q (.bool t)
def qrm:FnScope ["number","answers"] ["number","answers"] (defScope qew):=sc0
def qri (F:Def K mg "is_outdone" qew ["number","answers"]) (T:Txt K mg cs)
 (O_outdoes:Ok P w K mg base "outdoes" 2 ["one","other","answers"] (PSp K qpd))
 : Ok P w K mg base "is_outdone" 3 ["number","answers"] (PSp K qjs):=by
  refine F.vok qrm (by rintro ds q ⟨_,_,_,_,h,_⟩;rw [h];rfl) fun f cdv A outer s H E hr ds q h=>?_;obtain ⟨L,W,As,j,rfl,⟨hS,hA,hj⟩,h⟩:=h;refine ⟨_,(qg (qx (qv (zaqh rfl) T.any_ L2.boot_any (qc (qy (qL (caps:=["number","answers"]) (own:=["other"]) (ix:=[0,1]) rfl ⟨rfl,rfl,rfl,rfl,rfl,rfl⟩ (qC T.range_ (qv qbd T.len_ L2.boot_len (qc (qb 1) qd))) (fun _ _ _ _=>(qo (i:=2) (show Q4 (["number","answers","other"]:List Str) by decide))) (fun _ _ _ _=>(qw O_outdoes.c hr.m (qc (qb 2) (qc (qb 0) (qc (qb 1) qd))))))) qd)))),?_⟩;have n2:=hS.n2;have lA:(((As.map Qbx).length:Nat):Int)=L.length:=by rw [Qe,hA.l]
  refine ⟨⟨by rw [lA];omega,by rw [lA];omega⟩,qi (by rw [qs,lA];omega),fun k ys e=>(∃ bs:List Bool,ys=bs.map .bool/\(bs.any id=true ↔ ∃ i,i<k/\qme L i j)) /\ ∃ v,e=[.val (.int j),.val (.list (As.map .list)),v],⟨⟨[],rfl,by simp⟩,_,rfl⟩,?_,?_⟩
  ·rintro i x ys e hx ⟨⟨bs,rfl,hb⟩,v,rfl⟩;obtain ⟨hi,rfl⟩:=qU hx;rw [Vg];have hi':i<L.length:=by rw [lA] at hi;omega
   refine ⟨L,W,As,i,j,rfl,⟨hS,hA,hi',hj⟩,fun t ht=>⟨⟨bs++[t],by simp,?_⟩,_,rfl⟩⟩;rw [List.any_append,Qja,hb];constructor
   ·rintro (⟨k,hk,o⟩|z)
    ·exact ⟨k,by omega,o⟩
    ·exact ⟨i,by omega,ht.mp (by simpa using z)⟩
   ·rintro ⟨k,hk,o⟩;by_cases e:k=i
    ·subst e;right;simpa using ht.mpr o
    ·exact .inl ⟨k,by omega,o⟩
  ·rintro ys e ⟨⟨bs,rfl,hb⟩,v,rfl⟩;rw [qs,lA,Zt] at hb;refine ⟨bs,rfl,?_⟩;exact h _ hb
structure ByOf (L:List (Int×List (List Int))) (fs:List Nat) (j t:Nat):Prop where
 k : ∃ k:Nat,fs[k]?=some t /\ ∀ k' t',k'<k->fs[k']?=some t' -> ¬ DLi L t' j
 d:DLi L t j
def dNs (fs:List Nat):Qh :=.list (fs.map fun (k:Nat) => .int k)
def TRow (L:List (Int×List (List Int))) (fs:List Nat) (j:Nat) (d:Qh):Prop := ∃ (t:Nat) (B:Int) (D:List (List Int)),ByOf L fs j t/\(∀ g h,L[t]?=some g->L[j]?=some h->Dls g.1 g.2 (wd g) h.1 h.2 (wd h) B D)/\d = .tuple [.int j,.int t,qau B D]
structure TopsOk (L:List (Int×List (List Int))) (ou:Nat->Bool) (fs:List Nat) (rs:List Qh):Prop where
 o : ∀ i,ou i=true↔qpx L i
 f:fs=(Qm L.length).filter fun i => !ou i
 l:rs.length=((Qm L.length).filter ou).length
 r : ∀ (k j:Nat) d,((Qm L.length).filter ou)[k]?=some j->rs[k]?=some d->TRow L fs j d
def qcs {α:Type}{p:α->Bool}{l:List α}{i:Nat}{x:α} (h:l[i]?=some x):(l.take (i+1)).filter p=(l.take i).filter p++if p x then [x] else []:=by
 rw [Yb,h,Qbm]
 congr 1
 show [x].filter p=_;by_cases q:p x=true
 ·rw [if_pos q,Qbn q];rfl
 ·rw [if_neg q,Jw q];rfl
def zamx {n i:Nat}{ou:Nat->Bool} (hi:i<n):(((Qm n).filter fun i => !ou i).map fun (k:Nat)=>(k:Int)).any (· == (i:Int)) = !ou i:=by
 rw [Qbi,Qep];constructor
 ·rintro ⟨x,hx,e⟩;obtain ⟨k,hk,rfl⟩:=Qr.mp hx;have e:(k:Int)=i:=by simpa using e
  have:k=i:=by omega
  subst this;exact (Yi.mp hk).2
 ·intro h;exact ⟨(i:Int),Qr.mpr ⟨i,Yi.mpr ⟨Zg.mpr hi,h⟩,rfl⟩,by simp⟩
def qsj (ds:List Qh) (q:Qh->Prop):Prop := ∃ (L:List (Int×List (List Int))) (W:Nat) (As:List (List Qh)) (fs:List Nat) (j:Nat),ds=[.int j,dNs fs,.list (As.map .list)]/\(Shf L W/\AnsM L As/\j<L.length/\fs.length<=5/\(∀ t ∈ fs,t<L.length) /\ ∃ t ∈ fs,DLi L t j) /\
 ∀ (t:Nat) (B:Int) (D:List (List Int)),ByOf L fs j t->(∀ g h,L[t]?=some g->L[j]?=some h->Dls g.1 g.2 (wd g) h.1 h.2 (wd h) B D)->q (.tuple [.int j,.int t,qau B D])
def qsv:FnScope ["number","found","answers","by"] ["number","found","answers"] (defScope qln):=sc0
def zaco (F:Def K mg "row_of" qln ["number","found","answers"]) (T:Txt K mg cs)
 (O_dulls_so:Ok P w K mg base "dulls_so" 1 ["one","other","answers"] (PSp K qik))
 : Ok P w K mg base "row_of" 2 ["number","found","answers"] (PSp K qsj):=by
  refine F.vok qsv (by rintro ds q ⟨_,_,_,_,_,h,_⟩;rw [h];rfl) fun f cdv A outer s H E hr ds q h=>?_;obtain ⟨L,W,As,fs,j,rfl,⟨hS,hA,hj,hf,hfL,hex⟩,h⟩:=h;refine ⟨_,(qf (qA (i:=3) qsv.nd (qr (qy (qmw (caps:=["number","answers"]) (own:=["top"]) (ix:=[0,2]) rfl ⟨rfl,rfl,rfl,rfl,rfl,rfl⟩ (qR (qb 1)) (fun _ _ _ _=>(qo (i:=2) (show Q4 (["number","answers","top"]:List Str) by decide))) (fun _ _ _ _=>(qdk (qw O_dulls_so.c hr.m (qc (qb 2) (qc (qb 0) (qc (qb 1) qd)))))) (fun _ _ _ _=>(qb 2)))) qe))
   (qg (qx (qkf (qc (qb 0) (qc (qb 3) (qc (qr (qr (qr (qb 2) (qb 3)) (qb 0)) qe) qd))))))),?_⟩
  have n2:=hS.n2;refine ⟨qi (by rw [Qe];omega),fun k ys e=>((ys=[] /\ ∀ k' t',k'<k->fs[k']?=some t' -> ¬ DLi L t' j) \/ ∃ (t:Nat) (rest:List Qh),ys = .int t::rest/\ByOf L fs j t) /\ ∃ v,e=[.val (.int j),.val (.list (As.map .list)),v],⟨.inl ⟨rfl,fun k' t' z=>by omega⟩,_,rfl⟩,?_,?_⟩
  ·rintro i x ys e hx ⟨hy,v,rfl⟩;rw [Qa] at hx;cases ei:fs[i]? with
   | none=>rw [ei] at hx;cases hx
   | some t =>
   rw [ei] at hx;have hx:some (Qw t)=some x:=hx;injection hx with hx;subst hx;refine ⟨L,W,As,t,j,rfl,⟨hS,hA,hfL t (Qg ei),hj⟩,fun b hb=>iteB (fun e1=>⟨?_,_,rfl⟩) (fun e1=>⟨?_,_,rfl⟩)⟩
   ·right;rcases hy with ⟨rfl,hn⟩|⟨t0,rest,rfl,h0⟩
    ·exact ⟨t,[],rfl,⟨i,ei,hn⟩,hb.mp e1⟩
    ·exact ⟨t0,rest++[.int t],rfl,h0⟩
   ·rcases hy with ⟨rfl,hn⟩|hy
    ·refine .inl ⟨rfl,fun k' t' z et=>?_⟩;by_cases e:k'=i
     ·subst e;rw [ei] at et;injection et with et;subst et;intro y;rw [hb.mpr y] at e1;cases e1
     ·exact hn k' t' (by omega) et
    ·exact .inr hy
  rintro ys e ⟨hy,v,rfl⟩;rw [Qe] at hy;rcases hy with ⟨rfl,hn⟩|⟨t,rest,rfl,ht⟩
  ·exfalso;obtain ⟨t,tm,td⟩:=hex;obtain ⟨k,hk⟩:=Vp tm;exact hn k t (Qk.mp hk).1 hk td
  obtain ⟨k,ek,_⟩:=ht.k;have htL:=hfL t (Qg ek);obtain ⟨g,k',as,d,e1,e2,e3,e4,hd⟩:=hA.at htL hj;have b1:=(hS.g g (Qg e1)).h.t.pos;have b2:=(hS.g k' (Qg e2)).h.t.pos;have a1:atI (As.map Qbx) (t:Int)=some (.list as):=qP (by rw [Qa,e3];rfl);have a2:atI as (j:Int)=some d:=qP e4;rcases hd with ⟨B,D,hD,rfl⟩|⟨Y,hY,rfl⟩
  ·refine ⟨_,qbl _ _,_,a1,_,a2,_,rfl,szl,h t B D ht fun g2 h2 x1 x2=>?_⟩;rw [e1] at x1;rw [e2] at x2;injection x1 with x1;injection x2 with x2;subst x1 x2;exact hD
  ·exfalso;obtain ⟨g2,k2,x1,x2,B,D,hD⟩:=ht.d;rw [e1] at x1;rw [e2] at x2;injection x1 with x1;injection x2 with x2;subst x1 x2;exact zabn (by omega) (by omega) hD hY
def zaap (ds:List Qh) (q:Qh->Prop):Prop := ∃ (L:List (Int×List (List Int))) (W:Nat),ds=[.list (L.map dG)]/\Shf L W /\ ∀ ou fs rs,TopsOk L ou fs rs->q (.tuple [dNs fs,.list rs])
def TopSp (K:Qd) (sp:DC):Sp:=fun vs H Q _ => ∃ F ds q,Same F H/\Iss K F ds vs/\sp ds q /\
 ∀ d p l1 l2 xs1 xs2 F' H',Go F H F' H'->Is K F' d (.ref p)->H' p=some (.tup [.ref l1,.ref l2])->H l1=none->H l2=none->H' l1=some (.lst xs1)->H' l2=some (.lst xs2)->l1≠l2->xs1.length<=900->xs2.length<=900->q d->Q (.ref p) H'
def TopSp.psp {K:Qd}{sp:DC}{vs:List V}{H:Hp}{Q:VK}{E:XK} (h:PSp K sp vs H Q E):TopSp K sp vs H Q E:=by
 obtain ⟨F,ds,q,s,i,h,k⟩:=h;exact ⟨F,ds,q,s,i,h,fun d p l1 l2 xs1 xs2 F' H' g j _ _ _ _ _ _ _ _ z=>k d (.ref p) F' H' g j z⟩
def zaih {P:Zr}{w:World}{K:Qd}{mg:Str->Option Value}{base:Heap}{x:Str}{k:Nat}{ps:List Str}{sp:DC} (O:Ok P w K mg base x k ps (TopSp K sp)):Ok P w K mg base x k ps (PSp K sp):=O.imp' fun _ _ _ _ z=>TopSp.psp z
def zaqj (L:List (Int×List (List Int))) : ∃ ou:Nat->Bool,∀ i,ou i=true↔qpx L i:=⟨fun i => @decide (qpx L i) (Zw _),fun i => @decide_eq_true_iff (qpx L i) (Zw _)⟩
def qpc:FnScope ["shelf","answers","found","rest"] ["shelf"] (defScope qvm):=sc0
def zaiu (F:Def K mg "tops" qvm ["shelf"]) (T:Txt K mg cs)
 (O_check_shelf:Ok P w K mg base "check_shelf" 3 ["shelf"] (PSp K qig))
 (O_compared_with_all:Ok P w K mg base "compared_with_all" 7 ["glass","shelf"] (PSp K zahz))
 (O_is_outdone:Ok P w K mg base "is_outdone" 3 ["number","answers"] (PSp K qjs))
 (O_row_of:Ok P w K mg base "row_of" 2 ["number","found","answers"] (PSp K qsj))
 : Ok P w K mg base "tops" 8 ["shelf"] (TopSp K zaap):=by
  refine F.ok qpc (by rintro vs H Q E ⟨F,ds,q,_,i,⟨_,_,h,_⟩,_⟩;rw [i.len,h];rfl) fun f cdv A outer s H vs Q E hr h=>?_;obtain ⟨F0,ds,q,sm,hi,⟨L,W,rfl,hS,k1⟩,kk⟩:=h;obtain ⟨ou,hou⟩:=zaqj L;refine ⟨_,qM (VS.ps (qfl (qw O_check_shelf.c hr.m (qc (qb 0) qd)))) (qM (VS.ps (qA (i:=1) qpc.nd (qy (qL (caps:=["shelf"]) (own:=["glass"]) (ix:=[0]) rfl ⟨rfl,rfl,rfl,rfl,rfl,rfl⟩ (qR (qb 0)) (fun _ _ _ _=>(qo (i:=1) (show Q4 (["shelf","glass"]:List Str) by decide))) (fun _ _ _ _=>(qw O_compared_with_all.c hr.m (qc (qb 1) (qc (qb 0) qd))))))))
   (qM (qgo (i:=2) qpc.nd rfl (by first|exact Yn rfl|exact Zz rfl) (VF.pe (qmw (caps:=["answers"]) (own:=["number"]) (ix:=[1]) rfl ⟨rfl,rfl,rfl,rfl,rfl,rfl⟩ (qC T.range_ (qv qbd T.len_ L2.boot_len (qc (qb 0) qd))) (fun _ _ _ _=>(qo (i:=1) (show Q4 (["answers","number"]:List Str) by decide))) (fun _ _ _ _=>(qdj (qdk (qw O_is_outdone.c hr.m (qc (qb 1) (qc (qb 0) qd)))))) (fun _ _ _ _=>(qb 1)))) rfl (by first|exact .inl rfl|exact .inr rfl))
   (qM (zaby (i:=3) (caps:=["found"]) (own:=["number"]) (ix:=[2]) qpc.nd rfl ⟨rfl,rfl,rfl,rfl,rfl,rfl⟩ (qC T.range_ (qv qbd T.len_ L2.boot_len (qc (qb 0) qd))) (fun _ _ _ _=>(qo (i:=1) (show Q4 (["found","number"]:List Str) by decide))) (fun _ _ _ _=>(qE zaeh (qb 1) (qb 0))) (fun _ _ _ _=>(qb 1)))
   (qhw (qog (qvh (qH (pv 2) (qH (VF.pe (qL (caps:=["answers","found"]) (own:=["number"]) (ix:=[1,2]) rfl ⟨rfl,rfl,rfl,rfl,rfl,rfl⟩ (qR (qb 3)) (fun _ _ _ _=>(qo (i:=2) (show Q4 (["answers","found","number"]:List Str) by decide))) (fun _ _ _ _=>(qw O_row_of.c hr.m (qc (qb 2) (qc (qb 1) (qc (qb 0) qd))))))) qaw)))))))),?_⟩
  refine ⟨⟨H,H,F0⟩,_,F0,{ nx:=fun e=>e=[.val (.list (L.map dG)),.non,.non,.non],rt:=fun _ _=>False },qee sm hi,?_,⟨fun e1 F1 H1 σ1 I1 s1 q1=>?_,fun _ _ _ _ _ _ _ _ _ q=>q.elim,fun _ _ _ _ _ _ q=>q.elim,fun _ _ _ _ _ _ q=>q.elim⟩⟩
  ·exact ⟨L,W,rfl,hS,rfl⟩
  have q1:e1=_:=q1;subst q1;refine ⟨⟨H,H,F0⟩,_,F1,{ nx:=fun e => ∃ As,AnsM L As/\e=[.val (.list (L.map dG)),.val (.list (As.map .list)),.non,.non],rt:=fun _ _=>False },I1,?_,⟨fun e2 F2 H2 σ2 I2 s2 q2=>?_,fun _ _ _ _ _ _ _ _ _ q=>q.elim,fun _ _ _ _ _ _ q=>q.elim,fun _ _ _ _ _ _ q=>q.elim⟩⟩
  ·have n2:=hS.n2;refine ⟨qi (by rw [Qe];omega),fun k ys e=>(∃ Bs:List (List Qh),ys=Bs.map .list/\Bs.length=k /\ ∀ (i:Nat) g as,L[i]?=some g->Bs[i]?=some as->AnsL g L as) /\ ∃ v,e=[.val (.list (L.map dG)),v],⟨⟨[],rfl,rfl,by simp⟩,_,rfl⟩,?_,?_⟩
   ·rintro i x ys e hx ⟨⟨Bs,rfl,hl,ha⟩,v,rfl⟩;obtain ⟨g,hg,rfl⟩:=trow_get' hx;refine ⟨L,W,g,rfl,⟨hS,hS.g g (Qg hg)⟩,fun as has=>⟨⟨Bs++[as],by simp,by simp [hl],fun j k2 d2 h1 h2=>?_⟩,_,rfl⟩⟩;by_cases q:j<Bs.length
    ·rw [Zc q] at h2;exact ha j k2 d2 h1 h2
    ·rw [Zm (by omega)] at h2;have:j-Bs.length=0:=by
      rcases Va (j-Bs.length) with z|z
      ·exact z
      ·rw [Q8 (by simp;omega)] at h2;cases h2
     rw [this] at h2;have e1:as=d2:=Qx h2;have e2:j=i:=by omega
     rw [e2,hg] at h1;injection h1 with h1;rw [<- e1,<- h1];exact has
   ·rintro ys e ⟨⟨Bs,rfl,hl,ha⟩,v,rfl⟩;rw [Qe] at hl;exact ⟨Bs,⟨hl,ha⟩,rfl⟩
  obtain ⟨As,hA,rfl⟩:=q2;have n2:=hS.n2;obtain ⟨x0,_,rfl,⟨v0,rfl,i0⟩,x1,_,rfl,⟨v1,rfl,i1⟩,x2,_,rfl,_,x3,_,rfl,_,rfl⟩:=I2.all;have lL:(((L.map dG).length:Nat):Int)=L.length:=by rw [Qe]
  obtain ⟨fs,efs⟩ : ∃ fs,fs=(Qm L.length).filter fun i => !ou i:=⟨_,rfl⟩
  have fsl:fs.length<=5:=by
   have:=Jb (fun i => !ou i) (Qm L.length);rw [<- efs,Yc] at this;omega
  refine ⟨⟨H,H,F0⟩,_,F2,fun ds e=>ds=fs.map fun (k:Nat)=>Qw k,I2,?_,fun a xs1 ds F3 H3 e3 I3 s3 h1 h2 h3 h4 h5 h6 h7=>?_⟩
  ·refine ⟨⟨by rw [lL];omega,by rw [lL];omega⟩,qi (by rw [qs,lL];omega),fun k ys e=>ys=(((Qm L.length).take k).filter fun i => !ou i).map (fun (k:Nat)=>Qw k) /\ ∃ v,e=[.val (.list (As.map .list)),v],⟨by simp,_,rfl⟩,?_,?_⟩
   ·rintro i x ys e hx ⟨rfl,v,rfl⟩;obtain ⟨hi,rfl⟩:=qU hx;rw [Vg];have hi':i<L.length:=by rw [lL] at hi;omega
    have er:=Qn hi';refine ⟨L,W,As,i,rfl,⟨hS,hA,hi'⟩,fun t ht=>?_⟩;have et:t=ou i:=by
     rw [Qbi,ht,hou]
    cases t with
    | false =>
     refine ⟨?_,_,rfl⟩;rw [qcs er,Q6,if_pos (by rw [<- et];rfl)];rfl
    | true =>
     refine ⟨?_,_,rfl⟩;rw [qcs er,Q6,if_neg (by rw [<- et];simp)];simp
   ·rintro ys e ⟨rfl,v,rfl⟩;rw [qs,lL,Zt,Zf (by simp),<- efs]
  have h7:ds=_:=h7;subst h7;have h4:H a=none:=h4;have g3:=qyh I3.goOf h4 h1;have sn:Same F3 (upd F3 a (.lst xs1)):=qmq I3.fh h1;have ia:Is K (upd F3 a (.lst xs1)) (dNs fs) (.ref a):=qdo (SqL.of ql) (h6.mono sn);obtain ⟨rest,erest⟩ : ∃ rest,rest=(Qm L.length).filter ou:=⟨_,rfl⟩
  have rl:rest.length<=5:=by
   have:=Jb ou (Qm L.length);rw [<- erest,Yc] at this;omega
  have J0:=(i0.mono s3).mono sn;have J1:=(i1.mono s3).mono sn;refine ⟨⟨H3,H3,upd F3 a (.lst xs1)⟩,[.val (.list (L.map dG)),.val (.list (As.map .list)),.val (dNs fs),.non],_,fun ds e=>ds=rest.map fun (k:Nat)=>Qw k,qzp g3.fh ⟨_,_,rfl,⟨⟨v0,rfl,J0⟩,rfl⟩,_,_,rfl,⟨⟨v1,rfl,J1⟩,rfl⟩,_,_,rfl,⟨⟨_,rfl,ia⟩,rfl⟩,_,_,rfl,⟨trivial,rfl⟩,rfl⟩,?_,fun a2 xs3 ds F5 H5 e5 I5 s5 k1' k2' k3' k4' k5' k6' k7'=>?_⟩
  ·refine ⟨⟨by rw [lL];omega,by rw [lL];omega⟩,qi (by rw [qs,lL];omega),fun k ys e=>ys=(((Qm L.length).take k).filter ou).map (fun (k:Nat)=>Qw k) /\ ∃ v,e=[.val (dNs fs),v],⟨by simp,_,rfl⟩,?_,?_⟩
   ·rintro i x ys e hx ⟨rfl,v,rfl⟩;obtain ⟨hi,rfl⟩:=qU hx;rw [Vg];have hi':i<L.length:=by rw [lL] at hi;omega
    have er:=Qn hi';refine ⟨i,fs.map fun (k:Nat)=>(k:Int),rfl,by unfold dNs qfs;rw [Vf];rfl,?_⟩;rw [efs,zamx hi',Bool.not_not];cases et:ou i with
    | true =>
     refine ⟨?_,_,rfl⟩;rw [qcs er,Q6,if_pos et];rfl
    | false =>
     refine ⟨?_,_,rfl⟩;rw [qcs er,Q6,if_neg (by rw [et];simp)];simp
   ·rintro ys e ⟨rfl,v,rfl⟩;rw [qs,lL,Zt,Zf (by simp),erest]
  have k7':ds=_:=k7';subst k7';have k4':H3 a2=none:=k4';have g5:=qyh I5.goOf k4' k1';have sn5:Same F5 (upd F5 a2 (.lst xs3)):=qmq I5.fh k1';have ia2:Is K (upd F5 a2 (.lst xs3)) (dNs rest) (.ref a2):=qdo (SqL.of ql) (k6'.mono sn5);have H5a:H5 a=some (.lst xs1):=g5.h _ _ h1;have g35:=g3.trans g5;refine ⟨.ref a,rfl,⟨H5,H5,upd F5 a2 (.lst xs3)⟩,[.val (.list (L.map dG)),.val (.list (As.map .list)),.val (dNs fs),.val (dNs rest)],_,fun ds e=>ds.length=rest.length /\ ∀ (k j:Nat) d,rest[k]?=some j->ds[k]?=some d->TRow L fs j d,qzp g5.fh ⟨_,_,rfl,⟨⟨v0,rfl,J0.mono g5.f⟩,rfl⟩,_,_,rfl,⟨⟨v1,rfl,J1.mono g5.f⟩,rfl⟩,_,_,rfl,⟨⟨_,rfl,ia.mono g5.f⟩,rfl⟩,_,_,rfl,⟨⟨_,rfl,ia2⟩,rfl⟩,rfl⟩,?_,fun b xs2 ds F6 H6 e6 I6 s6 b1 b2 b3 b4 b5 b6 b7=>?_⟩
  ·refine ⟨qi (by rw [Qe];omega),fun k ys e=>(ys.length=k /\ ∀ (k j:Nat) d,rest[k]?=some j->ys[k]?=some d->TRow L fs j d) /\ ∃ v,e=[.val (.list (As.map .list)),.val (dNs fs),v],⟨⟨rfl,by simp⟩,_,rfl⟩,?_,?_⟩
   ·rintro i x ys e hx ⟨⟨hl,ha⟩,v,rfl⟩;rw [Qa] at hx;cases ei:rest[i]? with
    | none=>rw [ei] at hx;cases hx
    | some j =>
    rw [ei] at hx;have hx:some (Qw j)=some x:=hx;injection hx with hx;subst hx;have jm:=Qg ei;rw [erest] at jm;have hj:=Zg.mp (Yi.mp jm).1;have fL : ∀ t ∈ fs,t<L.length:=fun t ht=>by
     rw [efs] at ht;exact Zg.mp (Yi.mp ht).1
    have ex : ∃ t ∈ fs,DLi L t j:=by
     obtain ⟨t,tl,tn,td⟩:=hS.ex hj;refine ⟨t,?_,td⟩;rw [efs];refine Yi.mpr ⟨Zg.mpr tl,?_⟩;cases eo:ou t with
     | false=>rfl
     | true=>exact (tn ((hou t).mp eo)).elim
    refine ⟨L,W,As,fs,j,rfl,⟨hS,hA,hj,fsl,fL,ex⟩,fun t B D hb hd=>⟨⟨by simp [hl],fun k2 j2 d2 z1 z2=>?_⟩,_,rfl⟩⟩;by_cases q:k2<ys.length
    ·rw [Zc q] at z2;exact ha k2 j2 d2 z1 z2
    ·rw [Zm (by omega)] at z2;have:k2-ys.length=0:=by
      rcases Va (k2-ys.length) with z|z
      ·exact z
      ·rw [Q8 (by simp;omega)] at z2;cases z2
     rw [this] at z2;have e1:=Qx z2;have e2:k2=i:=by omega
     rw [e2,ei] at z1;injection z1 with z1;subst z1;exact ⟨t,B,D,hb,hd,e1.symm⟩
   ·rintro ys e ⟨⟨hl,ha⟩,v,rfl⟩;rw [Qe] at hl;exact ⟨hl,ha⟩
  obtain ⟨bl,br⟩:=(show ds.length=rest.length /\ ∀ (k j:Nat) d,rest[k]?=some j->ds[k]?=some d->TRow L fs j d from b7)
  have b4:H5 b=none:=b4;have g6:=qyh I6.goOf b4 b1;have g36:=g35.trans g6;have sn6:Same F6 (upd F6 b (.lst xs2)):=qmq I6.fh b1;have ib:Is K (upd F6 b (.lst xs2)) (.list ds) (.ref b):=qdo (SqL.of ql) (b6.mono sn6);refine ⟨szl,fun p hp=>?_⟩;have g7:=Go.put (o:=HO.tup [.ref a,.ref b]) g36.fh hp;have g37:=g36.trans g7;have H6a:H6 a=some (.lst xs1):=g6.h _ _ H5a;have na:a≠b:=qm H5a b4;exact kk (.tuple [dNs fs,.list ds]) p a b xs1 xs2 _ _ g37 (qjy (SqT.of ql) (qB (((ia.mono g5.f).mono g6.f).mono g7.f) (qB (ib.mono g7.f) qQ))) ql h4 (qF g35.h b4) (g7.h _ _ H6a) (g7.h _ _ b1) na (by rw [h6.len,Qe];omega) (by rw [b6.len,bl];omega) (k1 ou fs ds ⟨hou,efs,by rw [bl,erest],by rw [<- erest];exact br⟩)
def penD (h:Int) (ns:List Int) (pos rest cnt:Int):List Qh:=[.int h,.list (ns.map .int),.int pos,.int rest,.int cnt]
def qax (p:List Qh):Prop := ∃ (h:Int) (ns:List Int) (pos rest cnt:Int),p=penD h ns pos rest cnt/\(h=0\/(h=1/\ns≠[]))/\ns.length<=63/\0<=pos
def qnk (ds:List Qh) (q:List Qh->Prop):Prop := ∃ ns:List Int,ds=[.list (ns.map .int)]/\ns.length<=63 /\ ∀ p,qax p->q p
def qij:FnScope ["_law_script","_law_head"] ["_law_script"] (defScope qhl):=sc0
def qvq (F:Def K mg "_law_pen" qhl ["_law_script"]) (T:Txt K mg cs)
 : Ok P w K mg base "_law_pen" 1 ["_law_script"] (FSp K qnk):=by
  refine F.vokF qij (by rintro ds q ⟨_,h,_⟩;rw [h];rfl) fun f cdv A outer s H E hr ds q h=>?_;obtain ⟨ns,rfl,hl,h⟩:=h;refine ⟨_,(qf (qA (i:=1) qij.nd qe)
   (qcz (qar (qE qxk (qv qbd T.len_ L2.boot_len (qc (qb 0) qd)) qe) (qg (qA (i:=1) qij.nd (qr (qb 0) qe))) qz)
   (qg (qgg (qZ (qc (qt qjh (qb 1) qe) (qc (qb 0) (qc qe (qc (qt qjd (qb 1) qe) (qc qe qd)))))))))),?_⟩
  refine ⟨fun e => ∃ c:Int,e=[.val (.list (ns.map .int)),.val (.int c)]/\(ns=[]->c=0),?_,?_⟩
  ·refine qip (fun z=>?_) (fun z=>⟨0,rfl,fun _=>rfl⟩);have hn:0<ns.length:=by simpa using z
   obtain ⟨n,en⟩:=qql (ns:=ns) (i:=0) (by decide) (by omega);refine ⟨_,en,n,rfl,fun z=>?_⟩;rw [z] at hn;simp at hn
  ·rintro e ⟨c,rfl,hc⟩;refine ⟨by decide,⟨by decide,by decide⟩,szl,_,rfl,h _ ⟨c%2,ns,0,c/2,0,rfl,?_,hl,by decide⟩⟩;by_cases hn:ns=[]
   ·left;rw [hc hn];rfl
   ·have:c%2=0\/c%2=1:=by omega
    rcases this with z|z
    ·exact .inl z
    ·exact .inr ⟨z,hn⟩
def qkh (ds0 ds:List Qh) (q:Qh->List Qh->Prop):Prop := ∃ (h:Int) (ns:List Int) (pos rest cnt:Int),ds0=penD h ns pos rest cnt/\ds=[]/\(ns≠[]/\ns.length<=63/\0<=pos) /\ ∀ x:Int,q (.int x) (penD h ns (pos+1) rest cnt)
def qdt:FnScope ["_law_pen_here","_law_cell","_law_number"] ["_law_pen_here"] (defScope qeo):=sc0
def qrf (F:Def K mg "_law_mixed" qeo ["_law_pen_here"]) (T:Txt K mg cs)
 : Ok P w K mg base "_law_mixed" 1 ["_law_pen_here"] (NSp K qkh):=by
  refine F.vokP qdt (by rintro ds0 ds q ⟨_,_,_,_,_,_,h,_⟩;rw [h];rfl) (by decide) fun f cdv A outer s H E hr ds0 ds q h=>?_;obtain ⟨hh,ns,pos,rest,cnt,rfl,rfl,⟨hn,hl,hp⟩,h⟩:=h;refine ⟨_,(qf (qhy 0 (qt qcc (qcd 0 qe) qe) qe)
   (qf (qA (i:=1) qdt.nd (qr (qcd 0 qe) (qt qjh (qcd 0 qe) (qv qbd T.len_ L2.boot_len (qc (qcd 0 qe) qd)))))
   (qf (qA (i:=2) qdt.nd (qt qjh (qt qae (qt qcc (qt qcc (qt qjh (qb 1) qe) (qt qae qe (qcd 0 qe))) qe) qe) qe))
   (qf (qA (i:=2) qdt.nd (qt qjh (qt qae (qb 2) (qt qcc (qt qcc (qt qjh (qb 2) qe) (qcd 0 qe)) qe)) qe))
   (qg (qx (qt qjd (qt qjh (qt qae (qb 2) qe) qe) qe))))))),?_⟩
  have hn0:0<(((ns.map Qw).length:Nat):Int):=by
   have:=Qgk.mpr hn;simp;omega
  have hm0:=Qbk (pos+1) (show (((ns.map Qw).length:Nat):Int)≠0 by omega);have hm1:=J7 (pos+1) hn0;obtain ⟨c,ec⟩:=qql (ns:=ns) (i:=(pos+1)%(((ns.map Qw).length:Nat):Int)) hm0 (by simpa using hm1);refine ⟨rfl,rfl,_,rfl,rfl,rfl,2,rfl,?_⟩;refine ⟨rfl,rfl,_,rfl,rfl,rfl,_,rfl,rfl,rfl,_,rfl,hn0,_,ec,?_⟩;refine ⟨by decide,rfl,rfl,_,rfl,Vh (by decide),Jm (by decide),by decide,?_⟩;have b0:0<=(c%2147483629+40503*(pos+1)+1)*48271%2147483647/\(c%2147483629+40503*(pos+1)+1)*48271%2147483647<2147483647:=⟨Qbk _ (by decide),J7 _ (by decide)⟩
  refine ⟨by decide,rfl,rfl,_,rfl,Vh (qaf (by omega) (by omega)),by decide,?_⟩;exact ⟨Jm (by decide),by decide,⟨by decide,by decide⟩,_,_,rfl,rfl,h _⟩
def qac (ds0 ds:List Qh) (q:Qh->List Qh->Prop):Prop := ∃ m:Int,ds=[.int m]/\qax ds0/\(0<m/\intBits m<=9000) /\ ∀ (x:Int) (p:List Qh),0<=x->x<m->qax p->q (.int x) p
def qlh:FnScope ["_law_pen_here","_law_many","_law_found"] ["_law_pen_here","_law_many"] (defScope qfy):=sc0
def qtr (F:Def K mg "_law_next" qfy ["_law_pen_here","_law_many"]) (T:Txt K mg cs)
 (O__law_mixed:Ok P w K mg base "_law_mixed" 1 ["_law_pen_here"] (NSp K qkh))
 : Ok P w K mg base "_law_next" 2 ["_law_pen_here","_law_many"] (NSp K qac):=by
  refine F.vokP qlh (by rintro ds0 ds q ⟨_,h,_⟩;rw [h];rfl) (by decide) fun f cdv A outer s H E hr ds0 ds q h=>?_;obtain ⟨m,rfl,⟨hh,ns,pos,rest,cnt,rfl,h01,hl,hp⟩,⟨m0,mz⟩,h⟩:=h;refine ⟨_,(qf (qar (qE (qmg hr.units) (qcd 0 qe) qe) (qg (qx (qt qjh (qV 0 O__law_mixed.c hr.m qd) (qb 1)))) qz)
   (qcz (qar (qE (qmg hr.units) (qcd 0 qe) qe) (qf (qhy 0 (qt qcc (qcd 0 qe) qe) qe)
   (qf (qhy 0 qe qe)
   (qcz (qar (qE qyk (qcd 0 qe) (qv qbd T.len_ L2.boot_len (qc (qcd 0 qe) qd))) (qg (qhy 0 (qr (qcd 0 qe) (qcd 0 qe)) qe)) qz)
   (qg (qhy 0 qe qe))))) qz)
   (qf (qhy 0 (qt qcc (qcd 0 qe) qe) qe)
   (qf (qA (i:=2) qlh.nd (qt qjh (qcd 0 qe) (qb 1)))
   (qf (qhy 0 (qt qjd (qcd 0 qe) (qb 1)) qe)
   (qg (qx (qb 2)))))))),?_⟩
  refine ⟨rfl,rfl,_,rfl,rfl,rfl,qgp (fun z=>?_) (fun z=>?_)⟩
  ·have hn:ns≠[]:=by
    rcases h01 with q|⟨_,q⟩
    ·omega
    ·exact q
   refine ⟨rfl,rfl,hh,ns,pos,rest,cnt,rfl,rfl,⟨hn,hl,hp⟩,fun x=>⟨m0,_,_,rfl,rfl,h _ _ (Qbk _ (by omega)) (J7 _ m0) ⟨hh,ns,pos+1,rest,cnt,rfl,h01,hl,by omega⟩⟩⟩
  ·refine ⟨fun e => ∃ pos rest cnt t,e=[.pen (penD hh ns pos rest cnt),.val (.int m),t]/\0<=pos,?_,?_⟩
   ·refine ⟨rfl,rfl,_,rfl,rfl,rfl,qgp (fun _=>?_) (fun _=>⟨pos,rest,cnt,_,rfl,hp⟩)⟩;refine ⟨rfl,rfl,_,rfl,rfl,rfl,2,rfl,rfl,rfl,3,rfl,?_⟩;refine ⟨fun e => ∃ rest t,e=[.pen (penD hh ns (pos+1) rest cnt),.val (.int m),t],?_,?_⟩
    ·refine ⟨rfl,rfl,_,rfl,rfl,rfl,_,rfl,qip (fun hlt=>?_) (fun _=>⟨_,_,rfl⟩)⟩;obtain ⟨c,ec⟩:=qql (ns:=ns) (i:=pos+1) (by omega) (by simpa using hlt);exact ⟨rfl,rfl,_,rfl,rfl,rfl,_,rfl,_,ec,rfl,rfl,3,rfl,_,_,rfl⟩
    ·rintro e ⟨rest,t,rfl⟩;exact ⟨rfl,rfl,4,rfl,_,_,_,_,rfl,by omega⟩
   ·rintro e ⟨pos,rest,cnt,t,rfl,hp⟩;refine ⟨rfl,rfl,_,rfl,rfl,rfl,4,rfl,?_⟩;refine ⟨rfl,rfl,_,rfl,m0,?_⟩;refine ⟨rfl,rfl,_,rfl,⟨m0,mz⟩,rfl,rfl,3,rfl,?_⟩;exact ⟨_,_,rfl,rfl,h _ _ (Qbk _ (by omega)) (J7 _ m0) ⟨hh,ns,pos,_,_,rfl,h01,hl,hp⟩⟩
structure Pays (Y:List (List Int)) (m a:Nat):Prop where
 m:Y.length=m
 a : ∀ y ∈ Y,y.length=a
 b : ∀ y ∈ Y,∀ x ∈ y,-1000000<=x/\x<=1000000
def qmo (Y:List (List Int)):Qh :=.tuple (Y.map qef)
def qta (R Y:List (List Int)) (pl:List Int):Int:=((Qm pl.length).map fun s=>qwh (qgh R s) (qgh Y ((pl[s]?).getD 0).toNat)).sum
def inP (xs:List Int) (m:Int):Bool:=xs.all fun x=>decide (0<=x)&&decide (x<m)
structure WorPre (b:Int) (R:List (List Int)) (n:Nat) (Y:List (List Int)) (a:Nat) (s x:Int):Prop where
 t:Tab b R n
 y:Pays Y R.length a
 r:R.length<=900
 s0:0<=s
 s1:s<n
 x0:0<=x
 x1:x<a
 z:intBits b<=4000
def zaem {x:Int} (h : -1000000<=x/\x<=1000000):intBits x<=4000:=qu (qaf (by omega) (by omega)) (by decide)
def qho (ds0 ds:List Qh) (q:Qh->List Qh->Prop):Prop := ∃ (many acts:Nat),ds=[.int many,.int acts]/\qax ds0/\(1<=many/\many<=60/\1<=acts/\acts<=60) /\ ∀ (Y:List (List Int)) (p:List Qh),Pays Y many acts->qax p->q (qmo Y) p
def zaes {x:Int} (h0:1<=x) (h1:x<=3) : ∃ m:Int,atI [Qw 3,.int 9,.int 100] (x-1)=some (.int m)/\1<=m/\m<=100:=by
 have:x=1\/x=2\/x=3:=by omega
 rcases this with rfl|rfl|rfl <;> exact ⟨_,rfl,by decide,by decide⟩
def qch:FnScope ["_law_pen_here","_law_many","_law_acts","_law_way","_law_found","_law_stand"] ["_law_pen_here","_law_many","_law_acts"] (defScope qdc):=sc0
def qoe (F:Def K mg "_law_payoffs" qdc ["_law_pen_here","_law_many","_law_acts"]) (T:Txt K mg cs)
 (O__law_next:Ok P w K mg base "_law_next" 2 ["_law_pen_here","_law_many"] (NSp K qac))
 : Ok P w K mg base "_law_payoffs" 3 ["_law_pen_here","_law_many","_law_acts"] (NSp K qho):=by
  refine F.vokP qch (by rintro ds0 ds q ⟨_,_,h,_⟩;rw [h];rfl) (by decide) fun f cdv A outer s H E hr ds0 ds q h=>?_;obtain ⟨many,acts,rfl,hP,⟨m1,m2,a1,a2⟩,h⟩:=h;refine ⟨_,(qf (qA (i:=3) qch.nd (qV 0 O__law_next.c hr.m (qc qe qd)))
   (qf (qfj (i:=4) qch.nd (qZ qd))
   (qf (qbh rfl (qC T.range_ (qb 1)) (qo (i:=5) qch.nd) (qg (qar (qE (qmg hr.units) (qb 3) qe) (qg (qcx 4 (qba qej T.tuple_ L2.boot_tuple (qc (qy (qlt (caps:=["_law_pen_here"]) (own:=["_law_act"]) (ix:=[0]) (i0:=0) (j0:=0) rfl ⟨rfl,rfl,rfl,rfl,rfl,rfl⟩ (qC T.range_ (qb 2)) (fun _ _ _ _=>(qo (i:=1) (show Q4 (["_law_pen_here","_law_act"]:List Str) by decide))) (fun _ _ _ _=>(qt qks (qV 0 O__law_next.c hr.m (qc qe qd)) qe)) (qiq rfl))) qd)))) (qg (qcx 4 (qba qej T.tuple_ L2.boot_tuple (qc (qy (qlt (caps:=["_law_pen_here","_law_way"]) (own:=["_law_act"]) (ix:=[0,3]) (i0:=0) (j0:=0) rfl ⟨rfl,rfl,rfl,rfl,rfl,rfl⟩ (qC T.range_ (qb 2)) (fun _ _ _ _=>(qo (i:=2) (show Q4 (["_law_pen_here","_law_way","_law_act"]:List Str) by decide))) (fun _ _ _ _=>(qt qks (qV 0 O__law_next.c hr.m (qc (qr (qy (qZ (qc qe (qc qe (qc qe qd))))) (qt qks (qb 1) qe)) qd)) (qb 1))) (qiq rfl))) qd)))))))
   (qhz 4 (qg (qx (qba qej T.tuple_ L2.boot_tuple (qc (qb 4) qd)))))))),?_⟩
  refine ⟨rfl,rfl,4,rfl,hP,⟨by decide,by decide⟩,fun xw p1 w0 w1 hp1=>?_⟩;refine ⟨szl,⟨by omega,by omega⟩,⟨fun i e => ∃ (Y:List (List Int)) (p:List Qh) (t:Sl) (l:List Qh),e=[.pen p,.val (.int many),.val (.int acts),.val (.int xw),.own l,t]/\l=Y.map qef/\qax p/\Pays Y i acts,⟨[],_,_,_,rfl,rfl,hp1,⟨rfl,by simp,by simp⟩⟩,?_,?_⟩⟩
  ·rintro i d e hd ⟨Y,p,t,l,rfl,rfl,hp,hY⟩;obtain ⟨hi,rfl⟩:=qU hd;have hi':i<many:=by omega
   have hlen:(Y.map qef).length<Qz:=by rw [Qe,hY.m];exact qi (by omega)
   have snoc : ∀ y:List Int,y.length=acts->(∀ x ∈ y,-1000000<=x/\x<=1000000)->Pays (Y++[y]) (i+1) acts:=fun y h1 h2=>by
    refine ⟨by simp [hY.m],fun z hz=>?_,fun z hz=>?_⟩
    ·rcases Ze.mp hz with h|h
     ·exact hY.a z h
     ·rw [Q3.mp h];exact h1
    ·rcases Ze.mp hz with h|h
     ·exact hY.b z h
     ·rw [Q3.mp h];exact h2
   refine ⟨rfl,rfl,qgp (fun z=>?_) (fun z=>?_)⟩
   ·refine ⟨rfl,⟨by omega,by omega⟩,qi (by rw [qs];omega),rfl,fun j ys e => ∃ y:List Int,ys=y.map .int/\y.length=j/\(∀ x ∈ y,-1000000<=x/\x<=1000000) /\ ∃ p t,qax p/\e=[.pen p,t],⟨[],rfl,rfl,by simp,_,_,hp,rfl⟩,?_,?_⟩
    ·rintro j d ys e hd ⟨y,rfl,y1,y2,p,t,hp,rfl⟩;refine ⟨rfl,rfl,2000001,rfl,hp,⟨by decide,by decide⟩,fun x p' x0 x1 hp'=>?_⟩;refine ⟨y++[x-1000000],by simp,by simp [y1],fun c hc=>?_,p',_,hp',rfl⟩;rcases Ze.mp hc with hc|hc
     ·exact y2 c hc
     ·rw [Q3.mp hc];omega
    ·rintro ys e ⟨y,rfl,y1,y2,p,t,hp,rfl⟩;rw [qs] at y1;refine ⟨p,rfl,rfl,hlen,Y++[y],p,_,_,rfl,by simp [qef];rfl,hp,snoc y (by omega) y2⟩
   ·have hw1:1<=xw:=by omega
    obtain ⟨m,em,mm1,mm2⟩:=zaes hw1 (by omega);refine ⟨rfl,⟨by omega,by omega⟩,qi (by rw [qs];omega),rfl,fun j ys e => ∃ y:List Int,ys=y.map .int/\y.length=j/\(∀ x ∈ y,-1000000<=x/\x<=1000000) /\ ∃ p t,qax p/\e=[.pen p,.val (.int xw),t],⟨[],rfl,rfl,by simp,_,_,hp,rfl⟩,?_,?_⟩
    ·rintro j d ys e hd ⟨y,rfl,y1,y2,p,t,hp,rfl⟩;refine ⟨rfl,szl,_,em,rfl,m,rfl,hp,⟨by omega,qu (qaf (by omega) (by omega)) (by decide)⟩,fun x p' x0 x1 hp'=>?_⟩;refine ⟨y++[x-xw],by simp,by simp [y1],fun c hc=>?_,p',_,hp',rfl⟩;rcases Ze.mp hc with hc|hc
     ·exact y2 c hc
     ·rw [Q3.mp hc];omega
    ·rintro ys e ⟨y,rfl,y1,y2,p,t,hp,rfl⟩;rw [qs] at y1;refine ⟨p,rfl,rfl,hlen,Y++[y],p,_,_,rfl,by simp [qef];rfl,hp,snoc y (by omega) y2⟩
  ·rintro e ⟨Y,p,t,l,rfl,rfl,hp,hY⟩;rw [qs] at hY;exact ⟨_,_,rfl,rfl,h Y p (by simpa using hY) hp⟩
def qwe (g:Nat) : ∀ (r:List Int) (h:Nat),qay (J5 g h) r=J5 g (qay h r)
 | [],h=>rfl
 | n::r,h=>by
  have e:Ym ((J5 g h:Nat):Int) n=J5 g (Ym (h:Int) n):=by
   show J5 (J5 g h) n.natAbs=J5 g (J5 h n.natAbs);exact Nat.gcd_assoc g h n.natAbs
  show qay (Ym ((J5 g h:Nat):Int) n) r=J5 g (qay (Ym (h:Int) n) r);rw [e,qwe g r]
def zagh (g:Nat) (r:List Int):qay g r=J5 g (qay 0 r):=by
 have:=qwe g r 0
 rwa [Qgx] at this
def qsz : ∀ (R:List (List Int)) (g:Nat),qay g (R.map fun r=>((qay 0 r:Nat):Int))=R.foldl qay g
 | [],g=>rfl
 | r::R,g=>by
  show qay (Ym (g:Int) ((qay 0 r:Nat):Int)) (R.map fun r=>((qay 0 r:Nat):Int))=R.foldl qay (qay g r);rw [zagh g r];exact qsz R _
def qhh (ds:List Qh) (q:Qh->Prop):Prop := ∃ (d:Qh) (ns:List Int),ds=[d]/\qfs d=some (ns.map .int)/\q (.int (qay 0 ns:Nat))
def qbe:FnScope ["_law_numbers","_law_found","_law_number","_law_other"] ["_law_numbers"] (defScope qde):=sc0
def qnu (F:Def K mg "_law_divisor" qde ["_law_numbers"]) (T:Txt K mg cs)
 : Ok P w K mg base "_law_divisor" 1 ["_law_numbers"] (PSp K qhh):=by
  refine F.vok qbe (by rintro ds q ⟨_,_,h,_⟩;rw [h];rfl) fun f cdv A outer s H E hr ds q h=>?_;obtain ⟨d,ns,rfl,hd,h⟩:=h;refine ⟨_,(qf (qA (i:=1) qbe.nd qe)
   (qf (qbh rfl (qR (qb 0)) (qo (i:=2) qbe.nd) (qf (qA (i:=3) qbe.nd (qv zaij T.abs_ L2.boot_abs (qc (qb 2) qd)))
   (qg (qwb (qE qxk (qb 3) qe) (qg (zans (i:=1) (j:=3) rfl qbe.nd (qc (qb 3) (qc (qt qjh (qb 1) (qb 3)) qd))))))))
   (qg (qx (qb 1))))),?_⟩
  refine qek hd ⟨fun i e => ∃ t2 t3,e=[.val d,.val (.int (qay 0 (ns.take i):Nat)),t2,t3],⟨_,_,rfl⟩,?_,?_⟩
  ·rintro i x e hx ⟨t2,t3,rfl⟩;obtain ⟨n,rfl,h5,_⟩:=qaj hx;refine ⟨fun m e => ∃ x y:Int,e=[.val d,.val (.int x),.val (.int n),.val (.int y)]/\0<=x/\0<=y/\J5 x.toNat y.toNat=qay 0 (ns.take (i+1))/\m=y.toNat,⟨_,_,_,rfl,by omega,by split <;> omega,?_,rfl⟩,?_⟩
   ·rw [qsu h5,qss];have e1:(if n<0 then -n else n).toNat=n.natAbs:=by split <;> omega
    rw [e1];rfl
   ·rintro m e ⟨x,y,rfl,hx0,hy0,hg,rfl⟩;refine qip (fun hgt=>?_) (fun hle=>?_)
    ·obtain ⟨t1,t2,t3⟩:=qww hx0 hy0 (by omega) hg;exact ⟨by omega,(x%y).toNat,by omega,y,x%y,rfl,hy0,t1,t3,rfl⟩
    ·have hy:y=0:=by omega
     have:=zaaa hx0 hy hg;exact ⟨_,_,by rw [this]⟩
  ·rintro e ⟨t2,t3,rfl⟩;rw [Qe,Z0];exact h
def qbc (ds:List Qh) (q:Qh->Prop):Prop := ∃ (b:Int) (R:List (List Int)) (n:Nat),ds=[.int b,qeb R]/\(Tab b R n/\R≠[]/\R.length<=900/\n<=900/\intBits b<=9000)/\q (lowT b R)
def qck:FnScope ["_law_bottom","_law_rows","_law_both","_law_found","_law_row_here"] ["_law_bottom","_law_rows"] (defScope qdg):=sc0
def qnw (F:Def K mg "_law_reduced" qdg ["_law_bottom","_law_rows"]) (T:Txt K mg cs)
 (O__law_divisor:Ok P w K mg base "_law_divisor" 1 ["_law_numbers"] (PSp K qhh))
 : Ok P w K mg base "_law_reduced" 2 ["_law_bottom","_law_rows"] (PSp K qbc):=by
  refine F.vok qck (by rintro ds q ⟨_,_,_,h,_⟩;rw [h];rfl) fun f cdv A outer s H E hr ds q h=>?_;obtain ⟨b,R,n,rfl,⟨hT,hR,hl,hn,zb⟩,h⟩:=h;refine ⟨_,(qf (qA (i:=2) qck.nd (qw O__law_divisor.c hr.m (qc (qy (qL (caps:=[]) (own:=["_law_row_here"]) (ix:=[]) rfl ⟨rfl,rfl,rfl,rfl,rfl,rfl⟩ (qR (qb 1)) (fun _ _ _ _=>(qo (i:=0) (show Q4 (["_law_row_here"]:List Str) by decide))) (fun _ _ _ _=>(qw O__law_divisor.c hr.m (qc (qb 0) qd))))) qd)))
   (qf (qfj (i:=3) qck.nd (qZ qd))
   (qf (qbh rfl (qR (qb 1)) (qo (i:=4) qck.nd) (qg (qcx 3 (qba qej T.tuple_ L2.boot_tuple (qc (qy (qL (caps:=["_law_both"]) (own:=["_law_number"]) (ix:=[2]) rfl ⟨rfl,rfl,rfl,rfl,rfl,rfl⟩ (qR (qb 4)) (fun _ _ _ _=>(qo (i:=1) (show Q4 (["_law_both","_law_number"]:List Str) by decide))) (fun _ _ _ _=>(qt qjd (qb 1) (qb 0))))) qd)))))
   (qhz 3 (qg (qx (qkf (qc (qt qjd (qb 0) (qb 2)) (qc (qba qej T.tuple_ L2.boot_tuple (qc (qb 3) qd)) qd))))))))),?_⟩
  have g0:=hT.gpos hR;have zg:intBits (qcq R:Int)<=9000:=by
   refine Jf ?_ zb;have:=hT.pos;exact Qcr (by omega) (V8.mpr (hT.gdvd hR))
  show _/\_;refine qS (ds:=R.map qao) ((R.map fun r=>((qay 0 r:Nat):Int)).map .int) (by simp) (qi (by simp;omega)) (fun e => ∃ s,e=[s]) ⟨_,rfl⟩ ?_ ?_
  ·rintro i x ys e hx hys ⟨s,rfl⟩;obtain ⟨r,hr',rfl⟩:=qfp hx;refine ⟨_,r,rfl,rfl,qq ?_ hys,_,rfl⟩;rw [Qa,Qa,hr'];rfl
  ·refine ⟨_,_,rfl,rfl,?_⟩;rw [qsz R 0];show (fun z=>z) _;refine ⟨szl,⟨fun i e => ∃ t4 l,e=[.val (.int b),.val (qeb R),.val (.int (qcq R)),.own l,t4]/\l=((qju R (qcq R)).take i).map qef,⟨_,_,rfl,rfl⟩,?_,?_⟩⟩
   ·rintro i x e hx ⟨t4,l,rfl,rfl⟩;obtain ⟨r,hr',rfl⟩:=qfp hx;have hrl:=hT.len r (quk hr');refine ⟨rfl,?_⟩;show _/\_;refine qS ((r.map fun n=>n/(qcq R:Int)).map .int) (by simp) (qi (by simp;omega)) (fun e => ∃ s,e=[.val (.int (qcq R)),s]) ⟨_,rfl⟩ ?_ ⟨rfl,?_,?_⟩
    ·rintro j y ys e hy hys ⟨s,rfl⟩;obtain ⟨z,rfl,hz,_⟩:=qaj hy;refine ⟨⟨by omega,zg⟩,qq ?_ hys,_,rfl⟩;rw [Qa,Qa,hz];rfl
    ·show (Qkc qef _).length<_;rw [Qe];refine qi (Z7 (Qfz _ _) ?_);unfold qju;rw [Qe];omega
    ·refine ⟨_,_,rfl,?_⟩;have e2:(qju R (qcq R))[i]?=some (r.map fun n=>n/(qcq R:Int)):=by unfold qju;rw [Qa,hr'];rfl
     rw [Yb,e2];simp only [Qha,Q6,Yh,Qfd];rfl
   ·rintro e ⟨t4,l,rfl,rfl⟩;have e3:(R.map qao).length=(qju R (qcq R)).length:=by simp [qju]
    rw [e3,Z0];exact ⟨⟨by omega,zg⟩,szl,h⟩
def qil (ds0 ds:List Qh) (q:Qh->List Qh->Prop):Prop := ∃ (wd:Nat) (b:Int),ds=[.int wd,.int b]/\qax ds0/\(1<=wd/\wd<=60/\1<=b/\b<=999999) /\ ∀ (r:List Int) (p:List Qh),r.length=wd->(∀ x ∈ r,0<=x)->r.sum=b->qax p->q (qao r) p
def qno:FnScope ["_law_pen_here","_law_width","_law_bottom","_law_cuts"] ["_law_pen_here","_law_width","_law_bottom"] (defScope qhg):=sc0
def qvv (F:Def K mg "_law_row" qhg ["_law_pen_here","_law_width","_law_bottom"]) (T:Txt K mg cs)
 (O__law_next:Ok P w K mg base "_law_next" 2 ["_law_pen_here","_law_many"] (NSp K qac))
 : Ok P w K mg base "_law_row" 3 ["_law_pen_here","_law_width","_law_bottom"] (NSp K qil):=by
  refine F.vokP qno (by rintro ds0 ds q ⟨_,_,h,_⟩;rw [h];rfl) (by decide) fun f cdv A outer s H E hr ds0 ds q h=>?_;obtain ⟨wd,b,rfl,hP,⟨w1,w2,b1,b2⟩,h⟩:=h;refine ⟨_,(qf (qA (i:=3) qno.nd (qy (zafx zafk T.sorted_ L2.boot_sorted (qc (qy (qlt (caps:=["_law_pen_here","_law_bottom"]) (own:=["_law_k"]) (ix:=[0,2]) (i0:=0) (j0:=0) rfl ⟨rfl,rfl,rfl,rfl,rfl,rfl⟩ (qC T.range_ (qt qks (qb 1) qe)) (fun _ _ _ _=>(qo (i:=2) (show Q4 (["_law_pen_here","_law_bottom","_law_k"]:List Str) by decide))) (fun _ _ _ _=>(qV 0 O__law_next.c hr.m (qc (qt qcc (qb 1) qe) qd))) (qiq rfl))) qd))))
   (qg (qx (qy (qL (caps:=[]) (own:=["_law_low","_law_high"]) (ix:=[]) rfl ⟨rfl,rfl,rfl,rfl,rfl,rfl⟩ (qhu T.zip_ (qy (qff (qy (qZ (qc qe qd))) (qb 3))) (qy (qff (qb 3) (qy (qZ (qc (qb 2) qd)))))) (fun _ _ _ _=>(qfc (n:=2) rfl (qJ (qo (i:=0) (show Q4 (["_law_low","_law_high"]:List Str) by decide)) (qJ (qo (i:=1) (show Q4 (["_law_low","_law_high"]:List Str) by decide)) qcy)))) (fun _ _ _ _=>(qt qks (qb 1) (qb 0)))))))),?_⟩
  refine ⟨⟨by omega,by omega⟩,?_⟩;refine ⟨qi (by rw [qs];omega),rfl,fun i ys e => ∃ cs:List Int,ys=cs.map .int/\cs.length=i/\(∀ c ∈ cs,0<=c/\c<=b) /\ ∃ p t,qax p/\e=[.pen p,.val (.int b),t],⟨[],rfl,rfl,by simp,_,_,hP,rfl⟩,?_,?_⟩
  ·rintro i d ys e hd ⟨cs,rfl,hc1,hc2,p,t,hp,rfl⟩;refine ⟨rfl,rfl,b+1,rfl,hp,⟨by omega,qu (qaf (by omega) (by omega)) (by decide)⟩,fun x p' x0 x1 hp'=>?_⟩;refine ⟨cs++[x],by simp,by simp [hc1],fun c hc=>?_,p',_,hp',rfl⟩;rcases Ze.mp hc with hc|hc
   ·exact hc2 c hc
   ·rw [Q3.mp hc];omega
  ·rintro ys e ⟨cs,rfl,hc1,hc2,p,t,hp,rfl⟩;rw [qs] at hc1;refine ⟨p,rfl,cs,rfl,by omega,fun ns hperm hsort=>?_⟩;have hn : ∀ c ∈ ns,0<=c/\c<=b:=fun c hc=>hc2 c (hperm.mem_iff.mp hc);have hl:=hperm.length_eq;obtain ⟨d1,d2,d3⟩:=qwj ns 0 b hsort hn (by omega);refine ⟨szl,?_,szl,?_,?_⟩
   ·simp only [Qe,Zp,Qje];exact qem (by omega)
   ·simp only [Qe,Zp,Qje];exact qem (by omega)
   show _/\_;have ea:[Qw 0]++ns.map Qw=(0::ns).map Qw:=rfl;have eb:ns.map Qw++[Qw b]=(ns++[b]).map Qw:=by simp
   rw [ea,eb];refine qS ((qpj 0 ns b).map .int) (by simp [qbw,d1]) (qi (by rw [Qe,d1];omega)) (fun e => ∃ s t,e=[s,t]) ⟨_,_,rfl⟩ ?_ ⟨_,_,rfl,rfl,h _ p (by omega) d2 (by omega) hp⟩;rintro i x ys e hx hys ⟨s,t,rfl⟩;obtain ⟨x,y,h3,h4,rfl⟩:=qfq hx;obtain ⟨x,rfl,h5,_⟩:=qaj h3;obtain ⟨y,rfl,h6,_⟩:=qaj h4;refine ⟨rfl,rfl,qq ?_ hys,_,_,rfl⟩;unfold qpj;rw [Qa,Ja,h5,h6];rfl
def qjr (ds0 ds:List Qh) (q:Qh->List Qh->Prop):Prop := ∃ (b:Int) (R:List (List Int)) (n:Nat),ds=[qeb R]/\qax ds0/\(Tab b R n/\1<=R.length/\R.length<=60/\1<=n/\n<=60/\b<=999999) /\ ∀ (k:Int) (R':List (List Int)) (p:List Qh),2<=k->k<=4->Tab (b*k) R' (n+1)->R'.length=R.length->qax p->q (qeb R') p
def qag:FnScope ["_law_pen_here","_law_rows","_law_at","_law_parts","_law_some","_law_to","_law_found","_law_row_here","_law_wide"] ["_law_pen_here","_law_rows"] (defScope qes):=sc0
def qrx (F:Def K mg "_law_split" qes ["_law_pen_here","_law_rows"]) (T:Txt K mg cs)
 (O__law_next:Ok P w K mg base "_law_next" 2 ["_law_pen_here","_law_many"] (NSp K qac))
 : Ok P w K mg base "_law_split" 3 ["_law_pen_here","_law_rows"] (NSp K qjr):=by
  refine F.vokP qag (by rintro ds0 ds q ⟨_,_,_,h,_⟩;rw [h];rfl) (by decide) fun f cdv A outer s H E hr ds0 ds q h=>?_;obtain ⟨b,R,n,rfl,hP,⟨hT,r1,r2,n1,n2,hb⟩,h⟩:=h;refine ⟨_,(qf (qA (i:=2) qag.nd (qV 0 O__law_next.c hr.m (qc (qv qbd T.len_ L2.boot_len (qc (qr (qb 1) qe) qd)) qd)))
   (qf (qA (i:=3) qag.nd (qt qcc qe (qV 0 O__law_next.c hr.m (qc qe qd))))
   (qf (qA (i:=4) qag.nd (qt qcc qe (qV 0 O__law_next.c hr.m (qc (qt qks (qb 3) qe) qd))))
   (qf (qA (i:=5) qag.nd (qV 0 O__law_next.c hr.m (qc (qt qcc (qv qbd T.len_ L2.boot_len (qc (qr (qb 1) qe) qd)) qe) qd)))
   (qf (qfj (i:=6) qag.nd (qZ qd))
   (qf (qbh rfl (qR (qb 1)) (qo (i:=7) qag.nd) (qf (qma (caps:=["_law_parts"]) (own:=["_law_number"]) (ix:=[3]) (i:=8) qag.nd rfl ⟨rfl,rfl,rfl,rfl,rfl,rfl⟩ (qR (qb 7)) (fun _ _ _ _=>(qo (i:=1) (show Q4 (["_law_parts","_law_number"]:List Str) by decide))) (fun _ _ _ _=>(qt qae (qb 1) (qb 0))))
   (qf (qhy 8 (qt qae (qr (qb 7) (qb 2)) (qb 4)) (qb 2))
   (qf (zach 8 (qb 5) (qt qae (qr (qb 7) (qb 2)) (qt qks (qb 3) (qb 4))))
   (qhz 8 (qg (qcx 6 (qb 8))))))))
   (qhz 6 (qg (qx (qb 6)))))))))),?_⟩
  have hRn:R≠[]:=fun z=>by rw [z] at r1;simp at r1
  obtain ⟨r0,R0,eR⟩:=Qq hRn;have l0:r0.length=n:=hT.len r0 (by rw [eR];simp);have aR:atI (R.map qao) 0=some (qao r0):=by rw [eR];exact qbl _ _
  have eN:(((r0.map Qw).length:Nat):Int)=(n:Int):=by simp [l0]
  have sm : ∀ {z:Int},0<z->z<=1000000->intBits z<=9000:=fun h1 h2=>qu (qaf (by omega) (by omega)) (by decide);refine ⟨rfl,_,aR,rfl,_,rfl,hP,⟨by omega,sm (by omega) (by omega)⟩,fun xa p1 xa0 xa1 hp1=>?_⟩;refine ⟨rfl,rfl,3,rfl,hp1,⟨by decide,by decide⟩,fun xk p2 xk0 xk1 hp2=>?_⟩;refine ⟨rfl,rfl,_,rfl,hp2,⟨by omega,sm (by omega) (by omega)⟩,fun xs p3 xs0 xs1 hp3=>?_⟩;refine ⟨rfl,_,aR,rfl,_,rfl,hp3,⟨by omega,sm (by omega) (by omega)⟩,fun xt p4 xt0 xt1 hp4=>?_⟩;obtain ⟨a,rfl⟩:=Zl xa0;obtain ⟨to,rfl⟩:=Zl xt0;have ha:a<n:=by omega
  have hto:to<=n:=by omega
  have hsp : ∀ r ∈ R,(qdp r (2+xk) (1+xs) a to).length=n+1/\(∀ x ∈ qdp r (2+xk) (1+xs) a to,0<=x)/\(qdp r (2+xk) (1+xs) a to).sum=b*(2+xk):=fun r hr=>by
   have e1:=hT.len r hr;obtain ⟨q1,q2,q3⟩:=zagw (r:=r) (k:=2+xk) (s:=1+xs) (a:=a) (t:=to) (by omega) (by omega) (hT.nn r hr) (by omega) (by omega);exact ⟨by omega,q2,by rw [q3,hT.sum r hr]⟩
  have hT':Tab (b*(2+xk)) (R.map fun r=>qdp r (2+xk) (1+xs) a to) (n+1):=by
   have bp:=hT.pos;refine ⟨?_,fun r hr=>?_,fun r hr=>?_,fun r hr=>?_⟩
   ·have:=Yr (show 0<b by omega) (show 0<2+xk by omega);omega
   all_goals (obtain ⟨s',hs',rfl⟩:=Qr.mp hr)
   ·exact (hsp s' hs').1
   ·exact (hsp s' hs').2.1
   ·exact (hsp s' hs').2.2
  refine ⟨szl,⟨fun i e => ∃ t7 t8 l,e=[.pen p4,.val (qeb R),.val (.int a),.val (.int (2+xk)),.val (.int (1+xs)),.val (.int to),.own l,t7,t8]/\l=((R.map fun r=>qdp r (2+xk) (1+xs) a to).take i).map qao,⟨_,_,_,rfl,rfl⟩,?_,?_⟩⟩
  ·rintro i x e hx ⟨t7,t8,l,rfl,rfl⟩;obtain ⟨r,hr',rfl⟩:=qfp hx;have hrm:=quk hr';have hrl:=hT.len r hrm;have bz : ∀ x ∈ r,intBits x<=64:=fun x hx=>by
    have:=hT.le hrm hx;exact qaf (by omega) (by omega)
   show _/\_;refine ⟨qi (by simp;omega),fun j ys e=>ys=(((r.map fun n=>n*(2+xk)).map Qw).take j) /\ ∃ s,e=[.val (.int (2+xk)),s],⟨by simp,_,rfl⟩,?_,?_⟩
   ·rintro j y ys e hy ⟨hys,s,rfl⟩;obtain ⟨z,rfl,hz,hzm⟩:=qaj hy;refine ⟨Vh (bz z hzm),qq ?_ hys,_,rfl⟩;rw [Qa,Qa,hz];rfl
   rintro ys0 e0 ⟨hys0,s0,rfl⟩;rw [show (r.map Qw).length=((r.map fun n=>n*(2+xk)).map Qw).length by simp,Z0] at hys0;subst hys0;have har:a<r.length:=by omega
   have era:=Qc har;have zra:=bz _ (Zi har);have aa:atI (r.map Qw) (a:Int)=some (.int r[a]):=qP (by rw [Qa,era];rfl);have ix:ixN (((r.map fun n=>n*(2+xk)).map Qw)).length (a:Int)=some a:=by
    unfold ixN;rw [Qe,Qe,if_pos (by omega),if_pos (by omega)];rfl
   refine ⟨_,aa,Vh zra,rfl,rfl,a,ix,?_⟩;refine ⟨rfl,_,aa,Vh zra,rfl,⟨by omega,?_,?_⟩,?_⟩
   ·show (to:Int)<=(((((r.map fun n=>n*(2+xk)).map Qw).set a (.int (r[a]*(1+xs))))).length:Nat);simp;omega
   ·show (((r.map fun n=>n*(2+xk)).map Qw).set a (.int (r[a]*(1+xs)))).length<_;exact qi (by simp;omega)
   have es:qkt (((r.map fun n=>n*(2+xk)).map Qw).set a (.int (r[a]*(1+xs)))) (Qkg (to:Int)) (.int (r[a]*(2+xk-(1+xs))))=(qdp r (2+xk) (1+xs) a to).map .int:=by
    unfold qdp qkt;rw [era];simp only [Qci,Zt,Q6,Yh,Jv,Qcs,Qhy]
   refine ⟨rfl,rfl,?_,_,_,_,rfl,?_⟩
   ·show (Qkc qao _).length<_;rw [Qe];exact qi (Z7 (Qfz _ _) (by simp;omega))
   ·have e3:(R.map fun r=>qdp r (2+xk) (1+xs) a to)[i]?=some (qdp r (2+xk) (1+xs) a to):=by rw [Qa,hr'];rfl
    rw [Yb,e3];simp only [Qha,Q6,Yh,Qfd];show Qkc qao _++[Qbx (qkt (((r.map fun n=>n*(2+xk)).map Qw).set a (.int (r[a]*(1+xs)))) (Qkg (to:Int)) (.int (r[a]*(2+xk-(1+xs)))))]=_;rw [es];rfl
  ·rintro e ⟨t7,t8,l,rfl,rfl⟩;have e3:(R.map qao).length=(R.map fun r=>qdp r (2+xk) (1+xs) a to).length:=by simp
   rw [e3,Z0];exact ⟨_,_,rfl,rfl,h _ _ p4 (by omega) (by omega) hT' (by simp) hp4⟩
def qdy (ds0 ds:List Qh) (q:Qh->List Qh->Prop):Prop := ∃ (many most far:Int),ds=[.int many,.int most,.int far]/\qax ds0/\(2<=many/\many<=4/\1<=most/\most<=12/\1<=far/\far<=60) /\
 ∀ (b:Int) (R:List (List Int)) (n:Nat) (p:List Qh),Gls b R n->b<=1000->R.length=many->1<=n->n<=most->qax p->q (qau b R) p
def qbg:FnScope ["_law_pen_here","_law_many","_law_most","_law_far","_law_width","_law_bottom","_law_rows","_law_time"] ["_law_pen_here","_law_many","_law_most","_law_far"] (defScope qex):=sc0
def qrh (F:Def K mg "_law_table" qex ["_law_pen_here","_law_many","_law_most","_law_far"]) (T:Txt K mg cs)
 (O__law_next:Ok P w K mg base "_law_next" 2 ["_law_pen_here","_law_many"] (NSp K qac))
 (O__law_reduced:Ok P w K mg base "_law_reduced" 2 ["_law_bottom","_law_rows"] (PSp K qbc))
 (O__law_row:Ok P w K mg base "_law_row" 3 ["_law_pen_here","_law_width","_law_bottom"] (NSp K qil))
 (O__law_split:Ok P w K mg base "_law_split" 3 ["_law_pen_here","_law_rows"] (NSp K qjr))
 : Ok P w K mg base "_law_table" 4 ["_law_pen_here","_law_many","_law_most","_law_far"] (NSp K qdy):=by
  refine F.vokP qbg (by rintro ds0 ds q ⟨_,_,_,h,_⟩;rw [h];rfl) (by decide) fun f cdv A outer s H E hr ds0 ds q h=>?_;obtain ⟨many,most,far,rfl,hP,⟨m1,m2,o1,o2,f1,f2⟩,h⟩:=h;refine ⟨_,(qf (qA (i:=4) qbg.nd (qt qcc qe (qV 0 O__law_next.c hr.m (qc (qb 2) qd))))
   (qf (qA (i:=5) qbg.nd (qt qcc qe (qV 0 O__law_next.c hr.m (qc (qb 3) qd))))
   (qf (zafh (caps:=["_law_pen_here","_law_width","_law_bottom"]) (own:=["_law_k"]) (ix:=[0,4,5]) (i0:=0) (j0:=0) (i:=6) qbg.nd rfl ⟨rfl,rfl,rfl,rfl,rfl,rfl⟩ (qC T.range_ (qb 1)) (fun _ _ _ _=>(qo (i:=3) (show Q4 (["_law_pen_here","_law_width","_law_bottom","_law_k"]:List Str) by decide))) (fun _ _ _ _=>(qV 0 O__law_row.c hr.m (qc (qb 1) (qc (qb 2) qd)))) (qiq rfl))
   (qf (qbh rfl (qC T.range_ (qt qjd (qV 0 O__law_next.c hr.m (qc qe qd)) qe)) (qo (i:=7) qbg.nd) (qg (qar (qE qyk (qv qbd T.len_ L2.boot_len (qc (qr (qb 6) qe) qd)) (qb 2)) (qg (qA (i:=6) qbg.nd (qV 0 O__law_split.c hr.m (qc (qb 6) qd)))) qz)))
   (qg (qx (qw O__law_reduced.c hr.m (qc (qv (zadp rfl) T.sum_ L2.boot_sum (qc (qr (qb 6) qe) qd)) (qc (qb 6) qd))))))))),?_⟩
  have sm : ∀ {z:Int},0<z->z<=1000000->intBits z<=9000:=fun h1 h2=>qu (qaf (by omega) (by omega)) (by decide);refine ⟨rfl,rfl,most,rfl,hP,⟨by omega,sm (by omega) (by omega)⟩,fun xw p1 w0 w1 hp1=>?_⟩;refine ⟨rfl,rfl,far,rfl,hp1,⟨by omega,sm (by omega) (by omega)⟩,fun xb p2 b0 b1 hp2=>?_⟩;obtain ⟨wd,ew⟩:=Zl (show 0<=1+xw by omega);refine ⟨⟨by omega,by omega⟩,qi (by rw [qs];omega),rfl,fun i ys e => ∃ R:List (List Int),ys=R.map qao/\R.length=i/\Tab (1+xb) R wd /\ ∃ p t,qax p/\e=[.pen p,.val (.int (1+xw)),.val (.int (1+xb)),t],⟨[],rfl,rfl,⟨by omega,by simp,by simp,by simp⟩,_,_,hp2,rfl⟩,?_,?_⟩
  ·rintro i d ys e hd ⟨R,rfl,hR,hT,p,t,hp,rfl⟩;refine ⟨rfl,rfl,wd,1+xb,by rw [<- ew],hp,⟨by omega,by omega,by omega,by omega⟩,fun r p' r1 r2 r3 hp'=>?_⟩;refine ⟨R++[r],by simp,by simp [hR],⟨by omega,?_,?_,?_⟩,p',_,hp',rfl⟩
   ·intro r' hr';rcases Ze.mp hr' with h|h
    ·exact hT.len r' h
    ·rw [Q3.mp h];exact r1
   ·intro r' hr';rcases Ze.mp hr' with h|h
    ·exact hT.nn r' h
    ·rw [Q3.mp h];exact r2
   ·intro r' hr';rcases Ze.mp hr' with h|h
    ·exact hT.sum r' h
    ·rw [Q3.mp h];exact r3
  ·rintro ys e ⟨R,rfl,hR,hT,p3,t,hp3,rfl⟩;rw [qs] at hR;refine ⟨p3,rfl,rfl,rfl,6,rfl,hp3,⟨by decide,by decide⟩,fun xt p4 t0 t1 hp4=>?_⟩;refine ⟨⟨by decide,by decide⟩,⟨by omega,by omega⟩,?_⟩;refine ⟨fun i e => ∃ (b:Int) (R':List (List Int)) (n:Nat) (p:List Qh) (t:Sl),e=[.pen p,.val (.int many),.val (.int most),.val (.int far),.val (.int (1+xw)),.val (.int (1+xb)),.val (qeb R'),t]/\qax p/\Tab b R' n/\R'.length=R.length/\1<=n/\n<=most/\b<=60*4^i,⟨_,R,wd,_,_,rfl,hp4,hT,rfl,by omega,by omega,by omega⟩,?_,?_⟩
   ·rintro i d e hd ⟨b,R',n,p,t,rfl,hp,hT',hl,n1,n2,hb⟩;obtain ⟨hi,rfl⟩:=qU hd;have hRn:R'≠[]:=fun z=>by rw [z] at hl;simp at hl;omega
    obtain ⟨r0,R0,eR⟩:=Qq hRn;have l0:r0.length=n:=hT'.len r0 (by rw [eR];simp);have aR:atI (R'.map qao) 0=some (qao r0):=by rw [eR];exact qbl _ _
    have eN:(((r0.map Qw).length:Nat):Int)=(n:Int):=by simp [l0]
    have hi3:i<3:=by omega
    have hb3:b<=999999:=by
     have:i=0\/i=1\/i=2:=by omega
     rcases this with rfl|rfl|rfl <;> omega
    refine ⟨_,aR,qip (fun hlt=>?_) (fun hge=>?_)⟩
    ·refine ⟨rfl,rfl,b,R',n,rfl,hp,⟨hT',by omega,by omega,n1,by omega,hb3⟩,fun k R2 p' k1 k2 hT2 hl2 hp'=>?_⟩;refine ⟨b*k,R2,n+1,p',_,rfl,hp',hT2,by omega,by omega,by omega,?_⟩;have bp:=hT'.pos;have e1:b*k<=b*4:=Jz k2 (by omega);have:i=0\/i=1\/i=2:=by omega
     rcases this with rfl|rfl|rfl <;> omega
    ·refine ⟨b,R',n,p,_,rfl,hp,hT',hl,n1,n2,?_⟩;have:i=0\/i=1\/i=2:=by omega
     rcases this with rfl|rfl|rfl <;> omega
   ·rintro e ⟨b,R',n,p,t,rfl,hp,hT',hl,n1,n2,hb⟩;rw [qs] at hb;have hRn:R'≠[]:=fun z=>by rw [z] at hl;simp at hl;omega
    obtain ⟨r0,R0,eR⟩:=Qq hRn;have aR:atI (R'.map qao) 0=some (qao r0):=by rw [eR];exact qbl _ _
    have hs0:r0.sum=b:=hT'.sum r0 (by rw [eR];simp);have hb3:b<=1000:=by
     have:(xt/2).toNat=0\/(xt/2).toNat=1\/(xt/2).toNat=2:=by omega
     rcases this with z|z|z <;> rw [z] at hb <;> omega
    have bp:=hT'.pos;have hL:=hT'.gls hRn;refine ⟨_,aR,r0,rfl,r0.sum,R',n,rfl,⟨by rw [hs0];exact hT',hRn,by omega,by omega,by rw [hs0];exact sm (by omega) (by omega)⟩,?_⟩;rw [hs0];refine ⟨_,_,rfl,rfl,h _ _ n p hL (Int.le_trans (Qes _ (by omega)) hb3) ?_ n1 n2 hp⟩;unfold qju;rw [Qe];omega
def zani {T:List (List Int)}{i j n:Nat} (hw : ∀ r ∈ T,r.length=n) (hi:i<T.length) (hj:j<n) : ∃ r,T[i]?=some r/\r ∈ T/\r[j]?=some (at2 T i j)/\at2 T i j ∈ r:=by
 have e:T[i]?=some T[i]:=Qc hi;have l:=hw _ (Zi hi);have e2:(T[i])[j]?=some ((T[i])[j]'(by omega)):=Qc _;have e3:at2 T i j=(T[i])[j]'(by omega):=by
  unfold at2;rw [e];show ((T[i])[j]?).getD 0=_;rw [e2];rfl
 rw [e3];exact ⟨_,e,Zi hi,e2,Zi _⟩
def sc (k:Int) (R:List (List Int)):List (List Int):=R.map fun r=>r.map fun n=>k*n
def inB (xs:List Int) (m:Int):Bool:=xs.all fun x=>decide (0<=x)&&decide (x<m)
section
variable {b:Int}{R:List (List Int)}{m:Nat}{c:Int}{S:List (List Int)}{n:Nat}{B:Int}{D:List (List Int)}{d:Int}{T:List (List Int)}{p:Nat}
end
structure LowOf (b:Int) (R:List (List Int)) (b':Int) (R':List (List Int)):Prop where
 b:b'=b/qcq R
 r:R'=qju R (qcq R)
section
variable {b:Int}{R:List (List Int)}{m:Nat}{c:Int}{S:List (List Int)}{n:Nat}{B:Int}{D:List (List Int)}{b' c':Int}{R' S':List (List Int)}
def LowOf.gls (h:LowOf b R b' R') (t:Tab b R m) (ne:1<=R.length):Gls b' R' m:=by
 rw [h.b,h.r];exact t.gls fun z=>by rw [z] at ne;simp at ne
def LowOf.len (h:LowOf b R b' R'):R'.length=R.length:=by rw [h.r];simp [qju]
def LowOf.le (h:LowOf b R b' R') (t:Tab b R m):b'<=b:=by
 rw [h.b];exact Qes _ (by have:=t.pos;omega)
end
def qih (ds:List Qh) (q:Qh->Prop):Prop := ∃ (b:Int) (R:List (List Int)) (m:Nat) (B:Int) (D:List (List Int)) (n:Nat),ds=[qau b R,qau B D]/\(Tab b R m/\Tab B D n/\D.length=m/\1<=R.length/\R.length<=4/\1<=m/\m<=12/\n<=12/\intBits b<=64/\intBits B<=3000) /\ ∀ c S,LowOf (b*B) (qgk R D m n) c S->q (qau c S)
def qbm:FnScope ["_law_glass","_law_dulling_here","_law_rows","_law_row_here","_law_line","_law_sign"] ["_law_glass","_law_dulling_here"] (defScope qdm):=sc0
def qot (F:Def K mg "_law_dulled" qdm ["_law_glass","_law_dulling_here"]) (T:Txt K mg cs)
 (O__law_reduced:Ok P w K mg base "_law_reduced" 2 ["_law_bottom","_law_rows"] (PSp K qbc))
 : Ok P w K mg base "_law_dulled" 3 ["_law_glass","_law_dulling_here"] (PSp K qih):=by
  refine F.vok qbm (by rintro ds q ⟨_,_,_,_,_,_,h,_⟩;rw [h];rfl) fun f cdv A outer s H E hr ds q h=>?_;obtain ⟨b,R,m,B,D,n,rfl,⟨hR,hD,hl,r1,r2,m1,m2,n2,zb,zB⟩,h⟩:=h;refine ⟨_,(qf (qfj (i:=2) qbm.nd (qZ qd))
   (qf (qbh rfl (qR (qr (qb 0) qe)) (qo (i:=3) qbm.nd) (qf (qfj (i:=4) qbm.nd (qZ qd))
   (qf (qbh rfl (qC T.range_ (qv qbd T.len_ L2.boot_len (qc (qr (qr (qb 1) qe) qe) qd))) (qo (i:=5) qbm.nd) (qg (qcx 4 (qv (zadp rfl) T.sum_ L2.boot_sum (qc (qy (qL (caps:=["_law_sign"]) (own:=["_law_number","_law_some"]) (ix:=[5]) rfl ⟨rfl,rfl,rfl,rfl,rfl,rfl⟩ (qhu T.zip_ (qb 3) (qr (qb 1) qe)) (fun _ _ _ _=>(qfc (n:=2) rfl (qJ (qo (i:=1) (show Q4 (["_law_sign","_law_number","_law_some"]:List Str) by decide)) (qJ (qo (i:=2) (show Q4 (["_law_sign","_law_number","_law_some"]:List Str) by decide)) qcy)))) (fun _ _ _ _=>(qt qae (qb 1) (qr (qb 2) (qb 0)))))) qd)))))
   (qhz 4 (qg (qcx 2 (qb 4)))))))
   (qhz 2 (qg (qx (qw O__law_reduced.c hr.m (qc (qt qae (qr (qb 0) qe) (qr (qb 1) qe)) (qc (qb 2) qd)))))))),?_⟩
  have h:q (lowT (b*B) (qgk R D m n)):=h _ _ ⟨rfl,rfl⟩;have hM:=qwc hR hD hl;obtain ⟨d0,D0,eD⟩:=Qq (show D≠[] from fun z=>by rw [z] at hl;simp at hl;omega);have l0:d0.length=n:=hD.len d0 (by rw [eD];simp);have aD:atI (D.map qef) 0=some (qef d0):=by rw [eD];exact qbl _ _
  have lD:(((d0.map Qw).length:Nat):Int)=n:=by rw [Qe,l0]
  refine ⟨szl,_,rfl,fun i e => ∃ (t3 t4 t5:Sl),e=[.val (qau b R),.val (qau B D),.own ((qgk (R.take i) D m n).map qao),t3,t4,t5],⟨_,_,_,rfl⟩,?_,?_⟩
  ·rintro i x e hx ⟨t3,t4,t5,rfl⟩;obtain ⟨r,hr',rfl⟩:=qfp hx;have hi:i<R.length:=(Qk.mp hr').1;have rm:=Qg hr';have lr:=hR.len r rm;obtain ⟨row,erow⟩ : ∃ row:List Int,row=(Qm n).map fun j=>qj m fun i=>(r[i]?).getD 0*at2 D i j:=⟨_,rfl⟩
   have rowl:row.length=n:=by rw [erow];simp
   refine ⟨szl,_,rfl,_,aD,⟨by rw [lD];omega,by rw [lD];omega⟩,fun j e => ∃ t5,e=[.val (qau b R),.val (qau B D),.own ((qgk (R.take i) D m n).map qao),.val (qef r),.own ((row.map Qw).take j),t5],⟨_,rfl⟩,?_,?_⟩
   ·rintro j d e hd ⟨t5',rfl⟩;obtain ⟨hj,rfl⟩:=qU hd;rw [Vg];have hj':j<n:=by rw [lD] at hj;omega
    refine ⟨rfl,_,rfl,?_⟩;refine ⟨qi (by rw [qbw,Qe,Qe];omega),fun k ys e=>ys=(((Qm m).map fun k=>(r[k]?).getD 0*at2 D k j).map Qw).take k /\ ∃ t u,e=[.val (.int j),t,u],⟨by simp,_,_,rfl⟩,?_,?_⟩
    ·rintro k d us e hd ⟨hus,t,u,rfl⟩;obtain ⟨x,y,h3,h4,rfl⟩:=qfq hd;obtain ⟨rD,h6,rfl⟩:=qfp h4;rw [Qa] at h3;cases ek:r[k]? with
     | none=>rw [ek] at h3;cases h3
     | some v =>
     rw [ek] at h3;have h3:some (Qw v)=some x:=h3;injection h3 with h3;subst h3;have hk':k<m:=by rw [<- hl];exact (Qk.mp h6).1
     obtain ⟨rD',gD1,gD2,gD3,gD4⟩:=zani hD.len (show k<D.length by omega) hj';rw [h6] at gD1;injection gD1 with gD1;subst gD1;have zR:=hR.bits zb rm (Qg ek);refine ⟨rfl,rfl,.int (at2 D k j),qP (by rw [Qa,gD3];rfl),Vh zR,qq ?_ hus,_,_,rfl⟩;rw [Qa,Qa,Qn hk'];show some (Qw ((r[k]?).getD 0*at2 D k j))=_;rw [ek];rfl
    ·rintro us e ⟨hus,t,u,rfl⟩;rw [qbw,Qe,Qe,lr,hl,Qhx,Zf (by simp)] at hus;subst hus;have ej:(row.map Qw).take (j+1)=(row.map Qw).take j++[.int ((Qm m).map fun k=>(r[k]?).getD 0*at2 D k j).sum]:=by
      rw [Yb,Qa,erow,Qa,Qn hj',qbz];rfl
     refine ⟨_,rfl,rfl,qi (by show ((row.map Qw).take j).length<=1000;rw [Z3,Qe];omega),.val (.int j),?_⟩;rw [ej];rfl
   rintro e ⟨t5',rfl⟩;rw [qs,lD,Zt,Zf (l:=row.map Qw) (by rw [Qe];omega)];refine ⟨rfl,rfl,qi (by show ((qgk (R.take i) D m n).map qao).length<=1000;simp [qgk];omega),.val (qef r),.val (qao row),t5',?_⟩;have em:qgk (R.take (i+1)) D m n=qgk (R.take i) D m n++[row]:=by
    unfold qgk;rw [Yb,hr',Q6,erow];rfl
   rw [em,Q6 (f:=qao)];rfl
  rintro e ⟨t3,t4,t5,rfl⟩;rw [Qe,Z0];have lM:(qgk R D m n).length=R.length:=by simp [qgk]
  exact ⟨_,rfl,_,rfl,Vh zb,b*B,qgk R D m n,n,rfl,⟨hM,fun z=>by rw [z] at lM;simp at lM;omega,by omega,by omega,qu (Qce zb zB) (by decide)⟩,h⟩
def qhd (ds0 ds:List Qh) (q:Qh->List Qh->Prop):Prop := ∃ (old most:Nat),ds=[.int old,.int most]/\qax ds0/\(1<=old/\old<=12/\1<=most/\most<=12) /\
 ∀ (B:Int) (D:List (List Int)) (n:Nat) (p:List Qh),Gls B D n->B<=2->D.length=old->1<=n->n<=most->qax p->q (qau B D) p
def qgy:FnScope ["_law_pen_here","_law_old","_law_most","_law_width"] ["_law_pen_here","_law_old","_law_most"] (defScope qdh):=sc0
def qnx (F:Def K mg "_law_dulling" qdh ["_law_pen_here","_law_old","_law_most"]) (T:Txt K mg cs)
 (O__law_next:Ok P w K mg base "_law_next" 2 ["_law_pen_here","_law_many"] (NSp K qac))
 (O__law_reduced:Ok P w K mg base "_law_reduced" 2 ["_law_bottom","_law_rows"] (PSp K qbc))
 (O__law_row:Ok P w K mg base "_law_row" 3 ["_law_pen_here","_law_width","_law_bottom"] (NSp K qil))
 : Ok P w K mg base "_law_dulling" 4 ["_law_pen_here","_law_old","_law_most"] (NSp K qhd):=by
  refine F.vokP qgy (by rintro ds0 ds q ⟨_,_,h,_⟩;rw [h];rfl) (by decide) fun f cdv A outer s H E hr ds0 ds q h=>?_;obtain ⟨old,most,rfl,hP,⟨o1,o2,m1,m2⟩,h⟩:=h;refine ⟨_,(qf (qA (i:=3) qgy.nd (qt qcc qe (qV 0 O__law_next.c hr.m (qc (qb 2) qd))))
   (qg (qx (qw O__law_reduced.c hr.m (qc qe (qc (qy (qlt (caps:=["_law_pen_here","_law_width"]) (own:=["_law_sign"]) (ix:=[0,3]) (i0:=0) (j0:=0) rfl ⟨rfl,rfl,rfl,rfl,rfl,rfl⟩ (qC T.range_ (qb 1)) (fun _ _ _ _=>(qo (i:=2) (show Q4 (["_law_pen_here","_law_width","_law_sign"]:List Str) by decide))) (fun _ _ _ _=>(qV 0 O__law_row.c hr.m (qc (qb 1) (qc qe qd)))) (qiq rfl))) qd)))))),?_⟩
  refine ⟨rfl,rfl,most,rfl,hP,⟨by omega,qu (qaf (by omega) (by omega)) (by decide)⟩,fun xw p1 w0 w1 hp1=>?_⟩;obtain ⟨wd,ew⟩:=Zl (show 0<=1+xw by omega);refine ⟨⟨by omega,by omega⟩,qi (by rw [qs];omega),rfl,fun i ys e => ∃ R:List (List Int),ys=R.map qao/\R.length=i/\Tab 2 R wd /\ ∃ p t,qax p/\e=[.pen p,.val (.int (1+xw)),t],⟨[],rfl,rfl,⟨by omega,by simp,by simp,by simp⟩,_,_,hp1,rfl⟩,?_,?_⟩
  ·rintro i d ys e hd ⟨R,rfl,hR,hT,p,t,hp,rfl⟩;refine ⟨rfl,rfl,wd,2,by rw [<- ew],hp,⟨by omega,by omega,by omega,by omega⟩,fun r p' r1 r2 r3 hp'=>?_⟩;refine ⟨R++[r],by simp,by simp [hR],⟨by omega,?_,?_,?_⟩,p',_,hp',rfl⟩
   ·intro r' hr';rcases Ze.mp hr' with h|h
    ·exact hT.len r' h
    ·rw [Q3.mp h];exact r1
   ·intro r' hr';rcases Ze.mp hr' with h|h
    ·exact hT.nn r' h
    ·rw [Q3.mp h];exact r2
   ·intro r' hr';rcases Ze.mp hr' with h|h
    ·exact hT.sum r' h
    ·rw [Q3.mp h];exact r3
  ·rintro ys e ⟨R,rfl,hR,hT,p3,t,hp3,rfl⟩;rw [qs] at hR;have ne:R≠[]:=fun z=>by rw [z] at hR;simp at hR;omega
   refine ⟨p3,rfl,2,R,wd,rfl,⟨hT,ne,by omega,by omega,by decide⟩,_,p3,rfl,rfl,?_⟩;exact h _ _ wd p3 (hT.gls ne) (Qes _ (by decide)) (by simp [qju];omega) (by omega) (by omega) hp3
def qkb (ds0 ds:List Qh) (q:Qh->List Qh->Prop):Prop := ∃ (W m:Nat),ds=[.int W,.int m]/\qax ds0/\(2<=W/\W<=3/\3<=m/\m<=4/\2*W+m<=9) /\ ∀ (L:List (Int×List (List Int))) (p:List Qh),Shf L W->L.length<=4->qax p->q (.list (L.map dG)) p
def GS.up {W:Nat}{B C:Int}{g:Int×List (List Int)} (h:GS W B g) (e:B<=C):GS W C g:=⟨h.h,h.m1,h.m2,h.l,by have:=h.b;omega⟩
def qec:FnScope ["_law_pen_here","_law_many","_law_most","_law_found","_law_k","_law_old"] ["_law_pen_here","_law_many","_law_most"] (defScope qev):=sc0
def qrt (F:Def K mg "_law_shelf" qev ["_law_pen_here","_law_many","_law_most"]) (T:Txt K mg cs)
 (O__law_next:Ok P w K mg base "_law_next" 2 ["_law_pen_here","_law_many"] (NSp K qac))
 (O__law_table:Ok P w K mg base "_law_table" 4 ["_law_pen_here","_law_many","_law_most","_law_far"] (NSp K qdy))
 (O__law_dulled:Ok P w K mg base "_law_dulled" 3 ["_law_glass","_law_dulling_here"] (PSp K qih))
 (O__law_dulling:Ok P w K mg base "_law_dulling" 4 ["_law_pen_here","_law_old","_law_most"] (NSp K qhd))
 : Ok P w K mg base "_law_shelf" 5 ["_law_pen_here","_law_many","_law_most"] (NSp K qkb):=by
  refine F.vokP qec (by rintro ds0 ds q ⟨_,_,h,_⟩;rw [h];rfl) (by decide) fun f cdv A outer s H E hr ds0 ds q h=>?_;obtain ⟨W,m,rfl,hp,⟨W1,W2,m1,m2,Wm⟩,h⟩:=h;refine ⟨_,(qf (qfj (i:=3) qec.nd (qZ qd))
   (qf (qbh rfl (qC T.range_ (qt qcc qe (qV 0 O__law_next.c hr.m (qc (qt qcc (qt qks (qt qks qe (qt qae qe (qb 1))) (qb 2)) qe) qd)))) (qo (i:=4) qec.nd) (qg (qar (VW.pt (qhm (zajw 3 (qmg hr.units) (qy (qZ qd))) (qfg (qE (qmg hr.units) (qV 0 O__law_next.c hr.m (qc qe qd)) qe)))) (qg (qcx 3 (qV 0 O__law_table.c hr.m (qc (qb 1) (qc (qb 2) (qc qe qd)))))) (qcz (qA (i:=5) qec.nd (qcd 3 (qV 0 O__law_next.c hr.m (qc (zaka 3 T.len_) qd))))
   (qg (qcx 3 (qw O__law_dulled.c hr.m (qc (qb 5) (qc (qV 0 O__law_dulling.c hr.m (qc (qv qbd T.len_ L2.boot_len (qc (qr (qr (qb 5) qe) qe) qd)) (qc (qb 2) qd))) qd)))))))))
   (qhz 3 (qg (qx (qb 3)))))),?_⟩
  refine ⟨szl,rfl,Vh (by decide),rfl,10-2*(W:Int)-m+1,rfl,hp,⟨by omega,qu (qaf (by omega) (by omega)) (by decide)⟩,fun x p1 x0 x1 hp1=>⟨⟨by omega,by omega⟩,fun i e => ∃ (p:List Qh) (L:List (Int×List (List Int))) (t4 t5:Sl),e=[.pen p,.val (.int W),.val (.int m),.own (L.map dG),t4,t5]/\qax p/\L.length=i /\ ∀ g ∈ L,GS W (1000*4^i) g/\wd g<=m,⟨_,[],_,_,rfl,hp1,rfl,by simp⟩,?_,?_⟩⟩
  ·rintro i d e hd ⟨p2,L,t4,t5,rfl,hp2,hL,hA⟩;obtain ⟨hi,rfl⟩:=qU hd;have hi5:i<4:=by omega
   have bd:(1000:Int)*4^(i+1)=4*(1000*4^i)/\(1000:Int)<=1000*4^i/\(1000:Int)*4^i<=256000:=by
    have:i=0\/i=1\/i=2\/i=3:=by omega
    rcases this with rfl|rfl|rfl|rfl <;> decide
   obtain ⟨B',eB'⟩ : ∃ B',B'=(1000:Int)*4^(i+1):=⟨_,rfl⟩
   rw [<- eB'] at bd;generalize (1000:Int)*4^i=B at bd hA;have sm:((L.map dG).length:Nat)<Qz:=qi (by rw [Qe];omega);have snoc : ∀ g,GS W B' g->wd g<=m -> ∀ g' ∈ L++[g],GS W B' g'/\wd g'<=m:=fun g hg hw g' hm=>by
    rcases Ze.mp hm with h|h
    ·exact ⟨(hA g' h).1.up (by omega),(hA g' h).2⟩
    ·rw [Q3.mp h];exact ⟨hg,hw⟩
   have sh:Shp 4 (.list (L.map dG)):=qgi fun x hx=>by
    obtain ⟨g,_,rfl⟩:=Qr.mp hx;exact qul _ _
   have sh0:Shp 1 (.list []):=qgi (by simp);have TAB : ∀ (p3:List Qh) (t4':Sl),qax p3 -> ∀ (q0:Qh->List Qh->Prop),(∀ (b:Int) (R:List (List Int)) (n:Nat) (p:List Qh),GS W B' (b,R)->wd (b,R)<=m->qax p->q0 (qau b R) p)->qdy p3 [.int W,.int m,.int 8] q0:=fun p3 t4' hp3 q0 k=>by
    refine ⟨W,m,8,rfl,hp3,⟨by omega,by omega,by omega,by omega,by decide,by decide⟩,fun b R n p4 G hb lR n1 n2 hp4=>k b R n p4 (GS.of G (by omega) (by omega) n1 (by omega) (by omega)) ?_ hp4⟩;rw [zadx G.t (by omega)];omega
   refine ⟨rfl,szl,rfl,sh.ok,sh0.ok,rfl,iteB (fun _=>?_) (fun ne=>?_)⟩
   ·exact ⟨rfl,rfl,rfl,TAB p2 t5 hp2 _ fun b R n p4 G hw hp4=>⟨rfl,sm,p4,L++[(b,R)],_,_,by rw [Q6];rfl,hp4,by simp [hL],by rw [<- eB'];exact snoc _ G hw⟩⟩
   refine ⟨rfl,rfl,2,rfl,hp2,⟨by decide,by decide⟩,fun y p3 y0 y1 hp3=>⟨rfl,rfl,qgp (fun _=>?_) (fun _=>?_)⟩⟩
   ·exact ⟨rfl,rfl,rfl,TAB p3 t5 hp3 _ fun b R n p4 G hw hp4=>⟨rfl,sm,p4,L++[(b,R)],_,_,by rw [Q6];rfl,hp4,by simp [hL],by rw [<- eB'];exact snoc _ G hw⟩⟩
   have ne:Vw (.list (L.map dG)) (.list [])=false:=ne;have L1:1<=L.length:=by
    rcases Va L.length with q|q
    ·rw [J2 q] at ne;have ne:Vw (.list []) (.list [])=false:=ne;rw [sh0.refl] at ne;cases ne
    ·exact q
   have lL:(((L.map dG).length:Nat):Int)=L.length:=by rw [Qe]
   refine ⟨fun e => ∃ (p:List Qh) (g:Int×List (List Int)),(qax p/\g ∈ L)/\e=[.pen p,.val (.int W),.val (.int m),.own (L.map dG),.val (.int (0+i)),.val (dG g)],?_,?_⟩
   ·refine ⟨rfl,rfl,rfl,rfl,(((L.map dG).length:Nat):Int),rfl,hp3,⟨by omega,qu (qaf (by omega) (by omega)) (by decide)⟩,fun u p4 u0 u1 hp4=>?_⟩;have eu:L[u.toNat]?=some (L[u.toNat]'(by omega)):=Qc _;have au:atI (L.map dG) u=some (dG (L[u.toNat]'(by omega))):=qmf u0 (by rw [Qa,eu];rfl);exact ⟨rfl,_,au,p4,_,⟨hp4,Qg eu⟩,rfl⟩
   rintro e ⟨p4,g,⟨hp4,gm⟩,rfl⟩;obtain ⟨Gg,gw⟩:=hA g gm;have gb:=Gg.b;have gl:=Gg.l;have g1:=Gg.m1;have gp:=Gg.h.t.pos;obtain ⟨r0,R0,e0,l0⟩:=Gg.head (by omega);have a0:atI (g.2.map qef) 0=some (qef r0):=by rw [e0];exact qbl _ _
   refine ⟨rfl,rfl,_,rfl,_,a0,rfl,wd g,m,by rw [Qe,l0],hp4,⟨g1,by omega,by omega,by omega⟩,fun B D n p5 GD B2 lD n1 n2 hp5=>?_⟩;have Bp:=GD.t.pos;have hM:=qwc Gg.h.t GD.t lD;refine ⟨g.1,g.2,wd g,B,D,n,rfl,⟨Gg.h.t,GD.t,lD,by omega,by omega,g1,by omega,by omega,qaf (by omega) (by omega),qu (qaf (by omega) (by omega)) (by decide)⟩,fun c S low=>⟨rfl,sm,p5,L++[(c,S)],_,_,by rw [Q6];rfl,hp5,by simp [hL],?_⟩⟩;rw [<- eB'];have lM:(qgk g.2 D (wd g) n).length=W:=by simp [qgk];exact gl
   have GG:=low.gls hM (by omega);have cl:=low.le hM;have le:=low.len;have bb:g.1*B<=g.1*2:=Jz B2 (by omega);refine snoc _ (GS.of GG (by omega) (by omega) n1 (by omega) (by omega)) ?_;rw [zadx GG.t (by omega)];exact n2
  rintro e ⟨p2,L,t4,t5,rfl,hp2,hL,hA⟩;rw [qs] at hL hA;have hi5:(1+x).toNat<=4:=by omega
  have bd:(1000:Int)*4^(1+x).toNat<=2000000:=by
   have:(1+x).toNat=0\/(1+x).toNat=1\/(1+x).toNat=2\/(1+x).toNat=3\/(1+x).toNat=4:=by omega
   rcases this with e|e|e|e|e <;> rw [e] <;> decide
  exact ⟨_,p2,rfl,rfl,h L p2 ⟨fun g hg=>(hA g hg).1.up bd,by omega,by omega,by omega,by omega⟩ (by omega) hp2⟩
def qtd (C:Addr) (ds:List Qh) (q:Qh->Prop) (e:Addr->Prop):Prop := ∃ b R c S,ds=[qau b R,qau c S]/\((R.length=S.length/\q .none)\/(R.length≠S.length/\e C))
def qfw:FnScope ["one","other"] ["one","other"] (defScope qX):=sc0
def qfv (F:Def K mg "check_alike_stands" qX ["one","other"]) (T:Txt K mg cs)
 (O_stands:Ok P w K mg base "stands" 1 ["glass"] (PSp K qgm))
 : OkX P w K mg base "check_alike_stands" 2 ["one","other"] (XSp K (qtd cs.NoFit)):=by
  refine F.vokX qfw (by rintro ds q e ⟨_,_,_,_,h,_⟩;rw [h];rfl) fun f cdv A outer s H E hr hp ht ds q e h=>?_;obtain ⟨b,R,c,S,rfl,h⟩:=h;refine ⟨_,(qaq (qyz (qE (qpy hr.units) (qw O_stands.c hr.m (qc (qb 0) qd)) (qw O_stands.c hr.m (qc (qb 1) qd))) (qaq (qmv ht rfl T.NoFit_ T.NoFit_x.exc (qc qcv qd))
   (qcg qz)) (qcg qz))
   (qcg qz)),?_⟩
  rcases h with ⟨hl,h⟩|⟨hl,h⟩
  ·refine ⟨b,R,rfl,c,S,rfl,rfl,rfl,qoj (fun z=>?_) (fun _=>h)⟩;exfalso;apply z;rw [hl]
  ·refine ⟨b,R,rfl,c,S,rfl,rfl,rfl,qoj (fun _=>⟨szl,h⟩) (fun z=>?_)⟩;exfalso;apply hl;omega
def zaal (C:Addr) (ds:List Qh) (q:Qh->Prop) (e:Addr->Prop):Prop := ∃ b r R,ds=[qau b (r::R)]/\((r.length<=4/\q .none)\/(4<r.length/\e C))
def qhr:FnScope ["glass"] ["glass"] (defScope qal):=sc0
def qhs (F:Def K mg "check_few_signs" qal ["glass"]) (T:Txt K mg cs)
 (O_signs:Ok P w K mg base "signs" 1 ["glass"] (PSp K qcp))
 : OkX P w K mg base "check_few_signs" 2 ["glass"] (XSp K (zaal cs.TooMany)):=by
  refine F.vokX qhr (by rintro ds q e ⟨_,_,_,h,_⟩;rw [h];rfl) fun f cdv A outer s H E hr hp ht ds q e h=>?_;obtain ⟨b,r,R,rfl,h⟩:=h;refine ⟨_,(qaq (qyz (qE qxk (qw O_signs.c hr.m (qc (qb 0) qd)) (qgr T.MOST_COMPARED_)) (qaq (qmv ht rfl T.TooMany_ T.TooMany_x.exc (qc qcv qd))
   (qcg qz)) (qcg qz))
   (qcg qz)),?_⟩
  rcases h with ⟨hl,h⟩|⟨hl,h⟩
  ·exact ⟨b,r,R,rfl,qip (fun z=>by omega) (fun _=>h)⟩
  ·exact ⟨b,r,R,rfl,qip (fun _=>⟨szl,h⟩) (fun z=>by omega)⟩
def RefF (L:List (Int×List (List Int))):Prop:=L.length=0\/5<L.length \/ ∃ g ∈ L,∃ g0 ∈ L,L.head?=some g0/\L.length<=5/\g.2.length≠g0.2.length
structure RefM (L:List (Int×List (List Int))):Prop where
 n1:1<=L.length
 n2:L.length<=5
 s : ∀ g ∈ L,∀ h ∈ L,g.2.length=h.2.length
 r : ∀ g ∈ L,∃ r0 R0,g.2=r0::R0
 b : ∃ g ∈ L,∃ r0 R0,g.2=r0::R0/\4<r0.length
def qtb (C1 C2:Addr) (ds:List Qh) (q:Qh->Prop) (e:Addr->Prop):Prop := ∃ L:List (Int×List (List Int)),ds=[.list (L.map dG)]/\((RefF L/\e C1)\/(RefM L/\e C2))
def qda:FnScope ["shelf","glass"] ["shelf"] (defScope qbp):=sc0
def qkz (F:Def K mg "check_shelf" qbp ["shelf"]) (T:Txt K mg cs)
 (O_check_alike_stands__x:OkX P w K mg base "check_alike_stands" 2 ["one","other"] (XSp K (qtd cs.NoFit)))
 (O_check_few_signs__x:OkX P w K mg base "check_few_signs" 2 ["glass"] (XSp K (zaal cs.TooMany)))
 : OkX P w K mg base "check_shelf" 3 ["shelf"] (XSp K (qtb cs.NoFit cs.TooMany)):=by
  refine F.vokX qda (by rintro ds q e ⟨_,h,_⟩;rw [h];rfl) fun f cdv A outer s H E hr hp ht ds q e h=>?_;obtain ⟨L,rfl,h⟩:=h;refine ⟨_,(qaq (qyz (VW.pt (qhm (qdj (qdk (qol T.isinstance_ T.list_ L2.boot_list (qb 0)))) (qfg (qdj (qwi o_le o_le qe (qv qbd T.len_ L2.boot_len (qc (qb 0) qd)) (qgr T.MOST_GLASSES_)))))) (qaq (qmv ht rfl T.NoFit_ T.NoFit_x.exc (qc qcv qd))
   (qcg qz)) (qcg qz))
   (qaq (zabh rfl (qR (qb 0)) (qo (i:=1) qda.nd) (qaq (qlp (qvf hp O_check_alike_stands__x.c hr.m (qc (qr (qb 0) qe) (qc (qb 1) qd))))
   (qcg qz)))
   (qaq (zabh rfl (qR (qb 0)) (qo (i:=1) qda.nd) (qaq (qlp (qvf hp O_check_few_signs__x.c hr.m (qc (qb 1) qd)))
   (qcg qz)))
   (qcg qz)))),?_⟩
  have lL:(((L.map dG).length:Nat):Int)=L.length:=by rw [Qe]
  by_cases n0:L.length=0
  ·rcases h with ⟨_,h⟩|⟨hm,_⟩
   ·exact qrs (decide_eq_false (by rw [lL];omega)) (iteY rfl ⟨szl,h⟩)
   ·have:=hm.n1;omega
  by_cases n6:5<L.length
  ·rcases h with ⟨_,h⟩|⟨hm,_⟩
   ·exact iteY (decide_eq_true (by rw [lL];omega)) (iteY (show (!decide ((((L.map dG).length:Nat):Int)<=5))=true by rw [decide_eq_false (by rw [lL];omega)];rfl) ⟨szl,h⟩)
   ·have:=hm.n2;omega
  refine iteY (decide_eq_true (by rw [lL];omega)) (iteN (decide_eq_true (by rw [lL];omega)) ?_);obtain ⟨g0,L0,eL⟩:=Qq (show L≠[] from fun z=>by rw [z] at n0;simp at n0);have a0:atI (L.map dG) 0=some (dG g0):=by rw [eL];exact qbl _ _
  refine ⟨fun i e=>(∃ t,e=[.val (.list (L.map dG)),t]) /\ ∀ (k:Nat) g,k<i->L[k]?=some g->g.2.length=g0.2.length,⟨⟨_,rfl⟩,fun _ _ z=>absurd z (Qjf _)⟩,?_,?_⟩
  ·rintro i x e' hx ⟨⟨t,rfl⟩,hA⟩;obtain ⟨g,hg,rfl⟩:=trow_get' hx;refine ⟨_,a0,g0.1,g0.2,g.1,g.2,rfl,?_⟩;by_cases z:g0.2.length=g.2.length
   ·refine .inl ⟨z,⟨_,rfl⟩,fun k g' hk hg'=>?_⟩;by_cases e:k<i
    ·exact hA k g' e hg'
    ·have:k=i:=by omega
     subst this;rw [hg] at hg';injection hg' with hg';rw [<- hg'];exact z.symm
   ·refine .inr ⟨z,?_⟩;rcases h with ⟨_,h⟩|⟨hm,_⟩
    ·exact h
    ·exact (z (hm.s _ (by rw [eL];simp) _ (Qg hg))).elim
  rintro e' ⟨⟨t,rfl⟩,hA⟩;rw [Qe] at hA;have hA' : ∀ g ∈ L,g.2.length=g0.2.length:=fun g hg=>by
   obtain ⟨k,hk⟩:=Vp hg;exact hA k g (Qk.mp hk).1 hk
  rcases h with ⟨hF,h⟩|⟨hM,h⟩
  ·exfalso;rcases hF with z|z|⟨g,hg,g1,hg1,_,_,ne⟩
   ·omega
   ·omega
   ·exact ne (by rw [hA' g hg,hA' g1 hg1])
  refine ⟨fun i e=>(∃ t,e=[.val (.list (L.map dG)),t]) /\ ∀ (k:Nat) g r0 R0,k<i->L[k]?=some g->g.2=r0::R0->r0.length<=4,⟨⟨_,rfl⟩,fun _ _ _ _ z=>absurd z (Qjf _)⟩,?_,?_⟩
  ·rintro i x e' hx ⟨⟨t,rfl⟩,hB⟩;obtain ⟨g,hg,rfl⟩:=trow_get' hx;obtain ⟨r0,R0,e0⟩:=hM.r g (Qg hg);refine ⟨g.1,r0,R0,by rw [<- e0];rfl,?_⟩;by_cases z:r0.length<=4
   ·refine .inl ⟨z,⟨_,rfl⟩,fun k g' r' R' hk hg' e'=>?_⟩;by_cases e:k<i
    ·exact hB k g' r' R' e hg' e'
    ·have:k=i:=by omega
     subst this;rw [hg] at hg';injection hg' with hg';rw [<- hg',e0] at e';injection e' with e1 e2;rw [<- e1];exact z
   ·exact .inr ⟨by omega,h⟩
  rintro e' ⟨⟨t,rfl⟩,hB⟩;exfalso;rw [Qe] at hB;obtain ⟨g,hg,r0,R0,e0,l0⟩:=hM.b;obtain ⟨k,hk⟩:=Vp hg;have:=hB k g r0 R0 (Qk.mp hk).1 hk e0;omega
def qwy (C1 C2:Addr) (ds:List Qh) (q:Qh->Prop) (e:Addr->Prop):Prop := ∃ L:List (Int×List (List Int)),ds=[.list (L.map dG)]/\((RefF L/\e C1)\/(RefM L/\e C2))
def qyl:FnScope ["shelf","answers","found","rest"] ["shelf"] (defScope qjc):=sc0
def qym (F:Def K mg "tops" qjc ["shelf"]) (T:Txt K mg cs)
 (O_check_shelf__x:OkX P w K mg base "check_shelf" 3 ["shelf"] (XSp K (qtb cs.NoFit cs.TooMany)))
 : OkX P w K mg base "tops" 4 ["shelf"] (XSp K (qwy cs.NoFit cs.TooMany)):=by
  refine F.vokX qyl (by rintro ds q e ⟨_,h,_⟩;rw [h];rfl) fun f cdv A outer s H E hr hp ht ds q e h=>?_;obtain ⟨L,rfl,h⟩:=h;refine ⟨_,(qaq (qlp (qvf hp O_check_shelf__x.c hr.m (qc (qb 0) qd)))
   (qcg qca)),?_⟩
  exact ⟨L,rfl,h⟩
def qlf (ds:List Qh) (k:Qh->Prop):Prop := ∃ L:List (Int×List (List Int)),ds=[.list (L.map dG)]/\((RefF L/\k (.str "fit"))\/(RefM L/\k (.str "many")))
def qeu:FnScope ["_law_shelf_here","_law_caught","e"] ["_law_shelf_here"] (defScope qfz):=sc0
def qtu (F:Def K mg "_law_word" qfz ["_law_shelf_here"]) (T:Txt K mg cs)
 (O_tops__x:OkX P w K mg base "tops" 4 ["shelf"] (XSp K (qwy cs.NoFit cs.TooMany)))
 : Ok P w K mg base "_law_word" 5 ["_law_shelf_here"] (PSp K qlf):=by
  refine F.vok qeu (by rintro ds q ⟨_,h,_⟩;rw [h];rfl) fun f cdv A outer s H E hr ds k h=>?_;obtain ⟨L,rfl,h⟩:=h;refine ⟨_,(qf (qA (i:=1) qeu.nd qre)
   (qf (zapj (i:=2) (C':=cs.GlassError) rfl rfl qeu.nd T.GlassError_ T.GlassError_e (fun _ _ _ hp=>(qaq (qlp (qvf hp O_tops__x.c hr.m (qc (qb 0) qd)))
   (qcg qz))) (fun _ _=>(qg (zakm (i:=1) 2 qeu.nd))))
   (qf (qar (VW.pt (qhm (qE (qmg hr.units) (qve 1 T.isinstance_ (qqb (v :=.ref cs.NoFit) rfl T.NoFit_ rfl) rfl) (qve 1 T.isinstance_ (qqb (v :=.ref cs.TooMany) rfl T.TooMany_ rfl) rfl)) (qfg (qdj (qdk (qve 1 T.isinstance_ (zabg (v :=.ty "ValueError") rfl T.ValueError_ L2.boot_ValueError rfl) rfl)))))) (qg (qx qcv)) qz)
   (qg (qx (qr (qy (qZ (qc qcv (qc qcv qd)))) (qba zaqp T.int_ L2.boot_int (qc (qve 1 T.isinstance_ (qqb (v :=.ref cs.TooMany) rfl T.TooMany_ rfl) rfl) qd)))))))),?_⟩
  rcases h with ⟨hF,h⟩|⟨hM,h⟩
  ·refine ⟨L,rfl,.inl ⟨hF,T.u_NoFit_GlassError,T.NoFit_x,_,T.k_NoFit_NoFit,T.NoFit_x,_,T.k_NoFit_TooMany,rfl,rfl,qrs (by decide +kernel) ⟨T.NoFit_x,_,T.k_NoFit_ValueError,qrs rfl ⟨szl,T.NoFit_x,_,T.k_NoFit_TooMany,_,rfl,h⟩⟩⟩⟩
  ·refine ⟨L,rfl,.inr ⟨hM,T.u_TooMany_GlassError,T.TooMany_x,_,T.k_TooMany_NoFit,T.TooMany_x,_,T.k_TooMany_TooMany,rfl,rfl,qrs (by decide +kernel) ⟨T.TooMany_x,_,T.k_TooMany_ValueError,qrs rfl ⟨szl,T.TooMany_x,_,T.k_TooMany_TooMany,_,rfl,h⟩⟩⟩⟩
def qeh (ds0 ds:List Qh) (q:Qh->List Qh->Prop):Prop := ∃ (L:List (Int×List (List Int))) (W:Nat),ds=[.list (L.map dG),.int W]/\qax ds0/\(Shf L W/\W<=3/\L.length<=4) /\ ∀ (p:List Qh),qax p->q (.bool true) p
def qcl:FnScope ["_law_pen_here","_law_shelf_here","_law_many","_law_wide","_law_other","_law_at"] ["_law_pen_here","_law_shelf_here","_law_many"] (defScope qdb):=sc0
def qns (F:Def K mg "_law_refused" qdb ["_law_pen_here","_law_shelf_here","_law_many"]) (T:Txt K mg cs)
 (O__law_next:Ok P w K mg base "_law_next" 2 ["_law_pen_here","_law_many"] (NSp K qac))
 (O__law_reduced:Ok P w K mg base "_law_reduced" 2 ["_law_bottom","_law_rows"] (PSp K qbc))
 (O__law_table:Ok P w K mg base "_law_table" 4 ["_law_pen_here","_law_many","_law_most","_law_far"] (NSp K qdy))
 (O__law_word:Ok P w K mg base "_law_word" 5 ["_law_shelf_here"] (PSp K qlf))
 : Ok P w K mg base "_law_refused" 6 ["_law_pen_here","_law_shelf_here","_law_many"] (NSp K qeh):=by
  refine F.vokP qcl (by rintro ds0 ds q ⟨_,_,h,_⟩;rw [h];rfl) (by decide) fun f cdv A outer s H E hr ds0 ds q h=>?_;obtain ⟨L,W,rfl,hp,⟨hS,W3,L4⟩,h⟩:=h;refine ⟨_,(qcz (qA (i:=3) qcl.nd (qw O__law_reduced.c hr.m (qc qe (qc (qy (qL (caps:=[]) (own:=["_law_stand"]) (ix:=[]) rfl ⟨rfl,rfl,rfl,rfl,rfl,rfl⟩ (qC T.range_ (qb 2)) (fun _ _ _ _=>(qo (i:=0) (show Q4 (["_law_stand"]:List Str) by decide))) (fun _ _ _ _=>(qy (qZ (qc qe (qc qe (qc qe (qc qe (qc qe qd)))))))))) qd))))
   (qf (qA (i:=4) qcl.nd (qV 0 O__law_table.c hr.m (qc qe (qc qe (qc qe qd)))))
   (qf (qA (i:=5) qcl.nd (qV 0 O__law_next.c hr.m (qc (qt qcc (qv qbd T.len_ L2.boot_len (qc (qb 1) qd)) qe) qd)))
   (qf (qar (VW.pt (qhm (qE (qpy hr.units) (qw O__law_word.c hr.m (qc (qy (qZ qd)) qd)) qcv) (qhm (qE (qpy hr.units) (qw O__law_word.c hr.m (qc (qy (zahl (qby (qb 1) qfk (qce qe)) qe)) qd)) qcv) (qfg (qE (qpy hr.units) (qw O__law_word.c hr.m (qc (qy (zahl (qZ (qc (qb 3) qd)) qe)) qd)) qcv))))) (qg (qx qoa)) qz)
   (qf (qar (qE (qpy hr.units) (qw O__law_word.c hr.m (qc (qy (qff (qy (qff (qy (qby (qb 1) qfk (qce (qb 5)))) (qy (qZ (qc (qb 3) qd))))) (qy (qby (qb 1) (qce (qb 5)) qfk)))) qd)) qcv) (qg (qx qoa)) qz)
   (qf (qar (qE (qpy hr.units) (qw O__law_word.c hr.m (qc (qy (qff (qy (qff (qy (qby (qb 1) qfk (qce (qb 5)))) (qy (qZ (qc (qb 4) qd))))) (qy (qby (qb 1) (qce (qb 5)) qfk)))) qd)) qcv) (qg (qx qoa)) qz)
   (qg (qx (qkc (qmg hr.units) (qw O__law_word.c hr.m (qc (qy (qff (qy (qff (qy (qZ (qc (qb 3) qd))) (qy (qby (qb 1) qfk (qce qe))))) (qy (qZ (qc (qb 4) qd))))) qd)) qcv))))))))),?_⟩
  have W1:=hS.w1;have n1:=hS.n1;have lL:(((L.map dG).length:Nat):Int)=L.length:=by rw [Qe]
  have shF:=shpS (x := "fit") 0 (by decide +kernel);have shM:=shpS (x := "many") 0 (by decide +kernel);refine ⟨fun e => ∃ (c:Int) (S:List (List Int)),(S.length=W /\ ∀ r ∈ S,r.length=5)/\e=[.pen ds0,.val (.list (L.map dG)),.val (.int W),.val (qau c S),.non,.non],?_,?_⟩
  ·refine ⟨⟨by omega,by omega⟩,qi (by rw [qs];omega),fun k ys e=>ys=(Zb k [1,1,1,1,1]).map qao /\ ∃ v,e=[v],⟨rfl,_,rfl⟩,?_,?_⟩
   ·rintro i d ys e hd ⟨rfl,v,rfl⟩;refine ⟨szl,?_,_,rfl⟩;rw [List.replicate_succ',Q6];rfl
   ·rintro ys e ⟨rfl,v,rfl⟩;rw [qs,Zt];have t5:Tab 5 (Zb W [1,1,1,1,1]) 5:=⟨by decide,fun r hr=>by rw [Qbc hr];rfl,fun r hr x hx=>by
     rw [Qbc hr] at hx;have:x=1:=by simpa using hx
     omega,fun r hr=>by rw [Qbc hr];rfl⟩
    have l5:(Zb W [(1:Int),1,1,1,1]).length=W:=by simp
    refine ⟨5,Zb W [1,1,1,1,1],5,rfl,⟨t5,fun z=>by rw [z] at l5;simp at l5;omega,by omega,by omega,by decide⟩,_,_,⟨?_,?_⟩,rfl⟩
    ·simp [qju]
    ·intro r hr;unfold qju at hr;obtain ⟨r',hr',rfl⟩:=Qr.mp hr;rw [Qe];exact t5.len r' hr'
  rintro e ⟨c,S,⟨lS,wS⟩,rfl⟩;refine ⟨rfl,rfl,4,3,8,rfl,hp,⟨by decide,by decide,by decide,by decide,by decide,by decide⟩,fun b R n p1 G hb lR n1' n2' hp1=>?_⟩;refine ⟨rfl,rfl,_,rfl,hp1,⟨by omega,qu (qaf (by omega) (by omega)) (by decide)⟩,fun x p2 x0 x1 hp2=>?_⟩;have ddF:(!PyData.eqv (.str "fit") (.str "fit"))=false:=by rw [shF.refl];rfl
  have ddM:(!PyData.eqv (.str "many") (.str "many"))=false:=by rw [shM.refl];rfl
  obtain ⟨g0,L0,eL⟩:=Qq (show L≠[] from fun z=>by rw [z] at n1;simp at n1);obtain ⟨k,ek⟩:=Zl x0;subst ek;have k4:k<=L.length:=by rw [lL] at x1;omega
  have tk : ∀ {l:List Qh},l=qlg (L.map dG) none (some (k:Int))->l=(L.take k).map dG:=fun h=>by rw [h,qrc _ (by omega),Jv];rfl
  have dr : ∀ {l:List Qh},l=qlg (L.map dG) (some (k:Int)) none->l=(L.drop k).map dG:=fun h=>by rw [h,qzr _ (by omega),Qcs];rfl
  have lt:(L.take k).length=k:=by rw [Z3];omega
  have ld:(L.drop k).length=L.length-k:=V5;have lW : ∀ g ∈ L,g.2.length=W:=fun g hg=>(hS.g g hg).l;have ne : ∀ g ∈ L,∃ r0 R0,g.2=r0::R0:=fun g hg=>by
   obtain ⟨r0,R0,e,_⟩:=(hS.g g hg).head (by omega);exact ⟨r0,R0,e⟩
  obtain ⟨s0,S0,eS⟩:=Qq (show S≠[] from fun z=>by rw [z] at lS;simp at lS;omega);have mem : ∀ (y g:Int×List (List Int)),g ∈ L.take k++[y]++L.drop k->g=y\/g ∈ L:=fun y g hg=>by
   rcases Ze.mp hg with h|h
   ·rcases Ze.mp h with h|h
    ·exact .inr (Vo h)
    ·exact .inl (Q3.mp h)
   ·exact .inr (Je h)
  have len : ∀ y:Int×List (List Int),(L.take k++[y]++L.drop k).length=L.length+1:=fun y=>by
   rw [Zj,Zj,lt,ld];simp;omega
  have rM:RefM (L.take k++[(c,S)]++L.drop k):=by
   have key : ∀ g ∈ L.take k++[(c,S)]++L.drop k,g.2.length=W:=fun g hg=>by
    rcases mem _ _ hg with h|h
    ·rw [h];exact lS
    ·exact lW g h
   refine ⟨by rw [len];omega,by rw [len];omega,fun g hg h hh=>by rw [key g hg,key h hh],fun g hg=>?_,⟨(c,S),by simp,s0,S0,eS,by rw [wS s0 (by rw [eS];simp)];decide⟩⟩;rcases mem _ _ hg with h|h
   ·rw [h];exact ⟨s0,S0,eS⟩
   ·exact ne g h
  have g0m:g0 ∈ L:=by rw [eL];simp
  have rF:RefF (L.take k++[(b,R)]++L.drop k):=by
   refine .inr (.inr ?_);by_cases z:k=0
   ·subst z;refine ⟨g0,by simp [eL],(b,R),by simp,rfl,by rw [len];omega,?_⟩;rw [lW g0 g0m];show W≠R.length;omega
   ·refine ⟨(b,R),by simp,g0,?_,?_,by rw [len];omega,?_⟩
    ·refine Ya _ (Ya _ ?_);obtain ⟨k',rfl⟩ : ∃ k',k=k'+1:=⟨k-1,by omega⟩
     rw [eL,Qgm];simp
    ·obtain ⟨k',rfl⟩ : ∃ k',k=k'+1:=⟨k-1,by omega⟩
     rw [eL,Qgm];rfl
    ·rw [lW g0 g0m];show R.length≠W;omega
  have l2:(L.take 2).length<=2:=by rw [Z3];omega
  have rL:RefF ([(c,S)]++L.take 2++[(b,R)]) :=.inr (.inr ⟨(b,R),by simp,(c,S),by simp,rfl,by rw [Zj,Zj];simp;omega,by show R.length≠S.length;omega⟩);have le6:6<=Qz:=szl (l:=[(),(),(),(),(),()]);refine ⟨szl,[],rfl,.inl ⟨.inl rfl,shF.ok,shF.ok,qrs ddF ?_⟩⟩;refine fun l1 q1=>?_;have q1:l1=[dG g0]:=by
   have q1:l1=qlg (L.map dG) none (some 1):=q1;rw [q1,qrc _ (by decide),eL];rfl
  subst q1;refine ⟨⟨by decide,by decide,le6⟩,fun r q2=>⟨Zb 6 g0,by rw [q2];rfl,.inl ⟨.inr (.inl (by rw [Vj];decide)),shF.ok,shF.ok,qrs ddF ?_⟩⟩⟩;refine ⟨szl,⟨by decide,by decide,le6⟩,fun r q2=>⟨Zb 6 (c,S),by rw [q2];rfl,.inl ⟨.inr (.inl (by rw [Vj];decide)),shF.ok,shF.ok,qrs ddF ?_⟩⟩⟩;refine fun l1 q1=>?_;have q1:=tk q1;subst q1;have cat : ∀ (y:Int×List (List Int)),(L.take k).map dG++[dG y]++(L.drop k).map dG=(L.take k++[y]++L.drop k).map dG:=fun y=>by
   rw [Q6,Q6];rfl
  have z1:((L.take k).map dG).length+1<=Qz:=Yg (qi (by rw [Qe,lt];omega));have z2 : ∀ y,((L.take k).map dG++[y]).length+((L.drop k).map dG).length<=Qz:=fun y=>Yg (qi (by rw [Zj,Qe,Qe,lt,ld];show k+1+(L.length-k)<=1000;omega));refine ⟨szl,z1,fun l2 q2=>?_⟩;have q2:=dr q2;subst q2;refine ⟨z2 _,_,congrArg (fun l=>[Qbx l]) (cat (c,S)),.inr ⟨rM,shM.ok,shM.ok,qrs ddM ?_⟩⟩;refine fun l1 q1=>?_;have q1:=tk q1;subst q1;refine ⟨szl,z1,fun l2 q2=>?_⟩;have q2:=dr q2;subst q2;refine ⟨z2 _,_,congrArg (fun l=>[Qbx l]) (cat (b,R)),.inl ⟨rF,shF.ok,shF.ok,qrs ddF ?_⟩⟩;refine ⟨szl,fun l1 q1=>?_⟩;have q1:l1=(L.take 2).map dG:=by
   have q1:l1=qlg (L.map dG) none (some 2):=q1;rw [q1,qrc _ (by decide),Jv];rfl
  subst q1;have z3:1+((L.take 2).map dG).length<=Qz:=Yg (qi (by rw [Qe];omega));have z4 : ∀ y:Qh,([y]++(L.take 2).map dG).length+1<=Qz:=fun y=>Yg (qi (by rw [Zj,Qe];show 1+(L.take 2).length+1<=1000;omega));refine ⟨z3,szl,z4 _,_,(show [Qbx ([dG (c,S)]++(L.take 2).map dG++[dG (b,R)])]=[.list (([(c,S)]++L.take 2++[(b,R)]).map dG)] by rw [Q6,Q6];rfl),.inl ⟨rL,shF.ok,shF.ok,_,p2,rfl,rfl,?_⟩⟩;rw [shF.refl];exact h p2 hp2
def qdl (ds:List Qh) (q:Qh->Prop):Prop := ∃ b R Y,ds=[qau b R,qmo Y]/\Y.length=R.length/\q .none
def qmi:FnScope ["glass","payoffs"] ["glass","payoffs"] (defScope qcj):=sc0
def qmd (F:Def K mg "check_payoffs" qcj ["glass","payoffs"]) (T:Txt K mg cs)
 (O_stands:Ok P w K mg base "stands" 1 ["glass"] (PSp K qgm))
 : Ok P w K mg base "check_payoffs" 2 ["glass","payoffs"] (PSp K qdl):=by
  refine F.vok qmi (by rintro ds q ⟨_,_,_,h,_⟩;rw [h];rfl) fun f cdv A outer s H E hr ds q h=>?_;obtain ⟨b,R,Y,rfl,hl,h⟩:=h;refine ⟨_,(qg (qar (qE (qpy hr.units) (qv qbd T.len_ L2.boot_len (qc (qb 1) qd)) (qw O_stands.c hr.m (qc (qb 0) qd))) qca qz)),?_⟩;refine ⟨b,R,rfl,rfl,rfl,qoj (fun z=>?_) (fun _=>h)⟩;exfalso;apply z;simp [hl]
def qpv (ds:List Qh) (q:Qh->Prop):Prop := ∃ (pl:List Int) (m a:Int),ds=[.tuple (pl.map .int),.int m,.int a]/\(pl.length<=900/\pl.length=m/\inP pl a=true)/\q (.bool true)
def qxq:FnScope ["plan","many","acts"] ["plan","many","acts"] (defScope qjk):=sc0
def qxr (F:Def K mg "is_plan" qjk ["plan","many","acts"]) (T:Txt K mg cs)
 (O_is_whole:Ok P w K mg base "is_whole" 1 ["thing"] (PSp K qeg))
 : Ok P w K mg base "is_plan" 2 ["plan","many","acts"] (PSp K qpv):=by
  refine F.vok qxq (by rintro ds q ⟨_,_,_,h,_⟩;rw [h];rfl) fun f cdv A outer s H E hr ds q h=>?_;obtain ⟨pl,m,a,rfl,⟨hl,hm,hi⟩,h⟩:=h;refine ⟨_,(qf (qar (VW.pt (qhm (qdj (qdk (qol T.isinstance_ T.tuple_ L2.boot_tuple (qb 0)))) (qfg (qE (qpy hr.units) (qv qbd T.len_ L2.boot_len (qc (qb 0) qd)) (qb 1))))) (qg (qx qoa)) qz)
   (qg (qx (qv (zary rfl) T.all_ L2.boot_all (qc (qy (qL (caps:=["acts"]) (own:=["act"]) (ix:=[2]) rfl ⟨rfl,rfl,rfl,rfl,rfl,rfl⟩ (qR (qb 0)) (fun _ _ _ _=>(qo (i:=1) (show Q4 (["acts","act"]:List Str) by decide))) (fun _ _ _ _=>(qrg (qw O_is_whole.c hr.m (qc (qb 1) qd)) (qll (zafp o_le qyk qe (qb 1) (qb 0))))))) qd))))),?_⟩
  refine ⟨rfl,rfl,qoj (fun z=>?_) (fun _=>?_)⟩
  ·exfalso;apply z;simp [hm]
  show _/\_;refine qS (pl.map fun x=>Qkk (decide (0<=x)&&decide (x<a))) (by simp) (qi (by simp;omega)) (fun e => ∃ s,e=[.val (.int a),s]) ⟨_,rfl⟩ ?_ ?_
  ·rintro i x ys e hx hys ⟨s,rfl⟩;obtain ⟨x,rfl,hx,hxm⟩:=qaj hx;refine qip (fun h0=>?_) (fun h0=>?_)
   ·refine ⟨qq ?_ hys,_,rfl⟩;rw [Qa,hx];simp [h0]
   ·refine ⟨qq ?_ hys,_,rfl⟩;rw [Qa,hx];simp [h0]
  ·refine ⟨pl.map fun x=>decide (0<=x)&&decide (x<a),by rw [Vf];rfl,?_⟩;have e:((pl.map fun x=>decide (0<=x)&&decide (x<a)).all id)=inP pl a:=by rw [List.all_map];rfl
   rw [e,hi];exact h
def qsw (ds:List Qh) (q:List Qh->Prop):Prop := ∃ (d:Qh) (R:List (List Int)) (k:Nat),ds=[d,.int k]/\(RowsD d R/\R.length<=900 /\ ∀ r ∈ R,k<r.length)/\q ((qgh R k).map .int)
def zabs:FnScope ["rows","place"] ["rows","place"] (defScope qlv):=sc0
def zacv (F:Def K mg "column" qlv ["rows","place"]) (T:Txt K mg cs)
 : Ok P w K mg base "column" 1 ["rows","place"] (FSp K qsw):=by
  refine F.vokF zabs (by rintro ds q ⟨_,_,_,h,_⟩;rw [h];rfl) fun f cdv A outer s H E hr ds q h=>?_;obtain ⟨d,R,k,rfl,⟨hR,hl,hk⟩,h⟩:=h;refine ⟨_,(qg (qgg (qL (caps:=["place"]) (own:=["row"]) (ix:=[1]) rfl ⟨rfl,rfl,rfl,rfl,rfl,rfl⟩ (qR (qb 0)) (fun _ _ _ _=>(qo (i:=1) (show Q4 (["place","row"]:List Str) by decide))) (fun _ _ _ _=>(qr (qb 1) (qb 0)))))),?_⟩;obtain ⟨l,e,_⟩:=id hR;refine qek e (qS ((qgh R k).map .int) (by simp [qgh,hR.len e]) (qi (by simp [qgh];omega)) (fun e => ∃ s,e=[.val (.int k),s]) ⟨_,rfl⟩ ?_ ?_)
  ·rintro i x ys e' hx hys ⟨s,rfl⟩;obtain ⟨r,hr,er⟩:=hR.get e hx;have hk':=hk r (quk hr);have hx:=Qc hk';refine zait er (qP (by rw [Qa,hx];rfl)) ⟨qq ?_ hys,_,rfl⟩;rw [Qa,zakg hr hx];rfl
  ·exact ⟨_,rfl,h⟩
def qst (ds:List Qh) (q:Qh->Prop):Prop := ∃ (d e:Qh) (a b:List Int),ds=[d,e]/\(qfs d=some (a.map .int)/\qfs e=some (b.map .int)/\a.length<=900/\(∀ x ∈ a,intBits x<=4000) /\ ∀ y ∈ b,intBits y<=4000)/\q (.int (qwh a b))
def zadi:FnScope ["one","other"] ["one","other"] (defScope qmb):=sc0
def zabw (F:Def K mg "paired" qmb ["one","other"]) (T:Txt K mg cs)
 : Ok P w K mg base "paired" 1 ["one","other"] (PSp K qst):=by
  refine F.vok zadi (by rintro ds q ⟨_,_,_,_,h,_⟩;rw [h];rfl) fun f cdv A outer s H E hr ds q h=>?_;obtain ⟨d,e,a,b,rfl,⟨h1,h2,hl,za,zb⟩,h⟩:=h;refine ⟨_,(qg (qx (qv (zadp rfl) T.sum_ L2.boot_sum (qc (qy (qL (caps:=[]) (own:=["number","beyond"]) (ix:=[]) rfl ⟨rfl,rfl,rfl,rfl,rfl,rfl⟩ (qhu T.zip_ (qb 0) (qb 1)) (fun _ _ _ _=>(qfc (n:=2) rfl (qJ (qo (i:=0) (show Q4 (["number","beyond"]:List Str) by decide)) (qJ (qo (i:=1) (show Q4 (["number","beyond"]:List Str) by decide)) qcy)))) (fun _ _ _ _=>(qt qae (qb 0) (qb 1))))) qd)))),?_⟩;refine qek h1 (qek h2 (qS ((Qch (· * ·) a b).map .int) (by simp [qbw]) (qi (by simp;omega)) (fun e => ∃ s t,e=[s,t]) ⟨_,_,rfl⟩ ?_ ?_))
  ·rintro i x ys e' hx hys ⟨s,t,rfl⟩;obtain ⟨x,y,h3,h4,rfl⟩:=qfq hx;obtain ⟨x,rfl,h5,hxm⟩:=qaj h3;obtain ⟨y,rfl,h6,hym⟩:=qaj h4;refine ⟨rfl,rfl,qkv (za x hxm) (zb y hym),qq ?_ hys,_,_,rfl⟩;rw [Qa,zaku h5 h6];rfl
  ·exact ⟨_,rfl,h⟩
def qqk (ds:List Qh) (q:Qh->Prop):Prop := ∃ b R n Y a s x,ds=[qau b R,qmo Y,.int s,.int x]/\WorPre b R n Y a s x/\q (.int (qwh (qgh R s.toNat) (qgh Y x.toNat)))
def zafq:FnScope ["glass","payoffs","sign","act"] ["glass","payoffs","sign","act"] (defScope qpg):=sc0
def zaee (F:Def K mg "worth" qpg ["glass","payoffs","sign","act"]) (T:Txt K mg cs)
 (O_column:Ok P w K mg base "column" 1 ["rows","place"] (FSp K qsw))
 (O_paired:Ok P w K mg base "paired" 1 ["one","other"] (PSp K qst))
 : Ok P w K mg base "worth" 2 ["glass","payoffs","sign","act"] (PSp K qqk):=by
  refine F.vok zafq (by rintro ds q ⟨_,_,_,_,_,_,_,h,_⟩;rw [h];rfl) fun f cdv A outer s H E hr ds q h=>?_;obtain ⟨b,R,n,Y,a,s,x,rfl,hw,h⟩:=h;refine ⟨_,(qg (qx (qw O_paired.c hr.m (qc (qy (qlw O_column.c hr.m (qc (qr (qb 0) qe) (qc (qb 2) qd)))) (qc (qy (qlw O_column.c hr.m (qc (qb 1) (qc (qb 3) qd)))) qd))))),?_⟩;obtain ⟨s',rfl⟩:=Zl hw.s0;obtain ⟨x',rfl⟩:=Zl hw.x0;have hs1:=hw.s1;have hx1:=hw.x1;have hr1:=hw.r;have hy:=hw.y.m;refine ⟨_,rfl,_,R,s',rfl,⟨qsr _,hr1,fun r hr=>by rw [hw.t.len r hr];omega⟩,_,Y,x',rfl,⟨qsr _,by omega,fun y hy=>by rw [hw.y.a y hy];omega⟩,_,_,_,_,rfl,⟨rfl,rfl,by rw [zajn];omega,fun z hz=>?_,fun z hz=>?_⟩,h⟩
  ·rcases zaav hz with rfl|⟨r,hr,hz⟩
   ·decide
   ·exact hw.t.bits hw.z hr hz
  ·rcases zaav hz with rfl|⟨y,hy,hz⟩
   ·decide
   ·exact zaem (hw.y.b y hy z hz)
structure GainPre (b:Int) (R:List (List Int)) (n:Nat) (Y:List (List Int)) (a:Nat) (pl:List Int):Prop where
 t:Tab b R n
 y:Pays Y R.length a
 r1:1<=R.length
 r:R.length<=900
 n2:n<=900
 l:pl.length=n
 p:inP pl a=true
 z:intBits b<=4000
def zaag (ds:List Qh) (q:Qh->Prop):Prop := ∃ b R n Y a pl,ds=[qau b R,qmo Y,.tuple (pl.map .int)]/\GainPre b R n Y a pl/\q (dSh (shT (qta R Y pl) b) (shB (qta R Y pl) b))
def zaaf:FnScope ["glass","payoffs","plan","worths"] ["glass","payoffs","plan"] (defScope qvl):=sc0
def zaiz (F:Def K mg "gain" qvl ["glass","payoffs","plan"]) (T:Txt K mg cs)
 (O_signs:Ok P w K mg base "signs" 1 ["glass"] (PSp K qcp))
 (O_share:Ok P w K mg base "share" 3 ["top","bottom"] (PSp K qio))
 (O_check_payoffs:Ok P w K mg base "check_payoffs" 2 ["glass","payoffs"] (PSp K qdl))
 (O_is_plan:Ok P w K mg base "is_plan" 2 ["plan","many","acts"] (PSp K qpv))
 (O_worth:Ok P w K mg base "worth" 2 ["glass","payoffs","sign","act"] (PSp K qqk))
 : Ok P w K mg base "gain" 4 ["glass","payoffs","plan"] (PSp K zaag):=by
  refine F.vok zaaf (by rintro ds q ⟨_,_,_,_,_,_,h,_⟩;rw [h];rfl) fun f cdv A outer s H E hr ds q h=>?_;obtain ⟨b,R,n,Y,a,pl,rfl,hg,h⟩:=h;refine ⟨_,(qf (qfl (qw O_check_payoffs.c hr.m (qc (qb 0) (qc (qb 1) qd))))
   (qf (qar (qdj (qdk (qw O_is_plan.c hr.m (qc (qb 2) (qc (qw O_signs.c hr.m (qc (qb 0) qd)) (qc (qv qbd T.len_ L2.boot_len (qc (qr (qb 1) qe) qd)) qd)))))) qca qz)
   (qf (qpm (caps:=["glass","payoffs"]) (own:=["sign","act"]) (ix:=[0,1]) (i:=3) zaaf.nd rfl ⟨rfl,rfl,rfl,rfl,rfl,rfl⟩ (zaeo T.enumerate_ (qb 2)) (fun _ _ _ _=>(qfc (n:=2) rfl (qJ (qo (i:=2) (show Q4 (["glass","payoffs","sign","act"]:List Str) by decide)) (qJ (qo (i:=3) (show Q4 (["glass","payoffs","sign","act"]:List Str) by decide)) qcy)))) (fun _ _ _ _=>(qw O_worth.c hr.m (qc (qb 0) (qc (qb 1) (qc (qb 2) (qc (qb 3) qd)))))))
   (qg (qx (qw O_share.c hr.m (qc (qv (zadp rfl) T.sum_ L2.boot_sum (qc (qb 3) qd)) (qc (qr (qb 0) qe) qd)))))))),?_⟩
  have r1:=hg.r1;have hn2:=hg.n2;have hl:=hg.l;have hRn:R≠[]:=fun z=>by rw [z] at r1;simp at r1
  have hYn:Y≠[]:=fun z=>by have:=hg.y.m;rw [z] at this;simp at this;omega
  obtain ⟨r0,R0,eR⟩:=Qq hRn;obtain ⟨y0,Y0,eY⟩:=Qq hYn;have l1:r0.length=n:=hg.t.len r0 (by rw [eR];simp);have l2:y0.length=a:=hg.y.a y0 (by rw [eY];simp);have aY:atI (Y.map qef) 0=some (qef y0):=by rw [eY];exact qbl _ _
  refine ⟨b,R,Y,rfl,hg.y.m,b,r0,R0,by rw [eR],_,aY,pl,_,_,rfl,⟨by omega,by omega,by simp [l2];exact hg.p⟩,?_⟩;show _/\_;refine qS (((Qm pl.length).map fun s=>qwh (qgh R s) (qgh Y ((pl[s]?).getD 0).toNat)).map .int) (by simp [qcb]) (qi (by simp;omega)) (fun e => ∃ s t,e=[.val (qau b R),.val (qmo Y),s,t]) ⟨_,_,rfl⟩ ?_ ?_
  ·rintro i d ys e hd hys ⟨s,t,rfl⟩;obtain ⟨x,hx,rfl⟩:=qja hd;obtain ⟨x,rfl,h5,hxm⟩:=qaj hx;have hi:i<pl.length:=(Qk.mp h5).1;have hb:=Z4.mp hg.p x hxm;have hb':0<=x/\x<a:=by simpa using hb
   refine ⟨rfl,rfl,b,R,n,Y,a,i,x,rfl,⟨hg.t,hg.y,hg.r,by omega,by omega,hb'.1,hb'.2,hg.z⟩,qq ?_ hys,_,_,rfl⟩;rw [Qa,Qa,Qn hi,Zt];simp [h5]
  ·have bp:=hg.t.pos;refine ⟨_,rfl,_,rfl,⟨by omega,qu hg.z (by decide)⟩,h⟩
def fbA (w:List Int):Nat:=w.findIdx fun v=>w.all fun x=>decide (x<=v)
structure FB (w:List Int) (j:Nat) (v:Int):Prop where
 g:w[j]?=some v
 m : ∀ x ∈ w,x<=v
 l : ∀ m,m<j -> ∀ u,w[m]?=some u->u<v
def zama : ∀ {w:List Int},w≠[] -> ∃ v ∈ w,∀ x ∈ w,x<=v
 | [],h=>absurd rfl h
 | [a],_=>⟨a,by simp,by simp⟩
 | a::b::w,_=>by
  obtain ⟨v,hv,hm⟩:=zama (w:=b::w) (by simp);by_cases h:a<=v
  ·exact ⟨v,Qy _ hv,fun x hx=>by
    rcases Q1.mp hx with rfl|hx
    ·exact h
    ·exact hm x hx⟩
  ·exact ⟨a,by simp,fun x hx=>by
    rcases Q1.mp hx with rfl|hx
    ·omega
    ·have:=hm x hx;omega⟩
def zamf {w:List Int}{v:Int} (hv:v ∈ w) (hm : ∀ x ∈ w,x<=v):FB w (fbA w) v:=by
 have hp:(w.all fun x=>decide (x<=v))=true:=Z4.mpr fun x hx=>by simpa using hm x hx
 have hl:fbA w<w.length:=List.findIdx_lt_length_of_exists ⟨v,hv,hp⟩;have hq:(w.all fun x=>decide (x<=w[fbA w]))=true:=List.findIdx_getElem (w:=hl);have e:w[fbA w]=v:=by
  have a1:=Z4.mp hq v hv;have a2:=hm _ (Zi hl);simp at a1;omega
 refine ⟨by rw [Qc hl,e],hm,fun m h u hu=>?_⟩;obtain ⟨h2,e2⟩:=Qk.mp hu;have n1:(w.all fun x=>decide (x<=w[m]))=false:=by
  have:=List.not_of_lt_findIdx (p:=fun v=>w.all fun x=>decide (x<=v)) h;simpa using this
 have n2:=hm _ (Zi h2);have n3:w[m]≠v:=fun z=>by rw [z,hp] at n1;cases n1
 rw [<- e2];omega
def zaml {w:List Int} (h:w≠[]) : ∃ v,FB w (fbA w) v:=by
 obtain ⟨v,hv,hm⟩:=zama h;exact ⟨v,zamf hv hm⟩
def zalt {w:List Int} (h:w≠[]):fbA w<w.length:=by
 obtain ⟨v,hv⟩:=zaml h;exact (Qk.mp hv.g).1
def wk (R Y:List (List Int)) (a s:Nat):List Int:=(Qm a).map fun x=>qwh (qgh R s) (qgh Y x)
def qrn (R Y:List (List Int)) (a s:Nat):(wk R Y a s).length=a:=by simp [wk]
def zado {R Y:List (List Int)}{a:Nat} (s:Nat) (h:1<=a):wk R Y a s≠[]:=fun z=>by
 have:=qrn R Y a s;rw [z] at this;simp at this;omega
def plB (R Y:List (List Int)) (a n:Nat):List Int:=(Qm n).map fun s=>((fbA (wk R Y a s):Nat):Int)
def qqf (R Y:List (List Int)) (a n:Nat):(plB R Y a n).length=n:=by simp [plB]
def zaon {R Y:List (List Int)}{a n:Nat} (h:1<=a):inP (plB R Y a n) a=true:=by
 rw [inP,Z4];intro x hx;obtain ⟨s,_,rfl⟩:=Qr.mp hx;have:=zalt (zado (R:=R) (Y:=Y) s h);rw [qrn] at this;simp;omega
def zaor {R Y:List (List Int)}{a s j:Nat} (h:j<a):(wk R Y a s)[j]?=some (qwh (qgh R s) (qgh Y j)):=by
 rw [wk,Qa,Qn h];rfl
structure FbPre (b:Int) (R:List (List Int)) (n:Nat) (Y:List (List Int)) (a:Nat):Prop where
 t:Tab b R n
 y:Pays Y R.length a
 r1:1<=R.length
 r:R.length<=900
 n2:n<=900
 a1:1<=a
 a2:a<=900
 z:intBits b<=4000
def qft (ds:List Qh) (q:Qh->Prop):Prop := ∃ b R n Y a,∃ s:Nat,ds=[qau b R,qmo Y,.int (s:Nat)]/\(FbPre b R n Y a/\s<n)/\q (.int (fbA (wk R Y a s):Nat))
def qfu:FnScope ["glass","payoffs","sign","worths"] ["glass","payoffs","sign"] (defScope qbo):=sc0
def qkw (F:Def K mg "first_best_act" qbo ["glass","payoffs","sign"]) (T:Txt K mg cs)
 (O_worth:Ok P w K mg base "worth" 2 ["glass","payoffs","sign","act"] (PSp K qqk))
 : Ok P w K mg base "first_best_act" 3 ["glass","payoffs","sign"] (PSp K qft):=by
  refine F.vok qfu (by rintro ds q ⟨_,_,_,_,_,_,h,_⟩;rw [h];rfl) fun f cdv A outer s H E hr ds q h=>?_;obtain ⟨b,R,n,Y,a,s,rfl,⟨hg,hs⟩,h⟩:=h;refine ⟨_,(qf (qpm (caps:=["glass","payoffs","sign"]) (own:=["act"]) (ix:=[0,1,2]) (i:=3) qfu.nd rfl ⟨rfl,rfl,rfl,rfl,rfl,rfl⟩ (qC T.range_ (qv qbd T.len_ L2.boot_len (qc (qr (qb 1) qe) qd))) (fun _ _ _ _=>(qo (i:=3) (show Q4 (["glass","payoffs","sign","act"]:List Str) by decide))) (fun _ _ _ _=>(qw O_worth.c hr.m (qc (qb 0) (qc (qb 1) (qc (qb 2) (qc (qb 3) qd)))))))
   (qg (qx (zacy 3 (qv (zanl rfl) T.max_ L2.boot_max (qc (qb 3) qd)))))),?_⟩
  have r1:=hg.r1;have ha1:=hg.a1;have ha2:=hg.a2;have hYn:Y≠[]:=fun z=>by have:=hg.y.m;rw [z] at this;simp at this;omega
  obtain ⟨y0,Y0,eY⟩:=Qq hYn;have l2:y0.length=a:=hg.y.a y0 (by rw [eY];simp);have aY:atI (Y.map qef) 0=some (qef y0):=by rw [eY];exact qbl _ _
  refine ⟨_,aY,⟨by omega,by simp;omega⟩,?_⟩;show _/\_;refine qS ((wk R Y a s).map .int) (by simp [qs,qrn];omega) (qi (by simp [qrn];omega)) (fun e => ∃ u,e=[.val (qau b R),.val (qmo Y),.val (.int (s:Nat)),u]) ⟨_,rfl⟩ ?_ ?_
  ·rintro i d ys e hd hys ⟨u,rfl⟩;obtain ⟨hi,rfl⟩:=qU hd;rw [Vg];have hi2:i<a:=by simp at hi;omega
   refine ⟨b,R,n,Y,a,s,i,rfl,⟨hg.t,hg.y,hg.r,by omega,by omega,by omega,by omega,hg.z⟩,qq ?_ hys,_,rfl⟩;rw [Qa,zaor hi2];rfl
  ·refine ⟨_,rfl,_,rfl,zado s ha1,fun M h1 h2=>?_⟩;have hf:=zamf h1 h2;refine ⟨_,_,fbA (wk R Y a s),rfl,rfl,hf.g,fun m hm z=>?_,h⟩;have:=hf.l m hm _ z;omega
def zaab (ds:List Qh) (q:Qh->Prop):Prop := ∃ b R n Y a,ds=[qau b R,qmo Y]/\FbPre b R n Y a/\q (.tuple [dSh (shT (qta R Y (plB R Y a n)) b) (shB (qta R Y (plB R Y a n)) b),.tuple ((plB R Y a n).map .int)])
def zaat:FnScope ["glass","payoffs","plan"] ["glass","payoffs"] (defScope qvj):=sc0
def zajz (F:Def K mg "best" qvj ["glass","payoffs"]) (T:Txt K mg cs)
 (O_signs:Ok P w K mg base "signs" 1 ["glass"] (PSp K qcp))
 (O_check_payoffs:Ok P w K mg base "check_payoffs" 2 ["glass","payoffs"] (PSp K qdl))
 (O_gain:Ok P w K mg base "gain" 4 ["glass","payoffs","plan"] (PSp K zaag))
 (O_first_best_act:Ok P w K mg base "first_best_act" 3 ["glass","payoffs","sign"] (PSp K qft))
 : Ok P w K mg base "best" 5 ["glass","payoffs"] (PSp K zaab):=by
  refine F.vok zaat (by rintro ds q ⟨_,_,_,_,_,h,_⟩;rw [h];rfl) fun f cdv A outer s H E hr ds q h=>?_;obtain ⟨b,R,n,Y,a,rfl,hg,h⟩:=h;refine ⟨_,(qf (qfl (qw O_check_payoffs.c hr.m (qc (qb 0) (qc (qb 1) qd))))
   (qf (qA (i:=2) zaat.nd (qba qej T.tuple_ L2.boot_tuple (qc (qy (qL (caps:=["glass","payoffs"]) (own:=["sign"]) (ix:=[0,1]) rfl ⟨rfl,rfl,rfl,rfl,rfl,rfl⟩ (qC T.range_ (qw O_signs.c hr.m (qc (qb 0) qd))) (fun _ _ _ _=>(qo (i:=2) (show Q4 (["glass","payoffs","sign"]:List Str) by decide))) (fun _ _ _ _=>(qw O_first_best_act.c hr.m (qc (qb 0) (qc (qb 1) (qc (qb 2) qd))))))) qd)))
   (qg (qx (qkf (qc (qw O_gain.c hr.m (qc (qb 0) (qc (qb 1) (qc (qb 2) qd)))) (qc (qb 2) qd))))))),?_⟩
  have r1:=hg.r1;have hn2:=hg.n2;have hRn:R≠[]:=fun z=>by rw [z] at r1;simp at r1
  obtain ⟨r0,R0,eR⟩:=Qq hRn;have l1:r0.length=n:=hg.t.len r0 (by rw [eR];simp);refine ⟨b,R,Y,rfl,hg.y.m,b,r0,R0,by rw [eR],⟨by omega,by omega⟩,?_⟩;show _/\_;refine qS ((plB R Y a n).map .int) (by simp [qs,qqf];omega) (qi (by simp [qqf];omega)) (fun e => ∃ s,e=[.val (qau b R),.val (qmo Y),s]) ⟨_,rfl⟩ ?_ ?_
  ·rintro i d ys e hd hys ⟨s,rfl⟩;obtain ⟨hi,rfl⟩:=qU hd;rw [Vg];have hi2:i<n:=by omega
   refine ⟨b,R,n,Y,a,i,rfl,⟨hg,hi2⟩,qq ?_ hys,_,rfl⟩;rw [Qa,plB,Qa,Qn hi2];rfl
  ·exact ⟨b,R,n,Y,a,plB R Y a n,rfl,⟨hg.t,hg.y,hg.r1,hg.r,hg.n2,qqf _ _ _ _,zaon hg.a1,hg.z⟩,szl,h⟩
def zabj {R Y:List (List Int)}{w s x:Nat} (hR:R.length=w) (hY:Y.length=w):qwh (qgh R s) (qgh Y x)=qj w fun t=>at2 R t s*at2 Y t x:=by
 unfold qwh;rw [<- qbz]
 congr 1
 refine Jj fun t=>?_;rw [Ja,Qa];unfold qgh;rw [Qa,Qa];by_cases ht:t<w
 ·have e1:R[t]?=some (R[t]'(by omega)):=Qc _;have e2:Y[t]?=some (Y[t]'(by omega)):=Qc _;rw [Qn ht,e1,e2];show some _=some (at2 R t s*at2 Y t x);unfold at2;rw [e1,e2];rfl
 ·rw [Q8 (l:=R) (by omega),Q8 (l:=Qm w) (by simp;omega)];rfl
def zajl {f:Nat->Int}{k j:Nat}{v:Int} (hj:j<=k) (e:f j=v) (h : ∀ i,i<=k->f i<=v):qnl f k=v:=by
 obtain ⟨i,hi,e2⟩:=qpo f k;have a:=h i hi;have b:=qus f hj;omega
def zafa {R Y:List (List Int)}{w a n:Nat} (hR:R.length=w) (hY:Y.length=w):qta R Y (plB R Y (a+1) n)=qei R Y w n a:=by
 unfold qta qei;rw [qqf,qbz];refine qh fun s hs=>?_;have e1:((plB R Y (a+1) n)[s]?).getD 0=((fbA (wk R Y (a+1) s):Nat):Int):=by
  unfold plB;rw [Qa,Qn hs];rfl
 rw [e1,Zt];obtain ⟨v,hv⟩:=zaml (zado (R:=R) (Y:=Y) (a:=a+1) s (by omega));have hl:=zalt (zado (R:=R) (Y:=Y) (a:=a+1) s (by omega));rw [qrn] at hl;have g:=hv.g;unfold wk at g;rw [Qa] at g;have g':(Qm (a+1))[fbA (wk R Y (a+1) s)]?=some (fbA (wk R Y (a+1) s)):=Qn hl;unfold wk at g';rw [g'] at g;have g:some (qwh (qgh R s) (qgh Y (fbA (wk R Y (a+1) s))))=some v:=g;injection g with g;rw [g];refine (zajl (j:=fbA (wk R Y (a+1) s)) (by omega) ?_ fun i hi=>?_).symm
 ·rw [<- g,zabj hR hY]
 ·have:=hv.m (qwh (qgh R s) (qgh Y i)) (Qr.mpr ⟨i,Zg.mpr (by omega),rfl⟩);rw [zabj hR hY] at this;exact this
def zabc {T:List (List Int)}{i j C:Nat} (h : ∀ r ∈ T,∀ x ∈ r,x.natAbs<=C):(at2 T i j).natAbs<=C:=by
 unfold at2;cases e:T[i]? with
 | none=>exact Y7 _
 | some r =>
  show ((r[j]?).getD 0).natAbs<=C;cases e':r[j]? with
  | none=>exact Y7 _
  | some x=>exact h r (Qg e) x (Qg e')
def zafe {R Y:List (List Int)}{w m a C D:Nat} (hR : ∀ r ∈ R,∀ x ∈ r,x.natAbs<=C) (hY : ∀ y ∈ Y,∀ x ∈ y,x.natAbs<=D):(qei R Y w m a).natAbs<=m*(w*(C*D)) :=
 qit fun i hi=>by
  obtain ⟨x,_,e⟩:=qpo (fun x=>qj w fun s=>at2 R s i*at2 Y s x) a;rw [e];exact qit fun s hs=>by
   rw [Qdu];exact Yk (zabc hR) (zabc hY)
def zabr {b:Int}{R Y:List (List Int)}{w m a:Nat} (hR:Tab b R m) (hb:b<=20000000) (hY : ∀ y ∈ Y,∀ x ∈ y,-1000000<=x/\x<=1000000) (hw:w<=4) (hm:m<=4):intBits (qei R Y w m a)<=64:=by
 have h:=zafe (R:=R) (Y:=Y) (w:=w) (m:=m) (a:=a) (C:=20000000) (D:=1000000) (fun r hr x hx=>by have:=hR.le hr hx;omega) (fun y hy x hx=>by have:=hY y hy x hx;omega);refine intBits_le_iff.mpr ?_;have u:m*(w*(20000000*1000000))<=4*(4*(20000000*1000000)):=Yk hm (Qai _ hw);exact Qdl h (Qdl u (by decide))
def zaqn {t u b c:Int} (hb:0<b) (hc:0<c) (h:t*c<=u*b):shT t b*shB u c<=shT u c*shB t b:=by
 obtain ⟨s1,e1⟩:=quz (t:=t) (b:=b) (by omega);obtain ⟨s2,e2⟩:=quz (t:=u) (b:=c) (by omega);have q1:=s1.pos;have q2:=s2.pos;generalize shT t b=p at *;generalize shB t b=q at *;generalize shT u c=r at *;generalize shB u c=s at *;have a:=Vl h (Jq (Yr (show 0<q by omega) (show 0<s by omega)));have x1:t*c*(q*s)=p*s*(b*c):=by
  have:t*c*(q*s)=t*q*(c*s):=by grind
  rw [this,<- e1];grind
 have x2:u*b*(q*s)=r*q*(b*c):=by
  have:u*b*(q*s)=u*s*(b*q):=by grind
  rw [this,<- e2];grind
 rw [x1,x2] at a;exact Int.le_of_mul_le_mul_right a (Yr hb hc)
section
variable {L:List (Int×List (List Int))}{W:Nat}
def Shf.gain {Y:List (List Int)}{a:Nat} (s:Shf L W) {t j:Nat} (d:DLi L t j) : ∃ g h,L[t]?=some g/\L[j]?=some h/\qei h.2 Y W (wd h) a*g.1<=qei g.2 Y W (wd g) a*h.1:=by
 obtain ⟨g,h,e1,e2,B,D,d⟩:=d;have G:=s.g g (Qg e1);have H:=s.g h (Qg e2);have gp:=G.h.t.pos;have hp:=H.h.t.pos;have:=Dul.best (Y:=Y) (a:=a) (show 0<g.1 by omega) (show 0<h.1 by omega) d;rw [G.l] at this;exact ⟨g,h,e1,e2,this⟩
def upI (k i:Nat):Nat:=if i<k then i else i+1
def qml {k:Nat} (hk:k<L.length) (i:Nat):(L.take k++L.drop (k+1))[i]?=L[upI k i]?:=by
 have l:(L.take k).length=k:=by rw [Z3];omega
 unfold upI;by_cases h:i<k
 ·rw [if_pos h,Zc (by omega),Jh h]
 ·rw [if_neg h,Zm (by omega),l,Qdm]
  congr 1;omega
def qjz {k:Nat} (hk:k<L.length):(L.take k++L.drop (k+1)).length=L.length-1:=by
 rw [Zj,Z3,V5];omega
def zakn {k:Nat} (s:Shf L W) (hk:k<L.length) (h2:2<=L.length):Shf (L.take k++L.drop (k+1)) W:=by
 have:=s.n2;refine ⟨fun g hg=>?_,s.w1,s.w2,by rw [qjz hk];omega,by rw [qjz hk];omega⟩;rcases Ze.mp hg with h|h
 ·exact s.g g (Vo h)
 ·exact s.g g (Je h)
def zahq {k:Nat} (hk:k<L.length) (i j:Nat):DLi (L.take k++L.drop (k+1)) i j↔DLi L (upI k i) (upI k j):=by
 unfold DLi;rw [qml hk,qml hk]
def zaox {k i j:Nat}:upI k i<upI k j↔i<j:=by
 unfold upI;split <;> split <;> omega
def qwv {k:Nat} (hk:k<L.length) (i j:Nat):qme (L.take k++L.drop (k+1)) i j↔qme L (upI k i) (upI k j):=by
 unfold qme;rw [zahq hk,zahq hk,zaox]
def zafl {k:Nat} (s:Shf L W) (hk:k<L.length) (ho:qpx L k) (i:Nat):qpx (L.take k++L.drop (k+1)) i↔qpx L (upI k i):=by
 constructor
 ·rintro ⟨j,hj,o⟩;rw [qjz hk] at hj;exact ⟨upI k j,by unfold upI;split <;> omega,(qwv hk j i).mp o⟩
 ·rintro ⟨j,hj,o⟩;have key : ∃ j,j<L.length/\j≠k/\qme L j (upI k i):=by
   by_cases e:j=k
   ·subst e;obtain ⟨m,hm,om⟩:=ho;exact ⟨m,hm,fun z=>s.oirr hm (by rw [z] at om ⊢;exact om),s.otrans om o⟩
   ·exact ⟨j,hj,e,o⟩
  obtain ⟨j,hj,ne,o⟩:=key;have : ∃ j',j'<L.length-1/\upI k j'=j:=by
   by_cases h:j<k
   ·exact ⟨j,by omega,by unfold upI;rw [if_pos h]⟩
   ·exact ⟨j-1,by omega,by unfold upI;rw [if_neg (by omega)];omega⟩
  obtain ⟨j',hj',e⟩:=this;refine ⟨j',by rw [qjz hk];exact hj',(qwv hk j' i).mpr ?_⟩;rw [e];exact o
def filter_map' {α β:Type} (f:α->β) (p:β->Bool) (l:List α):(l.map f).filter p=(l.filter fun x=>p (f x)).map f:=by
 rw [List.filter_map];rfl
def zagv {k:Nat} (s:Shf L W) (hk:k<L.length) {ou ou':Nat->Bool}{fs fs':List Nat}{rs rs':List Qh} (T:TopsOk L ou fs rs) (T':TopsOk (L.take k++L.drop (k+1)) ou' fs' rs') (hok:ou k=true) :
 (fs'.map fun i=>((L.take k++L.drop (k+1))[i]?).getD (0,[]))=fs.map fun i=>(L[i]?).getD (0,[]):=by
  have e : ∀ i,ou' i=ou (upI k i):=fun i=>by
   rw [Qbi,T'.o,T.o,zafl s hk ((T.o k).mp hok)]
  obtain ⟨c,hc⟩ : ∃ c,L.length=k+(1+c):=⟨L.length-k-1,by omega⟩
  have e1:Qm L.length=Qm k++([k]++(Qm c).map fun i=>k+(1+i)):=by
   rw [hc,Qgc,Qgc,Q6,Vf];rfl
  have e2:Qm (L.take k++L.drop (k+1)).length=Qm k++(Qm c).map fun i=>k+i:=by
   rw [qjz hk,show L.length-1=k+c by omega,Qgc]
  rw [T.f,T'.f,e1,e2,Qbm,Qbm,Qbm,Q6,Q6,Q6,filter_map',filter_map',Vf,Vf];have z:([k]:List Nat).filter (fun i => !ou i)=[]:=by
   rw [Jw (by rw [hok];decide)];rfl
  rw [z];have a1:(Qm k).filter (fun i => !ou' i)=(Qm k).filter fun i => !ou i:=Qhm fun i hi=>by
   have:=Zg.mp hi;rw [e,upI,if_pos this]
  have a2:((Qm c).filter fun x => !ou' (k+x))=(Qm c).filter fun x => !ou (k+(1+x)):=Qhm fun i hi=>by
   rw [e,upI,if_neg (by omega),show k+i+1=k+(1+i) by omega]
  rw [a1,a2]
  congr 1
  ·refine Qav fun i hi=>?_;have:=Zg.mp (Yi.mp hi).1;rw [qml hk,upI,if_pos this]
  ·show _=[]++_;rw [Qit];refine Qav fun i hi=>?_;show ((L.take k++L.drop (k+1))[k+i]?).getD (0,[])=_;rw [qml hk,upI,if_neg (by omega),show k+i+1=k+(1+i) by omega];rfl
def zagg {a b:Nat}{g h:Int×List (List Int)} (s:Shf L W) (hab:a<b) (e1:L[a]?=some g) (e2:L[b]?=some h) (na : ¬ qpx L a) (nb : ¬ qpx L b) {ou:Nat->Bool}{fs:List Nat}{rs:List Qh} (T:TopsOk [g,h] ou fs rs):fs=[0,1]/\rs=[]:=by
 have la:a<L.length:=(Qk.mp e1).1;have lb:b<L.length:=(Qk.mp e2).1;have dg : ∀ i j,DLi [g,h] i j↔(i<2/\j<2/\DLi L (if i=0 then a else b) (if j=0 then a else b)):=fun i j=>by
  have q : ∀ i,i<2->([g,h]:List (Int×List (List Int)))[i]?=L[if i=0 then a else b]?:=fun i hi=>by
   have:i=0\/i=1:=by omega
   rcases this with rfl|rfl
   ·rw [if_pos rfl,e1];rfl
   ·rw [if_neg (by decide),e2];rfl
  constructor
  ·rintro ⟨x,y,z1,z2,d⟩;have h1:i<2:=(Qk.mp z1).1;have h2:j<2:=(Qk.mp z2).1;rw [q i h1] at z1;rw [q j h2] at z2;exact ⟨h1,h2,x,y,z1,z2,d⟩
  ·rintro ⟨h1,h2,x,y,z1,z2,d⟩;exact ⟨x,y,by rw [q i h1];exact z1,by rw [q j h2];exact z2,d⟩
 have n0:ou 0=false:=by
  cases e:ou 0 with
  | false=>rfl
  | true =>
   obtain ⟨i,hi,d,o⟩:=(T.o 0).mp e;have hi:i<2:=hi;have:i=0\/i=1:=by omega
   rcases this with rfl|rfl
   ·rcases o with o|o
    ·omega
    ·exact (o d).elim
   ·have d:=((dg 1 0).mp d).2.2;rcases o with o|o
    ·omega
    ·exact (na ⟨b,lb,d,.inr fun z=>o ((dg 0 1).mpr ⟨by decide,by decide,z⟩)⟩).elim
 have n1:ou 1=false:=by
  cases e:ou 1 with
  | false=>rfl
  | true =>
   obtain ⟨i,hi,d,o⟩:=(T.o 1).mp e;have hi:i<2:=hi;have:i=0\/i=1:=by omega
   rcases this with rfl|rfl
   ·exact (nb ⟨a,la,((dg 0 1).mp d).2.2,.inl hab⟩).elim
   ·rcases o with o|o
    ·omega
    ·exact (o d).elim
 have er:Qm ([g,h]:List (Int×List (List Int))).length=[0,1]:=rfl;refine ⟨?_,J2 ?_⟩
 ·rw [T.f,er,Qbn (by rw [n0];rfl),Qbn (by rw [n1];rfl)];rfl
 ·rw [T.l,er,Jw (by rw [n0];decide),Jw (by rw [n1];decide)];rfl
end
def qle (ds:List Qh) (q:Qh->Prop):Prop := ∃ b R n Y a,ds=[qau b R,qmo Y]/\FbPre b R n Y a/\q (dSh (shT (qta R Y (plB R Y a n)) b) (shB (qta R Y (plB R Y a n)) b))
def qts:FnScope ["_law_glass","_law_payoffs_here"] ["_law_glass","_law_payoffs_here"] (defScope qfx):=sc0
def qtm (F:Def K mg "_law_gain" qfx ["_law_glass","_law_payoffs_here"]) (T:Txt K mg cs)
 (O_best:Ok P w K mg base "best" 5 ["glass","payoffs"] (PSp K zaab))
 : Ok P w K mg base "_law_gain" 6 ["_law_glass","_law_payoffs_here"] (PSp K qle):=by
  refine F.vok qts (by rintro ds q ⟨_,_,_,_,_,h,_⟩;rw [h];rfl) fun f cdv A outer s H E hr ds q h=>?_;obtain ⟨b,R,n,Y,a,rfl,hg,h⟩:=h;refine ⟨_,(qg (qx (qr (qw O_best.c hr.m (qc (qb 0) (qc (qb 1) qd))) qe))),?_⟩;exact ⟨b,R,n,Y,a,rfl,hg,_,rfl,h⟩
def zane {xs:List Qh} (h:xs≠[]):Vw (.list xs) (.list [])=false:=by
 cases xs with
 | nil=>exact (h rfl).elim
 | cons x l=>simp [Vw,Qh.eqvAll]
def gT (Y:List (List Int)) (a:Nat) (g:Int×List (List Int)):Int:=shT (qta g.2 Y (plB g.2 Y a (wd g))) g.1
def gB (Y:List (List Int)) (a:Nat) (g:Int×List (List Int)):Int:=shB (qta g.2 Y (plB g.2 Y a (wd g))) g.1
def zarj {n:Nat}{p:Nat->Bool}{i j a b:Nat} (h:i<j) (ha:((Qm n).filter p)[i]?=some a) (hb:((Qm n).filter p)[j]?=some b):a<b:=by
 have q:=(List.pairwise_lt_range (n:=n)).filter p;obtain ⟨h1,e1⟩:=Qk.mp ha;obtain ⟨h2,e2⟩:=Qk.mp hb;rw [<- e1,<- e2];exact List.pairwise_iff_getElem.mp q i j h1 h2 h
def qzw {fs:List Nat}{j:Nat}{d:Qh} (h:(fs.map fun (k:Nat)=>Qw k)[j]?=some d) : ∃ i,fs[j]?=some i/\d = .int i:=by
 rw [Qa] at h;cases e:fs[j]? with
 | none=>rw [e] at h;cases h
 | some i=>rw [e] at h;exact ⟨i,rfl,(Qx h).symm⟩
def zaan {L:List (Int×List (List Int))}{fs:List Nat}{j i:Nat} (e:fs[j]?=some i) (hi:i<L.length) : ∃ g,atI (L.map dG) (i:Int)=some (dG g)/\(fs.map fun i=>dG ((L[i]?).getD (0,[])))[j]?=some (dG g):=by
 have e2:L[i]?=some L[i]:=Qc hi;exact ⟨L[i],qP (by rw [Qa,e2];rfl),by rw [Qa,e];show some (dG ((L[i]?).getD (0,[])))=_;rw [e2];rfl⟩
def qgf:FnScope ["_law_script","_law_pen_here","_law_many","_law_shelf_here","_law_high","_law_rows","_law_payoffs_here","_law_gains","_law_one","_law_at","_law_left"] ["_law_script"] (defScope qnr):=sc0
def zanp {f:Addr}{fd:Vn} (F:Fun K "law" "law" qnr f fd) (T:Txt K mg cs)
 (O_tops:Ok P w K mg base "tops" 8 ["shelf"] (TopSp K zaap))
 (O__law_pen:Ok P w K mg base "_law_pen" 1 ["_law_script"] (FSp K qnk))
 (O__law_next:Ok P w K mg base "_law_next" 2 ["_law_pen_here","_law_many"] (NSp K qac))
 (O__law_payoffs:Ok P w K mg base "_law_payoffs" 3 ["_law_pen_here","_law_many","_law_acts"] (NSp K qho))
 (O__law_shelf:Ok P w K mg base "_law_shelf" 5 ["_law_pen_here","_law_many","_law_most"] (NSp K qkb))
 (O__law_refused:Ok P w K mg base "_law_refused" 6 ["_law_pen_here","_law_shelf_here","_law_many"] (NSp K qeh))
 (O__law_gain:Ok P w K mg base "_law_gain" 6 ["_law_glass","_law_payoffs_here"] (PSp K qle))
 : FnOk P w K mg base CX0 9 f fd ["_law_script"] (qxp K):=by
  refine F.vlaw qgf rfl fun cdv A outer s H E hr ns hlen=>?_;refine ⟨_,(qf (qfj (i:=1) qgf.nd (qlw O__law_pen.c hr.m (qc (qb 0) qd)))
   (qcz (qA (i:=2) qgf.nd (qt qcc qe (qV 1 O__law_next.c hr.m (qc qe qd))))
   (qf (qA (i:=3) qgf.nd (qV 1 O__law_shelf.c hr.m (qc (qb 2) (qc (qt qcc qe (qV 1 O__law_next.c hr.m (qc (qt qks qe (qb 2)) qd))) qd))))
   (qf (zapg (qw (zaih O_tops).c hr.m (qc (qy (qsl zaho T.list_ L2.boot_list (qc (qb 3) qd))) qd)) (qfc (n:=2) rfl (qJ (qo (i:=4) qgf.nd) (qJ (qo (i:=5) qgf.nd) qcy))))
   (qf (qA (i:=6) qgf.nd (qV 1 O__law_payoffs.c hr.m (qc (qb 2) (qc (qt qcc qe (qV 1 O__law_next.c hr.m (qc qe qd))) qd))))
   (qcz (qA (i:=7) qgf.nd (qy (qL (caps:=["_law_payoffs_here"]) (own:=["_law_glass"]) (ix:=[6]) rfl ⟨rfl,rfl,rfl,rfl,rfl,rfl⟩ (qR (qb 3)) (fun _ _ _ _=>(qo (i:=1) (show Q4 (["_law_payoffs_here","_law_glass"]:List Str) by decide))) (fun _ _ _ _=>(qw O__law_gain.c hr.m (qc (qb 1) (qc (qb 0) qd)))))))
   (qf (qbh rfl (qR (qb 7)) (qo (i:=8) qgf.nd) (qg (qar (qE (qmg hr.units) (qy (qmw (caps:=["_law_gains","_law_one"]) (own:=["_law_top"]) (ix:=[7,8]) rfl ⟨rfl,rfl,rfl,rfl,rfl,rfl⟩ (qR (qb 4)) (fun _ _ _ _=>(qo (i:=2) (show Q4 (["_law_gains","_law_one","_law_top"]:List Str) by decide))) (fun _ _ _ _=>(qE o_ge (qt qae (qr (qr (qb 0) (qb 2)) qe) (qr (qb 1) qe)) (qt qae (qr (qb 1) qe) (qr (qr (qb 0) (qb 2)) qe)))) (fun _ _ _ _=>(qb 2)))) (qy (qZ qd))) (qg (qx qoa)) qz)))
   (qcz (qar (qE (qpy hr.units) (qb 5) (qy (qZ qd))) (qcz (qA (i:=9) qgf.nd (qr (qr (qb 5) (qV 1 O__law_next.c hr.m (qc (qv qbd T.len_ L2.boot_len (qc (qb 5) qd)) qd))) qe))
   (qcz (qA (i:=10) qgf.nd (qy (qff (qy (qby (qb 3) qfk (qce (qb 9)))) (qy (qby (qb 3) (qce (qt qcc (qb 9) qe)) qfk)))))
   (qg (qar (qE (qpy hr.units) (qy (qL (caps:=["_law_left"]) (own:=["_law_number"]) (ix:=[10]) rfl ⟨rfl,rfl,rfl,rfl,rfl,rfl⟩ (qR (qr (qw (zaih O_tops).c hr.m (qc (qb 10) qd)) qe)) (fun _ _ _ _=>(qo (i:=1) (show Q4 (["_law_left","_law_number"]:List Str) by decide))) (fun _ _ _ _=>(qr (qb 0) (qb 1))))) (qy (qL (caps:=["_law_shelf_here"]) (own:=["_law_number"]) (ix:=[3]) rfl ⟨rfl,rfl,rfl,rfl,rfl,rfl⟩ (qR (qb 4)) (fun _ _ _ _=>(qo (i:=1) (show Q4 (["_law_shelf_here","_law_number"]:List Str) by decide))) (fun _ _ _ _=>(qr (qb 0) (qb 1)))))) (qg (qx qoa)) qz)))) qz)
   (qf (qar (VW.pt (zahi (qE qxk (qv qbd T.len_ L2.boot_len (qc (qb 4) qd)) qe) (zabl (qE (qpy hr.units) (qw (zaih O_tops).c hr.m (qc (qy (qZ (qc (qr (qb 3) (qr (qb 4) qe)) (qc (qr (qb 3) (qr (qb 4) qe)) qd)))) qd)) (qkf (qc (qy (qZ (qc qe (qc qe qd)))) (qc (qy (qZ qd)) qd))))))) (qg (qx qoa)) qz)
   (qg (qx (qV 1 O__law_refused.c hr.m (qc (qb 3) (qc (qb 2) qd)))))))))))))),?_⟩
  refine ⟨ns,rfl,hlen,fun p hp=>?_⟩;refine ⟨fun e => ∃ (W:Nat) (p:List Qh),(qax p/\2<=W/\W<=3)/\e=[.val (.list (ns.map .int)),.own p,.val (.int W),.non,.non,.non,.non,.non,.non,.non,.non],?_,?_⟩
  ·refine ⟨rfl,rfl,2,rfl,hp,⟨by decide,by decide⟩,fun x p1 x0 x1 hp1=>?_⟩;obtain ⟨W,eW⟩:=Zl (show 0<=2+x by omega);refine ⟨W,p1,⟨hp1,by omega,by omega⟩,?_⟩;rw [eW];rfl
  rintro e ⟨W,p1,⟨hp1,W2,W3⟩,rfl⟩;refine ⟨rfl,rfl,rfl,4-(W:Int),rfl,hp1,⟨by omega,qu (qaf (by omega) (by omega)) (by decide)⟩,fun y p2 y0 y1 hp2=>?_⟩;obtain ⟨m,em⟩:=Zl (show 0<=3+y by omega);refine ⟨rfl,W,m,by rw [<- em],hp2,⟨by omega,by omega,by omega,by omega,by omega⟩,fun L p3 hS L4 hp3=>?_⟩;refine ⟨L,W,rfl,hS,fun ou fs rs hT=>?_⟩;refine ⟨rfl,rfl,rfl,rfl,rfl,4,rfl,hp3,⟨by decide,by decide⟩,fun z p4 z0 z1 hp4=>?_⟩;obtain ⟨a,ea⟩:=Zl (show 0<=1+z by omega);refine ⟨rfl,W,a,by rw [<- ea],hp4,⟨by omega,by omega,by omega,by omega⟩,fun Y p5 hY hp5=>?_⟩;have n1:=hS.n1;have n2:=hS.n2;have lL:(((L.map dG).length:Nat):Int)=L.length:=by rw [Qe]
  have fl:fs.length<=5:=by
   have:=Jb (fun i => !ou i) (Qm L.length);rw [<- hT.f,Yc] at this;omega
  have fm : ∀ {t:Nat},t ∈ fs->t<L.length /\ ¬ qpx L t:=fun {t} ht=>by
   rw [hT.f] at ht;obtain ⟨h1,h2⟩:=Yi.mp ht;refine ⟨Zg.mp h1,fun z=>?_⟩;rw [(hT.o t).mpr z] at h2;cases h2
  have FP : ∀ g ∈ L,FbPre g.1 g.2 (wd g) Y a:=fun g hg=>by
   have G:=hS.g g hg;have gb:=G.b;have gl:=G.l;have gp:=G.h.t.pos;have m2:=G.m2;exact ⟨G.h.t,by rw [gl];exact hY,by omega,by omega,by omega,by omega,by omega,qu (qaf (by omega) (by omega)) (by decide)⟩
  have BT : ∀ g ∈ L,intBits (gT Y a g)<=1000/\intBits (gB Y a g)<=1000/\qta g.2 Y (plB g.2 Y a (wd g))=qei g.2 Y W (wd g) (a-1):=fun g hg=>by
   have G:=hS.g g hg;have gb:=G.b;have gl:=G.l;have gp:=G.h.t.pos;have t1:qta g.2 Y (plB g.2 Y a (wd g))=qei g.2 Y W (wd g) (a-1):=by
    have:=zafa (R:=g.2) (Y:=Y) (w:=W) (a:=a-1) (n:=wd g) gl hY.m;rw [show a-1+1=a by omega] at this;exact this
   have z1:=zabr (Y:=Y) (w:=W) (a:=a-1) G.h.t (by omega) hY.b (by omega) G.m2;exact ⟨qis (by rw [t1];exact qu z1 (by decide)),qxi (qu (qaf (by omega) (by omega)) (by decide)),t1⟩
  refine ⟨fun e=>e=[.val (.list (ns.map .int)),.own p5,.val (.int W),.val (.list (L.map dG)),.val (dNs fs),.val (.list rs),.val (qmo Y),.val (.list (L.map fun g=>dSh (gT Y a g) (gB Y a g))),.non,.non,.non],?_,?_⟩
  ·refine qS (L.map fun g=>dSh (gT Y a g) (gB Y a g)) (by simp) (qi (by rw [Qe];omega)) (fun e => ∃ t,e=[.val (qmo Y),t]) ⟨_,rfl⟩ ?_ ?_
   ·rintro j d ys e hd hys ⟨t,rfl⟩;obtain ⟨g,ej,rfl⟩:=trow_get' hd;refine ⟨g.1,g.2,wd g,Y,a,rfl,FP g (Qg ej),qq ?_ hys,_,rfl⟩;rw [Qa,ej];rfl
   ·rfl
  rintro e rfl;refine ⟨fun i e => ∃ t8,e=[.val (.list (ns.map .int)),.own p5,.val (.int W),.val (.list (L.map dG)),.val (dNs fs),.val (.list rs),.val (qmo Y),.val (.list (L.map fun g=>dSh (gT Y a g) (gB Y a g))),t8,.non,.non],⟨_,rfl⟩,?_,?_⟩
  ·rintro i d e hd ⟨t8,rfl⟩;rw [Qa] at hd;cases eh:L[i]? with
   | none=>rw [eh] at hd;cases hd
   | some h =>
   rw [eh] at hd;have hd:some (dSh (gT Y a h) (gB Y a h))=some d:=hd;injection hd with hd;subst hd;have hm:=Qg eh;have hi:i<L.length:=(Qk.mp eh).1;obtain ⟨bh1,bh2,bh3⟩:=BT h hm;obtain ⟨pf,epf⟩ : ∃ pf:Nat->Bool,∀ t g,L[t]?=some g->pf t=decide (gT Y a h*gB Y a g<=gT Y a g*gB Y a h):=⟨fun t=>decide (gT Y a h*gB Y a ((L[t]?).getD (0,[]))<=gT Y a ((L[t]?).getD (0,[]))*gB Y a h),fun t g e=>by
    show decide (gT Y a h*gB Y a ((L[t]?).getD (0,[]))<=gT Y a ((L[t]?).getD (0,[]))*gB Y a h)=_;rw [e];rfl⟩
   refine ⟨qi (by rw [Qe];omega),fun k ys e=>ys=((fs.take k).filter pf).map (fun (t:Nat) => .int t) /\ ∃ v,e=[.val (.list (L.map fun g=>dSh (gT Y a g) (gB Y a g))),.val (dSh (gT Y a h) (gB Y a h)),v],⟨by simp,_,rfl⟩,?_,?_⟩
   ·rintro k d ys e hd ⟨rfl,v,rfl⟩;rw [Qa] at hd;cases ek:fs[k]? with
    | none=>rw [ek] at hd;cases hd
    | some t =>
    rw [ek] at hd;have hd:some (Qw t)=some d:=hd;injection hd with hd;subst hd;have tl:=(fm (Qg ek)).1;have et:L[t]?=some L[t]:=Qc tl;obtain ⟨bg1,bg2,bg3⟩:=BT L[t] (Zi tl);have a1:atI (L.map fun g=>dSh (gT Y a g) (gB Y a g)) (t:Int)=some (dSh (gT Y a L[t]) (gB Y a L[t])):=qP (by rw [Qa,et];rfl);have ep:pf t=decide (gT Y a h*gB Y a L[t]<=gT Y a L[t]*gB Y a h):=epf t _ et;refine ⟨_,a1,_,rfl,_,rfl,qkv (qu bg1 (by decide)) (qu bh2 (by decide)),_,rfl,_,a1,_,rfl,qkv (qu bh1 (by decide)) (qu bg2 (by decide)),qip (fun z=>⟨?_,_,rfl⟩) (fun z=>⟨?_,_,rfl⟩)⟩
    ·rw [qcs ek,Q6,if_pos (by rw [ep];exact decide_eq_true z)];rfl
    ·rw [qcs ek,Q6,if_neg (by rw [ep,decide_eq_true_iff];exact z)];simp
   rintro ys e ⟨rfl,v,rfl⟩;rw [Qe,Z0];have sh:Shp 1 (.list ((fs.filter pf).map fun (t:Nat)=>Qw t)):=qgi fun x hx=>by
    obtain ⟨k,_,rfl⟩:=Qr.mp hx;exact qjp _ _
   have sh0:Shp 1 (.list []):=qgi (by simp);refine ⟨szl,sh.ok,sh0.ok,qrs (zane ?_) ⟨_,rfl⟩⟩;obtain ⟨t,tl,tn,td⟩:=hS.ex hi;obtain ⟨g,h',e1,e2,le⟩:=hS.gain (Y:=Y) (a:=a-1) td;rw [eh] at e2;injection e2 with e2;subst e2;have gm:=Qg e1;obtain ⟨bg1,bg2,bg3⟩:=BT g gm;have gp:=(hS.g g gm).h.t.pos;have hp':=(hS.g h hm).h.t.pos;have tf:t ∈ fs.filter pf:=by
    refine Yi.mpr ⟨?_,?_⟩
    ·rw [hT.f];refine Yi.mpr ⟨Zg.mpr tl,?_⟩;cases eo:ou t with
     | false=>rfl
     | true=>exact (tn ((hT.o t).mp eo)).elim
    ·rw [epf t g e1];refine decide_eq_true ?_;show gT Y a h*gB Y a g<=gT Y a g*gB Y a h;exact zaqn (show 0<h.1 by omega) (show 0<g.1 by omega) (by rw [bh3,bg3];exact le)
   intro z;rw [List.map_eq_nil_iff] at z;rw [z] at tf;cases tf
  rintro e ⟨t8,rfl⟩;have shR:Shp 5 (.list rs):=qgi fun d hd=>by
   obtain ⟨k,hk⟩:=Vp hd;have kl:k<((Qm L.length).filter ou).length:=by
    rw [<- hT.l];exact (Qk.mp hk).1
   obtain ⟨t,B,D,_,_,e⟩:=hT.r k _ d (Qc kl) hk;rw [e];refine qmp fun x hx=>?_;simp only [Q1,Yu,or_false] at hx;rcases hx with rfl|rfl|rfl
   ·exact qjp _ _
   ·exact qjp _ _
   ·exact qul _ _
  have sh0:Shp 1 (.list []):=qgi (by simp);have rl:rs.length<=5:=by
   have:=Jb ou (Qm L.length);rw [<- hT.l,Yc] at this;omega
  refine ⟨fun e => ∃ (p:List Qh) (t9 t10:Sl),qax p/\e=[.val (.list (ns.map .int)),.own p,.val (.int W),.val (.list (L.map dG)),.val (dNs fs),.val (.list rs),.val (qmo Y),.val (.list (L.map fun g=>dSh (gT Y a g) (gB Y a g))),t8,t9,t10],?_,?_⟩
  ·refine ⟨szl,shR.ok,sh0.ok,iteB (fun ne=>?_) (fun _=>⟨_,_,_,hp5,rfl⟩)⟩;have rne:rs≠[]:=fun z=>by
    have ne:(!PyData.eqv (.list rs) (.list []))=true:=ne;rw [z,sh0.refl] at ne;cases ne
   have r1:1<=rs.length:=by
    rcases Va rs.length with q|q
    ·exact (rne (J2 q)).elim
    ·exact q
   refine ⟨fun e => ∃ (p:List Qh) (k:Nat),(qax p/\k<L.length/\ou k=true)/\e=[.val (.list (ns.map .int)),.own p,.val (.int W),.val (.list (L.map dG)),.val (dNs fs),.val (.list rs),.val (qmo Y),.val (.list (L.map fun g=>dSh (gT Y a g) (gB Y a g))),t8,.val (.int k),.non],?_,?_⟩
   ·refine ⟨rfl,rfl,_,rfl,hp5,⟨by omega,qu (qaf (by omega) (by omega)) (by decide)⟩,fun u p6 u0 u1 hp6=>?_⟩;have eu:rs[u.toNat]?=some (rs[u.toNat]'(by omega)):=Qc _;have kl:u.toNat<((Qm L.length).filter ou).length:=by rw [<- hT.l];omega
    have ej:((Qm L.length).filter ou)[u.toNat]?=some (((Qm L.length).filter ou)[u.toNat]):=Qc kl;obtain ⟨jm,jo⟩:=Yi.mp (Qg ej);obtain ⟨t,B,D,_,_,ed⟩:=hT.r _ _ _ ej eu;have au:=qmf (l:=rs) u0 (by rw [eu,ed]);exact ⟨_,au,_,rfl,p6,_,⟨hp6,Zg.mp jm,jo⟩,rfl⟩
   rintro e ⟨p6,k,⟨hp6,kl,ko⟩,rfl⟩;have L2:2<=L.length:=by
    obtain ⟨j,hj,o⟩:=(hT.o k).mp ko;rcases Nat.lt_or_ge L.length 2 with q|q
    ·have e1:k=0:=by omega
     have e2:j=0:=by omega
     subst e1;subst e2;exact (hS.oirr hj o).elim
    ·exact q
   have hS':=zakn hS kl L2;have lO:=qjz kl;have gO:=qml kl;refine ⟨fun e=>e=[.val (.list (ns.map .int)),.own p6,.val (.int W),.val (.list (L.map dG)),.val (dNs fs),.val (.list rs),.val (qmo Y),.val (.list (L.map fun g=>dSh (gT Y a g) (gB Y a g))),t8,.val (.int k),.val (.list ((L.take k++L.drop (k+1)).map dG))],?_,?_⟩
   ·refine fun l1 q1 l2 q2=>?_;have q1:l1=(L.take k).map dG:=by
     have q1:l1=qlg (L.map dG) none (some (k:Int)):=q1;rw [q1,qrc _ (by omega),Jv];rfl
    have q2:l2=(L.drop (k+1)).map dG:=by
     have q2:l2=qlg (L.map dG) (some ((k:Int)+1)) none:=q2;rw [q2,qzr _ (by omega),Qcs];rfl
    subst q1;subst q2;refine ⟨Yg (qi (by rw [Qe,Qe,Z3,V5];omega)),?_⟩;show _=_;rw [Q6];rfl
   rintro e rfl;refine ⟨_,W,rfl,hS',fun ou' fs' rs' T'=>⟨_,rfl,?_⟩⟩;have fm' : ∀ {t:Nat},t ∈ fs'->t<(L.take k++L.drop (k+1)).length:=fun {t} ht=>by
    rw [T'.f] at ht;exact Zg.mp (Yi.mp ht).1
   have fl':fs'.length<=5:=by
    have:=Jb (fun i => !ou' i) (Qm (L.take k++L.drop (k+1)).length);rw [<- T'.f,Yc] at this;omega
   refine qS (fs'.map fun i=>dG (((L.take k++L.drop (k+1))[i]?).getD (0,[]))) (by simp) (qi (by rw [Qe];omega)) (fun e => ∃ t,e=[.val (.list ((L.take k++L.drop (k+1)).map dG)),t]) ⟨_,rfl⟩ ?_ ?_
   ·rintro j d ys e hd hys ⟨t,rfl⟩;obtain ⟨i,ei,rfl⟩:=qzw hd;obtain ⟨g,h1,h2⟩:=zaan ei (fm' (Qg ei));exact ⟨_,h1,qq h2 hys,_,rfl⟩
   refine qS (fs.map fun i=>dG ((L[i]?).getD (0,[]))) (by simp) (qi (by rw [Qe];omega)) (fun e => ∃ t,e=[.val (.list (L.map dG)),t]) ⟨_,rfl⟩ ?_ ?_
   ·rintro j d ys e hd hys ⟨t,rfl⟩;obtain ⟨i,ei,rfl⟩:=qzw hd;obtain ⟨g,h1,h2⟩:=zaan ei (fm (Qg ei)).1;exact ⟨_,h1,qq h2 hys,_,rfl⟩
   have key:(fs'.map fun i=>dG (((L.take k++L.drop (k+1))[i]?).getD (0,[])))=fs.map fun i=>dG ((L[i]?).getD (0,[])):=by
    have:=congrArg (Qkc dG) (zagv hS kl hT T' ko);rw [Vf,Vf] at this;exact this
   have sh:Shp 4 (.list (fs.map fun i=>dG ((L[i]?).getD (0,[])))):=qgi fun x hx=>by
    obtain ⟨g,_,rfl⟩:=Qr.mp hx;exact qul _ _
   exact ⟨by rw [key];exact sh.ok,sh.ok,iteN (by rw [key];exact sh.refl) ⟨_,_,_,hp6,rfl⟩⟩
  rintro e ⟨p6,t9,t10,hp6,rfl⟩;have lF:(((fs.map fun (k:Nat)=>Qw k).length:Nat):Int)=fs.length:=by rw [Qe]
  have REF : ∀ e,e=[.val (.list (ns.map .int)),.own p6,.val (.int W),.val (.list (L.map dG)),.val (dNs fs),.val (.list rs),.val (qmo Y),.val (.list (L.map fun g=>dSh (gT Y a g) (gB Y a g))),t8,t9,t10]->(wRet (zahs 1 qeh (zaim (wVar 3) (zaim (wVar 2) wNil)))) { nx:=fun x=>False,rt:=fun r x=>r.data=Qkk true } e:=fun e he=>by
   subst he;exact ⟨rfl,rfl,L,W,rfl,hp6,⟨hS,W3,L4⟩,fun p hp=>rfl⟩
  refine qip (fun z=>?_) (fun z=>qrs rfl (REF _ rfl));have z:(1:Int)<(((fs.map fun (k:Nat)=>Qw k).length:Nat):Int):=z;have f2:2<=fs.length:=by rw [lF] at z;omega
  have ea:fs[0]?=some (fs[0]'(by omega)):=Qc _;have eb:fs[1]?=some (fs[1]'(by omega)):=Qc _;generalize fs[0]'(by omega)=a0 at ea;generalize fs[1]'(by omega)=b0 at eb;obtain ⟨la,na⟩:=fm (Qg ea);obtain ⟨lb,nb⟩:=fm (Qg eb);have ga:L[a0]?=some L[a0]:=Qc la;have gb:L[b0]?=some L[b0]:=Qc lb;generalize L[a0]=g at ga;generalize L[b0]=h at gb;have lt:a0<b0:=by
   rw [hT.f] at ea eb;exact zarj (by decide) ea eb
  have i0:atI (fs.map fun (k:Nat)=>Qw k) 0=some (.int a0):=qmf (by decide) (by rw [Qa];show Qkq _ fs[0]?=_;rw [ea];rfl);have i1:atI (fs.map fun (k:Nat)=>Qw k) 1=some (.int b0):=qmf (by decide) (by rw [Qa];show Qkq _ fs[1]?=_;rw [eb];rfl);have j0:atI (L.map dG) (a0:Int)=some (dG g):=qP (by rw [Qa,ga];rfl);have j1:atI (L.map dG) (b0:Int)=some (dG h):=qP (by rw [Qa,gb];rfl);have S2:Shf [g,h] W:=⟨fun x hx=>by
   simp only [Q1,Yu,or_false] at hx;rcases hx with rfl|rfl
   ·exact hS.g _ (Qg ga)
   ·exact hS.g _ (Qg gb),hS.w1,hS.w2,by show 1<=2;decide,by show 2<=5;decide⟩
  refine ⟨_,i0,_,j0,_,i1,_,j1,szl,[g,h],W,rfl,S2,fun ou2 fs2 rs2 T2=>?_⟩;obtain ⟨q1,q2⟩:=zagg hS lt ga gb na nb T2;subst q1;subst q2;have sh:Shp 2 (.tuple [dNs [0,1],.list []]):=qmp fun x hx=>by
   simp only [Q1,Yu,or_false] at hx;rcases hx with rfl|rfl
   ·exact qgi fun x hx=>by
     obtain ⟨k,_,rfl⟩:=Qr.mp hx;exact qjp _ _
   ·exact sh0
  exact ⟨szl,szl,szl,sh.ok,sh.ok,iteN sh.refl (REF _ rfl)⟩
end
def qwg {α:Type}{n:Nat}{us:List α} (h:us.length=n+1) : ∃ a r,us=a::r/\r.length=n:=by
 cases us with
 | nil=>cases h
 | cons a r=>exact ⟨a,r,rfl,Qht h⟩
def us1 {α:Type}{us:List α} (h:us.length=1) : ∃ a0:α,us=[a0]:=by
 obtain ⟨a0,u0,rfl,h0⟩:=qwg h;cases u0 with
 | nil=>exact ⟨a0,rfl⟩
 | cons _ _=>cases h0
def us2 {α:Type}{us:List α} (h:us.length=2) : ∃ a0 a1:α,us=[a0,a1]:=by
 obtain ⟨a0,u0,rfl,h0⟩:=qwg h;obtain ⟨a1,u1,rfl,h1⟩:=qwg h0;cases u1 with
 | nil=>exact ⟨a0,a1,rfl⟩
 | cons _ _=>cases h1
def us3 {α:Type}{us:List α} (h:us.length=3) : ∃ a0 a1 a2:α,us=[a0,a1,a2]:=by
 obtain ⟨a0,u0,rfl,h0⟩:=qwg h;obtain ⟨a1,u1,rfl,h1⟩:=qwg h0;obtain ⟨a2,u2,rfl,h2⟩:=qwg h1;cases u2 with
 | nil=>exact ⟨a0,a1,a2,rfl⟩
 | cons _ _=>cases h2
def us4 {α:Type}{us:List α} (h:us.length=4) : ∃ a0 a1 a2 a3:α,us=[a0,a1,a2,a3]:=by
 obtain ⟨a0,u0,rfl,h0⟩:=qwg h;obtain ⟨a1,u1,rfl,h1⟩:=qwg h0;obtain ⟨a2,u2,rfl,h2⟩:=qwg h1;obtain ⟨a3,u3,rfl,h3⟩:=qwg h2;cases u3 with
 | nil=>exact ⟨a0,a1,a2,a3,rfl⟩
 | cons _ _=>cases h3
inductive LK (K:Qd) (x q:Str) (st:Stmt) (f:Addr):Prop
 | mk {oc kV dc pm cd ct:Value}{od an:Option Addr}{sl:Array (Option Value)} (l:K.lookup f=some ⟨oc,od,.func (Vv x q (defArgs st) (defBody st) (defScope st) .none kV dc pm an cd ct),sl⟩) (c:Qcd K cd q=true) (k:Y5 K (.ref f)=true):LK K x q st f
def LK.fn {K:Qd}{x q:Str}{st:Stmt}{f:Addr} (h:LK K x q st f):(∃ fd,Fun K x q st f fd)/\Y5 K (.ref f)=true:=by
 cases h with
 | mk l c k=>exact ⟨⟨_,zahy l c k⟩,k⟩
inductive DK (K:Qd) (x:Str) (st:Stmt):Prop
 | mk {f:Addr} (a:Zy K Zk x=some (some (.ref f))) (l:LK K x x st f):DK K x st
def DK.df {K:Qd}{x:Str}{st:Stmt}{ps:List Str}{h:Heap}{mg:Str->Option Value} (d:DK K x st) (X:K.In h) (G:h.Ns Zk mg)
 (hb : ∀ (kV doc pm:Value) (an:Option Addr) (cdv ct:Value) (us:List Value),us.length=ps.length->bindArgs (Vv x x (defArgs st) (defBody st) (defScope st) .none kV doc pm an cdv ct) ⟨us,[]⟩=pure (ps.zip us):=by (intro _ _ _ _ _ _ us hl;first|(obtain ⟨_,rfl⟩:=us1 hl;rfl)|(obtain ⟨_,_,rfl⟩:=us2 hl;rfl)|(obtain ⟨_,_,_,rfl⟩:=us3 hl;rfl)|(obtain ⟨_,_,_,_,rfl⟩:=us4 hl;rfl))):Def K mg x st ps:=by
  cases d with
  | mk a l =>
   obtain ⟨⟨_,F⟩,_⟩:=l.fn;exact ⟨_,_,F,Vt X G a,F.binds hb⟩
abbrev Nq0 (K:Qd) (x:Str) (y:Addr):Prop:=Zy K Zk x=some (some (.ref y))
def all_mk {l:Qff}{w:World}{K:Qd}{h:Heap}{mg:Str->Option Value}{fa:Addr} (X:K.In h) (G:h.Ns Zk mg) (hfa:mg "law" = some (.ref fa))
 (l0:DK K "stands" qly)
 (l1:DK K "check_alike_stands" qak)
 (l2:DK K "signs" qoz)
 (l3:DK K "check_few_signs" qbi)
 (l4:DK K "check_shelf" qdu)
 (l5:DK K "first_above" qdq)
 (l6:DK K "divisor" qjl)
 (l7:DK K "lowest" qlq)
 (l8:DK K "first_line" qet)
 {c_Board:Addr} (b_Board:Nq0 K "Board" c_Board)
 {f9:Addr} (a9:Za K (.ref c_Board) "__init__" = some (some (.ref f9))) (l9:LK K "__init__" "Board.__init__" qbr f9) (n9:Jp K (.ref f9)=true)
 {f10:Addr} (a10:Za K (.ref c_Board) "lack" = some (some (.ref f10))) (l10:LK K "lack" "Board.lack" qen f10) (n10:Jp K (.ref f10)=true)
 {f11:Addr} (a11:Za K (.ref c_Board) "is_tighter" = some (some (.ref f11))) (l11:LK K "is_tighter" "Board.is_tighter" qbb f11) (n11:Jp K (.ref f11)=true)
 {f12:Addr} (a12:Za K (.ref c_Board) "tightest" = some (some (.ref f12))) (l12:LK K "tightest" "Board.tightest" qbq f12) (n12:Jp K (.ref f12)=true)
 (l13:DK K "cleared" qjg)
 {f14:Addr} (a14:Za K (.ref c_Board) "bring_in" = some (some (.ref f14))) (l14:LK K "bring_in" "Board.bring_in" qbn f14) (n14:Jp K (.ref f14)=true)
 (l15:DK K "is_whole" qgw)
 (l16:DK K "reduced" qjj)
 (l17:DK K "share" qqd)
 {f18:Addr} (a18:Za K (.ref c_Board) "told" = some (some (.ref f18))) (l18:LK K "told" "Board.told" qer f18) (n18:Jp K (.ref f18)=true)
 (l19:DK K "solved" qlr)
 (l20:DK K "seen_as" qiz)
 (l21:DK K "shown_in_all" qdf)
 (l22:DK K "equations" qga)
 (l23:DK K "wanted_sums" qdv)
 (l24:DK K "is_share" qgv)
 (l25:DK K "check_shares" qdd)
 (l26:DK K "times" qpf)
 (l27:DK K "over_bottom" qdz)
 (l28:DK K "table_of_shares" qbk)
 (l29:DK K "in_rows" qjm)
 (l30:DK K "dulling_by" qep)
 (l31:DK K "compared" qhi)
 (l32:DK K "compared_with_all" qas)
 (l33:DK K "dulls_so" qgz)
 (l34:DK K "outdoes" qiy)
 (l35:DK K "is_outdone" qew)
 (l36:DK K "row_of" qln)
 (l37:DK K "tops" qvm)
 (l38:DK K "_law_pen" qhl)
 (l39:DK K "_law_mixed" qeo)
 (l40:DK K "_law_next" qfy)
 (l41:DK K "_law_payoffs" qdc)
 (l42:DK K "_law_divisor" qde)
 (l43:DK K "_law_reduced" qdg)
 (l44:DK K "_law_row" qhg)
 (l45:DK K "_law_split" qes)
 (l46:DK K "_law_table" qex)
 (l47:DK K "_law_dulled" qdm)
 (l48:DK K "_law_dulling" qdh)
 (l49:DK K "_law_shelf" qev)
 (l50:DK K "check_alike_stands" qX)
 (l51:DK K "check_few_signs" qal)
 (l52:DK K "check_shelf" qbp)
 (l53:DK K "tops" qjc)
 (l54:DK K "_law_word" qfz)
 (l55:DK K "_law_refused" qdb)
 (l56:DK K "check_payoffs" qcj)
 (l57:DK K "is_plan" qjk)
 (l58:DK K "column" qlv)
 (l59:DK K "paired" qmb)
 (l60:DK K "worth" qpg)
 (l61:DK K "gain" qvl)
 (l62:DK K "first_best_act" qbo)
 (l63:DK K "best" qvj)
 (l64:DK K "_law_gain" qfx)
 {f65:Addr}{od65 an65:Option Addr}{sl65:Array (Option Value)}{oc65 kV65 dc65 pm65 cd65 ct65:Value}
 (a65:Nq0 K "law" f65) (l65:K.lookup f65=some ⟨oc65,od65,.func (Vv "law" "law" (defArgs qnr) (defBody qnr) (defScope qnr) .none kV65 dc65 pm65 an65 cd65 ct65),sl65⟩) (c65:Qcd K cd65 "law" = true) (k65:Y5 K (.ref f65)=true)
 (z_ValueError:Zy K Zk "ValueError" = some none)
 (z_abs:Zy K Zk "abs" = some none)
 (z_all:Zy K Zk "all" = some none)
 (z_any:Zy K Zk "any" = some none)
 (z_bool:Zy K Zk "bool" = some none)
 (z_enumerate:Zy K Zk "enumerate" = some none)
 (z_int:Zy K Zk "int" = some none)
 (z_isinstance:Zy K Zk "isinstance" = some none)
 (z_len:Zy K Zk "len" = some none)
 (z_list:Zy K Zk "list" = some none)
 (z_max:Zy K Zk "max" = some none)
 (z_range:Zy K Zk "range" = some none)
 (z_sorted:Zy K Zk "sorted" = some none)
 (z_sum:Zy K Zk "sum" = some none)
 (z_tuple:Zy K Zk "tuple" = some none)
 (z_zip:Zy K Zk "zip" = some none)
 {t_MOST_COMPARED:Tok} (y_MOST_COMPARED:Zy K Zk "MOST_COMPARED" = some (some (.int 4 t_MOST_COMPARED)))
 {t_MOST_GLASSES:Tok} (y_MOST_GLASSES:Zy K Zk "MOST_GLASSES" = some (some (.int 5 t_MOST_GLASSES)))
 {t_MOST_ROWS:Tok} (y_MOST_ROWS:Zy K Zk "MOST_ROWS" = some (some (.int 24 t_MOST_ROWS)))
 {t_MOST_UNKNOWNS:Tok} (y_MOST_UNKNOWNS:Zy K Zk "MOST_UNKNOWNS" = some (some (.int 20 t_MOST_UNKNOWNS)))
 {c_GlassError:Addr} (b_GlassError:Nq0 K "GlassError" c_GlassError)
 {c_NoFit:Addr} (b_NoFit:Nq0 K "NoFit" c_NoFit)
 {c_TooMany:Addr} (b_TooMany:Nq0 K "TooMany" c_TooMany)
 (f_Board_c_pg:Qan K c_Board Str.empty=true)
 (f_Board_c_hd:Qbt K c_Board=true)
 (f_Board_c_po:Qdy K c_Board=true)
 (f_Board_c_sa:Za K (.ref c_Board) "__setattr__" = some (some (.builtin "object.__setattr__")))
 (f_Board_mk:Qcz K c_Board=true)
 (f_Board_kp:Y5 K (.ref c_Board)=true)
 (f_Board_n_bottom:Za K (.ref c_Board) "bottom" = some none)
 (f_Board_n_lines:Za K (.ref c_Board) "lines" = some none)
 (f_Board_n_stands_for:Za K (.ref c_Board) "stands_for" = some none)
 (f_Board_n_unknowns:Za K (.ref c_Board) "unknowns" = some none)
 (f_GlassError_e:Yv K c_GlassError qmm "ValueError.__new__" = true)
 (f_NoFit_e:Yv K c_NoFit qmm "ValueError.__new__" = true)
 (f_TooMany_e:Yv K c_TooMany qmm "ValueError.__new__" = true)
 (f_NoFit_x_ga:Za K (.ref c_NoFit) "__getattribute__" = some (some (.builtin "BaseException.__getattribute__")))
 (f_NoFit_x_na:Za K (.ref c_NoFit) "__getattr__" = some none)
 (f_NoFit_x_cl:Za K (.ref c_NoFit) "__class__" = some (some (.builtin "object.__class__")))
 (f_u_NoFit_GlassError:(qyd K c_NoFit).contains (.ref c_GlassError)=true)
 (f_k_NoFit_ValueError:Z2 K (.ref c_NoFit) (.type "ValueError")=some true)
 (f_k_NoFit_NoFit:Z2 K (.ref c_NoFit) (.ref c_NoFit)=some true)
 (f_k_NoFit_TooMany:Z2 K (.ref c_NoFit) (.ref c_TooMany)=some false)
 (f_TooMany_x_ga:Za K (.ref c_TooMany) "__getattribute__" = some (some (.builtin "BaseException.__getattribute__")))
 (f_TooMany_x_na:Za K (.ref c_TooMany) "__getattr__" = some none)
 (f_TooMany_x_cl:Za K (.ref c_TooMany) "__class__" = some (some (.builtin "object.__class__")))
 (f_u_TooMany_GlassError:(qyd K c_TooMany).contains (.ref c_GlassError)=true)
 (f_k_TooMany_ValueError:Z2 K (.ref c_TooMany) (.type "ValueError")=some true)
 (f_k_TooMany_NoFit:Z2 K (.ref c_TooMany) (.ref c_NoFit)=some false)
 (f_k_TooMany_TooMany:Z2 K (.ref c_TooMany) (.ref c_TooMany)=some true)
 : ∃ fd:Vn,(∀ (s:Ql) (v:Value),Qjh s fd ⟨[v],[]⟩ [("_law_script",v)]) /\ ∀ base:Heap,K.In base->base.Ns Zk mg->FnOk l.prog w K mg base CX0 9 fa fd ["_law_script"] (qxp K):=by
  have e:=hfa.symm.trans (Vt X G a65);cases e;have T:Txt K mg ⟨c_Board,c_GlassError,c_NoFit,c_TooMany⟩:=⟨Vt X G b_Board,Vt X G b_GlassError,Vt X G b_NoFit,Vt X G b_TooMany,⟨f_Board_c_pg,f_Board_c_hd,f_Board_c_po,f_Board_c_sa⟩,f_Board_mk,f_Board_kp,f_Board_n_bottom,f_Board_n_lines,f_Board_n_stands_for,f_Board_n_unknowns,f_GlassError_e,f_NoFit_e,f_TooMany_e,⟨f_NoFit_e,f_NoFit_x_ga,f_NoFit_x_na,f_NoFit_x_cl⟩,⟨f_NoFit_e,f_u_NoFit_GlassError⟩,f_k_NoFit_ValueError,f_k_NoFit_NoFit,f_k_NoFit_TooMany,⟨f_TooMany_e,f_TooMany_x_ga,f_TooMany_x_na,f_TooMany_x_cl⟩,⟨f_TooMany_e,f_u_TooMany_GlassError⟩,f_k_TooMany_ValueError,f_k_TooMany_NoFit,f_k_TooMany_TooMany,Zo X G z_ValueError,Zo X G z_abs,Zo X G z_all,Zo X G z_any,Zo X G z_bool,Zo X G z_enumerate,Zo X G z_int,Zo X G z_isinstance,Zo X G z_len,Zo X G z_list,Zo X G z_max,Zo X G z_range,Zo X G z_sorted,Zo X G z_sum,Zo X G z_tuple,Zo X G z_zip,⟨_,Vt X G y_MOST_COMPARED⟩,⟨_,Vt X G y_MOST_GLASSES⟩,⟨_,Vt X G y_MOST_ROWS⟩,⟨_,Vt X G y_MOST_UNKNOWNS⟩⟩
  have D0:Def K mg "stands" qly ["glass"]:=l0.df X G;have D1:Def K mg "check_alike_stands" qak ["one","other"]:=l1.df X G;have D2:Def K mg "signs" qoz ["glass"]:=l2.df X G;have D3:Def K mg "check_few_signs" qbi ["glass"]:=l3.df X G;have D4:Def K mg "check_shelf" qdu ["shelf"]:=l4.df X G;have D5:Def K mg "first_above" qdq ["numbers"]:=l5.df X G;have D6:Def K mg "divisor" qjl ["one","other"]:=l6.df X G;have D7:Def K mg "lowest" qlq ["weights"]:=l7.df X G;have D8:Def K mg "first_line" qet ["row","total","k","many"]:=l8.df X G;obtain ⟨⟨_,F9⟩,k9⟩:=l9.fn;have D9:MDef K c_Board "__init__" "Board.__init__" qbr ["self","unknowns","rows","sums"]:=⟨_,_,F9,⟨a9,n9,k9⟩,F9.binds (ps:=["self","unknowns","rows","sums"]) fun _ _ _ _ _ _ us hl=>by obtain ⟨_,_,_,_,rfl⟩:=us4 hl;rfl⟩
  obtain ⟨⟨_,F10⟩,k10⟩:=l10.fn;have D10:MDef K c_Board "lack" "Board.lack" qen ["self"]:=⟨_,_,F10,⟨a10,n10,k10⟩,F10.binds (ps:=["self"]) fun _ _ _ _ _ _ us hl=>by obtain ⟨_,rfl⟩:=us1 hl;rfl⟩
  obtain ⟨⟨_,F11⟩,k11⟩:=l11.fn;have D11:MDef K c_Board "is_tighter" "Board.is_tighter" qbb ["self","k","chosen","place"]:=⟨_,_,F11,⟨a11,n11,k11⟩,F11.binds (ps:=["self","k","chosen","place"]) fun _ _ _ _ _ _ us hl=>by obtain ⟨_,_,_,_,rfl⟩:=us4 hl;rfl⟩
  obtain ⟨⟨_,F12⟩,k12⟩:=l12.fn;have D12:MDef K c_Board "tightest" "Board.tightest" qbq ["self","place"]:=⟨_,_,F12,⟨a12,n12,k12⟩,F12.binds (ps:=["self","place"]) fun _ _ _ _ _ _ us hl=>by obtain ⟨_,_,rfl⟩:=us2 hl;rfl⟩
  have D13:Def K mg "cleared" qjg ["line","pivot","place","bottom"]:=l13.df X G;obtain ⟨⟨_,F14⟩,k14⟩:=l14.fn;have D14:MDef K c_Board "bring_in" "Board.bring_in" qbn ["self","place"]:=⟨_,_,F14,⟨a14,n14,k14⟩,F14.binds (ps:=["self","place"]) fun _ _ _ _ _ _ us hl=>by obtain ⟨_,_,rfl⟩:=us2 hl;rfl⟩
  have D15:Def K mg "is_whole" qgw ["thing"]:=l15.df X G;have D16:Def K mg "reduced" qjj ["top","bottom"]:=l16.df X G;have D17:Def K mg "share" qqd ["top","bottom"]:=l17.df X G;obtain ⟨⟨_,F18⟩,k18⟩:=l18.fn;have D18:MDef K c_Board "told" "Board.told" qer ["self"]:=⟨_,_,F18,⟨a18,n18,k18⟩,F18.binds (ps:=["self"]) fun _ _ _ _ _ _ us hl=>by obtain ⟨_,rfl⟩:=us1 hl;rfl⟩
  have D19:Def K mg "solved" qlr ["rows","sums"]:=l19.df X G;have D20:Def K mg "seen_as" qiz ["row","new","many"]:=l20.df X G;have D21:Def K mg "shown_in_all" qdf ["one","old","many"]:=l21.df X G;have D22:Def K mg "equations" qga ["one","other"]:=l22.df X G;have D23:Def K mg "wanted_sums" qdv ["one","other"]:=l23.df X G;have D24:Def K mg "is_share" qgv ["thing"]:=l24.df X G;have D25:Def K mg "check_shares" qdd ["one","other"]:=l25.df X G;have D26:Def K mg "times" qpf ["one","other"]:=l26.df X G;have D27:Def K mg "over_bottom" qdz ["row","bottom"]:=l27.df X G;have D28:Def K mg "table_of_shares" qbk ["rows"]:=l28.df X G;have D29:Def K mg "in_rows" qjm ["flat","wide","many"]:=l29.df X G;have D30:Def K mg "dulling_by" qep ["one","other","values"]:=l30.df X G;have D31:Def K mg "compared" qhi ["one","other"]:=l31.df X G;have D32:Def K mg "compared_with_all" qas ["glass","shelf"]:=l32.df X G;have D33:Def K mg "dulls_so" qgz ["one","other","answers"]:=l33.df X G;have D34:Def K mg "outdoes" qiy ["one","other","answers"]:=l34.df X G;have D35:Def K mg "is_outdone" qew ["number","answers"]:=l35.df X G;have D36:Def K mg "row_of" qln ["number","found","answers"]:=l36.df X G;have D37:Def K mg "tops" qvm ["shelf"]:=l37.df X G;have D38:Def K mg "_law_pen" qhl ["_law_script"]:=l38.df X G;have D39:Def K mg "_law_mixed" qeo ["_law_pen_here"]:=l39.df X G;have D40:Def K mg "_law_next" qfy ["_law_pen_here","_law_many"]:=l40.df X G;have D41:Def K mg "_law_payoffs" qdc ["_law_pen_here","_law_many","_law_acts"]:=l41.df X G;have D42:Def K mg "_law_divisor" qde ["_law_numbers"]:=l42.df X G;have D43:Def K mg "_law_reduced" qdg ["_law_bottom","_law_rows"]:=l43.df X G;have D44:Def K mg "_law_row" qhg ["_law_pen_here","_law_width","_law_bottom"]:=l44.df X G;have D45:Def K mg "_law_split" qes ["_law_pen_here","_law_rows"]:=l45.df X G;have D46:Def K mg "_law_table" qex ["_law_pen_here","_law_many","_law_most","_law_far"]:=l46.df X G;have D47:Def K mg "_law_dulled" qdm ["_law_glass","_law_dulling_here"]:=l47.df X G;have D48:Def K mg "_law_dulling" qdh ["_law_pen_here","_law_old","_law_most"]:=l48.df X G;have D49:Def K mg "_law_shelf" qev ["_law_pen_here","_law_many","_law_most"]:=l49.df X G;have D50:Def K mg "check_alike_stands" qX ["one","other"]:=l50.df X G;have D51:Def K mg "check_few_signs" qal ["glass"]:=l51.df X G;have D52:Def K mg "check_shelf" qbp ["shelf"]:=l52.df X G;have D53:Def K mg "tops" qjc ["shelf"]:=l53.df X G;have D54:Def K mg "_law_word" qfz ["_law_shelf_here"]:=l54.df X G;have D55:Def K mg "_law_refused" qdb ["_law_pen_here","_law_shelf_here","_law_many"]:=l55.df X G;have D56:Def K mg "check_payoffs" qcj ["glass","payoffs"]:=l56.df X G;have D57:Def K mg "is_plan" qjk ["plan","many","acts"]:=l57.df X G;have D58:Def K mg "column" qlv ["rows","place"]:=l58.df X G;have D59:Def K mg "paired" qmb ["one","other"]:=l59.df X G;have D60:Def K mg "worth" qpg ["glass","payoffs","sign","act"]:=l60.df X G;have D61:Def K mg "gain" qvl ["glass","payoffs","plan"]:=l61.df X G;have D62:Def K mg "first_best_act" qbo ["glass","payoffs","sign"]:=l62.df X G;have D63:Def K mg "best" qvj ["glass","payoffs"]:=l63.df X G;have D64:Def K mg "_law_gain" qfx ["_law_glass","_law_payoffs_here"]:=l64.df X G;have F65:=zahy (st:=qnr) l65 c65 k65;refine ⟨Vv "law" "law" (defArgs qnr) (defBody qnr) (defScope qnr) .none kV65 dc65 pm65 an65 cd65 ct65,fun s v => .of_eq rfl,fun base KB _=>?_⟩;have O0:=zacm (P:=l.prog) (w:=w) (base:=base) D0 T;have O1:=qhq D1 T O0;have O2:=zafc (P:=l.prog) (w:=w) (base:=base) D2 T;have O3:=qkj D3 T O2;have O4:=qop D4 T O1 O3;have O5:=qoo (P:=l.prog) (w:=w) (base:=base) D5 T;have O6:=qyj (P:=l.prog) (w:=w) (base:=base) D6 T;have O7:=zacs D7 T O6;have O8:=qrl (P:=l.prog) (w:=w) (base:=base) D8 T;have O9:=qlb D9 T O8;have O10:=qrw (P:=l.prog) (w:=w) (base:=base) D10 T;have O11:=qix (P:=l.prog) (w:=w) (base:=base) D11 T;have O12:=qla D12 T O11;have O13:=qyi (P:=l.prog) (w:=w) (base:=base) D13 T;have O14:=qkx D14 T O12 O13;have O15:=qvu (P:=l.prog) (w:=w) (base:=base) D15 T;have O16:=qxm D16 T O6;have O17:=zaek D17 T O15 O16;have O18:=qru D18 T O17;have O19:=zabq D19 T O5 O7 O9 O10 O14 O18;have O20:=qyp (P:=l.prog) (w:=w) (base:=base) D20 T;have O21:=qob D21 T O2;have O22:=qtq D22 T O2 O20 O21;have O23:=qos D23 T O2;have O24:=qvt D24 T O6 O15;have O25:=qof D25 T O24;have O26:=zaen D26 T O16 O25;have O27:=qor (P:=l.prog) (w:=w) (base:=base) D27 T;have O28:=qkl D28 T O6 O27;have O29:=qxz (P:=l.prog) (w:=w) (base:=base) D29 T;have O30:=qrb D30 T O2 O17 O26 O28 O29;have O31:=qvy D31 T O0 O1 O2 O3 O19 O22 O23 O29 O30;have O32:=qid D32 T O31;have O33:=qvz (P:=l.prog) (w:=w) (base:=base) D33 T;have O34:=qxl D34 T O33;have O35:=qri D35 T O34;have O36:=zaco D36 T O33;have O37:=zaiu D37 T O4 O32 O35 O36;have O38:=qvq (P:=l.prog) (w:=w) (base:=base) D38 T;have O39:=qrf (P:=l.prog) (w:=w) (base:=base) D39 T;have O40:=qtr D40 T O39;have O41:=qoe D41 T O40;have O42:=qnu (P:=l.prog) (w:=w) (base:=base) D42 T;have O43:=qnw D43 T O42;have O44:=qvv D44 T O40;have O45:=qrx D45 T O40;have O46:=qrh D46 T O40 O43 O44 O45;have O47:=qot D47 T O43;have O48:=qnx D48 T O40 O43 O44;have O49:=qrt D49 T O40 O46 O47 O48;have O50:=qfv D50 T O0;have O51:=qhs D51 T O2;have O52:=qkz D52 T O50 O51;have O53:=qym D53 T O52;have O54:=qtu D54 T O53;have O55:=qns D55 T O40 O43 O46 O54;have O56:=qmd D56 T O0;have O57:=qxr D57 T O15;have O58:=zacv (P:=l.prog) (w:=w) (base:=base) D58 T;have O59:=zabw (P:=l.prog) (w:=w) (base:=base) D59 T;have O60:=zaee D60 T O58 O59;have O61:=zaiz D61 T O2 O17 O56 O57 O60;have O62:=qkw D62 T O60;have O63:=zajz D63 T O2 O56 O61 O62;have O64:=qtm D64 T O63;exact zanp (P:=l.prog) (w:=w) (K:=K) (mg:=mg) (base:=base) F65 T O37 O38 O40 O41 O49 O55 O64
def walk {l:Qff}{q:Zr}{loose:List Str}{XP:(Str->Option Value)->Heap->Prop}{YP:World->Heap->Prop}{d:DefRec}{K:Qbs->Qd} (hn:l.most=some 63) (hdf:d.params.defaults=[])
 (hY : ∀ (w:World) (h:Heap),YP w h->(K w.params).In h)
 (F : ∀ (w:World) (mg:Str->Option Value) (fa:Addr) (h:Heap),(K w.params).In h->h.Ns Zk mg->mg d.name=some (.ref fa) ->
 ∃ fd:Vn,(∀ (s:Ql) (u:Value),Qjh s fd ⟨[u],[]⟩ [("_law_script",u)]) /\ ∀ base:Heap,(K w.params).In base->base.Ns Zk mg->FnOk l.prog w (K w.params) mg base CX0 9 fa fd ["_law_script"] (qxp (K w.params))) :
 Qjy q loose XP YP l.row.toRowW d [] (fun f vs=>Qjt f vs) :=
  L2.walk_of (n:=63) (k:=9) (x := "_law_script") (CX:=fun _=>CX0) (sp:=fun w=>qxp (K w.params)) hn (by decide) hdf ⟨rfl,by decide,by decide⟩ hY F (fun _ _ a ns hl _ hS=>⟨a,ns,rfl,hS,hl,fun _=>rfl⟩) fun _ _ _ _ _ z=>z
noncomputable section
open PySem PySem.W PySem.Calls PyProof.Rows
abbrev N0:=BT.node
abbrev nl0:=BT.nil
abbrev xs9:Value:=.str "law_dullglass_k49_whole_what_a_shelf_is_wort" 633
abbrev xl9 (o:Obj):=N0 o nl0 nl0
def en0 (P:Qbs) (x:Str) (t:Nat) (v:Value):DictEntry:=⟨Qh.keyHash P x,.str x t,v⟩
def tu0 (vs:List Value):Obj:=⟨.type "tuple",none,.seq vs.toArray 0,#[]⟩
def em0:Obj:=⟨.none,none,.fields #[],#[]⟩
def fo0 (n q:Str) (s:Stmt) (pm:Value) (c:Nat):Obj:=⟨.type "function",none,.func (Vv n q (L2.defArgs s) (L2.defBody s) (L2.defScope s) .none .none .none pm none (.ref c) .none),#[]⟩
def pr0 (n q:Str) (s:Stmt):Obj:=⟨.none,none,.func ⟨n,q,L2.defArgs s,.stmts (L2.defBody s),L2.defScope s,0,[],.none,.none,.none,.none,none,.none,.none,0⟩,#[]⟩
def co0 (n q:Str) (t:Nat) (l ac fl:Int) (a:Nat) (b:Bool) (x y z:Value) (u:Nat):Obj:=⟨.type "code",none,.fields #[.str n t,.str q (t+1),.str "/claim/cut.py" (t+2),.int l 0,.int ac 0,.int 0 0,.int 0 0,.int fl 0,.ref a,.bool b,.int 181 0,.ref (a+1),.none,x,y,z,.int u 0,.int l 0,.str "/claim/cut.py" (u+1)],#[]⟩
def co1 (n:Str) (t:Nat) (l ac fl:Int) (a:Nat) (b:Bool) (u:Nat):Obj:=co0 n n t l ac fl a b (.ref (a+2)) (.ref (a+3)) (.ref (a+4)) u
def fo1 (n:Str) (s:Nat) (pm:Value) (c:Nat):Obj:=fo0 n n (top s) pm c
lay_quick Qf
def env0:Env:={ scope:=Qf.main.scope,locals:=mainNs,globals:=mainNs,cells:=[],code:=(.ref 13),frame:=some 14 }
def cE0:Code :=.body (behindTheImports Qf) env0
def ls0:List Str:=[Qo "GlassError",Qo "NoShare",Qo "NoFit",Qo "TooMany",Qo "is_whole",Qo "divisor",Qo "share",Qo "reduced",Qo "is_share",Qo "check_shares",Qo "times",Qo "table_of_shares",Qo "over_bottom",Qo "stands",Qo "signs",Qo "column",Qo "paired",Qo "check_alike_stands",Qo "MOST_UNKNOWNS",Qo "MOST_ROWS",Qo "solved",Qo "first_above",Qo "lowest",Qo "Board",Qo "first_line",Qo "cleared",Qo "MOST_COMPARED",Qo "compared",Qo "check_few_signs",Qo "equations",Qo "seen_as",Qo "shown_in_all",Qo "wanted_sums",Qo "dulling_by",Qo "in_rows",Qo "MOST_GLASSES",Qo "tops",Qo "check_shelf",Qo "compared_with_all",Qo "is_outdone",Qo "outdoes",Qo "dulls_so",Qo "row_of",Qo "gain",Qo "best",Qo "check_payoffs",Qo "is_plan",Qo "worth",Qo "first_best_act",Qo "_law_pen",Qo "_law_mixed",Qo "_law_next",Qo "_law_divisor",Qo "_law_share",Qo "_law_reduced",Qo "_law_row",Qo "_law_split",Qo "_law_table",Qo "_law_payoffs",Qo "_law_dulled",Qo "_law_dulling",Qo "_law_shelf",Qo "_law_word",Qo "_law_refused",Qo "_law_gain"]
def lf0:Life:=⟨[],[],[],0,[],[],false,#[],[],0,false,false,false,0,[2000,10,10],false,0,true,[],[],0,false⟩
def o13a:Obj:=co0 "<module>" "<module>" 182 1 0 0 11 false .none .none .none 185
def o14a:Obj:=⟨(.type "frame"),none,.plain,#[(some (.ref 13)),(some (.ref 3)),(some (.ref 3)),none,(some (.str "__main__" 164)),none,(some (.ref 0))]⟩
def o3 (P:Qbs):Obj:=⟨(.type "dict"),none,(.dict #[en0 P "__name__" 165 xs9,en0 P "__doc__" 166 .none,en0 P "__package__" 167 .none,en0 P "__loader__" 168 (.builtin "__main__.__loader__#opaque"),en0 P "__spec__" 169 .none,en0 P "__annotations__" 170 (.ref 6),en0 P "__builtins__" 171 (.ref 4),en0 P "__file__" 173 (.str "/claim/cut.py" 172),en0 P "__cached__" 174 .none,en0 P "GlassError" 206 (.ref 24),en0 P "NoShare" 222 (.ref 37),en0 P "NoFit" 238 (.ref 49),en0 P "TooMany" 254 (.ref 61),en0 P "is_whole" 263 (.ref 70),en0 P "divisor" 272 (.ref 77),en0 P "share" 280 (.ref 84),en0 P "reduced" 289 (.ref 91),en0 P "is_share" 296 (.ref 98),en0 P "check_shares" 304 (.ref 105),en0 P "times" 312 (.ref 112),en0 P "table_of_shares" 320 (.ref 117),en0 P "over_bottom" 326 (.ref 122),en0 P "stands" 333 (.ref 129),en0 P "signs" 340 (.ref 136),en0 P "column" 346 (.ref 141),en0 P "paired" 352 (.ref 146),en0 P "check_alike_stands" 362 (.ref 153),en0 P "MOST_UNKNOWNS" 366 (.int (20) 365),en0 P "MOST_ROWS" 368 (.int (24) 367),en0 P "solved" 380 (.ref 160),en0 P "first_above" 389 (.ref 167),en0 P "lowest" 395 (.ref 172),en0 P "Board" 466 (.ref 216),en0 P "first_line" 472 (.ref 225),en0 P "cleared" 478 (.ref 230),en0 P "MOST_COMPARED" 482 (.int (4) 481),en0 P "compared" 491 (.ref 237),en0 P "check_few_signs" 498 (.ref 244),en0 P "equations" 504 (.ref 249),en0 P "seen_as" 510 (.ref 254),en0 P "shown_in_all" 516 (.ref 259),en0 P "wanted_sums" 522 (.ref 264),en0 P "dulling_by" 528 (.ref 269),en0 P "in_rows" 534 (.ref 274),en0 P "MOST_GLASSES" 538 (.int (5) 537),en0 P "tops" 544 (.ref 279),en0 P "check_shelf" 552 (.ref 286),en0 P "compared_with_all" 558 (.ref 291),en0 P "is_outdone" 564 (.ref 296),en0 P "outdoes" 573 (.ref 303),en0 P "dulls_so" 582 (.ref 310),en0 P "row_of" 588 (.ref 315),en0 P "gain" 596 (.ref 320),en0 P "best" 602 (.ref 325),en0 P "check_payoffs" 610 (.ref 332),en0 P "is_plan" 616 (.ref 337),en0 P "worth" 626 (.ref 344),en0 P "first_best_act" 632 (.ref 349),en0 P "_law_pen" 642 (.ref 356),en0 P "_law_mixed" 651 (.ref 363),en0 P "_law_next" 660 (.ref 370),en0 P "_law_divisor" 670 (.ref 377),en0 P "_law_share" 679 (.ref 384),en0 P "_law_reduced" 685 (.ref 389),en0 P "_law_row" 691 (.ref 394),en0 P "_law_split" 697 (.ref 399),en0 P "_law_table" 703 (.ref 404),en0 P "_law_payoffs" 709 (.ref 409),en0 P "_law_dulled" 715 (.ref 414),en0 P "_law_dulling" 721 (.ref 419),en0 P "_law_shelf" 733 (.ref 426),en0 P "_law_word" 742 (.ref 433),en0 P "_law_refused" 748 (.ref 438),en0 P "_law_gain" 756 (.ref 445),en0 P "law" 762 (.ref 450)] 75),#[]⟩
def o12:Obj:=⟨.none,none,(.fields #[(.int (2) 0),(.int (0) 0),(.ref 20),(.int (4) 0),(.int (0) 0),(.ref 33),(.int (6) 0),(.int (0) 0),(.ref 45),(.int (8) 0),(.int (0) 0),(.ref 57),(.int (11) 0),(.int (0) 0),(.ref 69),(.int (13) 0),(.int (0) 0),(.ref 76),(.int (21) 0),(.int (0) 0),(.ref 83),(.int (25) 0),(.int (0) 0),(.ref 90),(.int (30) 0),(.int (0) 0),(.ref 97),(.int (36) 0),(.int (0) 0),(.ref 104),(.int (39) 0),(.int (0) 0),(.ref 111),(.int (43) 0),(.int (0) 0),(.ref 116),(.int (49) 0),(.int (0) 0),(.ref 121),(.int (51) 0),(.int (0) 0),(.ref 128),(.int (53) 0),(.int (0) 0),(.ref 135),(.int (55) 0),(.int (0) 0),(.ref 140),(.int (57) 0),(.int (0) 0),(.ref 145),(.int (60) 0),(.int (0) 0),(.ref 152),(.int (66) 0),(.int (0) 0),(.ref 159),(.int (79) 0),(.int (0) 0),(.ref 166),(.int (84) 0),(.int (0) 0),(.ref 171),(.int (89) 0),(.int (0) 0),(.ref 178),(.int (130) 0),(.int (0) 0),(.ref 224),(.int (134) 0),(.int (0) 0),(.ref 229),(.int (138) 0),(.int (0) 0),(.ref 236),(.int (146) 0),(.int (0) 0),(.ref 243),(.int (149) 0),(.int (0) 0),(.ref 248),(.int (156) 0),(.int (0) 0),(.ref 253),(.int (158) 0),(.int (0) 0),(.ref 258),(.int (160) 0),(.int (0) 0),(.ref 263),(.int (165) 0),(.int (0) 0),(.ref 268),(.int (169) 0),(.int (0) 0),(.ref 273),(.int (173) 0),(.int (0) 0),(.ref 278),(.int (179) 0),(.int (0) 0),(.ref 285),(.int (186) 0),(.int (0) 0),(.ref 290),(.int (188) 0),(.int (0) 0),(.ref 295),(.int (190) 0),(.int (0) 0),(.ref 302),(.int (192) 0),(.int (0) 0),(.ref 309),(.int (194) 0),(.int (0) 0),(.ref 314),(.int (198) 0),(.int (0) 0),(.ref 319),(.int (204) 0),(.int (0) 0),(.ref 324),(.int (208) 0),(.int (0) 0),(.ref 331),(.int (211) 0),(.int (0) 0),(.ref 336),(.int (215) 0),(.int (0) 0),(.ref 343),(.int (217) 0),(.int (0) 0),(.ref 348),(.int (221) 0),(.int (0) 0),(.ref 355),(.int (226) 0),(.int (0) 0),(.ref 362),(.int (232) 0),(.int (0) 0),(.ref 369),(.int (245) 0),(.int (0) 0),(.ref 376),(.int (252) 0),(.int (0) 0),(.ref 383),(.int (255) 0),(.int (0) 0),(.ref 388),(.int (261) 0),(.int (0) 0),(.ref 393),(.int (264) 0),(.int (0) 0),(.ref 398),(.int (276) 0),(.int (0) 0),(.ref 403),(.int (284) 0),(.int (0) 0),(.ref 408),(.int (293) 0),(.int (0) 0),(.ref 413),(.int (301) 0),(.int (0) 0),(.ref 418),(.int (304) 0),(.int (0) 0),(.ref 425),(.int (313) 0),(.int (0) 0),(.ref 432),(.int (322) 0),(.int (0) 0),(.ref 437),(.int (333) 0),(.int (0) 0),(.ref 444),(.int (335) 0),(.int (0) 0),(.ref 449)]),#[]⟩
def o16:Obj:=⟨(.type "builtin_function_or_method"),none,(.fields #[(.builtin "type.__prepare__"),(.type "type")]),#[]⟩
def o17 (P:Qbs):Obj:=⟨(.type "dict"),none,(.dict #[en0 P "__module__" 196 (.str "dullglass.errors" 187),en0 P "__qualname__" 198 (.str "GlassError" 197),en0 P "__firstlineno__" 200 (.int (2) 199),en0 P "__static_attributes__" 201 (.ref 22)] 4),#[]⟩
def o20:Obj:=co0 "GlassError" "GlassError" 191 2 0 0 18 false .none .none .none 194
def o21:Obj:=⟨(.type "frame"),none,.plain,#[(some (.ref 20)),(some (.ref 3)),(some (.ref 17)),none,(some (.str "dullglass.errors" 187)),none,(some (.ref 0))]⟩
def o23 (P:Qbs):Obj:=⟨(.type "dict"),none,(.dict #[en0 P "__module__" 196 (.str "dullglass.errors" 187),en0 P "__firstlineno__" 200 (.int (2) 199),en0 P "__static_attributes__" 201 (.ref 22),en0 P "__weakref__" 203 (.ref 25),en0 P "__doc__" 204 .none] 3),#[]⟩
def o24:Obj:=⟨(.type "type"),none,(.cls ⟨"GlassError",[(.type "ValueError")],[(.ref 24),(.type "ValueError"),(.type "Exception"),(.type "BaseException"),(.type "object")],23,"GlassError",true,[],[(.ref 37),(.ref 49),(.ref 61)],false,none,false⟩),#[(some (.ref 15)),none,(some (.str "GlassError" 189)),(some (.str "GlassError" 197)),(some (.builtin "ValueError.__new__")),(some (.bool true))]⟩
def o25:Obj:=⟨(.type "getset_descriptor"),none,(.fields #[(.str "__weakref__" 202),(.ref 24),(.builtin "ExceptionGroup.__weakref__"),.none]),#[]⟩
def o26:Obj:=⟨(.type "super"),none,(.fields #[(.ref 24),(.ref 24),(.ref 24)]),#[]⟩
def o27:Obj:=⟨(.type "builtin_function_or_method"),none,(.fields #[(.builtin "object.__init_subclass__"),(.ref 24)]),#[]⟩
def o29:Obj:=⟨(.type "builtin_function_or_method"),none,(.fields #[(.builtin "type.__prepare__"),(.type "type")]),#[]⟩
def o30 (P:Qbs):Obj:=⟨(.type "dict"),none,(.dict #[en0 P "__module__" 214 (.str "dullglass.errors" 187),en0 P "__qualname__" 216 (.str "NoShare" 215),en0 P "__firstlineno__" 218 (.int (4) 217),en0 P "__static_attributes__" 219 (.ref 35)] 4),#[]⟩
def o33:Obj:=co0 "NoShare" "NoShare" 209 4 0 0 31 false .none .none .none 212
def o34:Obj:=⟨(.type "frame"),none,.plain,#[(some (.ref 33)),(some (.ref 3)),(some (.ref 30)),none,(some (.str "dullglass.errors" 187)),none,(some (.ref 0))]⟩
def o36 (P:Qbs):Obj:=⟨(.type "dict"),none,(.dict #[en0 P "__module__" 214 (.str "dullglass.errors" 187),en0 P "__firstlineno__" 218 (.int (4) 217),en0 P "__static_attributes__" 219 (.ref 35),en0 P "__doc__" 220 .none] 2),#[]⟩
def o37:Obj:=⟨(.type "type"),none,(.cls ⟨"NoShare",[(.ref 24)],[(.ref 37),(.ref 24),(.type "ValueError"),(.type "Exception"),(.type "BaseException"),(.type "object")],36,"NoShare",true,[],[],false,none,false⟩),#[(some (.ref 28)),none,(some (.str "NoShare" 207)),(some (.str "NoShare" 215)),(some (.builtin "ValueError.__new__")),(some (.bool true))]⟩
def o38:Obj:=⟨(.type "super"),none,(.fields #[(.ref 37),(.ref 37),(.ref 37)]),#[]⟩
def o39:Obj:=⟨(.type "builtin_function_or_method"),none,(.fields #[(.builtin "object.__init_subclass__"),(.ref 37)]),#[]⟩
def o41:Obj:=⟨(.type "builtin_function_or_method"),none,(.fields #[(.builtin "type.__prepare__"),(.type "type")]),#[]⟩
def o42 (P:Qbs):Obj:=⟨(.type "dict"),none,(.dict #[en0 P "__module__" 230 (.str "dullglass.errors" 187),en0 P "__qualname__" 232 (.str "NoFit" 231),en0 P "__firstlineno__" 234 (.int (6) 233),en0 P "__static_attributes__" 235 (.ref 47)] 4),#[]⟩
def o45:Obj:=co0 "NoFit" "NoFit" 225 6 0 0 43 false .none .none .none 228
def o46:Obj:=⟨(.type "frame"),none,.plain,#[(some (.ref 45)),(some (.ref 3)),(some (.ref 42)),none,(some (.str "dullglass.errors" 187)),none,(some (.ref 0))]⟩
def o48 (P:Qbs):Obj:=⟨(.type "dict"),none,(.dict #[en0 P "__module__" 230 (.str "dullglass.errors" 187),en0 P "__firstlineno__" 234 (.int (6) 233),en0 P "__static_attributes__" 235 (.ref 47),en0 P "__doc__" 236 .none] 2),#[]⟩
def o49:Obj:=⟨(.type "type"),none,(.cls ⟨"NoFit",[(.ref 24)],[(.ref 49),(.ref 24),(.type "ValueError"),(.type "Exception"),(.type "BaseException"),(.type "object")],48,"NoFit",true,[],[],false,none,false⟩),#[(some (.ref 40)),none,(some (.str "NoFit" 223)),(some (.str "NoFit" 231)),(some (.builtin "ValueError.__new__")),(some (.bool true))]⟩
def o50:Obj:=⟨(.type "super"),none,(.fields #[(.ref 49),(.ref 49),(.ref 49)]),#[]⟩
def o51:Obj:=⟨(.type "builtin_function_or_method"),none,(.fields #[(.builtin "object.__init_subclass__"),(.ref 49)]),#[]⟩
def o53:Obj:=⟨(.type "builtin_function_or_method"),none,(.fields #[(.builtin "type.__prepare__"),(.type "type")]),#[]⟩
def o54 (P:Qbs):Obj:=⟨(.type "dict"),none,(.dict #[en0 P "__module__" 246 (.str "dullglass.errors" 187),en0 P "__qualname__" 248 (.str "TooMany" 247),en0 P "__firstlineno__" 250 (.int (8) 249),en0 P "__static_attributes__" 251 (.ref 59)] 4),#[]⟩
def o57:Obj:=co0 "TooMany" "TooMany" 241 8 0 0 55 false .none .none .none 244
def o58:Obj:=⟨(.type "frame"),none,.plain,#[(some (.ref 57)),(some (.ref 3)),(some (.ref 54)),none,(some (.str "dullglass.errors" 187)),none,(some (.ref 0))]⟩
def o60 (P:Qbs):Obj:=⟨(.type "dict"),none,(.dict #[en0 P "__module__" 246 (.str "dullglass.errors" 187),en0 P "__firstlineno__" 250 (.int (8) 249),en0 P "__static_attributes__" 251 (.ref 59),en0 P "__doc__" 252 .none] 2),#[]⟩
def o61:Obj:=⟨(.type "type"),none,(.cls ⟨"TooMany",[(.ref 24)],[(.ref 61),(.ref 24),(.type "ValueError"),(.type "Exception"),(.type "BaseException"),(.type "object")],60,"TooMany",true,[],[],false,none,false⟩),#[(some (.ref 52)),none,(some (.str "TooMany" 239)),(some (.str "TooMany" 247)),(some (.builtin "ValueError.__new__")),(some (.bool true))]⟩
def o62:Obj:=⟨(.type "super"),none,(.fields #[(.ref 61),(.ref 61),(.ref 61)]),#[]⟩
def o63:Obj:=⟨(.type "builtin_function_or_method"),none,(.fields #[(.builtin "object.__init_subclass__"),(.ref 61)]),#[]⟩
def o69:Obj:=co1 "is_whole" 257 11 1 3 64 true 261
def o70:Obj:=fo1 "is_whole" 6 (.str "dullglass.shares" 255) 69
def o76:Obj:=co1 "divisor" 264 13 2 3 71 true 270
def o77:Obj:=fo1 "divisor" 7 (.str "dullglass.shares" 255) 76
def o83:Obj:=co1 "share" 273 21 2 3 78 true 278
def o84:Obj:=fo1 "share" 8 (.str "dullglass.shares" 255) 83
def o90:Obj:=co1 "reduced" 281 25 2 3 85 true 287
def o91:Obj:=fo1 "reduced" 9 (.str "dullglass.shares" 255) 90
def o97:Obj:=co1 "is_share" 290 30 1 3 92 true 294
def o98:Obj:=fo1 "is_share" 10 (.str "dullglass.shares" 255) 97
def o104:Obj:=co1 "check_shares" 297 36 2 3 99 true 302
def o105:Obj:=fo1 "check_shares" 11 (.str "dullglass.shares" 255) 104
def o111:Obj:=co1 "times" 305 39 2 3 106 true 310
def o112:Obj:=fo1 "times" 12 (.str "dullglass.shares" 255) 111
def o116:Obj:=co0 "table_of_shares" "table_of_shares" 315 43 1 3 113 true .none .none (.ref 115) 318
def o117:Obj:=fo1 "table_of_shares" 14 (.str "dullglass.glasses" 313) 116
def o121:Obj:=co0 "over_bottom" "over_bottom" 321 49 2 3 118 true .none .none (.ref 120) 324
def o122:Obj:=fo1 "over_bottom" 15 (.str "dullglass.glasses" 313) 121
def o128:Obj:=co1 "stands" 327 51 1 3 123 true 331
def o129:Obj:=fo1 "stands" 16 (.str "dullglass.glasses" 313) 128
def o135:Obj:=co1 "signs" 334 53 1 3 130 true 338
def o136:Obj:=fo1 "signs" 17 (.str "dullglass.glasses" 313) 135
def o140:Obj:=co0 "column" "column" 341 55 2 3 137 true .none .none (.ref 139) 344
def o141:Obj:=fo1 "column" 18 (.str "dullglass.glasses" 313) 140
def o145:Obj:=co0 "paired" "paired" 347 57 2 3 142 true .none .none (.ref 144) 350
def o146:Obj:=fo1 "paired" 19 (.str "dullglass.glasses" 313) 145
def o152:Obj:=co1 "check_alike_stands" 355 60 2 3 147 true 360
def o153:Obj:=fo1 "check_alike_stands" 21 (.str "dullglass.dulls" 353) 152
def o159:Obj:=co1 "solved" 369 66 2 3 154 true 378
def o160:Obj:=fo1 "solved" 25 (.str "dullglass.solver" 363) 159
def o166:Obj:=co1 "first_above" 381 79 1 3 161 true 387
def o167:Obj:=fo1 "first_above" 26 (.str "dullglass.solver" 363) 166
def o171:Obj:=co0 "lowest" "lowest" 390 84 1 3 168 true .none .none (.ref 170) 393
def o172:Obj:=fo1 "lowest" 27 (.str "dullglass.solver" 363) 171
def o174:Obj:=⟨(.type "builtin_function_or_method"),none,(.fields #[(.builtin "type.__prepare__"),(.type "type")]),#[]⟩
def o175 (P:Qbs):Obj:=⟨(.type "dict"),none,(.dict #[en0 P "__module__" 403 (.str "dullglass.solver" 363),en0 P "__qualname__" 405 (.str "Board" 404),en0 P "__firstlineno__" 407 (.int (89) 406),en0 P "__init__" 413 (.ref 184),en0 P "lack" 419 (.ref 189),en0 P "bring_in" 425 (.ref 194),en0 P "tightest" 436 (.ref 201),en0 P "is_tighter" 448 (.ref 208),en0 P "told" 454 (.ref 213),en0 P "__static_attributes__" 459 (.ref 214)] 10),#[]⟩
def o177:Obj:=⟨.none,none,(.fields #[(.int (91) 0),(.int (4) 0),(.ref 183),(.int (97) 0),(.int (4) 0),(.ref 188),(.int (104) 0),(.int (4) 0),(.ref 193),(.int (112) 0),(.int (4) 0),(.ref 200),(.int (119) 0),(.int (4) 0),(.ref 207),(.int (124) 0),(.int (4) 0),(.ref 212)]),#[]⟩
def o178:Obj:=co0 "Board" "Board" 398 89 0 0 176 false .none .none .none 401
def o179:Obj:=⟨(.type "frame"),none,.plain,#[(some (.ref 178)),(some (.ref 3)),(some (.ref 175)),none,(some (.str "dullglass.solver" 363)),none,(some (.ref 0))]⟩
def o183:Obj:=co0 "__init__" "Board.__init__" 408 91 4 3 180 true .none .none (.ref 182) 411
def o184:Obj:=fo0 "__init__" "Board.__init__" (qbt (top 28) 0) (.str "dullglass.solver" 363) 183
def o188:Obj:=co0 "lack" "Board.lack" 414 97 1 3 185 true .none .none (.ref 187) 417
def o189:Obj:=fo0 "lack" "Board.lack" (qbt (top 28) 1) (.str "dullglass.solver" 363) 188
def o193:Obj:=co0 "bring_in" "Board.bring_in" 420 104 2 3 190 true .none .none (.ref 192) 423
def o194:Obj:=fo0 "bring_in" "Board.bring_in" (qbt (top 28) 2) (.str "dullglass.solver" 363) 193
def o200:Obj:=co0 "tightest" "Board.tightest" 426 112 2 3 195 true (.ref 197) (.ref 198) (.ref 199) 434
def o201:Obj:=fo0 "tightest" "Board.tightest" (qbt (top 28) 3) (.str "dullglass.solver" 363) 200
def o207:Obj:=co0 "is_tighter" "Board.is_tighter" 437 119 4 3 202 true (.ref 204) (.ref 205) (.ref 206) 446
def o208:Obj:=fo0 "is_tighter" "Board.is_tighter" (qbt (top 28) 4) (.str "dullglass.solver" 363) 207
def o212:Obj:=co0 "told" "Board.told" 449 124 1 3 209 true .none .none (.ref 211) 452
def o213:Obj:=fo0 "told" "Board.told" (qbt (top 28) 5) (.str "dullglass.solver" 363) 212
def o215 (P:Qbs):Obj:=⟨(.type "dict"),none,(.dict #[en0 P "__module__" 403 (.str "dullglass.solver" 363),en0 P "__firstlineno__" 407 (.int (89) 406),en0 P "__init__" 413 (.ref 184),en0 P "lack" 419 (.ref 189),en0 P "bring_in" 425 (.ref 194),en0 P "tightest" 436 (.ref 201),en0 P "is_tighter" 448 (.ref 208),en0 P "told" 454 (.ref 213),en0 P "__static_attributes__" 459 (.ref 214),en0 P "__dict__" 461 (.ref 217),en0 P "__weakref__" 463 (.ref 218),en0 P "__doc__" 464 .none] 4),#[]⟩
def o216:Obj:=⟨(.type "type"),none,(.cls ⟨"Board",[(.type "object")],[(.ref 216),(.type "object")],215,"Board",true,[],[],false,none,false⟩),#[none,none,(some (.str "Board" 396)),(some (.str "Board" 404)),(some (.builtin "object.__new__")),(some (.bool true))]⟩
def o217:Obj:=⟨(.type "getset_descriptor"),none,(.fields #[(.str "__dict__" 460),(.ref 216),(.builtin "function.__dict__"),(.builtin "function.__dict__#set")]),#[]⟩
def o218:Obj:=⟨(.type "getset_descriptor"),none,(.fields #[(.str "__weakref__" 462),(.ref 216),(.builtin "ExceptionGroup.__weakref__"),.none]),#[]⟩
def o219:Obj:=⟨(.type "super"),none,(.fields #[(.ref 216),(.ref 216),(.ref 216)]),#[]⟩
def o220:Obj:=⟨(.type "builtin_function_or_method"),none,(.fields #[(.builtin "object.__init_subclass__"),(.ref 216)]),#[]⟩
def o224:Obj:=co0 "first_line" "first_line" 467 130 4 3 221 true .none .none (.ref 223) 470
def o225:Obj:=fo1 "first_line" 29 (.str "dullglass.solver" 363) 224
def o229:Obj:=co0 "cleared" "cleared" 473 134 4 3 226 true .none .none (.ref 228) 476
def o230:Obj:=fo1 "cleared" 30 (.str "dullglass.solver" 363) 229
def o236:Obj:=co1 "compared" 483 138 2 3 231 true 489
def o237:Obj:=fo1 "compared" 33 (.str "dullglass.compare" 479) 236
def o243:Obj:=co1 "check_few_signs" 492 146 1 3 238 true 496
def o244:Obj:=fo1 "check_few_signs" 34 (.str "dullglass.compare" 479) 243
def o248:Obj:=co0 "equations" "equations" 499 149 2 3 245 true .none .none (.ref 247) 502
def o249:Obj:=fo1 "equations" 35 (.str "dullglass.compare" 479) 248
def o253:Obj:=co0 "seen_as" "seen_as" 505 156 3 3 250 true .none .none (.ref 252) 508
def o254:Obj:=fo1 "seen_as" 36 (.str "dullglass.compare" 479) 253
def o258:Obj:=co0 "shown_in_all" "shown_in_all" 511 158 3 3 255 true .none .none (.ref 257) 514
def o259:Obj:=fo1 "shown_in_all" 37 (.str "dullglass.compare" 479) 258
def o263:Obj:=co0 "wanted_sums" "wanted_sums" 517 160 2 3 260 true .none .none (.ref 262) 520
def o264:Obj:=fo1 "wanted_sums" 38 (.str "dullglass.compare" 479) 263
def o268:Obj:=co0 "dulling_by" "dulling_by" 523 165 3 3 265 true .none .none (.ref 267) 526
def o269:Obj:=fo1 "dulling_by" 39 (.str "dullglass.compare" 479) 268
def o273:Obj:=co0 "in_rows" "in_rows" 529 169 3 3 270 true .none .none (.ref 272) 532
def o274:Obj:=fo1 "in_rows" 40 (.str "dullglass.compare" 479) 273
def o278:Obj:=co0 "tops" "tops" 539 173 1 3 275 true .none .none (.ref 277) 542
def o279:Obj:=fo1 "tops" 43 (.str "dullglass.shelves" 535) 278
def o285:Obj:=co1 "check_shelf" 545 179 1 3 280 true 550
def o286:Obj:=fo1 "check_shelf" 44 (.str "dullglass.shelves" 535) 285
def o290:Obj:=co0 "compared_with_all" "compared_with_all" 553 186 2 3 287 true .none .none (.ref 289) 556
def o291:Obj:=fo1 "compared_with_all" 45 (.str "dullglass.shelves" 535) 290
def o295:Obj:=co0 "is_outdone" "is_outdone" 559 188 2 3 292 true .none .none (.ref 294) 562
def o296:Obj:=fo1 "is_outdone" 46 (.str "dullglass.shelves" 535) 295
def o302:Obj:=co1 "outdoes" 565 190 3 3 297 true 571
def o303:Obj:=fo1 "outdoes" 47 (.str "dullglass.shelves" 535) 302
def o309:Obj:=co1 "dulls_so" 574 192 3 3 304 true 580
def o310:Obj:=fo1 "dulls_so" 48 (.str "dullglass.shelves" 535) 309
def o314:Obj:=co0 "row_of" "row_of" 583 194 3 3 311 true .none .none (.ref 313) 586
def o315:Obj:=fo1 "row_of" 49 (.str "dullglass.shelves" 535) 314
def o319:Obj:=co0 "gain" "gain" 591 198 3 3 316 true .none .none (.ref 318) 594
def o320:Obj:=fo1 "gain" 51 (.str "dullglass.decisions" 589) 319
def o324:Obj:=co0 "best" "best" 597 204 2 3 321 true .none .none (.ref 323) 600
def o325:Obj:=fo1 "best" 52 (.str "dullglass.decisions" 589) 324
def o331:Obj:=co1 "check_payoffs" 603 208 2 3 326 true 608
def o332:Obj:=fo1 "check_payoffs" 53 (.str "dullglass.decisions" 589) 331
def o336:Obj:=co0 "is_plan" "is_plan" 611 211 3 3 333 true .none .none (.ref 335) 614
def o337:Obj:=fo1 "is_plan" 54 (.str "dullglass.decisions" 589) 336
def o343:Obj:=co1 "worth" 617 215 4 3 338 true 624
def o344:Obj:=fo1 "worth" 55 (.str "dullglass.decisions" 589) 343
def o348:Obj:=co0 "first_best_act" "first_best_act" 627 217 3 3 345 true .none .none (.ref 347) 630
def o349:Obj:=fo1 "first_best_act" 56 (.str "dullglass.decisions" 589) 348
def o355:Obj:=co1 "_law_pen" 635 221 1 3 350 true 640
def o356:Obj:=fo1 "_law_pen" 58 xs9 355
def o362:Obj:=co1 "_law_mixed" 643 226 1 3 357 true 649
def o363:Obj:=fo1 "_law_mixed" 59 xs9 362
def o369:Obj:=co1 "_law_next" 652 232 2 3 364 true 658
def o370:Obj:=fo1 "_law_next" 60 xs9 369
def o376:Obj:=co1 "_law_divisor" 661 245 1 3 371 true 668
def o377:Obj:=fo1 "_law_divisor" 61 xs9 376
def o383:Obj:=co1 "_law_share" 671 252 2 3 378 true 677
def o384:Obj:=fo1 "_law_share" 62 xs9 383
def o388:Obj:=co0 "_law_reduced" "_law_reduced" 680 255 2 3 385 true .none .none (.ref 387) 683
def o389:Obj:=fo1 "_law_reduced" 63 xs9 388
def o393:Obj:=co0 "_law_row" "_law_row" 686 261 3 3 390 true .none .none (.ref 392) 689
def o394:Obj:=fo1 "_law_row" 64 xs9 393
def o398:Obj:=co0 "_law_split" "_law_split" 692 264 2 3 395 true .none .none (.ref 397) 695
def o399:Obj:=fo1 "_law_split" 65 xs9 398
def o403:Obj:=co0 "_law_table" "_law_table" 698 276 4 3 400 true .none .none (.ref 402) 701
def o404:Obj:=fo1 "_law_table" 66 xs9 403
def o408:Obj:=co0 "_law_payoffs" "_law_payoffs" 704 284 3 3 405 true .none .none (.ref 407) 707
def o409:Obj:=fo1 "_law_payoffs" 67 xs9 408
def o413:Obj:=co0 "_law_dulled" "_law_dulled" 710 293 2 3 410 true .none .none (.ref 412) 713
def o414:Obj:=fo1 "_law_dulled" 68 xs9 413
def o418:Obj:=co0 "_law_dulling" "_law_dulling" 716 301 3 3 415 true .none .none (.ref 417) 719
def o419:Obj:=fo1 "_law_dulling" 69 xs9 418
def o425:Obj:=co1 "_law_shelf" 722 304 3 3 420 true 731
def o426:Obj:=fo1 "_law_shelf" 70 xs9 425
def o432:Obj:=co1 "_law_word" 734 313 1 3 427 true 740
def o433:Obj:=fo1 "_law_word" 71 xs9 432
def o437:Obj:=co0 "_law_refused" "_law_refused" 743 322 3 3 434 true .none .none (.ref 436) 746
def o438:Obj:=fo1 "_law_refused" 72 xs9 437
def o444:Obj:=co1 "_law_gain" 749 333 2 3 439 true 754
def o445:Obj:=fo1 "_law_gain" 73 xs9 444
def o449:Obj:=co0 "law" "law" 757 335 1 3 446 true .none .none (.ref 448) 760
def o450:Obj:=fo1 "law" 74 xs9 449
def tA0 (P:Qbs):BT:=(N0 (boot_o_0 P) (N0 (boot_o_1 P) (N0 (boot_o_3 P) (xl9 (boot_o_7 P)) (xl9 (tu0 []))) (N0 (boot_o_5 P) (xl9 (boot_o_9 P)) (xl9 o13a))) (N0 (boot_o_2 P) (N0 (boot_o_4 P) (xl9 (boot_o_8 P)) (xl9 em0)) (N0 (boot_o_6 P) (xl9 (boot_o_10 P)) (xl9 o14a))))
def tE0 (P:Qbs):BT:=(N0 (boot_o_0 P) (N0 (boot_o_1 P) (N0 (o3 P) (N0 (boot_o_7 P) (N0 (tu0 [(.type "ValueError")]) (N0 (tu0 []) (N0 o63 (N0 (pr0 "stands" "stands" (top 16)) (xl9 (tu0 [])) (xl9 o383)) (N0 em0 (xl9 o319) (xl9 em0))) (N0 (tu0 []) (N0 o159 (xl9 (tu0 [])) (xl9 (tu0 []))) (N0 (pr0 "first_line" "first_line" (top 29)) (xl9 em0) nl0))) (N0 (tu0 []) (N0 em0 (N0 em0 (xl9 em0) (xl9 o399)) (N0 o207 (xl9 (pr0 "is_plan" "is_plan" (top 54))) nl0)) (N0 o111 (N0 (o175 P) (xl9 o303) (xl9 (pr0 "_law_word" "_law_word" (top 71)))) (N0 em0 (xl9 (tu0 [])) nl0)))) (N0 (o23 P) (N0 o39 (N0 (tu0 []) (N0 o135 (xl9 o263) (xl9 em0)) (N0 (pr0 "tightest" "Board.tightest" (qbt (top 28) 3)) (xl9 em0) nl0)) (N0 (pr0 "check_shares" "check_shares" (top 11)) (N0 o167 (xl9 o295) (xl9 (tu0 []))) (N0 (tu0 []) (xl9 (tu0 [(.str "_law_pen_here" 646),(.str "_law_cell" 647),(.str "_law_number" 648)])) nl0))) (N0 (tu0 []) (N0 (tu0 [(.str "top" 284),(.str "bottom" 285),(.str "common" 286)]) (N0 (pr0 "check_alike_stands" "check_alike_stands" (top 21)) (xl9 o279) (xl9 (pr0 "_law_payoffs" "_law_payoffs" (top 67)))) (N0 (o215 P) (xl9 o343) nl0)) (N0 em0 (N0 o183 (xl9 (tu0 [])) (xl9 (tu0 []))) (N0 (pr0 "equations" "equations" (top 35)) (xl9 (pr0 "_law_divisor" "_law_divisor" (top 61))) nl0))))) (N0 (tu0 []) (N0 em0 (N0 (tu0 []) (N0 (tu0 []) (N0 em0 (xl9 o259) (xl9 (pr0 "_law_reduced" "_law_reduced" (top 63)))) (N0 (tu0 []) (xl9 (pr0 "best" "best" (top 52))) nl0)) (N0 (tu0 []) (N0 (tu0 [(.str "numbers" 384),(.str "place" 385),(.str "number" 386)]) (xl9 o291) (xl9 o419)) (N0 em0 (xl9 o355) nl0))) (N0 o51 (N0 o83 (N0 (tu0 []) (xl9 (tu0 [])) (xl9 o403)) (N0 (pr0 "told" "Board.told" (qbt (top 28) 5)) (xl9 em0) nl0)) (N0 (pr0 "table_of_shares" "table_of_shares" (top 14)) (N0 o179 (xl9 (tu0 [])) (xl9 em0)) (N0 o243 (xl9 (tu0 [])) nl0)))) (N0 o27 (N0 (tu0 []) (N0 (pr0 "divisor" "divisor" (top 7)) (N0 (pr0 "column" "column" (top 18)) (xl9 (pr0 "dulling_by" "dulling_by" (top 39))) (xl9 (tu0 []))) (N0 em0 (xl9 o331) nl0)) (N0 em0 (N0 o171 (xl9 (tu0 [(.str "one" 568),(.str "other" 569),(.str "answers" 570)])) (xl9 (tu0 []))) (N0 (pr0 "compared" "compared" (top 33)) (xl9 o363) nl0))) (N0 (tu0 []) (N0 o91 (N0 em0 (xl9 (tu0 [])) (xl9 em0)) (N0 o219 (xl9 (pr0 "first_best_act" "first_best_act" (top 56))) nl0)) (N0 (tu0 []) (N0 (pr0 "lack" "Board.lack" (qbt (top 28) 1)) (xl9 o315) (xl9 (pr0 "_law_gain" "_law_gain" (top 73)))) (N0 em0 (xl9 em0) nl0)))))) (N0 (boot_o_5 P) (N0 (boot_o_9 P) (N0 (o17 P) (N0 o33 (N0 em0 (N0 o129 (xl9 (pr0 "shown_in_all" "shown_in_all" (top 37))) (xl9 (tu0 []))) (N0 o193 (xl9 (tu0 [])) (xl9 o449))) (N0 o97 (N0 (tu0 []) (xl9 (pr0 "compared_with_all" "compared_with_all" (top 45))) (xl9 (pr0 "_law_dulling" "_law_dulling" (top 69)))) (N0 o225 (xl9 (tu0 [])) nl0))) (N0 o49 (N0 (tu0 []) (N0 o145 (xl9 o273) (xl9 em0)) (N0 (tu0 []) (xl9 o337) nl0)) (N0 (tu0 []) (N0 o177 (xl9 em0) (xl9 o433)) (N0 (tu0 []) (xl9 o369) nl0)))) (N0 o25 (N0 o41 (N0 (tu0 [(.str "one" 267),(.str "other" 268),(.str "rest" 269)]) (N0 (tu0 []) (xl9 (tu0 [])) (xl9 o393)) (N0 o201 (xl9 (tu0 [])) nl0)) (N0 o105 (N0 em0 (xl9 (tu0 [])) (xl9 o425)) (N0 (tu0 [(.str "one" 486),(.str "other" 487),(.str "answer" 488)]) (xl9 (pr0 "_law_mixed" "_law_mixed" (top 59))) nl0))) (N0 o57 (N0 (pr0 "reduced" "reduced" (top 9)) (N0 o153 (xl9 em0) (xl9 o409)) (N0 o217 (xl9 (tu0 [])) nl0)) (N0 o121 (N0 (tu0 []) (xl9 (pr0 "row_of" "row_of" (top 49))) (xl9 (tu0 [(.str "_law_glass" 752),(.str "_law_payoffs_here" 753)]))) (N0 o249 (xl9 o377) nl0))))) (N0 o13a (N0 o21 (N0 o37 (N0 o69 (N0 (tu0 []) (xl9 em0) (xl9 o389)) (N0 (tu0 [(.str "self" 429),(.str "place" 430),(.str "chosen" 431),(.str "k" 432),(.str "line" 433)]) (xl9 o325) nl0)) (N0 (tu0 [(.str "one" 300),(.str "other" 301)]) (N0 (pr0 "first_above" "first_above" (top 26)) (xl9 em0) (xl9 em0)) (N0 o229 (xl9 (tu0 [])) nl0))) (N0 o53 (N0 (tu0 []) (N0 (tu0 [(.str "one" 358),(.str "other" 359)]) (xl9 (pr0 "tops" "tops" (top 43))) (xl9 (tu0 []))) (N0 o213 (xl9 (tu0 [])) nl0)) (N0 o117 (N0 em0 (xl9 o309) (xl9 o437)) (N0 (tu0 []) (xl9 (tu0 [(.str "_law_numbers" 664),(.str "_law_found" 665),(.str "_law_number" 666),(.str "_law_other" 667)])) nl0)))) (N0 o29 (N0 o45 (N0 o77 (N0 o141 (xl9 o269) (xl9 (pr0 "_law_split" "_law_split" (top 65)))) (N0 (tu0 []) (xl9 (tu0 [])) nl0)) (N0 (tu0 []) (N0 (tu0 []) (xl9 (pr0 "outdoes" "outdoes" (top 47))) (xl9 (tu0 [(.str "_law_shelf_here" 737),(.str "_law_caught" 738),(.str "e" 739)]))) (N0 o237 (xl9 em0) nl0))) (N0 o61 (N0 em0 (N0 (tu0 []) (xl9 o285) (xl9 o413)) (N0 (tu0 []) (xl9 o349) nl0)) (N0 (tu0 [(.str "glass" 330)]) (N0 o189 (xl9 em0) (xl9 o445)) (N0 o253 (xl9 (tu0 [])) nl0))))))) (N0 (boot_o_2 P) (N0 (boot_o_4 P) (N0 (boot_o_8 P) (N0 o16 (N0 em0 (N0 (tu0 []) (N0 o128 (xl9 em0) (xl9 o384)) (N0 (pr0 "bring_in" "Board.bring_in" (qbt (top 28) 2)) (xl9 o320) (xl9 (pr0 "law" "law" (top 74))))) (N0 (pr0 "is_share" "is_share" (top 10)) (N0 o160 (xl9 em0) (xl9 em0)) (N0 o224 (xl9 (tu0 [(.str "_law_script" 638),(.str "_law_head" 639)])) nl0))) (N0 (o48 P) (N0 (tu0 [(.str "top" 276),(.str "bottom" 277)]) (N0 (pr0 "paired" "paired" (top 19)) (xl9 (pr0 "in_rows" "in_rows" (top 40))) (xl9 (tu0 []))) (N0 o208 (xl9 o336) nl0)) (N0 o112 (N0 (tu0 []) (xl9 (tu0 [])) (xl9 o432)) (N0 (tu0 [(.str "glass" 495)]) (xl9 (pr0 "_law_next" "_law_next" (top 60))) nl0)))) (N0 o24 (N0 (tu0 [(.ref 24)]) (N0 em0 (N0 o136 (xl9 o264) (xl9 (pr0 "_law_row" "_law_row" (top 64)))) (N0 o200 (xl9 (tu0 [(.str "glass" 606),(.str "payoffs" 607)])) nl0)) (N0 o104 (N0 (tu0 []) (xl9 o296) (xl9 (pr0 "_law_shelf" "_law_shelf" (top 70)))) (N0 em0 (xl9 (tu0 [])) nl0))) (N0 em0 (N0 (tu0 []) (N0 o152 (xl9 (tu0 [])) (xl9 o408)) (N0 o216 (xl9 o344) nl0)) (N0 (pr0 "over_bottom" "over_bottom" (top 15)) (N0 o184 (xl9 em0) (xl9 em0)) (N0 o248 (xl9 o376) nl0))))) (N0 o12 (N0 o20 (N0 (o36 P) (N0 (pr0 "is_whole" "is_whole" (top 6)) (N0 (tu0 [(.str "glass" 337)]) (xl9 (tu0 [])) (xl9 o388)) (N0 em0 (xl9 o324) nl0)) (N0 em0 (N0 (tu0 []) (xl9 (tu0 [])) (xl9 (tu0 []))) (N0 (pr0 "cleared" "cleared" (top 30)) (xl9 o356) nl0))) (N0 (tu0 [(.ref 24)]) (N0 o84 (N0 em0 (xl9 em0) (xl9 o404)) (N0 o212 (xl9 (tu0 [(.str "glass" 620),(.str "payoffs" 621),(.str "sign" 622),(.str "act" 623)])) nl0)) (N0 o116 (N0 (tu0 []) (xl9 (pr0 "dulls_so" "dulls_so" (top 48))) (xl9 (pr0 "_law_refused" "_law_refused" (top 72)))) (N0 o244 (xl9 em0) nl0)))) (N0 (tu0 [(.ref 24)]) (N0 em0 (N0 o76 (N0 o140 (xl9 o268) (xl9 em0)) (N0 (tu0 [(.str "self" 440),(.str "k" 441),(.str "chosen" 442),(.str "place" 443),(.str "one" 444),(.str "other" 445)]) (xl9 o332) nl0)) (N0 (tu0 [(.str "one" 308),(.str "other" 309)]) (N0 o172 (xl9 (tu0 [])) (xl9 em0)) (N0 o236 (xl9 (tu0 [])) nl0))) (N0 (o60 P) (N0 (tu0 []) (N0 (tu0 [(.str "rows" 372),(.str "sums" 373),(.str "unknowns" 374),(.str "board" 375),(.str "lack" 376),(.str "place" 377)]) (xl9 (pr0 "check_shelf" "check_shelf" (top 44))) (xl9 (pr0 "_law_dulled" "_law_dulled" (top 68)))) (N0 o220 (xl9 o348) nl0)) (N0 em0 (N0 o188 (xl9 (tu0 [])) (xl9 o444)) (N0 (pr0 "seen_as" "seen_as" (top 36)) (xl9 (tu0 [(.str "_law_top" 674),(.str "_law_bottom" 675),(.str "_law_both" 676)])) nl0)))))) (N0 (boot_o_6 P) (N0 (boot_o_10 P) (N0 (tu0 []) (N0 o34 (N0 (tu0 [(.str "thing" 260)]) (N0 (tu0 []) (xl9 o258) (xl9 em0)) (N0 o194 (xl9 em0) (xl9 o450))) (N0 o98 (N0 em0 (xl9 o290) (xl9 o418)) (N0 (tu0 []) (xl9 (pr0 "_law_pen" "_law_pen" (top 58))) nl0))) (N0 o50 (N0 (pr0 "share" "share" (top 8)) (N0 o146 (xl9 o274) (xl9 (pr0 "_law_table" "_law_table" (top 66)))) (N0 em0 (xl9 (tu0 [])) nl0)) (N0 em0 (N0 o178 (xl9 (tu0 [(.str "one" 577),(.str "other" 578),(.str "answers" 579)])) (xl9 (tu0 []))) (N0 (pr0 "check_few_signs" "check_few_signs" (top 34)) (xl9 o370) nl0)))) (N0 o26 (N0 (o42 P) (N0 (tu0 []) (N0 em0 (xl9 em0) (xl9 o394)) (N0 (tu0 []) (xl9 (pr0 "check_payoffs" "check_payoffs" (top 53))) nl0)) (N0 (tu0 []) (N0 (pr0 "lowest" "lowest" (top 27)) (xl9 em0) (xl9 o426)) (N0 (tu0 []) (xl9 o362) nl0))) (N0 o58 (N0 o90 (N0 (tu0 []) (xl9 (tu0 [(.str "shelf" 548),(.str "glass" 549)])) (xl9 (tu0 []))) (N0 o218 (xl9 em0) nl0)) (N0 o122 (N0 em0 (xl9 o314) (xl9 (tu0 []))) (N0 (tu0 []) (xl9 (tu0 [])) nl0))))) (N0 o14a (N0 (tu0 []) (N0 o38 (N0 o70 (N0 (pr0 "signs" "signs" (top 17)) (xl9 (pr0 "wanted_sums" "wanted_sums" (top 38))) (xl9 (tu0 []))) (N0 (tu0 []) (xl9 (tu0 [])) nl0)) (N0 (tu0 []) (N0 o166 (xl9 (pr0 "is_outdone" "is_outdone" (top 46))) (xl9 (tu0 [(.str "_law_pen_here" 725),(.str "_law_many" 726),(.str "_law_most" 727),(.str "_law_found" 728),(.str "_law_k" 729),(.str "_law_old" 730)]))) (N0 o230 (xl9 em0) nl0))) (N0 (o54 P) (N0 em0 (N0 (tu0 []) (xl9 o278) (xl9 em0)) (N0 (tu0 [(.str "bottom" 455),(.str "lines" 456),(.str "stands_for" 457),(.str "unknowns" 458)]) (xl9 (pr0 "worth" "worth" (top 55))) nl0)) (N0 (tu0 []) (N0 (pr0 "__init__" "Board.__init__" (qbt (top 28) 0)) (xl9 o310) (xl9 o438)) (N0 em0 (xl9 (tu0 [])) nl0)))) (N0 (o30 P) (N0 o46 (N0 (tu0 []) (N0 (tu0 []) (xl9 (tu0 [])) (xl9 o398)) (N0 (pr0 "is_tighter" "Board.is_tighter" (qbt (top 28) 4)) (xl9 em0) nl0)) (N0 (pr0 "times" "times" (top 12)) (N0 o174 (xl9 o302) (xl9 (tu0 []))) (N0 (tu0 []) (xl9 (tu0 [(.str "_law_pen_here" 655),(.str "_law_many" 656),(.str "_law_found" 657)])) nl0))) (N0 o62 (N0 (tu0 [(.str "thing" 293)]) (N0 (pr0 "solved" "solved" (top 25)) (xl9 o286) (xl9 o414)) (N0 em0 (xl9 (tu0 [])) nl0)) (N0 (tu0 []) (N0 (tu0 []) (xl9 (pr0 "gain" "gain" (top 51))) (xl9 (tu0 []))) (N0 o254 (xl9 (pr0 "_law_share" "_law_share" (top 62))) nl0))))))))
lay_quick My.cE0 My.env0 My.ls0
def zart (w:World):(fun os=>topGo Qfo Qf w 11 (some (.ref 6)) 12 (Qjg (boot_heap w.params) (Qad []) boot_drawn boot_toks os) (topStub Qf))=fun os=>some ((Qby (tA0 w.params) 15 lf0 (Qad []) boot_drawn 187 os).abs,Thread.mk (denote Qfo cE0) cE0 ⟨0,0,0,0⟩ [topFrame ⟨0,0,0,0⟩]):=by
 rewrite [PySem.W.Fast.te15667345088766844465,Yz,PySem.W.Fast.te14307891623371709145,PySem.W.Fast.te11892475500146522536,PySem.W.Fast.te2665708160071446767]
 kernel_rfl
def zakc (w:World):(fun os=>segRun Qfo Qf w 11 (some (.ref 6)) 1 1 (Qby (tA0 w.params) 15 lf0 (Qad []) boot_drawn 187 os).abs (blockOf (behindTheImports Qf) env0 cE0 ⟨0,0,0,0⟩ [topFrame ⟨0,0,0,0⟩]))=fun os=>some (.next,(Qby (tA0 w.params) 15 lf0 (Qad []) boot_drawn 187 os).abs,cE0,⟨0,0,0,0⟩):=by
 rewrite [PySem.W.Fast.te14374325043358763698,Yz,PySem.W.Fast.te14307891623371709145,PySem.W.Fast.te2665708160071446767,PySem.W.Fast.te13849342267361746138]
 kernel_rfl
def zarc (w:World):(fun os=>segRunT Qfo Qf w 11 (some (.ref 6)) 1 2926 (Qby (tA0 w.params) 15 lf0 (Qad []) boot_drawn 187 os) (piecesOf (behindTheImports Qf) env0 cE0 ⟨0,0,0,0⟩ [topFrame ⟨0,0,0,0⟩]))=fun os=>some (.next,(Qby (tE0 w.params) 451 lf0 (Qad []) boot_drawn 763 os),cE0,⟨335,0,352,66⟩):=by
 rewrite [PySem.W.Fast.te10110043849684766642,Yz,PySem.W.Fast.te14307891623371709145,PySem.W.Fast.te2665708160071446767,PySem.W.Fast.te13849342267361746138]
 kernel_rfl
def zarg (w:World):(fun os=>topRun Qfo Qf w 11 (some (.ref 6)) 2 (Qby (tE0 w.params) 451 lf0 (Qad []) boot_drawn 763 os).abs ⟨doneF .next,cE0,⟨335,0,352,66⟩,[topFrame ⟨0,0,0,0⟩]⟩)=fun os=>some (Qby (tE0 w.params) 451 lf0 (Qad []) boot_drawn 763 os).abs:=by
 rewrite [PySem.W.Fast.te14082659384304107361,Yz,PySem.W.Fast.te14307891623371709145,PySem.W.Fast.te2665708160071446767]
 kernel_rfl
def zarp (w:World) (os:OsState):topRun Qfo Qf w 11 (some (.ref 6)) (12+(1+(2926+2))) (Qjg (boot_heap w.params) (Qad []) boot_drawn boot_toks os) (topStub Qf)=some (Qby (tE0 w.params) 451 lf0 (Qad []) boot_drawn 763 os).abs :=
 go_top (congrFun (zart w) os) (piece_block (congrFun (zakc w) os) (by
  have q:=piece_app (rest:=[]) (segRun_of (congrFun (zarc w) os)) (piece_nil (congrFun (zarg w) os))
  rwa [Yy] at q))
def zamu:opening Qf=plainProg Qf.main.scope.names:=by kernel_rfl
def zajh (s:Ql):fenceModules? Qf s=some s:=by kernel_rfl
def zamv (w:World):((boot_heap w.params).isNs Zk&&(Qad []:Array Qim).size==0,(boot_heap w.params).objs.size,(boot_heap w.params).nsMap Zk "__annotations__")=(true,11,(some (.ref 6))):=by kernel_rfl
def zarv (w:World):(fun os=>(staticsOk (importedModules Qf.main.body) (boot_heap w.params) (absHeap (tE0 w.params) 451 lf0)&&namesBound Qf (absHeap (tE0 w.params) 451 lf0)&&gensDone (Qjg (absHeap (tE0 w.params) 451 lf0) (Qad []) boot_drawn 763 os)&&laidKept (boot_heap w.params) (absHeap (tE0 w.params) 451 lf0)))=fun _=>true:=by
 rewrite [Qbf,PySem.W.Fast.te14307891623371709145]
 kernel_rfl
def zarq (w:World):(fun os=>openSeen (view Qf [74]) ls0 (importedModules Qf.main.body) (fun _=>true) true (Qjg (absHeap (tE0 w.params) 451 lf0) (Qad []) boot_drawn 763 os))=fun _=>openGood (view Qf [74]) ls0:=by
 rewrite [PySem.W.Fast.te4187177175401517315,Qbf,PySem.W.Fast.te14307891623371709145,PySem.W.Fast.te4294247251607483543]
 kernel_rfl
def K0 (P:Qbs):Frag:=(nat_lit 2,(boot_o_2 P))::(nat_lit 3,(o3 P))::(nat_lit 23,(o23 P))::(nat_lit 24,o24)::(nat_lit 25,o25)::(nat_lit 36,(o36 P))::(nat_lit 37,o37)::(nat_lit 48,(o48 P))::(nat_lit 49,o49)::(nat_lit 60,(o60 P))::(nat_lit 61,o61)::(nat_lit 69,o69)::(nat_lit 70,o70)::(nat_lit 76,o76)::(nat_lit 77,o77)::(nat_lit 83,o83)::(nat_lit 84,o84)::(nat_lit 90,o90)::(nat_lit 91,o91)::(nat_lit 97,o97)::(nat_lit 98,o98)::(nat_lit 104,o104)::(nat_lit 105,o105)::(nat_lit 111,o111)::(nat_lit 112,o112)::(nat_lit 116,o116)::(nat_lit 117,o117)::(nat_lit 121,o121)::(nat_lit 122,o122)::(nat_lit 128,o128)::(nat_lit 129,o129)::(nat_lit 135,o135)::(nat_lit 136,o136)::(nat_lit 140,o140)::(nat_lit 141,o141)::(nat_lit 145,o145)::(nat_lit 146,o146)::(nat_lit 152,o152)::(nat_lit 153,o153)::(nat_lit 159,o159)::(nat_lit 160,o160)::(nat_lit 166,o166)::(nat_lit 167,o167)::(nat_lit 171,o171)::(nat_lit 172,o172)::(nat_lit 183,o183)::(nat_lit 184,o184)::(nat_lit 188,o188)::(nat_lit 189,o189)::(nat_lit 193,o193)::(nat_lit 194,o194)::(nat_lit 200,o200)::(nat_lit 201,o201)::(nat_lit 207,o207)::(nat_lit 208,o208)::(nat_lit 212,o212)::(nat_lit 213,o213)::(nat_lit 215,(o215 P))::(nat_lit 216,o216)::(nat_lit 217,o217)::(nat_lit 218,o218)::(nat_lit 224,o224)::(nat_lit 225,o225)::(nat_lit 229,o229)::(nat_lit 230,o230)::(nat_lit 236,o236)::(nat_lit 237,o237)::(nat_lit 243,o243)::(nat_lit 244,o244)::(nat_lit 248,o248)::(nat_lit 249,o249)::(nat_lit 253,o253)::(nat_lit 254,o254)::(nat_lit 258,o258)::(nat_lit 259,o259)::(nat_lit 263,o263)::(nat_lit 264,o264)::(nat_lit 268,o268)::(nat_lit 269,o269)::(nat_lit 273,o273)::(nat_lit 274,o274)::(nat_lit 278,o278)::(nat_lit 279,o279)::(nat_lit 285,o285)::(nat_lit 286,o286)::(nat_lit 290,o290)::(nat_lit 291,o291)::(nat_lit 295,o295)::(nat_lit 296,o296)::(nat_lit 302,o302)::(nat_lit 303,o303)::(nat_lit 309,o309)::(nat_lit 310,o310)::(nat_lit 314,o314)::(nat_lit 315,o315)::(nat_lit 319,o319)::(nat_lit 320,o320)::(nat_lit 324,o324)::(nat_lit 325,o325)::(nat_lit 331,o331)::(nat_lit 332,o332)::(nat_lit 336,o336)::(nat_lit 337,o337)::(nat_lit 343,o343)::(nat_lit 344,o344)::(nat_lit 348,o348)::(nat_lit 349,o349)::(nat_lit 355,o355)::(nat_lit 356,o356)::(nat_lit 362,o362)::(nat_lit 363,o363)::(nat_lit 369,o369)::(nat_lit 370,o370)::(nat_lit 376,o376)::(nat_lit 377,o377)::(nat_lit 388,o388)::(nat_lit 389,o389)::(nat_lit 393,o393)::(nat_lit 394,o394)::(nat_lit 398,o398)::(nat_lit 399,o399)::(nat_lit 403,o403)::(nat_lit 404,o404)::(nat_lit 408,o408)::(nat_lit 409,o409)::(nat_lit 413,o413)::(nat_lit 414,o414)::(nat_lit 418,o418)::(nat_lit 419,o419)::(nat_lit 425,o425)::(nat_lit 426,o426)::(nat_lit 432,o432)::(nat_lit 433,o433)::(nat_lit 437,o437)::(nat_lit 438,o438)::(nat_lit 444,o444)::(nat_lit 445,o445)::(nat_lit 449,o449)::(nat_lit 450,o450)::[]
def as0:List Addr:=[2,3,23,24,25,36,37,48,49,60,61,69,70,76,77,83,84,90,91,97,98,104,105,111,112,116,117,121,122,128,129,135,136,140,141,145,146,152,153,159,160,166,167,171,172,183,184,188,189,193,194,200,201,207,208,212,213,215,216,217,218,224,225,229,230,236,237,243,244,248,249,253,254,258,259,263,264,268,269,273,274,278,279,285,286,290,291,295,296,302,303,309,310,314,315,319,320,324,325,331,332,336,337,343,344,348,349,355,356,362,363,369,370,376,377,388,389,393,394,398,399,403,404,408,409,413,414,418,419,425,426,432,433,437,438,444,445,449,450]
def zajc (w:World):(fun (os:OsState)=>as0.map (absHeap (tE0 w.params) 451 lf0).get?)=fun _=>(K0 w.params).map fun p=>some p.2:=by kernel_rfl
def left0:LeftO Qf (view Qf [74]) ls0 (fun _=>true) (fun s=>as0.map s.heap.get?) (fun w=>(K0 w.params).map fun p=>some p.2) 100000 :=
 LeftO.of_pieces (H₀:=boot_heap) (H₁:=fun P=>absHeap (tE0 P) 451 lf0) (gs₁:=Qad []) (d₁:=boot_drawn) (k₁:=763) (boot_open zamu rfl zajh) zamv zarp rfl fun w=>by
  funext os
  exact congr (congrArg Prod.mk (congrFun (zarv w) os)) (congr (congrArg Prod.mk (congrFun (zarq w) os)) (congrFun (zajc w) os))
end
end My
open PySem PySem.W PyProof.Rows
set_option maxRecDepth 100000 in
set_option maxHeartbeats 0 in
theorem PySem.Challenge.cw_dullglass_k49_whole_what_a_shelf_is_wort_holds : PySem.Challenge.rw_dullglass_k49_whole_what_a_shelf_is_wort.Holds := by
 w_on;o_law
 refine holds_open (q:=view Qf [74]) (XP:=fun _ _=>True) (YP:=InK My.K0) My.left0 (InK.of fun _=>by kernel_rfl) InK.keeps (fun _ _=>Qbv) (fun _ _ _ _ _=>Qbv) (by rfl) (by rfl) (by rfl) (fun s _=>recFacts_nil rfl) (by rfl) (by assumption) (by decide +kernel) ⟨rfl,rfl,rfl,rfl,rfl,by decide +kernel⟩ ?hw ?hc
 case hw=>w_witness2
 k_fill
 refine My.walk (l:=Vi) rfl rfl (fun w h Y=>Y) ?F
 case F =>
  intro w mg fa h KX G hmg;refine' My.all_mk KX G hmg ..
  iterate 3 all_goals try first|k_is|k_exc|rfl|(refine' My.DK.mk ?a (My.LK.mk ?l ?c ?k); (case a=>k_is); (case l=>k_is); (case c=>k_is); (case k=>k_is))|(refine' My.LK.mk ?l ?c ?k; (case l=>k_is); (case c=>k_is); (case k=>k_is))
