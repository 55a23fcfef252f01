import PyProof.Rows.All
import Wide.All
import OpenK.AllK
import Wide.FinOn
import Lean
import PyProof.EqAt
import PyProof.EqKinds
import PyProof.TupleCall
import PySem.Challenge.RW_dullglass_k46_whole_curves_and_dulls
set_option Elab.async false
set_option linter.all false
set_option maxRecDepth 100000
set_option maxHeartbeats 4000000
set_option genSizeOf false
set_option genInjectivity false
abbrev LL:=List (List Int)
abbrev LI:=List Int
open List renaming getElem?_map->Qa,getElem?_eq_getElem->Qc,length_map->Qe,mem_of_getElem?->Qh,mem_cons_of_mem->Qk,mem_map->Ql,range->Qm,getElem?_range->Qo,getElem?_eq_some_iff->Qp,map_cons->Qq,mem_append_right->Qz,exists_cons_of_ne_nil->Q1,sum_cons->Q3,getElem?_eq_none->Q5,mem_singleton->Q6,map_congr_left->Q9,Nodup->Zb,mem_cons->Zd,getElem_mem->Ze,replicate->Zf,length_cons->Zg,mem_append->Zh,mem_range->Zi,map_map->Zj,take_length->Zm,size_toArray->Zn,map_append->Zo,ext_getElem?->Zt,getElem?_append_left->Zv,getD_eq_getElem?_getD->Zy,take_add_one->Z0,length_range->Z1,pairwise_iff_getElem->Z8,take_of_length_le->Ya,all_eq_true->Yc,getElem?_append_right->Yj,mem_filter->Ym,mem_append_left->Y1,length_append->Y2,not_mem_nil->Y7,replicate_succ->Va,length_set->Ve,pairwise_cons->Vg,mem_iff_getElem->Vj,length_take->Vm,any_eq_true->Vo,getElem?_zipWith->Ji,mem_iff_getElem?->Jj,nodup_cons->Js,flatten_cons->Ju,range_succ->Jw,sum_append->Jx,map_nil->J3,zipWith->J4,filterMap_cons->J6,getElem?_cons_succ->J7,lookup_cons->Qac,drop_of_length_le->Qag,append_nil->Qak,length_nil->Qao,getElem?_inj->Qat,map_take->Qav,length_drop->Qbi,mem_flatten->Qbj,getElem_of_mem->Qbn,any_cons->Qbw,getElem?_replicate->Qby,findIdx?_eq_some_iff_getElem->Qcc,filter_append->Qcf,length->Qcu,length_replicate->Qda,getElem?_of_mem->Qdo,find?_cons->Qef,forIn_nil->Qet,nodup_nil->Qeu,getElem?_take_of_lt->Qfb,nodup_append->Qfh,all_cons->Qfl,length_eq_zero_iff->Qfm,map_drop->Qfq,nodup_range->Qfu,getElem?_set_self->Qfz,of_mem_zip->Qgj,forIn_cons->Qgo,take_append_drop->Qgw,getElem?_set_ne->Qhk,length_take_le'->Qhp,mem_of_mem_take->Qhr,getElem?_mapIdx->Qhs,toList_toArray->Qia,mem_filterMap->Qik,map_inj_right->Qiq,filter_filter->Qir,getElem?_set->Qjd,foldl_append->Qji,filter_congr->Qjk,sum_nil->Qjp,all_map->Qjv,cons_append->Qkg,zipIdx_cons->Qkh,filter_cons->Qkm,zipIdx_nil->Qku,take_range->Qky,foldl->Qlf,toArray->Qlv,map_set->Qlw,map->Qmg
open PySem.W renaming Frag->Qd,emptyDict->Vb,findIn->Vt,fnOf->Vx,keepIn->V7,instObj->Ja,kia_one->Jb,nsIn->Qbs,cellsFrom_some->Qcn,kitx_dict->Qcv,codeIn->Qcy,plainGet->Qdh,mg_of->Qdu,plainGet_of->Qea,callWith_K->Qek,lookIn->Qeq,methodObj->Qez,hasDictIn->Qfa,isFn->Qgf,takerIn->Qgg,makesIn->Qgh,methodCall_KW->Qgi,OpenLaw->Qgq,kitOne->Qhv,kitx_tuple->Qim,plainOver->Qiy,kitx_none->Qja,kitx_bool->Qjb,kitx_list->Qjc,handedIn->Qka,kitx_int->Qkd,kitx_str->Qke,kitAny->Qlc,WalkO->Qln
open PySem.Challenge renaming pw_dullglass_k46_whole_curves_and_dulls->Qf,rw_dullglass_k46_whole_curves_and_dulls->Yl
open PySem renaming wpAny_bind->Qg,PyData->Qj,Shared->Qt,starEach->Qu,wpAny_pure->Qy,sizeLine->Q4,bootBuiltins->Zl,mainGlobals->Zu,Program->Zw,foldedSetIterable->Z3,wpAny_loadPart'->Z4,sizeLine_eq->Yg,wpAny_mono->Yh,Around->Yk,compareOp->Yo,intBits_le_of_natAbs->Ys,intBits_mul_le->Yv,wpAny_callSpecial?_slot->Yz,wpAny_truthy_bool->Y0,wpAny_call_entry->Y8,assignEach->Vk,mem_of_lookup->Vq,wpAny_field->Vs,recursionLimit->Vw,cellsFrom->Vz,wpAny_typeNameOfWhole_valiter->V4,backTo->V5,attributeBase->V6,sysModules->V9,binaryOp->Je,wpAny_Call_Name_kw->Jk,wpAny_setField_rec->Jl,wpAny_seqItems->Jp,swapsWith->Jz,wpAny_passesOwn->J0,keywordEach->Qaa,wpAny_holding->Qab,DictEntry->Qap,wpAny_isOneOf_valiter->Qaq,NameKind->Qaw,wpAny_dictEntries->Qax,wpAny_newObj_type->Qay,wpAny_pyIter_list->Qaz,notedBy->Qbc,FuncData->Qbk,Spec->Qbp,Keyword->Qcg,behindInMarks->Qch,codeAmong->Qci,codeAny->Qcj,letOwnedTupleGo->Qck,wpAny_standAt->Qcl,Params->Qcp,sliceBounds->Qcx,newFunctionEnv->Qcz,IsPair->Qdc,codeAny_mono->Qdd,pushCells->Qde,wpAny_notOrdered_dict->Qdf,holding->Qdm,wpAny_updateSeq_pair->Qdq,backToKw->Qdv,bindArgs->Qdw,wpAny_attempt->Qdx,builtinsNs->Qdy,call_meets->Qdz,wpAny_execs_nil->Qeh,rawInt->Qeo,wpAny_pyIter_tuple->Qep,wpAny_setField->Qew,wpAny_assign_Name->Qfi,wpAny_rule->Qfj,wpAny_onRaise->Qfs,assign->Qfy,wpAny_pyIter_rangeiter->Qgd,wpAny_pyNext_range_end->Qge,Arguments->Qha,exec_Assign_Name_used->Qhc,pushCells_keeps->Qhf,standAt->Qhg,treeTable->Qhh,tupleKind->Qhi,wpAny_dictEpoch->Qhj,wpAny_loadName_local->Qht,wpAny_storeName_cell->Qhu,callerA->Qid,wpAny_letGo->Qif,wpAny_loadName_cell->Qig,TriplesOk->Qit,getMethod->Qiu,swappedStores->Qiv,swapsWithSole->Qiw,wpAny_newList->Qix,list_append->Qiz,BindsTo->Qjl,closureFor->Qjm,wpAny_call->Qjn,Within->Qjo,concat_meets->Qjw,isTrue->Qjx,pyNext->Qjy,seqIndex_neg->Qjz,ZipApart->Qko,Str->Qkp,Fin->Qkv,PassesOwn->Qla,seqIndex_of->Qlb,call->Qlg,relabel->Qlt
open PySem.Heap renaming get?_push_of_some->Qi,lt_size->Qw,get?_push_size->Qx,size_push->Z5,SameBut->Vl,get?_update_other->Qaf,get?_update_self->Qal,ExtBut->Qkt
open Int renaming mul_le_mul_of_nonneg_right->Qn,mul_nonneg->Q2,mul_pos->Za,lt_or_le->Zk,mul_comm->Zp,zero_mul->Zr,eq_of_mul_eq_mul_right->Zs,eq_of_mul_eq_mul_left->Zz,mul_lt_mul_of_pos_right->Z2,mul_neg_of_neg_of_pos->Z7,mul_eq_zero->Yf,mul_le_mul_of_nonneg_left->Yn,mul_zero->Yr,toNat_natCast->Yx,gcd->Yy,zero_add->Y5,natAbs_dvd_natAbs->Vc,eq_ofNat_of_zero_le->Vf,mul_ediv_cancel'->Vi,lt_of_mul_lt_mul_right->Vp,dvd_trans->Vu,mul_ediv_cancel_left->V1,le_refl->V2,add_mul->Jc,le_of_lt->Jh,natCast_dvd_natCast->J8,mul_assoc->J9,natCast_mul->Qan,le_of_mul_le_mul_right->Qba,le_of_mul_le_mul_left->Qbg,lt_of_mul_lt_mul_left->Qbh,toNat_of_nonneg->Qbm,mul_nonneg_of_nonpos_of_nonpos->Qbu,mul_nonpos_of_nonneg_of_nonpos->Qbv,add_zero->Qdb,dvd_mul_left->Qdj,ediv_le_self->Qdk,gcd_pos_of_ne_zero_right->Qds,mul_one->Qeg,emod_lt_of_pos->Qem,le_trans->Qen,natAbs_mul->Qev,natCast_ediv->Qfw,emod_nonneg->Qgr,ediv_nonneg->Qgs,mul_dvd_mul->Qgu,mul_le_mul->Qhx,ediv_mul_cancel->Qib,neg_mul->Qic,ofNat_dvd_left->Qip,gcd_dvd_right->Qjh,dvd_mul_right->Qjj,dvd_refl->Qjq,ne_of_gt->Qjr,le_total->Qju,gcd_dvd_left->Qkj,gcd_mul_left->Qkk,mul_add->Qkw,le_antisymm->Qkz,le_of_dvd->Qlp
open Option.some renaming inj->Qr
open Nat renaming le_refl->Qs,ne_of_lt->Q7,le_trans->Zq,lt_of_lt_of_le->Zx,zero_le->Yd,mul_le_mul->Yp,le_of_lt->Yq,ne_of_gt->Yt,lt_trans->Yu,min_eq_left->Vy,lt_irrefl->J5,not_lt->Qae,eq_zero_or_pos->Qaj,le_of_dvd->Qau,mul_le_mul_right->Qbb,eq_of_mul_eq_mul_left->Qbf,mul_comm->Qbq,zero_add->Qbr,add_sub_cancel->Qcd,lt_or_eq_of_le->Qce,le_succ->Qct,le_add_right->Qdi,min_eq_right->Qdl,le_of_eq->Qej,lt_succ_of_lt->Qfe,exists_eq_add_of_le->Qfp,lt_succ_self->Qft,div_eq_of_lt->Qfv,add_sub_add_right->Qgm,succ_mul->Qgt,mul_zero->Qgv,pow_le_pow_right->Qhq,gcd->Qjg,add_comm->Qjs,min_self->Qjt,mod_eq_of_lt->Qkl,mul_one->Qkx,dvd_trans->Qlo,add_assoc->Qlr
open PySem.PyData renaming int->Q8,eqv->Vh,canLayAll0->Jv,canLay0->Qad,eqvAll->Qdt,tuple->Qel,depthAll->Qgx,depth->Qgy
open False renaming elim->Zc
open Array renaming length_toList->Z6,getElem?_eq_getElem->Jo,mk->Qar,getElem?_toList->Qgp,toList_append->Qhy,getD->Qli
open Ne renaming symm->Z9
open Bool renaming and_eq_true->Yb,false_ne_true->Yi,and_eq_true_iff->Jq,false_and->Qbd,false_eq_true->Qcb,and_false->Qer,eq_iff_iff->Qgl,true_and->Qis,false_or->Qll
open PySem.Obj renaming mapSeq->Ye,data_mapFields->Qbz,isFreed_of_fields->Qgn,data_mapDictKeys->Qho,cls_mapFields->Qje,mapFields->Qlm
open PySem.Builtin.Range renaming rangeSize->Yw,small->Qec
open Or renaming inr->Y3,inl->Vn
open PySem.F renaming slot_dict_valueiterator_next->Y4,slot_tuple_iterator_next->Jf,plainAttrs_list->Qbx,args_dict_valueiterator_next_1->Qcm,entry_dict_valueiterator_next->Qcw,args_tuple_iterator_next_1->Qdr,entry_tuple_iterator_next->Qed,slot_zip_next->Qee,args_tuple_add_2->Qfc,slot_list_append->Qfd,slot_list_extend->Qff,type_list_extend->Qfg,entry_tuple_add->Qfk,slot_dict_values_iter->Qfn,plainAttrs_dict->Qfo,slot_tuple_add->Qga,slot_dict_len->Qgk,args_list_extend_2->Qhm,entry_list_extend->Qhz,slot_list_extend->Qil,args_zip_next_1->Qjf,entry_zip_next->Qki,slot_int_rmul->Qks
open PySem.Value renaming ref->Y6,none->Jr,int->Qex,type->Qey,str->Qkr,bool->Qle,isStrOf->Qlj,isInt->Qlx,bytes->Qly,float->Qlz
open PySem.W.Fast renaming te14364793385576792824->Y9,te5923862056798008813->Qbt
open PyProof.Rows renaming callWith_type1->Vd,seqObj->Jd,envOfC->Qcq,listUpdate_at->Qfr,call_function_entry_kw->Qgb,subscriptTail_builtinR->Qgc,AllBare->Qgz,IntsAre->Qhb,get?_update_seq->Qhd,kindOf->Qhe,wpAny_call_entry_kw->Qie
open PySem.Heap.SameBut renaming update->Vr
open Classical renaming byContradiction->Vv,not_forall->Qdp,choose->Qkn
open PySem.Builtin.List renaming listTooLong->V0
open PySem.IntMulOk renaming of_left->V3,of_right->Jy
open True renaming intro->V8
open PySem.SeqAt renaming shaped->Jg
open PySem.Builtin.SmallTypes renaming nextOf->Jm,ownedTupleIsFree->Qbo,ownedTupleHandOut->Qhw
open Option renaming isSome_iff_exists->Jt,isNone_iff_eq_none->Qbe,isSome_some->Qio,getD_none->Qkb,getD_some->Qkf,none->Qmc
open PySem.Calls renaming spliced_cons->Qah,callWith_builtin->Qco,spliced_nil->Qcs,Name_function_global->Qei,evalArgs_plain->Qhl
open PySem.Builtin.Dict_items renaming ownsTuple->Qai
open PySem.Str renaming ofString->Qam
open PySem.NameKind renaming cell->Qas,free->Qin
open PySem.Builtin.Int renaming intBits->Qbl
open PySem.W.KasT renaming kasWp_bind->Qca
open PySem.W.SharedT renaming mk->Qcr
open Sum renaming inl->Qdg,inr->Qlk
open PySem.Around renaming frames_deeper->Qdn,under_plainId->Qhn
open PySem.PassesOwn renaming never->Qeb
open PySem.Builtin.Tuple renaming tupleHashOf->Qes
open PySem.PyData.tuple renaming inj->Qfx
open PySem.SeqAt.EqAt renaming int_str->Qih,str_int->Qii
open PySem.Paired renaming length->Qij
open PySem.IsL renaming update->Qkc
open PySem.Shared renaming mk->Qkq
open PySem.PyData.int renaming inj->Qld
open PySem.Walks renaming list->Qlh,range->Qma
open List.cons renaming inj->Qlq
open Prod.mk renaming injEq->Qls
open Nat.succ renaming inj->Qlu
open PySem.IsRange renaming new->Qmb
open PySem.Heap.Ns renaming new->Qmd
open PySem.W.Looks renaming here->Qme
open PySem.Heap.IsSliceOf renaming new->Qmf
open List.Pairwise renaming nil->Qmh
abbrev Nd0(x:Qkp):Prop:=(x==("__debug__":Qkp))=false
abbrev Nd1(x:Qkp):Prop:=(x==("__classdict__":Qkp))=false
namespace L2
open PySem PySem.Spec PyProof.Rows
def defArgs(s:Stmt):Qha:=match s with
 |.FunctionDef _ a _ _ _ _ _ _ _ _=>a
 |_=>{ posonlyargs:=[],args:=[],vararg:=none,kwonlyargs:=[],kw_defaults:=[],kwarg:=none,defaults:=[] }
def defBody(s:Stmt):List Stmt:=match s with
 |.FunctionDef _ _ b _ _ _ _ _ _ _=>b
 |_=>[]
def defScope(s:Stmt):Scope:=match s with
 |.FunctionDef _ _ _ _ _ _ sc _ _ _=>sc
 |_=>{ kind :=.function,names:=[],isGenerator:=false,isCoroutine:=false }
end L2
namespace My
noncomputable section
open PySem PySem.W PySem.Calls PyProof.Rows
def en0(P:Qcp)(x:Str)(t:Nat)(v:Value):Qap:=⟨Qj.keyHash P x,.str x t,v⟩
def tu0(vs:List Value):Obj:=⟨.type "tuple",none,.seq vs.toArray 0,#[]⟩
def em0:Obj:=⟨.none,none,.fields #[],#[]⟩
def fo0(n q:Str)(s:Stmt)(a:Value)(c:Nat):Obj:=⟨.type "function",none,.func (Vx n q (L2.defArgs s) (L2.defBody s) (L2.defScope s) .none .none .none a none (.ref c) .none),#[]⟩
def pr0(n q:Str)(s:Stmt):Obj:=⟨.none,none,.func ⟨n,q,L2.defArgs s,.stmts (L2.defBody s),L2.defScope s,0,[],.none,.none,.none,.none,none,.none,.none,0⟩,#[]⟩
def co0(n q:Str)(t:Nat)(l c d:Int)(a:Nat)(b:Bool)(x y z:Value)(u:Nat):Obj:=⟨.type "code",none,.fields #[.str n t,.str q (t+1),.str "/claim/cut.py" (t+2),.int l 0,.int c 0,.int 0 0,.int 0 0,.int d 0,.ref a,.bool b,.int 181 0,.ref (a+1),.none,x,y,z,.int u 0,.int l 0,.str "/claim/cut.py" (u+1)],#[]⟩
def zgz:Env:={ scope:=Qf.main.scope,locals:=mainNs,globals:=mainNs,cells:=[],code:=(.ref 13),frame:=some 14 }
def cE0:Code :=.body (behindTheImports Qf) zgz
def ls0:List Str:=(Qf.main.scope.names.map (·.1)).filter λx => !(x == "__name__" || x == "law")
def lf0:Life:=⟨[],[],[],0,[],[],false,#[],[],0,false,false,false,0,[2000,10,10],false,0,true,[],[],0,false⟩
def dx0:Stmt->Str×Nat×Nat
 |.FunctionDef n _ _ _ _ _ _ _ _ p=>(n,p.line,p.col)
 |.ClassDef n _ _ _ _ _ _ _ _ _ p=>(n,p.line,p.col)
 |_=>(Str.empty,0,0)
def vs0(b:Bool)(s:Stmt):List Str:=(L2.defScope s).names.filterMap λp=>match p.2 with |.local=>bif b then none else some p.1 |.cell=>some p.1|_=>none
def tS0(vs:List Str)(t:Nat):Obj:=tu0 ((vs.zipIdx t).map λp => .str p.1 p.2)
def bi0(c:String)(vs:List Value):Obj:=⟨.type c,none,.fields vs.toArray,#[]⟩
def di0(es:List Qap)(k:Nat):Obj:=⟨.type "dict",none,.dict es.toArray k,#[]⟩
def fd0(b:Bool)(q:Str)(s:Stmt)(e:Value)(a t:Nat):List Obj :=
 let n:=(dx0 s).1;let l:=(dx0 s).2.1;let c:=(L2.defArgs s).args.length;let d:=vs0 false s;let f:=vs0 true s
 bif b then[tu0 [],em0,pr0 n q s,co0 n q t l c 3 a true .none .none (.ref (a+2)) (t+3),fo0 n q s e (a+3)]
 else[tu0 [],em0,tS0 d (t+3),tS0 f (t+3+d.length),pr0 n q s,co0 n q t l c 3 a true (.ref (a+2)) (.ref (a+3)) (.ref (a+4)) (t+3+d.length+f.length),fo0 n q s e (a+5)]
def fr0(c l:Nat)(a:Value):Obj:=⟨.type "frame",none,.plain,#[some (.ref c),some (.ref 3),some (.ref l),none,some a,none,some (.ref 0)]⟩
abbrev It0:=List Obj×List Qap×List Value
def rw0(s:Stmt)(c:Nat):List Value:=[.int (dx0 s).2.1 0,.int (dx0 s).2.2 0,.ref c]
def fi0(P:Qcp)(b:Bool)(q:Str)(s:Stmt)(d:Value)(a t:Nat):It0×Nat×Nat :=
 let c:=fd0 b q s d a t;let e:=a+c.length;let u:=t+5+bif b then 0 else(vs0 false s).length+(vs0 true s).length
 ((c,[en0 P (dx0 s).1 u (.ref (e-1))],rw0 s (e-2)),e,u+1)
def me0(P:Qcp)(q:Str)(m:Nat)(b:Value):List Stmt->Nat->Nat->Nat->(List It0->Nat->Nat->List It0)->List It0
 |[],_,a,t,k=>k [] a t
 |.FunctionDef n d e f g h i l o p::c,j,a,t,k=>let r:=fi0 P (m.testBit j) (q++n) (.FunctionDef n d e f g h i l o p) b a t
  me0 P q m b c (j+1) r.2.1 r.2.2 λrs a t=>k (r.1::rs) a t
 |_::c,j,a,t,k=>me0 P q m b c (j+1) a t k
def cl0(n:Str)(k d:Nat)(x:Option Value)(t:Nat)(a:List Value):Obj :=
 let b:List Value:=[.type "ValueError",.type "Exception",.type "BaseException",.type "object"]
 ⟨.type "type",none,.cls ⟨n,(match k with|0=>[.ref 24]|1=>[.type "ValueError"]|_=>[.type "object"]),.ref (d+1)::(match k with|0 => .ref 24::b|1=>b|_=>[.type "object"]),d,n,true,[],a,false,none,false⟩,#[x,none,some (.str n t),some (.str n (t+8)),some (.builtin (match k with|2 => "object.__new__" |_ => "ValueError.__new__")),some (.bool true)]⟩
def ci0(P:Qcp)(k:Nat)(s:Stmt)(f:List Str)(g:Value)(a t:Nat)(c:List Value)(rs:List It0)(b t':Nat):It0×Nat×Nat :=
 let n:=(dx0 s).1;let l:=(dx0 s).2.1;let e:=t'+f.length;let self:Value :=.ref (b+2)
 let h:=en0 P "__module__" (t+7) g;let i:=en0 P "__firstlineno__" (t+11) (.int l (t+10));let j:=en0 P "__static_attributes__" e (.ref b);let d:=rs.flatMap (·.2.1)
 let m:=λu=>bi0 "getset_descriptor" [.str "__weakref__" u,self,.builtin "ExceptionGroup.__weakref__",.none]
 let (gs,ge,u):List Obj×List Qap×Nat:=match k with
  |0=>([],[],e)
  |1=>([m (e+1)],[en0 P "__weakref__" (e+2) (.ref (b+3))],e+2)
  |_=>([bi0 "getset_descriptor" [.str "__dict__" (e+1),self,.builtin "function.__dict__",.builtin "function.__dict__#set"],m (e+3)],[en0 P "__dict__" (e+2) (.ref (b+3)),en0 P "__weakref__" (e+4) (.ref (b+4))],e+4)
 (([tu0 (match k with|0=>[.ref 24]|1=>[.type "ValueError"]|_=>[]),bi0 "builtin_function_or_method" [.builtin "type.__prepare__",.type "type"],di0 ([h,en0 P "__qualname__" (t+9) (.str n (t+8)),i]++d++[j]) (4+d.length),tu0 [],⟨.none,none,.fields (rs.flatMap (·.2.2)).toArray,#[]⟩,
  co0 n n (t+2) l 0 0 (a+3) false .none .none .none (t+5),fr0 (a+5) (a+2) g]++rs.flatMap (·.1)++[tS0 f t',di0 ([h,i]++d++[j]++ge++[en0 P "__doc__" (u+1) .none]) (k+2),cl0 n k (b+1) (match k with|2=>none|_=>some (.ref a)) t c]++gs++[bi0 "super" [self,self,self],bi0 "builtin_function_or_method" [.builtin "object.__init_subclass__",self]],
  [en0 P n (u+3) self],rw0 s (a+5)),b+5+gs.length,u+4)
def kn0:Const->Nat->Value
 |.int i,t => .int i t
 |.str s,t => .str s t
 |_,_ => .none
def xi0(P:Qcp)(_:Nat):It0×Nat:=(([],[],[]),0)
def zro(P:Qcp):List Stmt->Nat->Nat->Nat->Value->List It0
 |[],_,_,_,_=>[]
 |.Assign [.Name x _] (.Constant c _ _) _::e,i,a,t,d=>bif Nat.testBit 19347544721738693615943745 i then zro P e (i+1) a (t+2) (kn0 c t)else([],[en0 P x (t+1) (kn0 c t)],[])::zro P e (i+1) a (t+2) d
 |.ClassDef n f g b h l m o p u q::e,i,a,t,d=>let s:=Stmt.ClassDef n f g b h l m o p u q;let k:=match i,f with|1,_=>1|_,[]=>2|_,_=>0
  me0 P (n ++ ".") ((([(69,39)]:List (Nat×Nat)).lookup i).getD 0) d b 0 (a+7) (t+12) λrs v w=>let r:=ci0 P k s u d a t (match k with|1=>(Qm 4).map λj => .ref (37+12*j)|_=>[]) rs v w
   r.1::zro P e (i+1) r.2.1 r.2.2 d
 |.FunctionDef n f g y h l m o p q::e,i,a,t,d=>let r:=fi0 P (Nat.testBit 173786925150353922113667072 i) n (.FunctionDef n f g y h l m o p q) d a t
  r.1::zro P e (i+1) r.2.1 r.2.2 d
 |_::e,i,a,_,d=>let r:=(xi0 P i).1;r::zro P e (i+1) (a+r.1.length) (xi0 P i).2 d
def ev0:Bool->List Obj->List Obj
 |_,[]=>[]
 |true,x::a=>x::ev0 false a
 |false,_::a=>ev0 true a
def br0:Nat->List Obj->BT
 |n+1,x::a => .node x (br0 n (ev0 true a)) (br0 n (ev0 false a))
 |_,_ => .nil
def q0(P:Qcp):List It0:=zro P Qf.main.body 0 15 187 .none
def ba0(P:Qcp)(g:Obj)(t:Obj):List Obj:=[boot_o_0 P,boot_o_1 P,boot_o_2 P,g,boot_o_4 P,boot_o_5 P,boot_o_6 P,boot_o_7 P,boot_o_8 P,boot_o_9 P,boot_o_10 P,tu0 [],t,co0 "<module>" "<module>" 182 1 0 0 11 false .none .none .none 185,fr0 13 3 (.str "__main__" 164)]
def ol0(P:Qcp):List Obj:=ba0 P (di0 ([en0 P "__name__" 165 (.str "law_dullglass_k46_whole_curves_and_dulls" 832),en0 P "__doc__" 166 .none,en0 P "__package__" 167 .none,en0 P "__loader__" 168 (.builtin "__main__.__loader__#opaque"),en0 P "__spec__" 169 .none,en0 P "__annotations__" 170 (.ref 6),en0 P "__builtins__" 171 (.ref 4),en0 P "__file__" 173 (.str "/claim/cut.py" 172),en0 P "__cached__" 174 .none]++(q0 P).flatMap (·.2.1)) 94) ⟨.none,none,.fields ((q0 P).flatMap (·.2.2)).toArray,#[]⟩++(q0 P).flatMap (·.1)
def tA0(P:Qcp):BT:=br0 4 (ba0 P (boot_o_3 P) em0)
def tE0(P:Qcp):BT:=br0 12 (ol0 P)
theorem xcd(w:World):(λa=>topGo Qhh Qf w 11 (some (.ref 6)) 12 (Qkq (boot_heap w.params) (Qar []) boot_drawn boot_toks a) (topStub Qf))=λa=>some ((Qcr (tA0 w.params) 15 lf0 (Qar []) boot_drawn 187 a).abs,Thread.mk (denote Qhh cE0) cE0 ⟨0,0,0,0⟩ [topFrame ⟨0,0,0,0⟩]):=by
 rewrite [PySem.W.Fast.te15667345088766844465,Y9,PySem.W.Fast.te11892475500146522536]
 kernel_rfl
theorem zsx(w:World):(λa=>segRun Qhh Qf w 11 (some (.ref 6)) 1 1 (Qcr (tA0 w.params) 15 lf0 (Qar []) boot_drawn 187 a).abs (blockOf (behindTheImports Qf) zgz cE0 ⟨0,0,0,0⟩ [topFrame ⟨0,0,0,0⟩]))=λa=>some (.next,(Qcr (tA0 w.params) 15 lf0 (Qar []) boot_drawn 187 a).abs,cE0,⟨0,0,0,0⟩):=by
 rewrite [PySem.W.Fast.te14374325043358763698,Y9]
 kernel_rfl
theorem xcg(w:World):(λa=>segRunT Qhh Qf w 11 (some (.ref 6)) 1 3661 (Qcr (tA0 w.params) 15 lf0 (Qar []) boot_drawn 187 a) (piecesOf (behindTheImports Qf) zgz cE0 ⟨0,0,0,0⟩ [topFrame ⟨0,0,0,0⟩]))=λa=>some (.next,(Qcr (tE0 w.params) 571 lf0 (Qar []) boot_drawn 939 a),cE0,⟨381,0,402,15⟩):=by
 rewrite [PySem.W.Fast.te10110043849684766642,Y9]
 kernel_rfl
theorem xbs(w:World):(λa=>topRun Qhh Qf w 11 (some (.ref 6)) 2 (Qcr (tE0 w.params) 571 lf0 (Qar []) boot_drawn 939 a).abs ⟨doneF .next,cE0,⟨381,0,402,15⟩,[topFrame ⟨0,0,0,0⟩]⟩)=λa=>some (Qcr (tE0 w.params) 571 lf0 (Qar []) boot_drawn 939 a).abs:=by
 rewrite [PySem.W.Fast.te14082659384304107361,Y9]
 kernel_rfl
theorem xbu(w:World)(a:OsState):topRun Qhh Qf w 11 (some (.ref 6)) (12+(1+(3661+2))) (Qkq (boot_heap w.params) (Qar []) boot_drawn boot_toks a) (topStub Qf)=some (Qcr (tE0 w.params) 571 lf0 (Qar []) boot_drawn 939 a).abs :=
 go_top (congrFun (xcd w) a) (piece_block (congrFun (zsx w) a) (by
  have q:=piece_app (rest:=[]) (segRun_of (congrFun (xcg w) a)) (piece_nil (congrFun (xbs w) a))
  rwa [Qak]at q))
theorem zzn:opening Qf=plainProg Qf.main.scope.names:=by kernel_rfl
theorem zuv(s:Qt):fenceModules? Qf s=some s:=by kernel_rfl
theorem zyp(w:World):((boot_heap w.params).isNs Zu&&(Qar []:Array GenState).size==0,(boot_heap w.params).objs.size,(boot_heap w.params).nsMap Zu "__annotations__")=(true,11,(some (.ref 6))):=by kernel_rfl
theorem xcj(w:World):(λa=>(staticsOk (importedModules Qf.main.body) (boot_heap w.params) (absHeap (tE0 w.params) 571 lf0)&&namesBound Qf (absHeap (tE0 w.params) 571 lf0)&&gensDone (Qkq (absHeap (tE0 w.params) 571 lf0) (Qar []) boot_drawn 939 a)&&laidKept (boot_heap w.params) (absHeap (tE0 w.params) 571 lf0)))=λ_=>true:=by
 rewrite [Qbt]
 kernel_rfl
theorem xbo(w:World):(λa=>openSeen (view Qf [93]) ls0 (importedModules Qf.main.body) (λ_=>true) true (Qkq (absHeap (tE0 w.params) 571 lf0) (Qar []) boot_drawn 939 a))=λ_=>openGood (view Qf [93]) ls0:=by
 rewrite [PySem.W.Fast.te4187177175401517315,Qbt]
 kernel_rfl
def fr9:List Addr:=[2,3,23,24,25,36,37,48,49,60,61,72,73,81,82,88,89,95,96,102,103,109,110,116,117,123,124,130,131,137,138,144,145,151,152,156,157,161,162,168,169,173,174,178,179,183,184,188,189,195,196,202,203,207,208,212,213,217,218,222,223,229,230,234,235,239,240,246,247,251,252,256,257,261,262,268,269,273,274,278,279,285,286,292,293,297,298,304,305,311,312,318,319,325,326,332,333,337,338,342,343,347,348,354,355,359,360,366,367,373,374,380,381,387,388,392,393,404,405,409,410,414,415,421,422,428,429,433,434,435,436,437,438,439,445,446,450,451,457,458,464,465,471,472,478,479,483,484,488,489,493,494,498,499,503,504,508,509,515,516,522,523,527,528,534,535,541,542,548,549,555,556,562,563,569,570,4]
def K0(P:Qcp):Frag:=fr9.map λa=>(a,(ol0 P).getD a em0)
def K1(P:Qcp):Frag:=[(242,em0),(281,em0)]++K0 P
def as0:List Addr:=[242,281]++fr9
theorem zuw(w:World):(λ(a:OsState)=>as0.map (absHeap (tE0 w.params) 571 lf0).get?)=λ_=>(K1 w.params).map λp=>some p.2:=by kernel_rfl
theorem left0:LeftO Qf (view Qf [93]) ls0 (λ_=>true) (λs=>as0.map s.heap.get?) (λw=>(K1 w.params).map λp=>some p.2) 100000 :=
 LeftO.of_pieces (H₀:=boot_heap) (H₁:=λP=>absHeap (tE0 P) 571 lf0) (gs₁:=Qar []) (d₁:=boot_drawn) (k₁:=939) (boot_open zzn rfl zuv) zyp xbu rfl λw=>by
  funext os
  exact congr (congrArg Prod.mk (congrFun (xcj w) os)) (congr (congrArg Prod.mk (congrFun (xbo w) os)) (congrFun (zuw w) os))
theorem sd0:Yl.wellSaid=true:=by
 rewrite [PySem.W.Fast.te9446332074065402090]
 kernel_rfl
theorem ik0(P:Qcp):as0=(K1 P).map (·.1):=by kernel_rfl
theorem tn0(P:Qcp):(([(242,246),(281,285)]:List (Addr×Addr)).all λp=>((K0 P).lookup p.1).isNone)=true:=by kernel_rfl
end
end My
namespace L2
open PySem PySem.Spec PyProof.Rows
abbrev Key:=Sum Int Str
def qzp:Key->Value->Bool
 |.inl k,v=>Qlx k v
 |.inr x,v=>Qlj x v
def xey(w:World):Key->Int
 |.inl k=>hashInt k
 |.inr x=>hashStr w x
theorem qay:∀{k:Key}{v:Value},qzp k v=true->(∃i t,k=Qdg i/\v=Qex i t)\/(∃x t,k=Qlk x/\v=Qkr x t)
 |.inl i,v,h=>by
  obtain⟨t,e⟩:=Value.isInt_shape (k:=i) (v:=v) h;grind
 |.inr x,v,h=>by
  obtain⟨t,e⟩:=Value.isStrOf_shape (x:=x) (v:=v) h;grind
theorem zka(i:Int)(t:Tok):qzp (.inl i) (.int i t)=true:=by simp[qzp,Qlx]
theorem zlc(x:Str)(t:Tok):qzp (.inr x) (.str x t)=true:=by simp[qzp,Qlj]
theorem zzo(a b:Int):decide ((Qdg a:Key)=Qdg b)=(a==b):=by
 grind
theorem zzu(a b:Str):decide ((Qlk a:Key)=Qlk b)=decide (a=b):=by
 grind
theorem zzc(a:Int)(b:Str):decide ((Qdg a:Key)=Qlk b)=false:=decide_eq_false (λq=>nomatch q)
theorem zyy(a:Str)(b:Int):decide ((Qlk a:Key)=Qdg b)=false:=decide_eq_false (λq=>nomatch q)
def qcj(prog:Zw)(w:World):PySem.KeyKind prog w Key where
 is:=qzp
 hash:=xey w
 inj:=λv a b ha hb=>by
  rcases qay ha with⟨i,t,rfl,rfl⟩|⟨x,t,rfl,rfl⟩
  ·rcases qay hb with⟨j,u,rfl,e⟩|⟨y,u,rfl,e⟩
   ·injection e with e1 _;rw[e1]
   ·exact nomatch e
  ·rcases qay hb with⟨j,u,rfl,e⟩|⟨y,u,rfl,e⟩
   ·exact nomatch e
   ·injection e with e1 _;rw[e1]
 byValue:=λk v h=>by
  rcases qay h with⟨i,t,rfl,rfl⟩|⟨x,t,rfl,rfl⟩ <;> rfl
 pyHash:=λhv h=>by
  rcases qay hv with⟨i,t,rfl,rfl⟩|⟨x,t,rfl,rfl⟩
  ·exact wpAny_pyHash_int h
  ·exact wpAny_pyHash_str h
 eqBool:=λhu hv h=>by
  rcases qay hu with⟨i,t,rfl,rfl⟩|⟨x,t,rfl,rfl⟩
  ·rcases qay hv with⟨j,u,rfl,rfl⟩|⟨y,u,rfl,rfl⟩
   ·rw[zzo]at h;exact wpAny_eqBool_int h
   ·rw[zzc]at h;exact Qih i t y u _ _ _ _ h
  ·rcases qay hv with⟨j,u,rfl,rfl⟩|⟨y,u,rfl,rfl⟩
   ·rw[zyy]at h;exact Qii x t j u _ _ _ _ h
   ·rw[zzu]at h;exact wpAny_eqBool_str h
 «strs»:=λk x t v h=>by
  rcases qay h with⟨i,u,rfl,e⟩|⟨y,u,rfl,e⟩
  ·exact nomatch e
  ·injection e with e1 _;subst e1;cases v <;> rfl
theorem zaj(prog:Zw)(w:World)(i:Int)(t:Tok):(qcj prog w).is (.inl i) (.int i t)=true:=zka i t
theorem zao(prog:Zw)(w:World)(x:Str)(t:Tok):(qcj prog w).is (.inr x) (.str x t)=true:=zlc x t
inductive V where
 |non|bl (b:Bool)|int (i:Int)|str (x:Str)|byt (b:Array UInt8)|flt (b:UInt64)|ref (a:Addr)|ty (n:String)
 deriving DecidableEq
def RelV:V->Value->Prop
 |.non,u=>u=Jr
 |.bl b,u=>u=Qle b
 |.int i,u =>∃t,u=Qex i t
 |.str x,u =>∃t,u=Qkr x t
 |.byt b,u =>∃t,u=Qly b t
 |.flt b,u =>∃t,u=Qlz b t
 |.ref a,u=>u=Y6 a
 |.ty n,u=>u=Qey n
abbrev Vals:List V->List Value->Prop:=Paired RelV
theorem Vals.length(r:Vals xs us):xs.length=us.length:=Qij r
theorem Vals.get:∀{xs:List V}{us:List Value}{i:Nat}{x:V},Vals xs us->xs[i]?=some x ->∃u,us[i]?=some u/\RelV x u
 |_,_,_,_,.nil,e=>by simp at e
 |_,_,0,_,.cons r _,e=>by simp at e;subst e;exact⟨_,rfl,r⟩
 |_,_,i+1,x,.cons _ t,e=>by
  obtain⟨u,a,b⟩:=Vals.get (i:=i) (x:=x) t (by simpa using e);exact⟨u,by simpa using a,b⟩
theorem Vals.set(r:RelV x u):∀{xs:List V}{us:List Value}(i:Nat),Vals xs us->Vals (xs.set i x) (us.set i u)
 |_,_,_,.nil => .nil
 |_,_,0,.cons _ t => .cons r t
 |_,_,i+1,.cons q t => .cons q (Vals.set r i t)
theorem Vals.append:∀{xs a:List V}{us ws:List Value},Vals xs us->Vals a ws->Vals (xs++a) (us++ws)
 |_,_,_,_,.nil,s=>s
 |_,_,_,_,.cons r t,s => .cons r (Vals.append t s)
theorem Vals.take:∀{xs:List V}{us:List Value}(n:Nat),Vals xs us->Vals (xs.take n) (us.take n)
 |_,_,0,_ => .nil
 |_,_,_+1,.nil => .nil
 |_,_,n+1,.cons r t => .cons r (Vals.take n t)
theorem Vals.drop:∀{xs:List V}{us:List Value}(n:Nat),Vals xs us->Vals (xs.drop n) (us.drop n)
 |_,_,0,r=>r
 |_,_,_+1,.nil => .nil
 |_,_,n+1,.cons _ t=>Vals.drop n t
def RelO:Option V->Option Value->Prop
 |some v,some u=>RelV v u
 |none,none=>True
 |_,_=>False
def KV{a:Type}:List (a×V)->List (a×Value)->Prop:=Paired λ(p:a×V) (q:a×Value)=>p.1=q.1/\RelV p.2 q.2
def kV:Key->V
 |.inl i => .int i
 |.inr x => .str x
inductive HO where
 |lst (xs:List V)
 |tup (xs:List V)
 |dK (kvs:List (Key×V))|dT (kvs:List (List Key×V))
 |set (S:Int->Bool) (n:Nat)
 |ins (C dx:Addr) (fs:List (Str×V))
 |own (x:Addr)
 |xd (fs:List (Str×V))
 |met (f x:Addr)
 |rng (lo hi:Int)
 |frz (o:Obj) (u:HO)
 |tbl (ps:Array Value)
 |ext (φ:Heap->Prop)
abbrev Hp:=Addr->Option HO
def upd(H:Hp)(a:Addr)(o:HO):Hp:=λb=>if b=a then some o else H b
theorem qk:upd H a o a=some o:=by unfold upd;rw[if_pos rfl]
theorem qi(h:b≠a):upd H a o b=H b:=by unfold upd;rw[if_neg h]
theorem zwq:upd (upd H a o) a u=upd H a u:=by
 funext b;unfold upd;split <;> rfl
theorem xcu{H:Hp}(h:H a=some o)(h':H b=some u)(d:o≠u):a≠b:=by
 grind
theorem qu{H:Hp}(h:H a=some o)(h':H b=none):a≠b:=by
 intro e;subst e;rw[h]at h';cases h'
section
variable(P:Zw)(w:World)
def ObjOk(H:Hp)(h:Heap)(a:Addr):HO->Prop
 |.lst d=>d.length<=Q4 /\ ∃(b:List Value)(n:Nat),Vals d b/\h.get? a=some { cls :=.type "list",data :=.seq b.toArray n }
 |.tup d=>d.length<=Q4 /\ ∃b:List Value,Vals d b/\IsTup h a b.toArray
 |.dK c=>c.length<=Q4/\(a==V9)=false /\ ∃j,KV c j/\h.DictOf (qcj P w) a j
 |.dT c=>c.length<=Q4/\(a==V9)=false /\ ∃d:List (List Key×Addr×Value),
  Paired (λ(p:List Key×V) (q:List Key×Addr×Value)=>p.1=q.1/\H q.2.1=some (.tup (p.1.map kV))/\RelV p.2 q.2.2) c d /\
  ∃o k r,h.get? a=some o/\o.ExactDict/\o.data = .dict k r/\k.toList=d.map (entryOfKey (Qhi (qcj P w)))/\(d.map (·.1)).Nodup
 |.set S n=>h.SetOf (intKind P w) a S n
 |.ins C g fs=>H g=some (.own a)/\fs.length<=1000/\g≠a/\h.get? a=some (Ja C g) /\
  ∃e,h.Ns1 g e/\(∀f,RelO (fs.lookup f) (e f))/\Qjo e (fs.map (·.1))
 |.own _ =>∃o,h.get? a=some o
 |.xd fs =>∃e,h.Ns1 a e /\ ∀f,RelO (fs.lookup f) (e f)
 |.rng s y =>∃t u v,h.get? a=some { cls :=.type "range",data :=.fields #[.int s t,.int y u,.int 1 v] }
 |.frz o u=>h.get? a=some o/\ObjOk H h a u
 |.tbl ps=>h.get? a=some { cls :=.none,data :=.fields ps }
 |.met f x=>h.get? a=some (Qez (.ref f) (.ref x))
 |.ext i=>i h/\(∃o,h.get? a=some o) /\ ∀l m:Heap,i l->(∀o,l.get? a=some o->m.get? a=some o)->i m
def HOk(H:Hp)(h:Heap):Prop :=∀a o,H a=some o->ObjOk P w H h a o
end
section
variable{P:Zw}{w:World}{H H':Hp}{h h':Heap}{a:Addr}{o:HO}
theorem ObjOk.lt(x:ObjOk P w H h a o):a<h.objs.size:=by
 cases o with
 |lst c=>obtain⟨_,_,_,_,e⟩:=x;exact Qw e
 |tup c=>obtain⟨_,_,_,p⟩:=x;exact p.lt
 |dK b=>obtain⟨_,_,_,_,o,_,_,e,_⟩:=x;exact Qw e
 |dT b=>obtain⟨_,_,_,_,o,_,_,e,_⟩:=x;exact Qw e
 |set S n=>obtain⟨o,_,_,_,e,_⟩:=x;exact Qw e
 |ins C d fs=>obtain⟨_,_,_,e,_⟩:=x;exact Qw e
 |own y=>obtain⟨_,e⟩:=x;exact Qw e
 |xd fs=>obtain⟨_,⟨_,_,_,e,_⟩,_⟩:=x;exact Qw e
 |rng g i=>obtain⟨_,_,_,e⟩:=x;exact Qw e
 |frz j u=>obtain⟨e,_⟩:=x;exact Qw e
 |tbl ps=>exact Qw (show h.get? a=some _ from x)
 |met f y=>exact Qw (show h.get? a=some _ from x)
 |ext k=>obtain⟨_,⟨_,e⟩,_⟩:=x;exact Qw e
theorem Paired.mapP:∀{c:List α}{l₂:List β},Paired F c l₂->(∀a b,F a b->G a b)->Paired G c l₂
 |_,_,.nil,_ => .nil
 |_,_,.cons r t,f => .cons (f _ _ r) (Paired.mapP t f)
theorem ObjOk.stay(x:ObjOk P w H h a o)(k:∀b u,(b=a\/H b=some (.own a))->h.get? b=some u->h'.get? b=some u)(D:∀b,H b=some (.own a)->H' b=some (.own a))(E:∀b xs,H b=some (.tup xs)->H' b=some (.tup xs)):ObjOk P w H' h' a o:=by
  induction o with
  |lst xs=>obtain⟨z,l,n,r,e⟩:=x;exact⟨z,l,n,r,k _ _ (.inl rfl) e⟩
  |tup xs=>obtain⟨z,l,r,g,e,c⟩:=x;exact⟨z,l,r,g,k _ _ (.inl rfl) e,c⟩
  |dK m=>obtain⟨z,y,F,r,g,i,j,e,c⟩:=x;exact⟨z,y,F,r,g,i,j,k _ _ (.inl rfl) e,c⟩
  |dT m =>
   obtain⟨z,y,xs,r,g,i,j,e,c⟩:=x;exact⟨z,y,xs,Paired.mapP r λp q z=>⟨z.1,E _ _ z.2.1,z.2.2⟩,g,i,j,k _ _ (.inl rfl) e,c⟩
  |set S n=>obtain⟨g,i,j,t,e,c⟩:=x;exact⟨g,i,j,t,k _ _ (.inl rfl) e,c⟩
  |ins C J fs =>
   obtain⟨d,z,ne,e,s,⟨A,i,j,G,c⟩,r⟩:=x;exact⟨D _ d,z,ne,k _ _ (.inl rfl) e,s,⟨A,i,j,k _ _ (.inr d) G,c⟩,r⟩
  |own y=>obtain⟨g,e⟩:=x;exact⟨g,k _ _ (.inl rfl) e⟩
  |xd fs=>obtain⟨s,⟨A,i,j,e,c⟩,r⟩:=x;exact⟨s,⟨A,i,j,k _ _ (.inl rfl) e,c⟩,r⟩
  |rng K L=>obtain⟨t,u,v,e⟩:=x;exact⟨t,u,v,k _ _ (.inl rfl) e⟩
  |frz g u I=>obtain⟨e,q⟩:=x;exact⟨k _ _ (.inl rfl) e,I q⟩
  |tbl ps =>
   have e:h.get? a=some { cls :=.none,data :=.fields ps }:=x;show h'.get? a=some { cls :=.none,data :=.fields ps };grind
  |met f y =>
   have e:h.get? a=some (Qez (.ref f) (.ref y)):=x;show h'.get? a=some (Qez (.ref f) (.ref y));grind
  |ext M=>obtain⟨p,⟨o,e⟩,B⟩:=x;exact⟨B _ _ p λo q=>k _ _ (.inl rfl) q,⟨o,k _ _ (.inl rfl) e⟩,B⟩
theorem HOk.lt(x:HOk P w H h)(e:H a=some o):a<h.objs.size:=(x a o e).lt
theorem HOk.fresh(x:HOk P w H h)(e:h.objs.size<=a):H a=none:=by
 cases q:H a with
 |none=>rfl
 |some u=>exact absurd (Zx (x.lt q) e) (J5 _)
theorem HOk.kept(x:HOk P w H h)(k:∀b u,h.get? b=some u->h'.get? b=some u):HOk P w H h':=λa o e =>
 (x a o e).stay (λb u _ q=>k b u q) (λ_ q=>q) λ_ _ q=>q
theorem HOk.laid(x:HOk P w H h)(k:∀b u,h.get? b=some u->h'.get? b=some u)(f:h.objs.size<=a)(new:ObjOk P w (upd H a o) h' a o):HOk P w (upd H a o) h':=λb u e=>by
 have d:=x.fresh f;by_cases g:b=a
 ·grind[qk]
 ·rw[qi g]at e;exact(x b u e).stay (λc v _ q=>k c v q) (λc q=>by rw[qi (qu q d)];exact q) λc i q=>by rw[qi (qu q d)];exact q
end
def Rd(H:Hp)(a:Addr)(u:HO):Prop:=H a=some u \/ ∃o,H a=some (.frz o u)
theorem Rd.ok(r:Rd H a u)(x:HOk P w H h):ObjOk P w H h a u:=by
 rcases r with r|⟨o,r⟩
 ·exact x a u r
 ·obtain⟨_,q⟩:=x a _ r;exact q
def Mut:Option HO->Prop
 |some (.lst _)=>True
 |some (.dK _)=>True
 |some (.dT _)=>True
 |some (.set _ _)=>True
 |some (.ins _ _ _)=>True
 |some (.ext _)=>True
 |_=>False
section
variable{P:Zw}{w:World}{H:Hp}{h h':Heap}{x e:Addr}{o':HO}
theorem HOk.write(ok:HOk P w H h)(a:Mut (H x))(he:e=x\/H e=some (.own x))(k:∀b u,b≠e->h.get? b=some u->h'.get? b=some u)(d:∃u,h'.get? e=some u)(new:ObjOk P w (upd H x o') h' x o'):HOk P w (upd H x o') h':=λb u q=>by
  have j:∀c y,H c=some (.own y)->c≠x:=λc y r z=>by subst z;rw[r]at a;exact a
  have l:∀c f,H c=some (.tup f)->c≠x:=λc f r z=>by subst z;rw[r]at a;exact a
  by_cases m:b=x
  ·grind[qk]
  ·rw[qi m]at q;by_cases g:b=e
   ·have n:H b=some (.own x):=by
     grind
    rw[q]at n;cases n;obtain⟨v,o⟩:=d;exact⟨v,by grind⟩
   ·refine(ok b u q).stay (λc v i r=>k c v ?_ r) (λc r=>by grind[qi]) λc f r=>by grind[qi]
    rcases i with rfl|i
    ·exact g
    ·rintro rfl;rcases he with z|z
     ·grind
     ·rw[i]at z;cases z;exact m rfl
end
def xbw(o:Obj):Prop :=∃a q t,o.data = .fields a/\a[1]?=some (.str q t)
structure GoodT(H:Hp)(ps:Array Value):Prop where
 tr:Qit ps.toList
 co:∀(pos:Pos)(v:Value),Qci pos ps.toList=some v ->∃c o u,v = .ref c/\H c=some (.frz o u)/\xbw o
theorem GoodT.nil:GoodT H #[]:=⟨trivial,λa v h=>by simp[Qci]at h⟩
theorem GoodT.mono(g:GoodT H ps)(f:∀b o u,H b=some (.frz o u)->H' b=some (.frz o u)):GoodT H' ps:=⟨g.tr,λa v h=>by
 obtain⟨c,o,u,z,e,k⟩:=g.co a v h;grind⟩
theorem qoz:∀{a b:List Value},Qit a->Qit b->Qit (a++b)
 |[],_,_,h=>h
 |.int _ _ :: .int _ _::_::r,_,g,h=>qoz (a:=r) g h
theorem qvp:∀{a b:List Value},Qit a->Qci pos (a++b)=some v->Qci pos a=some v\/Qci pos b=some v
 |[],_,_,h => .inr h
 |.int i _ :: .int j _::x::r,b,g,h=>by
  have h:(if i==pos.line&&j==pos.col then some x else Qci pos (r++b))=some v:=h;show(if i==pos.line&&j==pos.col then some x else Qci pos r)=some v\/_;split at h
  ·grind
  ·rw[if_neg (by assumption)];exact qvp (a:=r) g h
theorem GoodT.app(g:GoodT H a)(k:GoodT H b):GoodT H (a++b):=⟨by rw[Qhy];exact qoz g.tr k.tr,λc v h=>by
 rw[Qhy]at h;rcases qvp g.tr h with h|h
 ·exact g.co c v h
 ·exact k.co c v h⟩
structure Un(fs ex:List Addr)(H H':Hp)(h h':Heap):Prop where
 keep:∀b o,h.get? b=some o->H b=none->b∉fs->b∉ex->h'.get? b=some o
 slot:∀b o,h.get? b=some o->H b=none->b∈fs->b∉ex ->∃sl,h'.get? b=some { o with slots:=sl }
 free:∀b o,h.get? b=some o->H b=none->b∉ex->H' b=none
 there:∀b o,h.get? b=some o->b∉ex ->∃o',h'.get? b=some o'
 tups:∀b xs,H b=some (.tup xs)->H' b=some (.tup xs)
 frzs:∀b o u,H b=some (.frz o u)->H' b=some (.frz o u)
 tbls:∀b ps,H b=some (.tbl ps) ->∃more,H' b=some (.tbl (ps++more))/\GoodT H' more
section
variable{fs fs' ex ex':List Addr}{H H1 H2:Hp}{h h1 h2 h':Heap}{a x e:Addr}{o:HO}
theorem Un.any(u:Un fs ex H H1 h h1)(q:h.get? b=some ob)(n:H b=none)(a:b∉ex):∃d,h1.get? b=some { ob with slots:=d }:=by
 by_cases c:b∈fs
 ·exact u.slot b ob q n c a
 ·exact⟨ob.slots,u.keep b ob q n c a⟩
theorem Un.kept(k:∀b u,h.get? b=some u->h'.get? b=some u):Un fs ex H H h h' :=
 ⟨λb a q _ _ _=>k b a q,λb a q _ _ _=>⟨a.slots,k b a q⟩,λ_ _ _ n _=>n,λb a q _=>⟨a,k b a q⟩,λ_ _ q=>q,λ_ _ _ q=>q,λ_ ps q=>⟨#[],by rw[q];simp,.nil⟩⟩
theorem Un.refl:Un fs ex H H h h:=Un.kept λ_ _ q=>q
theorem Un.laid(k:∀b u,h.get? b=some u->h'.get? b=some u)(hp:h.objs.size<=a)(hn:H a=none):Un fs ex H (upd H a o) h h' where
 keep:=λb u q _ _ _=>k b u q
 slot:=λb u q _ _ _=>⟨u.slots,k b u q⟩
 free:=λb u q n _=>by rw[qi (Q7 (Zx (Qw q) hp))];exact n
 there:=λb u q _=>⟨u,k b u q⟩
 tups:=λb xs q=>by rw[qi (qu q hn)];exact q
 frzs:=λb u xs q=>by rw[qi (qu q hn)];exact q
 tbls:=λb ps q=>⟨#[],by rw[qi (qu q hn),q];simp,.nil⟩
theorem Un.write(c:Mut (H x))(he:e=x\/H e=some (.own x))(k:∀b u,b≠e->h.get? b=some u->h'.get? b=some u)(f:∃u,h'.get? e=some u):Un fs ex H (upd H x o) h h':=by
 have i:∀b,H b=none->b≠x:=λb n z=>by subst z;rw[n]at c;exact c
 have d:∀b,H b=none->b≠e:=λb n z=>by
  grind
 have a:∀b u,H b=some u -> ¬ Mut (some u)->b≠x:=λb u q j z=>by grind
 refine⟨λb u q n _ _=>k b u (d b n) q,λb u q n _ _=>⟨u.slots,k b u (d b n) q⟩,λb u q n _=>by grind[qi],λb u q _=>?_,
  λb g q=>by rw[qi (a b _ q λz=>z)];exact q,λb u g q=>by rw[qi (a b _ q λz=>z)];exact q,λb ps q=>⟨#[],by rw[qi (a b _ q λz=>z),q];simp,.nil⟩⟩
 grind
end
def trk(h:Heap)(H:Hp):List Addr:=(Qm h.objs.size).filter λa=>(H a).isSome
def zfg(h:Heap)(H:Hp):Heap:=PySem.W.hideAll h (trk h H)
theorem zld(h:Heap)(H:Hp):(zfg h H).objs.size=h.objs.size:=PySem.W.hideAll_size _ _
theorem zog(e:h.get? b=some o)(n:H b=none):(zfg h H).get? b=some o :=
 PySem.W.hideAll_get _ e λa=>by
  have q:=(Ym.mp a).2;grind
theorem zuf(e:(zfg h H).get? b=some o):h.get? b=some o/\H b=none:=by
 have a:=PySem.W.of_hideAll (trk h H) e;refine⟨a,?_⟩;cases q:H b with
 |none=>rfl
 |some x =>
  have c:b∈trk h H:=Ym.mpr ⟨Zi.mpr (Qw a),by simp[q]⟩;have z:(zfg h H).get? b=none:=PySem.W.hideAll_none (trk h H) c;grind
def zur(g h:Heap)(L:Addr):List (Addr×Obj):=(Qm h.objs.size).filterMap λa=>if a=L\/(g.get? a).isSome=true then none else(h.get? a).map λo=>(a,o)
def rest(g h:Heap)(L d:Addr):List (Addr×Obj):=(zur g h L).filter λp=>decide (p.1≠d)
structure Mod(K:Qd)(mg:Str->Option Value)(base:Heap):Prop where
 kin:K.In base
 glob:base.Ns Zu mg
 blt:∃mb,base.Ns Qdy mb /\ ∀x:Str,x ≠ "__name__" -> mb x=Zl x
 nolimit:base.NoLimit
structure Cx where
 prog:Zw
 w:World
 K:Qd
 mg:Str->Option Value
 base:Heap
 A:Yk
 N:List Str
 s₀:Qt
 H₀:Hp
 env:Env
 outer:List Env
 stack:List Env
 ex:List Addr
 fn:Str->Bool
 calm:Bool
 pn:List (Addr×Obj)
 xe:Value->Qt->Prop
def frs(l:List Env):List Addr:=l.filterMap (·.frame)
abbrev Cx.fs(X:Cx):List Addr:=frs X.outer
def Vis(sc:Scope)(x:Str):Prop:=sc.names.lookup x=some .local\/sc.names.lookup x=some .cell\/sc.names.lookup x=some .free
def Loc(sc:Scope)(x:Str):Prop:=sc.names.lookup x=some .local\/sc.names.lookup x=some .cell
def xeu(env:Env)(h:Heap)(m:Str->Option Value)(x:Str)(u:Value):Prop :=
 (env.kindOf x=some .local/\m x=some u)\/((env.kindOf x=some .cell\/env.kindOf x=some .free) /\ ∃c,env.cells.lookup x=some c/\h.IsCell c (some u))
structure Cx.Ok(X:Cx):Prop where
 mod:Mod X.K X.mg X.base
 kind:X.env.scope.kind = .function
 glob:X.env.globals=Zu
 blt:X.env.builtins=Qdy
 above:X.s₀.heap.objs.size<=X.env.locals
 inj:∀x y c,X.env.cells.lookup x=some c->X.env.cells.lookup y=some c->x=y
 has:∀x,(X.env.kindOf x=some .cell\/X.env.kindOf x=some .free) ->∃c,X.env.cells.lookup x=some c
 cab:∀x c,X.fn x=true->X.env.cells.lookup x=some c->X.s₀.heap.objs.size<=c
 hd:X.calm=true->X.A.handled=none
 frames:X.A.frames=some X.stack
 stk:X.stack=X.outer\/(X.stack=X.env::X.outer/\X.env.frame=some X.env.locals)
 exf:∀b∈X.ex,b≠X.env.locals /\ ∀x c,X.env.cells.lookup x=some c->c≠b
 bs:∀b o,X.base.get? b=some o->X.s₀.heap.get? b=some o/\X.H₀ b=none
 bsz:X.base.objs.size<=X.s₀.heap.objs.size
 noex:∀b o,X.base.get? b=some o->b∉X.ex
 exfs:∀b∈X.ex,b∉X.fs
 funs:X.s₀.heap.FunFrames X.base X.outer
 frf:∀b∈X.fs,X.H₀ b=none
structure Inv(X:Cx)(pins:List (Addr×Obj))(σ:List (Option V))(H:Hp)(s:Qt):Prop where
 ok:X.Ok
 os:s.os=X.s₀.os
 bare:Qgz s.gens
 base:Un X.fs X.ex X.H₀ H X.s₀.heap s.heap
 loc:∃m,s.heap.Ns X.env.locals m /\ ∀(i:Nat)(x:Str)(v:V),X.N[i]?=some x->σ[i]?=some (some v)->Vis X.env.scope x ->∃u,RelV v u/\xeu X.env s.heap m x u
 cell:∀x c,X.env.cells.lookup x=some c ->∃v,s.heap.IsCell c v
 free:H X.env.locals=none
 freeC:∀x c,X.env.cells.lookup x=some c->H c=none
 pin:∀p∈X.pn++pins,s.heap.get? p.1=some p.2/\H p.1=none/\p.1≠X.env.locals/\p.1∉X.fs /\ ∀v,p.2.data≠.cell v
 hok:HOk X.prog X.w H s.heap
 len:σ.length=X.N.length
section
variable{X:Cx}{pins:List (Addr×Obj)}{σ:List (Option V)}{H H':Hp}{s:Qt}{h':Heap}
theorem Cx.Ok.nofr(ok:X.Ok)(e:X.base.get? b=some o):b∉X.fs:=λa=>by
 have:=(ok.funs.mem a).1;grind
theorem Inv.bs(I:Inv X pins σ H s):∀b o,X.base.get? b=some o->s.heap.get? b=some o/\H b=none:=λb o e =>
 ⟨I.base.keep b o (I.ok.bs b o e).1 (I.ok.bs b o e).2 (I.ok.nofr e) (I.ok.noex b o e),I.base.free b o (I.ok.bs b o e).1 (I.ok.bs b o e).2 (I.ok.noex b o e)⟩
theorem Inv.bk(I:Inv X pins σ H s):∀b o,X.base.get? b=some o->s.heap.get? b=some o:=λb o e=>(I.bs b o e).1
theorem Inv.mod(I:Inv X pins σ H s):Mod X.K X.mg X.base:=I.ok.mod
theorem Inv.kIn(I:Inv X pins σ H s):X.K.In s.heap:=I.ok.mod.kin.keeps I.bk
theorem Inv.lt(I:Inv X pins σ H s):X.env.locals<s.heap.objs.size:=let ⟨_,hn,_⟩:=I.loc;hn.lt
theorem Inv.sz(I:Inv X pins σ H s):X.s₀.heap.objs.size<=s.heap.objs.size:=Zq I.ok.above (Yq I.lt)
theorem Inv.nofs(I:Inv X pins σ H s){a:Addr}(h:s.heap.objs.size<=a):a∉X.fs:=λb=>by
 obtain⟨_,o,c,_⟩:=I.ok.funs.mem b;exact absurd (Zx (Qw c) (Zq I.sz h)) (J5 _)
theorem Inv.cne(I:Inv X pins σ H s):∀x c,X.env.cells.lookup x=some c->c≠X.env.locals:=λx c e z=>by
 obtain⟨v,o,d,f⟩:=I.cell x c e;obtain⟨m,⟨g,h,i,a,b,_⟩,_⟩:=I.loc;grind
theorem Inv.funs(I:Inv X pins σ H s):s.heap.FunFrames X.base X.outer:=by
 have all:∀(l:List Env),(∀b∈frs l,b∈X.fs)->X.s₀.heap.FunFrames X.base l->s.heap.FunFrames X.base l:=by
  intro l
  induction l with
  |nil=>intro _ _;trivial
  |cons g r h =>
   intro d i;obtain⟨j,⟨L,o,f,k,m,n⟩,p⟩:=i;have a:=d L (by unfold frs;grind);obtain⟨q,e⟩:=I.base.slot L o m (I.ok.frf L a) a λz=>I.ok.exfs L z a;exact⟨j,⟨L,_,f,k,e,n⟩,h (λb c=>d b (by unfold frs;rw[J6,f];exact Qk _ c)) p⟩
 exact all X.outer (λ_ c=>c) I.ok.funs
theorem Inv.stack(I:Inv X pins σ H s):s.heap.FunFrames X.base X.stack:=by
 rcases I.ok.stk with e|⟨e,a⟩
 ·rw[e];exact I.funs
 ·rw[e];obtain⟨m,b,_⟩:=I.loc;refine .cons (by rw[I.ok.kind];decide) a b ?_ I.funs;exact Heap.get?_none_of_le (Zq I.ok.bsz I.ok.above)
theorem Inv.stkSub(I:Inv X pins σ H s):∀b∈frs X.stack,b∈X.env.locals::X.fs:=λb a=>by
 rcases I.ok.stk with e|⟨e,c⟩
 ·grind
 ·rw[e]at a;unfold frs at a;rw[J6,c]at a;exact a
theorem Inv.stkFree(I:Inv X pins σ H s):∀b∈frs X.stack,H b=none:=λb a=>by
 rcases Zd.mp (I.stkSub b a)with e|a
 ·rw[e];exact I.free
 ·obtain⟨_,o,c,_⟩:=I.ok.funs.mem a;exact I.base.free b o c (I.ok.frf b a) λz=>I.ok.exfs b z a
theorem Inv.step{ch:List Addr}(I:Inv X pins σ H s)(f:∀b∈ch,(b∈X.ex\/X.s₀.heap.objs.size<=b)/\b≠X.env.locals/\(∀x c,X.env.cells.lookup x=some c->c≠b) /\ ∀p∈X.pn++pins,p.1≠b)(keep:∀b o,b≠X.env.locals->b∉X.fs->b∉ch->s.heap.get? b=some o->H b=none->h'.get? b=some o)(slot:∀b o,b≠X.env.locals->b∈X.fs->b∉ch->s.heap.get? b=some o->H b=none ->∃D,h'.get? b=some { o with slots:=D })(free:∀b o,b∉ch->s.heap.get? b=some o->H b=none->H' b=none)(there:∀b o,b∉ch->s.heap.get? b=some o ->∃C,h'.get? b=some C)(tups:∀b xs,H b=some (.tup xs)->H' b=some (.tup xs))(frzs:∀b o u,H b=some (.frz o u)->H' b=some (.frz o u))(tbls:∀b ps,H b=some (.tbl ps) ->∃j,H' b=some (.tbl (ps++j))/\GoodT H' j)(ns:∀m,s.heap.Ns X.env.locals m->h'.Ns X.env.locals m)(E:HOk X.prog X.w H' h')(N:Qgz g'):
  Inv X pins σ H' { s with heap:=h',gens:=g',drawn:=d',toks:=t' }:=by
  have B:∀b o,X.s₀.heap.get? b=some o->b≠X.env.locals:=λb o e=>Q7 (Zx (Qw e) I.ok.above);have w:∀b o,X.s₀.heap.get? b=some o->b∉X.ex->b∉ch:=λb o e a y=>by
   rcases(f b y).1 with z|z
   ·exact a z
   ·exact absurd (Zx (Qw e) z) (J5 _)
  have g:∀x c,X.env.cells.lookup x=some c ->∀v,s.heap.IsCell c v->h'.IsCell c v:=λx c e v F=>by
   obtain⟨o,A,G⟩:=F;have h:c∉ch:=λz=>(f c z).2.2.1 x c e rfl;by_cases K:c∈X.fs
   ·obtain⟨D,q⟩:=slot c o (I.cne x c e) K h A (I.freeC x c e);exact⟨_,q,G⟩
   ·exact⟨o,keep c o (I.cne x c e) K h A (I.freeC x c e),G⟩
  refine⟨I.ok,I.os,N,⟨λb o e n y a=>?_,λb o e n y a=>?_,λb o e n a=>?_,λb o e a=>?_,λb xs e=>tups b xs (I.base.tups b xs e),λb o xs e=>frzs b o xs (I.base.frzs b o xs e),λb ps e=>?_⟩,?_,λx c e=>?_,?_,λx c e=>?_,λp L=>?_,E,I.len⟩
  ·exact keep b o (B b o e) y (w b o e a) (I.base.keep b o e n y a) (I.base.free b o e n a)
  ·obtain⟨D,t⟩:=I.base.slot b o e n y a;obtain⟨O,J⟩:=slot b _ (B b o e) y (w b o e a) t (I.base.free b o e n a);grind
  ·obtain⟨C,t⟩:=I.base.there b o e a;exact free b C (w b o e a) t (I.base.free b o e n a)
  ·obtain⟨C,t⟩:=I.base.there b o e a;grind
  ·obtain⟨P,t,Q⟩:=I.base.tbls b ps e;obtain⟨R,J,g2⟩:=tbls b _ t;exact⟨P++R,by grind,(Q.mono frzs).app g2⟩
  ·obtain⟨m,S,T⟩:=I.loc;refine⟨m,ns m S,λi x v t J U=>?_⟩;obtain⟨u,r,l⟩:=T i x v t J U;refine⟨u,r,?_⟩;rcases l with l|⟨k,c,e,z⟩
   ·exact .inl l
   ·exact .inr ⟨k,c,e,g x c e _ z⟩
  ·obtain⟨v,z⟩:=I.cell x c e;exact⟨v,g x c e v z⟩
  ·obtain⟨m,⟨o,_,_,A,_⟩,_⟩:=I.loc;exact free _ o (λz=>(f _ z).2.1 rfl) A I.free
  ·obtain⟨v,o,A,G⟩:=I.cell x c e;exact free c o (λz=>(f c z).2.2.1 x c e rfl) A (I.freeC x c e)
  ·obtain⟨e,n,ne,M,d⟩:=I.pin p L;have h:p.1∉ch:=λz=>(f p.1 z).2.2.2 p L rfl;exact⟨keep p.1 p.2 ne M h e n,free p.1 p.2 h e n,ne,M,d⟩
theorem Inv.un(I:Inv X pins σ H s)(u:Un X.fs [] H H' s.heap h')(c:HOk X.prog X.w H' h'):Inv X pins σ H' { s with heap:=h',toks:=t' }:=by
 obtain⟨m,⟨o,l,p,h,r⟩,_⟩:=id I.loc;obtain⟨q,i⟩:=u.any h I.free (by simp);exact I.step (g':=s.gens) (d':=s.drawn) (ch:=[]) (λ_ z=>nomatch z) (λb o _ d _ e n=>u.keep b o e n d (by simp)) (λb o _ d _ e n=>u.slot b o e n d (by simp)) (λb o _ e n=>u.free b o e n (by simp)) (λb o _ e=>u.there b o e (by simp)) u.tups u.frzs u.tbls (λt j=>by
  obtain⟨v,f,g,a,k⟩:=j;rw[h]at a;cases a;exact⟨_,f,g,i,k⟩) c I.bare
theorem Inv.call(I:Inv X pins σ H s)(u:Un (frs X.stack) ch H H' s.heap h')(g:HOk X.prog X.w H' h')(l:Qgz g')(d:∀b∈ch,(b∈X.ex\/X.s₀.heap.objs.size<=b)/\b≠X.env.locals/\(∀x c,X.env.cells.lookup x=some c->c≠b) /\ ∀p∈X.pn++pins,p.1≠b):
 Inv X pins σ H' { s with heap:=h',gens:=g',drawn:=d',toks:=t' }:=by
  obtain⟨m,⟨o,w,y,k,r⟩,_⟩:=id I.loc;obtain⟨A,h⟩:=u.any k I.free λz=>(d _ z).2.1 rfl;exact I.step (ch:=ch) d (λb o h q a e n=>u.keep b o e n (λz=>(Zd.mp (I.stkSub b z)).elim h q) a) (λb o _ _ a e n=>u.any e n a) (λb o a e n=>u.free b o e n a) (λb o a e=>u.there b o e a) u.tups u.frzs u.tbls (λB t=>by
   obtain⟨C,i,j,f,v⟩:=t;rw[k]at f;cases f;exact⟨_,i,j,h,v⟩) g l
theorem Inv.turned(I:Inv X pins σ H s)(k:∀b o,b≠it->s.heap.get? b=some o->h'.get? b=some o)(j:H it=none)(hL:it≠X.env.locals)(l:it∈X.ex\/X.s₀.heap.objs.size<=it)(t:∀x c,X.env.cells.lookup x=some c->c≠it)(w:∀p∈X.pn++pins,p.1≠it):Inv X pins σ H { s with heap:=h',toks:=t' }:=by
  have d:∀b u,H b=some u->b≠it:=λb u e z=>by grind
  refine I.step (g':=s.gens) (d':=s.drawn) (ch:=[it]) (λb y=>?_) (λb o _ _ a e _=>k b o (λz=>a (by simp[z])) e) (λb o _ _ a e _=>⟨o.slots,k b o (λz=>a (by simp[z])) e⟩) (λ_ _ _ _ n=>n)
   (λb o a e=>⟨o,k b o (λz=>a (by simp[z])) e⟩) (λ_ _ e=>e) (λ_ _ _ e=>e) (λb ps e=>⟨#[],by rw[e];simp,.nil⟩) (λm f=>?_) (λb u e=>?_) I.bare
  ·grind
  ·obtain⟨o,g,h,i,r⟩:=f;exact⟨o,g,h,k _ o (Z9 hL) i,r⟩
  ·refine(I.hok b u e).stay (λc v a q=>k c v ?_ q) (λ_ q=>q) λ_ _ q=>q;grind
theorem Inv.tok(I:Inv X pins σ H s)(t:Nat):Inv X pins σ H { s with toks:=t }:=I.un (h':=s.heap) (t':=t) Un.refl I.hok
theorem Inv.kept(I:Inv X pins σ H s)(k:∀b u,s.heap.get? b=some u->h'.get? b=some u):Inv X pins σ H { s with heap:=h',toks:=t' }:=I.un (Un.kept k) (I.hok.kept k)
theorem Inv.laid{a:Addr}(I:Inv X pins σ H s)(k:∀b u,s.heap.get? b=some u->h'.get? b=some u)(c:s.heap.objs.size<=a)(new:ObjOk X.prog X.w (upd H a o) h' a o):
 Inv X pins σ (upd H a o) { s with heap:=h',toks:=t' }:=I.un (Un.laid k c (I.hok.fresh c)) (I.hok.laid k c new)
theorem Inv.write(I:Inv X pins σ H s)(c:Mut (H x))(he:e=x\/H e=some (.own x))(k:∀b u,b≠e->s.heap.get? b=some u->h'.get? b=some u)(a:∃u,h'.get? e=some u)(new:ObjOk X.prog X.w (upd H x o) h' x o):Inv X pins σ (upd H x o) { s with heap:=h',toks:=t' }:=I.un (Un.write c he k a) (I.hok.write c he k a new)
theorem Inv.pins_of(I:Inv X pins σ H s)(h:∀p∈pins',s.heap.get? p.1=some p.2/\H p.1=none/\p.1≠X.env.locals/\p.1∉X.fs /\ ∀v,p.2.data≠.cell v):Inv X pins' σ H s :=
 ⟨I.ok,I.os,I.bare,I.base,I.loc,I.cell,I.free,I.freeC,λp a=>(Zh.mp a).elim (λz=>I.pin p (Y1 _ z)) (h p),I.hok,I.len⟩
theorem zcg{N:List Str}(c:N.Nodup){i j:Nat}(a:N[i]?=some x)(b:N[j]?=some x):i=j:=by
 grind[List.getElem_inj]
theorem zli(I:Inv X pins σ H s)(hN:X.N.Nodup)(S:X.N[i]?=some x)(t:Loc X.env.scope x)(r:RelV v u)(h:∀V,Inv X pins (σ.set i (some v)) H V->(∃a,Vl a s.heap V.heap/\(a=X.env.locals\/X.env.cells.lookup x=some a))->Q () V)(hf:X.fn x=true\/X.env.scope.names.lookup x=some .local:=by first|exact .inl rfl|exact .inr rfl|assumption):wpAny M A (storeName X.env x u) Q E s:=by
  obtain⟨m,W,hl⟩:=id I.loc;have L:(X.env.scope.kind == .class||(X.env.scope.kind == .module&&X.env.locals != X.env.globals))=false:=by rw[I.ok.kind];rfl
  have C:i<σ.length:=by rw[I.len];grind
  have cne:=I.cne;have g:∀{a:Addr}{K:Heap},(∃o,s.heap.get? a=some o/\H a=none)->Vl a s.heap K->HOk X.prog X.w H K:=λ{a K} ha f b ob e=>by
   obtain⟨_,_,Y⟩:=ha;refine(I.hok b ob e).stay (λc T w q=>(f.2 c ?_).trans q) (λ_ q=>q) λ_ _ q=>q;grind
  rcases t with D|D
  ·refine wpAny_storeName_local D W (λK Z f=>?_) L;obtain⟨oL,_,_,hoL,_⟩:=id W;refine h _ ⟨I.ok,I.os,I.bare,⟨λb o e n F t=>?_,λb o e n F t=>?_,I.base.free,λb o e t=>?_,I.base.tups,I.base.frzs,I.base.tbls⟩,⟨_,Z,λj y v' l B e3=>?_⟩,λy c e=>?_,I.free,I.freeC,λp hp=>?_,g ⟨oL,hoL,I.free⟩ f,by simpa using I.len⟩ ⟨_,f,.inl rfl⟩
   ·exact(f.2 b (Q7 (Zx (Qw e) I.ok.above))).trans (I.base.keep b o e n F t)
   ·obtain⟨sl,l⟩:=I.base.slot b o e n F t;exact⟨sl,(f.2 b (Q7 (Zx (Qw e) I.ok.above))).trans l⟩
   ·obtain⟨o',l⟩:=I.base.there b o e t;exact⟨o',(f.2 b (Q7 (Zx (Qw e) I.ok.above))).trans l⟩
   ·by_cases G:j=i
    ·subst G;rw[S]at l;cases l;rw[Qfz C]at B;cases B;exact⟨u,r,.inl ⟨D,by simp⟩⟩
    ·rw[Qhk (Z9 G)]at B;obtain⟨u',r',q⟩:=hl j y v' l B e3;refine⟨u',r',?_⟩;rcases q with⟨k,e⟩|⟨k,c,e,z⟩
     ·refine .inl ⟨k,?_⟩;have:y≠x:=λe=>G (zcg hN l (e▸S));simp[this,e]
     ·exact .inr ⟨k,c,e,z.sameBut f (cne y c e)⟩
   ·obtain⟨T,z⟩:=I.cell y c e;exact⟨T,z.sameBut f (cne y c e)⟩
   ·obtain⟨e,n,ne,nf,d⟩:=I.pin p hp;exact⟨(f.2 p.1 ne).trans e,n,ne,nf,d⟩
  ·have J:X.fn x=true:=by
    rcases hf with z|z
    ·exact z
    ·rw[z]at D;cases D
   obtain⟨c,w⟩:=I.ok.has x (.inl D);obtain⟨T,z⟩:=I.cell x c w;refine Qhu I.ok.kind D w z (λK N f=>?_);obtain⟨oc,O,P⟩:=id z;refine h { s with heap:=K } ⟨I.ok,I.os,I.bare,⟨λb o e n F t=>?_,λb o e n F t=>?_,I.base.free,λb o e t=>?_,I.base.tups,I.base.frzs,I.base.tbls⟩,⟨m,W.sameBut f (Z9 (cne x c w)),λj y v' l B e3=>?_⟩,λy U e=>?_,I.free,I.freeC,λp hp=>?_,g ⟨oc,O,I.freeC x c w⟩ f,by simpa using I.len⟩ ⟨c,f,.inr w⟩
   ·exact(f.2 b (Q7 (Zx (Qw e) (I.ok.cab x c J w)))).trans (I.base.keep b o e n F t)
   ·obtain⟨sl,l⟩:=I.base.slot b o e n F t;exact⟨sl,(f.2 b (Q7 (Zx (Qw e) (I.ok.cab x c J w)))).trans l⟩
   ·obtain⟨o',l⟩:=I.base.there b o e t;exact⟨o',(f.2 b (Q7 (Zx (Qw e) (I.ok.cab x c J w)))).trans l⟩
   ·by_cases G:j=i
    ·subst G;rw[S]at l;cases l;rw[Qfz C]at B;cases B;exact⟨u,r,.inr ⟨.inl D,c,w,N⟩⟩
    ·rw[Qhk (Z9 G)]at B;obtain⟨u',r',q⟩:=hl j y v' l B e3;refine⟨u',r',?_⟩;rcases q with q|⟨k,U,e,z'⟩
     ·exact .inl q
     ·refine .inr ⟨k,U,e,z'.sameBut f ?_⟩;rintro rfl;exact G (zcg hN l (I.ok.inj _ _ _ e w▸S))
   ·by_cases R:U=c
    ·subst R;exact⟨_,N⟩
    ·obtain⟨w2,z2⟩:=I.cell y U e;exact⟨w2,z2.sameBut f R⟩
   ·obtain⟨e,n,ne,nf,d⟩:=I.pin p hp;refine⟨(f.2 p.1 ?_).trans e,n,ne,nf,d⟩;intro q;rw[q,O]at e;have q':=Qr e;exact d T (by rw[<- q'];exact P)
theorem qjg(I:Inv X pins σ H s)(b:X.N.Nodup)(c:X.N[i]?=some x)(d:Loc X.env.scope x)(r:RelV v u)(h:∀a,Inv X pins (σ.set i (some v)) H a->Q () a)(e:X.fn x=true\/X.env.scope.names.lookup x=some .local:=by first|exact .inl rfl|exact .inr rfl|assumption):wpAny M A (storeName X.env x u) Q E s :=
  zli I b c d r (λa f _=>h a f) e
theorem Inv.call'(I:Inv X pins σ H s)(f:s'.os=s.os)(u:Un (frs X.stack) ch H H' s.heap s'.heap)(a:HOk X.prog X.w H' s'.heap)(g:Qgz s'.gens)(d:∀b∈ch,(b∈X.ex\/X.s₀.heap.objs.size<=b)/\b≠X.env.locals/\(∀x c,X.env.cells.lookup x=some c->c≠b) /\ ∀p∈X.pn++pins,p.1≠b):Inv X pins σ H' s':=by
  obtain⟨h,g',d',t',i⟩:=s';have e:=f;subst e;exact I.call (g':=g') (t':=t') (d':=d') u a g d
end
abbrev XK:=Value->Option Addr->Hp->Prop
abbrev St:=List (Option V)
abbrev VK:=V->Hp->Prop
abbrev TE:=St->Hp->VK->Prop
abbrev TT:=St->Hp->(Bool->Hp->Prop)->Prop
abbrev TA:=St->Hp->(List V->Hp->Prop)->Prop
structure Ends where
 nx:St->Hp->Prop
 rt:VK
 bk:St->Hp->Prop:=λ_ _=>False
 ct:St->Hp->Prop:=λ_ _=>False
abbrev TS:=Ends->St->Hp->Prop
def EP(X:Cx)(a:List (Addr×Obj))(c:St)(Q:VK)(u:Value)(d:Qt):Prop :=∃v b,Inv X a c b d/\RelV v u/\Q v b
def TP(X:Cx)(a:List (Addr×Obj))(d:St)(Q:Bool->Hp->Prop)(b:Bool)(e:Qt):Prop :=∃c,Inv X a d c e/\Q b c
def AP(X:Cx)(a:List (Addr×Obj))(d:St)(Q:List V->Hp->Prop)(us:List Value)(e:Qt):Prop :=∃b c,Inv X a d c e/\Vals b us/\Q b c
def SP(X:Cx)(b:List (Addr×Obj))(D:Ends)(f:Flow)(d:Qt):Prop :=
 match f with
 |.next =>∃a c,Inv X b a c d/\D.nx a c
 |.brk =>∃a c,Inv X b a c d/\D.bk a c
 |.cont =>∃a c,Inv X b a c d/\D.ct a c
 |.ret u =>∃v a c,Inv X b a c d/\RelV v u/\D.rt v c
def PE(X:Cx)(e:Expr)(t:TE):Prop :=
 ∀(a:List (Addr×Obj))(s:Qt)(b:St)(H:Hp)(Q:VK),Inv X a b H s->t b H Q->wpAny (model X.prog X.w) X.A (eval e X.env) (EP X a b Q) X.xe s
def PT(X:Cx)(e:Expr)(t:TT):Prop :=
 ∀(a:List (Addr×Obj))(s:Qt)(b:St)(H:Hp)(Q:Bool->Hp->Prop),Inv X a b H s->t b H Q->wpAny (model X.prog X.w) X.A (Qjx e X.env (eval e X.env)) (TP X a b Q) X.xe s
def PW(X:Cx)(e:Expr)(t:TT):Prop :=
 ∀(b:Sem Value)(a:List (Addr×Obj))(s:Qt)(c:St)(H:Hp)(Q:Bool->Hp->Prop),Inv X a c H s->t c H Q->wpAny (model X.prog X.w) X.A (Qjx e X.env b) (TP X a c Q) X.xe s
theorem PW.pt(h:PW X e t):PT X e t:=h _
def PA(X:Cx)(es:List Expr)(t:TA):Prop :=
 ∀(b:Pos)(a:List (Addr×Obj))(s:Qt)(c:St)(H:Hp)(Q:List V->Hp->Prop),Inv X a c H s->t c H Q->wpAny (model X.prog X.w) X.A (spliced (V5 b (Qu es X.env))) (AP X a c Q) X.xe s
def PS(X:Cx)(st:Stmt)(t:TS):Prop :=
 ∀(a:List (Addr×Obj))(s:Qt)(b:St)(H:Hp)(D:Ends),Inv X a b H s->t D b H->wpAny (model X.prog X.w) X.A (exec st X.env) (SP X a D) X.xe s
def PSs(X:Cx)(st:List Stmt)(t:TS):Prop :=
 ∀(a:List (Addr×Obj))(s:Qt)(b:St)(H:Hp)(D:Ends),Inv X a b H s->t D b H->wpAny (model X.prog X.w) X.A (execs st X.env) (SP X a D) X.xe s
theorem thn{Q b:α->Qt->Prop}(h:wpAny M A t Q E s)(c:∀a s,Q a s->b a s):wpAny M A t b E s:=Yh h c λ_ _ x=>x
section
variable{X:Cx}
def zbm(i:Nat):TE:=λa H Q =>∃v,a[i]?=some (some v)/\Q v H
def tC(v:V):TE:=λ_ H Q=>Q v H
theorem qer{pos:Pos}(k:X.N[i]?=some x)(n:Vis X.env.scope x)(hd:Nd0 x:=by decide)(g:Nd1 x:=by decide):PE X (.Name x pos) (zbm i):=by
 intro f s o H Q I h;obtain⟨v,e,h⟩:=h;obtain⟨m,p,q⟩:=I.loc;obtain⟨u,r,l⟩:=q i x v k e n;have b:EP X f o Q u s:=⟨v,H,I,r,h⟩
 rcases l with⟨d,t⟩|⟨d,c,j,a⟩
 ·exact wpAny_Name (Qht I.ok.kind d p t b) hd
 ·rcases d with d|d
  ·exact wpAny_Name (Qig I.ok.kind d j a b) hd
  ·exact wpAny_Name (wpAny_loadName_free I.ok.kind d j a b g) hd
theorem zft{i j pos}:PE X (.Constant (.int i) j pos) (tC (.int i)):=λ_ _ _ H _ I h=>wpAny_Constant_int ⟨.int i,H,I.tok _,⟨_,rfl⟩,h⟩
theorem xdf{b j pos}:PE X (.Constant (.bool b) j pos) (tC (.bl b)):=λ_ _ _ H _ I h=>Constant_bool ⟨.bl b,H,I,rfl,h⟩
theorem xao{j pos}:PE X (.Constant .none j pos) (tC .non):=λ_ _ _ H _ I h=>Constant_none ⟨.non,H,I,rfl,h⟩
theorem zfr{x j pos}:PE X (.Constant (.str x) j pos) (tC (.str x)):=λ_ _ _ H _ I h=>Calls.Constant_str ⟨.str x,H,I.tok _,⟨_,rfl⟩,h⟩
def Gl(X:Cx)(x:Str):Prop:=X.env.kindOf x=some .globalImplicit
theorem qys{a:St}(I:Inv X pins a H s)(b:Gl X x)(c:X.mg x=some u)(h:Q u s)(hd:Nd0 x:=by decide):wpAny (model X.prog X.w) X.A (eval (.Name x pos) X.env) Q E s :=
  Qei I.ok.kind b (Calls.loadGlobal_global (by rw[I.ok.glob];exact I.mod.glob.keeps I.bk) c h) hd
theorem qik{E:Value->Qt->Prop}{a:St}{pos:Pos}(I:Inv X pins a H s)(b:Gl X x)(c:X.mg x=none)(d:Zl x=some u)(h:Q u s)(e:x ≠ "__name__":=by decide)(hd:Nd0 x:=by decide):wpAny (model X.prog X.w) X.A (eval (.Name x pos) X.env) Q E s:=by
  obtain⟨i,f,g⟩:=I.mod.blt;exact Qei I.ok.kind b (Calls.loadGlobal_builtin (by rw[I.ok.glob];exact I.mod.glob.keeps I.bk) c (by rw[I.ok.blt];exact f.keeps I.bk) ((g x e).trans d) h) hd
theorem zvp(a:Gl X x)(b:X.mg x=some u)(r:RelV v u)(hd:Nd0 x:=by decide):PE X (.Name x pos) (tC v) :=
 λ_ _ _ H _ I h=>qys I a b ⟨v,H,I,r,h⟩ hd
theorem qyz{pos:Pos}(a:Gl X x)(b:X.mg x=none)(c:Zl x=some u)(r:RelV v u)(d:x ≠ "__name__":=by decide)(hd:Nd0 x:=by decide):PE X (.Name x pos) (tC v) :=
 λ_ _ _ H _ I h=>qik I a b c ⟨v,H,I,r,h⟩ d hd
variable{a b:Expr}{ta tb:TE}{pos:Pos}
def tB(t:TE):TT:=λa H Q=>t a H λx b =>∃c,x = .bl c/\Q c b
theorem zzz(h:PE X e t)(he:∀a,Qjx e X.env a=(do let v <- a;Qhg e.pos;Qdm [v] (truthy v)):=by intro _;rfl):PT X e (tB t):=by
 intro b s f H Q I g;refine isTrue_plain (thn (h b s f H _ I g) λv m c=>?_) (he _);obtain⟨x,i,j,k,l⟩:=c;obtain⟨d,rfl,q⟩:=l;cases k;exact Y0 ⟨i,j,q⟩
variable{tA tB':TT}{rest:List Expr}
def xfc(t u:TT):TT:=λa H Q=>t a H λc b=>if c=true then u a b Q else Q false b
def tOr(t u:TT):TT:=λa H Q=>t a H λc b=>if c=true then Q true b else u a b Q
def xgq(t:TT):TT:=λa H Q=>t a H λc b=>Q (!c) b
theorem zul(d:PT X a tA):PW X (.BoolOp .And [a] pos) tA:=by
 intro g b s f H Q I h;refine isTrue_and (thn (d b s f H Q I h) λc i e=>?_);grind[isTrue_and_nil]
theorem xah(d:PT X a tA):PW X (.BoolOp .Or [a] pos) tA:=by
 intro g b s f H Q I h;refine isTrue_or (thn (d b s f H Q I h) λc i e=>?_);grind[isTrue_or_nil]
theorem zyv(k:PT X a tA)(l:PW X (.BoolOp .And (b::rest) pos) tB'):PW X (.BoolOp .And (a::b::rest) pos) (xfc tA tB'):=by
 intro m d s f H Q I h;refine isTrue_and (thn (k d s f H _ I h) λc n e=>?_);obtain⟨g,i,j⟩:=e;cases c with
 |true=>exact l m d n f g Q i j
 |false=>exact⟨g,i,j⟩
theorem xdi(k:PT X a tA)(l:PW X (.BoolOp .Or (b::rest) pos) tB'):PW X (.BoolOp .Or (a::b::rest) pos) (tOr tA tB'):=by
 intro m d s f H Q I h;refine isTrue_or (thn (k d s f H _ I h) λc n e=>?_);obtain⟨g,i,j⟩:=e;cases c with
 |true=>exact⟨g,i,j⟩
 |false=>exact l m d n f g Q i j
theorem xan(d:PT X a tA):PT X (.UnaryOp .Not a pos) (xgq tA):=by
 intro b s e H Q I h;exact isTrue_not (d b s e H (λc f=>Q (!c) f) I h)
def xbe(d tb:TE):TE:=λa H Q=>d a H λx b =>∃c,x = .bl c/\if c=true then tb a b Q else Q (.bl false) b
def xgb(d tb:TE):TE:=λa H Q=>d a H λx b =>∃c,x = .bl c/\if c=true then Q (.bl true) b else tb a b Q
def xcf(a:TE):TE:=λb H Q=>a b H λx d =>∃c,x = .bl c/\Q (.bl (!c)) d
theorem zyg{op}(h:PE X a t):PE X (.BoolOp op [a] pos) t:=λb s c H Q I d=>BoolOp_one (h b s c H Q I d)
theorem zyu(k:PE X a ta)(l:PE X (.BoolOp .And (b::rest) pos) tb):PE X (.BoolOp .And (a::b::rest) pos) (xbe ta tb):=by
 intro d s g H Q I h;refine BoolOp_and (thn (k d s g H _ I h) λv m f=>?_);obtain⟨x,i,j,n,e⟩:=f;obtain⟨c,rfl,e⟩:=e;cases n;refine Y0 ?_;cases c with
 |true=>exact l d m g i Q j e
 |false=>exact⟨.bl false,i,j,rfl,e⟩
theorem xbf(k:PE X a ta)(l:PE X (.BoolOp .Or (b::rest) pos) tb):PE X (.BoolOp .Or (a::b::rest) pos) (xgb ta tb):=by
 intro d s g H Q I h;refine BoolOp_or (thn (k d s g H _ I h) λv m f=>?_);obtain⟨x,i,j,n,e⟩:=f;obtain⟨c,rfl,e⟩:=e;cases n;refine Y0 ?_;cases c with
 |false=>exact l d m g i Q j e
 |true=>exact⟨.bl true,i,j,rfl,e⟩
theorem zyb(f:PE X a ta):PE X (.UnaryOp .Not a pos) (xcf ta):=by
 intro b s g H Q I h;refine UnaryOp_ (thn (f b s g H _ I h) λv l d=>?_);obtain⟨x,i,j,k,e⟩:=d;obtain⟨c,rfl,e⟩:=e;cases k;exact not_of (Y0 ⟨.bl (!c),i,j,rfl,e⟩)
def tIf(t:TT)(d tb:TE):TE:=λa H Q=>t a H λc b=>if c=true then d a b Q else tb a b Q
theorem zmz(m:PT X c tA)(n:PE X a ta)(o:PE X b tb):PE X (.IfExp c a b pos) (tIf tA ta tb):=by
 intro e s f H Q I h;refine wpAny_IfExp (thn (m e s f H _ I h) λd i g=>?_);obtain⟨j,k,l⟩:=g;cases d with
 |true=>exact n e i f j Q k l
 |false=>exact o e i f j Q k l
end
def SqL(K:Qd)(H:Hp)(a:Addr)(xs:List V):Prop :=
 Rd H a (.lst xs) \/
  ∃(o:Obj)(b:Array Value)(n:Nat),K.lookup a=some o/\o.cls = .type "list" /\ o.dict=none/\o.data = .seq b n/\b.size<=Q4/\Vals xs b.toList
def SqT(K:Qd)(H:Hp)(a:Addr)(xs:List V):Prop :=
 Rd H a (.tup xs) \/
  ∃(o:Obj)(b:Array Value)(n:Nat),K.lookup a=some o/\o.cls = .type "tuple" /\ o.data = .seq b n/\b.size<=Q4/\Vals xs b.toList
def xfh:Value->Option V
 |.none=>some .non
 |.bool b=>some (.bl b)
 |.int i _=>some (.int i)
 |.str x _=>some (.str x)
 |.bytes b _=>some (.byt b)
 |.float b _=>some (.flt b)
 |.ref a=>some (.ref a)
 |.type n=>some (.ty n)
 |_=>none
theorem RelV.abs(r:RelV x u):xfh u=some x:=by
 cases x with
 |non=>cases r;rfl
 |bl _=>cases r;rfl
 |int _=>obtain⟨t,rfl⟩:=r;rfl
 |str _=>obtain⟨t,rfl⟩:=r;rfl
 |byt _=>obtain⟨t,rfl⟩:=r;rfl
 |flt _=>obtain⟨t,rfl⟩:=r;rfl
 |ref _=>cases r;rfl
 |ty _=>cases r;rfl
theorem RelV.inj(r:RelV x u)(q:RelV y u):x=y:=Qr (r.abs.symm.trans q.abs)
theorem Vals.inj:∀{xs a:List V}{us:List Value},Vals xs us->Vals a us->xs=a
 |_,_,_,.nil,.nil=>rfl
 |_,_,_,.cons r t,.cons b c=>by rw[r.inj b,Vals.inj t c]
section
variable{X:Cx}{pins:List (Addr×Obj)}{σ:St}{H:Hp}{s:Qt}{a:Addr}{xs ys:List V}
theorem SqL.of{K:Qd}(h:H a=some (.lst xs)):SqL K H a xs :=.inl (.inl h)
theorem SqT.of{K:Qd}(h:H a=some (.tup xs)):SqT K H a xs :=.inl (.inl h)
theorem Inv.list(I:Inv X pins σ H s)(h:SqL X.K H a xs):∃b:List Value,Vals xs b/\PlainL s.heap a b.toArray/\xs.length<=Q4:=by
 rcases h with h|⟨o,b,n,c,d,f,g,i,r⟩
 ·obtain⟨z,b,n,r,e⟩:=h.ok I.hok;exact⟨b,r,⟨_,n,e,rfl,rfl,rfl⟩,z⟩
 ·refine⟨b.toList,r,⟨o,n,I.kIn a o c,d,f,by simpa using g⟩,?_⟩;have e:=r.length;grind
theorem Inv.tuple(I:Inv X pins σ H s)(h:SqT X.K H a xs):∃b:List Value,Vals xs b/\IsTup s.heap a b.toArray/\xs.length<=Q4:=by
 rcases h with h|⟨o,b,n,c,d,f,g,r⟩
 ·obtain⟨z,b,r,p⟩:=h.ok I.hok;grind
 ·refine⟨b.toList,r,⟨o,I.kIn a o c,d,n,by simpa using f⟩,?_⟩;have e:=r.length;grind
theorem Inv.list_inj(I:Inv X pins σ H s)(h:SqL X.K H a xs)(h':SqL X.K H a ys):xs=ys:=by
 obtain⟨c,r,⟨o,n,e,_,_,d⟩,_⟩:=I.list h;obtain⟨b,i,⟨j,k,f,_,_,g⟩,_⟩:=I.list h';rw[e]at f;cases f;rw[d]at g;injection g with l _;have:c=b:=by grind
 subst this;exact r.inj i
theorem Inv.tuple_inj(I:Inv X pins σ H s)(h:SqT X.K H a xs)(h':SqT X.K H a ys):xs=ys:=by
 obtain⟨c,r,⟨o,e,_,n,d⟩,_⟩:=I.tuple h;obtain⟨b,i,⟨j,f,_,k,g⟩,_⟩:=I.tuple h';rw[e]at f;cases f;rw[d]at g;injection g with l _;have:c=b:=by grind
 subst this;exact r.inj i
end
abbrev Cx.wish(X:Cx)(E:Value->Qt->Prop):Cx:={ X with xe:=E }
abbrev Cx.nox(X:Cx):Cx:=X.wish λ_ _=>False
theorem Cx.Ok.wish{X:Cx}(ok:X.Ok)(E:Value->Qt->Prop):(X.wish E).Ok :=
 ⟨ok.mod,ok.kind,ok.glob,ok.blt,ok.above,ok.inj,ok.has,ok.cab,ok.hd,ok.frames,ok.stk,ok.exf,ok.bs,ok.bsz,ok.noex,ok.exfs,ok.funs,ok.frf⟩
theorem Cx.Ok.unwish{X:Cx}(ok:(X.wish E).Ok):X.Ok :=
 ⟨ok.mod,ok.kind,ok.glob,ok.blt,ok.above,ok.inj,ok.has,ok.cab,ok.hd,ok.frames,ok.stk,ok.exf,ok.bs,ok.bsz,ok.noex,ok.exfs,ok.funs,ok.frf⟩
section
variable{X:Cx}{pins:List (Addr×Obj)}{σ:St}{H:Hp}{s:Qt}{E:Value->Qt->Prop}
theorem Inv.wish(I:Inv X pins σ H s)(E:Value->Qt->Prop):Inv (X.wish E) pins σ H s:=⟨I.ok.wish E,I.os,I.bare,I.base,I.loc,I.cell,I.free,I.freeC,I.pin,I.hok,I.len⟩
theorem Inv.unwish(I:Inv (X.wish E) pins σ H s):Inv X pins σ H s:=⟨I.ok.unwish,I.os,I.bare,I.base,I.loc,I.cell,I.free,I.freeC,I.pin,I.hok,I.len⟩
theorem SP.unwish(h:SP (X.wish E) pins D f s'):SP X pins D f s':=by
 cases f with
 |next=>obtain⟨a,b,I,q⟩:=h;exact⟨a,b,I.unwish,q⟩
 |brk=>obtain⟨a,b,I,q⟩:=h;exact⟨a,b,I.unwish,q⟩
 |cont=>obtain⟨a,b,I,q⟩:=h;exact⟨a,b,I.unwish,q⟩
 |ret u=>obtain⟨v,a,b,I,r,q⟩:=h;exact⟨v,a,b,I.unwish,r,q⟩
theorem PSs.nox{st:List Stmt}(h:PSs X.nox st t):PSs X st t:=λa s b H D I c =>
 Yh (h a s b H D (I.wish _) c) (λ_ _ q=>q.unwish) λ_ _ z=>Zc z
end
section
variable{X:Cx}{st:Stmt}{rest:List Stmt}{t u:TS}{e:Expr}{te:TE}{pos:Pos}
def xbm:TS:=λD a H=>D.nx a H
def xgz(t u:TS):TS:=λD a H=>t { D with nx:=u D } a H
theorem qyk:PSs X [] xbm:=λ_ _ a H _ I h=>Qeh ⟨a,H,I,h⟩
theorem qW(c:PS X st t)(d:PSs X rest u):PSs X (st::rest) (xgz t u):=by
 intro a s e H D I h;refine wpAny_execs_cons (thn (c a s e H { D with nx:=u D } I h) λf g q=>?_);cases f with
 |next =>
  obtain⟨b,i,j,q⟩:=q;exact d a g b i D j q
 |ret v=>exact q
 |brk=>exact q
 |cont=>exact q
theorem qei(b:PS X st t):PSs X [st] t:=by
 intro a s c H D I h;refine wpAny_execs_cons (thn (b a s c H D I h) λf d q=>?_);grind[Qeh]
theorem Inv.quiet{a:St}(I:Inv X pins a H s):interactive X.env=false:=by simp[interactive,I.ok.kind]
def zxo(te:TE):TS:=λD a H=>te a H λ_ b=>D.nx a b
theorem qko(he:PE X e te)(d:Jz e none pos.line X.env=pure false:=by rfl):PS X (.Expr e pos) (zxo te):=by
 intro a s c H D I h;exact wpAny_Expr_any (thn (he a s c H _ I h) λv j b=>by obtain⟨x,f,g,k,i⟩:=b;exact⟨c,f,g,i⟩) I.quiet d
def xgg(te:TE):TS:=λD a H=>te a H D.rt
theorem qkr(he:PE X e te):PS X (.Return (some e) pos) (xgg te):=by
 intro a s c H D I h;exact wpAny_Return_some (thn (he a s c H _ I h) λv j b=>by obtain⟨x,d,f,g,i⟩:=b;exact⟨x,c,d,f,g,i⟩)
def xem(c:TT)(t u:TS):TS:=λD a H=>c a H λb d=>if b=true then t D a d else u D a d
theorem zsg(m:PT X c tc)(n:PSs X a t)(o:PSs X b u):PS X (.If c a b pos) (xem tc t u):=by
 intro e s g H D I h;refine wpAny_If (thn (m e s g H _ I h) λd i f=>?_);obtain⟨j,k,l⟩:=f;cases d with
 |true=>exact n e i g j D k l
 |false=>exact o e i g j D k l
def zzt:TS:=λ_ _ _=>False
theorem zlh:PSs X sts zzt:=λ_ _ _ _ _ _ h=>h.elim
end
abbrev TG:=V->St->Hp->(St->Hp->Prop)->Prop
abbrev TGs:=List V->St->Hp->(St->Hp->Prop)->Prop
def PG(X:Cx)(a:Expr)(t:TG):Prop :=
 ∀(b:List (Addr×Obj))(s:Qt)(d:St)(H:Hp)(v:V)(u:Value)(Q:St->Hp->Prop),Inv X b d H s->RelV v u->t v d H Q ->
  wpAny (model X.prog X.w) X.A (Qfy a X.env u) (λ_ f =>∃c e,Inv X b c e f/\Q c e) X.xe s
def PGs(X:Cx)(ts:List Expr)(t:TGs):Prop :=
 ∀(a:List (Addr×Obj))(s:Qt)(c:St)(H:Hp)(d:List V)(e:List Value)(Q:St->Hp->Prop),Inv X a c H s->Vals d e->t d c H Q ->
  wpAny (model X.prog X.w) X.A (assignInOrder ((Vk ts X.env).map (·.2)) e) (λ_ g =>∃b f,Inv X a b f g/\Q b f) X.xe s
abbrev xdr:=V->V->V->Hp->(Hp->Prop)->Prop
def xdv(X:Cx)(t:xdr):Prop :=
 ∀(a:List (Addr×Obj))(s:Qt)(b:St)(H:Hp)(o i v:V)(c d u:Value)(Q:Hp->Prop),Inv X a b H s->RelV o c->RelV i d->RelV v u->t o i v H Q ->
  wpAny (model X.prog X.w) X.A (setItem c d u) (λ_ f =>∃e,Inv X a b e f/\Q e) X.xe s
abbrev TIp:=V->V->Hp->VK->Prop
def PIp(X:Cx)(c:Operator)(t:TIp):Prop :=
 ∀(a:List (Addr×Obj))(s:Qt)(b:St)(H:Hp)(x y:V)(v u:Value)(Q:VK),Inv X a b H s->RelV x v->RelV y u->t x y H Q ->
  wpAny (model X.prog X.w) X.A (inplaceOp c v u) (EP X a b Q) X.xe s
section
variable{X:Cx}{pos:Pos}
def zey(i:Nat):TG:=λv a H Q=>Q (a.set i (some v)) H
theorem zgj(b:X.N.Nodup)(c:X.N[i]?=some x)(d:Loc X.env.scope x)(e:X.fn x=true\/X.env.scope.names.lookup x=some .local:=by first|exact .inl rfl|exact .inr rfl|assumption):PG X (.Name x pos) (zey i):=by
 intro a s g H v u Q I r h;exact Qfi (qjg I b c d r (λj f=>⟨_,H,f,h⟩) e)
def xha:TGs:=λa b H Q=>a=[]/\Q b H
def xbh(t:TG)(u:TGs):TGs:=λb c H Q =>∃v r,b=v::r/\t v c H λa d=>u r a d Q
theorem zup:PGs X [] xha:=by
 intro a s b H c d Q I r h;obtain⟨e,h⟩:=h;subst e;cases r;exact assignInOrder_nil ⟨b,H,I,h⟩
theorem znh(d:PG X e t)(f:PGs X es u)(g:(Vk (e::es) X.env).map (·.2)=Qfy e X.env::(Vk es X.env).map (·.2):=by rfl):PGs X (e::es) (xbh t u):=by
  intro a s i H p q Q I r h;obtain⟨v,w,j,h⟩:=h;subst j;cases r with
  |cons r k =>
   rw[g];refine assignInOrder_cons (thn (d a s i H _ _ _ I r h) λ_ l b=>?_);obtain⟨c,m,n,o⟩:=b;exact f a l c m _ _ Q n k o
def xes(K:Qd)(n:Nat)(t:TGs):TG:=λv c H Q =>∃a b,v = .ref a/\SqT K H a b/\b.length=n/\t b c H Q
theorem xal{k:Nat}(g:X.calm=true)(h:PGs X es t)(i:(Vk es X.env).length=n:=by rfl)(d:(Vk es X.env).findIdx? (·.1)=none:=by rfl):PG X (.Tuple es k pos) (xes X.K n t):=by
  intro c s j H v u Q I r f;obtain⟨a,l,m,p,q,f⟩:=f;subst m;cases r;obtain⟨w,x,y,B⟩:=I.tuple p;refine assign_Tuple_tuple (I.ok.hd g) y (by simp[i,<- q,x.length]) d λC z=>?_;have A:=I.kept (t':=s.toks) λb o e=>z b o (Q7 (Qw e)) e;exact h c _ j H l _ Q A (by grind) f
def xgh(b c:TE)(t:xdr):TG:=λv a H Q=>b a H λo d=>c a d λi e=>t o i v e λf=>Q a f
theorem zrk(j:PE X o to)(k:PE X i ti)(l:xdv X t)(m:∀v,Qfy (.Subscript o i pos) X.env v=(do
 let b <- Qdm [v] (eval o X.env)
 let c <- Qdm [v,b] (eval i X.env)
 Qhg pos
 Qdm [v,b,c] (setItem b c v)
 release [v,b,c] []):=by intro _;rfl):PG X (.Subscript o i pos) (xgh to ti t):=by
  intro a s f H v u Q I r h;rw[m];refine Qg (Qab (thn (j a s f H _ I h) λb n d=>?_));obtain⟨x,p,q,w,z⟩:=d;refine Qg (Qab (thn (k a n f p _ q z) λc A e=>?_));obtain⟨y,B,C,D,E⟩:=e;refine Qg (Qcl (Qg (Qab (thn (l a A f B x y v b c u _ C w D r E) λ_ F g=>?_))));grind[wpAny_release]
def zxt(te:TE)(g:TG):TS:=λD a H=>te a H λx b=>g x a b D.nx
theorem zgc(he:PE X e te)(d:PG X tg g)(f:Qiw [tg] e pos.line X.env=pure false:=by rfl)(i:Qiv [tg] e X.env=pure none:=by rfl)(j:(Vk [tg] X.env).map (·.2)=[Qfy tg X.env]:=by rfl):PS X (.Assign [tg] e pos) (zxt te g):=by
 intro a s c H D I h;refine wpAny_Assign_stores (thn (he a s c H _ I h) λv k b=>?_) f i;obtain⟨x,l,m,n,o⟩:=b;rw[j];exact thn (d a k c l x v _ m n o) λ_ p q=>q
theorem qge(c:X.N.Nodup)(d:X.N[i]?=some x)(f:Loc X.env.scope x)(he:PE X e te)(g:Jz e (some (.Name x pos')) pos.line X.env=pure false:=by rfl)(j:X.fn x=true\/X.env.scope.names.lookup x=some .local:=by first|exact .inl rfl|exact .inr rfl|assumption):
 PS X (.Assign [.Name x pos'] e pos) (zxt te (zey i)):=by
 intro a s k H D I h;refine wpAny_Assign_Name (thn (he a s k H _ I h) λv q b=>?_) g;obtain⟨y,l,m,n,o⟩:=b;exact qjg m c d f n (λr p=>⟨_,l,p,o⟩) j
def xgw(i:Nat)(te:TE)(b:TIp):TS:=λD a H =>∃x,a[i]?=some (some x)/\te a H λy c=>b x y c λz d=>D.nx (a.set i (some z)) d
theorem zye(A:X.N.Nodup)(q:X.N[i]?=some x)(o:Loc X.env.scope x)(he:PE X e te)(B:PIp X op ti)(C:X.fn x=true\/X.env.scope.names.lookup x=some .local:=by first|exact .inl rfl|exact .inr rfl|assumption):
 PS X (.AugAssign (.Name x pos') op e pos) (xgw i te ti):=by
 intro a s t H D I h;obtain⟨v,E,h⟩:=h;obtain⟨m,F,G⟩:=I.loc;have p:Vis X.env.scope x:=by rcases o with k|k;exact .inl k;exact .inr (.inl k)
 obtain⟨u,r,l⟩:=G i x v q E p;refine wpAny_AugAssign_Name ?_;have go:wpAny (model X.prog X.w) X.A (eval e X.env) (λw f=>wpAny (model X.prog X.w) X.A (inplaceOp op u w) (λr g=>wpAny (model X.prog X.w) X.A (storeName X.env x r) (λ_=>SP X a D .next) X.xe g) X.xe f) X.xe s:=by
  refine thn (he a s t H _ I h) λw J j=>?_;obtain⟨y,K,L,M,N⟩:=j;refine thn (B a J t K v y u w _ L r M N) λz V n=>?_;obtain⟨W,O,P,Q,R⟩:=n;exact qjg P A q o Q (λY S=>⟨_,O,S,R⟩) C
 rcases l with⟨b,T⟩|⟨b,c,U,d⟩
 ·exact Qht I.ok.kind b F T go
 ·rcases b with b|b
  ·exact Qig I.ok.kind b U d go
  ·rcases o with k|k
   ·have:X.env.scope.names.lookup x=some .free:=b;grind
   ·have:X.env.scope.names.lookup x=some .free:=b;grind
def ipI(f:Int->Int->Int):TIp:=λx y H Q =>∃i j,x = .int i/\y = .int j/\Q (.int (f i j)) H
theorem zyl:PIp X .Add (ipI λi j=>i+j):=by
 intro a s f H x y v u Q I b c h;obtain⟨i,j,d,e,q⟩:=h;subst d;subst e;obtain⟨t,rfl⟩:=b;obtain⟨g,rfl⟩:=c;exact iadd_int ⟨.int _,H,I.tok _,⟨_,rfl⟩,q⟩
def zym(c:TT)(tb:TS):TS:=λD a H =>∃W:Nat->St->Hp->Prop,(∃m,W m a H) /\ ∀m a H,W m a H ->
 c a H λb e=>if b=true then∃N:St->Hp->Prop,(∀d f,N d f ->∃g,g<m/\W g d f)/\tb { D with nx:=N,ct:=N,bk:=D.nx } a e else D.nx a e
theorem zce(m:Qla (model X.prog X.w) X.A X.env X.xe)(t:PT X c tc)(u:PSs X body tb):PS X (.While c body [] pos) (zym tc tb):=by
 intro a s w H D I h;obtain⟨W,⟨x,y⟩,e⟩:=h;refine wpAny_While (codeAny_whileLoop (λn z =>∃g o,Inv X a g o z/\W n g o) ?_ x ⟨w,H,I,y⟩);rintro n A ⟨d,p,B,C⟩;refine J0 m (thn (t a A d p _ B (e n d p C)) λb E i=>?_);obtain⟨q,r,j⟩:=i;cases b with
 |true =>
  obtain⟨N,K,j⟩:=j;rw[if_pos rfl];refine J0 m (thn (u a E d q _ r j) λf L k=>?_);cases f with
  |next =>
   obtain⟨l,F,G,J⟩:=k;grind
  |cont =>
   obtain⟨l,F,G,J⟩:=k;grind
  |brk=>exact k
  |ret v=>exact k
 |false =>
  rw[if_neg Yi];exact Qeh ⟨d,q,r,j⟩
end
structure It where
 go:Nat->Hp->Prop
 yld:Nat->Hp->V->Hp->Prop
 stop:Nat->Hp->Prop
def zmh(X:Cx)(a:List (Addr×Obj))(H:Hp)(b:Addr):Prop :=
 H b=none/\b≠X.env.locals/\b∉X.fs/\(b∈X.ex\/X.s₀.heap.objs.size<=b)/\(∀x c,X.env.cells.lookup x=some c->c≠b) /\ ∀p∈X.pn++a,p.1≠b
theorem Inv.fpOk{d:St}{b:Addr}(I:Inv X pins d H s)(a:s.heap.objs.size<=b)(f:H' b=none):zmh X pins H' b:=by
 refine⟨f,Yt (Zx I.lt a),I.nofs a,.inr (Zq I.sz a),λx c e z=>?_,λp g z=>?_⟩
 ·obtain⟨v,q⟩:=I.cell x c e;exact absurd (Zx q.lt (by rw[z];exact a)) (J5 _)
 ·exact absurd (Zx (Qw (I.pin p g).1) (by rw[z];exact a)) (J5 _)
structure Turn(P:Zw)(w:World)(K:Qd)(tg:Expr)(J:It)(fp:List Addr)(it:Addr)(tn:Nat->Heap->Prop):Prop where
 mem:it∈fp
 obj:∀i h,tn i h ->∀b∈fp,∃o,h.get? b=some o /\ ∀v,o.data≠.cell v
 keep:∀i h h',tn i h->(∀b∈fp,∀o,h.get? b=some o->h'.get? b=some o)->tn i h'
 item:∀(X:Cx),X.prog=P->X.w=w->X.K=K->X.calm=true ->∀(i:Nat)(pins:List (Addr×Obj))(s:Qt)(σ:St)(H:Hp)(E:Value->Qt->Prop),Inv X pins σ H s->(∀b∈fp,zmh X pins H b)->tn i s.heap->J.go i H ->
  wpAny (model P w) X.A (Qjy (.ref it)) (λr s1 =>∃u,r=some u /\
   wpAny (model P w) X.A (Qck tg (.ref it) u) (λ_ s2 =>∃x H',Inv X pins σ H' s2/\RelV x u/\J.yld i H x H'/\tn (i+1) s2.heap /\ ∀b∈fp,H' b=none) E s1) E s
 done:∀(X:Cx),X.prog=P->X.w=w->X.K=K->X.calm=true ->∀(i:Nat)(pins:List (Addr×Obj))(s:Qt)(σ:St)(H:Hp)(E:Value->Qt->Prop),Inv X pins σ H s->(∀b∈fp,zmh X pins H b)->tn i s.heap->J.stop i H ->
  wpAny (model P w) X.A (Qjy (.ref it)) (λr s1=>r=none/\Inv X pins σ H s1) E s
 self:∀(A:Yk)(i:Nat)(s:Qt)(Q:Value->Qt->Prop)(E:Value->Qt->Prop),tn i s.heap->Q (.ref it) s->wpAny (model P w) A (pyIter (.ref it)) Q E s
abbrev TI:=St->Hp->(It->Hp->Prop)->Prop
def PIE(X:Cx)(a:List (Addr×Obj))(h:St)(i:Expr)(R:It->Hp->Prop)(c:Value)(e:Qt):Prop :=
 ∃(f:Addr)(g:List Addr)(tn:Nat->Heap->Prop)(J:It)(d:Hp),c = .ref f/\Inv X a h d e/\Turn X.prog X.w X.K i J g f tn/\tn 0 e.heap/\(∀b∈g,zmh X a d b)/\R J d
def PI(X:Cx)(c iter:Expr)(wi:TI):Prop :=
 ∀(a:List (Addr×Obj))(s:Qt)(b:St)(H:Hp)(R:It->Hp->Prop),Inv X a b H s->wi b H R ->
  wpAny (model X.prog X.w) X.A (eval iter X.env) (λv d=>wpAny (model X.prog X.w) X.A (pyIter v) (PIE X a b c R) X.xe d) X.xe s
theorem zmc(b:s.heap.get? it=some o)(c:o.cls = .type n)(hd:o.data = .fields vs)(d:["enumerate","zip","dict_itemiterator","dict_reverseitemiterator","odict_iterator","itertools.zip_longest","itertools.pairwise"].contains n=false)(a:Q () s):wpAny M A (Qck tg (.ref it) u) Q E s:=by
  cases tg <;> first
   |exact Qy a
   | (cases u <;> first
    |exact Qy a
    | (refine Qg (wpAny_load b ?_)
       rw[c,hd];show wpAny M A (if(["enumerate","zip","dict_itemiterator","dict_reverseitemiterator","odict_iterator","itertools.zip_longest","itertools.pairwise"].contains n&&vs[0]?==some (Qeo _))=true then _ else _) Q E s;rw[if_neg (by intro h;rw[d,Qbd]at h;cases h)];exact Qy a))
def Itl(K:Qd)(a:Addr):It :=
 ⟨λi H =>∃b x,SqL K H a b/\b[i]?=some x,λi H x c=>c=H /\ ∀b,SqL K H a b->b[i]?=some x,λi H =>∃b,SqL K H a b/\b.length<=i⟩
def Itt(K:Qd)(a:Addr):It :=
 ⟨λi H =>∃b x,SqT K H a b/\b[i]?=some x,λi H x c=>c=H /\ ∀b,SqT K H a b->b[i]?=some x,λi H =>∃b,SqT K H a b/\b.length<=i⟩
def Itr(lo:Int)(n:Nat):It:=⟨λi _=>i<n,λi H x a=>a=H/\x = .int (lo+i),λi _=>n<=i⟩
theorem zkr{K:Qd}(a it:Addr):Turn P w K tg (Itl K a) [it] it (λi h=>h.IsListIter it a i) where
 mem:=by simp
 obj:=λi h st b hb=>by
  have e:b=it:=by grind
  subst e;obtain⟨o,e,c,d⟩:=st;grind
 keep:=λi h h' st k=>st.at λo e=>k it (by simp) o e
 item:=by
  intro X hP hw hK hc i pins s σ H E I hf st hg;subst hP hw hK;obtain⟨xs,x,hq,hx⟩:=hg;obtain⟨its,rv,p,hz⟩:=I.list hq;obtain⟨u,hu,ru⟩:=rv.get hx;obtain⟨f0,f1,f2,f3,f4,f5⟩:=hf it (by simp);refine wpAny_pyNext_list_item st p.isList (x:=u) (by grind) λh' st' sb=>?_;have I1:=I.turned (t':=s.toks) (λb o hb e=>(sb.2 b hb).trans e) f0 f1 f3 f4 f5;obtain⟨o,e,c,d⟩:=id st';exact⟨u,rfl,zmc (s:={ s with heap:=h' }) e c d (by decide) ⟨x,H,I1,ru,⟨rfl,λys hy=>by rw[I.list_inj hy hq];exact hx⟩,st',λb hb=>(hf b hb).1⟩⟩
 done:=by
  intro X hP hw hK hc i pins s σ H E I hf st hg;subst hP hw hK;obtain⟨xs,hq,hx⟩:=hg;obtain⟨its,rv,p,hz⟩:=I.list hq;obtain⟨f0,f1,f2,f3,f4,f5⟩:=hf it (by simp);have hl:=rv.length;exact wpAny_pyNext_list_end (I.ok.hd hc) st p.isList (by simp;lia) λh' eb=>⟨rfl,I.turned (t':=s.toks) (λb o hb e=>eb b o hb e) f0 f1 f3 f4 f5⟩
 self:=λ_ _ _ _ _ st h=>wpAny_pyIter_listiter st h
theorem zeh{K:Qd}(a it:Addr):Turn P w K tg (Itt K a) [it] it (λi h=>h.IsTupleIter it a i) where
 mem:=by simp
 obj:=λi h st b hb=>by
  have e:b=it:=by grind
  subst e;obtain⟨o,e,c,d⟩:=st;grind
 keep:=λi h h' st k=>st.at λo e=>k it (by simp) o e
 item:=by
  intro X hP hw hK hc i pins s σ H E I hf st hg;subst hP hw hK;obtain⟨xs,x,hq,hx⟩:=hg;obtain⟨its,rv,p,hz⟩:=I.tuple hq;obtain⟨u,hu,ru⟩:=rv.get hx;obtain⟨f0,f1,f2,f3,f4,f5⟩:=hf it (by simp);refine wpAny_pyNext_tuple_item st (show s.heap.IsTuple a its.toArray from p) (x:=u) (by grind) λh' st' sb=>?_;have I1:=I.turned (t':=s.toks) (λb o hb e=>(sb.2 b hb).trans e) f0 f1 f3 f4 f5;obtain⟨o,e,c,d⟩:=id st';exact⟨u,rfl,zmc (s:={ s with heap:=h' }) e c d (by decide) ⟨x,H,I1,ru,⟨rfl,λys hy=>by rw[I.tuple_inj hy hq];exact hx⟩,st',λb hb=>(hf b hb).1⟩⟩
 done:=by
  intro X hP hw hK hc i pins s σ H E I hf st hg;subst hP hw hK;obtain⟨xs,hq,hx⟩:=hg;obtain⟨its,rv,p,hz⟩:=I.tuple hq;obtain⟨f0,f1,f2,f3,f4,f5⟩:=hf it (by simp);have hl:=rv.length;exact wpAny_pyNext_tuple_end (I.ok.hd hc) st (show s.heap.IsTuple a its.toArray from p) (by simp;omega) λh' eb=>⟨rfl,I.turned (t':=s.toks) (λb o hb e=>eb b o hb e) f0 f1 f3 f4 f5⟩
 self:=λ_ _ _ _ _ st h=>wpAny_pyIter_tupleiter st h
theorem zfj{K:Qd}(it:Addr)(lo:Int)(n:Nat):Turn P w K tg (Itr lo n) [it] it (λi h=>IsRangeIter h it (lo+(i:Nat)*1) ((n:Int)-(i:Nat)) 1) where
 mem:=by simp
 obj:=λi h st b hb=>by
  grind
 keep:=λi h h' st k=>k it (by simp) _ st
 item:=by
  intro X hP hw hK hc i pins s σ H E I hf st hg;subst hP hw hK;obtain⟨f0,f1,f2,f3,f4,f5⟩:=hf it (by simp);have W:=Qma (prog:=X.prog) (w:=X.w) (I.ok.hd hc) it lo 1 n;refine W.item i s _ _ hg st λv h' tk hv st' kk=>?_;obtain⟨t,rfl⟩:=hv;have I1:Inv X pins σ H { s with heap:=h',toks:=tk }:=I.turned (λb o hb e=>kk b o (by grind) e) f0 f1 f3 f4 f5;refine⟨_,rfl,zmc (s:={ s with heap:=h',toks:=tk }) (n := "range_iterator") st' rfl rfl (by decide) ⟨.int (lo+i),H,I1,⟨t,?_⟩,⟨rfl,rfl⟩,st',λb hb=>(hf b hb).1⟩⟩;grind
 done:=by
  intro X hP hw hK hc i pins s σ H E I hf st hg;subst hP hw hK;obtain⟨f0,f1,f2,f3,f4,f5⟩:=hf it (by simp);exact Qge (I.ok.hd hc) st (by have:n<=i:=hg;lia) λh' eb=>⟨rfl,I.turned (t':=s.toks) (λb o hb e=>eb b o hb e) f0 f1 f3 f4 f5⟩
 self:=λ_ _ _ _ _ st h=>Qgd st h
section
variable{X:Cx}{tg:Expr}
theorem zos{c:St}{lo a:Int}(I:Inv X pins c H s)(f : -(2^62)<=lo)(g:lo<2^62)(h : -(2^62)<=a)(i:a<2^62)(q:R (Itr lo (a-lo).toNat) H):wpAny (model X.prog X.w) X.A (pyIter (.ref s.heap.objs.size)) (PIE X pins c tg R) E { s with heap:=s.heap.push { cls :=.type "range",data :=.fields #[.int lo t,.int a u,.int 1 v] },toks:=tk }:=by
  refine wpAny_pyIter_range (Qmb ..) (small_one f g h i) ?_;have d:Inv X pins c H { s with heap:=s.heap.push { cls :=.type "range",data :=.fields #[.int lo t,.int a u,.int 1 v] },toks:=tk }:=I.kept λb o e=>Qi _ e;refine⟨(s.heap.push { cls :=.type "range",data :=.fields #[.int lo t,.int a u,.int 1 v] }).objs.size,[(s.heap.push { cls :=.type "range",data :=.fields #[.int lo t,.int a u,.int 1 v] }).objs.size],_,_,H,rfl,
   d.kept (t':=tk) λb o e=>Qi _ e,zfj _ lo (a-lo).toNat,?_,λb l=>?_,q⟩
  ·have j:lo+((0:Nat):Int)*1=lo:=by simp
   have k:(((a-lo).toNat:Nat):Int)-((0:Nat):Int)=Yw lo a 1:=by grind[rangeSize_one]
   rw[j,k];exact Qx _ rfl
  ·have e:b=(s.heap.push { cls :=.type "range",data :=.fields #[.int lo t,.int a u,.int 1 v] }).objs.size:=by grind
   subst e;exact d.fpOk (Qs _) (d.hok.fresh (Qs _))
def xbz(a:TA):TI:=λb H R=>a b H λc d =>∃j:Int,c=[.int j] /\ -(2^62)<=j/\j<2^62/\R (Itr 0 j.toNat) d
theorem zjj(f:Gl X "range")(g:X.mg "range" = none)(i:PA X [a] ta)(k:Qu [a] X.env=[(false,eval a X.env)]:=by rfl):PI X tg (.Call (.Name "range" p) [a] [] pos) (xbz ta):=by
 intro b s l H R I h;refine Call_ (qik I f g boot_range (Vd (thn (i pos b s l H _ I h) λo u c=>?_) k rfl));obtain⟨v,w,x,m,d⟩:=c;obtain⟨j,e,d,y,q⟩:=d;subst e;cases m with
 |cons r n =>
  cases n;obtain⟨t,rfl⟩:=r;grind[call_range_1,zos]
def xfy(wi:TI)(g:TG)(tb:TS):TS:=λD a H=>wi a H λJ f =>∃W:Nat->Nat->St->Hp->Prop,(∃m,W 0 m a f) /\ ∀i m a H,W i m a H ->
 (J.stop i H/\D.nx a H)\/(J.go i H /\ ∃N:St->Hp->Prop,(∀b c,N b c ->∃e,e<m/\W (i+1) e b c) /\ ∀x c,J.yld i H x c->g x a c λd h=>tb { D with nx:=N,ct:=N,bk:=D.nx } d h)
def zac(a:List Addr)(h:Heap):List (Addr×Obj):=a.filterMap λb=>(h.get? b).map λo=>(b,o)
theorem qhp(a:b∈fp)(e:h.get? b=some o):(b,o)∈zac fp h:=Qik.mpr ⟨b,a,by rw[e];rfl⟩
theorem zjc(a:p∈zac fp h):p.1∈fp/\h.get? p.1=some p.2:=by
 obtain⟨b,c,e⟩:=Qik.mp a;cases q:h.get? b with
 |none=>grind
 |some o =>
  grind
theorem Inv.pinned{a:St}(I:Inv X pins a H s)(c:∀b∈fp,zmh X pins H b)(g:∀b∈fp,∃o,s.heap.get? b=some o /\ ∀v,o.data≠.cell v):Inv X (pins++zac fp s.heap) a H s :=
 I.pins_of λp d=>(Zh.mp d).elim (λz=>I.pin p (Qz _ z)) λz=>by
  obtain⟨f,e⟩:=zjc z;obtain⟨h,i,j,_⟩:=c p.1 f;grind
theorem Inv.unpinned{a:St}(I:Inv X (pins++pl) a H s):Inv X pins a H s:=I.pins_of λp b=>I.pin p (Qz _ (Y1 _ b))
theorem zqx(B:Qla (model X.prog X.w) X.A X.env X.xe)(hc:X.calm=true)(hi:PI X tg iter wi)(hg:PG X tg g)(j:PSs X body tb)(hs:∀x,Z3 iter X.env x=pure x:=by intro _;rfl):PS X (.For tg iter body [] pos) (xfy wi g tb):=by
  intro a s σ H D I h;refine wpAny_For (thn (hi a s σ H _ I h) λv s1 h1=>thn h1 λitv s2 h2=>?_) hs;obtain⟨it,C,tn,J,H2,e,I2,T,S,f2,W,⟨m0,w0⟩,E⟩:=h2;subst e;have k:∀{y:Hp},(∀b∈C,y b=none) ->∀b∈C,zmh X a y b:=λhn b j=>⟨hn b j,(f2 b j).2⟩
  refine codeAny_forLoop_any (λn s' =>∃i l y,Inv X a l y s'/\tn i s'.heap/\(∀b∈C,y b=none)/\W i n l y) ?_ m0 ⟨0,σ,H2,I2,S,λb j=>(f2 b j).1,w0⟩;rintro n s3 ⟨i,p,R,I3,F,G,w3⟩;rcases E i n p R w3 with⟨K,qn⟩|⟨go,N,hN,step⟩
  ·refine J0 B (thn (T.done X rfl rfl rfl hc i a s3 p R X.xe I3 (k G) F K) λr s4 L=>?_);obtain⟨U,I4⟩:=L;subst U;exact Qeh ⟨p,R,I4,qn⟩
  ·refine J0 B (thn (T.item X rfl rfl rfl hc i a s3 p R X.xe I3 (k G) F go) λr s4 M=>?_);obtain⟨u,U,h4⟩:=M;subst U;refine J0 B (thn h4 λ_ s5 O=>?_);obtain⟨x,H5,I5,r5,y5,A,V⟩:=O;have Y:=I5.pinned (k V) (T.obj _ _ A);refine J0 B (thn (hg _ s5 p H5 x u _ Y r5 (step x H5 y5)) λ_ s6 P=>?_);obtain⟨Z,H6,I6,q6⟩:=P;refine J0 B (thn (j _ s6 Z H6 _ I6 q6) λf s7 z=>?_);have q:∀{c:St}{t:Hp},Inv X (a++zac C s5.heap) c t s7->N c t ->∃m,m<n /\ ∃i l y,Inv X a l y s7/\tn i s7.heap/\(∀b∈C,y b=none)/\W i m l y:=λ{c t} w Q=>by
    obtain⟨m',hm,w7⟩:=hN c t Q;refine⟨m',hm,i+1,c,t,w.unpinned,T.keep _ _ _ A λb j o e=>(w.pin (b,o) (Qz _ (Qz _ (qhp j e)))).1,λb j=>?_,w7⟩;obtain⟨o,e,d⟩:=T.obj _ _ A b j;exact(w.pin (b,o) (Qz _ (Qz _ (qhp j e)))).2.1
   cases f with
   |next=>obtain⟨c,t,w,Q⟩:=z;exact q w Q
   |cont=>obtain⟨c,t,w,Q⟩:=z;exact q w Q
   |brk=>obtain⟨c,t,w,z⟩:=z;exact⟨c,t,w.unpinned,z⟩
   |ret v=>obtain⟨x7,c,t,w,r7,z⟩:=z;exact⟨x7,c,t,w.unpinned,r7,z⟩
end
abbrev R2:=V->V->Hp->VK->Prop
def OpR(X:Cx)(f:Value->Value->Sem Value)(r:R2):Prop :=
 ∀(a:List (Addr×Obj))(s:Qt)(b:St)(H:Hp)(x y:V)(v u:Value)(Q:VK),Inv X a b H s->RelV x v->RelV y u->r x y H Q ->
  wpAny (model X.prog X.w) X.A (f v u) (EP X a b Q) X.xe s
def UnR(X:Cx)(f:Value->Sem Value)(r:V->Hp->VK->Prop):Prop :=
 ∀(a:List (Addr×Obj))(s:Qt)(b:St)(H:Hp)(x:V)(v:Value)(Q:VK),Inv X a b H s->RelV x v->r x H Q ->
  wpAny (model X.prog X.w) X.A (f v) (EP X a b Q) X.xe s
def CallR(X:Cx)(f:Value)(r:List V->Hp->VK->Prop):Prop :=
 ∀(a:List (Addr×Obj))(s:Qt)(b:St)(H:Hp)(c:List V)(d:List Value)(Q:VK),Inv X a b H s->Vals c d->r c H Q ->
  wpAny (model X.prog X.w) X.A (call f d) (EP X a b Q) X.xe s
def xfa(X:Cx)(r:V->Hp->(Bool->Hp->Prop)->Prop):Prop :=
 ∀(a:List (Addr×Obj))(s:Qt)(b:St)(H:Hp)(x:V)(v:Value)(Q:Bool->Hp->Prop),Inv X a b H s->RelV x v->r x H Q ->
  wpAny (model X.prog X.w) X.A (truthy v) (TP X a b Q) X.xe s
def tOp(r:R2)(b tb:TE):TE:=λa H Q=>b a H λx c=>tb a c λy d=>r x y d Q
def tUn(r:V->Hp->VK->Prop)(a:TE):TE:=λb H Q=>a b H λx c=>r x c Q
def rI(C:Int->Int->Prop)(g:Int->Int->V):R2:=λx y H Q =>∃i j,x = .int i/\y = .int j/\C i j/\Q (g i j) H
def rI0(g:Int->Int->V):R2:=λx y H Q =>∃i j,x = .int i/\y = .int j/\Q (g i j) H
def rU(g:Int->V):V->Hp->VK->Prop:=λx H Q =>∃i,x = .int i/\Q (g i) H
section
variable{X:Cx}{a b c:Expr}{ta tb tc:TE}{pos:Pos}
theorem xau(m:PE X a ta)(n:PE X b tb){c:St}{R:V->V->Hp->Prop}(I:Inv X pins c H s)(h:ta c H λx k=>tb c k λy d=>R x y d){f:Value->Value->Sem Value}(r:∀v u l x y d,Inv X pins c d l->RelV x v->RelV y u->R x y d->wpAny (model X.prog X.w) X.A (f v u) Q X.xe l):
 wpAny (model X.prog X.w) X.A (eval a X.env) (λv e=>wpAny (model X.prog X.w) X.A (eval b X.env) (λu g=>wpAny (model X.prog X.w) X.A (f v u) Q X.xe g) X.xe e) X.xe s:=by
  refine thn (m pins s c H _ I h) λv o i=>?_;obtain⟨x,k,p,t,q⟩:=i;refine thn (n pins o c k _ p q) λu l j=>?_;obtain⟨y,d,w,z,A⟩:=j;grind
theorem zsd(d:OpR X (Je op) r)(e:PE X a ta)(f:PE X b tb):PE X (.BinOp a op b pos) (tOp r ta tb):=by
 intro c s g H Q I h;exact wpAny_BinOp (xau e f I h λv u i x y j k l m q=>d c i g j x y v u Q k l m q)
theorem zxe(e:UnR X (unaryOp op) r)(f:PE X a ta):PE X (.UnaryOp op a pos) (tUn r ta):=by
 intro b s d H Q I h;exact UnaryOp_ (thn (f b s d H _ I h) λv g c=>by obtain⟨x,i,j,k,l⟩:=c;exact e b g d i x v Q j k l)
theorem opI{g:Int->Int->Int}(a:∀(i j:Int)(t u:Tok)(s:Qt)(Q:Value->Qt->Prop)(E:Value->Qt->Prop),C i j->Q (.int (g i j) s.toks) { s with toks:=s.toks+1 }->wpAny (model X.prog X.w) X.A (f (.int i t) (.int j u)) Q E s):
  OpR X f (rI C λi j => .int (g i j)):=by
  intro b s l H x y v u Q I c d h;obtain⟨i,j,rfl,rfl,e,q⟩:=h;obtain⟨t,rfl⟩:=c;obtain⟨k,rfl⟩:=d;exact a i j t k s _ _ e ⟨.int (g i j),H,I.tok _,⟨_,rfl⟩,q⟩
theorem xdu{g:Int->Int->Int}(a:∀(i j:Int)(t u:Tok)(s:Qt)(Q:Value->Qt->Prop)(E:Value->Qt->Prop),Q (.int (g i j) s.toks) { s with toks:=s.toks+1 }->wpAny (model X.prog X.w) X.A (f (.int i t) (.int j u)) Q E s):
  OpR X f (rI0 λi j => .int (g i j)):=by
  intro b s k H x y v u Q I c d h;obtain⟨i,j,rfl,rfl,q⟩:=h;obtain⟨t,rfl⟩:=c;obtain⟨e,rfl⟩:=d;exact a i j t e s _ _ ⟨.int (g i j),H,I.tok _,⟨_,rfl⟩,q⟩
theorem zxd{g:Int->Int->Bool}(a:∀(i j:Int)(t u:Tok)(s:Qt)(Q:Value->Qt->Prop)(E:Value->Qt->Prop),Q (.bool (g i j)) s->wpAny (model X.prog X.w) X.A (f (.int i t) (.int j u)) Q E s):
 OpR X f (rI0 λi j => .bl (g i j)):=by
  intro b s k H x y v u Q I c d h;obtain⟨i,j,rfl,rfl,q⟩:=h;obtain⟨t,rfl⟩:=c;obtain⟨e,rfl⟩:=d;exact a i j t e s _ _ ⟨.bl (g i j),H,I,rfl,q⟩
theorem zza:OpR X (Je .Add) (rI0 λi j => .int (i+j)):=xdu λ_ _ _ _ _ _ _ q=>add_int q
theorem xaa:OpR X (Je .Sub) (rI0 λi j => .int (i-j)):=xdu λ_ _ _ _ _ _ _ q=>sub_int q
theorem zyz:OpR X (Je .Mod) (rI (λ_ j=>0<j) λi j => .int (i%j)):=opI λi j _ _ _ _ _ a q=>by
 grind[mod_int',Int.fmod_eq_emod_of_nonneg]
theorem unI{g:Int->Int}(a:∀(i:Int)(t:Tok)(s:Qt)(Q:Value->Qt->Prop)(E:Value->Qt->Prop),Q (.int (g i) s.toks) { s with toks:=s.toks+1 }->wpAny (model X.prog X.w) X.A (f (.int i t)) Q E s):
  UnR X f (rU λi => .int (g i)):=by
  intro b s d H x v Q I c h;obtain⟨i,rfl,q⟩:=h;obtain⟨t,rfl⟩:=c;exact a i t s _ _ ⟨.int (g i),H,I.tok _,⟨_,rfl⟩,q⟩
theorem zri:UnR X (unaryOp .USub) (rU λi => .int (-i)):=unI λ_ _ _ _ _ q=>neg_int q
theorem zqu{a:St}(I:Inv X pins a H s)(q:Q (.bl k) H)(e:k=k'):EP X pins a Q (.bool k') s:=by
 subst e;exact⟨.bl k,H,I,rfl,q⟩
theorem xbn:OpR X (Yo .Lt) (rI0 λi j => .bl (decide (i<j))):=zxd λ_ _ _ _ _ _ _ q=>lt_int q
theorem xci:OpR X (Yo .LtE) (rI0 λi j => .bl (decide (i<=j))):=zxd λ_ _ _ _ _ _ _ q=>le_int q
theorem xde:OpR X (Yo .Gt) (rI0 λi j => .bl (decide (j<i))):=zxd λ_ _ _ _ _ _ _ q=>gt_int q
theorem xch:OpR X (Yo .GtE) (rI0 λi j => .bl (decide (j<=i))):=zxd λ_ _ _ _ _ _ _ q=>ge_int q
theorem zyd:OpR X (Yo .Is) (λx y H Q=>y = .non/\Q (.bl (decide (x = .non))) H):=by
 intro a s d H x y v u Q I b c h;obtain⟨rfl,q⟩:=h;cases c;refine is_none_gen (zqu I q ?_);cases x <;> first
  |grind
  | (obtain⟨t,rfl⟩:=b;rfl)
theorem zth:OpR X (Yo .IsNot) (λx y H Q=>y = .non/\Q (.bl (!decide (x = .non))) H):=by
 intro a s d H x y v u Q I b c h;obtain⟨rfl,q⟩:=h;cases c;refine isnot_none_gen (zqu I q ?_);cases x <;> first
  |grind
  | (obtain⟨t,rfl⟩:=b;rfl)
theorem zqi(b:Expr)(h:op≠.In:=by decide)(d:op≠.NotIn:=by decide):Qch op b=false:=by
 have a:(op==CmpOp.In)=false:=by grind
 have c:(op==CmpOp.NotIn)=false:=by grind
 cases b <;> simp[Qch,a,c]
theorem zsp(d:OpR X (Yo op) r)(e:PE X a ta)(f:PE X b tb)(g:Qch op b=false):PE X (.Compare a [op] [b] pos) (tOp r ta tb):=by
 intro c s i H Q I h;exact wpAny_Compare1 (xau e f I h λv u j x y k l m n q=>d c j i k x y v u Q l m n q) g
def zwr(t:TE):TT:=λa H Q=>t a H λx b =>∃k,x = .bl k/\Q k b
theorem ztq(g:OpR X (Yo op) r)(i:PE X a ta)(j:PE X b tb)(l:Qch op b=false):PT X (.Compare a [op] [b] pos) (zwr (tOp r ta tb)):=by
 intro d s f H Q I h;refine wpAny_isTrue_Compare1 (thn (i d s f H _ I h) λv m ⟨x,n,o,p,q⟩=>thn (j d m f n _ o q) λu t ⟨y,w,A,B,C⟩ =>
  thn (g d t f w x y v u _ A p B C) λc J ⟨z,D,E,F,k,e,G⟩=>?_) l
 subst e;cases F;exact Y0 ⟨D,E,G⟩
def zql(r c:R2)(d tb e:TE):TE:=λa H Q=>d a H λx f=>tb a f λy g=>r x y g λz b =>∃k,z = .bl k /\
 (if k=true then e a b λh i=>c y h i Q else Q (.bl false) b)
theorem zon(p:OpR X (Yo op) r)(j:OpR X (Yo op') r')(q:PE X a ta)(t:PE X b tb)(w:PE X c tc)(A:lastMarks [op,op'] [b,c]=false:=by with_unfolding_all rfl):PT X (.Compare a [op,op'] [b,c] pos) (zwr (zql r r' ta tb tc)):=by
  intro f s g H Q I h;refine isTrue_chain (thn (q f s g H _ I h) λv B ⟨x,C,D,E,F⟩=>test_link (thn (t f B g C _ D F) λu G ⟨y,J,K,l,L⟩ =>
   thn (p f G g J x y v u _ K E l L) λd M ⟨z,m,n,N,k,e,o⟩=>?_)) A
  subst e;cases N;refine Y0 ?_;cases k with
  |false =>
   obtain⟨k',O,P⟩:=o;cases O;exact ite_ff ⟨m,n,P⟩
  |true =>
   refine ite_tt (test_last (thn (w f M g m _ n o) λR S ⟨T,U,V,W,Y⟩=>thn (j f S g U y T u R _ V l W Y) λd' s5 i=>?_));obtain⟨z2,Z,I5,r5,k2,e2,q5⟩:=i;subst e2;cases r5;exact Y0 ⟨Z,I5,q5⟩
def xeb(K:Qd)(x:V)(H:Hp)(k:Bool):Prop :=
 match x with
 |.non=>k=false
 |.bl b=>k=b
 |.int i=>k=(i != 0)
 |.str y=>y.length<=Q4/\k=((y.length:Int) != 0)
 |.byt y=>y.size<=Q4/\k=((y.size:Int) != 0)
 |.ref p=>(∃a,SqL K H p a/\k = !a.isEmpty)\/(∃a,SqT K H p a/\k = !a.isEmpty) \/ ∃c,H p=some (.dK c)/\k = !c.isEmpty
 |_=>False
theorem zdu{vs:List (κ×Value)}(r:KV kvs vs):(!vs.isEmpty) = !kvs.isEmpty:=by
 cases r <;> rfl
theorem qrd(r:Vals xs its):(!its.toArray.isEmpty) = !xs.isEmpty:=by
 cases r <;> simp
theorem qmm:(Q4:Nat)<2^63:=by rw[Yg];decide
theorem xar:xfa X (λx H Q =>∃k,xeb X.K x H k/\Q k H):=by
 intro o s z H x v Q I d h;obtain⟨k,e,q⟩:=h;have A:=qmm;have B:=Yg;cases x with
 |non =>
  cases d;have a:=e;subst a;exact truthy_none ⟨H,I,q⟩
 |bl b =>
  cases d;have a:=e;subst a;exact Y0 ⟨H,I,q⟩
 |int i =>
  obtain⟨t,rfl⟩:=d;have a:=e;subst a;exact PySem.P.truthy_int ⟨H,I,q⟩
 |str y =>
  obtain⟨t,rfl⟩:=d;obtain⟨hy,a⟩:y.length<=Q4/\k=((y.length:Int) != 0):=e;subst a;exact PySem.P.truthy_str (by lia) ⟨H,I.tok _,q⟩
 |byt y =>
  obtain⟨t,rfl⟩:=d;obtain⟨hy,a⟩:y.size<=Q4/\k=((y.size:Int) != 0):=e;subst a;exact PySem.W.truthy_bytes (by lia) ⟨H,I.tok _,q⟩
 |ref p =>
  cases d;have a:=e;rcases a with⟨w,f,a⟩|⟨w,f,a⟩|⟨g,f,a⟩
  ·subst a;obtain⟨j,r,l,u⟩:=I.list f;have c:=r.length;exact wpAny_truthy_list l.isList (by simp only[Zn];lia) ⟨H,I.tok _,by rw[qrd r];exact q⟩
  ·subst a;obtain⟨j,r,l,u⟩:=I.tuple f;have c:=r.length;exact truthy_tuple l (by simp only[Zn];lia) ⟨H,I.tok _,by rw[qrd r];exact q⟩
  ·subst a;obtain⟨u,hS,n,r,m⟩:g.length<=Q4/\(p==V9)=false /\ ∃n,KV g n/\s.heap.DictOf (qcj X.prog X.w) p n:=I.hok p _ f;have c:=Qij r;exact wpAny_truthy_dict hS m (by lia) ⟨H,I.tok _,by rw[zdu r];exact q⟩
 |_=>exact(show False from e).elim
theorem zff:OpR X (Je .Add) (λx y H Q =>∃i j,x = .str i/\y = .str j/\i.length+j.length<=Q4/\Q (.str (i++j)) H):=by
 intro a s f H x y v u Q I b c h;obtain⟨i,j,rfl,rfl,d,q⟩:=h;obtain⟨t,rfl⟩:=b;obtain⟨e,rfl⟩:=c;exact add_str (λe g=>⟨.str (i++j),H,I.tok _,⟨_,rfl⟩,q⟩) d
theorem qmp(r:Vals [x] us):∃u,us=[u]/\RelV x u:=by
 cases r with
 |cons b a=>cases a;grind
theorem zdw(r:Vals [x,y] us):∃u a,us=[u,a]/\RelV x u/\RelV y a:=by
 cases r with
 |cons d b =>
  cases b with
  |cons e c=>cases c;grind
theorem zmp:CallR X (.builtin "abs") (λxs H Q =>∃i,xs=[.int i]/\Q (.int (if i<0 then -i else i)) H):=by
 intro a s b H xs c Q I r h;obtain⟨i,rfl,q⟩:=h;obtain⟨u,rfl,t,rfl⟩:=qmp r;exact call_abs_int λu d=>⟨.int (if i<0 then -i else i),H,I.tok _,⟨_,rfl⟩,q⟩
theorem ziz(c:X.calm=true):CallR X (.builtin "max") (λxs H Q =>∃i j,xs=[.int i,.int j]/\Q (.int (if j>i then j else i)) H):=by
 intro b s d H xs e Q I r h;obtain⟨i,j,rfl,q⟩:=h;obtain⟨u,f,rfl,⟨t,rfl⟩,⟨g,rfl⟩⟩:=zdw r;refine max_two_ints (I.ok.hd c) λl m k=>⟨_,H,I.kept k,?_,q⟩
 by_cases a:j>i
 ·rw[if_pos a,if_pos a];exact⟨_,rfl⟩
 ·rw[if_neg a,if_neg a];exact⟨_,rfl⟩
theorem zkz(c:X.calm=true):CallR X (.builtin "min") (λxs H Q =>∃i j,xs=[.int i,.int j]/\Q (.int (if j<i then j else i)) H):=by
 intro b s d H xs e Q I r h;obtain⟨i,j,rfl,q⟩:=h;obtain⟨u,f,rfl,⟨t,rfl⟩,⟨g,rfl⟩⟩:=zdw r;refine min_two_ints (I.ok.hd c) λl m k=>⟨_,H,I.kept k,?_,q⟩
 by_cases a:j<i
 ·rw[if_pos a,if_pos a];exact⟨_,rfl⟩
 ·rw[if_neg a,if_neg a];exact⟨_,rfl⟩
end
structure ObjM(h:Heap)(x dx C:Addr)(mA:Str->Option Value):Prop where
 obj:h.get? x=some (Ja C dx)
 ns:h.Ns1 dx mA
 ne:dx≠x
theorem zjz{h:Heap}(n:h.Ns1 dx mA):∃c,h.get? dx=some c /\ ∀name,Qeq name c=some (mA name):=by
 obtain⟨o,d,l,f,g,i,_,j⟩:=n;refine⟨o,f,λname=>?_⟩;have e:=j name;unfold nsFind findBy at e;rw[<- Array.find?_toList]at e;unfold Qeq;rw[g];dsimp only;split
 ·grind
 ·rename_i q;rw[q]at e;have a:d.toList.any (·.refKey)=false:=by
   rw[List.any_eq_false];intro y k;obtain⟨z,t,b⟩:=i y (Array.mem_toList_iff.mp k);simp[Qap.refKey,b]
  grind
theorem ObjM.look(I:ObjM h x dx C mA):∃a,PySem.W.InstAt h x (Ja C dx) C (some a) /\ ∀name,Qeq name a=some (mA name) :=
 let ⟨a,ho,hl⟩:=zjz I.ns
 ⟨a,⟨I.obj,rfl,rfl,ho⟩,hl⟩
section
variable{prog:Zw}{w:World}{A:Yk}{E:Value->Qt->Prop}{s:Qt}{K:Qd}{x dx C f:Addr}{mA:Str->Option Value}{name:Str}{v:Value}
theorem zvo(X:K.In s.heap)(I:ObjM s.heap x dx C mA)(b:Qdh K C name=true)(c:Qfa K C=true)(d:Vt K (.ref C) name=some none)(e:mA name=some v)(a:Qka v=true)(h:Q v { s with toks:=s.toks+1 }):
  wpAny (model prog w) A (getAttr (.ref x) name expr) Q E s:=by
  obtain⟨g,J,f⟩:=I.look;exact PySem.W.get_value X J (Qea b).1 (PySem.W.findObj_own c d rfl (by rw[f,e])) a h
theorem zqb(X:K.In s.heap)(I:ObjM s.heap x dx C mA)(a:Qdh K C name=true)(b:Vt K (.ref C) name=some (some (.ref f)))(c:Qgf K (.ref f)=true)(e:mA name=none)(h:Q (.ref f,[.ref x]) s):
 wpAny (model prog w) A (Qiu (.ref x) name pl) Q E s:=by
  obtain⟨d,J,g⟩:=I.look;exact PySem.W.method_fn X J (Qea a).1 (Qea a).2 b (beq_iff_eq.mp c) (by show(Qeq name d).map (·.isSome)=some false;grind) h
theorem zwh(X:K.In s.heap)(I:ObjM s.heap x dx C mA)(g:Vt K (.ref C) "__setattr__" = some (some (.builtin "object.__setattr__")))(i:Qiy K C=true)(j:Qgg K C name=some none)(k:Qfa K C=true)(l:Qjo mA ns)(m:ns.length<=Q4)(h:∀h',ObjM h' x dx C (λy=>if y=name then some v else mA y)->Vl dx s.heap h'->Q () { s with heap:=h',toks:=s.toks+2 }):
  wpAny (model prog w) A (setAttr (.ref x) name v) Q E s:=by
  obtain⟨z,J,B⟩:=I.look;refine PySem.W.set_plain X J g (PySem.W.osa_open (s:={ s with toks:=s.toks+1 }) (r:=none) X J i j λb=>?_);obtain⟨D,n,e⟩:=PySem.W.any_some k;have o:=I.obj;refine Qg (Qy (Qg (Qg (wpAny_loadPart o (Qg (Qme (s:={ s with toks:=s.toks+1 }) (PySem.W.looks_clsIn X n) ?_))))));rw[e];refine Qy (a:=some dx) (Qg (Qy (Qg ?_)));refine wpAny_nsSet1 (s:={ s with toks:=s.toks+1 }) I.ns λh' c d=>?_;obtain⟨F,p,q,f,t,u⟩:=c.count (Qjo.cons name v l);refine Qg (wpAny_lookBehind f (by grind[pastItsLine_dict,Zq,Zg]) ?_);exact Qy (h _ ⟨(d.2 _ (Z9 I.ne)).trans I.obj,c,I.ne⟩ d)
theorem zor(X:K.In s.heap)(a:Qgh K C=true)(b:Vt K (.ref C) "__init__" = some (some (.ref f)))(c:PySem.W.typeIn K (.ref f)=some (.type "function"))(h:Qcj (model prog w) (A.under (.builtin "type.__call__" ⟨.ref C::vs,kw⟩)) (.call (.ref f) ⟨.ref (s.heap.objs.size+1)::vs,kw⟩) (PySem.W.InitBack (s.heap.objs.size+1) R)
 { s with heap:=(s.heap.push Vb).push (Ja C s.heap.objs.size) }):
  Qcj (model prog w) A (.call (.ref C) ⟨vs,kw⟩) R s:=by
  obtain⟨e,g,d,t,i⟩:=s;exact PySem.W.make_core (PySem.W.makes_of X a) (PySem.W.looks_findIn X b) (λself=>PySem.W.bind_fn X self c) (.inl rfl) h
end
def qox(f:Str)(v:V):List (Str×V)->List (Str×V)
 |[]=>[(f,v)]
 | (g,x)::r=>if g=f then(g,v)::r else(g,x)::qox f v r
theorem qoh(f g:Str)(v:V):∀fs:List (Str×V),(qox f v fs).lookup g=if g=f then some v else fs.lookup g
 |[]=>by
  show List.lookup g [(f,v)]=_;grind
 | (k,x)::r=>by
  have a:=qoh f g v r;rw[show qox f v ((k,x)::r)=(if k=f then(k,v)::r else(k,x)::qox f v r) from rfl];grind
theorem qob(f:Str)(v:V):∀fs:List (Str×V),f∈(qox f v fs).map (·.1) /\ ∀g,g∈fs.map (·.1)->g∈(qox f v fs).map (·.1)
 |[]=>⟨by simp[qox],λg h=>by simp at h⟩
 | (k,x)::r=>by
  obtain⟨a,b⟩:=qob f v r;rw[show qox f v ((k,x)::r)=(if k=f then(k,v)::r else(k,x)::qox f v r) from rfl];grind
theorem qow(f:Str)(v:V):∀fs:List (Str×V),(qox f v fs).length<=fs.length+1
 |[]=>by simp[qox]
 | (k,x)::r=>by
  have a:=qow f v r;rw[show qox f v ((k,x)::r)=(if k=f then(k,v)::r else(k,x)::qox f v r) from rfl];grind
theorem RelO.some_of(r:RelO (some v) o):∃u,o=some u/\RelV v u:=by
 cases o with
 |none=>exact(show False from r).elim
 |some u=>exact⟨u,rfl,r⟩
theorem RelO.none_of(r:RelO none o):o=none:=by
 cases o with
 |none=>rfl
 |some u=>exact(show False from r).elim
theorem zkq(r:RelV v u):Qka u=true:=by
 cases v with
 |non=>cases(show u=Jr from r);rfl
 |bl b=>cases(show u=Qle b from r);rfl
 |int i=>obtain⟨t,e⟩:=(show∃t,u=Qex i t from r);cases e;rfl
 |str x=>obtain⟨t,e⟩:=(show∃t,u=Qkr x t from r);cases e;rfl
 |byt b=>obtain⟨t,e⟩:=(show∃t,u=Qly b t from r);cases e;rfl
 |flt b=>obtain⟨t,e⟩:=(show∃t,u=Qlz b t from r);cases e;rfl
 |ref a=>cases(show u=Y6 a from r);rfl
 |ty n=>cases(show u=Qey n from r);rfl
section
variable{P:Zw}{w:World}{H H':Hp}{h h':Heap}{a C dx:Addr}{fs fs':List (Str×V)}
theorem qyn(c:HOk P w H h)(e:H a=some (.ins C dx fs)):∃b,ObjM h a dx C b/\(∀f,RelO (fs.lookup f) (b f))/\Qjo b (fs.map (·.1))/\fs.length<=1000/\H dx=some (.own a):=by
 obtain⟨d,z,ne,g,b,n,r,q⟩:=(show ObjOk P w H h a (.ins C dx fs) from c a _ e)
 exact⟨b,⟨g,n,ne⟩,r,q,z,d⟩
end
structure Cls(K:Qd)(C:Addr):Prop where
 pg:Qdh K C Str.empty=true
 hd:Qfa K C=true
 po:Qiy K C=true
 sa:Vt K (.ref C) "__setattr__" = some (some (.builtin "object.__setattr__"))
theorem Cls.get{K:Qd}(c:Cls K C)(f:Str):Qdh K C f=true:=c.pg
def NoAttr(K:Qd)(C:Addr)(f:Str):Prop:=Vt K (.ref C) f=some none
theorem NoAttr.taker{K:Qd}(n:NoAttr K C f):Qgg K C f=some none:=by
 unfold Qgg;rw[show Vt K (.ref C) f=some none from n];rfl
structure Meth(K:Qd)(C:Addr)(m:Str)(f:Addr):Prop where
 at_:Vt K (.ref C) m=some (some (.ref f))
 fn:Qgf K (.ref f)=true
 kp:V7 K (.ref f)=true
section
variable{X:Cx}{pins:List (Addr×Obj)}{σ:St}{H:Hp}{s:Qt}{a C dx:Addr}{fs:List (Str×V)}{f:Str}{v:V}{A:Yk}{E:Value->Qt->Prop}
theorem zfc(I:Inv X pins σ H s)(e:H a=some (.ins C dx fs))(c:Cls X.K C)(n:NoAttr X.K C f)(l:fs.lookup f=some v)(h:∀u d,Inv X pins σ H d->RelV v u->Q u d):wpAny (model X.prog X.w) A (getAttr (.ref a) f b) Q E s:=by
  obtain⟨i,O,r,_,_,_⟩:=qyn I.hok e;obtain⟨u,j,g⟩:=RelO.some_of (v:=v) (o:=i f) (by grind);exact zvo I.kIn O (c.get f) c.hd n j (zkq g) (h u _ (I.tok _) g)
theorem qsw(I:Inv X pins σ H s)(e:H a=some (.ins C dx fs))(c:Cls X.K C)(k:Meth X.K C m g)(l:fs.lookup m=none)(h:Q (.ref g,[.ref a]) s):wpAny (model X.prog X.w) A (Qiu (.ref a) m pl) Q E s:=by
  obtain⟨b,O,r,_,_,_⟩:=qyn I.hok e;have d:b m=none:=RelO.none_of (by grind);exact zqb I.kIn O (c.get m) k.at_ k.fn d h
theorem zfi(I:Inv X pins σ H s)(e:H a=some (.ins C dx fs))(c:Cls X.K C)(n:NoAttr X.K C f)(F:fs.length<1000)(k:RelV y u)(h:∀i,Inv X pins σ (upd H a (.ins C dx (qox f y fs))) i->Q () i):wpAny (model X.prog X.w) A (setAttr (.ref a) f u) Q E s:=by
  obtain⟨l,O,r,j,_,m⟩:=qyn I.hok e;have p:(fs.map (·.1)).length<=Q4:=by grind[Qe,Yg]
  refine zwh I.kIn O c.sa c.po n.taker c.hd j p λt d v=>h _ ?_;have w:∃o,t.get? dx=some o:=let ⟨o,_,_,e',_⟩:=d.ns; ⟨o,e'⟩;refine I.write (x:=a) (e:=dx) (by rw[e];exact V8) (.inr m) (λb q B z=>(v.2 b B).trans z) w ?_;refine⟨by grind[qi],?_,O.ne,d.obj,_,d.ns,λg=>?_,λg D=>?_⟩
  ·grind[qow]
  ·show RelO ((qox f y fs).lookup g) (if g=f then some u else l g);rw[qoh];by_cases q:g=f
   ·rw[if_pos q,if_pos q];exact k
   grind
  ·by_cases q:g=f
   ·grind[qob]
   ·refine(qob f y fs).2 g (j g λz=>D ?_);grind
theorem Inv.made(I:Inv X pins σ H s):Inv X pins σ (upd (upd H s.heap.objs.size (.own (s.heap.objs.size+1))) (s.heap.objs.size+1) (.ins C s.heap.objs.size []))
 { s with heap:=(s.heap.push Vb).push (Ja C s.heap.objs.size) }:=by
  have c:(s.heap.push Vb).get? s.heap.objs.size=some Vb:=Qx s.heap rfl;have d:((s.heap.push Vb).push (Ja C s.heap.objs.size)).get? (s.heap.objs.size+1)=some (Ja C s.heap.objs.size):=by
   have:=Qx (s.heap.push Vb) (o:=Ja C s.heap.objs.size) rfl
   rwa [Z5]at this
  have f:(s.heap.push Vb).Ns s.heap.objs.size (λ_=>none):=⟨Vb,#[],_,c,rfl,(λe he=>absurd he (by simp)),λ_=>rfl⟩
  have g:=I.laid (a:=s.heap.objs.size) (o :=.own (s.heap.objs.size+1)) (h':=s.heap.push Vb) (t':=s.toks) (λb u q=>Qi _ q) (Qs _) ⟨_,c⟩;refine g.laid (a:=s.heap.objs.size+1) (o :=.ins C s.heap.objs.size []) (t':=s.toks) (λb u q=>Qi _ q) (Qej (Z5 _ _)) ?_;have ne:s.heap.objs.size≠s.heap.objs.size+1:=Q7 (Qft _);refine⟨by rw[qi ne,qk],Yd _,ne,d,λ_=>none,(Heap.Ns1.of_empty f).at λo q=>Qi _ q,λ_=>V8,λy h=>absurd rfl h⟩
theorem ztx(b:V6 e f env (eval e env)=eval e env)(h:wpAny (model prog w) A (eval e env) (λo a=>wpAny (model prog w) A (getAttr o f true) Q E a) E s):wpAny (model prog w) A (eval (.Attribute e f pos) env) Q E s :=
  Attribute_any_ h (by rw[arm_eval_Attribute,b])
end
def xfr(K:Qd)(c:TE)(f:Str):TE:=λd H Q=>c d H λx b =>∃a C e fs v,x = .ref a/\b a=some (.ins C e fs)/\Cls K C/\NoAttr K C f/\fs.lookup f=some v/\Q v b
def xft(K:Qd)(e g:TE)(f:Str):TS:=λD b H=>g b H λy h=>e b h λx c =>∃a C d fs,x = .ref a/\c a=some (.ins C d fs)/\Cls K C/\NoAttr K C f/\fs.length<1000 /\
 D.nx b (upd c a (.ins C d (qox f y fs)))
section
variable{X:Cx}{o e value:Expr}{f:Str}{pos pos' tpos:Pos}{ta tv:TE}
theorem qzu(he:PE X e ta)(g:V6 e f X.env (eval e X.env)=eval e X.env):PE X (.Attribute e f pos) (xfr X.K ta f):=by
 intro b s i H Q I h;refine ztx g (thn (he b s i H _ I h) λu w d=>?_);obtain⟨x,j,k,m,a,C,y,fs,v,o,p,c,n,l,q⟩:=d;subst o;obtain rfl:u=Y6 a:=m;exact zfc k p c n l λz A r t=>⟨v,j,r,t,q⟩
theorem qpy(g:PE X o ta)(i:PE X value tv)(j:Jz value (some (.Attribute o f pos')) pos.line X.env=pure false):PS X (.Assign [.Attribute o f pos'] value pos) (xft X.K ta tv f):=by
 intro b s e H D I h;refine plainObj_wpAny_Assign_Attribute (thn (i b s e H _ I h) λu k ⟨y,m,p,r,q⟩=>thn (g b k e m _ p q) λt F d=>?_) j;obtain⟨x,G,v,w,a,C,J,fs,z,A,c,n,l,B⟩:=d;subst z;obtain rfl:t=Y6 a:=w;exact zfi v A c n l r λK E=>⟨e,_,E,B⟩
end
section
variable{X:Cx}{pins:List (Addr×Obj)}{σ:St}{H:Hp}{s:Qt}{A:Yk}{E:Value->Qt->Prop}{Q:Value->Qt->Prop}{c:Value}{b:Bool}
end
structure Room(k:Nat)(A:Yk):Prop where
 hd:A.handled=none
 dp:A.depth+3*k+5<Vw
 un:A.units+16*k+200<cLine
theorem Room.mono(r:Room k A)(h:j<=k):Room j A:=⟨r.hd,by have:=r.dp;lia,by have:=r.un;lia⟩
theorem Room.deeper(r:Room (k+1) A)(env:Env):Room k (A.deeper env) :=
 ⟨r.hd,by have:=r.dp;show A.depth+1+3*k+5<_;lia,by have:=r.un;show A.units+3+16*k+200<_;lia⟩
theorem zez{A:Yk}:(A.under (.builtin "type.__call__" ⟨.ref C::us,kw⟩)).depth=A.depth+1:=by
 first|rfl|grind
theorem zef{A:Yk}:(A.under (.builtin "type.__call__" ⟨.ref C::us,kw⟩)).units=A.units+1:=by
 first|rfl|grind
theorem Room.make(r:Room (k+1) A)(C:Addr)(us:List Value)(a:List (Str×Value)):Room k (A.under (.builtin "type.__call__" ⟨.ref C::us,a⟩)) :=
 ⟨r.hd,by have:=r.dp;rw[zez];lia,by have:=r.un;rw[zef];lia⟩
theorem Room.depth(r:Room k A):A.depth<Vw:=by have:=r.dp;lia
theorem Room.units(r:Room k A):A.units+64<cLine:=by have:=r.un;lia
def zrf:TA:=λ_ H Q=>Q [] H
def zsf(b:TE)(tr:TA):TA:=λa H Q=>b a H λx c=>tr a c λd e=>Q (x::d) e
section
variable{X:Cx}{e:Expr}{es:List Expr}{te:TE}{t:TA}{pos:Pos}
theorem qbe:PA X [] zrf:=λ_ _ _ _ H Q I h=>Qcs ⟨[],H,I,.nil,h⟩
theorem qM(g:PE X e te)(i:PA X es t)(j:Qu (e::es) X.env=(false,eval e X.env)::Qu es X.env:=by rfl):PA X (e::es) (zsf te t):=by
 intro d a s f H Q I h;rw[j];refine Qah (thn (g a s f H _ I h) λu k b=>?_);obtain⟨x,l,m,n,o⟩:=b;exact thn (i d a k f l _ m o) λy z c=>by obtain⟨p,q,r,v,w⟩:=c;exact⟨x::p,q,r,.cons n v,w⟩
def xfz(t:TA):TE:=λc H Q=>t c H λa b=>a.length<=Q4 /\ ∀p,b p=none->Q (.ref p) (upd b p (.tup a))
def xdz(t:TA):TE:=λc H Q=>t c H λa b=>a.length<=Q4 /\ ∀p,b p=none->Q (.ref p) (upd b p (.lst a))
theorem qzz{x1}(h:PA X es t):PE X (.Tuple es x1 pos) (xfz t):=by
 intro a s f H Q I g;refine wpAny_Tuple_spliced (thn (h pos a s f H _ I g) λi c ⟨j,k,d,r,z,q⟩=>⟨by rw[<- r.length];exact z,?_⟩);have l:=d.hok.fresh (Qs _);refine⟨.ref c.heap.objs.size,upd k c.heap.objs.size (.tup j),d.laid (t':=c.toks) (λb u e=>Qi _ e) (Qs _) ?_,rfl,q _ l⟩;exact⟨z,i,r,⟨_,Qx _ rfl,rfl,_,rfl⟩⟩
theorem zrh(h:PA X es t):PE X (.List es pos) (xdz t):=by
 intro a s f H Q I g;refine wpAny_List_spliced (thn (h pos a s f H _ I g) λi c ⟨j,k,d,r,z,q⟩=>⟨by rw[<- r.length];exact z,?_⟩);have l:=d.hok.fresh (Qs _);refine⟨.ref c.heap.objs.size,upd k c.heap.objs.size (.lst j),d.laid (t':=c.toks) (λb u e=>Qi _ e) (Qs _) ?_,rfl,q _ l⟩;exact⟨z,i,0,r,Qx _ rfl⟩
end
abbrev Sp:=List V->Hp->VK->XK->Prop
abbrev CXT:=List Env->Hp->Qt->XK->Value->Qt->Prop
structure Env0(P:Zw)(w:World)(K:Qd)(mg:Str->Option Value)(base:Heap)(A:Yk)(outer:List Env)(s:Qt)(H:Hp):Prop where
 frames:A.frames=some outer
 mod:Mod K mg base
 bs:∀b o,base.get? b=some o->s.heap.get? b=some o/\H b=none
 bsz:base.objs.size<=s.heap.objs.size
 funs:s.heap.FunFrames base outer
 frf:∀b∈frs outer,H b=none
 hok:HOk P w H s.heap
 bare:Qgz s.gens
def CE(outer:List Env)(P:Zw)(w:World)(H:Hp)(s:Qt)(Q:VK)(u:Value)(a:Qt):Prop :=
 ∃v b,a.os=s.os/\Qgz a.gens/\Un (frs outer) [] H b s.heap a.heap/\HOk P w b a.heap/\RelV v u/\Q v b
def CR(CX:CXT)(outer:List Env)(P:Zw)(w:World)(H:Hp)(s:Qt)(Q:VK)(E:XK)(r:Result)(a:Qt):Prop :=
 match r with
 |.ok (.ret u)=>CE outer P w H s Q u a
 |.ok _=>False
 |.error e=>CX outer H s E e a
structure FnOk(P:Zw)(w:World)(K:Qd)(mg:Str->Option Value)(base:Heap)(CX:CXT)(k:Nat)(f:Addr)(fd:Qbk)(ps:List Str)(sp:Sp):Prop where
 len:∀vs H Q E,sp vs H Q E->vs.length=ps.length
 run:∀(A:Yk)(outer:List Env)(s:Qt)(H:Hp)(args:Args)(us:List Value)(vs:List V)(Q:VK)(E:XK),Room k A->Env0 P w K mg base A outer s H->Qjl s fd args (ps.zip us)->Vals vs us->sp vs H Q E ->
  Qcj (model P w) A (.call (.ref f) args) (CR CX outer P w H s Q E) s
theorem FnOk.imp{K:Qd}(F:FnOk P w K mg base CX k f fd ps sp)(h:∀vs H Q E,sp' vs H Q E->sp vs H Q E):FnOk P w K mg base CX k f fd ps sp' :=
  ⟨λvs H Q E q=>F.len vs H Q E (h _ _ _ _ q),λA a s H b c vs Q E d he e g i=>F.run A a s H b c vs Q E d he e g (h _ _ _ _ i)⟩
theorem Env0.make{K:Qd}(e:Env0 P w K mg base A outer s H)(C:Addr)(us:List Value)(a:List (Str×Value)):
 Env0 P w K mg base (A.under (.builtin "type.__call__" ⟨.ref C::us,a⟩)) outer s H:=⟨by first|exact e.frames|grind,e.mod,e.bs,e.bsz,e.funs,e.frf,e.hok,e.bare⟩
section
variable{X:Cx}{pins:List (Addr×Obj)}{σ:St}{H:Hp}{s s':Qt}
theorem Inv.env0(I:Inv X pins σ H s):Env0 X.prog X.w X.K X.mg X.base X.A X.stack s H :=
 ⟨I.ok.frames,I.ok.mod,I.bs,Zq I.ok.bsz I.sz,I.stack,I.stkFree,I.hok,I.bare⟩
theorem Inv.after(I:Inv X pins σ H s)(h:CE X.stack X.prog X.w H s Q u s'):EP X pins σ Q u s':=by
 obtain⟨v,f,i,a,un,c,r,q⟩:=h;obtain⟨j,g,d,t,e⟩:=s';obtain rfl:e=s.os:=i;exact⟨v,f,I.call (h':=j) (g':=g) (d':=d) (t':=t) (ch:=[]) un c a (λb z=>absurd z (by simp)),r,q⟩
end
def qvj(sp:Sp)(a:List V)(E:XK)(t:TA):TE:=λb H Q=>t b H λc d=>sp (c++a) d Q E
def zls(C:Addr)(m:Str)(sp:Sp)(b:List V)(E:XK)(e:TE)(t:TA):TE:=λc H Q=>e c H λx d =>∃a f fs,x = .ref a/\d a=some (.ins C f fs)/\fs.lookup m=none /\
 t c d λg h=>sp (x::(g++b)) h Q E
def xbr(C:Addr)(sp:Sp)(b:List V)(E:XK)(t:TA):TE:=λd H Q=>t d H λe c =>∀x a,c x=none->c a=none->a≠x ->
 sp (.ref x::(e++b)) (upd (upd c a (.own x)) x (.ins C a [])) (λv f=>v = .non/\Q (.ref x) f) E
def Binds(K:Qd)(b:Qbk)(ps:List Str)(ds:List Value):Prop :=
 ∀(s:Qt)(a:List Value),K.In s.heap->(a++ds).length=ps.length->Qjl s b ⟨a,[]⟩ (ps.zip (a++ds))
theorem Binds.all{K:Qd}(h:∀us:List Value,us.length=ps.length->Qdw fd ⟨us,[]⟩=pure (ps.zip us)):Binds K fd ps []:=λs us _ a=>by
 rw[Qak]at a ⊢;exact .of_eq (h us a)
def qpt(CX:CXT)(X:Cx)(E:XK):Prop :=∀(a:List (Addr×Obj))(c:St)(H:Hp)(s:Qt)(e:Value)(b:Qt),Inv X a c H s->CX X.stack H s E e b->X.xe e b
section
variable{X:Cx}{CX:CXT}{k:Nat}{f C:Addr}{fd:Qbk}{ps:List Str}{sp:Sp}{dvs:List V}{ds:List Value}{E:XK}{x m:Str}{p pos apos:Pos}{e o:Expr}{es:List Expr}{ta:TE}{t:TA}
theorem zgf{b:St}(F:FnOk X.prog X.w X.K X.mg X.base CX k f fd ps sp)(d:Room k X.A)(g:Binds X.K fd ps ds)(hd:Vals dvs ds)(i:qpt CX X E)(I:Inv X pins b H s)(r:Vals vs us)(h:sp (vs++dvs) H Q E):wpAny (model X.prog X.w) X.A (call (.ref f) us) (EP X pins b Q) X.xe s:=by
  have c:=r.append hd;have j:(us++ds).length=ps.length:=by rw[<- c.length];exact F.len _ _ _ _ h
  refine Qjn (Qdd (F.run X.A X.stack s H ⟨us,[]⟩ (us++ds) (vs++dvs) Q E d I.env0 (g s us I.kIn j) c h) λr l a=>?_);cases r with
  |error e=>exact i pins b H s e l I a
  |ok m =>
   cases m with
   |ret u=>exact I.after a
   |next=>exact Zc a
   |brk=>exact Zc a
   |cont=>exact Zc a
theorem qyq{pl:Sem Bool}(he:PE X o ta)(c:Cls X.K C)(j:Meth X.K C m f)(F:FnOk X.prog X.w X.K X.mg X.base CX k f fd ps sp)(w:Room k X.A)(y:Binds X.K fd ps ds)(hd:Vals dvs ds)(z:qpt CX X E)(A:PA X (e::es) t)(g:Qu (e::es) X.env=(false,eval e X.env)::Qu es X.env:=by rfl)(i:(V5 pos (Qu es X.env)).any (·.1)=false:=by rfl)(B:eval (.Call (.Attribute o m apos) (e::es) [] pos) X.env=(do
   let ov <- eval o X.env
   Qhg apos.atName
   let (f,first) <- Qdm [ov] (Qiu ov m pl)
   callWith pos f first (V5 pos (Qu (e::es) X.env)) (Qdv pos (Qaa [] X.env))):=by rfl):
  PE X (.Call (.Attribute o m apos) (e::es) [] pos) (zls C m sp dvs E ta t):=by
  intro b s n H Q I h;refine Qgi (pl:=pl) (thn (he b s n H _ I h) λu D d=>?_) B;obtain⟨x,G,p,J,a,N,fs,K,L,l,q⟩:=d;subst K;obtain rfl:u=Y6 a:=J;refine qsw p L c j l ?_;refine Qek (first:=[.ref a]) (h₀:=X.base) I.ok.mod.kin j.kp (thn (A pos b D n G _ p q) λus O ⟨vs,P,v,r,M⟩=>⟨v.kIn,?_⟩) g i;exact zgf (us :=.ref a::us) (vs :=.ref a::vs) F w y hd z v (.cons rfl r) M
theorem qta(he:PE X o ta)(c:Cls X.K C)(g:Meth X.K C m f)(F:FnOk X.prog X.w X.K X.mg X.base CX k f fd ps sp)(i:Room k X.A)(j:Binds X.K fd ps ds)(hd:Vals dvs ds)(n:qpt CX X E)(p:eval (.Call (.Attribute o m apos) [] [] pos) X.env=(do
 let ov <- eval o X.env
 Qhg apos.atName
 let (f,first) <- Qdm [ov] (Qiu ov m pl)
 callWith pos f first (V5 pos (Qu [] X.env)) (Qdv pos (Qaa [] X.env))):=by rfl):
  PE X (.Call (.Attribute o m apos) [] [] pos) (zls C m sp dvs E ta zrf):=by
  intro b s r H Q I h;refine Qgi (pl:=pl) (thn (he b s r H _ I h) λu y d=>?_) p;obtain⟨x,z,e,t,a,A,fs,v,w,l,q⟩:=d;subst v;obtain rfl:u=Y6 a:=t;refine qsw e w c g l ?_;exact PySem.W.callWith_K0 (first:=[.ref a]) e.kIn g.kp (zgf (us:=[.ref a]) (vs:=[.ref a]) F i j hd n e (.cons rfl .nil) q)
structure Mk(K:Qd)(C f:Addr):Prop where
 makes:Qgh K C=true
 init:Vt K (.ref C) "__init__" = some (some (.ref f))
 fn:Qgf K (.ref f)=true
 kp:V7 K (.ref C)=true
theorem zmu{c:St}(M:Mk X.K C f)(F:FnOk X.prog X.w X.K X.mg X.base CX k f fd ps sp)(i:Room (k+1) X.A)(j:Binds X.K fd ps ds)(hd:Vals dvs ds)(l:qpt CX X E)(I:Inv X pins c H s)(r:Vals vs us)(h:∀x dx,H x=none->H dx=none->dx≠x->sp (.ref x::(vs++dvs)) (upd (upd H dx (.own x)) x (.ins C dx [])) (λv m=>v = .non/\Q (.ref x) m) E):
 wpAny (model X.prog X.w) X.A (call (.ref C) us) (EP X pins c Q) X.xe s:=by
  have d:=h (s.heap.objs.size+1) s.heap.objs.size (I.hok.fresh (Qct _)) (I.hok.fresh (Qs _)) (Q7 (Qft _));have b:=Inv.made (C:=C) I;have g:Vals (V.ref (s.heap.objs.size+1)::(vs++dvs)) (Y6 (s.heap.objs.size+1)::(us++ds)) :=.cons rfl (r.append hd);have n:(Y6 (s.heap.objs.size+1)::us++ds).length=ps.length:=by
   have e:=g.length;rw[F.len _ _ _ _ d]at e;exact e.symm
  refine Qjn (zor (f:=f) I.kIn M.makes M.init (beq_iff_eq.mp M.fn) (Qdd (F.run _ X.stack _ _ ⟨Y6 (s.heap.objs.size+1)::us,[]⟩ (Y6 (s.heap.objs.size+1)::(us++ds)) _ _ E (i.make C us [])
   (b.env0.make C us []) (j _ (Y6 (s.heap.objs.size+1)::us) b.kIn n) g d) λr o a=>?_))
  cases r with
  |error e=>exact l pins c _ _ e o b a
  |ok p =>
   cases p with
   |ret u =>
    obtain⟨v,q,t,w,y,z⟩:=b.after a;subst y;exact⟨w,⟨V.ref (s.heap.objs.size+1),q,t,rfl,z⟩⟩
   |next=>exact Zc a
   |brk=>exact Zc a
   |cont=>exact Zc a
theorem ztc(M:Mk X.K C f)(F:FnOk X.prog X.w X.K X.mg X.base CX k f fd ps sp)(g:Room (k+1) X.A)(i:Gl X x)(j:X.mg x=some (.ref C))(l:Binds X.K fd ps ds)(hd:Vals dvs ds)(m:qpt CX X E)(n:PA X (e::es) t)(b:Nd0 x:=by decide)(he:Qu (e::es) X.env=(false,eval e X.env)::Qu es X.env:=by rfl)(c:(V5 pos (Qu es X.env)).any (·.1)=false:=by rfl):
  PE X (.Call (.Name x p) (e::es) [] pos) (xbr C sp dvs E t):=by
  intro a s o H Q I h;refine Jk (qys I i j ?_ b);refine Qek (h₀:=X.base) I.ok.mod.kin M.kp (thn (n pos a s o H _ I h) λu v ⟨w,y,d,r,q⟩=>⟨d.kIn,?_⟩) he c;exact zmu M F g l hd m d r q
end
section
variable{X:Cx}{CX:CXT}{k:Nat}{f C:Addr}{fd:Qbk}{ps ks:List Str}{sp:Sp}{E:XK}{x m:Str}{p pos apos kpos:Pos}{e o:Expr}{es:List Expr}{kws:List Qcg}{te ta:TE}{t tk:TA}{nm:Option Str}
variable{g:List Value->List Value->List Value}{gV:List V->List V->List V}
end
structure FnScope(N P:List Str)(sc:Scope):Prop where
 kind:sc.kind = .function
 co:sc.isCoroutine=false
 gen:sc.isGenerator=false
 nd:N.Nodup
 pre:N.take P.length=P
 par:∀x∈P,sc.names.lookup x=some .local\/sc.names.lookup x=some .cell
 nofree:∀y∈sc.names,y.2≠.free
theorem qwm{Qhe:Str->Option Qaw}:∀{binds:List (Str×Value)}{m:Str->Option Value},(∀v,(x,v)∉binds)->bindL Qhe binds m x=m x
 |[],_,_=>rfl
 | (n,v)::r,m,h=>by
  unfold bindL;rw[qwm λw a=>h w (Qk _ a)];split
  ·grind
  ·rfl
theorem qxb{Qhe:Str->Option Qaw}:∀{binds:List (Str×Value)}{m:Str->Option Value},(∀v,(x,v)∉binds)->bindC Qhe binds m x=m x
 |[],_,_=>rfl
 | (n,v)::r,m,h=>by
  unfold bindC;rw[qxb λw a=>h w (Qk _ a)];split
  ·rfl
  grind
theorem qxe{Qhe:Str->Option Qaw}:∀{P:List Str}{vs:List Value}{i:Nat}{m:Str->Option Value},P.Nodup->P[i]?=some x->vs[i]?=some v->Qhe x=some .local ->
 bindL Qhe (P.zip vs) m x=some v
  |[],_,_,_,_,h,_,_=>by simp at h
  |_::_,[],_,_,_,_,h,_=>by simp at h
  |p::P,w::vs,0,m,c,a,b,d=>by
   simp at a b;subst a;subst b;show bindL Qhe ((p,w)::P.zip vs) m p=_;unfold bindL;rw[qwm λv e=>(Js.mp c).1 (Qgj e).1,if_pos d];simp
  |p::P,w::vs,i+1,m,c,a,b,d=>by
   unfold bindL;exact qxe (i:=i) (Js.mp c).2 (by simpa using a) (by simpa using b) d
theorem qxf{Qhe:Str->Option Qaw}:∀{P:List Str}{vs:List Value}{i:Nat}{m:Str->Option Value},P.Nodup->P[i]?=some x->vs[i]?=some v->Qhe x≠some .local ->
 bindC Qhe (P.zip vs) m x=some v
  |[],_,_,_,_,h,_,_=>by simp at h
  |_::_,[],_,_,_,_,h,_=>by simp at h
  |p::P,w::vs,0,m,c,a,b,d=>by
   simp at a b;subst a;subst b;show bindC Qhe ((p,w)::P.zip vs) m p=_;unfold bindC;rw[qxb λv e=>(Js.mp c).1 (Qgj e).1,if_neg d];simp
  |p::P,w::vs,i+1,m,c,a,b,d=>by
   unfold bindC;exact qxf (i:=i) (Js.mp c).2 (by simpa using a) (by simpa using b) d
def start(N:List Str)(vs:List V):St:=vs.map some++Zf (N.length-vs.length) none
def qpe(CX:CXT)(P:Zw)(w:World)(K:Qd)(mg:Str->Option Value)(base:Heap)(N:List Str)(qual:Str)(scope:Scope)(f:Addr)(cd:Value)(A:Yk)(outer:List Env)(s:Qt)(H:Hp)(E:XK):Cx where
 prog:=P
 w:=w
 K:=K
 mg:=mg
 base:=base
 A:=A.deeper (Qcq qual scope s.heap.objs.size f cd)
 N:=N
 s₀:=s
 H₀:=H
 env:=Qcq qual scope s.heap.objs.size f cd
 outer:=outer
 stack:=Qcq qual scope s.heap.objs.size f cd::outer
 ex:=[]
 calm:=true
 fn:=λ_=>true
 pn:=[]
 xe:=λe s'=>wpAny (model P w) (A.deeper (Qcq qual scope s.heap.objs.size f cd)) (leaving (Qcq qual scope s.heap.objs.size f cd) e) (λ_ s''=>CX outer H s E e s'') (λe' s''=>CX outer H s E e' s'') s'
theorem zcw{sc:Scope}(h:sc.names.lookup x=some .cell):∃c,(Vz n sc.names []).lookup x=some c:=by
 have q:=Qcn sc.names n [] (.inl h);exact Jt.mp q
theorem zjx{K:Qd}(S:FnScope N ps scope)(hd:A.handled=none)(a:Env0 P w K mg base A outer s H)(G:vs.length=ps.length)(r:Vals vs us)(x:InCallC s s.heap.objs.size (bindL (Qcq qual scope s.heap.objs.size f cd).kindOf (ps.zip us) λ_=>none) (Vz (s.heap.objs.size+1) scope.names []) (bindC (Qcq qual scope s.heap.objs.size f cd).kindOf (ps.zip us) λ_=>none) s1):
 Inv (qpe CX P w K mg base N qual scope f cd A outer s H E) [] (start N vs) H s1:=by
  have C:ps.length<=N.length:=by have:=congrArg Qcu S.pre;grind
  obtain⟨m,I,rfl,t⟩:=x.done;have d:∀b:Addr,b∉(qpe CX P w K mg base N qual scope f cd A outer s H E).ex:=λb z=>absurd (show b∈([]:List Addr) from z) (by simp);refine⟨⟨a.mod,S.kind,rfl,rfl,Qs _,λy z c m o=>?_,λy g=>?_,λy c _ h=>?_,λ_=>hd,Qdn a.frames,.inr ⟨rfl,rfl⟩,λb z=>absurd z (d b),a.bs,a.bsz,λb _ _=>d b,λb z=>absurd z (d b),a.funs,a.frf⟩,
   rfl,a.bare,Un.kept t,⟨_,x.toInCall.ns,λi y v m o J=>?_⟩,λy c h=>⟨_,x.cell y c h⟩,a.hok.fresh (Qs _),λy c h=>?_,λp j=>absurd (show p∈([]:List (Addr×Obj)) from j) (by simp),a.hok.kept t,?_⟩
  ·exact name_of_addr x.apart (Vq m) (Vq o)
  ·have g:=g;rcases g with g|g
   ·exact zcw g
   ·exact absurd rfl (S.nofree _ (Vq g))
  ·exact Yq (x.above y c (Vq h))
  ·have L:i<vs.length:=by
    unfold start at o;grind
   have D:vs[i]?=some v:=by
    unfold start at o;grind
   obtain⟨u,B,F⟩:=r.get D;have j:ps[i]?=some y:=by
    rw[<- S.pre,Qfb (by lia)];exact m
   have l:ps.Nodup:=by rw[<- S.pre];exact S.nd.sublist (List.take_sublist _ _)
   refine⟨u,F,?_⟩;rcases S.par y (Qh j)with k|k
   ·exact .inl ⟨k,qxe l j B k⟩
   ·obtain⟨c,e⟩:=zcw (n:=s.heap.objs.size+1) k;refine .inr ⟨.inl k,c,e,?_⟩;have q:=x.cell y c e;rw[qxf l j B (by show scope.names.lookup y≠_;rw[k];decide)]at q;exact q
  ·exact a.hok.fresh (Yq (x.above y c (Vq h)))
  ·unfold start;show _=N.length;rw[Y2,Qe,Qda];lia
theorem zxn{K:Qd}{L kV j M a O oc:Value}(W:K.lookup f=some ⟨oc,od,.func (Vx name qual params body scope L kV j M an a O),osl⟩)(B:Qcy K a qual=true)(S:FnScope N ps scope)(len:∀vs H Q E,sp vs H Q E->vs.length=ps.length)(g:∀(A:Yk)(outer:List Env)(s:Qt)(H:Hp)(vs:List V)(Q:VK)(E:XK),Room k (A.deeper (Qcq qual scope s.heap.objs.size f a))->sp vs H Q E ->
 ∃t,PSs (qpe CX P w K mg base N qual scope f a A outer s H E) body t/\t { nx:=λ_ d=>Q .non d,rt:=Q } (start N vs) H):
  FnOk P w K mg base CX (k+1) f (Vx name qual params body scope L kV j M an a O) ps sp:=by
  refine⟨len,λA outer s H R X vs Q E C l Y r m=>?_⟩;have Z:=len _ _ _ _ m;have T:=l.mod.kin.keeps λb o e=>(l.bs b o e).1;have D:=l.mod.nolimit.keeps λb o e=>(l.bs b o e).1;have h:∀y∈ps.zip X,scope.names.lookup y.1=some .local\/(scope.names.lookup y.1=some .cell/\((Vz (s.heap.objs.size+1) scope.names []).lookup y.1).isSome=true):=λp hy=>by
   obtain⟨n,v⟩:=p;rcases S.par n (Qgj hy).1 with q|q
   ·exact .inl q
   ·exact .inr ⟨q,Qcn _ _ _ (.inl q)⟩
  refine codeAny_call_function C.depth (T _ _ W) rfl S.co S.gen rfl (PySem.W.codeRec_of T B) (Y _ _ _ _ ?_);refine wpAny_newFunctionEnv_cells S.kind h λenv he U x=>?_;subst he;refine⟨D.keeps x.toInCall.keep,codeAny_func ?_⟩;obtain⟨t,ht,hq⟩:=g A outer s H vs Q E (C.deeper _) m;have I:Inv (qpe CX P w K mg base N qual scope f a A outer s H E) [] (start N vs) H U:=zjx S C.hd l Z r x;refine Yh (ht [] U (start N vs) H _ I hq) (λfl F i=>?_) λe F i=>i;have z:∀{c:St}{d:Hp}{v:V}{u:Value},Inv (qpe CX P w K mg base N qual scope f a A outer s H E) [] c d F->RelV v u->Q v d->CE outer P w H s Q u F :=
   λ{c d v u} J G q=>⟨v,d,J.os,J.bare,J.base,J.hok,G,q⟩
  cases fl with
  |ret u =>
   obtain⟨v,c,d,J,G,q⟩:=i;exact z J G q
  |next =>
   obtain⟨c,d,J,q⟩:=i;exact z (v:=V.non) (u:=Jr) J rfl q
  |brk =>
   obtain⟨_,_,_,q⟩:=i;exact Zc q
  |cont =>
   obtain⟨_,_,_,q⟩:=i;exact Zc q
section
variable{X:Cx}{x:Str}{p pos:Pos}{e:Expr}{es:List Expr}{t:TA}{id T:String}{r:List V->Hp->VK->Prop}
def tCB(r:List V->Hp->VK->Prop)(t:TA):TE:=λa H Q=>t a H λb c=>r b c Q
theorem qjh(g:CallR X (.builtin id) r)(i:Gl X x)(j:X.mg x=none)(k:Zl x=some (.builtin id))(l:PA X (e::es) t)(m:x ≠ "__name__":=by decide)(c:Nd0 x:=by decide)(he:Qu (e::es) X.env=(false,eval e X.env)::Qu es X.env:=by rfl)(d:(V5 pos (Qu es X.env)).any (·.1)=false:=by rfl):PE X (.Call (.Name x p) (e::es) [] pos) (tCB r t):=by
 intro a s f H Q I h;refine Jk (qik I i j k ?_ m c);exact PyProof.Rows.callWith_builtin1 (thn (l pos a s f H _ I h) λn o b=>by obtain⟨q,u,v,w,y⟩:=b;exact g a o f u q n Q v w y) he d
theorem qhb(g:CallR X (.type T) r)(i:Gl X x)(j:X.mg x=none)(k:Zl x=some (.type T))(l:PA X (e::es) t)(m:x ≠ "__name__":=by decide)(c:Nd0 x:=by decide)(he:Qu (e::es) X.env=(false,eval e X.env)::Qu es X.env:=by rfl)(d:(V5 pos (Qu es X.env)).any (·.1)=false:=by rfl):PE X (.Call (.Name x p) (e::es) [] pos) (tCB r t):=by
 intro a s f H Q I h;refine Jk (qik I i j k ?_ m c);exact Vd (thn (l pos a s f H _ I h) λn o b=>by obtain⟨q,u,v,w,y⟩:=b;exact g a o f u q n Q v w y) he d
end
end L2
namespace HT
open PySem PyProof.Rows
section
open PySem.SeqAt
open PySem.AutoSeq1 (wpAny_loadPart')
open PySem.MeetsSeq PySem.MeetsSeq2 PySem.MeetsSeq3
end
section
variable{prog:Zw}{w:World}{A:Yk}{E:Value->Qt->Prop}{s:Qt}
theorem cat_tup(r:IsTup s.heap t vs.toArray)(u:IsTup s.heap b ws.toArray)(y:vs≠[])(v:ws=[]->Q (.ref t) s)(z:ws≠[]->Q (.ref s.heap.objs.size) { s with heap:=s.heap.push { cls :=.type "tuple",data :=.seq (vs++ws).toArray } })(x:vs.length+ws.length<=Q4):wpAny (model prog w) A (Je .Add (.ref t) (.ref b)) Q E s:=by
  obtain⟨⟨cls,j,data,k⟩,h,l,n,m⟩:=id r;obtain⟨⟨o,c,i,d⟩,a,f,p,g⟩:=id u;simp only at l m f g;subst l m f g;have e:vs.toArray++ws.toArray=(vs++ws).toArray:=by simp
  by_cases q:ws=[]
  ·exact Qjw ⟨_,h,rfl⟩ ⟨_,a,rfl⟩ noFill_tuple_add seq_tuple_add Qga Qfk (Qfc _ _)
    (tuple_addW1 t b vs.toArray ws.toArray n p j c k d (by grind) (by simp[q])) ⟨h,a,v q⟩
  ·refine Qjw ⟨_,h,rfl⟩ ⟨_,a,rfl⟩ noFill_tuple_add seq_tuple_add Qga Qfk (Qfc _ _)
    (tuple_addW2 t b vs.toArray ws.toArray n p j c k d (by grind) (by grind) (by grind)) ⟨h,a,?_⟩
   grind
def sIx(n d:Nat):Option Int->Nat
 |none=>d
 |some v=>if v<0 then(v+(n:Int)).toNat else min v.toNat n
theorem sIx_none(n d:Nat):sIx n d none=d:=rfl
theorem sIx_nat(n d k:Nat):sIx n d (some (k:Int))=min k n:=by
 show(if(k:Int)<0 then((k:Int)+(n:Int)).toNat else min (k:Int).toNat n)=min k n;rw[if_neg (by lia),Yx]
end
end HT
namespace L2
open PySem PySem.Spec PyProof.Rows
abbrev TO:=St->Hp->(Option Int->Hp->Prop)->Prop
def PO(X:Cx)(e:Option Expr)(t:TO):Prop :=
 ∀(a:List (Addr×Obj))(s:Qt)(b:St)(H:Hp)(Q:Option Int->Hp->Prop),Inv X a b H s->t b H Q ->
  wpAny (model X.prog X.w) X.A (evalPart e X.env) (λu d =>∃o c,Inv X a b c d/\IsPart u o/\Q o c) X.xe s
def zwm:TO:=λ_ H Q=>Q none H
def xcb(t:TE):TO:=λa H Q=>t a H λx b =>∃i,x = .int i/\Q (some i) b
theorem qsf:∀{us:List Value},Vals (ns.map V.int) us->Qhb us ns:=by
 induction ns with
 |nil=>intro us r;rw[J3]at r;cases r;exact .nil
 |cons n ns a =>
  intro us r;rw[Qq]at r;cases r with
  |cons b c =>
   obtain⟨t,e⟩:=b;subst e;exact .cons n t (a c)
section
variable{X:Cx}{e:Expr}{te:TE}{lo hi:Option Expr}{tl th:TO}{pos p2:Pos}
theorem zsu:PO X none zwm:=by
 intro a s b H Q I h;rw[evalPart_none];exact Qy ⟨none,H,I,.none,h⟩
theorem zvt(h:PE X e te):PO X (some e) (xcb te):=by
 intro a s c H Q I d;rw[evalPart_some];refine thn (h a s c H _ I d) λu l b=>?_;obtain⟨x,f,g,j,k⟩:=b;obtain⟨i,rfl,q⟩:=k;obtain⟨t,rfl⟩:=j;exact⟨some i,f,g,.int i t,q⟩
def SlR(X:Cx)(r:V->Option Int->Option Int->Hp->VK->Prop):Prop :=
 ∀(a:List (Addr×Obj))(s:Qt)(b:St)(H:Hp)(x:V)(v c d:Value)(e f:Option Int)(g:Addr)(Q:VK),Inv X a b H s->RelV x v->s.heap.IsSliceOf g c d .none->IsPart c e->IsPart d f->r x e f H Q ->
  ∃T id,typeLookup (.type T) "__getitem__" = pure (some (.builtin id))/\s.TypeIs v T/\wpAny (model X.prog X.w) X.A (getItem v (.ref g)) (EP X a b Q) X.xe s
def tSl(r:V->Option Int->Option Int->Hp->VK->Prop)(te:TE)(b c:TO):TE:=λa H Q=>te a H λx d=>b a d λl e=>c a e λu f=>r x l u f Q
theorem zoi(m:SlR X r)(he:PE X e te)(n:PO X lo tl)(o:PO X hi th):PE X (.Subscript e (.Slice lo hi none p2) pos) (tSl r te tl th):=by
 intro a s d H Q I h;refine Subscript_ (thn (he a s d H _ I h) λv p f=>?_);obtain⟨x,t,w,y,z⟩:=f;refine wpAny_Slice (thn (n a p d t _ w z) λi A ⟨l,B,C,D,E⟩=>thn (o a A d B _ C E) λj c g=>?_);obtain⟨u,k,F,G,J⟩:=g;rw[evalPart_none];refine Qy ?_;have K:Inv X a d k { c with heap:=c.heap.push { cls :=.type "slice",data :=.fields #[i,j,.none] } }:=F.kept (t':=c.toks) λb O q=>Qi _ q;obtain⟨T,id,L,M,N⟩:=m a { c with heap:=c.heap.push { cls :=.type "slice",data :=.fields #[i,j,.none] } } d k x v i j l u c.heap.objs.size Q K y (Qmf ..) D G J;exact tail_any (ops:=[.ref c.heap.objs.size,v]) M L N (by with_unfolding_all rfl)
def zhm(xs:List V)(lo a:Option Int):List V:=(xs.drop (HT.sIx xs.length 0 lo)).take (HT.sIx xs.length xs.length a-HT.sIx xs.length 0 lo)
theorem zap(xs:List V)(lo a:Option Int):(zhm xs lo a).length<=xs.length:=by
 unfold zhm;rw[Vm,Qbi];lia
def xdh(K:Qd):R2:=λx y H Q =>∃a b d c,x = .ref a/\y = .ref b/\SqT K H a d/\SqT K H b c/\d≠[]/\d.length+c.length<=Q4 /\
 (c=[]->Q (.ref a) H)/\(c≠[] ->∀p,H p=none->Q (.ref p) (upd H p (.tup (d++c))))
theorem Vals.nil_iff(r:Vals xs us):us=[]↔xs=[]:=by
 cases r with
 |nil=>simp
 |cons _ _=>simp
theorem zue:OpR X (Je .Add) (xdh X.K):=by
 intro e s D H x y v u Q I g i h;obtain⟨a,b,j,k,rfl,rfl,l,m,n,p,r,t⟩:=h;cases g;cases i;obtain⟨A,d,B,_⟩:=I.tuple l;obtain⟨f,c,C,_⟩:=I.tuple m;refine HT.cat_tup B C (λz=>n (d.nil_iff.mp z)) (λz=>⟨.ref a,H,I,rfl,r (c.nil_iff.mp z)⟩) (λz=>?_) (by rw[<- d.length,<- c.length];exact p);refine⟨.ref s.heap.objs.size,_,I.laid (t':=s.toks) (o :=.tup (j++k)) (λb E q=>Qi _ q) (Qs _) ?_,rfl,t (λw=>z (c.nil_iff.mpr w)) _ (I.hok.fresh (Qs _))⟩;exact⟨by grind,_,d.append c,IsTup.new _ _⟩
end
def ixN(n:Nat)(i:Int):Option Nat:=if 0<=i then(if i<n then some i.toNat else none)else if -(n:Int)<=i then some (i+n).toNat else none
def atI{a:Type}(xs:List a)(i:Int):Option a:=(ixN xs.length i).bind λj=>xs[j]?
theorem zir(h:ixN n i=some j):seqIndex? i n=some j/\j<n /\ -(n:Int)<=i/\i<n:=by
 unfold ixN at h;by_cases b:0<=i
 ·rw[if_pos b]at h;by_cases a:i<n
  ·rw[if_pos a]at h;grind[Qr,Qlb]
  grind
 ·rw[if_neg b]at h;by_cases a : -(n:Int)<=i
  ·rw[if_pos a]at h;grind[Qr,Qjz]
  grind
theorem qyu{v:α}(h:atI xs i=some v):∃j,seqIndex? i xs.length=some j/\xs[j]?=some v/\j<xs.length /\ -(xs.length:Int)<=i/\i<xs.length:=by
 unfold atI at h;cases e:ixN xs.length i with
 |none=>rw[e]at h;cases h
 |some j =>
  rw[e]at h;obtain⟨a,b,c,d⟩:=zir e;exact⟨j,a,h,b,c,d⟩
theorem qax{j:Nat}{v:α}(h:xs[j]?=some v):atI xs (j:Int)=some v:=by
 have a:=(Qp.mp h).1;have e:ixN xs.length (j:Int)=some j:=by
  unfold ixN;grind
 unfold atI;grind
theorem atI_last(xs:List α)(v:α):atI (xs++[v]) (-1)=some v:=by
 have a:(xs++[v]).length=xs.length+1:=by simp
 have e:ixN (xs++[v]).length (-1)=some xs.length:=by
  unfold ixN;grind
 unfold atI;grind
def qyp(b:Expr):Prop :=∀o i,subscripted b false o i=operate [o,i] (getItem o i)
def IxR(X:Cx)(r:R2):Prop :=
 ∀(c a:Expr)(b:List (Addr×Obj))(s:Qt)(d:St)(H:Hp)(x y:V)(v u:Value)(Q:VK),Inv X b d H s->RelV x v->RelV y u->r x y H Q ->
  subscripted a false v u=operate [v,u] (getItem v u)->wpAny (model X.prog X.w) X.A (subscriptTail c a v u) (EP X b d Q) X.xe s
def MtR(X:Cx)(id:String)(r:V->List V->Hp->VK->Prop):Prop :=
 ∀(a:List (Addr×Obj))(s:Qt)(b:St)(H:Hp)(x:V)(c:List V)(v:Value)(d:List Value)(Q:VK),Inv X a b H s->RelV x v->Vals c d->r x c H Q ->
  wpAny (model X.prog X.w) X.A (call (.builtin id) (v::d)) (EP X a b Q) X.xe s
section
variable{X:Cx}{a b:Expr}{ta tb:TE}{pos:Pos}
theorem IxR.or(h:IxR X r)(h':IxR X r'):IxR X (λx y H Q=>r x y H Q\/r' x y H Q):=by
 intro a b c s d H x y v u Q I e f q g;rcases q with q|q
 ·exact h a b c s d H x y v u Q I e f q g
 ·exact h' a b c s d H x y v u Q I e f q g
theorem zlp(d:IxR X r)(e:PE X a ta)(f:PE X b tb)(g:qyp b):PE X (.Subscript a b pos) (tOp r ta tb):=by
 intro c s i H Q I h;exact Subscript_ (xau e f I h λv u j x y k l m n q=>d a b c j i k x y v u Q l m n q (g _ _))
def xed(K:Qd):R2:=λx y H Q =>∃p a i v,x = .ref p/\y = .int i/\SqL K H p a/\atI a i=some v/\Q v H
def xdy(K:Qd):R2:=λx y H Q =>∃p a i v,x = .ref p/\y = .int i/\SqT K H p a/\atI a i=some v/\Q v H
def xdp:R2:=λx y H Q =>∃z i c,x = .str z/\y = .int i/\z.length<=Q4/\atI z.cps.toList i=some c/\Q (.str ⟨#[c]⟩) H
theorem qsc:IxR X (xed X.K):=by
 intro c d a s k H x y v u Q I m n h l;obtain⟨p,E,i,z,rfl,rfl,o,he,q⟩:=h;cases m;obtain⟨t,rfl⟩:=n;obtain⟨e,r,f,F⟩:=I.list o;obtain⟨j,G,A,J,K,L⟩:=qyu he;obtain⟨w,M,g⟩:=r.get A;have N:=r.length;have O:=qmm;have b:EP X a k Q w s:=⟨z,H,I,g,q⟩
 by_cases B:0<=i
 ·have C:i.toNat=j:=by
   grind[Qlb,Qr]
  exact item_listR f.isList B (by lia) (by grind) b l
 ·have C:(i+(e.toArray.size:Int)).toNat=j:=by
   grind[Qjz,Zn,Qr]
  exact Qgc (x:=w) f.isList.typeIs slot_list_getitem.lookup
   (wpAny_getItem_list_neg (Q:=λr D=>r=w/\EP X a k Q r D) f.isList (by lia) (by grind) (by lia) (by grind) ⟨rfl,b⟩) l
theorem zyf:IxR X (xdy X.K):=by
 intro b c a s f H x y v u Q I k l h m;obtain⟨p,C,i,z,rfl,rfl,n,he,q⟩:=h;cases k;obtain⟨t,rfl⟩:=l;obtain⟨o,r,g,D⟩:=I.tuple n;obtain⟨j,E,A,F,G,J⟩:=qyu he;obtain⟨w,K,d⟩:=r.get A;have L:=r.length;have M:=qmm;have e:EP X a f Q w s:=⟨z,H,I,d,q⟩
 exact Qgc (x:=w) g.typeIs slot_tuple_getitem.lookup
  (getItem_tuple (j:=j) (Q:=λr B=>r=w/\EP X a f Q r B) g (by lia) (by lia) (by grind) (by grind) ⟨rfl,e⟩) m
theorem zyx:IxR X xdp:=by
 intro a b d s o H x y v u Q I e f h g;obtain⟨z,i,c,rfl,rfl,p,he,q⟩:=h;obtain⟨t,rfl⟩:=e;obtain⟨r,rfl⟩:=f;obtain⟨j,k,w,A,l,m⟩:=qyu he;have n:z.cps.toList.length=z.length:=by simp[Str.length]
 rw[n]at k l m;have B:=qmm;exact tail_any (typeIs_str s z t) slot_str_getitem.lookup (getItem_str (c:=c) (by
  grind) (by grind) ⟨.str ⟨#[c]⟩,H,I.tok _,⟨_,rfl⟩,q⟩) g
def rIx(K:Qd):R2:=λx y H Q=>xed K x y H Q\/xdy K x y H Q\/xdp x y H Q
theorem zyh:IxR X (rIx X.K):=qsc.or (zyf.or zyx)
theorem zfm(a:List Value)(n j:Nat)(u:Value):Ye (·.setIfInBounds j u) { cls :=.type "list",data :=.seq a.toArray n }={ cls :=.type "list",data :=.seq (a.set j u).toArray n }:=by
 simp[Ye]
theorem Inv.lst{b:St}(I:Inv X pins b H s)(h:H p=some (.lst xs)):
 ∃(a:List Value)(n:Nat),Vals xs a/\s.heap.get? p=some { cls :=.type "list",data :=.seq a.toArray n }/\xs.length<=Q4:=by
  obtain⟨z,a,n,r,e⟩:=I.hok p _ h;exact⟨a,n,r,e,z⟩
theorem Inv.lstUpd{c:St}{a its':List Value}(I:Inv X pins c H s)(h:H p=some (.lst xs))(g:s.heap.get? p=some { cls :=.type "list",data :=.seq a.toArray n })(d:f { cls :=.type "list",data :=.seq a.toArray n }={ cls :=.type "list",data :=.seq its'.toArray n' })(r:Vals ys its')(hz:ys.length<=Q4)(t:Nat):
  Inv X pins c (upd H p (.lst ys)) { s with heap:=s.heap.update p f,toks:=t }:=by
  have e:(s.heap.update p f).get? p=some { cls :=.type "list",data :=.seq its'.toArray n' }:=by
   rw[Qal f g (by rw[d] <;> rfl),d]
  refine I.write (x:=p) (e:=p) (by rw[h];trivial) (.inl rfl) (λb u i q=>(Qaf _ _ (Z9 i)).trans q) ⟨_,e⟩ ?_;exact⟨hz,its',n',r,e⟩
def xck:V->V->V->Hp->(Hp->Prop)->Prop:=λo i v H Q =>∃p a k j,o = .ref p/\i = .int k/\H p=some (.lst a)/\ixN a.length k=some j/\Q (upd H p (.lst (a.set j v)))
theorem zbv:xdv X xck:=by
 intro a s d H o i v x y u Q I e f g h;obtain⟨p,l,k,j,rfl,rfl,c,m,q⟩:=h;cases e;obtain⟨t,rfl⟩:=f;obtain⟨b,n,r,w,z⟩:=I.lst c;obtain⟨A,B,C,D⟩:=zir m;have E:=r.length;have F:=qmm;have G:Inv X a d (upd H p (.lst (l.set j v))) { s with heap:=s.heap.update p (Ye (·.setIfInBounds j u)) } :=
  I.lstUpd c w (zfm b n j u) (r.set g j) (by grind) s.toks
 grind[Qlb,Qr,PySem.W.ki_setAt,Zn,Qjz,PySem.W.ki_setBack]
theorem qxq(lo a:Option Int)(n:Nat):(Qcx lo a none n).1=((HT.sIx n 0 lo:Nat):Int)/\(Qcx lo a none n).2.1=((HT.sIx n n a:Nat):Int)/\(Qcx lo a none n).2.2=1:=by
 refine⟨?_,?_,rfl⟩
 ·cases lo with
  |none=>simp[Qcx,HT.sIx]
  |some i =>
   simp only[Qcx,HT.sIx,Qkb,show(1:Int)>0 by decide,if_true];grind
 ·cases a with
  |none=>simp[Qcx,HT.sIx]
  |some i =>
   simp only[Qcx,HT.sIx,Qkb,show(1:Int)>0 by decide,if_true];grind
theorem quu(a:List Value)(lo b:Option Int):slicePick a.toArray lo b none=((a.drop (HT.sIx a.length 0 lo)).take (HT.sIx a.length a.length b-HT.sIx a.length 0 lo)).toArray:=by
 obtain⟨c,d,e⟩:=qxq lo b a.toArray.size;unfold slicePick;rw[c,d,e];simp only[sliceRange_one,pick_run,Zn] <;> rfl
def xek(K:Qd):V->Option Int->Option Int->Hp->VK->Prop:=λx c d H Q =>∃a b,x = .ref a/\SqL K H a b /\ ∀p,H p=none->Q (.ref p) (upd H p (.lst (zhm b c d)))
theorem zty:SlR X (xek X.K):=by
 intro g s u H x v w y e f z Q I j k l m h;obtain⟨a,c,rfl,n,q⟩:=h;cases j;obtain⟨p,r,i,t⟩:=I.list n;have d:=r.length;refine⟨"list",_,slot_list_getitem.lookup,i.isList.typeIs,?_⟩;refine wpAny_getItem_list_slice i.isList k l m .none (by simp) ?_ (by grind);rw[quu,<- d];refine⟨.ref s.heap.objs.size,_,I.laid (t':=s.toks) (o :=.lst (zhm c e f)) (λb A q=>Qi _ q) (Qs _) ?_,rfl,q _ (I.hok.fresh (Qs _))⟩;exact⟨Zq (zap c e f) t,_,0,(r.drop (HT.sIx c.length 0 e)).take (HT.sIx c.length c.length f-HT.sIx c.length 0 e),Qx _ rfl⟩
def qpo:V->Bool
 |.non=>true
 |.bl _=>true
 |.int _=>true
 |.str _=>true
 |_=>false
def eqV:V->V->Bool
 |.non,.non=>true
 |.bl a,.bl b=>a==b
 |.bl a,.int b=>(if a then 1 else 0)==b
 |.int a,.bl b=>a==(if b then 1 else 0)
 |.int a,.int b=>a==b
 |.str a,.str b=>a==b
 |_,_=>false
theorem zzs(e:RelV y u)(c:RelV x v)(g:qpo y=true)(f:qpo x=true):SeqAt.EqAt A s u v (eqV y x):=by
 cases y with
 |non =>
  cases e;cases x with
  |non=>cases c;exact SeqAt.EqAt.same _
  |bl b=>cases c;exact SeqAt.EqAt.none_bool b
  |int b=>obtain⟨t,rfl⟩:=c;exact SeqAt.EqAt.none_int b t
  |str b=>obtain⟨t,rfl⟩:=c;exact SeqAt.EqAt.none_str b t
  |_=>exact absurd (show false=true from f) Yi
 |bl a =>
  cases e;cases x with
  |non=>cases c;exact SeqAt.EqAt.bool_none a
  |bl b=>cases c;exact SeqAt.EqAt.bool_bool a b
  |int b=>obtain⟨t,rfl⟩:=c;exact SeqAt.EqAt.bool_int a b t
  |str b=>obtain⟨t,rfl⟩:=c;exact SeqAt.EqAt.bool_str a b t
  |_=>exact absurd (show false=true from f) Yi
 |int a =>
  obtain⟨d,rfl⟩:=e;cases x with
  |non=>cases c;exact SeqAt.EqAt.int_none a d
  |bl b=>cases c;exact SeqAt.EqAt.int_bool a d b
  |int b=>obtain⟨t,rfl⟩:=c;exact SeqAt.EqAt.int_int a d b t
  |str b=>obtain⟨t,rfl⟩:=c;exact Qih a d b t
  |_=>exact absurd (show false=true from f) Yi
 |str a =>
  obtain⟨d,rfl⟩:=e;cases x with
  |non=>cases c;exact SeqAt.EqAt.str_none a d
  |bl b=>cases c;exact SeqAt.EqAt.str_bool a d b
  |int b=>obtain⟨t,rfl⟩:=c;exact Qii a d b t
  |str b=>obtain⟨t,rfl⟩:=c;exact SeqAt.EqAt.str_str a d b t
  |_=>exact absurd (show false=true from f) Yi
 |_=>exact absurd (show false=true from g) Yi
def eqU(x:V)(u:Value):Bool:=match u with
 |.none=>eqV .non x
 |.bool b=>eqV (.bl b) x
 |.int i _=>eqV (.int i) x
 |.str z _=>eqV (.str z) x
 |_=>false
theorem zrp(r:RelV y u)(f:qpo y=true):eqU x u=eqV y x:=by
 cases y with
 |non=>cases r;rfl
 |bl b=>cases r;rfl
 |int i=>obtain⟨t,rfl⟩:=r;rfl
 |str z=>obtain⟨t,rfl⟩:=r;rfl
 |_=>exact absurd (show false=true from f) Yi
theorem qye:∀{xs:List V}{us:List Value},Vals xs us->xs.all qpo=true->us.any (eqU x)=xs.any λy=>eqV y x
 |_,_,.nil,_=>rfl
 |y::xs,u::us,.cons r t,f=>by
  rw[Qfl,Yb]at f;rw[Qbw,Qbw,zrp r f.1,qye t f.2]
theorem qsx(b:RelV x v)(c:qpo x=true):∀{xs:List V}{us:List Value},Vals xs us->xs.all qpo=true ->∀u∈us,SeqAt.EqAt A s u v (eqU x u)
 |_,_,.nil,_=>λu a=>by cases a
 |y::xs,u::us,.cons r t,f=>λd a=>by
  rw[Qfl,Yb]at f;rcases Zd.mp a with rfl|a
  ·rw[zrp r f.1];grind[zzs]
  ·exact qsx b c t f.2 d a
def inV(x:V)(xs:List V):Bool:=xs.any λy=>eqV y x
def rIn(K:Qd)(b:Bool):R2:=λx y H Q =>∃p a,y = .ref p/\(SqL K H p a\/SqT K H p a)/\qpo x=true/\a.all qpo=true/\Q (.bl (if b then !inV x a else inV x a)) H
theorem zjv:OpR X (Yo .In) (rIn X.K false):=by
 intro d s k H x y v u Q I e g h;obtain⟨p,l,rfl,b,f,fs,q⟩:=h;cases g;rcases b with b|b
 ·obtain⟨a,r,c,i⟩:=I.list b;refine SeqAt.in_listAt (eqU x) c.isList (λw j=>qsx e f r fs w (by grind)) ⟨.bl _,H,I,rfl,?_⟩;rw[show a.toArray.any (eqU x)=a.any (eqU x) by simp,qye r fs];exact q
 ·obtain⟨a,r,c,i⟩:=I.tuple b;refine SeqAt.in_tupleAt (eqU x) c (λw j=>qsx e f r fs w (by grind)) ⟨.bl _,H,I,rfl,?_⟩;rw[show a.toArray.any (eqU x)=a.any (eqU x) by simp,qye r fs];exact q
theorem qlr:CallR X (.builtin "len") (λxs H Q =>∃p a,xs=[.ref p]/\(SqL X.K H p a\/SqT X.K H p a)/\Q (.int a.length) H):=by
 intro g s k H xs l Q I r h;obtain⟨p,a,rfl,b,q⟩:=h;obtain⟨u,rfl,i⟩:=qmp r;cases i;have m:=qmm;rcases b with b|b
 ·obtain⟨d,e,f,j⟩:=I.list b;have c:=e.length;exact Calls.call_len_list f.isList (by grind) ⟨.int a.length,H,I.tok _,⟨s.toks+1,by grind⟩,q⟩
 ·obtain⟨d,e,f,j⟩:=I.tuple b;have c:=e.length;exact len_tuple f (by grind) ⟨.int a.length,H,I.tok _,⟨s.toks+1,by grind⟩,q⟩
theorem qxw:CallR X (.builtin "len") (λxs H Q =>∃z,xs=[.str z]/\z.length<=Q4/\Q (.int z.length) H):=by
 intro a s b H xs c Q I r h;obtain⟨z,rfl,d,q⟩:=h;obtain⟨u,rfl,t,rfl⟩:=qmp r;have e:=qmm;exact len_str (by lia) ⟨.int z.length,H,I.tok _,⟨_,rfl⟩,q⟩
theorem CallR.or(h:CallR X f r)(h':CallR X f r'):CallR X f (λxs H Q=>r xs H Q\/r' xs H Q):=by
 intro a s b H xs c Q I rs q;rcases q with q|q
 ·exact h a s b H xs c Q I rs q
 ·exact h' a s b H xs c Q I rs q
theorem qxs:CallR X (.type "list") (λxs H Q =>∃p c,xs=[.ref p]/\(SqL X.K H p c\/SqT X.K H p c) /\ ∀l,H l=none->Q (.ref l) (upd H l (.lst c))):=by
 intro d s w H xs D Q I r h;obtain⟨p,c,rfl,f,q⟩:=h;obtain⟨u,rfl,x⟩:=qmp r;cases x;have y:∀(a:List Value),Vals c a->c.length<=Q4 ->∀(g:Heap)(k:Nat),(∀b v,s.heap.get? b=some v->g.get? b=some v) ->
  g.get? s.heap.objs.size=some { cls :=.type "list",dict:=none,data :=.seq a.toArray k,slots := #[] }->EP X d w Q (.ref s.heap.objs.size) { s with heap:=g }:=λa i m g k z e =>
  ⟨.ref s.heap.objs.size,_,I.laid (t':=s.toks) z (Qs _) (show ObjOk X.prog X.w _ g _ (.lst c) from⟨m,a,k,i,e⟩),rfl,q _ (I.hok.fresh (Qs _))⟩
 rcases f with f|f
 ·obtain⟨a,i,t,m⟩:=I.list f;have j:=i.length;obtain⟨o,A,B,n,C⟩:=t.isList;grind[call_list_seq,Zn]
 ·obtain⟨a,i,t,m⟩:=I.tuple f;have j:=i.length;obtain⟨o,A,B,n,C⟩:=t;grind[call_list_seq,Zn]
theorem qjw:CallR X (.type "tuple") (λxs H Q =>∃p c,xs=[.ref p]/\((SqL X.K H p c /\ ∀l,H l=none->Q (.ref l) (upd H l (.tup c)))\/(SqT X.K H p c/\Q (.ref p) H))):=by
 intro d s t H xs y Q I r h;obtain⟨p,c,rfl,h⟩:=h;obtain⟨u,rfl,v⟩:=qmp r;cases v;rcases h with⟨f,q⟩|⟨f,q⟩
 ·obtain⟨a,g,i,k⟩:=I.list f;have m:=g.length;refine call_tuple_list i.isList (λj w=>?_) (by grind);have n:=I.kept (t':=s.toks) w;have x:Inv X d t (upd H j.objs.size (.tup c)) { s with heap:=j.push { cls :=.type "tuple",data :=.seq a.toArray } } :=
   n.laid (t':=s.toks) (λb o e=>Qi _ e) (Qs _) (show ObjOk X.prog X.w _ _ _ (.tup c) from⟨k,a,g,IsTup.new _ _⟩)
  exact⟨.ref j.objs.size,_,x,rfl,q _ (n.hok.fresh (Qs _))⟩
 ·obtain⟨a,g,i,k⟩:=I.tuple f;exact call_tuple_same i ⟨.ref p,H,I,rfl,q⟩
def tyV(K:Qd)(T:String)(x:V)(H:Hp):Prop:=match x with
 |.str _=>T = "str"
 |.int _=>T = "int"
 |.ref p=>(T = "list" /\ ∃b,SqL K H p b)\/(T = "tuple" /\ ∃o,K.lookup p=some o/\o.cls = .type "tuple" /\ o.dict=none) \/
  (T = "dict" /\ ((∃a,H p=some (.dK a)) \/ ∃a,H p=some (.dT a)))\/(T = "set" /\ ∃S n,H p=some (.set S n))
 |_=>False
theorem zze{m:St}(I:Inv X pins m H s)(r:RelV x v)(f:tyV X.K T x H):
 s.TypeIs v T /\ ∀a,v = .ref a ->∃j,s.heap.get? a=some j/\j.dict=none:=by
  cases x with
  |str z =>
   obtain⟨t,rfl⟩:=r;cases(show T = "str" from f);grind[typeIs_str]
  |int i =>
   obtain⟨t,rfl⟩:=r;cases(show T = "int" from f);grind[typeIs_int]
  |ref p =>
   cases r;rcases f with⟨rfl,y,q⟩|⟨rfl,o,b,u,k⟩|⟨rfl,b⟩|⟨rfl,S,n,b⟩
   ·obtain⟨w,_,l,_⟩:=I.list q;refine⟨l.isList.typeIs,λa e=>?_⟩;cases e;obtain⟨o,n,e,c,k,_⟩:=l;grind
   ·refine⟨⟨o,I.kIn p o b,u⟩,λa e=>?_⟩;cases e;exact⟨o,I.kIn _ o b,k⟩
   ·have z:∃o,s.heap.get? p=some o/\o.ExactDict:=by
     rcases b with⟨g,b⟩|⟨g,b⟩
     ·obtain⟨_,_,_,_,o,_,_,e,d,_⟩:=I.hok p _ b;grind
     ·obtain⟨_,_,_,_,o,_,_,e,d,_⟩:=I.hok p _ b;grind
    obtain⟨o,e,d⟩:=z;refine⟨⟨o,e,d.1⟩,λa h=>?_⟩;cases h;exact⟨o,e,d.2.1⟩
   ·obtain⟨o,_,_,_,e,d,_⟩:=I.hok p _ b;refine⟨⟨o,e,d.1⟩,λa h=>?_⟩;cases h;exact⟨o,e,d.2.1⟩
  |_=>exact Zc f
def tBM(K:Qd)(T:String)(r:V->List V->Hp->VK->Prop)(c:TE)(t:TA):TE:=λa H Q=>c a H λx b=>tyV K T x b/\t a b λd e=>r x d e Q
variable{o e:Expr}{es:List Expr}{to:TE}{t:TA}{name:Str}{apos cpos:Pos}{T id:String}{r:V->List V->Hp->VK->Prop}
theorem zsh(q:PlainAttrs T)(slot:Slot T name id)(k:typeOf (.builtin id)=pure (.type "method_descriptor"))(u:MtR X id r)(w:PE X o to)(y:PA X (e::es) t)(d:V6 o name X.env (eval o X.env)=eval o X.env:=by rfl)(g:((V5 cpos (Qu (e::es) X.env)).all (λx => !x.1)&&(Qdv cpos (Qaa [] X.env)).all (λx=>x.1.isSome)
   && decide ((e::es).length+([]:List Qcg).length+(if([]:List Qcg).isEmpty then 0 else 1)<30))=true:=by rfl)(f:(apos.endLine==cpos.line)=true:=by rfl)(z:Qu (e::es) X.env=(false,eval e X.env)::Qu es X.env:=by rfl)(c:(V5 cpos (Qu es X.env)).any (·.1)=false:=by rfl):
  PE X (.Call (.Attribute o name apos) (e::es) [] cpos) (tBM X.K T r to t):=by
  intro b s l H Q I h;refine wpAny_Call_method_late d g f rfl (thn (w b s l H _ I h) λv A i=>?_);obtain⟨x,B,m,n,C,D⟩:=i;obtain⟨E,F⟩:=zze m n C;refine⟨T,id,q,slot,k,E,F,?_⟩;have p:=y cpos b A l B _ m D;rw[z]at p ⊢;refine Qco (by show(false||(V5 cpos (Qu es X.env)).any (·.1))=false;rw[c] <;> rfl) (Qhl ?_);exact thn p λG J j=>by obtain⟨K,L,M,N,O⟩:=j;exact u b J l L x K v G Q M n N O
/- xs.append(e),list.index on a module's tuple .. are MtR facts of 06m -/
end
def MtM(X:Cx)(id:String)(r:V->List V->Hp->VK->Prop):Prop :=
 ∀(a:List (Addr×Obj))(s:Qt)(b:St)(H:Hp)(x:V)(c:List V)(v:Value)(d:List Value)(Q:VK),Inv X a b H s->RelV x v->Vals c d->r x c H Q ->
  wpAny (model X.prog X.w) X.A (call (.builtin id) (v::d)) (EP X a b Q) X.xe s
theorem Vals.one:∀{x:V}{us:List Value},Vals [x] us ->∃u,us=[u]/\RelV x u
 |_,_,.cons r .nil=>⟨_,rfl,r⟩
theorem Vals.rep(h:Vals xs us):∀k:Nat,Vals (Zf k xs).flatten (Zf k us).flatten
 |0 => .nil
 |k+1=>by
  rw[Va,Va,Ju,Ju];exact Vals.append h (Vals.rep h k)
theorem qwp(a:List Value):∀(k:Nat)(acc:List Value),
 Qlf (λb c=>b++c) acc.toArray (Zf k a.toArray)=(acc++(Zf k a).flatten).toArray
  |0,acc=>by simp
  |k+1,acc=>by
   have e:acc.toArray++a.toArray=(acc++a).toArray:=by simp
   have d:(acc++a)++(Zf k a).flatten=acc++(Zf (k+1) a).flatten:=by
    grind
   rw[<- d,<- qwp a k (acc++a),<- e,Va,List.foldl_cons]
section
variable{X:Cx}{pins:List (Addr×Obj)}{σ:St}{H:Hp}{s:Qt}{l b:Addr}{xs ys zs:List V}
theorem Inv.lset{a its':List Value}(I:Inv X pins σ H s)(b:H l=some (.lst xs))(e:s.heap.get? l=some { cls :=.type "list",data :=.seq a.toArray n })(c:f a.toArray=its'.toArray)(d:Vals ys its')(hz:ys.length<=Q4):
  Inv X pins σ (upd H l (.lst ys)) { s with heap:=s.heap.update l (Ye f),toks:=t' }:=by
  have q:=Qkc e f;rw[c]at q;refine I.write (x:=l) (e:=l) (by rw[b];exact trivial) (.inl rfl) (λi u g h=>(Qaf s.heap (Ye f) (Z9 g)).trans h) ⟨_,q⟩ ?_;exact⟨hz,its',_,d,q⟩
theorem Inv.lnew(I:Inv X pins σ H s)(a:Vals ys its)(hz:ys.length<=Q4):
 Inv X pins σ (upd H s.heap.objs.size (.lst ys)) { s with heap:=s.heap.push { cls :=.type "list",data :=.seq its.toArray },toks:=t' } :=
  I.laid (λ_ _ q=>Qi _ q) (Qs _) ⟨hz,its,0,a,Qx _ rfl⟩
theorem Inv.fresh(I:Inv X pins σ H s):H s.heap.objs.size=none:=I.hok.fresh (Qs _)
theorem Inv.lstM(I:Inv X pins σ H s)(b:H l=some (.lst xs)):xs.length<=Q4 /\ ∃(a:List Value)(n:Nat),Vals xs a/\xs.length=a.length/\s.heap.get? l=some { cls :=.type "list",data :=.seq a.toArray n }:=by
 obtain⟨z,a,n,r,e⟩:=I.hok l _ b;exact⟨z,a,n,r,r.length,e⟩
theorem qtc(h:n<=Q4):V0 n=false:=by
 exact decide_eq_false (by lia)
end
section
variable{X:Cx}
def qxx:V->List V->Hp->VK->Prop:=λx b H Q =>∃l a y,x = .ref l/\b=[y]/\H l=some (.lst a)/\a.length<Q4/\Q .non (upd H l (.lst (a++[y])))
theorem zje:MtM X "list.append" qxx:=by
 intro b s i H x j v k Q I d f h;obtain⟨l,m,y,rfl,rfl,c,o,q⟩:=h;cases d;obtain⟨u,rfl,g⟩:=f.one;obtain⟨z,a,n,r,p,e⟩:=I.lstM c;refine Qdz F.slot_list_append ⟨_,e,rfl⟩ F.entry_list_append (F.args_list_append_2 _ _) (Qiz l a.toArray n u (by grind)) ⟨e,?_⟩;refine⟨.non,_,I.lset (its':=a++[u]) c e (by simp) (r.append (.cons g .nil)) ?_,rfl,q⟩;grind
def zsj:V->List V->Hp->VK->Prop:=λx d H Q =>∃l b a c,x = .ref l/\d=[.ref b]/\H l=some (.lst a)/\H b=some (.lst c)/\a.length+c.length<=Q4/\Q .non (upd H l (.lst (a++c)))
theorem zjd:MtM X "list.extend" zsj:=by
 intro g s A H x B v C Q I j k h;obtain⟨l,b,D,E,rfl,rfl,i,m,F,q⟩:=h;cases j;obtain⟨u,rfl,o⟩:=k.one;cases o;obtain⟨z,c,n,r,G,e⟩:=I.lstM i;obtain⟨J,a,p,t,w,y⟩:=I.lstM m;have f:c.toArray.size+a.toArray.size<=Q4:=by grind
 have d : ¬ (!c.toArray.isEmpty&&V0 (c.toArray.size+a.toArray.size))=true:=by
  rw[qtc f,Qer];grind
 refine Qdz Qil ⟨_,e,rfl⟩ Qhz (Qhm _ _)
  (AutoSeq1.list_extend_list_list_0 l c.toArray n b a.toArray p d (by grind) (by lia)) ⟨e,y,?_⟩
 refine⟨.non,_,I.lset (its':=c++a) i e (by simp) (r.append t) ?_,rfl,q⟩;grind
def xgi:R2:=λx y H Q =>∃l k a,x = .ref l/\y = .int k/\H l=some (.lst a) /\ -(2^63)<=k/\k<2^63/\a.length*k.toNat<=Q4 /\
 ∀p,H p=none->Q (.ref p) (upd H p (.lst (Zf k.toNat a).flatten))
theorem zsv{a:Type}(xs:List a)(k:Nat):(Zf k xs).flatten.length=k*xs.length:=by
 induction k with
 |zero=>simp
 |succ k b=>grind
theorem zzh:OpR X (Je .Mult) xgi:=by
 intro p s J H x y v u Q I w A h;obtain⟨l,k,K,rfl,rfl,B,C,D,L,q⟩:=h;cases w;obtain⟨t,rfl⟩:=A;obtain⟨z,b,n,r,M,e⟩:=I.lstM B;have d:b.toArray.size*k.toNat<=Q4:=by grind
 have f : ¬ b.toArray.size*k.toNat>(2^63-1)/8:=by
  have:(Q4:Nat)<=(2^63-1)/8:=by decide
  lia
 have g : ¬ (!Builtin.List.listFitsIndex k)=true:=by
  rw[fitsIndex_both C D];grind
 have c : ¬ V0 (b.toArray.size*k.toNat)=true:=by
  rw[qtc d];grind
 have i:Qlf (λj o=>j++o) #[] (Zf (if b.toArray.isEmpty=true then 0 else k.toNat) b.toArray)=(Zf k.toNat b).flatten.toArray:=by
  have E:∀m:Nat,Qlf (λj o=>j++o) #[] (Zf m b.toArray)=(Zf m b).flatten.toArray:=λm=>by
   have:=qwp b m [];grind
  rw[E];cases b with
  |nil=>simp
  |cons a N=>grind
 refine wpAny_binaryOp_repeat_ref (T := "list") (U := "int") (by decide) ⟨_,e,rfl⟩ (λG=>typeIs_int G k t) noFill_list_mul F.fills_int_mul Qks repeat_list F.slot_int_index.lookup
  (Qdz Qks (typeIs_int s k t) F.entry_int_rmul (F.args_int_rmul_2 _ _) (int___rmul___int_list k t l b.toArray n)
   ⟨e,rfl,⟨_,e,rfl⟩,Qdz F.slot_list_mul ⟨_,e,rfl⟩ F.entry_list_mul (F.args_list_mul_2 _ _) (AutoListH.list___mul___list_int_3 l b.toArray n k t g f c) ⟨e,?_⟩⟩)
 rw[i];exact⟨.ref _,_,I.lnew (t':=s.toks) (r.rep k.toNat) (by grind[zsv,Qbq]),rfl,q _ I.fresh⟩
end
section
variable{prog:Zw}{w:World}{A:Yk}{E:Value->Qt->Prop}{s:Qt}
end
section
variable{X:Cx}
end
end L2
namespace Att
open PySem PySem.W PySem.Calls PyProof.Rows
theorem qpr:∀(ns:LI)(vs:List Value),WellAll P h vs (ns.map WData.int)->Qhb vs ns:=by
 intro ns
 induction ns with
 |nil =>
  intro vs w;rw[J3]at w;cases w;exact .nil
 |cons n ns c =>
  intro vs w;rw[Qq]at w;cases w with
  |cons a b =>
   cases a;exact .cons _ _ (c _ b)
theorem zjr{l:OpenLaw}(s:l.most=some n)(b:l.row.toRowW.claim.pre args=true)(c:WellAll P h vals args):
 ∃a vs ns,vals=[Y6 a]/\args=[WData.list (ns.map WData.int)]/\h.get? a=some { cls :=.type "list",data :=.seq vs.toArray }/\Qhb vs ns/\ns.length<=n:=by
  have e:=(pre_splitW b).1;have j:l.pre.holds [] { args:=args }=true:=(pre_splitW b).2;obtain⟨d,r,rfl,k,m⟩:=hasAllW_cons e;obtain rfl:=hasAllW_nil m;obtain⟨t,rfl,o⟩:=hasW_list k;obtain⟨ns,rfl⟩:=items_int o;have f:ns.length<=n:=by
   have g:(WTm.not (.lt (.lit (.int (n:Int))) (.len (.arg 0)))).holds [] { args:=[.list (ns.map .int)] }=true:=by
    have g:=(holds_andW j).1;grind
   have u:=condW_of g (w_not (w_lt w_lit (w_len_list (w_arg rfl))));grind
  cases c with
  |cons p q =>
   cases q;cases p with
   |list v i=>grind[qpr]
theorem zkt(l:OpenLaw)(args:List WData):l.row.toRowW.claim.post args (.bool true) args=true :=
 postW_of (r:=l.row.toRowW) (X:=(true==true))
  (show WShape.has [] (.bool true) .bool=true by first|rfl|decide|grind)
  (show(WTm.eq .res (.lit (.bool true))).value [] { args:=args,res:=some (.bool true),after:=args }=some (.bool (true==true)) from w_eq_bool (w_res rfl) w_lit) rfl
theorem attach_call{l:OpenLaw}(B:l.most=some n)(m:d.params.defaults=[])(call:∀(w:World)(s₀ b:Qt)(mg p:Str->Option Value)(g:Addr)(o:Obj)(s cd c:Value)(a:Addr)(vs:List Value)(ns:LI),
 Ground q loose [] XP w s₀ mg p b.heap->YP w b.heap ->
 b.heap.get? g=some o->o.data = .func (docDef d.name d.params d.body d.scope s cd c)->b.heap.CodeRec cd d.name->mg d.name=some (.ref g) ->
 b.heap.get? a=some { cls :=.type "list",data :=.seq vs.toArray }->Qhb vs ns->ns.length<=n->b.gens = #[] ->
  Qcj (model l.prog w) Qid (.call (.ref g) ⟨[.ref a],[]⟩) (λr k=>r = .ok (.ret (.bool true))/\OldK b.heap k.heap/\k.os=b.os/\Qgz k.gens) b):
  WalkO q loose XP YP l.row.toRowW d [] (λf vs=>Qlg f vs):=by
  intro w s₀ b mg p G Y g o s cd c C kV D E t x u F y z O h A H v I;obtain rfl:C = .none:=Dflts.none x m;obtain rfl:kV = .none:=Dflts.noKw x;obtain⟨a,vs,ns,rfl,rfl,i,e,j⟩:=zjr B h v;refine enter_call (Qdd (call w s₀ b mg p g o s cd c a vs ns G Y D (fd_plain E) t u i e j F) λr k J=>?_);obtain⟨rfl,K,L,M⟩:=J;exact⟨.inl ⟨.bool true,.bool true,[],rfl,λ_=>rfl,.bool true,zkt l _,λ_=>⟨Qmh,λ_ N=>(nomatch N)⟩⟩,K,L,M⟩
section
variable{prog:Zw}{w:World}{A:Yk}{E:Value->Qt->Prop}{s:Qt}{K:Frag}
end
end Att
namespace L2
open PySem PySem.Spec PyProof.Rows
theorem qnn:∀{vs:List Value}{ns:LI},Qhb vs ns->Vals (ns.map V.int) vs
 |_,_,.nil => .nil
 |_,_,.cons n t h => .cons ⟨t,rfl⟩ (qnn h)
abbrev CX0:CXT:=λ_ _ _ _ _ _=>False
abbrev E0:XK:=λ_ _ _=>False
theorem qsu:qpt CX0 X E0:=λ_ _ _ _ _ _ _ h=>h.elim
structure Fun(K:Qd)(x qual:Str)(st:Stmt)(f:Addr)(fd:Qbk):Prop where
 ex:∃(oc:Value)(od:Option Addr)(kV doc pm:Value)(an:Option Addr)(cdv ct:Value)(osl:Array (Option Value)),
  fd=Vx x qual (defArgs st) (defBody st) (defScope st) .none kV doc pm an cdv ct/\K.lookup f=some ⟨oc,od,.func fd,osl⟩/\Qcy K cdv qual=true
 kp:V7 K (.ref f)=true
section
variable{P:Zw}{w:World}{K:Qd}{mg:Str->Option Value}{base:Heap}
theorem Fun.ok{st:Stmt}(F:Fun K x qual st f fd)(S:FnScope N ps (defScope st))(len:∀vs H Q E,sp vs H Q E->vs.length=ps.length)(b:∀(a:Value)(A:Yk)(outer:List Env)(s:Qt)(H:Hp)(vs:List V)(Q:VK)(E:XK),Room k (A.deeper (Qcq qual (defScope st) s.heap.objs.size f a))->sp vs H Q E ->
 ∃t,PSs (qpe CX0 P w K mg base N qual (defScope st) f a A outer s H E).nox (defBody st) t/\t { nx:=λ_ e=>Q .non e,rt:=Q } (start N vs) H):FnOk P w K mg base CX0 (k+1) f fd ps sp:=by
  obtain⟨m,n,kV,g,o,p,a,r,i,rfl,j,c⟩:=F.ex;refine zxn j c S len λA outer s H vs Q E l d=>?_;obtain⟨t,h,q⟩:=b a A outer s H vs Q E l d;exact⟨t,h.nox,q⟩
theorem Fun.binds{st:Stmt}(F:Fun K x qual st f fd)(h:∀(kV a c:Value)(d:Option Addr)(b e:Value)(us:List Value),us.length=ps.length->Qdw (Vx x qual (defArgs st) (defBody st) (defScope st) .none kV a c d b e) ⟨us,[]⟩=pure (ps.zip us)):Binds K fd ps []:=by
  obtain⟨j,k,kV,a,c,d,b,e,g,rfl,l,i⟩:=F.ex;exact .all (h kV a c d b e)
theorem zzy{st:Stmt}{kV b d a e:Value}(l:K.lookup f=some ⟨oc,od,.func (Vx x qual (defArgs st) (defBody st) (defScope st) .none kV b d an a e),osl⟩)(c:Qcy K a qual=true)(k:V7 K (.ref f)=true):Fun K x qual st f (Vx x qual (defArgs st) (defBody st) (defScope st) .none kV b d an a e):=⟨⟨oc,od,kV,b,d,an,a,e,osl,rfl,l,c⟩,k⟩
end
theorem qm(h:n<=1000):n<Q4:=Nat.lt_of_le_of_lt h (by decide)
section
variable{X:Cx}
theorem pv(i:Nat){pos:Pos}(b:X.N[i]?=some x:=by rfl)(c:Vis X.env.scope x:=by first|exact Vn rfl|exact Y3 (Vn rfl)|exact Y3 (Y3 rfl))(hd:Nd0 x:=by decide)(a:Nd1 x:=by decide):PE X (.Name x pos) (zbm i):=qer b c hd a
end
theorem zch{A B:Prop}(h:B):if false=true then A else B:=by
 rw[if_neg Yi];exact h
theorem qyb{A B:Prop}(h:A):if true=true then A else B:=by
 rw[if_pos rfl];exact h
def NoT:HO->Prop
 |.tbl _=>False
 |_=>True
structure Kp(o:HO)(x:Option HO):Prop where
 to:NoT o->x=some o
 tb:∀ps,o = .tbl ps ->∃ps',x=some (.tbl ps')
theorem Kp.of(h:x=some o):Kp o x:=⟨λ_=>h,λps e=>⟨ps,by rw[h,e]⟩⟩
def Same(H a:Hp):Prop :=∀b o,H b=some o->Kp o (a b)
theorem xae(o:HO):NoT o \/ ∃ps,o = .tbl ps:=by
 cases o <;> first|exact .inr ⟨_,rfl⟩|exact .inl trivial
theorem Same.of(h:∀b o,H b=some o->H' b=some o):Same H H':=λb o e => .of (h b o e)
theorem Same.at(s:Same H H')(e:H b=some o)(n:NoT o:=by trivial):H' b=some o:=(s b o e).to n
theorem Same.any(s:Same H H')(e:H b=some o):∃a,H' b=some a:=by
 rcases xae o with n|⟨ps,rfl⟩
 ·exact⟨o,(s b o e).to n⟩
 ·obtain⟨c,d⟩:=(s b _ e).tb ps rfl;grind
theorem Same.refl(H:Hp):Same H H :=.of λ_ _ h=>h
theorem Same.trans(a:Same H H1)(b:Same H1 H2):Same H H2:=λc o h=>⟨λn=>(b c o ((a c o h).to n)).to n,λps e=>let ⟨ps',e'⟩:=(a c o h).tb ps e; (b c _ e').tb ps' rfl⟩
theorem Same.free(e:Same H H')(h:H' l=Qmc):H l=Qmc:=by
 cases q:H l with
 |none=>rfl
 |some o =>
  obtain⟨a,z⟩:=e.any q;grind
theorem Same.seq{K:Qd}(e:Same H H')(h:SqL K H a xs):SqL K H' a xs:=by
 rcases h with(h|⟨o,h⟩)|h
 ·exact .inl (.inl (e.at h))
 ·exact .inl (.inr ⟨o,e.at h⟩)
 ·exact .inr h
def DictIs(h:Heap)(d:Addr)(es:Array Qap)(ep:Nat):Prop :=∃o,h.get? d=some o/\o.ExactDict/\o.data = .dict es ep
section
variable{P:Zw}{w:World}{A:Yk}{E:Value->Qt->Prop}{s:Qt}{d:Addr}{es:Array Qap}{ep:Nat}
theorem zvz(hd:(d==V9)=false)(x:DictIs s.heap d es ep)(q:Q (.int (es.size:Int) s.toks) { s with toks:=s.toks+1 }):wpAny (model P w) A (call (.builtin "dict.__len__") [.ref d]) Q E s:=by
 obtain⟨o,a,b,c⟩:=id x;refine Y8 Qgk ⟨o,a,b.1⟩ F.entry_dict_len ?_ (F.args_dict_len_1 _)
 wp_walk using Qdf ⟨o,a,b.1⟩,Qax a c
 exact⟨_,rfl,by simpa using q⟩
theorem znf(hd:(d==V9)=false)(x:DictIs s.heap d es ep)(hz:es.size<=1000)(q:Q (!es.toList.isEmpty) { s with toks:=s.toks+1+1 }):wpAny (model P w) A (truthy (.ref d)) Q E s:=by
 obtain⟨o,b,c,h⟩:=id x;have f:typeLookup (.type "dict") "__bool__" = pure none:=by first|exact F.type_dict_bool|rfl
 refine Qg (wpAny_callSpecial?_none ⟨o,b,c.1⟩ f ?_);refine Qg (wpAny_specialOf ⟨o,b,c.1⟩ Qgk.lookup ?_);refine Qg (runValue_entry entry_len ?_);have g:s.TypeIs (.ref d) "dict":=⟨o,b,c.1⟩
 refine Qg (Qy ?_);refine Qg (Yz (name := "__len__") g Qgk (zvz hd x ?_))
 wp_walk
 have e:((es.size:Int) != 0) = !es.toList.isEmpty:=by
  cases es with
  |mk l=>cases l with
   |nil=>rfl
   |cons a l=>simp;lia
 rw[if_neg (by lia)]
 wp_walk
 exact⟨_,rfl,Qy (by rw[e];exact q)⟩
end
abbrev PKy:=List (Int×Int)
section
variable(P:Zw)(w:World)
end
section
variable{P:Zw}{w:World}{h h':Heap}{k k':PKy}{vs:List Value}{a:Addr}
end
section
variable{P:Zw}{w:World}{A:Yk}{E:Value->Qt->Prop}{s:Qt}{k:PKy}{a:Addr}
end
def prD(p:Int×Int):Qj :=.tuple [.int p.1,.int p.2]
def xbk(p:Int×Int):Int:=reduceHash (Qes [hashInt p.1,hashInt p.2])
def xdo(k:PKy):Int:=reduceHash (Qes (k.map xbk))
abbrev zsw:=PKy×Addr×Int
def Ents:List zsw->List Qap->Prop
 |[],l=>l=[]
 |x::a,l =>∃t r,l=⟨xdo x.1,.ref x.2.1,.int x.2.2 t⟩::r/\Ents a r
def DX(a:Addr)(xs:List zsw):Heap->Prop:=λh=>((a==V9)=false/\xs.length<=900/\(xs.map (·.1)).Nodup) /\ ∃b c,DictIs h a b c/\Ents xs b.toList
theorem Ents.len:∀{xs:List zsw}{l:List Qap},Ents xs l->l.length=xs.length
 |[],_,h=>by rw[show _=[] from h];rfl
 |_::_,_,h=>by
  obtain⟨t,r,rfl,h⟩:=h;rw[Zg,Zg,Ents.len h]
def Prs(K:Qd)(H:Hp):PKy->List V->Prop
 |[],a=>a=[]
 |p::k,a =>∃c r,a = .ref c::r/\SqT K H c [.int p.1,.int p.2]/\Prs K H k r
def PkAt(K:Qd)(H:Hp)(k:PKy)(c:Addr):Prop :=∃a,SqT K H c a/\Prs K H k a
def xD(xs:List zsw):List (Qj×Qj):=xs.map λx=>(Qel (x.1.map prD),Q8 x.2.2)
def xdx(K:Qd)(H:Hp)(a:Addr)(l:List (Qj×Qj)):Prop :=∃b,H a=some (.ext (DX a b))/\l=xD b /\ ∀x∈b,PkAt K H x.1 x.2.1
def xcz:Qj->Bool
 |.tuple _=>false
 |_=>true
def xef(H:Hp)(a:Addr)(l:List (Qj×Qj)):Prop :=∃b,H a=some (.dK b)/\l.length=b.length /\ ∀e∈l,xcz e.1=true
theorem zge{a b:Type}{l:List a}{m:List b}(h:l.length=m.length):(!l.isEmpty) = !m.isEmpty:=by
 cases l <;> cases m <;> first|rfl|cases h
theorem zzf(xs:List zsw):(xD xs).length=xs.length:=by unfold xD;rw[Qe]
mutual
def Is(K:Qd)(H:Hp):Qj->V->Prop
 |.none,v=>v = .non
 |.bool b,v=>v = .bl b
 |.int i,v=>v = .int i
 |.str x,v=>v = .str x
 |.list l,v =>∃a c,v = .ref a/\SqL K H a c/\Iss K H l c
 |.tuple l,v =>∃a c,v = .ref a/\SqT K H a c/\Iss K H l c
 |.dict l,v =>∃a,v = .ref a/\(xef H a l\/xdx K H a l)
def Iss(K:Qd)(H:Hp):List Qj->List V->Prop
 |[],a=>a=[]
 |d::l,a =>∃x r,a=x::r/\Is K H d x/\Iss K H l r
end
instance {o:HO}{x:Option HO}:Coe (x=some o) (Kp o x):=⟨Kp.of⟩
instance {l:List V}{x:Option HO}:CoeOut (Kp (.lst l) x) (x=some (.lst l)):=⟨λk=>k.to trivial⟩
instance {l:List V}{x:Option HO}:CoeOut (Kp (.tup l) x) (x=some (.tup l)):=⟨λk=>k.to trivial⟩
instance {l:List (Key×V)}{x:Option HO}:CoeOut (Kp (.dK l) x) (x=some (.dK l)):=⟨λk=>k.to trivial⟩
instance {l:List (List Key×V)}{x:Option HO}:CoeOut (Kp (.dT l) x) (x=some (.dT l)):=⟨λk=>k.to trivial⟩
instance {C d:Addr}{l:List (Str×V)}{x:Option HO}:CoeOut (Kp (.ins C d l) x) (x=some (.ins C d l)):=⟨λk=>k.to trivial⟩
instance {f:Heap->Prop}{x:Option HO}:CoeOut (Kp (.ext f) x) (x=some (.ext f)):=⟨λk=>k.to trivial⟩
theorem Kp.tr(k:Kp o x)(h:∀u,x=some u->Kp u y):Kp o y:=⟨λn=>(h _ (k.to n)).to n,λps e=>let ⟨ps',z⟩:=k.tb ps e; (h _ z).tb ps' rfl⟩
theorem zuj(s:Same H H')(h:Rd H a u)(n:NoT u:=by trivial):Rd H' a u:=by
 rcases h with h|⟨o,h⟩
 ·exact .inl (s.at h n)
 ·exact .inr ⟨o,s.at h⟩
theorem qab{K:Qd}(s:Same H H')(h:SqT K H a xs):SqT K H' a xs:=by
 rcases h with h|h
 ·exact .inl (zuj s h)
 ·exact .inr h
theorem Prs.mono{K:Qd}(s:Same H H'):∀{k:PKy}{a:List V},Prs K H k a->Prs K H' k a
 |[],_,h=>h
 |_::_,_,h=>by
  obtain⟨c,r,e,q,h⟩:=h;exact⟨c,r,e,qab s q,Prs.mono s h⟩
theorem PkAt.mono{K:Qd}(s:Same H H')(h:PkAt K H k c):PkAt K H' k c:=by
 obtain⟨a,q,r⟩:=h;exact⟨a,qab s q,r.mono s⟩
theorem qbh(h:H p=none):Same H (upd H p o) :=.of λb u e=>by
 rw[qi (qu e h)];exact e
mutual
theorem Is.mono{K:Qd}{H f:Hp}(s:Same H f):∀{d:Qj}{v:V},Is K H d v->Is K f d v
 |.none,_,h=>by unfold Is at h ⊢;exact h
 |.bool _,_,h=>by unfold Is at h ⊢;exact h
 |.int _,_,h=>by unfold Is at h ⊢;exact h
 |.str _,_,h=>by unfold Is at h ⊢;exact h
 |.list l,_,h=>by
  unfold Is at h ⊢;obtain⟨a,b,e,q,r⟩:=h;exact⟨a,b,e,s.seq q,Iss.mono s r⟩
 |.tuple l,_,h=>by
  unfold Is at h ⊢;obtain⟨a,b,e,q,r⟩:=h;exact⟨a,b,e,qab s q,Iss.mono s r⟩
 |.dict _,_,h=>by
  unfold Is at h ⊢;obtain⟨a,e,⟨c,q,m⟩|⟨b,q,m,k⟩⟩:=h
  ·exact⟨a,e,.inl ⟨c,s.at q,m⟩⟩
  ·exact⟨a,e,.inr ⟨b,s.at q,m,λx g=>(k x g).mono s⟩⟩
theorem Iss.mono{K:Qd}{H a:Hp}(s:Same H a):∀{l:List Qj}{xs:List V},Iss K H l xs->Iss K a l xs
 |[],_,h=>by unfold Iss at h ⊢;exact h
 |d::l,_,h=>by
  unfold Iss at h ⊢;obtain⟨x,r,e,p,q⟩:=h;exact⟨x,r,e,Is.mono s p,Iss.mono s q⟩
end
section
variable{K:Qd}{H H':Hp}
theorem qud:Is K H .none .non:=by rfl
theorem qeu(b:Bool):Is K H (.bool b) (.bl b):=by rfl
theorem qZ(i:Int):Is K H (.int i) (.int i):=by rfl
theorem zfy(x:Str):Is K H (.str x) (.str x):=by rfl
theorem qeq(h:SqL K H a xs)(r:Iss K H l xs):Is K H (.list l) (.ref a):=by unfold Is;grind
theorem qqb(h:SqT K H a xs)(r:Iss K H l xs):Is K H (.tuple l) (.ref a):=by unfold Is;grind
theorem qah:Iss K H [] []:=by rfl
theorem qG(h:Is K H d x)(r:Iss K H l xs):Iss K H (d::l) (x::xs):=by unfold Iss;grind
theorem Is.bl_inv(h:Is K H (.bool b) v):v = .bl b:=by exact h
theorem Is.int_inv(h:Is K H (.int i) v):v = .int i:=by exact h
theorem Is.non_inv(h:Is K H .none v):v = .non:=by exact h
theorem Is.lst_inv(h:Is K H (.list l) v):∃a xs,v = .ref a/\SqL K H a xs/\Iss K H l xs:=by exact h
theorem Is.tup_inv(h:Is K H (.tuple l) v):∃a xs,v = .ref a/\SqT K H a xs/\Iss K H l xs:=by exact h
theorem Is.dct_inv(h:Is K H (.dict l) v):∃a,v = .ref a/\(xef H a l\/xdx K H a l):=by exact h
theorem Iss.nil_inv(h:Iss K H [] xs):xs=[]:=by exact h
theorem Iss.cons_inv(h:Iss K H (d::l) xs):∃x r,xs=x::r/\Is K H d x/\Iss K H l r:=by exact h
theorem Iss.len:∀{l:List Qj}{xs:List V},Iss K H l xs->xs.length=l.length
 |[],_,h=>by rw[h.nil_inv];rfl
 |d::l,_,h=>by
  obtain⟨x,r,rfl,_,q⟩:=h.cons_inv;simp[Iss.len q]
theorem Iss.get:∀{l:List Qj}{xs:List V}{i:Nat}{d:Qj},Iss K H l xs->l[i]?=some d ->∃x,xs[i]?=some x/\Is K H d x
 |[],_,i,d,h,e=>by simp at e
 |a::l,_,0,d,h,e=>by
  obtain⟨x,r,rfl,p,q⟩:=h.cons_inv;simp at e;subst e;exact⟨x,rfl,p⟩
 |a::l,_,i+1,d,h,e=>by
  obtain⟨x,r,rfl,p,q⟩:=h.cons_inv;obtain⟨y,b,c⟩:=Iss.get q (show l[i]?=some d by simpa using e);exact⟨y,by simpa using b,c⟩
theorem Iss.get':∀{l:List Qj}{xs:List V}{i:Nat}{x:V},Iss K H l xs->xs[i]?=some x ->∃d,l[i]?=some d/\Is K H d x:=λ{l xs i x} h e=>by
 have a:=h.len;have b:=(Qp.mp e).1;obtain⟨d,hd⟩:∃d,l[i]?=some d:=⟨l[i]'(by lia),Qc _⟩
 obtain⟨y,c,f⟩:=h.get hd;grind
theorem qbb:∀{l m:List Qj}{xs a:List V},Iss K H l xs->Iss K H m a->Iss K H (l++m) (xs++a)
 |[],m,_,a,h,b=>by rw[h.nil_inv];exact b
 |d::l,m,_,a,h,b=>by
  obtain⟨x,r,rfl,p,q⟩:=h.cons_inv;exact qG p (qbb q b)
theorem zbo:∀{l:List Qj}{xs:List V}(n:Nat),Iss K H l xs->Iss K H (l.take n) (xs.take n)
 |_,_,0,_=>qah
 |[],_,n+1,h=>by rw[h.nil_inv];exact qah
 |d::l,_,n+1,h=>by
  obtain⟨x,r,rfl,p,q⟩:=h.cons_inv;exact qG p (zbo n q)
theorem zbq:∀{l:List Qj}{xs:List V}(n:Nat),Iss K H l xs->Iss K H (l.drop n) (xs.drop n)
 |_,_,0,h=>h
 |[],_,n+1,h=>by rw[h.nil_inv];exact qah
 |d::l,_,n+1,h=>by
  obtain⟨x,r,rfl,p,q⟩:=h.cons_inv;exact zbq n q
theorem qhi:∀ns:LI,Iss K H (ns.map .int) (ns.map V.int)
 |[]=>qah
 |n::ns=>qG (qZ n) (qhi ns)
theorem Iss.ints_inv:∀{ns:LI}{xs:List V},Iss K H (ns.map .int) xs->xs=ns.map V.int
 |[],_,h=>h.nil_inv
 |n::ns,_,h=>by
  obtain⟨x,r,rfl,p,q⟩:=h.cons_inv;rw[p.int_inv,Iss.ints_inv q];rfl
end
section
variable{X:Cx}{pins:List (Addr×Obj)}{σ:St}{H:Hp}{s:Qt}
mutual
theorem Is.reads(I:Inv X pins σ H s):∀{d:Qj}{x:V}{u:Value},d.canLay0=true->Is X.K H d x->RelV x u ->∃c,Reads s.heap u d c
 |.none,_,u,_,h,r=>by
  rw[h.non_inv]at r;cases r;exact⟨_,.none⟩
 |.bool b,_,u,_,h,r=>by
  rw[h.bl_inv]at r;cases r;exact⟨_,.bool b⟩
 |.int i,_,u,_,h,r=>by
  rw[h.int_inv]at r;obtain⟨t,rfl⟩:=r;exact⟨_,.int i t⟩
 |.str x,_,u,_,h,r=>by
  unfold Is at h;subst h;obtain⟨t,rfl⟩:=r;exact⟨_,.str x t⟩
 |.list l,_,u,z,h,r=>by
  obtain⟨a,w,rfl,q,p⟩:=h.lst_inv;cases r;obtain⟨e,f,g,_⟩:=I.list q;obtain⟨o,j,k,n,m⟩:=g.isList;obtain⟨c,v⟩:=Iss.reads I (by simpa[Qad]using z) p f;exact⟨_,.list j k m (by rw[Qia];exact v)⟩
 |.tuple l,_,u,z,h,r=>by
  obtain⟨a,w,rfl,q,p⟩:=h.tup_inv;cases r;obtain⟨e,f,g,_⟩:=I.tuple q;obtain⟨o,j,k,n,m⟩:=g;obtain⟨c,v⟩:=Iss.reads I (by simpa[Qad]using z) p f;exact⟨_,.tuple j k m (by rw[Qia];exact v)⟩
 |.dict _,_,u,z,h,r=>by simp[Qad]at z
theorem Iss.reads(I:Inv X pins σ H s):∀{l:List Qj}{xs:List V}{us:List Value},Jv l=true->Iss X.K H l xs->Vals xs us ->∃a,ReadsAll s.heap us l a
 |[],_,us,_,h,r=>by
  rw[h.nil_inv]at r;cases r;exact⟨_,.nil⟩
 |d::l,_,us,z,h,r=>by
  have b:d.canLay0=true/\Jv l=true:=by simpa[Jv]using z
  obtain⟨x,y,rfl,p,q⟩:=h.cons_inv;cases r with
  |cons c e =>
   obtain⟨a,f⟩:=Is.reads I b.1 p c;obtain⟨bs,g⟩:=Iss.reads I b.2 q e;exact⟨_,.cons f g⟩
end
end
section
variable{X:Cx}
def xfo(K:Qd):R2:=λx y H Q =>∃d e,Is K H d x/\Is K H e y/\Jg d=true/\Jg e=true/\Q (.bl (Vh d e)) H
def xep(K:Qd):R2:=λx y H Q =>∃d e,Is K H d x/\Is K H e y/\Jg d=true/\Jg e=true/\Q (.bl (!PyData.eqv d e)) H
theorem zyr(f:X.A.units+64<cLine):OpR X (Yo .Eq) (xfo X.K):=by
 intro a s n H x y v u Q I g i h;obtain⟨d,e,j,k,b,c,q⟩:=h;obtain⟨o,l⟩:=Is.reads I (Jq.mp b).1 j g;obtain⟨bs,m⟩:=Is.reads I (Jq.mp c).1 k i;exact SeqAt.compareEq_shaped l m b c f ⟨.bl (Vh d e),H,I,rfl,q⟩
theorem zzp(f:X.A.units+64<cLine):OpR X (Yo .NotEq) (xep X.K):=by
 intro a s n H x y v u Q I g i h;obtain⟨d,e,j,k,b,c,q⟩:=h;obtain⟨o,l⟩:=Is.reads I (Jq.mp b).1 j g;obtain⟨bs,m⟩:=Is.reads I (Jq.mp c).1 k i;exact SeqAt.compareNe_shaped l m b c f ⟨.bl (!PyData.eqv d e),H,I,rfl,q⟩
theorem zsz:OpR X (Je .Mult) (rI IntMulOk λi j => .int (i*j)):=opI λ_ _ _ _ _ _ _ a q=>mul_int q a
def zxr(_ j:Int):Prop:=j≠0/\Qbl j<=9000
theorem zcp:OpR X (Je .FloorDiv) (rI zxr λi j => .int (i.fdiv j)):=opI λi j _ _ _ _ _ a q=>by
 refine floordiv_int a.1 q (.inl (PyProof.noPylong_of_log2 ?_));have h:=a.2;unfold Qbl at h;rw[if_neg (by simpa using a.1)]at h;lia
def xcc(K:Qd):R2:=λx y H Q =>∃a b c d,x = .ref a/\y = .ref b/\SqL K H a c/\SqL K H b d/\c.length+d.length<=Q4 /\
 ∀p,H p=none->Q (.ref p) (upd H p (.lst (c++d)))
theorem zgl:OpR X (Je .Add) (xcc X.K):=by
 intro o s L H x y v u Q I B C h;obtain⟨a,b,M,N,rfl,rfl,D,E,O,q⟩:=h;cases B;cases C;obtain⟨d,r,F,P⟩:=I.list D;obtain⟨c,p,j,R⟩:=I.list E;have S:=r.length;have T:=p.length;obtain⟨⟨cls,G,data,J⟩,t,w,n,z⟩:=F.isList;obtain⟨⟨A,k,l,m⟩,f,g,K,i⟩:=j.isList;simp only at w z g i;subst w z g i;have e:d.toArray++c.toArray=(d++c).toArray:=by simp
 refine Qjw ⟨_,t,rfl⟩ ⟨_,f,rfl⟩ noFill_list_add seq_list_add PySem.F.slot_list_add PySem.F.entry_list_add (PySem.F.args_list_add_2 _ _) (list_addW a b d.toArray c.toArray n K G k J m (by grind)) ⟨t,f,?_⟩;rw[e];exact⟨.ref _,_,I.lnew (t':=s.toks) (r.append p) (by grind),rfl,q _ I.fresh⟩
def tyD:Qj->String
 |.none => "NoneType"
 |.bool _ => "bool"
 |.int _ => "int"
 |.str _ => "str"
 |.list _ => "list"
 |.tuple _ => "tuple"
 |.dict _ => "dict"
theorem zov{B:St}(I:Inv X pins B H s)(hd:Is X.K H d x)(f:RelV x u)(e:Qhv X.K (.type (tyD d)) c=some b)(h:∀tk,Q (.bool b) { s with toks:=tk }):
  wpAny (model X.prog X.w) A (call (.builtin "isinstance") [u,c]) Q E s:=by
  cases d with
  |none=>rw[hd.non_inv]at f;cases f;exact Jb Qja I.kIn V8 e (λz=>nomatch z) h
  |bool y=>rw[hd.bl_inv]at f;cases f;exact Jb Qjb I.kIn V8 e (λz=>nomatch z) h
  |int i=>rw[hd.int_inv]at f;obtain⟨t,rfl⟩:=f;exact Jb Qkd I.kIn V8 e (λz=>nomatch z) h
  |str y =>
   subst hd;obtain⟨t,rfl⟩:=f;exact Jb Qke I.kIn V8 e (λz=>nomatch z) h
  |list l =>
   obtain⟨a,g,rfl,q,_⟩:=hd.lst_inv;cases f;obtain⟨j,_,k,_⟩:=I.list q;obtain⟨o,m,n,_⟩:=k.isList;exact Jb Qjc I.kIn ⟨o,m,n⟩ e (λz=>nomatch z) h
  |tuple l =>
   obtain⟨a,g,rfl,q,_⟩:=hd.tup_inv;cases f;obtain⟨j,_,k,_⟩:=I.tuple q;obtain⟨o,m,n,_⟩:=k;exact Jb Qim I.kIn ⟨o,m,n⟩ e (λz=>nomatch z) h
  |dict l =>
   obtain⟨a,rfl,⟨r,q,_⟩|⟨g,q,_⟩⟩:=hd.dct_inv
   ·cases f;obtain⟨_,_,F,_,p⟩:=(show ObjOk X.prog X.w H s.heap a (.dK r) from I.hok a _ q)
    obtain⟨o,C,D,v,w,_⟩:=p;exact Jb Qcv I.kIn ⟨o,v,w.1⟩ e (λz=>nomatch z) h
   ·cases f;obtain⟨⟨_,C,D,⟨o,v,w,_⟩,_⟩,_⟩:=(show ObjOk X.prog X.w H s.heap a (.ext (DX a g)) from I.hok a _ q)
    exact Jb Qcv I.kIn ⟨o,v,w.1⟩ e (λz=>nomatch z) h
def xfp(K:Qd):List V->Hp->VK->Prop:=λa H Q =>∃d x n b,a=[x,.ty n]/\Is K H d x/\Qhv K (.type (tyD d)) (.type n)=some b/\Q (.bl b) H
theorem znq:CallR X (.builtin "isinstance") (xfp X.K):=by
 intro a s k H l m Q I r h;obtain⟨d,x,n,b,rfl,f,e,q⟩:=h;obtain⟨u,c,rfl,g,i⟩:=zdw r;cases i;exact zov I f g e λj=>⟨.bl b,H,I.tok j,rfl,q⟩
theorem Iss.atI{K:Qd}(h:Iss K H l xs)(e:L2.atI l i=some d):∃x,L2.atI xs i=some x/\Is K H d x:=by
 unfold L2.atI at e ⊢;rw[h.len];cases q:ixN l.length i with
 |none=>grind
 |some j =>
  rw[q]at e;exact h.get e
end
def Ite(K:Qd)(a:Addr):It :=
 ⟨λi H =>∃b x,SqL K H a b/\b[i]?=some x,λi H v c =>∃p x,(∀b,SqL K H a b->b[i]?=some x)/\H p=none/\v = .ref p/\c=upd H p (.tup [.int i,x]),λi H =>∃b,SqL K H a b/\b.length<=i⟩
theorem zkb{K:Qd}(a e it:Addr)(N:e≠it):
 Turn P w K (.Tuple elts x1 tpos) (Ite K a) [e,it] e (λi h=>(∃j,IsEnum h e it (i:Nat) j)/\h.IsListIter it a i) where
  mem:=by simp
  obj:=λi h B b y=>by
   obtain⟨⟨j,C⟩,D⟩:=B;have l:b=e\/b=it:=by grind
   rcases l with rfl|rfl
   ·grind
   ·obtain⟨o,q,c,d⟩:=D;grind
  keep:=λi h h' B k=>by
   obtain⟨⟨j,C⟩,D⟩:=B;exact⟨⟨j,k e (by simp) _ C⟩,D.at λo q=>k it (by simp) o q⟩
  item:=by
   intro X V W Y g i F s σ H E I O B Z;subst V W Y;obtain⟨xs,x,S,hx⟩:=Z;obtain⟨its,rv,p,hz⟩:=I.list S;obtain⟨u,hu,ru⟩:=rv.get hx;obtain⟨⟨j,C⟩,D⟩:=B;obtain⟨f0,f1,f2,f3,f4,f5⟩:=O e (by simp);obtain⟨g0,T,g2,g3,g4,g5⟩:=O it (by simp);have R:=Qw C;refine wpAny_pyNext_enum_item C D p.isList (x:=u) (by grind) N λG ho hi ht hz₁ hk=>⟨_,rfl,?_⟩
   refine wpAny_letOwnedTupleGo_enum (s:={ s with heap:=G,toks:=s.toks+1 }) ho λt J f=>?_;replace f:Vl e G t:=f
   have fresh:=I.hok.fresh (Qs _);have M:∀b o,b≠e->b≠it->s.heap.get? b=some o->t.get? b=some o:=λb o b1 b2 q=>f.extBut b o b1 (hk b o b1 b2 q);have U:∀b v,H b=some v->b≠e/\b≠it:=λb v q=>⟨λz=>(by grind),λz=>(by grind)⟩
   have L:=(f.2 _ (Yt R)).trans ht;have I1:Inv X F σ (upd H s.heap.objs.size (.tup [.int i,x])) { s with heap:=t,toks:=s.toks+1 }:=by
    refine I.step (g':=s.gens) (d':=s.drawn) (ch:=[e,it]) (λb y=>?_) (λb o _ _ g q _=>M b o (λz=>g (by simp[z])) (λz=>g (by simp[z])) q)
     (λb o _ _ g q _=>⟨o.slots,M b o (λz=>g (by simp[z])) (λz=>g (by simp[z])) q⟩) (λb o _ q n=>by rw[qi (Q7 (Qw q))];exact n)
     (λb o g q=>⟨o,M b o (λz=>g (by simp[z])) (λz=>g (by simp[z])) q⟩) (λb ys q=>by rw[qi (qu q fresh)];exact q) (λb o v q=>by rw[qi (qu q fresh)];exact q)
     (λb ps q=>⟨#[],by rw[qi (qu q fresh),q];simp,.nil⟩) (λm hm=>?_) (λb v q=>?_) I.bare
    ·have l:b=e\/b=it:=by simpa using y
     rcases l with rfl|rfl
     ·exact⟨f3,f1,f4,f5⟩
     ·exact⟨g3,T,g4,g5⟩
    ·obtain⟨o,es,ep,ho',r⟩:=hm;exact⟨o,es,ep,M _ o (Z9 f1) (Z9 T) ho',r⟩
    ·by_cases y:b=s.heap.objs.size
     ·subst y;rw[qk]at q;cases q;exact⟨(by show 2<=Q4;decide),[.int i s.toks,u],.cons ⟨s.toks,rfl⟩ (.cons ru .nil),⟨_,L,rfl,_,rfl⟩⟩
     ·rw[qi y]at q;refine(I.hok b v q).stay (λc ob g z=>?_) (λc z=>by rw[qi (qu z fresh)];exact z) λc ys z=>by rw[qi (qu z fresh)];exact z
      rcases g with g|g
      ·subst g;exact M _ _ (U _ _ q).1 (U _ _ q).2 z
      ·exact M _ _ (U _ _ g).1 (U _ _ g).2 z
   refine⟨.ref s.heap.objs.size,_,I1,rfl,⟨s.heap.objs.size,x,λys hy=>by rw[I.list_inj hy S];exact hx,fresh,rfl,rfl⟩,⟨⟨u,?_⟩,?_⟩,λb y=>?_⟩
   ·have e1:((i+1:Nat):Int)=(i:Int)+1:=by push_cast;rfl
    rw[e1];exact J
   ·exact hi.extBut f.extBut (Z9 N)
   ·have l:b=e\/b=it:=by simpa using y
    have hlt:b<s.heap.objs.size:=by
     rcases l with rfl|rfl
     ·exact R
     ·obtain⟨o,q,_⟩:=D;exact Qw q
    rw[qi (Q7 hlt)];exact(O b y).1
  done:=by
   intro X V W Y g i F s σ H E I O B Z;subst V W Y;obtain⟨xs,S,hx⟩:=Z;obtain⟨its,rv,p,hz⟩:=I.list S;obtain⟨⟨j,C⟩,D⟩:=B;obtain⟨g0,T,g2,g3,g4,g5⟩:=O it (by simp);have hl:=rv.length;exact wpAny_pyNext_enum_end (I.ok.hd g) C D p.isList (by simp;omega) λh' eb=>⟨rfl,I.turned (t':=s.toks) (λb o y q=>eb b o y q) g0 T g3 g4 g5⟩
  self:=λA i s Q E B h=>by
   obtain⟨⟨j,C⟩,D⟩:=B;exact wpAny_pyIter_enum C h
section
variable{X:Cx}{elts:List Expr}{x1:Nat}{tpos:Pos}
def xbg(K:Qd)(c:TA):TI:=λd H R=>c d H λe b =>∃a,e=[.ref a]/\(∃f,SqL K b a f)/\R (Ite K a) b
theorem zwi(j:Gl X "enumerate")(k:X.mg "enumerate" = none)(m:PA X [a] ta)(n:Qu [a] X.env=[(false,eval a X.env)]:=by rfl):
 PI X (.Tuple elts x1 tpos) (.Call (.Name "enumerate" p) [a] [] pos) (xbg X.K ta):=by
 intro d s o H R I h;refine Call_ (qik I j k boot_enumerate (Vd (thn (m pos d s o H _ I h) λF c f=>?_) n rfl));obtain⟨G,t,i,u,v⟩:=f;obtain⟨l,e,⟨J,w⟩,q⟩:=v;subst e;cases u with
 |cons r x =>
  cases x;cases r;obtain⟨y,K,z,L⟩:=i.list w;refine call_enumerate_list z.isList λM he A B C=>?_;refine wpAny_pyIter_enum he ?_;have D:=i.kept (t':=c.toks) C;refine⟨c.heap.objs.size+1,[c.heap.objs.size+1,c.heap.objs.size],_,_,t,rfl,D,zkb l _ _ (Nat.succ_ne_self _),⟨⟨_,he⟩,A⟩,λb N=>?_,q⟩;have E:b=c.heap.objs.size+1\/b=c.heap.objs.size:=by grind
  have g:c.heap.objs.size<=b:=by
   grind
  exact i.fpOk g (i.hok.fresh g)
end
theorem szl{a:Type}{l:List a}(h:decide (l.length<=1000)=true:=by rfl):l.length<=Q4:=Yq (qm (of_decide_eq_true h))
theorem qsb(i j:Int):Vh (.int i) (.int j)=(i==j):=by simp only[Vh]
theorem qzx{A B:Prop}(a:i≠j->A)(b:i=j->B):if(!PyData.eqv (.int i) (.int j))=true then A else B:=by
 grind[qsb]
theorem qif{A B:Prop}(a:i=j->A)(b:i≠j->B):if(Vh (.int i) (.int j))=true then A else B:=by
 grind[qsb]
theorem qjv{p A B:Prop}[Decidable p](a:p->A)(b : ¬ p->B):if decide p=true then A else B:=by
 grind
theorem zdd{ns:LI}{i:Int}(a:0<=i)(b:i<ns.length):∃n,L2.atI (ns.map Q8) i=some (.int n):=by
 have c:i.toNat<ns.length:=by lia
 refine⟨ns[i.toNat],?_⟩;grind[qax,Qbm]
theorem boot_abs:Zl "abs" = some (.builtin "abs"):=by decide +kernel
theorem boot_max:Zl "max" = some (.builtin "max"):=by decide +kernel
theorem boot_min:Zl "min" = some (.builtin "min"):=by decide +kernel
theorem boot_len:Zl "len" = some (.builtin "len"):=by decide +kernel
theorem qhs:Zl "isinstance" = some (.builtin "isinstance"):=by decide +kernel
theorem boot_int:Zl "int" = some (.type "int"):=by decide +kernel
theorem boot_bool:Zl "bool" = some (.type "bool"):=by decide +kernel
theorem boot_tuple:Zl "tuple" = some (.type "tuple"):=by decide +kernel
theorem boot_list:Zl "list" = some (.type "list"):=by decide +kernel
section
variable{K:Qd}
end
structure Def(K:Qd)(mg:Str->Option Value)(x:Str)(st:Stmt)(ps:List Str):Prop where
 ex:∃(f:Addr)(fd:Qbk),Fun K x x st f fd/\mg x=some (.ref f)/\Binds K fd ps []
structure Ok(P:Zw)(w:World)(K:Qd)(mg:Str->Option Value)(base:Heap)(x:Str)(k:Nat)(ps:List Str)(sp:Sp):Prop where
 ex:∃(f:Addr)(fd:Qbk),FnOk P w K mg base CX0 k f fd ps sp/\mg x=some (.ref f)/\V7 K (.ref f)=true/\Binds K fd ps []
section
variable{P:Zw}{w:World}{K:Qd}{mg:Str->Option Value}{base:Heap}
theorem Def.ok{st:Stmt}(F:Def K mg x st ps)(S:FnScope N ps (defScope st))(len:∀vs H Q E,sp vs H Q E->vs.length=ps.length)(a:∀(f:Addr)(b:Value)(A:Yk)(outer:List Env)(s:Qt)(H:Hp)(vs:List V)(Q:VK)(E:XK),Room k (A.deeper (Qcq x (defScope st) s.heap.objs.size f b))->sp vs H Q E ->
 ∃t,PSs (qpe CX0 P w K mg base N x (defScope st) f b A outer s H E).nox (defBody st) t/\t { nx:=λ_ d=>Q .non d,rt:=Q } (start N vs) H):Ok P w K mg base x (k+1) ps sp:=by
  obtain⟨f,e,c,g,h⟩:=F.ex;exact⟨f,e,c.ok S len (a f),g,c.kp,h⟩
end
section
variable{X:Cx}{x:Str}{k:Nat}{ps:List Str}{sp:Sp}{p pos:Pos}{e:Expr}{es:List Expr}{t:TA}
structure OkC(X:Cx)(x:Str)(k:Nat)(ps:List Str)(sp:Sp):Prop where
 ex:∃sp0,Ok X.prog X.w X.K X.mg X.base x k ps sp0 /\ ∀(pins:List (Addr×Obj))(σ:St)(H:Hp)(s:Qt)(vs:List V)(Q:VK)(E:XK),Inv X pins σ H s->sp vs H Q E->sp0 vs H Q E
theorem Ok.c(O:Ok X.prog X.w X.K X.mg X.base x k ps sp):OkC X x k ps sp:=⟨sp,O,λ_ _ _ _ _ _ _ _ h=>h⟩
theorem zlv(O:OkC X x k ps sp)(g:Room k X.A)(i:PA X (e::es) t)(j:Gl X x:=by rfl)(b:Nd0 x:=by decide)(he:Qu (e::es) X.env=(false,eval e X.env)::Qu es X.env:=by rfl)(c:(V5 pos (Qu es X.env)).any (·.1)=false:=by rfl):PE X (.Call (.Name x p) (e::es) [] pos) (qvj sp [] E0 t):=by
 obtain⟨l,⟨f,w,F,m,n,o⟩,u⟩:=O.ex;intro a s v H Q I h;refine Jk (qys I j m ?_ b);refine Qek (h₀:=X.base) I.ok.mod.kin n (thn (i pos a s v H _ I h) λy z ⟨A,B,d,r,q⟩=>⟨d.kIn,?_⟩) he c;exact zgf F g o .nil qsu d r (u _ _ _ _ _ _ _ d q)
theorem qvu{c a:Pos}(i:PE X o to)(he:PE X e te)(d:V6 o "append" X.env (eval o X.env)=eval o X.env:=by rfl)(g:((V5 a (Qu [e] X.env)).all (λx => !x.1)&&(Qdv a (Qaa [] X.env)).all (λx=>x.1.isSome)
  && decide ([e].length+([]:List Qcg).length+(if([]:List Qcg).isEmpty then 0 else 1)<30))=true:=by rfl)(f:(c.endLine==a.line)=true:=by rfl)(h:Qu [e] X.env=(false,eval e X.env)::Qu [] X.env:=by rfl)(b:(V5 a (Qu [] X.env)).any (·.1)=false:=by rfl):
 PE X (.Call (.Attribute o "append" c) [e] [] a) (tBM X.K "list" qxx to (zsf te zrf)) :=
 zsh Qbx Qfd PySem.F.type_list_append zje i (qM he qbe h) d g f h b
end
def qpk(cells:List (Str×Addr)):List (Str×Qaw)->List (Str×Addr)->List (Str×Addr)
 |[],a=>a
 | (n,k)::r,a=>if(k == .free)=true then(match cells.lookup n with|some c=>qpk cells r ((n,c)::a)|none=>qpk cells r a)else qpk cells r a
theorem qjk:∀{names:List (Str×Qaw)}{acc:List (Str×Addr)}{p:Str×Addr},p∈qpk cells names acc->p∈acc\/cells.lookup p.1=some p.2
 |[],acc,p,h => .inl h
 | (n,k)::r,acc,p,h=>by
  unfold qpk at h;split at h
  ·split at h
   ·rename_i c a;rcases qjk h with h|h
    ·grind
    grind
   ·exact qjk h
  ·exact qjk h
theorem qjj:∀{names:List (Str×Qaw)}{acc:List (Str×Addr)}{x:Str},((∃c,(x,c)∈acc)\/((x,Qin)∈names /\ ∃c,cells.lookup x=some c)) ->∃c,(x,c)∈qpk cells names acc
 |[],acc,x,h=>by
  rcases h with h|h
  ·exact h
  grind
 | (n,k)::r,acc,x,h=>by
  unfold qpk;split
  ·rename_i a;split
   ·rename_i c b;refine qjj ?_;grind
   ·rename_i b;refine qjj ?_;grind
  ·rename_i a;refine qjj ?_;grind
theorem quo:∀{names:List (Str×Qaw)}{n:Nat}{acc:List (Str×Addr)},(Vz n names acc).lookup x=some c->(n<=c/\(x,Qas)∈names)\/acc.lookup x=some c
 |[],_,_,h => .inr h
 | (y,k)::r,n,acc,h=>by
  unfold Vz at h;split at h
  ·rename_i d;rcases quo h with⟨a,b⟩|a
   ·grind
   grind
  ·rcases quo h with⟨a,b⟩|a
   ·grind
   grind
theorem zfz:∀{names:List (Str×Qaw)}{n:Nat}{acc:List (Str×Addr)},(x,Qas)∉names->(Vz n names acc).lookup x=acc.lookup x
 |[],_,_,_=>rfl
 | (y,k)::r,n,acc,h=>by
  have b:(x,Qas)∉r:=λz=>h (Qk _ z);unfold Vz;split
  ·rename_i d;have a:k = .cell:=by grind
   subst a;have e:x≠y:=λz=>h (by rw[z];simp);have c:(x==y)=false:=by simpa using e
   rw[zfz b,Qac,c]
  ·exact zfz b
theorem qtf{c lo:Nat}:∀{names:List (Str×Qaw)}{n:Nat}{acc:List (Str×Addr)},lo<=n->((x,Qas)∈names \/ ∃a,acc.lookup x=some a/\lo<=a)->(Vz n names acc).lookup x=some c->lo<=c
 |[],_,acc,_,h,e=>by
  rcases h with h|⟨a,f,g⟩
  ·simp at h
  ·have e:acc.lookup x=some c:=e;grind
 | (y,k)::r,n,acc,b,h,e=>by
  unfold Vz at e;split at e
  ·rename_i d;refine qtf (lo:=lo) (by lia) ?_ e;grind
  ·rename_i d;refine qtf b ?_ e;grind
theorem zgb{c:Addr}:∀{names:List (Str×Qaw)}{n:Nat}{acc:List (Str×Addr)},(∀z a,acc.lookup z=some a->a<n)->n<=c->(Vz n names acc).lookup x=some c->(Vz n names acc).lookup y=some c->x=y
 |[],n,acc,f,d,h,_=>absurd (f x c h) (Qae.mpr d)
 | (w,k)::r,n,acc,f,d,h,b=>by
  unfold Vz at h b;split at h
  ·rename_i g;rw[if_pos g]at b;have i:∀z a,((w,n)::acc).lookup z=some a->a<n+1:=λz a q=>by
    grind
   have j:∀z,((w,n)::acc).lookup z=some n->z=w:=λz q=>by
    grind
   by_cases e:c=n
   ·subst e;have l:x=w:=by
     rcases quo h with⟨q,_⟩|q
     ·grind
     grind
    have m:y=w:=by
     rcases quo b with⟨q,_⟩|q
     ·grind
     grind
    rw[l,m]
   ·exact zgb i (Nat.lt_of_le_of_ne d (Z9 e)) h b
  ·rename_i g;rw[if_neg g]at b;exact zgb f d h b
theorem qyo:∀{names:List (Str×Qaw)}{h:Heap}{acc:List (Str×Addr)},(Vz h.objs.size names acc).lookup x=some c->acc.lookup x=some c\/(Qde h names).IsCell c none
 |[],_,_,e => .inl e
 | (y,k)::r,h,acc,e=>by
  unfold Vz at e;unfold Qde;split at e
  ·rename_i a;rw[if_pos a];have b:(Vz (h.push { cls :=.type "cell",data :=.cell none }).objs.size r ((y,h.objs.size)::acc)).lookup x=some c:=by grind[Z5]
   rcases qyo b with q|q
   ·rw[Qac]at q;split at q
    ·have q:=Qr q;subst q;exact .inr ⟨_,Qhf _ _ _ _ (Qx _ rfl),rfl⟩
    grind
   grind
  ·rename_i a;rw[if_neg a];exact qyo e
theorem zke(d:Q (newEnv scope s.heap.objs.size globals (Vz (s.heap.objs.size+1) scope.names cl) qual none .none (some outer) Qdy) { s with heap:=Qde (s.heap.push { cls :=.type "dict",data :=.dict #[] }) scope.names }):
  wpAny M A (Qcz scope globals cl [] qual none .none (some outer)) Q E s:=by
  simp only[Qcz,Qio,if_true];refine Qg (wpAny_alloc ?_);refine Qg (wpAny_layCells _ (λb c a=>by grind) _ _ _ _ ?_);rw[show({ s with heap:=s.heap.push { cls :=.type "dict",data :=.dict #[] } }:Qt).heap.objs.size=s.heap.objs.size+1 from Z5 ..];rw[Qet];exact Qg (Qy (Qy d))
structure CompScope(env:Env)(scope:Scope)(caps:List Str):Prop where
 clos:Qjm scope env=pure (qpk env.cells scope.names [])
 kind:scope.kind = .function
 cells:scope.names.all (λy => !(y.2 == .cell)||scope.names.lookup y.1==some .cell)=true
 names:scope.names.all (λy => !(y.2 == .local)||scope.names.lookup y.1==some .local)=true
 free:scope.names.all (λy => !(y.2 == .free)||(env.cells.lookup y.1).isSome)=true
 cap:caps.all (λx=>scope.names.lookup x==some .free&&(env.scope.names.lookup x==some .cell||env.scope.names.lookup x==some .free))=true
theorem qhx{a:Type}:∀{l:List (Str×a)}{x:Str}{c:a},l.lookup x=some c->(x,c)∈l:=λh=>Vq h
theorem qsi:∀{l:List (Str×Addr)}{x:Str}{c:Addr},(x,c)∈l ->∃d,l.lookup x=some d
 |[],_,_,h=>by simp at h
 | (y,d)::r,x,c,h=>by
  by_cases e:x=y
  ·subst e;exact⟨d,by simp⟩
  ·have a:(x==y)=false:=by simpa using e
   rcases Zd.mp h with h|h
   ·grind
   ·obtain⟨b,f⟩:=qsi h;grind
section
variable{env:Env}{scope:Scope}{caps:List Str}
abbrev zsl(scope:Scope)(env:Env):List (Str×Addr):=qpk env.cells scope.names []
theorem CompScope.sub(S:CompScope env scope caps)(h:(zsl scope env).lookup x=some c):env.cells.lookup x=some c:=by
 rcases qjk (qhx h)with h|h
 ·simp at h
 ·exact h
theorem qiu(h:(Qlt scope env).names.lookup x=some k):∃a,(x,a)∈scope.names/\(a=k\/(a = .free/\k = .cell)):=by
 have b:=qhx h;obtain⟨⟨n,c⟩,d,e⟩:=Ql.mp b;grind
abbrev qvh(scope:Scope)(env:Env)(n:Nat):List (Str×Addr):=Vz n scope.names (zsl scope env)
theorem CompScope.hasF(S:CompScope env scope caps)(a:(x,Qin)∈scope.names):∃c,(zsl scope env).lookup x=some c:=by
 have:=Yc.mp S.free _ a;have b:(env.cells.lookup x).isSome=true:=by grind
 obtain⟨c,e⟩:=Jt.mp b;obtain⟨d,f⟩:=qjj (cells:=env.cells) (names:=scope.names) (acc:=[]) (.inr ⟨a,c,e⟩);exact qsi f
theorem CompScope.isC(S:CompScope env scope caps)(h:(x,Qas)∈scope.names):scope.names.lookup x=some .cell:=by
 have:=Yc.mp S.cells _ h;grind
theorem CompScope.has(S:CompScope env scope caps)(n:Nat)(h:(Qlt scope env).names.lookup x=some .cell\/(Qlt scope env).names.lookup x=some .free):∃c,(qvh scope env n).lookup x=some c:=by
 have a:scope.names.lookup x=some .cell\/(x,Qin)∈scope.names:=by
  rcases h with h|h
  ·obtain⟨e,b,d⟩:=qiu h;rcases d with rfl|⟨rfl,_⟩
   ·exact .inl (S.isC b)
   grind
  grind[qiu]
 refine Jt.mp (Qcn scope.names n _ ?_);rcases a with k|k
 ·exact .inl k
 ·obtain⟨c,f⟩:=S.hasF k;grind
theorem CompScope.look(S:CompScope env scope caps)(h:(qvh scope env n).lookup x=some c):(n<=c/\(x,Qas)∈scope.names)\/env.cells.lookup x=some c:=by
 rcases quo h with q|q
 ·exact .inl q
 ·exact .inr (S.sub q)
end
def blk(X:Cx)(pins:List (Addr×Obj))(scope:Scope)(N':List Str)(s3:Qt)(H:Hp)(ex:List Addr):Cx where
 prog:=X.prog
 w:=X.w
 K:=X.K
 mg:=X.mg
 base:=X.base
 A:=X.A
 N:=N'
 s₀:=s3
 H₀:=H
 env:=compEnvC scope (qvh scope X.env (s3.heap.objs.size+1)) s3.heap.objs.size X.env
 outer:=X.stack
 stack:=X.stack
 ex:=ex
 fn:=λx=>scope.names.lookup x==some .cell
 calm:=X.calm
 pn:=X.pn++pins
 xe:=λ_ _=>False
def qvq(ix:List Nat)(k:Nat)(a:St):St:=ix.map (λi=>(a[i]?).join)++Zf k none
def zmb(ix:List Nat)(k:Nat)(wi:TI)(g:TG)(te:TE):TE:=λf H Q=>wi f H λJ l =>∃W:Nat->Nat->List V->St->Hp->Prop,(∃m,W 0 m [] (qvq ix k f) l) /\ ∀i m c d b,W i m c d b ->
 (J.stop i b/\c.length<=Q4 /\ ∀p,b p=none->Q (.ref p) (upd b p (.lst c))) \/
 (J.go i b/\c.length<Q4 /\ ∃N:V->St->Hp->Prop,(∀y a e,N y a e ->∃h,h<m/\W (i+1) h (c++[y]) a e) /\ ∀x j,J.yld i b x j->g x d j λa n=>te a n λy e=>N y a e)
theorem qij(I:Nat->Qt->Prop)(l:∀n s,I n s->wpAny (model prog w) A (Qjy it) (λr a=>match r with
  |none=>R (.ok .next) a
  |some v=>wpAny (model prog w) A (Qck target it v) (λ_ b=>wpAny (model prog w) A (Qfy target env v) (λ_ f=>wpAny (model prog w) A (eval elt env) (λx g =>
   wpAny (model prog w) A (call (.builtin "list.append") [acc,x]) (λ_ i =>∃m,m<n/\I m i) (Qbc (model prog w) A env λe c=>R (.error e) c) g)
   (Qbc (model prog w) A env λe c=>R (.error e) c) f) (Qbc (model prog w) A env λe c=>R (.error e) c) b) (Qbc (model prog w) A env λe c=>R (.error e) c) a) (Qbc (model prog w) A env λe c=>R (.error e) c) s)(n:Nat)(h:I n s):Qcj (model prog w) A (.compLoop (.ListComp elt [⟨target,iter,[],0⟩] scope pos) 0 it acc env) R s:=by
  refine codeAny_loop rfl I (λn s t=>?_) n h;refine wpAny_noted ?_;rw[compTurn_list1];refine Qg (Qcl (Qg (Yh (l n s t) (λr a j=>?_) λ_ _ d=>d)));cases r with
  |none=>exact Qy j
  |some v =>
   exact Qg (Yh j (λ_ b k=>Qg (Yh k (λ_ f o=>Qg (Qg (Yh o (λx g p=>Qg (Yh p
    (λ_ i q=>Qy (Qy ⟨rfl,q⟩)) λ_ _ d=>d)) λ_ _ d=>d))) λ_ _ d=>d)) λ_ _ d=>d)
section
variable{X:Cx}{elt target iter:Expr}{scope:Scope}{pos:Pos}{caps own:List Str}{ix:List Nat}{wi:TI}{g:TG}{te:TE}
def xen:TT:=λ_ H Q=>Q true H
abbrev xgc:=Env->(Bool->Qt->Prop)->(Value->Qt->Prop)->Qt->Prop
def xcv(prog:Zw)(w:World)(A:Yk)(j c iter:Expr)(cs:List Expr)(scope:Scope)(pos:Pos)(Tst:xgc):Prop :=∀{R:Result->Qt->Prop}{s:Qt}{q k:Value}{a:Env}(I:Nat->Qt->Prop)
 (t:∀n s,I n s->wpAny (model prog w) A (Qjy q) (λr g=>match r with
  |none=>R (.ok .next) g
  |some v=>wpAny (model prog w) A (Qck c q v) (λ_ i=>wpAny (model prog w) A (Qfy c a v) (λ_ l=>Tst a (λb d=>match b with
   |true=>wpAny (model prog w) A (eval j a) (λx o =>
    wpAny (model prog w) A (call (.builtin "list.append") [k,x]) (λ_ p =>∃m,m<n/\I m p) (Qbc (model prog w) A a λe f=>R (.error e) f) o)
    (Qbc (model prog w) A a λe f=>R (.error e) f) d
   |false =>∃m,m<n/\I m d) (Qbc (model prog w) A a λe f=>R (.error e) f) l) (Qbc (model prog w) A a λe f=>R (.error e) f) i) (Qbc (model prog w) A a λe f=>R (.error e) f) g) (Qbc (model prog w) A a λe f=>R (.error e) f) s)
 (n:Nat) (h:I n s),Qcj (model prog w) A (.compLoop (.ListComp j [⟨c,iter,cs,0⟩] scope pos) 0 q k a) R s
theorem qny{tt:TT}(hloop:xcv X.prog X.w X.A elt target iter cs scope pos Tst)(hc:X.calm=true)(S:CompScope X.env scope caps)(hi:PI X target iter wi)(hg:∀d l H ex,PG (blk X d scope (caps++own) l H ex) target g)(he:∀d l H ex,PE (blk X d scope (caps++own) l H ex) elt te)(htst:∀d l H ex pins' s Z H' Qb P E,Inv (blk X d scope (caps++own) l H ex) pins' Z H' s->tt Z H' Qb->(∀b s' H'',Inv (blk X d scope (caps++own) l H ex) pins' Z H'' s'->Qb b H''->P b s')->Tst (blk X d scope (caps++own) l H ex).env P E s)(hix:caps.length=ix.length)(hcapB:(caps.zip ix).all (λp=>X.N[p.2]?==some p.1)=true)(hs:∀x,Z3 iter X.env x=pure x){Qv:VK}{Z:St}(I:Inv X d Z H s)(h:wi Z H Inner)(hin:∀J H1,Inner J H1 ->∃W:Nat->Nat->List V->St->Hp->Prop,(∃m,W 0 m [] (qvq ix own.length Z) H1) /\ ∀i m ys σ1 F,W i m ys σ1 F ->
 (J.stop i F/\ys.length<=Q4 /\ ∀p,F p=none->Qv (.ref p) (upd F p (.lst ys))) \/
 (J.go i F/\ys.length<Q4 /\ ∃(N:V->St->Hp->Prop)(N0:St->Hp->Prop),(∀y L Q,N y L Q ->∃m',m'<m/\W (i+1) m' (ys++[y]) L Q)/\(∀L Q,N0 L Q ->∃m',m'<m/\W (i+1) m' ys L Q) /\
 ∀x H3,J.yld i F x H3->g x σ1 H3 λL H4=>tt L H4 λb Q=>match b with|true=>te L Q λy H6=>N y L H6|false=>N0 L Q))(fin:∀(D C:Addr)(s6:Qt)(H6:Hp)(m6:Str->Option Value),s6.heap.Ns C m6->Inv X d Z H6 s6->H6 C=none->C≠X.env.locals->C∉X.fs->(C∈X.ex\/X.s₀.heap.objs.size<=C)->(∀x c,X.env.cells.lookup x=some c->c≠C)->(∀p∈X.pn++d,p.1≠C)->Qv (.ref D) H6 ->
 compPost (model X.prog X.w) X.A X.xe use Q0 (.ref D) C (.ok .next) s6):
 wpAny (model X.prog X.w) X.A (comprehension (.ListComp elt [⟨target,iter,cs,0⟩] scope pos) scope X.env pos' (newList []) false (eval iter X.env) use) Q0 X.xe s:=by
  have hcap:∀(j:Nat)(x:Str)(i:Nat),caps[j]?=some x->ix[j]?=some i->X.N[i]?=some x:=λj x i h1 h2=>by
   have hm:(x,i)∈caps.zip ix:=by
    have:(caps.zip ix)[j]?=some (x,i):=by grind
    grind
   grind
  have hnm:∀y∈scope.names,y.2 = .local->scope.names.lookup y.1=some .local:=λy hy hl=>by
   have:=Yc.mp S.names y hy;grind
  refine wpAny_comprehension_free (use:=use) rfl hs S.clos S.kind hnm (thn (hi d s Z H _ I h) λv s1 h1=>thn h1 λitv k h2=>?_);obtain⟨it,fp,tn,J,F,e,A,T,st2,f2,hJ⟩:=h2;obtain⟨W,⟨m0,w0⟩,turn⟩:=hin J F hJ;subst e;refine Qay (zke ?_);dsimp only;generalize eh0:k.heap.push { cls :=.type "list",data :=.seq #[] }=O;have hns₁:(Qde (O.push { cls :=.type "dict",data :=.dict #[] }) scope.names).Ns O.objs.size (λ_=>none):=(Qmd O (.type "dict")).keeps (Qhf _ _);have hkp:∀b o,O.get? b=some o->(Qde (O.push { cls :=.type "dict",data :=.dict #[] }) scope.names).get? b=some o:=λb o q=>Qhf _ _ b o (Qi _ q);have hcl₁:∀x c,(qvh scope X.env (O.objs.size+1)).lookup x=some c->(zsl scope X.env).lookup x=some c\/(Qde (O.push { cls :=.type "dict",data :=.dict #[] }) scope.names).IsCell c none:=λx c q=>by
   grind[qyo,Z5]
  generalize Qde (O.push { cls :=.type "dict",data :=.dict #[] }) scope.names=h₁ at hns₁ hkp hcl₁ ⊢;obtain⟨l,hs3⟩:∃l:Qt,l={ k with heap:=O }:=⟨_,rfl⟩
  have e3:O=l.heap:=by rw[hs3]
  subst e3;have eh:=eh0.symm;have hC:l.heap.objs.size=k.heap.objs.size+1:=by rw[eh,Z5]
  have f:k.heap.objs.size<l.heap.objs.size:=by lia
  have k23:∀b o,k.heap.get? b=some o->l.heap.get? b=some o:=λb o q=>by grind[Qi]
  have hD3:l.heap.get? k.heap.objs.size=some { cls :=.type "list",data :=.seq ([]:List Value).toArray }:=by rw[eh];exact Qx _ rfl
  have I3:Inv X d Z F l:=by rw[hs3];exact A.kept (t':=k.toks) k23
  have k34:=hkp;have fpl:∀b∈fp,b<k.heap.objs.size:=λb t=>by
   obtain⟨o,q,_⟩:=T.obj 0 _ st2 b t;exact Qw q
  have cel:∀x c,X.env.cells.lookup x=some c->c<k.heap.objs.size:=λx c q=>by
   obtain⟨v,o,z,_⟩:=A.cell x c q;exact Qw z
  have ncl:∀x c,(qvh scope X.env (l.heap.objs.size+1)).lookup x=some c->X.env.cells.lookup x=some c\/l.heap.objs.size<c:=λx c q=>(S.look q).elim (λz => .inr z.1) .inl;have pnl:∀p∈X.pn++d,p.1<k.heap.objs.size:=λp G=>Qw (A.pin p G).1;have hDn:=A.hok.fresh (Qs _);have ok:(blk X d scope (caps++own) l F (k.heap.objs.size::fp)).Ok:=by
   refine⟨A.mod,S.kind,A.ok.glob,A.ok.blt,Qs _,λx y c h1 h2=>?_,λx hx=>S.has _ hx,λx c hf q=>?_,A.ok.hd,A.ok.frames,.inl rfl,λb t=>?_,I3.bs,?_,λb o q t=>?_,λb t=>?_,I3.stack,I3.stkFree⟩
   ·rcases ncl x c h1 with q1|q1
    ·rcases ncl y c h2 with q2|q2
     ·exact A.ok.inj x y c q1 q2
     ·exact absurd (Yu (cel x c q1) f) (Qae.mpr (Yq q2))
    ·exact zgb (n:=l.heap.objs.size+1) (acc:=zsl scope X.env) (λz a q=>Qfe (Yu (cel z a (S.sub q)) f)) q1 h1 h2
   ·exact Zq (Qct _) (qtf (lo:=l.heap.objs.size+1) (Qs _) (.inl (qhx (beq_iff_eq.mp hf))) q)
   ·have w:=Zd.mp t;rcases w with rfl|w
    ·exact⟨Q7 f,λx c q=>(ncl x c q).elim (λz=>Q7 (cel x c z)) λz=>Yt (Yu f z)⟩
    ·exact⟨Q7 (Yu (fpl b w) f),λx c q=>(ncl x c q).elim (λz=>(f2 b w).2.2.2.2.1 x c z) λz=>Yt (Yu (fpl b w) (Yu f z))⟩
   ·exact Zq A.ok.bsz I3.sz
   ·have hlt:=Qw q;have w:=Zd.mp t;have h1:=A.ok.bsz;have h2:=A.sz;rcases w with rfl|w
    ·exact absurd hlt (Qae.mpr (Zq h1 h2))
    ·rcases(f2 b w).2.2.2.1 with z|z
     ·exact A.ok.noex b o q z
     ·exact absurd hlt (Qae.mpr (Zq h1 z))
   ·have w:=Zd.mp t;intro z;have K:=A.stkSub b z;rcases w with rfl|w
    ·rcases Zd.mp K with K|K
     ·exact Yt A.lt K
     ·exact A.nofs (Qs _) K
    ·rcases Zd.mp K with K|K
     ·exact(f2 b w).2.1 K
     ·exact(f2 b w).2.2.1 K
  have len0:(qvq ix own.length Z).length=(caps++own).length:=by unfold qvq;simp[hix]
  have I4:Inv (blk X d scope (caps++own) l F (k.heap.objs.size::fp)) [] (qvq ix own.length Z) F { k with heap:=h₁ }:=by
   obtain⟨mX,nsX,lkX⟩:=I3.loc;refine⟨ok,(by show k.os=l.os;rw[hs3]),A.bare,Un.kept k34,⟨_,hns₁,λj x v h1 h2 O=>?_⟩,λx c q=>?_,I3.hok.fresh (Qs _),λx c q=>(ncl x c q).elim (λz=>I3.freeC x c z) λz=>I3.hok.fresh (Yq z),λp G=>?_,I3.hok.kept k34,len0⟩
   ·-- a captured name
    have hj:j<ix.length:=by
     unfold qvq at h2;by_cases hj:j<ix.length
     ·exact hj
     ·rw[Yj (by simpa using hj),Qby]at h2;split at h2 <;> cases h2
    have h1':caps[j]?=some x:=by
     have:(caps++own)[j]?=some x:=h1
     rwa [Zv (by lia)]at this
    have hij:=Qc hj;have hv:Z[ix[j]]?=some (some v):=by
     unfold qvq at h2;rw[Zv (by simpa using hj),Qa,hij]at h2;have h2':(Z[ix[j]]?).join=some v:=by simpa using h2
     cases q:Z[ix[j]]? with
     |none=>rw[q]at h2';cases h2'
     |some o=>rw[q]at h2';cases o with
      |none=>cases h2'
      |some y=>have:y=v:=by simpa using h2'
               rw[this]
    have hk:=Yc.mp S.cap x (Qh h1');obtain⟨k1,k2⟩:=Jq.mp hk;have k1':scope.names.lookup x=some .free:=by simpa using k1
    have k2':X.env.scope.names.lookup x=some .cell\/X.env.scope.names.lookup x=some .free:=by simpa using k2
    obtain⟨u,ru,lk⟩:=lkX ix[j] x v (hcap j x _ h1' hij) hv (k2'.elim (λz => .inr (.inl z)) (λz => .inr (.inr z)));refine⟨u,ru,?_⟩;have hrel:(Qlt scope X.env).names.lookup x=some .cell\/(Qlt scope X.env).names.lookup x=some .free:=by
     rcases O with O|O|O
     ·have h3':=O;obtain⟨k',m1,m2⟩:=qiu h3';rcases m2 with rfl|⟨_,m2⟩
      ·have:=hnm _ m1 rfl;rw[k1']at this;cases this
      ·cases m2
     ·exact .inl O
     ·exact .inr O
    have hxc:(x,Qas)∉scope.names:=λz=>by
     have:=S.isC z;rw[k1']at this;cases this
    obtain⟨c,hcl⟩:=S.hasF (qhx k1');have hcl':(qvh scope X.env (l.heap.objs.size+1)).lookup x=some c:=(zfz hxc).trans hcl;rcases lk with⟨kl,_⟩|⟨_,c',ec,ic⟩
    ·have kl':X.env.scope.names.lookup x=some .local:=kl;rcases k2' with z|z <;> (rw[kl']at z;cases z)
    ·have:=S.sub hcl;have ee:c'=c:=by rw[ec]at this;exact Qr this
     exact .inr ⟨hrel,c,hcl',ee▸ic.keeps k34⟩
   ·rcases hcl₁ x c q with z|z
    ·obtain⟨v,ic⟩:=I3.cell x c (S.sub z);exact⟨v,ic.keeps k34⟩
    ·exact⟨_,z⟩
   ·have M:p∈X.pn++d:=by simpa[blk]using G
    obtain⟨q1,q2,q3,q4,q5⟩:=I3.pin p M;refine⟨k34 _ _ q1,q2,Q7 (Yu (pnl p M) f),λz=>?_,q5⟩;rcases Zd.mp (I3.stkSub p.1 z)with K|K
    ·exact q3 K
    ·exact q4 K
  have hD4:=k34 _ _ hD3;have st4:=T.keep _ _ _ st2 λb _ o q=>k34 b o (k23 b o q);have fpk:∀{H':Hp}{ob:Obj},(∀b∈fp,H' b=none) ->∀b∈fp,zmh (blk X d scope (caps++own) l F (k.heap.objs.size::fp)) [(k.heap.objs.size,ob)] H' b:=λ{H' ob} hn b t=>by
   obtain⟨_,a1,a2,a3,a4,a5⟩:=f2 b t;refine⟨hn b t,Q7 (Yu (fpl b t) f),λz=>?_,.inl (Qk _ t),λx c q=>(ncl x c q).elim (λz=>a4 x c z) λz=>Yt (Yu (fpl b t) (Yu f z)),λp G=>?_⟩
   ·rcases Zd.mp (A.stkSub b z)with K|K
    ·exact a1 K
    ·exact a2 K
   ·have M:p∈X.pn++d\/p=(k.heap.objs.size,ob):=by simpa[blk,or_assoc]using G
    rcases M with M|rfl
    ·exact a5 p M
    ·exact Yt (fpl b t)
  have loop:∀s5:Qt,s5=({ k with heap:=h₁ }:Qt) ->
   Qcj (model X.prog X.w) X.A (.compLoop (.ListComp elt [⟨target,iter,cs,0⟩] scope pos) 0 (.ref it) (.ref k.heap.objs.size) (compEnvC scope (qvh scope X.env (l.heap.objs.size+1)) l.heap.objs.size X.env))
    (compPost (model X.prog X.w) X.A X.xe use Q0 (.ref k.heap.objs.size) l.heap.objs.size) s5:=by
   rintro s5 rfl;refine hloop (λn s' =>∃i ys B cp σ' H',Inv (blk X d scope (caps++own) l F (k.heap.objs.size::fp)) [] σ' H' s'/\tn i s'.heap/\(∀b∈fp,H' b=none)/\H' k.heap.objs.size=none /\
    s'.heap.get? k.heap.objs.size=some { cls :=.type "list",data :=.seq (B:List Value).toArray cp }/\Vals ys B/\W i n ys σ' H') ?_ m0 ⟨0,[],[],_,_,F,I4,st4,λb t=>(f2 b t).1,hDn,hD4,.nil,w0⟩
   rintro n s5 ⟨i,ys,B,cp,σ5,Q,I5,st5,fr5,R,gD5,rv5,w5⟩;have Dfs:k.heap.objs.size∉(blk X d scope (caps++own) l F (k.heap.objs.size::fp)).fs:=λz=>by
    rcases Zd.mp (A.stkSub _ z)with K|K
    ·exact Yt A.lt K
    ·exact A.nofs (Qs _) K
   have I5':Inv (blk X d scope (caps++own) l F (k.heap.objs.size::fp)) [(k.heap.objs.size,{ cls :=.type "list",data :=.seq B.toArray cp })] σ5 Q s5:=by
    refine I5.pins_of λp G=>?_;have M:p∈(blk X d scope (caps++own) l F (k.heap.objs.size::fp)).pn++[]\/p=(k.heap.objs.size,{ cls :=.type "list",data :=.seq B.toArray cp }):=by
     first
      |exact .inr (Q6.mp G)
      | (rcases Zh.mp G with z|z
         ·exact .inl (Y1 _ z)
         ·exact .inr (Q6.mp z))
    rcases M with z|rfl
    ·exact I5.pin p z
    ·exact⟨gD5,R,Q7 f,Dfs,λv z=>by cases z⟩
   rcases turn i n ys σ5 Q w5 with⟨stop,hz,qn⟩|⟨go,hz,N,N0,hN,hN0,step⟩
   ·refine thn (T.done (blk X d scope (caps++own) l F (k.heap.objs.size::fp)) rfl rfl rfl hc i _ s5 σ5 Q _ I5' (fpk fr5) st5 stop) λr s6 ⟨hr,I6⟩=>?_;subst hr;obtain⟨m6,ns6,_⟩:=id I6.loc;have gD6:=(I6.pin _ (Qz _ (Q6.mpr rfl))).1;have kC:∀b o,b≠l.heap.objs.size->s6.heap.get? b=some o->s6.heap.get? b=some o:=λb o _ q=>q;have bne:∀b o,k.heap.get? b=some o->b≠l.heap.objs.size:=λb o q=>Q7 (Yu (Qw q) f);have bnD:∀b o,k.heap.get? b=some o->b≠k.heap.objs.size:=λb o q=>Q7 (Qw q);have nC:∀b u,Q b=some u->b≠l.heap.objs.size:=λb u q z=>by
     have z1:Q l.heap.objs.size=none:=I6.free;rw[z,z1]at q;cases q
    have U:=I6.base;have IX:Inv X d Z (upd Q k.heap.objs.size (.lst ys)) s6:=by
     refine A.call' (ch:=k.heap.objs.size::fp) ?_ ?_ ?_ I6.bare ?_
     ·show s6.os=k.os;rw[I6.os];show l.os=k.os;rw[hs3]
     ·refine⟨λb o q n t hx=>kC b o (bne b o q) (U.keep b o (k23 b o q) n t hx),λb o q n t hx=>?_,λb o q n hx=>?_,λb o q hx=>?_,λb xs q=>?_,λb o u q=>?_,λb ps q=>?_⟩
      ·obtain⟨sl,z⟩:=U.slot b o (k23 b o q) n t hx;exact⟨sl,kC b _ (bne b o q) z⟩
      ·rw[qi (bnD b o q)];exact U.free b o (k23 b o q) n hx
      ·obtain⟨o',z⟩:=U.there b o (k23 b o q) hx;exact⟨o',kC b _ (bne b o q) z⟩
      ·have:=U.tups b xs q;rw[qi (qu this R)];exact this
      ·have:=U.frzs b o u q;rw[qi (qu this R)];exact this
      ·obtain⟨more,z,gm⟩:=U.tbls b ps q;exact⟨more,by rw[qi (qu z R)];exact z,gm.mono λb o u q=>by rw[qi (qu q R)];exact q⟩
     ·intro b u q;by_cases t:b=k.heap.objs.size
      ·subst t;rw[qk]at q;cases q;exact⟨hz,B,cp,rv5,kC _ _ (Q7 f) gD6⟩
      ·rw[qi t]at q;refine(I6.hok b u q).stay (λc ob hc z=>kC c ob ?_ z) (λc z=>by rw[qi (qu z R)];exact z) λc xs z=>by rw[qi (qu z R)];exact z
       rcases hc with hc|hc
       ·rw[hc];exact nC b u q
       ·exact nC c _ hc
     ·intro b t;have w:=Zd.mp t;rcases w with rfl|w
      ·exact⟨.inr A.sz,Yt A.lt,λx c q=>Q7 (cel x c q),λp G=>Q7 (pnl p G)⟩
      ·obtain⟨_,a1,_,a3,a4,a5⟩:=f2 b w;exact⟨a3,a1,a4,a5⟩
    have hCH:(upd Q k.heap.objs.size (.lst ys)) l.heap.objs.size=none:=by
     rw[qi (Yt f)];exact I6.free
    exact fin _ _ s6 _ m6 ns6 IX hCH (Yt (Yu A.lt f)) (A.nofs (Yq f)) (.inr (Zq A.sz (Yq f))) (λx c q=>Q7 (Yu (cel x c q) f)) (λp G=>Q7 (Yu (pnl p G) f)) (qn _ R)
   ·refine thn (T.item (blk X d scope (caps++own) l F (k.heap.objs.size::fp)) rfl rfl rfl hc i _ s5 σ5 Q _ I5' (fpk fr5) st5 go) λr s6 ⟨u,hr,h6⟩=>?_;subst hr;refine thn h6 λ_ s7 xx66=>?_;obtain⟨x,H7,I7,r7,y7,st7,fr7⟩:=xx66;have I7':=I7.pinned (fpk fr7) (T.obj _ _ st7);refine Yh (hg d l F _ _ s7 σ5 H7 x u _ I7' r7 (step x H7 y7)) (λ_ s8 xx65=>?_) λ_ _ z=>z.elim;obtain⟨σ8,H8,I8,q8⟩:=xx65;refine htst d l F _ _ s8 σ8 H8 _ _ _ I8 q8 λbt s8' H8' I8' q8'=>?_;cases bt with
    |false =>
     have q9:=q8';obtain⟨m',hm',w9⟩:=hN0 σ8 H8' q9;have Y:=(I8'.pin (k.heap.objs.size,{ cls :=.type "list",data :=.seq B.toArray cp }) (Qz _ (Y1 _ (Q6.mpr rfl))))
     have pin8:∀b∈fp,∀o,s7.heap.get? b=some o->s8'.heap.get? b=some o/\H8' b=none:=λb t o q=>by
      have z:=I8'.pin (b,o) (Qz _ (Qz _ (qhp t q)));exact⟨z.1,z.2.1⟩
     refine⟨m',hm',i+1,ys,B,cp,σ8,H8',?_,?_,λb t=>?_,Y.2.1,Y.1,rv5,w9⟩
     ·exact(I8'.pins_of (pins':=[]) (λp G=>by
       first
        |exact absurd G (by simp)
        | (rw[Qak]at G;exact I8'.pin p (Y1 _ G))))
     ·exact T.keep _ _ _ st7 λb t o q=>(pin8 b t o q).1
     ·obtain⟨o,q,_⟩:=T.obj _ _ st7 b t;exact(pin8 b t o q).2
    |true =>
     refine Yh (he d l F _ _ s8' σ8 H8' _ I8' q8') (λuy s9 xx64=>?_) λ_ _ z=>z.elim;obtain⟨y,H9,I9,r9,n9⟩:=xx64;obtain⟨m',hm',w9⟩:=hN y σ8 H9 n9;have Y:=(I9.pin (k.heap.objs.size,{ cls :=.type "list",data :=.seq B.toArray cp }) (Qz _ (Y1 _ (Q6.mpr rfl))))
     have pin9:∀b∈fp,∀o,s7.heap.get? b=some o->s9.heap.get? b=some o/\H9 b=none:=λb t o q=>by
      have z:=I9.pin (b,o) (Qz _ (Qz _ (qhp t q)));exact⟨z.1,z.2.1⟩
     have hl9:=rv5.length;refine Qdz Qfd ⟨_,Y.1,rfl⟩ PySem.F.entry_list_append (PySem.F.args_list_append_2 _ _) (Qiz k.heap.objs.size B.toArray cp uy (by rw[Zn];lia)) ⟨Y.1,?_⟩;have qD:=Qkc Y.1 (λxs=>xs.push uy);have ep:B.toArray.push uy=(B++[uy]).toArray:=by simp
     rw[ep]at qD;have up:∀b o,b≠k.heap.objs.size->s9.heap.get? b=some o->(s9.heap.update k.heap.objs.size (Ye λxs=>xs.push uy)).get? b=some o:=λb o t q=>(Qaf s9.heap _ (Z9 t)).trans q;refine⟨m',hm',i+1,ys++[y],B++[uy],_,σ8,H9,?_,?_,λb t=>?_,Y.2.1,qD,rv5.append (.cons r9 .nil),w9⟩
     ·refine(I9.pins_of (pins':=[]) (λp G=>by
       first
        |exact absurd G (by simp)
        | (rw[Qak]at G;exact I9.pin p (Y1 _ G)))).turned (it:=k.heap.objs.size) up Y.2.1 (Q7 f) (.inl (List.mem_cons_self ..)) (λx c q=>(ncl x c q).elim (λz=>Q7 (cel x c z)) λz=>Yt (Yu f z)) λp G=>?_
      have M:p∈X.pn++d:=by simpa[blk]using G
      exact Q7 (pnl p M)
     ·exact T.keep _ _ _ st7 λb t o q=>up b o (Q7 (fpl b t)) (pin9 b t o q).1
     ·obtain⟨o,q,_⟩:=T.obj _ _ st7 b t;exact(pin9 b t o q).2
  exact codeAny_compStart_list (loop _ rfl) (T.self _ 0 _ _ _ st4 (loop _ rfl))
theorem qsp(u:X.calm=true)(S:CompScope X.env scope caps)(v:PI X target iter wi)(y:∀a e H ex,PG (blk X a scope (caps++own) e H ex) target g)(he:∀a e H ex,PE (blk X a scope (caps++own) e H ex) elt te)(f:caps.length=ix.length)(d:(caps.zip ix).all (λp=>X.N[p.2]?==some p.1)=true)(A:∀x,Z3 iter X.env x=pure x){j:St}(I:Inv X a j H s)(h:zmb ix own.length wi g te j H Qv)(l:∀(D C:Addr)(o:Qt)(r:Hp)(B:Str->Option Value),o.heap.Ns C B->Inv X a j r o->r C=none->C≠X.env.locals->C∉X.fs->(C∈X.ex\/X.s₀.heap.objs.size<=C)->(∀x c,X.env.cells.lookup x=some c->c≠C)->(∀p∈X.pn++a,p.1≠C)->Qv (.ref D) r ->
 compPost (model X.prog X.w) X.A X.xe use Q0 (.ref D) C (.ok .next) o):
 wpAny (model X.prog X.w) X.A (comprehension (.ListComp elt [⟨target,iter,[],0⟩] scope pos) scope X.env pos' (newList []) false (eval iter X.env) use) Q0 X.xe s:=by
  refine qny (cs:=[]) (tt:=xen) (Tst:=λ_ P _ s=>P true s) (λJ b n h=>qij J b n h) u S v y he (λ_ _ _ _ _ s _ E _ _ _ I q k=>k true s E I q) f d A I h (λJ O z=>?_) l;obtain⟨W,F,b⟩:=z;refine⟨W,F,λi m G t K w=>?_⟩;rcases b i m G t K w with z|z
  ·exact .inl z
  ·obtain⟨go,L,N,M,step⟩:=z;exact .inr ⟨go,L,N,λ_ _=>False,M,λ_ _ z=>z.elim,step⟩
theorem zuo(i:X.calm=true)(S:CompScope X.env scope caps)(j:PI X target iter wi)(k:∀a d H ex,PG (blk X a scope (caps++own) d H ex) target g)(he:∀a d H ex,PE (blk X a scope (caps++own) d H ex) elt te)(e:caps.length=ix.length:=by rfl)(c:(caps.zip ix).all (λp=>X.N[p.2]?==some p.1)=true:=by rfl)(l:∀x,Z3 iter X.env x=pure x:=by intro _;rfl):PE X (.ListComp elt [⟨target,iter,[],0⟩] scope pos) (zmb ix own.length wi g te):=by
  intro a s m H Q I h;rw[eval_ListComp];exact qsp (use:=none) (Q0:=EP X a m Q) i S j k he e c l I h λD C n r t f u v w F y z A q=>⟨t,f,λG B=>⟨.ref D,r,u.turned (t':=n.toks) (it:=C) (λb o E q=>B.extBut b o E q) v w y z A,rfl,q⟩⟩
end
inductive Sl where
 |non
 |val (d:Qj)
 |own (ds:List Qj)
 |pen (ds:List Qj)
 |new (d:Qj)
 |exc (C:Addr)
  | «at» (v:V)
  |obj (a C:Addr) (nm:List Str) (fs:List (Str×Qj))
  |dsk (m:Bool) (a g C:Addr) (f:Str) (es:List (Str×Qj))
abbrev Sto:=List Sl
def gS:Sto->Nat->Sl
 |[],_ => .non
 |s::_,0=>s
 |_::r,i+1=>gS r i
def Sl.mut:Sl->Bool
 |.own _=>true
 |.pen _=>true
 |_=>false
def vS(a:St)(i:Nat):Option V:=(a[i]?).join
theorem qdz:∀(e:Sto)(i j:Nat)(s:Sl),gS (e.set i s) j=if i=j/\i<e.length then s else gS e j
 |[],i,j,s=>by simp[gS]
 |x::e,0,0,s=>by simp[gS]
 |x::e,0,j+1,s=>by simp[gS]
 |x::e,i+1,0,s=>by simp[gS]
 |x::e,i+1,j+1,s=>by
  simp only[List.set_cons_succ,gS,qdz e i j s,Zg,Nat.add_right_cancel_iff,Nat.add_lt_add_iff_right]
theorem zfx:∀{e:Sto}{i:Nat},e.length<=i->gS e i = .non
 |[],_,_=>by simp[gS]
 |x::e,0,h=>by simp at h
 |x::e,i+1,h=>by simp only[gS];exact zfx (by simpa using h)
theorem qpx(a:St)(i j:Nat)(v:Option V):vS (a.set i v) j=if i=j/\i<a.length then v else vS a j:=by
 unfold vS;grind
theorem qdw(h:vS σ i=some v):σ[i]?=some (some v):=by
 unfold vS at h;grind
structure Frm where
 B:Hp
 He:Hp
 F0:Hp
mutual
def IsN(K:Qd)(H:Hp):Qj->V->Prop
 |.none,v=>v = .non
 |.bool b,v=>v = .bl b
 |.int i,v=>v = .int i
 |.str x,v=>v = .str x
 |.list l,v =>∃a c,v = .ref a/\H a=some (.lst c)/\IssN K H l c
 |.tuple l,v =>∃a c,v = .ref a/\H a=some (.tup c)/\IssN K H l c
 |.dict _,_=>False
def IssN(K:Qd)(H:Hp):List Qj->List V->Prop
 |[],a=>a=[]
 |d::l,a =>∃x r,a=x::r/\IsN K H d x/\IssN K H l r
end
mutual
theorem IsN.is{K:Qd}{H c:Hp}(s:Same H c):∀{d:Qj}{v:V},IsN K H d v->Is K c d v
 |.none,_,h=>by unfold IsN at h;unfold Is;exact h
 |.bool _,_,h=>by unfold IsN at h;unfold Is;exact h
 |.int _,_,h=>by unfold IsN at h;unfold Is;exact h
 |.str _,_,h=>by unfold IsN at h;unfold Is;exact h
 |.list l,_,h=>by
  unfold IsN at h;unfold Is;obtain⟨a,b,e,q,r⟩:=h;exact⟨a,b,e,SqL.of (s _ _ q),IssN.is s r⟩
 |.tuple l,_,h=>by
  unfold IsN at h;unfold Is;obtain⟨a,b,e,q,r⟩:=h;exact⟨a,b,e,SqT.of (s _ _ q),IssN.is s r⟩
 |.dict _,_,h=>by unfold IsN at h;exact h.elim
theorem IssN.is{K:Qd}{H a:Hp}(s:Same H a):∀{l:List Qj}{xs:List V},IssN K H l xs->Iss K a l xs
 |[],_,h=>by unfold IssN at h;unfold Iss;exact h
 |d::l,_,h=>by
  unfold IssN at h;unfold Iss;obtain⟨x,r,e,p,q⟩:=h;exact⟨x,r,e,IsN.is s p,IssN.is s q⟩
end
mutual
theorem IsN.mono{K:Qd}{H c:Hp}(s:Same H c):∀{d:Qj}{v:V},IsN K H d v->IsN K c d v
 |.none,_,h=>by unfold IsN at h ⊢;exact h
 |.bool _,_,h=>by unfold IsN at h ⊢;exact h
 |.int _,_,h=>by unfold IsN at h ⊢;exact h
 |.str _,_,h=>by unfold IsN at h ⊢;exact h
 |.list l,_,h=>by
  unfold IsN at h ⊢;obtain⟨a,b,e,q,r⟩:=h;exact⟨a,b,e,s _ _ q,IssN.mono s r⟩
 |.tuple l,_,h=>by
  unfold IsN at h ⊢;obtain⟨a,b,e,q,r⟩:=h;exact⟨a,b,e,s _ _ q,IssN.mono s r⟩
 |.dict _,_,h=>by unfold IsN at h;exact h.elim
theorem IssN.mono{K:Qd}{H a:Hp}(s:Same H a):∀{l:List Qj}{xs:List V},IssN K H l xs->IssN K a l xs
 |[],_,h=>by unfold IssN at h ⊢;exact h
 |d::l,_,h=>by
  unfold IssN at h ⊢;obtain⟨x,r,e,p,q⟩:=h;exact⟨x,r,e,IsN.mono s p,IssN.mono s q⟩
end
theorem zmr{K:Qd}:IssN K H [] []:=by rfl
theorem zjt{K:Qd}(h:IsN K H d x)(r:IssN K H l xs):IssN K H (d::l) (x::xs):=by unfold IssN;grind
def qog(M:Frm)(F:Hp):Hp:=λb=>if(M.He b).isNone=true/\(M.B b).isNone=true then F b else none
theorem qjr:Same (qog M F) F:=λb o e=>by
 unfold qog at e;split at e
 ·exact .of e
 ·cases e
theorem qvv(s:Same F F'):Same (qog M F) (qog M F'):=λb o e=>by
 unfold qog at e ⊢;split at e
 ·rename_i h;rw[if_pos h];exact s b o e
 ·cases e
theorem qqx(b:M.He a=none)(c:M.B a=none)(d:F a=some o):qog M F a=some o:=by
 unfold qog;grind
theorem qtm(h:qog M F a=some o):M.He a=none/\M.B a=none/\F a=some o:=by
 unfold qog at h;split at h
 ·rename_i z;exact⟨Qbe.mp z.1,Qbe.mp z.2,h⟩
 ·cases h
def xfj(C a:Addr):HO :=.ext λh =>∃o,h.get? a=some o/\o.cls = .ref C
def DEnts(K:Qd)(F:Hp):List (Str×Qj)->List (Key×V)->Prop
 |[],a=>a=[]
 |e::b,a =>∃v r,a=(.inr e.1,v)::r/\Is K F e.2 v/\DEnts K F b r
theorem DEnts.mono{K:Qd}(s:Same F F'):∀{es:List (Str×Qj)}{a:List (Key×V)},DEnts K F es a->DEnts K F' es a
 |[],_,h=>h
 |_::_,_,⟨v,r,e,i,h⟩=>⟨v,r,e,i.mono s,DEnts.mono s h⟩
def xez(M:Frm)(F:Hp)(g:Addr)(a:List (Key×V)):Bool->Prop
 |true=>F g=none/\M.B g=none
 |false=>M.B g=some (.dK a)
section
variable(K:Qd)(M:Frm)(F H:Hp)
def SlotOk:Sl->Option V->Prop
 |.non,_=>True
 |.val d,x =>∃v,x=some v/\Is K F d v
 |.own e,x =>∃a b,x=some (.ref a)/\H a=some (.lst b)/\F a=none/\M.B a=none/\M.He a=none/\Iss K F e b
 |.pen e,x =>∃a b,x=some (.ref a)/\H a=some (.lst b)/\F a=none/\M.B a=none/\(∃o,M.He a=some o)/\Iss K F e b
 |.new d,x =>∃v,x=some v/\IsN K (qog M F) d v
 |.exc C,x =>∃h,x=some (.ref h)/\F h=some (xfj C h)
 |.at v,x=>x=some v
 |.obj a C j fs,x =>∃i b,x=some (.ref a)/\M.B a=some (.ins C i b)/\b.map (·.1)=j /\ ∀f d,(f,d)∈fs ->∃v,b.lookup f=some v/\Is K F d v
 |.dsk m a g C f k,x =>∃i c,x=some (.ref a)/\H a=some (.ins C i [(f,.ref g)])/\H g=some (.dK c)/\DEnts K F k c/\xez M F g c m
structure EnvOk(env:Sto)(σ:St):Prop where
 len:env.length=σ.length
 slot:∀i,SlotOk K M F H (gS env i) (vS σ i)
 dis:∀i j a,i≠j->(gS env i).mut=true->(gS env j).mut=true->vS σ i=some (.ref a)->vS σ j=some (.ref a)->False
 f0:Same M.F0 F
 fe:Same M.F0 M.He
 fh:Same F H
 bh:Same M.B H
 new:∀b o,F b=some o->M.F0 b=some o\/M.He b=none
 dom:∀b o,M.He b=some o ->∃o',H b=some o'
end
structure Go(F H F' H':Hp):Prop where
 f:Same F F'
 h:Same H H'
 fh:Same F' H'
 new:∀b o,F' b=some o->F b=some o\/H b=none
theorem qB(s:Same H H')(h:H' b=none):H b=none:=s.free h
theorem Go.refl(s:Same F H):Go F H F H:=⟨.refl _,.refl _,s,λ_ _ h => .inl h⟩
theorem Go.trans(a:Go F H F1 H1)(b:Go F1 H1 F2 H2):Go F H F2 H2 :=
 ⟨a.f.trans b.f,a.h.trans b.h,b.fh,λc o h=>(b.new c o h).elim (λq=>a.new c o q) λq => .inr (qB a.h q)⟩
theorem Go.put(s:Same F H)(h:H p=none):Go F H (upd F p o) (upd H p o):=by
 refine⟨qbh (qB s h),qbh h,λb u e=>?_,λb u e=>?_⟩
 ·unfold upd at e ⊢;split at e
  ·rename_i z;rw[if_pos z];exact .of e
  ·rename_i z;rw[if_neg z];exact s b u e
 ·unfold upd at e;grind
theorem Go.side(s:Same F H)(h:H p=none):Go F H F (upd H p o) :=
 ⟨.refl _,qbh h,s.trans (qbh h),λ_ _ e => .inl e⟩
section
variable{K:Qd}{M:Frm}{F H F' H':Hp}{env:Sto}{σ:St}
theorem SlotOk.go(h:SlotOk K M F H s x)(g:Go F H F' H'):SlotOk K M F' H' s x:=by
 have t:∀{a:Addr}{o:HO},H a=some o->F a=none->F' a=none:=λ{a o} c k=>by
  cases e:F' a with
  |none=>rfl
  |some u=>rcases g.new a u e with q|q
           ·rw[k]at q;cases q
           ·rw[c]at q;cases q
 cases s with
 |non=>trivial
 |val d=>obtain⟨v,e,i⟩:=h;exact⟨v,e,i.mono g.f⟩
 |own A=>obtain⟨a,n,e,c,k,p,r,w⟩:=h;exact⟨a,n,e,g.h _ _ c,t c k,p,r,w.mono g.f⟩
 |pen A=>obtain⟨a,n,e,c,k,p,B,w⟩:=h;exact⟨a,n,e,g.h _ _ c,t c k,p,B,w.mono g.f⟩
 |new d=>obtain⟨v,e,i⟩:=h;exact⟨v,e,i.mono (qvv g.f)⟩
 |exc C=>obtain⟨D,e,i⟩:=h;exact⟨D,e,g.f.at i⟩
 | «at» v=>exact h
 |obj E C I fs=>obtain⟨y,n,e,b,G,i⟩:=h;exact⟨y,n,e,b,G,λf d m=>let ⟨v,l,j⟩:=i f d m; ⟨v,l,j.mono g.f⟩⟩
 |dsk m E J C f L =>
  obtain⟨y,z,e,c,k,p,r⟩:=h;refine⟨y,z,e,g.h.at c,g.h.at k,p.mono g.f,?_⟩;cases m with
  |true=>exact⟨t k r.1,r.2⟩
  |false=>exact r
theorem EnvOk.go(I:EnvOk K M F H env σ)(g:Go F H F' H'):EnvOk K M F' H' env σ where
 len:=I.len
 slot:=λi=>(I.slot i).go g
 dis:=I.dis
 f0:=I.f0.trans g.f
 fe:=I.fe
 fh:=g.fh
 bh:=I.bh.trans g.h
 new:=λb o e=>(g.new b o e).elim (λq=>I.new b o q) λq=>by
  refine .inr ?_;cases z:M.He b with
  |none=>rfl
  |some u=>obtain⟨o',q'⟩:=I.dom b u z;grind
 dom:=λb o e=>let ⟨o',q⟩:=I.dom b o e;g.h.any q
theorem EnvOk.he(I:EnvOk K M F H env σ)(h:H a=none):M.He a=none:=by
 cases z:M.He a with
 |none=>rfl
 |some u=>obtain⟨b,c⟩:=I.dom a u z;grind
theorem EnvOk.setv(I:EnvOk K M F H env σ)(h:Is K F d v):EnvOk K M F H (env.set i (.val d)) (σ.set i (some v)) where
 len:=by rw[Ve,Ve];exact I.len
 slot:=λj=>by
  rw[qdz,qpx,I.len];split
  ·exact⟨v,rfl,h⟩
  ·exact I.slot j
 dis:=λj k a hjk h1 h2 h3 h4=>by
  rw[qdz]at h1 h2;rw[qpx]at h3 h4;rw[I.len]at h1 h2;split at h1
  ·cases h1
  ·rename_i z1;split at h2
   ·cases h2
   ·rename_i z2;rw[if_neg z1]at h3;rw[if_neg z2]at h4;exact I.dis j k a hjk h1 h2 h3 h4
 f0:=I.f0
 fe:=I.fe
 fh:=I.fh
 bh:=I.bh
 new:=I.new
 dom:=I.dom
theorem EnvOk.seto(I:EnvOk K M F H env σ)(h1:H a=some (.lst vs))(h2:F a=none)(h3:M.B a=none)(h4:M.He a=none)(h5:∀j,(gS env j).mut=true->vS σ j≠some (.ref a))(h6:Iss K F ds vs):EnvOk K M F H (env.set i (.own ds)) (σ.set i (some (.ref a))) where
  len:=by rw[Ve,Ve];exact I.len
  slot:=λj=>by
   rw[qdz,qpx,I.len];split
   ·exact⟨a,vs,rfl,h1,h2,h3,h4,h6⟩
   ·exact I.slot j
  dis:=λj k b hjk m1 m2 e1 e2=>by
   rw[qdz]at m1 m2;rw[qpx]at e1 e2;rw[I.len]at m1 m2;by_cases z1:i=j/\i<σ.length
   ·grind
   ·rw[if_neg z1]at m1 e1;by_cases z2:i=k/\i<σ.length
    ·grind
    ·rw[if_neg z2]at m2 e2;exact I.dis j k b hjk m1 m2 e1 e2
  f0:=I.f0
  fe:=I.fe
  fh:=I.fh
  bh:=I.bh
  new:=I.new
  dom:=I.dom
def Sl.upd:Sl->List Qj->Sl
 |.own _,a => .own a
 |.pen _,a => .pen a
 |s,_=>s
def Sl.cnt:Sl->List Qj
 |.own a=>a
 |.pen a=>a
 |_=>[]
theorem SlotOk.addr(h:SlotOk K M F H s x)(m:s.mut=true):∃a vs,x=some (.ref a)/\H a=some (.lst vs)/\F a=none/\M.B a=none/\Iss K F s.cnt vs:=by
 cases s with
 |non=>cases m
 |val d=>cases m
 |own j=>obtain⟨a,vs,e,b,c,g,l,i⟩:=h;exact⟨a,vs,e,b,c,g,i⟩
 |pen j=>obtain⟨a,vs,e,b,c,g,n,i⟩:=h;exact⟨a,vs,e,b,c,g,i⟩
 |new d=>cases m
 |exc C=>cases m
 | «at» v=>cases m
 |obj k C o fs=>cases m
 |dsk _ k p C f q=>cases m
theorem zww(h:(gS e i).mut=true):i<e.length:=by
 by_cases z:i<e.length
 ·exact z
 ·rw[zfx (by lia)]at h;cases h
theorem EnvOk.chg(I:EnvOk K M F H env σ)(m:(gS env i).mut=true)(n:vS σ i=some (.ref a))(h:Iss K F ds vs):EnvOk K M F (upd H a (.lst vs)) (env.set i ((gS env i).upd ds)) σ:=by
 obtain⟨D,vs0,e,E,N,O,Y⟩:=(I.slot i).addr m;rw[n]at e;injection e with e;injection e with e;subst e;have P:=zww m;have Q:((gS env i).upd ds).mut=true:=by
  cases q:gS env i with
  |non=>rw[q]at m;cases m
  |val d=>rw[q]at m;cases m
  |own d=>rfl
  |pen d=>rfl
  |new d=>rw[q]at m;cases m
  |exc C=>rw[q]at m;cases m
  | «at» v=>rw[q]at m;cases m
  |obj r C G fs=>rw[q]at m;cases m
  |dsk _ r J C f L=>rw[q]at m;cases m
 have s:∀j,(gS (env.set i ((gS env i).upd ds)) j).mut=(gS env j).mut:=λj=>by
  rw[qdz];split
  ·rename_i z;rw[Q,<- z.1,m]
  ·rfl
 refine⟨by rw[Ve];exact I.len,λj=>?_,λj k b w R T U V=>I.dis j k b w (s j▸R) (s k▸T) U V,I.f0,I.fe,λb o e=>?_,λb o e=>?_,I.new,λb o e=>?_⟩
 ·rw[qdz];by_cases z:i=j
  ·subst z;rw[if_pos ⟨rfl,P⟩];have S:=I.slot i;cases q:gS env i with
   |non=>rw[q]at m;cases m
   |val d=>rw[q]at m;cases m
   |own p =>
    rw[q]at S;obtain⟨D,c,e,g,g2,l,t,u⟩:=S;rw[n]at e;injection e with e;injection e with e;subst e;exact⟨a,vs,n,qk,g2,l,t,h⟩
   |pen p =>
    rw[q]at S;obtain⟨D,c,e,g,g2,l,x,u⟩:=S;rw[n]at e;injection e with e;injection e with e;subst e;exact⟨a,vs,n,qk,g2,l,x,h⟩
   |new d=>rw[q]at m;cases m
   |exc C=>rw[q]at m;cases m
   | «at» v=>rw[q]at m;cases m
   |obj r C G fs=>rw[q]at m;cases m
   |dsk _ r J C f L=>rw[q]at m;cases m
  ·rw[if_neg (λy=>z y.1)];have S:=I.slot j;cases q:gS env j with
   |non=>trivial
   |val d=>rw[q]at S;exact S
   |own p =>
    rw[q]at S;obtain⟨b,c,e,g,g2,l,t,u⟩:=S;have A:b≠a:=λy=>by subst y;exact I.dis i j b z m (by rw[q];rfl) n e
    exact⟨b,c,e,by rw[qi A];exact g,g2,l,t,u⟩
   |pen p =>
    rw[q]at S;obtain⟨b,c,e,g,g2,l,x,u⟩:=S;have A:b≠a:=λy=>by subst y;exact I.dis i j b z m (by rw[q];rfl) n e
    exact⟨b,c,e,by rw[qi A];exact g,g2,l,x,u⟩
   |new d=>rw[q]at S;exact S
   |exc C=>rw[q]at S;exact S
   | «at» v=>rw[q]at S;exact S
   |obj r C G fs=>rw[q]at S;exact S
   |dsk Z r J C f L =>
    rw[q]at S;obtain⟨W,B,e,g,g2,l,t⟩:=S;exact⟨W,B,e,by rw[qi (λy=>by rw[y,E]at g;cases g)];exact g,by rw[qi (λy=>by rw[y,E]at g2;cases g2)];exact g2,l,t⟩
 ·rw[qi (qu e N)];exact I.fh b o e
 ·rw[qi (qu e O)];exact I.bh b o e
 ·obtain⟨X,q⟩:=I.dom b o e;by_cases z:b=a
  ·subst z;exact⟨_,qk⟩
  ·exact⟨X,by rw[qi z];exact q⟩
theorem EnvOk.frz(I:EnvOk K M F H env σ)(x:H a=some (.lst vs))(A:F a=none)(B:M.He a=none)(D:∀j,(gS env j).mut=true->vS σ j≠some (.ref a)):
 EnvOk K M (upd F a (.lst vs)) H env σ/\Same F (upd F a (.lst vs)):=by
  have g:Same F (upd F a (.lst vs)):=qbh A;refine⟨⟨I.len,λj=>?_,I.dis,I.f0.trans g,I.fe,λb o e=>?_,I.bh,λb o e=>?_,I.dom⟩,g⟩
  ·have S:=I.slot j;have p:=D j;cases q:gS env j with
   |non=>trivial
   |val d=>rw[q]at S;obtain⟨v,e,i⟩:=S;exact⟨v,e,i.mono g⟩
   |own r =>
    rw[q]at S p;obtain⟨b,c,e,h,g2,k,n,s⟩:=S;have t:b≠a:=λy=>by subst y;exact p rfl e
    exact⟨b,c,e,h,by rw[qi t];exact g2,k,n,s.mono g⟩
   |pen r =>
    rw[q]at S p;obtain⟨b,c,e,h,g2,k,E,s⟩:=S;have t:b≠a:=λy=>by subst y;exact p rfl e
    exact⟨b,c,e,h,by rw[qi t];exact g2,k,E,s.mono g⟩
   |new d=>rw[q]at S;obtain⟨v,e,i⟩:=S;exact⟨v,e,i.mono (qvv g)⟩
   |exc C=>rw[q]at S;obtain⟨G,e,i⟩:=S;exact⟨G,e,g.at i⟩
   | «at» v=>rw[q]at S;exact S
   |obj J C P fs=>rw[q]at S;obtain⟨u,c,e,L,N,i⟩:=S;exact⟨u,c,e,L,N,λf d m=>let ⟨v,l,j⟩:=i f d m; ⟨v,l,j.mono g⟩⟩
   |dsk O J Q C f R =>
    rw[q]at S;obtain⟨u,w,e,h,g2,k,n⟩:=S;refine⟨u,w,e,h,g2,k.mono g,?_⟩;cases O with
    |true=>exact⟨by rw[qi (λy=>by rw[y,x]at g2;cases g2)];exact n.1,n.2⟩
    |false=>exact n
  ·by_cases z:b=a
   ·subst z;rw[qk]at e;rw[x];exact .of e
   ·rw[qi z]at e;exact I.fh b o e
  ·by_cases z:b=a
   ·subst z;exact .inr B
   ·rw[qi z]at e;exact I.new b o e
theorem EnvOk.drop(I:EnvOk K M F H env σ)(i:Nat):EnvOk K M F H (env.set i .non) σ where
 len:=by rw[Ve];exact I.len
 slot:=λj=>by
  rw[qdz];split
  ·trivial
  ·exact I.slot j
 dis:=λj k a hjk h1 h2 h3 h4=>by
  rw[qdz]at h1 h2;split at h1
  ·cases h1
  ·split at h2
   ·cases h2
   ·exact I.dis j k a hjk h1 h2 h3 h4
 f0:=I.f0
 fe:=I.fe
 fh:=I.fh
 bh:=I.bh
 new:=I.new
 dom:=I.dom
theorem EnvOk.tell(I:EnvOk K M F H env σ)(e:vS σ i=some v)(h:Is K F d v):EnvOk K M F H (env.set i (.val d)) σ where
 len:=by rw[Ve];exact I.len
 slot:=λj=>by
  rw[qdz];split
  ·rename_i z;rw[<- z.1];exact⟨v,e,h⟩
  ·exact I.slot j
 dis:=λj k a hjk h1 h2 h3 h4=>by
  rw[qdz]at h1 h2;split at h1
  ·cases h1
  ·split at h2
   ·cases h2
   ·exact I.dis j k a hjk h1 h2 h3 h4
 f0:=I.f0
 fe:=I.fe
 fh:=I.fh
 bh:=I.bh
 new:=I.new
 dom:=I.dom
def Sl.fz:Sl->Sl
 |.own a => .val (.list a)
 |s=>s
theorem EnvOk.freeze(I:EnvOk K M F H env σ)(i:Nat):∃k,EnvOk K M k H (env.set i (gS env i).fz) σ/\Same F k:=by
 have same:∀s,gS env i=s->env.set i s=env:=λs h=>by
  subst h;apply Zt;intro j;rw[Qjd];split
  ·rename_i z;subst z;split
   ·rename_i l;have:∀(e:Sto)(n:Nat)(h:n<e.length),some (gS e n)=e[n]?:=by
     intro e
     induction e with
     |nil=>intro n h;simp at h
     |cons x e u=>intro n h;cases n with
      |zero=>rfl
      |succ n=>simp only[gS,J7];exact u n (by simpa using h)
    exact this env i l
   ·rename_i l;rw[Q5 (by omega)]
  ·rfl
 cases q:gS env i with
 |non=>exact⟨F,by rw[show Sl.fz .non = .non from rfl,same _ q];exact I,.refl _⟩
 |val d=>exact⟨F,by rw[show Sl.fz (.val d) = .val d from rfl,same _ q];exact I,.refl _⟩
 |pen g=>exact⟨F,by rw[show Sl.fz (.pen g) = .pen g from rfl,same _ q];exact I,.refl _⟩
 |new d=>exact⟨F,by rw[show Sl.fz (.new d) = .new d from rfl,same _ q];exact I,.refl _⟩
 |exc C=>exact⟨F,by rw[show Sl.fz (.exc C) = .exc C from rfl,same _ q];exact I,.refl _⟩
 | «at» v=>exact⟨F,by rw[show Sl.fz (.at v) = .at v from rfl,same _ q];exact I,.refl _⟩
 |obj b C o fs=>exact⟨F,by rw[show Sl.fz (.obj b C o fs) = .obj b C o fs from rfl,same _ q];exact I,.refl _⟩
 |dsk p b r C f t=>exact⟨F,by rw[show Sl.fz (.dsk p b r C f t) = .dsk p b r C f t from rfl,same _ q];exact I,.refl _⟩
 |own g =>
  have S:=I.slot i;rw[q]at S;obtain⟨a,E,e,w,y,G,A,B⟩:=S;obtain⟨J,s⟩:=(I.drop i).frz w y A (λj m z=>by
   rw[qdz]at m;split at m
   ·cases m
   ·rename_i D;by_cases c:i=j
    ·subst c;exact D ⟨rfl,zww (by rw[q];rfl)⟩
    ·exact I.dis i j a c (by rw[q];rfl) m e z)
  have T:=J.tell (i:=i) (d :=.list g) e (qeq (SqL.of qk) (B.mono s));rw[List.set_set]at T;exact⟨_,T,s⟩
end
abbrev WE:=Sto->(Qj->Sto->Prop)->Prop
abbrev WF:=Sto->(List Qj->Sto->Prop)->Prop
abbrev WT:=Sto->(Bool->Sto->Prop)->Prop
inductive Ret where
 |val (d:Qj)
 |own (ds:List Qj)
 |new (d:Qj)
def Ret.data:Ret->Qj
 |.val d=>d
 |.own a => .list a
 |.new d=>d
structure WEnds where
 nx:Sto->Prop
 rt:Ret->Sto->Prop
 bk:Sto->Prop:=λ_=>False
 ct:Sto->Prop:=λ_=>False
abbrev WS:=WEnds->Sto->Prop
abbrev WG:=Qj->Sto->(Sto->Prop)->Prop
abbrev WGs:=List Qj->Sto->(Sto->Prop)->Prop
abbrev D2:=Qj->Qj->(Qj->Prop)->Prop
abbrev DC:=List Qj->(Qj->Prop)->Prop
section
variable(K:Qd)
def qcq(W:WE):TE:=λe H R =>∃M b F Q,EnvOk K M F H b e/\W b Q /\ ∀d v c f a,EnvOk K M c f a e->Same F c->Is K c d v->Q d a->R v f
def zds(W:WF):TE:=λe H R =>∃M c F Q,EnvOk K M F H c e/\W c Q /\ ∀a g h d f b,EnvOk K M d f b e->Same F d->f a=some (.lst g)->d a=none->M.B a=none->M.He a=none ->
 (∀i,(gS b i).mut=true->vS e i≠some (.ref a))->Iss K d h g->Q h b->R (.ref a) f
def qlg(W:WF):TA:=λd H R =>∃M b F Q,EnvOk K M F H b d/\W b Q /\ ∀e f c g a,EnvOk K M c g a d->Same F c->Iss K c e f->Q e a->R f g
def qvk(W:WT):TT:=λd H R =>∃M c F Q,EnvOk K M F H c d/\W c Q /\ ∀b e f a,EnvOk K M e f a d->Same F e->Q b a->R b f
def RetOk(M:Frm)(F H:Hp):Ret->V->Prop
 |.val d,v=>Is K F d v
 |.own c,v =>∃a b,v = .ref a/\H a=some (.lst b)/\F a=none/\M.B a=none/\M.He a=none/\Iss K F c b
 |.new d,v=>IsN K (qog M F) d v
structure EndsOk(M:Frm)(F:Hp)(DD:WEnds)(D:Ends):Prop where
 nx:∀env' F' H' σ',EnvOk K M F' H' env' σ'->Same F F'->DD.nx env'->D.nx σ' H'
 rt:∀r v env' F' H' σ',EnvOk K M F' H' env' σ'->Same F F'->RetOk K M F' H' r v->DD.rt r env'->D.rt v H'
 bk:∀env' F' H' σ',EnvOk K M F' H' env' σ'->Same F F'->DD.bk env'->D.bk σ' H'
 ct:∀env' F' H' σ',EnvOk K M F' H' env' σ'->Same F F'->DD.ct env'->D.ct σ' H'
def zsa(W:WS):TS:=λD c H =>∃M a F b,EnvOk K M F H a c/\W b a/\EndsOk K M F b D
def qro(W:WG):TG:=λv g H R =>∃M b F d Q,EnvOk K M F H b g/\Is K F d v/\W d b Q /\ ∀e f a c,EnvOk K M e f a c->Same F e->Q a->R c f
def zzj(W:WGs):TGs:=λg h H R =>∃M b F d Q,EnvOk K M F H b h/\Iss K F d g/\W d b Q /\ ∀e f a c,EnvOk K M e f a c->Same F e->Q a->R c f
def zek(r:D2):R2:=λx y H Q =>∃F a b q,Same F H/\Is K F a x/\Is K F b y/\r a b q /\ ∀d v c e,Go F H c e->Is K c d v->q d->Q v e
def zlu(r:DC):List V->Hp->VK->Prop:=λe H Q =>∃F a q,Same F H/\Iss K F a e/\r a q /\ ∀d v b c,Go F H b c->Is K b d v->q d->Q v c
def zaa(r:List Qj->(List Qj->Prop)->Prop):List V->Hp->VK->Prop:=λf H Q =>∃F d q,Same F H/\Iss K F d f/\r d q /\ ∀l a e b c,Go F H b c->H a=none->b a=none->c a=some (.lst e)->Iss K b l e->q l->Q (.ref a) c
structure ItD(J:It)(F:Hp)(ds:List Qj):Prop where
 go:∀i H,Same F H->i<ds.length->J.go i H
 stop:∀H,Same F H->J.stop ds.length H
 yld:∀i H x H' F1,Same F F1->Same F1 H->i<ds.length->J.yld i H x H' ->∃d F2,ds[i]?=some d/\Go F1 H F2 H'/\Is K F2 d x
def qve(W:WF):TI:=λd H R =>∃M b F Q,EnvOk K M F H b d/\W b Q /\ ∀e J c f a,EnvOk K M c f a d->Same F c->ItD K J c e->Q e a->R J f
end
section
variable{K:Qd}{M:Frm}{F F':Hp}{DD:WEnds}{D:Ends}
theorem EndsOk.mono(h:EndsOk K M F DD D)(s:Same F F'):EndsOk K M F' DD D :=
 ⟨λe f g i j k=>h.nx e f g i j (s.trans k),λr v e f g i j k=>h.rt r v e f g i j (s.trans k),λe f g i j k=>h.bk e f g i j (s.trans k),λe f g i j k=>h.ct e f g i j (s.trans k)⟩
end
def VE(X:Cx)(e:Expr)(W:WE):Prop:=PE X e (qcq X.K W)
def VF(X:Cx)(e:Expr)(W:WF):Prop:=PE X e (zds X.K W)
def VA(X:Cx)(e:List Expr)(W:WF):Prop:=PA X e (qlg X.K W)
def VT(X:Cx)(e:Expr)(W:WT):Prop:=PT X e (qvk X.K W)
def VW(X:Cx)(e:Expr)(W:WT):Prop:=PW X e (qvk X.K W)
theorem VW.pt(h:VW X e W):VT X e W:=PW.pt h
def VS(X:Cx)(st:Stmt)(W:WS):Prop:=PS X st (zsa X.K W)
def VSs(X:Cx)(st:List Stmt)(W:WS):Prop:=PSs X st (zsa X.K W)
def VG(X:Cx)(e:Expr)(W:WG):Prop:=PG X e (qro X.K W)
def VGs(X:Cx)(e:List Expr)(W:WGs):Prop:=PGs X e (zzj X.K W)
def VI(X:Cx)(a e:Expr)(W:WF):Prop:=PI X a e (qve X.K W)
def OpV(X:Cx)(f:Value->Value->Sem Value)(r:D2):Prop:=OpR X f (zek X.K r)
def qlb(X:Cx)(f:Value)(r:DC):Prop:=CallR X f (zlu X.K r)
def qvc(X:Cx)(f:Value)(r:List Qj->(List Qj->Prop)->Prop):Prop:=CallR X f (zaa X.K r)
section
variable{X:Cx}
theorem PE.imp(h:PE X e t)(i:∀a H Q,t' a H Q->t a H Q):PE X e t':=λb s a H Q I q=>h b s a H Q I (i a H Q q)
theorem PA.imp(h:PA X e t)(i:∀a H Q,t' a H Q->t a H Q):PA X e t':=λc b s a H Q I q=>h c b s a H Q I (i a H Q q)
theorem PT.imp(h:PT X e t)(i:∀a H Q,t' a H Q->t a H Q):PT X e t':=λb s a H Q I q=>h b s a H Q I (i a H Q q)
theorem PW.imp(h:PW X e t)(i:∀a H Q,t' a H Q->t a H Q):PW X e t':=λc b s a H Q I q=>h c b s a H Q I (i a H Q q)
theorem PS.imp(h:PS X e t)(i:∀D a H,t' D a H->t D a H):PS X e t':=λb s a H D I q=>h b s a H D I (i D a H q)
theorem PSs.imp(h:PSs X e t)(i:∀D a H,t' D a H->t D a H):PSs X e t':=λb s a H D I q=>h b s a H D I (i D a H q)
theorem PG.imp(h:PG X e t)(i:∀v a H Q,t' v a H Q->t v a H Q):PG X e t':=λb s a H v u Q I r q=>h b s a H v u Q I r (i v a H Q q)
theorem PGs.imp(h:PGs X e t)(i:∀v a H Q,t' v a H Q->t v a H Q):PGs X e t':=λb s a H v u Q I r q=>h b s a H v u Q I r (i v a H Q q)
theorem PI.imp(h:PI X tg e t)(i:∀a H Q,t' a H Q->t a H Q):PI X tg e t':=λb s a H Q I q=>h b s a H Q I (i a H Q q)
theorem OpR.imp(h:OpR X f r)(i:∀x y H Q,r' x y H Q->r x y H Q):OpR X f r':=λc s d H x y v u Q I a b q=>h c s d H x y v u Q I a b (i x y H Q q)
theorem CallR.imp(h:CallR X f r)(i:∀x H Q,r' x H Q->r x H Q):CallR X f r':=λb s c H x u Q I a q=>h b s c H x u Q I a (i x H Q q)
theorem IxR.imp(h:IxR X r)(i:∀x y H Q,r' x y H Q->r x y H Q):IxR X r':=λc d e s f H x y v u Q I a b q=>h c d e s f H x y v u Q I a b (i x y H Q q)
def xdw(i:Nat):WE:=λa Q=>match gS a i with |.val d=>Q d a |.new d=>Q d a|_=>False
theorem qc(i:Nat){pos:Pos}(c:X.N[i]?=some x:=by rfl)(f:Vis X.env.scope x:=by first|exact Vn rfl|exact Y3 (Vn rfl)|exact Y3 (Y3 rfl))(hd:Nd0 x:=by decide)(b:Nd1 x:=by decide):VE X (.Name x pos) (xdw i):=(qer c f hd b).imp λl H R a=>by
 obtain⟨M,env,F,Q,I,h,k⟩:=a;have S:=I.slot i;unfold xdw at h;cases q:gS env i with
 |val d =>
  rw[q]at S h;obtain⟨v,e,j⟩:=S;exact⟨v,qdw e,k d v F H env I (.refl _) j h⟩
 |new d =>
  rw[q]at S h;obtain⟨v,e,j⟩:=S;exact⟨v,qdw e,k d v F H env I (.refl _) (j.is qjr) h⟩
 |non=>rw[q]at h;exact h.elim
 |own g=>rw[q]at h;exact h.elim
 |pen g=>rw[q]at h;exact h.elim
 |exc C=>rw[q]at h;exact h.elim
 | «at» v=>rw[q]at h;exact h.elim
 |dsk _ _ _ _ _ _=>rw[q]at h;exact h.elim
 |obj m C n fs=>rw[q]at h;exact h.elim
def wC(d:Qj):WE:=λa Q=>Q d a
theorem zsk(h:PE X e (tC v))(i:∀F,Is X.K F d v):VE X e (wC d):=h.imp λc H R a=>by obtain⟨M,b,F,Q,I,h,k⟩:=a;exact k d v F H b I (.refl _) (i F) h
theorem qf{i j pos}:VE X (.Constant (.int i) j pos) (wC (.int i)):=zsk zft λ_=>qZ i
theorem qgw{b j pos}:VE X (.Constant (.bool b) j pos) (wC (.bool b)):=zsk xdf λ_=>qeu b
theorem qdk{j pos}:VE X (.Constant .none j pos) (wC .none):=zsk xao λ_=>qud
theorem qui{x j pos}:VE X (.Constant (.str x) j pos) (wC (.str x)):=zsk zfr λ_=>zfy x
theorem qdo{pos:Pos}(h:∃t,X.mg x=some (.int i t))(a:Gl X x:=by rfl)(hd:Nd0 x:=by decide):VE X (.Name x pos) (wC (.int i)):=by
 obtain⟨t,b⟩:=h;exact zsk (zvp (v :=.int i) a b ⟨t,rfl⟩ hd) λ_=>qZ i
def wOp(r:D2)(b c:WE):WE:=λa Q=>b a λx e=>c e λy f=>r x y λd=>Q d f
theorem qrz(h:qcq X.K (wOp r Wa Wb) σ H R):tOp (zek X.K r) (qcq X.K Wa) (qcq X.K Wb) σ H R:=by
 obtain⟨M,a,F,Q,I,h,k⟩:=h;exact⟨M,a,F,_,I,h,λd v e z f i j l m=>⟨M,f,e,_,i,m,λn A o B p b c s t =>
  ⟨o,d,n,_,b.fh,l.mono c,s,t,λd3 u w x g y q=>k d3 u w x p (b.go g) (j.trans (c.trans g.f)) y q⟩⟩⟩
section
variable{a b c:Expr}{Wa Wb Wc:WE}{pos:Pos}
theorem qx(c:OpV X (Je op) r)(d:VE X a Wa)(e:VE X b Wb):VE X (.BinOp a op b pos) (wOp r Wa Wb) :=
 (zsd c d e).imp λ_ _ _ h=>qrz h
theorem qce(c:OpV X (Yo op) r)(d:VE X a Wa)(e:VE X b Wb)(f:Qch op b=false:=by first|exact zqi _|with_unfolding_all rfl):VE X (.Compare a [op] [b] pos) (wOp r Wa Wb) :=
 (zsp c d e f).imp λ_ _ _ h=>qrz h
def zlx(W:WE):WT:=λa Q=>W a λd e=>match d with |.bool b=>Q b e|_=>False
theorem qnw(h:qvk X.K (zlx W) σ H R):qcq X.K W σ H λx e =>∃k,x = .bl k/\R k e:=by
 obtain⟨M,a,F,Q,I,h,k⟩:=h;refine⟨M,a,F,_,I,h,λd v f g i j l m c=>?_⟩;cases d with
 |bool b=>exact⟨b,m.bl_inv,k b f g i j l c⟩
 |_=>exact Zc c
theorem qN(c:OpV X (Yo op) r)(d:VE X a Wa)(e:VE X b Wb)(f:Qch op b=false:=by first|exact zqi _|with_unfolding_all rfl):VT X (.Compare a [op] [b] pos) (zlx (wOp r Wa Wb)) :=
 (ztq c d e f).imp λg H R h=>qrz (qnw h)
theorem qbj(h:VE X e W)(he:∀a,Qjx e X.env a=(do let v <- a;Qhg e.pos;Qdm [v] (truthy v)):=by intro _;rfl):VT X e (zlx W) :=
 (zzz h he).imp λb H R h=>qnw h
def zxi:Qj->Bool
 |.none=>false
 |.bool b=>b
 |.int i=>i != 0
 |.str x=>(x.length:Int) != 0
 |.list l => !l.isEmpty
 |.tuple l => !l.isEmpty
 |.dict l => !l.isEmpty
def xgm(W:WE):WT:=λa Q=>W a λd e=>(∀x,d = .str x->x.length<=Q4)/\Q (zxi d) e
theorem Iss.emp{K:Qd}(h:Iss K H l xs):(!l.isEmpty) = !xs.isEmpty:=by
 cases l with
 |nil=>rw[h.nil_inv];rfl
 |cons d l=>obtain⟨x,r,rfl,_⟩:=h.cons_inv;rfl
def xfn(K:Qd)(x:V)(H:Hp)(k:Bool):Prop:=xeb K x H k \/ ∃a b,x = .ref a/\H a=some (.ext (DX a b))/\k = !b.isEmpty
theorem zlg(p:PE X a ta)(he:∀b,Qjx a X.env b=(do let v <- b;Qhg a.pos;Qdm [v] (truthy v))):
 PT X a (λg H Q=>ta g H λx m =>∃k,xfn X.K x m k/\Q k m):=by
  intro c s g H Q I h;refine isTrue_plain (thn (p c s g H _ I h) λv n f=>?_) (he _);obtain⟨x,i,j,o,k,e,q⟩:=f;rcases e with e|⟨a,r,rfl,e,rfl⟩
  ·exact xar c n g i x v Q j o ⟨k,e,q⟩
  ·cases o;obtain⟨⟨⟨t,w,_⟩,y,z,d,u⟩,_⟩:=(show ObjOk X.prog X.w i n.heap a (.ext (DX a r)) from j.hok a _ e)
   have l:=u.len;refine znf t d (by rw[Z6]at l;lia) ?_;rw[zge l];exact⟨i,j.tok _,q⟩
theorem xam(h:VE X e W)(he:∀c,Qjx e X.env c=(do let v <- c;Qhg e.pos;Qdm [v] (truthy v)):=by intro _;rfl):VT X e (xgm W) :=
 (zlg h he).imp λz H R j=>by
  obtain⟨M,env,F,Q,I,h,k⟩:=j;refine⟨M,env,F,_,I,h,λd v t u w p y f s=>⟨zxi d,?_,k _ t u w p y s.2⟩⟩;replace f:=f.mono p.fh
  by_cases n:∃l,d = .dict l
  ·obtain⟨l,rfl⟩:=n;obtain⟨a,rfl,⟨o,q,m,_⟩|⟨g,q,m,_⟩⟩:=f.dct_inv
   ·exact .inl (.inr (.inr ⟨o,q,zge m⟩))
   ·exact .inr ⟨a,g,rfl,q,by rw[m];exact zge (zzf g)⟩
  left;cases d with
  |none=>rw[f.non_inv];rfl
  |bool b=>rw[f.bl_inv];rfl
  |int i=>rw[f.int_inv];rfl
  |str x=>subst f;exact⟨s.1 x rfl,rfl⟩
  |list l=>obtain⟨a,g,rfl,q,r⟩:=f.lst_inv;exact .inl ⟨g,q,r.emp⟩
  |tuple l=>obtain⟨a,g,rfl,q,r⟩:=f.tup_inv;exact .inr (.inl ⟨g,q,r.emp⟩)
  |dict l=>exact(n ⟨l,rfl⟩).elim
def zrb(r c:D2)(e f g:WE):WE:=λa Q=>e a λx h=>f h λy b=>r x y λz=>match z with
 |.bool k=>if k=true then g b λw i=>c y w λd=>Q d i else Q (.bool false) b
 |_=>False
theorem zdx(h:qcq X.K (zrb r r' Wa Wb Wc) σ H R):zql (zek X.K r) (zek X.K r') (qcq X.K Wa) (qcq X.K Wb) (qcq X.K Wc) σ H R:=by
 obtain⟨M,a,F,Q,I,h,k⟩:=h;refine⟨M,a,F,_,I,h,λd v t V u w x y z=>⟨M,u,t,_,w,z,λc W A Y e f i j B=>⟨A,d,c,_,f.fh,y.mono i,j,B,λd3 Z l C g D q=>?_⟩⟩⟩;have m:=f.go g;have n:=x.trans (i.trans g.f);cases d3 with
 |bool b =>
  refine⟨b,D.bl_inv,?_⟩;cases b with
  |false=>exact zch (k _ _ l C e m n (qeu false) q)
  |true=>exact qyb ⟨M,e,l,_,m,q,λE v4 G H4 J o p K L=>⟨G,c,E,_,o.fh,(j.mono g.f).mono p,K,L,λN O P S s T U=>k N O P S J (o.go s) (n.trans (p.trans s.f)) T U⟩⟩
 |_=>exact Zc q
theorem qsz(e:OpV X (Yo op) r)(d:OpV X (Yo op') r')(f:VE X a Wa)(g:VE X b Wb)(i:VE X c Wc)(j:lastMarks [op,op'] [b,c]=false:=by with_unfolding_all rfl):VT X (.Compare a [op,op'] [b,c] pos) (zlx (zrb r r' Wa Wb Wc)):=(zon e d f g i j).imp λ_ _ _ h=>zdx (qnw h)
end
section
variable{a b c:Expr}{Wa Wb Wc:WE}{Ta Tb Tc:WT}{pos:Pos}{rest:List Expr}
def xfb(t u:WT):WT:=λa Q=>t a λk e=>if k=true then u e Q else Q false e
def wOr(t u:WT):WT:=λa Q=>t a λk e=>if k=true then Q true e else u e Q
def xfq(t:WT):WT:=λa Q=>t a λk e=>Q (!k) e
theorem zil(b:VT X a Ta):VW X (.BoolOp .And [a] pos) Ta:=zul b
theorem qgi(b:VT X a Ta):VW X (.BoolOp .Or [a] pos) Ta:=xah b
theorem zqs(l:VT X a Ta)(m:VW X (.BoolOp .And (b::rest) pos) Tb):VW X (.BoolOp .And (a::b::rest) pos) (xfb Ta Tb):=(zyv l m).imp λu H R c=>by
 obtain⟨M,d,F,Q,I,h,k⟩:=c;refine⟨M,d,F,_,I,h,λx e n f g i j=>?_⟩;cases x with
 |true=>exact qyb ⟨M,f,e,Q,g,j,λy o p q r s t=>k y o p q r (i.trans s) t⟩
 |false=>exact zch (k false e n f g i j)
theorem qjn(l:VT X a Ta)(m:VW X (.BoolOp .Or (b::rest) pos) Tb):VW X (.BoolOp .Or (a::b::rest) pos) (wOr Ta Tb):=(xdi l m).imp λu H R c=>by
 obtain⟨M,d,F,Q,I,h,k⟩:=c;refine⟨M,d,F,_,I,h,λx e n f g i j=>?_⟩;cases x with
 |true=>exact qyb (k true e n f g i j)
 |false=>exact zch ⟨M,f,e,Q,g,j,λy o p q r s t=>k y o p q r (i.trans s) t⟩
theorem qbq(d:VT X a Ta):VT X (.UnaryOp .Not a pos) (xfq Ta):=(xan d).imp λm H R b=>by
 obtain⟨M,c,F,Q,I,h,k⟩:=b;exact⟨M,c,F,_,I,h,λx e f g i j l=>k (!x) e f g i j l⟩
def xby(b c:WE):WE:=λa Q=>b a λd e=>match d with |.bool k=>if k=true then c e Q else Q (.bool false) e|_=>False
def xgs(b c:WE):WE:=λa Q=>b a λd e=>match d with |.bool k=>if k=true then Q (.bool true) e else c e Q|_=>False
def xdc(b:WE):WE:=λa Q=>b a λd e=>match d with |.bool k=>Q (.bool (!k)) e|_=>False
theorem qhh{op}(h:VE X a Wa):VE X (.BoolOp op [a] pos) Wa:=zyg h
theorem qih(m:VE X a Wa)(n:VE X (.BoolOp .And (b::rest) pos) Wb):VE X (.BoolOp .And (a::b::rest) pos) (xby Wa Wb):=(zyu m n).imp λB H R c=>by
 obtain⟨M,e,F,Q,I,h,k⟩:=c;refine⟨M,e,F,_,I,h,λd v g o i j l p f=>?_⟩;cases d with
 |bool x =>
  refine⟨x,p.bl_inv,?_⟩;cases x with
  |true=>exact qyb ⟨M,i,g,Q,j,f,λq r s t u w y z A=>k q r s t u w (l.trans y) z A⟩
  |false=>exact zch (k _ _ g o i j l (qeu false) f)
 |_=>exact Zc f
theorem xbi(m:VE X a Wa)(n:VE X (.BoolOp .Or (b::rest) pos) Wb):VE X (.BoolOp .Or (a::b::rest) pos) (xgs Wa Wb):=(xbf m n).imp λB H R c=>by
 obtain⟨M,e,F,Q,I,h,k⟩:=c;refine⟨M,e,F,_,I,h,λd v g o i j l p f=>?_⟩;cases d with
 |bool x =>
  refine⟨x,p.bl_inv,?_⟩;cases x with
  |false=>exact zch ⟨M,i,g,Q,j,f,λq r s t u w y z A=>k q r s t u w (l.trans y) z A⟩
  |true=>exact qyb (k _ _ g o i j l (qeu true) f)
 |_=>exact Zc f
theorem zzx(f:VE X a Wa):VE X (.UnaryOp .Not a pos) (xdc Wa):=(zyb f).imp λo H R b=>by
 obtain⟨M,c,F,Q,I,h,k⟩:=b;refine⟨M,c,F,_,I,h,λd v g i j l m n e=>?_⟩;cases d with
 |bool x=>exact⟨x,n.bl_inv,k _ _ g i j l m (qeu _) e⟩
 |_=>exact Zc e
def xej(t:WT)(b c:WE):WE:=λa Q=>t a λk e=>if k=true then b e Q else c e Q
theorem qel(v:VT X c Tc)(w:VE X a Wa)(y:VE X b Wb):VE X (.IfExp c a b pos) (xej Tc Wa Wb):=(zmz v w y).imp λz H R d=>by
 obtain⟨M,e,F,Q,I,h,k⟩:=d;refine⟨M,e,F,_,I,h,λx q A r s t u=>?_⟩;cases x with
 |true=>exact qyb ⟨M,r,q,Q,s,u,λf g i j l m n o p=>k f g i j l m (t.trans n) o p⟩
 |false=>exact zch ⟨M,r,q,Q,s,u,λf g i j l m n o p=>k f g i j l m (t.trans n) o p⟩
end
section
variable{a b:Expr}{Wa Wb:WE}{pos p2:Pos}
def wUn(r:Qj->(Qj->Prop)->Prop)(W:WE):WE:=λa Q=>W a λd e=>r d λy=>Q y e
def xga:Qj->(Qj->Prop)->Prop
 |.int i,q=>q (.int (-i))
 |_,_=>False
theorem qes(f:VE X a Wa):VE X (.UnaryOp .USub a pos) (wUn xga Wa):=(zxe zri f).imp λp H R b=>by
 obtain⟨M,c,F,Q,I,h,k⟩:=b;refine⟨M,c,F,_,I,h,λd v g j l m n o e=>?_⟩;cases d with
 |int i=>exact⟨i,o.int_inv,k _ _ g j l m n (qZ _) e⟩
 |_=>exact Zc e
def dIx:D2
 |.list l,.int i,q =>∃d,atI l i=some d/\q d
 |.tuple l,.int i,q =>∃d,atI l i=some d/\q d
 |_,_,_=>False
theorem xfl:IxR X (zek X.K dIx):=zyh.imp λx y H Q b=>by
 obtain⟨F,t,o,q,s,p,r,h,k⟩:=b;cases t with
 |list l=>cases o with
  |int i =>
   obtain⟨d,e,c⟩:=h;obtain⟨a,f,rfl,g,j⟩:=p.lst_inv;obtain⟨z,m,n⟩:=j.atI e;exact .inl ⟨a,f,i,z,rfl,r.int_inv,s.seq g,m,k d z F H (.refl s) n c⟩
  |_=>exact Zc h
 |tuple l=>cases o with
  |int i =>
   obtain⟨d,e,c⟩:=h;obtain⟨a,f,rfl,g,j⟩:=p.tup_inv;obtain⟨z,m,n⟩:=j.atI e;exact .inr (.inl ⟨a,f,i,z,rfl,r.int_inv,qab s g,m,k d z F H (.refl s) n c⟩)
  |_=>exact Zc h
 |_=>exact Zc h
theorem qr(c:VE X a Wa)(d:VE X b Wb)(e:qyp b:=by exact(λ_ _=>rfl)):VE X (.Subscript a b pos) (wOp dIx Wa Wb):=(zlp xfl c d e).imp λ_ _ _ h=>qrz h
abbrev WO:=Sto->(Option Int->Sto->Prop)->Prop
def xbj(K:Qd)(W:WO):TO:=λc H R =>∃M b F Q,EnvOk K M F H b c/\W b Q /\ ∀o d e a,EnvOk K M d e a c->Same F d->Q o a->R o e
def zuh:WO:=λa Q=>Q none a
def xcq(W:WE):WO:=λa Q=>W a λd e=>match d with |.int i=>Q (some i) e|_=>False
def VO(X:Cx)(e:Option Expr)(W:WO):Prop:=PO X e (xbj X.K W)
theorem PO.imp(h:PO X e t)(i:∀a H Q,t' a H Q->t a H Q):PO X e t':=λb s a H Q I q=>h b s a H Q I (i a H Q q)
theorem qyw:VO X none zuh:=zsu.imp λc H R a=>by obtain⟨M,b,F,Q,I,h,k⟩:=a;exact k none F H b I (.refl _) h
theorem qfn(f:VE X a Wa):VO X (some a) (xcq Wa):=(zvt f).imp λp H R b=>by
 obtain⟨M,c,F,Q,I,h,k⟩:=b;refine⟨M,c,F,_,I,h,λd v g j l m n o e=>?_⟩;cases d with
 |int i=>exact⟨i,o.int_inv,k (some i) g j l m n e⟩
 |_=>exact Zc e
def qrl{a:Type}(ds:List a)(lo b:Option Int):List a:=(ds.drop (HT.sIx ds.length 0 lo)).take (HT.sIx ds.length ds.length b-HT.sIx ds.length 0 lo)
theorem zwd{K:Qd}(h:Iss K H l xs)(lo a:Option Int):Iss K H (qrl l lo a) (zhm xs lo a):=by
 have e:zhm xs lo a=(xs.drop (HT.sIx l.length 0 lo)).take (HT.sIx l.length l.length a-HT.sIx l.length 0 lo):=by unfold zhm;rw[h.len]
 rw[e];exact zbo _ (zbq _ h)
def xex(b:WE)(c e:WO):WF:=λa Q=>b a λd f=>c f λg h=>e h λi j=>match d with |.list l =>∀r,r=qrl l g i->Q r j|_=>False
theorem qhj{lo f:Option Expr}(he:VE X a Wa)(x:VO X lo Wl)(y:VO X f Wh):VF X (.Subscript a (.Slice lo f none p2) pos) (xex Wa Wl Wh) :=
 (zoi zty he x y).imp λU H R j=>by
  obtain⟨M,r,F,Q,I,h,k⟩:=j;refine⟨M,r,F,_,I,h,λd v A V B C D E G=>⟨M,B,A,_,C,G,λlo J W K L s N=>⟨M,K,J,_,L,N,λf O Y P c t u=>?_⟩⟩⟩;cases d with
  |list l =>
   obtain⟨a,w,rfl,S,T⟩:=(E.mono (s.trans t)).lst_inv;refine⟨a,w,rfl,c.fh.seq S,λp n=>?_⟩;have g:=Go.side (o:=HO.lst (zhm w lo f)) c.fh n;refine k p _ _ O _ P (c.go g) (D.trans (s.trans t)) qk (qB c.fh n) (qB c.bh n) (c.he n) (λi m z=>?_) (zwd T lo f) (u _ rfl);obtain⟨b,Z,e,q,_⟩:=(c.slot i).addr m;rw[z]at e;injection e with e;injection e with e;subst e;rw[n]at q;cases q
  |_=>exact Zc u
end
def wL(W:WF):WE:=λa Q=>W a λb e=>Q (.list b) e
theorem qC(h:VF X e W):VE X e (wL W):=h.imp λq H R b=>by
 obtain⟨M,c,F,Q,I,h,k⟩:=b;refine⟨M,c,F,_,I,h,λa r t u d f g i j l v m n o p=>?_⟩;obtain⟨J,s⟩:=g.frz j l m n;exact k _ _ _ d f J (i.trans s) (qeq (SqL.of qk) (o.mono s)) p
theorem qom{K:Qd}(I:EnvOk K M F H env σ)(a:H p=none):∀i,(gS env i).mut=true->vS σ i≠some (.ref p):=λi m z=>by
 obtain⟨b,c,e,q,_⟩:=(I.slot i).addr m;rw[z]at e;injection e with e;injection e with e;grind
theorem qnm{K:Qd}{R:VK}{Q:List Qj->Sto->Prop}(I:EnvOk K M F H env σ)(s:Same F0 F)(f:Iss K F l xs)(h:Q l env)(k:∀a vs ds d e b,EnvOk K M d e b σ->Same F0 d->e a=some (.lst vs)->d a=none->M.B a=none->M.He a=none->(∀i,(gS b i).mut=true->vS σ i≠some (.ref a))->Iss K d ds vs->Q ds b->R (.ref a) e):
 ∀p,H p=none->R (.ref p) (upd H p (.lst xs)):=λp c =>
  k p xs l F _ env (I.go (.side I.fh c)) s qk (qB I.fh c) (qB I.bh c) (I.he c) (qom I c) f h
section
variable{e:Expr}{es:List Expr}{W:WE}{Wr:WF}{pos:Pos}
def xfw:WF:=λa Q=>Q [] a
def xbl(W:WE)(b:WF):WF:=λa Q=>W a λd c=>b c λe f=>Q (d::e) f
theorem qe:VA X [] xfw:=qbe.imp λc H R a=>by obtain⟨M,b,F,Q,I,h,k⟩:=a;exact k [] [] F H b I (.refl _) qah h
theorem qd(c:VE X e W)(f:VA X es Wr)(g:Qu (e::es) X.env=(false,eval e X.env)::Qu es X.env:=by rfl):VA X (e::es) (xbl W Wr) :=
 (qM c f g).imp λy H R a=>by obtain⟨M,env,F,Q,I,h,k⟩:=a;exact⟨M,env,F,_,I,h,λd v i z j l m n o=>⟨M,j,i,_,l,o,λp q r s t u b w x=>k (d::p) (v::q) r s t u (m.trans b) (qG (n.mono b) w) x⟩⟩
def xgj(c:WF):WE:=λa Q=>c a λb e=>b.length<=Q4/\Q (.tuple b) e
theorem qck{x1}(h:VA X es Wr):VE X (.Tuple es x1 pos) (xgj Wr):=(qzz h).imp λm H R a=>by
 obtain⟨M,b,F,Q,I,h,k⟩:=a;refine⟨M,b,F,_,I,h,λn f q r i c j d e=>⟨by rw[d.len];exact e.1,λp l=>?_⟩⟩;have g:=Go.put (o:=HO.tup f) c.fh l;exact k _ _ _ _ i (c.go g) (j.trans g.f) (qqb (SqT.of qk) (d.mono g.f)) e.2
def xgy(c:WF):WF:=λa Q=>c a λb e=>b.length<=Q4/\Q b e
theorem qbp(h:VA X es Wr):VF X (.List es pos) (xgy Wr):=(zrh h).imp λg H R a=>by
 obtain⟨M,b,F,Q,I,h,k⟩:=a;exact⟨M,b,F,_,I,h,λi j l m n e f c d=>⟨by rw[c.len];exact d.1,qnm e f c d.2 k⟩⟩
end
def dI2(g:Int->Int->(Qj->Prop)->Prop):D2
 |.int i,.int j,q=>g i j q
 |_,_,_=>False
theorem zxg(h:dI2 g x y q):∃i j,x = .int i/\y = .int j/\g i j q:=by
 cases x with
 |int i=>cases y with
  |int j=>exact⟨i,j,rfl,rfl,h⟩
  |_=>exact Zc h
 |_=>exact Zc h
theorem zlq{g:Int->Int->Qj}(h:OpR X f (rI C gv))(b:∀i j F,Is X.K F (g i j) (gv i j)):OpV X f (dI2 λi j q=>C i j/\q (g i j)):=h.imp λx y H Q a=>by
 obtain⟨F,m,n,q,s,d,e,h,k⟩:=a;obtain⟨i,j,rfl,rfl,c,l⟩:=zxg h;exact⟨i,j,d.int_inv,e.int_inv,c,k _ _ F H (.refl s) (b i j F) l⟩
theorem qus{g:Int->Int->Qj}(h:OpR X f (rI0 gv))(b:∀i j F,Is X.K F (g i j) (gv i j)):OpV X f (dI2 λi j q=>q (g i j)):=h.imp λx y H Q a=>by
 obtain⟨F,l,m,q,s,c,d,h,k⟩:=a;obtain⟨i,j,rfl,rfl,e⟩:=zxg h;exact⟨i,j,c.int_inv,d.int_inv,k _ _ F H (.refl s) (b i j F) e⟩
abbrev xei:D2:=dI2 λi j q=>q (.int (i-j))
abbrev xdk:D2:=dI2 λi j q=>IntMulOk i j/\q (.int (i*j))
abbrev xca:D2:=dI2 λi j q=>zxr i j/\q (.int (i.fdiv j))
abbrev xfv:D2:=dI2 λi j q=>(0<j/\Qbl j<=9000)/\q (.int (i/j))
abbrev xfd:D2:=dI2 λi j q=>0<j/\q (.int (i%j))
abbrev dLt:D2:=dI2 λi j q=>q (.bool (decide (i<j)))
abbrev dLe:D2:=dI2 λi j q=>q (.bool (decide (i<=j)))
abbrev dGt:D2:=dI2 λi j q=>q (.bool (decide (j<i)))
abbrev dGe:D2:=dI2 λi j q=>q (.bool (decide (j<=i)))
theorem zly:OpV X (Je .Sub) xei:=qus xaa λ_ _ _=>qZ _
theorem qR:OpV X (Je .Mult) xdk:=zlq zsz λ_ _ _=>qZ _
theorem zqk:OpV X (Je .FloorDiv) xca:=zlq zcp λ_ _ _=>qZ _
theorem zuq:OpR X (Je .FloorDiv) (rI (λ_ j=>0<j/\Qbl j<=9000) λi j => .int (i/j)):=zcp.imp λx y H Q a=>by
 obtain⟨i,j,b,d,c,q⟩:=a;exact⟨i,j,b,d,⟨by have:=c.1;lia,c.2⟩,by show Q (V.int (i.fdiv j)) H;rw[Int.fdiv_eq_ediv_of_nonneg _ (Jh c.1)];exact q⟩
theorem qjo:OpV X (Je .FloorDiv) xfv:=zlq zuq λ_ _ _=>qZ _
theorem qkz:OpV X (Je .Mod) xfd:=zlq zyz λ_ _ _=>qZ _
theorem zes:OpV X (Yo .Lt) dLt:=qus xbn λ_ _ _=>qeu _
theorem zrw:OpV X (Yo .LtE) dLe:=qus xci λ_ _ _=>qeu _
theorem zeb:OpV X (Yo .Gt) dGt:=qus xde λ_ _ _=>qeu _
theorem xas:OpV X (Yo .GtE) dGe:=qus xch λ_ _ _=>qeu _
def dEq:D2:=λd e q=>Jg d=true/\Jg e=true/\q (.bool (Vh d e))
def dNe:D2:=λd e q=>Jg d=true/\Jg e=true/\q (.bool (!PyData.eqv d e))
theorem qni(b:X.A.units+64<cLine):OpV X (Yo .Eq) dEq:=(zyr b).imp λx y H Q a=>by
 obtain⟨F,c,d,q,s,e,f,h,k⟩:=a;exact⟨c,d,e.mono s,f.mono s,h.1,h.2.1,k _ _ F H (.refl s) (qeu _) h.2.2⟩
theorem zme(b:X.A.units+64<cLine):OpV X (Yo .NotEq) dNe:=(zzp b).imp λx y H Q a=>by
 obtain⟨F,c,d,q,s,e,f,h,k⟩:=a;exact⟨c,d,e.mono s,f.mono s,h.1,h.2.1,k _ _ F H (.refl s) (qeu _) h.2.2⟩
def qbu:Qj->Bool
 |.none=>true
 |_=>false
def xer:D2:=λd e q=>e = .none/\q (.bool (qbu d))
def xbb:D2:=λd e q=>e = .none/\q (.bool (!qbu d))
theorem qok{K:Qd}(h:Is K F d x):decide (x = .non)=qbu d:=by
 cases d with
 |none=>rw[h.non_inv];rfl
 |bool b=>rw[h.bl_inv];rfl
 |int b=>rw[h.int_inv];rfl
 |str b=>rw[h];rfl
 |list l=>obtain⟨a,c,rfl,_⟩:=h.lst_inv;rfl
 |tuple l=>obtain⟨a,c,rfl,_⟩:=h.tup_inv;rfl
 |dict l=>obtain⟨a,rfl,_⟩:=h.dct_inv;rfl
theorem qqy:OpV X (Yo .Is) xer:=zyd.imp λx y H Q a=>by
 obtain⟨F,e,f,q,s,b,c,h,k⟩:=a;obtain⟨rfl,d⟩:=h;exact⟨c.non_inv,by rw[qok b];exact k _ _ F H (.refl s) (qeu _) d⟩
theorem qzw:OpV X (Yo .IsNot) xbb:=zth.imp λx y H Q a=>by
 obtain⟨F,e,f,q,s,b,c,h,k⟩:=a;obtain⟨rfl,d⟩:=h;exact⟨c.non_inv,by rw[qok b];exact k _ _ F H (.refl s) (qeu _) d⟩
def xeo:D2
 |.int i,.int j,q=>q (.int (i+j))
 |.list l,.list m,q=>l.length+m.length<=Q4/\q (.list (l++m))
 |.tuple l,.tuple m,q=>l≠[]/\l.length+m.length<=Q4/\q (.tuple (l++m))
 |.str x,.str y,q=>x.length+y.length<=Q4/\q (.str (x++y))
 |_,_,_=>False
theorem qdn:OpV X (Je .Add) xeo:=by
 rintro c s w H x y v u Q I A B ⟨F,K,C,q,d,n,D,h,k⟩;cases K with
 |int i=>cases C with
  |int j=>exact zza c s w H x y v u Q I A B ⟨i,j,n.int_inv,D.int_inv,k _ _ F H (.refl d) (qZ _) h⟩
  |_=>exact Zc h
 |list l=>cases C with
  |list m =>
   obtain⟨a,r,rfl,E,e⟩:=n.lst_inv;obtain⟨b,t,rfl,G,f⟩:=D.lst_inv;refine zgl c s w H _ _ v u Q I A B ⟨a,b,r,t,rfl,rfl,d.seq E,d.seq G,by rw[e.len,f.len];exact h.1,λp J=>?_⟩;have g:=Go.put (o:=HO.lst (r++t)) d J;exact k _ _ _ _ g (qeq (SqL.of qk) ((qbb e f).mono g.f)) h.2
  |_=>exact Zc h
 |tuple l=>cases C with
  |tuple m =>
   obtain⟨a,r,rfl,E,e⟩:=n.tup_inv;obtain⟨b,t,rfl,G,f⟩:=D.tup_inv;refine zue c s w H _ _ v u Q I A B ⟨a,b,r,t,rfl,rfl,qab d E,qab d G,λz=>h.1 (Qfm.mp (by rw[<- e.len,z];rfl)),by rw[e.len,f.len];exact h.2.1,λz=>?_,λ_ p J=>?_⟩
   ·have L:=Qfm.mp (by rw[<- f.len,z];rfl);subst L;refine k _ _ F H (.refl d) n ?_;have:=h.2.2;grind
   ·have g:=Go.put (o:=HO.tup (r++t)) d J;exact k _ _ _ _ g (qqb (SqT.of qk) ((qbb e f).mono g.f)) h.2.2
  |_=>exact Zc h
 |str M=>cases C with
  |str N =>
   exact zff c s w H x y v u Q I A B ⟨M,N,n,D,h.1,k _ _ F H (.refl d) (zfy _) h.2⟩
  |_=>exact Zc h
 |_=>exact Zc h
def xfx(b c:WE):WF:=λa Q=>b a λx d=>c d λy e=>match x,y with
 |.list l,.list m=>l.length+m.length<=Q4/\Q (l++m) e
 |_,_=>False
theorem qpu(o:VE X a Wa)(p:VE X b Wb):VF X (.BinOp a .Add b pos) (xfx Wa Wb):=(zsd zgl o p).imp λD H R c=>by
 obtain⟨M,f,F,Q,I,h,k⟩:=c;refine⟨M,f,F,_,I,h,λd v q E r s t u w=>⟨M,r,q,_,s,w,λx G J K L g i y e=>?_⟩⟩;cases d with
 |list l=>cases x with
  |list m =>
   obtain⟨a,z,rfl,A,j⟩:=(u.mono i).lst_inv;obtain⟨b,B,rfl,C,n⟩:=y.lst_inv;exact⟨a,b,z,B,rfl,rfl,g.fh.seq A,g.fh.seq C,by rw[j.len,n.len];exact e.1,qnm g (t.trans i) (qbb j n) e.2 k⟩
  |_=>exact Zc e
 |_=>exact Zc e
def xfe(b:WF)(c:WE):WF:=λa Q=>b a λl d=>c d λy e=>match y with
 |.int n=>(-(2^63)<=n/\n<2^63/\l.length*n.toNat<=Q4) /\ ∀r,r=(Zf n.toNat l).flatten->Q r e
 |_=>False
theorem zgm{K:Qd}(h:Iss K H l xs):∀k:Nat,Iss K H (Zf k l).flatten (Zf k xs).flatten
 |0=>by simpa using qah
 |k+1=>by rw[Va,Va,Ju,Ju];exact qbb h (zgm h k)
theorem EnvOk.keep{K:Qd}(I:EnvOk K M F H env σ)(h:H a=some o)(y:∀i,(gS env i).mut=true->vS σ i≠some (.ref a))(A:M.B a=none)(B:F a=none)(D:∀g,o≠.dK g:=by intro _ z;cases z):
 EnvOk K ⟨upd M.B a o,M.He,M.F0⟩ F H env σ where
 len:=I.len
 slot:=λi=>by
  have S:=I.slot i;have n:=y i;cases q:gS env i with
  |non=>trivial
  |val d=>rw[q]at S;exact S
  |own E =>
   rw[q]at S n;obtain⟨b,k,e,c,g2,l,m,r⟩:=S;have p:b≠a:=λz=>by subst z;exact n rfl e
   exact⟨b,k,e,c,g2,by show upd M.B a o b=none;rw[qi p];exact l,m,r⟩
  |pen E =>
   rw[q]at S n;obtain⟨b,k,e,c,g2,l,G,r⟩:=S;have p:b≠a:=λz=>by subst z;exact n rfl e
   exact⟨b,k,e,c,g2,by show upd M.B a o b=none;rw[qi p];exact l,G,r⟩
  |new d =>
   rw[q]at S;obtain⟨v,e,j⟩:=S;refine⟨v,e,j.mono λb u J=>?_⟩;obtain⟨L,N,s⟩:=qtm J;have p:b≠a:=λz=>by subst z;rw[B]at s;cases s
   exact .of (qqx (M:=⟨upd M.B a o,M.He,M.F0⟩) L (by show upd M.B a o b=none;rw[qi p];exact N) s)
  |exc C=>rw[q]at S;exact S
  | «at» v=>rw[q]at S;exact S
  |obj x C P fs =>
   rw[q]at S;obtain⟨t,k,e,c,g2⟩:=S;exact⟨t,k,e,by show upd M.B a o x=_;rw[qi (qu c A)];exact c,g2⟩
  |dsk O x w C f Q =>
   rw[q]at S;obtain⟨t,g,e,c,g2,l,m⟩:=S;have ne:w≠a:=λz=>by rw[z,h]at g2;exact D _ (Qr g2)
   refine⟨t,g,e,c,g2,l,?_⟩;cases O with
   |true=>exact⟨m.1,by show upd M.B a o w=none;rw[qi ne];exact m.2⟩
   |false=>show upd M.B a o w=_;rw[qi ne];exact m
 dis:=I.dis
 f0:=I.f0
 fe:=I.fe
 fh:=I.fh
 bh:=λb u e=>by
  have e:upd M.B a o b=some u:=e;by_cases z:b=a
  ·subst z;rw[qk]at e;exact .of (by rw[<- e];exact h)
  ·rw[qi z]at e;exact I.bh b u e
 new:=I.new
 dom:=I.dom
theorem EnvOk.unkeep{K:Qd}{M:Frm}(I:EnvOk K ⟨upd M.B a o,M.He,M.F0⟩ F H env σ)(r:M.B a=none)(s:∀C dx vs,o≠.ins C dx vs:=by intro _ _ _ z;cases z)(t:NoT o:=by trivial)(w:∀h,o≠.dK h:=by intro _ z;cases z):EnvOk K M F H env σ/\H a=some o:=by
 have l:∀b,upd M.B a o b=none->M.B b=none:=λb e=>by
  by_cases z:b=a
  ·subst z;exact r
  ·rw[qi z]at e;exact e
 refine⟨⟨I.len,λi=>?_,I.dis,I.f0,I.fe,I.fh,λb u e=>?_,I.new,I.dom⟩,I.bh.at qk t⟩
 ·have S:=I.slot i;cases q:gS env i with
  |non=>trivial
  |val d=>rw[q]at S;exact S
  |own x=>rw[q]at S;obtain⟨b,vs,e,c,g2,k,g,m⟩:=S;exact⟨b,vs,e,c,g2,l b k,g,m⟩
  |pen x=>rw[q]at S;obtain⟨b,vs,e,c,g2,k,y,m⟩:=S;exact⟨b,vs,e,c,g2,l b k,y,m⟩
  |new d =>
   rw[q]at S;obtain⟨v,e,j⟩:=S;refine⟨v,e,j.mono λb u A=>?_⟩;obtain⟨B,D,E⟩:=qtm A;exact .of (qqx (M:=M) B (l b D) E)
  |exc C=>rw[q]at S;exact S
  | «at» v=>rw[q]at S;exact S
  |obj n C J fs =>
   rw[q]at S;obtain⟨dx,vs,e,c,g2⟩:=S;have c:upd M.B a o n=some (.ins C dx vs):=c;by_cases z:n=a
   ·subst z;rw[qk]at c;exact(s C dx vs (Qr c)).elim
   ·rw[qi z]at c;exact⟨dx,vs,e,c,g2⟩
  |dsk G n p C f L =>
   rw[q]at S;obtain⟨dx,h,e,c,g2,k,g⟩:=S;refine⟨dx,h,e,c,g2,k,?_⟩;cases G with
   |true=>exact⟨g.1,l p g.2⟩
   |false =>
    have g:upd M.B a o p=some (.dK h):=g;by_cases z:p=a
    ·rw[z,qk]at g;exact(w _ (Qr g)).elim
    ·rw[qi z]at g;exact g
 ·exact I.bh b u (by show upd M.B a o b=some u;rw[qi (qu e r)];exact e)
theorem zre(j:VF X a Wa)(m:VE X b Wb):VF X (.BinOp a .Mult b pos) (xfe Wa Wb):=(zsd zzh j m).imp λJ H R c=>by
 obtain⟨M,d,F,Q,I,h,k⟩:=c;refine⟨M,d,F,_,I,h,λp o l q K r s t u g2 e L v f w=>⟨_,r,q,_,s.keep u v e g2,w,λx N O P S y g z i=>?_⟩⟩;obtain⟨A,B⟩:=y.unkeep e;cases x with
 |int n =>
  obtain⟨⟨C,D,E⟩,G⟩:=i;exact⟨p,n,o,rfl,z.int_inv,B,C,D,by rw[f.len];exact E,qnm A (t.trans g) (zgm (f.mono g) n.toNat) (G _ rfl) k⟩
 |_=>exact Zc i
section
variable{x:Str}{p pos:Pos}{e:Expr}{es:List Expr}{Wr:WF}{id T:String}{r:DC}{rf:List Qj->(List Qj->Prop)->Prop}
def zep(r:DC)(b:WF):WE:=λa Q=>b a λc e=>r c λd=>Q d e
def zad(r:List Qj->(List Qj->Prop)->Prop)(b:WF):WF:=λa Q=>b a λc e=>r c λl=>Q l e
theorem qnt(h:qcq X.K (zep r Wr) σ H R):qlg X.K Wr σ H λvs b=>zlu X.K r vs b R:=by
 obtain⟨M,a,F,Q,I,h,k⟩:=h;exact⟨M,a,F,_,I,h,λe vs f b i c j l m=>⟨f,e,_,c.fh,l,m,λd v n o g p q=>k d v n o i (c.go g) (j.trans g.f) p q⟩⟩
theorem qlc(h:zds X.K (zad rf Wr) σ H R):qlg X.K Wr σ H λvs e=>zaa X.K rf vs e R:=by
 obtain⟨M,c,F,Q,I,h,k⟩:=h;refine⟨M,c,F,_,I,h,λf vs i e j b m n o=>⟨i,f,_,b.fh,n,o,λl a p r s g d t u v q=>?_⟩⟩;exact k a p l r s j (b.go g) (m.trans g.f) u t (qB b.bh d) (b.he d) (qom b d) v q
theorem qA(c:qlb X (.builtin id) r)(d:X.mg x=none)(f:Zl x=some (.builtin id))(g:VA X (e::es) Wr)(i:Gl X x:=by rfl)(j:x ≠ "__name__":=by decide)(a:Nd0 x:=by decide)(he:Qu (e::es) X.env=(false,eval e X.env)::Qu es X.env:=by rfl)(b:(V5 pos (Qu es X.env)).any (·.1)=false:=by rfl):VE X (.Call (.Name x p) (e::es) [] pos) (zep r Wr) :=
 (qjh c i d f g j a he b).imp λ_ _ _ h=>qnt h
theorem qch(c:qlb X (.type T) r)(d:X.mg x=none)(f:Zl x=some (.type T))(g:VA X (e::es) Wr)(i:Gl X x:=by rfl)(j:x ≠ "__name__":=by decide)(a:Nd0 x:=by decide)(he:Qu (e::es) X.env=(false,eval e X.env)::Qu es X.env:=by rfl)(b:(V5 pos (Qu es X.env)).any (·.1)=false:=by rfl):VE X (.Call (.Name x p) (e::es) [] pos) (zep r Wr) :=
 (qhb c i d f g j a he b).imp λ_ _ _ h=>qnt h
theorem zob(c:qvc X (.builtin id) rf)(d:X.mg x=none)(f:Zl x=some (.builtin id))(g:VA X (e::es) Wr)(i:Gl X x:=by rfl)(j:x ≠ "__name__":=by decide)(a:Nd0 x:=by decide)(he:Qu (e::es) X.env=(false,eval e X.env)::Qu es X.env:=by rfl)(b:(V5 pos (Qu es X.env)).any (·.1)=false:=by rfl):VF X (.Call (.Name x p) (e::es) [] pos) (zad rf Wr) :=
 (qjh c i d f g j a he b).imp λ_ _ _ h=>qlc h
theorem zkx(c:qvc X (.type T) rf)(d:X.mg x=none)(f:Zl x=some (.type T))(g:VA X (e::es) Wr)(i:Gl X x:=by rfl)(j:x ≠ "__name__":=by decide)(a:Nd0 x:=by decide)(he:Qu (e::es) X.env=(false,eval e X.env)::Qu es X.env:=by rfl)(b:(V5 pos (Qu es X.env)).any (·.1)=false:=by rfl):VF X (.Call (.Name x p) (e::es) [] pos) (zad rf Wr) :=
 (qhb c i d f g j a he b).imp λ_ _ _ h=>qlc h
def PSp(K:Qd)(sp:DC):Sp:=λa H Q _=>zlu K sp a H Q
def FSp(K:Qd)(sp:List Qj->(List Qj->Prop)->Prop):Sp:=λa H Q _=>zaa K sp a H Q
theorem qt(O:OkC X x k ps (PSp X.K sp))(d:Room k X.A)(f:VA X (e::es) Wr)(g:Gl X x:=by rfl)(a:Nd0 x:=by decide)(he:Qu (e::es) X.env=(false,eval e X.env)::Qu es X.env:=by rfl)(b:(V5 pos (Qu es X.env)).any (·.1)=false:=by rfl):VE X (.Call (.Name x p) (e::es) [] pos) (zep sp Wr) :=
 (zlv O d f g a he b).imp λc H R h=>by
  have e:qvj (PSp X.K sp) [] E0 (qlg X.K Wr) c H R=qlg X.K Wr c H λi j=>zlu X.K sp i j R:=by unfold qvj PSp;grind
  grind[qnt]
theorem qcp(O:OkC X x k ps (FSp X.K sp))(d:Room k X.A)(f:VA X (e::es) Wr)(g:Gl X x:=by rfl)(a:Nd0 x:=by decide)(he:Qu (e::es) X.env=(false,eval e X.env)::Qu es X.env:=by rfl)(b:(V5 pos (Qu es X.env)).any (·.1)=false:=by rfl):VF X (.Call (.Name x p) (e::es) [] pos) (zad sp Wr) :=
 (zlv O d f g a he b).imp λc H R h=>by
  have e:qvj (FSp X.K sp) [] E0 (qlg X.K Wr) c H R=qlg X.K Wr c H λi j=>zaa X.K sp i j R:=by unfold qvj FSp;grind
  grind[qlc]
end
def xfu:DC
 |[.int i],q=>q (.int (if i<0 then -i else i))
 |_,_=>False
def xbt:DC
 |[.int i,.int j],q=>q (.int (if j>i then j else i))
 |_,_=>False
def xbq:DC
 |[.int i,.int j],q=>q (.int (if j<i then j else i))
 |_,_=>False
def xec:DC
 |[.list l],q=>q (.int l.length)
 |[.tuple l],q=>q (.int l.length)
 |[.str x],q=>x.length<=Q4/\q (.int x.length)
 |_,_=>False
theorem qoe{K:Qd}(h:Iss K H [d] vs):∃v,vs=[v]/\Is K H d v:=by
 obtain⟨x,r,rfl,p,q⟩:=h.cons_inv;rw[q.nil_inv];grind
theorem xee{K:Qd}(h:Iss K H [d,e] vs):∃v u,vs=[v,u]/\Is K H d v/\Is K H e u:=by
 obtain⟨x,r,rfl,p,q⟩:=h.cons_inv;grind[qoe]
theorem zwx:qlb X (.builtin "abs") xfu:=zmp.imp λc H Q a=>by
 obtain⟨F,b,q,s,i,h,k⟩:=a
 match b,h,i with
 |[.int n],h,i =>
  obtain⟨v,rfl,j⟩:=qoe i;exact⟨n,by rw[j.int_inv],k _ _ F H (.refl s) (qZ _) h⟩
theorem zxv(b:X.calm=true):qlb X (.builtin "max") xbt:=(ziz b).imp λe H Q a=>by
 obtain⟨F,c,q,s,i,h,k⟩:=a
 match c,h,i with
 |[.int n,.int m],h,i =>
  obtain⟨v,u,rfl,j,d⟩:=xee i;exact⟨n,m,by rw[j.int_inv,d.int_inv],k _ _ F H (.refl s) (qZ _) h⟩
theorem zzm(b:X.calm=true):qlb X (.builtin "min") xbq:=(zkz b).imp λe H Q a=>by
 obtain⟨F,c,q,s,i,h,k⟩:=a
 match c,h,i with
 |[.int n,.int m],h,i =>
  obtain⟨v,u,rfl,j,d⟩:=xee i;exact⟨n,m,by rw[j.int_inv,d.int_inv],k _ _ F H (.refl s) (qZ _) h⟩
theorem qdh:qlb X (.builtin "len") xec:=(qlr.or qxw).imp λc H Q b=>by
 obtain⟨F,f,q,s,i,h,k⟩:=b
 match f,h,i with
 |[.list l],h,i =>
  obtain⟨v,rfl,j⟩:=qoe i;obtain⟨a,c,rfl,d,e⟩:=j.lst_inv;exact .inl ⟨a,c,rfl,.inl (s.seq d),k _ _ F H (.refl s) (by rw[e.len];exact qZ _) h⟩
 |[.tuple l],h,i =>
  obtain⟨v,rfl,j⟩:=qoe i;obtain⟨a,c,rfl,d,e⟩:=j.tup_inv;exact .inl ⟨a,c,rfl,.inr (qab s d),k _ _ F H (.refl s) (by rw[e.len];exact qZ _) h⟩
 |[.str z],h,i =>
  obtain⟨v,rfl,j⟩:=qoe i;subst j;exact .inr ⟨z,rfl,h.1,k _ _ F H (.refl s) (qZ _) h.2⟩
def xaj:List Qj->(List Qj->Prop)->Prop
 |[.list l],q=>q l
 |[.tuple l],q=>q l
 |_,_=>False
theorem zzd:qvc X (.type "list") xaj:=qxs.imp λd H Q b=>by
 obtain⟨F,g,q,s,i,h,k⟩:=b
 match g,h,i with
 |[.list l],h,i =>
  obtain⟨v,rfl,j⟩:=qoe i;obtain⟨a,d,rfl,e,f⟩:=j.lst_inv;exact⟨a,d,rfl,.inl (s.seq e),λp c=>k l p d F _ (.side s c) c (qB s c) qk f h⟩
 |[.tuple l],h,i =>
  obtain⟨v,rfl,j⟩:=qoe i;obtain⟨a,d,rfl,e,f⟩:=j.tup_inv;exact⟨a,d,rfl,.inr (qab s e),λp c=>k l p d F _ (.side s c) c (qB s c) qk f h⟩
def zxw:DC
 |[.list l],q=>q (.tuple l)
 |[.tuple l],q=>q (.tuple l)
 |_,_=>False
theorem qfq:qlb X (.type "tuple") zxw:=qjw.imp λc H Q b=>by
 obtain⟨F,f,q,s,i,h,k⟩:=b
 match f,h,i with
 |[.list l],h,i =>
  obtain⟨v,rfl,j⟩:=qoe i;obtain⟨a,c,rfl,d,e⟩:=j.lst_inv;refine⟨a,c,rfl,.inl ⟨s.seq d,λp m=>?_⟩⟩;have g:=Go.put (o:=HO.tup c) s m;exact k _ _ _ _ g (qqb (SqT.of qk) (e.mono g.f)) h
 |[.tuple l],h,i =>
  obtain⟨v,rfl,j⟩:=qoe i;obtain⟨a,c,rfl,d,e⟩:=j.tup_inv;exact⟨a,c,rfl,.inr ⟨qab s d,k _ _ F H (.refl s) j h⟩⟩
section
variable{a b c e o:Expr}{W Wa Wb:WE}{Tc:WT}{pos pos':Pos}{st:Stmt}{sts rest:List Stmt}{Wt Wu:WS}{WfF:WF}
def xbc:WS:=λD a=>D.nx a
def xew(t u:WS):WS:=λD a=>t { D with nx:=u D } a
def xfk(t u:WS):WS:=λD a =>∃b:Sto->Prop,t { D with nx:=b } a /\ ∀e,b e->u D e
def zyn:WS:=λ_ _=>False
theorem qE:VSs X [] xbc:=qyk.imp λD c H a=>by obtain⟨M,b,F,d,I,h,k⟩:=a;exact k.nx b F H c I (.refl _) h
theorem qh(h:VS X st Wt):VSs X [st] Wt:=qei h
theorem qg(d:VS X st Wt)(e:VSs X rest Wu):VSs X (st::rest) (xew Wt Wu):=(qW d e).imp λD n H a=>by
 obtain⟨M,b,F,c,I,h,k⟩:=a;exact⟨M,b,F,{ c with nx:=Wu c },I,h,λf g o i j l m=>⟨M,f,g,c,j,m,k.mono l⟩,k.rt,k.bk,k.ct⟩
theorem qqr(e:VS X st Wt)(f:VSs X rest Wu):VSs X (st::rest) (xfk Wt Wu):=(qW e f).imp λD p H a=>by
 obtain⟨M,b,F,c,I,⟨g,h,i⟩,k⟩:=a;exact⟨M,b,F,{ c with nx:=g },I,h,λd j q l m n o=>⟨M,d,j,c,m,i d o,k.mono n⟩,k.rt,k.bk,k.ct⟩
theorem qbw:VSs X sts zyn:=zlh.imp λD c H a=>by obtain⟨M,b,F,d,I,h,k⟩:=a;exact h.elim
def wFz(i:Nat)(t:WS):WS:=λD a=>t D (a.set i (gS a i).fz)
theorem quz(i:Nat)(h:VSs X sts Wt):VSs X sts (wFz i Wt):=h.imp λD e H a=>by
 obtain⟨M,b,F,c,I,h,k⟩:=a;obtain⟨d,J,s⟩:=I.freeze i;exact⟨M,_,d,c,J,h,k.mono s⟩
def xba(W:WE):WS:=λD a=>W a λ_ e=>D.nx e
theorem qdv(he:VE X e W)(b:Jz e none pos.line X.env=pure false:=by rfl):VS X (.Expr e pos) (xba W):=(qko he b).imp λD c H a=>by
 obtain⟨M,env,F,n,I,h,k⟩:=a;exact⟨M,env,F,_,I,h,λd v f g i j l o m=>k.nx i f g c j l m⟩
def xgf(W:WE):WS:=λD a=>W a λd e=>D.rt (.val d) e
theorem qw(he:VE X e W):VS X (.Return (some e) pos) (xgf W):=(qkr he).imp λD c H a=>by
 obtain⟨M,b,F,o,I,h,k⟩:=a;exact⟨M,b,F,_,I,h,λd v f g i j l m n=>k.rt (.val d) v i f g c j l m n⟩
def xcs(W:WF):WS:=λD a=>W a λl e=>D.rt (.own l) e
theorem qem(he:VF X e WfF):VS X (.Return (some e) pos) (xcs WfF):=(qkr he).imp λD c H a=>by
 obtain⟨M,b,F,t,I,h,k⟩:=a;exact⟨M,b,F,_,I,h,λp d l f g i j m n g2 o q u r s=>k.rt (.own l) _ i f g c j m ⟨p,d,rfl,n,g2,o,q,r⟩ s⟩
def zxb(i:Nat):WS:=λD a=>match gS a i with |.own ds=>D.rt (.own ds) a|_=>False
theorem qgv(i:Nat){f:Pos}(g:X.N[i]?=some x:=by rfl)(j:Vis X.env.scope x:=by first|exact Vn rfl|exact Y3 (Vn rfl)|exact Y3 (Y3 rfl))(hd:Nd0 x:=by decide)(b:Nd1 x:=by decide):VS X (.Return (some (.Name x f)) pos) (zxb i):=(qkr (qer g j hd b)).imp λD l H a=>by
 obtain⟨M,env,F,t,I,h,k⟩:=a;have S:=I.slot i;unfold zxb at h;cases q:gS env i with
 |own c =>
  rw[q]at S h;obtain⟨p,m,e,n,g2,o,r,s⟩:=S;exact⟨_,qdw e,k.rt (.own c) _ env F H l I (.refl _) ⟨p,m,rfl,n,g2,o,r,s⟩ h⟩
 |non=>rw[q]at h;exact h.elim
 |val d=>rw[q]at h;exact h.elim
 |pen c=>rw[q]at h;exact h.elim
 |new d=>rw[q]at h;exact h.elim
 |exc C=>rw[q]at h;exact h.elim
 | «at» v=>rw[q]at h;exact h.elim
 |dsk _ _ _ _ _ _=>rw[q]at h;exact h.elim
 |obj u C w fs=>rw[q]at h;exact h.elim
def wIf(b:WT)(t u:WS):WS:=λD a=>b a λk e=>if k=true then t D e else u D e
theorem qar(l:VT X c Tc)(m:VSs X A Wt)(n:VSs X B Wu):VS X (.If c A B pos) (wIf Tc Wt Wu):=(zsg l m n).imp λD o H a=>by
 obtain⟨M,b,F,d,I,h,k⟩:=a;refine⟨M,b,F,_,I,h,λx e p f g i j=>?_⟩;cases x with
 |true=>exact qyb ⟨M,f,e,d,g,j,k.mono i⟩
 |false=>exact zch ⟨M,f,e,d,g,j,k.mono i⟩
def xaw(i:Nat)(W:WE):WS:=λD a=>W a λd e=>D.nx (e.set i (.val d))
theorem qz(b:X.N.Nodup)(he:VE X e W)(c:X.N[i]?=some x:=by rfl)(f:Loc X.env.scope x:=by first|exact Vn rfl|exact Y3 rfl)(g:Jz e (some (.Name x pos')) pos.line X.env=pure false:=by rfl)(j:X.fn x=true\/X.env.scope.names.lookup x=some .local:=by first|exact .inl rfl|exact .inr rfl):VS X (.Assign [.Name x pos'] e pos) (xaw i W):=(qge b c f he g j).imp λD r H a=>by
 obtain⟨M,env,F,s,I,h,k⟩:=a;exact⟨M,env,F,_,I,h,λd v l m t n o p q=>k.nx _ l m _ (n.setv p) o q⟩
def zxm(i:Nat)(W:WF):WS:=λD a=>W a λl e=>D.nx (e.set i (.own l))
theorem qfm(b:X.N.Nodup)(he:VF X e WfF)(c:X.N[i]?=some x:=by rfl)(d:Loc X.env.scope x:=by first|exact Vn rfl|exact Y3 rfl)(f:Jz e (some (.Name x pos')) pos.line X.env=pure false:=by rfl)(g:X.fn x=true\/X.env.scope.names.lookup x=some .local:=by first|exact .inl rfl|exact .inr rfl):VS X (.Assign [.Name x pos'] e pos) (zxm i WfF):=(qge b c d he f g).imp λD w H a=>by
 obtain⟨M,env,F,y,I,h,k⟩:=a;exact⟨M,env,F,_,I,h,λp z l j m A n o q g2 r s t u v=>k.nx _ j m _ (n.seto q g2 r s t u) o v⟩
def zzk(i:Nat):WG:=λd a Q=>Q (a.set i (.val d))
theorem ql(b:X.N.Nodup)(c:X.N[i]?=some x:=by rfl)(e:Loc X.env.scope x:=by first|exact Vn rfl|exact Y3 rfl)(f:X.fn x=true\/X.env.scope.names.lookup x=some .local:=by first|exact .inl rfl|exact .inr rfl):VG X (.Name x pos) (zzk i) :=
 (zgj b c e f).imp λv g H R a=>by obtain⟨M,env,F,d,Q,I,j,h,k⟩:=a;exact k F H _ _ (I.setv j) (.refl _) h
def xcy:WGs:=λb a Q=>b=[]/\Q a
def zzl(G:WG)(b:WGs):WGs:=λc a Q=>match c with|[]=>False|d::r=>G d a λe=>b r e Q
theorem qcn:VGs X [] xcy:=zup.imp λv c H R a=>by
 obtain⟨M,b,F,d,Q,I,j,h,k⟩:=a;obtain⟨rfl,h⟩:=h;exact⟨j.nil_inv,k F H b c I (.refl _) h⟩
theorem qJ(f:VG X e G)(g:VGs X es Gs)(i:(Vk (e::es) X.env).map (·.2)=Qfy e X.env::(Vk es X.env).map (·.2):=by rfl):VGs X (e::es) (zzl G Gs) :=
 (znh f g i).imp λv D H R a=>by
  obtain⟨M,env,F,l,Q,I,j,h,k⟩:=a;cases l with
  |nil=>exact Zc h
  |cons d r =>
   obtain⟨x,m,rfl,n,o⟩:=j.cons_inv;exact⟨x,m,rfl,M,env,F,d,_,I,n,h,λp E q s t c u=>⟨M,q,p,r,Q,t,o.mono c,u,λw y z b A B C=>k w y z b A (c.trans B) C⟩⟩
def xay(n:Nat)(b:WGs):WG:=λd a Q=>match d with |.tuple l=>l.length=n/\b l a Q|_=>False
theorem qff{f n:Nat}(g:X.calm=true)(h:VGs X es Gs)(i:(Vk es X.env).length=n:=by rfl)(c:(Vk es X.env).findIdx? (·.1)=none:=by rfl):VG X (.Tuple es f pos) (xay n Gs) :=
 (xal g h i c).imp λv p H R b=>by
  obtain⟨M,env,F,d,Q,I,j,h,k⟩:=b;cases d with
  |tuple l =>
   obtain⟨a,m,rfl,o,e⟩:=j.tup_inv;exact⟨a,m,rfl,qab I.fh o,by rw[e.len];exact h.1,M,env,F,l,Q,I,e,h.2,k⟩
  |_=>exact Zc h
def xfs(W:WE)(G:WG):WS:=λD a=>W a λd e=>G d e D.nx
theorem zqz(he:VE X e W)(f:VG X tg G)(g:Qiw [tg] e pos.line X.env=pure false:=by rfl)(i:Qiv [tg] e X.env=pure none:=by rfl)(b:(Vk [tg] X.env).map (·.2)=[Qfy tg X.env]:=by rfl):VS X (.Assign [tg] e pos) (xfs W G):=(zgc he f g i b).imp λD w H a=>by
 obtain⟨M,env,F,x,I,h,k⟩:=a;exact⟨M,env,F,_,I,h,λd v j y l m n o b=>⟨M,l,j,d,_,m,o,b,λp q r c s t u=>k.nx r p q c s (n.trans t) u⟩⟩
def xeh(i:Nat)(W:WE):WS:=λD a=>(gS a i).mut=true/\W a λd e=>(gS e i).mut=true/\(gS e i).cnt.length<Q4/\D.nx (e.set i ((gS e i).upd ((gS e i).cnt++[d])))
theorem qef(i:Nat){m c a:Pos}(he:VE X e W)(y:X.N[i]?=some x:=by rfl)(z:Vis X.env.scope x:=by first|exact Vn rfl|exact Y3 (Vn rfl)|exact Y3 (Y3 rfl))(hd:Nd0 x:=by decide)(o:Nd1 x:=by decide)(g:V6 (.Name x m) "append" X.env (eval (.Name x m) X.env)=eval (.Name x m) X.env:=by rfl)(n:((V5 a (Qu [e] X.env)).all (λx => !x.1)&&(Qdv a (Qaa [] X.env)).all (λx=>x.1.isSome)
  && decide ([e].length+([]:List Qcg).length+(if([]:List Qcg).isEmpty then 0 else 1)<30))=true:=by rfl)(j:(c.endLine==a.line)=true:=by rfl)(q:Qu [e] X.env=(false,eval e X.env)::Qu [] X.env:=by rfl)(f:(V5 a (Qu [] X.env)).any (·.1)=false:=by rfl)(A:Jz (.Call (.Attribute (.Name x m) "append" c) [e] [] a) none pos.line X.env=pure false:=by rfl):VS X (.Expr (.Call (.Attribute (.Name x m) "append" c) [e] [] a) pos) (xeh i W) :=
 (qko (qvu (qer y z hd o) he g n j q f) A).imp λD B H l=>by
  obtain⟨M,env,F,Q,I,⟨C,h⟩,k⟩:=l;obtain⟨p,R,r,E,g2,S,T⟩:=(I.slot i).addr C;refine⟨_,qdw r,.inl ⟨rfl,_,SqL.of E⟩,M,env,F,_,I,h,λd v G U V t J K L=>?_⟩;obtain⟨u,N,O⟩:=L;obtain⟨Y,s,b,P,Z,f3,w⟩:=(t.slot i).addr u;rw[r]at b;injection b with b;injection b with b;subst b;exact⟨p,s,v,rfl,rfl,P,by rw[w.len];exact N,k.nx _ G _ B (t.chg u r (qbb w (qG K qah))) J O⟩
def xgu(i:Nat)(W e:WE):WS:=λD b=>W b λd c=>(gS c i).mut=true/\e c λy a=>match y with
 |.int n=>(gS a i).mut=true /\ ∃j,ixN (gS a i).cnt.length n=some j/\D.nx (a.set i ((gS a i).upd ((gS a i).cnt.set j d)))
 |_=>False
theorem zid{K:Qd}(h:Is K H d v):∀{l:List Qj}{xs:List V}(j:Nat),Iss K H l xs->Iss K H (l.set j d) (xs.set j v)
 |[],_,j,r=>by rw[r.nil_inv];simpa using qah
 |x::l,_,0,r=>by obtain⟨y,a,rfl,p,q⟩:=r.cons_inv;exact qG h q
 |x::l,_,j+1,r=>by obtain⟨y,a,rfl,p,q⟩:=r.cons_inv;exact qG p (zid h j q)
theorem zzw(i:Nat){c:Pos}(he:VE X e W)(l:VE X b Wb)(A:X.N[i]?=some x:=by rfl)(B:Vis X.env.scope x:=by first|exact Vn rfl|exact Y3 (Vn rfl)|exact Y3 (Y3 rfl))(hd:Nd0 x:=by decide)(m:Nd1 x:=by decide)(C:∀v,Qfy (.Subscript (.Name x c) b pos') X.env v=(do
  let ov <- Qdm [v] (eval (.Name x c) X.env)
  let iv <- Qdm [v,ov] (eval b X.env)
  Qhg pos'
  Qdm [v,ov,iv] (setItem ov iv v)
  release [v,ov,iv] []):=by intro _;rfl)(E:Qiw [.Subscript (.Name x c) b pos'] e pos.line X.env=pure false:=by rfl)(G:Qiv [.Subscript (.Name x c) b pos'] e X.env=pure none:=by rfl)(g:(Vk [.Subscript (.Name x c) b pos'] X.env).map (·.2)=[Qfy (.Subscript (.Name x c) b pos') X.env]:=by rfl):VS X (.Assign [.Subscript (.Name x c) b pos'] e pos) (xgu i W Wb) :=
 (zgc he (zrk (qer A B hd m) l zbv C) E G g).imp λD J H f=>by
  obtain⟨M,env,F,U,I,h,k⟩:=f;refine⟨M,env,F,_,I,h,λd v K V L s N O g=>?_⟩;obtain⟨P,g⟩:=g;obtain⟨p,Y,o,Z,g2,g3,g4⟩:=(s.slot i).addr P;refine⟨_,qdw o,M,L,K,_,s,g,λQ v2 R H2 e2 t u S w=>?_⟩;cases Q with
  |int n =>
   obtain⟨y,j,l,q⟩:=w;obtain⟨p',r,a,T,f2,f3,z⟩:=(t.slot i).addr y;rw[o]at a;injection a with a;injection a with a;subst a;exact⟨p,r,n,j,rfl,S.int_inv,T,by rw[z.len];exact l,k.nx _ R _ J (t.chg y o (zid (O.mono u) j z)) (N.trans u) q⟩
  |_=>exact Zc w
def xgd(i:Nat)(b:WE):WE:=λa Q=>(gS a i).mut=true/\b a λy e=>match y with
 |.int n=>(gS e i).mut=true /\ ∃d,atI (gS e i).cnt n=some d/\Q d e
 |_=>False
theorem zfq(i:Nat){o:Pos}(r:VE X b Wb)(s:X.N[i]?=some x:=by rfl)(t:Vis X.env.scope x:=by first|exact Vn rfl|exact Y3 (Vn rfl)|exact Y3 (Y3 rfl))(hd:Nd0 x:=by decide)(e:Nd1 x:=by decide)(u:qyp b:=by exact(λ_ _=>rfl)):VE X (.Subscript (.Name x o) b pos) (xgd i Wb) :=
 (zlp qsc (qer s t hd e) r u).imp λL H R c=>by
  obtain⟨M,env,F,Q,I,⟨m,h⟩,k⟩:=c;obtain⟨p,N,g,O,g2,P,S⟩:=(I.slot i).addr m;refine⟨_,qdw g,M,env,F,_,I,h,λv T w y A j B C l=>?_⟩;cases v with
  |int n =>
   obtain⟨D,d,hd,q⟩:=l;obtain⟨U,f,a,E,V,W,G⟩:=(j.slot i).addr D;rw[g]at a;injection a with a;injection a with a;subst a;obtain⟨z,J,K⟩:=G.atI hd;exact⟨p,f,n,z,rfl,C.int_inv,SqL.of E,J,k d z w y A j B K q⟩
  |_=>exact Zc l
def zyj(f:WT)(t:WS):WS:=λD b =>∃P:Nat->Sto->Prop,(∃m,P m b) /\ ∀m e,P m e->f e λk d=>if k=true then t { D with nx:=λc =>∃a,a<m/\P a c,ct:=λc =>∃a,a<m/\P a c,bk:=D.nx } d else D.nx d
theorem zcn(N:VT X c Tc)(O:VSs X body Wt)(Q:Qla (model X.prog X.w) X.A X.env X.xe:=by exact Qeb):VS X (.While c body [] pos) (zyj Tc Wt) :=
 (zce Q N O).imp λD Y H e=>by
  obtain⟨M,env,F,Z,I,⟨P,⟨R,S⟩,q⟩,k⟩:=e;refine⟨λm b w =>∃s t,EnvOk X.K M t w s b/\Same F t/\P m s,⟨R,env,F,I,.refl _,S⟩,λm y H1 f=>?_⟩;obtain⟨B,T,U,C,V⟩:=f;refine⟨M,B,T,_,U,q m B V,λx E W G J K L=>?_⟩;cases x with
  |true =>
   refine qyb ⟨λb w =>∃p,p<m /\ ∃s t,EnvOk X.K M t w s b/\Same F t/\P p s,λb w z=>z,M,G,E,_,J,L,?_⟩;have d:=C.trans K;exact⟨λg h u a i j n=>by obtain⟨p,l,A⟩:=n;exact⟨p,l,g,h,i,d.trans j,A⟩,λr v g h u a i j=>k.rt r v g h u a i (d.trans j),
    λg h u a i j=>k.nx g h u a i (d.trans j),λg h u a i j o=>by obtain⟨p,l,A⟩:=o;exact⟨p,l,g,h,i,d.trans j,A⟩⟩
  |false=>exact zch (k.nx G E W y J (C.trans K) L)
def xfi(c:WF)(G:WG)(t:WS):WS:=λD a=>c a λb f =>∃P:Nat->Sto->Prop,P 0 f /\
 (∀i d e,b[i]?=some d->P i e->G d e λg=>t { D with nx:=P (i+1),ct:=P (i+1),bk:=D.nx } g) /\ ∀e,P b.length e->D.nx e
theorem qau(Y:X.calm=true)(U:VI X tg iter Wi)(Z:VG X tg G)(hb:VSs X body Wt)(hs:∀x,Z3 iter X.env x=pure x:=by intro _;rfl)(hp:Qla (model X.prog X.w) X.A X.env X.xe:=by exact Qeb):VS X (.For tg iter body [] pos) (xfi Wi G Wt) :=
  (zqx hp Y U Z hb hs).imp λD σ H e=>by
   obtain⟨M,env,F,DD,I,h,k⟩:=e;refine⟨M,env,F,_,I,h,λt J N H1 e1 I1 O Q f=>?_⟩;obtain⟨P,p0,u,R⟩:=f;refine⟨λi m b E=>m=t.length-i/\i<=t.length /\ ∃w y,EnvOk X.K M y E w b/\Same N y/\P i w,⟨t.length,by simp,Yd _,e1,N,I1,.refl _,p0⟩,λi m S K l=>?_⟩;obtain⟨hm,U,L,V,A,B,W⟩:=l;by_cases hl:i=t.length
   ·subst hl;exact .inl ⟨Q.stop K (B.trans A.fh),k.nx L V K S A (O.trans B) (R L W)⟩
   ·have n:i<t.length:=by lia
    refine .inr ⟨Q.go i K (B.trans A.fh) n,λb E =>∃w y,EnvOk X.K M y E w b/\Same N y/\P (i+1) w,λb E z=>⟨t.length-(i+1),by lia,rfl,n,z⟩,λx H3 hy=>?_⟩;obtain⟨d,F3,hd,g,j⟩:=Q.yld i K x H3 V B A.fh n hy;refine⟨M,L,F3,d,_,A.go g,j,u i d L hd W,λF4 H4 e4 σ4 I4 s4 h4=>⟨M,e4,F4,_,I4,h4,?_⟩⟩;have c:=B.trans (g.f.trans s4);exact⟨λo p C a q s T=>⟨o,p,q,c.trans s,T⟩,λr v o p C a q s=>k.rt r v o p C a q ((O.trans c).trans s),
     λo p C a q s=>k.nx o p C a q ((O.trans c).trans s),λo p C a q s T=>⟨o,p,q,c.trans s,T⟩⟩
end
theorem zgv:∀{ns:List String}{us:List Value},Vals (ns.map V.ty) us->us=ns.map Qey
 |[],_,h=>by cases h;rfl
 |n::ns,_,h=>by
  cases h with
  |cons r t=>rw[zgv t];cases r;rfl
theorem xda{r:St}(I:Inv X pins r H s)(hd:Is X.K H d x)(b:RelV x u):
 ∃n:Heap->Prop,PySem.W.KitX X.K u (.type (tyD d)) n/\n s.heap/\u≠.builtin "__main__.__loader__#opaque":=by
  cases d with
  |none=>rw[hd.non_inv]at b;cases b;exact⟨_,Qja,V8,λz=>nomatch z⟩
  |bool y=>rw[hd.bl_inv]at b;cases b;exact⟨_,Qjb,V8,λz=>nomatch z⟩
  |int i=>rw[hd.int_inv]at b;obtain⟨t,rfl⟩:=b;exact⟨_,Qkd,V8,λz=>nomatch z⟩
  |str y =>
   subst hd;obtain⟨t,rfl⟩:=b;exact⟨_,Qke,V8,λz=>nomatch z⟩
  |list l =>
   obtain⟨a,c,rfl,q,_⟩:=hd.lst_inv;cases b;obtain⟨e,_,f,_⟩:=I.list q;obtain⟨o,g,h,_⟩:=f.isList;exact⟨_,Qjc,⟨o,g,h⟩,λz=>nomatch z⟩
  |tuple l =>
   obtain⟨a,c,rfl,q,_⟩:=hd.tup_inv;cases b;obtain⟨e,_,f,_⟩:=I.tuple q;obtain⟨o,g,h,_⟩:=f;exact⟨_,Qim,⟨o,g,h⟩,λz=>nomatch z⟩
  |dict l =>
   obtain⟨a,rfl,⟨j,q,_⟩|⟨c,q,_⟩⟩:=hd.dct_inv
   ·cases b;obtain⟨_,_,A,_,p⟩:=(show ObjOk X.prog X.w H s.heap a (.dK j) from I.hok a _ q)
    obtain⟨o,v,w,k,m,_⟩:=p;exact⟨_,Qcv,⟨o,k,m.1⟩,λz=>nomatch z⟩
   ·cases b;obtain⟨⟨_,v,w,⟨o,k,m,_⟩,_⟩,_⟩:=(show ObjOk X.prog X.w H s.heap a (.ext (DX a c)) from I.hok a _ q)
    exact⟨_,Qcv,⟨o,k,m.1⟩,λz=>nomatch z⟩
def zyk(K:Qd):List V->Hp->VK->Prop:=λe H Q =>∃(d:Qj)(x:V)(a:Addr)(c:List String)(b:Bool),e=[x,.ref a]/\H a=some (.tup (c.map V.ty))/\Is K H d x/\Qlc K (.type (tyD d)) (c.map Qey)=some b/\Q (.bl b) H
theorem zeo:CallR X (.builtin "isinstance") (zyk X.K):=by
 intro i s A H B C Q I r h;obtain⟨d,x,a,D,b,rfl,l,m,e,q⟩:=h;obtain⟨u,c,rfl,o,p⟩:=zdw r;cases p;obtain⟨t,v,w,_⟩:=I.tuple (SqT.of l);obtain⟨⟨cls,E,data,F⟩,j,k,n,f⟩:=w;simp only at k f;subst k f;rw[zgv v]at j;obtain⟨G,Z,y,g⟩:=xda I m o;exact PySem.W.kia_tup Z I.kIn y j e g λz=>⟨.bl b,H,I.tok z,rfl,q⟩
theorem qry:∀{bs:List Bool}{us:List Value},Vals (bs.map V.bl) us->LSm.BoolsAre us bs
 |[],_,h=>by cases h;exact .nil
 |b::bs,_,h=>by
  cases h with
  |cons r t=>cases r;exact .cons b (qry t)
def xet(K:Qd):List V->Hp->VK->Prop:=λb H Q =>∃(a:Addr)(bs:List Bool),b=[.ref a]/\SqL K H a (bs.map V.bl)/\Q (.bl (bs.all id)) H
theorem zne(p:X.calm=true):CallR X (.builtin "all") (xet X.K):=by
 intro j s E H F G Q I r h;obtain⟨a,bs,rfl,t,q⟩:=h;obtain⟨u,rfl,w⟩:=qmp r;cases w;obtain⟨c,x,k,_⟩:=I.list t;have l:=k.isList;have m:=qry x;have f:=k.lt;refine call_all_walk (Qaz l ?_);refine⟨s.heap.objs.size,[s.heap.objs.size,a],[s.heap.objs.size],c.toArray.size,_,_,λi=>(bs[i]?).getD true,rfl,Qlh (A:=X.A.in1) (I.ok.hd p) _ a (Q7 f) c.toArray,
  ⟨⟨_,Qx _ rfl,rfl,rfl⟩,l.push _⟩,λi v J K L M n=>?_,λN y B=>?_⟩
 ·obtain⟨b,e,rfl⟩:=m.get i v (by grind);simp only[e,Qkf]at n;exact Y0 n
 ·have d:c.toArray.size=bs.length:=by rw[Zn];exact m.length
  have e:((Qm c.toArray.size).all λi=>(bs[i]?).getD true)=bs.all id:=by
   rw[d,Qgl,Yc,Yc];constructor
   ·intro z b g;obtain⟨i,C,rfl⟩:=Qbn g;have:=z i (Zi.mpr C);grind
   grind[Ze]
  rw[e];refine⟨.bl (bs.all id),H,I.kept (t':=y) (λb o z=>B b o (λD=>?_) (Qi _ z)),rfl,q⟩;rw[Q6.mp D]at z;exact J5 _ (Qw z)
theorem qoi:∀(ns:LI)(n:Nat),n<=ns.length->preSum (λi=>(ns[i]?).getD 0) n=(ns.take n).sum
 |ns,0,_=>by simp[preSum]
 |ns,n+1,h=>by
  have a:=h;have e:(ns[n]?).getD 0=ns[n]:=by grind
  have b:(ns.take n++[ns[n]]).sum=(ns.take n).sum+ns[n]:=by grind
  rw[preSum,qoi ns n (Yq a),e,Z0,Qc a];exact b.symm
theorem qtd:∀{ns:LI}{us:List Value},Vals (ns.map V.int) us ->∀(i:Nat)(v:Value),us[i]?=some v ->∃t,v = .int ((ns[i]?).getD 0) t
 |[],_,h,i,v,e=>by cases h;simp at e
 |n::ns,_,h,i,v,e=>by
  cases h with
  |cons r t =>
   cases i with
   |zero =>
    obtain⟨k,rfl⟩:=r;grind
   |succ i =>
    obtain⟨k,a⟩:=qtd t i v (by simpa using e);grind
def xgv(K:Qd):List V->Hp->VK->Prop:=λc H Q =>∃(a:Addr)(b:LI),c=[.ref a]/\(SqL K H a (b.map V.int)\/SqT K H a (b.map V.int))/\Q (.int b.sum) H
theorem zmv(C:X.calm=true):CallR X (.builtin "sum") (xgv X.K):=by
 intro p s D H L M Q I r h;obtain⟨a,f,rfl,t,q⟩:=h;obtain⟨u,rfl,E⟩:=qmp r;cases E;have w:∀(c:List Value)(g:Heap)(j t':Nat),c.length=f.length->(∀b o,s.heap.get? b=some o->g.get? b=some o)->EP X p D Q (.int (preSum (λi=>(f[i]?).getD 0) c.toArray.size) t') { s with heap:=g,toks:=j }:=λc g j t' m k=>by
  have e:preSum (λi=>(f[i]?).getD 0) c.toArray.size=f.sum:=by
   rw[Zn,m,qoi f _ (Qs _),Zm]
  rw[e];exact⟨.int f.sum,H,I.kept (t':=j) k,⟨t',rfl⟩,q⟩
 have x:∀{g:Heap}{F:Obj},(∀b o,b∉[s.heap.objs.size]->(s.heap.push F).get? b=some o->g.get? b=some o) ->∀b o,s.heap.get? b=some o->g.get? b=some o:=λk b o z =>
  k b o (λG=>by rw[Q6.mp G]at z;exact J5 _ (Qw z)) (Qi _ z)
 rcases t with t|t
 ·obtain⟨c,y,n,_⟩:=I.list t;have m:=n.isList;have l:=n.lt;have d:c.length=f.length:=by rw[<- y.length,Qe]
  refine call_sum_walkG (Qaz m ?_);refine⟨s.heap.objs.size,[s.heap.objs.size,a],[s.heap.objs.size],c.toArray.size,_,_,λi=>(f[i]?).getD 0,rfl,Qlh (A:=X.A.in1) (I.ok.hd C) _ a (Q7 l) c.toArray,
   ⟨⟨_,Qx _ rfl,rfl,rfl⟩,m.push _⟩,λb J=>?_,λi v K=>qtd y i v (by grind),λg j t' k=>w c g j t' d (x k)⟩
  have B:b=s.heap.objs.size\/b=a:=by grind
  rw[Z5];grind
 ·obtain⟨c,y,n,_⟩:=I.tuple t;have m:=n;have l:=IsTup.lt n;have d:c.length=f.length:=by rw[<- y.length,Qe]
  refine call_sum_walkG (Qep m ?_);refine⟨s.heap.objs.size,[s.heap.objs.size,a],[s.heap.objs.size],c.toArray.size,_,_,λi=>(f[i]?).getD 0,rfl,Walks.tuple (A:=X.A.in1) (I.ok.hd C) _ a (Q7 l) c.toArray,
   ⟨⟨_,Qx _ rfl,rfl,rfl⟩,n.push _⟩,λb J=>?_,λi v K=>qtd y i v (by grind),λg j t' k=>w c g j t' d (x k)⟩
  have B:b=s.heap.objs.size\/b=a:=by grind
  rw[Z5];grind
def zwf(K:Qd):List V->Hp->VK->Prop:=λd H Q =>∃(a:Addr)(c:LI),d=[.ref a]/\SqL K H a (c.map V.int)/\c.length<64 /\ ∀(p:Addr)(b:LI),H p=none->b.Perm c->b.Pairwise (· <= ·)->Q (.ref p) (upd H p (.lst (b.map V.int)))
theorem zal:CallR X (.builtin "sorted") (zwf X.K):=by
 intro g s y H A B Q I r h;obtain⟨a,l,rfl,m,n,q⟩:=h;obtain⟨u,rfl,p⟩:=qmp r;cases p;obtain⟨c,i,t,_⟩:=I.list m;have j:c.length=l.length:=by rw[<- i.length,Qe]
 refine sorted_ints t.isList (qsf i) (by lia) λd f v k w=>?_;obtain⟨e,he⟩:=sortedAll_at s.heap c d;have x:=k.length_eq;refine⟨.ref (s.heap.objs.size+1),_,I.laid (t':=s.toks) (a:=s.heap.objs.size+1) (o :=.lst (f.map V.int)) (λb o z=>sortedAll_old z) (Qct _) ?_,rfl,q _ f (I.hok.fresh (Qct _)) k w⟩;exact⟨Yq (qm (by grind)),d.toList,e,qnn v,by rw[Array.toArray_toList];exact he⟩
def xev(K:Qd)(d:TE):TI:=λe H R=>d e H λx b =>∃a,x = .ref a/\(((∃c,SqL K b a c)/\R (Itl K a) b)\/((∃c,SqT K b a c)/\R (Itt K a) b))
theorem zzg(r:PE X l tl):PI X tg l (xev X.K tl):=by
 intro g s t H R I h;refine thn (r g s t H _ I h) λv c f=>?_;obtain⟨x,n,d,u,j⟩:=f;obtain⟨a,e,j⟩:=j;subst e;cases u;rcases j with⟨⟨w,k⟩,q⟩|⟨⟨w,k⟩,q⟩
 ·obtain⟨i,y,p,z⟩:=d.list k;refine Qaz p.isList ?_;refine⟨c.heap.objs.size,[c.heap.objs.size],_,_,n,rfl,d.kept (t':=c.toks) λb o e=>Qi _ e,zkr a _,⟨_,Qx _ rfl,rfl,rfl⟩,λb m=>?_,q⟩;have e:b=c.heap.objs.size:=by simpa using m
  subst e;exact d.fpOk (Qs _) (d.hok.fresh (Qs _))
 ·obtain⟨i,y,p,z⟩:=d.tuple k;refine Qep (show c.heap.IsTuple a i.toArray from p) ?_;refine⟨c.heap.objs.size,[c.heap.objs.size],_,_,n,rfl,d.kept (t':=c.toks) λb o e=>Qi _ e,zeh a _,⟨_,Qx _ rfl,rfl,rfl⟩,λb m=>?_,q⟩;have e:b=c.heap.objs.size:=by simpa using m
  subst e;exact d.fpOk (Qs _) (d.hok.fresh (Qs _))
end
theorem boot_all:Zl "all" = some (.builtin "all"):=by decide +kernel
theorem boot_sum:Zl "sum" = some (.builtin "sum"):=by decide +kernel
theorem boot_sorted:Zl "sorted" = some (.builtin "sorted"):=by decide +kernel
section
variable{X:Cx}
theorem ztt{K:Qd}(hs:SqL K F a xs)(hr:Iss K F l xs):ItD K (Itl K a) F l where
 go:=λi H s hi=>⟨xs,xs[i]'(by rw[hr.len];exact hi),s.seq hs,Qc _⟩
 stop:=λH s=>⟨xs,s.seq hs,by rw[hr.len];grind⟩
 yld:=λi H x H' F1 s1 s2 hi hy=>by
  obtain⟨rfl,hy⟩:=hy;obtain⟨d,e1,e2⟩:=hr.get' (hy xs ((s1.trans s2).seq hs));exact⟨d,F1,e1,.refl s2,e2.mono s1⟩
theorem zsq{K:Qd}(hs:SqT K F a xs)(hr:Iss K F l xs):ItD K (Itt K a) F l where
 go:=λi H s hi=>⟨xs,xs[i]'(by rw[hr.len];exact hi),qab s hs,Qc _⟩
 stop:=λH s=>⟨xs,qab s hs,by rw[hr.len];grind⟩
 yld:=λi H x H' F1 s1 s2 hi hy=>by
  obtain⟨rfl,hy⟩:=hy;obtain⟨d,e1,e2⟩:=hr.get' (hy xs (qab (s1.trans s2) hs));exact⟨d,F1,e1,.refl s2,e2.mono s1⟩
def qxg(lo:Int)(n:Nat):List Qj:=(Qm n).map λ(k:Nat) => .int (lo+(k:Int))
theorem qK(lo:Int)(n:Nat):(qxg lo n).length=n:=by simp[qxg]
theorem zcv{lo:Int}(h:i<n):(qxg lo n)[i]?=some (.int (lo+i)):=by simp[qxg,h]
theorem qag{lo:Int}(h:(qxg lo n)[i]?=some d):i<n/\d = .int (lo+i):=by
 grind[qK,zcv,Qr]
theorem zsn{K:Qd}{lo:Int}:ItD K (Itr lo n) F (qxg lo n) where
 go:=λi H s hi=>by rw[qK]at hi;exact hi
 stop:=λH s=>by rw[qK];exact Qs _
 yld:=λi H x H' F1 s1 s2 hi hy=>by
  obtain⟨rfl,rfl⟩:=hy;rw[qK]at hi;exact⟨_,F1,zcv hi,.refl s2,qZ _⟩
def qvg(l:List Qj):List Qj:=(Qm l.length).map λ(k:Nat) => .tuple [.int k,(l[k]?).getD .none]
theorem qdd(l:List Qj):(qvg l).length=l.length:=by simp[qvg]
theorem qwz{i:Nat}(h:l[i]?=some d):(qvg l)[i]?=some (.tuple [.int i,d]):=by
 have a:=(Qp.mp h).1;have e:l[i]=d:=by grind
 simp[qvg,a,e]
theorem qgy{i:Nat}(h:(qvg l)[i]?=some d):∃x,l[i]?=some x/\d = .tuple [.int i,x]:=by
 grind[qdd,qwz,Qc,Qr]
theorem znl{K:Qd}(hs:SqL K F a xs)(hr:Iss K F l xs):ItD K (Ite K a) F (qvg l) where
 go:=λi H s hi=>by rw[qdd]at hi;exact⟨xs,xs[i]'(by rw[hr.len];exact hi),s.seq hs,Qc _⟩
 stop:=λH s=>by rw[qdd];exact⟨xs,s.seq hs,by rw[hr.len];grind⟩
 yld:=λi H x H' F1 s1 s2 hi hy=>by
  obtain⟨p,y,hy,hp,rfl,rfl⟩:=hy;obtain⟨d,e1,e2⟩:=hr.get' (hy xs ((s1.trans s2).seq hs));have g:=Go.put (o:=HO.tup [.int i,y]) s2 hp;exact⟨_,_,qwz e1,g,qqb (SqT.of qk) (qG (qZ _) (qG ((e2.mono s1).mono g.f) qah))⟩
section
variable{tg a b c:Expr}{W:WE}{Wr:WF}{p pos:Pos}
def qun(T:String):Qj->Bool
 |.none=>false
 |.bool _=>T == "bool" || T == "int"
 |.int _=>T == "int"
 |.str _=>T == "str"
 |.list _=>T == "list"
 |.tuple _=>T == "tuple"
 |.dict _=>T == "dict"
def xeg:DC
 |[.list l],q =>∃a:LI,l=a.map .int/\q (.int a.sum)
 |[.tuple l],q =>∃a:LI,l=a.map .int/\q (.int a.sum)
 |_,_=>False
def qbf:Qj->Option (List Qj)
 |.list l=>some l
 |.tuple l=>some l
 |_=>none
theorem qac(h:qbf d=some l)(q:Q l):(qbf d).elim False Q:=by rw[h];exact q
theorem qrk(h:qbf d=some l)(a:q (.int l.length)):xec [d] q:=by
 cases d with
 |list m=>cases h;exact a
 |tuple m=>cases h;exact a
 |_=>cases h
theorem qzb(h:qbf d=some l)(e:atI l i=some x)(a:q x):dIx d (.int i) q:=by
 cases d with
 |list m=>cases h;exact⟨x,e,a⟩
 |tuple m=>cases h;exact⟨x,e,a⟩
 |_=>cases h
theorem zwa{ns:LI}(h:qbf d=some (ns.map .int))(a:q (.int ns.sum)):xeg [d] q:=by
 cases d with
 |list m=>cases h;exact⟨ns,rfl,a⟩
 |tuple m=>cases h;exact⟨ns,rfl,a⟩
 |_=>cases h
theorem qsl(d:Qj):(qun "list" d||qun "tuple" d)=(qbf d).isSome:=by cases d <;> rfl
def xcw(W:WE):WF:=λa Q=>W a λd e=>(qbf d).elim False λl=>Q l e
theorem qV(h:VE X a W):VI X tg a (xcw W):=(zzg h).imp λs H R c=>by
 obtain⟨M,g,F,Q,I,h,k⟩:=c;refine⟨M,g,F,_,I,h,λd v n o p f q r i=>?_⟩;cases d with
 |list l =>
  obtain⟨b,j,rfl,e,m⟩:=r.lst_inv;exact⟨b,rfl,.inl ⟨⟨j,f.fh.seq e⟩,k l _ n o p f q (ztt e m) i⟩⟩
 |tuple l =>
  obtain⟨b,j,rfl,e,m⟩:=r.tup_inv;exact⟨b,rfl,.inr ⟨⟨j,qab f.fh e⟩,k l _ n o p f q (zsq e m) i⟩⟩
 |_=>exact Zc i
def xel(W:WE):WF:=λa Q=>W a λd e=>match d with
 |.int j=>(-(2^62)<=j/\j<2^62)/\Q (qxg 0 j.toNat) e
 |_=>False
theorem qS(f:X.mg "range" = none)(g:VE X a W)(i:Gl X "range":=by rfl)(l:Qu [a] X.env=[(false,eval a X.env)]:=by rfl)(e:Qu [a] X.env=(false,eval a X.env)::Qu [] X.env:=by rfl):VI X tg (.Call (.Name "range" p) [a] [] pos) (xel W) :=
 (zjj i f (qM g qbe e) l).imp λt H R b=>by
  obtain⟨M,env,F,Q,I,h,k⟩:=b;refine⟨M,env,F,_,I,h,λd v m n o q r s c=>?_⟩;cases d with
  |int j=>exact⟨j,by rw[s.int_inv],c.1.1,c.1.2,k _ _ m n o q r zsn c.2⟩
  |_=>exact Zc c
def xhb(W:WE):WF:=λa Q=>W a λd e=>match d with
 |.list l=>Q (qvg l) e
 |_=>False
theorem qnb{e:List Expr}{n:Nat}{f:Pos}(o:X.mg "enumerate" = none)(q:VE X a W)(r:Gl X "enumerate":=by rfl)(g:Qu [a] X.env=[(false,eval a X.env)]:=by rfl)(i:Qu [a] X.env=(false,eval a X.env)::Qu [] X.env:=by rfl):
 VI X (.Tuple e n f) (.Call (.Name "enumerate" p) [a] [] pos) (xhb W) :=
 (zwi r o (qM q qbe i) g).imp λA H R c=>by
  obtain⟨M,env,F,Q,I,h,k⟩:=c;refine⟨M,env,F,_,I,h,λd v s t u j w x m=>?_⟩;cases d with
  |list l =>
   obtain⟨b,y,rfl,g,z⟩:=x.lst_inv;exact⟨b,rfl,⟨y,j.fh.seq g⟩,k _ _ s t u j w (znl g z) m⟩
  |_=>exact Zc m
end
def Sl.seen:Sl->Sl
 |.val d => .val d
 |.new d => .val d
 |.dsk _ a g C f b => .dsk false a g C f b
 |_ => .non
def zbi(ix:List Nat)(k:Nat)(env:Sto):Sto:=ix.map (λi=>(gS env i).seen)++Zf k .non
def zma(ix:List Nat)(k:Nat)(g:WF)(G:WG)(h:WE):WF:=λb Q=>g b λc f=>c.length<Q4 /\ ∃P:Nat->List Qj->Sto->Prop,P 0 [] (zbi ix k f) /\
 (∀i d a e,c[i]?=some d->P i a e->G d e λj=>h j λy l=>P (i+1) (a++[y]) l) /\ ∀a e,P c.length a e->Q a f
theorem zfw:∀(ix:List Nat)(f:Nat->Sl)(r:Sto)(j:Nat),gS (ix.map f++r) j=match ix[j]? with|some i=>f i|none=>gS r (j-ix.length)
 |[],f,r,j=>by simp
 |i::ix,f,r,0=>by simp[gS]
 |i::ix,f,r,j+1=>by simp only[Qq,Qkg,gS,J7,Zg,Qgm];exact zfw ix f r j
theorem qzy(k j:Nat):gS (Zf k .non) j = .non:=by
 induction k generalizing j with
 |zero=>simp[gS]
 |succ k a=>cases j with
  |zero=>simp[Va,gS]
  |succ j=>simp only[Va,gS];exact a j
theorem zxx(ix:List Nat)(k:Nat)(a:St)(j i:Nat)(h:ix[j]?=some i):vS (qvq ix k a) j=vS a i:=by
 have b:=(Qp.mp h).1;unfold vS qvq;rw[Zv (by simpa using b),Qa,h];rfl
theorem EnvOk.cap{K:Qd}(I:EnvOk K M F H env σ)(ix:List Nat)(k:Nat):EnvOk K ⟨H,H,F⟩ F H (zbi ix k env) (qvq ix k σ) where
 len:=by simp[zbi,qvq]
 slot:=λj=>by
  unfold zbi;rw[zfw];cases h:ix[j]? with
  |none=>rw[qzy];trivial
  |some i =>
   show SlotOk K _ F H (gS env i).seen _;rw[zxx ix k σ j i h];have S:=I.slot i;cases q:gS env i with
   |val d=>rw[q]at S;exact S
   |non=>trivial
   |own ds=>trivial
   |pen ds=>trivial
   |new d=>rw[q]at S;obtain⟨v,e,j⟩:=S;exact⟨v,e,j.is qjr⟩
   |exc C=>trivial
   | «at» v=>trivial
   |obj a0 C nm fs=>trivial
   |dsk mm a0 g0 C f es =>
    rw[q]at S;obtain⟨dx,kvs,e,g1,g2,g3,g4⟩:=S;exact⟨dx,kvs,e,g1,g2,g3,g2⟩
 dis:=λi j a _ h1=>by
  unfold zbi at h1;rw[zfw]at h1;cases h:ix[i]? with
  |none=>rw[h,qzy]at h1;cases h1
  |some n =>
   rw[h]at h1;replace h1:(gS env n).seen.mut=true:=h1
   cases q:gS env n <;> rw[q]at h1 <;> cases h1
 f0 :=.refl _
 fe:=I.fh
 fh:=I.fh
 bh :=.refl _
 new:=λb o e => .inl e
 dom:=λb o e=>⟨o,e⟩
theorem EnvOk.goOf{K:Qd}(I:EnvOk K ⟨H,H,F⟩ F' H' env σ):Go F H F' H':=⟨I.f0,I.bh,I.fh,I.new⟩
section
variable{K:Qd}{ix:List Nat}{n:Nat}{Wi:WF}{G:WG}{We:WE}{σ:St}{H:Hp}{R:VK}
theorem qno(h:zds K (zma ix n Wi G We) σ H R):zmb ix n (qve K Wi) (qro K G) (qcq K We) σ H R:=by
 obtain⟨M,w,F,Q,I,h,k⟩:=h;refine⟨M,w,F,_,I,h,λo J z s S E T A a=>?_⟩;obtain⟨hz,P,U,p,B⟩:=a;refine⟨λi m t q u=>m=o.length-i/\i<=o.length /\ ∃b c l,EnvOk K ⟨s,s,z⟩ c u b q/\Iss K c l t/\t.length=i/\P i l b,⟨o.length,by simp,Yd _,zbi ix n S,z,[],E.cap ix n,qah,rfl,U⟩,?_⟩;rintro i m t q C ⟨hm,hi,D,V,l,L,N,W,O⟩;have g2:=L.goOf;by_cases he:i=o.length
 ·subst he;exact .inl ⟨A.stop C (g2.f.trans g2.fh),by lia,qnm (E.go g2) (T.trans g2.f) N (B l D O) k⟩
 ·have e:i<o.length:=by lia
  refine .inr ⟨A.go i C (g2.f.trans g2.fh) e,by lia,λy r u =>∃b c v,EnvOk K ⟨s,s,z⟩ c u b r/\Iss K c v (t++[y])/\P (i+1) v b,
   λy r u f=>by obtain⟨b,c,v,X,Y,Z⟩:=f;exact⟨o.length-(i+1),by lia,rfl,e,b,c,v,X,Y,by simp[W],Z⟩,λx H3 hy=>?_⟩
  obtain⟨d,F3,hd,g,j⟩:=A.yld i C x H3 V g2.f g2.fh e hy;refine⟨_,D,F3,d,_,L.go g,j,p i d l D hd O,λF4 H4 e4 σ4 I4 s4 h4=>⟨_,e4,F4,_,I4,h4,λd5 v5 F5 H5 e5 I5 s5 i5 h5=>?_⟩⟩;exact⟨e5,F5,l++[d5],I5,qbb ((N.mono (g.f.trans s4)).mono s5) (qG i5 qah),h5⟩
end
theorem qH{pos:Pos}{ix:List Nat}(e:X.calm=true)(S:CompScope X.env scope caps)(f:VI X target iter Wi)(i:∀a c H ex,VG (blk X a scope (caps++own) c H ex) target G)(he:∀a c H ex,VE (blk X a scope (caps++own) c H ex) elt We)(d:caps.length=ix.length:=by rfl)(b:(caps.zip ix).all (λp=>X.N[p.2]?==some p.1)=true:=by rfl)(j:∀x,Z3 iter X.env x=pure x:=by intro _;rfl):VF X (.ListComp elt [⟨target,iter,[],0⟩] scope pos) (zma ix own.length Wi G We) :=
  (zuo (g:=qro X.K G) (te:=qcq X.K We) e S f i he d b j).imp λ_ _ _ h=>qno h
theorem qI{G:WG}{j:WE}{Q:List Qj->Sto->Prop}{ds:List Qj}(L:List Qj)(n:L.length=ds.length)(hz:L.length<Q4)(b:Sto->Prop)(l:b (zbi ix k e0))(h:∀(i:Nat)d a e,ds[i]?=some d->a=L.take i->b e->G d e λc=>j c λy f=>a++[y]=L.take (i+1)/\b f)(q:Q L e0):
 ds.length<Q4 /\ ∃P:Nat->List Qj->Sto->Prop,P 0 [] (zbi ix k e0)/\(∀i d a e,ds[i]?=some d->P i a e->G d e λc=>j c λy f=>P (i+1) (a++[y]) f) /\ ∀a e,P ds.length a e->Q a e0 :=
  ⟨by lia,λi a e=>a=L.take i/\b e,⟨by simp,l⟩,λi d a e m g=>h i d a e m g.1 g.2,λa e g=>by grind⟩
theorem qv{a:Type}{L b:List a}{y:a}(e:L[i]?=some y)(h:b=L.take i):b++[y]=L.take (i+1):=by
 rw[h,Z0,e];rfl
def xge(T:String)(W:WE):WE:=λa Q=>W a λd e=>Q (.bool (qun T d)) e
section
variable{a:Expr}{W:WE}{p pos pT:Pos}{T:String}{t:Str}
theorem zfu(l:X.mg "isinstance" = none)(m:X.mg t=none)(n:Zl t=some (.type T))(o:VE X a W)(q:∀d,Qhv X.K (.type (tyD d)) (.type T)=some (qun T d):=by intro d;cases d <;> rfl)(r:Gl X "isinstance":=by rfl)(c:Gl X t:=by rfl)(s:t ≠ "__name__":=by decide)(e:Nd0 t:=by decide)(i:Qu [a,.Name t pT] X.env=(false,eval a X.env)::Qu [.Name t pT] X.env:=by rfl)(f:Qu [.Name t pT] X.env=(false,eval (.Name t pT) X.env)::Qu [] X.env:=by rfl)(g:(V5 pos (Qu [.Name t pT] X.env)).any (·.1)=false:=by rfl):
 VE X (.Call (.Name "isinstance" p) [a,.Name t pT] [] pos) (xge T W) :=
 (qjh znq r l qhs (qM o (qM (qyz (v :=.ty T) c m n rfl s e) qbe f) i) (by decide) (by decide) i g).imp λB H R b=>by
  obtain⟨M,env,F,Q,I,h,k⟩:=b;exact⟨M,env,F,_,I,h,λd v u w x j y z A=>⟨d,v,T,qun T d,rfl,z.mono j.fh,q d,k _ _ u w x j y (qeu _) A⟩⟩
def xco(T b:String)(W:WE):WE:=λa Q=>W a λd e=>Q (.bool (qun T d||qun b d)) e
theorem zia{b c:Pos}{f:Nat}(z:X.mg "isinstance" = none)(A:X.mg t=none)(B:Zl t=some (.type T))(j:X.mg t'=none)(l:Zl t'=some (.type T'))(C:VE X a W)(D:∀d,Qlc X.K (.type (tyD d)) ([T,T'].map Qey)=some (qun T d||qun T' d):=by intro d;cases d <;> rfl)(E:Gl X "isinstance":=by rfl)(m:Gl X t:=by rfl)(g:Gl X t':=by rfl)(G:t ≠ "__name__":=by decide)(n:t' ≠ "__name__":=by decide)(o:Nd0 t:=by decide)(i:(t'==("__debug__" : Str))=false:=by decide)(x:Qu [a,.Tuple [.Name t pT,.Name t' b] f c] X.env=(false,eval a X.env)::Qu [.Tuple [.Name t pT,.Name t' b] f c] X.env:=by rfl)(q:Qu [.Tuple [.Name t pT,.Name t' b] f c] X.env=(false,eval (.Tuple [.Name t pT,.Name t' b] f c) X.env)::Qu [] X.env:=by rfl)(r:Qu [.Name t pT,.Name t' b] X.env=(false,eval (.Name t pT) X.env)::Qu [.Name t' b] X.env:=by rfl)(s:Qu [.Name t' b] X.env=(false,eval (.Name t' b) X.env)::Qu [] X.env:=by rfl)(u:(V5 pos (Qu [.Tuple [.Name t pT,.Name t' b] f c] X.env)).any (·.1)=false:=by rfl):
  VE X (.Call (.Name "isinstance" p) [a,.Tuple [.Name t pT,.Name t' b] f c] [] pos) (xco T T' W) :=
  (qjh zeo E z qhs (qM C (qM (qzz (qM (qyz (v :=.ty T) m A B rfl G o) (qM (qyz (v :=.ty T') g j l rfl n i) qbe s) r)) qbe q) x) (by decide) (by decide) x u).imp λP H R e=>by
   obtain⟨M,env,F,Q,I,h,k⟩:=e;exact⟨M,env,F,_,I,h,λd v J S K w L N O=>⟨szl,λp y=>⟨d,v,p,[T,T'],_,rfl,qk,(N.mono w.fh).mono (qbh y),D d,
    k _ _ J _ K (w.go (.side w.fh y)) L (qeu _) O⟩⟩⟩
end
theorem zec(m:X.calm=true):qlb X (.builtin "sum") xeg:=(zmv m).imp λg H Q b=>by
 obtain⟨F,n,q,s,i,h,k⟩:=b
 match n,h,i with
 |[.list l],h,i =>
  obtain⟨v,rfl,j⟩:=qoe i;obtain⟨a,g,rfl,c,d⟩:=j.lst_inv;obtain⟨e,rfl,f⟩:=h;rw[d.ints_inv]at c;exact⟨a,e,rfl,.inl (s.seq c),k _ _ F H (.refl s) (qZ _) f⟩
 |[.tuple l],h,i =>
  obtain⟨v,rfl,j⟩:=qoe i;obtain⟨a,g,rfl,c,d⟩:=j.tup_inv;obtain⟨e,rfl,f⟩:=h;rw[d.ints_inv]at c;exact⟨a,e,rfl,.inr (qab s c),k _ _ F H (.refl s) (qZ _) f⟩
def zys:List Qj->(List Qj->Prop)->Prop
 |[.list l],q =>∃b:LI,l=b.map .int/\b.length<64 /\ ∀a:LI,a.Perm b->a.Pairwise (· <= ·)->q (a.map .int)
 |_,_=>False
theorem zpi:qvc X (.builtin "sorted") zys:=zal.imp λf H Q b=>by
 obtain⟨F,g,q,s,i,h,k⟩:=b
 match g,h,i with
 |[.list l],h,i =>
  obtain⟨v,rfl,j⟩:=qoe i;obtain⟨a,f,rfl,e,m⟩:=j.lst_inv;obtain⟨n,rfl,o,r⟩:=h;rw[m.ints_inv]at e;exact⟨a,n,rfl,s.seq e,o,λp c d t u=>k _ p _ F _ (.side s d) d (qB s d) qk (qhi c) (r c t u)⟩
def xfg:DC
 |[.list l],q =>∃bs:List Bool,l=bs.map .bool/\q (.bool (bs.all id))
 |_,_=>False
theorem Iss.bools_inv{K:Qd}:∀{bs:List Bool}{xs:List V},Iss K H (bs.map .bool) xs->xs=bs.map V.bl
 |[],_,h=>h.nil_inv
 |n::a,_,h=>by
  obtain⟨x,r,rfl,p,q⟩:=h.cons_inv;rw[p.bl_inv,Iss.bools_inv q];rfl
theorem zsc(d:X.calm=true):qlb X (.builtin "all") xfg:=(zne d).imp λe H Q b=>by
 obtain⟨F,f,q,s,i,h,k⟩:=b
 match f,h,i with
 |[.list l],h,i =>
  obtain⟨v,rfl,j⟩:=qoe i;obtain⟨a,e,rfl,c,g⟩:=j.lst_inv;obtain⟨bs,rfl,m⟩:=h;rw[g.bools_inv]at c;exact⟨a,bs,rfl,s.seq c,k _ _ F H (.refl s) (qeu _) m⟩
end
def qcm(N:List Str)(ds:List Qj):Sto:=ds.map .val++Zf (N.length-ds.length) .non
theorem zgd:∀(ds:List Qj)(r:Sto)(j:Nat),gS (ds.map .val++r) j=match ds[j]? with|some d => .val d|none=>gS r (j-ds.length)
 |[],r,j=>by simp
 |i::a,r,0=>by simp[gS]
 |i::a,r,j+1=>by simp only[Qq,Qkg,gS,J7,Zg,Qgm];exact zgd a r j
theorem zox(h:vs[j]?=some v):vS (start N vs) j=some v:=by
 have a:=(Qp.mp h).1;unfold vS start;rw[Zv (by simpa using a),Qa,h];rfl
theorem qde{K:Qd}(s:Same F H)(i:Iss K F ds vs):EnvOk K ⟨H,H,F⟩ F H (qcm N ds) (start N vs) where
 len:=by simp[qcm,start,i.len]
 slot:=λj=>by
  unfold qcm;rw[zgd];cases h:ds[j]? with
  |none=>rw[qzy];trivial
  |some d =>
   obtain⟨x,e1,e2⟩:=i.get h;exact⟨x,zox e1,e2⟩
 dis:=λi j a _ h1=>by
  unfold qcm at h1;rw[zgd]at h1;cases h:ds[i]? with
  |none=>rw[h,qzy]at h1;cases h1
  |some d=>rw[h]at h1;cases h1
 f0 :=.refl _
 fe:=s
 fh:=s
 bh :=.refl _
 new:=λb o e => .inl e
 dom:=λb o e=>⟨o,e⟩
section
variable{P:Zw}{w:World}{K:Qd}{mg:Str->Option Value}{base:Heap}
theorem RetOk.is(I:EnvOk K ⟨H,H,F⟩ F' H' env σ)(h:RetOk K ⟨H,H,F⟩ F' H' r v):∃c,Go F H c H'/\Is K c r.data v:=by
 have g:=I.goOf;cases r with
 |val d=>exact⟨F',g,h⟩
 |new d=>exact⟨F',g,IsN.is qjr h⟩
 |own l =>
  obtain⟨a,f,rfl,i,j,m,n,k⟩:=h;have s:Same F' (upd F' a (.lst f)):=qbh j;refine⟨upd F' a (.lst f),⟨g.f.trans s,g.h,λb o e=>?_,λb o e=>?_⟩,qeq (SqL.of qk) (k.mono s)⟩
  ·by_cases z:b=a
   ·subst z;rw[qk]at e;rw[i];exact .of e
   ·rw[qi z]at e;exact g.fh b o e
  ·by_cases z:b=a
   ·grind
   ·rw[qi z]at e;exact g.new b o e
theorem Def.vok{st:Stmt}(F:Def K mg x st ps)(S:FnScope N ps (defScope st))(len:∀ds q,sp ds q->ds.length=ps.length)(b:∀(f:Addr)(a:Value)(A:Yk)(outer:List Env)(s:Qt)(H:Hp)(E:XK),Room k (A.deeper (Qcq x (defScope st) s.heap.objs.size f a)) ->∀ds q,sp ds q ->
 ∃W,VSs (qpe CX0 P w K mg base N x (defScope st) f a A outer s H E).nox (defBody st) W/\W { nx:=λ_=>q .none,rt:=λr _=>q r.data } (qcm N ds)):Ok P w K mg base x (k+1) ps (PSp K sp) :=
  F.ok S (λt H Q E c=>by obtain⟨F,ds,q,_,i,h,_⟩:=c;rw[i.len];exact len ds q h) λf a A outer s H t Q E u d=>by
   obtain⟨F,ds,q,y,i,h,o⟩:=d;obtain⟨W,z,B⟩:=b f a A outer s H E u ds q h;refine⟨_,z,⟨H,H,F⟩,qcm N ds,F,_,qde y i,B,⟨λC p e l m D n=>o _ _ p e m.goOf qud n,λr v C p e l m D G n=>?_,λ_ _ _ _ _ _ h=>h.elim,λ_ _ _ _ _ _ h=>h.elim⟩⟩;obtain⟨I,g,j⟩:=G.is m;exact o _ _ I e g j n
theorem Def.vokF{st:Stmt}(F:Def K mg x st ps)(S:FnScope N ps (defScope st))(len:∀ds q,sp ds q->ds.length=ps.length)(c:∀(f:Addr)(b:Value)(A:Yk)(outer:List Env)(s:Qt)(H:Hp)(E:XK),Room k (A.deeper (Qcq x (defScope st) s.heap.objs.size f b)) ->∀ds q,sp ds q ->
 ∃W,VSs (qpe CX0 P w K mg base N x (defScope st) f b A outer s H E).nox (defBody st) W/\W { nx:=λ_=>False,rt:=λr _ =>∃l,r = .own l/\q l } (qcm N ds)):Ok P w K mg base x (k+1) ps (FSp K sp) :=
  F.ok S (λj H Q E d=>by obtain⟨F,ds,q,_,i,h,_⟩:=d;rw[i.len];exact len ds q h) λf b A outer s H j Q E t e=>by
   obtain⟨F,ds,q,u,i,h,y⟩:=e;obtain⟨W,z,B⟩:=c f b A outer s H E t ds q h;refine⟨_,z,⟨H,H,F⟩,qcm N ds,F,_,qde u i,B,⟨λC n o m p D g=>g.elim,λr v C n o m p D G g=>?_,λ_ _ _ _ _ _ h=>h.elim,λ_ _ _ _ _ _ h=>h.elim⟩⟩;obtain⟨l,rfl,g⟩:=g;obtain⟨a,j,rfl,I,J,O,L,M⟩:=G;exact y l a j n o p.goOf L J I M g
def xbx(K:Qd):Sp:=λc H Q _ =>∃(a:Addr)(b:LI),c=[.ref a]/\SqL K H a (b.map V.int)/\b.length<=63 /\ ∀d,Q (.bl true) d
end
section
variable(K:Qd)
def zlr(W:WE):TE:=λe H R =>∃M b F Q,EnvOk K M F H b e/\W b Q /\ ∀d v c f a,EnvOk K M c f a e->Same F c->IsN K (qog M c) d v->Q d a->R v f
def zyw(W:WF):TE:=λe H R =>∃M c F Q,EnvOk K M F H c e/\W c Q /\ ∀a g h d f b,EnvOk K M d f b e->Same F d->f a=some (.lst g)->d a=none->M.B a=none->M.He a=none ->
 (∀i,(gS b i).mut=true->vS e i≠some (.ref a))->IssN K (qog M d) h g->Q h b->R (.ref a) f
def zrv(r:DC):List V->Hp->VK->Prop:=λe H Q =>∃F a q,Same F H/\Iss K F a e/\r a q /\ ∀d v b c,Go F H b c->IsN K (qog ⟨H,H,F⟩ b) d v->q d->Q v c
def qvi(sp:DC):Sp:=λa H Q _=>zrv K sp a H Q
structure EndsT(M:Frm)(DD:WEnds)(D:Ends):Prop where
 nx:∀env' F' H' σ',EnvOk K M F' H' env' σ'->DD.nx env'->D.nx σ' H'
 rt:∀r v env' F' H' σ',EnvOk K M F' H' env' σ'->RetOk K M F' H' r v->DD.rt r env'->D.rt v H'
 bk:∀env' F' H' σ',EnvOk K M F' H' env' σ'->DD.bk env'->D.bk σ' H'
 ct:∀env' F' H' σ',EnvOk K M F' H' env' σ'->DD.ct env'->D.ct σ' H'
def zqw(W:WS):TS:=λD c H =>∃M a F b,EnvOk K M F H a c/\W b a/\EndsT K M b D
end
def VN(X:Cx)(e:Expr)(W:WE):Prop:=PE X e (zlr X.K W)
def VFN(X:Cx)(e:Expr)(W:WF):Prop:=PE X e (zyw X.K W)
def VST(X:Cx)(st:Stmt)(W:WS):Prop:=PS X st (zqw X.K W)
def xgn(X:Cx)(st:List Stmt)(W:WS):Prop:=PSs X st (zqw X.K W)
def zrz:Qj->Bool
 |.none=>true
 |.bool _=>true
 |.int _=>true
 |.str _=>true
 |_=>false
theorem zzq{K:Qd}(h:zrz d=true)(i:Is K F d v):IsN K F' d v:=by
 cases d with
 |none=>exact i
 |bool b=>exact i
 |int b=>exact i
 |str b=>exact i
 |_=>cases h
theorem zie{K:Qd}:∀{ds:List Qj}{vs:List V},ds.all zrz=true->Iss K F ds vs->IssN K F' ds vs
 |[],_,_,i=>by rw[i.nil_inv];exact zmr
 |d::l,_,h,i=>by
  obtain⟨x,r,rfl,p,q⟩:=i.cons_inv;rw[Qfl,Yb]at h;exact zjt (zzq h.1 p) (zie h.2 q)
theorem EnvOk.newUp{K:Qd}(I:EnvOk K M F H env σ):Same (qog ⟨H,H,F⟩ F') (qog M F'):=λb o e=>by
 obtain⟨a,_,c⟩:=qtm e;exact .of (qqx (I.he a) (qB I.bh a) c)
section
variable{X:Cx}{a b e:Expr}{W:WE}{Wf:WF}{pos p:Pos}
def xcm(W:WE):WE:=λa Q=>W a λd e=>match d with |.list l=>l.all zrz=true/\Q (.tuple l) e|_=>False
theorem zvq(n:X.mg "tuple" = none)(q:VE X a W)(r:Gl X "tuple":=by rfl)(e:Qu [a] X.env=(false,eval a X.env)::Qu [] X.env:=by rfl)(f:(V5 pos (Qu [] X.env)).any (·.1)=false:=by rfl):
 VN X (.Call (.Name "tuple" p) [a] [] pos) (xcm W) :=
 (qhb qjw r n boot_tuple (qM (te:=qcq X.K W) q qbe e) (by decide) (by decide) e f).imp λx H R b=>by
  obtain⟨M,env,F,Q,I,h,k⟩:=b;refine⟨M,env,F,_,I,h,λd v y z s c t u i=>?_⟩;cases d with
  |list l =>
   obtain⟨a,j,rfl,e,w⟩:=u.lst_inv;refine⟨a,j,rfl,.inl ⟨c.fh.seq e,λp m=>?_⟩⟩;have g:=Go.put (o:=HO.tup j) c.fh m;refine k _ _ _ _ s (c.go g) (t.trans g.f) ?_ i.2;exact⟨p,j,rfl,qqx (c.he m) (qB c.bh m) qk,zie i.1 w⟩
  |_=>exact Zc i
theorem zxj(O:OkC X x k ps (qvi X.K sp))(m:Room k X.A)(n:VA X (e::es) Wr)(o:Gl X x:=by rfl)(b:Nd0 x:=by decide)(he:Qu (e::es) X.env=(false,eval e X.env)::Qu es X.env:=by rfl)(c:(V5 pos (Qu es X.env)).any (·.1)=false:=by rfl):VN X (.Call (.Name x p) (e::es) [] pos) (zep sp Wr) :=
 (zlv (t:=qlg X.K Wr) O m n o b he c).imp λi H R a=>by
  obtain⟨M,env,F,Q,I,h,k⟩:=a;have e:qvj (qvi X.K sp) [] E0 (qlg X.K Wr) i H R=qlg X.K Wr i H λj l=>zrv X.K sp j l R:=by unfold qvj qvi;simp only[Qak]
  rw[e];exact⟨M,env,F,_,I,h,λr j s l u f w y z=>⟨s,r,_,f.fh,y,z,λd v A B g C q=>k d v A B u (f.go g) (w.trans g.f) (C.mono f.newUp) q⟩⟩
theorem xgl(h:VN X e W):VE X e W:=PE.imp (t:=zlr X.K W) h λn H R a=>by
 obtain⟨M,b,F,Q,I,h,k⟩:=a;exact⟨M,b,F,_,I,h,λd v c f g i j l m=>k d v c f g i j (l.is qjr) m⟩
def xbp(W:WE):WS:=λD a=>W a λd e=>D.rt (.new d) e
theorem zss(he:VN X e W):VS X (.Return (some e) pos) (xbp W):=(qkr (te:=zlr X.K W) he).imp λD c H a=>by
 obtain⟨M,b,F,o,I,h,k⟩:=a;exact⟨M,b,F,_,I,h,λd v f g i j l m n=>k.rt (.new d) v i f g c j l m n⟩
end
section
variable{P:Zw}{w:World}{K:Qd}{mg:Str->Option Value}{base:Heap}
theorem Def.vokN{st:Stmt}(F:Def K mg x st ps)(S:FnScope N ps (defScope st))(len:∀ds q,sp ds q->ds.length=ps.length)(b:∀(f:Addr)(a:Value)(A:Yk)(outer:List Env)(s:Qt)(H:Hp)(E:XK),Room k (A.deeper (Qcq x (defScope st) s.heap.objs.size f a)) ->∀ds q,sp ds q ->
 ∃W,VSs (qpe CX0 P w K mg base N x (defScope st) f a A outer s H E).nox (defBody st) W/\W { nx:=λ_=>False,rt:=λr _ =>∃d,r = .new d/\q d } (qcm N ds)):Ok P w K mg base x (k+1) ps (qvi K sp) :=
  F.ok S (λo H Q E c=>by obtain⟨F,ds,q,_,i,h,_⟩:=c;rw[i.len];exact len ds q h) λf a A outer s H o Q E p e=>by
   obtain⟨F,ds,q,t,i,h,u⟩:=e;obtain⟨W,y,z⟩:=b f a A outer s H E p ds q h;refine⟨_,y,⟨H,H,F⟩,qcm N ds,F,_,qde t i,z,⟨λB l m j n C g=>g.elim,λr v B l m j n C D g=>?_,λ_ _ _ _ _ _ h=>h.elim,λ_ _ _ _ _ _ h=>h.elim⟩⟩;obtain⟨d,rfl,g⟩:=g;exact u d v l m n.goOf D g
end
section
variable{X:Cx}{c e:Expr}{Tc:WT}{W:WE}{Wt Wu:WS}{st:Stmt}{sts rest:List Stmt}{pos pos':Pos}
mutual
def zvd:Qj->Bool
 |.list _=>false
 |.tuple l=>qzn l
 |.dict _=>false
 |_=>true
def qzn:List Qj->Bool
 |[]=>true
 |d::l=>zvd d&&qzn l
end
mutual
theorem Is.imm{K:Qd}{F c:Hp}(s:∀b o,F b=some o->(∀xs,o≠.lst xs)->c b=some o):∀{d:Qj}{v:V},zvd d=true->Is K F d v->Is K c d v
 |.none,_,_,h=>by unfold Is at h ⊢;exact h
 |.bool _,_,_,h=>by unfold Is at h ⊢;exact h
 |.int _,_,_,h=>by unfold Is at h ⊢;exact h
 |.str _,_,_,h=>by unfold Is at h ⊢;exact h
 |.list l,_,m,h=>by unfold zvd at m;cases m
 |.dict l,_,m,h=>by unfold zvd at m;cases m
 |.tuple l,_,m,h=>by
  unfold zvd at m;unfold Is at h ⊢;obtain⟨a,xs,e,q,r⟩:=h;refine⟨a,xs,e,?_,Iss.imm s m r⟩;rcases q with(q|⟨o,q⟩)|q
  ·exact .inl (.inl (s _ _ q (λ_ z=>nomatch z)))
  ·exact .inl (.inr ⟨o,s _ _ q (λ_ z=>nomatch z)⟩)
  ·exact .inr q
theorem Iss.imm{K:Qd}{F a:Hp}(s:∀b o,F b=some o->(∀xs,o≠.lst xs)->a b=some o):∀{l:List Qj}{xs:List V},qzn l=true->Iss K F l xs->Iss K a l xs
 |[],_,_,h=>by unfold Iss at h ⊢;exact h
 |d::l,_,m,h=>by
  unfold qzn at m;rw[Yb]at m;unfold Iss at h ⊢;obtain⟨x,r,e,p,q⟩:=h;exact⟨x,r,e,Is.imm s m.1 p,Iss.imm s m.2 q⟩
end
end
section
variable{X:Cx}
def xgx:D2:=λx y q =>∃(i:Int)(a:LI),x = .int i/\qbf y=some (a.map .int)/\q (.bool (a.any (· == i)))
theorem qtt(i:Int):∀ns:LI,inV (.int i) (ns.map V.int)=ns.any (· == i)
 |[]=>rfl
 |n::ns=>by
  have:=qtt i ns;unfold inV at this ⊢;rw[Qq,Qbw,Qbw,this];rfl
theorem qwd(ns:LI):(ns.map V.int).all qpo=true:=by
 rw[Yc];intro x a;obtain⟨i,_,rfl⟩:=Ql.mp a;rfl
theorem zvy{ns:LI}(s:Same F H)(f:Is X.K F (.int i) x)(d:Is X.K F dy y)(e:qbf dy=some (ns.map .int))(q:Q (.bl (if neg then !ns.any (· == i)else ns.any (· == i))) H):rIn X.K neg x y H Q:=by
 rw[f.int_inv];cases dy with
 |list l =>
  cases e;obtain⟨a,g,rfl,b,c⟩:=d.lst_inv;rw[c.ints_inv]at b;exact⟨a,_,rfl,.inl (s.seq b),rfl,qwd ns,by rw[qtt];exact q⟩
 |tuple l =>
  cases e;obtain⟨a,g,rfl,b,c⟩:=d.tup_inv;rw[c.ints_inv]at b;exact⟨a,_,rfl,.inr (qab s b),rfl,qwd ns,by rw[qtt];exact q⟩
 |_=>cases e
theorem zxp:OpV X (Yo .In) xgx:=OpR.imp zjv λx y H Q a=>by
 obtain⟨F,g,h,q,s,b,c,⟨i,j,d,e,f⟩,k⟩:=a;subst d;exact zvy s b c e (k _ _ F H (.refl s) (qeu _) f)
end
section
variable{X:Cx}{elt target iter:Expr}{scope:Scope}{pos:Pos}{caps own:List Str}{ix:List Nat}{wi:TI}{g:TG}{te:TE}
theorem zhk{e c:Pos}(F:X.N.Nodup)(f:X.N[i]?=some y)(A:X.env.scope.names.lookup y=some .local)(j:Jz (.ListComp elt [⟨target,iter,[],0⟩] scope pos) (some (.Name y e)) c.line X.env=pure true)(G:X.calm=true)(S:CompScope X.env scope caps)(J:PI X target iter wi)(K:∀a k H ex,PG (blk X a scope (caps++own) k H ex) target g)(he:∀a k H ex,PE (blk X a scope (caps++own) k H ex) elt te)(l:caps.length=ix.length:=by rfl)(d:(caps.zip ix).all (λp=>X.N[p.2]?==some p.1)=true:=by rfl)(L:∀x,Z3 iter X.env x=pure x:=by intro _;rfl):PS X (.Assign [.Name y e] (.ListComp elt [⟨target,iter,[],0⟩] scope pos) c) (zxt (zmb ix own.length wi g te) (zey i)):=by
  intro a s M H D I h;rw[Qhc _ _ _ _ j];refine Qg (Qcl (Qg ?_));refine Qg (thn (qsp (use:=some (Qfy (.Name y e) X.env)) (Q0:=λ_ s'=>SP X a D .next s') G S J K he l d L I h λN C O P Q m B R T c3 U V W q=>?_) (λ_ s' Y=>Qy (Qy Y)));obtain⟨n,r,t,Z,u,rC⟩:=id m;have w:Inv X (a++[(C,n)]) M P O:=B.pins_of λp hp=>by
   rcases Zh.mp hp with z|z
   ·exact B.pin p (Qz _ z)
   grind
  refine Qfi (qjg w F f (Vn A) (v :=.ref N) rfl (λs7 E=>?_) (.inr A));have gC:=(E.pin (C,n) (Qz _ (Qz _ (Q6.mpr rfl)))).1;refine⟨Q,⟨n,r,t,gC,u,rC⟩,λh' sb=>?_⟩;exact⟨_,_,E.unpinned.turned (t':=s7.toks) (it:=C) (λb o hb q=>sb.extBut b o hb q) R T U V W,q⟩
end
section
variable{K:Qd}{ix:List Nat}{n:Nat}{Wi:WF}{G:WG}{We:WE}{σ:St}{H:Hp}{R:VK}
end
section
variable{X:Cx}{elt target iter:Expr}{scope:Scope}{pos py spos:Pos}{caps own:List Str}{ix:List Nat}{Wi:WF}{G:WG}{We:WE}{i:Nat}{y:Str}
theorem qza(l:X.N.Nodup)(m:X.calm=true)(S:CompScope X.env scope caps)(n:VI X target iter Wi)(o:∀b d H ex,VG (blk X b scope (caps++own) d H ex) target G)(he:∀b d H ex,VE (blk X b scope (caps++own) d H ex) elt We)(e:X.N[i]?=some y:=by rfl)(q:X.env.scope.names.lookup y=some .local:=by rfl)(f:Jz (.ListComp elt [⟨target,iter,[],0⟩] scope pos) (some (.Name y py)) spos.line X.env=pure true:=by rfl)(j:caps.length=ix.length:=by rfl)(c:(caps.zip ix).all (λp=>X.N[p.2]?==some p.1)=true:=by rfl)(r:∀x,Z3 iter X.env x=pure x:=by intro _;rfl):
  VS X (.Assign [.Name y py] (.ListComp elt [⟨target,iter,[],0⟩] scope pos) spos) (xaw i (wL (zma ix own.length Wi G We))) :=
  (zhk (wi:=qve X.K Wi) (g:=qro X.K G) (te:=qcq X.K We) l e q f m S n o he j c r).imp λD K H ⟨M,env,F,L,I,h,k⟩=>qno ⟨M,env,F,_,I,h,λa N O P t Q u v w z R A B C E=>by
   obtain⟨J,s⟩:=u.frz w z A B;exact k.nx _ _ t _ (J.setv (qeq (SqL.of qk) (C.mono s))) (v.trans s) E⟩
theorem qtz(l:X.N.Nodup)(m:X.calm=true)(S:CompScope X.env scope caps)(n:VI X target iter Wi)(o:∀b d H ex,VG (blk X b scope (caps++own) d H ex) target G)(he:∀b d H ex,VE (blk X b scope (caps++own) d H ex) elt We)(e:X.N[i]?=some y:=by rfl)(q:X.env.scope.names.lookup y=some .local:=by rfl)(f:Jz (.ListComp elt [⟨target,iter,[],0⟩] scope pos) (some (.Name y py)) spos.line X.env=pure true:=by rfl)(j:caps.length=ix.length:=by rfl)(c:(caps.zip ix).all (λp=>X.N[p.2]?==some p.1)=true:=by rfl)(r:∀x,Z3 iter X.env x=pure x:=by intro _;rfl):
  VS X (.Assign [.Name y py] (.ListComp elt [⟨target,iter,[],0⟩] scope pos) spos) (zxm i (zma ix own.length Wi G We)) :=
  (zhk (wi:=qve X.K Wi) (g:=qro X.K G) (te:=qcq X.K We) l e q f m S n o he j c r).imp λD K H ⟨M,env,F,L,I,h,k⟩=>qno ⟨M,env,F,_,I,h,λa N O s t P u v w z A B C E J =>
   k.nx _ s t _ (u.seto w z A B C E) v J⟩
end
def Its(lo c:Int)(n:Nat):It:=⟨λi _=>i<n,λi H x a=>a=H/\x = .int (lo+i*c),λi _=>n<=i⟩
theorem zau{K:Qd}(it:Addr)(lo c:Int)(n:Nat):Turn P w K tg (Its lo c n) [it] it (λi h=>IsRangeIter h it (lo+(i:Nat)*c) ((n:Int)-(i:Nat)) c) where
 mem:=by simp
 obj:=λi h st b hb=>by
  grind
 keep:=λi h h' st k=>k it (by simp) _ st
 item:=by
  intro X hP hw hK hc i pins s σ H E I hf st hg;subst hP hw hK;obtain⟨f0,f1,f2,f3,f4,f5⟩:=hf it (by simp);have W:=Qma (prog:=X.prog) (w:=X.w) (I.ok.hd hc) it lo c n;refine W.item i s _ _ hg st λv h' tk hv st' kk=>?_;obtain⟨t,rfl⟩:=hv;have I1:Inv X pins σ H { s with heap:=h',toks:=tk }:=I.turned (λb o hb e=>kk b o (by grind) e) f0 f1 f3 f4 f5;exact⟨_,rfl,zmc (s:={ s with heap:=h',toks:=tk }) (n := "range_iterator") st' rfl rfl (by decide) ⟨.int (lo+i*c),H,I1,⟨t,rfl⟩,⟨rfl,rfl⟩,st',λb hb=>(hf b hb).1⟩⟩
 done:=by
  intro X hP hw hK hc i pins s σ H E I hf st hg;subst hP hw hK;obtain⟨f0,f1,f2,f3,f4,f5⟩:=hf it (by simp);exact Qge (I.ok.hd hc) st (by have:n<=i:=hg;omega) λh' eb=>⟨rfl,I.turned (t':=s.toks) (λb o hb e=>eb b o hb e) f0 f1 f3 f4 f5⟩
 self:=λ_ _ _ _ _ st h=>Qgd st h
section
variable{X:Cx}{tg:Expr}
theorem zju{d:St}{lo a c:Int}{n:Nat}(I:Inv X pins d H s)(f:Qec lo a c=true)(h:Yw lo a c=(n:Int))(q:R (Its lo c n) H):wpAny (model X.prog X.w) X.A (pyIter (.ref s.heap.objs.size)) (PIE X pins d tg R) E { s with heap:=s.heap.push { cls :=.type "range",data :=.fields #[.int lo t,.int a u,.int c v] },toks:=tk }:=by
  refine wpAny_pyIter_range (Qmb ..) f ?_;have g:Inv X pins d H { s with heap:=s.heap.push { cls :=.type "range",data :=.fields #[.int lo t,.int a u,.int c v] },toks:=tk }:=I.kept λb o e=>Qi _ e;refine⟨(s.heap.push { cls :=.type "range",data :=.fields #[.int lo t,.int a u,.int c v] }).objs.size,[(s.heap.push { cls :=.type "range",data :=.fields #[.int lo t,.int a u,.int c v] }).objs.size],_,_,H,rfl,
   g.kept (t':=tk) λb o e=>Qi _ e,zau _ lo c n,?_,λb k=>?_,q⟩
  ·have i:lo+((0:Nat):Int)*c=lo:=by simp
   have j:(n:Int)-((0:Nat):Int)=Yw lo a c:=by rw[h];simp
   rw[i,j];exact Qx _ rfl
  ·have e:b=(s.heap.push { cls :=.type "range",data :=.fields #[.int lo t,.int a u,.int c v] }).objs.size:=by grind
   subst e;exact g.fpOk (Qs _) (g.hok.fresh (Qs _))
structure Rng3(i j c:Int)(n:Nat):Prop where
 nz:c≠0
 cs:c.natAbs<1073741824
 sm:Qec i j c=true
 n:Yw i j c=(n:Int)
def xcx(a:TA):TI:=λb H R=>a b H λd e =>∃(i j c:Int)(n:Nat),d=[.int i,.int j,.int c]/\Rng3 i j c n/\R (Its i c n) e
theorem zjq{p pos:Pos}(m:Gl X "range")(o:X.mg "range" = none)(u:PA X [a,b,c] ta)(v:Qu [a,b,c] X.env=[(false,eval a X.env),(false,eval b X.env),(false,eval c X.env)]:=by rfl)(f:Qu [b,c] X.env=[(false,eval b X.env),(false,eval c X.env)]:=by rfl):
 PI X tg (.Call (.Name "range" p) [a,b,c] [] pos) (xcx ta):=by
 intro g s w H R I h;refine Call_ (qik I m o boot_range (Vd (thn (u pos g s w H _ I h) λC D d=>?_) (by rw[v,f]) (by rw[f];rfl)));obtain⟨E,F,x,y,z⟩:=d;obtain⟨i,j,c,n,e,l,q⟩:=z;subst e;cases y with
 |cons r k =>
  cases k with
  |cons A k =>
   cases k with
   |cons B k =>
    cases k;obtain⟨t,rfl⟩:=r;obtain⟨G,rfl⟩:=A;obtain⟨J,rfl⟩:=B;exact call_range_3 l.nz (zju x l.sm l.n q) (.inl (PyProof.noPylong_small l.cs))
def zmi(lo c:Int)(n:Nat):List Qj:=(Qm n).map λ(k:Nat) => .int (lo+(k:Int)*c)
theorem qms(lo c:Int)(n:Nat):(zmi lo c n).length=n:=by simp[zmi]
theorem zdf{lo c:Int}(h:i<n):(zmi lo c n)[i]?=some (.int (lo+i*c)):=by simp[zmi,h]
theorem znm{lo c:Int}(h:(zmi lo c n)[i]?=some d):i<n/\d = .int (lo+i*c):=by
 grind[qms,zdf,Qr]
theorem znp{K:Qd}{lo c:Int}:ItD K (Its lo c n) F (zmi lo c n) where
 go:=λi H s hi=>by rw[qms]at hi;exact hi
 stop:=λH s=>by rw[qms];exact Qs _
 yld:=λi H x H' F1 s1 s2 hi hy=>by
  obtain⟨rfl,rfl⟩:=hy;rw[qms]at hi;exact⟨_,F1,zdf hi,.refl s2,qZ _⟩
def xfm(b d f:WE):WF:=λa Q=>b a λx g=>d g λy h=>f h λz e=>match x,y,z with
 |.int i,.int j,.int c =>∃n,Rng3 i j c n/\Q (zmi i c n) e
 |_,_,_=>False
theorem zkp{p pos:Pos}(q:X.mg "range" = none)(r:VE X a Wa)(s:VE X b Wb)(t:VE X c Wc)(u:Gl X "range":=by rfl)(w:Qu [a,b,c] X.env=[(false,eval a X.env),(false,eval b X.env),(false,eval c X.env)]:=by rfl)(g:Qu [b,c] X.env=[(false,eval b X.env),(false,eval c X.env)]:=by rfl)(l:Qu [a,b,c] X.env=(false,eval a X.env)::Qu [b,c] X.env:=by rfl)(m:Qu [b,c] X.env=(false,eval b X.env)::Qu [c] X.env:=by rfl)(o:Qu [c] X.env=(false,eval c X.env)::Qu [] X.env:=by rfl):
 VI X tg (.Call (.Name "range" p) [a,b,c] [] pos) (xfm Wa Wb Wc) :=
 (zjq u q (qM (te:=qcq X.K Wa) r (qM (te:=qcq X.K Wb) s (qM (te:=qcq X.K Wc) t qbe o) m) l) w g).imp λZ H R e=>by
  obtain⟨M,env,F,Q,I,h,k⟩:=e;refine⟨M,env,F,_,I,h,λd v x H1 y z A B C=>⟨M,y,x,_,z,C,λD v2 E H2 G J K L N=>⟨M,G,E,_,J,N,λd3 v3 O P S T U V f=>?_⟩⟩⟩;cases d with
  |int i=>cases D with
   |int j=>cases d3 with
    |int c =>
     obtain⟨n,W,Y⟩:=f;exact⟨i,j,c,n,by rw[B.int_inv,L.int_inv,V.int_inv],W,k _ _ O P S T (A.trans (K.trans U)) znp Y⟩
    |_=>exact Zc f
   |_=>exact Zc f
  |_=>exact Zc f
end
def qwu(H:Hp)(a:Addr):Hp:=λb=>if b=a then none else H b
section
variable{X:Cx}
end
section
variable{P:Zw}{w:World}{K:Qd}{mg:Str->Option Value}{base:Heap}
end
section
variable{X:Cx}{elt target iter:Expr}{scope:Scope}{pos py spos:Pos}{caps own:List Str}{ix:List Nat}{Wi:WF}{G:WG}{We:WE}{i i0 j0:Nat}{y:Str}
end
section
variable{X:Cx}{pins:List (Addr×Obj)}{σ:St}{H:Hp}{s:Qt}
end
section
variable{P:Zw}{w:World}{K:Qd}{mg:Str->Option Value}{base:Heap}{N:List Str}{qual:Str}{scope:Scope}{f:Addr}{cd:Value}{A:Yk}{outer:List Env}{s:Qt}{H:Hp}{E:XK}
end
section
variable{X:Cx}{x:Str}{C:Addr}{E:XK}{e:Expr}{es:List Expr}{t:TA}{np cpos pos:Pos}
end
section
variable{M:Model}{A:Yk}{E:Value->Qt->Prop}{C N C' N':Addr}{nm nm' q q':Str}{bs bm bs' bm':List Value}
end
section
variable{X:Cx}{pins:List (Addr×Obj)}{σ:St}{H1 H2:Hp}{s1 s':Qt}{B h5:Heap}
end
section
variable{X:Cx}{pins:List (Addr×Obj)}{σ:St}{H:Hp}{s:Qt}
end
section
variable{X:Cx}{pins pins0:List (Addr×Obj)}{σ:St}{H:Hp}{s:Qt}
end
section
variable{X:Cx}{body suite:List Stmt}{b₀:Stmt}{x n:Str}{np hpos pos:Pos}{C':Addr}{i:Nat}{tb:(St->XK)->TS}{ts:TS}
end
section
variable{K:Qd}{M:Frm}{F H:Hp}{env:Sto}{σ:St}
theorem EnvOk.sets(I:EnvOk K M F H env σ)(m:s.mut=false)(h:SlotOk K M F H s v):EnvOk K M F H (env.set i s) (σ.set i v) where
 len:=by rw[Ve,Ve];exact I.len
 slot:=λj=>by
  rw[qdz,qpx,I.len];split
  ·exact h
  ·exact I.slot j
 dis:=λj k a hjk h1 h2 h3 h4=>by
  rw[qdz]at h1 h2;rw[qpx]at h3 h4;rw[I.len]at h1 h2;split at h1
  ·grind
  ·rename_i z1;split at h2
   ·grind
   ·rename_i z2;rw[if_neg z1]at h3;rw[if_neg z2]at h4;exact I.dis j k a hjk h1 h2 h3 h4
 f0:=I.f0
 fe:=I.fe
 fh:=I.fh
 bh:=I.bh
 new:=I.new
 dom:=I.dom
end
abbrev WX:=Addr->Sto->Prop
def xds(K:Qd)(M:Frm)(F:Hp)(e:WX)(f:St->XK):Prop :=∀C a c d b,EnvOk K M c d a b->Same F c->e C a->f b (.ref C) none d
def xac(K:Qd)(h:St->XK)(W:WX->WE):TE:=λe H R =>∃M b F f Q,EnvOk K M F H b e/\W f b Q/\xds K M F f h /\ ∀d v c g a,EnvOk K M c g a e->Same F c->Is K c d v->Q d a->R v g
def zra(K:Qd)(d:St->XK)(W:WX->WS):TS:=λD e H =>∃M a F b c,EnvOk K M F H a e/\W b c a/\xds K M F b d/\EndsOk K M F c D
def VEX(X:Cx)(a:St->XK)(e:Expr)(W:WX->WE):Prop:=PE X e (xac X.K a W)
def VSX(X:Cx)(a:St->XK)(st:Stmt)(W:WX->WS):Prop:=PS X st (zra X.K a W)
def xgk(X:Cx)(a:St->XK)(st:List Stmt)(W:WX->WS):Prop:=PSs X st (zra X.K a W)
abbrev DE:=List Qj->(Qj->Prop)->(Addr->Prop)->Prop
section
variable{X:Cx}{Ex:St->XK}{x:Str}{k:Nat}{ps:List Str}{sp:DE}{e c:Expr}{es:List Expr}{p pos:Pos}{Wr:WF}{st:Stmt}{rest A B:List Stmt}{Tc:WT}{W:WX->WE}{Wt Wu:WX->WS}{W0:WS}
end
section
variable{X:Cx}{Ex:St->XK}{E:XK}{x y n:Str}{k i j:Nat}{ps:List Str}{sp:DE}{e:Expr}{es:List Expr}{p np cpos hpos pos pos':Pos}{Wr:WF}{st b₀:Stmt}{body suite:List Stmt}{C C':Addr}{Wb:WX->WS}{Ws:WS}
end
section
variable{P:Zw}{w:World}{K:Qd}{mg:Str->Option Value}{base:Heap}
end
section
variable{prog:Zw}{w:World}{A:Yk}{E:Value->Qt->Prop}{h:Heap}{g:Array GenState}{d:Drawn}{t:Nat}{os:OsState}{a:Addr}{o:Obj}{K:Qd}{nm q:Str}{C N:Addr}{bs bm:List Value}{hdct:Bool}{sn:List Str}{sub:List Value}{ab:Bool}{col:Option Bool}{dd:Option Addr}{k0 k1 k2 k3 k5:Option Value}{newId:String}
end
section
variable{X:Cx}
section
variable{y:Str}{c:Expr}{cs:List Expr}{v:V}{vs:List V}{u:Value}{us:List Value}{p py pt pos:Pos}{x1:Nat}
end
end
section
variable{prog:Zw}{w:World}{A:Yk}{E:Value->Qt->Prop}{s:Qt}
def SqIt(b:Bool)(h:Heap)(j l:Addr)(i:Nat):Prop:=match b with
 |true=>h.IsTupleIter j l i
 |false=>h.IsListIter j l i
def SqOf(b:Bool)(h:Heap)(l:Addr)(us:Array Value):Prop:=match b with
 |true=>h.IsTuple l us
 |false=>h.IsList l us
def xeq:Bool->String
 |true => "tuple_iterator"
 |false => "list_iterator"
abbrev itO(b:Bool)(l:Addr):Obj:={ cls :=.type (xeq b),data :=.fields #[.ref l,.int 0 0] }
theorem SqIt.at'(x:SqIt b h j l i)(e:∀o,h.get? j=some o->h'.get? j=some o):SqIt b h' j l i:=by
 cases b with
 |true=>exact Heap.IsTupleIter.at x e
 |false=>exact Heap.IsListIter.at x e
theorem SqIt.but(x:SqIt b h j l i)(e:Vl c h h')(n:j≠c):SqIt b h' j l i:=x.at' λo q=>e.extBut j o n q
theorem SqIt.obj(x:SqIt b h j l i):∃o,h.get? j=some o /\ ∀v,o.data≠.cell v:=by
 cases b with
 |true=>obtain⟨o,q,_,d⟩:=x;grind
 |false=>obtain⟨o,q,_,d⟩:=x;grind
theorem SqOf.at'(x:SqOf b h l us)(e:∀o,h.get? l=some o->h'.get? l=some o):SqOf b h' l us:=by
 cases b with
 |true=>obtain⟨o,q,r⟩:=x;exact⟨o,e o q,r⟩
 |false=>exact Heap.IsList.at x e
theorem SqOf.but(x:SqOf b h l us)(e:Vl c h h')(n:l≠c):SqOf b h' l us:=x.at' λo q=>e.extBut l o n q
theorem SqOf.lt(x:SqOf b h l us):l<h.objs.size:=by
 cases b with
 |true=>obtain⟨o,q,_⟩:=x;exact Qw q
 |false=>obtain⟨o,q,_⟩:=x;exact Qw q
theorem zps(c:s.heap.IsTupleIter j t k)(d:s.heap.IsTuple t us)(e:us[k]?=some u)(q:∀h',h'.IsTupleIter j t (k+1)->Vl j s.heap h'->Q u { s with heap:=h' }):wpAny (model prog w) A (Jm (.ref j)) Q E s:=by
  obtain⟨i,b,f,a⟩:=id c;obtain⟨l,g,_,m,h⟩:=d;refine Qg (Yz (name:=Qam "__next__") c.typeIs Jf (Y8 Jf c.typeIs Qed ?_ (Qdr _)));show wpAny _ _ (field (.ref j) 0 >>= _) _ _ s;refine Qg (Vs b a (x :=.ref t) rfl ?_);rw[if_neg (λz:(Y6 t==Jr)=true=>Yi z)];refine Qg (Vs b a (x :=.int k 0) rfl ?_);refine Qg (Jp g h ?_);simp only[Yx,e];refine Qg (Qew b a (by simp) (Qy ⟨u,rfl,Qy (q _ ?_ (Vr ..))⟩));exact⟨_,Qal _ b (Qgn (Qbz a _)),(Qje ..).trans f,by rw[Qbz a];simp[Qeo]⟩
theorem zui(f:A.handled=none)(b:s.heap.IsTupleIter j t k)(g:s.heap.IsTuple t us)(h:us[k]?=none)(q:∀h' e,Qkt j s.heap h'->(∃o,h'.get? e=some o/\o.cls = .type "StopIteration")->E (.ref e) { s with heap:=h' }):wpAny (model prog w) A (Jm (.ref j)) Q E s:=by
  obtain⟨n,c,p,d⟩:=id b;obtain⟨r,i,_,u,l⟩:=g;refine Qg (Yz (name:=Qam "__next__") b.typeIs Jf (Y8 Jf b.typeIs Qed ?_ (Qdr _)));show wpAny _ _ (field (.ref j) 0 >>= _) _ _ s;refine Qg (Vs c d (x :=.ref t) rfl ?_);rw[if_neg (λz:(Y6 t==Jr)=true=>Yi z)];refine Qg (Vs c d (x :=.int k 0) rfl ?_);refine Qg (Jp i l ?_);simp only[Yx,h];refine Qg (Qfj (Qg (Qew c d (by simp) ?_)));refine Qg (?_:wpAny _ _ (newExc (.type "StopIteration") []) _ _ _);simp only[newExc,newTuple];refine Qg (Qay (?_:_) (by size_fits));refine Qg (m:=firstArgMember _ _) (wpAny_of_eq (a:=Jr) (by first|rfl|grind|skip) ?_);refine Qay (?_:_) (by size_fits);simp only[raiseNew];refine Qg (wpAny_handled (?_:_))
  first|rw[f]|grind
  refine Qg (Qy (wpAny_throw (?_:_)));exact q _ _ (((Vr ..).extBut.push _).push _) ⟨_,Qx _ rfl,rfl⟩
theorem qtk(a:SqIt b s.heap j l k)(c:SqOf b s.heap l us)(d:us[k]?=some u)(q:∀h',SqIt b h' j l (k+1)->Vl j s.heap h'->Q u { s with heap:=h' }):wpAny (model prog w) A (Jm (.ref j)) Q E s:=by
  cases b with
  |true=>exact zps a c d q
  |false=>exact wpAny_nextOf_list_item a c d q
theorem zik(a:A.handled=none)(c:SqIt b s.heap j l k)(d:SqOf b s.heap l us)(f:us[k]?=none)(q:∀h' e,Qkt j s.heap h'->(∃o,h'.get? e=some o/\o.cls = .type "StopIteration")->E (.ref e) { s with heap:=h' }):wpAny (model prog w) A (Jm (.ref j)) Q E s:=by
  cases b with
  |true=>exact zui a c d f q
  |false=>exact wpAny_nextOf_list_end a c d f q
theorem zic(a:SqOf b s.heap l us)(q:Q (.ref s.heap.objs.size) { s with heap:=s.heap.push (itO b l) }):wpAny (model prog w) A (pyIter (.ref l)) Q E s:=by
 cases b with
 |true=>exact Qep a q
 |false=>exact Qaz a q
theorem zod{z TI TO g h t B:Addr}{Q:Value->Qt->Prop}(D:Qko z TI TO g h t B)(k:IsZip s.heap z TI TO .none)(X:Qdc s.heap TI (.ref g) (.ref h))(Y:Qdc s.heap TO x0 y0)(Z:SqIt b s.heap g t k1)(e2:SqIt c s.heap h B k2)(g1:SqOf b s.heap t us)(g2:SqOf c s.heap B vs)(hu:us[k1]?=some u)(hv:vs[k2]?=some v)(q:∀h',IsZip h' z TI TO (Qeo s.heap.objs.size)->Qdc h' TO u v->SqIt b h' g t (k1+1)->SqIt c h' h B (k2+1)->Qdc h' s.heap.objs.size u v->h'.objs.size=s.heap.objs.size+1 ->
 (∀a o,a≠z->a≠TO->a≠g->a≠h->s.heap.get? a=some o->h'.get? a=some o)->Q (.ref s.heap.objs.size) { s with heap:=h' }):
  wpAny (model prog w) A (Builtin.«zip.__next__» ⟨[.ref z],[]⟩) (λr s' =>∃y,r = .done (.ret y)/\Q y s') E s:=by
  show wpAny _ _ (field (.ref z) 2 >>= _) _ _ _;refine Qg (Vs k rfl (x :=.bool false) rfl ?_);refine Qg (Vs k rfl (x :=.ref TI) rfl ?_);refine Qg (Jp X rfl ?_);refine Qg (?_:wpAny _ _ (Qbo (.ref z)) _ _ _);refine Qg (Vs k rfl (x :=.none) rfl (Qy ?_));simp only[if_true];refine Qg (Qfj (?_:_));refine Qg (Vs k rfl (x :=.ref TO) rfl ?_);refine Qg (Jl k (by simp) λp1 K f=>?_);replace K:IsZip p1 z TI TO .ellipsis:=K
  refine Qg (?_:_);simp only[Qkh,Qku,Qgo,Qet];refine Qg (Qg (Qfs (?_:_)));refine Qg (qtk (Z.but f D.i1z) (g1.but f D.l1z) hu λp2 f1 i=>Qy ?_);have S:=i.extBut _ _ D.TOi1 (f.extBut _ _ D.TOz Y);refine Qg (Jp S rfl ?_);refine Qg (Qdq S λp3 L j=>?_);replace L:Qdc p3 TO u y0:=L
  refine Qg (Qif (Qy (?_:_)));refine Qg (Qg (Qfs (?_:_)));refine Qg (qtk (((e2.but f D.i2z).but i D.i12.symm).but j D.TOi2.symm) (((g2.but f D.l2z).but i D.l2i1).but j D.l2TO) hv λp4 f2 l=>Qy ?_);have T:=l.extBut _ _ D.TOi2 L;refine Qg (Jp T rfl ?_);refine Qg (Qdq T λd C m=>?_);replace C:Qdc d TO u v:=C
  refine Qg (Qif (Qy (Qy (?_:_))));refine Qg (Jp C rfl ?_);refine Qg (wpAny_newTuple (?_:_));have sz:d.objs.size=s.heap.objs.size:=by rw[m.1,l.1,j.1,i.1,f.1]
  have U:=m.extBut _ _ D.TOz.symm (l.extBut _ _ D.i2z.symm (j.extBut _ _ D.TOz.symm (i.extBut _ _ D.i1z.symm K)));have k5:∀a o,a≠z->a≠TO->a≠g->a≠h->s.heap.get? a=some o->d.get? a=some o:=λa o F G M N e =>
   m.extBut _ _ G (l.extBut _ _ N (j.extBut _ _ G (i.extBut _ _ M (f.extBut _ _ F e))))
  have f5:=((f1.but j D.TOi1.symm).but l D.i12).but m D.TOi1.symm;have f6:=f2.but m D.TOi2.symm;have p:=Qw U;refine Qg (?_:wpAny _ _ (Qhw (.ref z) (.ref d.objs.size)) _ _ _);have b6:IsZip (d.push { cls :=.type "tuple",data :=.seq #[u,v] }) z TI TO .ellipsis:=Qi _ U;refine Qg (Jl b6 (by simp) λp7 O P=>?_);replace O:IsZip p7 z TI TO (Qeo d.objs.size):=O
  refine Jl O (by simp) λH I R=>?_;replace I:IsZip H z TI TO (Qeo d.objs.size):=I
  have J:∀a o,a≠z->d.get? a=some o->H.get? a=some o:=λa o n e=>R.extBut _ _ n (P.extBut _ _ n (Qi _ e));have V:=R.extBut _ _ (Yt p) (P.extBut _ _ (Yt p) (Qx _ rfl));have W:H.objs.size=d.objs.size+1:=by rw[R.1,P.1,Z5]
  rw[sz]at I V W;refine Qy ⟨_,rfl,(?_:Q (.ref d.objs.size) _)⟩;rw[sz];exact q H I (J _ _ D.TOz C) (f5.at' λo e=>J _ o D.i1z e) (f6.at' λo e=>J _ o D.i2z e) V W λa o F G M N e=>J a o F (k5 a o F G M N e)
theorem ztd{z TI TO j k m n:Addr}(B:A.handled=none)(D:Qko z TI TO j k m n)(h:IsZip s.heap z TI TO .none)(L:Qdc s.heap TI (.ref j) (.ref k))(M:Qdc s.heap TO x0 y0)(C:SqIt b s.heap j m k1)(N:SqIt c s.heap k n k2)(F:SqOf b s.heap m us)(g2:SqOf c s.heap n vs)(G:us[k1]?=none\/vs[k2]?=none)(q:∀h' e,(∀a o,a≠z->a≠TO->a≠j->a≠k->s.heap.get? a=some o->h'.get? a=some o)->(∃o,h'.get? e=some o/\o.cls = .type "StopIteration")->E (.ref e) { s with heap:=h' }):
  wpAny (model prog w) A (Builtin.«zip.__next__» ⟨[.ref z],[]⟩) Q E s:=by
  show wpAny _ _ (field (.ref z) 2 >>= _) _ _ _;refine Qg (Vs h rfl (x :=.bool false) rfl ?_);refine Qg (Vs h rfl (x :=.ref TI) rfl ?_);refine Qg (Jp L rfl ?_);refine Qg (?_:wpAny _ _ (Qbo (.ref z)) _ _ _);refine Qg (Vs h rfl (x :=.none) rfl (Qy ?_));simp only[if_true];refine Qg (Qfj (?_:_));refine Qg (Vs h rfl (x :=.ref TO) rfl ?_);refine Qg (Jl h (by simp) λO l d=>?_);replace l:IsZip O z TI TO .ellipsis:=l
  refine Qg (?_:_);simp only[Qkh,Qku,Qgo,Qet];refine Qg (Qg (Qfs (?_:_)));cases hu:us[k1]? with
  |none =>
   refine Qg (zik B (C.but d D.i1z) (F.but d D.l1z) hu λP e f he=>?_);obtain⟨p,r,t⟩:=he;have R:=f _ _ D.i1z.symm l;have v:e≠z:=λx=>by grind
   exact Jl R (by simp) λH _ g=>q H e (λa o i _ y _ x=>g.extBut _ _ i (f _ _ y (d.extBut _ _ i x))) ⟨p,g.extBut _ _ v r,t⟩
  |some u =>
   have S:vs[k2]?=none:=by
    grind
   refine Qg (qtk (C.but d D.i1z) (F.but d D.l1z) hu λP X f=>Qy ?_);have I:=f.extBut _ _ D.TOi1 (d.extBut _ _ D.TOz M);refine Qg (Jp I rfl ?_);refine Qg (Qdq I λH Y g=>?_);refine Qg (Qif (Qy (?_:_)));refine Qg (Qg (Qfs (?_:_)));refine Qg (zik B (((N.but d D.i2z).but f D.i12.symm).but g D.TOi2.symm) (((g2.but d D.l2z).but f D.l2i1).but g D.l2TO) S λZ e J he=>?_);obtain⟨p,r,t⟩:=he;have T:=J _ _ D.i2z.symm (g.extBut _ _ D.TOz.symm (f.extBut _ _ D.i1z.symm l));have v:e≠z:=λx=>by grind
   exact Jl T (by simp) λU _ K=>q U e (λa o i V y W x=>K.extBut _ _ i (J _ _ W (g.extBut _ _ V (f.extBut _ _ y (d.extBut _ _ i x))))) ⟨p,K.extBut _ _ v r,t⟩
theorem zot{z TI TO d e f g:Addr}(D:Qko z TI TO d e f g)(h:IsZip s.heap z TI TO .none)(j:Qdc s.heap TI (.ref d) (.ref e))(k:Qdc s.heap TO x0 y0)(l:SqIt b s.heap d f k1)(m:SqIt c s.heap e g k2)(n:SqOf b s.heap f us)(g2:SqOf c s.heap g vs)(p:us[k1]?=some u)(r:vs[k2]?=some v)(q:∀h',IsZip h' z TI TO (Qeo s.heap.objs.size)->Qdc h' TO u v->SqIt b h' d f (k1+1)->SqIt c h' e g (k2+1)->Qdc h' s.heap.objs.size u v->h'.objs.size=s.heap.objs.size+1 ->
 (∀a o,a≠z->a≠TO->a≠d->a≠e->s.heap.get? a=some o->h'.get? a=some o)->Q (some (.ref s.heap.objs.size)) { s with heap:=h' }):
  wpAny (model prog w) A (Qjy (.ref z)) Q E s:=by
  have i:s.TypeIs (.ref z) "zip":=⟨_,h,rfl⟩
  exact Qg (Qdx (Yz (name:=Qam "__next__") i Qee (Y8 Qee i Qki
   (zod D h j k l m n g2 p r λh' t x y B C F G=>Qy (q h' t x y B C F G)) (Qjf _))))
theorem ztb{z TI TO f g h i:Addr}(l:A.handled=none)(D:Qko z TI TO f g h i)(j:IsZip s.heap z TI TO .none)(m:Qdc s.heap TI (.ref f) (.ref g))(n:Qdc s.heap TO x0 y0)(p:SqIt b s.heap f h k1)(r:SqIt c s.heap g i k2)(t:SqOf b s.heap h us)(g2:SqOf c s.heap i vs)(d:us[k1]?=none\/vs[k2]?=none)(q:∀h',(∀a o,a≠z->a≠TO->a≠f->a≠g->s.heap.get? a=some o->h'.get? a=some o)->Q none { s with heap:=h' }):wpAny (model prog w) A (Qjy (.ref z)) Q E s:=by
  have k:s.TypeIs (.ref z) "zip":=⟨_,j,rfl⟩
  refine Qg (Qdx (Yz (name:=Qam "__next__") k Qee (Y8 Qee k Qki (ztd l D j m n p r t g2 d λh' e u he=>?_) (Qjf _))));obtain⟨o,v,x⟩:=he;exact Qg (wpAny_isInstance (T := "StopIteration") (b:=true) ⟨o,v,x⟩ isSubtype_stop (Qy (q _ u)))
abbrev zh1(b:Bool)(h:Heap)(l:Addr):Heap:=h.push (itO b l)
abbrev zh2(b c:Bool)(h:Heap)(a d:Addr):Heap:=(zh1 b h a).push (itO c d)
abbrev zh3(b c:Bool)(h:Heap)(a d:Addr):Heap:=(zh2 b c h a d).push { cls :=.type "tuple",data :=.seq #[.ref h.objs.size,.ref (zh1 b h a).objs.size] }
abbrev zh4(b c:Bool)(h:Heap)(a d:Addr):Heap:=(zh3 b c h a d).push { cls :=.type "tuple",data :=.seq #[.none,.none] }
abbrev zh5(b c:Bool)(h:Heap)(a d:Addr):Heap:=(zh4 b c h a d).push { cls :=.type "zip",data :=.fields #[.none,.bool false,.bool false,.ref (zh2 b c h a d).objs.size,.ref (zh3 b c h a d).objs.size] }
theorem zyo(b c:Bool)(a f:Addr)(us vs:Array Value):Meets (Builtin.«zip.__new__» ⟨[.type "zip",.ref a,.ref f],[]⟩)
 (λ_ R s=>SqOf b s.heap a us/\SqOf c s.heap f vs/\R (.ok (.ret (.ref (zh4 b c s.heap a f).objs.size))) { s with heap:=zh5 b c s.heap a f }) :=
  .of_wp λi w A R s h=>by
   obtain⟨k,g,d,l,m⟩:=s;obtain⟨n,g2,h⟩:=h;have j:=sub_zip;have p:=n;have q:SqOf c (Qt.heap ⟨k.push (itO b a),g,d,l,m⟩) f vs:=SqOf.at' g2 λo e=>Qi _ e
   wp_walk using zic p,zic q
   exact⟨_,rfl,h⟩
theorem zub(r:SqOf b s.heap l1 us)(g2:SqOf c s.heap l2 vs)(q:∀h',IsZip h' (s.heap.objs.size+4) (s.heap.objs.size+2) (s.heap.objs.size+3) .none->Qdc h' (s.heap.objs.size+2) (.ref s.heap.objs.size) (.ref (s.heap.objs.size+1)) ->
 Qdc h' (s.heap.objs.size+3) .none .none->SqIt b h' s.heap.objs.size l1 0->SqIt c h' (s.heap.objs.size+1) l2 0->(∀a o,s.heap.get? a=some o->h'.get? a=some o)->Q (.ref (s.heap.objs.size+4)) { s with heap:=h' }):
  wpAny (model prog w) A (call (.type "zip") [.ref l1,.ref l2]) Q E s:=by
  refine callType_new F.called_zip (by decide) (F.typeCall_zip_2 _ _) (F.newCall_zip_2 _ _) (λt=>F.args_object_init_3 t _ _) F.entry_zip_new (zyo b c l1 l2 us vs) ⟨r,g2,?_⟩;have d:(zh1 b s.heap l1).objs.size=s.heap.objs.size+1:=Z5 ..;have f:(zh2 b c s.heap l1 l2).objs.size=s.heap.objs.size+2:=by rw[Z5,d]
  have g:(zh3 b c s.heap l1 l2).objs.size=s.heap.objs.size+3:=by rw[Z5,f]
  have j:(zh4 b c s.heap l1 l2).objs.size=s.heap.objs.size+4:=by rw[Z5,g]
  have i:(zh5 b c s.heap l1 l2).get? (zh4 b c s.heap l1 l2).objs.size=some _:=Qx _ rfl;have k:(zh5 b c s.heap l1 l2).get? (zh3 b c s.heap l1 l2).objs.size=some _:=Qi _ (Qx _ rfl);have m:(zh5 b c s.heap l1 l2).get? (zh2 b c s.heap l1 l2).objs.size=some _:=Qi _ (Qi _ (Qx _ rfl));have n:(zh5 b c s.heap l1 l2).get? (zh1 b s.heap l1).objs.size=some (itO c l2):=Qi _ (Qi _ (Qi _ (Qx _ rfl)));have u:(zh5 b c s.heap l1 l2).get? s.heap.objs.size=some (itO b l1):=Qi _ (Qi _ (Qi _ (Qi _ (Qx _ rfl))));rw[f,g,j]at i;rw[d,f]at m;rw[g]at k;rw[d]at n;rw[j];have p:∀{b:Bool}{h:Heap}{a l:Addr},h.get? a=some (itO b l)->SqIt b h a l 0:=λ{b}{h}{a}{l} e=>by
   cases b with
   |true=>exact⟨_,e,rfl,rfl⟩
   |false=>exact⟨_,e,rfl,rfl⟩
  exact⟨⟨_,i,rfl⟩,q _ i m k (p u) (p n) λa o x=>Qi _ (Qi _ (Qi _ (Qi _ (Qi _ x))))⟩
end
def SqX(b:Bool)(K:Qd)(H:Hp)(a:Addr)(xs:List V):Prop:=match b with
 |true=>SqT K H a xs
 |false=>SqL K H a xs
section
variable{X:Cx}{pins:List (Addr×Obj)}{σ:St}{H:Hp}{s:Qt}{b:Bool}{a:Addr}{xs ys:List V}
theorem Inv.sqx(I:Inv X pins σ H s)(h:SqX b X.K H a xs):∃c:List Value,Vals xs c/\SqOf b s.heap a c.toArray:=by
 cases b with
 |true =>
  obtain⟨c,r,p,_⟩:=I.tuple h;obtain⟨o,d,e,n,f⟩:=p;exact⟨c,r,o,d,e,n,f⟩
 |false =>
  obtain⟨c,r,p,_⟩:=I.list h;exact⟨c,r,p.isList⟩
theorem Inv.sqx_inj(I:Inv X pins σ H s)(h:SqX b X.K H a xs)(h':SqX b X.K H a ys):xs=ys:=by
 cases b with
 |true=>exact I.tuple_inj h h'
 |false=>exact I.list_inj h h'
end
def Itz(K:Qd)(b c:Bool)(l m:Addr):It :=
 ⟨λi H =>∃a d x y,SqX b K H l a/\SqX c K H m d/\a[i]?=some x/\d[i]?=some y,λi H v e =>∃p x y,(∀a,SqX b K H l a->a[i]?=some x)/\(∀d,SqX c K H m d->d[i]?=some y)/\H p=none/\v = .ref p/\e=upd H p (.tup [x,y]),
  λi H =>∃a d,SqX b K H l a/\SqX c K H m d/\(a.length<=i\/d.length<=i)⟩
theorem zpr{K:Qd}(z TI TO p t l m:Addr)(D:Qko z TI TO p t l m):
 Turn P w K (.Tuple elts x1 tpos) (Itz K b c l m) [z,TI,TO,p,t] z (λi h=>IsZip h z TI TO .none/\Qdc h TI (.ref p) (.ref t)/\(∃x0 y0,Qdc h TO x0 y0)/\SqIt b h p l i/\SqIt c h t m i) where
  mem:=by simp
  obj:=λi h G a B=>by
   obtain⟨S,L,⟨x0,y0,T⟩,M,N⟩:=G;simp only[Zd,Y7,or_false]at B;rcases B with rfl|rfl|rfl|rfl|rfl
   ·grind
   ·grind
   ·grind
   ·exact M.obj
   ·exact N.obj
  keep:=λi h h' G k=>by
   obtain⟨S,L,⟨x0,y0,T⟩,M,N⟩:=G;exact⟨k z (by simp) _ S,k TI (by simp) _ L,⟨x0,y0,k TO (by simp) _ T⟩,M.at' λo q=>k p (by simp) o q,N.at' λo q=>k t (by simp) o q⟩
  item:=by
   intro X hP U hK g i O s σ H E I F G hg;subst hP U hK;obtain⟨xs,ys,x,y,hq,J,hx,hy⟩:=hg;obtain⟨us,rv,p1⟩:=I.sqx hq;obtain⟨vs,V,p2⟩:=I.sqx J;obtain⟨u,hu,ru⟩:=rv.get hx;obtain⟨v,hv,rv'⟩:=V.get hy;obtain⟨S,L,⟨x0,y0,T⟩,M,N⟩:=G;obtain⟨z0,z1,z2,z3,z4,z5⟩:=F z (by simp);obtain⟨o0,o1,o2,o3,o4,o5⟩:=F TO (by simp);obtain⟨f0,f1,f2,f3,f4,f5⟩:=F p (by simp);obtain⟨g0,g1,g2,g3,g4,g5⟩:=F t (by simp);have zlt:=Qw S;refine zot D S L T M N p1 p2 (u:=u) (v:=v) (by grind) (by grind) λR a0 a2 a3 a4 ht hz₁ hk=>⟨_,rfl,?_⟩
   refine wpAny_letOwnedTupleGo_zip (s:={ s with heap:=R }) a0 λj W f=>?_;replace f:Vl z R j:=f
   have fresh:=I.hok.fresh (Qs _);have kk:∀a o,a≠z->a≠TO->a≠p->a≠t->s.heap.get? a=some o->j.get? a=some o:=λa o b1 b2 b3 b4 q=>f.extBut a o b1 (hk a o b1 b2 b3 b4 q);have Y:∀a o,a∉[z,TO,p,t]->s.heap.get? a=some o->j.get? a=some o:=λa o g q=>kk a o (λz=>g (by simp[z])) (λz=>g (by simp[z])) (λz=>g (by simp[z])) (λz=>g (by simp[z])) q;have nb:∀a o v,s.heap.get? a=some o->H a=some v->j.get? a=some o:=λa o v e q=>kk a o (λn=>by grind) (λn=>by grind) (λn=>by grind) (λn=>by grind) e;have Z:=(f.2 _ (Yt zlt)).trans ht;have I1:Inv X O σ (upd H s.heap.objs.size (.tup [x,y])) { s with heap:=j }:=by
    refine I.step (t':=s.toks) (g':=s.gens) (d':=s.drawn) (ch:=[z,TO,p,t]) (λa B=>?_) (λa o _ _ g q _=>Y a o g q)
     (λa o _ _ g q _=>⟨o.slots,Y a o g q⟩) (λa o _ q n=>by rw[qi (Q7 (Qw q))];exact n)
     (λa o g q=>⟨o,Y a o g q⟩) (λa ys q=>by rw[qi (qu q fresh)];exact q) (λa o v q=>by rw[qi (qu q fresh)];exact q)
     (λa ps q=>⟨#[],by rw[qi (qu q fresh),q];simp,.nil⟩) (λm hm=>?_) (λa v' q=>?_) I.bare
    ·simp only[Zd,Y7,or_false]at B;rcases B with rfl|rfl|rfl|rfl
     ·exact⟨z3,z1,z4,z5⟩
     ·exact⟨o3,o1,o4,o5⟩
     ·exact⟨f3,f1,f4,f5⟩
     ·exact⟨g3,g1,g4,g5⟩
    ·obtain⟨o,es,ep,ho',r⟩:=hm;exact⟨o,es,ep,kk _ o (Z9 z1) (Z9 o1) (Z9 f1) (Z9 g1) ho',r⟩
    ·by_cases hb:a=s.heap.objs.size
     ·subst hb;rw[qk]at q;cases q;exact⟨(by show 2<=Q4;decide),[u,v],.cons ru (.cons rv' .nil),⟨_,Z,rfl,_,rfl⟩⟩
     ·rw[qi hb]at q;refine(I.hok a v' q).stay (λd ob C e=>?_) (λd e=>by rw[qi (qu e fresh)];exact e) λd ws e=>by rw[qi (qu e fresh)];exact e
      rcases C with C|C
      ·subst C;exact nb _ _ _ e q
      ·exact nb _ _ _ e C
   refine⟨.ref s.heap.objs.size,_,I1,rfl,⟨s.heap.objs.size,x,y,λws U=>by rw[I.sqx_inj U hq];exact hx,λws U=>by rw[I.sqx_inj U J];exact hy,fresh,rfl,rfl⟩,⟨W,?_,⟨u,v,?_⟩,?_,?_⟩,λa B=>?_⟩
   ·exact f.extBut _ _ D.TIz (hk _ _ D.TIz D.TITO D.TIi1 D.TIi2 L)
   ·exact f.extBut _ _ D.TOz a2
   ·exact a3.but f D.i1z
   ·exact a4.but f D.i2z
   ·have hlt:a<s.heap.objs.size:=by
     simp only[Zd,Y7,or_false]at B;rcases B with rfl|rfl|rfl|rfl|rfl
     ·exact zlt
     ·exact Qw L
     ·exact Qw T
     ·obtain⟨o,q,_⟩:=M.obj;exact Qw q
     ·obtain⟨o,q,_⟩:=N.obj;exact Qw q
    rw[qi (Q7 hlt)];exact(F a B).1
  done:=by
   intro X hP U hK g i O s σ H E I F G hg;subst hP U hK;obtain⟨xs,ys,hq,J,hx⟩:=hg;obtain⟨us,rv,p1⟩:=I.sqx hq;obtain⟨vs,V,p2⟩:=I.sqx J;obtain⟨S,L,⟨x0,y0,T⟩,M,N⟩:=G;obtain⟨z0,z1,z2,z3,z4,z5⟩:=F z (by simp);obtain⟨o0,o1,o2,o3,o4,o5⟩:=F TO (by simp);obtain⟨f0,f1,f2,f3,f4,f5⟩:=F p (by simp);obtain⟨g0,g1,g2,g3,g4,g5⟩:=F t (by simp);have l1:=rv.length;have l2:=V.length;refine ztb (I.ok.hd g) D S L T M N p1 p2 (by rcases hx with hx|hx;exact .inl (by simp;lia);exact .inr (by simp;lia)) λh' hk=>⟨rfl,?_⟩
   have Y:∀a o,a∉[z,TO,p,t]->s.heap.get? a=some o->h'.get? a=some o:=λa o g q=>hk a o (λz=>g (by simp[z])) (λz=>g (by simp[z])) (λz=>g (by simp[z])) (λz=>g (by simp[z])) q;have nb:∀a o v,s.heap.get? a=some o->H a=some v->h'.get? a=some o:=λa o v e q=>hk a o (λn=>by rw[n,z0]at q;cases q) (λn=>by rw[n,o0]at q;cases q) (λn=>by rw[n,f0]at q;cases q) (λn=>by rw[n,g0]at q;cases q) e;refine I.step (t':=s.toks) (g':=s.gens) (d':=s.drawn) (ch:=[z,TO,p,t]) (λa B=>?_) (λa o _ _ g q _=>Y a o g q)
    (λa o _ _ g q _=>⟨o.slots,Y a o g q⟩) (λa o _ q n=>n) (λa o g q=>⟨o,Y a o g q⟩) (λa ys q=>q) (λa o v q=>q) (λa ps q=>⟨#[],by rw[q];simp,.nil⟩) (λm hm=>?_) (λa v' q=>?_) I.bare
   ·simp only[Zd,Y7,or_false]at B;rcases B with rfl|rfl|rfl|rfl
    ·exact⟨z3,z1,z4,z5⟩
    ·exact⟨o3,o1,o4,o5⟩
    ·exact⟨f3,f1,f4,f5⟩
    ·exact⟨g3,g1,g4,g5⟩
   ·obtain⟨o,es,ep,ho',r⟩:=hm;exact⟨o,es,ep,hk _ o (Z9 z1) (Z9 o1) (Z9 f1) (Z9 g1) ho',r⟩
   ·refine(I.hok a v' q).stay (λd ob C e=>?_) (λd e=>e) λd ws e=>e;rcases C with C|C
    ·subst C;exact nb _ _ _ e q
    ·exact nb _ _ _ e C
  self:=λA i s Q E G h=>wpAny_pyIter_zip G.1 h
theorem zow:Zl "zip" = some (.type "zip"):=by decide +kernel
section
variable{X:Cx}{elts:List Expr}{x1:Nat}{tpos:Pos}
def xgp(K:Qd)(d:TA):TI:=λe H R=>d e H λf a =>∃b c l m,f=[.ref l,.ref m]/\(∃g,SqX b K a l g)/\(∃h,SqX c K a m h)/\R (Itz K b c l m) a
theorem xap{p pos:Pos}(y:Gl X "zip")(z:X.mg "zip" = none)(A:PA X [a,b] ta)(B:Qu [a,b] X.env=[(false,eval a X.env),(false,eval b X.env)]:=by rfl)(g:Qu [b] X.env=[(false,eval b X.env)]:=by rfl):
 PI X (.Tuple elts x1 tpos) (.Call (.Name "zip" p) [a,b] [] pos) (xgp X.K ta):=by
 intro i s C H R I h;refine Call_ (qik I y z zow (Vd (thn (A pos i s C H _ I h) λV d f=>?_) (by rw[B,g]) (by rw[g];rfl)));obtain⟨W,D,j,E,F⟩:=f;obtain⟨G,J,l,m,e,⟨Y,K⟩,⟨Z,o⟩,q⟩:=F;subst e;cases E with
 |cons r t =>
  cases t with
  |cons L t =>
   cases t;cases r;cases L;obtain⟨M,rv,u⟩:=j.sqx K;obtain⟨v,N,k⟩:=j.sqx o;refine zub u k λh' w O P Q S T=>?_;refine wpAny_pyIter_zip w ?_;have U:=j.kept (t':=d.toks) T;refine⟨d.heap.objs.size+4,[d.heap.objs.size+4,d.heap.objs.size+2,d.heap.objs.size+3,d.heap.objs.size,d.heap.objs.size+1],_,_,D,rfl,U,zpr (b:=G) (c:=J) _ _ _ _ _ l m (zipApart_new u.lt k.lt),⟨w,O,⟨_,_,P⟩,Q,S⟩,λb x=>?_,q⟩;have n:d.heap.objs.size<=b:=by
    simp only[Zd,Y7,or_false]at x;rcases x with rfl|rfl|rfl|rfl|rfl
    ·exact Qdi _ 4
    ·exact Qdi _ 2
    ·exact Qdi _ 3
    ·exact Qs _
    ·exact Qdi _ 1
   exact j.fpOk n (j.hok.fresh n)
end
def zij(l m:List Qj):List Qj:=(l.zip m).map λp => .tuple [p.1,p.2]
theorem qdp(l m:List Qj):(zij l m).length=min l.length m.length:=by simp[zij]
theorem zby{i:Nat}(a:l[i]?=some x)(b:m[i]?=some y):(zij l m)[i]?=some (.tuple [x,y]):=by
 unfold zij;rw[Qa,List.getElem?_zip_eq_some (z:=(x,y)) |>.mpr ⟨a,b⟩];rfl
theorem qhk{i:Nat}(h:(zij l m)[i]?=some d):∃x y,l[i]?=some x/\m[i]?=some y/\d = .tuple [x,y]:=by
 grind[qdp,zby,Qc,Qr]
theorem qdf{K:Qd}(s:Same F H)(h:SqX b K F a xs):SqX b K H a xs:=by
 cases b with
 |true=>exact qab s h
 |false=>exact s.seq h
theorem zuu{K:Qd}(hs:SqX b K F a xs)(hr:Iss K F l xs)(hs':SqX c K F a' ys)(hr':Iss K F m ys):ItD K (Itz K b c a a') F (zij l m) where
 go:=λi H s hi=>by
  rw[qdp]at hi;exact⟨xs,ys,xs[i]'(by rw[hr.len];omega),ys[i]'(by rw[hr'.len];omega),qdf s hs,qdf s hs',Qc _,Qc _⟩
 stop:=λH s=>by
  rw[qdp];refine⟨xs,ys,qdf s hs,qdf s hs',?_⟩;rw[hr.len,hr'.len];omega
 yld:=λi H x H' F1 s1 s2 hi hy=>by
  obtain⟨p,y,y',hy,hy',hp,rfl,rfl⟩:=hy;obtain⟨d,e1,e2⟩:=hr.get' (hy xs (qdf (s1.trans s2) hs));obtain⟨d',e1',e2'⟩:=hr'.get' (hy' ys (qdf (s1.trans s2) hs'));have g:=Go.put (o:=HO.tup [y,y']) s2 hp;exact⟨_,_,zby e1 e1',g,qqb (SqT.of qk) (qG ((e2.mono s1).mono g.f) (qG ((e2'.mono s1).mono g.f) qah))⟩
theorem zrg{K:Qd}(e:qbf d=some l)(i:Is K F d v):∃b a xs,v = .ref a/\SqX b K F a xs/\Iss K F l xs:=by
 cases d with
 |list m=>cases e;obtain⟨a,xs,rfl,c,f⟩:=i.lst_inv;exact⟨false,a,xs,rfl,c,f⟩
 |tuple m=>cases e;obtain⟨a,xs,rfl,c,f⟩:=i.tup_inv;exact⟨true,a,xs,rfl,c,f⟩
 |_=>cases e
section
variable{X:Cx}{a b:Expr}{p pos:Pos}{elts:List Expr}{x1:Nat}{tpos:Pos}
def xdm(b c:WE):WF:=λa Q=>b a λx d=>c d λy e=>(qbf x).elim False λl=>(qbf y).elim False λm=>Q (zij l m) e
theorem qkh(r:X.mg "zip" = none)(s:VE X a Wa)(t:VE X b Wb)(u:Gl X "zip":=by rfl)(w:Qu [a,b] X.env=[(false,eval a X.env),(false,eval b X.env)]:=by rfl)(f:Qu [b] X.env=[(false,eval b X.env)]:=by rfl)(g:Qu [a,b] X.env=(false,eval a X.env)::Qu [b] X.env:=by rfl)(i:Qu [b] X.env=(false,eval b X.env)::Qu [] X.env:=by rfl):VI X (.Tuple elts x1 tpos) (.Call (.Name "zip" p) [a,b] [] pos) (xdm Wa Wb) :=
 (xap u r (qM s (qM t qbe i) g) w f).imp λW H R c=>by
  obtain⟨M,env,F,Q,I,h,k⟩:=c;refine⟨M,env,F,_,I,h,λd v x Y y z A B C=>⟨M,y,x,_,z,C,λD Z E G J j n K e=>?_⟩⟩;cases q1:qbf d with
  |none=>rw[q1]at e;exact e.elim
  |some l =>
   cases q2:qbf D with
   |none=>rw[q1,q2]at e;exact e.elim
   |some m =>
    rw[q1,q2]at e;obtain⟨L,N,O,rfl,o,P⟩:=zrg q1 (B.mono n);obtain⟨S,T,U,rfl,q,V⟩:=zrg q2 K;exact⟨L,S,N,T,rfl,⟨O,qdf j.fh o⟩,⟨U,qdf j.fh q⟩,k _ _ E G J j (A.trans n) (zuu o P q V) e⟩
end
section
variable{X:Cx}
end
section
variable{X:Cx}{e:Expr}{W:WF}{We:WE}{pos:Pos}
def xgt(i:Nat)(W:WF):WS:=λD a=>(gS a i).mut=true/\W a λl e=>(gS e i).mut=true/\(gS e i).cnt.length+l.length<=Q4/\D.nx (e.set i ((gS e i).upd ((gS e i).cnt++l)))
theorem qns(i:Nat){m d b:Pos}(he:VF X e W)(y:X.N[i]?=some x:=by rfl)(z:Vis X.env.scope x:=by first|exact Vn rfl|exact Y3 (Vn rfl)|exact Y3 (Y3 rfl))(hd:Nd0 x:=by decide)(q:Nd1 x:=by decide)(g:V6 (.Name x m) "extend" X.env (eval (.Name x m) X.env)=eval (.Name x m) X.env:=by rfl)(n:((V5 b (Qu [e] X.env)).all (λx => !x.1)&&(Qdv b (Qaa [] X.env)).all (λx=>x.1.isSome)
  && decide ([e].length+([]:List Qcg).length+(if([]:List Qcg).isEmpty then 0 else 1)<30))=true:=by rfl)(j:(d.endLine==b.line)=true:=by rfl)(o:Qu [e] X.env=(false,eval e X.env)::Qu [] X.env:=by rfl)(f:(V5 b (Qu [] X.env)).any (·.1)=false:=by rfl)(A:Jz (.Call (.Attribute (.Name x m) "extend" d) [e] [] b) none pos.line X.env=pure false:=by rfl):VS X (.Expr (.Call (.Attribute (.Name x m) "extend" d) [e] [] b) pos) (xgt i W) :=
 (qko (zsh Qbx Qff Qfg zjd (qer y z hd q) (qM he qbe o) g n j o f) A).imp λD B H l=>by
  obtain⟨M,env,F,R,I,⟨C,h⟩,k⟩:=l;obtain⟨p,S,r,E,g2,T,U⟩:=(I.slot i).addr C;refine⟨_,qdw r,.inl ⟨rfl,_,SqL.of E⟩,M,env,F,_,I,h,λa G V J Y Z t K L hF _ _ _ u N=>?_⟩;obtain⟨v,O,P⟩:=N;obtain⟨p',s,c,Q,f2,f3,w⟩:=(t.slot i).addr v;rw[r]at c;injection c with c;injection c with c;subst c;exact⟨p,a,s,G,rfl,rfl,Q,L,by rw[w.len,u.len];exact O,k.nx _ J _ B (t.chg v r (qbb w u)) K P⟩
end
section
variable{prog:Zw}{w:World}{A:Yk}{E:Value->Qt->Prop}{s:Qt}
end
section
variable{X:Cx}
end
section
variable{X:Cx}{a b c d:Expr}{pos:Pos}{ta tb tc td:TE}
variable{Wa Wb Wc Wd:WE}
end
def qyy(ix:List Nat)(k:Nat)(wi:TI)(g:TG)(tt:TT)(te:TE):TE:=λj H Q=>wi j H λJ o =>∃W:Nat->Nat->List V->St->Hp->Prop,(∃m,W 0 m [] (qvq ix k j) o) /\ ∀i m d f e,W i m d f e ->
 (J.stop i e/\d.length<=Q4 /\ ∀p,e p=none->Q (.ref p) (upd e p (.lst d))) \/
 (J.go i e/\d.length<Q4 /\ ∃(N:V->St->Hp->Prop)(l:St->Hp->Prop),(∀y a c,N y a c ->∃h,h<m/\W (i+1) h (d++[y]) a c)/\(∀a c,l a c ->∃h,h<m/\W (i+1) h d a c) /\
  ∀x n,J.yld i e x n->g x f n λa q=>tt a q λb c=>match b with|true=>te a c λy r=>N y a r|false=>l a c)
theorem qeo(I:Nat->Qt->Prop)(o:∀n s,I n s->wpAny (model prog w) A (Qjy it) (λr c=>match r with
  |none=>R (.ok .next) c
  |some v=>wpAny (model prog w) A (Qck target it v) (λ_ d=>wpAny (model prog w) A (Qfy target env v) (λ_ g=>wpAny (model prog w) A (Qjx cnd env (eval cnd env)) (λb a=>match b with
   |true=>wpAny (model prog w) A (eval elt env) (λx i =>
    wpAny (model prog w) A (call (.builtin "list.append") [acc,x]) (λ_ j =>∃m,m<n/\I m j) (Qbc (model prog w) A env λe f=>R (.error e) f) i)
    (Qbc (model prog w) A env λe f=>R (.error e) f) a
   |false =>∃m,m<n/\I m a) (Qbc (model prog w) A env λe f=>R (.error e) f) g) (Qbc (model prog w) A env λe f=>R (.error e) f) d) (Qbc (model prog w) A env λe f=>R (.error e) f) c) (Qbc (model prog w) A env λe f=>R (.error e) f) s)(n:Nat)(h:I n s):Qcj (model prog w) A (.compLoop (.ListComp elt [⟨target,iter,[cnd],0⟩] scope pos) 0 it acc env) R s:=by
  refine codeAny_loop rfl I (λn s y=>?_) n h;refine wpAny_noted (?_:_);rw[compTurn_list];refine Qg (Qcl (Qg (Yh (o n s y) (λr c k=>?_) λ_ _ z=>z)));cases r with
  |none=>exact Qy k
  |some v =>
   refine Qg (Yh k (λ_ d l=>Qg (Yh l (λ_ g p=>?_) λ_ _ z=>z)) λ_ _ z=>z);refine Qg (wpAny_tests_one (Yh p (λb a u=>?_) λ_ _ z=>z));cases b with
   |true =>
    refine Qg (Qg (Yh u (λx i q=>Qg (Yh q (λ_ j t=>Qy (Qy ⟨rfl,t⟩)) λ_ _ z=>z)) λ_ _ z=>z))
   |false=>exact Qg (Qy (Qy ⟨rfl,u⟩))
section
variable{X:Cx}{elt target iter cnd:Expr}{scope:Scope}{pos:Pos}{caps own:List Str}{ix:List Nat}{wi:TI}{g:TG}{te:TE}{tt:TT}
theorem zle(m:X.calm=true)(S:CompScope X.env scope caps)(r:PI X target iter wi)(t:∀a c H ex,PG (blk X a scope (caps++own) c H ex) target g)(he:∀a c H ex,PE (blk X a scope (caps++own) c H ex) elt te)(u:∀a c H ex,PT (blk X a scope (caps++own) c H ex) cnd tt)(i:caps.length=ix.length:=by rfl)(d:(caps.zip ix).all (λp=>X.N[p.2]?==some p.1)=true:=by rfl)(v:∀x,Z3 iter X.env x=pure x:=by intro _;rfl):PE X (.ListComp elt [⟨target,iter,[cnd],0⟩] scope pos) (qyy ix own.length wi g tt te):=by
  intro a s j H Q I h;rw[eval_ListComp];refine qny (cs:=[cnd]) (tt:=tt) (Tst:=λenv P E s=>wpAny (model X.prog X.w) X.A (Qjx cnd env (eval cnd env)) P E s) (λJ f n h=>qeo J f n h) (use:=none) (Q0:=EP X a j Q) m S r t he (λa c H ex e s j w y P E I q k=>Yh (u a c H ex e s j w y I q) (λb Y z=>?_) λ_ _ z=>z.elim) i d v I h (λJ Z z=>z) λD C A B F l G K L c3 M N O q=>⟨F,l,λh' R=>⟨.ref D,B,G.turned (t':=A.toks) (it:=C) (λb o T q=>R.extBut b o T q) K L M N O,rfl,q⟩⟩
  obtain⟨U,V,W⟩:=z;grind
def qzj(ix:List Nat)(k:Nat)(j:WF)(G:WG)(l:WT)(m:WE):WF:=λc Q=>j c λf g=>f.length<Q4 /\ ∃P:Nat->List Qj->Sto->Prop,P 0 [] (zbi ix k g) /\
 (∀i d a e,f[i]?=some d->P i a e->G d e λn=>l n λb h=>if b=true then m h λy o=>P (i+1) (a++[y]) o else P (i+1) a h) /\ ∀a e,P f.length a e->Q a g
section
variable{K:Qd}{ix:List Nat}{n:Nat}{Wi:WF}{G:WG}{Wt:WT}{We:WE}{σ:St}{H:Hp}{R:VK}
theorem qod(h:zds K (qzj ix n Wi G Wt We) σ H R):qyy ix n (qve K Wi) (qro K G) (qvk K Wt) (qcq K We) σ H R:=by
 obtain⟨M,C,F,Q,I,h,k⟩:=h;refine⟨M,C,F,_,I,h,λp J A u e1 V s1 D q=>?_⟩;obtain⟨hz,P,p0,v,E⟩:=q;refine⟨λi m w z r=>m=p.length-i/\i<=p.length /\ ∃a c l,EnvOk K ⟨u,u,A⟩ c r a z/\Iss K c l w/\w.length<=i/\P i l a,⟨p.length,by simp,Yd _,zbi ix n e1,A,[],V.cap ix n,qah,Qs _,p0⟩,?_⟩;rintro i m w z L ⟨hm,hi,N,F2,l,W,O,hl,X⟩;have g2:=W.goOf;by_cases he:i=p.length
 ·subst he;exact .inl ⟨D.stop L (g2.f.trans g2.fh),by lia,qnm (V.go g2) (s1.trans g2.f) O (E l N X) k⟩
 ·have f:i<p.length:=by lia
  refine .inr ⟨D.go i L (g2.f.trans g2.fh) f,by lia,λy e r =>∃a c o,EnvOk K ⟨u,u,A⟩ c r a e/\Iss K c o (w++[y])/\P (i+1) o a,λe r =>∃a c o,EnvOk K ⟨u,u,A⟩ c r a e/\Iss K c o w/\P (i+1) o a,
   λy e r s=>by obtain⟨a,c,o,S,T,U⟩:=s;exact⟨p.length-(i+1),by lia,rfl,f,a,c,o,S,T,by simp;lia,U⟩,λe r t=>by obtain⟨a,c,o,S,T,U⟩:=t;exact⟨p.length-(i+1),by lia,rfl,f,a,c,o,S,T,by lia,U⟩,λx H3 hy=>?_⟩
  obtain⟨d,F3,hd,g,j⟩:=D.yld i L x H3 F2 g2.f g2.fh f hy;refine⟨_,N,F3,d,_,W.go g,j,v i d l N hd X,λF4 H4 e4 σ4 I4 Y h4=>⟨_,e4,F4,_,I4,h4,λb Z H5 e5 I5 s5 B=>?_⟩⟩;cases b with
  |true =>
   rw[if_pos rfl]at B;refine⟨_,e5,Z,_,I5,B,λd6 v6 F6 H6 e6 I6 s6 i6 h6=>?_⟩;exact⟨e6,F6,l++[d6],I6,qbb (((O.mono (g.f.trans Y)).mono s5).mono s6) (qG i6 qah),h6⟩
  |false =>
   rw[if_neg Yi]at B;exact⟨e5,Z,l,I5,(O.mono (g.f.trans Y)).mono s5,B⟩
end
theorem zjy(e:X.calm=true)(S:CompScope X.env scope caps)(f:VI X target iter Wi)(i:∀a c H ex,VG (blk X a scope (caps++own) c H ex) target G)(j:∀a c H ex,VT (blk X a scope (caps++own) c H ex) cnd Wt)(he:∀a c H ex,VE (blk X a scope (caps++own) c H ex) elt We)(d:caps.length=ix.length:=by rfl)(b:(caps.zip ix).all (λp=>X.N[p.2]?==some p.1)=true:=by rfl)(k:∀x,Z3 iter X.env x=pure x:=by intro _;rfl):VF X (.ListComp elt [⟨target,iter,[cnd],0⟩] scope pos) (qzj ix own.length Wi G Wt We) :=
  (zle (g:=qro X.K G) (tt:=qvk X.K Wt) (te:=qcq X.K We) e S f i he j d b k).imp λ_ _ _ h=>qod h
end
section
variable{X:Cx}
end
section
variable{X:Cx}{e:Expr}{We:WE}{pos:Pos}
variable{x:Str}{px apos cpos:Pos}
end
section
variable{prog:Zw}{w:World}{A:Yk}{E:Value->Qt->Prop}{s:Qt}
end
section
variable{X:Cx}{elts:List Expr}{x1:Nat}{tpos:Pos}
end
section
variable{X:Cx}{a:Expr}{W:WE}{p pos:Pos}
variable{e1 e2:Expr}{W1 W2:WE}
end
section
variable{X:Cx}
end
section
variable{P:Zw}{w:World}{K:Qd}{mg:Str->Option Value}{base:Heap}
end
section
variable{X:Cx}{elt target iter cnd:Expr}{scope:Scope}{pos:Pos}{caps own:List Str}{ix:List Nat}{wi:TI}{g:TG}{te:TE}{tt:TT}
theorem zki{m c:Pos}(Q:X.N.Nodup)(r:X.N[i]?=some y)(L:X.env.scope.names.lookup y=some .local)(t:Jz (.ListComp elt [⟨target,iter,[cnd],0⟩] scope pos) (some (.Name y m)) c.line X.env=pure true)(R:X.calm=true)(S:CompScope X.env scope caps)(T:PI X target iter wi)(U:∀a d H ex,PG (blk X a scope (caps++own) d H ex) target g)(he:∀a d H ex,PE (blk X a scope (caps++own) d H ex) elt te)(V:∀a d H ex,PT (blk X a scope (caps++own) d H ex) cnd tt)(u:caps.length=ix.length:=by rfl)(e:(caps.zip ix).all (λp=>X.N[p.2]?==some p.1)=true:=by rfl)(W:∀x,Z3 iter X.env x=pure x:=by intro _;rfl):PS X (.Assign [.Name y m] (.ListComp elt [⟨target,iter,[cnd],0⟩] scope pos) c) (zxt (qyy ix own.length wi g tt te) (zey i)):=by
  intro a s l H D I h;rw[Qhc _ _ _ _ t];refine Qg (Qcl (Qg ?_));refine Qg (thn (qny (cs:=[cnd]) (tt:=tt) (Tst:=λenv P E s=>wpAny (model X.prog X.w) X.A (Qjx cnd env (eval cnd env)) P E s) (λJ j n h=>qeo J j n h) (use:=some (Qfy (.Name y m) X.env)) (Q0:=λ_ s'=>SP X a D .next s') (Qv:=λx M=>zey i x l M D.nx) R S T U he
   (λa d H ex f s l Y Z P E I q k=>Yh (V a d H ex f s l Y Z I q) (λb s' z=>by obtain⟨H'',I'',q''⟩:=z;grind) λ_ _ z=>z.elim) u e W I h (λJ M z=>z) λD' C s6 H6 m6 w N c1 c2 c3 c4 c5 c6 q=>?_) (λ_ s' hq=>Qy (Qy hq)))
  obtain⟨A,B,F,hoC,G,rC⟩:=id w;have K:Inv X (a++[(C,A)]) l H6 s6:=N.pins_of λp hp=>by
   rcases Zh.mp hp with z|z
   ·exact N.pin p (Qz _ z)
   grind
  refine Qfi (qjg K Q r (Vn L) (v :=.ref D') rfl (λs7 O=>?_) (.inr L));have gC:=(O.pin (C,A) (Qz _ (Qz _ (Q6.mpr rfl)))).1;refine⟨m6,⟨A,B,F,gC,G,rC⟩,λh' sb=>?_⟩;exact⟨_,_,O.unpinned.turned (t':=s7.toks) (it:=C) (λb o hb q=>sb.extBut b o hb q) c1 c2 c4 c5 c6,q⟩
end
section
variable{X:Cx}{elt target iter cnd:Expr}{scope:Scope}{pos py spos:Pos}{caps own:List Str}{ix:List Nat}{Wi:WF}{G:WG}{Wt:WT}{We:WE}{i:Nat}{y:Str}
theorem zjf(l:X.N.Nodup)(m:X.calm=true)(S:CompScope X.env scope caps)(n:VI X target iter Wi)(o:∀b d H ex,VG (blk X b scope (caps++own) d H ex) target G)(q:∀b d H ex,VT (blk X b scope (caps++own) d H ex) cnd Wt)(he:∀b d H ex,VE (blk X b scope (caps++own) d H ex) elt We)(e:X.N[i]?=some y:=by rfl)(r:X.env.scope.names.lookup y=some .local:=by rfl)(f:Jz (.ListComp elt [⟨target,iter,[cnd],0⟩] scope pos) (some (.Name y py)) spos.line X.env=pure true:=by rfl)(j:caps.length=ix.length:=by rfl)(c:(caps.zip ix).all (λp=>X.N[p.2]?==some p.1)=true:=by rfl)(t:∀x,Z3 iter X.env x=pure x:=by intro _;rfl):
  VS X (.Assign [.Name y py] (.ListComp elt [⟨target,iter,[cnd],0⟩] scope pos) spos) (xaw i (wL (qzj ix own.length Wi G Wt We))) :=
  (zki (wi:=qve X.K Wi) (g:=qro X.K G) (tt:=qvk X.K Wt) (te:=qcq X.K We) l e r f m S n o he q j c t).imp λD L H ⟨M,env,F,N,I,h,k⟩=>qod ⟨M,env,F,_,I,h,λa O P Q u R v w z A T B C E K=>by
   obtain⟨J,s⟩:=v.frz z A B C;exact k.nx _ _ u _ (J.setv (qeq (SqL.of qk) (E.mono s))) (w.trans s) K⟩
end
section
variable{κ:Type}[DecidableEq κ]
def qqf(a:List (κ×V))(k:κ):Option V:=(a.find? λb=>decide (b.1=k)).map (·.2)
def zbl(a:List (κ×V))(k:κ)(v:V):List (κ×V) :=
 if(a.any λb=>decide (b.1=k))=true then a.map (λb=>if b.1=k then(b.1,v)else b)else a++[(k,v)]
theorem qtq{k:κ}(e:p.1=k):qqf (p::r) k=some p.2:=by simp[qqf,Qef,e]
theorem qtr{k:κ}(e : ¬ p.1=k):qqf (p::r) k=qqf r k:=by simp[qqf,Qef,e]
theorem qty(k:κ):∀a:List (κ×V),(a.any λb=>decide (b.1=k))=(qqf a k).isSome
 |[]=>rfl
 |p::r=>by
  rw[Qbw];by_cases e:p.1=k
  ·simp only[qtq e,decide_eq_true e,Bool.true_or,Qio]
  ·rw[qtr e,decide_eq_false e,Qll];exact qty k r
theorem zbb(a:List (κ×V))(k:κ)(v:V):(zbl a k v).length<=a.length+1:=by
 unfold zbl;grind
theorem znx{k:κ}(v:V)(h:qqf kvs k=none):zbl kvs k v=kvs++[(k,v)]:=by
 unfold zbl;rw[qty,h];grind
theorem RelO.isSome_eq(r:RelO o u):o.isSome=u.isSome:=by
 cases o with
 |none=>cases u with
  |none=>rfl
  |some _=>exact(show False from r).elim
 |some _=>cases u with
  |none=>exact(show False from r).elim
  |some _=>rfl
end
theorem xaz(r:RelV (kV k) u):(qcj P w).is k u=true:=by
 cases k with
 |inl i=>obtain⟨t,e⟩:=(show∃t,u=Qex i t from r);grind[zaj]
 |inr x=>obtain⟨t,e⟩:=(show∃t,u=Qkr x t from r);grind[zao]
theorem qwn:∀{ks:List Key}{us:List Value},Vals (ks.map kV) us->ItemsAre (qcj P w) ks us
 |[],_,r=>by rw[J3]at r;cases r;exact .nil
 |k::ks,_,r=>by
  rw[Qq]at r;cases r with
  |cons h t=>exact .cons (xaz h) (qwn t)
abbrev KT(H:Hp):List (List Key×V)->List (List Key×Addr×Value)->Prop:=Paired λp q=>p.1=q.1/\H q.2.1=some (.tup (p.1.map kV))/\RelV p.2 q.2.2
theorem KT.val(r:KT H kvs xs)(k:List Key):RelO (qqf kvs k) ((atKey xs k).map (·.2)):=by
 induction r with
 |nil=>exact V8
 | @cons p q ps a h t f =>
  obtain⟨d,_,g⟩:=h;by_cases e:p.1=k
  ·have c:=d.symm.trans e;have b:atKey (q::a) k=some q.2:=by simp[atKey,Qef,c]
   rw[qtq e,b];exact g
  ·have c : ¬ q.1=k:=λz=>e (d.trans z);have b:atKey (q::a) k=atKey a k:=by simp[atKey,Qef,c]
   rw[qtr e,b];exact f
theorem KT.repl(r:KT H kvs xs)(k:List Key)(c:RelV y u):
 KT H (kvs.map λa=>if a.1=k then(a.1,y)else a) (xs.map (putAt k u)):=by
  induction r with
  |nil=>exact .nil
  | @cons p q ps d h t b =>
   rw[Qq,Qq];refine .cons ?_ b;obtain⟨e,f,g⟩:=h;unfold putAt;grind
theorem KT.put(r:KT H kvs xs)(k:List Key)(d:H b=some (.tup (k.map kV)))(a:RelV y u):
 KT H (zbl kvs k y) (storedH xs k b u):=by
  have e:(kvs.any λc=>decide (c.1=k))=(atKey xs k).isSome:=by
   rw[qty,(r.val k).isSome_eq,Option.isSome_map]
  unfold zbl storedH;rw[e];by_cases q:(atKey xs k).isSome=true
  ·rw[if_pos q,if_pos q];exact r.repl k a
  ·rw[if_neg q,if_neg q];grind[Paired.snoc]
theorem KT.keeps(r:KT H kvs xs)(c:∀b a,H b=some (.tup a)->H' b=some (.tup a)):KT H' kvs xs :=
 Paired.mapP r λ_ _ z=>⟨z.1,c _ _ z.2.1,z.2.2⟩
section
variable{P:Zw}{w:World}{H:Hp}{h:Heap}{a:Addr}
theorem zxh(ok:HOk P w H h)(e:Rd H a u):ObjOk P w H h a u:=e.ok ok
theorem xbv(ok:HOk P w H h)(e:Rd H a (.dK kvs)):kvs.length<=Q4/\(a==V9)=false /\ ∃vs,KV kvs vs/\h.DictOf (qcj P w) a vs :=
 show ObjOk P w H h a (.dK kvs) from zxh ok e
theorem zrt(ok:HOk P w H h)(e:H a=some (.tup (ks.map kV))):(Qhi (qcj P w)).is h ks a:=by
 obtain⟨_,b,r,o,c,d,n,f⟩:=(show ObjOk P w H h a (.tup (ks.map kV)) from ok a _ e)
 exact⟨o,b.toArray,n,c,d,f,by grind[qwn]⟩
theorem zwu(ok:HOk P w H h)(e:Rd H a (.dT kvs)):kvs.length<=Q4/\(a==V9)=false /\
 ∃xs,KT H kvs xs/\h.DictOfH (Qhi (qcj P w)) a xs:=by
  obtain⟨z,y,xs,r,o,b,c,d,f,g,i,j⟩:=(show ObjOk P w H h a (.dT kvs) from zxh ok e)
  refine⟨z,y,xs,r,o,b,c,d,f,g,i,λx k=>?_,j⟩;have all:∀{l:List (List Key×V)}{m:List (List Key×Addr×Value)},KT H l m ->∀x∈m,(Qhi (qcj P w)).is h x.1 x.2.1:=by
   intro l m q
   induction q with
   |nil=>grind
   | @cons p q ps n s t u =>
    grind[zrt]
  grind
theorem zse(ok:HOk P w H h)(e:H a=some (.dT kvs)):kvs.length<=Q4/\(a==V9)=false /\
 ∃xs,KT H kvs xs/\h.DictOfH (Qhi (qcj P w)) a xs:=zwu ok (.inl e)
end
section
variable{X:Cx}{pins:List (Addr×Obj)}{σ:St}{H:Hp}{s:Qt}{a:Addr}{y v:V}{u r:Value}{o:Option V}{A:Yk}{E:Value->Qt->Prop}
theorem Inv.big(I:Inv X pins σ H s):V9<s.heap.objs.size:=by
 have h:=(I.mod.glob.keeps I.bk).lt;exact Yu (by decide) h
theorem zuc(I:Inv X pins σ H s)(c:Mut (H a))(d:Vl a s.heap h')(he:∃q,h'.get? a=some q)(new:ObjOk X.prog X.w (upd H a ob) h' a ob):
 Inv X pins σ (upd H a ob) { s with heap:=h',toks:=t' } :=
  I.write (x:=a) (e:=a) c (.inl rfl) (λb q f z=>(d.2 b f).trans z) he new
end
section
variable{X:Cx}{pins:List (Addr×Obj)}{σ:St}{H:Hp}{s:Qt}{a:Addr}{kvs:List (Key×V)}{k:Key}{u:Value}{A:Yk}{E:Value->Qt->Prop}
end
section
variable{X:Cx}{o i e value:Expr}{pos pos' tpos:Pos}{td ty tv:TE}
end
theorem zmm(h:Heap)(a:V9<h.objs.size):ObjOk P w H (h.push { cls :=.type "dict",data :=.dict #[] }) h.objs.size (.dT []) :=
 ⟨Yd _,beq_eq_false_iff_ne.mpr (Z9 (Q7 a)),[],.nil,_,#[],0,Qx _ rfl,⟨rfl,rfl,rfl⟩,rfl,rfl,Qeu⟩
def zya:TE:=λ_ H Q =>∀p,H p=none->Q (.ref p) (upd H p (.dT []))
section
variable{X:Cx}{pos:Pos}
theorem znb:PE X (.Dict [] [] pos) zya:=λb s c H Q I h =>
 wpAny_Dict_empty ⟨.ref s.heap.objs.size,_,I.laid (a:=s.heap.objs.size) (o :=.dT []) (t':=s.toks) (λ_ _ q=>Qi _ q) (Qs _) (zmm s.heap I.big),rfl,h _ (I.hok.fresh (Qs _))⟩
end
structure M2(X:Cx)(o:Expr)(m:Str)(apos:Pos)(e f:Expr)(cpos:Pos):Prop where
 base:V6 o m X.env (eval o X.env)=eval o X.env
 few:((V5 cpos (Qu [e,f] X.env)).all (λx => !x.1)&&(Qdv cpos (Qaa [] X.env)).all (λx=>x.1.isSome)
  && decide (([e,f]:List Expr).length+([]:List Qcg).length+(if([]:List Qcg).isEmpty then 0 else 1)<30))=true
 line:(apos.endLine==cpos.line)=true
 trees:V5 cpos (Qu [e,f] X.env)=[(false,eval e X.env),(false,eval f X.env)]
def IsD(H:Hp)(a:Addr):Prop:=(∃b,Rd H a (.dK b)) \/ ∃b,Rd H a (.dT b)
theorem zqf{k:St}(I:Inv X pins k H s)(d:IsD H a):
 s.TypeIs (.ref a) "dict" /\ (∀b,Y6 a = .ref b ->∃c,s.heap.get? b=some c/\c.dict=none)/\(a==V9)=false:=by
  rcases d with⟨g,e⟩|⟨g,e⟩
  ·obtain⟨_,h,l,_,f⟩:=xbv I.hok e;refine⟨f.typeIs,λb q=>?_,h⟩;cases q;obtain⟨c,_,_,i,j,_⟩:=f;exact⟨c,i,j.2.1⟩
  ·obtain⟨_,h,m,_,f⟩:=zwu I.hok e;refine⟨f.typeIs,λb q=>?_,h⟩;cases q;obtain⟨c,_,_,i,j,_⟩:=f;exact⟨c,i,j.2.1⟩
section
variable{X:Cx}{pins:List (Addr×Obj)}{σ:St}{H:Hp}{s:Qt}{a:Addr}{y d:V}{u r:Value}{o:Option V}{A:Yk}{E:Value->Qt->Prop}
end
section
variable{X:Cx}{o e f:Expr}{apos cpos:Pos}{td ty tx:TE}
end
section
variable{X:Cx}
end
abbrev DO:=List Str->List (Str×Qj)->List Qj->(Qj->Prop)->Prop
abbrev DOF:=List Str->List (Str×Qj)->List Qj->(List Qj->Prop)->Prop
def zvg(K:Qd)(F:Hp)(us:List (Str×V))(nm:List Str)(fs:List (Str×Qj)):Prop:=us.map (·.1)=nm /\ ∀f d,(f,d)∈fs ->∃v,us.lookup f=some v/\Is K F d v
def OSp(K:Qd)(C:Addr)(sp:DO):Sp:=λh H Q _ =>∃a i b rest F c fs e q,h = .ref a::rest/\H a=some (.ins C i b)/\Same F H/\zvg K F b c fs/\Iss K F e rest/\sp c fs e q /\
 ∀d v f g,Go F H f g->Is K f d v->q d->Q v g
def zmj(K:Qd)(C:Addr)(sp:DOF):Sp:=λi H Q _ =>∃a j e rest F f fs g q,i = .ref a::rest/\H a=some (.ins C j e)/\Same F H/\zvg K F e f fs/\Iss K F g rest/\sp f fs g q /\
 ∀l b h c d,Go F H c d->H b=none->c b=none->d b=some (.lst h)->Iss K c l h->q l->Q (.ref b) d
structure OkM(P:Zw)(w:World)(K:Qd)(mg:Str->Option Value)(base:Heap)(C:Addr)(m:Str)(k:Nat)(ps:List Str)(sp:Sp):Prop where
 ex:∃(f:Addr)(fd:Qbk),FnOk P w K mg base CX0 k f fd ps sp/\Meth K C m f/\Binds K fd ps []
structure MDef(K:Qd)(C:Addr)(m qual:Str)(st:Stmt)(ps:List Str):Prop where
 ex:∃(f:Addr)(fd:Qbk),Fun K m qual st f fd/\Meth K C m f/\Binds K fd ps []
theorem qaj{a:Type}:∀{l:List (Str×a)}{f:Str}{d:a},l.lookup f=some d->(f,d)∈l
 | (g,e)::l,f,d,h=>by
  rw[Qac]at h;cases q:f==g with
  |true =>
   grind
  |false =>
   rw[q]at h;exact Qk _ (qaj h)
theorem qxl{a:Type}:∀{l:List (Str×a)}{nm:List Str}{f:Str},l.map (·.1)=nm->nm.contains f=false->l.lookup f=none
 |[],_,f,_,_=>rfl
 | (g,e)::l,nm,f,h,q=>by
  grind
section
variable{P:Zw}{w:World}{K:Qd}{mg:Str->Option Value}{base:Heap}
def quj(N:List Str)(a C:Addr)(nm:List Str)(fs:List (Str×Qj))(ds:List Qj):Sto:=(qcm N (.none::ds)).set 0 (.obj a C nm fs)
theorem qhw{rest:List V}(s:Same F H)(c:H a=some (.ins C dx us))(b:zvg K F us nm fs)(i:Iss K F ds rest):
 EnvOk K ⟨H,H,F⟩ F H (quj N a C nm fs ds) (start N (.ref a::rest)):=by
  have I:=qde (K:=K) (N:=N) s (qG qud i);have e:start N (.ref a::rest)=(start N (.non::rest)).set 0 (some (.ref a)):=rfl;rw[e];exact I.sets (i:=0) (s :=.obj a C nm fs) rfl ⟨dx,us,rfl,c,b.1,b.2⟩
theorem MDef.vok{st:Stmt}(F:MDef K C m qual st ps)(S:FnScope N ps (defScope st))(len:∀nm fs ds q,sp nm fs ds q->ds.length+1=ps.length)(c:∀(f:Addr)(b:Value)(A:Yk)(outer:List Env)(s:Qt)(H:Hp)(E:XK),Room k (A.deeper (Qcq qual (defScope st) s.heap.objs.size f b)) ->∀a nm fs ds q,sp nm fs ds q ->
 ∃W,VSs (qpe CX0 P w K mg base N qual (defScope st) f b A outer s H E).nox (defBody st) W/\W { nx:=λ_=>q .none,rt:=λr _=>q r.data } (quj N a C nm fs ds)):OkM P w K mg base C m (k+1) ps (OSp K C sp):=by
  obtain⟨f,y,z,B,D⟩:=F.ex;refine⟨f,y,z.ok S (λG H Q E d=>by obtain⟨a,I,J,rest,F,nm,fs,ds,q,e,_,_,_,i,h,_⟩:=d;rw[e,Zg,i.len];exact len nm fs ds q h) λb A outer s H G Q E L l=>?_,B,D⟩;obtain⟨a,I,J,rest,F,nm,fs,ds,q,e,M,O,R,i,h,u⟩:=l;subst e;obtain⟨W,T,U⟩:=c f b A outer s H E L a nm fs ds q h;refine⟨_,T,⟨H,H,F⟩,quj N a C nm fs ds,F,_,qhw O M R i,U,⟨λV x n o p X t=>u _ _ x n p.goOf qud t,λr v V x n o p X Y t=>?_,λ_ _ _ _ _ _ h=>h.elim,λ_ _ _ _ _ _ h=>h.elim⟩⟩;obtain⟨Z,g,j⟩:=Y.is p;exact u _ _ Z n g j t
theorem MDef.vokF{st:Stmt}(F:MDef K C m qual st ps)(S:FnScope N ps (defScope st))(len:∀nm fs ds q,sp nm fs ds q->ds.length+1=ps.length)(d:∀(f:Addr)(c:Value)(A:Yk)(outer:List Env)(s:Qt)(H:Hp)(E:XK),Room k (A.deeper (Qcq qual (defScope st) s.heap.objs.size f c)) ->∀a nm fs ds q,sp nm fs ds q ->
 ∃W,VSs (qpe CX0 P w K mg base N qual (defScope st) f c A outer s H E).nox (defBody st) W/\W { nx:=λ_=>False,rt:=λr _ =>∃l,r = .own l/\q l } (quj N a C nm fs ds)):OkM P w K mg base C m (k+1) ps (zmj K C sp):=by
  obtain⟨f,x,y,z,B⟩:=F.ex;refine⟨f,x,y.ok S (λD H Q E g=>by obtain⟨a,G,I,rest,F,nm,fs,ds,q,e,_,_,_,i,h,_⟩:=g;rw[e,Zg,i.len];exact len nm fs ds q h) λc A outer s H D Q E J j=>?_,z,B⟩;obtain⟨a,G,I,rest,F,nm,fs,ds,q,e,L,M,O,i,h,R⟩:=j;subst e;obtain⟨W,T,U⟩:=d f c A outer s H E J a nm fs ds q h;refine⟨_,T,⟨H,H,F⟩,quj N a C nm fs ds,F,_,qhw M L O i,U,⟨λV p t o u X n=>n.elim,λr v V p t o u X Y n=>?_,λ_ _ _ _ _ _ h=>h.elim,λ_ _ _ _ _ _ h=>h.elim⟩⟩;obtain⟨l,rfl,n⟩:=n;obtain⟨b,Z,rfl,h1,h2,h3,h4,h5⟩:=Y;exact R l b Z p t u.goOf h4 h2 h1 h5 n
end
section
variable{X:Cx}
def xdt(C:Addr)(i:Nat)(f:Str):WE:=λa Q=>match gS a i with |.obj _ C' _ fs=>C'=C /\ ∃d,fs.lookup f=some d/\Q d a|_=>False
theorem qcz(i:Nat){g pos:Pos}(c:Cls X.K C)(n:NoAttr X.K C f)(p:X.N[i]?=some x:=by rfl)(r:Vis X.env.scope x:=by first|exact Vn rfl|exact Y3 (Vn rfl)|exact Y3 (Y3 rfl))(hd:Nd0 x:=by decide)(m:Nd1 x:=by decide)(s:V6 (.Name x g) f X.env (eval (.Name x g) X.env)=eval (.Name x g) X.env:=by rfl):VE X (.Attribute (.Name x g) f pos) (xdt C i f) :=
 (qzu (qer p r hd m) s).imp λD H R b=>by
  obtain⟨M,env,F,Q,I,h,k⟩:=b;have S:=I.slot i;unfold xdt at h;cases q:gS env i with
  |obj a t u fs =>
   rw[q]at S h;obtain⟨rfl,d,w,h⟩:=h;obtain⟨y,z,e,A,E,o⟩:=S;obtain⟨v,l,j⟩:=o f d (qaj w);exact⟨_,qdw e,a,t,y,z,v,rfl,I.bh _ _ A,c,n,l,k d v F H env I (.refl _) j h⟩
  |non=>rw[q]at h;exact h.elim
  |val d=>rw[q]at h;exact h.elim
  |own B=>rw[q]at h;exact h.elim
  |pen B=>rw[q]at h;exact h.elim
  |new d=>rw[q]at h;exact h.elim
  |exc C=>rw[q]at h;exact h.elim
  | «at» v=>rw[q]at h;exact h.elim
  |dsk _ _ _ _ _ _=>rw[q]at h;exact h.elim
def zsb(C:Addr)(i:Nat)(m:Str)(sp:DO)(b:WF):WE:=λa Q=>match gS a i with
 |.obj _ c f fs=>c=C/\f.contains m=false/\b a λg e=>match gS e i with |.obj _ C2 nm2 fs2=>C2=C/\sp nm2 fs2 g λd=>Q d e|_=>False
 |_=>False
theorem zji(h:qcq X.K (zsb C i m sp Wr) σ H R):zls C m (OSp X.K C sp) [] E0 (zbm i) (qlg X.K Wr) σ H R:=by
 obtain⟨M,f,F,Q,I,h,k⟩:=h;have S:=I.slot i;unfold zsb at h;cases q:gS f i with
 |obj a Y z fs =>
  rw[q]at S h;obtain⟨rfl,A,h⟩:=h;obtain⟨B,D,e,E,G,J⟩:=S;refine⟨_,qdw e,a,B,D,rfl,I.bh _ _ E,qxl G A,M,f,F,_,I,h,λj w K L x n N O b=>?_⟩;have y:=n.slot i;cases q1:gS x i with
  |obj Z P o p =>
   rw[q1]at y b;obtain⟨rfl,b⟩:=b;obtain⟨r,s,c,t,u,l⟩:=y;rw[e]at c;injection c with c;injection c with c;subst c;show OSp X.K P sp (V.ref a::(w++[])) L R E0;rw[Qak];exact⟨a,r,s,w,K,o,p,j,_,rfl,n.bh _ _ t,n.fh,⟨u,l⟩,O,b,λd v T U g W q=>k d v T U x (n.go g) (N.trans g.f) W q⟩
  |non=>rw[q1]at b;exact b.elim
  |val d=>rw[q1]at b;exact b.elim
  |own j=>rw[q1]at b;exact b.elim
  |pen j=>rw[q1]at b;exact b.elim
  |new d=>rw[q1]at b;exact b.elim
  |exc C=>rw[q1]at b;exact b.elim
  | «at» v=>rw[q1]at b;exact b.elim
  |dsk _ _ _ _ _ _=>rw[q1]at b;exact b.elim
 |non=>rw[q]at h;exact h.elim
 |val d=>rw[q]at h;exact h.elim
 |own j=>rw[q]at h;exact h.elim
 |pen j=>rw[q]at h;exact h.elim
 |new d=>rw[q]at h;exact h.elim
 |exc C=>rw[q]at h;exact h.elim
 | «at» v=>rw[q]at h;exact h.elim
 |dsk _ _ _ _ _ _=>rw[q]at h;exact h.elim
theorem zti(i:Nat){b a pos:Pos}{pl:Sem Bool}(O:OkM X.prog X.w X.K X.mg X.base C m k ps (OSp X.K C sp))(c:Cls X.K C)(l:Room k X.A)(n:VA X (e::es) Wr)(o:X.N[i]?=some x:=by rfl)(p:Vis X.env.scope x:=by first|exact Vn rfl|exact Y3 (Vn rfl)|exact Y3 (Y3 rfl))(hd:Nd0 x:=by decide)(d:Nd1 x:=by decide)(g:Qu (e::es) X.env=(false,eval e X.env)::Qu es X.env:=by rfl)(j:(V5 pos (Qu es X.env)).any (·.1)=false:=by rfl)(q:eval (.Call (.Attribute (.Name x b) m a) (e::es) [] pos) X.env=(do
   let ov <- eval (.Name x b) X.env
   Qhg a.atName
   let (f,first) <- Qdm [ov] (Qiu ov m pl)
   callWith pos f first (V5 pos (Qu (e::es) X.env)) (Qdv pos (Qaa [] X.env))):=by rfl):
  VE X (.Call (.Attribute (.Name x b) m a) (e::es) [] pos) (zsb C i m sp Wr):=by
  obtain⟨f,t,F,r,s⟩:=O.ex;exact(qyq (pl:=pl) (qer o p hd d) c r F l s .nil qsu n g j q).imp λu H R h=>zji h
theorem VE.pe(h:VE X e W):PE X e (qcq X.K W):=h
theorem VF.pe(h:VF X e W):PE X e (zds X.K W):=h
theorem VT.pt(h:VT X e W):PT X e (qvk X.K W):=h
theorem VS.ps{st:Stmt}(h:VS X st W):PS X st (zsa X.K W):=h
end
structure GoX(a b:Addr)(F H F' H':Hp):Prop where
 f:Same F F'
 h:∀c o,c≠a->c≠b->H c=some o->Kp o (H' c)
 fh:Same F' H'
 new:∀c o,F' c=some o->F c=some o\/H c=none
theorem zqn(d:F a=none)(f:H a=some o)(g:Go (upd F a o) H F' H'):Go F H (qwu F' a) H':=by
 refine⟨λb u e=>?_,g.h,λb u e=>?_,λb u e=>?_⟩
 ·have c:=qu e d;unfold qwu;rw[if_neg c];exact g.f b u (by grind[qi])
 ·unfold qwu at e;split at e
  ·cases e
  ·exact g.fh b u e
 ·unfold qwu at e;split at e
  ·cases e
  ·rename_i c;rcases g.new b u e with q|q
   ·grind[qi]
   grind
mutual
def qvf:Qj->Bool
 |.list _=>false
 |.dict _=>false
 |.tuple l=>qkd l
 |_=>true
def qkd:List Qj->Bool
 |[]=>true
 |d::l=>qvf d&&qkd l
end
mutual
theorem Is.off{K:Qd}{F:Hp}{a:Addr}{xs:List V}(c:F a=some (.lst xs)):∀{d:Qj}{v:V},qvf d=true->Is K F d v->Is K (qwu F a) d v
 |.none,_,_,h=>by unfold Is at h ⊢;exact h
 |.bool _,_,_,h=>by unfold Is at h ⊢;exact h
 |.int _,_,_,h=>by unfold Is at h ⊢;exact h
 |.str _,_,_,h=>by unfold Is at h ⊢;exact h
 |.list l,_,z,h=>by simp[qvf]at z
 |.dict l,_,z,h=>by simp[qvf]at z
 |.tuple l,_,z,h=>by
  unfold Is at h ⊢;obtain⟨b,f,e,q,r⟩:=h;refine⟨b,f,e,?_,Iss.off c (by simpa[qvf]using z) r⟩;rcases q with q|q
  ·refine .inl ?_;rcases q with q|⟨o,q⟩
   ·refine .inl ?_;unfold qwu;rw[if_neg (λy=>by subst y;rw[c]at q;cases q)];exact q
   ·refine .inr ⟨o,?_⟩;unfold qwu;rw[if_neg (λy=>by subst y;rw[c]at q;cases q)];exact q
  ·exact .inr q
theorem Iss.off{K:Qd}{F:Hp}{a:Addr}{xs:List V}(b:F a=some (.lst xs)):∀{l:List Qj}{vs:List V},qkd l=true->Iss K F l vs->Iss K (qwu F a) l vs
 |[],_,_,h=>by unfold Iss at h ⊢;exact h
 |d::l,_,z,h=>by
  unfold Iss at h ⊢;obtain⟨x,r,e,p,q⟩:=h;have c:qvf d=true/\qkd l=true:=by simpa[qkd]using z
  exact⟨x,r,e,Is.off b c.1 p,Iss.off b c.2 q⟩
end
section
variable{X:Cx}
theorem boot_rng:Zl "range" = some (.type "range"):=by decide +kernel
theorem zjm:CallR X (.type "range") (λxs H Q =>∃i j,xs=[.int i,.int j] /\ ∀l,H l=none->Q (.ref l) (upd H l (.rng i j))):=by
 intro b s d H xs e Q I r h;obtain⟨i,j,rfl,q⟩:=h;obtain⟨u,c,rfl,⟨t,rfl⟩,⟨t',rfl⟩⟩:=zdw r;refine call_range_2 ⟨.ref s.heap.objs.size,_,I.laid (a:=s.heap.objs.size) (o :=.rng i j) (t':=s.toks+1) (λ_ _ q=>Qi _ q) (Qs _) ?_,rfl,q _ (I.hok.fresh (Qs _))⟩;exact⟨t,t',s.toks,Qx _ rfl⟩
def zrl(i:Int)(n:Nat):List V:=(Qm n).map λ(k:Nat)=>V.int (i+k)
theorem zmy(h:ItemsOf (λ(k:Nat) (v:Value) =>∃t,v=Qex (i+(k:Int)*1) t) acc n):Vals (zrl i n) acc.toList:=by
 have b:∀(m:Nat)(l:List Value),l.length=m ->∀o:Nat,(∀k v,l[k]?=some v ->∃t,v=Qex (i+((o+k:Nat):Int)) t)->Vals ((List.range' o m).map λ(k:Nat)=>V.int (i+k)) l:=by
  intro m
  induction m with
  |zero =>
   intro l a o _;cases l with
   |nil=>exact .nil
   |cons _ _=>cases a
  |succ m d =>
   intro l a o c;cases l with
   |nil=>cases a
   |cons v l =>
    rw[List.range'_succ,Qq];refine .cons (c 0 v rfl) (d l (Qlu a) (o+1) λk w f=>?_);obtain⟨t,e⟩:=c (k+1) w (by grind);grind
 unfold zrl;rw[List.range_eq_range'];refine b n acc.toList (by rw[Z6];exact h.1) 0 λk v g=>?_;obtain⟨t,e⟩:=h.2 k v (by grind);grind
theorem zks(g:X.calm=true):CallR X (.type "list") (λxs H Q =>∃r i j,xs=[.ref r]/\H r=some (.rng i j)/\(-(2^62)<=i/\i<2^62 /\ -(2^62)<=j/\j<2^62)/\(j-i).toNat<=1000 /\ ∀l,H l=none->Q (.ref l) (upd H l (.lst (zrl i (j-i).toNat)))):=by
 intro f s G H xs J Q I r h;obtain⟨p,i,j,rfl,k,⟨m,o,w,x⟩,y,q⟩:=h;obtain⟨u,rfl,z⟩:=qmp r;cases z;obtain⟨t,t',v,A⟩:=(show ObjOk X.prog X.w H s.heap p (.rng i j) from I.hok p _ k)
 refine call_list_range (I.ok.hd g) (a:=i) (b:=j) (c:=1) (t:=t) (u:=t') (v:=v) (n:=(j-i).toNat) A (small_one m o w x) (by grind[rangeSize_one]) (by lia) λB C d D E F e=>?_;refine⟨.ref s.heap.objs.size,_,I.laid (t':=C) E (Qs _) (show ObjOk X.prog X.w _ B _ (.lst (zrl i (j-i).toNat)) from⟨?_,d.toList,D,zmy e,?_⟩),rfl,q _ (I.hok.fresh (Qs _))⟩
 ·unfold zrl;rw[Qe,Z1];exact Yq (qm y)
 ·rw[F]
end
theorem qmw(s:Same F H)(h:H a=some o):Same (upd F a o) H:=λb u e=>by
 by_cases z:b=a
 ·subst z;rw[qk]at e;exact .of (by grind)
 ·rw[qi z]at e;exact s b u e
theorem zib(s:Same F H)(h:H a=some o):Same F (upd F a o):=λb u e=>by
 by_cases z:b=a
 ·subst z;rw[qk];have:=s _ _ e;grind
 ·rw[qi z];exact .of e
theorem qqz(g:Go F H F' H')(h:H a=some o)(f:F a=none):F' a=none:=by
 cases e:F' a with
 |none=>rfl
 |some u =>
  rcases g.new a u e with q|q
  ·grind
  grind
theorem zxf(g:Go F H F' H')(hb:H b=none)(h':H' b=some o):Go F H (upd F' b o) H' where
 f:=g.f.trans (zib g.fh h')
 h:=g.h
 fh:=qmw g.fh h'
 new:=λc u e=>by
  by_cases z:c=b
  ·grind
  ·rw[qi z]at e;exact g.new c u e
theorem GoX.go(g:Go F H F1 H1)(x:GoX a b F1 H1 F2 H2)(na:H a=none)(nb:H b=none):Go F H F2 H2 where
 f:=g.f.trans x.f
 h:=λc o e=>(g.h c o e).tr λu z=>x.h c u (qu e na) (qu e nb) z
 fh:=x.fh
 new:=λc o e=>(x.new c o e).elim (λq=>g.new c o q) λq => .inr (qB g.h q)
section
variable{K:Qd}{M:Frm}{F H:Hp}
def Slots(K:Qd)(M:Frm)(F H:Hp):Sto->St->Prop
 |[],a=>a=[]
 |s::e,a =>∃x r,a=x::r/\(SlotOk K M F H s x/\s.mut=false)/\Slots K M F H e r
theorem Slots.len:∀{e:Sto}{a:St},Slots K M F H e a->e.length=a.length
 |[],a,h=>by
  have h:=h;subst h;rfl
 |s::e,a,h=>by
  obtain⟨x,r,rfl,_,h⟩:=h;rw[Zg,Zg,Slots.len h]
theorem Slots.at:∀{e:Sto}{a:St},Slots K M F H e a ->∀i,SlotOk K M F H (gS e i) (vS a i)/\(gS e i).mut=false
 |[],a,h,i=>by
  rw[zfx (Yd _)];exact⟨trivial,rfl⟩
 |s::e,a,h,0=>by
  obtain⟨x,r,rfl,q,h⟩:=h;exact q
 |s::e,a,h,i+1=>by
  obtain⟨x,r,rfl,q,h⟩:=h;have b:vS (x::r) (i+1)=vS r i:=by unfold vS;grind
  rw[b];exact Slots.at h i
theorem qpz(s:Same F H)(h:Slots K ⟨H,H,F⟩ F H env σ):EnvOk K ⟨H,H,F⟩ F H env σ where
 len:=h.len
 slot:=λi=>(h.at i).1
 dis:=λi j a _ m _ _ _=>by rw[(h.at i).2]at m;cases m
 f0 :=.refl _
 fe:=s
 fh:=s
 bh :=.refl _
 new:=λb o e => .inl e
 dom:=λb o e=>⟨o,e⟩
end
def SolSp(K:Qd)(sp:DC):Sp:=λg H Q _ =>∃F c q,Same F H/\Iss K F c g/\sp c q /\
 ∀d t p b e f a,Go F H f a->Is K f d (.ref p)->a p=some (.tup [t,.ref b])->H b=none->a b=some (.lst e)->e.length<=900->q d->Q (.ref p) a
theorem SolSp.psp{K:Qd}(h:PSp K sp vs H Q E):SolSp K sp vs H Q E:=by
 obtain⟨F,a,q,s,i,h,k⟩:=h;exact⟨F,a,q,s,i,h,λd t p e f b c g j _ _ _ _ z=>k d (.ref p) b c g j z⟩
theorem zgo{K:Qd}(g:Go F H F1 H1)(f:H a=none)(b:H1 a=some (.lst xs))(i:Iss K F1 ds xs)(c:H1 p=none):
 ∃d,Go F H d (upd H1 p (.tup [.str w,.ref a]))/\Is K d (.tuple [.str w,.list ds]) (.ref p)/\upd H1 p (.tup [.str w,.ref a]) p=some (.tup [.str w,.ref a])/\upd H1 p (.tup [.str w,.ref a]) a=some (.lst xs):=by
  have g2:=zxf g f b;have e:=Go.put (o:=HO.tup [.str w,.ref a]) g2.fh c;have ne:=qu b c;refine⟨_,g2.trans e,qqb (SqT.of qk) (qG (zfy w) (qG (qeq (SqL.of ?_) (i.mono ((zib g.fh b).trans e.f))) qah)),qk,by grind[qi]⟩;grind[qi,qk]
theorem Ok.imp'{K:Qd}(O:Ok P w K mg base x k ps sp)(h:∀vs H Q E,sp' vs H Q E->sp vs H Q E):Ok P w K mg base x k ps sp':=by
 obtain⟨f,d,F,a,b,c⟩:=O.ex;exact⟨f,d,F.imp h,a,b,c⟩
theorem xcr{K:Qd}(O:Ok P w K mg base x k ps (SolSp K sp)):Ok P w K mg base x k ps (PSp K sp):=O.imp' λ_ _ _ _ z=>SolSp.psp z
section
variable{X:Cx}
theorem VN.pe(h:VN X e W):PE X e (zlr X.K W):=h
theorem VI.pi(h:VI X tg e W):PI X tg e (qve X.K W):=h
end
theorem zwg(l:Addr)(c:Array Value)(n:Nat)(b:Addr)(k:Option Addr)(a:Array Value)(m:Nat)(o:Array (Option Value))(r : ¬(!c.isEmpty&&V0 (c.size+a.size))=true)(p:c.size<=Q4)(t:c.size+a.size<=Q4+1):
 Meets (Builtin.«list.extend» ⟨[.ref l,.ref b],[]⟩) (λ_ f s=>s.heap.get? l=some { cls :=.type "list",dict:=none,data :=.seq c n,slots := #[] }/\s.heap.get? b=some ⟨.type "tuple",k,.seq a m,o⟩/\f (.ok (.ret Jr)) { s with heap:=s.heap.update l (Ye λx=>x++a),toks:=s.toks }) :=
  .of_wp λi w A f s h=>by
   obtain⟨u,g,d,v,y⟩:=s;obtain⟨j,q,h⟩:=h;have z:=sub_tuple_tuple;have B:=sub_list_list;have C:=sub_tuple_list;have D:=sub_list_tuple;have e:(c++a).size<=Q4+1:=by grind
   wp_walk using(wpAny_updateSeq j rfl (hz:=p) (_hz':=e)),Z4 j,Z4 q
   grind
def xce(K:Qd):V->List V->Hp->VK->Prop:=λx d H Q =>∃l b a c,x = .ref l/\d=[.ref b]/\H l=some (.lst a)/\SqT K H b c/\a.length+c.length<=Q4/\Q .non (upd H l (.lst (a++c)))
section
variable{X:Cx}{e:Expr}{We:WE}{pos:Pos}
theorem zte:MtM X "list.extend" (xce X.K):=by
 intro i s G H x J v K Q I m p h;obtain⟨l,b,L,M,rfl,rfl,j,t,N,q⟩:=h;cases m;obtain⟨u,rfl,w⟩:=p.one;cases w;obtain⟨z,d,n,r,O,e⟩:=I.lstM j;obtain⟨a,k,⟨o,y,A,B,C⟩,P⟩:=I.tuple t;obtain⟨c,D,R,E⟩:=o;subst A C;have F:=k.length;have g:d.toArray.size+a.toArray.size<=Q4:=by grind
 have f : ¬ (!d.toArray.isEmpty&&V0 (d.toArray.size+a.toArray.size))=true:=by
  rw[qtc g,Qer];grind
 refine Qdz Qil ⟨_,e,rfl⟩ Qhz (Qhm _ _) (zwg l d.toArray n b D a.toArray B E f (by grind) (by omega)) ⟨e,y,?_⟩;refine⟨.non,_,I.lset (its':=d++a) j e (by simp) (r.append k) ?_,rfl,q⟩;grind
def xcn(i:Nat)(b:WE):WS:=λD a=>(gS a i).mut=true/\b a λd e=>match d with
 |.tuple l=>(gS e i).mut=true/\(gS e i).cnt.length+l.length<=Q4/\D.nx (e.set i ((gS e i).upd ((gS e i).cnt++l)))
 |_=>False
theorem zdt(i:Nat){n d b:Pos}(he:VE X e We)(B:X.N[i]?=some x:=by rfl)(C:Vis X.env.scope x:=by first|exact Vn rfl|exact Y3 (Vn rfl)|exact Y3 (Y3 rfl))(hd:Nd0 x:=by decide)(r:Nd1 x:=by decide)(g:V6 (.Name x n) "extend" X.env (eval (.Name x n) X.env)=eval (.Name x n) X.env:=by rfl)(o:((V5 b (Qu [e] X.env)).all (λx => !x.1)&&(Qdv b (Qaa [] X.env)).all (λx=>x.1.isSome)
  && decide ([e].length+([]:List Qcg).length+(if([]:List Qcg).isEmpty then 0 else 1)<30))=true:=by rfl)(j:(d.endLine==b.line)=true:=by rfl)(q:Qu [e] X.env=(false,eval e X.env)::Qu [] X.env:=by rfl)(f:(V5 b (Qu [] X.env)).any (·.1)=false:=by rfl)(E:Jz (.Call (.Attribute (.Name x n) "extend" d) [e] [] b) none pos.line X.env=pure false:=by rfl):VS X (.Expr (.Call (.Attribute (.Name x n) "extend" d) [e] [] b) pos) (xcn i We) :=
 (qko (zsh Qbx Qff Qfg zte (qer B C hd r) (qM he qbe q) g o j q f) E).imp λD G H m=>by
  obtain⟨M,env,F,U,I,⟨J,h⟩,k⟩:=m;obtain⟨p,V,s,K,g2,W,Y⟩:=(I.slot i).addr J;refine⟨_,qdw s,.inl ⟨rfl,_,SqL.of K⟩,M,env,F,_,I,h,λL Z N H1 e1 t O P w=>?_⟩;cases L with
  |tuple l =>
   obtain⟨y,Q,R⟩:=w;obtain⟨p',u,c,S,f2,f3,z⟩:=(t.slot i).addr y;rw[s]at c;injection c with c;injection c with c;subst c;obtain⟨a,T,rfl,v,A⟩:=P.tup_inv;exact⟨p,a,u,T,rfl,rfl,S,qab t.fh v,by rw[z.len,A.len];exact Q,k.nx _ N _ G (t.chg y s (qbb z A)) O R⟩
  |_=>exact Zc w
end
section
variable{X:Cx}
end
section
variable{X:Cx}{pos:Pos}
end
mutual
def zfb:Qj->Bool
 |.list _=>false
 |.dict _=>false
 |.tuple l=>qzm l
 |_=>true
def qzm:List Qj->Bool
 |[]=>true
 |d::l=>zfb d&&qzm l
end
mutual
theorem zyq{K:Qd}{F:Hp}{a:Addr}{vs:List V}(h:F a=some (.lst vs)):∀{d:Qj}{v:V},zfb d=true->Is K F d v->Is K (qwu F a) d v
 |.none,_,_,i=>by unfold Is at i ⊢;exact i
 |.bool _,_,_,i=>by unfold Is at i ⊢;exact i
 |.int _,_,_,i=>by unfold Is at i ⊢;exact i
 |.str _,_,_,i=>by unfold Is at i ⊢;exact i
 |.list l,_,z,_=>by unfold zfb at z;cases z
 |.dict l,_,z,_=>by unfold zfb at z;cases z
 |.tuple l,_,z,i=>by
  unfold zfb at z;unfold Is at i ⊢;obtain⟨b,f,e,q,r⟩:=i;refine⟨b,f,e,?_,zhv h z r⟩;rcases q with(q|⟨o,q⟩)|q
  ·exact .inl (.inl (by unfold qwu;rw[if_neg (λc=>by rw[c,h]at q;cases q)];exact q))
  ·exact .inl (.inr ⟨o,by unfold qwu;rw[if_neg (λc=>by rw[c,h]at q;cases q)];exact q⟩)
  ·exact .inr q
theorem zhv{K:Qd}{F:Hp}{a:Addr}{vs:List V}(h:F a=some (.lst vs)):∀{l:List Qj}{xs:List V},qzm l=true->Iss K F l xs->Iss K (qwu F a) l xs
 |[],_,_,i=>by unfold Iss at i ⊢;exact i
 |d::l,_,z,i=>by
  unfold qzm at z;rw[Yb]at z;unfold Iss at i ⊢;obtain⟨x,r,e,p,q⟩:=i;exact⟨x,r,e,zyq h z.1 p,zhv h z.2 q⟩
end
section
variable{X:Cx}
end
section
variable{X:Cx}{Ex:St->XK}{a b:Expr}{rest:List Expr}{pos:Pos}{Wa Wx2:WX->WE}{Wb:WE}
end
section
variable{X:Cx}
theorem boot_any:Zl "any" = some (.builtin "any"):=by decide +kernel
end
section
variable{X:Cx}{elt target iter cnd:Expr}{scope:Scope}{pos py spos:Pos}{caps own:List Str}{ix:List Nat}{Wi:WF}{G:WG}{Wt:WT}{We:WE}{i:Nat}{y:Str}
end
section
variable{X:Cx}{b:Expr}{Wb:WE}{pos px:Pos}
end
section
variable{X:Cx}{Ex:St->XK}{pos:Pos}{Wt:WX->WS}
end
end L2
namespace L2
open PySem PySem.Spec PyProof.Rows PySem.W
structure OrdN(n:Nat)(lt:Nat->Nat->Bool):Prop where
 irr:∀i,lt i i=false
 tr:∀i j k,i<n->j<n->k<n->lt i j=true->lt j k=true->lt i k=true
 tot:∀i j,i<n->j<n->i≠j->lt i j=true\/lt j i=true
structure PmN(n:Nat)(p:Array Nat):Prop where
 s:p.size=n
 p:p.toList.Perm (Qm n)
section
variable{n:Nat}{lt:Nat->Nat->Bool}{p:Array Nat}
theorem PmN.get(h:PmN n p)(a:k<n):p[k]?=some (p.getD k 0):=by
 have:k<p.size:=by rw[h.s];exact a
 rw[Jo this];simp[Qli,this]
theorem PmN.bd(h:PmN n p)(a:k<n):p.getD k 0<n:=by
 have e:=h.get a;have:p.getD k 0∈p.toList:=by
  grind
 exact Zi.mp (h.p.mem_iff.mp this)
theorem PmN.inj(h:PmN n p)(b:i<n)(d:j<n)(ne:i≠j):p.getD i 0≠p.getD j 0:=λz=>by
 have e:=(h.p.nodup_iff).mpr Qfu;have a:=h.get b;have c:=h.get d;rw[<- Qgp]at a c;rw[z]at a;have f:i<p.toList.length:=by rw[Z6,h.s];exact b
 exact ne ((Qat f e).mp (by rw[a,c]))
theorem PmN.of(h:PmN n p)(a:q.Perm p):PmN n q:=by
 have e:=Array.perm_iff_toList_perm.mp a;refine⟨?_,e.trans h.p⟩;rw[<- h.s];have:=e.length_eq;grind
def SrtN(lt:Nat->Nat->Bool)(p:Array Nat)(m:Nat):Prop :=∀k,1<=k->k<m->lt (p.getD (k-1) 0) (p.getD k 0)=true
def ztk(lt:Nat->Nat->Bool)(p:Array Nat)(m:Nat):Prop :=∀k,1<=k->k<m->lt (p.getD k 0) (p.getD (k-1) 0)=true
theorem SrtN.pair(o:OrdN n lt)(h:PmN n p)(c:m<=n)(s:SrtN lt p m):∀(d:Nat),i+d+1<m->lt (p.getD i 0) (p.getD (i+d+1) 0)=true
 |0,e=>by have:=s (i+1) (by lia) (by lia);exact this
 |d+1,e=>by
  have a:=SrtN.pair o h c s (i:=i) d (by lia);have b:=s (i+d+2) (by lia) (by lia);exact o.tr _ _ _ (h.bd (by lia)) (h.bd (by lia)) (h.bd (by lia)) a b
theorem SrtN.lt2(o:OrdN n lt)(h:PmN n p)(a:m<=n)(s:SrtN lt p m)(b:i<j)(c:j<m):lt (p.getD i 0) (p.getD j 0)=true:=by
 have:=SrtN.pair o h a s (i:=i) (j-i-1) (by omega);rw[show i+(j-i-1)+1=j by omega]at this;exact this
theorem OrdN.flip(o:OrdN n lt)(b:i<n)(c:j<n)(ne:i≠j)(a:lt i j=false):lt j i=true:=by
 rcases o.tot i j b c ne with z|z
 ·grind
 ·exact z
theorem zhc(h:PmN n p)(b:m<=n)(c:k<n):(kas_rev p 0 m).getD k 0=if k<m then p.getD (m-1-k) 0 else p.getD k 0:=by
 have f:(kas_rev p 0 m).size=n:=by unfold kas_rev;rw[mirror_size];exact h.s
 have e:(kas_rev p 0 m)[k]?=some ((kas_rev p 0 m).getD k 0):=by
  have:k<(kas_rev p 0 m).size:=by grind
  rw[Jo this];simp[Qli,this]
 have d:=getElem?_mirror_all (xs:=p) (i:=0) (j:=m) (by rw[h.s];exact b) k;have a:(kas_rev p 0 m)[k]?=if 0<=k/\k<m then p[0+m-1-k]? else p[k]?:=d
 rw[e]at a;by_cases q:k<m
 ·rw[if_pos ⟨Yd _,q⟩,show 0+m-1-k=m-1-k by lia,h.get (show m-1-k<n by lia)]at a;grind
 ·rw[if_neg (by lia),h.get c]at a;grind
theorem zrm(h:PmN n p):PmN n (kas_rev p 0 m):=h.of (mirror_perm _ _ _ _)
theorem zwe(h:PmN n p)(a:m<=n)(d:ztk lt p m):SrtN lt (kas_rev p 0 m) m:=λk c b=>by
 rw[zhc h a (by lia),zhc h a (by lia),if_pos (by lia),if_pos b];have:=d (m-k) (by lia) (by lia);rw[show m-1-(k-1)=m-k by lia,show m-1-k=m-k-1 by lia];exact this
end
section
variable{n:Nat}{lt:Nat->Nat->Bool}{cmp:Nat->Nat->(Bool->Qt->Prop)->Qt->Prop}{s:Qt}
theorem zfv(o:OrdN n lt)(d:∀i j C,i<n->j<n->C (lt i j) s->cmp i j C s)(h:PmN n p):∀(f a:Nat),1<=a->a+f<=n->SrtN lt p a->(∀m,a<=m->m<=a+f->SrtN lt p m->(m<a+f->lt (p.getD m 0) (p.getD (m-1) 0)=true)->Q m s)->(kas_asc p f a).kasWp cmp Q s
 |0,a,g,l,b,k=>k a (Qs _) (by lia) b (by lia)
 |f+1,a,g,l,b,k=>by
  refine d _ _ _ (h.bd (by lia)) (h.bd (by lia)) ?_;cases e:lt (p.getD a 0) (p.getD (a-1) 0)with
  |true=>exact k a (Qs _) (by lia) b (λ_=>e)
  |false =>
   refine zfv o d h f (a+1) (by lia) (by lia) (λc q u=>?_) λm v w r t=>k m (by lia) (by lia) r (λz=>t (by lia));by_cases z:c<a
   ·exact b c q z
   ·have:c=a:=by lia
    subst this;exact o.flip (h.bd (by lia)) (h.bd (by lia)) (h.inj (by lia) (by lia) (by lia)) e
theorem zgq(o:OrdN n lt)(c:∀i j C,i<n->j<n->C (lt i j) s->cmp i j C s)(h:PmN n p):∀(f a:Nat),1<=a->a+f<=n->ztk lt p a->(∀m,a<=m->m<=a+f->ztk lt p m->Q (p,m,0) s)->(kas_desc f p a 0).kasWp cmp Q s
 |0,a,g,l,b,k=>k a (Qs _) (by omega) b
 |f+1,a,g,l,b,k=>by
  refine c _ _ _ (h.bd (by omega)) (h.bd (by omega)) ?_;cases e:lt (p.getD a 0) (p.getD (a-1) 0)with
  |true =>
   refine zgq o c h f (a+1) (by omega) (by omega) (λd q t=>?_) λm u v r=>k m (by omega) (by omega) r;by_cases z:d<a
   ·exact b d q z
   ·have:d=a:=by omega
    subst this;exact e
  |false =>
   refine c _ _ _ (h.bd (by omega)) (h.bd (by omega)) ?_;rw[o.flip (h.bd (by omega)) (h.bd (by omega)) (h.inj (by omega) (by omega) (by omega)) e];exact k a (Qs _) (by omega) b
theorem zsy(o:OrdN n lt)(c:∀i j C,i<n->j<n->C (lt i j) s->cmp i j C s)(h:PmN n p)(e:1<=m)(f:m<=n)(d:ztk lt p m)(k:∀a b,a<=n->PmN n b->SrtN lt b a->Q (a,b) s):(kas_tail3 m n p).kasWp cmp Q s:=by
 unfold kas_tail3;rw[Qca];exact zfv o c (zrm h) _ _ e (by lia) (zwe h f d) λa l q g _=>k a _ (by lia) (zrm h) g
theorem zpe(o:OrdN n lt)(b:∀i j C,i<n->j<n->C (lt i j) s->cmp i j C s)(h:PmN n p)(w:2<=n)(k:∀a c,a<=n->PmN n c->SrtN lt c a->Q (a,c) s):(kas_count n p).kasWp cmp Q s:=by
 unfold kas_count;rw[Qca];refine zfv o b h _ 1 (Qs _) (by lia) (λf l q=>by lia) λm x y d r=>?_;by_cases e:m=n
 ·subst e;rw[if_pos (beq_self_eq_true m)];exact k m p (Qs _) h d
 ·rw[if_neg (by simpa using e)];by_cases g:m>1
  ·rw[if_pos g];refine b _ _ _ (h.bd (by lia)) (h.bd (by lia)) ?_;rw[d.lt2 o h (show m<=n by lia) (show 0<m-1 by lia) (by lia)];exact k m p (by lia) h d
  ·rw[if_neg g];have t:m=1:=by lia
   subst t;unfold kas_descPart;rw[Qca];have u:ztk lt p 2:=λf l q=>by
    have:f=1:=by lia
    subst this;exact r (by lia)
   exact zgq o b h (n-2) 2 (by lia) (by lia) u λa l q v=>show(kas_tail3 a n p).kasWp cmp Q s from zsy o b h (by lia) (by lia) v k
theorem qtp(o:OrdN n lt)(t:∀i j C,i<n->j<n->C (lt i j) s->cmp i j C s)(h:PmN n p)(c:k<n)(d:SrtN lt p k)(q:∀l,l<=k->(∀i,i<l->lt (p.getD i 0) (p.getD k 0)=true)->(∀i,l<=i->i<k->lt (p.getD k 0) (p.getD i 0)=true)->Q l s):∀(f l r:Nat),l<=r->r<=k->r-l<=f->(∀i,i<l->lt (p.getD i 0) (p.getD k 0)=true)->(∀i,r<=i->i<k->lt (p.getD k 0) (p.getD i 0)=true)->(kas_place p k f l r).kasWp cmp Q s
  |0,l,r,w,u,x,g,m=>q l (by lia) g (λi a b=>m i (by lia) b)
  |f+1,l,r,w,u,x,g,m=>by
   unfold kas_place;by_cases z:l>=r
   ·rw[if_pos z];exact q l (by lia) g (λi a b=>m i (by lia) b)
   ·rw[if_neg z];have c1:(l+r)/2<k:=by lia
    refine t _ _ _ (h.bd c) (h.bd (by lia)) ?_;cases e:lt (p.getD k 0) (p.getD ((l+r)/2) 0)with
    |true =>
     refine qtp o t h c d q f l _ (by lia) (by lia) (by lia) g λi a b=>?_;by_cases z:i=(l+r)/2
     ·rw[z];exact e
     ·exact o.tr _ _ _ (h.bd c) (h.bd (by lia)) (h.bd (by lia)) e (d.lt2 o h (by lia) (show(l+r)/2<i by lia) b)
    |false =>
     have v:=o.flip (h.bd c) (h.bd (show(l+r)/2<n by lia)) (h.inj c (by lia) (by lia)) e;refine qtp o t h c d q f _ r (by lia) u (by lia) (λi a=>?_) m;by_cases z:i=(l+r)/2
     ·rw[z];exact v
     ·exact o.tr _ _ _ (h.bd (by lia)) (h.bd (by lia)) (h.bd c) (d.lt2 o h (by lia) (show i<(l+r)/2 by lia) c1) v
theorem zgp(h:PmN n p)(d:k<n)(j:l<=k)(f:i<n):(bubble p k (k-l)).getD i 0=if i=l then p.getD k 0 else if l<i/\i<=k then p.getD (i-1) 0 else p.getD i 0:=by
 have g:(bubble p k (k-l)).size=n:=by rw[bubble_size];exact h.s
 have e:(bubble p k (k-l))[i]?=some ((bubble p k (k-l)).getD i 0):=by
  have:i<(bubble p k (k-l)).size:=by rw[g];exact f
  rw[Jo this];simp[Qli,this]
 have a:=getElem?_bubble (xs:=p) (src:=k) (by rw[h.s];exact d) (k-l) (by omega) i;rw[e,show k-(k-l)=l by omega]at a;by_cases b:i=l
 ·rw[if_pos b,h.get d]at a;rw[if_pos b];exact Qr a
 ·rw[if_neg b]at a;rw[if_neg b];by_cases c:l<i/\i<=k
  ·rw[if_pos c,h.get (show i-1<n by omega)]at a;rw[if_pos c];exact Qr a
  ·rw[if_neg c,h.get f]at a;rw[if_neg c];exact Qr a
theorem zrc(o:OrdN n lt)(g:∀i j C,i<n->j<n->C (lt i j) s->cmp i j C s)(q:∀p,PmN n p->SrtN lt p n->Q p s):∀(f:Nat)(p:Array Nat)(k:Nat),PmN n p->1<=k->k+f=n->SrtN lt p k->(kas_bin f p k).kasWp cmp Q s
 |0,p,k,h,_,e,c=>by
  have:k=n:=by lia
  subst this;exact q p h c
 |f+1,p,k,h,v,e,c=>by
  unfold kas_bin;rw[Qca];have d:k<n:=by lia
  refine qtp o g h d c (λl m a b=>?_) k 0 k (Yd _) (Qs _) (by lia) (λi z=>by lia) (λi w x=>by lia);refine zrc o g q f _ (k+1) (h.of (bubble_perm _ _ _)) (by lia) (by lia) λi r y=>?_;rw[zgp h d m (show i-1<n by lia),zgp h d m (show i<n by lia)];by_cases A:i<l
  ·rw[if_neg (by lia),if_neg (by lia),if_neg (by lia),if_neg (by lia)];exact c i r (by lia)
  ·by_cases t:i=l
   ·grind
   ·by_cases u:i-1=l
    ·grind
    ·rw[if_neg u,if_pos ⟨by lia,by lia⟩,if_neg t,if_pos ⟨by lia,by lia⟩];exact c (i-1) (by lia) (by lia)
theorem zto(o:OrdN n lt)(a:∀i j C,i<n->j<n->C (lt i j) s->cmp i j C s)(d:2<=n)(q:∀p,PmN n p->SrtN lt p n->Q p s):(kas_sort n).kasWp cmp Q s:=by
 unfold kas_sort;rw[Qca];have e:PmN n (Qlv (Qm n)):=⟨by simp,by simp⟩
 refine zpe o a e d λm p g b c=>?_;by_cases z:m<n
 ·rw[if_pos z];refine zrc o a q _ p _ b (by lia) (by lia) λk f h=>c k f (by lia)
 ·rw[if_neg z];have:m=n:=by lia
  subst this;exact q p b c
end
section
variable{prog:Zw}{w:World}{A:Yk}{R:Result->Qt->Prop}{s:Qt}
theorem qvz(d:A.depth<Vw)(j:s.heap.get? a=some o)(l:o.data = .func fd)(n:fd.scope.isCoroutine=false)(p:fd.scope.isGenerator=false)(u:fd.body = .expr body)(v:fd.code = .ref c)(x:s.heap.get? c=some oc)(y:oc.data = .fields vs)(B:vs[1]?=some (.str q t))(k:wpAny (model prog w) A.in1 (Qdw fd args) (λbs h=>wpAny (model prog w) A.in1 (Qcz fd.scope fd.globals fd.closure bs (q ++ ".<locals>.") (some a) (.ref c) none fd.builtins)
 (λenv g=>g.heap.NoLimit/\Qcj (model prog w) A (.expr body env) R g) (λe b=>R (.error e) b) h) (λe b=>R (.error e) b) s):Qcj (model prog w) A (.call (.ref a) args) R s:=by
  apply codeAny_of_tree;have go:wpAny (model prog w) A.in1 (callAny (.ref a) args) (λr b=>match r with |.done f=>R (.ok f) b |.again c'=>c'.quiet=true/\Qcj (model prog w) A c' R b) (λe b=>R (.error e) b) s:=by
   simp only[callAny];refine Qg (wpAny_load j ?_);simp only[l,callFunction,n,p,u,v];refine Qg (m:=field (.ref c) 1) (Vs x y B (Qg (Qy ?_)));refine Qg (Yh k (λbs h C=>?_) λ_ _ z=>z);refine Qg (Yh C (λenv g i=>?_) λ_ _ z=>z);exact Qg (wpAny_enterFrame i.1 d (Qy ⟨rfl,i.2⟩))
  exact go
end
def cxL(P:Zw)(w:World)(K:Qd)(mg:Str->Option Value)(base:Heap)(q:Str)(scope:Scope)(f:Addr)(cd:Value)(cl:List (Str×Addr))(N:List Str)(A:Yk)(outer:List Env)(s:Qt)(H:Hp):Cx where
 prog:=P
 w:=w
 K:=K
 mg:=mg
 base:=base
 A:=A.deeper (envX q scope s.heap.objs.size f cd cl)
 N:=N
 s₀:=s
 H₀:=H
 env:=envX q scope s.heap.objs.size f cd cl
 outer:=outer
 stack:=envX q scope s.heap.objs.size f cd cl::outer
 ex:=[]
 fn:=λ_=>false
 calm:=true
 pn:=[]
 xe:=λ_ _=>False
structure LamScope(scope:Scope)(x y:Str):Prop where
 kind:scope.kind = .function
 co:scope.isCoroutine=false
 gen:scope.isGenerator=false
 px:scope.names.lookup x=some .local
 py:scope.names.lookup y=some .free
 ne:x≠y
 nocell:∀z∈scope.names,z.2≠.cell
 free:∀z,scope.names.lookup z=some .free->z=y
section
variable{P:Zw}{w:World}{K:Qd}{mg:Str->Option Value}{base:Heap}{q:Str}{scope:Scope}{f cg:Addr}{cd ug u:Value}{x y:Str}{A:Yk}{outer:List Env}{s:Qt}{H:Hp}{v vg:V}{h1:Heap}{tk:Nat}
theorem zts(S:LamScope scope x y)(hd:A.handled=none)(d:Env0 P w K mg base A outer s H)(D:s.heap.IsCell cg (some ug))(J:H cg=none)(E:RelV vg ug)(F:RelV v u)(ns:h1.Ns s.heap.objs.size (λz=>([(x,u)]:List (Str×Value)).reverse.lookup z))(n:∀b o,s.heap.get? b=some o->h1.get? b=some o):
 Inv (cxL P w K mg base q scope f cd [(y,cg)] [x,y] A outer s H) [] [some v,some vg] H { s with heap:=h1,toks:=tk }:=by
  have g:∀b:Addr,b∉(cxL P w K mg base q scope f cd [(y,cg)] [x,y] A outer s H).ex:=λb z=>absurd (show b∈([]:List Addr) from z) (by simp);have look:∀z c,(cxL P w K mg base q scope f cd [(y,cg)] [x,y] A outer s H).env.cells.lookup z=some c->z=y/\c=cg:=λz c h=>by
   have h:([(y,cg)]:List (Str×Addr)).lookup z=some c:=h;grind
  have m:([(y,cg)]:List (Str×Addr)).lookup y=some cg:=by grind
  refine⟨⟨d.mod,S.kind,rfl,rfl,Qs _,λz G c a b=>(look z c a).1.trans (look G c b).1.symm,λz j=>?_,λz c a b=>(by cases a),λ_=>hd,Qdn d.frames,.inr ⟨rfl,rfl⟩,λb z=>absurd z (g b),d.bs,d.bsz,λb _ _=>g b,λb z=>absurd z (g b),d.funs,d.frf⟩,
   rfl,d.bare,Un.kept n,⟨_,ns,λi z L e l M=>?_⟩,λz c a=>?_,d.hok.fresh (Qs _),λz c a=>?_,λp I=>absurd (show p∈([]:List (Addr×Obj)) from I) (by simp),d.hok.kept n,rfl⟩
  ·have j:=j;rcases j with j|j
   ·exact absurd rfl (S.nocell _ (Vq j))
   ·rw[S.free z j];exact⟨cg,m⟩
  ·have e:=e
   match i,e,l with
   |0,e,l =>
    have r:=Qr e;have t:=Qr (Qr l);subst r;subst t;refine⟨u,F,.inl ⟨S.px,?_⟩⟩;grind
   |1,e,l =>
    have r:=Qr e;have t:=Qr (Qr l);subst r;subst t;obtain⟨B,C,k⟩:=D;exact⟨ug,E,.inr ⟨.inr S.py,cg,m,B,n _ _ C,k⟩⟩
   |i+2,e,l=>cases e
  ·rw[(look z c a).2];obtain⟨B,C,k⟩:=D;exact⟨_,B,n _ _ C,k⟩
  grind
theorem zvl(S:LamScope scope x y)(hd:A.handled=none)(g:Env0 P w K mg base A outer s H)(a:A.depth<Vw)(j:s.heap.get? f=some o)(k:o.data = .func (kla_fn nm qual params body scope [(y,cg)] pm (.ref c) ct))(l:Qdw (kla_fn nm qual params body scope [(y,cg)] pm (.ref c) ct) ⟨[u],[]⟩=pure [(x,u)])(m:s.heap.get? c=some oc)(n:oc.data = .fields vs)(p:vs[1]?=some (.str q t))(B:s.heap.IsCell cg (some ug))(C:H cg=none)(D:RelV vg ug)(F:RelV v u)(he:PE (cxL P w K mg base q scope f (.ref c) [(y,cg)] [x,y] A outer s H) body te)(h:te [some v,some vg] H Q):Qcj (model P w) A (.call (.ref f) ⟨[u],[]⟩) (CR CX0 outer P w H s Q E) s:=by
  refine qvz a j k S.co S.gen rfl rfl m n p ?_;rw[l];refine Qy (wpAny_newFunctionEnv S.nocell (λz G=>by rw[Q6.mp G];exact S.px) (λJ L M=>?_) S.kind);have i:∀b o,s.heap.get? b=some o->J.get? b=some o:=λb o e=>M.extBut b o (Q7 (Qw e)) (Qi _ e);refine⟨(g.mod.nolimit.keeps λb o e=>(g.bs b o e).1).keeps i,?_⟩;have I:=zts (q:=q) (f:=f) (cd :=.ref c) (tk:=s.toks+([(x,u)]:List (Str×Value)).length) S hd g B C D F L i;refine kla_codeExpr (Yh (he [] _ _ H Q I h) (λr U z=>?_) λ_ _ z=>z.elim);obtain⟨N,O,d,R,T⟩:=z;exact⟨N,O,d.os,d.bare,d.base,d.hok,R,T⟩
end
def TbS(tb:Addr)(H:Hp):Prop :=∃ps,H tb=some (.tbl ps)/\GoodT H ps
theorem TbS.of{b:St}(I:Inv X pins b H s)(h:TbS tb X.H₀):TbS tb H:=by
 obtain⟨ps,e,g⟩:=h;obtain⟨a,c,d⟩:=I.base.tbls tb ps e;exact⟨_,c,(g.mono I.base.frzs).app d⟩
structure TbGo(tb:Addr)(H H':Hp):Prop where
 h:∀b o,b≠tb->H b=some o->H' b=some o
 ts:TbS tb H'
theorem TbGo.same(g:TbGo tb H H')(t:TbS tb H):Same H H':=λb o e=>by
 by_cases z:b=tb
 ·subst z;obtain⟨ps,c,_⟩:=t;obtain⟨a,d,_⟩:=g.ts;rw[c]at e;cases e;rw[d];exact⟨λn=>n.elim,λ_ _=>⟨a,rfl⟩⟩
 ·exact .of (g.h b o z e)
section
variable{X:Cx}{pins:List (Addr×Obj)}{σ:St}{H:Hp}{s:Qt}{tb c0:Addr}{nm qual:Str}{params:Qha}{body:Expr}{scope:Scope}{clos:List (Str×Addr)}{pos:Pos}{line:Nat}{Q:Value->Qt->Prop}
theorem Inv.pinOne(I:Inv X pins σ H s)(b:s.heap.get? f=some o)(c:H f=none)(d:f≠X.env.locals)(e:f∉X.fs)(g:∀v,o.data≠.cell v):Inv X (pins++[(f,o)]) σ H s:=I.pins_of λp a=>by
 rcases Zh.mp a with z|z
 ·exact I.pin p (Qz _ z)
 grind
theorem zdj(I:Inv X pins σ H s)(T:TbS tb H)(r:X.env.code = .ref c0)(C:CodeHd X.base c0 tb)(x:X.base.BuiltinsAt X.mg tb)(L:Qjm scope X.env=pure clos)(k:∀f c E pm oc vs q t s' U,Inv X (pins++[(f,{ cls :=.type "function",data :=.func (kla_fn nm qual params body scope clos pm (.ref c) E) })]) σ U s'->TbGo tb H U->(∀b,U b≠none->H b≠none\/s.heap.objs.size<=b)->s.heap.objs.size<=f->(∃u,U c=some (.frz oc u))->oc.data = .fields vs->vs[1]?=some (.str q t)->Q (.ref f) s'):
  wpAny (model X.prog X.w) X.A (makeFunction nm qual params (.expr body) scope X.env [] [] [] pos line) Q X.xe s:=by
  obtain⟨ps,l,g⟩:=T;have V:=(I.hok tb _ l)
  have hg:=I.mod.glob.keeps I.bk;have gP:Zu≠tb:=λz=>by
   obtain⟨o,es,ep,J,_⟩:=I.mod.glob;have:=(I.bs _ _ J).2;grind
  obtain⟨bm,ob,b1,b2,b3,b4,b5,b6⟩:=x;have M:s.heap.BuiltinsAt X.mg tb:=⟨bm,ob,b1,b2,b3,b4,I.bk _ _ b5,b6⟩
  have nL:X.env.locals≠tb:=λz=>by have:=I.free;grind
  have N:∀f:Addr,s.heap.objs.size<=f->f≠X.env.locals/\f∉X.fs:=λf hf=>by
   refine⟨λz=>?_,λz=>?_⟩
   ·obtain⟨m,⟨o,es,ep,J,_⟩,_⟩:=I.loc;have:=Qw J;grind
   ·obtain⟨_,o,J,_⟩:=I.ok.funs.mem z;have a1:=Qw J;obtain⟨o',ho'⟩:=I.base.there f o J (λzz=>(I.ok.exfs f zz) z);exact absurd (Qw ho') (Qae.mpr hf)
  cases ea:Qci pos ps.toList with
  |some cv =>
   refine kla_makeFunctionHit (mg:=X.mg) L I.ok.glob hg r (C.keeps I.bk) V g.tr ea M λE F W hk hs=>?_;obtain⟨c,oc,u,ev,ec,vs,q,t,Y,Z⟩:=g.co pos cv ea;subst ev;have i:∀b o,s.heap.get? b=some o->(F.push { cls :=.type "function",data :=.func (kla_fn nm qual params body scope clos ((X.mg "__name__").getD .none) (.ref c) E) }).get? b=some o:=λb o e=>Qi _ (hk b o e);obtain⟨l1,l2⟩:=N _ hs;exact k F.objs.size c E _ oc vs q t _ H ((I.kept (t':=W) i).pinOne (Qx _ rfl) (I.hok.fresh hs) l1 l2 (λv z=>by cases z)) ⟨λb o _ e=>e,ps,l,g⟩ (λb x => .inl x) hs ⟨u,ec⟩ Y Z
  |none =>
   refine kla_makeFunction (mg:=X.mg) L I.ok.glob hg r (C.keeps I.bk) V g.tr ea gP M λc E F W hx w O P G=>?_;obtain⟨c2,oc,vs,t,e2,R,Y,Z⟩:=P;cases e2;have ne:c≠tb:=λz=>absurd (Qw V) (Qae.mpr (z▸w));have hc0:=I.hok.fresh w;obtain⟨a,em⟩:∃a,a = #[Qeo pos.line,Qeo pos.col,Y6 c]:=⟨_,rfl⟩
   rw[<- em]at G;obtain⟨A,eH⟩:∃A,A=upd (upd H tb (.tbl (ps++a))) c (.frz oc (.own 0)):=⟨_,rfl⟩
   have u1:A c=some (.frz oc (.own 0)):=by rw[eH,qk]
   have u2:A tb=some (.tbl (ps++a)):=by rw[eH,qi (Z9 ne),qk]
   have B:∀b,b≠c->b≠tb->A b=H b:=λb h1 h2=>by rw[eH,qi h1,qi h2]
   have j:∀b o,H b=some o->b≠c:=λb o e z=>by rw[z,hc0]at e;cases e
   have gm:GoodT A a:=⟨by rw[em];exact trivial,λp v h=>by
    rw[em]at h;have h:(if(pos.line:Int)==p.line&&(pos.col:Int)==p.col then some (Y6 c)else Qci p [])=some v:=h;split at h
    ·exact⟨c,oc,_,(Qr h).symm,u1,vs,qual,t,Y,Z⟩
    ·simp[Qci]at h⟩
   have gf:∀b o u,H b=some (.frz o u)->A b=some (.frz o u):=λb o u e=>by
    rw[B b (j b _ e) λz=>by rw[z,l]at e;cases e];exact e
   have i:∀b o,b≠tb->s.heap.get? b=some o->(F.push (kla_obj nm qual params body scope clos ((X.mg "__name__").getD .none) c E)).get? b=some o:=λb o x e=>Qi _ (hx b o x e);have D:=Zq w (Yq O);have I1:Inv X pins σ A { s with heap:=F.push (kla_obj nm qual params body scope clos ((X.mg "__name__").getD .none) c E),toks:=W }:=by
    refine Inv.step (g':=s.gens) (d':=s.drawn) (t':=W) (ch:=[]) I (λb z=>nomatch z) (λb o _ _ _ e n=>i b o (λz=>by rw[z,l]at n;cases n) e) (λb o _ _ _ e n=>⟨o.slots,i b o (λz=>by rw[z,l]at n;cases n) e⟩)
     (λb o _ e n=>?_) (λb o _ e=>?_) (λb xs e=>?_) (λb o u e=>gf b o u e) (λb qs e=>?_) (λm hm=>?_) (λb u e=>?_) I.bare
    ·rw[B b (λz=>absurd (Qw e) (Qae.mpr (z▸w))) (λz=>by rw[z,l]at n;cases n)];exact n
    ·by_cases z:b=tb
     ·rw[z];exact⟨_,Qi _ G⟩
     ·exact⟨o,i b o z e⟩
    ·rw[B b (j b _ e) λz=>by rw[z,l]at e;cases e];exact e
    ·by_cases z:b=tb
     ·rw[z,l]at e;cases e;exact⟨a,by rw[z];exact u2,gm⟩
     ·exact⟨#[],by rw[B b (j b _ e) z,e];simp,.nil⟩
    ·exact(hm.extBut hx nL).push _
    ·by_cases S:b=c
     ·subst S;rw[u1]at e;cases e;exact⟨Qi _ R,oc,Qi _ R⟩
     ·by_cases K:b=tb
      ·subst K;rw[u2]at e;cases e;exact Qi _ G
      ·rw[B b S K]at e;refine(I.hok b u e).stay (λd ob hd z=>i d ob (λy=>?_) z) (λd z=>?_) λd xs z=>?_
       ·rcases hd with y2|y2
        ·exact K (y2.symm.trans y)
        ·rw[y,l]at y2;cases y2
       ·rw[B d (j d _ z) λy=>by rw[y,l]at z;cases z];exact z
       ·rw[B d (j d _ z) λy=>by rw[y,l]at z;cases z];exact z
   obtain⟨l1,l2⟩:=N _ D;have fn:A F.objs.size=none:=by
    rw[B _ (Yt O) λz=>absurd (Qw V) (Qae.mpr (z▸D))];exact I.hok.fresh D
   refine k F.objs.size c E _ oc vs qual t _ A (I1.pinOne (Qx _ rfl) fn l1 l2 (λv z=>by cases z)) ⟨λb o x e=>?_,_,u2,(g.mono gf).app gm⟩ (λb x=>?_) D ⟨_,u1⟩ Y Z
   ·rw[B b (j b _ e) x];exact e
   ·by_cases S:b=c
    ·exact .inr (S▸w)
    ·by_cases K:b=tb
     ·left;rw[K,l];exact λz=>by cases z
     ·left;rw[B b S K]at x;exact x
end
section
def qqd(x y:Nat->Int):Nat->Nat->Bool
 |0,_=>false
 |k+1,i=>if x i==y i then qqd x y k (i+1)else decide (x i<y i)
open AutoSeq1 (wpAny_loadPart') in
open MeetsSeq MeetsSeq3 in
theorem zva(l b:Addr)(c a:Array Value)(n v:Nat)(z:c.size=a.size)(x y:Nat->Int)(B:∀j(h:j<c.size),∃t,c[j] = .int (x j) t)(C:∀j(h:j<a.size),∃t,a[j] = .int (y j) t)(k:Nat):
 ∀i:Nat,c.size-i=k->Meets (Builtin.«list.__eq__.loop» ⟨[.ref l,.ref b,Qeo i,Qeo 0],[]⟩)
 (λ_ R s=>s.heap.get? l=some { cls :=.type "list",dict:=none,data :=.seq c n,slots := #[] }/\s.heap.get? b=some { cls :=.type "list",dict:=none,data :=.seq a v,slots := #[] } /\
  R (.ok (.ret (.bool (qqd x y k i)))) s):=by
  induction k with
  |zero =>
   rintro i D f w A R ⟨E,g,d,F,G⟩ ⟨m,o,h⟩
   wp_walk using Z4 m,Z4 o
   rw[show c[((i:Nat):Int).toNat]?=none by simp;omega,show a[((i:Nat):Int).toNat]?=none by simp;omega]
   wp_walk using Z4 m,Z4 o
   have e:decide (c.size<a.size)=false:=decide_eq_false (by omega);show R (.ok (.ret (.bool (decide (c.size<a.size))))) _;rw[e];exact h
  |succ k H =>
   rintro i D f w A R ⟨E,g,d,F,G⟩ ⟨m,o,h⟩;have p:i<c.size:=by omega
   have r:i<a.size:=by omega
   obtain⟨I,J⟩:=B i p;obtain⟨K,L⟩:=C i r;have u:c[((i:Nat):Int).toNat]?=some (.int (x i) I):=by rw[<- J];simp[p]
   have g2:a[((i:Nat):Int).toNat]?=some (.int (y i) K):=by rw[<- L];simp[r]
   wp_walk using Z4 m,Z4 o
   rw[u,g2];refine Qg (wpAny_eqBool_int ?_);unfold qqd at h;cases q:(x i==y i)with
   |true =>
    rw[q]at h
    wp_walk
    rw[show((i:Int)+1)=((i+1:Nat):Int) by push_cast;rfl];exact⟨plainId_quiet plain_eq_loop _,codeAny_builtin entry_eq_loop (by
     rw[Qhn plain_eq_loop _];exact H (i+1) (by omega) f w A R _ ⟨m,o,h⟩)⟩
   |false =>
    rw[q]at h
    wp_walk using Z4 m,Z4 o
    rw[u,g2];dsimp only;refine Qg (wpAny_lt_int ?_)
    wp_walk
    exact h
open AutoSeq1 (wpAny_loadPart') in
open MeetsSeq MeetsSeq3 in
theorem ztp(l b:Addr)(c a:Array Value)(n i:Nat)(f:c.size=a.size)(x y:Nat->Int)(o:∀j(h:j<c.size),∃t,c[j] = .int (x j) t)(p:∀j(h:j<a.size),∃t,a[j] = .int (y j) t):
 Meets (Builtin.«list.__lt__» ⟨[.ref l,.ref b],[]⟩)
 (λ_ R s=>s.heap.get? l=some { cls :=.type "list",dict:=none,data :=.seq c n,slots := #[] }/\s.heap.get? b=some { cls :=.type "list",dict:=none,data :=.seq a i,slots := #[] } /\
  R (.ok (.ret (.bool (qqd x y c.size 0)))) s):=by
  rintro e w A R ⟨q,g,d,r,u⟩ ⟨k,m,h⟩;have v:=AutoSeq1.sub_list_list
  wp_walk using Z4 k,Z4 m
  exact⟨plainId_quiet plain_eq_loop _,codeAny_builtin entry_eq_loop (by
   rw[Qhn plain_eq_loop _];exact zva l b c a n i f x y o p _ 0 (by omega) e w A R _ ⟨k,m,h⟩)⟩
theorem zzv(d:A.units<cLine)(a:s.heap.get? l=some { cls :=.type "list",data :=.seq items n })(e:s.heap.get? b=some { cls :=.type "list",data :=.seq items2 n2 })(c:items.size=items2.size)(f:∀j(h:j<items.size),∃t,items[j] = .int (x j) t)(g:∀j(h:j<items2.size),∃t,items2[j] = .int (y j) t)(h:Q (qqd x y items.size 0) s):
 wpAny (model prog w) A (keyLt' oneType' (.ref l) (.ref b)) Q E s:=by
 rw[keyLt'_oneType,oneLt'_eq];simp only[if_true];refine Qg (wpAny_cRoomFor d (Qg (wpAny_callSpecialIfBound?_slot (T := "list") ⟨_,a,rfl⟩ F.slot_list_lt (Qdz F.slot_list_lt ⟨_,a,rfl⟩ F.entry_list_lt (F.args_list_lt_2 _ _) (ztp l b items items2 n n2 c x y f g) ⟨a,e,?_⟩))));exact Y0 h
end
structure OwnA(X:Cx)(pins:List (Addr×Obj))(a:Addr):Prop where
 l:a≠X.env.locals
 s:X.s₀.heap.objs.size<=a
 c:∀x c,X.env.cells.lookup x=some c->c≠a
 p:∀p∈X.pn++pins,p.1≠a
 f:a∉frs X.stack
section
variable{X:Cx}{pins:List (Addr×Obj)}{σ:St}{H:Hp}{s:Qt}
theorem zmd(I:Inv X pins σ H s){a:Addr}(h:s.heap.objs.size<=a):OwnA X pins a:=by
 have lt:∀b o,s.heap.get? b=some o->b≠a:=λb o e z=>absurd (Qw e) (Qae.mpr (z▸h));refine⟨λz=>?_,Zq I.sz h,λx c e z=>?_,λp f z=>?_,λz=>?_⟩
 ·obtain⟨m,⟨o,g,i,d,_⟩,_⟩:=I.loc;grind
 ·obtain⟨v,o,d,_⟩:=I.cell x c e;grind
 ·exact lt _ _ (I.pin p f).1 z
 ·obtain⟨_,o,d,_⟩:=I.stack.mem z;grind
theorem Inv.own(I:Inv X pins σ H s)(o:OwnA X pins a)(c:H a=none)(k:∀b u,b≠a->s.heap.get? b=some u->h'.get? b=some u):Inv X pins σ H { s with heap:=h',toks:=t' } :=
 I.turned (it:=a) k c o.l (.inr o.s) o.c o.p
def KeyAt(b:Bool)(kl:Nat->LI)(i:Nat)(r:Value)(H:Hp):Prop:=match b with
 |true =>∃p,r = .ref p/\H p=some (.lst ((kl i).map V.int))
 |false =>∃n t,r = .int n t/\kl i=[n]
theorem KeyAt.mono(h:KeyAt b kl i r H)(s:Same H H'):KeyAt b kl i r H':=by
 cases b with
 |true=>obtain⟨p,e,a⟩:=h;exact⟨p,e,s.at a⟩
 |false=>exact h
theorem qfi{h:Heap}(g:Obj->Obj)(c:b≠a)(e:h.get? b=some u):(h.update a g).get? b=some u:=(Qaf _ _ (Z9 c)).trans e
def qkn(X:Cx)(a:List (Addr×Obj))(d:St)(A:Yk)(f:Value)(vs:List Value)(b:Bool)(kl:Nat->LI)(G:Hp->Prop):Prop :=∀(i:Nat)(u:Value)(H:Hp)(s:Qt),vs[i]?=some u->Inv X a d H s->G H ->
 wpAny (model X.prog X.w) A (call f [u]) (λr e =>∃c,Inv X a d c e/\Un (frs X.stack) [] H c s.heap e.heap/\Same H c/\G c/\KeyAt b kl i r c) (λ_ _=>False) s
def qaf(kl:Nat->LI)(m:Nat)(i j:Nat):Bool:=qqd (λk=>(kl i).getD k 0) (λk=>(kl j).getD k 0) m 0
variable{A:Yk}{E:Value->Qt->Prop}{f:Value}{vs:List Value}{kl:Nat->LI}{G:Hp->Prop}{m:Nat}{a kS:Addr}{e1:Nat}{b:Bool}{P:Qkv->Qt->Prop}
def qsj(X:Cx)(b:List (Addr×Obj))(f:St)(vs:List Value)(kl:Nat->LI)(G:Hp->Prop)(m:Nat)(a:Addr)(H:Hp)(P:Qkv->Qt->Prop):Prop :=
 ∀(p:Array Nat)(d:Hp)(e:Qt)(c:Nat),PmN vs.length p->SrtN (qaf kl m) p vs.length->Inv X b f d e->Same H d->G d->d a=none->e.heap.get? a=some (Jd "list" (p.toList.map λi=>vs.getD i .none).toArray c)->P (.done (.ret .none)) e
theorem qwf{ks:List Value}{st:SortSt}(I:Inv X pins σ H s)(l:OwnA X pins a)(ok:OwnA X pins kS)(j:H a=none)(n:H kS=none)(ne:kS≠a)(o:vs.length<64)(B:ks.length<64)(q:s.heap.get? a=some (Jd "list" #[] e1))(r:s.heap.get? kS=some (Jd "list" ks.toArray ek))(k:PmN vs.length p)(t:SrtN (qaf kl m) p vs.length)(v:Same H0 H)(g:G H)(d:(arrOf st).map (·.2)=(p.toList.map λi=>vs.getD i .none).toArray)(w:failedOf st=none)(h:qsj X pins σ vs kl G m a H0 P):
 wpAny (model X.prog X.w) A (ksk_tail a false e1 (.ref kS) st) P E s:=by
  unfold ksk_tail;dsimp only;rw[d];have x:=I.own (a:=kS) (t':=s.toks) (h':=s.heap.update kS (Ye λ_=>(#[]:Array Value))) ok n λb u f e=>qfi _ f e;have c:(s.heap.update kS (Ye λ_=>(#[]:Array Value))).get? a=some (Jd "list" #[] e1):=qfi _ (Z9 ne) q;have y:(p.toList.map λi=>vs.getD i Jr).toArray.size=vs.length:=by rw[Zn,Qe,Z6,k.s]
  refine Qg (Qfr r rfl ?_ (by rw[Zn,Yg];lia) (Yd _));refine Qg (Qif ?_);refine Qg (seqEpoch_at c rfl ?_);refine Qg (Qfr c rfl ?_ (Yd _) (Zq (Qej y) (by rw[Yg];lia)));rw[w];simp only[bne_self_eq_false,Qcb,if_false];have z:=x.own (a:=a) (t':=s.toks) (h':=(s.heap.update kS (Ye λ_=>(#[]:Array Value))).update a (Ye λ_=>(p.toList.map λi=>vs.getD i Jr).toArray)) l j λb u f e=>qfi _ f e;exact Qy (h p H _ _ k t z v g j (Qhd c λ_=>_))
theorem qyg(I:Inv X pins σ H s)(c:KeyAt true kl i r H):∃p a n,r = .ref p/\s.heap.get? p=some { cls :=.type "list",data :=.seq a n }/\a.size=(kl i).length /\ ∀j(h:j<a.size),∃t,a[j] = .int ((kl i).getD j 0) t:=by
 obtain⟨p,rfl,e⟩:=c;obtain⟨_,a,n,b,d⟩:=I.hok p _ e;have g:a.length=(kl i).length:=by rw[<- b.length,Qe]
 refine⟨p,a.toArray,n,rfl,d,by grind,λj h=>?_⟩;rw[Zn]at h;have f:((kl i).map V.int)[j]?=some (.int ((kl i).getD j 0)):=by
  grind
 obtain⟨u,k,t,l⟩:=b.get f;grind
theorem znc{ks:List Value}(hu:A.units<cLine)(o:OrdN vs.length (qaf kl m))(D:∀i,i<vs.length->(kl i).length=m)(I:Inv X pins σ H s)(oa:OwnA X pins a)(ok:OwnA X pins kS)(na:H a=none)(nk:H kS=none)(ne:kS≠a)(y:vs.length<64)(kz:ks.length=vs.length)(ha:s.heap.get? a=some (Jd "list" #[] e1))(hk:s.heap.get? kS=some (Jd "list" ks.toArray ek))(d:∀i,i<vs.length->KeyAt b kl i (ks.getD i .none) H)(sm:Same H0 H)(g:G H)(h:qsj X pins σ vs kl G m a H0 P):
 wpAny (model X.prog X.w) A (ksk_end a false vs.toArray e1 (.ref kS) ks.toArray) P E s:=by
  unfold ksk_end;dsimp only;simp only[Qcb,if_false];by_cases h2:vs.length<2
  ·have c:vs.toArray.size<2:=by grind
   rw[if_pos c,if_pos c];refine Qg (Qy (Qg ?_));rw[StateT.run_pure];refine Qy ?_;refine qwf (p:=Qlv (Qm vs.length)) (st:=SortSt.mk' general' (ks.toArray.zip vs.toArray) #[] 7 none) I oa ok na nk ne y (by lia) ha hk ⟨by simp,by simp⟩ (λk k1 k2=>by lia) sm g ?_ rfl h;grind
  ·have c : ¬ vs.toArray.size<2:=by grind
   rw[if_neg c,if_neg c];have g2:2<=ks.length:=by lia
   have f:∃T:Value,(∀v∈ks,Looks (model X.prog X.w) s.heap (typeOf v) T)/\(T != Qey "tuple")=true/\(T==T)=true:=by
    have r:∀v∈ks,∃i,i<vs.length/\ks.getD i .none=v:=λv F=>by
     grind[Qdo]
    cases b with
    |true =>
     refine⟨.type "list",λv F=>?_,by decide,by decide⟩;obtain⟨i,l,L⟩:=r v F;obtain⟨p,M,n,u,N,_,_⟩:=qyg I (d i l);rw[<- L,u];exact(Looks.ld N).andThen .now
    |false =>
     refine⟨.type "int",λv F=>?_,by decide,by decide⟩;obtain⟨i,l,L⟩:=r v F;obtain⟨n,t,u,_⟩:=d i l;rw[<- L,u];exact .now
   obtain⟨T,hT,O,R⟩:=f;refine Qg (kas_kind (T:=T) g2 hT O R ?_);refine Qg (Yh (kat_run (Q:=λw J=>J=s /\ ∃p:Array Nat,PmN vs.length p/\SrtN (qaf kl m) p vs.length/\arrOf w=p.map (kas_item (ks.toArray.zip vs.toArray))/\failedOf w=none) (G:=λp J=>J=s/\PmN vs.length p/\SrtN (qaf kl m) p vs.length) kz (by lia) y (λp w J a1 a2 a3 S=>⟨S.1,p,S.2.1,S.2.2,a2,a3⟩) ?_) ?_ λ_ _ z=>z)
   ·refine zto o (λi j C l U V=>?_) (by lia) λp hp hs=>⟨rfl,hp,hs⟩
    cases b with
    |true =>
     obtain⟨p,M,n,u,N,B,x1⟩:=qyg I (d i l);obtain⟨p',Z,K,x,W,Y,x2⟩:=qyg I (d j U);unfold kas_ask;rw[u,x];refine zzv hu N W (by rw[B,Y,D i l,D j U]) x1 x2 ?_;rw[B,D i l];exact V
    |false =>
     obtain⟨n,t,u,B⟩:=d i l;obtain⟨K,t',x,Y⟩:=d j U;unfold kas_ask;rw[u,x];refine kat_lt_int ?_;have m1:m=1:=by rw[<- D i l,B];rfl
     have e:qaf kl m i j=decide (n<K):=by
      unfold qaf;rw[m1,B,Y];show(if n==K then false else decide (n<K))=_;split
      ·rename_i q;rw[decide_eq_false];have:=eq_of_beq q;lia
      ·rfl
     rw[e]at V;exact V
   grind[qwf,kat_snds]
theorem zkf(U:A.units<cLine)(V:qkn X pins σ A f vs b kl G)(o:OrdN vs.length (qaf kl m))(W:∀i,i<vs.length->(kl i).length=m)(I:Inv X pins σ H s)(O:OwnA X pins a)(ok:OwnA X pins kS)(Y:H a=none)(Z:H kS=none)(ne:kS≠a)(C:vs.length<64)(ha:s.heap.get? a=some (Jd "list" #[] e1))(hk:s.heap.get? kS=some (Jd "list" #[] 0))(sm:Same H0 H)(g:G H)(h:qsj X pins σ vs kl G m a H0 P):
 wpAny (model X.prog X.w) A (ksk_rest a f false vs.toArray e1 (.ref kS)) P E s:=by
  refine Qg (Qfj ?_);rw[List.forIn_toArray];refine Qg (ksk_fold (λi D =>∃(v:Hp)(d:List Value)(F:Nat),Inv X pins σ v D/\Same H0 v/\G v/\v a=none/\v kS=none/\D.heap.get? a=some (Jd "list" #[] e1)/\D.heap.get? kS=some (Jd "list" d.toArray F)/\d.length=i /\ ∀j,j<i->KeyAt b kl j (d.getD j .none) v) vs 0 s
   ⟨H,[],0,I,sm,g,Y,Z,ha,hk,rfl,λj z=>absurd z (Nat.not_lt_zero _)⟩ ?_ ?_)
  ·rintro j x Q R ⟨S,d,F,J,t,K,n,p,q,k,c,l⟩;rw[Qbr]at c l;have jl:=(Qp.mp R).1;refine Qg (Qdx (Yh (V j x S Q R J K) (λr T z=>?_) λ_ _ z=>z.elim));obtain⟨H2,I2,un,w,g2,L⟩:=z;have M:=un.keep a _ q n O.f (by simp);have y:=un.keep kS _ k p ok.f (by simp);have N:=un.free a _ q n (by simp);have B:=un.free kS _ k p (by simp);dsimp only;refine Qg (Qfr y rfl ?_ (by rw[Zn,Yg];lia) (Zq (Qej (Array.size_push ..)) (by rw[Zn,Yg];lia)));have I3:=I2.own (a:=kS) (t':=T.toks) (h':=T.heap.update kS (Ye (·.push r))) ok B λb u hb e=>qfi _ hb e;have ea:d.toArray.push r=(d++[r]).toArray:=by simp
   refine Qy ⟨rfl,H2,d++[r],_,I3,t.trans w,g2,N,B,qfi _ (Z9 ne) M,by rw[<- ea];exact Qhd y (·.push r),by rw[Y2,c,Qbr];rfl,λi hi=>?_⟩;rw[Qbr]at hi;by_cases z:i<j
   ·have:(d++[r]).getD i Jr=d.getD i .none:=by simp[List.getD,Zv (show i<d.length by lia)]
    rw[this];exact(l i z).mono w
   ·have:i=j:=by lia
    subst this;have:(d++[r]).getD i Jr=r:=by simp[List.getD,<- c]
    rw[this];exact L
  ·rintro Q ⟨S,d,F,J,t,K,n,p,q,k,c,l⟩;rw[Qbr]at c l;refine Qg (listItems_at k rfl ?_);exact znc U o W J O ok n p ne C c q k l t K h
theorem qqv(t:A.units<cLine)(v:qkn X pins σ A f vs b kl G)(o:OrdN vs.length (qaf kl m))(w:∀i,i<vs.length->(kl i).length=m)(I:Inv X pins σ H s)(n:OwnA X pins a)(p:H a=none)(c:vs.length<64)(d:s.heap.get? a=some (Jd "list" vs.toArray n0))(g:G H)(h:qsj X pins σ vs kl G m a H P):wpAny (model X.prog X.w) A (ksk_tree a f false) P E s:=by
  have j:=I.own (a:=a) (t':=s.toks) (h':=s.heap.update a (Ye λ_=>(#[]:Array Value))) n p λb u x e=>qfi _ x e;obtain⟨q,ha1⟩:∃q,(s.heap.update a (Ye λ_=>(#[]:Array Value))).get? a=some (Jd "list" #[] q):=⟨_,Qhd d λ_ => #[]⟩
  refine Qg (listItems_at d rfl ?_);refine Qg (Qfr d rfl ?_ (by rw[Zn,Yg];lia) (Yd _));refine Qg (seqEpoch_at ha1 rfl ?_);refine Qg (wpAny_newTuple ?_ (by rw[Yg];lia));refine Qg (Qix ?_ (Yd _));refine Qab ?_;have r:∀b u,(s.heap.update a (Ye λ_=>(#[]:Array Value))).get? b=some u->(((s.heap.update a (Ye λ_=>(#[]:Array Value))).push (Jd "tuple" vs.toArray 0)).push (Jd "list" #[] 0)).get? b=some u:=λb u e=>Qi _ (Qi _ e);have y:=j.kept (t':=s.toks) (h':=((s.heap.update a (Ye λ_=>(#[]:Array Value))).push (Jd "tuple" vs.toArray 0)).push (Jd "list" #[] 0)) r;have big:(s.heap.update a (Ye λ_=>(#[]:Array Value))).objs.size<=((s.heap.update a (Ye λ_=>(#[]:Array Value))).push (Jd "tuple" vs.toArray 0)).objs.size:=by rw[Z5];lia
  have k:=zmd j big;have l:=j.hok.fresh big;exact zkf (s:={ s with heap:=((s.heap.update a (Ye λ_=>(#[]:Array Value))).push (Jd "tuple" vs.toArray 0)).push (Jd "list" #[] 0) }) t v o w y n k p l (λz=>absurd (Qw ha1) (Qae.mpr (Zq big (Qej z)))) c (r _ _ ha1) (Qx _ rfl) (.refl _) g h
end
section
variable{X:Cx}{pins:List (Addr×Obj)}{σ:St}{H:Hp}{s:Qt}
theorem Inv.track(I:Inv X pins σ H s)(o:OwnA X pins a)(j:H a=none)(new:ObjOk X.prog X.w (upd H a u) s.heap a u):Inv X pins σ (upd H a u) s:=by
 have d:∀b v,H b=some v->upd H a u b=some v:=λb v e=>by rw[qi (qu e j)];exact e
 refine⟨I.ok,I.os,I.bare,⟨I.base.keep,I.base.slot,λb h e n k=>?_,I.base.there,λb g e=>d _ _ (I.base.tups b g e),λb h g e=>d _ _ (I.base.frzs b h g e),λb ps e=>?_⟩,I.loc,I.cell,?_,λx c e=>?_,λp i=>?_,λb v e=>?_,I.len⟩
 ·have l:b≠a:=λz=>absurd (Qw e) (Qae.mpr (by rw[z];exact o.s));rw[qi l];exact I.base.free b h e n k
 ·obtain⟨f,q,m⟩:=I.base.tbls b ps e;exact⟨f,d _ _ q,m.mono λb o u z=>d _ _ z⟩
 ·rw[qi (Z9 o.l)];exact I.free
 ·rw[qi (o.c x c e)];exact I.freeC x c e
 ·obtain⟨r,t,w⟩:=I.pin p i;exact⟨r,(qi (o.p p i)).trans t,w⟩
 ·by_cases z:b=a
  ·grind[qk]
  ·rw[qi z]at e;exact(I.hok b v e).stay (λc y _ q=>q) (λc q=>d _ _ q) (λc g q=>d _ _ q)
variable{K':Type}[DecidableEq K']{knd:KeyKind X.prog X.w K'}{E:Value->Qt->Prop}{f:Addr}{kvs:List (K'×Value)}{ep:Nat}{kl:Nat->LI}{G:Hp->Prop}{m:Nat}{r d:Addr}{Q:Value->Qt->Prop}
end
theorem DictIs.at(x:DictIs h d es ep)(k:∀o,h.get? d=some o->h'.get? d=some o):DictIs h' d es ep:=let ⟨o,ho,r⟩:=x; ⟨o,k _ ho,r⟩
section
variable{prog:Zw}{w:World}{A:Yk}{E:Value->Qt->Prop}{s:Qt}{it v d:Addr}{es:Array Qap}{i ep:Nat}
theorem zlk(a:s.heap.IsValuesView v d)(e:DictIs s.heap d es ep)(h:Q (.ref s.heap.objs.size) { s with heap:=s.heap.push { cls :=.type "dict_valueiterator",data :=.fields #[.ref d,.int 0 0,.int es.size 0,.int ep 0] } }):wpAny (model prog w) A (pyIter (.ref v)) Q E s:=by
  obtain⟨i,f,_,g2⟩:=id a;obtain⟨j,b,_,c⟩:=id e;have own:Qai "dict_valueiterator" = false:=by decide
  refine wpAny_pyIter_slot a.typeIs Qfn (Y8 Qfn a.typeIs F.entry_dict_values_iter ?_ (F.args_dict_values_iter_1 _));have step:∀(g:Qkv->Qt->Prop),g (.done (.ret (.ref s.heap.objs.size))) { s with heap:=s.heap.push { cls :=.type "dict_valueiterator",data :=.fields #[.ref d,.int 0 0,.int es.size 0,.int ep 0] } }->True:=λ_ _=>trivial;refine Qg (Qy (Qg (Qg (Vs f g2 (x :=.ref d) rfl (Qy (Qg (Qg (Qax b c (Qg (Qhj b c ?_))))))))));simp only[own,Qcb,if_false];refine Qay (Qy ⟨_,rfl,"dict_valueiterator",_,⟨_,Qx _ rfl,rfl⟩,Y4.lookup,?_⟩);simpa[Qeo]using h
theorem zjg(hit:s.heap.IsValIter it d i es.size ep)(k:DictIs s.heap d es ep)(f:es[i]?=some e)(h:∀h',h'.IsValIter it d (i+1) es.size ep->Vl it s.heap h'->Q (some e.val) { s with heap:=h' }):wpAny (model prog w) A (Qjy (.ref it)) Q E s:=by
  obtain⟨o,c,g2,b⟩:=id hit;obtain⟨l,g,_,j⟩:=id k;have own:Qai "dict_valueiterator" = false:=by decide
  have lt:=(Array.getElem?_eq_some_iff.mp f).1;refine Qg (Qdx (Yz (name:=Qam "__next__") hit.typeIs Y4 (Y8 Y4 hit.typeIs Qcw ?_ (Qcm _))))
  wp_walk using V4 hit.typeIs,wpAny_fieldsOf c b,Qax g j,Qhj g j,Qaq hit.typeIs
  rw[show(if((i:Nat):Int)<0 then none else es[((i:Nat):Int).toNat]?)=some e by rw[if_neg (by lia),Yx];exact f];have a:(s.heap.update it (Qlm (·.setIfInBounds 1 (Qeo ((i:Int)+1))))).IsValIter it d (i+1) es.size ep :=
   ⟨_,Qal _ c (Qgn (Qbz b _)),(Qje ..).trans g2,by rw[Qbz b];simp[Qeo]⟩
  refine Qg (Qg (V4 hit.typeIs (Qy (Qg (Qaq hit.typeIs ?_)))));show wpAny _ _ (setField (.ref it) 1 (Qeo ((i:Int)+1)) >>= _) _ _ s;refine Qg (Qew c b (by simp) ?_)
  wp_walk using Qaq (s:={ s with heap:=s.heap.update it (Qlm (·.setIfInBounds 1 (Qeo ((i:Int)+1)))) }) a.typeIs
  exact⟨_,rfl,Qy (h _ a (Vr ..))⟩
theorem zns(g:A.handled=none)(hit:s.heap.IsValIter it d i es.size ep)(j:DictIs s.heap d es ep)(k:es.size<=i)(h:∀h',Qkt it s.heap h'->Q none { s with heap:=h' }):wpAny (model prog w) A (Qjy (.ref it)) Q E s:=by
  obtain⟨o,a,g2,c⟩:=id hit;obtain⟨l,e,_,f⟩:=id j;have own:Qai "dict_valueiterator" = false:=by decide
  refine Qg (Qdx (Yz (name:=Qam "__next__") hit.typeIs Y4 (Y8 Y4 hit.typeIs Qcw ?_ (Qcm _))))
  wp_walk using V4 hit.typeIs,wpAny_fieldsOf a c,Qax e f,Qhj e f,Qaq hit.typeIs
  rw[show(if((i:Nat):Int)<0 then none else es[((i:Nat):Int).toNat]?)=none by rw[if_neg (by omega),Yx];exact Array.getElem?_eq_none k];refine Qg (Qg (V4 hit.typeIs (Qy ?_)));show wpAny _ _ (setField (.ref it) 0 .none >>= _) _ _ s;refine Qg (Qew a c (by simp) ?_)
  wp_walk
  simp only[raiseNew];refine Qg (wpAny_handled ?_);rw[show A.in1.handled=none from g];refine Qg (Qy (wpAny_throw ?_));refine Qg (wpAny_isInstance (T := "StopIteration") (b:=true) ⟨_,Qx _ rfl,rfl⟩ isSubtype_stop ?_);exact Qy (h _ (((Vr ..).extBut.push _).push _))
theorem qxr(hh:A.handled=none)(I d:Addr)(hne:d≠I)(es:Array Qap)(ep:Nat):Walks prog w A I [I,d] [I] es.size (λi v =>∃e,es[i]?=some e/\e.val=v) (λi h=>h.IsValIter I d i es.size ep/\DictIs h d es ep) where
 sub:=λb hb=>by grind
 frame:=λ_ _ _ st hk=>⟨st.1.at λo e=>hk I (by simp) o e,st.2.at λo e=>hk d (by simp) o e⟩
 item:=λi s Q E hi st hQ=>by
  have hx:=Jo hi;refine zjg st.1 st.2 hx λh' i2 sb=>hQ _ h' s.toks ⟨_,hx,rfl⟩ ⟨i2,st.2.at λo e=>sb.extBut d o hne e⟩ λb o hb e=>sb.extBut b o (λz=>hb (by simp[z])) e
 done:=λs Q E st hQ=>zns hh st.1 st.2 (Qs _) λh' k=>hQ h' s.toks λb o hb e=>k b o (λz=>hb (by simp[z])) e
 self:=λ_ _ _ _ st hQ=>wpAny_pyIter_valiter st.1 hQ
theorem zfh:KdlSrc prog w "dict_values" r d es.size (λi v =>∃e,es[i]?=some e/\e.val=v) (λh=>h.IsValuesView r d/\DictIs h d es ep) where
 type:=λ_ hm=>hm.1.typeIs
 there:=λ_ hm=>⟨let ⟨_,ho,_⟩:=hm.1;Qw ho,let ⟨_,ho,_⟩:=hm.2;Qw ho⟩
 keep:=λ_ _ hm hk=>⟨let ⟨o,ho,x⟩:=hm.1; ⟨o,hk r (.inl rfl) o ho,x⟩,hm.2.at λo e=>hk d (.inr rfl) o e⟩
 notList:=by decide
 notTuple:=by decide
 hint:=λ_ _ _ _ hm hq=>kdl_hint_values hm.1.typeIs hq
 iter:=λ_ _ hh hm=>⟨_,_,(λ_ _ hq=>zlk hm.1 hm.2 hq),qxr hh _ d (Q7 (let ⟨_,ho,_⟩:=hm.2;Qw ho)) es ep,⟨⟨_,Qx _ rfl,rfl,rfl⟩,hm.2.at λo e=>Qi _ e⟩⟩
end
section
variable{prog:Zw}{w:World}{K:Type}[DecidableEq K]{knd:HeapKind prog w K}{A:Yk}{E:Value->Qt->Prop}{s:Qt}{d a:Addr}{xs:List (K×Addr×Value)}{k:K}{dv:Value}
theorem zas(g:knd.room A)(f:knd.is s.heap k a)(n:s.heap.DictOfH knd d xs)(hz:xs.length<=Q4)(q:∀p,atKey xs k=some p->Q p.2 { s with toks:=s.toks+knd.draws k })(r:atKey xs k=none ->∀h',h'.DictOfH knd d (storedH xs k a dv)->Vl d s.heap h'->Q dv { s with heap:=h',toks:=s.toks+knd.draws k }):wpAny (model prog w) A (dictSetDefault d (.ref a) dv) Q E s:=by
 obtain⟨o,y,t,c,u,b,he,e,h⟩:=n;refine Qab (Qg (knd.pyHash g f (Qg (wpAny_dictFind_heap (s:={ s with toks:=s.toks+knd.draws k }) g f c b he e h (λno=>?_) λj p i=>?_))))
 ·have l:=atKey_none_of_get no;have z:=not_mem_keys_of_get no;refine Qg (Qfj (Qg (wpAny_updateDictKeys (hz:=by grind[size_of_entries]) (s:={ s with toks:=s.toks+knd.draws k }) c b (Qy (r l _ ?_ (Vr ..))))));rw[storedH_new l];refine⟨_,_,t+1,Qal _ c (Obj.isFreed_of_dict (Qho b _)),u.mapDictKeys _,Qho b _,by simp[he,entryOfKey],λx v=>?_,?_⟩
  ·rcases Zh.mp v with m|m
   ·exact knd.keeps (e x m) c b (Vr ..)
   ·rw[Q6.mp m];exact knd.keeps f c b (Vr ..)
  grind
 ·refine Qg (Qax (s:={ s with toks:=s.toks+knd.draws k }) c b ?_);rw[entry_at he j,i];exact Qg (Qfj (Qy (q p (atKey_of_get h i))))
theorem zat(c:knd.room A.in1)(f:knd.is s.heap k a)(l:(d==V9)=false)(b:s.heap.DictOfH knd d xs)(hz:xs.length<=Q4)(g:∀p,atKey xs k=some p->Q p.2 { s with toks:=s.toks+knd.draws k })(h:atKey xs k=none ->∀h',h'.DictOfH knd d (storedH xs k a dv)->Vl d s.heap h'->Q dv { s with heap:=h',toks:=s.toks+knd.draws k }):wpAny (model prog w) A (call (.builtin "dict.setdefault") [.ref d,.ref a,dv]) Q E s:=by
 refine Y8 F.slot_dict_setdefault b.typeIs F.entry_dict_setdefault ?_ (F.args_dict_setdefault_3 _ _ _);refine Qg (Qg (Qdf b.typeIs ?_));refine Qy ?_;show wpAny _ _ (if(d==V9)=true then _ else(dictSetDefault d (.ref a) dv >>= _)) _ _ s;rw[if_neg (by grind)];exact Qg (zas c f b hz (λp e=>Qy ⟨_,rfl,g p e⟩) λi h' q j=>Qy ⟨_,rfl,h i h' q j⟩)
end
section
variable{X:Cx}{pins:List (Addr×Obj)}{σ:St}{H:Hp}{s:Qt}{a b:Addr}{A:Yk}{E:Value->Qt->Prop}{kvs:List (List Key×V)}{k:List Key}{dv:V}{r:Value}
theorem zqa(o:A.units+1<cLine)(I:Inv X pins σ H s)(e:H a=some (.dT kvs))(j:H b=some (.tup (k.map kV)))(N:kvs.length<Q4)(t:RelV dv r)(w:∀v,qqf kvs k=some v ->∀u f,Inv X pins σ H f->RelV v u->Q u f)(x:qqf kvs k=none ->∀f,Inv X pins σ (upd H a (.dT (zbl kvs k dv))) f->Q r f):
 wpAny (model X.prog X.w) A (call (.builtin "dict.setdefault") [.ref a,.ref b,r]) Q E s:=by
  obtain⟨z,l,y,g,B⟩:=zse I.hok e;have C:y.length<=Q4:=by grind[Qij]
  have d:=g.val k;refine zat (tupleKind_room_in1 o) (zrt I.hok j) l B C (λp h=>?_) λD O i F=>?_
  ·rw[h]at d;cases ev:qqf kvs k with
   |none=>rw[ev]at d;exact d.elim
   |some v=>rw[ev]at d;exact w v ev _ _ (I.tok _) d
  ·rw[D]at d;cases ev:qqf kvs k with
   |some v=>rw[ev]at d;exact d.elim
   |none =>
    have G:(zbl kvs k dv).length<=Q4:=by grind[zbb]
    refine x ev _ ?_;obtain⟨q,J,h,m,g2,K,L,_,M⟩:=i;refine zuc I (by rw[e];exact V8) F ⟨q,m⟩ ⟨G,l,_,(g.put k j t).keeps λc P n=>?_,q,J,h,m,g2,K,L,M⟩;rw[qi (xcu n e (λz=>nomatch z))];exact n
end
section
variable{X:Cx}{pins:List (Addr×Obj)}{σ:St}{H:Hp}{s:Qt}{E:Value->Qt->Prop}{f:Addr}{es:Array Qap}{ep:Nat}{kl:Nat->LI}{G:Hp->Prop}{m:Nat}{r d:Addr}{Q:Value->Qt->Prop}{vs:List Value}
theorem zfo(h:ItemsOf (λi v =>∃e,es[i]?=some e/\e.val=v) acc es.size):acc.toList=es.toList.map (·.val):=by
 refine Zt λi=>?_;obtain⟨a,b⟩:=h;grind
theorem zax(x:X.A.in1.in1.units<cLine)(y:X.A.handled=none)(I:Inv X pins σ H s)(z:s.heap.IsValuesView r d)(hd:DictIs s.heap d es ep)(A:es.toList.map (·.val)=vs)(B:vs.length<64)(C:qkn X pins σ X.A.in1.in1 (.ref f) vs true kl G)(o:OrdN vs.length (qaf kl m))(D:∀i,i<vs.length->(kl i).length=m)(g:G H)(k:∀(p:Array Nat)(l:Addr)(h:Hp)(j:Qt)(c:Nat),PmN vs.length p->SrtN (qaf kl m) p vs.length->Inv X pins σ h j->Same H h->G h->OwnA X pins l->h l=none->j.heap.get? l=some (Jd "list" (p.toList.map λi=>vs.getD i .none).toArray c)->Q (.ref l) j):
 wpAny (model X.prog X.w) X.A (call (.builtin "sorted") [.ref r] [(Qam "key",.ref f)]) Q E s:=by
  subst A;have U:es.size=(es.toList.map (·.val)).length:=by grind
  refine Qgb kind_sorted plain_sorted entry_sorted (ksk_s1 _ _) ?_;refine Qg (m:=checkCount "sorted" 1 1 _) (Qy (Qg (kdu_collect (T := "dict_values") (zfh (es:=es) (ep:=ep)) y ⟨z,hd⟩ (by grind[Yg]) λn t F keep a=>?_)));rw[zfo a];have q:=I.kept (t':=t) keep;have v:(n.push (Jd "list" (es.toList.map (·.val)).toArray 0)).get? n.objs.size=some (Jd "list" (es.toList.map (·.val)).toArray 0):=Qx _ rfl;refine Qg (Qix ?_ (by grind[Yg]));have J:=q.kept (t':=t) (h':=n.push (Jd "list" (es.toList.map (·.val)).toArray 0)) λb u e=>Qi _ e;have w:=zmd q (Qs _);have K:=q.hok.fresh (Qs _);refine Qg (Qab (Qie slot_list_sort ⟨_,v,rfl⟩ entry_list_sort ?_ (ksk_l1 _ _)));rw[ksk_t1];refine qqv x C o D J w K B v g λp h j c L M N O P R S=>?_;exact⟨_,rfl,Qy ⟨_,rfl,k p _ h j c L M N O P w R S⟩⟩
end
section
variable{X:Cx}{o e f:Expr}{apos cpos:Pos}{td ty tx:TE}
def zqt(g h i:TE):TE:=λe H Q=>g e H λx f =>∃a,x = .ref a/\IsD f a/\h e f λy j=>i e j λz d =>∃c k b,d a=some (.dT c)/\y = .ref b/\d b=some (.tup (k.map kV))/\c.length<Q4 /\
 (∀v,qqf c k=some v->Q v d)/\(qqf c k=none->Q z (upd d a (.dT (zbl c k z))))
theorem zfd(q:X.A.units+1<cLine)(r:PE X o td)(he:PE X e ty)(t:PE X f tx)(m:M2 X o "setdefault" apos e f cpos):PE X (.Call (.Attribute o "setdefault" apos) [e,f] [] cpos) (zqt td ty tx):=by
 intro c s i H Q I h;refine wpAny_Call_method m.base m.few m.line Qfo PySem.F.slot_dict_setdefault PySem.F.type_dict_setdefault (thn (r c s i H _ I h) λu w g=>?_);obtain⟨x,A,n,B,a,C,d,D⟩:=g;subst C;obtain rfl:u=Y6 a:=B;obtain⟨E,F,_⟩:=zqf n d;refine⟨E,F,?_⟩;rw[m.trees];refine Qco rfl (Qhl (Qah (thn (he c w i A _ n D) λG J ⟨y,K,L,M,N⟩=>Qah (thn (t c J i K _ L N) λfv s3 ⟨z,O,P,p,R,k,b,S,T,U,V,W,Y⟩=>Qcs ?_))));subst T;obtain rfl:G=Y6 b:=M;exact zqa q P S U V p (λv j u Z l ru=>⟨_,O,l,ru,W v j⟩) λj Z l=>⟨_,_,l,p,Y j⟩
end
section
variable{X:Cx}{pins:List (Addr×Obj)}{σ:St}{H:Hp}{s:Qt}{a:Addr}{A:Yk}{E:Value->Qt->Prop}{kvs:List (List Key×V)}
abbrev zew(d:Addr):Obj:={ cls :=.type "dict_values",data :=.fields #[.ref d] }
theorem zoq(I:Inv X pins σ H s)(e:H a=some (.dT kvs))(h:Q (.ref s.heap.objs.size) { s with heap:=s.heap.push (zew a) }):wpAny (model X.prog X.w) A (call (.builtin "dict.values") [.ref a]) Q E s:=by
 obtain⟨_,c,d,_,b⟩:=zse I.hok e;refine Y8 F.slot_dict_values b.typeIs F.entry_dict_values ?_ (F.args_dict_values_1 _);refine Qg ?_;refine Qg (Qdf b.typeIs ?_);refine Qy ?_;unfold Builtin.Dict.showsAll;rw[if_neg (by grind)];exact Qg (Qy (Qg (Qay (Qy ⟨_,rfl,h⟩))))
theorem zsi(I:Inv X pins σ H s)(e:H a=some (.dT kvs)):∃es ep,DictIs s.heap a es ep/\Vals (kvs.map (·.2)) (es.toList.map (·.val)):=by
 obtain⟨_,_,j,b,o,es,ep,c,d,f,g,_,_⟩:=zse I.hok e;refine⟨es,ep,⟨o,c,d,f⟩,?_⟩;rw[g,Zj];have:∀{l:List (List Key×V)}{m:List (List Key×Addr×Value)},KT H l m->Vals (l.map (·.2)) (m.map ((·.val) ∘ entryOfKey (Qhi (qcj X.prog X.w)))):=by
  intro l m q
  induction q with
  |nil=>exact .nil
  | @cons p q ps k h t i=>exact .cons h.2.2 i
 exact this b
end
section
variable{X:Cx}{pins:List (Addr×Obj)}{σ:St}{x y:Str}{scope:Scope}{params:Qha}{body:Expr}{te:TE}{f cg c:Addr}{pm ct:Value}{vg:V}{vsV:List V}{vs:List Value}{kl:Nat->LI}{G:Hp->Prop}{oc:Obj}{uu:HO}{fv:Array Value}{q:Str}{t:Tok}{nm qual:Str}{iy:Nat}
theorem zuz(S:LamScope scope x y)(hh:X.A.handled=none)(d:X.A.in1.in1.depth<Vw)(h:(f,({ cls :=.type "function",data :=.func (kla_fn nm qual params body scope [(y,cg)] pm (.ref c) ct) }:Obj))∈pins)(L:∀u,Qdw (kla_fn nm qual params body scope [(y,cg)] pm (.ref c) ct) ⟨[u],[]⟩=pure [(x,u)])(M:oc.data = .fields fv)(N:fv[1]?=some (.str q t))(n:X.env.cells.lookup y=some cg)(o:X.env.kindOf y=some .cell)(O:X.N[iy]?=some y)(P:σ[iy]?=some (some vg))(B:Vals vsV vs)(w:X.A.in1.in1.frames=X.A.frames)(Q:X.A.in1.in1.handled=X.A.handled)(he:∀s H,PE (cxL X.prog X.w X.K X.mg X.base q scope f (.ref c) [(y,cg)] [x,y] X.A.in1.in1 X.stack s H) body te)(R:∀(i:Nat)(v:V)(H:Hp),vsV[i]?=some v->G H->te [some v,some vg] H λr j=>Same H j/\G j /\ ∃p,r = .ref p/\j p=some (.lst ((kl i).map V.int))):
 qkn X pins σ X.A.in1.in1 (.ref f) vs true kl (λH=>G H/\H c=some (.frz oc uu)):=by
 intro i u H s C I g;obtain⟨g,D⟩:=g;have T:=(Qp.mp C).1;have U:i<vsV.length:=by rw[B.length];exact T
 have F:=Qc U;obtain⟨u',k,W⟩:=B.get F;rw[C]at k;have Y:=Qr k;subst Y;obtain⟨mm,ns,Z⟩:=I.loc;obtain⟨ug,rg,look⟩:=Z iy y vg O P (.inr (.inl o));have hc:s.heap.IsCell cg (some ug):=by
  rcases look with⟨z,_⟩|⟨_,c',J,e2⟩
  ·grind
  grind
 have a:=I.env0;have J:Env0 X.prog X.w X.K X.mg X.base X.A.in1.in1 X.stack s H:=⟨by rw[w];exact a.frames,a.mod,a.bs,a.bsz,a.funs,a.frf,a.hok,a.bare⟩
 have pf:=I.pin _ (Qz _ h);refine Qjn (Qdd (zvl (E:=λ_ _ _=>False) S (by grind) J d pf.1 rfl (L u) (I.hok c _ D).1 M N hc (I.freeC y cg n) rg W (he s H) (R i _ H F g)) λr s' l=>?_);cases r with
 |error e=>exact l.elim
 |ok fl =>
  cases fl with
  |ret u2 =>
   obtain⟨v',j,os,m,un,A,r',K,g',p,ep,hp⟩:=l;subst ep;obtain rfl:u2=Y6 p:=r';exact⟨j,I.call' os un A m (λb z=>nomatch z),un,K,⟨g',K.at D⟩,p,rfl,hp⟩
  |next=>exact l.elim
  |brk=>exact l.elim
  |cont=>exact l.elim
end
theorem qnv(h:Vals vsV vs):∀{l:List Nat},(∀i∈l,i<vs.length)->Vals (l.map λi=>vsV.getD i V.non) (l.map λi=>vs.getD i Jr)
 |[],_ => .nil
 |i::l,k=>by
  have a:=k i (by simp);have b:vsV[i]?=some (vsV[i]'(by rw[h.length];exact a)):=Qc _;obtain⟨u,d,e⟩:=h.get b;refine .cons ?_ (qnv h λj c=>k j (Qk _ c));grind
def tSK(tb:Addr)(ig iy:Nat)(te:TE):TE:=λg H Q =>∃(d:Addr)(a:List (List Key×V))(h:V)(c:Nat->LI)(m:Nat),(g[ig]?=some (some (.ref d))/\g[iy]?=some (some h)/\H d=some (.dT a)/\a.length<64) /\
 OrdN (a.map (·.2)).length (qaf c m)/\(∀i,i<(a.map (·.2)).length->(c i).length=m) /\ ∀e,TbGo tb H e->Same H e ->∃G:Hp->Prop,G e /\
  (∀(i:Nat)(v:V)(f:Hp),(a.map (·.2))[i]?=some v->G f->te [some v,some h] f λr b=>Same f b/\G b /\ ∃p,r = .ref p/\b p=some (.lst ((c i).map V.int))) /\
  ∀(p:Array Nat)(l:Addr)(b:Hp),PmN (a.map (·.2)).length p->SrtN (qaf c m) p (a.map (·.2)).length->Same e b->G b->b l=none->H l=none->Q (.ref l) (upd b l (.lst (p.toList.map λi=>(a.map (·.2)).getD i .non)))
section
variable{X:Cx}{x y g:Str}{scope:Scope}{params:Qha}{body:Expr}{te:TE}{cg c0 tb:Addr}{ig iy:Nat}{np gp ap cp lp kp pos:Pos}
theorem zel(hu:X.A.in1.in1.units<cLine)(hh:X.A.handled=none)(E:X.A.in1.in1.depth<Vw)(O:TbS tb X.H₀)(n:X.env.code = .ref c0)(C:CodeHd X.base c0 tb)(U:X.base.BuiltinsAt X.mg tb)(hg:Gl X "sorted")(hm:X.mg "sorted" = none)(F:PE X (.Name g gp) (zbm ig))(S:LamScope scope x y)(W:Qjm scope X.env=pure [(y,cg)])(Y:X.env.cells.lookup y=some cg)(Z:X.env.kindOf y=some .cell)(hN:X.N[iy]?=some y)(hb:∀nm J pm c ct u,Qdw (kla_fn nm J params body scope [(y,cg)] pm (.ref c) ct) ⟨[u],[]⟩=pure [(x,u)])(he:∀q f c s H,PE (cxL X.prog X.w X.K X.mg X.base q scope f (.ref c) [(y,cg)] [x,y] X.A.in1.in1 X.stack s H) body te)(K:defaultsOf params X.env=([],[]):=by rfl)(hfr:X.A.in1.in1.frames=X.A.frames:=by rfl)(hhd:X.A.in1.in1.handled=X.A.handled:=by rfl)(r:V6 (.Name g gp) "values" X.env (eval (.Name g gp) X.env)=eval (.Name g gp) X.env:=by rfl)(L:((V5 cp (Qu [] X.env)).all (λx => !x.1)&&(Qdv cp (Qaa [] X.env)).all (λx=>x.1.isSome)&&decide (([]:List Expr).length+([]:List Qcg).length+(if([]:List Qcg).isEmpty then 0 else 1)<30))=true:=by rfl)(w:(ap.endLine==cp.line)=true:=by rfl):
  PE X (.Call (.Name "sorted" np) [.Call (.Attribute (.Name g gp) "values" ap) [] [] cp] [⟨some "key",.Lambda params body scope lp,kp⟩] pos) (tSK tb ig iy te):=by
  intro M s σ H Q I h;obtain⟨d,a,vg,kl,m,⟨e1,e2,P,hn⟩,o,hm',rest⟩:=h;have T:=TbS.of I O;refine Jk (qik I hg hm boot_sorted ?_);refine callWith_kw ?_;refine Qah ?_;refine wpAny_Call_method r L w Qfo PySem.F.slot_dict_values PySem.F.type_dict_values (thn (F M s σ H (λv H'=>v = .ref d/\H'=H) I ⟨_,e1,rfl,rfl⟩) λu j A=>?_);obtain⟨v1,H1,k,r1,ev,eH⟩:=A;subst ev;subst eH;obtain rfl:u=Y6 d:=r1;obtain⟨t1,t2,_⟩:=zqf k (.inr ⟨a,.inl P⟩);refine⟨t1,t2,?_⟩;refine Qco rfl (PySem.evalArgs_none ?_);refine zoq k P ?_;have hkp:∀b u,j.heap.get? b=some u->(j.heap.push (zew d)).get? b=some u:=λb u e=>Qi _ e;have gv:(j.heap.push (zew d)).get? j.heap.objs.size=some (zew d):=Qx _ rfl;have ow:=zmd k (Qs _);have nv:=k.hok.fresh (Qs _);have nfs:j.heap.objs.size∉X.fs:=λz=>ow.f (by
   rcases k.ok.stk with q|⟨q,q2⟩
   ·rw[q];exact z
   ·rw[q];unfold frs;rw[J6,q2];exact Qk _ z)
  have I2:=(k.kept (t':=j.toks) hkp).pinOne gv nv ow.l nfs (λv z=>by cases z);refine Qcs ?_;refine kws_cons (kla_eval K (zdj I2 (TbS.of I2 O) n C U W λf c ct pm oc fv q t s3 H3 I3 go new hf B d1 d2=>?_));obtain⟨uu,ec⟩:=B;refine kws_nil ?_;obtain⟨G,g0,hk,fin⟩:=rest H3 go (go.same (TbS.of k O));have ne:d≠tb:=λz=>by
   obtain⟨ps,N,_⟩:=TbS.of k O;rw[<- z,P]at N;cases N
  have ed3:=go.h _ _ ne P;obtain⟨es,ep,hD,hV⟩:=zsi I3 ed3;have hvw:s3.heap.IsValuesView j.heap.objs.size d:=⟨_,(I3.pin (j.heap.objs.size,zew d) (Qz _ (Y1 _ (Qz _ (Q6.mpr rfl))))).1,rfl,rfl⟩
  have D:=hV.length.symm;refine zax hu hh I3 hvw hD rfl (by rw[D,Qe];exact hn) (zuz (G:=G) (kl:=kl) (uu:=uu) (oc:=oc) (vsV:=a.map (·.2)) (iy:=iy) S hh E (Qz _ (Q6.mpr rfl)) (λu=>hb _ _ _ _ _ u) d1 d2 Y Z hN e2 hV hfr hhd (λs H=>he q f c s H) hk) (by rw[D];exact o) (by rw[D];exact hm') ⟨g0,ec⟩ λp l H4 s4 cc hp hs I4 sm g4 ow4 R hl=>?_;have hp':PmN (a.map (·.2)).length p:=by rw[<- D];exact hp
  have hs':SrtN (qaf kl m) p (a.map (·.2)).length:=by rw[<- D];exact hs
  have nl0:H1 l=none:=by
   cases eq:H1 l with
   |none=>rfl
   |some o' =>
    exfalso;by_cases z:l=tb
    ·obtain⟨ps,N,_⟩:=go.ts;rw[<- z]at N;obtain⟨_,this⟩:=sm.any N;rw[R]at this;cases this
    ·obtain⟨_,this⟩:=sm.any (go.h _ _ z eq);rw[R]at this;cases this
  have vp:=qnv hV λi hi=>by
   have:=hp.p.mem_iff.mp hi;exact Zi.mp this
  have I5:=I4.track (u :=.lst (p.toList.map λi=>(a.map (·.2)).getD i V.non)) ow4 R ⟨by rw[Qe,Z6,hp.s,D,Qe,Yg];lia,_,cc,vp,hl⟩;exact⟨.ref l,_,I5.unpinned.unpinned,rfl,fin p l H4 hp' hs' sm g4.1 R nl0⟩
end
def Tbs(ts:List Addr)(H:Hp):Prop :=∀t∈ts,TbS t H
def quy(ts:List Addr)(K:Qd):Sp:=λa H Q E=>Tbs ts H/\xbx K a H Q E
section
variable{P:Zw}{w:World}{K:Qd}{mg mb:Str->Option Value}{CX:CXT}{k:Nat}{fa a:Addr}{ts:List Addr}{fd:Qbk}{x:Str}{sp:Sp}{s:Qt}{vs:List Value}{ns:LI}
theorem zcl(U:K.In s.heap)(t:s.heap.Ns Zu mg)(I:s.heap.Ns Qdy mb)(J:∀x:Str,x ≠ "__name__" -> mb x=Zl x)(y:s.heap.NoLimit)(V:s.gens = #[])(W:s.heap.get? a=some { cls :=.type "list",data :=.seq vs.toArray })(X:Room k Qid)(i:∀b∈ts,∃c,s.heap.TableAt c b #[])(L:∀b∈ts,K.lookup b=none)(F:∀base:Heap,K.In base->base.Ns Zu mg->FnOk P w K mg base CX k fa fd [x] sp)(j:∀(s:Qt)(u:Value),Qjl s fd ⟨[u],[]⟩ [(x,u)])(N:∀b,H b≠none->b=a\/b∈ts)(Y:∀u,H a=some u ->∃o xs,u = .frz o (.lst xs))(Z:∀b∈ts,H b=some (.tbl #[]))(A:HOk P w H s.heap)(hK:H a≠none->K.lookup a=none)(O:sp [.ref a] H (λv _=>v = .bl true) λ_ _ _=>False)(Q:∀e l,CX [] H s (λ_ _ _=>False) e l->False):
 Qcj (model P w) Qid (.call (.ref fa) ⟨[.ref a],[]⟩) (λr l=>r = .ok (.ret (.bool true))/\OldK s.heap l.heap/\l.os=s.os/\Qgz l.gens) s:=by
 have S:∀{b:Addr}{o:Obj},s.heap.get? b=some o->H b=none->(zfg s.heap H).get? b=some o:=λe n=>zog e n;have nd:∀{b:Addr}{o:Obj}{D:Array Qap}{E:Nat},s.heap.get? b=some o->o.data = .dict D E->H b=none:=λ{b o D E} e d=>by
  cases q:H b with
  |none=>rfl
  |some u =>
   rcases N b (by rw[q];simp)with z|z
   ·subst z;rw[W]at e;cases e;have d':=d;cases d'
   ·obtain⟨c,i⟩:=i b z;rw[i.2]at e;cases e;cases d
 have f:∀{b:Addr}{m:Str->Option Value},s.heap.Ns b m->(zfg s.heap H).Ns b m:=λp=>by obtain⟨o,D,E,e,d,r⟩:=p;exact⟨o,D,E,S e (nd e d),d,r⟩
 have T:K.In (zfg s.heap H):=λb o e=>S (U b o e) (by
  cases q:H b with
  |none=>rfl
  |some u =>
   rcases N b (by rw[q];simp)with z|z
   ·subst z;rw[hK (by rw[q];simp)]at e;cases e
   ·rw[L b z]at e;cases e)
 have M:Mod K mg (zfg s.heap H):=⟨T,f t,⟨mb,f I,J⟩,let ⟨mc,h1,h2⟩:=y; ⟨mc,f h1,h2⟩⟩
 have e0:Env0 P w K mg (zfg s.heap H) Qid [] s H:=⟨rfl,M,λb o e=>zuf e,Qej (zld _ _),trivial,λb I=>absurd (show b∈([]:List Addr) from I) (by simp),A,.of_eq V⟩
 refine Qdd ((F _ T (f t)).run Qid [] s H ⟨[.ref a],[]⟩ [.ref a] [.ref a] _ _ X e0 (j s (.ref a)) (.cons rfl .nil) O) λr l h=>?_;cases r with
 |error e=>exact(Q e l h).elim
 |ok fl =>
  cases fl with
  |next=>exact Zc h
  |brk=>exact Zc h
  |cont=>exact Zc h
  |ret u =>
   obtain⟨v,H',os,B,un,g,r',q⟩:=h;have q':=q;subst q';obtain rfl:u=Qle true:=r';refine⟨rfl,⟨λb o e=>?_,λb o e=>un.there b o e (by simp)⟩,os,B⟩;cases qb:H b with
   |none=>exact .inl (un.keep b o e qb (by simp[frs]) (by simp))
   |some u =>
    rcases N b (by rw[qb];simp)with z|z
    ·subst z;obtain⟨o2,xs,e3⟩:=Y u qb;rw[e3]at qb;obtain⟨G,_⟩:=A b _ qb;obtain⟨R,_⟩:=g b _ (un.frzs b _ _ qb);rw[e]at G;cases G;exact .inl R
    ·obtain⟨c,i⟩:=i b z;obtain⟨C,G,_⟩:=un.tbls b _ (Z b z);have R:=g b _ G;rw[i.2]at e;cases e;exact .inr (.inl ⟨i.isCodeTable,rfl,#[],C,rfl,R⟩)
theorem zkd(B:K.In s.heap)(l:s.heap.Ns Zu mg)(j:s.heap.Ns Qdy mb)(m:∀x:Str,x ≠ "__name__" -> mb x=Zl x)(h:s.heap.NoLimit)(D:s.gens = #[])(n:s.heap.get? a=some { cls :=.type "list",data :=.seq vs.toArray })(E:Qhb vs ns)(I:ns.length<=Q4)(G:Room k Qid)(d:∀b∈ts,∃c,s.heap.TableAt c b #[])(p:∀b∈ts,K.lookup b=none)(F:∀base:Heap,K.In base->base.Ns Zu mg->FnOk P w K mg base CX k fa fd [x] sp)(f:∀(s:Qt)(u:Value),Qjl s fd ⟨[u],[]⟩ [(x,u)])(y:∀H:Hp,Tbs ts H->SqL K H a (ns.map V.int)->sp [.ref a] H (λv _=>v = .bl true) λ_ _ _=>False)(A:∀H e g,CX [] H s (λ_ _ _=>False) e g->False):
 Qcj (model P w) Qid (.call (.ref fa) ⟨[.ref a],[]⟩) (λr g=>r = .ok (.ret (.bool true))/\OldK s.heap g.heap/\g.os=s.os/\Qgz g.gens) s:=by
 have J:=qnn E;have L:=E.length;have ne:a∉ts:=λz=>by
  obtain⟨c,d⟩:=d a z;have:=d.2;grind
 cases hk:K.lookup a with
 |some o =>
  have e:=B a o hk;rw[n]at e;cases e;refine zcl (H:=λb=>if b∈ts then some (.tbl #[])else none) B l j m h D n G d p F f (λb z=>?_) (λu z=>?_) (λb j=>if_pos j) (λb u z=>?_) (λz=>absurd (if_neg ne) z) (y _ (λt d=>⟨#[],if_pos d,.nil⟩) ?_) (λe g=>A _ e g)
  ·grind
  ·grind
  ·by_cases q:b∈ts
   ·have i:=(if_pos q).symm.trans z;cases i;obtain⟨c,d⟩:=d b q;exact d.2
   grind
  ·exact .inr ⟨_,vs.toArray,_,hk,rfl,rfl,rfl,by grind,by grind⟩
 |none =>
  refine zcl (H:=λb=>if b∈ts then some (.tbl #[])else if b=a then some (.frz { cls :=.type "list",data :=.seq vs.toArray } (.lst (ns.map V.int)))else none) B l j m h D n G d p F f (λb z=>?_) (λu z=>?_) (λb j=>if_pos j) (λb u z=>?_) (λ_=>hk) (y _ (λt d=>⟨#[],if_pos d,.nil⟩) ?_) (λe g=>A _ e g)
  ·grind
  ·grind
  ·by_cases q:b∈ts
   ·have i:=(if_pos q).symm.trans z;cases i;obtain⟨c,d⟩:=d b q;exact d.2
   ·by_cases C:b=a
    ·have i:=((if_neg q).trans (if_pos C)).symm.trans z;cases i;subst C;exact⟨n,by rw[Qe];exact I,vs,_,J,n⟩
    ·have i:=((if_neg q).trans (if_neg C)).symm.trans z;cases i
  ·exact .inl (.inr ⟨{ cls :=.type "list",data :=.seq vs.toArray },(if_neg ne).trans (if_pos rfl)⟩)
end
theorem walk_ofT{l:Qgq}{K:Qcp->Qd}{tbs:Qcp->List Addr}{CX:World->CXT}{sp:World->Sp}(J:l.most=some n)(r:n<=Q4)(t:d.params.defaults=[])(L:Room k Qid)(M:∀(w:World)(h:Heap),YP w h->(K w.params).In h /\ ∀b∈tbs w.params,∃c,h.TableAt c b #[])(y:∀P,∀b∈tbs P,(K P).lookup b=none)(F:∀(w:World)(mg:Str->Option Value)(p:Addr)(h:Heap),(K w.params).In h->h.Ns Zu mg->mg d.name=some (.ref p) ->
 ∃z:Qbk,(∀(s:Qt)(u:Value),Qjl s z ⟨[u],[]⟩ [(x,u)]) /\ ∀base:Heap,(K w.params).In base->base.Ns Zu mg->FnOk l.prog w (K w.params) mg base (CX w) k p z [x] (sp w))(A:∀(w:World)(H:Hp)(a:Addr)(ns:LI),ns.length<=n->Tbs (tbs w.params) H->SqL (K w.params) H a (ns.map V.int)->sp w [.ref a] H (λv _=>v = .bl true) λ_ _ _=>False)(B:∀(w:World)(H:Hp)(s:Qt)(e:Value)(C:Qt),CX w [] H s (λ_ _ _=>False) e C->False):Qln q loose XP YP l.row.toRowW d [] (λf vs=>Qlg f vs):=by
  refine Att.attach_call J t λw E j mg X p o Z cd N a vs ns G Y ho hd O D m i g Q=>?_;obtain⟨I,R⟩:=M w _ Y;obtain⟨z,S,T⟩:=F w mg p _ I G.T.g D;exact zkd I G.T.g G.T.b G.T.builtins G.T.nolimit Q m i (Zq g r) L R (y w.params) T S (λH U W=>A w H a ns g U W) λH e C=>B w H j e C
def zlw(K:Qd)(c tb:Addr):Bool:=match K.lookup c with
 |some ⟨.type "code",_,.fields a,_⟩=>(a[11]?==some (.ref tb))&&(match a.getD 18 .none with |.str _ _=>true|_=>false)&&(match a.getD 7 .none with |.int _ _=>true|_=>false)&&(match a.getD 9 .none with |.bool _=>true|_=>false)&&(match a.getD 10 .none with |.int _ _=>true|_=>false)&&c != tb
 |_=>false
theorem qxa{K:Qd}(X:K.In h)(q:zlw K c tb=true):CodeHd h c tb:=by
 unfold zlw at q;split at q
 case h_2=>cases q
 rename_i dd vs sl ho;simp only[Yb,beq_iff_eq,bne_iff_ne]at q;obtain⟨⟨⟨⟨⟨e1,e2⟩,e3⟩,e4⟩,e5⟩,e6⟩:=q;have e7:vs.getD 11 .none = .ref tb:=by
  have:vs.getD 11 .none=(vs[11]?).getD .none:=by simp[Array.getD_eq_getD_getElem?]
  rw[this,e1];rfl
 split at e2
 case h_2=>cases e2
 rename_i x2 t2 g2;split at e3
 case h_2=>cases e3
 rename_i x3 t3 g3;split at e4
 case h_2=>cases e4
 rename_i x4 g4;split at e5
 case h_2=>cases e5
 rename_i x5 t5 g5;exact⟨_,vs,x2,t2,x3,t3,x4,x5,t5,X _ _ ho,rfl,rfl,e1,e7,g2,g3,g4,g5,e6⟩
def zxc(K:Qd)(a tb:Addr):Bool:=match K.lookup a with
 |some ⟨.type "module",some d,.plain,_⟩=>d==Qdy&&a != Qdy&&a != Zu&&a != tb
 |_=>false
theorem zhf{K:Qd}(X:K.In h)(hm:mg "__builtins__" = some (.ref bm))(q:zxc K bm tb=true):h.BuiltinsAt mg tb:=by
 unfold zxc at q;split at q
 case h_2=>cases q
 rename_i d sl ho;simp only[Yb,beq_iff_eq,bne_iff_ne]at q;obtain⟨⟨⟨e1,e2⟩,e3⟩,e4⟩:=q;subst e1;exact⟨bm,_,hm,e2,e3,e4,X _ _ ho,rfl,rfl,rfl⟩
structure DefT(K:Qd)(mg:Str->Option Value)(x:Str)(st:Stmt)(ps:List Str)(c0:Addr):Prop where
 ex:∃(f:Addr)(oc:Value)(od:Option Addr)(kV doc pm:Value)(an:Option Addr)(ct:Value)(osl:Array (Option Value)),K.lookup f=some ⟨oc,od,.func (Vx x x (defArgs st) (defBody st) (defScope st) .none kV doc pm an (.ref c0) ct),osl⟩/\Qcy K (.ref c0) x=true /\
  V7 K (.ref f)=true/\mg x=some (.ref f)/\Binds K (Vx x x (defArgs st) (defBody st) (defScope st) .none kV doc pm an (.ref c0) ct) ps []
theorem DefT.ok{K:Qd}{st:Stmt}(F:DefT K mg x st ps c0)(S:FnScope N ps (defScope st))(len:∀vs H Q E,sp vs H Q E->vs.length=ps.length)(a:∀(f:Addr)(A:Yk)(outer:List Env)(s:Qt)(H:Hp)(vs:List V)(Q:VK)(E:XK),Room k (A.deeper (Qcq x (defScope st) s.heap.objs.size f (.ref c0)))->sp vs H Q E ->
 ∃t,PSs (qpe CX0 P w K mg base N x (defScope st) f (.ref c0) A outer s H E).nox (defBody st) t/\t { nx:=λ_ d=>Q .non d,rt:=Q } (start N vs) H):Ok P w K mg base x (k+1) ps sp:=by
  obtain⟨f,o,p,kV,e,r,u,v,g,i,b,j,l,m⟩:=F.ex;refine⟨f,_,zxn i b S len λA outer s H vs Q E n c=>?_,l,j,m⟩;obtain⟨t,h,q⟩:=a f A outer s H vs Q E n c;exact⟨t,h.nox,q⟩
def qkq(ts:List Addr)(sp:Sp):Sp:=λa H Q E=>Tbs ts H/\sp a H Q E
theorem Ok.t(O:Ok X.prog X.w X.K X.mg X.base x k ps (qkq ts sp))(h:Tbs ts X.H₀):OkC X x k ps sp :=
 ⟨_,O,λ_ _ _ _ _ _ _ I q=>⟨λt a=>TbS.of I (h t a),q⟩⟩
section
variable{P:Zw}{w:World}{K:Qd}{mg:Str->Option Value}{base:Heap}{ts:List Addr}
theorem Def.tvok{st:Stmt}(F:Def K mg x st ps)(S:FnScope N ps (defScope st))(len:∀ds q,sp ds q->ds.length=ps.length)(b:∀(f:Addr)(a:Value)(A:Yk)(outer:List Env)(s:Qt)(H:Hp)(E:XK),Room k (A.deeper (Qcq x (defScope st) s.heap.objs.size f a))->Tbs ts H ->∀ds q,sp ds q ->
 ∃W,VSs (qpe CX0 P w K mg base N x (defScope st) f a A outer s H E).nox (defBody st) W/\W { nx:=λ_=>q .none,rt:=λr _=>q r.data } (qcm N ds)):Ok P w K mg base x (k+1) ps (qkq ts (PSp K sp)) :=
  F.ok S (λt H Q E c=>by obtain⟨_,F,ds,q,_,i,h,_⟩:=c;rw[i.len];exact len ds q h) λf a A outer s H t Q E u d=>by
   obtain⟨y,F,ds,q,z,i,h,o⟩:=d;obtain⟨W,B,C⟩:=b f a A outer s H E u y ds q h;refine⟨_,B,⟨H,H,F⟩,qcm N ds,F,_,qde z i,C,⟨λD p e l m G n=>o _ _ p e m.goOf qud n,λr v D p e l m G I n=>?_,λ_ _ _ _ _ _ h=>h.elim,λ_ _ _ _ _ _ h=>h.elim⟩⟩;obtain⟨J,g,j⟩:=I.is m;exact o _ _ J e g j n
theorem Def.tvokF{st:Stmt}(F:Def K mg x st ps)(S:FnScope N ps (defScope st))(len:∀ds q,sp ds q->ds.length=ps.length)(c:∀(f:Addr)(b:Value)(A:Yk)(outer:List Env)(s:Qt)(H:Hp)(E:XK),Room k (A.deeper (Qcq x (defScope st) s.heap.objs.size f b))->Tbs ts H ->∀ds q,sp ds q ->
 ∃W,VSs (qpe CX0 P w K mg base N x (defScope st) f b A outer s H E).nox (defBody st) W/\W { nx:=λ_=>False,rt:=λr _ =>∃l,r = .own l/\q l } (qcm N ds)):Ok P w K mg base x (k+1) ps (qkq ts (FSp K sp)) :=
  F.ok S (λj H Q E d=>by obtain⟨_,F,ds,q,_,i,h,_⟩:=d;rw[i.len];exact len ds q h) λf b A outer s H j Q E t e=>by
   obtain⟨u,F,ds,q,y,i,h,z⟩:=e;obtain⟨W,B,C⟩:=c f b A outer s H E t u ds q h;refine⟨_,B,⟨H,H,F⟩,qcm N ds,F,_,qde y i,C,⟨λD n o m p G g=>g.elim,λr v D n o m p G I g=>?_,λ_ _ _ _ _ _ h=>h.elim,λ_ _ _ _ _ _ h=>h.elim⟩⟩;obtain⟨l,rfl,g⟩:=g;obtain⟨a,j,rfl,J,L,R,M,O⟩:=I;exact z l a j n o p.goOf M L J O g
end
end L2
namespace L2
open PySem PySem.Spec PyProof.Rows
theorem qpc:∀{us:List Value}{ns:LI},Qhb us ns ->∀(i:Nat)(v:Value),us[i]?=some v ->∃n t,ns[i]?=some n/\v = .int n t
 |_,_,.nil,i,v,h=>by simp at h
 |_,_,.cons n t r,0,v,h=>by
  grind
 |_,_,.cons n t r,i+1,v,h=>by
  rw[J7]at h;obtain⟨m,k,e,z⟩:=qpc r i v h;grind
theorem qpb:∀{us:List Value}{ns:LI},Qhb us ns->us.length=ns.length
 |_,_,.nil=>rfl
 |_,_,.cons n t r=>by rw[Zg,Zg,qpb r]
theorem zlm(d:Qhb us ns):((Qm us.toArray.size).any λi=>((ns[i]?).getD 1) != 0)=ns.any (· != 0):=by
 have a:us.toArray.size=ns.length:=by grind[Zn,qpb]
 rw[a,Qgl,Vo,Vo];constructor
 ·grind[Ze]
 ·rintro⟨b,hb',z⟩;obtain⟨i,c,rfl⟩:=Qbn hb';exact⟨i,Zi.mpr c,by grind⟩
section
variable{X:Cx}
def xdd(K:Qd):List V->Hp->VK->Prop:=λc H Q =>∃(a:Addr)(b:LI),c=[.ref a]/\SqL K H a (b.map V.int)/\Q (.bl (b.any (· != 0))) H
theorem zjs(p:X.calm=true):CallR X (.builtin "any") (xdd X.K):=by
 intro f s F H G J Q I r h;obtain⟨a,g,rfl,w,q⟩:=h;obtain⟨u,rfl,x⟩:=qmp r;cases x;obtain⟨c,y,j,_⟩:=I.list w;have k:=j.isList;have l:=qsf y;have d:=j.lt;refine call_any_walk (Qaz k ?_);refine⟨s.heap.objs.size,[s.heap.objs.size,a],[s.heap.objs.size],c.toArray.size,_,_,λi=>((g[i]?).getD 1) != 0,rfl,Qlh (A:=X.A.in1) (I.ok.hd p) _ a (Q7 d) c.toArray,
  ⟨⟨_,Qx _ rfl,rfl,rfl⟩,k.push _⟩,λi v K L M B m=>?_,λN C D=>?_⟩
 ·obtain⟨n,t,e,rfl⟩:=qpc l i v (by simpa using B);simp only[e,Qkf]at m;exact P.truthy_int m
 ·rw[zlm l];refine⟨.bl (g.any (· != 0)),H,I.kept (t':=C) (λb o z=>D b o (λE=>?_) (Qi _ z)),rfl,q⟩;rw[Q6.mp E]at z;exact J5 _ (Qw z)
def xdn:DC
 |[.list l],q =>∃a:LI,l=a.map .int/\q (.bool (a.any (· != 0)))
 |_,_=>False
theorem zxz(d:X.calm=true):qlb X (.builtin "any") xdn:=(zjs d).imp λe H Q b=>by
 obtain⟨F,f,q,s,i,h,k⟩:=b
 match f,h,i with
 |[.list l],h,i =>
  obtain⟨v,rfl,j⟩:=qoe i;obtain⟨a,e,rfl,c,g⟩:=j.lst_inv;obtain⟨m,rfl,n⟩:=h;rw[g.ints_inv]at c;exact⟨a,m,rfl,s.seq c,k _ _ F H (.refl s) (qeu _) n⟩
end
abbrev Grp:=LI×Addr×List Nat
def qrb(x:Grp):List Key×V:=(x.1.map Qdg,V.ref x.2.1)
def grL(G:List Nat):List V:=G.map λi=>V.int ((i:Nat):Int)
structure GrAt(H0 F H:Hp)(d:Addr)(ks:List Grp):Prop where
 hd:H d=some (.dT (ks.map qrb))
 fd:F d=none
 nd:H0 d=none
 hl:∀x∈ks,H x.2.1=some (.lst (grL x.2.2))
 fl:∀x∈ks,F x.2.1=none
 nl:∀x∈ks,H0 x.2.1=none
 dl:∀x∈ks,x.2.1≠d
 ad:(ks.map (·.2.1)).Nodup
 ky:(ks.map (·.1)).Nodup
def qqp(ks:List Grp)(k:LI)(s:Nat):List Grp:=ks.map λx=>if x.1=k then(x.1,x.2.1,x.2.2++[s])else x
theorem ztj{a b:LI}(h:(a.map Qdg:List Key)=b.map Qdg):a=b:=by
 induction a generalizing b with
 |nil=>cases b with
  |nil=>rfl
  |cons _ _=>cases h
 |cons x a c=>cases b with
  |nil=>cases h
  |cons y b =>
   grind
theorem qnx{c i:Type}{f:c->i}:∀{l:List c},(l.map f).Nodup ->∀x∈l,∀y∈l,f x=f y->x=y
 |[],_,x,b,_,_,_=>by cases b
 |a::l,h,x,b,y,j,e=>by
  rw[Qq,Js]at h;rcases Zd.mp b with d|d
  ·grind
  ·rcases Zd.mp j with g|g
   ·grind
   ·exact qnx h.2 x d y g e
theorem qzv:∀(ks:List Grp),qqf (ks.map qrb) (k.map Qdg)=(ks.find? λx=>decide (x.1=k)).map λx=>V.ref x.2.1
 |[]=>rfl
 |x::ks=>by
  rw[Qq];by_cases e:x.1=k
  ·rw[qtq (by show x.1.map Qdg=_;rw[e]),List.find?_cons_of_pos (by simpa using e)];rfl
  ·rw[qtr (λz=>e (ztj z)),List.find?_cons_of_neg (by simpa using e),qzv ks]
theorem Go.at(g:Go F0 H0 F H)(c:F a=none)(d:H0 a=none):Go F0 H0 F (upd H a o) :=
 ⟨g.f,λb u e=>by rw[qi λz=>by grind];exact g.h b u e,λb u e=>by rw[qi λz=>by grind];exact g.fh b u e,g.new⟩
section
variable{F0 H0 F H:Hp}{d l p:Addr}{ks:List Grp}{k:LI}{G:List Nat}{s:Nat}
theorem GrAt.hit(h:GrAt H0 F H d ks)(m:(k,l,G)∈ks):GrAt H0 F (upd H l (.lst (grL (G++[s])))) d (qqp ks k s):=by
 have ne:d≠l:=λz=>h.dl _ m z.symm;have addr:∀y:Grp,(if y.1=k then(y.1,y.2.1,y.2.2++[s])else y).2.1=y.2.1:=λy=>by split <;> rfl
 have i:∀y:Grp,(if y.1=k then(y.1,y.2.1,y.2.2++[s])else y).1=y.1:=λy=>by split <;> rfl
 have g:=qnx (f:=λx:Grp=>x.2.1) h.ad;have a:=qnx (f:=λx:Grp=>x.1) h.ky;refine⟨?_,h.fd,h.nd,λx c=>?_,λx c=>?_,λx c=>?_,λx c=>?_,?_,?_⟩
 ·rw[qi ne,h.hd];unfold qqp;rw[Zj]
  congr 2
  refine Q9 λx _=>?_;unfold qrb;grind
 ·obtain⟨y,b,rfl⟩:=Ql.mp c;rw[addr];by_cases e:y.1=k
  ·have:=a y b _ m e;subst this;rw[qk,if_pos rfl]
  ·rw[qi λz=>e ?_,if_neg e]
   ·exact h.hl y b
   grind
 ·obtain⟨y,b,rfl⟩:=Ql.mp c;rw[addr];exact h.fl y b
 ·obtain⟨y,b,rfl⟩:=Ql.mp c;rw[addr];exact h.nl y b
 ·obtain⟨y,b,rfl⟩:=Ql.mp c;rw[addr];exact h.dl y b
 ·have:(qqp ks k s).map (·.2.1)=ks.map (·.2.1):=by
   unfold qqp;rw[Zj];exact Q9 λx _=>addr x
  rw[this];exact h.ad
 ·have:(qqp ks k s).map (·.1)=ks.map (·.1):=by
   unfold qqp;rw[Zj];exact Q9 λx _=>i x
  rw[this];exact h.ky
theorem GrAt.miss(h:GrAt H0 F H d ks)(e:H p=none)(i:F p=none)(j:H0 p=none)(n:∀x∈ks,x.1≠k):GrAt H0 F (upd (upd (upd H p (.lst [])) d (.dT ((ks++[(k,p,[s])]).map qrb))) p (.lst (grL [s]))) d (ks++[(k,p,[s])]):=by
 have f:p≠d:=λz=>by rw[z,h.hd]at e;cases e
 have g:∀x∈ks,x.2.1≠p:=λx c z=>by have:=h.hl x c;grind
 have two:∀{P:Grp->Prop},(∀x∈ks,P x)->P (k,p,[s]) ->∀x∈ks++[(k,p,[s])],P x:=λa b x c=>by
  grind
 refine⟨?_,h.fd,h.nd,two (λx c=>?_) ?_,two h.fl i,two h.nl j,two h.dl f,?_,?_⟩
 ·rw[qi (Z9 f),qk]
 ·rw[qi (g x c),qi (h.dl x c),qi (g x c)];exact h.hl x c
 ·exact qk
 ·rw[Zo,Qq,J3,Qfh];refine⟨h.ad,by simp,λa l b m=>?_⟩;grind
 ·rw[Zo,Qq,J3,Qfh];refine⟨h.ky,by simp,λa l b m=>?_⟩;grind
theorem zpu:grL G++[V.int ((s:Nat):Int)]=grL (G++[s]):=by unfold grL;rw[Zo];rfl
end
def zdz(ks:List Grp)(k:LI)(p:Addr)(s:Nat):List Grp:=if(ks.any λx=>decide (x.1=k))=true then qqp ks k s else ks++[(k,p,[s])]
theorem xaf{K:Qd}(g:Go F0 H0 F H)(h:GrAt H0 F H d ks)(I:σ[ig]?=some (some (.ref d)))(J:σ[ia]?=some (some (.ref b)))(C:σ[is]?=some (some (.int ((s:Nat):Int))))(L:F b=some (.tup (k.map V.int)))(R:ks.length<900)(M:∀x∈ks,x.2.2.length<900)(q:∀p t,Go F0 H0 F t->GrAt H0 F t d (zdz ks k p s)->D.nx σ t):zxo (tBM K "list" qxx (zqt (zbm ig) (zbm ia) (xdz zrf)) (zsf (zbm is) zrf)) D σ H:=by
  have N:=g.fh.at L;have O:(k.map Qdg:List Key).map kV=k.map V.int:=by rw[Zj];rfl
  refine⟨_,I,d,rfl,.inr ⟨_,.inl h.hd⟩,_,J,Yd _,λp a=>?_⟩;have u:d≠p:=λz=>by rw[<- z,h.hd]at a;cases a
  have o:=qB g.fh a;have r:=qB g.h a;have S:b≠p:=λz=>by grind
  refine⟨ks.map qrb,k.map Qdg,b,by rw[qi u];exact h.hd,rfl,by grind[qi],by grind[Qe,Yg],λv c=>?_,λc=>?_⟩
  ·rw[qzv]at c;cases e:ks.find? λx=>decide (x.1=k)with
   |none=>grind
   |some x =>
    rw[e]at c;cases c;have f:=List.mem_of_find?_eq_some e;have w:x.1=k:=by grind
    obtain⟨P,l,G⟩:=x;have w:=w;subst w;have E:l≠p:=λz=>by have:=h.hl _ f;rw[z]at this;rw[show H p=_ from this]at a;cases a
    have j:=h.hl _ f;have A:(ks.any λx=>decide (x.1=P))=true:=Vo.mpr ⟨_,f,by simp⟩;have Q:GrAt H0 F (upd H p (.lst [])) d ks:=⟨by rw[qi u];exact h.hd,h.fd,h.nd,λx i=>by
     rw[qi λz=>by have:=h.hl x i;rw[z,a]at this;cases this];exact h.hl x i,h.fl,h.nl,h.dl,h.ad,h.ky⟩
    have B:=(Q.hit (s:=s) f)
    have m:=q p (upd (upd H p (.lst [])) l (.lst (grL (G++[s])))) ((g.at o r).at (h.fl _ f) (h.nl _ f)) (by unfold zdz;rw[if_pos A];exact B);refine⟨?_,_,C,l,grL G,_,rfl,rfl,by rw[qi E];exact j,?_,?_⟩
    ·exact .inl ⟨rfl,grL G,SqL.of (by rw[qi E];exact j)⟩
    ·have:=M _ f;rw[Yg];unfold grL;rw[Qe];have:=this;lia
    grind[zpu]
  ·rw[qzv]at c;have e:∀x∈ks,x.1≠k:=λx i z=>by
    cases e:ks.find? λx=>decide (x.1=k)with
    |none=>exact(by simpa using List.find?_eq_none.mp e x i : ¬ x.1=k) z
    |some y=>rw[e]at c;cases c
   have A : ¬ (ks.any λx=>decide (x.1=k))=true:=λz=>by
    obtain⟨x,i,z⟩:=Vo.mp z;exact e x i (by simpa using z)
   have n:zbl (ks.map qrb) (k.map Qdg) (.ref p)=(ks++[(k,p,[s])]).map qrb:=by
    rw[znx _ (by rw[qzv];exact c),Zo];rfl
   rw[n];have B:=h.miss (s:=s) a o r e;have m:=q p _ (((g.at o r).at h.fd h.nd).at o r) (by unfold zdz;rw[if_neg A];exact B);have j:upd (upd H p (.lst [])) d (.dT ((ks++[(k,p,[s])]).map qrb)) p=some (.lst []):=by rw[qi (Z9 u),qk]
   refine⟨.inl ⟨rfl,[],SqL.of j⟩,_,C,p,[],_,rfl,rfl,j,by rw[Yg];decide,?_⟩;exact m
theorem Room.lam(r:Room (k+1) A)(env:Env):Room k (A.in1.in1.deeper env) :=
 ⟨r.hd,by have:=r.dp;show A.depth+1+3*k+5<_;omega,by have:=r.un;show A.units+1+1+3+16*k+200<_;omega⟩
theorem Room.sort(r:Room k A):A.units+1<cLine/\A.in1.in1.units<cLine/\A.in1.in1.depth<Vw :=
 ⟨by have:=r.un;lia,by have:=r.un;grind,by have:=r.dp;grind⟩
theorem qwh:∀{l:List (Str×Qaw)},(∀p∈l,p.2 = .free->p.1=y) ->∀z,l.lookup z=some .free->z=y
 |[],_,z,h=>by cases h
 | (a,k)::l,g,z,h=>by
  rw[Qac]at h;cases e:z==a with
  |true =>
   rw[e]at h;have b:=Qr h;have:=eq_of_beq e;rw[this];exact g (a,k) (by simp) b
  |false =>
   rw[e]at h;exact qwh (λp c=>g p (Qk _ c)) z h
theorem GrAt.go(h:GrAt H0 F H d ks)(g:Go F H F' H'):GrAt H0 F' H' d ks :=
 ⟨g.h _ _ h.hd,qqz g h.hd h.fd,h.nd,λx a=>g.h _ _ (h.hl x a),λx a=>qqz g (h.hl x a) (h.fl x a),h.nl,h.dl,h.ad,h.ky⟩
def qqe(a:List (LI×List Nat))(k:LI)(s:Nat):List (LI×List Nat):=if(a.any λx=>decide (x.1=k))=true then a.map (λx=>if x.1=k then(x.1,x.2++[s])else x)else a++[(k,[s])]
def qlf(ks:List Grp):List (LI×List Nat):=ks.map λx=>(x.1,x.2.2)
theorem zkk:qlf (zdz ks k p s)=qqe (qlf ks) k s:=by
 have e:((qlf ks).any λx=>decide (x.1=k))=ks.any λx=>decide (x.1=k):=by unfold qlf;rw[List.any_map];rfl
 unfold qqe zdz;rw[e];split
 ·unfold qqp qlf;grind[Zj,Q9]
 ·unfold qlf;grind
end L2
namespace L2
open PySem PySem.Spec PyProof.Rows PySem.W
section
variable{X:Cx}{t u:TS}
end
section
variable{K:Qd}{M:Frm}{F H:Hp}{env:Sto}{σ:St}{W:WS}{u:TS}
end
section
variable{P:Zw}{w:World}{K:Qd}{mg:Str->Option Value}{base:Heap}
theorem Fun.vlawT{st:Stmt}(F:Fun K x x st f fd)(S:FnScope N ps (defScope st))(o:ps.length=1)(c:∀(b:Value)(A:Yk)(outer:List Env)(s:Qt)(H:Hp)(E:XK),Room k (A.deeper (Qcq x (defScope st) s.heap.objs.size f b))->Tbs ts H ->∀ns:LI,ns.length<=63 ->
 ∃W,VSs (qpe CX0 P w K mg base N x (defScope st) f b A outer s H E).nox (defBody st) W/\W { nx:=λ_=>False,rt:=λr _=>r.data = .bool true } (qcm N [.list (ns.map .int)])):FnOk P w K mg base CX0 (k+1) f fd ps (quy ts K):=by
  refine F.ok S (λp H Q E h=>?_) (λb A outer s H p Q E q h=>?_)
  ·obtain⟨_,a,ns,rfl,_⟩:=h;exact o.symm
  ·obtain⟨i,a,ns,rfl,t,d,u⟩:=h;have y:=qG (qeq t (qhi ns)) qah;obtain⟨W,z,B⟩:=c b A outer s H E q i ns d;refine⟨_,z,⟨H,H,H⟩,qcm N _,H,_,qde (.refl _) y,B,⟨λC D m l n G e=>e.elim,λr v C D m l n G I e=>?_,λ_ _ _ _ _ _ h=>h.elim,λ_ _ _ _ _ _ h=>h.elim⟩⟩;obtain⟨J,g,j⟩:=I.is n;have e:=e;rw[e]at j;rw[j.bl_inv];exact u m
end
def codeTb(K:Qd)(c tb:Addr):Bool:=match K.lookup c with
 |some ⟨.type "code",_,.fields a,_⟩=>a[11]?==some (.ref tb)
 |_=>false
abbrev emT:Obj:=⟨.none,none,.fields #[],#[]⟩
theorem qnp{K:Qd}:∀(ts:List (Addr×Addr)),(b∈ts.map (·.1)/\(ts.map (λp=>(p.1,emT))++K).lookup b=some emT)\/(b∉ts.map (·.1)/\(ts.map (λp=>(p.1,emT))++K).lookup b=K.lookup b)
 |[] => .inr ⟨by simp,rfl⟩
 |p::ts=>by
  show(b∈p.1::ts.map (·.1)/\((p.1,emT)::(ts.map (λp=>(p.1,emT))++K)).lookup b=some emT)\/(b∉p.1::ts.map (·.1)/\((p.1,emT)::(ts.map (λp=>(p.1,emT))++K)).lookup b=K.lookup b);rw[Qac];by_cases e:b=p.1
  ·grind
  ·have a:(b==p.1)=false:=by simpa using e
   rw[a];rcases qnp (K:=K) (b:=b) ts with⟨c,d⟩|⟨c,d⟩
   ·grind
   grind
theorem tabs_in{K:Qd}{ts:List (Addr×Addr)}(n:(ts.all λp=>(K.lookup p.1).isNone)=true)(q:(ts.all λp=>codeTb K p.2 p.1)=true)(Y:Qd.In (ts.map (λp=>(p.1,emT))++K) h):K.In h /\ ∀b∈ts.map (·.1),∃c,h.TableAt c b #[]:=by
 have kin:K.In h:=λb o e=>by
  rcases qnp (K:=K) (b:=b) ts with⟨h1,h2⟩|⟨h1,h2⟩
  ·grind
  ·exact Y b o (h2.trans e)
 refine⟨kin,λb hb=>?_⟩;rcases qnp (K:=K) (b:=b) ts with⟨h1,h2⟩|⟨h1,h2⟩
 ·obtain⟨p,hp,rfl⟩:=Ql.mp hb;have q:=Yc.mp q p hp;refine⟨p.2,?_,Y _ _ h2⟩;unfold codeTb at q;split at q
  case h_2=>cases q
  rename_i dd vs sl ho;exact⟨_,vs,kin _ _ ho,rfl,rfl,by simpa using q⟩
 grind
theorem none_all{K:Qd}{ts:List (Addr×Addr)}(n:(ts.all λp=>(K.lookup p.1).isNone)=true):∀b∈ts.map (·.1),K.lookup b=none:=λb a=>by
 obtain⟨p,c,rfl⟩:=Ql.mp a;exact Qbe.mp (Yc.mp n p c)
section
variable{a:Addr}{F H F1 H1 F2 H2:Hp}
end
section
variable{prog:Zw}{w:World}{A:Yk}{E:Value->Qt->Prop}{s:Qt}
end
section
variable{X:Cx}{pins:List (Addr×Obj)}{σ:St}{H:Hp}{s:Qt}{A:Yk}{E:Value->Qt->Prop}{vs:List Value}{kl:Nat->LI}{m:Nat}{a:Addr}{P:Qkv->Qt->Prop}
end
section
variable{X:Cx}
theorem zdh{K:Qd}(h:Iss K F l xs):∀{js:List Nat},(∀j∈js,j<l.length)->Iss K F (js.map λj=>l.getD j .none) (js.map λj=>xs.getD j .non)
 |[],_=>qah
 |j::js,a=>by
  have e:l[j]?=some (l[j]'(a j (by simp))):=Qc _;obtain⟨x,c,d⟩:=h.get e;refine qG ?_ (zdh h λk b=>a k (Qk _ b));grind
end
section
variable{X:Cx}{elt target iter cnd:Expr}{scope:Scope}{pos py spos:Pos}{caps own:List Str}{ix:List Nat}{Wi:WF}{G:WG}{Wt:WT}{We:WE}{i:Nat}{y:Str}
end
section
variable{prog:Zw}{w:World}{A:Yk}{E:Value->Qt->Prop}{s:Qt}{b c f:Bool}{z TI TO j1 j2 l1 l2 a:Addr}{oa:Obj}{k1 k2:Nat}{us vs:Array Value}
end
section
variable{prog:Zw}{w:World}{A:Yk}{E:Value->Qt->Prop}{s:Qt}{b c:Bool}{z TI TO j1 j2 l1 l2 M S:Addr}{us vs:Array Value}{i:Nat}{h h':Heap}
end
section
variable{X:Cx}{pins:List (Addr×Obj)}{σ:St}{s:Qt}
end
structure LamScopeC(scope:Scope)(x y:Str):Prop where
 kind:scope.kind = .function
 co:scope.isCoroutine=false
 gen:scope.isGenerator=false
 px:scope.names.lookup x=some .cell
 py:scope.names.lookup y=some .free
 ne:x≠y
 cf:∀(n:Nat)(c:Addr),Vz n scope.names [(y,c)]=[(x,n),(y,c)]
 pc:∀h:Heap,Qde h scope.names=h.push { cls :=.type "cell",data :=.cell none }
 cell:∀z,scope.names.lookup z=some .cell->z=x
 free:∀z,scope.names.lookup z=some .free->z=y
theorem zwc{s:Qt}{a:Value}(S:LamScopeC scope x y)(i:∀h',(∀b o,s.heap.get? b=some o->h'.get? b=some o)->h'.Ns s.heap.objs.size (λ_=>none)->h'.IsCell (s.heap.objs.size+1) (some u)->Q (newEnv scope s.heap.objs.size globals [(x,s.heap.objs.size+1),(y,cg)] qual func a none builtins) { s with heap:=h' }):
  wpAny M A (Qcz scope globals [(y,cg)] [(x,u)] qual func a none builtins) Q E s:=by
  simp only[Qcz,Option.isSome_none,Qcb,if_false];refine Qg (wpAny_alloc ?_);refine Qg (wpAny_layCells _ (λname h f=>by grind) _ _ _ _ ?_);rw[show({ s with heap:=s.heap.push { cls :=.type "frame",data :=.dict #[] } }:Qt).heap.objs.size=s.heap.objs.size+1 from Z5 ..,S.cf];have j:Qde ({ s with heap:=s.heap.push { cls :=.type "frame",data :=.dict #[] } }:Qt).heap scope.names=(s.heap.push { cls :=.type "frame",data :=.dict #[] }).push { cls :=.type "cell",data :=.cell none }:=S.pc _;rw[j,Qgo];have sz:(s.heap.push { cls :=.type "frame",data :=.dict #[] }).objs.size=s.heap.objs.size+1:=Z5 ..;have k:((s.heap.push { cls :=.type "frame",data :=.dict #[] }).push { cls :=.type "cell",data :=.cell none }).IsCell (s.heap.objs.size+1) none:=⟨_,by rw[<- sz];exact Qx _ rfl,rfl⟩
  have l:∀b o,s.heap.get? b=some o->((s.heap.push { cls :=.type "frame",data :=.dict #[] }).push { cls :=.type "cell",data :=.cell none }).get? b=some o:=λb o e=>Qi _ (Qi _ e);have m:((s.heap.push { cls :=.type "frame",data :=.dict #[] }).push { cls :=.type "cell",data :=.cell none }).Ns s.heap.objs.size (λ_=>none):=(Qmd s.heap (.type "frame")).keeps λb o e=>Qi _ e;refine Qg (Qg (Qg (Qhu (env:=newEnv scope s.heap.objs.size globals [(x,s.heap.objs.size+1),(y,cg)] qual func a none builtins) (name:=x) (c:=s.heap.objs.size+1) S.kind S.px (by show([(x,s.heap.objs.size+1),(y,cg)]:List (Str×Addr)).lookup x=_;grind) k λh' g d=>Qy ?_)));dsimp only;rw[Qet];refine Qy (Qy (i h' (λb o e=>d.extBut b o (Q7 (Qfe (Qw e))) (l b o e)) (m.sameBut d (Q7 (Qft _))) g))
section
variable{P:Zw}{w:World}{K:Qd}{mg:Str->Option Value}{base:Heap}{q:Str}{scope:Scope}{f cg:Addr}{cd ug u:Value}{x y:Str}{A:Yk}{outer:List Env}{s:Qt}{H:Hp}{v vg:V}{h1:Heap}{tk:Nat}
theorem znu(S:LamScopeC scope x y)(hd:A.handled=none)(d:Env0 P w K mg base A outer s H)(C:s.heap.IsCell cg (some ug))(G:H cg=none)(I:RelV vg ug)(J:RelV v u)(ns:h1.Ns s.heap.objs.size (λ_=>none))(L:h1.IsCell (s.heap.objs.size+1) (some u))(B:∀b o,s.heap.get? b=some o->h1.get? b=some o):
 Inv (cxL P w K mg base q scope f cd [(x,s.heap.objs.size+1),(y,cg)] [x,y] A outer s H) [] [some v,some vg] H { s with heap:=h1,toks:=tk }:=by
  have g:∀b:Addr,b∉(cxL P w K mg base q scope f cd [(x,s.heap.objs.size+1),(y,cg)] [x,y] A outer s H).ex:=λb z=>absurd (show b∈([]:List Addr) from z) (by simp);have N:cg<s.heap.objs.size:=by obtain⟨o,n,_⟩:=C;exact Qw n
  have look:∀z c,(cxL P w K mg base q scope f cd [(x,s.heap.objs.size+1),(y,cg)] [x,y] A outer s H).env.cells.lookup z=some c->(z=x/\c=s.heap.objs.size+1)\/(z=y/\c=cg):=λz c h=>by
   have h:([(x,s.heap.objs.size+1),(y,cg)]:List (Str×Addr)).lookup z=some c:=h;grind
  have r:([(x,s.heap.objs.size+1),(y,cg)]:List (Str×Addr)).lookup x=some (s.heap.objs.size+1):=by grind
  have t:([(x,s.heap.objs.size+1),(y,cg)]:List (Str×Addr)).lookup y=some cg:=by
   have:(y==x)=false:=by simpa using Z9 S.ne
   grind
  refine⟨⟨d.mod,S.kind,rfl,rfl,Qs _,λz O c a b=>?_,λz j=>?_,λz c a b=>(by cases a),λ_=>hd,Qdn d.frames,.inr ⟨rfl,rfl⟩,λb z=>absurd z (g b),d.bs,d.bsz,λb _ _=>g b,λb z=>absurd z (g b),d.funs,d.frf⟩,
   rfl,d.bare,Un.kept B,⟨_,ns,λi z Q e l R=>?_⟩,λz c a=>?_,d.hok.fresh (Qs _),λz c a=>?_,λp M=>absurd (show p∈([]:List (Addr×Obj)) from M) (by simp),d.hok.kept B,rfl⟩
  ·grind
  ·have j:=j;rcases j with j|j
   ·rw[S.cell z j];exact⟨_,r⟩
   ·rw[S.free z j];exact⟨cg,t⟩
  ·have e:=e
   match i,e,l with
   |0,e,l =>
    have D:=Qr e;have E:=Qr (Qr l);subst D;subst E;exact⟨u,J,.inr ⟨.inl S.px,_,r,L⟩⟩
   |1,e,l =>
    have D:=Qr e;have E:=Qr (Qr l);subst D;subst E;obtain⟨F,n,k⟩:=C;exact⟨ug,I,.inr ⟨.inr S.py,cg,t,F,B _ _ n,k⟩⟩
   |i+2,e,l=>cases e
  ·rcases look z c a with⟨_,m⟩|⟨_,m⟩
   ·grind
   ·rw[m];obtain⟨F,n,k⟩:=C;exact⟨_,F,B _ _ n,k⟩
  ·rcases look z c a with⟨_,m⟩|⟨_,m⟩
   ·rw[m];exact d.hok.fresh (Qct _)
   ·rw[m];exact G
theorem znk(S:LamScopeC scope x y)(hd:A.handled=none)(g:Env0 P w K mg base A outer s H)(a:A.depth<Vw)(j:s.heap.get? f=some o)(k:o.data = .func (kla_fn nm qual params body scope [(y,cg)] pm (.ref c) ct))(l:Qdw (kla_fn nm qual params body scope [(y,cg)] pm (.ref c) ct) ⟨[u],[]⟩=pure [(x,u)])(m:s.heap.get? c=some oc)(n:oc.data = .fields vs)(p:vs[1]?=some (.str q t))(B:s.heap.IsCell cg (some ug))(C:H cg=none)(D:RelV vg ug)(F:RelV v u)(he:PE (cxL P w K mg base q scope f (.ref c) [(x,s.heap.objs.size+1),(y,cg)] [x,y] A outer s H) body te)(h:te [some v,some vg] H Q):Qcj (model P w) A (.call (.ref f) ⟨[u],[]⟩) (CR CX0 outer P w H s Q E) s:=by
  refine qvz a j k S.co S.gen rfl rfl m n p ?_;rw[l];refine Qy (zwc S λR i G J=>?_);refine⟨(g.mod.nolimit.keeps λb o e=>(g.bs b o e).1).keeps i,?_⟩;have I:=znu (q:=q) (f:=f) (cd :=.ref c) (tk:=s.toks) S hd g B C D F G J i;refine kla_codeExpr (Yh (he [] _ _ H Q I h) (λr T z=>?_) λ_ _ z=>z.elim);obtain⟨L,M,d,N,O⟩:=z;exact⟨L,M,d.os,d.bare,d.base,d.hok,N,O⟩
end
section
variable{X:Cx}{pins:List (Addr×Obj)}{σ:St}{H:Hp}{s:Qt}{E:Value->Qt->Prop}{f a:Addr}{xs:List V}{its:List Value}{b:Bool}{kl:Nat->LI}{G:Hp->Prop}{m:Nat}{Q:Value->Qt->Prop}
theorem zer(t:X.A.in1.in1.units<cLine)(I:Inv X pins σ H s)(pl:PlainL s.heap a its.toArray)(u:its.length<64)(v:qkn X pins σ X.A.in1.in1 (.ref f) its b kl G)(o:OrdN its.length (qaf kl m))(w:∀i,i<its.length->(kl i).length=m)(g:G H)(k:∀(p:Array Nat)(l:Addr)(e:Hp)(h:Qt)(c:Nat),PmN its.length p->SrtN (qaf kl m) p its.length->Inv X pins σ e h->Same H e->G e->OwnA X pins l->e l=none->h.heap.get? l=some (Jd "list" (p.toList.map λi=>its.getD i .none).toArray c)->Q (.ref l) h):
 wpAny (model X.prog X.w) X.A (call (.builtin "sorted") [.ref a] [(Qam "key",.ref f)]) Q E s:=by
  refine Qgb kind_sorted plain_sorted entry_sorted (ksk_s1 _ _) ?_;refine Qg (m:=checkCount "sorted" 1 1 _) (Qy ?_);refine Qg (collect_list pl.isList ?_ (by grind[Yg,Zn]));refine Qg (Qix ?_ (by grind[Yg]));have j:((s.heap.push (Jd "list" #[] 0)).update s.heap.objs.size (Ye (· ++ its.toArray))).objs.size=s.heap.objs.size+1:=by
   rw[Heap.size_update,size_push']
  have d:(((s.heap.push (Jd "list" #[] 0)).update s.heap.objs.size (Ye (· ++ its.toArray))).push (Jd "list" its.toArray 0)).get? (s.heap.objs.size+1)=some (Jd "list" its.toArray 0):=by
   rw[<- j];exact Qx _ rfl
  have keep:∀b o,s.heap.get? b=some o->(((s.heap.push (Jd "list" #[] 0)).update s.heap.objs.size (Ye (· ++ its.toArray))).push (Jd "list" its.toArray 0)).get? b=some o:=λb o q=>by
   have x:=Qw q;grind[Heap.get?_push_ne,Q7,Qfe,Heap.get?_update_ne]
  rw[j];have n:=I.kept (t':=s.toks) keep;have r:=zmd I (Qct s.heap.objs.size);have y:=I.hok.fresh (Qct s.heap.objs.size);generalize ((s.heap.push (Jd "list" #[] 0)).update s.heap.objs.size (Ye (· ++ its.toArray))).push (Jd "list" its.toArray 0)=h2 at n d;refine Qg (Qab (Qie slot_list_sort ⟨_,d,rfl⟩ entry_list_sort ?_ (ksk_l1 _ _)));rw[ksk_t1];refine qqv (s:={ s with heap:=h2 }) t v o w n r y u d g λp e h c z A B C D F J=>?_;exact⟨_,rfl,Qy ⟨_,rfl,k p _ e h c z A B C D r F J⟩⟩
end
section
variable{X:Cx}{pins:List (Addr×Obj)}{σ:St}{x y:Str}{scope:Scope}{params:Qha}{body:Expr}{te:TE}{f cg c:Addr}{pm ct:Value}{vg:V}{vsV:List V}{vs:List Value}{kn:Nat->Int}{G:Hp->Prop}{oc:Obj}{uu:HO}{fv:Array Value}{q:Str}{t:Tok}{nm qual:Str}{iy:Nat}
theorem zpg(S:LamScopeC scope x y)(hh:X.A.handled=none)(d:X.A.in1.in1.depth<Vw)(h:(f,({ cls :=.type "function",data :=.func (kla_fn nm qual params body scope [(y,cg)] pm (.ref c) ct) }:Obj))∈pins)(K:∀u,Qdw (kla_fn nm qual params body scope [(y,cg)] pm (.ref c) ct) ⟨[u],[]⟩=pure [(x,u)])(L:oc.data = .fields fv)(M:fv[1]?=some (.str q t))(n:X.env.cells.lookup y=some cg)(o:X.env.kindOf y=some .cell)(N:X.N[iy]?=some y)(O:σ[iy]?=some (some vg))(A:Vals vsV vs)(p:X.A.in1.in1.frames=X.A.frames)(P:X.A.in1.in1.handled=X.A.handled)(he:∀s H,PE (cxL X.prog X.w X.K X.mg X.base q scope f (.ref c) [(x,s.heap.objs.size+1),(y,cg)] [x,y] X.A.in1.in1 X.stack s H) body te)(Q:∀(i:Nat)(v:V)(H:Hp),vsV[i]?=some v->G H->te [some v,some vg] H λr m=>Same H m/\G m/\r = .int (kn i)):
 qkn X pins σ X.A.in1.in1 (.ref f) vs false (λi=>[kn i]) (λH=>G H/\H c=some (.frz oc uu)):=by
 intro i u H s B I g;obtain⟨g,C⟩:=g;have R:=(Qp.mp B).1;have T:i<vsV.length:=by rw[A.length];exact R
 have D:=Qc T;obtain⟨u',j,U⟩:=A.get D;rw[B]at j;have W:=Qr j;subst W;obtain⟨mm,ns,Y⟩:=I.loc;obtain⟨Z,rg,look⟩:=Y iy y vg N O (.inr (.inl o));have hc:s.heap.IsCell cg (some Z):=by
  rcases look with⟨z,_⟩|⟨_,c',F,e2⟩
  ·grind
  grind
 have a:=I.env0;have F:Env0 X.prog X.w X.K X.mg X.base X.A.in1.in1 X.stack s H:=⟨by rw[p];exact a.frames,a.mod,a.bs,a.bsz,a.funs,a.frf,a.hok,a.bare⟩
 have pf:=I.pin _ (Qz _ h);refine Qjn (Qdd (znk (E:=λ_ _ _=>False) S (by grind) F d pf.1 rfl (K u) (I.hok c _ C).1 L M hc (I.freeC y cg n) rg U (he s H) (Q i _ H D g)) λr s' k=>?_);cases r with
 |error e=>exact k.elim
 |ok fl =>
  cases fl with
  |ret u2 =>
   obtain⟨v',m,os,l,un,w,r',J,g',ep⟩:=k;subst ep;obtain⟨tt,et⟩:∃t,u2=Qex (kn i) t:=r';exact⟨m,I.call' os un w l (λb z=>nomatch z),un,J,⟨g',J.at C⟩,kn i,tt,et,rfl⟩
  |next=>exact k.elim
  |brk=>exact k.elim
  |cont=>exact k.elim
end
def tSL(K:Qd)(tb:Addr)(iy:Nat)(te:TE):TE:=λg H Q =>∃(a:Addr)(b:List V)(e:Nat->Int),(g[iy]?=some (some (.ref a))/\SqL K H a b/\b.length<64) /\
 OrdN b.length (qaf (λi=>[e i]) 1) /\ ∀d,TbGo tb H d->Same H d ->∃G:Hp->Prop,G d /\
  (∀(i:Nat)(v:V)(f:Hp),b[i]?=some v->G f->te [some v,some (.ref a)] f λr c=>Same f c/\G c/\r = .int (e i)) /\
  ∀(p:Array Nat)(l:Addr)(c:Hp),PmN b.length p->SrtN (qaf (λi=>[e i]) 1) p b.length->Same d c->G c->c l=none->H l=none->Q (.ref l) (upd c l (.lst (p.toList.map λi=>b.getD i .non)))
section
variable{X:Cx}{x y:Str}{scope:Scope}{params:Qha}{body:Expr}{te:TE}{cg c0 tb:Addr}{iy:Nat}{np gp lp kp pos:Pos}
theorem zei(hu:X.A.in1.in1.units<cLine)(hh:X.A.handled=none)(j:X.A.in1.in1.depth<Vw)(hT:TbS tb X.H₀)(d:X.env.code = .ref c0)(C:CodeHd X.base c0 tb)(B:X.base.BuiltinsAt X.mg tb)(hg:Gl X "sorted")(hm:X.mg "sorted" = none)(k:PE X (.Name y gp) (zbm iy))(S:LamScopeC scope x y)(D:Qjm scope X.env=pure [(y,cg)])(E:X.env.cells.lookup y=some cg)(F:X.env.kindOf y=some .cell)(hN:X.N[iy]?=some y)(hb:∀nm n pm c ct u,Qdw (kla_fn nm n params body scope [(y,cg)] pm (.ref c) ct) ⟨[u],[]⟩=pure [(x,u)])(he:∀q f c s H,PE (cxL X.prog X.w X.K X.mg X.base q scope f (.ref c) [(x,s.heap.objs.size+1),(y,cg)] [x,y] X.A.in1.in1 X.stack s H) body te)(r:defaultsOf params X.env=([],[]):=by rfl)(J:X.A.in1.in1.frames=X.A.frames:=by rfl)(K:X.A.in1.in1.handled=X.A.handled:=by rfl):
  PE X (.Call (.Name "sorted" np) [.Name y gp] [⟨some "key",.Lambda params body scope lp,kp⟩] pos) (tSL X.K tb iy te):=by
  intro w s σ H Q I h;obtain⟨a,A,kn,⟨e1,ea,hn⟩,o,rest⟩:=h;refine Jk (qik I hg hm boot_sorted ?_);refine callWith_kw ?_;refine Qah (thn (k w s σ H (λv H'=>v = .ref a/\H'=H) I ⟨_,e1,rfl,rfl⟩) λu s1 e=>?_);obtain⟨v1,H1,L,r1,ev,eH⟩:=e;subst ev;subst eH;obtain rfl:u=Y6 a:=r1;refine Qcs ?_;refine kws_cons (kla_eval r (zdj L (TbS.of L hT) d C B D λf c ct pm oc fv q t s3 H3 I3 go new hf g d1 d2=>?_));obtain⟨uu,ec⟩:=g;refine kws_nil ?_;have M:=go.same (TbS.of L hT);obtain⟨G,g0,hk,N⟩:=rest H3 go M;have O:=M.seq ea;obtain⟨its,P,pl,hz⟩:=I3.list O;have z:=P.length.symm;refine zer (b:=false) (m:=1) hu I3 pl (by rw[z];exact hn) (zpg (G:=G) (kn:=kn) (uu:=uu) (oc:=oc) (vsV:=A) (iy:=iy) S hh j (Qz _ (Q6.mpr rfl)) (λu=>hb _ _ _ _ _ u) d1 d2 E F hN e1 P J K (λs H=>he q f c s H) hk) (by rw[z];exact o) (λ_ _=>rfl) ⟨g0,ec⟩ λp l H4 s4 cc R hs I4 sm g4 T U hl=>?_;have W:PmN A.length p:=by rw[<- z];exact R
  have Y:SrtN (qaf (λi=>[kn i]) 1) p A.length:=by rw[<- z];exact hs
  have Z:=(M.trans sm).free U;have vp:=qnv P λi hi=>Zi.mp (R.p.mem_iff.mp hi);have I5:=I4.track (u :=.lst (p.toList.map λi=>A.getD i V.non)) T U ⟨by rw[Qe,Z6,R.s,z,Yg];lia,_,cc,vp,hl⟩;exact⟨.ref l,_,I5.unpinned,rfl,N p l H4 W Y sm g4.1 U Z⟩
end
theorem VE.peK{K:Qd}(h:VE X e W)(a:X.K=K:=by rfl):PE X e (qcq K W):=by subst a;exact h
def xgo(i:Nat)(W:WE):WS:=λD b =>∃a:Int,gS b i = .val (.int a)/\W b λd e =>∃c:Int,d = .int c/\D.nx (e.set i (.val (.int (a+c))))
theorem zrd{pos g:Pos}(j:X.N.Nodup)(he:VE X e W)(l:X.N[i]?=some x:=by rfl)(m:Loc X.env.scope x:=by first|exact Vn rfl|exact Y3 rfl)(n:X.fn x=true\/X.env.scope.names.lookup x=some .local:=by first|exact .inl rfl|exact .inr rfl):VS X (.AugAssign (.Name x g) .Add e pos) (xgo i W):=(zye j l m he zyl n).imp λD A H b=>by
 obtain⟨M,env,F,B,I,⟨a,o,h⟩,k⟩:=b;have S:=I.slot i;rw[o]at S;obtain⟨v,p,q⟩:=S;obtain rfl:=q.int_inv;refine⟨_,qdw p,M,env,F,_,I,h,λd v r s C t u w f=>?_⟩;obtain⟨c,y,z⟩:=f;subst y;obtain rfl:=w.int_inv;exact⟨a,c,rfl,rfl,k.nx _ r s _ (t.setv (qZ _)) u z⟩
section
variable{X:Cx}{elt target iter cnd:Expr}{scope:Scope}{pos py spos:Pos}{caps own:List Str}{ix:List Nat}{Wi:WF}{G:WG}{Wt:WT}{We:WE}{i:Nat}{y:Str}
end
end L2
namespace HT
open PySem PySem.Spec PyProof.Rows
section
variable{prog:Zw}{w:World}{A:Yk}{E:Value->Qt->Prop}{s:Qt}
end
end HT
namespace L2
open PySem PySem.Spec PyProof.Rows PySem.W
theorem zvc(h:Vals xs its)(f:Nat->Nat):∀js:List Nat,Vals (js.filterMap λk=>xs[f k]?) (js.filterMap λk=>its[f k]?)
 |[] => .nil
 |k::js=>by
  have a:=zvc h f js;rw[J6,J6];cases e:xs[f k]? with
  |none =>
   have:=Q5 (by rw[<- h.length];exact List.getElem?_eq_none_iff.mp e);rw[this];exact a
  |some x =>
   obtain⟨u,b,r⟩:=h.get e;rw[b];exact .cons r a
section
variable{X:Cx}{e:Expr}{te:TE}{p2 pos:Pos}
end
section
variable{X:Cx}{e:Expr}{W:WE}{p2 p3 p4 pos:Pos}
end
section
variable{X:Cx}{x:Str}{px pos p pT:Pos}
end
def xhc(K:Qd)(n:Nat)(t:TGs):TG:=λv c H Q =>∃a b,v = .ref a/\SqL K H a b/\b.length=n/\t b c H Q
theorem xai{pos:Pos}{k:Nat}(i:X.calm=true)(h:PGs X es t)(j:(Vk es X.env).length=n:=by rfl)(d:(Vk es X.env).findIdx? (·.1)=none:=by rfl):PG X (.Tuple es k pos) (xhc X.K n t):=by
  intro c s l H v u Q I r f;obtain⟨a,m,p,q,w,f⟩:=f;subst p;cases r;obtain⟨g,x,y,C⟩:=I.list q;have z:(Vk es X.env).length=g.toArray.size:=by simp[j,<- w,x.length]
  rw[PyProof.Rows.assign_Tuple];refine Qg (Qcl ?_);unfold unpack;rw[z,d];refine Qg (Qab (PySem.W.kun_itemsOf (I.ok.hd i) y.isList λD A=>?_));have B:=I.kept (t':=s.toks) λb o e=>A b o (Q7 (Qw e)) e;exact h c _ l H m _ Q B (by grind) f
def xdl(n:Nat)(b:WGs):WG:=λd a Q=>match d with |.list l=>l.length=n/\b l a Q|_=>False
theorem zyt{pos:Pos}{f n:Nat}(g:X.calm=true)(h:VGs X es Gs)(i:(Vk es X.env).length=n:=by rfl)(c:(Vk es X.env).findIdx? (·.1)=none:=by rfl):VG X (.Tuple es f pos) (xdl n Gs) :=
 (xai g h i c).imp λv p H R b=>by
  obtain⟨M,env,F,d,Q,I,j,h,k⟩:=b;cases d with
  |list l =>
   obtain⟨a,m,rfl,o,e⟩:=j.lst_inv;exact⟨a,m,rfl,I.fh.seq o,by rw[e.len];exact h.1,M,env,F,l,Q,I,e,h.2,k⟩
  |_=>exact Zc h
end L2
theorem L2.Room.m{j k:Nat}{A:PySem.Around}(r:L2.Room k A)(h:j<=k:=by decide):L2.Room j A:=r.mono h
namespace My
open PySem L2
seal VE VF VA VT VW VS VSs VG VGs VI VO OpV qlb qvc VN VFN VST xgn VEX VSX xgk
abbrev Sa:Str:="other"
abbrev Sb:Str:="bottom"
abbrev Sc:Str:="one"
abbrev Sd:Str:="glass"
abbrev Se:Str:="row"
abbrev Sf:Str:="place"
abbrev Sg:Str:="many"
abbrev Sh:Str:="rows"
abbrev Si:Str:="_law_script"
abbrev Sj:Str:="unknowns"
abbrev Sk:Str:="self"
abbrev Sm:Str:="group"
abbrev Sn:Str:="dulling"
abbrev So:Str:="line"
abbrev Sq:Str:="_law_bottom"
abbrev Sr:Str:="_law_at"
abbrev Ss:Str:="sign"
abbrev Su:Str:="_law_heights"
abbrev Sv:Str:="_law_other"
abbrev Sw:Str:="common"
abbrev Sx:Str:="number"
abbrev Sy:Str:="groups"
abbrev Sz:Str:="_law_rows_here"
abbrev SA:Str:="_law_one"
abbrev SB:Str:="_law_most"
abbrev SC:Str:="signs"
abbrev SD:Str:="thing"
abbrev SE:Str:="pivot"
abbrev SF:Str:="beyond"
abbrev SG:Str:="top"
abbrev SH:Str:="_law_glass_here"
abbrev SI:Str:="stands_for"
abbrev SJ:Str:="check_shares"
abbrev SK:Str:="lowest_table"
abbrev SL:Str:="_law_sizes"
abbrev SM:Str:="sums"
abbrev SN:Str:="_law_dulling"
abbrev SO:Str:="check_alike_stands"
abbrev SQ:Str:="is_whole"
abbrev SR:Str:="table_of_shares"
abbrev SS:Str:="_law_cuts"
abbrev ST:Str:="common_divisor"
abbrev SU:Str:="lines"
abbrev SV:Str:="divisor"
abbrev SW:Str:="corners"
abbrev SX:Str:="joined_number"
abbrev SY:Str:="joined_column"
abbrev SZ:Str:="check_not_too_many"
abbrev S2:Str:="factor"
abbrev S3:Str:="check_stands"
abbrev S4:Str:="steepness"
abbrev S5:Str:="reduced"
abbrev S6:Str:="numbers"
abbrev S7:Str:="check_few_signs"
abbrev S8:Str:="_law_pair_right"
abbrev S9:Str:="_law_ends_right"
abbrev Ua:Str:="decision"
abbrev Ub:Str:="share"
abbrev Uc:Str:="column"
abbrev Ud:Str:="_law_drawn"
abbrev Ue:Str:="chosen"
def top(i:Nat):Stmt:=Qf.main.body.getD i (.Pass ⟨0,0,0,0⟩)
def qpw(s:Stmt)(j:Nat):Stmt:=match s with |.ClassDef _ _ _ body _ _ _ _ _ _ _=>body.getD j (.Pass ⟨0,0,0,0⟩)|s=>s
abbrev qrs:Stmt:=top 7
abbrev qwr:Stmt:=top 8
abbrev qre:Stmt:=top 11
abbrev qip:Stmt:=top 12
abbrev ziq:Stmt:=top 16
abbrev qvl:Stmt:=top 10
abbrev zhn:Stmt:=top 9
abbrev zdp:Stmt:=top 29
abbrev zgk:Stmt:=top 30
abbrev zcx:Stmt:=top 31
abbrev qgp:Stmt:=top 24
abbrev qwk:Stmt:=top 26
abbrev qin:Stmt:=top 25
abbrev qkf:Stmt:=top 28
abbrev qfx:Stmt:=top 27
abbrev qss:Stmt:=top 36
abbrev qhq:Stmt:=top 42
abbrev qhy:Stmt:=top 40
abbrev qht:Stmt:=top 39
abbrev qgm:Stmt:=top 41
abbrev qqt:Stmt:=top 43
abbrev qrg:Stmt:=top 44
abbrev zih:Stmt:=top 38
abbrev qmb:Stmt:=top 48
abbrev qgn:Stmt:=top 47
abbrev zht:Stmt:=top 46
abbrev qxc:Stmt:=top 49
abbrev zgx:Stmt:=top 13
abbrev zhu:Stmt:=top 14
abbrev zhs:Stmt:=top 15
abbrev zha:Stmt:=top 51
abbrev qpf:Stmt:=top 50
abbrev qsa:Stmt:=top 53
abbrev zqj:Stmt:=top 52
abbrev zci:Stmt:=top 32
abbrev qlu:Stmt:=top 57
abbrev qoq:Stmt:=top 56
abbrev zco:Stmt:=top 55
abbrev zbw:Stmt:=top 60
abbrev qop:Stmt:=top 59
abbrev qea:Stmt:=top 61
abbrev qee:Stmt:=top 62
abbrev zbu:Stmt:=top 58
abbrev qlt:Stmt:=top 85
abbrev qjy:Stmt:=top 86
abbrev qof:Stmt:=top 87
abbrev qrx:Stmt:=top 88
abbrev qol:Stmt:=top 89
abbrev qls:Stmt:=top 90
abbrev qkb:Stmt:=top 67
abbrev zcu:Stmt:=top 68
abbrev qme:Stmt:=top 70
abbrev qgr:Stmt:=qpw (top 69) 0
abbrev qmd:Stmt:=qpw (top 69) 1
abbrev qey:Stmt:=qpw (top 69) 4
abbrev qgo:Stmt:=qpw (top 69) 3
abbrev qvo:Stmt:=top 71
abbrev qgu:Stmt:=qpw (top 69) 2
abbrev qma:Stmt:=qpw (top 69) 5
abbrev zdq:Stmt:=top 66
abbrev qfw:Stmt:=top 77
abbrev qvt:Stmt:=top 79
abbrev qil:Stmt:=top 80
abbrev qoo:Stmt:=top 78
abbrev qki:Stmt:=top 81
abbrev qwv:Stmt:=top 83
abbrev qly:Stmt:=top 82
abbrev qqu:Stmt:=top 74
abbrev qmg:Stmt:=top 76
abbrev zhh:Stmt:=top 75
abbrev qfu:Stmt:=top 91
abbrev qov:Stmt:=top 23
abbrev qkp:Stmt:=top 22
abbrev qrv:Stmt:=top 21
abbrev qim:Stmt:=top 35
abbrev zgh:Stmt:=top 33
abbrev zgn:Stmt:=top 34
abbrev qfy:Stmt:=top 92
abbrev qzr:Stmt:=top 93
theorem sc0{N P:List Str}{sc:Scope}(a:sc.kind = .function:=by rfl)(b:sc.isCoroutine=false:=by rfl)(c:sc.isGenerator=false:=by rfl)(d:N.Nodup:=by decide +kernel)(e:N.take P.length=P:=by rfl)(f:∀x∈P,sc.names.lookup x=some .local\/sc.names.lookup x=some .cell:=by decide +kernel)(g:∀y∈sc.names,y.2≠.free:=by decide +kernel):FnScope N P sc:=⟨a,b,c,d,e,f,g⟩
theorem pv{X:Cx}(i:Nat){pos:Pos}(a:X.N[i]?=some x:=by rfl)(b:Vis X.env.scope x:=by first|exact Vn rfl|exact Y3 (Vn rfl)|exact Y3 (Y3 rfl))(hd:Nd0 x:=by decide)(c:Nd1 x:=by decide):PE X (.Name x pos) (zbm i):=qer a b hd c
structure Cs where
 Board:Addr
 tb:Addr
 tb1:Addr
 c0:Addr
 c1:Addr
 bm:Addr
structure Txt(K:Qd)(mg:Str->Option Value)(cs:Cs):Prop where
 Board_:mg "Board" = some (.ref cs.Board)
 Board_c:Cls K cs.Board
 Board_mk:Qgh K cs.Board=true
 Board_kp:V7 K (.ref cs.Board)=true
 Board_n_bottom:NoAttr K cs.Board Sb
 Board_n_lines:NoAttr K cs.Board SU
 Board_n_stands_for:NoAttr K cs.Board SI
 Board_n_unknowns:NoAttr K cs.Board Sj
 tab_h:zlw K cs.c0 cs.tb=true
 bm_h:zxc K cs.bm cs.tb=true
 tab1_h:zlw K cs.c1 cs.tb1=true
 bm1_h:zxc K cs.bm cs.tb1=true
 bm_:mg "__builtins__" = some (.ref cs.bm)
 abs_:mg "abs" = none
 all_:mg "all" = none
 any_:mg "any" = none
 bool_:mg "bool" = none
 enumerate_:mg "enumerate" = none
 int_:mg "int" = none
 isinstance_:mg "isinstance" = none
 len_:mg "len" = none
 list_:mg "list" = none
 max_:mg "max" = none
 min_:mg "min" = none
 range_:mg "range" = none
 sorted_:mg "sorted" = none
 sum_:mg "sum" = none
 tuple_:mg "tuple" = none
 zip_:mg "zip" = none
 FEWEST_STANDS_:∃t,mg "FEWEST_STANDS" = some (.int 2 t)
 MOST_COMPARED_:∃t,mg "MOST_COMPARED" = some (.int 4 t)
 MOST_ROWS_:∃t,mg "MOST_ROWS" = some (.int 24 t)
 MOST_SIGNS_:∃t,mg "MOST_SIGNS" = some (.int 12 t)
 MOST_STANDS_:∃t,mg "MOST_STANDS" = some (.int 4 t)
 MOST_UNKNOWNS_:∃t,mg "MOST_UNKNOWNS" = some (.int 20 t)
section
variable{P:Zw}{w:World}{K:Qd}{mg:Str->Option Value}{base:Heap}{cs:Cs}
def zyi:Qj->Bool
 |.int _=>true
 |_=>false
def qby:DC
 |[d],q=>q (.bool (zyi d))
 |_,_=>False
theorem zam:FnScope [SD] [SD] (defScope qrs):=sc0
theorem zag(F:Def K mg SQ qrs [SD])(T:Txt K mg cs):Ok P w K mg base SQ 1 [SD] (PSp K qby):=by
  refine F.vok zam (λb q h=>by unfold qby at h;split at h;all_goals first|rfl|exact h.elim) λf c A a s H E e b q h=>?_
  match b,h with
  |[d],h =>
  refine⟨_,(qh (qw (qih (zfu T.isinstance_ T.int_ L2.boot_int (qc 0)) (qhh (zzx (zfu T.isinstance_ T.bool_ L2.boot_bool (qc 0))))))),?_⟩;cases d <;> exact h
theorem zcd{a b:Int}(i:0<=a)(j:0<=b)(c:b≠0)(h:Qjg a.toNat b.toNat=g):
 0<=a%b/\a%b<b/\Qjg b.toNat (a%b).toNat=g:=by
  have d:0<b:=by lia
  have e:=Qgr a c;have f:=Qem a d;refine⟨e,f,?_⟩;have k:(a%b).toNat=a.toNat%b.toNat:=by
   grind
  grind[Nat.gcd_comm,Nat.gcd_rec]
theorem zgt{b:Int}(d:0<=a)(c:b=0)(h:Qjg a.toNat b.toNat=g):a=(g:Int):=by
 subst c;grind
theorem qwa(a b:Int):Qjg (if a<0 then -a else a).toNat (if b<0 then -b else b).toNat=Yy a b:=by
 have e:∀x:Int,(if x<0 then -x else x).toNat=x.natAbs:=λx=>by grind
 rw[e,e];rfl
structure Shr(p q:Int):Prop where
 pos:1<=q
 gcd:Yy p q=1
def cm(t b:Int):Int:=if b<0 then -(Yy t b:Int)else(Yy t b:Int)
def shT(t b:Int):Int:=t.fdiv (cm t b)
def shB(t b:Int):Int:=b.fdiv (cm t b)
theorem zhj(a:b≠0):0<Yy t b:=Qds t a
theorem zxl(a:b≠0):cm t b≠0:=by
 have:=zhj (t:=t) a;unfold cm;split <;> lia
theorem znz(t b:Int):cm t b∣t:=by
 have h:(Yy t b:Int)∣t:=Qkj ..;unfold cm;split
 ·exact Int.neg_dvd.mpr h
 ·exact h
theorem zoa(t b:Int):cm t b∣b:=by
 have h:(Yy t b:Int)∣b:=Qjh ..;unfold cm;split
 ·exact Int.neg_dvd.mpr h
 ·exact h
theorem qpg{c t:Int}(h:c∣t):c*(t.fdiv c)=t:=Int.mul_fdiv_cancel' h
theorem zux(t b:Int):cm t b*shT t b=t:=qpg (znz t b)
theorem qjq(t b:Int):cm t b*shB t b=b:=qpg (zoa t b)
theorem qwi(t b:Int):(cm t b).natAbs=Yy t b:=by unfold cm;split <;> lia
theorem qcc(c:b≠0):Shr (shT t b) (shB t b)/\shT t b*b=t*shB t b:=by
 have d:=zux t b;have f:=qjq t b;have k:=zxl (t:=t) c;have g:=zhj (t:=t) c;refine⟨⟨?_,?_⟩,?_⟩
 ·by_cases l:b<0
  ·have a:cm t b<0:=by unfold cm;grind
   have:0<shB t b:=by
    rcases Zk 0 (shB t b)with h|h
    ·exact h
    ·have:=Qbu (Jh a) h;lia
   lia
  ·have a:0<cm t b:=by unfold cm;grind
   have i:0<b:=by lia
   have:0<shB t b:=by
    rcases Zk 0 (shB t b)with h|h
    ·exact h
    ·have:=Qbv (Jh a) h;lia
   lia
 ·have e:Yy (cm t b*shT t b) (cm t b*shB t b)=(cm t b).natAbs*Yy (shT t b) (shB t b):=Qkk ..;rw[d,f,qwi]at e;have j:Yy t b*1=Yy t b*Yy (shT t b) (shB t b):=by lia
  exact(Qbf g j).symm
 grind
theorem qyc(h:Yy m k=1)(e:k∣m*n):k∣n:=by
 have a:k.natAbs∣m.natAbs*n.natAbs:=by rw[<- Qev];exact Vc.mpr e
 have c:Nat.Coprime k.natAbs m.natAbs:=by
  show Qjg k.natAbs m.natAbs=1;rw[Nat.gcd_comm];exact h
 exact Vc.mp (c.dvd_of_dvd_mul_left a)
theorem ztw(h:Shr p q)(h':Shr p' q')(e:p*q'=p'*q):p=p'/\q=q':=by
 have a:=qyc h.gcd (e▸Qdj p' q);have b:=qyc h'.gcd (e▸Qdj p q');have c:=Int.dvd_antisymm (by have:=h.pos;lia) (by have:=h'.pos;lia) a b;subst c;exact⟨Zs (by have:=h.pos;lia) e,rfl⟩
def qcw:DC
 |[.int a,.int b],q=>q (.int (Yy a b))
 |_,_=>False
theorem zqv(x:Int):0<=(if x<0 then -x else x):=by split <;> lia
theorem qec:FnScope [Sc,Sa,"rest"] [Sc,Sa] (defScope qwr):=sc0
theorem zen(F:Def K mg SV qwr [Sc,Sa])(T:Txt K mg cs):Ok P w K mg base SV 1 [Sc,Sa] (PSp K qcw):=by
  refine F.vok qec (λg q h=>by unfold qcw at h;split at h;all_goals first|rfl|exact h.elim) λf n A c s H E o g q h=>?_
  match g,h with
  |[.int a,.int b],h =>
  refine⟨_,(qg (qz (i:=0) qec.nd (qA zwx T.abs_ L2.boot_abs (qd (qc 0) qe)))
   (qg (qz (i:=1) qec.nd (qA zwx T.abs_ L2.boot_abs (qd (qc 1) qe)))
   (qg (zcn (qN (zme o.units) (qc 1) qf) (qg (qz (i:=2) qec.nd (qx qkz (qc 0) (qc 1)))
   (qg (qz (i:=0) qec.nd (qc 1))
   (qh (qz (i:=1) qec.nd (qc 2))))))
   (qh (qw (qc 0)))))),?_⟩
  refine⟨λm e =>∃x y r,e=[.val (.int x),.val (.int y),r]/\0<=x/\0<=y/\Qjg x.toNat y.toNat=Yy a b/\m=y.toNat,⟨_,_,_,_,rfl,zqv a,zqv b,qwa a b,rfl⟩,?_⟩;rintro m e ⟨x,y,r,rfl,j,k,l,rfl⟩;refine⟨rfl,rfl,qzx (λd=>?_) (λhe=>?_)⟩
  ·obtain⟨p,u,t⟩:=zcd j k d l;exact⟨by lia,(x%y).toNat,by lia,y,x%y,_,rfl,k,p,t,rfl⟩
  ·subst he;have:=zgt j rfl l;rw[this];exact h
open Builtin.Int (intBits)
theorem zso(a:b≠0)(h:intBits b<=m):intBits (cm t b)<=m:=by
 refine Ys ?_ h;rw[qwi];exact Qau (by lia) (Nat.gcd_dvd_right t.natAbs b.natAbs)
theorem qdr(h:intBits t<=m):intBits (shT t b)<=m:=intBits_fdiv_le h
theorem qjb(h:intBits b<=m):intBits (shB t b)<=m:=intBits_fdiv_le h
theorem qcv(c:intBits a<=4000)(d:intBits b<=4000):IntMulOk a b :=.of_le c d (by decide)
theorem qp(h:intBits x<=m)(e:m<=n):intBits x<=n:=Zq h e
theorem qbr(a : -(2^64)<x)(b:x<2^64):intBits x<=64:=intBits_le_64 a b
def dSh(p q:Int):Qj :=.tuple [.int p,.int q]
def qoy(ds:List Qj)(k:Qj->Prop):Prop :=∃p q,ds=[dSh p q]/\Shr p q/\k (.bool true)
theorem zbd:FnScope [SD] [SD] (defScope qre):=sc0
theorem zaf(F:Def K mg "is_share" qre [SD])(T:Txt K mg cs)(a:Ok P w K mg base SQ 1 [SD] (PSp K qby))(b:Ok P w K mg base SV 1 [Sc,Sa] (PSp K qcw)):Ok P w K mg base "is_share" 2 [SD] (PSp K qoy):=by
  refine F.vok zbd (by rintro g q ⟨_,_,h,_⟩;rw[h];rfl) λf i A d s H E c g k h=>?_;obtain⟨p,q,rfl,e,h⟩:=h;refine⟨_,(qg (qar (VW.pt (qjn (qbq (qbj (zfu T.isinstance_ T.tuple_ L2.boot_tuple (qc 0)))) (qgi (qN (zme c.units) (qA qdh T.len_ L2.boot_len (qd (qc 0) qe)) qf)))) (qh (qw qgw)) qE)
   (qg (qar (VW.pt (qjn (qbq (qbj (qt a.c c.m (qd (qr (qc 0) qf) qe)))) (qgi (qbq (qbj (qt a.c c.m (qd (qr (qc 0) qf) qe))))))) (qh (qw qgw)) qE)
   (qh (qw (qih (qce xas (qr (qc 0) qf) qf) (qhh (qce (qni c.units) (qt b.c c.m (qd (qr (qc 0) qf) (qd (qr (qc 0) qf) qe))) qf))))))),?_⟩
  have j:=e.pos;refine⟨rfl,rfl,_,rfl,_,rfl,_,rfl,?_⟩;refine qjv (λ_=>⟨_,rfl,_,rfl,rfl,rfl,?_⟩) (λz=>(z j).elim);rw[e.gcd];exact h
def qbl(ds:List Qj)(k:Qj->Prop):Prop :=∃p q r s,ds=[dSh p q,dSh r s]/\(Shr p q/\Shr r s)/\k .none
theorem qpi:FnScope [Sc,Sa] [Sc,Sa] (defScope qip):=sc0
theorem qpq(F:Def K mg SJ qip [Sc,Sa])(T:Txt K mg cs)(a:Ok P w K mg base "is_share" 2 [SD] (PSp K qoy)):Ok P w K mg base SJ 3 [Sc,Sa] (PSp K qbl):=by
  refine F.vok qpi (by rintro e q ⟨_,_,_,_,h,_⟩;rw[h];rfl) λf g A b s H E d e k h=>?_;obtain⟨p,q,r,s,rfl,⟨i,c⟩,h⟩:=h;refine⟨_,(qh (qar (VW.pt (qjn (qbq (qbj (qt a.c d.m (qd (qc 0) qe)))) (qgi (qbq (qbj (qt a.c d.m (qd (qc 1) qe))))))) qbw qE)),?_⟩;exact⟨p,q,rfl,i,r,s,rfl,c,h⟩
structure ShD(p q:Int):Prop where
 s:Shr p q
 b1:intBits p<=1000
 b2:intBits q<=1000
theorem ShD.ok{p q r s:Int}(h:ShD p q)(k:ShD r s):IntMulOk p s:=qcv (qp h.b1 (by decide)) (qp k.b2 (by decide))
def qtx(ds:List Qj)(k:Qj->Prop):Prop :=∃p q r s,ds=[dSh p q,dSh r s]/\(ShD p q/\ShD r s)/\k (.bool (decide (p*s<r*q)))
theorem zpy:FnScope [Sc,Sa] [Sc,Sa] (defScope ziq):=sc0
theorem zom(F:Def K mg "below" ziq [Sc,Sa])(T:Txt K mg cs)(a:Ok P w K mg base SJ 3 [Sc,Sa] (PSp K qbl)):Ok P w K mg base "below" 4 [Sc,Sa] (PSp K qtx):=by
  refine F.vok zpy (by rintro e q ⟨_,_,_,_,h,_⟩;rw[h];rfl) λf g A c s H E i e k h=>?_;obtain⟨p,q,r,s,rfl,⟨d,b⟩,h⟩:=h;refine⟨_,(qg (qdv (qt a.c i.m (qd (qc 0) (qd (qc 1) qe))))
   (qh (qw (qce zes (qx qR (qr (qc 0) qf) (qr (qc 1) qf)) (qx qR (qr (qc 1) qf) (qr (qc 0) qf)))))),?_⟩
  exact⟨p,q,r,s,rfl,⟨d.s,b.s⟩,_,rfl,_,rfl,d.ok b,_,rfl,_,rfl,b.ok d,h⟩
def qeb:DC
 |[.int t,.int b],q=>(b≠0/\intBits b<=9000)/\q (dSh (shT t b) (shB t b))
 |_,_=>False
theorem qlh:FnScope [SG,Sb,Sw] [SG,Sb] (defScope qvl):=sc0
theorem zfe(F:Def K mg S5 qvl [SG,Sb])(T:Txt K mg cs)(a:Ok P w K mg base SV 1 [Sc,Sa] (PSp K qcw)):Ok P w K mg base S5 2 [SG,Sb] (PSp K qeb):=by
  refine F.vok qlh (λj q h=>by unfold qeb at h;split at h;all_goals first|rfl|exact h.elim) λf m A d s H E n j q h=>?_
  match j,h with
  |[.int t,.int b],⟨⟨k,o⟩,h⟩ =>
  refine⟨_,(qg (qz (i:=2) qlh.nd (qt a.c n.m (qd (qc 0) (qd (qc 1) qe))))
   (qqr (qar (qN zes (qc 1) qf) (qh (qz (i:=2) qlh.nd (qes (qc 2)))) qE)
   (qh (qw (qck (qd (qx zqk (qc 0) (qc 2)) (qd (qx zqk (qc 1) (qc 2)) qe))))))),?_⟩
  have l:=zxl (t:=t) k;have c:=zso (t:=t) k o;refine⟨λe=>e=[.val (.int t),.val (.int b),.val (.int (cm t b))],?_,?_⟩
  ·refine qjv (λg=>?_) (λg=>?_)
   ·show _=_;unfold cm;rw[if_pos g];rfl
   ·show _=_;unfold cm;rw[if_neg g];rfl
  ·rintro e rfl;exact⟨⟨l,c⟩,⟨l,c⟩,szl,h⟩
def qfr:DC
 |[.int t,.int b],q=>(b≠0/\intBits b<=9000)/\q (dSh (shT t b) (shB t b))
 |_,_=>False
theorem zmx:FnScope [SG,Sb] [SG,Sb] (defScope zhn):=sc0
theorem zpd(F:Def K mg Ub zhn [SG,Sb])(T:Txt K mg cs)(a:Ok P w K mg base SQ 1 [SD] (PSp K qby))(c:Ok P w K mg base S5 2 [SG,Sb] (PSp K qeb)):Ok P w K mg base Ub 3 [SG,Sb] (PSp K qfr):=by
  refine F.vok zmx (λg q h=>by unfold qfr at h;split at h;all_goals first|rfl|exact h.elim) λf i A e s H E d g q h=>?_
  match g,h with
  |[.int t,.int b],h =>
  refine⟨_,(qg (qar (VW.pt (qjn (qbq (qbj (qt a.c d.m (qd (qc 0) qe)))) (qjn (qbq (qbj (qt a.c d.m (qd (qc 1) qe)))) (qgi (qN (qni d.units) (qc 1) qf))))) qbw qE)
   (qh (qw (qt c.c d.m (qd (qc 0) (qd (qc 1) qe)))))),?_⟩
  exact⟨rfl,rfl,qif (λz=>(h.1.1 z).elim) (λ_=>h)⟩
def Bnd:LI->LI->Prop
 |[],a=>a=[]
 |z::b,a =>∃x r,a=x::r/\0<=x/\x<z/\Bnd b r
theorem Bnd.snoc:∀{b xs:LI}{z x:Int},Bnd b xs->0<=x->x<z->Bnd (b++[z]) (xs++[x])
 |[],_,z,x,h,c,d=>by
  have e:=h;rw[e];exact⟨x,[],rfl,c,d,rfl⟩
 |y::b,_,z,x,h,c,d=>by
  obtain⟨a,r,rfl,p,q,h⟩:=h;exact⟨a,r++[x],rfl,p,q,h.snoc c d⟩
theorem Bnd.len:∀{b xs:LI},Bnd b xs->xs.length=b.length
 |[],_,h=>by
  have e:=h;rw[e]
 |y::b,_,h=>by
  obtain⟨a,r,rfl,p,q,h⟩:=h;simp[h.len]
structure DrawnPre(ns:LI)(at':Int)(zs:LI):Prop where
 at0:0<=at'
 zs0:∀z∈zs,0<z/\intBits z<=9000
 len:zs.length<=1000
 lns:ns.length<=63
theorem qfh{a:LI}(h:a[i]?=some z):a.take (i+1)=a.take i++[z]:=by
 rw[Z0,h];rfl
theorem qan{a:LI}{i:Nat}(h:(a.map Q8)[i]?=some x):∃z,x = .int z/\a[i]?=some z/\z∈a:=by
 grind
theorem qnq(xs:LI)(x:Int):xs.map Q8++[Q8 x]=(xs++[x]).map Q8:=by simp
theorem zru{a xs:LI}(h:Bnd (a.take i) xs)(hz:a.length<=1000):(xs.map Q8).length<Q4:=by
 rw[Qe,h.len];have:(a.take i).length<=1000:=Zq (Qhp _ _) hz;exact qm this
structure Tab(b:Int)(R:LL)(n:Nat):Prop where
 pos:1<=b
 len:∀r∈R,r.length=n
 nn:∀r∈R,∀x∈r,0<=x
 sum:∀r∈R,r.sum=b
def qci(r:LI):Qj :=.list (r.map .int)
def qfv(r:LI):Qj :=.tuple (r.map .int)
theorem qdc{a:Type}{l:List a}{i:Nat}{x:a}(h:l[i]?=some x):x∈l:=Qh h
theorem qcg(h:n<=1000):n<=Q4:=Yq (qm h)
theorem qmq(y:α)(l:List α):atI (y::l) 0=some y:=qax (j:=0) rfl
theorem zvk{x:α}(a:0<=i)(h:l[i.toNat]?=some x):atI l i=some x:=by
 have:=qax h
 rwa [Qbm a]at this
theorem qqg{A B:Prop}(a:c=true->A)(b:c=false->B):if c=true then A else B:=by
 grind
def qgx(R:LL):Qj :=.list (R.map qci)
theorem zqq:∀{r:LI},(∀n∈r,0<=n)->0<=r.sum
 |[],_=>by simp
 |n::r,h=>by
  rw[Q3];have a:=h n (by simp);have b:=zqq λm c=>h m (Qk _ c);lia
theorem qfp:∀{r:LI}{x:Int},(∀n∈r,0<=n)->x∈r->x<=r.sum
 |n::r,x,h,c=>by
  rw[Q3];have a:=h n (by simp);have b:=zqq λm d=>h m (Qk _ d);rcases Zd.mp c with rfl|c
  ·lia
  ·have:=qfp (λm d=>h m (Qk _ d)) c;lia
theorem Tab.le(h:Tab b R n)(a:r∈R)(c:x∈r):0<=x/\x<=b :=
 ⟨h.nn r a x c,h.sum r a▸qfp (h.nn r a) c⟩
theorem xat{A B:Prop}(h:b=true)(k:B):if(!b)=true then A else B:=by rw[h];exact zch k
theorem zxs{A B:Prop}(h:b=true)(k:A):if b=true then A else B:=by rw[h];exact qyb k
theorem zmg{A B:Prop}(h:b=false)(k:B):if b=true then A else B:=by rw[h];exact zch k
def qaq(g:Nat)(r:LI):Nat:=r.foldl (λ(g:Nat) (n:Int)=>Yy g n) g
def qaa(R:LL):Nat:=R.foldl qaq 0
theorem qhl:∀(r:LI)(g:Nat),qaq g r∣g
 |[],g=>Nat.dvd_refl _
 |n::r,g=>Qlo (qhl r (Yy g n)) (by have:=Int.gcd_dvd_natAbs_left (g:Int) n;simpa using this)
theorem qek:∀(r:LI)(g:Nat),∀n∈r,(qaq g r:Int)∣n
 |m::r,g,n,h=>by
  rcases Zd.mp h with rfl|h
  ·exact Vu (J8.mpr (qhl r (Yy g n))) (Qjh ..)
  ·exact qek r (Yy g m) n h
theorem qke:∀(R:LL)(g:Nat),R.foldl qaq g∣g
 |[],g=>Nat.dvd_refl _
 |r::R,g=>Qlo (qke R (qaq g r)) (qhl r g)
theorem qwq:∀(R:LL)(g:Nat),∀r∈R,∀n∈r,((R.foldl qaq g:Nat):Int)∣n
 |s::R,g,r,h,n,a=>by
  rcases Zd.mp h with rfl|h
  ·exact Vu (J8.mpr (qke R (qaq g r))) (qek r g n a)
  ·exact qwq R (qaq g s) r h n a
theorem qhf(h:r∈R)(a:n∈r):(qaa R:Int)∣n:=qwq R 0 r h n a
theorem qhd(k:Nat):∀(r:LI)(g:Nat),qaq (k*g) (r.map λn=>(k:Int)*n)=k*qaq g r
 |[],g=>rfl
 |n::r,g=>by
  have e:Yy ((k*g:Nat):Int) ((k:Int)*n)=k*Yy g n:=by
   rw[Qan,Qkk];rfl
  show qaq (Yy ((k*g:Nat):Int) ((k:Int)*n)) (r.map λn=>(k:Int)*n)=_;rw[e];exact qhd k r (Yy g n)
theorem qvw(k:Nat):∀(R:LL)(g:Nat),(R.map λr=>r.map λn=>(k:Int)*n).foldl qaq (k*g)=k*R.foldl qaq g
 |[],g=>rfl
 |r::R,g=>by
  show(R.map λr=>r.map λn=>(k:Int)*n).foldl qaq (qaq (k*g) (r.map λn=>(k:Int)*n))=_;rw[qhd];exact qvw k R (qaq g r)
theorem zmo(k:Nat)(R:LL):qaa (R.map λr=>r.map λn=>(k:Int)*n)=k*qaa R:=qvw k R 0
def qbt(R:LL)(g:Int):LL:=R.map λr=>r.map λn=>n/g
theorem qdb{a:Type}{f:a->a}:∀{l:List a},(∀x∈l,f x=x)->l.map f=l
 |[],_=>rfl
 |x::l,h=>by rw[Qq,h x (by simp),qdb λy b=>h y (Qk _ b)]
theorem zoe:(qbt R (qaa R)).map (λr=>r.map λn=>(qaa R:Int)*n)=R:=by
 unfold qbt;rw[Zj];refine qdb λr a=>?_;show(r.map λn=>n/(qaa R:Int)).map (λn=>(qaa R:Int)*n)=r;rw[Zj];grind[qdb,Vi,qhf]
theorem znn(h:0<qaa R):qaa (qbt R (qaa R))=1:=by
 have e:=zmo (qaa R) (qbt R (qaa R));rw[zoe]at e;have a:qaa R*1=qaa R*qaa (qbt R (qaa R)):=by lia
 exact(Qbf h a).symm
theorem zcc:∀{r:LI},(∀n∈r,n=0)->r.sum=0
 |[],_=>rfl
 |n::r,h=>by rw[Q3,h n (by simp),zcc λm a=>h m (Qk _ a)];rfl
theorem Tab.gpos(h:Tab b R n)(a:R≠[]):0<qaa R:=by
 rcases Qaj (qaa R)with e|e
 ·exfalso;obtain⟨r,c,rfl⟩:=Q1 a;have d:=h.sum r (by simp);have f:∀m∈r,m=0:=λm g=>by
   have:=qhf (R:=r::c) (by simp) g;rw[e]at this;grind
  rw[zcc f]at d;have:=h.pos;lia
 ·exact e
theorem zhi:∀{r:LI},(∀n∈r,g∣n)->g∣r.sum
 |[],_=>by simp
 |n::r,h=>by rw[Q3];exact Int.dvd_add (h n (by simp)) (zhi λm a=>h m (Qk _ a))
theorem Tab.gdvd(h:Tab b R n)(a:R≠[]):(qaa R:Int)∣b:=by
 obtain⟨r,d,rfl⟩:=Q1 a;rw[<- h.sum r (by simp)];exact zhi λm c=>qhf (by simp) c
theorem zit:∀{r:LI},(∀n∈r,g∣n)->(r.map λn=>n/g).sum=r.sum/g
 |[],_=>by simp
 |n::r,h=>by
  rw[Qq,Q3,Q3,zit λm a=>h m (Qk _ a)];exact(Int.add_ediv_of_dvd_left (h n (by simp))).symm
theorem Tab.low(h:Tab b R n)(d:R≠[]):Tab (b/qaa R) (qbt R (qaa R)) n:=by
 have k:=h.gpos d;have e:=h.gdvd d;have l:=h.pos;have f:=Qlp (by lia) e;refine⟨?_,?_,?_,?_⟩
 ·exact(Int.le_ediv_iff_mul_le (by lia)).mpr (by lia)
 ·intro r c;obtain⟨s,a,rfl⟩:=Ql.mp c;rw[Qe];exact h.len s a
 ·intro r c x g;obtain⟨s,a,rfl⟩:=Ql.mp c;obtain⟨y,i,rfl⟩:=Ql.mp g;exact Qgs (h.nn s a y i) (by lia)
 ·intro r c;obtain⟨s,a,rfl⟩:=Ql.mp c;rw[zit λm j=>qhf a j,h.sum s a]
theorem qnz(g:Nat)(r:LI)(n:Int):qaq g (r++[n])=Yy (qaq g r) n:=by unfold qaq;rw[Qji];rfl
theorem qsr(R:LL)(r:LI):qaa (R++[r])=qaq (qaa R) r:=by unfold qaa;rw[Qji];rfl
def qww:Qj->Bool
 |.int n=>decide (0<=n)
 |_=>false
def zfn:Qj->Int
 |.int n=>n
 |_=>0
def qal(d:Qj)(b:Int):Bool:=match qbf d with
 |none=>false
 |some l=>(decide (1<=l.length)&&decide (l.length<=12))&&(l.all qww&&decide ((l.map zfn).sum=b))
def qnd(d:Qj):Nat:=((qbf d).getD []).length
def qbc(bd a:Qj)(lo c:Int):Bool:=match bd,qbf a with
 |.int b,some l=>decide (1<=b)&&((decide (lo<=l.length)&&decide ((l.length:Int)<=c))&&(l.all (qal · b)&&l.all λr=>qnd r==qnd ((l[0]?).getD .none)))
 |_,_=>false
def RowsD(d:Qj)(R:LL):Prop :=∃l,qbf d=some l/\l.map (λx=>(qbf x).getD [])=R.map (λr=>r.map Q8) /\ ∀x∈l,(qbf x).isSome=true
theorem RowsD.len(h:RowsD d R)(e:qbf d=some l):l.length=R.length:=by
 obtain⟨m,a,b,_⟩:=h;rw[e]at a;cases a;have:=congrArg Qcu b;grind
theorem RowsD.get{i:Nat}(h:RowsD d R)(e:qbf d=some l)(b:l[i]?=some x):∃r,R[i]?=some r/\qbf x=some (r.map .int):=by
 obtain⟨m,a,c,f⟩:=h;rw[e]at a;cases a;have g:(l.map λx=>(qbf x).getD [])[i]?=some ((qbf x).getD []):=by grind
 rw[c,Qa]at g;obtain⟨y,j⟩:=Jt.mp (f x (Qh b));grind
theorem RowsD.of{f:List Qj->Qj}(a:∀l,qbf (f l)=some l)(e:qbf d=some (R.map λr=>f (r.map .int))):RowsD d R:=by
 refine⟨_,e,?_,?_⟩
 ·grind[Zj,Q9]
 grind
theorem qit:∀{l:List Qj},l.all qww=true->l=(l.map zfn).map Q8 /\ ∀n∈l.map zfn,0<=n
 |[],_=>by simp
 |d::l,h=>by
  rw[Qfl,Yb]at h;obtain⟨e,g⟩:=qit h.2;cases d with
  |int n =>
   have b:=of_decide_eq_true h.1;refine⟨?_,?_⟩
   ·rw[Qq,Qq,<- e];rfl
   ·intro m a;rcases Zd.mp a with rfl|a
    ·exact b
    ·exact g m a
  |_=>exact absurd h.1 (by simp[qww])
theorem zav{ns:LI}(h:∀n∈ns,0<=n):(ns.map Q8).all qww=true/\(ns.map Q8).map zfn=ns:=by
 refine⟨?_,?_⟩
 ·rw[Yc];intro x a;obtain⟨n,b,rfl⟩:=Ql.mp a;exact decide_eq_true (h n b)
 ·rw[Zj];exact qdb λn _=>rfl
theorem qlz:qal d b=true↔∃r:LI,qbf d=some (r.map .int)/\1<=r.length/\r.length<=12/\(∀n∈r,0<=n)/\r.sum=b:=by
 unfold qal;cases h:qbf d with
 |none=>simp
 |some l =>
  simp only[Yb,decide_eq_true_eq];grind[qit,zav]
theorem quq{b lo j:Int}(h:RowsD d R)(f:Tab b R n)(o:1<=n)(p:n<=12)(q:lo<=R.length)(s:R.length<=j):qbc (.int b) d lo j=true:=by
 obtain⟨l,e,_⟩:=id h;have t:=h.len e;have a:∀x∈l,∃r∈R,qbf x=some (r.map .int):=λx g=>by
  obtain⟨i,j,rfl⟩:=Qbn g;obtain⟨r,c,k⟩:=h.get e (Qc j);grind
 have m:∀x∈l,qnd x=n:=λx g=>by
  obtain⟨r,c,k⟩:=a x g;unfold qnd;rw[k];simpa using f.len r c
 unfold qbc;rw[e];simp only[Yb,decide_eq_true_eq,Yc,beq_iff_eq];refine⟨f.pos,⟨by lia,by lia⟩,λx g=>?_,λx g=>?_⟩
 ·obtain⟨r,c,k⟩:=a x g;exact qlz.mpr ⟨r,k,by rw[f.len r c];exact o,by rw[f.len r c];exact p,f.nn r c,f.sum r c⟩
 grind
def qU(b:Int)(R:LL):Qj :=.tuple [.int b,.tuple (R.map qfv)]
theorem qjp(R:LL):RowsD (.tuple (R.map qfv)) R:=RowsD.of (f :=.tuple) (λ_=>rfl) rfl
theorem qha(R:LL):RowsD (.list (R.map qci)) R:=RowsD.of (f :=.list) (λ_=>rfl) rfl
def qjl(ds:List Qj)(q:Qj->Prop):Prop :=∃b R,ds=[qU b R]/\q (.int (R.length:Nat))
theorem zku:FnScope [Sd] [Sd] (defScope zdp):=sc0
theorem zkw(F:Def K mg "stands" zdp [Sd])(T:Txt K mg cs):Ok P w K mg base "stands" 1 [Sd] (PSp K qjl):=by
  refine F.vok zku (by rintro c q ⟨_,_,h,_⟩;rw[h];rfl) λf d A a s H E g c q h=>?_;obtain⟨b,R,rfl,h⟩:=h;refine⟨_,(qh (qw (qA qdh T.len_ L2.boot_len (qd (qr (qc 0) qf) qe)))),?_⟩;refine⟨_,rfl,?_⟩;have e:(R.map qfv).length=R.length:=by simp
  show q (.int ((R.map qfv).length:Nat));grind
def qba(ds:List Qj)(q:Qj->Prop):Prop :=∃b r R,ds=[qU b (r::R)]/\q (.int (r.length:Nat))
theorem zop:FnScope [Sd] [Sd] (defScope zgk):=sc0
theorem zmt(F:Def K mg SC zgk [Sd])(T:Txt K mg cs):Ok P w K mg base SC 1 [Sd] (PSp K qba):=by
  refine F.vok zop (by rintro c q ⟨_,_,_,h,_⟩;rw[h];rfl) λf d A a s H E g c q h=>?_;obtain⟨b,r,R,rfl,h⟩:=h;refine⟨_,(qh (qw (qA qdh T.len_ L2.boot_len (qd (qr (qr (qc 0) qf) qf) qe)))),?_⟩;refine⟨_,rfl,_,qmq _ _,?_⟩;have e:(r.map Q8).length=r.length:=by simp
  show q (.int ((r.map Q8).length:Nat));grind
def qoc(a b:LI):Int:=(J4 (· * ·) a b).sum
def qO(D:LL)(k:Nat):LI:=D.map λr=>(r[k]?).getD 0
def qcd(R D:LL)(n:Nat):LL:=R.map λr=>(Qm n).map λk=>qoc r (qO D k)
theorem qoj{a:Type}(f g:a->Int):∀l:List a,(l.map λk=>f k+g k).sum=(l.map f).sum+(l.map g).sum
 |[]=>by simp
 |x::l=>by
  simp only[Qq,Q3,qoj f g l];lia
theorem qiw{a:Type}(c:Int)(f:a->Int):∀l:List a,(l.map λk=>c*f k).sum=c*(l.map f).sum
 |[]=>by simp
 |x::l=>by
  simp only[Qq,Q3,qiw c f l,Qkw]
theorem qlv{a:Type}:∀l:List a,(l.map λ_=>(0:Int)).sum=0
 |[]=>rfl
 |x::l=>by simp only[Qq,Q3,qlv l];rfl
theorem zlo:∀(r:LI),(Qm r.length).map (λk=>(r[k]?).getD 0)=r:=by
 intro r;apply Zt;grind
theorem zbk(x:Int)(r d:LI)(y:Int):qoc (x::r) (y::d)=x*y+qoc r d:=by simp[qoc]
theorem zbj:∀{r:LI}{D:LL},D.length=r.length->(∀d∈D,d.length=n/\d.sum=c)->((Qm n).map λk=>qoc r (qO D k)).sum=r.sum*c
 |[],[],_,_=>by
  simp only[Qjp,Zr];exact qlv _
 |x::r,d::D,a,h=>by
  have e:((Qm n).map λk=>qoc (x::r) (qO (d::D) k))=(Qm n).map λk=>x*((d[k]?).getD 0)+qoc r (qO D k):=by
   refine Q9 λk _=>?_;exact zbk x r (qO D k) _
  rw[e,qoj,qiw,zbj (by grind) λf b=>h f (Qk _ b)];obtain⟨g,i⟩:=h d (by simp);rw[<- g,zlo d,i,Q3,Jc]
 |[],_::_,a,_=>by simp at a
 |_::_,[],a,_=>by simp at a
theorem zrj:∀{a b:LI},(∀x∈a,0<=x)->(∀y∈b,0<=y)->0<=qoc a b
 |[],_,_,_=>by simp[qoc]
 |_::_,[],_,_=>by simp[qoc]
 |x::a,y::b,d,e=>by
  rw[zbk];have p:=Q2 (d x (by simp)) (e y (by simp));have q:=zrj (λz c=>d z (Qk _ c)) (λz c=>e z (Qk _ c));lia
theorem qsk(h:x∈qO D k):x=0 \/ ∃d∈D,x∈d:=by
 obtain⟨d,a,rfl⟩:=Ql.mp h;grind
theorem Tab.prod(h:Tab b R m)(k:Tab c D n)(hl:D.length=m):Tab (b*c) (qcd R D n) n where
 pos:=by have:=Za (show 0<b by have:=h.pos;lia) (show 0<c by have:=k.pos;lia);lia
 len:=λr hr=>by
  obtain⟨s,_,rfl⟩:=Ql.mp hr;simp
 nn:=λr hr x hx=>by
  obtain⟨s,hs,rfl⟩:=Ql.mp hr;obtain⟨i,_,rfl⟩:=Ql.mp hx;refine zrj (h.nn s hs) λy hy=>?_;rcases qsk hy with rfl|⟨d,hd,hy⟩
  ·grind
  ·exact k.nn d hd y hy
 sum:=λr hr=>by
  obtain⟨s,hs,rfl⟩:=Ql.mp hr;rw[zbj (by rw[hl,h.len s hs]) λd hd=>⟨k.len d hd,k.sum d hd⟩,h.sum s hs]
theorem zpz(R D:LL)(n:Nat):(qcd R D n).length=R.length:=by simp[qcd]
theorem qrj(a:0<=x)(h:x<=b)(hz:intBits b<=m):intBits x<=m:=Ys (by lia) hz
theorem Tab.bits(h:Tab b R n)(hz:intBits b<=m)(a:r∈R)(c:x∈r):intBits x<=m:=qrj (h.le a c).1 (h.le a c).2 hz
theorem zus{i:Nat}{x y:Int}(c:a[i]?=some x)(d:b[i]?=some y):(J4 (· * ·) a b)[i]?=some (x*y):=by
 rw[Ji,c,d]
theorem zst{k i:Nat}(h:D[i]?=some d)(a:d[k]?=some x):(qO D k)[i]?=some x:=by
 unfold qO;rw[Qa,h];simp[a]
theorem zua(D:LL)(k:Nat):(qO D k).length=D.length:=by simp[qO]
structure Gls(b:Int)(R:LL)(n:Nat):Prop where
 t:Tab b R n
 g:qaa R=1
theorem Tab.gls(h:Tab b R n)(a:R≠[]):Gls (b/qaa R) (qbt R (qaa R)) n:=⟨h.low a,znn (h.gpos a)⟩
structure PassPre(b:Int)(R:LL)(m:Nat)(c:Int)(D:LL)(n:Nat):Prop where
 r:Tab b R m
 d:Tab c D n
 rn:R≠[]
 l:D.length=m
 m1:1<=m
 m2:m<=900
 rl:R.length<=900
 n2:n<=900
 zb:intBits b<=4000
 zc:intBits c<=4000
abbrev zwy(b:Int)(P:LL):Qj:=qU (b/qaa P) (qbt P (qaa P))
def qgz(ds:List Qj)(q:List Qj->Prop):Prop :=∃(d:Qj)(R:LL)(k:Nat),ds=[d,.int k]/\(RowsD d R/\R.length<=900 /\ ∀r∈R,k<r.length)/\q ((qO R k).map .int)
theorem zja:FnScope [Sh,Sf] [Sh,Sf] (defScope zcx):=sc0
theorem zlf(F:Def K mg Uc zcx [Sh,Sf])(T:Txt K mg cs):Ok P w K mg base Uc 1 [Sh,Sf] (FSp K qgz):=by
  refine F.vokF zja (by rintro n q ⟨_,_,_,h,_⟩;rw[h];rfl) λf o A b s H E c n q h=>?_;obtain⟨d,R,k,rfl,⟨g,u,p⟩,h⟩:=h;refine⟨_,(qh (qem (qH (caps:=[Sf]) (own:=[Se]) (ix:=[1]) rfl ⟨rfl,rfl,rfl,rfl,rfl,rfl⟩ (qV (qc 0)) (λ_ _ _ _=>(ql (i:=1) (show Zb ([Sf,Se]:List Str) by decide))) (λ_ _ _ _=>(qr (qc 1) (qc 0)))))),?_⟩;obtain⟨l,e,_⟩:=id g;refine qac e (qI ((qO R k).map .int) (by simp[qO,g.len e]) (qm (by simp[qO];lia)) (λe =>∃s,e=[.val (.int k),s]) ⟨_,rfl⟩ ?_ ?_)
  ·rintro i x v y a j ⟨s,rfl⟩;obtain⟨r,c,t⟩:=g.get e a;have m:=p r (qdc c);have a:=Qc m;refine qzb t (qax (by rw[Qa,a];rfl)) ⟨qv ?_ j,_,rfl⟩;rw[Qa,zst c a];rfl
  grind
def qdg(ds:List Qj)(q:Qj->Prop):Prop :=∃d R,ds=[d]/\RowsD d R/\q (.int (qaa R))
theorem qav:FnScope [Sh,Sw,Se,Sx] [Sh] (defScope qgp):=sc0
theorem qlq(F:Def K mg ST qgp [Sh])(T:Txt K mg cs)(a:Ok P w K mg base SV 1 [Sc,Sa] (PSp K qcw)):Ok P w K mg base ST 2 [Sh] (PSp K qdg):=by
  refine F.vok qav (by rintro o q ⟨_,_,h,_⟩;rw[h];rfl) λf p A g s H E n o q h=>?_;obtain⟨d,R,rfl,k,h⟩:=h;refine⟨_,(qg (qz (i:=1) qav.nd qf)
   (qg (qau rfl (qV (qc 0)) (ql (i:=2) qav.nd) (qh (qau rfl (qV (qc 2)) (ql (i:=3) qav.nd) (qh (qz (i:=1) qav.nd (qt a.c n.m (qd (qc 1) (qd (qc 3) qe))))))))
   (qh (qw (qc 1))))),?_⟩
  obtain⟨l,e,_⟩:=id k;refine qac e ⟨λi e =>∃m b c,e=[.val d,.val (.int c),m,b]/\c=(qaa (R.take i):Int),⟨_,_,_,rfl,rfl⟩,?_,?_⟩
  ·rintro i x t u ⟨m,b,_,rfl,rfl⟩;obtain⟨r,n,v⟩:=k.get e u;refine qac v ⟨λj e =>∃b c,e=[.val d,.val (.int c),.val x,b]/\c=(qaq (qaa (R.take i)) (r.take j):Int),⟨_,_,rfl,rfl⟩,?_,?_⟩
   ·rintro j y e B ⟨b,_,rfl,rfl⟩;obtain⟨z,rfl,C,_⟩:=qan B;refine⟨_,_,rfl,?_⟩;rw[qfh C,qnz]
   grind[Qe,Zm,Z0,qsr]
  ·rintro t ⟨m,b,_,rfl,rfl⟩;rw[k.len e,Zm];exact h
def qla(ds:List Qj)(q:Qj->Prop):Prop :=∃(d:Qj)(r:LI)(g:Int),ds=[d,.int g]/\(qbf d=some (r.map .int)/\r.length<=900/\0<g/\intBits g<=9000)/\q (qfv (r.map λn=>n/g))
theorem zdr:FnScope [Se,Sw] [Se,Sw] (defScope qwk):=sc0
theorem zee(F:Def K mg "divided" qwk [Se,Sw])(T:Txt K mg cs):Ok P w K mg base "divided" 1 [Se,Sw] (qvi K qla):=by
  refine F.vokN zdr (by rintro j q ⟨_,_,_,h,_⟩;rw[h];rfl) λf k A a s H E p j q h=>?_;obtain⟨d,r,g,rfl,⟨e,t,l,m⟩,h⟩:=h;refine⟨_,(qh (zss (zvq T.tuple_ (qC (qH (caps:=[Sw]) (own:=[Sx]) (ix:=[1]) rfl ⟨rfl,rfl,rfl,rfl,rfl,rfl⟩ (qV (qc 0)) (λ_ _ _ _=>(ql (i:=1) (show Zb ([Sw,Sx]:List Str) by decide))) (λ_ _ _ _=>(qx qjo (qc 1) (qc 0)))))))),?_⟩;refine qac e (qI ((r.map λn=>n/g).map .int) (by simp) (qm (by simp;lia)) (λe =>∃s,e=[.val (.int g),s]) ⟨_,rfl⟩ ?_ ?_)
  ·rintro i x u e b c ⟨s,rfl⟩;obtain⟨z,rfl,o,_⟩:=qan b;refine⟨⟨l,m⟩,qv ?_ c,_,rfl⟩;rw[Qa,Qa,o];rfl
  ·exact⟨Yc.mpr λx b=>by obtain⟨n,_,rfl⟩:=Ql.mp b;rfl,_,rfl,h⟩
def qbm(ds:List Qj)(q:Qj->Prop):Prop :=∃(b:Int)(d:Qj)(R:LL)(n:Nat),ds=[.int b,d]/\(RowsD d R/\Tab b R n/\R≠[]/\R.length<=900/\n<=900/\intBits b<=9000)/\q (qU (b/qaa R) (qbt R (qaa R)))
theorem zpm(a:0<b)(h:g∣b)(hz:intBits b<=m):intBits g<=m:=by
 refine Ys ?_ hz;exact Qau (by lia) (Vc.mpr h)
theorem qho:FnScope [Sb,Sh,Sw] [Sb,Sh] (defScope qin):=sc0
theorem qph(F:Def K mg SK qin [Sb,Sh])(T:Txt K mg cs)(a:Ok P w K mg base ST 2 [Sh] (PSp K qdg))(c:Ok P w K mg base "divided" 1 [Se,Sw] (qvi K qla)):Ok P w K mg base SK 3 [Sb,Sh] (PSp K qbm):=by
  refine F.vok qho (by rintro v q ⟨_,_,_,_,h,_⟩;rw[h];rfl) λf y A m s H E g v q h=>?_;obtain⟨b,d,R,n,rfl,⟨j,k,t,D,o,z⟩,h⟩:=h;refine⟨_,(qg (qz (i:=2) qho.nd (qt a.c g.m (qd (qc 1) qe)))
   (qh (qw (qck (qd (qx qjo (qc 0) (qc 2)) (qd (qch qfq T.tuple_ L2.boot_tuple (qd (qC (qH (caps:=[Sw]) (own:=[Se]) (ix:=[2]) rfl ⟨rfl,rfl,rfl,rfl,rfl,rfl⟩ (qV (qc 1)) (λ_ _ _ _=>(ql (i:=1) (show Zb ([Sw,Se]:List Str) by decide))) (λ_ _ _ _=>(xgl (zxj c.c g.m (qd (qc 1) (qd (qc 0) qe))))))) qe)) qe)))))),?_⟩
  have G:=k.gpos t;have u:=zpm (by have:=k.pos;lia) (k.gdvd t) z;refine⟨d,R,rfl,j,⟨by lia,u⟩,?_⟩;obtain⟨l,e,_⟩:=id j;refine qac e (qI ((qbt R (qaa R)).map qfv) (by unfold qbt;simp[j.len e]) (qm (by unfold qbt;simp;lia)) (λe =>∃s,e=[.val (.int (qaa R)),s]) ⟨_,rfl⟩ ?_ ⟨szl,h⟩);rintro i x I J B p ⟨s,rfl⟩;obtain⟨r,g,C⟩:=j.get e B;refine⟨x,r,qaa R,rfl,⟨C,by rw[k.len r (qdc g)];exact o,by lia,u⟩,qv ?_ p,_,rfl⟩;unfold qbt;rw[Qa,Qa,g];rfl
def bFs(n d:Int)(a:LL)(b:LI):List (Str×Qj):=[(Sj,.int n),(Sb,.int d),(SU,.list (a.map qci)),(SI,.list (b.map .int))]
def bNm:List Str:=[Sj,Sb,SU,SI]
def at2(a:LL)(k j:Nat):Int:=(((a[k]?).getD [])[j]?).getD 0
structure Bd(m w:Nat)(Ls:LL)(ss:LI):Prop where
 l:Ls.length=m
 s:ss.length=m
 w:∀r∈Ls,r.length=w
 z:∀r∈Ls,∀x∈r,intBits x<=2000
theorem Bd.row{m w:Nat}(h:Bd m w Ls ss){k:Int}(a:0<=k)(b:k<m):∃r,Ls[k.toNat]?=some r/\atI (Ls.map qci) k=some (qci r)/\r.length=w:=by
 have c:=h.l;have e:Ls[k.toNat]?=some (Ls[k.toNat]'(by lia)):=Qc _;exact⟨_,e,zvk a (by rw[Qa,e];rfl),h.w _ (Qh e)⟩
theorem Bd.at{m w:Nat}(h:Bd m w Ls ss)(a:Ls[k]?=some r)(c:j<w):r[j]?=some (at2 Ls k j)/\intBits (at2 Ls k j)<=2000:=by
 have d:=h.w r (Qh a);have e:r[j]?=some (r[j]'(by lia)):=Qc _;have b:at2 Ls k j=r[j]'(by lia):=by unfold at2;rw[a];show(r[j]?).getD 0=_;rw[e];rfl
 rw[b];exact⟨e,h.z r (Qh a) _ (Ze _)⟩
theorem zqd{l:Nat}{j:Int}(a:0<=j)(h:j<l):ixN l j=some j.toNat:=by
 unfold ixN;rw[if_pos a,if_pos h]
theorem atI_last{x:α}(h:l[l.length-1]?=some x):atI l (-1)=some x:=by
 have a:0<l.length:=by
  grind
 unfold atI ixN;rw[if_neg (by decide),if_pos (by lia)];rw[show(-1+(l.length:Int)).toNat=l.length-1 by lia];exact h
def qig(a:LL)(b:LI)(w k c p:Nat):Bool :=
 decide (at2 a k (w-1)*at2 a c p<at2 a c (w-1)*at2 a k p)||(decide (at2 a k (w-1)*at2 a c p=at2 a c (w-1)*at2 a k p)&&decide ((b[k]?).getD 0<(b[c]?).getD 0))
def Tg(a:LL)(b:LI)(w p i r:Nat):Prop:=0<at2 a r p /\ ∀k,k<i->0<at2 a k p ->
 at2 a r (w-1)*at2 a k p<=at2 a k (w-1)*at2 a r p/\(at2 a r (w-1)*at2 a k p=at2 a k (w-1)*at2 a r p->(b[r]?).getD 0<=(b[k]?).getD 0)
section
variable{Ls:LL}{ss:LI}{w p i r:Nat}
theorem Tg.skip(h:Tg Ls ss w p i r)(b : ¬ 0<at2 Ls i p):Tg Ls ss w p (i+1) r:=⟨h.1,λk c a=>by
 by_cases e:k=i
 ·grind
 ·exact h.2 k (by lia) a⟩
theorem Tg.stay(h:Tg Ls ss w p i r)(a:qig Ls ss w i r p=false):Tg Ls ss w p (i+1) r:=⟨h.1,λk c b=>by
 by_cases e:k=i
 ·subst e;unfold qig at a;grind
 ·exact h.2 k (by omega) b⟩
theorem Tg.first(c:∀k,k<i -> ¬ 0<at2 Ls k p)(a:0<at2 Ls i p):Tg Ls ss w p (i+1) i:=⟨a,λk d b=>by
 grind⟩
theorem Tg.take(h:Tg Ls ss w p i r)(f:0<at2 Ls i p)(d:qig Ls ss w i r p=true):Tg Ls ss w p (i+1) i:=⟨f,λk m c=>by
 by_cases e:k=i
 ·grind
 ·obtain⟨a,b⟩:=h.2 k (by lia) c;have g:=h.1;unfold qig at d;rw[Bool.or_eq_true,Yb,decide_eq_true_eq,decide_eq_true_eq,decide_eq_true_eq]at d;generalize at2 Ls k p=ak at *;generalize at2 Ls i p=ai at *;generalize at2 Ls r p=ar at *;generalize at2 Ls k (w-1)=sk at *;generalize at2 Ls i (w-1)=si at *;generalize at2 Ls r (w-1)=sr at *;have j:si*ar<=sr*ai:=by lia
  have n:(si*ar)*ak<=(sr*ai)*ak:=Qn j (by lia);have o:(sr*ak)*ai<=(sk*ar)*ai:=Qn a (by lia);have q:(sr*ai)*ak=(sr*ak)*ai:=by grind
  have l:(si*ar)*ak=ar*(si*ak):=by grind
  have s:(sk*ar)*ai=ar*(sk*ai):=by grind
  refine⟨Qbg (a:=ar) (by lia) g,λe=>?_⟩;rw[e]at l;have t:(si*ar)*ak=(sr*ai)*ak:=by omega
  grind[Zs]⟩
end
def sgn(i:Nat):Int:=if i%2=0 then 1 else -1
theorem zpa(i:Nat):sgn (i+1) = - sgn i:=by
 unfold sgn;split <;> split <;> lia
def qo:Nat->(Nat->Int)->Int
 |0,_=>0
 |n+1,f=>qo n f+f n
theorem qj:∀{n:Nat},(∀i,i<n->f i=g i)->qo n f=qo n g
 |0,_=>rfl
 |n+1,h=>by
  show qo n f+f n=qo n g+g n;rw[qj λi a=>h i (by lia),h n (by lia)]
theorem qao(h:∀i,i<n->f i=0):qo n f=0:=by
 induction n with
 |zero=>rfl
 |succ n a =>
  show qo n f+f n=0;grind
theorem qft(k l:Int)(f g:Nat->Int):∀n:Nat,qo n (λi=>k*f i+l*g i)=k*qo n f+l*qo n g
 |0=>by show(0:Int)=k*0+l*0;lia
 |n+1=>by
  show qo n (λi=>k*f i+l*g i)+(k*f n+l*g n)=k*(qo n f+f n)+l*(qo n g+g n);rw[qft k l f g n];grind
theorem qy(k:Int)(f:Nat->Int)(n:Nat):qo n (λi=>k*f i)=k*qo n f:=by
 have:=qft k 0 f (λ_=>0) n;grind
theorem qep(f g:Nat->Int)(n:Nat):qo n (λi=>f i+g i)=qo n f+qo n g:=by
 have:=qft 1 1 f g n;simpa using this
theorem qQ(a:r<n)(h:∀i,i<n->i≠r->f i=0):qo n f=f r:=by
 induction n with
 |zero=>lia
 |succ n b =>
  show qo n f+f n=f r;grind[qao]
theorem zoo(a:r<n)(b:s<n)(c:r≠s)(h:∀i,i<n->i≠r->i≠s->f i=0):qo n f=f r+f s:=by
 have e:qo n f=qo n (λi=>(if i=r then f r else 0)+(if i=s then f s else 0)):=qj λi d=>by
  grind
 rw[e,qep,qQ a λi _ z=>if_neg z,qQ b λi _ z=>if_neg z,if_pos rfl,if_pos rfl]
theorem zbh{f:Nat->Nat->Int}:∀n:Nat,(∀i j,i<=j->j<n->f (j+1) i = - f i j)->qo (n+1) (λi=>qo n (f i))=0
 |0,_=>rfl
 |n+1,h=>by
  have b:=zbh n λi j a c=>h i j a (by lia);have e:qo (n+1) (λi=>qo (n+1) (f i))=qo (n+1) (λi=>qo n (f i))+qo (n+1) (λi=>f i n):=by
   rw[<- qep];rfl
  have d:qo (n+1) (f (n+1)) = - qo (n+1) (λi=>f i n):=by
   rw[qj (g:=λi => -1*f i n) λi a=>by grind,qy];lia
  show qo (n+1) (λi=>qo (n+1) (f i))+qo (n+1) (f (n+1))=0;grind
def skip(i x:Nat):Nat:=if x<i then x else x+1
theorem qzh(h:x<m):skip i x<m+1:=by unfold skip;split <;> lia
theorem zla(h:i<=j):skip (j+1) (skip i x)=skip i (skip j x):=by
 unfold skip;grind
def det:Nat->(Nat->Nat->Int)->Int
 |0,_=>1
 |m+1,a=>qo (m+1) λi=>sgn i*a i 0*det m (λx y=>a (skip i x) (y+1))
theorem qfl:∀{m:Nat}{a b:Nat->Nat->Int},(∀x y,x<m->y<m->a x y=b x y)->det m a=det m b
 |0,_,_,_=>rfl
 |m+1,a,b,h=>qj λi c=>by
  rw[h i 0 c (by lia),qfl λx y d e=>h (skip i x) (y+1) (qzh d) (by lia)]
def qap(a:Nat->Nat->Int)(y:Nat)(v:Nat->Int):Nat->Nat->Int:=λx z=>if z=y then v x else a x z
theorem qbv:qap a y v x y=v x:=if_pos rfl
theorem qbz(h:z≠y):qap a y v x z=a x z:=if_neg h
theorem qgq(k l:Int)(u v:Nat->Int):∀{m:Nat}(a:Nat->Nat->Int){y:Nat},y<m ->∀(u v:Nat->Int),
 det m (qap a y λx=>k*u x+l*v x)=k*det m (qap a y u)+l*det m (qap a y v)
  |m+1,a,0,_,u,v=>by
   unfold det;rw[<- qft];refine qj λi _=>?_;grind[qbz,qbv]
  |m+1,a,y+1,b,u,v=>by
   unfold det;rw[<- qft];refine qj λi _=>?_;have e:∀w:Nat->Int,(λx z=>qap a (y+1) w (skip i x) (z+1))=qap (λx z=>a (skip i x) (z+1)) y λx=>w (skip i x):=λw=>by
    funext x z
    unfold qap;grind
   rw[e,e,e,qbz (by lia),qbz (by lia),qbz (by lia)];rw[qgq k l u v (λx z=>a (skip i x) (z+1)) (show y<m by lia) (λx=>u (skip i x)) (λx=>v (skip i x))];grind
theorem qzd:∀{m:Nat}{a:Nat->Nat->Int}{y:Nat},y+1<m->(∀x,x<m->a x y=a x (y+1))->det m a=0
 |m+2,a,0,_,h=>by
  have e:det (m+2) a=qo (m+2) (λi=>qo (m+1) (λj=>sgn i*a i 0*(sgn j*a (skip i j) 1*det m (λx y=>a (skip i (skip j x)) (y+2))))):=by
   refine qj λi _=>?_;rw[qy];rfl
  rw[e];refine zbh (m+1) λi j c d=>?_;have f:skip (j+1) i=i:=by unfold skip;grind
  have g:skip i j=j+1:=by unfold skip;grind
  grind[zpa,zla]
 |m+1,a,y+1,k,h=>by
  refine qao λi _=>?_;rw[qzd (m:=m) (a:=λx z=>a (skip i x) (z+1)) (y:=y) (by lia) λx b=>h (skip i x) (qzh b)];lia
theorem qfk(h:y≠z):qap (qap a y u) z v=qap (qap a z v) y u:=by
 funext x t
 unfold qap;grind
theorem qeg:qap a y (λx=>a x y)=a:=by
 funext x t
 unfold qap;grind
theorem zhd(d:y<m)(hz:z<m)(b:y≠z)(c:∀w:Nat->Int,det m (qap (qap a y w) z w)=0)(u v:Nat->Int):
 det m (qap (qap a y u) z v) = - det m (qap (qap a y v) z u):=by
  have e:=c λx=>1*u x+1*v x;rw[qgq 1 1 u v _ hz]at e;rw[qfk b,qfk b,qgq 1 1 u v _ d,qgq 1 1 u v _ d,<- qfk b,<- qfk b,<- qfk b,<- qfk b,c u,c v]at e;lia
theorem qzg:∀(d:Nat){m:Nat}{a:Nat->Nat->Int}{y:Nat},y+d+1<m->(∀x,x<m->a x y=a x (y+d+1))->det m a=0
 |0,m,a,y,b,h=>qzd b h
 |d+1,m,a,y,b,h=>by
  have c:∀w:Nat->Int,det m (qap (qap a (y+d+1) w) (y+d+2) w)=0:=λw=>qzd (y:=y+d+1) (by lia) λx _=>by
   grind[qbz,qbv]
  have e:=zhd (by lia) (by lia) (by lia) c (λx=>a x (y+d+1)) (λx=>a x (y+d+2));rw[qeg,show qap a (y+d+2) (λx=>a x (y+d+2))=a from qeg]at e;rw[e,qzg d (y:=y) (by lia) λx f=>?_]
  ·rfl
  grind[qbz,qbv]
theorem qiz(c:y<m)(hz:z<m)(b:y≠z)(h:∀x,x<m->a x y=a x z):det m a=0:=by
 rcases Nat.lt_or_gt_of_ne b with g|g
 ·obtain⟨d,rfl⟩:∃d,z=y+d+1:=⟨z-y-1,by lia⟩
  exact qzg d hz h
 ·obtain⟨d,rfl⟩:∃d,y=z+d+1:=⟨y-z-1,by lia⟩
  exact qzg d c λx e=>(h x e).symm
theorem zms(c:y<m)(hz:z<m)(b:y≠z)(u v:Nat->Int):
 det m (qap (qap a y u) z v) = - det m (qap (qap a y v) z u) :=
  zhd c hz b (λw=>qiz c hz b λx _=>by grind[qbz,qbv]) u v
theorem qyj:∀m:Nat,det m (λx y=>if x=y then 1 else 0)=1
 |0=>rfl
 |m+1=>by
  show qo (m+1) _=1;rw[qQ (r:=0) (by lia) λi _ a=>by grind];have e:(λx y=>if skip 0 x=y+1 then(1:Int)else 0)=λx y=>if x=y then 1 else 0:=by
   funext x y
   have:skip 0 x=x+1:=by unfold skip;grind
   grind
  rw[e,qyj m];rfl
theorem qnh(a:Nat->Nat->Int)(b:y<m)(c:Nat->Int)(w:Nat->Nat->Int):∀n:Nat,
 det m (qap a y λx=>qo n λi=>c i*w i x)=qo n λi=>c i*det m (qap a y (w i))
  |0=>by
   have e:=qgq 0 0 (λ_=>0) (λ_=>0) a b (λ_=>0) (λ_=>0);simp at e;exact e
  |n+1=>by
   have e:(λx=>qo (n+1) λi=>c i*w i x)=λx=>1*(qo n λi=>c i*w i x)+c n*w n x:=by
    funext x;show(qo n λi=>c i*w i x)+c n*w n x=_;lia
   rw[e,qgq 1 (c n) (w n) (w n) a b,qnh a b c w n];show _=(qo n λi=>c i*det m (qap a y (w i)))+c n*det m (qap a y (w n));lia
structure InPre(n:Nat)(R:LL)(b:LI):Prop where
 l:b.length=R.length
 w:∀r∈R,r.length=n
 hn:n<=20
 hm:R.length<=24
structure SvPre(n:Nat)(R:LL)(b:LI):Prop where
 i:InPre n R b
 n1:1<=n
 m1:1<=R.length
 z:∀r∈R,∀x∈r,x.natAbs<=20000000
 zb:∀x∈b,x.natAbs<=20000000
def zwz(n:Nat)(R:LL)(b:LI)(vs:List (Int×Int)):Prop:=vs.length=n /\ ∃d:Int,0<d/\intBits d<=2000/\(∀x∈vs,Shr x.1 x.2/\0<=x.1/\x.2∣d/\intBits x.1<=2000) /\
 ∀k,k<R.length->d*(b[k]?).getD 0=qo n λu=>at2 R k u*(((vs[u]?).getD (0,1)).1*(d/((vs[u]?).getD (0,1)).2))
def zry(n:Nat)(R:LL)(b:LI)(ws:LI):Prop:=ws.length=R.length/\(∀j,j<n->(qo R.length λl=>at2 R l j*(ws[l]?).getD 0)<=0)/\0<qo R.length λl=>(b[l]?).getD 0*(ws[l]?).getD 0
theorem zea:qap (qap a y u) y v=qap a y v:=by
 funext x t
 unfold qap;grind
theorem qed(h:∀x,x<m->u x=v x):det m (qap a y u)=det m (qap a y v) :=
 qfl λx z b _=>by
  unfold qap;grind
structure Brd(m:Nat)(col:Nat->Nat->Int)(B:Nat->Nat->Int)(L:Nat->Nat->Int)(d:Int):Prop where
 pos:0<d
 hd:d=det m B
 hL:∀k,k<m ->∀j,L k j=det m (qap B k (col j))
 hI:∀j x,x<m->d*col j x=qo m λk=>L k j*B x k
theorem zkn(m:Nat)(col:Nat->Nat->Int):Brd m col (λx y=>if x=y then 1 else 0) (λk j=>col j k) 1 where
 pos:=by lia
 hd:=(qyj m).symm
 hL:=λk hk j=>by
  have e:det m (qap (λx y=>if x=y then 1 else 0) k (col j))=det m (qap (λx y=>if x=y then 1 else 0) k λx=>qo m λi=>col j i*(if x=i then 1 else 0)) :=
   qed λx hx=>by
    rw[qQ hx λi _ hi=>by grind,if_pos rfl];lia
  rw[e,qnh _ hk (λi=>col j i) (λi x=>if x=i then 1 else 0)];rw[qQ hk λi hi hik=>?_]
  ·grind[qeg,qyj]
  ·rw[qiz hk hi (Z9 hik) λx _=>by rw[qbv,qbz hik]];lia
 hI:=λj x hx=>by
  rw[qQ hx λi _ hi=>by grind,if_pos rfl];lia
def piv(L:Nat->Nat->Int)(d:Int)(r c:Nat):Nat->Nat->Int:=λk j=>if k=r then L r j else(L k j*L r c-L k c*L r j)/d
theorem Brd.exact(h:Brd m col B L d)(e:r<m)(a:k<m)(b:k≠r):
 d*det m (qap (qap B r (col c)) k (col j))=L k j*L r c-L k c*L r j:=by
  have g:d*det m (qap (qap B r (col c)) k (col j))=det m (qap (qap B r (col c)) k λx=>d*col j x):=by
   have:=qgq d 0 (col j) (col j) (qap B r (col c)) a (col j) (col j);grind
  rw[g,qed (v:=λx=>qo m λi=>L i j*B x i) λx l=>h.hI j x l,qnh _ a (λi=>L i j) (λi x=>B x i)];rw[zoo a e b λi n f o=>?_]
  ·have p:det m (qap (qap B r (col c)) k λx=>B x k)=L r c:=by
    rw[h.hL r e c];grind[qbz,qeg]
   have q:det m (qap (qap B r (col c)) k λx=>B x r) = - L k c:=by
    rw[zms e a (Z9 b),qeg,<- h.hL k a c]
   grind
  ·rw[qiz a n (Z9 f) λx _=>by grind[qbv,qbz]];lia
theorem Brd.next(h:Brd m col B L d)(l:r<m)(o:0<L r c):
 Brd m col (qap B r (col c)) (piv L d r c) (L r c) /\ ∀k,k<m->k≠r ->∀j,d*piv L d r c k j=L k j*L r c-L k c*L r j:=by
  have f:d≠0:=by have:=h.pos;lia
  have p:∀k,k<m->k≠r ->∀j,piv L d r c k j=det m (qap (qap B r (col c)) k (col j)):=λk b a j=>by
   unfold piv;rw[if_neg a,<- h.exact l b a,V1 _ f]
  have g:∀k,k<m->k≠r ->∀j,d*piv L d r c k j=L k j*L r c-L k c*L r j:=λk b a j=>by
   rw[p k b a j,h.exact l b a]
  refine⟨⟨o,h.hL r l c,λk b j=>?_,λj x n=>?_⟩,g⟩
  ·by_cases e:k=r
   ·subst e;rw[zea,<- h.hL k b j];unfold piv;grind
   grind
  ·refine Zz f ?_;rw[<- qy];have t:∀k,k<m->d*(piv L d r c k j*qap B r (col c) x k)=(L r c*(L k j*B x k)+(- L r j)*(L k c*B x k))+(if k=r then L r j*(d*col c x)else 0):=λk b=>by
    by_cases e:k=r
    ·subst e;rw[qbv,if_pos rfl];unfold piv;grind
    ·rw[qbz e,if_neg e,<- J9,g k b e j];grind
   rw[qj t,qep,qft,<- h.hI j x n,<- h.hI c x n,qQ l λi _ q=>if_neg q,if_pos rfl];grind
theorem Brd.basic(h:Brd m col B L d)(b:i<m)(e:∀x,x<m->B x i=col j x)(a:k<m):
 L k j=if k=i then d else 0:=by
  rw[h.hL k a j,qed (v:=λx=>B x i) λx c=>(e x c).symm];by_cases q:k=i
  ·subst q;rw[if_pos rfl,qeg,<- h.hd]
  ·rw[if_neg q];exact qiz a b q λx _=>by rw[qbv,qbz (Z9 q)]
theorem Brd.comb(h:Brd m col B L d)(f:Nat->Int)(at':Nat->Nat)(e:∀x,x<m->col j x=qo n λl=>f l*col (at' l) x)(a:k<m):
 L k j=qo n λl=>f l*L k (at' l):=by
  rw[h.hL k a j,qed e,qnh _ a f (λl=>col (at' l))];exact qj λl _=>by rw[h.hL k a]
theorem qjm(f:Nat->Nat->Int)(n:Nat):∀m:Nat,qo m (λi=>qo n (f i))=qo n (λk=>qo m λi=>f i k)
 |0=>(qao λ_ _=>rfl).symm
 |m+1=>by
  show qo m (λi=>qo n (f i))+qo n (f m)=qo n (λk=>(qo m λi=>f i k)+f m k);rw[qjm f n m,qep]
theorem zbf:∀{n:Nat},qo n f<0 ->∃k,k<n/\f k<0
 |0,h=>absurd h (by show ¬ (0:Int)<0;lia)
 |n+1,h=>by
  have a:qo n f+f n<0:=h;by_cases q:f n<0
  ·grind
  ·obtain⟨k,b,z⟩:=zbf (f:=f) (n:=n) (by lia);grind
theorem qtj:∀{n:Nat},0<qo n f ->∃k,k<n/\0<f k
 |0,h=>absurd h (by show ¬ (0:Int)<0;omega)
 |n+1,h=>by
  have a:0<qo n f+f n:=h;by_cases q:0<f n
  ·exact⟨n,by omega,q⟩
  ·obtain⟨k,b,z⟩:=qtj (f:=f) (n:=n) (by omega);exact⟨k,by omega,z⟩
theorem qgc:∀{n:Nat},(∀k,k<n->0<=f k)->0<=qo n f
 |0,_=>by show(0:Int)<=0;lia
 |n+1,h=>by
  have a:=qgc (f:=f) (n:=n) λk c=>h k (by lia);have b:=h n (by lia);show 0<=qo n f+f n;lia
structure Sta where
 st:Nat->Int
 L:Nat->Nat->Int
 d:Int
def Bas(col:Nat->Nat->Int)(st:Nat->Int):Nat->Nat->Int:=λx k=>if st k<0 then(if x=k then 1 else 0)else col (st k).toNat x
structure Good(m n:Nat)(col:Nat->Nat->Int)(b:Sta):Prop where
 brd:Brd m col (Bas col b.st) b.L b.d
 sum:∀k,k<m->0<=b.L k (n+m)
 top:∀k,k<m->b.st k<n
def lack(m:Nat)(b:Sta)(j:Nat):Int:=qo m λk=>if b.st k<0 then b.L k j else 0
structure Stp(m n:Nat)(b:Sta)(c r:Nat)(b':Sta):Prop where
 c1:c<n
 c2:0<lack m b c
 c3:∀j,j<c->lack m b j<=0
 r1:r<m
 r2:0<b.L r c
 r3:∀k,k<m->0<b.L k c->b.L r (n+m)*b.L k c<=b.L k (n+m)*b.L r c
 r4:∀k,k<m->0<b.L k c->b.L r (n+m)*b.L k c=b.L k (n+m)*b.L r c->b.st r<=b.st k
 st:b'.st=λk=>if k=r then(c:Int)else b.st k
 L:b'.L=piv b.L b.d r c
 d:b'.d=b.L r c
theorem zok{r c:Nat}:Bas col (λk=>if k=r then(c:Int)else st k)=qap (Bas col st) r (col c):=by
 funext x k
 have a:∀v:Int,(λk=>if k=r then(c:Int)else st k) k=v->Bas col (λk=>if k=r then(c:Int)else st k) x k=if v<0 then(if x=k then 1 else 0)else col v.toNat x:=λv b=>by
  unfold Bas;rw[b]
 by_cases e:k=r
 ·rw[a c (if_pos e),if_neg (by lia),e,qbv];rfl
 ·rw[a (st k) (if_neg e),qbz e];rfl
theorem Good.basic(h:Good m n col b){i j:Nat}(a:i<m)(e:b.st i=(j:Int))(c:k<m):b.L k j=if k=i then b.d else 0 :=
 h.brd.basic a (λx _=>by unfold Bas;rw[e,if_neg (by lia)];rfl) c
theorem Good.lack0(h:Good m n col b){i j:Nat}(a:i<m)(e:b.st i=(j:Int)):lack m b j=0 :=
 qao λk c=>by
  by_cases q:b.st k<0
  ·rw[if_pos q,h.basic a e c,if_neg (λz=>by grind)]
  grind
theorem Good.next(h:Good m n col b)(s:Stp m n b c r b'):
 Good m n col b' /\ ∀k,k<m->k≠r ->∀j,b.d*b'.L k j=b.L k j*b.L r c-b.L k c*b.L r j:=by
  obtain⟨f,d⟩:=h.brd.next s.r1 s.r2;have e:=zok (col:=col) (st:=b.st) (r:=r) (c:=c);rw[<- s.L]at d;refine⟨⟨?_,λk a=>?_,λk a=>?_⟩,d⟩
  ·rw[s.st,e,s.L,s.d];exact f
  ·by_cases q:k=r
   ·subst q;rw[s.L];unfold piv;rw[if_pos rfl];exact h.sum k a
   ·have z:=d k a q (n+m);have i:=h.brd.pos;have l:=h.sum k a;have o:=h.sum r s.r1;have p:=s.r2;have:0<=b.d*b'.L k (n+m):=by
     rw[z];by_cases g:0<b.L k c
     ·have:=s.r3 k a g;grind
     ·have t:0<=b.L k (n+m)*b.L r c:=Q2 l (by lia);have u:b.L k c*b.L r (n+m)<=0:=Int.mul_nonpos_of_nonpos_of_nonneg (by lia) o;lia
    exact Int.nonneg_of_mul_nonneg_right this i
  ·rw[s.st];show(if k=r then(c:Int)else b.st k)<n;by_cases q:k=r
   ·rw[if_pos q];have:=s.c1;lia
   ·rw[if_neg q];exact h.top k a
theorem zwj(l:Good m n col a)(f:Good m n col b)(same:∀k,k<m->(a.st k<0↔b.st k<0))(e:Nat):
 a.d*lack m b e=b.d*lack m a e+qo m λk=>if a.st k<0 then 0 else a.L k e*lack m b (a.st k).toNat:=by
  have one:∀i,i<m->a.d*b.L i e=qo m λk=>a.L k e*det m (qap (Bas col b.st) i λx=>Bas col a.st x k):=λi c=>by
   have o:a.d*b.L i e=det m (qap (Bas col b.st) i λx=>a.d*col e x):=by
    rw[f.brd.hL i c e];have:=qgq a.d 0 (col e) (col e) (Bas col b.st) c (col e) (col e);grind
   rw[o,qed (v:=λx=>qo m λk=>a.L k e*Bas col a.st x k) λx p=>l.brd.hI e x p,qnh _ c (λk=>a.L k e) (λk x=>Bas col a.st x k)]
  have h:∀i k,i<m->k<m->det m (qap (Bas col b.st) i λx=>Bas col a.st x k)=if a.st k<0 then(if i=k then b.d else 0)else b.L i (a.st k).toNat:=λi k c d=>by
   by_cases q:a.st k<0
   ·rw[if_pos q];have u:=(same k d).mp q;have r:(λx=>Bas col a.st x k)=λx=>Bas col b.st x k:=by
     funext x;unfold Bas;grind
    rw[r];by_cases g:i=k
    ·subst g;rw[if_pos rfl,qeg,<- f.brd.hd]
    ·rw[if_neg g];exact qiz c d g λx _=>by rw[qbv,qbz (Z9 g)]
   ·rw[if_neg q,f.brd.hL i c];exact qed λx _=>by unfold Bas;rw[if_neg q]
  have s:a.d*lack m b e=qo m λi=>qo m λk=>if b.st i<0 then a.L k e*(if a.st k<0 then(if i=k then b.d else 0)else b.L i (a.st k).toNat)else 0:=by
   unfold lack;rw[<- qy];refine qj λi c=>?_;by_cases q:b.st i<0
   ·rw[if_pos q,one i c];exact qj λk d=>by rw[if_pos q,h i k c d]
   ·rw[if_neg q,qao λk _=>if_neg q];lia
  rw[s,qjm];have t:∀k,k<m->(qo m λi=>if b.st i<0 then a.L k e*(if a.st k<0 then(if i=k then b.d else 0)else b.L i (a.st k).toNat)else 0)
   = b.d*(if a.st k<0 then a.L k e else 0)+(if a.st k<0 then 0 else a.L k e*lack m b (a.st k).toNat):=λk d=>by
   by_cases q:a.st k<0
   ·rw[if_pos q,if_pos q,qQ d λi c j=>by
     by_cases g:b.st i<0
     ·rw[if_pos g,if_pos q,if_neg j];lia
     ·rw[if_neg g],if_pos ((same k d).mp q),if_pos q,if_pos rfl,Zp];lia
   ·rw[if_neg q,if_neg q];unfold lack;rw[<- qy,Yr,Y5];exact qj λi _=>by
     by_cases g:b.st i<0
     ·rw[if_pos g,if_pos g,if_neg q]
     ·rw[if_neg g,if_neg g];lia
  rw[qj t,qep,qy];rfl
theorem qyd{Q:Nat->Prop}(d:a<=b)(e : ¬ Q a)(f:Q b):∃c,a<=c/\c<b /\ ¬ Q c/\Q (c+1):=by
 induction b with
 |zero =>
  grind
 |succ b g =>
  grind
theorem zcs{Q:Nat->Prop}(i:Q T↔Q 0)(j:a<=T)(k:b<=T)(d : ¬ Q a)(e:Q b):∃c,c<T /\ ¬ Q c/\Q (c+1):=by
 by_cases q:a<=b
 ·obtain⟨c,_,h,f,g⟩:=qyd q d e;grind
 ·by_cases q0:Q T
  ·obtain⟨c,_,h,f,g⟩:=qyd j d q0;grind
  ·have z : ¬ Q 0:=λz=>q0 (i.mpr z);obtain⟨c,_,h,f,g⟩:=qyd (Yd b) z e;grind
theorem zrs(f:Nat->Nat):∀{T:Nat},0<T ->∃a,a<T /\ ∀b,b<T->f b<=f a
 |1,_=>⟨0,by omega,fun b h=>by grind⟩
 |T+2,_=>by
  obtain⟨a,c,d⟩:=zrs f (T:=T+1) (by lia);by_cases q:f a<=f (T+1)
  ·refine⟨T+1,by lia,fun b h=>?_⟩;grind
  ·refine⟨a,by lia,fun b h=>?_⟩;grind
theorem xdg{b:Nat->Sta}{cs rs:Nat->Nat}(hT:0<T)(X:Good m n col (b 0))(p:∀c,c<T->Stp m n (b c) (cs c) (rs c) (b (c+1)))(he:∀k,k<m->(b T).st k=(b 0).st k):False:=by
  have G:∀c,c<=T->Good m n col (b c):=fun c=>by
   induction c with
   |zero=>exact λ_=>X
   |succ c C=>exact λh=>((C (by omega)).next (p c (by omega))).1
  have bs:∀x k,k<m->Bas col (b T).st x k=Bas col (b 0).st x k:=λx k l=>by unfold Bas;rw[he k l]
  have eL:∀k,k<m ->∀j,(b T).L k j=(b 0).L k j:=λk l j=>by
   rw[(G T (Qs _)).brd.hL k l,X.brd.hL k l];exact qfl λx y _ Y=>by
    unfold qap;by_cases e:y=k
    ·rw[if_pos e,if_pos e]
    ·rw[if_neg e,if_neg e,bs x y Y]
  have ed:(b T).d=(b 0).d:=by
   rw[(G T (Qs _)).brd.hd,X.brd.hd];exact qfl λx y _ Y=>bs x y Y
  have a1:∀c,c<T ->∀k,(b (c+1)).st k<0->(b c).st k<0:=fun c h k z=>by
   rw[(p c h).st]at z;by_cases e:k=rs c
   ·have U:(if k=rs c then(cs c:Int)else(b c).st k)<0:=z;rw[if_pos e]at U;omega
   ·have U:(if k=rs c then(cs c:Int)else(b c).st k)<0:=z;rw[if_neg e]at U;exact U
  have a2:∀i c,c+i<=T ->∀k,(b (c+i)).st k<0->(b c).st k<0:=λi=>by
   induction i with
   |zero=>exact fun c _ k z=>z
   |succ i C=>exact fun c h k z=>C c (by omega) k (a1 (c+i) (by omega) k z)
  have u:∀c,c<=T ->∀k,k<m->((b c).st k<0↔(b 0).st k<0):=fun c h k l=>by
   constructor
   ·intro z;have:=a2 c 0 (by omega) k (by rw[Qbr];exact z);exact this
   ·intro z;rw[<- he k l]at z;exact a2 (T-c) c (by omega) k (by rw[show c+(T-c)=T by omega];exact z)
  have rn:∀c,c<T -> ¬ (b c).st (rs c)<0:=fun c h z=>by
   have Z:=(u c (by omega) _ (p c h).r1).mp z;have V:=(u (c+1) (by omega) _ (p c h).r1).mpr Z;rw[(p c h).st]at V;have z3:(if rs c=rs c then(cs c:Int)else(b c).st (rs c))<0:=V;rw[if_pos rfl]at z3;omega
  have lk:∀c,c<T ->∀j,(b c).d*lack m (b (c+1)) j=lack m (b c) j*(b c).L (rs c) (cs c)-lack m (b c) (cs c)*(b c).L (rs c) j:=fun c h j=>by
   have nx:=((G c (by omega)).next (p c h)).2;have W:(b c).d*lack m (b (c+1)) j=qo m λk=>(b c).L (rs c) (cs c)*(if(b c).st k<0 then(b c).L k j else 0)+(- (b c).L (rs c) j)*(if(b c).st k<0 then(b c).L k (cs c)else 0):=by
    unfold lack;rw[<- qy];refine qj λk l=>?_;by_cases q:(b c).st k<0
    ·have q2:=(u (c+1) (by omega) k l).mpr ((u c (by omega) k l).mp q);rw[if_pos q2,if_pos q,if_pos q,nx k l (λz=>rn c h (z▸q)) j];grind
    ·have q2 : ¬ (b (c+1)).st k<0:=λz=>q (a1 c h k z);rw[if_neg q2,if_neg q,if_neg q];grind
   rw[W,qft];unfold lack;grind
  have D:∀c,c<=T->0<(b c).d:=fun c h=>(G c h).brd.pos;have mono:∀c,c<=T->lack m (b c) (n+m)*(b 0).d<=lack m (b 0) (n+m)*(b c).d/\((∃E,E<c/\0<(b E).L (rs E) (n+m))->lack m (b c) (n+m)*(b 0).d<lack m (b 0) (n+m)*(b c).d):=fun c=>by
   induction c with
   |zero=>exact λ_=>⟨V2 _,λF=>by obtain⟨E,h,_⟩:=F;exact absurd h (by omega)⟩
   |succ c C =>
    intro h;obtain⟨i1,i2⟩:=C (by omega);have s:=p c (by omega);have e:=lk c (by omega) (n+m);rw[<- s.d]at e;have d0:=D 0 (by omega);have d1:=D c (by omega);have d2:=D (c+1) h;have r0:=(G c (by omega)).sum (rs c) s.r1;have w0:0<=lack m (b c) (cs c)*(b c).L (rs c) (n+m):=Q2 (by have:=s.c2;omega) r0;have key:(b c).d*(lack m (b (c+1)) (n+m)*(b 0).d)=(lack m (b c) (n+m)*(b 0).d)*(b (c+1)).d-(lack m (b c) (cs c)*(b c).L (rs c) (n+m))*(b 0).d:=by
     rw[<- J9,e];grind
    have up:(lack m (b c) (n+m)*(b 0).d)*(b (c+1)).d<=(lack m (b 0) (n+m)*(b c).d)*(b (c+1)).d:=Qn i1 (by omega);have re:(lack m (b 0) (n+m)*(b c).d)*(b (c+1)).d=(b c).d*(lack m (b 0) (n+m)*(b (c+1)).d):=by grind
    have w1:0<=(lack m (b c) (cs c)*(b c).L (rs c) (n+m))*(b 0).d:=Q2 w0 (by omega);refine⟨Qbg (a:=(b c).d) (by omega) d1,λ⟨E,h1,h2⟩=>Qbh (a:=(b c).d) ?_ (by omega)⟩;by_cases q:E=c
    ·subst q;have:=Za (Za s.c2 h2) d0;omega
    ·have:=Z2 (i2 ⟨E,by omega,h2⟩) d2;omega
  have H:∀c,c<T->(b c).L (rs c) (n+m)=0:=fun c h=>by
   have r0:=(G c (by omega)).sum (rs c) (p c h).r1;by_cases q:0<(b c).L (rs c) (n+m)
   ·have z:=(mono T (Qs _)).2 ⟨c,h,q⟩;have W:lack m (b T) (n+m)=lack m (b 0) (n+m):=qj λk l=>by rw[he k l,eL k l]
    rw[W,ed]at z;exact(Int.lt_irrefl _ z).elim
   ·omega
  have zr:∀(j:Int)c,c<T->(∀k,k<m->(b c).st k=j->(b c).L k (n+m)=0) ->∀k,k<m->(b (c+1)).st k=j->(b (c+1)).L k (n+m)=0:=λj c h z k l e=>by
   have nx:=((G c (by omega)).next (p c h)).2;by_cases q:k=rs c
   ·rw[(p c h).L];unfold piv;rw[if_pos q];exact H c h
   ·have e':(b c).st k=j:=by
     rw[(p c h).st]at e;have I:(if k=rs c then(cs c:Int)else(b c).st k)=j:=e;rw[if_neg q]at I;exact I
    have w:=nx k l q (n+m);rw[z k l e',H c h,Zr,Yr]at w;have d1:=D c (by omega);rcases Yf.mp (show(b c).d*(b (c+1)).L k (n+m)=0 by omega)with g|g
    ·omega
    ·exact g
  have P:∀(j:Int)i c,c+i<=T->(∀k,k<m->(b c).st k=j->(b c).L k (n+m)=0) ->∀k,k<m->(b (c+i)).st k=j->(b (c+i)).L k (n+m)=0:=λj i=>by
   induction i with
   |zero=>exact fun c _ z=>z
   |succ i C=>exact fun c h z=>zr j (c+i) (by omega) (C c (by omega) z)
  have zero:∀(j:Int)f o,f<=T->o<=T->(∀k,k<m->(b o).st k≠j) ->∀k,k<m->(b f).st k=j->(b f).L k (n+m)=0:=λj f o ha hb z k l e=>by
   have z0:∀k,k<m->(b o).st k=j->(b o).L k (n+m)=0:=λk l e=>(z k l e).elim;have zT:∀k,k<m->(b T).st k=j->(b T).L k (n+m)=0:=by
    have:=P j (T-o) o (by omega) z0;rw[show o+(T-o)=T by omega]at this;exact this
   have zs:∀k,k<m->(b 0).st k=j->(b 0).L k (n+m)=0:=λk l e=>by rw[<- eL k l];exact zT k l (by rw[he k l];exact e)
   have:=P j f 0 (by omega) zs;rw[Qbr]at this;exact this k l e
  obtain⟨o,v,B⟩:=zrs cs hT
  let Q:Nat->Nat->Prop:=λj c =>∃k,k<m/\(b c).st k=(j:Int)
  have QT:∀j,Q j T↔Q j 0:=λj=>⟨λJ=>by obtain⟨k,l,e⟩:=J;exact⟨k,l,by rw[<- he k l];exact e⟩,λK=>by obtain⟨k,l,e⟩:=K;exact⟨k,l,by rw[he k l];exact e⟩⟩
  have inn:∀j c,c<T -> ¬ Q j c->Q j (c+1)->cs c=j:=λj c h h1 M=>by
   obtain⟨k,l,e⟩:=M;rw[(p c h).st]at e;have I:(if k=rs c then(cs c:Int)else(b c).st k)=j:=e;by_cases q:k=rs c
   ·rw[if_pos q]at I;omega
   ·rw[if_neg q]at I;exact(h1 ⟨k,l,I⟩).elim
  have nb:∀c,c<=T ->∀j,lack m (b c) j≠0 -> ¬ Q j c:=fun c h j z N=>by obtain⟨k,l,e⟩:=N;exact z ((G c h).lack0 l e)
  have tn : ¬ Q (cs o) o:=nb o (by omega) _ (by have:=(p o v).c2;omega);have tb:Q (cs o) (o+1):=⟨rs o,(p o v).r1,by rw[(p o v).st];exact if_pos rfl⟩
  obtain⟨f,t,o1,o2⟩:=zcs (Q:=fun c => ¬ Q (cs o) c) (T:=T) (a:=o+1) (b:=o) (by rw[QT]) (by omega) (by omega) (λz=>z tb) tn;have o1:Q (cs o) f:=Vv o1;obtain⟨R,O,A⟩:=o1;have er:R=rs f:=by
   by_cases q:R=rs f
   ·exact q
   ·refine(o2 ⟨R,O,?_⟩).elim;rw[(p f t).st];show(if R=rs f then(cs f:Int)else(b f).st R)=_;rw[if_neg q];exact A
  subst er;have W:=B f t;have I:cs f≠cs o:=λz=>nb f (by omega) (cs f) (by have:=(p f t).c2;omega) ⟨rs f,O,by rw[A,z]⟩;have id:=zwj (G f (by omega)) (G o (by omega)) (λk l=>(u f (by omega) k l).trans (u o (by omega) k l).symm) (cs f);have p1:=Za (D o (by omega)) (p f t).c2;have p2:(b f).d*lack m (b o) (cs f)<=0:=Qbv (by have:=D f (by omega);omega) ((p o v).c3 (cs f) (by omega));obtain⟨k,l,r⟩:=zbf (show(qo m λk=>if(b f).st k<0 then 0 else(b f).L k (cs f)*lack m (b o) ((b f).st k).toNat)<0 by omega);by_cases q:(b f).st k<0
  ·rw[if_pos q]at r;omega
  ·rw[if_neg q]at r;obtain⟨j,ej⟩:∃j:Nat,(b f).st k=(j:Int):=⟨((b f).st k).toNat,by omega⟩
   rw[ej]at r;have r:(b f).L k (cs f)*lack m (b o) j<0:=r;have jl:lack m (b o) j≠0:=λz=>by rw[z,Yr]at r;omega
   have jn:=nb o (by omega) j jl;obtain⟨c,S,u1,u2⟩:=zcs (Q:=Q j) (T:=T) (a:=o) (b:=f) (QT j) (by omega) (by omega) jn ⟨k,l,ej⟩;have jle:j<=cs o:=by rw[<- inn j c S u1 u2];exact B c S
   by_cases jt:j=cs o
   ·subst jt;have ek:k=rs f:=by
     by_cases g:k=rs f
     ·exact g
     ·have w:=(G f (by omega)).basic l ej l;have w2:=(G f (by omega)).basic O A l;rw[if_pos rfl]at w;rw[if_neg g,w]at w2;have:=D f (by omega);omega
    subst ek;have:=Za (p f t).r2 (p o v).c2;omega
   ·have c3:=(p o v).c3 j (by omega);have lp:0<(b f).L k (cs f):=by
     rcases Int.lt_trichotomy 0 ((b f).L k (cs f))with g|g|g
     ·exact g
     ·rw[<- g,Zr]at r;omega
     ·have:=Qbu (Jh g) c3;omega
    have Z:=zero j f o (by omega) (by omega) (λk' hk' e=>jn ⟨k',hk',e⟩) k l ej;have V:=H f t;have tie:=(p f t).r4 k l lp (by rw[Z,V,Zr,Zr]);rw[A,ej]at tie;omega
theorem pig:∀(N T:Nat)(f:Nat->Nat),(∀i,i<=T->f i<N)->(∀i j,i<j->j<=T->f i≠f j)->T<N
 |0,T,f,h,_=>absurd (h 0 (Yd _)) (by lia)
 |N+1,T,f,h,c=>by
  by_cases q:∃i,i<=T/\f i=N
  ·obtain⟨a,e,m⟩:=q;cases T with
   |zero=>lia
   |succ T =>
    have g:∀i,i<=T->skip a i<=T+1:=λi d=>by unfold skip;grind
    have n:∀i,skip a i≠a:=λi=>by unfold skip;grind
    have k:∀i j,i<j->skip a i<skip a j:=λi j b=>by unfold skip;grind
    have:=pig N T (λi=>f (skip a i)) (λi d=>by
     grind) λi j b l=>c _ _ (k i j b) (g j l)
    lia
  ·have:=pig N T f (λi d=>by
    grind) c
   lia
def enc(B:Nat)(st:Nat->Nat):Nat->Nat
 |0=>0
 |k+1=>enc B st k+st k*B^k
theorem qzt:∀{m:Nat},(∀k,k<m->st k<B)->enc B st m<B^m
 |0,_=>by simp[enc]
 |m+1,h=>by
  have a:=qzt (B:=B) (st:=st) (m:=m) λk c=>h k (by lia);have b:=h m (by lia);show enc B st m+st m*B^m<B^(m+1);rw[Nat.pow_succ,Qbq (B^m) B];have:(st m+1)*B^m<=B*B^m:=Qbb _ (by lia);grind
theorem zgr:∀{m:Nat},(∀k,k<m->st k<B)->(∀k,k<m->st' k<B)->enc B st m=enc B st' m ->∀k,k<m->st k=st' k
 |0,_,_,_,k,b=>by lia
 |m+1,h,c,e,k,b=>by
  have a:=qzt (B:=B) (st:=st) (m:=m) λk b=>h k (by lia);have d:=qzt (B:=B) (st:=st') (m:=m) λk b=>c k (by lia);have e:enc B st m+st m*B^m=enc B st' m+st' m*B^m:=e;have top:st m=st' m:=by
   grind[Qbq,Nat.add_mul_div_left,Qfv]
  by_cases q:k=m
  ·grind
  ·rw[top]at e;exact zgr (m:=m) (λk b=>h k (by lia)) (λk b=>c k (by lia)) (by lia) k (by lia)
structure Run(m n:Nat)(col:Nat->Nat->Int)(T:Nat)(b:Nat->Sta)(cs rs:Nat->Nat):Prop where
 good:Good m n col (b 0)
 low:∀k,k<m -> -(m:Int)<=(b 0).st k
 step:∀τ,τ<T->Stp m n (b τ) (cs τ) (rs τ) (b (τ+1))
theorem Run.at{cs rs:Nat->Nat}(h:Run m n col T b cs rs):∀a,a<=T->Good m n col (b a) /\ ∀k,k<m -> -(m:Int)<=(b a).st k
 |0,_=>⟨h.good,h.low⟩
 |a+1,c=>by
  obtain⟨g,l⟩:=h.at a (by omega);have s:=h.step a (by omega);refine⟨(g.next s).1,λk d=>?_⟩;rw[s.st];grind
theorem Run.short{cs rs:Nat->Nat}(h:Run m n col T b cs rs):T<(n+m)^m:=by
 refine pig ((n+m)^m) T (fun a=>enc (n+m) (λk=>((b a).st k+m).toNat) m) (λi d=>?_) λi j f o e=>?_
 ·obtain⟨g,l⟩:=h.at i d;exact qzt λk c=>by have:=g.top k c;grind
 ·obtain⟨g,l⟩:=h.at i (by lia);obtain⟨p,r⟩:=h.at j o;have s:=zgr (λk c=>by have:=g.top k c;grind) (λk c=>by have:=p.top k c;grind) e;refine xdg (b:=fun a=>b (i+a)) (cs:=fun a=>cs (i+a)) (rs:=fun a=>rs (i+a)) (T:=j-i) (by lia) g (fun a q=>h.step (i+a) (by lia)) λk c=>?_;grind
theorem Run.snoc{cs rs:Nat->Nat}(h:Run m n col T b cs rs)(s:Stp m n (b T) c r b'):
 Run m n col (T+1) (fun a=>if a<=T then b a else b') (fun a=>if a<T then cs a else c) (fun a=>if a<T then rs a else r) where
  good:=by rw[if_pos (Yd _)];exact h.good
  low:=by rw[if_pos (Yd _)];exact h.low
  step:=fun a d=>by
   by_cases q:a<T
   ·rw[if_pos (by lia),if_pos q,if_pos q,if_pos (by lia)];exact h.step a q
   grind
theorem Good.fits(h:Good m n col b)(f:lack m b (n+m)=0)(c:x<m):
 b.d*col (n+m) x=qo m λk=>if b.st k<0 then 0 else b.L k (n+m)*col (b.st k).toNat x:=by
  rw[h.brd.hI (n+m) x c];refine qj λk a=>?_;by_cases q:b.st k<0
  ·rw[if_pos q];have:b.L k (n+m)=0:=by
    have j:=h.sum k a;by_cases g:b.L k (n+m)=0
    ·exact g
    ·exfalso;have:0<lack m b (n+m):=by
      unfold lack;have e:(qo m λi=>if b.st i<0 then b.L i (n+m)else 0)=(qo m λi=>if i=k then b.L k (n+m)else 0)+qo m λi=>if i=k then 0 else if b.st i<0 then b.L i (n+m)else 0:=by
       rw[<- qep];grind
      rw[e,qQ a λi _ z=>if_neg z,if_pos rfl];have:0<=qo m λi=>if i=k then 0 else if b.st i<0 then b.L i (n+m)else 0:=qgc λi d=>by
       by_cases z:i=k
       ·grind
       ·rw[if_neg z];by_cases y:b.st i<0
        ·rw[if_pos y];exact h.sum i d
        grind
      lia
     lia
   grind
  ·rw[if_neg q];unfold Bas;rw[if_neg q]
theorem zmq(h:0<lack m b c):∃k,k<m/\0<b.L k c:=by
 obtain⟨k,a,z⟩:=qtj h;grind
theorem qtl:∀{n:Nat},(∀i,i<n->(f i).natAbs<=C)->(qo n f).natAbs<=n*C
 |0,_=>by simp[qo]
 |n+1,h=>by
  have a:=qtl (f:=f) (C:=C) (n:=n) λi c=>h i (by lia);have b:=h n (by lia);show(qo n f+f n).natAbs<=_;rw[Nat.add_mul,Nat.one_mul];have:=Int.natAbs_add_le (qo n f) (f n);lia
def fct:Nat->Nat
 |0=>1
 |n+1=>(n+1)*fct n
theorem qzc:∀{m:Nat}{a:Nat->Nat->Int},(∀x y,x<m->y<m->(a x y).natAbs<=M)->(det m a).natAbs<=fct m*M^m
 |0,_,_=>by simp[det,fct]
 |m+1,a,h=>by
  show(qo (m+1) _).natAbs<=(m+1)*fct m*M^(m+1);have e:(m+1)*fct m*M^(m+1)=(m+1)*(M*(fct m*M^m)):=by grind
  rw[e];refine qtl λi b=>?_;have d:=qzc (M:=M) (m:=m) (a:=λx y=>a (skip i x) (y+1)) λx y c f=>h _ _ (qzh c) (by lia);have s:(sgn i).natAbs=1:=by unfold sgn;split <;> rfl
  rw[Qev,Qev,s,Nat.one_mul];exact Yp (h i 0 b (by lia)) d
theorem qaz(f:Nat->Int):∀n:Nat,((Qm n).map f).sum=qo n f
 |0=>rfl
 |n+1=>by rw[Jw,Zo,Jx,qaz f n];simp[qo]
theorem qtv(c:0<B)(f:0<q)(a:B∣d)(b:q∣d):0<B*q/(Yy B q:Int)/\B*q/(Yy B q:Int)∣d/\B∣B*q/(Yy B q:Int)/\q∣B*q/(Yy B q:Int):=by
 obtain⟨x,rfl⟩:=Vf (Jh c);obtain⟨y,rfl⟩:=Vf (Jh f);have e:(x:Int)*(y:Int)/(Yy x y:Int)=((Nat.lcm x y:Nat):Int):=by
  unfold Nat.lcm;rw[Int.gcd_natCast_natCast,Qfw,Qan]
 rw[e];have p:0<Nat.lcm x y:=Nat.lcm_pos (by lia) (by lia);refine⟨by lia,?_,J8.mpr (Nat.dvd_lcm_left x y),J8.mpr (Nat.dvd_lcm_right x y)⟩;rw[Qip]at a b ⊢;exact Nat.lcm_dvd a b
structure ShW(p q:Int):Prop where
 s:Shr p q
 b1:intBits p<=4000
 b2:intBits q<=4000
theorem ShW.bot{p q r s:Int}(h:ShW p q)(k:ShW r s):q*s≠0/\intBits (q*s)<=9000:=by
 have a:=h.s.pos;have b:=k.s.pos;have:=Za (show 0<q by lia) (show 0<s by lia);exact⟨by lia,qp (Yv h.b2 k.b2) (by decide)⟩
theorem qkc(a:b≠0)(c:intBits t<=4000)(d:intBits b<=4000):ShW (shT t b) (shB t b):=⟨(qcc a).1,qdr c,qjb d⟩
structure CmpPre(b:Int)(R:LL)(m:Nat)(c:Int)(S:LL)(n:Nat):Prop where
 r:Tab b R m
 s:Tab c S n
 l:R.length=S.length
 w1:1<=R.length
 w2:R.length<=4
 m1:1<=m
 m2:m<=4
 n1:1<=n
 n2:n<=4
 zb:b<=20000000
 zc:c<=20000000
def qcu(r:LI)(j n:Nat):LI:=(Qm (r.length*n)).map λp=>if p%n=j then(r[p/n]?).getD 0 else 0
def qnl(b:Int)(i m n:Nat):LI:=(Qm (m*n)).map λp=>if p/n=i then b else 0
def eqL(b:Int)(R:LL)(m n:Nat):LL:=(R.map λr=>(Qm n).map λj=>qcu r j n).flatten++(Qm m).map λi=>qnl b i m n
def qgb(S:LL)(c:Int)(m:Nat):LI:=S.flatten++(Qm m).map λ_=>c
theorem qbg{a:Type}:∀{L:List (List a)},(∀l∈L,l.length=n)->L.flatten.length=L.length*n
 |[],_=>by simp
 |l::L,h=>by
  rw[Ju,Y2,qbg λx b=>h x (Qk _ b),h l (by simp),Zg,Qgt];lia
theorem qte{b:Type}:∀{L:List (List b)}{s j:Nat},(∀l∈L,l.length=n)->j<n->L.flatten[s*n+j]?=(L[s]?).bind λl=>l[j]?
 |[],s,j,_,_=>by simp
 |l::L,0,j,h,a=>by
  grind
 |l::L,s+1,j,h,a=>by
  have e:=h l (by simp);rw[Ju,Yj (by grind),e,show(s+1)*n+j-n=s*n+j by grind,qte (λx c=>h x (Qk _ c)) a];rfl
theorem qmn(f:Nat->Int)(a:Nat):∀b:Nat,qo (a+b) f=qo a f+qo b λj=>f (a+j)
 |0=>by show qo a f=qo a f+0;lia
 |b+1=>by
  show qo (a+b) f+f (a+b)=qo a f+(qo b (λj=>f (a+j))+f (a+b));rw[qmn f a b];lia
theorem qfe(f:Nat->Int)(n:Nat):∀m:Nat,qo (m*n) f=qo m λi=>qo n λj=>f (i*n+j)
 |0=>by rw[Nat.zero_mul];rfl
 |m+1=>by
  rw[Qgt,qmn,qfe f n m];rfl
theorem zbg{i j n:Nat}(a:j<n):(i*n+j)/n=i/\(i*n+j)%n=j:=by
 refine⟨?_,?_⟩
 ·rw[Qbq,Nat.mul_add_div (by lia),Qfv a,Nat.add_zero]
 ·rw[Qbq,Nat.mul_add_mod,Qkl a]
theorem qfo{i j m n:Nat}(a:i<m)(b:j<n):i*n+j<m*n:=by
 have:=Qbb n a;grind
theorem qmv(a:i<r.length)(b:j'<n):((qcu r j n)[i*n+j']?).getD 0=if j'=j then(r[i]?).getD 0 else 0:=by
 unfold qcu;rw[Qa,Qo (qfo a b)];grind[zbg]
theorem qri(a:i'<m)(c:j'<n):((qnl b i m n)[i'*n+j']?).getD 0=if i'=i then b else 0:=by
 unfold qnl;rw[Qa,Qo (qfo a c)];grind[zbg]
section
variable{b:Int}{R:LL}{m:Nat}{c:Int}{S:LL}{n:Nat}
theorem qda(R:LL)(n:Nat):∀l∈R.map λr=>(Qm n).map λj=>qcu r j n,l.length=n:=λl a=>by
 grind
theorem qjx(b:Int)(R:LL)(m n:Nat):(eqL b R m n).length=R.length*n+m:=by
 unfold eqL;rw[Y2,qbg (qda R n),Qe,Qe,Z1]
theorem zkc(h:CmpPre b R m c S n):(qgb S c m).length=R.length*n+m:=by
 unfold qgb;rw[Y2,qbg h.s.len,Qe,Z1,h.l]
theorem qmt(a:s<R.length)(c:j<n):(eqL b R m n)[s*n+j]?=some (qcu ((R[s]?).getD []) j n):=by
 unfold eqL;rw[Zv (by rw[qbg (qda R n),Qe];exact qfo a c),qte (qda R n) c,Qa,Qc a];grind
theorem qrh(a:i<m):(eqL b R m n)[R.length*n+i]?=some (qnl b i m n):=by
 unfold eqL;rw[Yj (by rw[qbg (qda R n),Qe];lia),qbg (qda R n),Qe,show R.length*n+i-R.length*n=i by lia,Qa,Qo a];rfl
theorem qrp(h:CmpPre b R m c S n)(e:s<R.length)(d:j<n):((qgb S c m)[s*n+j]?).getD 0=at2 S s j:=by
 have a:s<S.length:=by rw[<- h.l];exact e
 unfold qgb at2;rw[Zv (by rw[qbg h.s.len];exact qfo a d),qte h.s.len d,Qc a];rfl
theorem qwj(h:CmpPre b R m c S n)(a:i<m):((qgb S c m)[R.length*n+i]?).getD 0=c:=by
 unfold qgb;rw[Yj (by rw[qbg h.s.len,h.l];lia),qbg h.s.len,h.l,show S.length*n+i-S.length*n=i by lia,Qa,Qo a];rfl
theorem qsq(h:CmpPre b R m c S n)(a:s<R.length):((R[s]?).getD []).length=m:=by
 rw[Qc a];exact h.r.len _ (Ze a)
theorem zpl(h:CmpPre b R m c S n)(e:s<R.length)(a:j<n)(X:Nat->Int):(qo (m*n) λu=>at2 (eqL b R m n) (s*n+j) u*X u)=qo m λi=>at2 R s i*X (i*n+j):=by
 rw[qfe];refine qj λi g=>?_;rw[qQ a λf d ne=>?_]
 ·show((((eqL b R m n)[s*n+j]?).getD [])[i*n+j]?).getD 0*_=_;rw[qmt e a];show((qcu ((R[s]?).getD []) j n)[i*n+j]?).getD 0*_=_;rw[qmv (by grind[qsq]) a,if_pos rfl];rfl
 ·show((((eqL b R m n)[s*n+j]?).getD [])[i*n+f]?).getD 0*_=_;rw[qmt e a];show((qcu ((R[s]?).getD []) j n)[i*n+f]?).getD 0*_=_;rw[qmv (by grind[qsq]) d,if_neg ne,Zr]
theorem zut(a:i<m)(X:Nat->Int):(qo (m*n) λu=>at2 (eqL b R m n) (R.length*n+i) u*X u)=b*qo n λj=>X (i*n+j):=by
 rw[qfe,qQ a λe c ne=>?_,<- qy]
 ·refine qj λj d=>?_;show((((eqL b R m n)[R.length*n+i]?).getD [])[i*n+j]?).getD 0*_=_;rw[qrh a];show((qnl b i m n)[i*n+j]?).getD 0*_=_;rw[qri a d,if_pos rfl]
 ·refine qao λj d=>?_;show((((eqL b R m n)[R.length*n+i]?).getD [])[e*n+j]?).getD 0*_=_;rw[qrh a];show((qnl b i m n)[e*n+j]?).getD 0*_=_;rw[qri c d,if_neg ne,Zr]
theorem zjk(h:x∈qcu r j n):x=0\/x∈r:=by
 obtain⟨p,_,rfl⟩:=Ql.mp h;grind
theorem zvi(h:CmpPre b R m c S n):SvPre (m*n) (eqL b R m n) (qgb S c m):=by
 have o:=h.r.pos;have s:=h.s.pos;have t:=Yp h.m2 h.n2;have u:=Yp h.w2 h.n2;have v:=h.m1;have w:=h.m2;have k:=Yp h.m1 h.n1;have y:=h.zb;have z:=h.zc;refine⟨⟨by rw[zkc h,qjx],λr d=>?_,by lia,by rw[qjx];lia⟩,by lia,by rw[qjx];lia,λr d x a=>?_,λx a=>?_⟩
 ·unfold eqL at d;rcases Zh.mp d with q|q
  ·obtain⟨l,e,q⟩:=Qbj.mp q;obtain⟨g,f,rfl⟩:=Ql.mp e;obtain⟨j,_,rfl⟩:=Ql.mp q;simp[qcu,h.r.len g f]
  ·obtain⟨i,_,rfl⟩:=Ql.mp q;simp[qnl]
 ·unfold eqL at d;rcases Zh.mp d with q|q
  ·obtain⟨l,e,q⟩:=Qbj.mp q;obtain⟨g,f,rfl⟩:=Ql.mp e;obtain⟨j,_,rfl⟩:=Ql.mp q;rcases zjk a with rfl|a
   ·decide
   ·have:=h.r.le f a;lia
  ·obtain⟨i,_,rfl⟩:=Ql.mp q;obtain⟨p,_,rfl⟩:=Ql.mp a;split <;> lia
 ·unfold qgb at a;rcases Zh.mp a with q|q
  ·obtain⟨l,e,q⟩:=Qbj.mp q;have:=h.s.le e q;lia
  ·obtain⟨_,_,rfl⟩:=Ql.mp q;lia
structure Dul(b:Int)(R:LL)(m:Nat)(c:Int)(S:LL)(n:Nat)(B:Int)(D:LL):Prop where
 t:Tab B D n
 l:D.length=m
 e:∀s j,s<R.length->j<n->c*(qo m λi=>at2 R s i*at2 D i j)=at2 S s j*b*B
structure Dls(b:Int)(R:LL)(m:Nat)(c:Int)(S:LL)(n:Nat)(B:Int)(D:LL):Prop where
 u:Dul b R m c S n B D
 g:qaa D=1
 z:intBits B<=3000
structure Dcs(b:Int)(R:LL)(m:Nat)(c:Int)(S:LL)(n:Nat)(W:LL):Prop where
 l:W.length=R.length
 w:∀r∈W,r.length=n
 v:∃v:Nat->Int,(∀i j,i<m->j<n->(qo R.length λs=>at2 R s i*at2 W s j)+b*v i<=0)/\0<(qo R.length λs=>qo n λj=>at2 S s j*at2 W s j)+c*qo m v
def qL{a:Type}(l:List a)(n w:Nat):List (List a):=(Qm w).map λk=>(l.drop (k*n)).take n
theorem qdx{l:List α}{n w k:Nat}(a:k<w):(qL l n w)[k]?=some ((l.drop (k*n)).take n):=by
 unfold qL;rw[Qa,Qo a];rfl
theorem zgu{a:Type}{l:List a}(b:j<n):((l.drop (k*n)).take n)[j]?=l[k*n+j]?:=by
 grind
theorem qws{n w k j:Nat}(a:k<w)(b:j<n):at2 (qL l n w) k j=(l[k*n+j]?).getD 0:=by
 unfold at2;rw[qdx a];show(((l.drop (k*n)).take n)[j]?).getD 0=_;rw[zgu b]
theorem zoh(h:CmpPre b R m c S n)(z:zry (m*n) (eqL b R m n) (qgb S c m) ws):Dcs b R m c S n (qL ws n R.length):=by
 obtain⟨w,x,o⟩:=z;rw[qjx]at w x o;have l:∀k,k<R.length->((ws.drop (k*n)).take n).length=n:=λk p=>by
  rw[Vm,Qbi,w];have B:=h.n1;have a:=qfo (i:=k) (j:=n-1) (m:=R.length) (n:=n) p (by lia);lia
 refine⟨by simp[qL],λr A=>?_,λi=>(ws[R.length*n+i]?).getD 0,λi j e d=>?_,?_⟩
 ·obtain⟨k,p,rfl⟩:=Ql.mp A;exact l k (Zi.mp p)
 ·have:=x (i*n+j) (qfo e d);rw[qmn,qfe]at this;have q:(qo R.length λs=>qo n λf=>at2 (eqL b R m n) (s*n+f) (i*n+j)*(ws[s*n+f]?).getD 0)=qo R.length λs=>at2 R s i*at2 (qL ws n R.length) s j:=qj λs g=>by
   rw[qQ d λf t ne=>?_]
   ·rw[qws g d];show((((eqL b R m n)[s*n+j]?).getD [])[i*n+j]?).getD 0*_=_;rw[qmt g d];show((qcu ((R[s]?).getD []) j n)[i*n+j]?).getD 0*_=_;rw[qmv (by rw[qsq h g];exact e) d,if_pos rfl];rfl
   ·show((((eqL b R m n)[s*n+f]?).getD [])[i*n+j]?).getD 0*_=_;rw[qmt g t];show((qcu ((R[s]?).getD []) f n)[i*n+j]?).getD 0*_=_;rw[qmv (by rw[qsq h g];exact e) d,if_neg (Z9 ne),Zr]
  have u:(qo m λf=>at2 (eqL b R m n) (R.length*n+f) (i*n+j)*(ws[R.length*n+f]?).getD 0)=b*(ws[R.length*n+i]?).getD 0:=by
   rw[qQ e λy v ne=>?_]
   ·show((((eqL b R m n)[R.length*n+i]?).getD [])[i*n+j]?).getD 0*_=_;rw[qrh e];show((qnl b i m n)[i*n+j]?).getD 0*_=_;rw[qri e d,if_pos rfl]
   ·show((((eqL b R m n)[R.length*n+y]?).getD [])[i*n+j]?).getD 0*_=_;rw[qrh v];show((qnl b y m n)[i*n+j]?).getD 0*_=_;rw[qri e d,if_neg (Z9 ne),Zr]
  rw[q,u]at this;exact this
 ·rw[qmn,qfe]at o;have q:(qo R.length λs=>qo n λj=>((qgb S c m)[s*n+j]?).getD 0*(ws[s*n+j]?).getD 0)=qo R.length λs=>qo n λj=>at2 S s j*at2 (qL ws n R.length) s j:=qj λs g=>qj λj d=>by
   rw[qrp h g d,qws g d]
  have u:(qo m λi=>((qgb S c m)[R.length*n+i]?).getD 0*(ws[R.length*n+i]?).getD 0)=c*qo m λi=>(ws[R.length*n+i]?).getD 0:=by
   rw[<- qy];exact qj λi e=>by rw[qwj h e]
  rw[q,u]at o;exact o
structure LcmB(V:List (List (Int×Int)))(B:Int):Prop where
 pos:0<B
 dv:∀r∈V,∀x∈r,x.2∣B
 un:∀d:Int,(∀r∈V,∀x∈r,x.2∣d)->B∣d
def qak(B:Int)(r:List (Int×Int)):LI:=r.map λx=>x.1*(B/x.2)
theorem ztl{V:List (List (Int×Int))}(h:LcmB V B)(f:∀r∈V,∀x∈r,Shr x.1 x.2)(i:0<g)(j:g∣B)(l:∀r∈V,∀y∈qak B r,g∣y):g=1:=by
 obtain⟨t,e⟩:=j;have p:=h.pos;have d:0<t:=by
  rcases Zk 0 t with q|q
  ·exact q
  ·have:=Q2 (Jh i) (show 0 <= -t by lia);grind
 have m:=h.un t λr a x b=>by
  have s:=f r a x b;obtain⟨k,n⟩:=l r a _ (Ql.mpr ⟨x,b,rfl⟩);obtain⟨u,o⟩:=h.dv r a x b;have q0:x.2≠0:=by grind
  rw[o,V1 _ q0]at n;refine qyc s.gcd ⟨k,?_⟩;have:g*(x.1*t)=g*(x.2*k):=by
   grind
  grind[Zz]
 have c:=Qlp d m;rw[e]at c;rcases Zk 1 g with q|q
 ·have:=Z2 q d;lia
 ·lia
def qai(b c:Int)(x:Int×Int):Int×Int:=(shT (x.1*shT b c) (x.2*shB b c),shB (x.1*shT b c) (x.2*shB b c))
theorem qse(e:0<b)(k:0<c)(f:Shr x.1 x.2):Shr (qai b c x).1 (qai b c x).2/\(qai b c x).1*(x.2*c)=x.1*b*(qai b c x).2/\(qai b c x).2∣x.2*c:=by
 obtain⟨a,g⟩:=qcc (t:=b) (b:=c) (by lia);have h:=f.pos;have q0:x.2*shB b c≠0:=by
  have:=Za (show 0<x.2 by lia) (show 0<shB b c by have:=a.pos;lia);lia
 obtain⟨i,d⟩:=qcc (t:=x.1*shT b c) (b:=x.2*shB b c) q0;refine⟨i,?_,?_⟩
 ·have j:shT b c≠0:=by
   intro z;rw[z,Zr]at g;have:=Za e (show 0<shB b c by have:=a.pos;lia);lia
  have l:shB b c≠0:=by grind
  show shT (x.1*shT b c) (x.2*shB b c)*(x.2*c)=x.1*b*shB (x.1*shT b c) (x.2*shB b c);generalize shT (x.1*shT b c) (x.2*shB b c)=P at d;generalize shB (x.1*shT b c) (x.2*shB b c)=Q at d;generalize shT b c=t at *;generalize shB b c=u at *;have:u*(P*(x.2*c))=u*(x.1*b*Q):=by
   grind
  grind[Zz]
 ·refine Vu (b:=x.2*shB b c) ⟨cm (x.1*shT b c) (x.2*shB b c),?_⟩ ?_
  ·exact(qjq _ _).symm.trans (Zp _ _)
  ·exact Qgu (Qjq _) ⟨cm b c,(qjq _ _).symm.trans (Zp _ _)⟩
theorem zoc{V:List (List (Int×Int))}(h:V[i]?=some r):at2 (V.map f) i j=((f r)[j]?).getD 0:=by
 unfold at2;rw[Qa,h];rfl
theorem ztv(h:CmpPre b R m c S n)(hv:zwz (m*n) (eqL b R m n) (qgb S c m) vs)(K:LcmB (qL (vs.map (qai b c)) n m) B):
 Dls b R m c S n B ((qL (vs.map (qai b c)) n m).map (qak B)):=by
  obtain⟨Z,d,d0,zd,C,he⟩:=hv;have hb:=h.r.pos;have hc:=h.s.pos;have n1:=h.n1;have D:∀i j,i<m->j<n ->∃x,vs[i*n+j]?=some x/\x∈vs:=λi j q l=>by
   have e:vs[i*n+j]?=some (vs[i*n+j]'(by rw[Z];exact qfo q l)):=Qc _;grind
  have o:∀r∈qL (vs.map (qai b c)) n m,r.length=n /\ ∀y∈r,∃x∈vs,y=qai b c x:=λr f=>by
   obtain⟨k,O,rfl⟩:=Ql.mp f;have O:=Zi.mp O;refine⟨?_,λy u=>?_⟩
   ·rw[Vm,Qbi,Qe,Z];have a:=qfo (i:=k) (j:=n-1) (m:=m) (n:=n) O (by lia);lia
   grind
  have E:∀r∈qL (vs.map (qai b c)) n m,∀y∈r,Shr y.1 y.2/\0<=y.1:=λr f y u=>by
   obtain⟨x,p,rfl⟩:=(o r f).2 y u;obtain⟨w,q2,_,_⟩:=C x p;obtain⟨L,g2,_⟩:=qse (show 0<b by lia) (show 0<c by lia) w;refine⟨L,?_⟩;have e0:0<=x.1*b*(qai b c x).2:=Q2 (Q2 q2 (by lia)) (by have:=L.pos;lia);rw[<- g2]at e0;have p0:0<x.2*c:=Za (by have:=w.pos;lia) (by lia);rcases Zk (qai b c x).1 0 with z|z
   ·have:=Z7 z p0;lia
   ·exact z
  have Bd:=K.un _ λr f y u=>by
   obtain⟨x,p,rfl⟩:=(o r f).2 y u;obtain⟨w,_,q3,_⟩:=C x p;exact Vu (qse (show 0<b by lia) (show 0<c by lia) w).2.2 (Qgu q3 (Qjq _))
  have B0:=K.pos;have F:∀i j,i<m->j<n->at2 ((qL (vs.map (qai b c)) n m).map (qak B)) i j*(d*c)=B*b*(((vs[i*n+j]?).getD (0,1)).1*(d/((vs[i*n+j]?).getD (0,1)).2)):=λi j q l=>by
   obtain⟨x,ex,p⟩:=D i j q l;obtain⟨w,q2,⟨e,G⟩,_⟩:=C x p;obtain⟨L,g2,_⟩:=qse (show 0<b by lia) (show 0<c by lia) w;have u:((vs.map (qai b c)).drop (i*n)).take n∈qL (vs.map (qai b c)) n m:=Qh (qdx q);have ey:(((vs.map (qai b c)).drop (i*n)).take n)[j]?=some (qai b c x):=by rw[zgu l,Qa,ex];rfl
   obtain⟨t,ht⟩:=K.dv _ u _ (Qh ey);rw[zoc (qdx q),ex];unfold qak;rw[Qa,ey];show(qai b c x).1*(B/(qai b c x).2)*(d*c)=B*b*(x.1*(d/x.2));have y0:(qai b c x).2≠0:=by have:=L.pos;lia
   have x0:x.2≠0:=by have:=w.pos;lia
   have T:B/(qai b c x).2=t:=by rw[ht,V1 _ y0]
   have M:d/x.2=e:=by rw[G,V1 _ x0]
   rw[T,M,ht,G];generalize (qai b c x).1=P at *;generalize (qai b c x).2=Q at *
   calc P*t*(x.2*e*c)=(P*(x.2*c))*(t*e):=by grind
    _=(x.1*b*Q)*(t*e):=by rw[g2]
    _=Q*t*b*(x.1*e):=by grind
  have U:d*c≠0:=by have:=Za d0 (show 0<c by lia);lia
  have g:∀r∈(qL (vs.map (qai b c)) n m).map (qak B),r.length=n:=λr f=>by
   obtain⟨V,W,rfl⟩:=Ql.mp f;unfold qak;rw[Qe];exact(o V W).1
  have H:∀r∈(qL (vs.map (qai b c)) n m).map (qak B),∀x∈r,0<=x:=λr f x X=>by
   obtain⟨V,W,rfl⟩:=Ql.mp f;obtain⟨y,u,rfl⟩:=Ql.mp X;obtain⟨s1,s2⟩:=E V W y u;exact Q2 s2 (Qgs (by lia) (by have:=s1.pos;lia))
  have v:∀r∈(qL (vs.map (qai b c)) n m).map (qak B),r.sum=B:=λr f=>by
   obtain⟨i,q⟩:=Qdo f;have A:i<m:=by
    have:=(Qp.mp q).1;simpa[qL]using this
   have er:r.sum=qo n λj=>at2 ((qL (vs.map (qai b c)) n m).map (qak B)) i j:=by
    have T:r=(Qm n).map λj=>at2 ((qL (vs.map (qai b c)) n m).map (qak B)) i j:=by
     refine Zt λj=>?_;rw[Qa];by_cases l:j<n
     ·rw[Qo l,Qc (by rw[g r f];exact l)];unfold at2;rw[q];simp[g r f,l]
     ·rw[Q5 (by rw[g r f];lia),Q5 (by simp;lia)];rfl
    have M:=qaz (λj=>at2 ((qL (vs.map (qai b c)) n m).map (qak B)) i j) n;rw[<- T]at M;exact M
   have I:=he (R.length*n+i) (by rw[qjx];lia);rw[zut A,qwj h A]at I;have N:(d*c)*r.sum=(d*c)*B:=by
    rw[er,<- qy];have:(qo n λj=>d*c*at2 ((qL (vs.map (qai b c)) n m).map (qak B)) i j)=qo n λj=>(B*b)*(((vs[i*n+j]?).getD (0,1)).1*(d/((vs[i*n+j]?).getD (0,1)).2)):=qj λj l=>by
     rw[Zp (d*c),F i j A l]
    rw[this,qy,J9 B b,<- I,Zp]
   exact Zz U N
  refine⟨⟨⟨by lia,g,H,v⟩,by simp[qL],λs j Y l=>?_⟩,?_,?_⟩
  rotate_left
  ·have hT:Tab B ((qL (vs.map (qai b c)) n m).map (qak B)) n:=⟨by lia,g,H,v⟩
   have J:(qL (vs.map (qai b c)) n m).map (qak B)≠[]:=λz=>by
    have:=congrArg Qcu z;simp[qL]at this;have:=h.m1;lia
   have g0:=hT.gpos J;have:=ztl K (λr f x C=>(E r f x C).1) (show(0:Int)<qaa ((qL (vs.map (qai b c)) n m).map (qak B)) by lia) (hT.gdvd J) λr f y u=>qhf (Ql.mpr ⟨r,f,rfl⟩) u;lia
  ·refine Ys (Qau ?_ (Vc.mpr Bd)) (qp (Yv zd (qbr (x:=c) (by lia) (by have:=h.zc;lia))) (by decide));lia
  ·have I:=he (s*n+j) (by rw[qjx];have:=qfo (m:=R.length) Y l;lia);rw[zpl h Y l,qrp h Y l]at I;have:d*(c*qo m λi=>at2 R s i*at2 ((qL (vs.map (qai b c)) n m).map (qak B)) i j)=d*(at2 S s j*b*B):=by
    have N:(qo m λi=>(d*c)*(at2 R s i*at2 ((qL (vs.map (qai b c)) n m).map (qak B)) i j))=qo m λi=>(B*b)*(at2 R s i*(((vs[i*n+j]?).getD (0,1)).1*(d/((vs[i*n+j]?).getD (0,1)).2))):=qj λi q=>by
     have k:=F i j q l
     calc (d*c)*(at2 R s i*at2 ((qL (vs.map (qai b c)) n m).map (qak B)) i j)=at2 R s i*(at2 ((qL (vs.map (qai b c)) n m).map (qak B)) i j*(d*c)):=by grind
      _=_:=by rw[k];grind
    rw[qy,qy,<- I]at N;rw[<- J9,N];grind
   exact Zz (by lia) this
end
def dS(x:Int×Int):Qj:=dSh x.1 x.2
theorem shG{vs:List (Int×Int)}{i:Nat}(h:(vs.map dS)[i]?=some x):∃y,vs[i]?=some y/\x=dSh y.1 y.2:=by
 rw[Qa]at h;cases q:vs[i]? with
 |none=>grind
 |some y=>rw[q]at h;exact⟨y,rfl,(Qr h).symm⟩
theorem zmf(h:x∣d)(a:0<d)(z:intBits d<=m):intBits x<=m :=
 Ys (Qau (by omega) (Vc.mpr h)) z
def xdb(d:Qj)(V:List (List (Int×Int))):Prop :=∃l,qbf d=some l/\l.length=V.length /\ ∀(i:Nat)(x:Qj),l[i]?=some x ->∃r:List (Int×Int),V[i]?=some r/\qbf x=some (r.map dS)
structure LcmL(xs:List (Int×Int))(B:Int):Prop where
 pos:0<B
 dv:∀x∈xs,x.2∣B
 un:∀d:Int,(∀x∈xs,x.2∣d)->B∣d
theorem LcmL.nil:LcmL [] 1:=⟨by decide,λx a=>by simp at a,λd _=>⟨d,by lia⟩⟩
theorem LcmL.snoc(h:LcmL xs B)(b:0<y.2):LcmL (xs++[y]) (B*y.2/(Yy B y.2:Int)):=by
 have k:=qtv (d:=B*y.2) h.pos b ⟨_,rfl⟩ ⟨B,Zp _ _⟩;refine⟨k.1,λx a=>?_,λd c=>(qtv h.pos b (h.un d λx a=>c x (Zh.mpr (.inl a))) (c y (by simp))).2.1⟩;rcases Zh.mp a with q|q
 ·exact Vu (h.dv x q) k.2.2.1
 grind
theorem LcmL.b{V:List (List (Int×Int))}(h:LcmL V.flatten B):LcmB V B :=
 ⟨h.pos,λr b x a=>h.dv x (Qbj.mpr ⟨r,b,a⟩),λd c=>h.un d λx a=>by
  obtain⟨r,b,a⟩:=Qbj.mp a;grind⟩
theorem xcp{V:List (List (Int×Int))}(h:V[i]?=some r):(V.take (i+1)).flatten=(V.take i).flatten++r:=by
 rw[Z0,h];simp
theorem xct{b:Type}{a:List b}{z:b}(h:a[i]?=some z):a.take (i+1)=a.take i++[z]:=by
 rw[Z0,h];rfl
def ztr(b:Int)(R:LL)(m:Nat)(c:Int)(S:LL)(n:Nat)(q:Qj->Prop):Prop :=
 (∀B D,Dls b R m c S n B D->q (.tuple [.str "dulls",qU B D])) /\ ∀W,Dcs b R m c S n W->q (.tuple [.str Ua,.tuple (W.map qfv)])
def qio(ds:List Qj)(q:Qj->Prop):Prop :=∃(d:Qj)(r:List (Int×Int))(B:Int),ds=[d,.int B]/\(qbf d=some (r.map dS)/\r.length<=900/\(∀x∈r,Shr x.1 x.2/\intBits x.1<=4000/\x.2∣B)/\0<B/\intBits B<=4000)/\q (qfv (qak B r))
theorem qqh:FnScope [Se,Sb] [Se,Sb] (defScope qkf):=sc0
theorem qqi(F:Def K mg "over_bottom" qkf [Se,Sb])(T:Txt K mg cs):Ok P w K mg base "over_bottom" 1 [Se,Sb] (PSp K qio):=by
  refine F.vok qqh (by rintro m q ⟨_,_,_,h,_⟩;rw[h];rfl) λf n A a s H E u m q h=>?_;obtain⟨d,r,B,rfl,⟨e,v,o,g,j⟩,h⟩:=h;refine⟨_,(qh (qw (qch qfq T.tuple_ L2.boot_tuple (qd (qC (qH (caps:=[Sb]) (own:=["part"]) (ix:=[1]) rfl ⟨rfl,rfl,rfl,rfl,rfl,rfl⟩ (qV (qc 0)) (λ_ _ _ _=>(ql (i:=1) (show Zb ([Sb,"part"]:List Str) by decide))) (λ_ _ _ _=>(qx qR (qr (qc 1) qf) (qx qjo (qc 0) (qr (qc 1) qf)))))) qe)))),?_⟩;refine qac e (qI ((qak B r).map .int) (by simp[qak]) (qm (by simp[qak];lia)) (λe =>∃s,e=[.val (.int B),s]) ⟨_,rfl⟩ ?_ h);rintro i x z e b c ⟨s,rfl⟩;obtain⟨y,k,rfl⟩:=shG b;obtain⟨p,t,l⟩:=o y (Qh k);have q0:=p.pos;refine⟨.int y.1,rfl,.int y.2,rfl,⟨by lia,qp (zmf l g j) (by decide)⟩,qcv t (zmf (x:=B/y.2) ⟨y.2,(Qib l).symm⟩ g j),qv ?_ c,_,rfl⟩;unfold qak;rw[Qa,Qa,k];rfl
def qct(ds:List Qj)(q:Qj->Prop):Prop :=∃(d:Qj)(V:List (List (Int×Int)))(a:Int),ds=[d]/\(xdb d V/\V.length<=900/\(∀r∈V,r.length<=900 /\ ∀x∈r,Shr x.1 x.2/\intBits x.1<=4000/\x.2∣a)/\0<a/\intBits a<=4000) /\ ∀B,LcmB V B->q (qU B (V.map (qak B)))
theorem qat:FnScope [Sh,Sb,Se,"part"] [Sh] (defScope qfx):=sc0
theorem qku(F:Def K mg SR qfx [Sh])(T:Txt K mg cs)(b:Ok P w K mg base SV 1 [Sc,Sa] (PSp K qcw))(a:Ok P w K mg base "over_bottom" 1 [Se,Sb] (PSp K qio)):Ok P w K mg base SR 2 [Sh] (PSp K qct):=by
  refine F.vok qat (by rintro S q ⟨_,_,_,h,_⟩;rw[h];rfl) λf U A u s H E g S q h=>?_;obtain⟨d,V,v,rfl,⟨⟨l,e,J,L⟩,hl,M,p,t⟩,h⟩:=h;refine⟨_,(qg (qz (i:=1) qat.nd qf)
   (qg (qau rfl (qV (qc 0)) (ql (i:=2) qat.nd) (qh (qau rfl (qV (qc 2)) (ql (i:=3) qat.nd) (qh (qz (i:=1) qat.nd (qx qjo (qx qR (qc 1) (qr (qc 3) qf)) (qt b.c g.m (qd (qc 1) (qd (qr (qc 3) qf) qe)))))))))
   (qh (qw (qck (qd (qc 1) (qd (qch qfq T.tuple_ L2.boot_tuple (qd (qC (qH (caps:=[Sb]) (own:=[Se]) (ix:=[1]) rfl ⟨rfl,rfl,rfl,rfl,rfl,rfl⟩ (qV (qc 0)) (λ_ _ _ _=>(ql (i:=1) (show Zb ([Sb,Se]:List Str) by decide))) (λ_ _ _ _=>(qt a.c g.m (qd (qc 1) (qd (qc 0) qe)))))) qe)) qe))))))),?_⟩
  refine qac e ⟨λi e =>∃C k B,e=[.val d,.val (.int B),C,k]/\LcmL (V.take i).flatten B/\B∣v,⟨_,_,_,rfl,by simpa using LcmL.nil,⟨v,by lia⟩⟩,?_,?_⟩
  ·rintro i x N m ⟨C,k,B,rfl,c,Bd⟩;obtain⟨r,g,D⟩:=L i x m;refine qac D ⟨λj e =>∃k B,e=[.val d,.val (.int B),.val x,k]/\LcmL ((V.take i).flatten++r.take j) B/\B∣v,⟨_,_,rfl,by simpa using c,Bd⟩,?_,?_⟩
   ·rintro j y e n ⟨k,B,rfl,c,Bd⟩;obtain⟨z,O,rfl⟩:=shG n;obtain⟨W,s2,Q⟩:=(M r (Qh g)).2 z (Qh O);have q0:=W.pos;have G:=c.pos;have X:(0:Int)<(Yy B z.2:Nat):=by have:=Qds B (show z.2≠0 by lia);lia
    refine⟨.int z.2,rfl,qcv (zmf Bd p t) (zmf Q p t),.int z.2,rfl,⟨X,qp (zmf (Vu (Qkj ..) Bd) p t) (by decide)⟩,_,_,rfl,?_,(qtv G (show 0<z.2 by lia) Bd Q).2.1⟩;rw[xct O,<- List.append_assoc];exact c.snoc (by lia)
   ·rintro e ⟨k,B,rfl,c,Bd⟩;refine⟨_,_,_,rfl,?_,Bd⟩;rw[Qe,Zm]at c;rw[xcp g];exact c
  rintro N ⟨C,k,B,rfl,c,Bd⟩;rw[J,Zm]at c;have o:=c.b;have G:=c.pos;have Y:=zmf Bd p t;refine qac e (qI ((V.map (qak B)).map qfv) (by simp[J]) (qm (by simp;lia)) (λe =>∃s,e=[.val (.int B),s]) ⟨_,rfl⟩ ?_ ⟨szl,h B o⟩);rintro i x ys N m I ⟨s,rfl⟩;obtain⟨r,g,D⟩:=L i x m;obtain⟨Z,R⟩:=M r (Qh g);refine⟨x,r,B,rfl,⟨D,Z,λy n=>⟨(R y n).1,(R y n).2.1,o.dv r (Qh g) y n⟩,G,Y⟩,qv ?_ I,_,rfl⟩;rw[Qa,Qa,g];rfl
def qgk(p n:Nat):LI:=(Qm n).map λk=>if k=p then 1 else 0
def qix(ds:List Qj)(q:Qj->Prop):Prop :=∃p n:Nat,ds=[.int p,.int n]/\n<=900/\q (qfv (qgk p n))
theorem zan:FnScope [Sf,Sg] [Sf,Sg] (defScope qss):=sc0
theorem zbc(F:Def K mg "one_sign" qss [Sf,Sg])(T:Txt K mg cs):Ok P w K mg base "one_sign" 1 [Sf,Sg] (PSp K qix):=by
  refine F.vok zan (by rintro c q ⟨_,_,h,_⟩;rw[h];rfl) λf d A b s H E g c q h=>?_;obtain⟨p,n,rfl,l,h⟩:=h;refine⟨_,(qh (qw (qch qfq T.tuple_ L2.boot_tuple (qd (qC (qH (caps:=[Sf]) (own:=[Ss]) (ix:=[0]) rfl ⟨rfl,rfl,rfl,rfl,rfl,rfl⟩ (qS T.range_ (qc 1)) (λ_ _ _ _=>(ql (i:=1) (show Zb ([Sf,Ss]:List Str) by decide))) (λ_ _ _ _=>(qel (qN (qni g.units) (qc 1) (qc 0)) qf qf)))) qe)))),?_⟩;refine⟨⟨by lia,by lia⟩,qI ((qgk p n).map .int) (by unfold qgk;simp[qK]) (qm (by unfold qgk;simp;lia)) (λe =>∃s,e=[.val (.int p),s]) ⟨_,rfl⟩ ?_ h⟩;rintro i x m e j a ⟨s,rfl⟩;obtain⟨o,rfl⟩:=qag j;have k:i<n:=by lia
  refine⟨rfl,rfl,qif (λz=>?_) (λz=>?_)⟩
  ·refine⟨qv ?_ a,_,rfl⟩;unfold qgk;grind
  ·refine⟨qv ?_ a,_,rfl⟩;unfold qgk;grind
def nrm(c:LI):LI:=c.map λn=>n/(qaq 0 c:Int)
structure Col(c:LI):Prop where
 nn:∀n∈c,0<=n
 nz:∃n∈c,n≠0
theorem qwe:∀{c:LI},qaq 0 c=0 ->∀n∈c,n=0:=λ{c} h n a=>by
 have:=qek c 0 n a;rw[h]at this;grind
theorem Col.g(h:Col c):0<qaq 0 c:=by
 rcases Qaj (qaq 0 c)with e|e
 ·obtain⟨n,a,z⟩:=h.nz;grind[qwe]
 ·exact e
theorem qkm:(nrm c).map (λn=>(qaq 0 c:Int)*n)=c:=by
 unfold nrm;rw[Zj];grind[qdb,Vi,qek]
theorem qyi(h:0<qaq 0 c):qaq 0 (nrm c)=1:=by
 have e:=qhd (qaq 0 c) (nrm c) 0;rw[qkm,Qgv]at e;exact(Qbf h (show qaq 0 c*1=qaq 0 c*qaq 0 (nrm c) by lia)).symm
theorem Col.nrm(h:Col c):Col (nrm c):=by
 have g:=h.g;constructor
 ·intro n a;obtain⟨m,b,rfl⟩:=Ql.mp a;exact Qgs (h.nn m b) (by lia)
 ·obtain⟨n,a,z⟩:=h.nz;refine⟨n/(qaq 0 c:Int),Ql.mpr ⟨n,a,rfl⟩,λe=>z ?_⟩;have:=Vi (qek c 0 n a);grind
theorem zlb{w:LI}{k:Nat}(h:qaq 0 w=1)(a:0<k):nrm (w.map λn=>(k:Int)*n)=w:=by
 have e:=qhd k w 0;rw[Qgv,h,Qkx]at e;unfold nrm;rw[e,Zj];grind[qdb,V1]
def Prp(u v:LI):Prop :=∀(i j:Nat)(a b c d:Int),u[i]?=some a->u[j]?=some b->v[i]?=some c->v[j]?=some d->a*d=b*c
theorem qrq(e:nrm u=nrm v):Prp u v:=by
 intro i j a b c d f g h k;have l:=qkm (c:=u);have m:=qkm (c:=v);grind
theorem qrn(f:Col u)(g:Col v)(B:u.length=v.length)(h:Prp u v):nrm u=nrm v:=by
 have C:(nrm u).length=u.length:=Qe _;have D:(nrm v).length=v.length:=Qe _;have m:(0:Int)<qaq 0 u:=by have:=f.g;lia
 have o:(0:Int)<qaq 0 v:=by have:=g.g;lia
 have one:∀{c:LI}{i:Nat}{x:Int},(nrm c)[i]?=some x->c[i]?=some ((qaq 0 c:Int)*x):=λ{c i x} e=>by
  have:=qkm (c:=c);rw[<- this,Qa,this,e];rfl
 have k:∀(i j:Nat)(a b c d:Int),(nrm u)[i]?=some a->(nrm u)[j]?=some b->(nrm v)[i]?=some c->(nrm v)[j]?=some d->a*d=b*c:=λi j a b c d p q r s=>by
  have z:=h i j _ _ _ _ (one p) (one q) (one r) (one s);have t:((qaq 0 u:Int)*(qaq 0 v:Int))*(a*d)=((qaq 0 u:Int)*(qaq 0 v:Int))*(b*c):=by grind
  exact Zz (Qjr (Za m o)) t
 refine Zt λi=>?_;by_cases E:i<u.length
 ·obtain⟨a,ha⟩:∃a,(nrm u)[i]?=some a:=⟨_,Qc (by lia)⟩
  obtain⟨c,hc⟩:∃c,(nrm v)[i]?=some c:=⟨_,Qc (by lia)⟩
  have w:=f.nrm.nn a (Qh ha);have y:=g.nrm.nn c (Qh hc);have e:(nrm v).map (λn=>(a.toNat:Int)*n)=(nrm u).map (λn=>(c.toNat:Int)*n):=by
   refine Zt λj=>?_;rw[Qa,Qa];by_cases F:j<u.length
   ·obtain⟨b,hb⟩:∃b,(nrm u)[j]?=some b:=⟨_,Qc (by lia)⟩
    obtain⟨d,hd⟩:∃d,(nrm v)[j]?=some d:=⟨_,Qc (by lia)⟩
    rw[hb,hd,Qbm w,Qbm y];show some (a*d)=some (c*b);rw[k i j a b c d ha hb hc hd,Zp]
   ·rw[Q5 (by lia),Q5 (by lia)];rfl
  have l:=qhd a.toNat (nrm v) 0;have A:=qhd c.toNat (nrm u) 0;rw[Qgv,qyi g.g,Qkx]at l;rw[Qgv,qyi f.g,Qkx]at A;rw[e]at l;rw[ha,hc]
  congr 1
  lia
 ·rw[Q5 (by lia),Q5 (by lia)]
def jc(R:LL)(G:List Nat):LI:=R.map λr=>(G.map λi=>(r[i]?).getD 0).sum
theorem xab(R:LL)(j:Nat):jc R [j]=qO R j:=by
 refine Q9 λr _=>?_;simp
theorem zve(R:LL)(j:Nat)(G:List Nat):jc R (j::G)=J4 (· + ·) (qO R j) (jc R G):=by
 unfold jc qO
 induction R with
 |nil=>rfl
 |cons r R a =>
  show((j::G).map λi=>(r[i]?).getD 0).sum::_=(_+_)::_;grind
theorem qhe(R:LL)(G:List Nat):(jc R G).length=R.length:=Qe _
theorem zcy{l c:LI}(h:l.Perm c):l.sum=c.sum:=by
 induction h with
 |nil=>rfl
 |cons x _ d=>grind
 |swap x y l=>grind
 |trans _ _ a b=>rw[a,b]
theorem zjn(w:LI)(a b:Int):J4 (· + ·) (w.map λn=>a*n) (w.map λn=>b*n)=w.map λn=>(a+b)*n:=by
 induction w with
 |nil=>rfl
 |cons x w c=>rw[Qq,Qq,List.zipWith_cons_cons,c,Qq,Jc]
theorem zbx:∀{G:List Nat},G≠[]->(∀i∈G,Col (qO R i)/\nrm (qO R i)=κ) ->∃k:Nat,0<k/\jc R G=κ.map λn=>(k:Int)*n
 |[i],_,h=>by
  obtain⟨c,e⟩:=h i (by simp);exact⟨qaq 0 (qO R i),c.g,by grind[xab,qkm]⟩
 |i::j::G,_,h=>by
  obtain⟨k,b,e⟩:=zbx (G:=j::G) (by simp) λx a=>h x (Qk _ a);obtain⟨c,d⟩:=h i (by simp);refine⟨qaq 0 (qO R i)+k,by lia,?_⟩;grind[qkm,zve,zjn]
theorem qzo(d:G≠[])(h:∀i∈G,Col (qO R i)/\nrm (qO R i)=κ):nrm (jc R G)=κ/\Col (jc R G):=by
 obtain⟨k,g,e⟩:=zbx d h;obtain⟨i,j⟩:=List.exists_mem_of_ne_nil G d;obtain⟨c,f⟩:=h i j;have l:qaq 0 κ=1:=by rw[<- f];exact qyi c.g
 have a:=f▸c.nrm;rw[e];refine⟨zlb l g,λn o=>?_,?_⟩
 ·obtain⟨m,b,rfl⟩:=Ql.mp o;exact Q2 (by lia) (a.nn m b)
 ·obtain⟨m,b,z⟩:=a.nz;exact⟨_,Ql.mpr ⟨m,b,rfl⟩,Int.mul_ne_zero (by lia) z⟩
def sgD(G:List Nat):List Qj:=G.map λi => .int ((i:Nat):Int)
theorem zvh{i:Nat}(h:(sgD G)[i]?=some x):∃s:Nat,G[i]?=some s/\x = .int (s:Nat):=by
 unfold sgD at h;grind
theorem zbt(G:List Nat):qbf (.list (sgD G))=some ((G.map λi=>((i:Nat):Int)).map .int):=by
 rw[Zj];rfl
theorem zfs{G:List Nat}{s:Nat}:((G.map λi=>((i:Nat):Int)).any (· == (s:Int)))=true↔s∈G:=by
 grind
def qdl(r:LI)(G:List Nat):Int:=(G.map λi=>(r[i]?).getD 0).sum
def grD(a:List (List Nat)):List Qj:=a.map λG => .list (sgD G)
theorem zix{i:Nat}(h:(grD Gs)[i]?=some x):∃G,Gs[i]?=some G/\x = .list (sgD G):=by
 unfold grD at h;grind
def grs(R:LL):Nat->List (LI×List Nat)
 |0=>[]
 |i+1=>if(qO R i).any (· != 0)=true then qqe (grs R i) (nrm (qO R i)) i else grs R i
def qds(R:LL)(n i:Nat):List Nat:=((grs R n)[i]?.getD ([],[])).2
theorem zny:(qqe gs k s).length<=gs.length+1:=by
 unfold qqe;grind
theorem qrr(R:LL):∀i,(grs R i).length<=i
 |0=>Qs _
 |i+1=>by
  have:=qrr R i;unfold grs;grind[Zq,zny]
theorem qps(R:LL):∀i,∀x∈grs R i,x.2.length<=i
 |0,x,a=>by cases a
 |i+1,x,a=>by
  unfold grs at a;split at a
  ·unfold qqe at a;split at a
   ·obtain⟨y,b,rfl⟩:=Ql.mp a;have:=qps R i y b;grind
   ·rcases Zh.mp a with z|z
    ·have:=qps R i x z;lia
    grind
  ·have:=qps R i x a;lia
theorem qqa(R:LL):∀i,∀x∈grs R i,∀s∈x.2,s<i
 |0,x,a=>by cases a
 |i+1,x,a=>by
  unfold grs at a;split at a
  ·unfold qqe at a;split at a
   ·obtain⟨y,c,rfl⟩:=Ql.mp a;have d:=qqa R i y c;grind
   ·rcases Zh.mp a with z|z
    ·intro s b;have:=qqa R i x z s b;omega
    grind
  ·intro s b;have:=qqa R i x a s b;omega
theorem zgg(G:List Nat):Iss K F (sgD G) (grL G):=by
 have e:=qhi (K:=K) (H:=F) (G.map λi=>((i:Nat):Int));rw[Zj,Zj]at e;exact e
def FL(F H:Hp)(ks:List Grp):Hp:=λb=>if b∈ks.map (·.2.1)then H b else F b
section
variable{F H:Hp}{ks:List Grp}
theorem FL.le(h:∀x∈ks,F x.2.1=none):Same F (FL F H ks):=λb o e=>by
 unfold FL;rw[if_neg λz=>?_]
 ·exact .of e
 grind
theorem FL.fh(h:Same F H):Same (FL F H ks) H:=λb o e=>by
 unfold FL at e;split at e
 ·exact .of e
 ·exact h b o e
theorem FL.at(a:x∈ks)(h:H x.2.1=some o):FL F H ks x.2.1=some o:=by
 unfold FL;grind
end
def qdu(ds:List Qj)(q:Qj->Prop):Prop :=∃(d g:Qj)(r:LI)(G:List Nat),ds=[d,g]/\(qbf d=some (r.map .int)/\qbf g=some (sgD G)/\G.length<=900 /\ ∀i∈G,i<r.length)/\q (.int (qdl r G))
theorem qnj:FnScope [Se,Sm] [Se,Sm] (defScope qhq):=sc0
theorem qmy(F:Def K mg SX qhq [Se,Sm])(T:Txt K mg cs):Ok P w K mg base SX 1 [Se,Sm] (PSp K qdu):=by
  refine F.vok qnj (by rintro m q ⟨_,_,_,_,h,_⟩;rw[h];rfl) λf n A b s H E u m q h=>?_;obtain⟨d,g,r,G,rfl,⟨o,p,v,t⟩,h⟩:=h;refine⟨_,(qh (qw (qA (zec rfl) T.sum_ L2.boot_sum (qd (qC (qH (caps:=[Se]) (own:=[Ss]) (ix:=[0]) rfl ⟨rfl,rfl,rfl,rfl,rfl,rfl⟩ (qV (qc 1)) (λ_ _ _ _=>(ql (i:=1) (show Zb ([Se,Ss]:List Str) by decide))) (λ_ _ _ _=>(qr (qc 0) (qc 1))))) qe)))),?_⟩;refine qac p (qI ((G.map λi=>(r[i]?).getD 0).map .int) (by simp[sgD]) (qm (by simp;lia)) (λe =>∃s,e=[.val d,s]) ⟨_,rfl⟩ ?_ ⟨_,rfl,h⟩);rintro i x y e a c ⟨s,rfl⟩;obtain⟨k,l,rfl⟩:=zvh a;have j:=t k (qdc l);have a:=Qc j;refine qzb o (qax (by rw[Qa,a];rfl)) ⟨qv ?_ c,_,rfl⟩;rw[Qa,Qa,l];show some (Q8 ((r[k]?).getD 0))=_;rw[a];rfl
def qdt(ds:List Qj)(q:List Qj->Prop):Prop :=∃(b:Int)(R:LL)(g:Qj)(G:List Nat),ds=[qU b R,g]/\(R.length<=900/\qbf g=some (sgD G)/\G.length<=900 /\ ∀r∈R,∀i∈G,i<r.length)/\q ((jc R G).map .int)
theorem qnk:FnScope [Sd,Sm] [Sd,Sm] (defScope qhy):=sc0
theorem qnc(F:Def K mg SY qhy [Sd,Sm])(T:Txt K mg cs)(a:Ok P w K mg base SX 1 [Se,Sm] (PSp K qdu)):Ok P w K mg base SY 2 [Sd,Sm] (FSp K qdt):=by
  refine F.vokF qnk (by rintro k q ⟨_,_,_,_,h,_⟩;rw[h];rfl) λf l A c s H E m k q h=>?_;obtain⟨b,R,g,G,rfl,⟨t,n,o,p⟩,h⟩:=h;refine⟨_,(qh (qem (qH (caps:=[Sm]) (own:=[Se]) (ix:=[1]) rfl ⟨rfl,rfl,rfl,rfl,rfl,rfl⟩ (qV (qr (qc 0) qf)) (λ_ _ _ _=>(ql (i:=1) (show Zb ([Sm,Se]:List Str) by decide))) (λ_ _ _ _=>(qt a.c m.m (qd (qc 1) (qd (qc 0) qe))))))),?_⟩;refine⟨_,rfl,?_⟩;refine qI ((jc R G).map .int) (by simp[qhe]) (qm (by grind[qhe])) (λe =>∃s,e=[.val g,s]) ⟨_,rfl⟩ ?_ ⟨_,rfl,h⟩;rintro i x u e d j ⟨s,rfl⟩;rw[Qa]at d;cases er:R[i]? with
  |none=>grind
  |some r =>
   rw[er]at d;cases d;refine⟨_,_,r,G,rfl,⟨rfl,n,o,p r (qdc er)⟩,qv ?_ j,_,rfl⟩;unfold jc;rw[Qa,Qa,er];rfl
theorem zcm(x:Nat->Int):∀k i,qqd x x k i=false
 |0,_=>rfl
 |k+1,i=>by unfold qqd;rw[if_pos (by simp)];exact zcm x k (i+1)
theorem ziu:∀k i,qqd x y k i=true->qqd y z k i=true->qqd x z k i=true
 |0,_,h,_=>by cases h
 |k+1,i,c,d=>by
  unfold qqd at c d ⊢;by_cases a:x i=y i
  ·rw[if_pos (by simpa using a)]at c;by_cases b:y i=z i
   ·rw[if_pos (by simpa using b)]at d;rw[if_pos (by grind)];exact ziu k (i+1) c d
   grind
  grind
theorem zcj:∀k i,(∃j,i<=j/\j<i+k/\x j≠y j)->qqd x y k i=true\/qqd y x k i=true
 |0,i,⟨j,c,d,_⟩=>by lia
 |k+1,i,⟨j,c,d,b⟩=>by
  unfold qqd;by_cases a:x i=y i
  ·rw[if_pos (by simpa using a),if_pos (by grind)];have:j≠i:=λz=>b (z▸a);exact zcj k (i+1) ⟨j,by lia,by lia,b⟩
  grind
theorem qwc(e:∀i,i<n->(kl i).length=m)(hd:∀i j,i<n->j<n->i≠j->kl i≠kl j):OrdN n (qaf kl m):=by
 refine⟨λi=>zcm _ _ _,λi j k _ _ _ a b=>ziu _ _ a b,λi j c d ne=>zcj _ _ ?_⟩;refine Vv λz=>hd i j c d ne (Zt λk=>?_);grind
structure GrsOk(R:LL)(gs:List (LI×List Nat)):Prop where
 ky:(gs.map (·.1)).Nodup
 ne:∀x∈gs,x.2≠[]
 me:∀x∈gs,∀s∈x.2,Col (qO R s)/\nrm (qO R s)=x.1
theorem GrsOk.put(h:GrsOk R gs)(c:Col (qO R s)):GrsOk R (qqe gs (nrm (qO R s)) s):=by
 unfold qqe;split
 ·have g:∀y:LI×List Nat,(if y.1=nrm (qO R s)then(y.1,y.2++[s])else y).1=y.1:=λy=>by split <;> rfl
  refine⟨?_,λx d=>?_,λx d=>?_⟩
  ·rw[Zj];have:gs.map ((·.1) ∘ λx=>if x.1=nrm (qO R s)then(x.1,x.2++[s])else x)=gs.map (·.1):=Q9 λy _=>g y;rw[this];exact h.ky
  ·obtain⟨y,f,rfl⟩:=Ql.mp d;split
   ·simp
   ·exact h.ne y f
  ·obtain⟨y,f,rfl⟩:=Ql.mp d;split
   ·rename_i e;intro t i;rcases Zh.mp i with z|z
    ·exact h.me y f t z
    grind
   ·exact h.me y f
 ·rename_i j;have two:∀{P:LI×List Nat->Prop},(∀x∈gs,P x)->P (nrm (qO R s),[s]) ->∀x∈gs++[(nrm (qO R s),[s])],P x:=λa b x d=>by
   grind
  refine⟨?_,two h.ne (by simp),two h.me λt i=>?_⟩
  ·rw[Zo,Qq,J3,Qfh];refine⟨h.ky,by simp,λa k b l=>?_⟩;grind
  grind
theorem xag(b:∀r∈R,∀x∈r,0<=x)(c:(qO R s).any (· != 0)=true):Col (qO R s):=by
 refine⟨λx a=>?_,?_⟩
 ·rcases qsk a with rfl|⟨r,d,a⟩
  ·grind
  grind
 grind
theorem qml(a:∀r∈R,∀x∈r,0<=x):∀i,GrsOk R (grs R i)
 |0=>⟨Qeu,λx b=>(by cases b),λx b=>(by cases b)⟩
 |i+1=>by
  unfold grs;split
  ·rename_i c;exact(qml a i).put (xag a c)
  ·exact qml a i
theorem zvv(b:∀r∈R,∀x∈r,0<=x)(n:Nat):OrdN (grs R n).length (qaf (λi=>jc R (qds R n i)) R.length):=by
 have h:=qml b n;have c:∀{i:Nat}(a:i<(grs R n).length),nrm (jc R (qds R n i))=(grs R n)[i].1:=λ{i} a=>by
  have e:qds R n i=(grs R n)[i].2:=by unfold qds;grind
  have m:=Ze a;rw[e];exact(qzo (h.ne _ m) (h.me _ m)).1
 refine qwc (λi _=>qhe _ _) λi j a d ne e=>ne ?_;have z:(grs R n)[i].1=(grs R n)[j].1:=by grind
 have:=h.ky;rw[List.nodup_iff_pairwise_ne,Z8]at this;grind
def qgl(ds:List Qj)(q:Qj->Prop):Prop :=∃(b:Int)(R:LL)(n:Nat),ds=[qU b R]/\(Tab b R n/\R≠[]/\R.length<=900/\n<=60/\intBits b<=9000) /\ ∀p,PmN (grs R n).length p->SrtN (qaf (λi=>jc R (qds R n i)) R.length) p (grs R n).length->q (.list (grD (p.toList.map λi=>qds R n i)))
theorem xbd(c:Tab b R n)(d:(qO R i).any (· != 0)=true)(f:intBits b<=9000):0<(qaq 0 (qO R i):Int)/\intBits (qaq 0 (qO R i):Int)<=9000:=by
 obtain⟨x,a,z⟩:=Vo.mp d;have z:x≠0:=by simpa using z
 have g:=qek (qO R i) 0 x a;have h:intBits x<=9000:=by
  rcases qsk a with rfl|⟨r,j,a⟩
  ·grind
  ·exact c.bits f j a
 have k:qaq 0 (qO R i)≠0:=λe=>z (qwe e x a);refine⟨by lia,Ys ?_ h⟩;exact Qau (by lia) (Vc.mpr g)
def SgW(R:LL)(c:V)(d:Addr)(e a f:Hp)(n i m:Nat)(g:St)(H:Hp):Prop:=m+i=n /\ ∃F b h j k,g=[some c,some (.ref d),h,j,k]/\Go e a F H/\Same f F/\GrAt a F H d b/\qlf b=grs R i
theorem qbd:FnScope [Sd,Sy,Ss,S6,"alone"] [Sd] (defScope qht):=sc0
theorem qmz(F:DefT K mg "sorted_groups" qht [Sd] cs.c0)(T:Txt K mg cs)(KB:K.In base)(I:Ok P w K mg base SC 1 [Sd] (PSp K qba))(C:Ok P w K mg base Uc 1 [Sh,Sf] (FSp K qgz))(g:Ok P w K mg base ST 2 [Sh] (PSp K qdg))(B:Ok P w K mg base "divided" 1 [Se,Sw] (qvi K qla))(t:Ok P w K mg base SY 2 [Sd,Sm] (FSp K qdt)):Ok P w K mg base "sorted_groups" 4 [Sd] (qkq [cs.tb,cs.tb1] (PSp K qgl)):=by
  refine F.ok qbd (by rintro vs H Q E ⟨_,F,ds,q,_,i,⟨_,_,_,h,_⟩,_⟩;rw[i.len,h];rfl) λf A outer s H vs Q E L h=>?_;obtain⟨tss,N,ds,q,sm,hi,⟨b,R,n,rfl,⟨hT,hR,hl,n9,bz⟩,hq⟩,kk⟩:=h;have ts:TbS cs.tb H:=tss _ (by simp);have ho:=zvv hT.nn n;obtain⟨hu1,hu2,hd2⟩:=L.sort;refine⟨_,qW (qge (i:=1) qbd.nd rfl (by first|exact Vn rfl|grind) znb) (qW (zqx Qeb rfl (VI.pi (qS T.range_ (qt I.c L.m (qd (qc 0) qe)))) (zgj (i:=2) qbd.nd rfl (by first|exact Vn rfl|grind) (by first|exact .inl rfl|exact .inr rfl)) (qW (qge (i:=3) qbd.nd rfl (by first|exact Vn rfl|exact Y3 rfl) (VE.pe (qC (qcp C.c L.m (qd (qr (qc 0) qf) (qd (qc 2) qe)))))) (qei (zsg (VT.pt (qbj (qA (zxz rfl) T.any_ L2.boot_any (qd (qc 3) qe)))) (qW (qge (i:=4) qbd.nd rfl (by first|exact Vn rfl|exact Y3 rfl) (VN.pe (zxj B.c L.m (qd (qc 3) (qd (qt g.c L.m (qd (qC (qbp (qd (qc 3) qe))) qe)) qe))))) (qei (qko
   (qvu (zfd hu1 (pv 1) (pv 4) (zrh qbe) ⟨rfl,rfl,rfl,rfl⟩)
    (pv 2))))) qyk))))
   (qei (qkr (zel (tb:=cs.tb) (c0:=cs.c0) (ig:=1) (iy:=0) (x := Sm) (y := Sd) hu2 L.hd hd2 ts rfl (qxa KB T.tab_h) (zhf KB T.bm_ T.bm_h) rfl T.sorted_ (pv 1)
    ⟨rfl,rfl,rfl,rfl,rfl,by decide,by decide +kernel,qwh (by decide +kernel)⟩ rfl rfl rfl rfl (λ_ _ _ _ _ _=>rfl) (λq f c s H=>zlv t.c (L.lam _) (qM (qer (i:=1) rfl (Y3 (Y3 rfl)) (by decide) (by decide)) (qM (qer (i:=0) rfl (Vn rfl) (by decide) (by decide)) qbe))))))),?_⟩
  obtain⟨r0,R0,eR⟩:=Q1 hR;have l0:=hT.len r0 (by rw[eR];simp);obtain⟨D,rfl,ig⟩:=qoe hi;refine λd hd=>?_;have g0:Go N H N (upd H d (.dT [])):=Go.side sm hd;have gr0:GrAt H N (upd H d (.dT [])) d []:=⟨qk,qB sm hd,hd,λx u=>(by cases u),λx u=>(by cases u),λx u=>(by cases u),λx u=>(by cases u),Qeu,Qeu⟩
  have W:EnvOk K ⟨upd H d (.dT []),upd H d (.dT []),N⟩ N (upd H d (.dT [])) [.val (qU b R),.non,.non,.non,.non] [some D,some (.ref d),none,none,none] :=
   qpz g0.fh ⟨_,_,rfl,⟨⟨D,rfl,ig⟩,rfl⟩,_,_,rfl,⟨trivial,rfl⟩,_,_,rfl,⟨trivial,rfl⟩,_,_,rfl,⟨trivial,rfl⟩,_,_,rfl,⟨trivial,rfl⟩,rfl⟩
  refine⟨⟨upd H d (.dT []),upd H d (.dT []),N⟩,_,N,λds e=>ds=qxg 0 n/\e=[.val (qU b R),.non,.non,.non,.non],W,?_,λds J F1 H1 e1 I1 s1 hJ q1=>?_⟩
  ·refine⟨b,r0,R0,by rw[eR],?_⟩;rw[l0];exact⟨⟨by lia,by lia⟩,rfl,rfl⟩
  obtain⟨rfl,rfl⟩:=q1;have g1:=g0.trans I1.goOf;refine⟨SgW R D d N H F1 n,⟨n,by lia,F1,[],none,none,none,rfl,g1,.refl _,gr0.go I1.goOf,rfl⟩,?_⟩;rintro i m σ H2 ⟨him,X,ks,o2,o3,o4,rfl,g2,s2,Y,Z⟩;by_cases hin:i=n
  ·left;subst hin;refine⟨by have:=hJ.stop H2 (s2.trans g2.fh);rwa [qK]at this,?_⟩;have len:ks.length=(grs R i).length:=by rw[<- Z];unfold qlf;rw[Qe]
   have S:((ks.map qrb).map (·.2)).length=(grs R i).length:=by rw[Qe,Qe,len]
   have at_:∀{j:Nat}{x:Grp},ks[j]?=some x->qds R i j=x.2.2:=λ{j x} e=>by
    unfold qds;rw[<- Z];unfold qlf;rw[Qa,e];rfl
   have inG:∀x∈ks,x.2.2.length<=i /\ ∀s∈x.2.2,s<i:=λx u=>by
    have z:(x.1,x.2.2)∈grs R i:=by rw[<- Z];exact Ql.mpr ⟨x,u,rfl⟩
    exact⟨qps R i _ z,qqa R i _ z⟩
   have ht0:H cs.tb≠none:=by obtain⟨ps,e,_⟩:=ts;rw[e];exact λz=>by cases z
   have tbl:∀x∈ks,x.2.1≠cs.tb:=λx u z=>ht0 (z▸Y.nl x u);refine⟨d,ks.map qrb,D,λj=>jc R (qds R i j),R.length,⟨rfl,rfl,Y.hd,?_⟩,?_,λj _=>qhe _ _,λH3 go gs=>?_⟩
   ·rw[Qe,len];have:=qrr R i;lia
   ·rw[S];exact ho
   refine⟨λH'=>Same X H' /\ ∀x∈ks,H' x.2.1=some (.lst (grL x.2.2)),⟨g2.fh.trans gs,λx u=>go.h _ _ (tbl x u) (Y.hl x u)⟩,λj v G ev gg=>?_,λp l G hp hs sm4 gg nl4 nl2=>?_⟩
   ·obtain⟨sF,sL⟩:=gg;rw[Qa,Qa]at ev;cases ek:ks[j]? with
    |none=>rw[ek]at ev;cases ev
    |some x =>
     rw[ek]at ev;cases ev;have xm:=Qh ek;have u:=inG x xm;refine⟨D,rfl,_,rfl,FL X G ks,[qU b R,.list (sgD x.2.2)],λl=>l=(jc R x.2.2).map .int,FL.fh sF,qG ((ig.mono g2.f).mono (FL.le Y.fl)) (qG (qeq (SqL.of (FL.at xm (sL x xm))) (zgg _)) qah),⟨b,R,_,x.2.2,rfl,⟨hl,rfl,by lia,λr L s hs=>by rw[hT.len r L];exact u.2 s hs⟩,rfl⟩,?_⟩;rintro l a xs F5 H5 U na fa ha hx5 rfl;have e5:=hx5.ints_inv;subst e5;refine⟨U.h,⟨sF.trans U.h,λy hy=>U.h.at (sL y hy)⟩,a,rfl,?_⟩;show H5 a=some (.lst ((jc R (qds R i j)).map V.int));rw[at_ ek];exact ha
   ·obtain⟨sF,sL⟩:=gg;have nl0:=qB g2.h nl2;rw[S]at hp hs;have ltb:cs.tb≠l:=λz=>ht0 (z▸nl0);have fl0:FL X G ks l=none:=by
     cases e:FL X G ks l with
     |none=>rfl
     |some o =>
      obtain⟨_,this⟩:=(FL.fh (ks:=ks) sF).any e;rw[nl4]at this;cases this
    have key:∀js:List Nat,(∀j∈js,j<ks.length) ->∀ys,Iss K (upd (FL X G ks) l (.lst ys)) (grD (js.map λj=>qds R i j)) (js.map λj=>((ks.map qrb).map (·.2)).getD j .non):=by
     intro js
     induction js with
     |nil=>intro _ _;exact qah
     |cons j js ih =>
      intro hj ys;obtain⟨x,ej⟩:∃x,ks[j]?=some x:=⟨_,Qc (hj j (by simp))⟩
      have xm:=Qh ej;have e1:((ks.map qrb).map (·.2)).getD j V.non = .ref x.2.1:=by
       rw[Zy,Qa,Qa,ej];rfl
      have ne:x.2.1≠l:=λz=>by have:=sL _ xm;rw[z,nl4]at this;cases this
      show Iss K _ (Qj.list (sgD (qds R i j))::grD (js.map λj=>qds R i j)) (((ks.map qrb).map (·.2)).getD j V.non::_);rw[e1,at_ ej];exact qG (qeq (SqL.of (by rw[qi ne];exact FL.at xm (sL _ xm))) (zgg _)) (ih (λk hk=>hj k (Qk _ hk)) ys)
    refine kk (.list (grD (p.toList.map λj=>qds R i j))) (.ref l) (upd (FL X G ks) l (.lst (p.toList.map λj=>((ks.map qrb).map (·.2)).getD j .non))) _ ⟨(g2.f.trans (FL.le Y.fl)).trans (qbh fl0),((g2.h.trans gs).trans sm4).trans (qbh nl4),λc o e=>?_,λc o e=>?_⟩ (qeq (SqL.of qk) (key _ (λj hj=>?_) _)) (hq p hp hs)
    ·by_cases z:c=l
     ·subst z;rw[qk]at e;rw[qk];exact .of e
     ·rw[qi z]at e;rw[qi z];exact FL.fh sF c o e
    ·by_cases z:c=l
     ·rw[z];exact .inr nl0
     ·rw[qi z]at e;unfold FL at e;split at e
      ·rename_i zz;obtain⟨x,u,rfl⟩:=Ql.mp zz;exact .inr (Y.nl x u)
      ·exact g2.new c o e
    ·rw[len];exact Zi.mp (hp.p.mem_iff.mp hj)
  have M:i<n:=by lia
  right;refine⟨hJ.go i H2 (s2.trans g2.fh) (by rw[qK];exact M),λσ' H' =>∃m',m'<m/\SgW R D d N H F1 n (i+1) m' σ' H',λ_ _ z=>z,λx H3 hy=>?_⟩;obtain⟨dx,F3,ex,g3,ix⟩:=hJ.yld i H2 x H3 X s2 g2.fh (by rw[qK];exact M) hy;obtain⟨_,rfl⟩:=qag ex;rw[Y5]at ix;obtain rfl:=ix.int_inv;have gr3:=Y.go g3;have g23:=g2.trans g3;have s3:=s2.trans g3.f;have W:EnvOk K ⟨H3,H3,F3⟩ F3 H3 [.val (qU b R),.non,.val (.int i),.non,.non] [some D,some (.ref d),some (.int i),o3,o4] :=
   qpz g23.fh ⟨_,_,rfl,⟨⟨D,rfl,ig.mono g23.f⟩,rfl⟩,_,_,rfl,⟨trivial,rfl⟩,_,_,rfl,⟨⟨_,rfl,qZ _⟩,rfl⟩,_,_,rfl,⟨trivial,rfl⟩,_,_,rfl,⟨trivial,rfl⟩,rfl⟩
  refine⟨⟨H3,H3,F3⟩,_,F3,λdd e=>dd = .list ((qO R i).map .int)/\e=[.val (qU b R),.non,.val (.int i),.non,.non],W,?_,λdd v3 F4 G e4 I4 s4 i4 q4=>?_⟩
  ·exact⟨_,rfl,_,R,i,rfl,⟨qjp _,hl,λr L=>by rw[hT.len r L];exact M⟩,rfl,rfl⟩
  obtain⟨rfl,rfl⟩:=q4;have g4:=I4.goOf;have gr4:=gr3.go g4;have g24:=g23.trans g4;have s24:=s3.trans g4.f;have W:EnvOk K ⟨G,G,F4⟩ F4 G [.val (qU b R),.non,.val (.int i),.val (.list ((qO R i).map .int)),.non] [some D,some (.ref d),some (.int i),some v3,o4] :=
   qpz g24.fh ⟨_,_,rfl,⟨⟨D,rfl,ig.mono g24.f⟩,rfl⟩,_,_,rfl,⟨trivial,rfl⟩,_,_,rfl,⟨⟨_,rfl,qZ _⟩,rfl⟩,_,_,rfl,⟨⟨_,rfl,i4⟩,rfl⟩,_,_,rfl,⟨trivial,rfl⟩,rfl⟩
  refine⟨⟨G,G,F4⟩,_,F4,λbb e=>bb=(qO R i).any (· != 0)/\e=[.val (qU b R),.non,.val (.int i),.val (.list ((qO R i).map .int)),.non],W,?_,λbb F5 H5 e5 I5 s5 q5=>?_⟩
  ·exact⟨_,rfl,rfl,rfl⟩
  obtain⟨rfl,rfl⟩:=q5;have U:=I5.goOf;have gr5:=gr4.go U;have O:=g24.trans U;have s25:=s24.trans U.f;have i5:=i4.mono U.f;cases ea:(qO R i).any (· != 0)with
  |false =>
   refine⟨m-1,by lia,by lia,F5,ks,_,_,_,rfl,O,s25,gr5,?_⟩;rw[Z];show _=if(qO R i).any (· != 0)=true then _ else _
   rw[ea];rfl
  |true =>
   obtain⟨gp,gz⟩:=xbd hT ea bz;have W:EnvOk K ⟨H5,H5,F5⟩ F5 H5 [.val (qU b R),.non,.val (.int i),.val (.list ((qO R i).map .int)),.non] [some D,some (.ref d),some (.int i),some v3,o4] :=
    qpz O.fh ⟨_,_,rfl,⟨⟨D,rfl,ig.mono O.f⟩,rfl⟩,_,_,rfl,⟨trivial,rfl⟩,_,_,rfl,⟨⟨_,rfl,qZ _⟩,rfl⟩,_,_,rfl,⟨⟨_,rfl,i5⟩,rfl⟩,_,_,rfl,⟨trivial,rfl⟩,rfl⟩
   refine⟨⟨H5,H5,F5⟩,_,F5,λdd e=>dd=qfv (nrm (qO R i))/\e=[.val (qU b R),.non,.val (.int i),.val (.list ((qO R i).map .int)),.non],W,?_,λdd v4 F6 H6 e6 I6 s6 i6 q6=>?_⟩
   ·have eg:qaa [qO R i]=qaq 0 (qO R i):=rfl;refine⟨by simp[Yg],_,[qO R i],rfl,qha [qO R i],?_⟩;exact⟨_,qO R i,_,rfl,⟨rfl,by rw[zua];exact hl,gp,gz⟩,rfl,rfl⟩
   obtain⟨rfl,rfl⟩:=q6;have g6:=I6.goOf;have gr6:=gr5.go g6;have g26:=O.trans g6;obtain⟨b4,xs4,rfl,hb4,hx4⟩:=i6;have hb4:=qjr.at hb4;have ex4:=(IssN.is qjr hx4).ints_inv;subst ex4;refine xaf (s:=i) g26 gr6 rfl rfl rfl hb4 ?_ ?_ λp H' g' gr'=>⟨m-1,by lia,by lia,F6,_,_,_,_,rfl,g',s25.trans g6.f,gr',?_⟩
   ·have:(qlf ks).length=ks.length:=by unfold qlf;rw[Qe]
    have:=qrr R i;rw[<- Z]at this;lia
   ·intro x u;have:(x.1,x.2.2)∈grs R i:=by rw[<- Z];exact Ql.mpr ⟨x,u,rfl⟩
    have:=qps R i _ this;have:=this;lia
   ·rw[zkk,Z];show _=if(qO R i).any (· != 0)=true then _ else _
    rw[ea];rfl
def qga(ds:List Qj)(q:Qj->Prop):Prop :=∃(d:Qj)(r:LI)(a:List (List Nat)),ds=[d,.list (grD a)]/\(qbf d=some (r.map .int)/\a.length<=900 /\ ∀G∈a,G.length<=900 /\ ∀i∈G,i<r.length)/\q (.list ((a.map λG=>qdl r G).map .int))
theorem qlk:FnScope [Se,Sy] [Se,Sy] (defScope qgm):=sc0
theorem qll(F:Def K mg "joined_numbers" qgm [Se,Sy])(T:Txt K mg cs)(a:Ok P w K mg base SX 1 [Se,Sm] (PSp K qdu)):Ok P w K mg base "joined_numbers" 2 [Se,Sy] (PSp K qga):=by
  refine F.vok qlk (by rintro l q ⟨_,_,_,h,_⟩;rw[h];rfl) λf m A c s H E n l q h=>?_;obtain⟨d,r,j,rfl,⟨o,p,k⟩,h⟩:=h;refine⟨_,(qh (qw (qC (qH (caps:=[Se]) (own:=[Sm]) (ix:=[0]) rfl ⟨rfl,rfl,rfl,rfl,rfl,rfl⟩ (qV (qc 1)) (λ_ _ _ _=>(ql (i:=1) (show Zb ([Se,Sm]:List Str) by decide))) (λ_ _ _ _=>(qt a.c n.m (qd (qc 0) (qd (qc 1) qe)))))))),?_⟩;refine qI ((j.map λG=>qdl r G).map .int) (by simp[grD]) (qm (by simp;lia)) (λe =>∃s,e=[.val d,s]) ⟨_,rfl⟩ ?_ h;rintro i x t e b g ⟨s,rfl⟩;unfold grD at b;rw[Qa]at b;cases er:j[i]? with
  |none=>rw[er]at b;cases b
  |some G =>
   rw[er]at b;cases b;refine⟨_,_,r,G,rfl,⟨o,rfl,(k G (qdc er)).1,(k G (qdc er)).2⟩,qv ?_ g,_,rfl⟩;rw[Qa,Qa,er];rfl
def qca(a:List (List Nat))(s:Nat):Nat:=(a.findIdx? λG=>G.contains s).getD 0
theorem zet(e:Gs[i]?=some G)(h:s∈G)(hI:∀j(a:List Nat),j<i->Gs[j]?=some a->s∉a):qca Gs s=i:=by
 unfold qca;have:Gs.findIdx? (λG=>G.contains s)=some i:=by
  grind[Qcc,Qc]
 grind
theorem qmk(hI:∀G∈Gs,s∉G):qca Gs s=0:=by
 unfold qca;grind[List.findIdx?_eq_none_iff]
def qpa(ds:List Qj)(q:Qj->Prop):Prop :=∃(s:Nat)(a:List (List Nat)),ds=[.int s,.list (grD a)]/\q (.int (qca a s:Nat))
theorem qiy:FnScope [Ss,Sy,Sf,Sm] [Ss,Sy] (defScope qqt):=sc0
theorem zba(F:Def K mg "place_of" qqt [Ss,Sy])(T:Txt K mg cs):Ok P w K mg base "place_of" 1 [Ss,Sy] (PSp K qpa):=by
  refine F.vok qiy (by rintro p q ⟨_,_,h,_⟩;rw[h];rfl) λf r A d s H E v p q h=>?_;obtain⟨s,o,rfl,h⟩:=h;refine⟨_,(qg (qau rfl (qnb T.enumerate_ (qc 1)) (qff (n:=2) rfl (qJ (ql (i:=2) qiy.nd) (qJ (ql (i:=3) qiy.nd) qcn))) (qh (qar (qN zxp (qc 0) (qc 3)) (qh (qw (qc 2))) qE)))
   (qh (qw qf))),?_⟩
  refine⟨λi e =>∃g k,e=[.val (.int s),.val (.list (grD o)),g,k] /\ ∀j(G:List Nat),j<i->o[j]?=some G->s∉G,⟨_,_,rfl,λj y b=>by omega⟩,?_,?_⟩
  ·rintro i x e t ⟨g,k,rfl,c⟩;obtain⟨x,l,rfl⟩:=qgy t;obtain⟨G,m,rfl⟩:=zix l;refine⟨rfl,rfl,_,_,rfl,zbt G,?_⟩;cases a:(G.map λi=>((i:Nat):Int)).any (· == (s:Int))with
   |true =>
    have u:=zfs.mp a;rw[zet m u c]at h;exact h
   |false =>
    refine⟨_,_,rfl,λj y b z=>?_⟩;grind
  ·rintro e ⟨g,k,rfl,c⟩;rw[qdd,grD,Qe]at c;rw[qmk λG m=>?_]at h
   ·exact h
   ·obtain⟨j,b,rfl⟩:=Vj.mp m;exact c j _ b (Qc b)
def qae(R:LL)(G:List Nat)(k:Nat):Int:=if k∈G then(qO R k).sum else 0
def qX(R:LL)(G:List Nat)(n:Nat):List (Int×Int):=(Qm n).map λk=>(shT (qae R G k) (jc R G).sum,shB (qae R G k) (jc R G).sum)
def qou(ds:List Qj)(q:Qj->Prop):Prop :=∃(b:Int)(R:LL)(n:Nat)(G:List Nat),ds=[.list (sgD G),qU b R]/\((∀r∈R,r.length=n)/\R≠[]/\R.length<=900/\n<=900/\G.length<=900/\(∀i∈G,i<n)/\(jc R G).sum≠0/\intBits (jc R G).sum<=9000)/\q (.list ((qX R G n).map dS))
theorem qpd:FnScope [Sm,Sd,"whole"] [Sm,Sd] (defScope qrg):=sc0
theorem zae(F:Def K mg "parts_of" qrg [Sm,Sd])(T:Txt K mg cs)(o:Ok P w K mg base Ub 3 [SG,Sb] (PSp K qfr))(p:Ok P w K mg base SC 1 [Sd] (PSp K qba))(d:Ok P w K mg base Uc 1 [Sh,Sf] (FSp K qgz))(c:Ok P w K mg base SY 2 [Sd,Sm] (FSp K qdt)):Ok P w K mg base "parts_of" 4 [Sm,Sd] (PSp K qou):=by
  refine F.vok qpd (by rintro J q ⟨_,_,_,_,h,_⟩;rw[h];rfl) λf L A y s H E t J q h=>?_;obtain⟨b,R,n,G,rfl,⟨z,M,B,V,N,O,C,D⟩,h⟩:=h;refine⟨_,(qg (qz (i:=2) qpd.nd (qA (zec rfl) T.sum_ L2.boot_sum (qd (qC (qcp c.c t.m (qd (qc 1) (qd (qc 0) qe)))) qe)))
   (qh (qw (qC (qH (caps:=[Sm,Sd,"whole"]) (own:=[Ss]) (ix:=[0,1,2]) rfl ⟨rfl,rfl,rfl,rfl,rfl,rfl⟩ (qS T.range_ (qt p.c t.m (qd (qc 1) qe))) (λ_ _ _ _=>(ql (i:=3) (show Zb ([Sm,Sd,"whole",Ss]:List Str) by decide))) (λ_ _ _ _=>(qt o.c t.m (qd (qel (qN zxp (qc 3) (qc 0)) (qA (zec rfl) T.sum_ L2.boot_sum (qd (qC (qcp d.c t.m (qd (qr (qc 1) qf) (qd (qc 3) qe)))) qe)) qf) (qd (qc 2) qe))))))))),?_⟩
  obtain⟨j,l,rfl⟩:=Q1 M;have Q:=z j (by simp);refine⟨b,_,_,G,rfl,⟨B,rfl,N,λr t i I=>by rw[z r t];exact O i I⟩,?_⟩;refine⟨_,rfl,?_⟩;refine⟨b,j,l,rfl,?_⟩;rw[Q];refine⟨⟨by lia,by lia⟩,qI ((qX (j::l) G n).map dS) (by simp[qK,qX]) (qm (by simp[qX];lia)) (λe =>∃s,e=[.val (.list (sgD G)),.val (qU b (j::l)),.val (.int (jc (j::l) G).sum),s]) ⟨_,rfl⟩ ?_ h⟩;rintro i x W e S u ⟨s,rfl⟩;obtain⟨I,rfl⟩:=qag S;rw[Y5];have v:i<n:=by lia
  have g:((qX (j::l) G n).map dS)[i]?=some (dS (shT (qae (j::l) G i) (jc (j::l) G).sum,shB (qae (j::l) G i) (jc (j::l) G).sum)):=by
   unfold qX;rw[Qa,Qa,Qo v];rfl
  refine⟨_,_,rfl,zbt G,?_⟩;cases a:(G.map λk=>((k:Nat):Int)).any (· == (i:Int))with
  |true =>
   have U:=zfs.mp a;have e:qae (j::l) G i=(qO (j::l) i).sum:=if_pos U;rw[e]at g;exact⟨_,rfl,_,_,i,rfl,⟨qjp _,B,λr t=>by rw[z r t];exact v⟩,_,rfl,⟨C,D⟩,qv g u,_,rfl⟩
  |false =>
   have e:qae (j::l) G i=0:=if_neg λm=>by rw[zfs.mpr m]at a;cases a
   rw[e]at g;exact⟨⟨C,D⟩,qv g u,_,rfl⟩
theorem zkg(r:LI)(G:List Nat)(s:Nat):qdl r (G++[s])=qdl r G+(r[s]?).getD 0:=by
 unfold qdl;rw[Zo,Jx];simp
theorem zig(r:LI)(k:LI)(s:Nat):∀a:List (LI×List Nat),(a.map (·.1)).Nodup->(a.any λx=>decide (x.1=k))=true->((a.map λx=>if x.1=k then(x.1,x.2++[s])else x).map λx=>qdl r x.2).sum=(a.map λx=>qdl r x.2).sum+(r[s]?).getD 0
 |[],_,h=>by cases h
 |x::a,b,h=>by
  rw[Qq,Js]at b;rw[Qq,Qq,Q3,Qq,Q3];by_cases e:x.1=k
  ·have rest:a.map (λx=>if x.1=k then(x.1,x.2++[s])else x)=a.map id:=Q9 λy c=>if_neg λz=>b.1 (Ql.mpr ⟨y,c,by rw[z,e]⟩);rw[rest,List.map_id,if_pos e];grind[zkg]
  ·rw[Qbw,decide_eq_false e,Qll]at h;rw[zig r k s a b.2 h,if_neg e];lia
theorem zpk(h:GrsOk R gs)(r k:LI)(s:Nat):((qqe gs k s).map λx=>qdl r x.2).sum=(gs.map λx=>qdl r x.2).sum+(r[s]?).getD 0:=by
 unfold qqe;split
 ·rename_i a;exact zig r k s gs h.ky a
 ·rw[Zo,Jx];simp[qdl]
theorem zmn(r:LI)(i:Nat):(r.take (i+1)).sum=(r.take i).sum+(r[i]?).getD 0:=by
 rw[Z0,Jx];cases r[i]? <;> simp
theorem zhx(a:∀r∈R,∀x∈r,0<=x)(b:r∈R):∀i,((grs R i).map λx=>qdl r x.2).sum=(r.take i).sum
 |0=>by simp[grs]
 |i+1=>by
  rw[zmn,<- zhx a b i];show((if(qO R i).any (· != 0)=true then qqe (grs R i) (nrm (qO R i)) i else grs R i).map λx=>qdl r x.2).sum=_;split
  ·exact zpk (qml a i) r _ i
  ·rename_i c;have:(r[i]?).getD 0=0:=Vv λz=>c (Vo.mpr ⟨_,by exact Ql.mpr ⟨r,b,rfl⟩,by simpa using z⟩);lia
theorem zrn{a:Type}(h:PmN n p)(f:Nat->a):(p.toList.map f).Perm ((Qm n).map f):=h.p.map f
theorem qwg(R:LL)(n:Nat):(Qm (grs R n).length).map (λi=>qds R n i)=(grs R n).map (·.2):=by
 refine Zt λi=>?_;by_cases a:i<(grs R n).length
 ·rw[Qa,Qo a,Qa,Qc a];show some (qds R n i)=some _;unfold qds;rw[Qc a];rfl
 ·rw[Q5 (by simp;lia),Q5 (by simp;lia)]
structure GsOk(R:LL)(n:Nat)(Gs:List (List Nat)):Prop where
 len:Gs.length<=n
 ne:∀G∈Gs,G≠[]
 le:∀G∈Gs,G.length<=n
 lt:∀G∈Gs,∀s∈G,s<n
 co:∀G∈Gs,Col (jc R G)
 sum:∀r∈R,r.length=n->(Gs.map λG=>qdl r G).sum=r.sum
theorem zxk(f:∀r∈R,∀x∈r,0<=x)(j:PmN (grs R n).length p):GsOk R n (p.toList.map λi=>qds R n i):=by
 have d:=zrn j λi=>qds R n i;rw[qwg]at d;have h:=qml f n;have a:∀G∈p.toList.map (λi=>qds R n i),∃x∈grs R n,x.2=G:=λG b=>Ql.mp (d.mem_iff.mp b);refine⟨?_,λG b=>?_,λG b=>?_,λG b=>?_,λG b=>?_,λr k g=>?_⟩
 ·rw[d.length_eq,Qe];exact qrr R n
 ·obtain⟨x,c,rfl⟩:=a G b;exact h.ne x c
 ·obtain⟨x,c,rfl⟩:=a G b;exact qps R n x c
 ·obtain⟨x,c,rfl⟩:=a G b;exact qqa R n x c
 ·obtain⟨x,c,rfl⟩:=a G b;exact(qzo (h.ne x c) (h.me x c)).2
 ·rw[zcy (d.map λG=>qdl r G),Zj];have e:=zhx f k n;rw[<- g,Zm]at e;rw[<- g];exact e
def qcl(a:List (List Nat))(r:LI):LI:=a.map λG=>qdl r G
def GrsOf(R:LL)(n:Nat)(a:List (List Nat)):Prop :=∃p:Array Nat,PmN (grs R n).length p/\SrtN (qaf (λi=>jc R (qds R n i)) R.length) p (grs R n).length/\a=p.toList.map λi=>qds R n i
def zga(b:Int)(R:LL)(a:List (List Nat)):Qj:=qU (b/qaa (R.map (qcl a))) (qbt (R.map (qcl a)) (qaa (R.map (qcl a))))
def zvb(n:Nat)(a:List (List Nat)):Qj:=qU 1 ((Qm n).map λs=>qgk (qca a s) a.length)
def zbs(ds:List Qj)(q:Qj->Prop):Prop :=∃(b:Int)(R:LL)(n:Nat),ds=[qU b R]/\(Tab b R n/\R≠[]/\R.length<=12/\1<=n/\n<=12/\intBits b<=200) /\ ∀a B,GrsOf R n a->LcmB (a.map λG=>qX R G n) B->q (.tuple [zga b R a,zvb n a,qU B ((a.map λG=>qX R G n).map (qak B))])
theorem qzi(h:∀x∈r,0<=x):∀G:List Nat,0<=qdl r G
 |[]=>by simp[qdl]
 |i::G=>by
  have e:qdl r (i::G)=(r[i]?).getD 0+qdl r G:=by unfold qdl;rw[Qq,Q3]
  have:=qzi h G;have:0<=(r[i]?).getD 0:=by
   cases q:r[i]? with
   |none=>exact V2 _
   |some x=>exact h x (Qh q)
  lia
theorem xav(e:Tab b R n)(g:GsOk R n Gs):Tab b (R.map (qcl Gs)) Gs.length:=by
 refine⟨e.pos,λr c=>?_,λr c x f=>?_,λr c=>?_⟩
 ·obtain⟨a,_,rfl⟩:=Ql.mp c;unfold qcl;grind
 ·obtain⟨a,d,rfl⟩:=Ql.mp c;obtain⟨G,_,rfl⟩:=Ql.mp f;exact qzi (e.nn a d) G
 ·obtain⟨a,d,rfl⟩:=Ql.mp c;exact(g.sum a d (e.len a d)).trans (e.sum a d)
theorem qpv(i:Tab b R n)(g:GsOk R n Gs)(j:G∈Gs):0<(jc R G).sum/\(jc R G).sum<=b*R.length:=by
 have c:=g.co G j;constructor
 ·obtain⟨x,f,z⟩:=c.nz;have:=c.nn x f;have:=qfp c.nn f;lia
 ·have k:∀a:LL,(∀r∈a,r∈R)->(jc a G).sum<=b*a.length:=by
   intro a
   induction a with
   |nil=>intro _;simp[jc]
   |cons r a l =>
    intro h;have o:qdl r G<=b:=by
     have d:=h r (by simp);have e:=(g.sum r d (i.len r d)).trans (i.sum r d);rw[<- e];exact qfp (r:=Gs.map λG=>qdl r G) (λx f=>by obtain⟨m,_,rfl⟩:=Ql.mp f;exact qzi (i.nn r d) m) (Ql.mpr ⟨G,j,rfl⟩)
    have p:=l λr d=>h r (Qk _ d);have e:(jc (r::a) G).sum=qdl r G+(jc a G).sum:=by unfold jc;rw[Qq,Q3];rfl
    rw[e,Zg];grind
  grind
theorem zhy:∀(ws:LI),(∀w∈ws,0<w/\w<=2^204)->0<ws.foldr (· * ·) 1/\(ws.foldr (· * ·) 1).natAbs<=(2^204)^ws.length /\ ∀w∈ws,w∣ws.foldr (· * ·) 1
 |[],_=>⟨by decide,by decide,λw b=>by cases b⟩
 |w::ws,h=>by
  obtain⟨c,d,f⟩:=zhy ws λx a=>h x (Qk _ a);obtain⟨e,g⟩:=h w (by simp);rw[List.foldr_cons];refine⟨Za e c,?_,λx a=>?_⟩
  ·rw[Qev,Zg,Nat.pow_succ,Qbq];exact Yp d (by lia)
  grind[Qjj,Vu,Qdj]
theorem zqo(d:Tab b R n)(G:List Nat)(k:Nat):0<=qae R G k/\qae R G k<=b*R.length:=by
 have j:=d.pos;have p:0<=b*(R.length:Int):=Q2 (by lia) (by lia);unfold qae;split
 ·have g:∀a:LL,(∀r∈a,r∈R)->0<=(qO a k).sum/\(qO a k).sum<=b*a.length:=by
   intro a
   induction a with
   |nil=>intro _;simp[qO]
   |cons r a i =>
    intro h;have c:=h r (by simp);have l:0<=(r[k]?).getD 0/\(r[k]?).getD 0<=b:=by
     cases q:r[k]? with
     |none=>grind
     |some x =>
      have f:=Qh q;refine⟨d.nn r c x f,?_⟩;rw[<- d.sum r c];exact qfp (d.nn r c) f
    have m:=i λr c=>h r (Qk _ c);have e:(qO (r::a) k).sum=(r[k]?).getD 0+(qO a k).sum:=by unfold qO;grind
    rw[e,Zg];grind
  grind
 grind
theorem qja:FnScope [Sd,Sy,"form","there","back"] [Sd] (defScope zih):=sc0
theorem zng(F:Def K mg "least" zih [Sd])(T:Txt K mg cs)(z:Ok P w K mg base SC 1 [Sd] (PSp K qba))(g:Ok P w K mg base SK 3 [Sb,Sh] (PSp K qbm))(a:Ok P w K mg base SR 2 [Sh] (PSp K qct))(l:Ok P w K mg base "one_sign" 1 [Sf,Sg] (PSp K qix))(d:Ok P w K mg base "sorted_groups" 4 [Sd] (qkq [cs.tb,cs.tb1] (PSp K qgl)))(c:Ok P w K mg base "joined_numbers" 2 [Se,Sy] (PSp K qga))(m:Ok P w K mg base "place_of" 1 [Ss,Sy] (PSp K qpa))(o:Ok P w K mg base "parts_of" 4 [Sm,Sd] (PSp K qou)):Ok P w K mg base "least" 5 [Sd] (qkq [cs.tb,cs.tb1] (PSp K zbs)):=by
  refine F.tvok qja (by rintro ds q ⟨_,_,_,h,_⟩;rw[h];rfl) λf cdv A L s H E D M ds q h=>?_;obtain⟨b,R,n,rfl,⟨I,J,hl,n1,n9,bz⟩,hq⟩:=h;have b0:=I.pos;have W:b<=2^200:=by have:=intBits_le_iff.mp bz;lia
  have X:∀{x:Int},0<=x->x<=2^204->intBits x<=205:=λh1 h2=>intBits_le_iff.mpr (by lia);refine⟨_,(qg (qz (i:=1) qja.nd (qt (d.t M) D.m (qd (qc 0) qe)))
   (qg (qz (i:=2) qja.nd (qt g.c D.m (qd (qr (qc 0) qf) (qd (qC (qH (caps:=[Sy]) (own:=[Se]) (ix:=[1]) rfl ⟨rfl,rfl,rfl,rfl,rfl,rfl⟩ (qV (qr (qc 0) qf)) (λ_ _ _ _=>(ql (i:=1) (show Zb ([Sy,Se]:List Str) by decide))) (λ_ _ _ _=>(qt c.c D.m (qd (qc 1) (qd (qc 0) qe)))))) qe))))
   (qg (qz (i:=3) qja.nd (qck (qd qf (qd (qch qfq T.tuple_ L2.boot_tuple (qd (qC (qH (caps:=[Sy]) (own:=[Ss]) (ix:=[1]) rfl ⟨rfl,rfl,rfl,rfl,rfl,rfl⟩ (qS T.range_ (qt z.c D.m (qd (qc 0) qe))) (λ_ _ _ _=>(ql (i:=1) (show Zb ([Sy,Ss]:List Str) by decide))) (λ_ _ _ _=>(qt l.c D.m (qd (qt m.c D.m (qd (qc 1) (qd (qc 0) qe))) (qd (qA qdh T.len_ L2.boot_len (qd (qc 0) qe)) qe)))))) qe)) qe))))
   (qg (qz (i:=4) qja.nd (qt a.c D.m (qd (qC (qH (caps:=[Sd]) (own:=[Sm]) (ix:=[0]) rfl ⟨rfl,rfl,rfl,rfl,rfl,rfl⟩ (qV (qc 1)) (λ_ _ _ _=>(ql (i:=1) (show Zb ([Sd,Sm]:List Str) by decide))) (λ_ _ _ _=>(qt o.c D.m (qd (qc 1) (qd (qc 0) qe)))))) qe)))
   (qh (qw (qck (qd (qc 2) (qd (qc 3) (qd (qc 4) qe)))))))))),?_⟩
  refine⟨b,R,n,rfl,⟨I,J,by lia,by lia,by lia⟩,λY N O=>?_⟩;obtain⟨j,eGs⟩:∃j,j=Y.toList.map λi=>qds R n i:=⟨_,rfl⟩
  have t:GrsOf R n j:=⟨Y,N,O,eGs⟩
  rw[<- eGs];obtain⟨p,hp,Z,eG⟩:=id t;have u:GsOk R n j:=by rw[eG];exact zxk I.nn hp
  have gl:=u.len;have tj:=xav I u;obtain⟨r0,R0,eR⟩:=Q1 J;have l0:=I.len r0 (by rw[eR];simp);refine⟨_,rfl,_,rfl,qI ((R.map (qcl j)).map qci) (by simp) (qm (by simp;lia)) (λe =>∃s,e=[.val (.list (grD j)),s]) ⟨_,rfl⟩ ?_ ?_⟩
  ·rintro i x ys e v C ⟨s,rfl⟩;rw[Qa]at v;cases er:R[i]? with
   |none=>grind
   |some r =>
    rw[er]at v;cases v;have rm:=Qh er;refine⟨_,r,j,rfl,⟨rfl,by lia,λG t=>⟨by have:=u.le G t;lia,λs Z=>by rw[I.len r rm];exact u.lt G t s Z⟩⟩,qv ?_ C,_,rfl⟩;rw[Qa,Qa,er];rfl
  refine⟨b,_,R.map (qcl j),j.length,rfl,⟨qha _,tj,by simpa using J,by simp;lia,by lia,by lia⟩,?_⟩;refine⟨b,r0,R0,by rw[eR],?_⟩;rw[l0];have lg:(grD j).length=j.length:=by unfold grD;rw[Qe]
  refine⟨⟨by lia,by lia⟩,qI (((Qm n).map λs=>qgk (qca j s) j.length).map qfv) (by simp[qK]) (qm (by simp;lia)) (λe =>∃s,e=[.val (.list (grD j)),s]) ⟨_,rfl⟩ ?_ ?_⟩
  ·rintro i x ys e v C ⟨s,rfl⟩;obtain⟨hi',rfl⟩:=qag v;rw[Y5];have Q:i<n:=by lia
   refine⟨i,j,rfl,qca j i,j.length,by rw[lg],by lia,qv ?_ C,_,rfl⟩;rw[Qa,Qa,Qo Q];rfl
  refine⟨by rw[Yg];simp,?_⟩;have S:∀G∈j,0<(jc R G).sum/\(jc R G).sum<=2^204:=λG t=>by
   obtain⟨a1,a2⟩:=qpv I u t;refine⟨a1,Qen a2 ?_⟩;have:b*R.length<=2^200*12:=Qhx W (by lia) (by lia) (by lia);lia
  refine qI ((j.map λG=>qX R G n).map λV => .list (V.map dS)) (by simp[grD]) (qm (by simp;lia)) (λe =>∃s,e=[.val (qU b R),s]) ⟨_,rfl⟩ ?_ ?_
  ·rintro i x ys e v C ⟨s,rfl⟩;obtain⟨G,t,rfl⟩:=zix v;have U:=Qh t;obtain⟨w0,w1⟩:=S G U;refine⟨b,R,n,G,rfl,⟨I.len,J,by lia,by lia,by have:=u.le G U;lia,u.lt G U,by lia,qp (X (by lia) w1) (by decide)⟩,qv ?_ C,_,rfl⟩;rw[Qa,Qa,t];rfl
  obtain⟨d1,d2,d3⟩:=zhy (j.map λG=>(jc R G).sum) λw hw=>by
   obtain⟨G,t,rfl⟩:=Ql.mp hw;exact S G t
  refine⟨_,j.map λG=>qX R G n,(j.map λG=>(jc R G).sum).foldr (· * ·) 1,rfl,⟨⟨_,rfl,by simp,λi x v=>?_⟩,by simp;lia,λr D=>?_,d1,?_⟩,λB hB=>⟨by rw[Yg];simp,hq j B t hB⟩⟩
  ·rw[Qa]at v;cases e:(j.map λG=>qX R G n)[i]? with
   |none=>rw[e]at v;cases v
   |some r=>rw[e]at v;cases v;exact⟨r,rfl,rfl⟩
  ·obtain⟨G,t,rfl⟩:=Ql.mp D;obtain⟨w0,w1⟩:=S G t;refine⟨by simp[qX];lia,λx v=>?_⟩;obtain⟨k,_,rfl⟩:=Ql.mp v;obtain⟨t0,t1⟩:=zqo I G k;have t2:b*R.length<=2^200*12:=Qhx W (by lia) (by lia) (by lia);refine⟨(qcc (by lia)).1,qdr (qp (X t0 (by lia)) (by decide)),Vu ⟨_,((Zp _ _).trans (qjq _ _)).symm⟩ (d3 _ (Ql.mpr ⟨G,t,rfl⟩))⟩
  ·refine Ys (y:=(2^204)^12) ?_ (by decide);refine Zq d2 ?_;rw[Qe];exact Zq (Qhq (by decide) (show j.length<=12 by lia)) (by decide)
theorem qnu:∀{l:List (Str×Qaw)},(∀p∈l,p.2=k->p.1=y) ->∀z,l.lookup z=some k->z=y
 |[],_,z,h=>by cases h
 | (a,b)::l,g,z,h=>by
  rw[Qac]at h;cases e:z==a with
  |true =>
   rw[e]at h;rw[eq_of_beq e];exact g (a,b) (by simp) (Qr h)
  |false=>rw[e]at h;exact qnu (λp c=>g p (Qk _ c)) z h
def dC(c:Int×Int):Qj :=.list [.int c.1,.int c.2]
def stp(a b:Int×Int):Bool:=decide (a.2*b.1>b.2*a.1)
structure Stps(C:List (Int×Int)):Prop where
 nn:∀c∈C,0<=c.1/\0<=c.2
 ne:∀(i j:Nat)(a b:Int×Int),C[i]?=some a->C[j]?=some b->i≠j->a.2*b.1≠b.2*a.1
theorem qul(o:0<=a.1/\0<=a.2)(p:0<=b.1/\0<=b.2)(q:0<=c.1/\0<=c.2)(g:stp a b=true)(h:stp b c=true):stp a c=true:=by
 obtain⟨i,j⟩:=a;obtain⟨e,d⟩:=b;obtain⟨f,n⟩:=c;have g:=of_decide_eq_true g;have h:=of_decide_eq_true h;refine decide_eq_true ?_;obtain⟨p1,p2⟩:0<=i/\0<=j:=o;obtain⟨q1,q2⟩:0<=e/\0<=d:=p;obtain⟨r1,r2⟩:0<=f/\0<=n:=q;have r:=Q2 q2 p1;have s:=Q2 r2 q1;have k:0<e:=by
  grind
 have l:0<d:=by
  grind
 have m:=Za k l;refine Qbh (a:=e*d) ?_ (by lia);have y:(d*i)*(n*e)<(j*e)*(d*f):=by
  have t:=Yn (Jh h) r;have u:(d*i)*(d*f)<(j*e)*(d*f):=Z2 g (by lia);lia
 grind
def qvr(C:List (Int×Int))(c:Int×Int):Nat:=(C.filter λb=>stp b c).length
theorem qze(a:Int×Int):stp a a=false:=decide_eq_false (by lia)
theorem zfp(h:∀c∈C,0<=c.1/\0<=c.2)(e:a∈C)(g:b∈C)(i:stp a b=true):qvr C a<qvr C b:=by
 have d:∀l:List (Int×Int),(∀c∈l,0<=c.1/\0<=c.2)->(l.filter λx=>stp x a).length<=(l.filter λx=>stp x b).length/\(a∈l->(l.filter λx=>stp x a).length<(l.filter λx=>stp x b).length):=by
  intro l
  induction l with
  |nil=>grind
  |cons x l j =>
   intro f;obtain⟨o,p⟩:=j λc k=>f c (Qk _ k);have m:=f x (by simp);have n:stp x a=true->stp x b=true:=λz=>qul m (h a e) (h b g) z i;rw[Qkm,Qkm];by_cases q:stp x a=true
   ·rw[if_pos q,if_pos (n q)];grind[Zg,qze]
   grind
 exact(d C h).2 e
section
variable{C:List (Int×Int)}
theorem Stps.tot(h:Stps C){i j:Nat}(c:C[i]?=some a)(d:C[j]?=some b)(ne:i≠j):stp a b=true\/stp b a=true:=by
 have:=h.ne i j a b c d ne;rcases Int.lt_or_gt_of_ne this with z|z
 ·exact .inr (decide_eq_true z)
 ·exact .inl (decide_eq_true z)
theorem Stps.ord(h:Stps C):OrdN C.length (qaf (λi=>[(qvr C (C.getD i (0,0)):Int)]) 1):=by
 refine qwc (λ_ _=>rfl) λi j c d ne e=>?_;have a:C[i]?=some (C.getD i (0,0)):=by grind
 have b:C[j]?=some (C.getD j (0,0)):=by grind
 have e:=(Qlq e).1;rcases h.tot a b ne with z|z
 ·have:=zfp h.nn (Qh a) (Qh b) z;lia
 ·have:=zfp h.nn (Qh b) (Qh a) z;lia
theorem Stps.srt(h:Stps C)(a:PmN C.length p)(g:SrtN (qaf (λi=>[(qvr C (C.getD i (0,0)):Int)]) 1) p C.length)(b:i<j)(c:j<C.length):stp (C.getD (p.getD i 0) (0,0)) (C.getD (p.getD j 0) (0,0))=true:=by
 have q:=SrtN.lt2 h.ord a (Qs _) g b c;have d:i<C.length:=by lia
 have k:=a.bd d;have l:=a.bd c;have e:C[p.getD i 0]?=some (C.getD (p.getD i 0) (0,0)):=by grind
 have f:C[p.getD j 0]?=some (C.getD (p.getD j 0) (0,0)):=by grind
 rcases h.tot e f (a.inj d c (by lia))with z|z
 ·exact z
 ·have:=zfp h.nn (Qh f) (Qh e) z;have q:(if((qvr C (C.getD (p.getD i 0) (0,0)):Int))==(qvr C (C.getD (p.getD j 0) (0,0)):Int)then false else decide ((qvr C (C.getD (p.getD i 0) (0,0)):Int)<qvr C (C.getD (p.getD j 0) (0,0))))=true:=q;grind
end
def qka(ds:List Qj)(q:Qj->Prop):Prop :=∃a b:Int×Int,ds=[dC a,dC b]/\(intBits a.1<=4000/\intBits a.2<=4000/\intBits b.1<=4000/\intBits b.2<=4000)/\q (.bool (stp a b))
theorem qug:FnScope [Sc,Sa] [Sc,Sa] (defScope qmb):=sc0
theorem qvd(F:Def K mg "is_steeper" qmb [Sc,Sa])(T:Txt K mg cs):Ok P w K mg base "is_steeper" 1 [Sc,Sa] (PSp K qka):=by
  refine F.vok qug (by rintro d q ⟨_,_,h,_⟩;rw[h];rfl) λf e A c s H E l d q h=>?_;obtain⟨a,b,rfl,⟨g,i,j,k⟩,h⟩:=h;refine⟨_,(qh (qw (qce zeb (qx qR (qr (qc 0) qf) (qr (qc 1) qf)) (qx qR (qr (qc 1) qf) (qr (qc 0) qf))))),?_⟩;exact⟨_,rfl,_,rfl,qcv i j,_,rfl,_,rfl,qcv k g,h⟩
def qfz(ds:List Qj)(q:List Qj->Prop):Prop :=∃C:List (Int×Int),ds=[.list (C.map dC)]/\(C.length<=12/\(∀c∈C,intBits c.1<=4000/\intBits c.2<=4000)/\Stps C) /\ ∀p,PmN C.length p->(∀i j,i<j->j<C.length->stp (C.getD (p.getD i 0) (0,0)) (C.getD (p.getD j 0) (0,0))=true)->q (p.toList.map λi=>dC (C.getD i (0,0)))
theorem qlm:FnScope ["steps"] ["steps"] (defScope qgn):=sc0
theorem qli(F:DefT K mg "steepest_first" qgn ["steps"] cs.c1)(T:Txt K mg cs)(U:K.In base)(g:Ok P w K mg base "is_steeper" 1 [Sc,Sa] (PSp K qka)):Ok P w K mg base "steepest_first" 3 ["steps"] (qkq [cs.tb,cs.tb1] (FSp K qfz)):=by
  refine F.ok qlm (by rintro vs H Q E ⟨_,F,ds,q,_,i,⟨_,h,_⟩,_⟩;rw[i.len,h];rfl) λf A u s H vs Q E z h=>?_;obtain⟨B,m,ds,q,D,G,⟨C,rfl,⟨hl,W,X⟩,hq⟩,kk⟩:=h;have ts:TbS cs.tb1 H:=B _ (by simp);obtain⟨hu1,J,L⟩:=z.sort;refine⟨_,qei (qkr (zei (tb:=cs.tb1) (c0:=cs.c1) (iy:=0) (x := "step") (y := "steps") J z.hd L ts rfl (qxa U T.tab1_h) (zhf U T.bm_ T.bm1_h) rfl T.sorted_ (pv 0)
   ⟨rfl,rfl,rfl,rfl,rfl,by decide,λ_ _=>rfl,λ_=>rfl,qnu (by decide +kernel),qnu (by decide +kernel)⟩ rfl rfl rfl rfl (λ_ _ _ _ _ _=>rfl) (λq f c s H=>VE.peK (K:=K) (qA qdh T.len_ L2.boot_len (qd (qC (zjy (caps:=["step"]) (own:=[Sa]) (ix:=[0]) rfl ⟨rfl,rfl,rfl,rfl,rfl,rfl⟩ (qV (qc 1)) (λ_ _ _ _=>(ql (i:=1) (show Zb (["step",Sa]:List Str) by decide))) (λ_ _ _ _=>(qbj (qt g.c ((z.lam _).mono (by decide)) (qd (qc 1) (qd (qc 0) qe))))) (λ_ _ _ _=>(qc 1)))) qe))))),?_⟩
  obtain⟨vg,rfl,Y⟩:=qoe G;obtain⟨a,n,rfl,sq,ix⟩:∃a n,vg = .ref a/\SqL K m a n/\Iss K m (C.map dC) n:=by have:=Y;exact this
  have Z:n.length=C.length:=by rw[ix.len,Qe]
  have M:∀{i:Nat},i<C.length->C[i]?=some (C.getD i (0,0)):=λ{i} G=>by grind
  refine⟨a,n,λi=>(qvr C (C.getD i (0,0)):Int),⟨rfl,D.seq sq,by lia⟩,by rw[Z];exact X.ord,λH1 go gs=>⟨λH'=>Same m H',D.trans gs,λi v H2 ev g2=>?_,λp l H3 o hs N g3 nl r=>?_⟩⟩
  ·have G:i<C.length:=by grind
   obtain⟨c,ec⟩:∃c,c=C.getD i (0,0):=⟨_,rfl⟩
   have ci:C[i]?=some c:=by grind
   obtain⟨v',t,iv⟩:=ix.get (show(C.map dC)[i]?=some (dC c) by grind);rw[ev]at t;cases t;have zc:=W c (Qh ci);refine⟨⟨H2,H2,m⟩,[.val (dC c),.val (.list (C.map dC))],m,λd e=>d = .int (qvr C c),qpz g2 ⟨_,_,rfl,⟨⟨v,rfl,iv⟩,rfl⟩,_,_,rfl,⟨⟨.ref a,rfl,Y⟩,rfl⟩,rfl⟩,?_,λd v' F' H' env' I s' i' hd=>?_⟩
   ·refine⟨qm (by grind),λj O e=>O=((C.take j).filter λb=>stp b c).map dC /\ ∃s,e=[.val (dC c),s],⟨rfl,_,rfl⟩,?_,?_⟩
    ·rintro j x O e R ⟨rfl,s,rfl⟩;rw[Qa]at R;cases eb:C[j]? with
     |none=>grind
     |some b =>
      rw[eb]at R;cases R;have zb:=W b (Qh eb);have et:C.take (j+1)=C.take j++[b]:=by grind[Z0]
      refine⟨b,c,rfl,⟨zb.1,zb.2,zc.1,zc.2⟩,qqg (λh=>⟨?_,_,rfl⟩) (λh=>⟨?_,_,rfl⟩)⟩
      ·grind
      grind
    ·rintro O e ⟨rfl,s,rfl⟩;rw[Qe,Zm];show Q8 (((C.filter λb=>stp b c).map dC).length:Nat)=Q8 (qvr C c);rw[Qe];rfl
   ·subst hd;refine⟨I.bh,I.f0.trans I.fh,?_⟩;show v'=V.int (qvr C (C.getD i (0,0)):Int);rw[<- ec];exact i'.int_inv
  ·rw[Z]at o hs;have pk:=zdh ix (js:=p.toList) λj k=>by rw[Qe];exact Zi.mp (o.p.mem_iff.mp k)
   have ep:(p.toList.map λj=>(C.map dC).getD j Qj.none)=p.toList.map λi=>dC (C.getD i (0,0)):=Q9 λj k=>by
    have k:=Zi.mp (o.p.mem_iff.mp k);rw[Zy,Qa,M k];rfl
   rw[ep]at pk;exact kk _ l _ m _ ⟨.refl _,(gs.trans N).trans (qbh nl),g3.trans (qbh nl),λ_ _ e => .inl e⟩ r (D.free r) qk pk (hq p o λi j S k=>X.srt o hs S k)
section
variable{b:Int}{R:LL}{m:Nat}{c:Int}{S:LL}{n:Nat}{B:Int}{D:LL}
theorem qdq(h:T[i]?=some r)(k:r[j]?=some x):at2 T i j=x:=by
 unfold at2;rw[h];show(r[j]?).getD 0=x;rw[k];rfl
theorem qcx(h:∀r∈T,∀x∈r,0<=x)(i j:Nat):0<=at2 T i j:=by
 unfold at2;cases e:T[i]? with
 |none=>exact V2 _
 |some r =>
  show 0<=(r[j]?).getD 0;cases e':r[j]? with
  |none=>exact V2 _
  |some x=>exact h r (Qh e) x (Qh e')
theorem znw(h:T[i]?=some r):(qo r.length λj=>at2 T i j)=r.sum:=by
 have a:(Qm r.length).map (λj=>at2 T i j)=r:=by
  refine Zt λj=>?_;rw[Qa];grind[Qo,Qc,qdq,Q5]
 grind[qaz]
theorem Tab.rs(h:Tab B T n)(a:i<T.length):(qo n λj=>at2 T i j)=B:=by
 have e:=Qc a;rw[<- h.len _ (Ze a),znw e,h.sum _ (Ze a)]
def mkT(m n:Nat)(f:Nat->Nat->Int):LL:=(Qm m).map λi=>(Qm n).map λj=>f i j
theorem zqm(a:i<m)(b:j<n):at2 (mkT m n f) i j=f i j:=by
 refine qdq (r:=(Qm n).map λj=>f i j) ?_ ?_
 ·unfold mkT;rw[Qa,Qo a];rfl
 ·rw[Qa,Qo b];rfl
theorem zin(m n:Nat)(f:Nat->Nat->Int):(mkT m n f).length=m:=by simp[mkT]
theorem zim(hB:1<=B)(h0:∀i j,i<m->j<n->0<=f i j)(hs:∀i,i<m->qo n (f i)=B):Tab B (mkT m n f) n where
 pos:=hB
 len:=λr hr=>by
  obtain⟨i,_,rfl⟩:=Ql.mp hr;simp
 nn:=λr hr x hx=>by
  obtain⟨i,hi,rfl⟩:=Ql.mp hr;grind
 sum:=λr hr=>by
  obtain⟨i,hi,rfl⟩:=Ql.mp hr;grind[qaz]
theorem qkg(p q:Nat)(f:Nat->Nat->Int):(qo p λi=>qo q λj=>f i j)=qo q λj=>qo p λi=>f i j:=by
 induction p with
 |zero=>grind[qao]
 |succ p a =>
  show(qo p λi=>qo q λj=>f i j)+qo q (λj=>f p j)=qo q λj=>(qo p λi=>f i j)+f p j;rw[a,qep]
theorem qfg:∀{n:Nat},(∀i,i<n->f i<=g i)->qo n f<=qo n g
 |0,_=>V2 _
 |n+1,h=>by
  show qo n f+f n<=qo n g+g n;have a:=qfg (f:=f) (g:=g) (n:=n) λi b=>h i (by omega);grind
theorem qth{a x y:Int}(h:0<=a)(e:x<=y):a*x<=a*y:=Yn e h
theorem Dul.trans(v:0<c)(q:S.length=R.length)(h:Dul b R m c S n B D)(k:Dul c S n d T p C E):
 Dul b R m d T p (B*C) (mkT m p λi l=>qo n λj=>at2 D i j*at2 E j l):=by
  have w:=h.t.pos;have x:=k.t.pos;have r:0<B*C:=Za (by lia) (by lia);refine⟨zim (by lia) (λi l f o=>qgc λj e=>Q2 (qcx h.t.nn i j) (qcx k.t.nn j l)) (λi f=>?_),zin ..,λs l t o=>?_⟩
  ·rw[qkg,qj (g:=λj=>C*at2 D i j) λj e=>?_,qy,h.t.rs (by rw[h.l];exact f),Zp];rw[qy,k.t.rs (by rw[k.l];exact e),Zp]
  ·have u:(qo m λi=>at2 R s i*at2 (mkT m p λi l=>qo n λj=>at2 D i j*at2 E j l) i l)=qo n λj=>at2 E j l*qo m λi=>at2 R s i*at2 D i j:=by
    have a:(qo m λi=>at2 R s i*at2 (mkT m p λi l=>qo n λj=>at2 D i j*at2 E j l) i l)=qo m λi=>qo n λj=>at2 E j l*(at2 R s i*at2 D i j):=qj λi f=>by
     grind[zqm,qy,qj]
    rw[a,qkg];grind[qj,qy]
   rw[u];have y:c*(qo n λj=>at2 E j l*qo m λi=>at2 R s i*at2 D i j)=b*B*qo n λj=>at2 S s j*at2 E j l:=by
    rw[<- qy,<- qy];refine qj λj e=>?_;have:=h.e s j t e;grind
   have z:=k.e s l (by grind) o;have:c*(d*qo n λj=>at2 E j l*qo m λi=>at2 R s i*at2 D i j)=c*(at2 T s l*b*(B*C)):=by
    grind
   grind[Zz]
theorem Dul.pick{f:Nat->Nat}(e:∀i,i<m->f i<n)(h:∀s j,s<R.length->j<n->c*(qo m λi=>at2 R s i*if f i=j then 1 else 0)=at2 S s j*b):Dul b R m c S n 1 (mkT m n λi j=>if f i=j then 1 else 0):=by
 refine⟨zim (by decide) (λi j _ _=>by split <;> decide) (λi a=>?_),zin ..,λs j g d=>?_⟩
 ·rw[qQ (e i a) λj _ ne=>if_neg (Z9 ne),if_pos rfl]
 ·rw[Qeg,<- h s j g d]
  congr 1
  exact qj λi a=>by rw[zqm a d]
theorem Dul.self(b:Int)(R:LL)(m:Nat):Dul b R m b R m 1 (mkT m m λi j=>if i=j then 1 else 0) :=
 Dul.pick (f:=id) (λi a=>a) λs j d c=>by
  rw[qQ c λi _ ne=>by grind,if_pos (show id j=j from rfl),Qeg,Zp]
theorem Dul.same(h:∀s j,s<R.length->j<m->b'*at2 R s j=at2 R' s j*b):Dul b R m b' R' m 1 (mkT m m λi j=>if i=j then 1 else 0) :=
 Dul.pick (f:=id) (λi c=>c) λs j d a=>by
  rw[qQ a λi _ ne=>by grind,if_pos (show id j=j from rfl),Qeg,h s j d a]
def qqc(f:Nat->Int):Nat->Int
 |0=>f 0
 |k+1=>if qqc f k<f (k+1)then f (k+1)else qqc f k
theorem qng(f:Nat->Int):∀{k i:Nat},i<=k->f i<=qqc f k
 |0,i,h=>by rw[Nat.le_zero.mp h];exact V2 _
 |k+1,i,h=>by
  show f i<=if qqc f k<f (k+1)then f (k+1)else qqc f k
  by_cases e:i=k+1
  ·grind
  ·have:=qng f (show i<=k by lia);grind
theorem qgs(f:Nat->Int):∀k:Nat,∃i,i<=k/\qqc f k=f i
 |0=>⟨0,Qs _,rfl⟩
 |k+1=>by
  obtain⟨i,a,e⟩:=qgs f k;show∃i,i<=k+1/\(if qqc f k<f (k+1)then f (k+1)else qqc f k)=f i;grind
def qpm(R Y:LL)(w m a:Nat):Int:=qo m λi=>qqc (λx=>qo w λs=>at2 R s i*at2 Y s x) a
theorem Dul.best(u:0<b)(v:0<c)(h:Dul b R m c S n B D):qpm S Y R.length n a*b<=qpm R Y R.length m a*c:=by
 have w:=h.t.pos;have d:∀j,j<n->b*B*qqc (λx=>qo R.length λs=>at2 S s j*at2 Y s x) a<=c*qo m λi=>at2 D i j*qqc (λx=>qo R.length λs=>at2 R s i*at2 Y s x) a:=λj l=>by
  obtain⟨x,o,e⟩:=qgs (λx=>qo R.length λs=>at2 S s j*at2 Y s x) a;rw[e];have p:b*B*(qo R.length λs=>at2 S s j*at2 Y s x)=c*qo m λi=>at2 D i j*qo R.length λs=>at2 R s i*at2 Y s x:=by
   have q:b*B*(qo R.length λs=>at2 S s j*at2 Y s x)=qo R.length λs=>at2 Y s x*(c*qo m λi=>at2 R s i*at2 D i j):=by
    rw[<- qy];refine qj λs k=>?_;rw[h.e s j k l];grind
   have r:(qo R.length λs=>at2 Y s x*(c*qo m λi=>at2 R s i*at2 D i j))=qo R.length λs=>qo m λi=>c*(at2 D i j*(at2 R s i*at2 Y s x)):=qj λs k=>by
    rw[<- qy,<- qy];grind
   rw[q,r,qkg,<- qy];exact qj λi f=>by grind[qy]
  rw[p];exact qth (by lia) (qfg λi f=>qth (qcx h.t.nn i j) (qng (λx=>qo R.length λs=>at2 R s i*at2 Y s x) o))
 have y:b*B*qpm S Y R.length n a<=c*B*qpm R Y R.length m a:=by
  unfold qpm;rw[<- qy];refine Qen (qfg d) ?_;rw[qy,qkg,J9];refine qth (by lia) ?_;rw[<- qy];refine qfg λi f=>?_;have:(qo n λj=>at2 D i j*qqc (λx=>qo R.length λs=>at2 R s i*at2 Y s x) a)=B*qqc (λx=>qo R.length λs=>at2 R s i*at2 Y s x) a:=by
   rw[qj (g:=λj=>qqc (λx=>qo R.length λs=>at2 R s i*at2 Y s x) a*at2 D i j) λj _=>Zp _ _,qy,h.t.rs (by rw[h.l];exact f),Zp]
  grind
 have t:B*(qpm S Y R.length n a*b)<=B*(qpm R Y R.length m a*c):=by
  grind
 exact Qbg t (by lia)
end
theorem ztu(a:g≠0)(h:∀r∈R,∀x∈r,g∣x)(s j:Nat):g*at2 (qbt R g) s j=at2 R s j:=by
 unfold at2 qbt;rw[Qa];cases e:R[s]? with
 |none=>simp
 |some r =>
  show g*((r.map λn=>n/g)[j]?).getD 0=(r[j]?).getD 0;rw[Qa];cases e':r[j]? with
  |none=>simp
  |some x=>exact Vi (h r (Qh e) x (Qh e'))
theorem qut(h:Tab b R m)(a:R≠[]):∃g:Int,0<g/\g*(b/qaa R)=b /\ ∀s j,g*at2 (qbt R (qaa R)) s j=at2 R s j:=by
 have e:=h.gpos a;exact⟨qaa R,by lia,Vi (h.gdvd a),ztu (by lia) λr c x d=>qhf c d⟩
def sc(k:Int)(R:LL):LL:=R.map λr=>r.map λn=>k*n
def qkk(r s:LI):LI:=r.flatMap λx=>s.map λy=>y*x
def qje(R S:LL):LL:=J4 qkk R S
theorem zca:∀(r s:LI),(qkk r s).sum=r.sum*s.sum
 |[],s=>by simp[qkk]
 |x::r,s=>by
  have e:qkk (x::r) s=(s.map λy=>y*x)++qkk r s:=rfl;have a:(s.map λy=>y*x)=s.map λy=>x*y:=Q9 λy _=>Zp _ _;rw[e,Jx,zca r s,a,qiw,Q3,Jc];simp
theorem qya:∀(r s:LI),(qkk r s).length=r.length*s.length
 |[],s=>by simp[qkk]
 |x::r,s=>by
  have e:qkk (x::r) s=(s.map λy=>y*x)++qkk r s:=rfl;rw[e,Y2,qya r s,Qe,Zg,Qgt,Qjs]
theorem zvr(h:z∈qkk r s):∃x∈r,∃y∈s,z=y*x:=by
 obtain⟨x,a,h⟩:=List.mem_flatMap.mp h;grind
theorem qyr(h:t∈qje R S):∃r∈R,∃s∈S,t=qkk r s:=by
 unfold qje at h;obtain⟨i,a,rfl⟩:=Qbn h;grind
theorem Tab.bes(h:Tab b R m)(k:Tab c S n):Tab (b*c) (qje R S) (m*n) where
 pos:=by have:=Za (show 0<b by have:=h.pos;lia) (show 0<c by have:=k.pos;lia);lia
 len:=λt ht=>by
  obtain⟨r,hr,s,hs,rfl⟩:=qyr ht;rw[qya,h.len r hr,k.len s hs]
 nn:=λt ht z hz=>by
  obtain⟨r,hr,s,hs,rfl⟩:=qyr ht;obtain⟨x,hx,y,hy,rfl⟩:=zvr hz;exact Q2 (k.nn s hs y hy) (h.nn r hr x hx)
 sum:=λt ht=>by
  obtain⟨r,hr,s,hs,rfl⟩:=qyr ht;rw[zca,h.sum r hr,k.sum s hs]
theorem qrf(h:R.length=S.length):(qje R S).length=R.length:=by unfold qje;rw[List.length_zipWith,h,Qjt]
structure BesPre(b:Int)(R:LL)(m:Nat)(c:Int)(S:LL)(n:Nat):Prop where
 r:Tab b R m
 s:Tab c S n
 l:R.length=S.length
 r1:1<=R.length
 r2:R.length<=900
 n1:n<=900
 m1:m<=900
 mn:m*n<=12
 zb:intBits b<=4000
 zc:intBits c<=4000
theorem znj(r s:LI)(x:Int):qkk (r++[x]) s=qkk r s++s.map λy=>y*x:=by
 unfold qkk;rw[List.flatMap_append];simp
section
variable{b:Int}{R:LL}{m:Nat}{c:Int}{S:LL}{n:Nat}{B:Int}{D:LL}{d:Int}{T:LL}{p:Nat}
theorem zrx:∀{a b:LI}{i j:Nat},b.length=n->i<a.length->j<n->(qkk a b)[i*n+j]?=some ((b[j]?).getD 0*(a[i]?).getD 0)
 |[],b,i,j,_,c,_=>by simp at c
 |x::a,b,0,j,d,_,f=>by
  show((b.map λy=>y*x)++qkk a b)[0*n+j]?=_;grind
 |x::a,b,i+1,j,d,c,f=>by
  show((b.map λy=>y*x)++qkk a b)[(i+1)*n+j]?=_;have e:(i+1)*n+j=n+(i*n+j):=by grind
  rw[e,Yj (by grind),Qe,show n+(i*n+j)-b.length=i*n+j by omega];exact zrx d (by grind) f
theorem zzr{f:LI->LI->LI}(e:R.length=S.length)(d:s<R.length):∃r a,R[s]?=some r/\S[s]?=some a/\r∈R/\a∈S/\(J4 f R S)[s]?=some (f r a):=by
 have b:=Qc d;have c:S[s]?=some (S[s]'(by lia)):=Qc _;exact⟨_,_,b,c,Qh b,Qh c,by rw[Ji,b,c]⟩
theorem qcb(h:T[s]?=some r):at2 T s j=(r[j]?).getD 0:=by
 unfold at2;rw[h];rfl
theorem zxy(a:Tab b R m)(d:Tab c S n)(e:R.length=S.length)(g:s<R.length)(v:i<m)(h:j<n):at2 (qje R S) s (i*n+j)=at2 S s j*at2 R s i:=by
 obtain⟨r,k,l,o,p,q,t⟩:=zzr (f:=qkk) e g;have w:=a.len r p;have u:=d.len k q;rw[qdq (T:=qje R S) t (zrx u (by lia) h),qcb l,qcb o]
theorem zwt(h:j<n):(i*n+j)/n=i/\(i*n+j)%n=j:=by
 constructor
 ·rw[Qjs,Nat.add_mul_div_right _ _ (by lia),Qfv h,Qbr]
 ·rw[Qjs,Nat.add_mul_mod_self_right,Qkl h]
theorem xgr(h:Tab b R m)(l:Tab c S n)(o:R.length=S.length)(r:1<=n):Dul (b*c) (qje R S) (m*n) c S n 1 (mkT (m*n) n λk i=>if k%n=i then 1 else 0):=by
 refine Dul.pick (f:=λk=>k%n) (λk t=>Nat.mod_lt _ (by lia)) λs j p d=>?_;have a:s<R.length:=by unfold qje at p;grind
 rw[qfe,qj (g:=λi=>at2 S s j*at2 R s i) λi q=>?_,qy,h.rs a]
 ·grind
 ·rw[qQ d λu e ne=>by rw[(zwt e).2,if_neg ne,Yr],(zwt d).2,if_pos rfl,zxy h l o a q d];grind
end
section
variable{b:Int}{R:LL}{m:Nat}{c:Int}{S:LL}{n:Nat}{B:Int}{D:LL}{b' c':Int}{R' S':LL}
end
theorem zdl(h:(∃x∈gs,s∈x.2)\/s=t):∃x∈qqe gs k t,s∈x.2:=by
 unfold qqe;split
 ·rename_i b;rcases h with⟨x,a,c⟩|rfl
  ·grind
  ·obtain⟨x,a,e⟩:=Vo.mp b;grind
 ·rcases h with⟨x,a,c⟩|rfl
  ·grind
  ·exact⟨_,Qz _ (Q6.mpr rfl),by simp⟩
theorem zhr(R:LL):∀n s,s<n->(qO R s).any (· != 0)=true ->∃x∈grs R n,s∈x.2
 |0,s,h,_=>by omega
 |n+1,s,h,a=>by
  unfold grs;by_cases e:s=n
  ·subst e;rw[if_pos a];exact zdl (.inr rfl)
  ·have b:=zhr R n s (by omega) a;split
   ·exact zdl (.inl b)
   ·exact b
theorem qzq(R:LL):∀n,∀x∈grs R n,x.2.Nodup
 |0,x,a=>by cases a
 |n+1,x,a=>by
  unfold grs at a;split at a
  ·unfold qqe at a;split at a
   ·obtain⟨y,b,rfl⟩:=Ql.mp a;have c:=qzq R n y b;have lt:=qqa R n y b;grind
   ·rcases Zh.mp a with z|z
    ·exact qzq R n x z
    grind
  ·exact qzq R n x a
structure GsPart(R:LL)(n:Nat)(Gs:List (List Nat)):Prop where
 nd:∀G∈Gs,G.Nodup
 all:∀s,s<n->(qO R s).any (· != 0)=true ->∃G∈Gs,s∈G
 one:∀(a b:Nat)(G G':List Nat)(s:Nat),Gs[a]?=some G->Gs[b]?=some G'->s∈G->s∈G'->a=b
 pr:∀G∈Gs,∀s∈G,Col (qO R s)/\nrm (qO R s)=nrm (jc R G)
theorem zvj(B:∀r∈R,∀x∈r,0<=x)(k:PmN (grs R n).length p):GsPart R n (p.toList.map λi=>qds R n i):=by
 have w:=zrn k λi=>qds R n i;rw[qwg]at w;have h:=qml B n;have f:∀G∈p.toList.map (λi=>qds R n i),∃x∈grs R n,x.2=G:=λG g=>Ql.mp (w.mem_iff.mp g);have E:=k.p.nodup_iff.mpr Qfu;refine⟨λG g=>?_,λs y l=>?_,λa b G F s l u m o=>?_,λG g s y=>?_⟩
 ·obtain⟨x,t,rfl⟩:=f G g;grind[qzq]
 ·grind[zhr]
 ·rw[Qa]at l u;cases e1:p.toList[a]? with
  |none=>grind
  |some i =>
   cases e2:p.toList[b]? with
   |none=>grind
   |some j =>
    rw[e1]at l;rw[e2]at u;cases l;cases u;have d:=Zi.mp (k.p.mem_iff.mp (Qh e1));have v:=Zi.mp (k.p.mem_iff.mp (Qh e2));have A:∀{i:Nat}(d:i<(grs R n).length),qds R n i=(grs R n)[i].2:=λ{i} d=>by unfold qds;rw[Qc d];rfl
    have m:s∈qds R n i:=m;have o:s∈qds R n j:=o;rw[A d]at m;rw[A v]at o;have C:=(h.me _ (Ze d) s m).2;have D:=(h.me _ (Ze v) s o).2;have H:i=j:=by
     have q:=C.symm.trans D;have z:=h.ky;refine(Qat (i:=i) (j:=j) (by simpa using d) z).mp ?_;rw[Qa,Qa,Qc d,Qc v];exact congrArg some q
    grind[Qat]
 ·obtain⟨x,t,rfl⟩:=f G g;obtain⟨c,e⟩:=h.me x t s y;exact⟨c,e.trans (qzo (h.ne x t) (h.me x t)).1.symm⟩
theorem qmr(r:LI):∀{G:List Nat},G.Nodup->(∀s∈G,s<n)->qdl r G=qo n λi=>if i∈G then(r[i]?).getD 0 else 0
 |[],_,_=>by rw[qao λi _=>by grind];simp[qdl]
 |s::G,a,lt=>by
  rw[Js]at a;have b:=qmr r (n:=n) a.2 λx c=>lt x (Qk _ c);have e:qdl r (s::G)=(r[s]?).getD 0+qdl r G:=by unfold qdl;grind
  have q:(qo n λi=>if i∈s::G then(r[i]?).getD 0 else 0)=qo n λi=>(if i=s then(r[i]?).getD 0 else 0)+if i∈G then(r[i]?).getD 0 else 0:=qj λi _=>by
   grind
  rw[e,b,q,qep,qQ (lt s (by simp)) λi _ ne=>if_neg ne,if_pos rfl]
theorem qrw{R:LL}(a:R[s]?=some r)(b:Gs[l]?=some G):at2 (R.map (qcl Gs)) s l=qdl r G:=by
 refine qdq (r:=qcl Gs r) (by rw[Qa,a];rfl) ?_;unfold qcl;rw[Qa,b];rfl
theorem zqg(h : ¬ (qO R i).any (· != 0)=true)(a:s<R.length):at2 R s i=0:=by
 have e:=Qc a;rw[qcb e];refine Vv λz=>h (Vo.mpr ⟨_,?_,by simpa using z⟩);unfold qO;grind
theorem qle(h:∃G∈Gs,s∈G):∃G,Gs[qca Gs s]?=some G/\s∈G:=by
 unfold qca;cases e:Gs.findIdx? (λG=>G.contains s)with
 |none =>
  grind
 |some i =>
  grind[Qcc,Qc]
theorem zfa(h:Gs≠[]):qca Gs s<Gs.length:=by
 by_cases e:∃G∈Gs,s∈G
 ·obtain⟨G,a,_⟩:=qle e;grind
 ·rw[qmk λG a z=>e ⟨G,a,z⟩];grind
section
variable{b:Int}{R:LL}{n:Nat}{Gs:List (List Nat)}
theorem zwv(a:Tab b R n)(c:R≠[])(g:GsOk R n Gs):Gs≠[]:=λz=>by
 obtain⟨r,d,rfl⟩:=Q1 c;have:=g.sum r (by simp) (a.len r (by simp));rw[z,a.sum r (by simp)]at this;have:=a.pos;grind
theorem zko(q:Tab b R n)(r:R≠[])(g:GsOk R n Gs)(h:GsPart R n Gs):Dul b R n b (R.map (qcl Gs)) Gs.length 1 (mkT n Gs.length λi j=>if qca Gs i=j then 1 else 0):=by
 refine Dul.pick (λi e=>zfa (zwv q r g)) λs l f k=>?_;have m:=Qc f;have o:=Qc k;have d:=Ze k;rw[qrw m o,qmr R[s] (n:=n) (h.nd _ d) (g.lt _ d),Zp]
 congr 1
 refine qj λi e=>?_;rw[qcb m];by_cases c:i∈Gs[l]
 ·have:qca Gs i=l:=by
   obtain⟨G,p,a⟩:=qle ⟨_,d,c⟩;exact h.one _ _ _ _ i p o a c
  grind
 ·rw[if_neg c];by_cases t:qca Gs i=l
  ·rw[if_pos t,Qeg];have:=zqg (R:=R) (i:=i) (s:=s) (λu=>c ?_) f
   ·grind[qcb]
   ·obtain⟨G,p,a⟩:=qle (h.all i e u);grind
  grind
theorem zvm(h:GsPart R n Gs)(g:GsOk R n Gs)(m:G∈Gs)(o:i∈G){s:Nat}(k:R[s]?=some r):qdl r G*(qO R i).sum=(r[i]?).getD 0*(jc R G).sum:=by
 obtain⟨c,e⟩:=h.pr G m i o;have p:=qrq e;have q:(jc R G)[s]?=some (qdl r G):=by unfold jc;rw[Qa,k];rfl
 have t:(qO R i)[s]?=some ((r[i]?).getD 0):=by unfold qO;rw[Qa,k];rfl
 have f:∀(u v:LI)(x y:Int),u.length=v.length->(∀(j:Nat)(a d:Int),u[j]?=some a->v[j]?=some d->x*a=y*d)->x*u.sum=y*v.sum:=by
  intro u
  induction u with
  |nil=>intro v x y b _;cases v with
   |nil=>simp
   |cons _ _=>simp at b
  |cons a u w =>
   intro v x y b l;cases v with
   |nil=>simp at b
   |cons d v =>
    rw[Q3,Q3,Qkw,Qkw,l 0 a d rfl rfl,w v x y (by simpa using b) λj a d z A=>l (j+1) a d (by simpa using z) (by simpa using A)]
 refine f _ _ _ _ (by unfold qO jc;rw[Qe,Qe]) λj a d B C=>?_;have:=p s j _ _ _ _ t B q C;grind
theorem zeg(J:Tab b R n)(X:R≠[])(g:GsOk R n Gs)(h:GsPart R n Gs)(Y:0<B)(H:∀r∈Gs.map (λG=>qX R G n),∀x∈r,x.2∣B):Dul b (R.map (qcl Gs)) Gs.length b R n B ((Gs.map λG=>qX R G n).map (qak B)):=by
 have p:∀G∈Gs,0<(jc R G).sum:=λG f=>(qpv J g f).1;have j:∀{l i:Nat}{G:List Nat},Gs[l]?=some G->i<n->at2 ((Gs.map λG=>qX R G n).map (qak B)) l i*(jc R G).sum=B*qae R G i:=λ{l i G} a c=>by
  have f:=Qh a;have D:=p G f;obtain⟨Z,q⟩:=qcc (t:=qae R G i) (b:=(jc R G).sum) (by lia);have dv:=H _ (Ql.mpr ⟨G,f,rfl⟩) (shT (qae R G i) (jc R G).sum,shB (qae R G i) (jc R G).sum) (Ql.mpr ⟨i,Zi.mpr c,rfl⟩);rw[qdq (r:=qak B (qX R G n)) (x:=shT (qae R G i) (jc R G).sum*(B/shB (qae R G i) (jc R G).sum)) (by grind) (by unfold qak qX;grind)];grind[Vi]
 have u:∀G∈Gs,(qo n λi=>qae R G i)=(jc R G).sum:=λG f=>by
  have e:(qo n λi=>qae R G i)=qo n λi=>qo R.length λs=>if i∈G then at2 R s i else 0:=qj λi c=>by
   unfold qae;split
   ·unfold qO;rw[<- qaz]
    congr 1
    refine Zt λs=>?_;rw[Qa,Qa];grind[Qo,Qc,qcb,Q5]
   grind[qao]
  rw[e,qkg];unfold jc;rw[<- qaz]
  congr 1
  refine Zt λs=>?_;rw[Qa,Qa];by_cases v:s<R.length
  ·rw[Qo v,Qc v];show some _=some (qdl R[s] G);rw[qmr R[s] (n:=n) (h.nd G f) (g.lt G f)];refine congrArg some (qj λi c=>?_);rw[qcb (Qc v)]
  grind
 have d:∀r∈(Gs.map λG=>qX R G n).map (qak B),∃(l:Nat)(G:List Nat),Gs[l]?=some G/\r=(Qm n).map λi=>at2 ((Gs.map λG=>qX R G n).map (qak B)) l i:=λr o=>by
  obtain⟨l,a⟩:=Jj.mp o;rw[Zj,Qa]at a;cases e:Gs[l]? with
  |none=>rw[e]at a;cases a
  |some G =>
   rw[e]at a;cases a;refine⟨l,G,e,Zt λi=>?_⟩;show(qak B (qX R G n))[i]?=_;rw[Qa];by_cases c:i<n
   ·rw[Qo c];have K:(qak B (qX R G n))[i]?=some (shT (qae R G i) (jc R G).sum*(B/shB (qae R G i) (jc R G).sum)):=by unfold qak qX;rw[Qa,Qa,Qo c];rfl
    rw[K,<- qdq (T:=(Gs.map λG=>qX R G n).map (qak B)) (i:=l) (by rw[Qa,Qa,e];rfl) K];rfl
   ·rw[Q5 (by unfold qak qX;simp;lia),Q5 (by simp;lia)];rfl
 refine⟨⟨by lia,λr o=>?_,λr o x E=>?_,λr o=>?_⟩,by simp,λs i v c=>?_⟩
 ·obtain⟨l,G,a,e⟩:=d r o;rw[e];simp
 ·obtain⟨l,G,a,e⟩:=d r o;rw[e]at E;obtain⟨i,c,rfl⟩:=Ql.mp E;have k:=j a (Zi.mp c);have D:=p G (Qh a);have N:=(zqo J G i).1;have:0*(jc R G).sum<=at2 ((Gs.map λG=>qX R G n).map (qak B)) l i*(jc R G).sum:=by rw[k,Zr];exact Q2 (by lia) N
  exact Qba this D
 ·obtain⟨l,G,a,e⟩:=d r o;have f:=Qh a;have D:=p G f;rw[e,qaz];have:(jc R G).sum*(qo n λi=>at2 ((Gs.map λG=>qX R G n).map (qak B)) l i)=(jc R G).sum*B:=by
   rw[<- qy,qj (g:=λi=>B*qae R G i) λi c=>by rw[Zp];exact j a c,qy,u G f,Zp]
  exact Zz (by lia) this
 ·have y:s<R.length:=by simpa using v
  have q:=Qc y;rw[qcb q];by_cases I:(qO R i).any (· != 0)=true
  ·obtain⟨G,f,A⟩:=h.all i c I;obtain⟨l,a⟩:=Jj.mp f;have O:=(Qp.mp a).1;have D:=p G f;rw[qQ O λL C ne=>?_]
   ·rw[qrw q a];have m:=j a c;have P:=zvm h g f A q;have Q:qae R G i=(qO R i).sum:=if_pos A;rw[Q]at m;refine Zs (show(jc R G).sum≠0 by lia) ?_;generalize at2 ((Gs.map λG=>qX R G n).map (qak B)) l i=x at *;generalize (jc R G).sum=w at *
    calc b*(qdl R[s] G*x)*w=b*(qdl R[s] G*(x*w)):=by grind
     _=b*B*(qdl R[s] G*(qO R i).sum):=by rw[m];grind
     _=_:=by rw[P];grind
   ·have F:=Qc C;have m:=j F c;have S:i∉Gs[L]:=λz=>ne (h.one _ _ _ _ i F a z A);rw[show qae R Gs[L] i=0 from if_neg S,Yr]at m;have U:=p _ (Ze C);rcases Yf.mp m with z|z
    ·rw[z,Yr]
    ·lia
  ·have z:=zqg I y;rw[qcb q]at z;rw[z,Zr,Zr,qao λl a=>?_,Yr];have F:=Qc a;have m:=j F c;have V:qae R Gs[l] i=0:=by
    unfold qae;split
    ·rename_i A;obtain⟨⟨_,x,E,W⟩,_⟩:=h.pr _ (Ze a) i A;exact(I (Vo.mpr ⟨x,E,by simpa using W⟩)).elim
    ·rfl
   rw[V,Yr]at m;have U:=p _ (Ze a);rcases Yf.mp m with M|M
   ·rw[M,Yr]
   ·lia
end
theorem zgy(w:Nat->Int):∀m:Nat,(∀i,i<m->0<w i) ->∃Q:Int,0<Q /\ ∀i,i<m->w i∣Q
 |0,_=>⟨1,by decide,λi a=>by omega⟩
 |m+1,h=>by
  obtain⟨Q,q0,b⟩:=zgy w m λi a=>h i (by omega);refine⟨Q*w m,Za q0 (h m (by omega)),λi a=>?_⟩;grind[Qdj,Vu,Qjj]
def zde(J:LL)(i:Nat):Int:=qo J.length λs=>at2 J s i
structure Ind(J:LL)(m:Nat):Prop where
 p:∀i,i<m->0<zde J i
 d:∀i j,i<m->j<m->(∀s,s<J.length->at2 J s i*zde J j=at2 J s j*zde J i)->i=j
section
variable{b c:Int}{J K:LL}{m n:Nat}{B C:Int}{D E:LL}
end
theorem zws(l:∀r∈R,∀x∈r,0<=x)(f:PmN (grs R n).length p){a b:Nat}(g:(p.toList.map λi=>qds R n i)[a]?=some G)(k:(p.toList.map λi=>qds R n i)[b]?=some G')(e:nrm (jc R G)=nrm (jc R G')):a=b:=by
 have h:=qml l n;have q:=f.p.nodup_iff.mpr Qfu;rw[Qa]at g k;cases e1:p.toList[a]? with
 |none=>grind
 |some i =>
  cases e2:p.toList[b]? with
  |none=>grind
  |some j =>
   rw[e1]at g;rw[e2]at k;cases g;cases k;have d:=Zi.mp (f.p.mem_iff.mp (Qh e1));have o:=Zi.mp (f.p.mem_iff.mp (Qh e2));have c:∀{i:Nat}(d:i<(grs R n).length),nrm (jc R (qds R n i))=(grs R n)[i].1:=λ{i} d=>by
    have e:qds R n i=(grs R n)[i].2:=by unfold qds;grind
    have m:=Ze d;rw[e];exact(qzo (h.ne _ m) (h.me _ m)).1
   have e:=e;rw[c d,c o]at e;have s:i=j:=by
    refine(Qat (i:=i) (j:=j) (by grind) h.ky).mp ?_;grind
   grind[Qat]
section
variable{b c:Int}{R S:LL}{m n:Nat}{Gs Hs:List (List Nat)}
theorem GrsOf.ok(a:Tab b R m)(h:GrsOf R m Gs):GsOk R m Gs/\GsPart R m Gs:=by
 obtain⟨p,c,d,rfl⟩:=h;exact⟨zxk a.nn c,zvj a.nn c⟩
theorem qva(b:Gs[l]?=some G)(a:s<R.length):(jc R G).getD s 0=at2 (R.map (qcl Gs)) s l:=by
 rw[qrw (Qc a) b,Zy];unfold jc;rw[Qa,Qc a];rfl
theorem qna(a:Gs[l]?=some G):zde (R.map (qcl Gs)) l=(jc R G).sum:=by
 unfold zde;rw[<- qaz]
 congr 1
 refine Zt λs=>?_;rw[Qa];by_cases b:s<R.length
 ·rw[Qo (by grind)];show some (at2 (R.map (qcl Gs)) s l)=_;rw[<- qva a b,Qc (by grind[qhe]),Zy,Qc (by grind[qhe])];rfl
 grind[Q5,qhe]
theorem GrsOf.ind(f:Tab b R m)(h:GrsOf R m Gs):Ind (R.map (qcl Gs)) Gs.length:=by
 have ok:=(h.ok f).1;have a:∀{i:Nat}(c:i<Gs.length),Gs[i]?=some Gs[i]:=λc=>Qc c;refine⟨λi c=>?_,λi j c d he=>?_⟩
 ·rw[qna (a c)];exact(qpv f ok (Ze c)).1
 ·have q:=(qpv f ok (Ze c)).1;have r:=(qpv f ok (Ze d)).1;have e:nrm (jc R Gs[i])=nrm (jc R Gs[j]):=by
   refine qrn (ok.co _ (Ze c)) (ok.co _ (Ze d)) (by grind[qhe]) λs t x y u v A B C D=>?_;have l:s<R.length:=by grind[qhe]
   have n:t<R.length:=by grind[qhe]
   have g:=he s (by grind);have k:=he t (by grind);rw[qna (a c),qna (a d),<- qva (a c) l,<- qva (a d) l,Zy,Zy,A,C]at g;rw[qna (a c),qna (a d),<- qva (a c) n,<- qva (a d) n,Zy,Zy,B,D]at k;have g:x*(jc R Gs[j]).sum=u*(jc R Gs[i]).sum:=g;have k:y*(jc R Gs[j]).sum=v*(jc R Gs[i]).sum:=k;generalize (jc R Gs[i]).sum=w at *;generalize (jc R Gs[j]).sum=z at *;refine Zs (show w*z≠0 from Qjr (Za q r)) ?_;grind
  obtain⟨p,E,_,o⟩:=h;exact zws f.nn E (o▸a c) (o▸a d) e
end
theorem Ind.low(c:Tab b J m)(d:J≠[])(h:Ind J m):Ind (qbt J (qaa J)) m:=by
 obtain⟨g,f,_,n⟩:=qut c d;have o:(qbt J (qaa J)).length=J.length:=by simp[qbt]
 have k:∀i,g*zde (qbt J (qaa J)) i=zde J i:=λi=>by
  unfold zde;grind[qy,qj]
 refine⟨λi a=>?_,λi j a l e=>h.d i j a l λs p=>?_⟩
 ·have:=h.p i a;rw[<- k]at this;exact Qbh (by grind) (Jh f)
 grind
structure Frm(b:Int)(R:LL)(n:Nat)(f:Int)(T:LL)(k:Nat):Prop where
 g:∃Gs,GrsOf R n Gs/\zga b R Gs=qU f T
 gls:Gls f T k
 len:T.length=R.length
 k1:1<=k
 kn:k<=n
 fb:f<=b
 ind:Ind T k
 d1:∃B D,Dul b R n f T k B D
 d2:∃B D,Dul f T k b R n B D
theorem frm(a:Tab b R n)(e:R≠[])(c:GrsOf R n Gs):∃f T k,zga b R Gs=qU f T/\Frm b R n f T k:=by
 obtain⟨ok,pt⟩:=c.ok a;have w:=a.pos;have h:=xav a ok;have l:R.map (qcl Gs)≠[]:=by simpa using e
 have g:=h.gls l;have y:=g.t.pos;obtain⟨⟨_,_,d1⟩,⟨_,_,d2⟩⟩:(∃B D,Dul b (R.map (qcl Gs)) Gs.length (b/qaa (R.map (qcl Gs))) (qbt (R.map (qcl Gs)) (qaa (R.map (qcl Gs)))) Gs.length B D) /\ ∃B D,Dul (b/qaa (R.map (qcl Gs))) (qbt (R.map (qcl Gs)) (qaa (R.map (qcl Gs)))) Gs.length b (R.map (qcl Gs)) Gs.length B D:=by
  obtain⟨g,z,A,C⟩:=qut h l;refine⟨⟨_,_,Dul.same λs j _ _=>?_⟩,⟨_,_,Dul.same λs j _ _=>?_⟩⟩
  ·grind
  grind
 obtain⟨Q,q0,m⟩:=zgy (λi=>(jc R ((Gs[i]?).getD [])).sum) Gs.length λi d=>by
  rw[Qc d];exact(qpv a ok (Ze d)).1
 have o:=zko a e ok pt;have p:=zeg a e ok pt q0 λr q x t=>by
  obtain⟨G,c,rfl⟩:=Ql.mp q;obtain⟨i,d⟩:=Jj.mp c;obtain⟨j,_,rfl⟩:=Ql.mp t;have:=m i (Qp.mp d).1;rw[d]at this;exact Vu ⟨_,((Zp _ _).trans (qjq _ _)).symm⟩ this
 have u:(qbt (R.map (qcl Gs)) (qaa (R.map (qcl Gs)))).length=R.length:=by simp[qbt]
 have v:=List.length_pos_iff.mpr (zwv a e ok);exact⟨_,_,Gs.length,rfl,⟨Gs,c,rfl⟩,g,u,v,ok.len,Qdk _ (by lia),(c.ind a).low h l,⟨_,_,o.trans (by lia) (by simp) d1⟩,⟨_,_,d2.trans (by lia) (by simp[qbt]) p⟩⟩
theorem zbn(h:qU b R=qU c S):b=c/\R=S:=by
 have inj:∀r s:LI,qfv r=qfv s->r=s:=λr s h=>by
  have h:=Qfx h;grind[Qiq,Qld]
 have h:=Qfx h;grind[Qlq,Qld,Qiq,Qfx]
theorem Gls.wide(a:T≠[])(b:Gls f T k)(c:Gls f T l):k=l:=by
 obtain⟨r,R,e⟩:=Q1 a;rw[<- b.t.len r (by rw[e];simp),c.t.len r (by rw[e];simp)]
section
variable{b c f g:Int}{R S T U:LL}{m n k l:Nat}
end
theorem zmk(a:Tab b R n)(c:R≠[]):∃f T,zwy b R=qU f T/\Tab f T n/\T.length=R.length/\f<=b/\(∃B D,Dul b R n f T n B D) /\ ∃B D,Dul f T n b R n B D:=by
 have d:=a.pos;obtain⟨g,e,h,i⟩:=qut a c;refine⟨_,_,rfl,(a.gls c).t,by simp[qbt],Qdk _ (by lia),⟨_,_,Dul.same λs j _ _=>?_⟩,⟨_,_,Dul.same λs j _ _=>?_⟩⟩
 ·grind
 grind
def qF(T:LL)(j:Nat):Int×Int:=(at2 T 0 j,at2 T 1 j)
def sX(S:List (Int×Int))(i:Nat):Int:=((S.take i).map (·.1)).sum
def sY(S:List (Int×Int))(i:Nat):Int:=((S.take i).map (·.2)).sum
theorem qgt(h:S[i]?=some c):sX S (i+1)=sX S i+c.1/\sY S (i+1)=sY S i+c.2:=by
 unfold sX sY;rw[Z0,h];simp
def crn(f:Int)(S:List (Int×Int))(i:Nat):Qj :=.tuple [dSh (shT (sX S i) f) (shB (sX S i) f),dSh (shT (sY S i) f) (shB (sY S i) f)]
theorem zpj(h:T.length=2)(j:Nat):(qO T j).map Q8=[.int (qF T j).1,.int (qF T j).2]:=by
 match T,h with
 |[r,s],_=>rfl
theorem Ind.stps(g:Tab f T k)(m:T.length=2)(h:Ind T k):Stps ((Qm k).map (qF T)):=by
 have l:∀j,zde T j=at2 T 0 j+at2 T 1 j:=λj=>by
  unfold zde;rw[m];show(0+at2 T 0 j)+at2 T 1 j=_;lia
 have d:∀{i:Nat}{a:Int×Int},((Qm k).map (qF T))[i]?=some a->i<k/\a=qF T i:=λ{i a} e=>by
  grind
 refine⟨λc n=>?_,λi j a b o p ne e=>?_⟩
 ·obtain⟨j,_,rfl⟩:=Ql.mp n;exact⟨qcx g.nn 0 j,qcx g.nn 1 j⟩
 ·obtain⟨q,rfl⟩:=d o;obtain⟨r,rfl⟩:=d p;have e:at2 T 1 i*at2 T 0 j=at2 T 1 j*at2 T 0 i:=e;refine ne (h.d i j q r λs t=>?_);rw[l,l];have:s=0\/s=1:=by lia
  grind
theorem zun(h:1<=f):shT 0 f=0/\shB 0 f=1:=by
 obtain⟨s,e⟩:=qcc (t:=0) (b:=f) (by omega);rw[Zr]at e;have a:shT 0 f=0:=by
  rcases Yf.mp e with z|z
  ·exact z
  ·omega
 have g:=s.gcd;have q:=s.pos;grind[Int.gcd_zero_left]
theorem zjh(a:Tab f T k)(hz:intBits f<=m)(j:Nat):intBits (qF T j).1<=m/\intBits (qF T j).2<=m:=by
 have le:∀s,0<=at2 T s j/\at2 T s j<=f:=λs=>by
  refine⟨qcx a.nn s j,?_⟩;have c:=a.pos;by_cases b:s<T.length
  ·rw[qcb (Qc b)];cases e:T[s][j]? with
   |none=>grind
   |some x=>exact(a.le (Ze b) (Qh e)).2
  ·have e:at2 T s j=0:=by unfold at2;grind
   rw[e];lia
 exact⟨qrj (le 0).1 (le 0).2 hz,qrj (le 1).1 (le 1).2 hz⟩
def qtw(ds:List Qj)(q:List Qj->Prop):Prop :=∃(b:Int)(R:LL)(n:Nat),ds=[qU b R]/\(Tab b R n/\R.length=2/\1<=n/\n<=12/\intBits b<=200) /\ ∀f T k p,Frm b R n f T k->PmN k p->(∀i j,i<j->j<k->stp (qF T (p.getD i 0)) (qF T (p.getD j 0))=true)->q ((Qm (k+1)).map (crn f (p.toList.map (qF T))))
theorem qej:FnScope [Sd,"form","x","y",SW,"step"] [Sd] (defScope zht):=sc0
theorem zoy(F:Def K mg "curve" zht [Sd])(T:Txt K mg cs)(a:Ok P w K mg base Ub 3 [SG,Sb] (PSp K qfr))(m:Ok P w K mg base "stands" 1 [Sd] (PSp K qjl))(v:Ok P w K mg base SC 1 [Sd] (PSp K qba))(o:Ok P w K mg base Uc 1 [Sh,Sf] (FSp K qgz))(y:Ok P w K mg base "least" 5 [Sd] (qkq [cs.tb,cs.tb1] (PSp K zbs)))(d:Ok P w K mg base "steepest_first" 3 ["steps"] (qkq [cs.tb,cs.tb1] (FSp K qfz))):Ok P w K mg base "curve" 6 [Sd] (qkq [cs.tb,cs.tb1] (FSp K qtw)):=by
  refine F.tvokF qej (by rintro ds q ⟨_,_,_,h,_⟩;rw[h];rfl) λf cdv A N s H E u J ds q h=>?_;obtain⟨b,R,n,rfl,⟨O,r2,n1,n2,X⟩,h⟩:=h;refine⟨_,(qg (qar (qN (zme u.units) (qt m.c u.m (qd (qc 0) qe)) qf) qbw qE)
   (qg (qz (i:=1) qej.nd (qr (qt (y.t J) u.m (qd (qc 0) qe)) qf))
   (qg (qz (i:=2) qej.nd qf)
   (qg (qz (i:=3) qej.nd qf)
   (qg (qfm (i:=4) qej.nd (qbp (qd (qck (qd (qt a.c u.m (qd qf (qd qf qe))) (qd (qt a.c u.m (qd qf (qd qf qe))) qe))) qe)))
   (qg (qau rfl (qV (qC (qcp (d.t J) u.m (qd (qC (qH (caps:=["form"]) (own:=[Ss]) (ix:=[1]) rfl ⟨rfl,rfl,rfl,rfl,rfl,rfl⟩ (qS T.range_ (qt v.c u.m (qd (qc 1) qe))) (λ_ _ _ _=>(ql (i:=1) (show Zb (["form",Ss]:List Str) by decide))) (λ_ _ _ _=>(qC (qcp o.c u.m (qd (qr (qc 0) qf) (qd (qc 1) qe))))))) qe)))) (ql (i:=5) qej.nd) (qg (zrd (i:=2) qej.nd (qr (qc 5) qf))
   (qg (zrd (i:=3) qej.nd (qr (qc 5) qf))
   (qh (qef 4 (qck (qd (qt a.c u.m (qd (qc 2) (qd (qr (qc 1) qf) qe))) (qd (qt a.c u.m (qd (qc 3) (qd (qr (qc 1) qf) qe))) qe))))))))
   (qh (qgv 4)))))))),?_⟩
  have b0:=O.pos;have Rn:R≠[]:=λz=>by grind
  refine⟨b,R,rfl,rfl,rfl,qzx (λz=>(z (by lia)).elim) (λ_=>?_)⟩;refine⟨b,R,n,rfl,⟨O,Rn,by lia,n1,n2,X⟩,λGs B hG _=>?_⟩;obtain⟨g,l,k,ef,C⟩:=frm O Rn hG;have L:=C.gls.t;have lT:=C.len;have k1:=C.k1;have kn:=C.kn;have fb:=C.fb;have f0:=L.pos;have Q:=qrj (by lia) fb X;have Y:l.length=2:=by lia
  obtain⟨Z,T0,eT⟩:=Q1 (show l≠[] from λz=>by grind);have lr:=L.len Z (by rw[eT];simp);refine⟨qU g l,by rw[<- ef];rfl,⟨by decide,by decide⟩,⟨by decide,by decide⟩,szl,szl,g,Z,T0,by rw[eT],?_⟩;rw[lr];have lC:((Qm k).map (qF l)).length=k:=by simp
  refine⟨⟨by lia,by lia⟩,qI (((Qm k).map (qF l)).map dC) (by simp[qK]) (qm (by simp;lia)) (λe =>∃s,e=[.val (qU g l),s]) ⟨_,rfl⟩ ?_ ?_⟩
  ·rintro i x ys e D U ⟨s,rfl⟩;obtain⟨hi',rfl⟩:=qag D;rw[Y5];have M:i<k:=by lia
   refine⟨_,rfl,_,l,i,rfl,⟨qjp _,by lia,λr u=>by rw[L.len r u];exact M⟩,qv ?_ U,_,rfl⟩;rw[Qa,Qa,Qo M,zpj Y];rfl
  refine⟨(Qm k).map (qF l),rfl,⟨by rw[lC];lia,λc hc=>?_,C.ind.stps L Y⟩,λp G hs=>?_⟩
  ·obtain⟨j,_,rfl⟩:=Ql.mp hc;have:=zjh L Q j;exact⟨qp this.1 (by decide),qp this.2 (by decide)⟩
  rw[lC]at G hs;have V:∀j,j<k->((Qm k).map (qF l)).getD j (0,0)=qF l j:=λj I=>by
   rw[Zy,Qa,Qo I];rfl
  obtain⟨S,eS⟩:∃S,S=p.toList.map (qF l):=⟨_,rfl⟩
  have eL:(p.toList.map λi=>dC (((Qm k).map (qF l)).getD i (0,0)))=S.map dC:=by
   rw[eS,Zj];exact Q9 λj I=>by rw[V j (Zi.mp (G.p.mem_iff.mp I))];rfl
  have lS:S.length=k:=by rw[eS,Qe,Z6,G.s]
  rw[eL];obtain⟨e0,e1⟩:=zun f0;have d0:shT 0 1=0/\shB 0 1=1:=by decide
  refine⟨λi e =>∃t,e=[.val (qU b R),.val (qU g l),.val (.int (sX S i)),.val (.int (sY S i)),.own ((Qm (i+1)).map (crn g S)),t],⟨.non,?_⟩,?_,?_⟩
  ·have c0:crn g S 0 = .tuple [dSh (shT 0 1) (shB 0 1),dSh (shT 0 1) (shB 0 1)]:=by
    show Qel [dSh (shT 0 g) (shB 0 g),dSh (shT 0 g) (shB 0 g)]=_;rw[e0,e1,d0.1,d0.2]
   show _=[_,_,_,_,Sl.own [crn g S 0],_];rw[c0];rfl
  ·rintro i x e D ⟨t,rfl⟩;rw[Qa]at D;cases ec:S[i]? with
   |none=>rw[ec]at D;cases D
   |some c =>
    rw[ec]at D;cases D;obtain⟨x1,x2⟩:=qgt ec;have hi:i<k:=by rw[<- lS];exact(Qp.mp ec).1
    refine⟨sX S i,rfl,_,rfl,c.1,rfl,sY S i,rfl,_,rfl,c.2,rfl,rfl,_,rfl,⟨by lia,qp Q (by decide)⟩,_,rfl,⟨by lia,qp Q (by decide)⟩,szl,rfl,qm ?_,.val (dC c),?_⟩
    ·show((Qm (i+1)).map (crn g S)).length<=1000;simp;lia
    ·rw[x1,x2,Jw (n:=i+1),Zo];show _=[_,_,_,_,Sl.own (_++[crn g S (i+1)]),_];unfold crn;rw[x1,x2];rfl
  ·rintro e ⟨t,rfl⟩;rw[Qe,lS];refine⟨_,rfl,?_⟩;rw[eS];refine h g l k p C G λi j W I=>?_;have:=hs i j W I
   rwa [V _ (G.bd (by lia)),V _ (G.bd I)]at this
def crs(a b:Int×Int):Int:=a.2*b.1-b.2*a.1
structure Stp1(c:Int×Int):Prop where
 x:0<=c.1
 y:0<=c.2
 p:0<c.1+c.2
section
variable{a b c:Int×Int}
theorem qT:stp a b=true↔0<crs a b:=by
 unfold stp crs;rw[decide_eq_true_eq];lia
theorem qam(a b:Int×Int):crs b a = - crs a b:=by unfold crs;lia
theorem qjf(a:Int×Int):crs a a=0:=by unfold crs;lia
theorem qsn(i:Stp1 b)(j:crs a b=0)(k:crs b c=0):crs a c=0:=by
 obtain⟨f,l⟩:=a;obtain⟨d,g⟩:=b;obtain⟨h,m⟩:=c;have j:l*d-g*f=0:=j;have k:g*h-m*d=0:=k;show l*h-m*f=0;have x:=i.x;have y:=i.y;have p:=i.p;rcases Zk 0 d with z|z
 ·have e:l*h*d=m*f*d:=by
   grind
  grind[Zs]
 ·have n:d=0:=by lia
  have q:g≠0:=by lia
  rw[n,Yr]at j k;have o:f=0:=by
   have:g*f=0:=by lia
   rcases Yf.mp this with w|w
   ·grind
   ·exact w
  have r:h=0:=by
   have:g*h=0:=by lia
   rcases Yf.mp this with w|w
   ·grind
   ·exact w
  grind
theorem zwl(d:Stp1 a)(e:Stp1 b)(f:Stp1 c)(g:stp a b=true)(i:crs b c=0):stp a c=true:=by
 rw[qT]at g ⊢;rcases Zk 0 (crs a c)with z|z
 ·exact z
 ·exfalso;by_cases w:crs a c=0
  ·grind[qsn,qam]
  ·have h:stp c a=true:=qT.mpr (by grind[qam]);have j:=qul ⟨f.x,f.y⟩ ⟨d.x,d.y⟩ ⟨e.x,e.y⟩ h (qT.mpr g);grind[qT,qam]
end
def cls(L:List (Int×Int))(c:Int×Int):Int×Int:=(((L.filter λx=>crs x c==0).map (·.1)).sum,((L.filter λx=>crs x c==0).map (·.2)).sum)
def qbn(R:LL)(n:Nat):List (Int×Int):=((Qm n).map (qF R)).filter λc=>decide (0<c.1+c.2)
theorem qmu(a:Tab b R n)(d:c∈qbn R m):Stp1 c:=by
 obtain⟨e,f⟩:=Ym.mp d;obtain⟨j,_,rfl⟩:=Ql.mp e;exact⟨qcx a.nn 0 j,qcx a.nn 1 j,by simpa using f⟩
structure Crv(b:Int)(D:List (Int×Int)):Prop where
 b1:1<=b
 p:∀c∈D,Stp1 c
 s:D.Pairwise λa b=>stp a b=true
 ex:sX D D.length=b
 ey:sY D D.length=b
section
variable{b:Int}{D:List (Int×Int)}
theorem qyf(h:∀c∈D,Stp1 c)(a:i<=j):sX D i<=sX D j/\sY D i<=sY D j:=by
 obtain⟨d,rfl⟩:=Qfp a;clear a
 induction d with
 |zero=>exact⟨V2 _,V2 _⟩
 |succ d b =>
  rw[<- Qlr];cases ec:D[i+d]? with
  |none =>
   have e:D.take (i+d+1)=D.take (i+d):=by rw[Z0,ec];simp
   unfold sX sY at b ⊢;rw[e];exact b
  |some c =>
   obtain⟨g,k⟩:=qgt ec;have f:=h c (Qh ec);have:=f.x;have:=f.y;lia
theorem Crv.le(h:Crv b D)(d:i<=D.length):(0<=sX D i/\sX D i<=b)/\0<=sY D i/\sY D i<=b:=by
 have a:=qyf h.p (Yd i);have c:=qyf h.p d;rw[h.ex,h.ey]at c;have e:sX D 0=0:=rfl;have f:sY D 0=0:=rfl;lia
theorem Crv.on(h:Crv b D)(k:1<=i)(a:D[i]?=some c):0<c.1:=by
 have d:=(Qp.mp a).1;have f:D[0]?=some (D[0]'(by lia)):=Qc _;have q:=Z8.mp h.s 0 i (by lia) d (by lia);have g:=Qr ((Qc d).symm.trans a);rw[g,qT]at q;unfold crs at q;have j:=h.p _ (Qh f);have e:=h.p _ (Qh a);have l:=Q2 e.y j.x;have:=e.x;grind
theorem Crv.ne(h:Crv b D):1<=D.length:=by
 cases D with
 |nil=>have:=h.ex;have:=h.b1;simp[sX]at *;omega
 |cons c D=>simp
theorem Crv.last(h:Crv b D)(a:D[D.length-1]?=some c):0<c.1:=by
 by_cases z:1<=D.length-1
 ·exact h.on z a
 ·have l:=h.ne;have d:D.length=0+1:=by lia
  have e:=h.ex;rw[d,Qcd]at a;rw[d,(qgt a).1]at e;have f:sX D 0=0:=rfl;have:=h.b1;lia
theorem Crv.under(h:Crv b D)(o:D[m]?=some c)(w:i<=D.length):(sY D i-sY D m)*c.1<=c.2*(sX D i-sX D m):=by
 have p:=(Qp.mp o).1;have k:=Qr ((Qc p).symm.trans o);have x:=h.p _ (Qh o);have g:∀j,j<D.length ->∃d,D[j]?=some d/\(m<=j->d.2*c.1<=c.2*d.1)/\(j<=m->c.2*d.1<=d.2*c.1):=λj r=>by
  refine⟨D[j],Qc r,λa=>?_,λa=>?_⟩
  ·rcases Qce a with z|z
   ·have q:=Z8.mp h.s m j p r z;rw[k,qT]at q;unfold crs at q;lia
   grind
  ·rcases Qce a with z|z
   ·have q:=Z8.mp h.s j m r p z;rw[k,qT]at q;unfold crs at q;lia
   grind
 rcases Nat.le_total m i with z|z
 ·obtain⟨d,rfl⟩:=Qfp z
  induction d with
  |zero=>simp
  |succ d f =>
   have f:=f (by lia);obtain⟨e,he,y,_⟩:=g (m+d) (by lia);obtain⟨l,n⟩:=qgt he;rw[<- Qlr,l,n];grind
 ·have s:∀d,d<=m->(sY D (m-d)-sY D m)*c.1<=c.2*(sX D (m-d)-sX D m):=λd=>by
   induction d with
   |zero=>intro _;simp
   |succ d f =>
    intro A;have f:=f (by lia);obtain⟨e,he,_,t⟩:=g (m-(d+1)) (by lia);obtain⟨l,n⟩:=qgt he;have k:m-(d+1)+1=m-d:=by lia
    rw[k]at l n;rw[l,n]at f;have t:=t (by lia);have u:(sY D (m-(d+1))+e.2-sY D m)*c.1=(sY D (m-(d+1))-sY D m)*c.1+e.2*c.1:=by grind
    have v:c.2*(sX D (m-(d+1))+e.1-sX D m)=c.2*(sX D (m-(d+1))-sX D m)+c.2*e.1:=by grind
    rw[u,v]at f;lia
  have:=s (m-i) (by lia);grind
end
theorem qst{P:Nat->Bool}(h:∀i j,i<=j->P j=true->P i=true):∀k:Nat,∃m,m<=k/\(Qm k).filter P=Qm m/\(∀i,i<m->P i=true)/\(m<k->P m=false)
 |0=>⟨0,Qs _,rfl,λi e=>by lia,λe=>by lia⟩
 |k+1=>by
  obtain⟨m,a,b,c,d⟩:=qst h k;rw[Jw,Qcf,b];grind[Qce,Jw,Nat.le_of_lt_succ]
def hgN(b:Int)(D:List (Int×Int))(m:Nat)(d:Int×Int)(t c:Int):Int:=sY D m*(d.1*c)+d.2*(t*b-sX D m*c)
def hgM(b:Int)(d:Int×Int)(c:Int):Int:=b*(d.1*c)
def dPt(b x y:Int):Qj :=.tuple [dSh (shT x b) (shB x b),dSh (shT y b) (shB y b)]
theorem qii(a:0<b)(d:0<c)(h:t*c=u*b):shT t b=shT u c/\shB t b=shB u c:=by
 obtain⟨e,g⟩:=qcc (t:=t) (b:=b) (by lia);obtain⟨f,i⟩:=qcc (t:=u) (b:=c) (by lia);refine ztw e f ?_;refine Zs (show b*c≠0 from Qjr (Za a d)) ?_;grind
theorem zhp(e:0<b)(f:0<c):shT (shT t b*shB u c-shT u c*shB t b) (shB t b*shB u c)=shT (t*c-u*b) (b*c)/\shB (shT t b*shB u c-shT u c*shB t b) (shB t b*shB u c)=shB (t*c-u*b) (b*c):=by
 obtain⟨a,g⟩:=qcc (t:=t) (b:=b) (by lia);obtain⟨d,h⟩:=qcc (t:=u) (b:=c) (by lia);have i:=a.pos;have j:=d.pos;grind[qii,Za]
theorem zwk(e:0<b)(f:0<c):shT (shT t b*shB u c+shT u c*shB t b) (shB t b*shB u c)=shT (t*c+u*b) (b*c)/\shB (shT t b*shB u c+shT u c*shB t b) (shB t b*shB u c)=shB (t*c+u*b) (b*c):=by
 obtain⟨a,g⟩:=qcc (t:=t) (b:=b) (by omega);obtain⟨d,h⟩:=qcc (t:=u) (b:=c) (by omega);have i:=a.pos;have j:=d.pos;grind[qii,Za]
theorem zsr(e:0<b)(f:0<c):shT (shT t b*shT u c) (shB t b*shB u c)=shT (t*u) (b*c)/\shB (shT t b*shT u c) (shB t b*shB u c)=shB (t*u) (b*c):=by
 obtain⟨a,g⟩:=qcc (t:=t) (b:=b) (by omega);obtain⟨d,h⟩:=qcc (t:=u) (b:=c) (by omega);have i:=a.pos;have j:=d.pos;grind[qii,Za]
theorem zud(f:0<b)(a:0<u):0<shB t b*shT u b/\shT (shT t b*shB u b) (shB t b*shT u b)=shT t u/\shB (shT t b*shB u b) (shB t b*shT u b)=shB t u:=by
 obtain⟨c,g⟩:=qcc (t:=t) (b:=b) (by lia);obtain⟨d,e⟩:=qcc (t:=u) (b:=b) (by lia);have h:=c.pos;have i:=d.pos;have j:0<shT u b:=by
  have:0<shT u b*b:=by rw[e];exact Za a (by lia)
  rcases Zk 0 (shT u b)with z|z
  ·exact z
  ·have:=Q2 (show 0 <= - shT u b by lia) (show 0<=b by lia);grind
 grind[Za,qii,Zs]
theorem zgi(a:0<b):shT (shT t b*shB u b-shT u b*shB t b) (shB t b*shB u b)=shT (t-u) b/\shB (shT t b*shB u b-shT u b*shB t b) (shB t b*shB u b)=shB (t-u) b:=by
 grind[zhp,qii,Za]
theorem qbi(a:0<=x)(h:x<=b)(hz:intBits b<=m):intBits x<=m:=Ys (by omega) hz
theorem zxq(e:0<b)(f:0<c):shT t b*shB u c<shT u c*shB t b↔t*c<u*b:=by
 obtain⟨g,l⟩:=qcc (t:=t) (b:=b) (by lia);obtain⟨i,m⟩:=qcc (t:=u) (b:=c) (by lia);have n:=g.pos;have o:=i.pos;have j:=Za e f;have k:=Za (show 0<shB t b by lia) (show 0<shB u c by lia);have a:shT t b*shB u c*(b*c)=(t*c)*(shB t b*shB u c):=by
  grind
 have d:shT u c*shB t b*(b*c)=(u*b)*(shB t b*shB u c):=by
  grind
 constructor
 ·intro h;have:=Z2 h j;rw[a,d]at this;exact Vp this (by lia)
 ·intro h;have:=Z2 h k;rw[<- a,<- d]at this;exact Vp this (by lia)
theorem zof(L:List α)(h:1<=L.length):qrl L none (some (-1))=L.take (L.length-1):=by
 unfold qrl HT.sIx;grind
def crP(b:Int)(D:List (Int×Int))(i:Nat):Qj:=dPt b (sX D i) (sY D i)
def qrm(ds:List Qj)(q:Qj->Prop):Prop :=∃(b:Int)(D:List (Int×Int))(t c:Int),ds=[.list ((Qm (D.length+1)).map (crP b D)),dSh (shT t c) (shB t c)]/\((Crv b D/\D.length<=60/\intBits b<=200)/\1<=c/\0<=t/\t<=c/\intBits c<=200) /\
 ∀m d,D[m]?=some d->0<d.1->sX D m*c<=t*b->t*b<=sX D (m+1)*c->q (.tuple [crP b D m,crP b D (m+1)])
theorem qrt:FnScope [SW,"x","reached"] [SW,"x"] (defScope qxc):=sc0
theorem zem(F:Def K mg "line_at" qxc [SW,"x"])(T:Txt K mg cs)(d:Ok P w K mg base "below" 4 [Sc,Sa] (PSp K qtx)):Ok P w K mg base "line_at" 5 [SW,"x"] (PSp K qrm):=by
  refine F.vok qrt (by rintro N q ⟨_,_,_,_,h,_⟩;rw[h];rfl) λf O A k s H E Q N q h=>?_;obtain⟨b,D,t,c,rfl,⟨⟨C,lD,B⟩,c1,G,I,J⟩,h⟩:=h;refine⟨_,(qg (zjf (i:=2) (caps:=["x"]) (own:=["corner"]) (ix:=[1]) qrt.nd rfl ⟨rfl,rfl,rfl,rfl,rfl,rfl⟩ (qV (qC (qhj (qc 0) qyw (qfn (qes qf))))) (λ_ _ _ _=>(ql (i:=1) (show Zb (["x","corner"]:List Str) by decide))) (λ_ _ _ _=>(qbq (qbj (qt d.c Q.m (qd (qc 0) (qd (qr (qc 1) qf) qe)))))) (λ_ _ _ _=>(qc 1)))
   (qh (qw (qck (qd (qr (qc 2) (qes qf)) (qd (qr (qc 0) (qA qdh T.len_ L2.boot_len (qd (qc 2) qe))) qe)))))),?_⟩
  have k1:=C.ne;have b1:=C.b1;have R:=qbi G I J;obtain⟨P,eP⟩:∃P:Nat->Bool,P=λj=>decide (sX D j*c<=t*b):=⟨_,rfl⟩
  intro r l;have l:r=(Qm D.length).map (crP b D):=by
   rw[l,zof _ (by simp),Qe,Z1,Qcd,<- Qav,Qky,Vy (by lia)]
  subst l;refine⟨qm (by simp;lia),λi n e=>n=((Qm i).filter P).map (crP b D) /\ ∃u,e=[.val (dSh (shT t c) (shB t c)),u],⟨rfl,_,rfl⟩,?_,?_⟩
  ·rintro i x n e o ⟨rfl,u,rfl⟩;rw[Qa]at o;cases ei:(Qm D.length)[i]? with
   |none=>grind
   |some i' =>
    rw[ei]at o;cases o;have p:=(Qp.mp ei).1;rw[Z1]at p;rw[Qo p]at ei;cases ei;obtain⟨⟨S,U⟩,_⟩:=C.le (Yq p);have V:=(qcc (t:=t) (b:=c) (by lia)).1;have W:=(qcc (t:=sX D i) (b:=b) (by lia)).1;refine⟨_,rfl,_,_,_,_,rfl,⟨⟨V,qp (qdr R) (by decide),qp (qjb J) (by decide)⟩,⟨W,qp (qdr (qbi S U B)) (by decide),qp (qjb B) (by decide)⟩⟩,?_⟩;have lt:=zxq (t:=t) (u:=sX D i) (b:=c) (c:=b) (by lia) (by lia);by_cases w:t*b<sX D i*c
    ·refine zmg (by grind) ⟨?_,.val (crP b D i),rfl⟩;rw[Jw,Qcf];grind
    ·refine zxs (by rw[decide_eq_false (λz=>w (lt.mp z))];rfl) ⟨?_,.val (crP b D i),rfl⟩;rw[Jw,Qcf];have:P i=true:=by rw[eP];exact decide_eq_true (by lia)
     simp[this]
  rintro n e ⟨rfl,u,rfl⟩;rw[Qe,Z1];obtain⟨m,X,Y,Z,L⟩:=qst (P:=P) (λi j v M=>by
   rw[eP]at M ⊢;have:=of_decide_eq_true M;refine decide_eq_true ?_;have:=Qn (qyf C.p v).1 (show 0<=c by lia);lia) D.length
  rw[Y];have mp:1<=m:=by
   rcases Qaj m with z|z
   ·subst z;have:=L (by lia);rw[eP]at this;have:=of_decide_eq_false this;have z0:sX D 0=0:=rfl;rw[z0,Zr]at this;exact absurd (Q2 G (show 0<=b by lia)) this
   ·exact z
  obtain⟨a,rfl⟩:∃a,m=a+1:=⟨m-1,by lia⟩
  have y:D[a]?=some (D[a]'(by lia)):=Qc _;obtain⟨q1,_⟩:=qgt y;have p1:sX D a*c<=t*b:=by
   have:=Z a (by lia);rw[eP]at this;exact of_decide_eq_true this
  have g:0<(D[a]'(by lia)).1/\t*b<=sX D (a+1)*c:=by
   rcases Qce X with z|z
   ·have:=L z;rw[eP]at this;have:=of_decide_eq_false this;refine⟨?_,by lia⟩;have lt:sX D a*c<sX D (a+1)*c:=by lia
    have:=Vp lt (by lia);lia
   ·have e:D.length-1=a:=by lia
    have hl:D[D.length-1]?=some (D[a]'(by lia)):=by rw[e];exact y
    refine⟨C.last hl,?_⟩;rw[z,C.ex,Zp b];exact Qn I (by lia)
  refine⟨_,atI_last (by rw[Qe,Z1,Qcd,Qa,Qo (by lia)];rfl),crP b D (a+1),?_,szl,h a _ y g.1 p1 g.2⟩;rw[Qe,Z1];exact qax (by rw[Qa,Qo (by lia)];rfl)
def zcr(ds:List Qj)(k:Qj->Prop):Prop :=∃p q r s,ds=[dSh p q,dSh r s]/\(ShW p q/\ShW r s)/\k (dSh (shT (p*s+r*q) (q*s)) (shB (p*s+r*q) (q*s)))
theorem zpf:FnScope [Sc,Sa] [Sc,Sa] (defScope zgx):=sc0
theorem zpn(F:Def K mg "added" zgx [Sc,Sa])(T:Txt K mg cs)(a:Ok P w K mg base SJ 3 [Sc,Sa] (PSp K qbl))(b:Ok P w K mg base S5 2 [SG,Sb] (PSp K qeb)):Ok P w K mg base "added" 4 [Sc,Sa] (PSp K zcr):=by
  refine F.vok zpf (by rintro i q ⟨_,_,_,_,h,_⟩;rw[h];rfl) λf j A e s H E g i k h=>?_;obtain⟨p,q,r,s,rfl,⟨d,c⟩,h⟩:=h;refine⟨_,(qg (qdv (qt a.c g.m (qd (qc 0) (qd (qc 1) qe))))
   (qh (qw (qt b.c g.m (qd (qx qdn (qx qR (qr (qc 0) qf) (qr (qc 1) qf)) (qx qR (qr (qc 1) qf) (qr (qc 0) qf))) (qd (qx qR (qr (qc 0) qf) (qr (qc 1) qf)) qe)))))),?_⟩
  exact⟨p,q,r,s,rfl,⟨d.s,c.s⟩,_,rfl,_,rfl,qcv d.b1 c.b2,_,rfl,_,rfl,qcv c.b1 d.b2,_,rfl,_,rfl,qcv d.b2 c.b2,d.bot c,h⟩
def qtn(ds:List Qj)(k:Qj->Prop):Prop :=∃p q r s,ds=[dSh p q,dSh r s]/\(ShW p q/\ShW r s)/\k (dSh (shT (p*s-r*q) (q*s)) (shB (p*s-r*q) (q*s)))
theorem zph:FnScope [Sc,Sa] [Sc,Sa] (defScope zhu):=sc0
theorem zpv(F:Def K mg "taken" zhu [Sc,Sa])(T:Txt K mg cs)(a:Ok P w K mg base SJ 3 [Sc,Sa] (PSp K qbl))(b:Ok P w K mg base S5 2 [SG,Sb] (PSp K qeb)):Ok P w K mg base "taken" 4 [Sc,Sa] (PSp K qtn):=by
  refine F.vok zph (by rintro i q ⟨_,_,_,_,h,_⟩;rw[h];rfl) λf j A e s H E g i k h=>?_;obtain⟨p,q,r,s,rfl,⟨d,c⟩,h⟩:=h;refine⟨_,(qg (qdv (qt a.c g.m (qd (qc 0) (qd (qc 1) qe))))
   (qh (qw (qt b.c g.m (qd (qx zly (qx qR (qr (qc 0) qf) (qr (qc 1) qf)) (qx qR (qr (qc 1) qf) (qr (qc 0) qf))) (qd (qx qR (qr (qc 0) qf) (qr (qc 1) qf)) qe)))))),?_⟩
  exact⟨p,q,r,s,rfl,⟨d.s,c.s⟩,_,rfl,_,rfl,qcv d.b1 c.b2,_,rfl,_,rfl,qcv c.b1 d.b2,_,rfl,_,rfl,qcv d.b2 c.b2,d.bot c,h⟩
def qtb(ds:List Qj)(k:Qj->Prop):Prop :=∃p q r s,ds=[dSh p q,dSh r s]/\(ShW p q/\ShW r s)/\k (dSh (shT (p*r) (q*s)) (shB (p*r) (q*s)))
theorem zpt:FnScope [Sc,Sa] [Sc,Sa] (defScope zhs):=sc0
theorem zna(F:Def K mg "times" zhs [Sc,Sa])(T:Txt K mg cs)(a:Ok P w K mg base SJ 3 [Sc,Sa] (PSp K qbl))(b:Ok P w K mg base S5 2 [SG,Sb] (PSp K qeb)):Ok P w K mg base "times" 4 [Sc,Sa] (PSp K qtb):=by
  refine F.vok zpt (by rintro i q ⟨_,_,_,_,h,_⟩;rw[h];rfl) λf j A e s H E g i k h=>?_;obtain⟨p,q,r,s,rfl,⟨d,c⟩,h⟩:=h;refine⟨_,(qg (qdv (qt a.c g.m (qd (qc 0) (qd (qc 1) qe))))
   (qh (qw (qt b.c g.m (qd (qx qR (qr (qc 0) qf) (qr (qc 1) qf)) (qd (qx qR (qr (qc 0) qf) (qr (qc 1) qf)) qe)))))),?_⟩
  exact⟨p,q,r,s,rfl,⟨d.s,c.s⟩,_,rfl,_,rfl,qcv d.b1 c.b1,_,rfl,_,rfl,qcv d.b2 c.b2,d.bot c,h⟩
def qtg(ds:List Qj)(q:Qj->Prop):Prop :=∃(b a c d e:Int),ds=[.tuple [dPt b a c,dPt b d e]]/\(1<=b/\a<d/\intBits b<=200/\(0<=a/\d<=b)/\0<=c/\c<=e/\e<=b)/\q (dSh (shT (e-c) (d-a)) (shB (e-c) (d-a)))
theorem qsy:FnScope [So,"run","rise"] [So] (defScope zha):=sc0
theorem zpp(F:Def K mg "slope" zha [So])(T:Txt K mg cs)(c:Ok P w K mg base Ub 3 [SG,Sb] (PSp K qfr))(a:Ok P w K mg base "taken" 4 [Sc,Sa] (PSp K qtn)):Ok P w K mg base "slope" 5 [So] (PSp K qtg):=by
  refine F.vok qsy (by rintro y q ⟨_,_,_,_,_,h,_⟩;rw[h];rfl) λf z A l s H E m y q h=>?_;obtain⟨b,e,g,j,k,rfl,⟨V,B,C,⟨D,G⟩,I,J,L⟩,h⟩:=h;refine⟨_,(qg (qz (i:=1) qsy.nd (qt a.c m.m (qd (qr (qr (qc 0) qf) qf) (qd (qr (qr (qc 0) qf) qf) qe))))
   (qg (qz (i:=2) qsy.nd (qt a.c m.m (qd (qr (qr (qc 0) qf) qf) (qd (qr (qr (qc 0) qf) qf) qe))))
   (qh (qw (qt c.c m.m (qd (qx qR (qr (qc 2) qf) (qr (qc 1) qf)) (qd (qx qR (qr (qc 2) qf) (qr (qc 1) qf)) qe))))))),?_⟩
  have x:∀{t:Int},0<=t->t<=b->intBits t<=4000:=λn o=>qp (qbi n o C) (by decide);have d:∀{t:Int},0<=t->t<=b->ShW (shT t b) (shB t b):=λn o=>qkc (by lia) (x n o) (x (by lia) (by lia));obtain⟨M,N⟩:=zgi (t:=j) (u:=e) (b:=b) (by lia);obtain⟨O,Q⟩:=zgi (t:=k) (u:=g) (b:=b) (by lia);obtain⟨W,R,S⟩:=zud (t:=k-g) (u:=j-e) (b:=b) (by lia) (by lia);refine⟨_,rfl,_,rfl,_,rfl,_,rfl,_,_,_,_,rfl,⟨d (by lia) (by lia),d (by lia) (by lia)⟩,?_⟩;rw[M,N];refine⟨_,rfl,_,rfl,_,rfl,_,rfl,_,_,_,_,rfl,⟨d (by lia) (by lia),d (by lia) (by lia)⟩,?_⟩;rw[O,Q];have p:=d (t:=j-e) (by lia) (by lia);have r:=d (t:=k-g) (by lia) (by lia);refine⟨_,rfl,_,rfl,qcv r.b1 p.b2,_,rfl,_,rfl,qcv r.b2 p.b1,?_⟩;have U:shB (k-g) b*shT (j-e) b≠0:=by lia
  have v:intBits (shB (k-g) b*shT (j-e) b)<=9000:=qp (Yv r.b2 p.b1) (by decide);rw[<- R,<- S]at h
  first
   |grind
   |exact⟨⟨U,v⟩,h⟩
def qmi(ds:List Qj)(q:Qj->Prop):Prop :=∃(b a d e f t c:Int),ds=[.tuple [dPt b a d,dPt b e f],dSh (shT t c) (shB t c)]/\((1<=b/\a<e/\intBits b<=200/\(0<=a/\e<=b)/\0<=d/\d<=f/\f<=b)/\(1<=c/\0<=t/\t<=c/\intBits c<=200)/\a*c<=t*b) /\
 q (dSh (shT (d*((e-a)*c)+(f-d)*(t*b-a*c)) (b*((e-a)*c))) (shB (d*((e-a)*c)+(f-d)*(t*b-a*c)) (b*((e-a)*c))))
theorem qxn:FnScope [So,"x"] [So,"x"] (defScope qpf):=sc0
theorem qxu(F:Def K mg "height_on" qpf [So,"x"])(T:Txt K mg cs)(d:Ok P w K mg base "added" 4 [Sc,Sa] (PSp K zcr))(e:Ok P w K mg base "taken" 4 [Sc,Sa] (PSp K qtn))(g:Ok P w K mg base "times" 4 [Sc,Sa] (PSp K qtb))(i:Ok P w K mg base "slope" 5 [So] (PSp K qtg)):Ok P w K mg base "height_on" 6 [So,"x"] (PSp K qmi):=by
  refine F.vok qxn (by rintro M q ⟨_,_,_,_,_,_,_,h,_⟩;rw[h];rfl) λf N A x s H E v M q h=>?_;obtain⟨b,a,k,j,n,t,c,rfl,⟨o,⟨c1,O,B,y⟩,xt⟩,h⟩:=h;refine⟨_,(qh (qw (qt d.c v.m (qd (qr (qr (qc 0) qf) qf) (qd (qt g.c v.m (qd (qt i.c v.m (qd (qc 0) qe)) (qd (qt e.c v.m (qd (qc 1) (qd (qr (qr (qc 0) qf) qf) qe))) qe))) qe))))),?_⟩;obtain⟨b1,Q,l,⟨p,R⟩,z,S,U⟩:=id o;have m:intBits (c*b)<=400:=qp (Yv y l) (by decide);have V:0<=t*b-a*c:=by lia
  have W:t*b-a*c<=c*b:=by
   have C:t*b<=c*b:=Qn B (by lia);have D:0<=a*c:=Q2 p (by lia);lia
  have r:0<c*b:=Za (by lia) (by lia);have G:intBits (j-a)<=200:=qbi (by lia) (by lia) l;have I:intBits (n-k)<=200:=qbi (by lia) (by lia) l;have J:=qbi V W m;have L:0<(j-a)*(c*b):=Za (by lia) r;obtain⟨C,D⟩:=zhp (t:=t) (u:=a) (b:=c) (c:=b) (by lia) (by lia);obtain⟨X,Y⟩:=zsr (t:=n-k) (u:=t*b-a*c) (b:=j-a) (c:=c*b) (by lia) r;obtain⟨Z,a6⟩:=zwk (t:=k) (u:=(n-k)*(t*b-a*c)) (b:=b) (c:=(j-a)*(c*b)) (by lia) L;have p2:0<b*((j-a)*c):=Za (by lia) (Za (by lia) (by lia));obtain⟨a7,a8⟩:=qii (t:=k*((j-a)*(c*b))+(n-k)*(t*b-a*c)*b) (b:=b*((j-a)*(c*b))) (u:=k*((j-a)*c)+(n-k)*(t*b-a*c)) (c:=b*((j-a)*c)) (Za (by lia) L) p2 (by grind);have w0:=qkc (by lia) (qp (qbi z (by lia) l) (by decide)) (qp l (by decide));have w1:=qkc (by lia) (qp (qbi p (by lia) l) (by decide)) (qp l (by decide));have w2:=qkc (by lia) (qp (qbi O B y) (by decide)) (qp y (by decide));have w3:=qkc (by lia) (qp I (by decide)) (qp G (by decide));have w4:=qkc (by lia) (qp J (by decide)) (qp m (by decide));have w5:=qkc (by lia) (qp (Yv I J) (by decide)) (qp (Yv G m) (by decide));refine⟨_,rfl,_,rfl,b,a,k,j,n,rfl,o,_,rfl,_,rfl,_,_,_,_,rfl,⟨w2,w1⟩,?_⟩;rw[C,D];refine⟨_,_,_,_,rfl,⟨w3,w4⟩,?_⟩;rw[X,Y];refine⟨_,_,_,_,rfl,⟨w0,w5⟩,?_⟩;rw[Z,a6,a7,a8];exact h
def xff(p r:Int):Qj :=.tuple [.tuple [.int 0,.int (-p)],.tuple [.int 0,.int r]]
def qon(ds:List Qj)(q:Qj->Prop):Prop :=∃(p r:Int),ds=[dSh p r]/\q (xff p r)
theorem zaw:FnScope [S4] [S4] (defScope qsa):=sc0
theorem zak(F:Def K mg "two_acts" qsa [S4])(T:Txt K mg cs):Ok P w K mg base "two_acts" 1 [S4] (PSp K qon):=by
  refine F.vok zaw (by rintro b q ⟨_,_,h,_⟩;rw[h];rfl) λf c A a s H E d b q h=>?_;obtain⟨p,r,rfl,h⟩:=h;refine⟨_,(qh (qw (qck (qd (qck (qd qf (qd (qes (qr (qc 0) qf)) qe))) (qd (qck (qd qf (qd (qr (qc 0) qf) qe))) qe))))),?_⟩;exact⟨_,rfl,szl,_,rfl,szl,szl,h⟩
theorem zwp(h:stp a b=true):¬ stp b a=true:=λz=>by
 rw[qT]at h z;rw[qam]at z;lia
theorem qvn:∀{l m:List (Int×Int)},(l.Pairwise λa b=>stp a b=true)->(m.Pairwise λa b=>stp a b=true)->(∀x,x∈l↔x∈m)->l=m
 |[],[],_,_,_=>rfl
 |[],b::m,_,_,h=>by have:=(h b).mpr (by simp);cases this
 |a::l,[],_,_,h=>by have:=(h a).mp (by simp);cases this
 |a::l,b::m,c,d,h=>by
  rw[Vg]at c d;have e:a=b:=Vv λne=>by
   have g:a∈m:=by
    grind
   grind[zwp]
  subst e;rw[qvn c.2 d.2 λx=>⟨λf=>?_,λf=>?_⟩]
  ·grind[Qk,qze]
  grind[Qk,qze]
theorem zgw(c:Int×Int):∀l:List (Int×Int),(∀x∈l,crs x c=0)->crs ((l.map (·.1)).sum,(l.map (·.2)).sum) c=0
 |[],_=>by unfold crs;simp
 |x::l,h=>by
  have a:=zgw c l λy b=>h y (Qk _ b);have d:=h x (by simp);unfold crs at a d ⊢;grind
section
variable{L:List (Int×Int)}
theorem qkj(L:List (Int×Int))(c:Int×Int):crs (cls L c) c=0:=zgw c _ λx a=>by simpa using(Ym.mp a).2
theorem qtu(hL:∀c∈L,Stp1 c)(a:Stp1 c)(hd:Stp1 d)(h:crs c d=0):cls L c=cls L d:=by
 have e:(L.filter λx=>crs x c==0)=L.filter λx=>crs x d==0:=Qjk λx b=>by
  grind[qsn,qam]
 unfold cls;rw[e]
theorem qzf:∀{l:LI},(∀x∈l,0<=x)->0<=l.sum /\ ∀x∈l,x<=l.sum
 |[],_=>⟨by simp,λx c=>by cases c⟩
 |y::l,h=>by
  obtain⟨a,b⟩:=qzf λx c=>h x (Qk _ c);have:=h y (by simp);grind
theorem zab(hL:∀c∈L,Stp1 c)(d:c∈L):Stp1 (cls L c):=by
 have m:c∈L.filter λx=>crs x c==0:=Ym.mpr ⟨d,by rw[qjf];rfl⟩;have g:∀y∈(L.filter λx=>crs x c==0).map (·.1),0<=y:=λy a=>by
  obtain⟨z,b,rfl⟩:=Ql.mp a;exact(hL z (Ym.mp b).1).x
 have h:∀y∈(L.filter λx=>crs x c==0).map (·.2),0<=y:=λy a=>by
  obtain⟨z,b,rfl⟩:=Ql.mp a;exact(hL z (Ym.mp b).1).y
 have e:=qzf g;have f:=qzf h;have i:=e.2 c.1 (Ql.mpr ⟨c,m,rfl⟩);have j:=f.2 c.2 (Ql.mpr ⟨c,m,rfl⟩);have:=(hL c d).p;exact⟨e.1,f.1,by show 0<((L.filter λx=>crs x c==0).map (·.1)).sum+((L.filter λx=>crs x c==0).map (·.2)).sum;lia⟩
end
theorem qwy{r:LI}(h:r.length=k):(Qm k).map (λj=>(r[j]?).getD 0)=r:=by
 refine Zt λi=>?_;grind
structure DOf(R:LL)(n:Nat)(D:List (Int×Int)):Prop where
 s:D.Pairwise λa b=>stp a b=true
 m:∀x,x∈D↔∃c∈qbn R n,x=cls (qbn R n) c
theorem DOf.uniq(h:DOf R n D)(h':DOf R n D'):D=D':=qvn h.s h'.s λx=>(h.m x).trans (h'.m x).symm
theorem qhc(f:Int×Int->Int)(p:Int×Int->Bool):∀L:List (Int×Int),(L.map f).sum=((L.filter p).map f).sum+((L.filter λx => !p x).map f).sum
 |[]=>rfl
 |x::L=>by
  have a:=qhc f p L;grind
theorem qqq(f:Int×Int->Int):∀(d L:List (Int×Int)),(∀c∈L,Stp1 c)->(∀l∈d,Stp1 l)->(d.Pairwise λa b=>crs a b≠0)->(∀c∈L,∃l∈d,crs c l=0) ->
 (d.map λl=>((L.filter λx=>crs x l==0).map f).sum).sum=(L.map f).sum
  |[],L,_,_,_,h=>by
   cases L with
   |nil=>rfl
   |cons c L=>obtain⟨l,g,_⟩:=h c (by simp);cases g
  |l::d,L,j,g,i,h=>by
   rw[Vg]at i;have k:=qqq f d (L.filter λx => !(crs x l==0)) (λc e=>j c (Ym.mp e).1) (λc e=>g c (Qk _ e)) i.2 (λc e=>by
    grind)
   rw[Qq,Q3,qhc f (λx=>crs x l==0) L,<- k]
   congr 2
   refine Q9 λm n=>?_;rw[Qir]
   congr 2
   refine Qjk λx o=>?_;grind[qsn,qam]
theorem DOf.crv(g:Tab b R n)(B:R.length=2)(h:DOf R n D):Crv b D:=by
 have r:∀c∈qbn R n,Stp1 c:=λc i=>qmu g i;have o:∀x∈D,Stp1 x/\cls (qbn R n) x=x:=λx d=>by
  obtain⟨c,i,rfl⟩:=(h.m x).mp d;grind[zab,qtu,qkj]
 have k:∀(f:Int×Int->Int)(t:Nat),t<2->(∀s,f (qF R s)=at2 R t s)->(∀x∈D,f x=(((qbn R n).filter λy=>crs y x==0).map f).sum)->(∀c:Int×Int,c.1=0->c.2=0->f c=0)->((D.take D.length).map f).sum=b:=λf t C E d F=>by
  have u:R[t]?=some (R[t]'(by lia)):=Qc _;have p:=Qh u;have a:=qqq f D (qbn R n) r (λl v=>(o l v).1) (h.s.imp λ{a b} q z=>by grind[qT]) (λc i=>⟨_,(h.m _).mpr ⟨c,i,rfl⟩,by rw[qam,qkj];rfl⟩);rw[Zm,Q9 d,a,<- g.sum _ p,<- qwy (g.len _ p)];unfold qbn;have w:=qhc f (λc=>decide (0<c.1+c.2)) ((Qm n).map (qF R));have m:((((Qm n).map (qF R)).filter λx => !decide (0<x.1+x.2)).map f).sum=0:=by
   have:∀l:List (Int×Int),(∀x∈l,f x=0)->(l.map f).sum=0:=λl=>by
    induction l with
    |nil=>intro _;rfl
    |cons x l G=>grind
   refine this _ λx d=>?_;obtain⟨A,H⟩:=Ym.mp d;obtain⟨j,_,rfl⟩:=Ql.mp A;have I:0<=(qF R j).1:=qcx g.nn 0 j;have J:0<=(qF R j).2:=qcx g.nn 1 j;grind
  rw[m,Qdb]at w;grind[Zj,Q9,qcb]
 refine⟨g.pos,λc i=>(o c i).1,h.s,?_,?_⟩
 ·exact k (·.1) 0 (by lia) (λ_=>rfl) (λx d=>(congrArg Prod.fst (o x d).2).symm) λc e _=>e
 ·exact k (·.2) 1 (by lia) (λ_=>rfl) (λx d=>(congrArg Prod.snd (o x d).2).symm) λc _ e=>e
def chW(D:List (Int×Int))(c:Int)(i j:Nat):Int:=(sX D j-sX D i)*c
def chF(b:Int)(D:List (Int×Int))(t c:Int)(i:Nat):Int:=t*b-sX D i*c
def chH(b:Int)(D:List (Int×Int))(t c:Int)(i j:Nat):Int:=if 0<chW D c i j then sY D i*chW D c i j+(sY D j-sY D i)*chF b D t c i else sY D j
def chU(D:List (Int×Int))(c:Int)(i j:Nat):Int:=if 0<chW D c i j then chW D c i j else 1
structure Cho(b:Int)(D:List (Int×Int))(t c:Int)(i j:Nat):Prop where
 ij:i<=j
 jl:j<=D.length
 f0:0<=chF b D t c i
 fw:chF b D t c i<=chW D c i j
section
variable{b:Int}{D:List (Int×Int)}{t c:Int}{i j:Nat}
theorem zwb:0<chU D c i j:=by unfold chU;split <;> omega
theorem Cho.le(C:Crv b D)(c1:1<=c)(hd:D[m]?=some d)(h:Cho b D t c i j):chH b D t c i j*(d.1*c)<=(sY D m*(d.1*c)+d.2*(t*b-sX D m*c))*chU D c i j:=by
 obtain⟨q,n,g,f⟩:=h;have a:=C.under hd (i:=i) (by lia);have e:=C.under hd (i:=j) n;unfold chF at g f;unfold chW at f;have l:∀(x:Int)(y:Int),(y-sY D m)*d.1<=d.2*(x-sX D m)->y*(d.1*c)<=sY D m*(d.1*c)+d.2*(x*c-sX D m*c):=λx y h=>by
  have:=Qn h (show 0<=c by lia);grind
 have o:=l _ _ a;have p:=l _ _ e;unfold chH chU;by_cases w:0<chW D c i j
 ·rw[if_pos w,if_pos w];unfold chF;obtain⟨F,eF⟩:∃F,F=t*b-sX D i*c:=⟨_,rfl⟩
  obtain⟨W,eW⟩:∃W,W=chW D c i j:=⟨_,rfl⟩
  have k:W=(sX D j-sX D i)*c:=by rw[eW];rfl
  rw[<- eF]at g f ⊢;rw[<- k]at f;rw[<- eW]at w ⊢;have r:=Qn o (show 0<=W-F by lia);have s:=Qn p g;have u:(sY D i*W+(sY D j-sY D i)*F)*(d.1*c)=sY D i*(d.1*c)*(W-F)+sY D j*(d.1*c)*F:=by grind
  have g2:(sY D m*(d.1*c)+d.2*(t*b-sX D m*c))*W=(sY D m*(d.1*c)+d.2*(sX D i*c-sX D m*c))*(W-F)+(sY D m*(d.1*c)+d.2*(sX D j*c-sX D m*c))*F:=by
   grind
  grind
 ·rw[if_neg w,if_neg w];unfold chW at w;grind
theorem zcq(c1:1<=c)(hd:D[m]?=some d)(e:0<d.1)(h:sX D m*c<=t*b)(i:t*b<=sX D (m+1)*c):Cho b D t c m (m+1)/\chH b D t c m (m+1)=sY D m*(d.1*c)+d.2*(t*b-sX D m*c)/\chU D c m (m+1)=d.1*c:=by
 obtain⟨j,f⟩:=qgt hd;have k:=(Qp.mp hd).1;have a:chW D c m (m+1)=d.1*c:=by unfold chW;grind
 have g:0<chW D c m (m+1):=by rw[a];exact Za e (by lia)
 refine⟨⟨by lia,by lia,by unfold chF;lia,?_⟩,?_,?_⟩
 ·unfold chF chW;grind
 ·unfold chH;rw[if_pos g,a,f];unfold chF;grind
 ·unfold chU;grind
theorem Cho.nn(C:Crv b D)(c1:1<=c)(h:Cho b D t c i j)(a:intBits b<=200)(m:intBits c<=200):(0<=chH b D t c i j/\intBits (chH b D t c i j)<=700)/\intBits (chU D c i j)<=400:=by
 obtain⟨o,n,d,g⟩:=h;have p:=C.le (i:=i) (by lia);have q:=C.le n;have r:=C.b1;have k:0<=chW D c i j:=by lia
 have l:chW D c i j<=b*c:=by
  exact Qn (by lia) (by lia)
 have f:intBits (chW D c i j)<=400:=qbi k l (qp (Yv a m) (by decide));refine⟨?_,?_⟩
 ·unfold chH;split
  ·obtain⟨W,eW⟩:∃W,W=chW D c i j:=⟨_,rfl⟩
   obtain⟨F,eF⟩:∃F,F=chF b D t c i:=⟨_,rfl⟩
   rw[<- eF]at d g ⊢;rw[<- eW]at g k l f ⊢;have e:sY D i*W+(sY D j-sY D i)*F=sY D i*(W-F)+sY D j*F:=by grind
   have s:0<=sY D i*(W-F):=Q2 (by lia) (by lia);have u:0<=sY D j*F:=Q2 (by lia) d;have v:sY D i*(W-F)<=b*(W-F):=Qn (by lia) (by lia);have w:sY D j*F<=b*F:=Qn (by lia) d;have x:b*(W-F)+b*F=b*W:=by grind
   rw[e];exact⟨by lia,qbi (by lia) (by lia) (qp (Yv a f) (by decide))⟩
  ·exact⟨by lia,qp (qbi (by lia) (by lia) a) (by decide)⟩
 ·unfold chU;split
  ·exact f
  ·decide
end
def vOf(p r:Int)(x:Int×Int):Int:=r*x.2-p*x.1
def qlw(z:Int):Int:=if 0<z then z else 0
def qbx(p r:Int)(L:List (Int×Int)):Int:=(L.map λx=>qlw (vOf p r x)).sum
theorem qqs(z:Int):0<=qlw z/\z<=qlw z:=by unfold qlw;split <;> lia
theorem qen(h:0<=z):qlw z=z:=by unfold qlw;split <;> lia
theorem qnf(h:z<=0):qlw z=0:=by unfold qlw;split <;> lia
theorem zfl(p r:Int):∀L:List (Int×Int),(L.map (vOf p r)).sum=r*(L.map (·.2)).sum-p*(L.map (·.1)).sum
 |[]=>by simp
 |x::L=>by
  rw[Qq,Q3,zfl p r L,Qq,Q3,Qq,Q3];unfold vOf;grind
theorem zrr(b:Stp1 x)(c:Stp1 l)(h:crs x l=0):(0<=vOf p r l->0<=vOf p r x)/\(vOf p r l<=0->vOf p r x<=0):=by
 have e:vOf p r x*(l.1+l.2)=vOf p r l*(x.1+x.2):=by
  unfold crs at h;have h:x.2*l.1=l.2*x.1:=by lia
  unfold vOf;grind
 have d:=b.p;have a:=c.p;refine⟨λz=>?_,λz=>?_⟩
 ·have:=Q2 z (show 0<=x.1+x.2 by lia);rw[<- e]at this;rcases Zk (vOf p r x) 0 with w|w
  ·have:=Z7 w a;lia
  ·exact w
 ·have:=Q2 (show 0 <= - vOf p r l by lia) (show 0<=x.1+x.2 by lia);rw[Qic,<- e]at this;rcases Zk 0 (vOf p r x)with w|w
  ·have:=Za w a;lia
  ·exact w
theorem zhq(p r:Int)(L M:List (Int×Int)):qbx p r (L++M)=qbx p r L+qbx p r M:=by
 unfold qbx;rw[Zo,Jx]
theorem quc(p r:Int):∀L:List (Int×Int),0<=qbx p r L/\(L.map (vOf p r)).sum<=qbx p r L
 |[]=>by simp[qbx]
 |x::L=>by
  have a:=quc p r L;have:=qqs (vOf p r x);unfold qbx at a ⊢;grind
theorem qyl:∀{L:List (Int×Int)},(∀x∈L,0<=vOf p r x)->qbx p r L=(L.map (vOf p r)).sum
 |[],_=>rfl
 |x::L,h=>by
  have a:=qyl (L:=L) λy b=>h y (Qk _ b);unfold qbx at a ⊢;rw[Qq,Q3,Qq,Q3,a,qen (h x (by simp))]
theorem qhg:∀{L:List (Int×Int)},(∀x∈L,vOf p r x<=0)->qbx p r L=0
 |[],_=>rfl
 |x::L,h=>by
  have a:=qhg (L:=L) λy b=>h y (Qk _ b);unfold qbx at a ⊢;rw[Qq,Q3,a,qnf (h x (by simp))];rfl
theorem zno(d:Tab b R n)(p r:Int):qbx p r ((Qm n).map (qF R))=qbx p r (qbn R n):=by
 unfold qbx;rw[qhc (λx=>qlw (vOf p r x)) (λc=>decide (0<c.1+c.2)) ((Qm n).map (qF R))];have a:qbx p r (((Qm n).map (qF R)).filter λx => !decide (0<x.1+x.2))=0:=qhg λx e=>by
  obtain⟨f,g⟩:=Ym.mp e;obtain⟨j,_,rfl⟩:=Ql.mp f;have k:0<=(qF R j).1:=qcx d.nn 0 j;have l:0<=(qF R j).2:=qcx d.nn 1 j;have : ¬ (0<(qF R j).1+(qF R j).2):=by simpa using g
  have h:(qF R j).1=0:=by lia
  have i:(qF R j).2=0:=by lia
  unfold vOf;rw[h,i,Yr,Yr];lia
 unfold qbx at a;rw[a,Qdb];rfl
theorem DOf.bst(i:Tab b R n)(h:DOf R n D)(p r:Int):qbx p r ((Qm n).map (qF R))=qbx p r D:=by
 rw[zno i];have m:∀c∈qbn R n,Stp1 c:=λc f=>qmu i f;have j:∀x∈D,Stp1 x/\cls (qbn R n) x=x:=λx e=>by
  obtain⟨c,f,rfl⟩:=(h.m x).mp e;grind[zab,qtu,qkj]
 have a:=qqq (λx=>qlw (vOf p r x)) D (qbn R n) m (λl g=>(j l g).1) (h.s.imp λ{a b} q z=>by grind[qT]) (λc f=>⟨_,(h.m _).mpr ⟨c,f,rfl⟩,by rw[qam,qkj];rfl⟩);unfold qbx;rw[<- a]
 congr 1
 refine Q9 λl g=>?_;obtain⟨k,o⟩:=j l g;have s:(((qbn R n).filter λx=>crs x l==0).map (vOf p r)).sum=vOf p r l:=by
  rw[zfl]
  conv=>rhs;rw[<- o]
  rfl
 have d:∀x∈(qbn R n).filter λx=>crs x l==0,Stp1 x/\crs x l=0:=λx e=>by
  grind
 rcases Qju 0 (vOf p r l)with z|z
 ·have:=qyl (p:=p) (r:=r) (L:=(qbn R n).filter λx=>crs x l==0) λx e=>(zrr (d x e).1 k (d x e).2).1 z;unfold qbx at this;grind[qen]
 ·have:=qhg (p:=p) (r:=r) (L:=(qbn R n).filter λx=>crs x l==0) λx e=>(zrr (d x e).1 k (d x e).2).2 z;unfold qbx at this;grind[qnf]
section
variable{b c:Int}{D E:List (Int×Int)}
theorem qzk(p r:Int)(D:List (Int×Int))(i:Nat):r*sY D i-p*sX D i<=qbx p r D:=by
 conv=>rhs;rw[<- Qgw i D]
 rw[zhq];have a:=(quc p r (D.take i)).2;have e:=(quc p r (D.drop i)).1;rw[zfl]at a;unfold sX sY;lia
theorem ztf(C:Crv b D)(hd:D[m]?=some d)(g:0<d.1)(o:0<r)(e:p*d.1=d.2*r):qbx p r D=r*sY D m-p*sX D m:=by
 have a:=(Qp.mp hd).1;have i:=Qr ((Qc a).symm.trans hd);have k:∀x:Int×Int,vOf p r x*d.1=crs x d*r:=λx=>by
  unfold vOf crs;grind
 have l:∀x:Int×Int,0<=crs x d->0<=vOf p r x:=λx h=>by
  have:=Q2 h (show 0<=r by lia);rw[<- k]at this;rcases Zk (vOf p r x) 0 with w|w
  ·have:=Z7 w g;lia
  ·exact w
 have n:∀x:Int×Int,crs x d<=0->vOf p r x<=0:=λx h=>by
  have:=Q2 (show 0 <= - crs x d by lia) (show 0<=r by lia);rw[Qic,<- k]at this;rcases Zk 0 (vOf p r x)with w|w
  ·have:=Za w g;lia
  ·exact w
 conv=>lhs;rw[<- Qgw m D]
 rw[zhq,qyl (L:=D.take m),qhg (L:=D.drop m),zfl,Qdb]
 ·rfl
 ·intro x c;obtain⟨j,f,rfl⟩:=Vj.mp c;rw[List.getElem_drop];rw[Qbi]at f;refine n _ ?_;rcases Qaj j with z|z
  ·subst z;have:D[m+0]=d:=i;rw[this,qjf];grind
  ·have q:=Z8.mp C.s m (m+j) a (by lia) (by lia);grind[qT,qam]
 ·intro x c;obtain⟨j,f,rfl⟩:=Vj.mp c;rw[List.getElem_take];rw[Vm]at f;refine l _ ?_;have q:=Z8.mp C.s j m (by lia) a (by lia);rw[i,qT]at q;lia
def zxa(b:Int)(D:List (Int×Int))(c:Int)(E:List (Int×Int))(i:Nat):Prop :=∀a d,Cho b D (sX E i) c a d->chH b D (sX E i) c a d*c<sY E i*b*chU D c a d
theorem ztz(C:Crv b D)(c1:1<=c)(hd:D[m]?=some d)(e:0<d.1)(f:sX D m*c<=sX E i*b)(g:sX E i*b<=sX D (m+1)*c):zxa b D c E i↔hgN b D m d (sX E i) c*c<sY E i*hgM b d c:=by
 obtain⟨j,k,n⟩:=zcq c1 hd e f g;have t:0<d.1*c:=Za e (by lia);constructor
 ·intro h;have:=h _ _ j;rw[k,n]at this;unfold hgN hgM;grind
 ·intro h o p q;have l:=q.le C c1 hd;have r:0<chU D c o p:=zwb;refine Vp (a:=d.1*c) ?_ (by lia);have u:=Qn l (show 0<=c by lia);have s:=Z2 h r;unfold hgN hgM at s;grind
theorem zpw(C:Crv b D)(c1:1<=c)(hd:D[m]?=some d)(f:0<d.1)(h:hgN b D m d (sX E i) c*c<sY E i*hgM b d c)(g:0<r)(e:p*d.1=d.2*r):qbx p r D*c<qbx p r E*b:=by
 have j:=C.b1;rw[ztf C hd f g e];have l:=Qn (qzk p r E i) (show 0<=b by lia);refine Int.lt_of_lt_of_le ?_ l;refine Vp (a:=d.1*c) ?_ (Jh (Za f (by lia)));unfold hgN hgM at h;have h:=Z2 h g;generalize sY D m=y at *;generalize sX D m=x at *;generalize sX E i=t at *;generalize sY E i=s at *;have k:(r*y-p*x)*c*(d.1*c)=(y*(d.1*c)+d.2*(t*b-x*c))*c*r-d.2*r*(t*b)*c:=by
  grind
 have n:(r*s-p*t)*b*(d.1*c)=s*(b*(d.1*c))*r-d.2*r*(t*b)*c:=by
  grind
 grind
end
def Dom(b:Int)(D:List (Int×Int))(c:Int)(E:List (Int×Int)):Prop :=∀p r:Int,0<=p->0<=r->qbx p r E*b<=qbx p r D*c
section
variable{b c:Int}{D E:List (Int×Int)}
theorem zqc(d:0<=p)(e:0<=r)(a:Stp1 x)(f:Stp1 y)(h:stp x y=true)(b:vOf p r x<=0):vOf p r y<=0:=by
 rw[qT]at h;unfold crs at h;unfold vOf at b ⊢;have j:=a.x;have k:=a.y;have l:=a.p;have c:=f.x;rcases Zk 0 x.1 with z|z
 ·have m:=Q2 e (show 0<=x.2*y.1-y.2*x.1 by lia);have n:=Q2 (show 0 <= -(r*x.2-p*x.1) by lia) c;rcases Zk 0 (r*y.2-p*y.1)with w|w
  ·have o:=Za w z;grind
  ·exact w
 ·have g:x.1=0:=by lia
  have i:r=0:=by
   rw[g,Yr]at b;rcases Zk 0 r with w|w
   ·have:=Za w (show 0<x.2 by lia);lia
   ·lia
  rw[i,Zr];have:=Q2 d c;lia
theorem zqr(d:0<=p)(f:0<=r):∀{L:List (Int×Int)},(∀x∈L,Stp1 x)->(L.Pairwise λa b=>stp a b=true) ->∃i,i<=L.length/\qbx p r L=((L.take i).map (vOf p r)).sum
 |[],_,_=>⟨0,Qs _,rfl⟩
 |x::L,g,c=>by
  rw[Vg]at c;rcases Zk 0 (vOf p r x)with z|z
  ·obtain⟨i,j,e⟩:=zqr d f (L:=L) (λy h=>g y (Qk _ h)) c.2;refine⟨i+1,by simp;lia,?_⟩;unfold qbx at e ⊢;rw[Qq,Q3,e,List.take_succ_cons,Qq,Q3,qen (by lia)]
  ·refine⟨0,Yd _,?_⟩;grind[qhg,zqc,Qk]
theorem zta(c1:1<=c)(x:1<=b)(q:Cho b D t c i j)(h : ¬ chH b D t c i j*c<y*b*chU D c i j)(k:0<=r):(r*y-p*t)*b<=qbx p r D*c:=by
 have l:=qzk p r D i;have e:=qzk p r D j;obtain⟨V,eV⟩:∃V,V=qbx p r D:=⟨_,rfl⟩
 rw[<- eV]at l e ⊢;obtain⟨_,_,f,d⟩:=q;unfold chH chU at h;by_cases w:0<chW D c i j
 ·rw[if_pos w,if_pos w]at h;obtain⟨F,eF⟩:∃F,F=chF b D t c i:=⟨_,rfl⟩
  obtain⟨W,eW⟩:∃W,W=chW D c i j:=⟨_,rfl⟩
  rw[<- eF,<- eW]at h;rw[<- eF]at f d;rw[<- eW]at d w;unfold chF at eF;unfold chW at eW;have h:y*b*W<=(sY D i*W+(sY D j-sY D i)*F)*c:=by lia
  have n:=Qn l (show 0<=W-F by lia);have o:=Qn e f;have z:=Yn h k;refine Qba (a:=W) ?_ w;have s:=Qn (show(r*sY D i-p*sX D i)*(W-F)+(r*sY D j-p*sX D j)*F<=V*(W-F)+V*F by lia) (show 0<=c by lia);have g:((r*sY D i-p*sX D i)*(W-F)+(r*sY D j-p*sX D j)*F)*c=r*((sY D i*W+(sY D j-sY D i)*F)*c)-p*(sX D i*c*W+(sX D j-sX D i)*c*F):=by grind
  have m:sX D i*c*W+(sX D j-sX D i)*c*F=t*b*W:=by
   grind
  have u:(V*(W-F)+V*F)*c=V*c*W:=by grind
  rw[g,m,u]at s;grind
 ·rw[if_neg w,if_neg w,Qeg]at h;unfold chF at f d;unfold chW at w d;have A:(sX D j-sX D i)*c=sX D j*c-sX D i*c:=by grind
  have v:t*b=sX D j*c:=by omega
  have n:=Yn (show y*b<=sY D j*c by lia) k;have o:=Qn e (show 0<=c by lia);have g:(r*y-p*t)*b=r*(y*b)-p*(t*b):=by grind
  have m:(r*sY D j-p*sX D j)*c=r*(sY D j*c)-p*(sX D j*c):=by grind
  rw[g,v];lia
theorem qyv(f:1<=b)(a:Crv c E)(h:∀i,i<=E.length -> ¬ zxa b D c E i):Dom b D c E:=λp r g d=>by
 obtain⟨i,j,e⟩:=zqr g d a.p a.s;have h:=h i j;obtain⟨k,h⟩:=Qdp.mp h;obtain⟨l,h⟩:=Qdp.mp h;obtain⟨q,h⟩:=Qdp.mp h;have:=zta a.b1 f q h (p:=p) d;rw[e,zfl];exact this
theorem Dom.no(C:Crv b D)(c1:1<=c)(h:Dom b D c E)(hd:D[k]?=some d)(a:0<d.1):¬ hgN b D k d (sX E i) c*c<sY E i*hgM b d c:=λz=>by
 obtain⟨g,e⟩:=qcc (t:=d.2) (b:=d.1) (by lia);have m:=g.pos;have j:=C.p d (Qh hd);have l:0<=shT d.2 d.1:=by
  have:=Q2 j.y (show 0<=shB d.2 d.1 by lia);rw[<- e]at this;rcases Zk (shT d.2 d.1) 0 with w|w
  ·have:=Z7 w a;lia
  ·exact w
 have f:=zpw C c1 (E:=E) hd a z (p:=shT d.2 d.1) (r:=shB d.2 d.1) (by lia) e;have:=h _ _ l (show 0<=shB d.2 d.1 by lia);lia
theorem Dom.tr(g:1<=b)(c1:1<=c)(i:1<=d)(h:Dom b D c E)(k:Dom c E d F):Dom b D d F:=λp r e f=>by
 have j:=Qn (k p r e f) (show 0<=b by lia);have l:=Qn (h p r e f) (show 0<=d by lia);refine Qba (a:=c) ?_ (by lia);grind
end
theorem stp_prp'(c:Stp1 a)(b:Stp1 a')(d:Stp1 g)(h:stp a g=true)(e:crs a a'=0):stp a' g=true:=by
 rw[qT]at h ⊢;rcases Zk 0 (crs a' g)with z|z
 ·exact z
 ·exfalso;by_cases w:crs a' g=0
  ·grind[qsn]
  ·have f:stp g a'=true:=qT.mpr (by grind[qam]);have i:=qul ⟨c.x,c.y⟩ ⟨d.x,d.y⟩ ⟨b.x,b.y⟩ (qT.mpr h) f;grind[qT]
theorem qsm(h:∀x∈L,crs x g<=0):qbx g.2 g.1 L=0:=qhg λx a=>by
 have:=h x a;unfold crs at this;unfold vOf;grind
theorem qfs(p r:Int)(x:Int×Int)(L:List (Int×Int)):qbx p r (x::L)=qlw (vOf p r x)+qbx p r L:=rfl
theorem zlz(x g:Int×Int):vOf g.2 g.1 x=crs x g:=by
 unfold vOf crs;rw[Zp g.1]
theorem quf:∀{L:List (Int×Int)},(∀x∈L,Stp1 x)->qbx 0 1 L=(L.map (·.2)).sum
 |[],_=>rfl
 |x::L,h=>by
  have a:=quf (L:=L) λy b=>h y (Qk _ b);have c:=(h x (by simp)).y;rw[qfs,a,Qq,Q3];unfold vOf;rw[Int.one_mul,Zr,Int.sub_zero,qen c]
theorem qmx{f:Int×Int->Int}:∀{L:List (Int×Int)},(∀x∈L,0<=f x)->0<=(L.map f).sum
 |[],_=>by simp
 |x::L,h=>by
  have b:=qmx (L:=L) λy a=>h y (Qk _ a);grind
theorem zum(a:crs d e=0)(f:crs d g*c=crs e g*b)(h:crs e g≠0):d.1*c=e.1*b/\d.2*c=e.2*b:=by
 unfold crs at a f h;obtain⟨u,eu⟩:∃u,u=d.1*c-e.1*b:=⟨_,rfl⟩
 obtain⟨w,ew⟩:∃w,w=d.2*c-e.2*b:=⟨_,rfl⟩
 have k:w*e.1=e.2*u:=by
  grind
 have l:w*g.1=g.2*u:=by
  grind
 have i:u*(e.2*g.1-g.2*e.1)=0:=by
  grind
 have j:w*(e.2*g.1-g.2*e.1)=0:=by
  grind
 have m:u=0:=by
  rcases Yf.mp i with z|z
  ·exact z
  grind
 have n:w=0:=by
  rcases Yf.mp j with z|z
  ·exact z
  grind
 lia
theorem qsd(W:1<=b)(c1:1<=c):∀{D E:List (Int×Int)},(∀x∈D,Stp1 x)->(∀x∈E,Stp1 x)->(D.Pairwise λa b=>stp a b=true)->(E.Pairwise λa b=>stp a b=true) ->
 (∀p r:Int,0<=p->0<=r->qbx p r E*b=qbx p r D*c)->(D.map (·.1)).sum*c=(E.map (·.1)).sum*b->(D.map λx=>(x.1*c,x.2*c))=E.map λx=>(x.1*b,x.2*b)
  |[],[],_,_,_,_,_,_=>rfl
  |[],e::E,_,v,_,_,h,t=>by
   exfalso;have h:=h 0 1 (by decide) (by decide);rw[quf v]at h;have a:qbx 0 1 []=0:=rfl;rw[a,Zr,Qq,Q3]at h;rw[J3,Qjp,Zr,Qq,Q3]at t;have H:=qmx (f:=(·.1)) (L:=E) λx j=>(v x (Qk _ j)).x;have M:=qmx (f:=(·.2)) (L:=E) λx j=>(v x (Qk _ j)).y;have pe:=v e (by simp);have:=pe.p;have:=pe.x;have:=pe.y;have Q:e.1+(E.map (·.1)).sum=0:=by
    rcases Yf.mp t.symm with z|z
    ·exact z
    ·lia
   have R:e.2+(E.map (·.2)).sum=0:=by
    rcases Yf.mp h with z|z
    ·exact z
    ·lia
   lia
  |d::D,[],A,_,_,_,h,t=>by
   exfalso;have h:=h 0 1 (by decide) (by decide);rw[quf A]at h;have a:qbx 0 1 []=0:=rfl;rw[a,Zr,Qq,Q3]at h;rw[J3,Qjp,Zr,Qq,Q3]at t;have H:=qmx (f:=(·.1)) (L:=D) λx j=>(A x (Qk _ j)).x;have M:=qmx (f:=(·.2)) (L:=D) λx j=>(A x (Qk _ j)).y;have pe:=A d (by simp);have:=pe.p;have:=pe.x;have:=pe.y;have Q:d.1+(D.map (·.1)).sum=0:=by
    rcases Yf.mp t with z|z
    ·exact z
    ·lia
   have R:d.2+(D.map (·.2)).sum=0:=by
    rcases Yf.mp h.symm with z|z
    ·exact z
    ·lia
   lia
  |d::D,e::E,A,v,I,J,h,t=>by
   have C:=A d (by simp);have pe:=v e (by simp);have l:=Vg.mp I;have m:=Vg.mp J;have n:∀x∈D,Stp1 x:=λx j=>A x (Qk _ j);have o:∀x∈E,Stp1 x:=λx j=>v x (Qk _ j);have lt:∀{x y:Int×Int},stp x y=true->crs y x<=0:=λ{x y} w=>by
    rw[qT]at w;rw[qam];lia
   have F:crs d e=0:=by
    have S:=h e.2 e.1 pe.y pe.x;have T:=h d.2 d.1 C.y C.x;rw[qsm (g:=e) (L:=e::E) (λx j=>by
     rcases Zd.mp j with rfl|j
     ·rw[qjf];exact V2 _
     ·exact lt (m.1 x j)),qfs,zlz,Zr]at S
    rw[qsm (g:=d) (L:=d::D) (λx j=>by
     rcases Zd.mp j with rfl|j
     ·rw[qjf];exact V2 _
     ·exact lt (l.1 x j)),qfs,zlz,Zr]at T
    have Z:=(quc e.2 e.1 D).1;have n2:=(quc d.2 d.1 E).1;have Q:qlw (crs d e)+qbx e.2 e.1 D=0:=by
     rcases Yf.mp S.symm with z|z
     ·exact z
     ·lia
    have R:qlw (crs e d)+qbx d.2 d.1 E=0:=by
     rcases Yf.mp T with z|z
     ·exact z
     ·lia
    have U:=qqs (crs d e);have V:=qqs (crs e d);have:=qam d e;lia
   have K:d.1*c=e.1*b/\d.2*c=e.2*b:=by
    have i:∀g:Int×Int,Stp1 g->stp d g=true->stp e g=true->(∀x∈D,crs x g<=0)->(∀x∈E,crs x g<=0)->d.1*c=e.1*b/\d.2*c=e.2*b:=λg q s G U V=>by
     have N:=h g.2 g.1 q.y q.x;rw[qfs,qfs,zlz,zlz,qsm U,qsm V,Qdb,Qdb]at N;rw[qT]at s G;rw[qen (by lia),qen (by lia)]at N;exact zum F N.symm (by lia)
    have self:∀{L:List (Int×Int)}{g:Int×Int},(g::L).Pairwise (λa b=>stp a b=true) ->∀x∈g::L,crs x g<=0:=λ{L g} w x j=>by
     rcases Zd.mp j with rfl|j
     ·rw[qjf];exact V2 _
     ·exact lt ((Vg.mp w).1 x j)
    have u:∀{x g k:Int×Int},Stp1 x->Stp1 g->Stp1 k->crs x k<=0->crs k g<=0->crs x g<=0:=λ{x g k} O q B s G=>by
     rcases Zk 0 (crs x g)with z|z
     ·exfalso;have H:=qT.mpr z;by_cases w:crs k g=0
      ·have:=zwl O q B H (by rw[qam,w];rfl);rw[qT]at this;lia
      ·have M:stp g k=true:=qT.mpr (by rw[qam];lia);have:=qul ⟨O.x,O.y⟩ ⟨q.x,q.y⟩ ⟨B.x,B.y⟩ H M;rw[qT]at this;lia
     ·exact z
    match D,E,I,J,l,m,n,o,h,t,i with
    |[],[],_,_,_,_,_,_,h,t,_ =>
     have h:=h 0 1 (by decide) (by decide);rw[quf v,quf A]at h;simp at h t;exact⟨t,h.symm⟩
    |g::D,[],I,_,l,_,n,_,_,_,i =>
     have s:=l.1 g (by simp);refine i g (n g (by simp)) s (stp_prp' C pe (n g (by simp)) s F) (self l.2) (λx j=>by cases j)
    |[],g::E,_,J,_,m,_,o,_,_,i =>
     have s:=m.1 g (by simp);refine i g (o g (by simp)) (stp_prp' pe C (o g (by simp)) s (by rw[qam,F];rfl)) s (λx j=>by cases j) (self m.2)
    |g::D,k::E,I,J,l,m,n,o,_,_,i =>
     have s:=l.1 g (by simp);have G:=m.1 k (by simp);have q:=n g (by simp);have B:=o k (by simp);rcases Qju (crs k g) 0 with z|z
     ·exact i g q s (stp_prp' C pe q s F) (self l.2) (λx j=>u (o x j) q B (self m.2 x j) z)
     ·exact i k B (stp_prp' pe C B G (by rw[qam,F];rfl)) G (λx j=>u (n x j) B q (self l.2 x j) (by rw[qam];lia)) (self m.2)
   have rest:=qsd W c1 (D:=D) (E:=E) n o l.2 m.2 (λp r X Y=>by
    have h:=h p r X Y;rw[qfs,qfs]at h;have k:qlw (vOf p r d)*c=qlw (vOf p r e)*b:=by
     have P:vOf p r d*c=vOf p r e*b:=by
      unfold vOf
      calc (r*d.2-p*d.1)*c=r*(d.2*c)-p*(d.1*c):=by grind
       _=_:=by rw[K.1,K.2];grind
     rcases Qju 0 (vOf p r d)with z|z
     ·have:0<=vOf p r e:=by
       have:=Q2 z (show 0<=c by lia);rw[P]at this;rcases Zk (vOf p r e) 0 with w|w
       ·have:=Z7 w (show 0<b by lia);lia
       ·exact w
      rw[qen z,qen this,P]
     ·have:vOf p r e<=0:=by
       have:=Q2 (show 0 <= - vOf p r d by lia) (show 0<=c by lia);rw[Qic,P]at this;rcases Zk 0 (vOf p r e)with w|w
       ·have:=Za w (show 0<b by lia);lia
       ·exact w
      rw[qnf z,qnf this,Zr,Zr]
    rw[Jc,Jc]at h;omega) (by
    rw[Qq,Q3,Qq,Q3,Jc,Jc]at t;omega)
   rw[Qq,Qq,rest,K.1,K.2]
def Shp(n:Nat)(d:Qj):Prop:=d.canLay0=true/\d.depth<=n
theorem qyt:∀{l:List Qj},(∀x∈l,Shp n x)->Jv l=true/\Qgx l<=n
 |[],_=>by simp[Jv,Qgx]
 |x::l,h=>by
  obtain⟨a,b⟩:=qyt λy e=>h y (Qk _ e);obtain⟨c,d⟩:=h x (by simp);rw[Jv,Qgx,a,c];grind
theorem zvn(i:Int)(n:Nat):Shp n (.int i):=by simp[Shp,Qad,Qgy]
theorem zsm(h:∀x∈l,Shp n x):Shp (n+1) (.list l):=by
 obtain⟨a,b⟩:=qyt h;rw[Shp,Qad,Qgy];grind
theorem zif(h:∀x∈l,Shp n x):Shp (n+1) (.tuple l):=by
 obtain⟨a,b⟩:=qyt h;rw[Shp,Qad,Qgy];grind
theorem zni(ns:LI)(n:Nat):∀x∈ns.map Q8,Shp n x:=λx a=>by
 grind[zvn]
theorem Shp.ok(h:Shp n d)(a:n<=64:=by decide):Jg d=true:=by
 unfold Jg;rw[h.1,decide_eq_true (Zq h.2 a)];rfl
theorem Shp.refl(h:Shp n d):Vh d d=true:=SeqAt.eqv_refl d h.1
section
variable{b:Int}{r u:LI}{n:Nat}{Gs:List (List Nat)}
theorem ziy(a:Col (qO [r,u] i))(b:Col (qO [r,u] j)):nrm (qO [r,u] i)=nrm (qO [r,u] j)↔crs (qF [r,u] i) (qF [r,u] j)=0:=by
 constructor
 ·intro e;have:=qrq e 0 1 _ _ _ _ (show(qO [r,u] i)[0]?=some (qF [r,u] i).1 from rfl) (show(qO [r,u] i)[1]?=some (qF [r,u] i).2 from rfl) (show(qO [r,u] j)[0]?=some (qF [r,u] j).1 from rfl) (show(qO [r,u] j)[1]?=some (qF [r,u] j).2 from rfl);unfold crs;grind
 ·intro e;refine qrn a b rfl λs t x y v w c d f g=>?_;unfold crs at e;have lt2:∀{z:Nat}{k:Nat}{q:Int},(qO [r,u] k)[z]?=some q->(z=0/\q=(qF [r,u] k).1)\/(z=1/\q=(qF [r,u] k).2):=λ{z k q} h=>by
   match z,h with
   |0,h=>exact .inl ⟨rfl,(Qr h).symm⟩
   |1,h=>exact .inr ⟨rfl,(Qr h).symm⟩
   |z+2,h=>cases h
  grind
end
theorem zvu(a:R.length=2)(j:Nat):qO R j=[(qF R j).1,(qF R j).2]:=by
 match R,a with
 |[r,s],_=>rfl
theorem qto(a:Tab b R n)(c:R.length=2):(qO R s).any (· != 0)=true↔0<(qF R s).1+(qF R s).2:=by
 have f:=qcx a.nn 0 s;have g:=qcx a.nn 1 s;have d:(qF R s).1=at2 R 0 s:=rfl;have e:(qF R s).2=at2 R 1 s:=rfl;rw[zvu c,d,e];simp;lia
theorem zdk(g:Nat->Int×Int)(p:Int×Int->Bool)(f:Int×Int->Int):∀n:Nat,(((((Qm n).map g)).filter p).map f).sum=qo n λs=>if p (g s)=true then f (g s)else 0
 |0=>rfl
 |n+1=>by
  rw[Jw,Zo,Qcf,Zo,Jx,zdk g p f n];show _=qo n _+_;grind
section
variable{b:Int}{R:LL}{n:Nat}{Gs:List (List Nat)}
theorem zhb(a:Tab b R n)(d:R.length=2)(h:GrsOf R n Gs){l:Nat}(f:Gs[l]?=some G)(v:i∈G)(w:s<n):s∈G↔(0<(qF R s).1+(qF R s).2/\crs (qF R s) (qF R i)=0):=by
 obtain⟨ok,pt⟩:=h.ok a;have m:=Qh f;obtain⟨g,j⟩:=pt.pr G m i v
 match R,d,h,a,ok,pt,g,j with
 |[r,u],d,h,a,ok,pt,g,j =>
 constructor
 ·intro y;obtain⟨k,o⟩:=pt.pr G m s y;refine⟨(qto a d).mp ?_,(ziy k g).mp (o.trans j.symm)⟩;obtain⟨x,E,F⟩:=k.nz;grind
 ·rintro⟨pos,e⟩;have z:=(qto a d).mpr pos;obtain⟨q,t,A⟩:=pt.all s w z;obtain⟨H,c⟩:=Jj.mp t;obtain⟨k,o⟩:=pt.pr q t s A;have B:nrm (jc [r,u] q)=nrm (jc [r,u] G):=by grind[ziy]
  obtain⟨p,C,_,D⟩:=h;rw[D]at f c;have:=zws a.nn C c f B;grind
theorem zgs(d:Tab b R n)(g:R.length=2)(h:GrsOf R n Gs)(c:Gs[l]?=some G)(j:i∈G):qF (R.map (qcl Gs)) l=cls (qbn R n) (qF R i):=by
 obtain⟨ok,pt⟩:=h.ok d;have e:=Qh c;have a:∀(t:Nat)(f:Int×Int->Int),t<2->(∀s,f (qF R s)=at2 R t s)->at2 (R.map (qcl Gs)) t l=(((qbn R n).filter λx=>crs x (qF R i)==0).map f).sum:=λt f p q=>by
  have k:R[t]?=some (R[t]'(by lia)):=Qc _;rw[qrw k c,qmr _ (pt.nd G e) (ok.lt G e)];unfold qbn;rw[Qir,zdk];refine qj λs m=>?_;have o:=zhb d g h c j m;have r:((R[t]'(by lia))[s]?).getD 0=f (qF R s):=by grind[qcb]
  grind
 show(at2 (R.map (qcl Gs)) 0 l,at2 (R.map (qcl Gs)) 1 l)=_;rw[a 0 (·.1) (by lia) λs=>rfl,a 1 (·.2) (by lia) λs=>rfl];rfl
end
theorem zqe(h:D=S.map λc=>(g*c.1,g*c.2))(i:Nat):sX D i=g*sX S i/\sY D i=g*sY S i:=by
 have a:∀(f:Int×Int->Int)(l:List (Int×Int)),(∀c:Int×Int,f (g*c.1,g*c.2)=g*f c)->((l.map λc=>(g*c.1,g*c.2)).map f).sum=g*(l.map f).sum:=λf l b=>by
  induction l with
  |nil=>simp
  |cons c l d=>grind
 unfold sX sY;grind[Qav]
theorem zzb(d:PmN k p)(m:∀i j,i<j->j<k->stp (qF T (p.getD i 0)) (qF T (p.getD j 0))=true):(p.toList.map (qF T)).Pairwise λa b=>stp a b=true:=by
 rw[Z8];intro i j c f h;have g:i<k:=by rw[Qe,Z6,d.s]at c;exact c
 have n:j<k:=by rw[Qe,Z6,d.s]at f;exact f
 have l:∀{i:Nat}(c:i<(p.toList.map (qF T)).length),i<k->(p.toList.map (qF T))[i]=qF T (p.getD i 0):=λ{i} c g=>by
  have e:(p.toList.map (qF T))[i]?=some (qF T (p.getD i 0)):=by rw[Qa,Qgp,d.get g];rfl
  grind
 grind
section
variable{b f:Int}{R T:LL}{n k:Nat}{p:Array Nat}
theorem zjp(b:Tab f T k)(h:T.length=2)(c:PmN k p):sX (p.toList.map (qF T)) k=f/\sY (p.toList.map (qF T)) k=f:=by
 have a:∀(g:Int×Int->Int)(t:Nat),t<2->(∀j,g (qF T j)=at2 T t j)->(((p.toList.map (qF T)).take k).map g).sum=f:=λg t i m=>by
  have e:T[t]?=some (T[t]'(by omega)):=Qc _;have d:=Qh e;have l:(p.toList.map (qF T)).length=k:=by rw[Qe,Z6,c.s]
  rw[<- l,Zm,Zj,zcy (c.p.map (g ∘ qF T)),<- b.sum _ d,<- qwy (b.len _ d)];grind[Q9,qcb]
 exact⟨a (·.1) 0 (by omega) λ_=>rfl,a (·.2) 1 (by omega) λ_=>rfl⟩
end
def val(a x:Int×Int):Int:=a.1*x.1+a.2*x.2
def psi(P:Int×Int->Int×Int):List (Int×Int)->Int×Int->Int
 |[],_=>0
 |[l],x=>val (P l) x
 |l::a::L,x=>qlw (val (P l) x-val (P a) x)+psi P (a::L) x
theorem qjc(P:Int×Int->Int×Int)(l a:Int×Int)(L:List (Int×Int))(x:Int×Int):psi P (l::a::L) x=qlw (val (P l) x-val (P a) x)+psi P (a::L) x:=rfl
theorem zrq(P:Int×Int->Int×Int)(x:Int×Int):∀(L:List (Int×Int)),∀l∈L,val (P l) x<=psi P L x
 |[],l,h=>by cases h
 |[k],l,h=>by
  rw[Q6.mp h];exact V2 _
 |k::a::L,l,h=>by
  have b:=zrq P x (a::L);have q:=qqs (val (P k) x-val (P a) x);grind[qjc]
theorem qru(a b x:Int×Int):val a x-val b x=vOf (b.1-a.1) (a.2-b.2) x:=by
 unfold val vOf;grind
theorem xdj(b:Stp1 l)(a:Stp1 l')(h:stp l l'=true)(c:0<=vOf p r l)(f:vOf p r l'<=0):0<=p/\0<=r:=by
 rw[qT]at h;have g:vOf p r l*l'.2-vOf p r l'*l.2=p*crs l l':=by unfold vOf crs;grind
 have i:vOf p r l*l'.1-vOf p r l'*l.1=r*crs l l':=by unfold vOf crs;grind
 have j:=Q2 c a.y;have d:=Q2 (show 0 <= - vOf p r l' by lia) b.y;have k:=Q2 c a.x;have e:=Q2 (show 0 <= - vOf p r l' by lia) b.x;rw[Qic]at d e;constructor
 ·rcases Zk p 0 with w|w
  ·have:=Z7 w h;lia
  ·exact w
 ·rcases Zk r 0 with w|w
  ·have:=Z7 w h;lia
  ·exact w
theorem xak(i:0<=p)(b:0<=r)(a:Stp1 x)(c:Stp1 l)(h:0<=crs x l)(d:0<=vOf p r l):0<=vOf p r x:=by
 have e:vOf p r x*l.1=r*crs x l+vOf p r l*x.1:=by unfold vOf crs;grind
 have j:=Q2 b h;have k:=Q2 d a.x;have m:=c.x;rcases Zk 0 l.1 with z|z
 ·rcases Zk (vOf p r x) 0 with w|w
  ·have:=Z7 w z;lia
  ·exact w
 ·have f:l.1=0:=by lia
  have n:=c.p;have o:=a.x;have g:x.1=0:=by
   unfold crs at h;rw[f,Yr]at h;rcases Zk 0 x.1 with w|w
   ·have:=Za (show 0<l.2 by lia) w;lia
   ·lia
  unfold vOf;rw[g,Yr];have:=Q2 b a.y;lia
structure Opt(P:Int×Int->Int×Int)(L:List (Int×Int)):Prop where
 p:∀x∈L,Stp1 x
 s:L.Pairwise λa b=>stp a b=true
 o:∀l∈L,∀k∈L,val (P k) l<=val (P l) l
section
variable{P:Int×Int->Int×Int}
theorem Opt.tail(h:Opt P (l::L)):Opt P L :=
 ⟨λx b=>h.p x (Qk _ b),(Vg.mp h.s).2,λa c k d=>h.o a (Qk _ c) k (Qk _ d)⟩
theorem Opt.two(h:Opt P (l::l'::L)):(Stp1 l/\Stp1 l'/\stp l l'=true)/\(0<=vOf ((P l').1-(P l).1) ((P l).2-(P l').2) l/\vOf ((P l').1-(P l).1) ((P l).2-(P l').2) l'<=0)/\0<=(P l').1-(P l).1/\0<=(P l).2-(P l').2:=by
 have a:=h.p l (by simp);have b:=h.p l' (by simp);have c:=(Vg.mp h.s).1 l' (by simp);have f:=h.o l (by simp) l' (by simp);have g:=h.o l' (by simp) l (by simp);have d:0<=vOf ((P l').1-(P l).1) ((P l).2-(P l').2) l:=by rw[<- qru];lia
 have e:vOf ((P l').1-(P l).1) ((P l).2-(P l').2) l'<=0:=by rw[<- qru];lia
 exact⟨⟨a,b,c⟩,⟨d,e⟩,xdj a b c d e⟩
theorem zdm(a:Stp1 x):∀{L:List (Int×Int)}{l:Int×Int},Opt P (l::L)->0<=crs x l->psi P (l::L) x=val (P l) x
 |[],l,_,_=>rfl
 |b::L,l,h,f=>by
  obtain⟨⟨c,e,g⟩,⟨i,o⟩,j,k⟩:=h.two;have d:0<=crs x b:=by
   rcases Zk (crs x b) 0 with w|w
   ·have m:stp b x=true:=qT.mpr (by grind[qam]);have:=qul ⟨c.x,c.y⟩ ⟨e.x,e.y⟩ ⟨a.x,a.y⟩ g m;grind[qT,qam]
   ·exact w
  have n:=zdm a h.tail d;have v:=xak j k a c f i;rw[qjc,n,qru,qen v,<- qru];lia
theorem zqp(b:Stp1 x):∀{L:List (Int×Int)}{l:Int×Int},Opt P (l::L) ->∃k∈l::L,psi P (l::L) x=val (P k) x
 |[],l,_=>⟨l,by simp,rfl⟩
 |a::L,l,h=>by
  obtain⟨⟨m,c,n⟩,⟨o,d⟩,f,g⟩:=h.two;rcases Zk 0 (vOf ((P a).1-(P l).1) ((P l).2-(P a).2) x)with z|z
  ·have i:0<=crs x a:=by
    rcases Zk (crs x a) 0 with w|w
    ·have:=zqc f g c b (qT.mpr (by rw[qam];lia)) d;lia
    ·exact w
   refine⟨l,by simp,?_⟩;rw[qjc,zdm b h.tail i,qru,qen (by lia),<- qru];lia
  ·obtain⟨k,j,e⟩:=zqp b h.tail;refine⟨k,Qk _ j,?_⟩;rw[qjc,qru,qnf z,e];lia
end
theorem zdn(f g:Int×Int->Int):∀L:List (Int×Int),(L.map λx=>f x+g x).sum=(L.map f).sum+(L.map g).sum
 |[]=>rfl
 |x::L=>by
  rw[Qq,Q3,zdn f g L,Qq,Q3,Qq,Q3];lia
theorem qyx{f g:Int×Int->Int}:∀{L:List (Int×Int)},(∀x∈L,f x<=g x)->(L.map f).sum<=(L.map g).sum
 |[],_=>V2 _
 |x::L,h=>by
  have b:=qyx (L:=L) λy a=>h y (Qk _ a);grind
theorem qxy(a:Int×Int):∀L:List (Int×Int),(L.map (val a)).sum=a.1*(L.map (·.1)).sum+a.2*(L.map (·.2)).sum
 |[]=>by simp
 |x::L=>by
  rw[Qq,Q3,qxy a L,Qq,Q3,Qq,Q3];unfold val;grind
theorem Crv.tot(C:Crv b D):(D.map (·.1)).sum=b/\(D.map (·.2)).sum=b:=by
 have a:=C.ex;have c:=C.ey;unfold sX at a;unfold sY at c;grind
section
variable{b c:Int}{D E:List (Int×Int)}{P:Int×Int->Int×Int}
theorem zii(C:Crv b D)(f:Crv c E)(h:Dom b D c E):∀{L:List (Int×Int)}{l:Int×Int},Opt P (l::L)->(E.map (psi P (l::L))).sum*b<=(D.map (psi P (l::L))).sum*c
 |[],l,_=>by
  have g:(E.map (psi P [l])).sum=(E.map (val (P l))).sum:=rfl;have i:(D.map (psi P [l])).sum=(D.map (val (P l))).sum:=rfl;rw[g,i,qxy,qxy,C.tot.1,C.tot.2,f.tot.1,f.tot.2];grind
 |e::L,l,o=>by
  obtain⟨_,_,j,k⟩:=o.two;have m:=zii C f h o.tail;have d:=h _ _ j k;have a:∀M:List (Int×Int),(M.map (psi P (l::e::L))).sum=qbx ((P e).1-(P l).1) ((P l).2-(P e).2) M+(M.map (psi P (e::L))).sum:=λM=>by
   unfold qbx;rw[<- zdn]
   congr 1
   refine Q9 λx _=>?_;rw[qjc,qru]
  rw[a,a,Jc,Jc];lia
theorem zug(C:Crv b D)(a:Crv c E)(h:Dom b D c E)(f:∀l∈E,φ l=val (P l) l)(m:∀x,∀l∈E,val (P l) x<=φ x):(E.map φ).sum*b<=(D.map φ).sum*c:=by
 have n:=C.b1;have p:=a.b1;have o:Opt P E:=⟨a.p,a.s,λl q k g=>by grind⟩
 have ne:=a.ne;cases E with
 |nil=>simp at ne
 |cons l L =>
  have i:((l::L).map φ).sum<=((l::L).map (psi P (l::L))).sum:=qyx λx d=>by
   rw[f x d];exact zrq P x _ x d
  have j:(D.map (psi P (l::L))).sum<=(D.map φ).sum:=qyx λx d=>by
   obtain⟨k,g,e⟩:=zqp (C.p x d) o;grind
  have r:=Qn i (show 0<=b by lia);have s:=Qn j (show 0<=c by lia);have:=zii C a h o;lia
end
structure Hmg(φ:Int×Int->Int):Prop where
 z:φ (0,0)=0
 h:∀x l,Stp1 x->Stp1 l->crs x l=0->φ x*(l.1+l.2)=φ l*(x.1+x.2)
theorem DOf.hom(m:Tab b R n)(h:DOf R n D)(H:Hmg φ):(((Qm n).map (qF R)).map φ).sum=(D.map φ).sum:=by
 have w:∀c∈qbn R n,Stp1 c:=λc g=>qmu m g;have s:∀x∈D,Stp1 x/\cls (qbn R n) x=x:=λx d=>by
  obtain⟨c,g,rfl⟩:=(h.m x).mp d;grind[zab,qtu,qkj]
 have a:=qqq φ D (qbn R n) w (λl o=>(s l o).1) (h.s.imp λ{a b} q z=>by grind[qT]) (λc g=>⟨_,(h.m _).mpr ⟨c,g,rfl⟩,by rw[qam,qkj];rfl⟩);rw[qhc φ (λc=>decide (0<c.1+c.2)) ((Qm n).map (qF R))];have f:((((Qm n).map (qF R)).filter λx => !decide (0<x.1+x.2)).map φ).sum=0:=by
  have:∀l:List (Int×Int),(∀x∈l,φ x=0)->(l.map φ).sum=0:=λl=>by
   induction l with
   |nil=>intro _;rfl
   |cons x l i=>grind
  refine this _ λx d=>?_;obtain⟨A,F⟩:=Ym.mp d;obtain⟨j,_,rfl⟩:=Ql.mp A;have G:0<=(qF R j).1:=qcx m.nn 0 j;have I:0<=(qF R j).2:=qcx m.nn 1 j;have : ¬ (0<(qF R j).1+(qF R j).2):=by grind
  have e:qF R j=(0,0):=Prod.ext (show(qF R j).1=0 by lia) (show(qF R j).2=0 by lia);rw[e];exact H.z
 rw[f,Qdb];show((qbn R n).map φ).sum=_;rw[<- a]
 congr 1
 refine Q9 λl o=>?_;obtain⟨t,u⟩:=s l o;have J:=t.p;have p:∀x∈(qbn R n).filter λx=>crs x l==0,Stp1 x/\crs x l=0:=λx d=>by
  grind
 have r:∀M:List (Int×Int),(∀x∈M,Stp1 x/\crs x l=0)->(M.map φ).sum*(l.1+l.2)=φ l*((M.map (·.1)).sum+(M.map (·.2)).sum):=λM=>by
  induction M with
  |nil=>intro _;simp
  |cons x M i =>
   intro v;have i:=i λy B=>v y (Qk _ B);obtain⟨C,E⟩:=v x (by simp);have d:=H.h x l C t E;rw[Qq,Q3,Qq,Q3,Qq,Q3,Jc,i,d];grind
 have k:=r _ p;have K:(((qbn R n).filter λx=>crs x l==0).map (·.1)).sum=l.1:=congrArg Prod.fst u;have L:(((qbn R n).filter λx=>crs x l==0).map (·.2)).sum=l.2:=congrArg Prod.snd u;grind[Zs]
def quh(b c:Nat->Int)(a:Nat)(x:Int×Int):Int:=qqc (λj=>b j*x.1+c j*x.2) a
theorem zhw(b c:Nat->Int)(a:Nat):Hmg (quh b c a):=by
 have one:∀x l:Int×Int,Stp1 x->Stp1 l->crs x l=0->quh b c a x*(l.1+l.2)<=quh b c a l*(x.1+x.2):=λx l d f h=>by
  obtain⟨j,g,e⟩:=qgs (λj=>b j*x.1+c j*x.2) a;have m:=qng (λj=>b j*l.1+c j*l.2) g;have k:=d.p;have i:(b j*x.1+c j*x.2)*(l.1+l.2)=(b j*l.1+c j*l.2)*(x.1+x.2):=by
   unfold crs at h;grind
  unfold quh;rw[e,i];exact Qn m (by lia)
 refine⟨?_,λx l d f h=>Qkz (one x l d f h) (one l x f d (by grind[qam]))⟩;obtain⟨j,_,e⟩:=qgs (λj=>b j*(0,(0:Int)).1+c j*((0:Int),(0:Int)).2) a;unfold quh;grind
section
variable{b c:Int}{R S:LL}{m n:Nat}{D E:List (Int×Int)}
theorem zcf(R:LL)(m:Nat)(p r:Int):qpm R [[0,-p],[0,r]] 2 m 1=qbx p r ((Qm m).map (qF R)):=by
 unfold qpm qbx;rw[Zj,qaz];refine qj λi _=>?_;have a:(qo 2 λs=>at2 R s i*at2 [[0,-p],[0,r]] s 0)=0:=by
  show 0+at2 R 0 i*0+at2 R 1 i*0=0;lia
 have b:(qo 2 λs=>at2 R s i*at2 [[0,-p],[0,r]] s 1)=vOf p r (qF R i):=by
  show 0+at2 R 0 i * -p+at2 R 1 i*r=r*at2 R 1 i-p*at2 R 0 i;grind
 show(if(qo 2 λs=>at2 R s i*at2 [[0,-p],[0,r]] s 0)<(qo 2 λs=>at2 R s i*at2 [[0,-p],[0,r]] s 1)then(qo 2 λs=>at2 R s i*at2 [[0,-p],[0,r]] s 1)else(qo 2 λs=>at2 R s i*at2 [[0,-p],[0,r]] s 0))=qlw (vOf p r (qF R i));rw[a,b];rfl
theorem qid(d:Tab b R m)(e:Tab c S n)(r2:R.length=2)(f:DOf R m D)(g:DOf S n E)(h:Dul b R m c S n B M):Dom b D c E:=λp r _ _=>by
 have i:=d.pos;have j:=e.pos;have:=h.best (Y:=[[0,-p],[0,r]]) (a:=1) (by lia) (by lia);rw[r2,zcf,zcf,f.bst d,g.bst e]at this;exact this
theorem zhl(o:Tab b R m)(p:Tab c S n)(r2:R.length=2)(z:S.length=2)(H:1<=n)(q:DOf R m D)(r:DOf S n E)(h:Dom b D c E)(w:Dcs b R m c S n W):False:=by
 have C:=q.crv o r2;have t:=r.crv p z;have I:=C.b1;have J:=t.b1;obtain⟨v,u,A⟩:=w.v;rw[r2]at u A;have two:∀f:Nat->Int,qo 2 f=f 0+f 1:=λf=>by
  show 0+f 0+f 1=f 0+f 1;lia
 obtain⟨a,ea⟩:∃a,n=a+1:=⟨n-1,by lia⟩
 obtain⟨P,hP⟩:∃P:Int×Int->Int×Int,∀x,(∃j,j<=a/\P x=(at2 W 0 j,at2 W 1 j))/\quh (at2 W 0) (at2 W 1) a x=val (P x) x:=by
  refine⟨λx=>(at2 W 0 (Qkn (qgs (λj=>at2 W 0 j*x.1+at2 W 1 j*x.2) a)),at2 W 1 (Qkn (qgs (λj=>at2 W 0 j*x.1+at2 W 1 j*x.2) a))),λx=>?_⟩;have:=Classical.choose_spec (qgs (λj=>at2 W 0 j*x.1+at2 W 1 j*x.2) a);exact⟨⟨_,this.1,rfl⟩,this.2⟩
 have B:∀x,∀l∈E,val (P l) x<=quh (at2 W 0) (at2 W 1) a x:=λx l _=>by
  obtain⟨⟨j,g,e⟩,_⟩:=hP l;rw[e];exact qng (λj=>at2 W 0 j*x.1+at2 W 1 j*x.2) g
 have d:=zug C t h (λl _=>(hP l).2) B;rw[<- q.hom o (zhw _ _ _),<- r.hom p (zhw _ _ _),Zj,Zj,qaz,qaz]at d;have y:(qo m λi=>quh (at2 W 0) (at2 W 1) a (qF R i))<=qo m λi => -(b*v i):=qfg λi F=>by
  obtain⟨j,g,e⟩:=qgs (λj=>at2 W 0 j*(qF R i).1+at2 W 1 j*(qF R i).2) a;have:=u i j F (by lia);rw[two]at this;unfold quh;rw[e];show at2 W 0 j*at2 R 0 i+at2 W 1 j*at2 R 1 i <= -(b*v i);grind
 have K:(qo 2 λs=>qo n λj=>at2 S s j*at2 W s j)<=qo n λj=>quh (at2 W 0) (at2 W 1) a (qF S j):=by
  rw[qkg];refine qfg λj g=>?_;have:=qng (λk=>at2 W 0 k*(qF S j).1+at2 W 1 k*(qF S j).2) (show j<=a by lia);rw[two];have e:at2 S 0 j*at2 W 0 j+at2 S 1 j*at2 W 1 j=at2 W 0 j*(qF S j).1+at2 W 1 j*(qF S j).2:=by
   rw[Zp,Zp (at2 S 1 j)];rfl
  rw[e];exact this
 have G:(qo m λi => -(b*v i)) = -(b*qo m v):=by
  rw[<- qy];have:=qy (-1) (λi=>b*v i) m;have e:(qo m λi => -(b*v i))=qo m λi => -1*(b*v i):=qj λi _=>by lia
  rw[e,this];lia
 rw[G]at y;have L:=Qn y (show 0<=c by lia);have M:=Z2 (show -(c*qo m v)<qo n λj=>quh (at2 W 0) (at2 W 1) a (qF S j) by lia) (show 0<b by lia);have N : -(c*qo m v)*b = -(b*qo m v)*c:=by grind
 have d:(qo n λj=>quh (at2 W 0) (at2 W 1) a (qF S j))*b<=(qo m λi=>quh (at2 W 0) (at2 W 1) a (qF R i))*c:=d;lia
theorem zda(D:List (Int×Int))(c:Int)(i:Nat):sX (D.map λx=>(x.1*c,x.2*c)) i=sX D i*c/\sY (D.map λx=>(x.1*c,x.2*c)) i=sY D i*c:=by
 grind[Q9,Zp,zqe]
theorem zmw(C:Crv b D)(a:Crv c E)(g:Dom b D c E)(h:Dom c E b D):(Qm (D.length+1)).map (crn b D)=(Qm (E.length+1)).map (crn c E):=by
 have j:=C.b1;have k:=a.b1;have e:=qsd j k C.p a.p C.s a.s (λp r d f=>Qkz (g p r d f) (h p r d f)) (by rw[C.tot.1,a.tot.1,Zp]);have l:D.length=E.length:=by have:=congrArg Qcu e;grind
 rw[l];refine Q9 λi _=>?_;have x:=zda D c i;have y:=zda E b i;rw[e]at x;unfold crn;grind[qii]
theorem zdb(C:Crv b D)(k:Crv c E)(l:D.length=E.length)(h:∀i,i<=E.length->crn b D i=crn c E i):∀i,i<=E.length -> ¬ zxa b D c E i:=λi m z=>by
 have q:=C.b1;have r:=k.b1;have e:=h i m;injection e with e;injection e with g d;injection d with d _;injection g with g;injection d with d;have a:∀{x y:Int},([Q8 (shT x b),.int (shB x b)]:List Qj)=[.int (shT y c),.int (shB y c)]->x*c=y*b:=λ{x y} e=>by
  injection e with j f;injection f with f _;injection j with j;injection f with f;obtain⟨n,s⟩:=qcc (t:=x) (b:=b) (by lia);obtain⟨u,o⟩:=qcc (t:=y) (b:=c) (by lia);have v:=n.pos;rw[<- j,<- f]at o;refine Zs (show shB x b≠0 by lia) ?_;grind
 have x:=a g;have y:=a d;have p:Cho b D (sX E i) c i i:=⟨Qs _,by lia,by unfold chF;lia,by unfold chF chW;grind⟩
 have:=z i i p;unfold chH chU at this;have w : ¬ 0<chW D c i i:=by unfold chW;grind
 rw[if_neg w,if_neg w,Qeg]at this;lia
end
section
variable{b f:Int}{R T:LL}{n k:Nat}{p:Array Nat}{Gs:List (List Nat)}
theorem zuy(d:Tab b R n)(f:R.length=2)(h:GrsOf R n Gs)(x:Int×Int):x∈(Qm Gs.length).map (qF (R.map (qcl Gs)))↔∃c∈qbn R n,x=cls (qbn R n) c:=by
 obtain⟨ok,pt⟩:=h.ok d;constructor
 ·intro k;obtain⟨l,a,rfl⟩:=Ql.mp k;have a:=Zi.mp a;have g:=Qc a;have j:=Qh g;obtain⟨i,u,m⟩:=Q1 (ok.ne _ j);have e:i∈Gs[l]:=by rw[m];simp
  have o:=((zhb d f h g e (ok.lt _ j i e)).mp e).1;exact⟨qF R i,Ym.mpr ⟨Ql.mpr ⟨i,Zi.mpr (ok.lt _ j i e),rfl⟩,by simpa using o⟩,zgs d f h g e⟩
 ·rintro⟨c,hc,rfl⟩;obtain⟨p,q⟩:=Ym.mp hc;obtain⟨s,r,rfl⟩:=Ql.mp p;obtain⟨G,t,g2⟩:=pt.all s (Zi.mp r) ((qto d f).mpr (by simpa using q));obtain⟨l,a⟩:=Jj.mp t;exact Ql.mpr ⟨l,Zi.mpr (Qp.mp a).1,zgs d f h a g2⟩
theorem qsv(o:Tab b R n)(q:R.length=2)(m:Frm b R n f T k)(v:PmN k p)(M:∀i j,i<j->j<k->stp (qF T (p.getD i 0)) (qF T (p.getD j 0))=true):
 ∃D,DOf R n D/\Crv b D/\D.length=k/\(Qm (k+1)).map (crn f (p.toList.map (qF T)))=(Qm (k+1)).map (crn b D):=by
  obtain⟨l,C,e⟩:=m.g;obtain⟨E,F⟩:=zbn e;obtain⟨ok,pt⟩:=C.ok o;have G:=xav o ok;have H:R.map (qcl l)≠[]:=λz=>by have:=congrArg Qcu z;simp at this;rw[this]at q;simp at q
  obtain⟨g,I,r,y⟩:=qut G H;rw[E]at r;rw[F]at y;have N:T≠[]:=λz=>by have:=m.len;rw[z,q]at this;simp at this
  have J:=G.gls H;rw[E,F]at J;have O:=Gls.wide N m.gls J;have P:T.length=2:=by rw[m.len,q]
  have f0:=m.gls.t.pos;have Q:=o.pos;have S:∀j,qF (R.map (qcl l)) j=(g*(qF T j).1,g*(qF T j).2):=λj=>by
   show(at2 (R.map (qcl l)) 0 j,at2 (R.map (qcl l)) 1 j)=(g*at2 T 0 j,g*at2 T 1 j);rw[y,y]
  have K:p.toList.map (qF (R.map (qcl l)))=(p.toList.map (qF T)).map λc=>(g*c.1,g*c.2):=by
   rw[Zj];exact Q9 λj _=>S j
  have U:=zzb v M;have L:(p.toList.map (qF (R.map (qcl l)))).Pairwise λa b=>stp a b=true:=by
   rw[K,List.pairwise_map];refine U.imp λ{a c} h=>?_;rw[qT]at h ⊢;show 0<g*a.2*(g*c.1)-g*c.2*(g*a.1);have:g*a.2*(g*c.1)-g*c.2*(g*a.1)=(g*g)*(a.2*c.1-c.2*a.1):=by grind
   rw[this];exact Za (Za I I) h
  have V:∀c∈qbn R n,Stp1 c:=λc A=>qmu o A;have B:(p.toList.map (qF (R.map (qcl l)))).length=k:=by rw[Qe,Z6,v.s]
  have s:DOf R n (p.toList.map (qF (R.map (qcl l)))):=⟨L,λx=>by
   rw[<- zuy o q C,<- O];exact(v.p.map (qF (R.map (qcl l)))).mem_iff⟩
  have w:=λi=>zqe K i;obtain⟨W,X⟩:=zjp m.gls.t P v;refine⟨_,s,⟨Q,λc A=>?_,L,?_,?_⟩,B,?_⟩
  ·obtain⟨d,Y,rfl⟩:=(s.m c).mp A;exact zab V Y
  ·rw[B,(w k).1,W,r]
  ·rw[B,(w k).2,X,r]
  ·refine Q9 λi _=>?_;unfold crn;rw[(w i).1,(w i).2];obtain⟨Z,a2⟩:=qii (t:=sX (p.toList.map (qF T)) i) (u:=g*sX (p.toList.map (qF T)) i) (b:=f) (c:=b) (by lia) (by lia) (by rw[<- r];grind);obtain⟨a3,a4⟩:=qii (t:=sY (p.toList.map (qF T)) i) (u:=g*sY (p.toList.map (qF T)) i) (b:=f) (c:=b) (by lia) (by lia) (by rw[<- r];grind);rw[Z,a2,a3,a4]
end
structure G2(b:Int)(R:LL)(n:Nat):Prop where
 t:Tab b R n
 l:R.length=2
 n1:1<=n
 n2:n<=12
 z:intBits b<=200
def qso(ds:List Qj)(q:Qj->Prop):Prop :=∃(b:Int)(R:LL)(n:Nat)(c:Int)(S:LL)(m:Nat),ds=[qU b R,qU c S]/\(G2 b R n/\G2 c S m) /\
 ∀D E d,DOf R n D->DOf S m E->(qbu d=true↔Dom b D c E)->q d
theorem qqo:FnScope [Sc,Sa,SW,"corner",So] [Sc,Sa] (defScope zqj):=sc0
theorem zwn(F:Def K mg "held" zqj [Sc,Sa])(T:Txt K mg cs)(B:Ok P w K mg base "below" 4 [Sc,Sa] (PSp K qtx))(l:Ok P w K mg base "curve" 6 [Sd] (qkq [cs.tb,cs.tb1] (FSp K qtw)))(r:Ok P w K mg base "line_at" 5 [SW,"x"] (PSp K qrm))(G:Ok P w K mg base "slope" 5 [So] (PSp K qtg))(g:Ok P w K mg base "height_on" 6 [So,"x"] (PSp K qmi))(o:Ok P w K mg base "two_acts" 1 [S4] (PSp K qon)):Ok P w K mg base "held" 7 [Sc,Sa] (qkq [cs.tb,cs.tb1] (PSp K qso)):=by
  refine F.tvok qqo (by rintro ds q ⟨_,_,_,_,_,_,h,_⟩;rw[h];rfl) λf cdv A outer s H E J U ds q h=>?_;obtain⟨b,R,n,c,S,m,rfl,⟨I,g2⟩,h⟩:=h;refine⟨_,(qg (qz (i:=2) qqo.nd (qC (qcp (l.t U) J.m (qd (qc 0) qe))))
   (qg (qau rfl (qV (qC (qcp (l.t U) J.m (qd (qc 1) qe)))) (ql (i:=3) qqo.nd) (qg (qz (i:=4) qqo.nd (qt r.c J.m (qd (qc 2) (qd (qr (qc 3) qf) qe))))
   (qh (qar (qbj (qt B.c J.m (qd (qt g.c J.m (qd (qc 4) (qd (qr (qc 3) qf) qe))) (qd (qr (qc 3) qf) qe)))) (qh (qw (qck (qd (qc 3) (qd (qt o.c J.m (qd (qt G.c J.m (qd (qc 4) qe)) qe)) qe))))) qE))))
   (qh (qw qdk)))),?_⟩
  refine⟨b,R,n,rfl,⟨I.t,I.l,I.n1,I.n2,I.z⟩,λf' T' k p fr hp hs=>?_⟩;obtain⟨D,hD,C,lD,eL⟩:=qsv I.t I.l fr hp hs;rw[eL];have kn:=fr.kn;refine⟨c,S,m,rfl,⟨g2.t,g2.l,g2.n1,g2.n2,g2.z⟩,λf2 T2 k2 p2 fr2 hp2 hs2=>?_⟩;obtain⟨v,hE,C2,lE,eL2⟩:=qsv g2.t g2.l fr2 hp2 hs2;rw[eL2];have h:=λd=>h D v d hD hE;have b1:=C.b1;have O:=C2.b1;have n12:=I.n2;have Y:=I.z;have V:=g2.z;obtain⟨L,eLL⟩:∃L,L=(Qm (k+1)).map (crn b D):=⟨_,rfl⟩
  rw[<- eLL];refine⟨λi e =>∃t3 t4,e=[.val (qU b R),.val (qU c S),.val (.list L),t3,t4] /\ ∀j,j<i -> ¬ zxa b D c v j,⟨.non,.non,rfl,λj z=>by lia⟩,?_,?_⟩
  ·rintro i x e W ⟨t3,t4,rfl,M⟩;rw[Qa]at W;cases ei:(Qm (k2+1))[i]? with
   |none=>rw[ei]at W;cases W
   |some i' =>
    rw[ei]at W;cases W;have Z:=(Qp.mp ei).1;rw[Z1]at Z;rw[Qo Z]at ei;cases ei;have Z:i<=v.length:=by lia
    obtain⟨⟨x0,x1⟩,y0,y1⟩:=C2.le Z;refine⟨_,rfl,b,D,sX v i,c,by rw[lD,eLL];rfl,⟨⟨C,by lia,Y⟩,O,x0,x1,V⟩,λa d Q d0 h1 h2=>?_⟩;have ml:=(Qp.mp Q).1;obtain⟨a1,a2⟩:=qgt Q;have l0:=C.le (Yq ml);have l1:=C.le (i:=a+1) ml;have pd:=(C.p d (Qh Q)).y;have X:1<=b/\sX D a<sX D (a+1)/\intBits b<=200/\(0<=sX D a/\sX D (a+1)<=b)/\0<=sY D a/\sY D a<=sY D (a+1)/\sY D (a+1)<=b:=⟨b1,by lia,Y,⟨by lia,by lia⟩,by lia,by lia,by lia⟩
    have w1:sX D (a+1)-sX D a=d.1:=by lia
    have w2:sY D (a+1)-sY D a=d.2:=by lia
    refine⟨_,rfl,b,sX D a,sY D a,sX D (a+1),sY D (a+1),sX v i,c,rfl,⟨X,⟨O,x0,x1,V⟩,h1⟩,?_⟩;rw[w1,w2];obtain⟨ch,eh,eu⟩:=zcq O Q d0 h1 h2;obtain⟨⟨n1,n2⟩,n3⟩:=ch.nn C O Y V;rw[eh]at n1 n2;rw[eu]at n3;have dc:0<d.1*c:=Za d0 (by lia);have mp:0<hgM b d c:=Za (by lia) dc;have zM:intBits (hgM b d c)<=600:=qp (Yv Y n3) (by decide);have s1:=(qcc (t:=hgN b D a d (sX v i) c) (b:=hgM b d c) (by lia)).1;have s2:=(qcc (t:=sY v i) (b:=c) (by lia)).1;have sd1:ShD (shT (hgN b D a d (sX v i) c) (hgM b d c)) (shB (hgN b D a d (sX v i) c) (hgM b d c)):=⟨s1,qp (m:=700) (qdr n2) (by decide),qp (qjb zM) (by decide)⟩
    have sd2:ShD (shT (sY v i) c) (shB (sY v i) c):=⟨s2,qp (qdr (qbi y0 y1 V)) (by decide),qp (qjb V) (by decide)⟩
    have lt:=zxq (t:=hgN b D a d (sX v i) c) (u:=sY v i) (b:=hgM b d c) (c:=c) mp (by lia);have iff:=ztz C O (E:=v) (i:=i) Q d0 h1 h2;refine⟨_,rfl,_,_,_,_,rfl,⟨sd1,sd2⟩,qjv (λN=>?_) (λno=>?_)⟩
    ·have N:=lt.mp N;refine⟨b,sX D a,sY D a,sX D (a+1),sY D (a+1),rfl,X,?_⟩;rw[w1,w2];exact⟨_,_,rfl,szl,h _ ⟨λz=>(by cases z),λdm=>(dm.no C O Q d0 N).elim⟩⟩
    ·refine⟨_,_,rfl,λj hj=>?_⟩;by_cases e:j=i
     ·subst e;exact λz=>no (lt.mpr (iff.mp z))
     ·exact M j (by lia)
  ·rintro e ⟨t3,t4,rfl,M⟩;rw[Qe,Z1]at M;exact h _ ⟨λ_=>qyv b1 C2 λi hi=>M i (by lia),λ_=>rfl⟩
def qxd(ds:List Qj)(q:Qj->Prop):Prop :=∃(d e:Qj)(a b:LI),ds=[d,e]/\(qbf d=some (a.map .int)/\qbf e=some (b.map .int)/\a.length<=900/\(∀x∈a,intBits x<=4000) /\ ∀y∈b,intBits y<=4000)/\q (.int (qoc a b))
theorem zkj:FnScope [Sc,Sa] [Sc,Sa] (defScope zci):=sc0
theorem zln(F:Def K mg "paired" zci [Sc,Sa])(T:Txt K mg cs):Ok P w K mg base "paired" 1 [Sc,Sa] (PSp K qxd):=by
  refine F.vok zkj (by rintro l q ⟨_,_,_,_,h,_⟩;rw[h];rfl) λf m A c s H E G l q h=>?_;obtain⟨d,e,a,b,rfl,⟨o,p,I,r,u⟩,h⟩:=h;refine⟨_,(qh (qw (qA (zec rfl) T.sum_ L2.boot_sum (qd (qC (qH (caps:=[]) (own:=[Sx,SF]) (ix:=[]) rfl ⟨rfl,rfl,rfl,rfl,rfl,rfl⟩ (qkh T.zip_ (qc 0) (qc 1)) (λ_ _ _ _=>(qff (n:=2) rfl (qJ (ql (i:=0) (show Zb ([Sx,SF]:List Str) by decide)) (qJ (ql (i:=1) (show Zb ([Sx,SF]:List Str) by decide)) qcn)))) (λ_ _ _ _=>(qx qR (qc 0) (qc 1))))) qe)))),?_⟩;refine qac o (qac p (qI ((J4 (· * ·) a b).map .int) (by simp[qdp]) (qm (by simp;lia)) (λe =>∃s t,e=[s,t]) ⟨_,_,rfl⟩ ?_ ?_))
  ·rintro i x J L v g ⟨s,t,rfl⟩;obtain⟨x,y,z,B,rfl⟩:=qhk v;obtain⟨x,rfl,C,j⟩:=qan z;obtain⟨y,rfl,D,k⟩:=qan B;refine⟨rfl,rfl,qcv (r x j) (u y k),qv ?_ g,_,_,rfl⟩;rw[Qa,zus C D];rfl
  ·exact⟨_,rfl,h⟩
def qju(ds:List Qj)(q:List Qj->Prop):Prop :=∃(d:Qj)(r:LI)(c:Int)(D:LL)(n:Nat),ds=[d,qU c D]/\(qbf d=some (r.map .int)/\D≠[]/\Tab c D n/\r.length<=900/\n<=900/\D.length<=900/\(∀x∈r,intBits x<=4000)/\intBits c<=4000) /\
 q (((Qm n).map λk=>qoc r (qO D k)).map .int)
theorem qvb:FnScope [Se,Sn] [Se,Sn] (defScope qlu):=sc0
theorem qub(F:Def K mg "passed_row" qlu [Se,Sn])(T:Txt K mg cs)(g:Ok P w K mg base SC 1 [Sd] (PSp K qba))(a:Ok P w K mg base Uc 1 [Sh,Sf] (FSp K qgz))(b:Ok P w K mg base "paired" 1 [Sc,Sa] (PSp K qxd)):Ok P w K mg base "passed_row" 2 [Se,Sn] (FSp K qju):=by
  refine F.vokF qvb (by rintro J q ⟨_,_,_,_,_,h,_⟩;rw[h];rfl) λf L A m s H E o J q h=>?_;obtain⟨d,r,c,D,n,rfl,⟨M,N,p,t,U,u,O,Q⟩,h⟩:=h;refine⟨_,(qh (qem (qH (caps:=[Se,Sn]) (own:=[Ss]) (ix:=[0,1]) rfl ⟨rfl,rfl,rfl,rfl,rfl,rfl⟩ (qS T.range_ (qt g.c o.m (qd (qc 1) qe))) (λ_ _ _ _=>(ql (i:=2) (show Zb ([Se,Sn,Ss]:List Str) by decide))) (λ_ _ _ _=>(qt b.c o.m (qd (qc 0) (qd (qC (qcp a.c o.m (qd (qr (qc 1) qf) (qd (qc 2) qe)))) qe))))))),?_⟩;obtain⟨l,v,rfl⟩:=Q1 N;have z:=p.len l (by simp);refine⟨c,l,v,rfl,⟨by lia,by lia⟩,?_⟩;refine qI (((Qm n).map λk=>qoc r (qO (l::v) k)).map .int) (by simp[qK,z]) (qm (by simp;lia)) (λe =>∃s,e=[.val d,.val (qU c (l::v)),s]) ⟨_,rfl⟩ ?_ ?_
  ·rintro i x V e R B ⟨s,rfl⟩;obtain⟨W,rfl⟩:=qag R;rw[Y5];have j:i<n:=by lia
   refine⟨_,rfl,_,_,i,rfl,⟨qjp _,u,λS C=>by rw[p.len S C];exact j⟩,?_⟩;refine⟨_,_,r,_,rfl,⟨M,rfl,t,O,λy G=>?_⟩,qv ?_ B,_,rfl⟩
   ·rcases qsk G with rfl|⟨X,I,G⟩
    ·decide
    ·exact p.bits Q I G
   ·rw[Qa,Qa,Qo j];rfl
  ·exact⟨_,rfl,h⟩
def qmh(ds:List Qj)(q:Qj->Prop):Prop :=∃(b:Int)(R:LL)(m:Nat)(c:Int)(D:LL)(n:Nat),ds=[qU b R,qU c D]/\PassPre b R m c D n/\q (zwy (b*c) (qcd R D n))
theorem qxj:FnScope ["table",Sn] ["table",Sn] (defScope qoq):=sc0
theorem qxk(F:Def K mg "passed_on" qoq ["table",Sn])(T:Txt K mg cs)(j:Ok P w K mg base SC 1 [Sd] (PSp K qba))(a:Ok P w K mg base SK 3 [Sb,Sh] (PSp K qbm))(d:Ok P w K mg base "passed_row" 2 [Se,Sn] (FSp K qju)):Ok P w K mg base "passed_on" 4 ["table",Sn] (PSp K qmh):=by
  refine F.vok qxj (by rintro ds q ⟨_,_,_,_,_,_,h,_⟩;rw[h];rfl) λf G A v s H E u ds q h=>?_;obtain⟨b,R,m,c,D,n,rfl,g,h⟩:=h;refine⟨_,(qg (qar (qN (zme u.units) (qt j.c u.m (qd (qc 0) qe)) (qA qdh T.len_ L2.boot_len (qd (qr (qc 1) qf) qe))) qbw qE)
   (qh (qw (qt a.c u.m (qd (qx qR (qr (qc 0) qf) (qr (qc 1) qf)) (qd (qC (qH (caps:=[Sn]) (own:=[Se]) (ix:=[1]) rfl ⟨rfl,rfl,rfl,rfl,rfl,rfl⟩ (qV (qr (qc 0) qf)) (λ_ _ _ _=>(ql (i:=1) (show Zb ([Sn,Se]:List Str) by decide))) (λ_ _ _ _=>(qC (qcp d.c u.m (qd (qc 1) (qd (qc 0) qe))))))) qe)))))),?_⟩
  have I:=g.l;have J:=g.m1;have y:=g.m2;have B:=g.rl;have l:=g.n2;have L:D≠[]:=λz=>by grind
  obtain⟨k,o,rfl⟩:=Q1 g.rn;have M:=g.r.len k (by simp);refine⟨b,k,o,rfl,_,rfl,rfl,rfl,qzx (λz=>?_) (λ_=>?_)⟩
  ·grind
  refine⟨_,rfl,_,rfl,qcv g.zb g.zc,_,rfl,?_⟩;refine qI (ds:=(k::o).map qfv) ((qcd (k::o) D n).map qci) (by simp[qcd]) (qm (by simp[qcd]at B ⊢;lia)) (λe =>∃s,e=[.val (qU c D),s]) ⟨_,rfl⟩ ?_ ?_
  ·rintro i x N e p C ⟨s,rfl⟩;rw[Qa]at p;cases hr':(k::o)[i]? with
   |none=>grind
   |some r =>
    rw[hr']at p;cases p;have t:=qdc hr';refine⟨_,r,c,D,n,rfl,⟨rfl,L,g.d,by rw[g.r.len r t];exact y,l,by lia,λx p=>g.r.bits g.zb t p,g.zc⟩,qv ?_ C,_,rfl⟩;unfold qcd;rw[Qa,Qa,hr'];rfl
  ·refine⟨b*c,_,qcd (k::o) D n,n,rfl,⟨qha _,g.r.prod g.d I,by simp[qcd],by grind[zpz],l,?_⟩,h⟩;exact qp (Yv g.zb g.zc) (by decide)
def qoa(ds:List Qj)(q:Qj->Prop):Prop :=∃(b:Int)(R:LL)(m:Nat)(c:Int)(D:LL)(n:Nat),ds=[qU b R,qU c D]/\PassPre b R m c D n/\q (zwy (b*c) (qcd R D n))
theorem zjb:FnScope [Sd,Sn] [Sd,Sn] (defScope zco):=sc0
theorem zjo(F:Def K mg "dulled" zco [Sd,Sn])(T:Txt K mg cs)(a:Ok P w K mg base "passed_on" 4 ["table",Sn] (PSp K qmh)):Ok P w K mg base "dulled" 5 [Sd,Sn] (PSp K qoa):=by
  refine F.vok zjb (by rintro e q ⟨_,_,_,_,_,_,h,_⟩;rw[h];rfl) λf g A d s H E i e q h=>?_;obtain⟨b,R,m,c,D,n,rfl,j,h⟩:=h;refine⟨_,(qh (qw (qt a.c i.m (qd (qc 0) (qd (qc 1) qe))))),?_⟩;exact⟨b,R,m,c,D,n,rfl,j,h⟩
def qvy(ds:List Qj)(q:List Qj->Prop):Prop :=∃(d:Qj)(r:LI)(k:Int),ds=[d,.int k]/\(qbf d=some (r.map .int)/\r.length<=900/\(∀x∈r,intBits x<=4000)/\intBits k<=4000)/\q ((r.map λx=>x*k).map .int)
theorem zky:FnScope [Se,S2] [Se,S2] (defScope zbw):=sc0
theorem zkv(F:Def K mg "scaled" zbw [Se,S2])(T:Txt K mg cs):Ok P w K mg base "scaled" 1 [Se,S2] (FSp K qvy):=by
  refine F.vokF zky (by rintro j q ⟨_,_,_,h,_⟩;rw[h];rfl) λf l A a s H E p j q h=>?_;obtain⟨d,r,k,rfl,⟨m,t,n,o⟩,h⟩:=h;refine⟨_,(qh (qem (qH (caps:=[S2]) (own:=[Sx]) (ix:=[1]) rfl ⟨rfl,rfl,rfl,rfl,rfl,rfl⟩ (qV (qc 0)) (λ_ _ _ _=>(ql (i:=1) (show Zb ([S2,Sx]:List Str) by decide))) (λ_ _ _ _=>(qx qR (qc 1) (qc 0)))))),?_⟩;refine qac m (qI ((r.map λx=>x*k).map .int) (by simp) (qm (by simp;omega)) (λe =>∃s,e=[.val (.int k),s]) ⟨_,rfl⟩ ?_ ?_)
  ·rintro i x u v b c ⟨s,rfl⟩;obtain⟨x,rfl,b,g⟩:=qan b;refine⟨qcv (n x g) o,qv ?_ c,_,rfl⟩;rw[Qa,Qa,b];rfl
  ·exact⟨_,rfl,h⟩
def qmc(ds:List Qj)(q:List Qj->Prop):Prop :=∃(d e:Qj)(r s:LI),ds=[d,e]/\(qbf d=some (r.map .int)/\qbf e=some (s.map .int)/\s.length<=900/\r.length*s.length<=900/\(∀x∈r,intBits x<=4000) /\ ∀y∈s,intBits y<=4000)/\q ((qkk r s).map .int)
theorem qhn:FnScope [Se,SF,"both",Sx] [Se,SF] (defScope qop):=sc0
theorem qxo(F:Def K mg "both_seen" qop [Se,SF])(T:Txt K mg cs)(a:Ok P w K mg base "scaled" 1 [Se,S2] (FSp K qvy)):Ok P w K mg base "both_seen" 2 [Se,SF] (FSp K qmc):=by
  refine F.vokF qhn (by rintro k q ⟨_,_,_,_,h,_⟩;rw[h];rfl) λf m A c s H E n k q h=>?_;obtain⟨d,e,r,s,rfl,⟨o,he,p,B,u,v⟩,h⟩:=h;refine⟨_,(qg (qfm (i:=2) qhn.nd (qbp qe))
   (qg (qau rfl (qV (qc 0)) (ql (i:=3) qhn.nd) (qh (qns 2 (qcp a.c n.m (qd (qc 1) (qd (qc 3) qe))))))
   (qh (qgv 2)))),?_⟩
  refine⟨szl,qac o ⟨λi g =>∃t l,g=[.val d,.val e,.own l,t]/\l=(qkk (r.take i) s).map .int,⟨_,_,rfl,rfl⟩,?_,?_⟩⟩
  ·rintro i x g b ⟨t,l,rfl,rfl⟩;obtain⟨x,rfl,b,j⟩:=qan b;refine⟨rfl,_,s,x,rfl,⟨he,p,v,u x j⟩,rfl,?_,_,_,rfl,?_⟩
   ·show(Qmg Q8 _).length+(Qmg Q8 _).length<=_;have y:=(Qp.mp b).1;have z:(i+1)*s.length<=r.length*s.length:=Qbb _ y;rw[Qe,Qe,qya,Qe,Vm,Vy (by lia)];rw[Qgt]at z;exact qcg (by lia)
   ·rw[qfh b,znj,Zo];rfl
  ·rintro g ⟨t,l,rfl,rfl⟩;rw[Qe,Zm];exact⟨_,rfl,h⟩
def qbo(ds:List Qj)(q:Qj->Prop):Prop :=∃b R c S,ds=[qU b R,qU c S]/\R.length=S.length/\q .none
theorem qib:FnScope [Sc,Sa] [Sc,Sa] (defScope qea):=sc0
theorem qia(F:Def K mg SO qea [Sc,Sa])(T:Txt K mg cs)(a:Ok P w K mg base "stands" 1 [Sd] (PSp K qjl)):Ok P w K mg base SO 2 [Sc,Sa] (PSp K qbo):=by
  refine F.vok qib (by rintro g q ⟨_,_,_,_,h,_⟩;rw[h];rfl) λf i A d s H E e g q h=>?_;obtain⟨b,R,c,S,rfl,j,h⟩:=h;refine⟨_,(qh (qar (qN (zme e.units) (qt a.c e.m (qd (qc 0) qe)) (qt a.c e.m (qd (qc 1) qe))) qbw qE)),?_⟩;refine⟨b,R,rfl,c,S,rfl,rfl,rfl,qzx (λz=>?_) (λ_=>h)⟩;grind
def qdm(ds:List Qj)(q:Qj->Prop):Prop :=∃k:Int,ds=[.int k]/\k<=12/\q .none
theorem qhz:FnScope [Sg] [Sg] (defScope qee):=sc0
theorem qic(F:Def K mg SZ qee [Sg])(T:Txt K mg cs):Ok P w K mg base SZ 1 [Sg] (PSp K qdm):=by
  refine F.vok qhz (by rintro b q ⟨_,h,_⟩;rw[h];rfl) λf c A a s H E d b q h=>?_;obtain⟨k,rfl,e,h⟩:=h;refine⟨_,(qh (qar (qN zeb (qc 0) (qdo T.MOST_SIGNS_)) qbw qE)),?_⟩;exact qjv (λz=>by lia) (λ_=>h)
theorem qmo{R:LL}{i:Nat}{f:LI->Qj}(h:(R.map f)[i]?=some x):∃r,R[i]?=some r/\x=f r:=by
 grind
theorem zdo{c d e:Type}{g:c->d->e}{a:List c}{b:List d}{i:Nat}{x:c}{y:d}(f:a[i]?=some x)(h:b[i]?=some y):(J4 g a b)[i]?=some (g x y):=by
 rw[Ji,f,h]
def qvs(ds:List Qj)(q:Qj->Prop):Prop :=∃(b:Int)(R:LL)(m:Nat)(c:Int)(S:LL)(n:Nat),ds=[qU b R,qU c S]/\BesPre b R m c S n/\q (zwy (b*c) (qje R S))
theorem qwx:FnScope [Sc,Sa,Sh] [Sc,Sa] (defScope zbu):=sc0
theorem zkl(F:Def K mg "beside" zbu [Sc,Sa])(T:Txt K mg cs)(l:Ok P w K mg base SC 1 [Sd] (PSp K qba))(g:Ok P w K mg base SK 3 [Sb,Sh] (PSp K qbm))(k:Ok P w K mg base "both_seen" 2 [Se,SF] (FSp K qmc))(a:Ok P w K mg base SO 2 [Sc,Sa] (PSp K qbo))(d:Ok P w K mg base SZ 1 [Sg] (PSp K qdm)):Ok P w K mg base "beside" 4 [Sc,Sa] (PSp K qvs):=by
  refine F.vok qwx (by rintro V q ⟨_,_,_,_,_,_,h,_⟩;rw[h];rfl) λf W A C s H E p V q h=>?_;obtain⟨b,R,m,c,S,n,rfl,j,h⟩:=h;refine⟨_,(qg (qdv (qt a.c p.m (qd (qc 0) (qd (qc 1) qe))))
   (qg (qdv (qt d.c p.m (qd (qx qR (qt l.c p.m (qd (qc 0) qe)) (qt l.c p.m (qd (qc 1) qe))) qe)))
   (qg (qza (caps:=[]) (own:=[Se,SF]) (ix:=[]) (i:=2) qwx.nd rfl ⟨rfl,rfl,rfl,rfl,rfl,rfl⟩ (qkh T.zip_ (qr (qc 0) qf) (qr (qc 1) qf)) (λ_ _ _ _=>(qff (n:=2) rfl (qJ (ql (i:=0) (show Zb ([Se,SF]:List Str) by decide)) (qJ (ql (i:=1) (show Zb ([Se,SF]:List Str) by decide)) qcn)))) (λ_ _ _ _=>(qC (qcp k.c p.m (qd (qc 0) (qd (qc 1) qe))))))
   (qh (qw (qt g.c p.m (qd (qx qR (qr (qc 0) qf) (qr (qc 1) qf)) (qd (qc 2) qe)))))))),?_⟩
  have D:=j.l;have r1:=j.r1;have r2:=j.r2;have X:=j.mn;obtain⟨B,Y,J⟩:=Q1 (show R≠[] from λz=>by grind);obtain⟨G,Z,L⟩:=Q1 (show S≠[] from λz=>by grind);have l1:=j.r.len B (by rw[J];simp);have l2:=j.s.len G (by rw[L];simp);refine⟨b,R,c,S,rfl,D,b,B,Y,by rw[J],c,G,Z,by rw[L],?_⟩;have u:((B.length:Nat):Int)*((G.length:Nat):Int)<=12:=by
   grind
  have o:intBits ((B.length:Nat):Int)<=64:=qbr (by lia) (by
   have:=j.n1;have:=j.m1;lia)
  refine⟨V3 o,_,rfl,u,_,rfl,_,rfl,?_⟩;refine qI ((qje R S).map qci) (by simp[qdp,qje]) (qm (by grind[Qe,qrf])) (λe =>∃s t,e=[s,t]) ⟨_,_,rfl⟩ ?_ ?_
  ·rintro i x ys e v I ⟨s,t,rfl⟩;obtain⟨x,y,h3,h4,rfl⟩:=qhk v;obtain⟨r,M,rfl⟩:=qmo h3;obtain⟨N,O,rfl⟩:=qmo h4;have Q:=qdc M;have U:=qdc O;have k5:=j.r.len r Q;have k6:=j.s.len N U;have kn:=j.n1;refine⟨rfl,rfl,_,_,r,N,rfl,⟨rfl,rfl,by lia,by grind,λx v=>j.r.bits j.zb Q v,λx v=>j.s.bits j.zc U v⟩,qv ?_ I,_,_,rfl⟩;unfold qje;rw[Qa,zdo M O];rfl
  ·refine⟨_,rfl,_,rfl,qcv j.zb j.zc,_,_,_,m*n,rfl,⟨qha _,j.r.bes j.s,?_,by rw[qrf D];lia,by lia,qp (Yv j.zb j.zc) (by decide)⟩,h⟩;intro z;have:=congrArg Qcu z;rw[qrf D,Qao]at this;lia
def qgf(ds:List Qj)(q:List Qj->Prop):Prop :=∃b at' a,ds=[.list (b.map .int),.int at',.list (a.map .int)]/\DrawnPre b at' a /\ ∀c,Bnd a c->q (c.map .int)
theorem qY:FnScope [Si,Sr,SL,"_law_cell","_law_found","_law_top","_law_first","_law_k","_law_second"] [Si,Sr,SL] (defScope qlt):=sc0
theorem que(F:Def K mg Ud qlt [Si,Sr,SL])(T:Txt K mg cs):Ok P w K mg base Ud 1 [Si,Sr,SL] (FSp K qgf):=by
  refine F.vokF qY (by rintro M q ⟨_,_,_,h,_⟩;rw[h];rfl) λf N A y s H E O M q h=>?_;obtain⟨ns,at',p,rfl,⟨B,r,G,Q⟩,k⟩:=h;refine⟨_,(qg (qz (i:=3) qY.nd qf)
   (qqr (qar (qN zes (qc 1) (qA qdh T.len_ L2.boot_len (qd (qc 0) qe))) (qh (qz (i:=3) qY.nd (qr (qc 0) (qc 1)))) qE)
   (qg (qfm (i:=4) qY.nd (qbp qe))
   (qg (qar (qN (qni O.units) (qx qkz (qr (qC (qpu (qc 0) (qC (qbp (qd qf qe))))) qf) qf) qf) (qg (qau rfl (qV (qc 2)) (ql (i:=5) qY.nd) (qg (qef 4 (qx qkz (qc 3) (qc 5)))
   (qh (qz (i:=3) qY.nd (qx qjo (qc 3) (qc 5))))))
   (qh (qgv 4))) qE)
   (qg (qz (i:=6) qY.nd (qx qdn (qx qkz (qx qdn (qc 3) (qx qR qf (qc 1))) qf) qf))
   (qg (qau rfl (qnb T.enumerate_ (qc 2)) (qff (n:=2) rfl (qJ (ql (i:=7) qY.nd) (qJ (ql (i:=5) qY.nd) qcn))) (qg (qz (i:=6) qY.nd (qx qkz (qx qdn (qx qR (qc 6) qf) (qc 7)) qf))
   (qg (qz (i:=8) qY.nd (qx qkz (qx qdn (qx qdn (qx qR (qc 6) (qc 6)) (qx qR qf (qc 6))) (qc 1)) qf))
   (qh (qef 4 (qx qkz (qx qjo (qx qkz (qx qdn (qx qR (qc 8) qf) (qc 6)) qf) qf) (qc 5)))))))
   (qh (qgv 4)))))))),?_⟩
  refine⟨λe =>∃c:Int,e=[.val (.list (ns.map .int)),.val (.int at'),.val (.list (p.map .int)),.val (.int c),.non,.non,.non,.non,.non],?_,?_⟩
  ·refine qjv (λh=>?_) (λh=>⟨0,rfl⟩);obtain⟨n,u⟩:=zdd (ns:=ns) B (by simpa using h);exact⟨_,u,n,rfl⟩
  ·rintro e ⟨c,rfl⟩;obtain⟨n,u⟩:=zdd (ns:=ns++[0]) (i:=0) (by decide) (by simp);rw[Zo]at u;refine⟨by decide,by decide,by rw[Qe];exact Yq (qm (by simp;lia)),_,u,by decide,rfl,rfl,?_⟩;refine qif (λ_=>?_) (λ_=>?_)
   ·refine⟨λi e =>∃(c:Int)(t C g j:Sl)(a:LI)(l:List Qj),e=[.val (.list (ns.map .int)),.val (.int at'),.val (.list (p.map .int)),.val (.int c),.own l,t,C,g,j]/\l=a.map .int/\Bnd (p.take i) a,
     ⟨c,_,_,_,_,[],_,rfl,rfl,rfl⟩,?_,?_⟩
    ·rintro i d e D ⟨c,t,C,g,j,a,l,rfl,rfl,b⟩;obtain⟨z,rfl,m,o⟩:=qan D;obtain⟨v,I⟩:=r z o;refine⟨rfl,v,rfl,zru b G,⟨v,I⟩,c/z,_,_,_,_,a++[c%z],_,rfl,qnq _ _,?_⟩
     ·rw[qfh m];exact b.snoc (Qgr _ (by lia)) (Qem _ (by lia))
    ·rintro e ⟨c,t,C,g,j,a,l,rfl,rfl,b⟩;rw[Qe,Zm]at b;exact⟨_,rfl,k a b⟩
   ·refine⟨V3 (by decide),by decide,?_⟩;have J:0<=(c+48271*at')%2147483647+1/\(c+48271*at')%2147483647+1<=2147483647:=by lia
    refine⟨λi e =>∃(c f:Int)(t g j:Sl)(a:LI)(l:List Qj),e=[.val (.list (ns.map .int)),.val (.int at'),.val (.list (p.map .int)),.val (.int c),.own l,t,.val (.int f),g,j]/\l=a.map .int/\0<=f/\f<=2147483647/\Bnd (p.take i) a,
     ⟨c,_,_,_,_,[],_,rfl,rfl,J.1,J.2,rfl⟩,?_,?_⟩
    ·rintro i d e D ⟨c,f,t,g,j,a,l,rfl,rfl,R,S,b⟩;obtain⟨x,U,rfl⟩:=qgy D;obtain⟨z,rfl,m,o⟩:=qan U;obtain⟨v,I⟩:=r z o;have L:0<=(f*48271+(i:Int))%2147483647/\(f*48271+(i:Int))%2147483647<=2147483647:=by lia
     refine⟨rfl,rfl,?_⟩;refine⟨Jy (by decide),by decide,V3 (qbr (by lia) (by lia)),V3 (by decide),by decide,rfl,Jy (by decide),by decide,⟨by decide,by decide⟩,v,rfl,zru b G,?_⟩;refine⟨c,_,_,_,_,a++[((((((f*48271+(i:Int))%2147483647)*((f*48271+(i:Int))%2147483647)+69621*((f*48271+(i:Int))%2147483647)+at')%2147483629)*40692+((f*48271+(i:Int))%2147483647))%2147483399/7)%z],_,rfl,qnq _ _,L.1,L.2,?_⟩
     ·rw[qfh m];exact b.snoc (Qgr _ (by lia)) (Qem _ (by lia))
    ·rintro e ⟨c,f,t,g,j,a,l,rfl,rfl,R,S,b⟩;rw[qdd,Qe,Zm]at b;exact⟨_,rfl,k a b⟩
def qfa:DC
 |[.int a,.int b],q=>(0<=a/\0<=b)/\q (.int (Yy a b))
 |_,_=>False
theorem qdi:FnScope [SA,Sv,"_law_rest"] [SA,Sv] (defScope qjy):=sc0
theorem qqk(F:Def K mg "_law_common" qjy [SA,Sv])(T:Txt K mg cs):Ok P w K mg base "_law_common" 1 [SA,Sv] (PSp K qfa):=by
  refine F.vok qdi (λd q h=>by unfold qfa at h;split at h;all_goals first|rfl|exact h.elim) λf l A c s H E v d q h=>?_
  match d,h with
  |[.int a,.int b],⟨⟨n,o⟩,h⟩ =>
  refine⟨_,(qg (zcn (qN zeb (qc 1) qf) (qg (qz (i:=2) qdi.nd (qx qkz (qc 0) (qc 1)))
   (qg (qz (i:=0) qdi.nd (qc 1))
   (qh (qz (i:=1) qdi.nd (qc 2))))))
   (qh (qw (qc 0)))),?_⟩
  refine⟨λm e =>∃x y r,e=[.val (.int x),.val (.int y),r]/\0<=x/\0<=y/\Qjg x.toNat y.toNat=Yy a b/\m=y.toNat,⟨_,_,_,_,rfl,n,o,?_,rfl⟩,?_⟩
  ·have:=qwa a b
   rwa [if_neg (by lia),if_neg (by lia)]at this
  rintro m e ⟨x,y,r,rfl,g,j,k,rfl⟩;refine qjv (λp=>?_) (λhe=>?_)
  ·obtain⟨t,z,u⟩:=zcd g j (by lia) k;exact⟨by lia,(x%y).toNat,by lia,y,x%y,_,rfl,j,t,u,rfl⟩
  ·have:=zgt g (show y=0 by lia) k;rw[this];exact h
def qmf(ds:List Qj)(q:Qj->Prop):Prop :=∃(b:Int)(d:Qj)(R:LL)(n:Nat),ds=[.int b,d]/\(RowsD d R/\Tab b R n/\R≠[]/\R.length<=900/\n<=900/\intBits b<=9000)/\q (qU (b/qaa R) (qbt R (qaa R)))
theorem bits_dvd'(a:0<b)(h:g∣b)(hz:intBits b<=m):intBits g<=m:=by
 refine Ys ?_ hz;exact Qau (by omega) (Vc.mpr h)
theorem qbk:FnScope [Sq,Sz,"_law_factor","_law_row","_law_number","_law_found"] [Sq,Sz] (defScope qof):=sc0
theorem qxp(F:Def K mg "_law_made" qof [Sq,Sz])(T:Txt K mg cs)(a:Ok P w K mg base "_law_common" 1 [SA,Sv] (PSp K qfa)):Ok P w K mg base "_law_made" 2 [Sq,Sz] (PSp K qmf):=by
  refine F.vok qbk (by rintro M q ⟨_,_,_,_,h,_⟩;rw[h];rfl) λf N A u s H E k M q h=>?_;obtain⟨b,d,R,n,rfl,⟨o,p,J,U,O,t⟩,h⟩:=h;refine⟨_,(qg (qz (i:=2) qbk.nd qf)
   (qg (qau rfl (qV (qc 1)) (ql (i:=3) qbk.nd) (qh (qau rfl (qV (qc 3)) (ql (i:=4) qbk.nd) (qh (qz (i:=2) qbk.nd (qt a.c k.m (qd (qc 4) (qd (qc 2) qe))))))))
   (qg (qfm (i:=5) qbk.nd (qbp qe))
   (qg (qau rfl (qV (qc 1)) (ql (i:=3) qbk.nd) (qh (qef 5 (qch qfq T.tuple_ L2.boot_tuple (qd (qC (qH (caps:=["_law_factor"]) (own:=["_law_number"]) (ix:=[2]) rfl ⟨rfl,rfl,rfl,rfl,rfl,rfl⟩ (qV (qc 3)) (λ_ _ _ _=>(ql (i:=1) (show Zb (["_law_factor","_law_number"]:List Str) by decide))) (λ_ _ _ _=>(qx qjo (qc 1) (qc 0))))) qe)))))
   (quz 5 (qh (qw (qck (qd (qx qjo (qc 0) (qc 2)) (qd (qch qfq T.tuple_ L2.boot_tuple (qd (qc 5) qe)) qe)))))))))),?_⟩
  have V:=p.gpos J;have L:=bits_dvd' (by have:=p.pos;lia) (p.gdvd J) t;obtain⟨l,e,_⟩:=id o;refine qac e ⟨λi e =>∃m g c,e=[.val (.int b),.val d,.val (.int c),m,g,.non]/\c=(qaa (R.take i):Int),⟨_,_,_,rfl,rfl⟩,?_,?_⟩
  ·rintro i x v B ⟨m,g,_,rfl,rfl⟩;obtain⟨r,k,C⟩:=o.get e B;refine qac C ⟨λj e =>∃g c,e=[.val (.int b),.val d,.val (.int c),.val x,g,.non]/\c=(qaq (qaa (R.take i)) (r.take j):Int),⟨_,_,rfl,rfl⟩,?_,?_⟩
   ·rintro j y e D ⟨g,_,rfl,rfl⟩;obtain⟨z,rfl,t,G⟩:=qan D;refine⟨⟨p.nn r (qdc k) z G,by lia⟩,_,_,rfl,?_⟩;rw[qfh t,qnz,Int.gcd_comm]
   ·rintro e ⟨g,_,rfl,rfl⟩;refine⟨_,_,_,rfl,?_⟩;rw[Qe,Zm,Z0,k];show _=((qaa (R.take i++[r]):Nat):Int);rw[qsr]
  ·rintro v ⟨m,g,_,rfl,rfl⟩;rw[o.len e,Zm];refine⟨szl,qac e ⟨λi e =>∃m g l,e=[.val (.int b),.val d,.val (.int (qaa R)),m,g,.own l]/\l=((qbt R (qaa R)).take i).map qfv,⟨_,_,_,rfl,rfl⟩,?_,?_⟩⟩
   ·rintro i x v B ⟨m,g,_,rfl,rfl⟩;obtain⟨r,k,C⟩:=o.get e B;refine⟨rfl,qac C (qI ((r.map λn=>n/(qaa R:Int)).map .int) (by simp) (qm (by simp;have:=p.len r (qdc k);lia)) (λe =>∃s,e=[.val (.int (qaa R)),s]) ⟨_,rfl⟩ ?_ ⟨rfl,?_,?_⟩)⟩
    ·rintro j y W e D I ⟨s,rfl⟩;obtain⟨z,rfl,t,_⟩:=qan D;refine⟨⟨by lia,L⟩,qv ?_ I,_,rfl⟩;rw[Qa,Qa,t];rfl
    ·show(Qmg qfv _).length<_;rw[Qe];refine qm (Zq (Qhp _ _) ?_);unfold qbt;rw[Qe];lia
    ·refine⟨_,_,_,rfl,?_⟩;have Q:(qbt R (qaa R))[i]?=some (r.map λn=>n/(qaa R:Int)):=by unfold qbt;rw[Qa,k];rfl
     rw[Z0,Q];simp only[Option.toList_some,Zo,Qq,J3];rfl
   ·rintro v ⟨m,g,_,rfl,rfl⟩;have S:l.length=(qbt R (qaa R)).length:=by unfold qbt;rw[Qe];exact o.len e
    rw[S,Zm];exact⟨⟨by lia,L⟩,szl,h⟩
def qos(ds:List Qj)(q:List Qj->Prop):Prop :=∃(b:Int)(a:LI),ds=[.int b,.list (a.map .int)]/\(0<=b/\a.length<64 /\ ∀c∈a,0<=c/\c<=b) /\ ∀r:LI,(r.length=a.length+1/\(∀x∈r,0<=x)/\r.sum=b)->q (r.map .int)
theorem zah{cs:LI}(a:cs.Pairwise (· <= ·))(b:cs[i]?=some c)(d:∀j,j+1=i->cs[j]?=some l)(e:i=0->l<=c):l<=c:=by
 cases i with
 |zero=>exact e rfl
 |succ j =>
  have f:=d j rfl;obtain⟨g,h⟩:=Qp.mp f;obtain⟨k,m⟩:=Qp.mp b;rw[<- h,<- m];exact Z8.mp a j (j+1) g k (by lia)
theorem qeh:FnScope [Sq,SS,"_law_row","_law_last","_law_cut_here"] [Sq,SS] (defScope qrx):=sc0
theorem zaq(F:Def K mg "_law_cut" qrx [Sq,SS])(T:Txt K mg cs):Ok P w K mg base "_law_cut" 1 [Sq,SS] (FSp K qos):=by
  refine F.vokF qeh (by rintro J q ⟨_,_,h,_⟩;rw[h];rfl) λf L A u s H E p J q h=>?_;obtain⟨b,cs,rfl,⟨v,M,z⟩,k⟩:=h;refine⟨_,(qg (qfm (i:=2) qeh.nd (qbp qe))
   (qg (qz (i:=3) qeh.nd qf)
   (qg (qau rfl (qV (qC (qpu (qC (zob zpi T.sorted_ L2.boot_sorted (qd (qc 1) qe))) (qC (qbp (qd (qc 0) qe)))))) (ql (i:=4) qeh.nd) (qg (qef 2 (qx zly (qc 4) (qc 3)))
   (qh (qz (i:=3) qeh.nd (qc 4)))))
   (qh (qgv 2))))),?_⟩
  refine⟨szl,cs,rfl,M,λn B N=>⟨szl,?_,?_⟩⟩
  ·have:=B.length_eq;simp only[Qe,Zg,Qao];exact qcg (by lia)
  have I:∀c∈n,0<=c/\c<=b:=λc O=>z c (B.mem_iff.mp O);have Q:=B.length_eq;have R:n.map Q8++[Q8 b]=(n++[b]).map Q8:=by simp
  have S:(n++[b]).Pairwise (· <= ·):=List.pairwise_append.mpr ⟨N,by simp,λx o y U=>by rw[Q6.mp U];exact(I x o).2⟩;rw[R];refine⟨λi e =>∃(last:Int)(t:Sl)(r:LI)(l:List Qj),e=[.val (.int b),.val (.list (cs.map .int)),.own l,.val (.int last),t]/\l=r.map .int/\r.length=i/\(∀x∈r,0<=x)/\r.sum=last/\((i=0/\last=0) \/ ∃j,i=j+1/\(n++[b])[j]?=some last),
   ⟨0,_,[],_,rfl,rfl,rfl,by simp,rfl,.inl ⟨rfl,rfl⟩⟩,?_,?_⟩
  ·rintro i d e V ⟨last,t,r,l,rfl,rfl,p,o,g,a⟩;obtain⟨c,rfl,m,C⟩:=qan V;have W:last<=c:=by
    rcases a with⟨rfl,rfl⟩|⟨j,rfl,D⟩
    ·rcases Zh.mp C with h|h
     ·exact(I c h).1
     ·rw[Q6.mp h];exact v
    ·exact zah S m (λX h=>(show X=j by lia)▸D) (λh=>by lia)
   refine⟨rfl,rfl,?_,c,_,r++[c-last],_,rfl,qnq _ _,by simp[p],λx G=>?_,by simp[g];lia,.inr ⟨i,rfl,m⟩⟩
   ·have:=(Qp.mp m).1;simp only[Y2,Zg,Qao]at this;show(r.map Q8).length<_;rw[Qe];exact qm (by lia)
   ·rcases Zh.mp G with h|h
    ·exact o x h
    ·rw[Q6.mp h];lia
  ·rintro e ⟨last,t,r,l,rfl,rfl,p,o,g,a⟩;refine⟨_,rfl,k r ⟨?_,o,?_⟩⟩
   ·simpa[Q]using p
   ·rw[g];rcases a with⟨h,_⟩|⟨j,h,D⟩
    ·simp at h
    ·have e:j=n.length:=by simp at h;lia
     subst e;simpa using D.symm
theorem qqw(h:0<=v):HT.sIx n d (some v)=min v.toNat n:=by
 show(if v<0 then _ else _)=_;rw[if_neg (by lia)]
theorem ztn(l:List α)(h:0<=i):qrl l (some i) none=l.drop i.toNat:=by
 unfold qrl;rw[qqw h,HT.sIx_none];by_cases a:i.toNat<=l.length
 ·rw[Vy a,Ya (by simp)]
 ·rw[Qdl (by lia),Qag (Qs _),Qag (by lia)];simp
theorem zxu(l:List α)(h:0<=j):qrl l none (some j)=l.take j.toNat:=by
 unfold qrl;rw[qqw h,HT.sIx_none,List.drop_zero,Nat.sub_zero];grind
theorem zhe(l:List α)(h:0<=i)(c:i<=j):qrl l (some i) (some j)=(l.drop i.toNat).take (j-i).toNat:=by
 unfold qrl;rw[qqw h,qqw (by lia)];by_cases a:i.toNat<=l.length
 ·rw[Vy a];by_cases b:j.toNat<=l.length
  ·rw[Vy b];congr 1;lia
  ·rw[Qdl (by lia),Ya (by simp),Ya (by simp;lia)]
 ·rw[Qdl (by lia),Qdl (by lia),Qag (Qs _),Qag (by lia)];simp
theorem zvw(k:Nat)(z:Int):(Zf k [Q8 z]).flatten=(Zf k z).map Q8:=by
 induction k with
 |zero=>rfl
 |succ k a=>grind
theorem Bnd.app:∀{a ws xs:LI},Bnd (a++ws) xs->Bnd ws (xs.drop a.length)
 |[],ws,xs,h=>by simpa using h
 |z::a,ws,xs,h=>by
  obtain⟨x,r,rfl,_,_,h⟩:=h;simpa using Bnd.app h
theorem Bnd.rep:∀{k:Nat}{z:Int}{xs:LI},Bnd (Zf k z) xs->xs.length=k /\ ∀x∈xs,0<=x/\x<z
 |0,z,xs,h=>by
  have e:=h;subst e;simp
 |k+1,z,xs,h=>by
  rw[Va]at h;obtain⟨x,r,rfl,a,b,h⟩:=h;obtain⟨e,g⟩:=h.rep;grind
def qmj(ds:List Qj)(q:Qj->Prop):Prop :=∃(e:LI)(at' c d a:Int),ds=[.list (e.map .int),.int at',.list [.int c,.int d],.int a] /\
 (e.length<=63/\0<=at'/\1<=c/\c<=d/\d<=12/\1<=a/\a<=12) /\
 ∀(b:Int)(R:LL)(n:Nat),Tab b R n->b<=99->c<=R.length->R.length<=d->1<=n->n<=a->q (.tuple [.int b,qgx R])
theorem zar(a:0<=x2)(c:x2<9)(d:0<=x3)(e:x3<99):∃b:Int,atI [Q8 1,.int 2,.int 3,.int 4,.int 5,.int 6,.int 12,.int 60,.int (1+x3)] x2=some (.int b)/\1<=b/\b<=99:=by
 have:x2=0\/x2=1\/x2=2\/x2=3\/x2=4\/x2=5\/x2=6\/x2=7\/x2=8:=by lia
 rcases this with rfl|rfl|rfl|rfl|rfl|rfl|rfl|rfl|rfl <;> exact⟨_,rfl,by lia,by lia⟩
theorem qas:FnScope [Si,Sr,Su,SB,SL,"_law_head","_law_many",Sq,SS,Sz,"_law_k","_law_at_row"] [Si,Sr,Su,SB] (defScope qol):=sc0
theorem qxv(F:Def K mg "_law_rows" qol [Si,Sr,Su,SB])(T:Txt K mg cs)(a:Ok P w K mg base Ud 1 [Si,Sr,SL] (FSp K qgf))(j:Ok P w K mg base "_law_cut" 1 [Sq,SS] (FSp K qos)):Ok P w K mg base "_law_rows" 2 [Si,Sr,Su,SB] (PSp K qmj):=by
  refine F.vok qas (by rintro ds q ⟨_,_,_,_,_,h,_⟩;rw[h];rfl) λf cdv A S s H E U ds q h=>?_;obtain⟨V,at',o,N,n,rfl,⟨D,G,l1,l2,l3,m1,m2⟩,k⟩:=h;refine⟨_,(qg (qz (i:=4) qas.nd (qC (qbp (qd (qx qdn (qx zly (qr (qc 2) qf) (qr (qc 2) qf)) qf) (qd (qc 3) (qd qf (qd qf qe)))))))
   (qg (qz (i:=5) qas.nd (qC (qcp a.c U.m (qd (qc 0) (qd (qc 1) (qd (qc 4) qe))))))
   (qg (qz (i:=6) qas.nd (qx qdn (qr (qc 2) qf) (qr (qc 5) qf)))
   (qg (qz (i:=7) qas.nd (qr (qC (qbp (qd qf (qd qf (qd qf (qd qf (qd qf (qd qf (qd qf (qd qf (qd (qx qdn qf (qx qkz (qr (qc 5) qf) qf)) qe))))))))))) (qr (qc 5) qf)))
   (qg (qz (i:=8) qas.nd (qC (qhj (qC (qcp a.c U.m (qd (qc 0) (qd (qc 1) (qd (qC (qpu (qc 4) (qC (zre (qbp (qd (qx qdn (qc 7) qf) qe)) (qx qR (qc 6) (qr (qc 5) qf)))))) qe))))) (qfn qf) qyw)))
   (qg (qfm (i:=9) qas.nd (qbp qe))
   (qg (qau rfl (qS T.range_ (qc 6)) (ql (i:=10) qas.nd) (qg (qz (i:=11) qas.nd (qx qR (qc 10) (qr (qc 5) qf)))
   (qh (qef 9 (qC (qcp j.c U.m (qd (qc 7) (qd (qC (qhj (qc 8) (qfn (qc 11)) (qfn (qx qdn (qc 11) (qr (qc 5) qf))))) qe))))))))
   (quz 9 (qh (qw (qck (qd (qc 7) (qd (qc 9) qe))))))))))))),?_⟩
  have m:∀{z:Int},0<z->z<2^60->0<z/\intBits z<=9000:=λh1 h2=>⟨h1,qp (qbr (by lia) (by lia)) (by decide)⟩
  refine⟨_,rfl,_,rfl,szl,V,at',[N-o+1,n,9,999999],rfl,⟨G,?_,by simp,D⟩,λxs hx=>?_⟩
  ·intro z u;simp only[Zd,Y7,or_false]at u;rcases u with rfl|rfl|rfl|rfl <;> exact m (by lia) (by lia)
  obtain⟨v,_,rfl,a0,b0,g,_,rfl,O,b1,x2,_,rfl,a2,b2,W,_,rfl,a3,b3,rfl⟩:=hx;refine⟨_,rfl,_,rfl,_,rfl,by decide,szl,_,rfl,?_⟩;obtain⟨b,eb,I,X⟩:=zar a2 b2 (show 0<=W%99 by lia) (show W%99<99 by lia);refine⟨_,eb,szl,_,rfl,V3 (qbr (by lia) (by lia)),?_⟩;have hm0:0<=(o+v)*g:=Q2 (by lia) O;have hm1:(o+v)*g<=12*12:=Qen (Qn (show o+v<=12 by lia) O) (Yn (by lia) (by lia));refine⟨⟨by lia,by lia,?_⟩,?_⟩
  ·simp only[Zg,Qao];exact qcg (by lia)
  rintro _ rfl;rw[zvw];refine⟨?_,V,at',[N-o+1,n,9,999999]++Zf ((o+v)*g).toNat (b+1),?_,⟨G,?_,?_,D⟩,λJ hy=>?_⟩
  ·simp only[Zg,Qao,Qe,Qda];exact qcg (by lia)
  ·rw[Zo];rfl
  ·intro z u;rcases Zh.mp u with u|u
   ·simp only[Zd,Y7,or_false]at u;rcases u with rfl|rfl|rfl|rfl <;> exact m (by lia) (by lia)
   ·rw[(List.mem_replicate.mp u).2];exact m (by lia) (by lia)
  ·simp only[Y2,Zg,Qao,Qda];lia
  obtain⟨y,Q⟩:=(Bnd.app hy).rep;intro cs0 p;rw[ztn _ (by decide)]at p;have ed:(J.map Q8).drop (Int.toNat 4)=(J.drop 4).map Q8:=by rw[Qfq];rfl
  rw[ed]at p;subst p;replace y:(J.drop 4).length=((o+v)*g).toNat:=y
  replace Q:∀x∈J.drop 4,0<=x/\x<b+1:=Q
  generalize J.drop 4=cs at y Q;refine⟨szl,⟨by lia,by lia⟩,?_⟩;refine⟨λi e =>∃(Y Z:Sl)(R:LL)(l:List Qj),e=[.val (.list (V.map .int)),.val (.int at'),.val (.list [.int o,.int N]),.val (.int n),.val (.list [.int (N-o+1),.int n,.int 9,.int 999999]),.val (.list ([v,g,x2,W].map .int)),.val (.int (o+v)),.val (.int b),.val (.list (cs.map .int)),.own l,Y,Z] /\
   l=R.map qci/\R.length=i/\Tab b R (g.toNat+1),⟨_,_,[],_,rfl,rfl,rfl,⟨I,by simp,by simp,by simp⟩⟩,?_,?_⟩
  ·rintro i d e hd ⟨Y,Z,R,l,rfl,rfl,hR,L⟩;obtain⟨hi',rfl⟩:=qag hd;rw[Y5];have hiN:(i:Int)+1<=o+v:=by lia
   have hx1:g=(g.toNat:Int):=by lia
   have hle:(i:Int)*g+g<=(o+v)*g:=by
    have:=Qn hiN O
    rwa [Jc,Int.one_mul]at this
   have hi0:0<=(i:Int)*g:=Q2 (by lia) O;refine⟨_,rfl,V3 (qbr (by lia) (by lia)),rfl,_,rfl,?_⟩;intro c1 C;rw[zhe _ hi0 (by lia)]at C;have e1:((i:Int)*g+g-(i:Int)*g).toNat=g.toNat:=by lia
   rw[e1,<- Qfq,<- Qav]at C;subst C;have B:((cs.drop ((i:Int)*g).toNat).take g.toNat).length=g.toNat:=by
    rw[Vm,Qbi,y];lia
   refine⟨b,_,rfl,⟨by lia,by rw[B];lia,λc hc'=>?_⟩,λr ⟨r1,r2,r3⟩=>?_⟩
   ·have:=Q c (List.mem_of_mem_drop (Qhr hc'));lia
   ·refine⟨rfl,?_,_,_,R++[r],_,rfl,by simp[qci];rfl,by simp[hR],⟨I,?_,?_,?_⟩⟩
    ·show(R.map qci).length<_;rw[Qe];exact qm (by lia)
    ·intro M t;rcases Zh.mp t with h|h
     ·exact L.len M h
     ·rw[Q6.mp h,r1,B]
    ·intro M t;rcases Zh.mp t with h|h
     ·exact L.nn M h
     ·rw[Q6.mp h];exact r2
    ·intro M t;rcases Zh.mp t with h|h
     ·exact L.sum M h
     ·rw[Q6.mp h];exact r3
  ·rintro e ⟨Y,Z,R,l,rfl,rfl,hR,L⟩;rw[qK]at hR;exact⟨szl,k b R (g.toNat+1) L X (by lia) (by lia) (by lia) (by lia)⟩
def qjs(ds:List Qj)(q:Qj->Prop):Prop :=∃(e:LI)(at' c d a:Int),ds=[.list (e.map .int),.int at',.list [.int c,.int d],.int a] /\
 (e.length<=63/\0<=at'/\1<=c/\c<=d/\d<=12/\1<=a/\a<=12) /\
 ∀(b:Int)(R:LL)(n:Nat),Gls b R n->b<=99->c<=R.length->R.length<=d->1<=n->n<=a->q (qU b R)
theorem qgj:FnScope [Si,Sr,Su,SB,Sq,Sz] [Si,Sr,Su,SB] (defScope qls):=sc0
theorem qum(F:Def K mg "_law_glass" qls [Si,Sr,Su,SB])(T:Txt K mg cs)(a:Ok P w K mg base "_law_made" 2 [Sq,Sz] (PSp K qmf))(c:Ok P w K mg base "_law_rows" 2 [Si,Sr,Su,SB] (PSp K qmj)):Ok P w K mg base "_law_glass" 3 [Si,Sr,Su,SB] (PSp K qjs):=by
  refine F.vok qgj (by rintro m q ⟨_,_,_,_,_,h,_⟩;rw[h];rfl) λf o A g s H E l m q h=>?_;obtain⟨p,at',r,t,d,rfl,u,k⟩:=h;refine⟨_,(qg (zqz (qt c.c l.m (qd (qc 0) (qd (qc 1) (qd (qc 2) (qd (qc 3) qe))))) (qff (n:=2) rfl (qJ (ql (i:=4) qgj.nd) (qJ (ql (i:=5) qgj.nd) qcn))))
   (qh (qw (qt a.c l.m (qd (qc 4) (qd (qc 5) qe)))))),?_⟩
  refine⟨p,at',r,t,d,rfl,u,λb R n e v B C x y=>⟨rfl,rfl,?_⟩⟩;have j:R≠[]:=λz=>by grind
  refine⟨b,_,R,n,rfl,⟨qha R,e,j,by lia,by lia,qp (qbr (by have:=e.pos;lia) (by lia)) (by decide)⟩,?_⟩;have D:=e.gpos j;have G:(qbt R (qaa R)).length=R.length:=by simp[qbt]
  refine k _ _ n (e.gls j) (Qen (Qdk _ (by have:=e.pos;lia)) v) (by lia) (by lia) x y
def qir(ds:List Qj)(q:Qj->Prop):Prop :=∃a:LI,ds=[.list (a.map .int)]/\((∀n∈a,n<=0)->q .none) /\ ∀(c:Nat)(x:Int),a[c]?=some x->0<x->(∀j y,j<c->a[j]?=some y->y<=0)->q (.int c)
theorem qfb:FnScope [S6,Sf,Sx] [S6] (defScope qkb):=sc0
theorem qqj(F:Def K mg "first_above" qkb [S6])(T:Txt K mg cs):Ok P w K mg base "first_above" 1 [S6] (PSp K qir):=by
  refine F.vok qfb (by rintro p q ⟨_,h,_⟩;rw[h];rfl) λf r A g s H E B p q h=>?_;obtain⟨o,rfl,t,u⟩:=h;refine⟨_,(qg (qau rfl (qnb T.enumerate_ (qc 0)) (qff (n:=2) rfl (qJ (ql (i:=1) qfb.nd) (qJ (ql (i:=2) qfb.nd) qcn))) (qh (qar (qN zeb (qc 2) qf) (qh (qw (qc 1))) qE)))
   (qh (qw qdk))),?_⟩
  refine⟨λi e =>∃k l,e=[.val (.list (o.map .int)),k,l] /\ ∀j y,j<i->o[j]?=some y->y<=0,⟨_,_,rfl,λj y d=>by omega⟩,?_,?_⟩
  ·rintro i x e v ⟨k,l,rfl,c⟩;obtain⟨x,b,rfl⟩:=qgy v;obtain⟨x,rfl,b,_⟩:=qan b;refine⟨rfl,rfl,qjv (λa=>u i x b a c) (λa=>⟨_,_,rfl,λj y d m=>?_⟩)⟩;by_cases e:j=i
   ·subst e;rw[b]at m;cases m;omega
   ·exact c j y (by omega) m
  ·rintro e ⟨k,l,rfl,c⟩;rw[qdd,Qe]at c;refine t λn z=>?_;obtain⟨j,d,rfl⟩:=Vj.mp z;exact c j _ d (Qc d)
def qwo(ds:List Qj)(q:List Qj->Prop):Prop :=∃a:LI,ds=[.list (a.map .int)]/\(a.length<=400/\0<qaq 0 a/\intBits (qaq 0 a:Int)<=9000)/\q ((a.map λx=>x/(qaq 0 a:Int)).map .int)
theorem qji:FnScope ["weights",Sw,"weight"] ["weights"] (defScope zcu):=sc0
theorem zkh(F:Def K mg "lowest" zcu ["weights"])(T:Txt K mg cs)(a:Ok P w K mg base SV 1 [Sc,Sa] (PSp K qcw)):Ok P w K mg base "lowest" 2 ["weights"] (FSp K qwo):=by
  refine F.vokF qji (by rintro k q ⟨_,h,_⟩;rw[h];rfl) λf l A g s H E m k q h=>?_;obtain⟨d,rfl,⟨o,p,n⟩,h⟩:=h;refine⟨_,(qg (qz (i:=1) qji.nd qf)
   (qg (qau rfl (qV (qc 0)) (ql (i:=2) qji.nd) (qh (qz (i:=1) qji.nd (qt a.c m.m (qd (qc 1) (qd (qc 2) qe))))))
   (qh (qem (qH (caps:=[Sw]) (own:=["weight"]) (ix:=[1]) rfl ⟨rfl,rfl,rfl,rfl,rfl,rfl⟩ (qV (qc 0)) (λ_ _ _ _=>(ql (i:=1) (show Zb ([Sw,"weight"]:List Str) by decide))) (λ_ _ _ _=>(qx qjo (qc 1) (qc 0)))))))),?_⟩
  refine⟨λi e =>∃t c,e=[.val (.list (d.map .int)),.val (.int c),t]/\c=(qaq 0 (d.take i):Int),⟨_,_,rfl,rfl⟩,?_,?_⟩
  ·rintro i x e b ⟨t,_,rfl,rfl⟩;obtain⟨x,rfl,b,_⟩:=qan b;refine⟨_,_,rfl,?_⟩;rw[qfh b,qnz]
  ·rintro e ⟨t,_,rfl,rfl⟩;rw[Qe,Zm];refine qI ((d.map λx=>x/(qaq 0 d:Int)).map .int) (by simp) (qm (by simp;lia)) (λe =>∃s,e=[.val (.int (qaq 0 d)),s]) ⟨_,rfl⟩ ?_ ⟨_,rfl,h⟩;rintro i x r e b j ⟨s,rfl⟩;obtain⟨x,rfl,b,_⟩:=qan b;refine⟨⟨by lia,n⟩,qv ?_ j,_,rfl⟩;rw[Qa,Qa,b];rfl
def tn(s:Int):Int:=if s<0 then -1 else 1
def qsh(row:LI)(s:Int)(k m:Nat):LI:=(row++(Qm m).map (λj=>if j=k then 1 else 0)++[s]).map λx=>tn s*x
def qjz(ds:List Qj)(q:List Qj->Prop):Prop :=∃(row:LI)(s:Int)(k m:Nat),ds=[.list (row.map .int),.int s,.int k,.int m]/\(row.length<=400/\m<=400)/\q ((qsh row s k m).map .int)
theorem qgg:FnScope [Se,"total","k",Sg,"turned","marks"] [Se,"total","k",Sg] (defScope qme):=sc0
theorem qur(F:Def K mg "first_line" qme [Se,"total","k",Sg])(T:Txt K mg cs):Ok P w K mg base "first_line" 1 [Se,"total","k",Sg] (FSp K qjz):=by
  refine F.vokF qgg (by rintro r q ⟨_,_,_,_,h,_⟩;rw[h];rfl) λf t A n s H E v r q h=>?_;obtain⟨row,s,k,m,rfl,⟨y,z⟩,h⟩:=h;refine⟨_,(qqr (qz (i:=4) qgg.nd (qel (qN zes (qc 1) qf) (qes qf) qf))
   (qg (qza (caps:=["k"]) (own:=[Sf]) (ix:=[2]) (i:=5) qgg.nd rfl ⟨rfl,rfl,rfl,rfl,rfl,rfl⟩ (qS T.range_ (qc 3)) (λ_ _ _ _=>(ql (i:=1) (show Zb (["k",Sf]:List Str) by decide))) (λ_ _ _ _=>(qel (qN (qni v.units) (qc 1) (qc 0)) qf qf)))
   (qh (qem (qH (caps:=["turned"]) (own:=[Sx]) (ix:=[4]) rfl ⟨rfl,rfl,rfl,rfl,rfl,rfl⟩ (qV (qC (qpu (qC (qpu (qC (zkx zzd T.list_ L2.boot_list (qd (qc 0) qe))) (qc 5))) (qC (qbp (qd (qc 1) qe)))))) (λ_ _ _ _=>(ql (i:=1) (show Zb (["turned",Sx]:List Str) by decide))) (λ_ _ _ _=>(qx qR (qc 0) (qc 1)))))))),?_⟩
  refine⟨λe=>e=[.val (.list (row.map .int)),.val (.int s),.val (.int k),.val (.int m),.val (.int (tn s)),.non],?_,?_⟩
  ·refine qjv (λa=>?_) (λa=>?_)
   ·unfold tn;rw[if_pos a];rfl
   ·unfold tn;rw[if_neg a];rfl
  rintro e rfl;have d:(qxg 0 (m:Int).toNat).length=m:=by rw[qK];lia
  refine⟨⟨by lia,by lia⟩,qm (by rw[d];lia),λj l e=>l=(((Qm m).map λj=>if j=k then(1:Int)else 0).map Q8).take j /\ ∃u,e=[.val (.int k),u],⟨by simp,_,rfl⟩,?_,?_⟩
  ·rintro i x l e c ⟨b,u,rfl⟩;obtain⟨B,rfl⟩:=qag c;have o:i<m:=by lia
   have p:(((Qm m).map λj=>if j=k then(1:Int)else 0).map Q8)[i]?=some (.int (if i=k then 1 else 0)):=by
    rw[Qa,Qa,Qo o];rfl
   refine⟨rfl,rfl,qif (λa=>⟨qv (p.trans ?_) b,_,rfl⟩) (λa=>⟨qv (p.trans ?_) b,_,rfl⟩)⟩
   ·rw[if_pos (by lia)]
   ·rw[if_neg (by lia)]
  rintro l e ⟨b,u,rfl⟩;rw[d,Ya (by simp)]at b;subst b;have g:row.map Q8++((Qm m).map λj=>if j=k then(1:Int)else 0).map Q8++[Q8 s]=(row++((Qm m).map λj=>if j=k then(1:Int)else 0)++[s]).map Q8:=by
   rw[Zo,Zo];rfl
  refine⟨qcg (by simp;lia),szl,qcg (by simp;lia),?_⟩;refine qI ((qsh row s k m).map .int) (by simp[qsh]) (qm (by simp[qsh];lia)) (λe =>∃u,e=[.val (.int (tn s)),u]) ⟨_,rfl⟩ ?_ ⟨_,rfl,h⟩;rintro i x l e c b ⟨u,rfl⟩;rw[g]at c;obtain⟨x,rfl,c,_⟩:=qan c;refine⟨V3 (by unfold tn;split <;> decide),qv ?_ b,_,rfl⟩;unfold qsh;rw[Qa,Qa,c];rfl
structure BAt(K:Qd)(C:Addr)(H F:Hp)(a dx qa:Addr)(n:Nat)(d:Int)(Ls:LL)(ss:LI)(vl:V):Prop where
 ha:H a=some (.ins C dx [(Sj,.int n),(Sb,.int d),(SU,vl),(SI,.ref qa)])
 hl:Is K F (.list (Ls.map qci)) vl
 hq:H qa=some (.lst (ss.map V.int))
 fa:F a=none
 fq:F qa=none
theorem BAt.flds(h:BAt K C H F a dx qa n d Ls ss vl):
 zvg K (upd F qa (.lst (ss.map V.int))) [(Sj,.int n),(Sb,.int d),(SU,vl),(SI,.ref qa)] bNm (bFs n d Ls ss):=by
  have s:Same F (upd F qa (.lst (ss.map V.int))):=qbh h.fq;refine⟨rfl,λf e b=>?_⟩;unfold bFs at b;simp only[Zd,Y7,or_false,Qls]at b;rcases b with⟨rfl,rfl⟩|⟨rfl,rfl⟩|⟨rfl,rfl⟩|⟨rfl,rfl⟩
  ·exact⟨_,rfl,qZ _⟩
  ·exact⟨_,rfl,qZ _⟩
  ·exact⟨_,rfl,h.hl.mono s⟩
  ·exact⟨_,rfl,qeq (SqL.of qk) (qhi ss)⟩
def xdq(n d:Int)(a:LL):List (Str×Qj):=[(Sj,.int n),(Sb,.int d),(SU,.list (a.map qci))]
theorem BAt.flds3(h:BAt K C H F a dx qa n d Ls ss vl):
 zvg K F [(Sj,.int n),(Sb,.int d),(SU,vl),(SI,.ref qa)] bNm (xdq n d Ls):=by
  refine⟨rfl,λf e b=>?_⟩;unfold xdq at b;simp only[Zd,Y7,or_false,Qls]at b;rcases b with⟨rfl,rfl⟩|⟨rfl,rfl⟩|⟨rfl,rfl⟩
  ·exact⟨_,rfl,qZ _⟩
  ·exact⟨_,rfl,qZ _⟩
  ·exact⟨_,rfl,h.hl⟩
def qP(R:LL)(b:LI):LL:=(Qm R.length).map λk=>qsh ((R[k]?).getD []) ((b[k]?).getD 0) k R.length
def qfj(m:Nat):LI:=(Qm m).map λ(k:Nat) => -(m:Int)+k
def zqy(K:Qd)(C:Addr):Sp:=λi H Q _ =>∃(a e:Addr)(F:Hp)(f g:V)(n:Nat)(R:LL)(b:LI),i=[.ref a,.int n,f,g]/\H a=some (.ins C e [])/\F a=none/\Same F H/\Is K F (qgx R) f/\Is K F (.list (b.map .int)) g/\InPre n R b /\
 ∀h c j d,H d=none->GoX a d F H h c->BAt K C c h a e d n 1 (qP R b) (qfj R.length) j->Q .non c
theorem qln:FnScope [Sk,Sj,Sh,SM] [Sk,Sj,Sh,SM] (defScope qgr):=sc0
theorem qlp(F:MDef K cs.Board "__init__" "Board.__init__" qgr [Sk,Sj,Sh,SM])(T:Txt K mg cs)(g:Ok P w K mg base "first_line" 1 [Se,"total","k",Sg] (FSp K qjz)):OkM P w K mg base cs.Board "__init__" 2 [Sk,Sj,Sh,SM] (zqy K cs.Board):=by
  obtain⟨f,fd,Fn,hm,hb⟩:=F.ex;refine⟨f,fd,Fn.ok qln (by rintro vs H Q E ⟨_,_,_,_,_,_,_,_,h,_⟩;rw[h];rfl) λcdv A M s H vs Q E hr h=>?_,hm,hb⟩;obtain⟨a,dx,O,vr,vb,n,R,b,rfl,ha,fa,sm,hR,S,I,kk⟩:=h;refine⟨_,qW (qpy (pv 0) (pv 1) rfl) (qW (qpy (pv 0) zft rfl) (qW (qpy (pv 0) (VE.pe (qC (qH (caps:=[Sh,SM]) (own:=["k"]) (ix:=[2,3]) rfl ⟨rfl,rfl,rfl,rfl,rfl,rfl⟩ (qS T.range_ (qA qdh T.len_ L2.boot_len (qd (qc 2) qe))) (λ_ _ _ _=>(ql (i:=2) (show Zb ([Sh,SM,"k"]:List Str) by decide))) (λ_ _ _ _=>(qC (qcp g.c hr.m (qd (qr (qc 0) (qc 2)) (qd (qr (qc 1) (qc 2)) (qd (qc 2) (qd (qA qdh T.len_ L2.boot_len (qd (qc 0) qe)) qe)))))))))) rfl)
   (qei (qpy (pv 0) (qhb (zks rfl) rfl T.list_ L2.boot_list (qM (qhb zjm rfl T.range_ L2.boot_rng (qM (zxe zri (qjh qlr rfl T.len_ L2.boot_len (qM (pv 2) qbe))) (qM zft qbe))) qbe)) rfl)))),?_⟩
  refine⟨.int n,rfl,.ref a,rfl,a,cs.Board,dx,[],rfl,ha,T.Board_c,T.Board_n_unknowns,(show 0<1000 by decide),?_⟩;refine⟨.ref a,rfl,a,cs.Board,dx,[(Sj,.int n)],rfl,qk,T.Board_c,T.Board_n_bottom,(show 1<1000 by decide),?_⟩;rw[zwq];have hm24:=I.hm;have U:∀o,Same O (upd H a o):=λo c u e=>by rw[qi (qu e fa)];exact sm c u e
  have I3:=qhw (K:=K) (N:=[Sk,Sj,Sh,SM]) (nm:=[Sj,Sb]) (fs:=[]) (C:=cs.Board) (a:=a) (dx:=dx) (us:=[(Sj,.int n),(Sb,.int 1)]) (U (.ins cs.Board dx [(Sj,.int n),(Sb,.int 1)])) qk ⟨rfl,λf d z=>by cases z⟩ (qG (qZ (n:Int)) (qG hR (qG S qah)));refine⟨_,_,O,λdd e=>dd = .list ((qP R b).map qci),I3,?_,λdd v J H5 e5 p s5 i5 q5=>?_⟩
  ·have j:(R.map qci).length=R.length:=Qe _;have V:(qxg 0 (((R.map qci).length:Nat):Int).toNat).length=R.length:=by rw[qK,j];lia
   refine⟨⟨by rw[j];lia,by rw[j];lia⟩,?_⟩;refine qI ((qP R b).map qci) (by rw[V];simp[qP]) (qm (by simp[qP];lia)) (λe =>∃u,e=[.val (qgx R),.val (.list (b.map .int)),u]) ⟨_,rfl⟩ ?_ rfl;rintro i x ys e hx W ⟨u,rfl⟩;obtain⟨hi,rfl⟩:=qag hx;have t:i<R.length:=by rw[j]at hi;lia
   have eR:R[i]?=some ((R[i]?).getD []):=by rw[Qc t];rfl
   have eb:b[i]?=some ((b[i]?).getD 0):=by rw[Qc (by rw[I.l];exact t)];rfl
   have X:=I.w _ (Qh eR);have hn20:=I.hn;rw[Y5];refine⟨_,qax (by rw[Qa,eR];rfl),_,qax (by rw[Qa,eb];rfl),(R[i]?).getD [],(b[i]?).getD 0,i,(R.map qci).length,rfl,⟨by lia,by rw[j];lia⟩,qv ?_ W,_,rfl⟩;unfold qP;rw[Qa,Qa,Qo t,j];rfl
  subst q5;have m:J a=none:=by
   cases e:J a with
   |none=>rfl
   |some o=>rcases p.new a o e with q|q
            ·have q:O a=some o:=q;rw[fa]at q;cases q
            ·have q:upd H a (.ins cs.Board dx [(Sj,.int n),(Sb,.int 1)]) a=none:=q;rw[qk]at q;cases q
  have Y:=p.bh.at qk;refine⟨.ref a,rfl,a,cs.Board,dx,[(Sj,.int n),(Sb,.int 1)],rfl,Y,T.Board_c,T.Board_n_lines,(show 2<1000 by decide),?_⟩;obtain⟨X,y,rfl,Z,hxs⟩:=hR.lst_inv;have lx:y.length=R.length:=by rw[hxs.len,Qe]
  have s6:∀o,Same J (upd H5 a o):=λo c u e=>by rw[qi (qu e m)];exact p.fh c u e
  refine⟨.ref X,rfl,X,y,rfl,.inl ((s5.trans (s6 _)).seq Z),y.length,rfl,_,_,rfl,λl B=>?_⟩;refine⟨l,-(y.length:Int),0,rfl,qk,⟨by lia,by lia,by decide,by decide⟩,by lia,λD k=>?_⟩;have la:l≠a:=λz=>by rw[z,qk]at B;cases B
  have l2l:D≠l:=λz=>by rw[z,qk]at k;cases k
  rw[qi l2l]at k;have r:D≠a:=λz=>by rw[z,qk]at k;cases k
  rw[qi r]at k;rw[qi la]at B;have hH:H D=none:=by
   have:=qB p.bh k;have this:upd H a _ D=none:=this;rw[qi r]at this;exact this
  have fl:=qB p.fh B;have G:=qB p.fh k;refine⟨.ref a,rfl,a,cs.Board,dx,[(Sj,.int n),(Sb,.int 1),(SU,v)],rfl,by rw[qi (Z9 r),qi (Z9 la)];exact qk,T.Board_c,T.Board_n_stands_for,(show 3<1000 by decide),?_⟩;refine kk J _ v D hH ⟨s5,λc o L c2 e=>?_,λc o e=>?_,λc o e=>?_⟩ ⟨qk,i5,?_,m,G⟩
  ·have h5:=p.bh c o (by show upd H a _ c=_;rw[qi L];exact e);obtain⟨o',e5⟩:∃o',H5 c=some o':=p.bh.any (b:=c) (o:=o) (by show upd H a _ c=_;rw[qi L];exact e);rw[qi L,qi c2,qi (qu e5 B),qi L];exact h5
  ·rw[qi (qu e m),qi (qu e G),qi (qu e fl),qi (qu e m)];exact p.fh c o e
  ·rcases p.new c o e with q|q
   ·exact .inl q
   ·have q:upd H a _ c=none:=q;rw[qi (qu e m)]at q;exact .inr q
  ·rw[qi r,qk];have e:(0 - -(y.length:Int)).toNat=R.length:=by lia
   rw[e,lx];unfold zrl qfj;rw[Zj];rfl
def qad(a:LL)(b:LI)(i j:Nat):Int:=qo i λk=>if(b[k]?).getD 0<0 then at2 a k j else 0
def qzl(nm:List Str)(fs:List (Str×Qj))(ds:List Qj)(q:List Qj->Prop):Prop :=∃(n:Nat)(d:Int)(a:LL)(b:LI)(m:Nat),nm=bNm/\fs=bFs n d a b/\ds=[]/\(Bd m (n+m+1) a b/\n<=20/\m<=24)/\q (((Qm (n+m+1)).map (qad a b m)).map .int)
theorem qco:FnScope [Sk,"total",So,"unknown"] [Sk] (defScope qmd):=sc0
theorem qua(F:MDef K cs.Board "lack" "Board.lack" qmd [Sk])(T:Txt K mg cs):OkM P w K mg base cs.Board "lack" 1 [Sk] (zmj K cs.Board qzl):=by
  refine F.vokF qco (by rintro S fs U q ⟨_,_,_,_,_,_,_,h,_⟩;rw[h];rfl) λf V A I s H E hr W S fs U q h=>?_;obtain⟨n,d,c,g,m,rfl,rfl,rfl,⟨C,hn,hm⟩,h⟩:=h;refine⟨_,(qg (qtz (caps:=[]) (own:=[Sx]) (ix:=[]) (i:=1) qco.nd rfl ⟨rfl,rfl,rfl,rfl,rfl,rfl⟩ (qS T.range_ (qx qdn (qx qdn (qcz 0 T.Board_c T.Board_n_unknowns) (qA qdh T.len_ L2.boot_len (qd (qcz 0 T.Board_c T.Board_n_lines) qe))) qf)) (λ_ _ _ _=>(ql (i:=0) (show Zb ([Sx]:List Str) by decide))) (λ_ _ _ _=>qf))
   (qg (qau rfl (qkh T.zip_ (qcz 0 T.Board_c T.Board_n_lines) (qcz 0 T.Board_c T.Board_n_stands_for)) (qff (n:=2) rfl (qJ (ql (i:=2) qco.nd) (qJ (ql (i:=3) qco.nd) qcn))) (qh (qar (qN zes (qc 3) qf) (quz 1 (qh (qtz (caps:=[]) (own:=[Sc,Sa]) (ix:=[]) (i:=1) qco.nd rfl ⟨rfl,rfl,rfl,rfl,rfl,rfl⟩ (qkh T.zip_ (qc 1) (qc 2)) (λ_ _ _ _=>(qff (n:=2) rfl (qJ (ql (i:=0) (show Zb ([Sc,Sa]:List Str) by decide)) (qJ (ql (i:=1) (show Zb ([Sc,Sa]:List Str) by decide)) qcn)))) (λ_ _ _ _=>(qx qdn (qc 0) (qc 1)))))) qE)))
   (qh (qgv 1)))),?_⟩
  have o:(c.map qci).length=m:=by rw[Qe,C.l]
  refine⟨rfl,_,rfl,rfl,_,rfl,⟨by grind,by grind⟩,?_⟩;have J:(qxg 0 ((n:Int)+((c.map qci).length:Nat)+1).toNat).length=n+m+1:=by grind[qK]
  refine⟨qm (by grind),λk p e=>p=(Zf (n+m+1) (.int 0)).take k /\ ∃u,e=[u],⟨by simp,_,rfl⟩,?_,?_⟩
  ·rintro i x p e v ⟨b,s,rfl⟩;obtain⟨X,rfl⟩:=qag v;rw[o]at X;exact⟨qv (by grind) b,_,rfl⟩
  rintro p e ⟨b,u,rfl⟩;rw[J,Ya (by grind)]at b;subst b;have L:∀i,(g[i]?).getD 0<0 ->∀j,qad c g (i+1) j=qad c g i j+at2 c i j:=λi a j=>by
   show qad c g i j+(if _ then _ else _)=_;rw[if_pos a]
  have M:∀i,¬ (g[i]?).getD 0<0->qad c g (i+1)=qad c g i:=λi a=>by
   funext j
   show qad c g i j+(if _ then _ else _)=_;grind
  refine⟨rfl,_,rfl,rfl,_,rfl,λi e =>∃N O l,e=[.obj W cs.Board bNm (bFs n d c g),.own l,N,O]/\l=((Qm (n+m+1)).map (qad c g i)).map .int,⟨_,_,_,rfl,?_⟩,?_,?_⟩
  ·refine(List.eq_replicate_iff.mpr ⟨by simp,λx v=>?_⟩).symm;obtain⟨y,Y,rfl⟩:=Ql.mp v;obtain⟨j,_,rfl⟩:=Ql.mp Y;rfl
  ·rintro i x e v ⟨N,O,l,rfl,rfl⟩;obtain⟨x,y,h3,Z,rfl⟩:=qhk v;obtain⟨u,rfl,hu,_⟩:=qan Z;obtain⟨r,er,rfl⟩:∃r,c[i]?=some r/\qci r=x:=by
    grind
   have R:(g[i]?).getD 0=u:=by rw[hu];rfl
   have lr:=C.w r (Qh er);refine⟨rfl,rfl,qjv (λa=>?_) (λa=>?_)⟩
   ·have B:(zij (((Qm (n+m+1)).map (qad c g i)).map .int) (r.map .int)).length=n+m+1:=by rw[qdp];simp;lia
    refine⟨qm (by rw[B];lia),λk p e=>p=((((Qm (n+m+1)).map (qad c g (i+1))).map Q8)).take k /\ ∃s t,e=[s,t],⟨by simp,_,_,rfl⟩,?_,?_⟩
    rotate_left
    ·rintro p e ⟨b,s,t,rfl⟩;rw[B,Ya (by simp)]at b;exact⟨_,_,_,rfl,b⟩
    rintro j z p e hz ⟨b,s,t,rfl⟩;obtain⟨x,y,D,G,rfl⟩:=qhk hz;obtain⟨x,rfl,D,_⟩:=qan D;obtain⟨y,rfl,G,_⟩:=qan G;have Q:j<n+m+1:=by rw[<- lr];exact(Qp.mp G).1
    have e1:x=qad c g i j:=by
     rw[Qa,Qo Q]at D;exact(Qr D).symm
    have e2:y=at2 c i j:=by
     have:=(C.at er Q).1;rw[G]at this;exact Qr this
    refine⟨rfl,rfl,qv ?_ b,_,_,rfl⟩;rw[Qa,Qa,Qo Q,e1,e2];show some (Q8 (qad c g (i+1) j))=_;rw[L i (by rw[R];exact a) j]
   ·exact⟨_,_,_,rfl,by rw[M i (by rw[R];exact a)]⟩
  ·rintro e ⟨N,O,l,rfl,rfl⟩;rw[qdp,o,Qe,C.s,Qjt];exact⟨_,rfl,h⟩
def qjt(nm:List Str)(fs:List (Str×Qj))(ds:List Qj)(q:Qj->Prop):Prop :=∃(n d:Int)(a:LL)(b:LI)(m w k c p:Nat),nm=bNm/\fs=bFs n d a b/\ds=[.int k,.int c,.int p]/\(Bd m w a b/\k<m/\c<m/\p<w)/\q (.bool (qig a b w k c p))
theorem qcf:FnScope [Sk,"k",Ue,Sf,Sc,Sa] [Sk,"k",Ue,Sf] (defScope qey):=sc0
theorem qjd(F:MDef K cs.Board "is_tighter" "Board.is_tighter" qey [Sk,"k",Ue,Sf])(T:Txt K mg cs):OkM P w K mg base cs.Board "is_tighter" 1 [Sk,"k",Ue,Sf] (OSp K cs.Board qjt):=by
  refine F.vok qcf (by rintro J fs L q ⟨_,_,_,_,_,_,_,_,_,_,_,h,_⟩;rw[h];rfl) λf M A B s H E N a0 J fs L q h=>?_;obtain⟨n,d,u,v,m,w,k,c,p,rfl,rfl,rfl,⟨g,hk,hc,D⟩,h⟩:=h;refine⟨_,(qg (qz (i:=4) qcf.nd (qx qR (qr (qr (qcz 0 T.Board_c T.Board_n_lines) (qc 1)) (qes qf)) (qr (qr (qcz 0 T.Board_c T.Board_n_lines) (qc 2)) (qc 3))))
   (qg (qz (i:=5) qcf.nd (qx qR (qr (qr (qcz 0 T.Board_c T.Board_n_lines) (qc 2)) (qes qf)) (qr (qr (qcz 0 T.Board_c T.Board_n_lines) (qc 1)) (qc 3))))
   (qh (qw (xbi (qce zes (qc 4) (qc 5)) (qhh (qih (qce (qni N.units) (qc 4) (qc 5)) (qhh (qce zes (qr (qcz 0 T.Board_c T.Board_n_stands_for) (qc 1)) (qr (qcz 0 T.Board_c T.Board_n_stands_for) (qc 2))))))))))),?_⟩
  obtain⟨r,y,G,O⟩:=g.row (k:=(k:Int)) (by lia) (by lia);obtain⟨t,z,at',lt⟩:=g.row (k:=(c:Int)) (by lia) (by lia);have y:u[k]?=some r:=y;have z:u[c]?=some t:=z;obtain⟨Q,R⟩:=g.at y (j:=w-1) (by lia);obtain⟨S,U⟩:=g.at y D;obtain⟨V,W⟩:=g.at z (j:=w-1) (by lia);obtain⟨X,Y⟩:=g.at z D;have o:∀{l:LI}{j:Nat}{x:Int},l[j]?=some x->(l.map Q8)[j]?=some (.int x):=λe=>by rw[Qa,e];rfl
  have hs:=g.s;have Z:v[k]?=some ((v[k]?).getD 0):=by rw[Qc (by lia)];rfl
  have sc:v[c]?=some ((v[c]?).getD 0):=by rw[Qc (by lia)];rfl
  refine⟨rfl,_,rfl,_,G,.int (at2 u k (w-1)),atI_last (by rw[Qe,O];exact o Q),rfl,_,rfl,_,at',_,qax (o X),qcv (qp R (by decide)) (qp Y (by decide)),?_⟩;refine⟨rfl,_,rfl,_,at',.int (at2 u c (w-1)),atI_last (by rw[Qe,lt];exact o V),rfl,_,rfl,_,G,_,qax (o S),qcv (qp W (by decide)) (qp U (by decide)),?_⟩;have C:∀b:Bool,b=qig u v w k c p->q (.bool b):=λb e=>by rw[e];exact h
  refine qjv (λa=>C _ ?_) (λa=>?_)
  ·unfold qig;rw[decide_eq_true a];rfl
  ·have I:=decide_eq_false a;refine⟨rfl,rfl,qif (λe=>?_) (λe=>C _ ?_)⟩
   ·refine⟨rfl,_,rfl,_,qax (o Z),rfl,_,rfl,_,qax (o sc),C _ ?_⟩;unfold qig;rw[I,decide_eq_true e];rfl
   ·unfold qig;rw[I,decide_eq_false e];rfl
def qot(nm:List Str)(fs:List (Str×Qj))(ds:List Qj)(q:Qj->Prop):Prop :=∃(n d:Int)(a:LL)(b:LI)(m w p:Nat),nm=bNm/\fs=bFs n d a b/\ds=[.int p]/\(Bd m w a b/\p<w/\m<=900 /\ ∃k,k<m/\0<at2 a k p) /\ ∀r,r<m->Tg a b w p m r->q (.int r)
def TgI(a:LL)(b:LI)(w p i:Nat)(c:Qj):Prop:=(c = .none /\ ∀k,k<i -> ¬ 0<at2 a k p) \/ ∃r:Nat,c = .int r/\r<i/\Tg a b w p i r
theorem qaw:FnScope [Sk,Sf,Ue,"k",So] [Sk,Sf] (defScope qgo):=sc0
theorem qlj(F:MDef K cs.Board "tightest" "Board.tightest" qgo [Sk,Sf])(T:Txt K mg cs)(b:OkM P w K mg base cs.Board "is_tighter" 1 [Sk,"k",Ue,Sf] (OSp K cs.Board qjt)):OkM P w K mg base cs.Board "tightest" 2 [Sk,Sf] (OSp K cs.Board qot):=by
  refine F.vok qaw (by rintro M fs N q ⟨_,_,_,_,_,_,_,_,_,h,_⟩;rw[h];rfl) λf O A y s H E Q R M fs N q h=>?_;obtain⟨n,d,o,B,m,w,p,rfl,rfl,rfl,⟨u,J,Y,S,C,U⟩,h⟩:=h;refine⟨_,(qg (qz (i:=2) qaw.nd qdk)
   (qg (qau rfl (qnb T.enumerate_ (qcz 0 T.Board_c T.Board_n_lines)) (qff (n:=2) rfl (qJ (ql (i:=3) qaw.nd) (qJ (ql (i:=4) qaw.nd) qcn))) (qh (qar (VW.pt (zqs (qN zeb (qr (qc 4) (qc 1)) qf) (zil (VW.pt (qjn (qN qqy (qc 2) qdk) (qgi (qbj (zti 0 b T.Board_c Q.m (qd (qc 3) (qd (qc 2) (qd (qc 1) qe))))))))))) (qh (qz (i:=2) qaw.nd (qc 3))) qE)))
   (qh (qw (qc 2))))),?_⟩
  refine⟨rfl,_,rfl,λi e =>∃D G c,e=[.obj R cs.Board bNm (bFs n d o B),.val (.int p),.val c,D,G]/\TgI o B w p i c,⟨_,_,_,rfl,.inl ⟨rfl,λk V=>by lia⟩⟩,?_,?_⟩
  ·rintro i x e L ⟨D,G,c,rfl,l⟩;obtain⟨x,W,rfl⟩:=qgy L;clear L;obtain⟨r,er,rfl⟩:∃r,o[i]?=some r/\qci r=x:=by
    grind
   have I:i<m:=by rw[<- u.l];grind
   obtain⟨X,_⟩:=u.at er J;refine⟨rfl,rfl,_,qax (by rw[Qa,X];rfl),?_⟩;refine qjv (λa=>?_) (λa=>?_)
   ·rcases l with⟨rfl,z⟩|⟨v,rfl,g,j⟩
    ·exact⟨rfl,_,_,_,rfl,.inr ⟨i,rfl,by lia,Tg.first z a⟩⟩
    ·refine⟨rfl,rfl,rfl,rfl,n,d,o,B,m,w,i,v,p,rfl,rfl,rfl,⟨u,I,by lia,J⟩,qqg (λt=>?_) (λt=>?_)⟩
     ·exact⟨_,_,_,rfl,.inr ⟨i,rfl,by lia,j.take a t⟩⟩
     ·exact⟨_,_,_,rfl,.inr ⟨v,rfl,by lia,j.stay t⟩⟩
   ·refine⟨_,_,_,rfl,?_⟩;rcases l with⟨rfl,z⟩|⟨v,rfl,g,j⟩
    ·exact .inl ⟨rfl,λk V=>by
      grind⟩
    ·exact .inr ⟨v,rfl,by lia,j.skip a⟩
  ·rintro e ⟨D,G,c,rfl,l⟩;rw[qdd,Qe,u.l]at l;rcases l with⟨_,z⟩|⟨r,rfl,g,j⟩
   ·exact(z S C U).elim
   ·exact h r g j
def zdc(r t:LI)(p:Nat)(d:Int):LI:=J4 (λx y=>(x*(t[p]?).getD 0-(r[p]?).getD 0*y)/d) r t
def qra(ds:List Qj)(q:List Qj->Prop):Prop :=∃(r t:LI)(p:Nat)(d:Int),ds=[.list (r.map .int),.list (t.map .int),.int p,.int d]/\(r.length=t.length/\p<r.length/\r.length<=900/\0<d/\intBits d<=2000/\(∀x∈r,intBits x<=2000) /\ ∀x∈t,intBits x<=2000)/\q ((zdc r t p d).map .int)
theorem zex:FnScope [So,SE,Sf,Sb] [So,SE,Sf,Sb] (defScope qvo):=sc0
theorem zdv(F:Def K mg "cleared" qvo [So,SE,Sf,Sb])(T:Txt K mg cs):Ok P w K mg base "cleared" 1 [So,SE,Sf,Sb] (FSp K qra):=by
  refine F.vokF zex (by rintro o q ⟨_,_,_,_,h,_⟩;rw[h];rfl) λf v A a s H E M o q h=>?_;obtain⟨r,t,p,d,rfl,⟨N,z,O,B,C,j,k⟩,h⟩:=h;refine⟨_,(qh (qem (qH (caps:=[So,SE,Sf,Sb]) (own:=[Sc,Sa]) (ix:=[0,1,2,3]) rfl ⟨rfl,rfl,rfl,rfl,rfl,rfl⟩ (qkh T.zip_ (qc 0) (qc 1)) (λ_ _ _ _=>(qff (n:=2) rfl (qJ (ql (i:=4) (show Zb ([So,SE,Sf,Sb,Sc,Sa]:List Str) by decide)) (qJ (ql (i:=5) (show Zb ([So,SE,Sf,Sb,Sc,Sa]:List Str) by decide)) qcn)))) (λ_ _ _ _=>(qx qjo (qx zly (qx qR (qc 4) (qr (qc 1) (qc 2))) (qx qR (qr (qc 0) (qc 2)) (qc 5))) (qc 3)))))),?_⟩;have l:r[p]?=some ((r[p]?).getD 0):=by rw[Qc z];rfl
  have m:t[p]?=some ((t[p]?).getD 0):=by rw[Qc (by lia)];rfl
  have D:=j _ (Qh l);have G:=k _ (Qh m);refine qI ((zdc r t p d).map .int) (by rw[qdp];simp[zdc]) (qm (by simp[zdc];lia)) (λe =>∃s u,e=[.val (.list (r.map .int)),.val (.list (t.map .int)),.val (.int p),.val (.int d),s,u]) ⟨_,_,rfl⟩ ?_ ⟨_,rfl,h⟩;rintro i x Q e I b ⟨s,u,rfl⟩;obtain⟨x,y,c,g,rfl⟩:=qhk I;obtain⟨x,rfl,c,J⟩:=qan c;obtain⟨y,rfl,g,L⟩:=qan g;refine⟨rfl,rfl,.int ((t[p]?).getD 0),qax (by rw[Qa,m];rfl),qcv (qp (j x J) (by decide)) (qp G (by decide)),.int ((r[p]?).getD 0),qax (by rw[Qa,l];rfl),qcv (qp D (by decide)) (qp (k y L) (by decide)),⟨B,qp C (by decide)⟩,qv ?_ b,_,_,rfl⟩;unfold zdc;rw[Qa,zdo c g];rfl
def qsg(b:LL)(r p:Nat)(d:Int):LL:=b.mapIdx λk a=>if k=r then a else zdc a ((b[r]?).getD []) p d
structure BrPre(n:Nat)(d:Int)(Ls:LL)(ss:LI)(m p:Nat):Prop where
 b:Bd m (n+m+1) Ls ss
 hp:p<n
 hm:m<=24
 hn:n<=20
 d0:0<d
 d1:intBits d<=2000
 hk:∃k,k<m/\0<at2 Ls k p
def zis(K:Qd)(C:Addr):Sp:=λj H Q _ =>∃(a h e:Addr)(F:Hp)(k:V)(n:Nat)(d:Int)(b:LL)(c:LI)(m p:Nat),j=[.ref a,.int p]/\BAt K C H F a h e n d b c k/\Same F H/\BrPre n d b c m p /\
 ∀i f g r,r<m->Tg b c (n+m+1) p m r->GoX a e F H i f->BAt K C f i a h e n (at2 b r p) (qsg b r p d) (c.set r p) g->Q .non f
theorem qbs:FnScope [Sk,Sf,"turn",SE,Sb] [Sk,Sf] (defScope qgu):=sc0
theorem qlo(F:MDef K cs.Board "bring_in" "Board.bring_in" qgu [Sk,Sf])(T:Txt K mg cs)(y:OkM P w K mg base cs.Board "tightest" 2 [Sk,Sf] (OSp K cs.Board qot))(C:Ok P w K mg base "cleared" 1 [So,SE,Sf,Sb] (FSp K qra)):OkM P w K mg base cs.Board "bring_in" 3 [Sk,Sf] (zis K cs.Board):=by
  obtain⟨f,fd,Fn,hm,hb⟩:=F.ex;refine⟨f,fd,Fn.ok qbs (by rintro vs H Q E ⟨_,_,_,_,_,_,_,_,_,_,_,h,_⟩;rw[h];rfl) λcdv A outer s H vs Q E hr h=>?_,hm,hb⟩;obtain⟨a,L,D,F0,vl,n,d,G,ss,m,p,rfl,B,sm,M,kk⟩:=h;obtain⟨f1,fd1,F1,hm1,hb1⟩:=y.ex;refine⟨_,qW (qge (i:=2) qbs.nd rfl (by first|exact Vn rfl|exact Y3 rfl) (qyq (pv 0) T.Board_c hm1 F1 hr.m hb1 .nil qsu (qM (pv 1) qbe)) rfl (by first|exact .inl rfl|exact .inr rfl))
   (qW (qge (i:=3) qbs.nd rfl (by first|exact Vn rfl|exact Y3 rfl) (zlp qsc (qzu (pv 0) rfl) (pv 2) (λ_ _=>rfl)) rfl (by first|exact .inl rfl|exact .inr rfl))
   (qW (qge (i:=4) qbs.nd rfl (by first|exact Vn rfl|exact Y3 rfl) (qzu (pv 0) rfl) rfl (by first|exact .inl rfl|exact .inr rfl))
   (qW (qpy (pv 0) (VE.pe (qC (qH (caps:=[Sf,"turn",SE,Sb]) (own:=["k",So]) (ix:=[1,2,3,4]) rfl ⟨rfl,rfl,rfl,rfl,rfl,rfl⟩ (qnb T.enumerate_ (qcz 0 T.Board_c T.Board_n_lines)) (λ_ _ _ _=>(qff (n:=2) rfl (qJ (ql (i:=4) (show Zb ([Sf,"turn",SE,Sb,"k",So]:List Str) by decide)) (qJ (ql (i:=5) (show Zb ([Sf,"turn",SE,Sb,"k",So]:List Str) by decide)) qcn)))) (λ_ _ _ _=>(qel (qN (qni hr.units) (qc 4) (qc 1)) (qc 5) (qC (qcp C.c hr.m (qd (qc 5) (qd (qc 2) (qd (qc 0) (qd (qc 3) qe))))))))))) rfl)
   (qW (zgc (pv 1) (zrk (qzu (pv 0) rfl) (pv 2) zbv (by intro _;rfl)) rfl rfl rfl)
   (qei (qpy (pv 0) (zlp qsc (pv 3) (pv 1) (λ_ _=>rfl)) rfl)))))),?_⟩
  have O:=M.b;have p0:=M.hp;have sF1:=qmw sm B.hq;refine⟨.ref a,rfl,a,L,_,rfl,B.ha,rfl,.int p,rfl,a,L,_,[.int p],_,bNm,bFs n d G ss,[.int p],λdd =>∃r:Nat,r<m/\Tg G ss (n+m+1) p m r/\dd = .int r,rfl,B.ha,sF1,B.flds,qG (qZ _) qah,
   ⟨n,d,G,ss,m,n+m+1,p,rfl,rfl,rfl,⟨O,by lia,by have:=M.hm;lia,M.hk⟩,λr h1 h2=>⟨r,h1,h2,rfl⟩⟩,λdd v F2 H2 g i2 q2=>?_⟩
  obtain⟨r,hr',ht,rfl⟩:=q2;have ev:=i2.int_inv;subst ev;have R:=g.h;have sF0:=sm.trans R;obtain⟨la,xs,rfl,hsq,hxs⟩:=B.hl.lst_inv;obtain⟨t,X,_,lt⟩:=O.row (k:=(r:Int)) (by lia) (by lia);have X:G[r]?=some t:=X;obtain⟨xr,exr,ixr⟩:=hxs.get (i:=r) (d:=qci t) (by rw[Qa,X];rfl);refine⟨.ref a,rfl,a,cs.Board,L,_,.ref la,rfl,R.at B.ha,T.Board_c,T.Board_n_lines,rfl,.int r,rfl,la,xs,r,xr,rfl,rfl,sF0.seq hsq,qax exr,?_⟩;refine⟨.ref a,rfl,a,cs.Board,L,_,.int d,rfl,R.at B.ha,T.Board_c,T.Board_n_bottom,rfl,?_⟩;have Y:BAt K cs.Board H2 F0 a L D n d G ss (.ref la):=⟨R.at B.ha,B.hl,R.at B.hq,B.fa,B.fq⟩
  have I4:=qhw (K:=K) (N:=[Sk,Sf,"turn",SE,Sb]) sF0 Y.ha Y.flds3 (qG (qZ (p:Int)) (qG (qZ (r:Int)) (qG ixr (qG (qZ d) qah))));refine⟨⟨H2,H2,F0⟩,_,F0,λdd e=>dd = .list ((qsg G r p d).map qci),I4,?_,λdd v Z H5 e5 S s5 i5 q5=>?_⟩
  ·refine⟨rfl,_,rfl,?_⟩;have hlen:=O.l;have hm24:=M.hm;refine qI ((qsg G r p d).map qci) (by rw[qdd];simp[qsg]) (qm (by simp[qsg];lia)) (λe =>∃s u,e=[.val (.int p),.val (.int r),.val (qci t),.val (.int d),s,u]) ⟨_,_,rfl⟩ ?_ rfl;rintro i x ys e hx J ⟨s,u,rfl⟩;obtain⟨x,I,rfl⟩:=qgy hx;obtain⟨l,el,rfl⟩:∃l,G[i]?=some l/\qci l=x:=by
    rw[Qa]at I;cases q:G[i]? with
    |none=>rw[q]at I;cases I
    |some l=>rw[q]at I;exact⟨l,rfl,Qr I⟩
   have ll:=O.w l (Qh el);have hn20:=M.hn;have ge:((qsg G r p d).map qci)[i]?=some (qci (if i=r then l else zdc l t p d)):=by
    unfold qsg;rw[Qa,Qhs,el,X];rfl
   refine⟨rfl,rfl,rfl,rfl,qif (λe=>⟨qv ?_ J,_,_,rfl⟩) (λe=>⟨l,t,p,d,rfl,⟨by lia,by lia,by lia,M.d0,M.d1,O.z l (Qh el),O.z t (Qh X)⟩,qv ?_ J,_,_,rfl⟩)⟩
   ·rw[ge,if_pos (by lia)]
   ·rw[ge,if_neg (by lia)];rfl
  subst q5;have U:D≠a:=λz=>by have:=B.hq;rw[z,B.ha]at this;cases this
  have Ha5:=S.bh.at Y.ha;have Hq5:=S.bh.at Y.hq;have W:Z a=none:=by
   cases e:Z a with
   |none=>rfl
   |some o=>rcases S.new a o e with q|q
            ·have q:F0 a=some o:=q;rw[B.fa]at q;cases q
            ·have q:H2 a=none:=q;rw[Y.ha]at q;cases q
  have fq5:Z D=none:=by
   cases e:Z D with
   |none=>rfl
   |some o=>rcases S.new D o e with q|q
            ·have q:F0 D=some o:=q;rw[B.fq]at q;cases q
            ·have q:H2 D=none:=q;rw[Y.hq]at q;cases q
  obtain⟨lb,ys,rfl,hsq2,J⟩:=ixr.lst_inv;have eys:=J.ints_inv;subst eys;obtain⟨t3,_⟩:=O.at X (j:=p) (by lia);refine⟨.ref a,rfl,a,cs.Board,L,_,rfl,Ha5,T.Board_c,T.Board_n_lines,(show 4<1000 by decide),?_⟩;refine⟨.int p,rfl,.ref a,rfl,a,cs.Board,L,_,.ref D,rfl,qk,T.Board_c,T.Board_n_stands_for,rfl,.int r,rfl,D,ss.map V.int,r,r,rfl,rfl,?_,?_,?_⟩
  ·rw[qi U];exact Hq5
  ·rw[Qe,O.s];exact zqd (by lia) (by lia)
  have sF7:∀o1 o2,Same Z (upd (upd H5 a o1) D o2):=λo1 o2 b u e=>by
   rw[qi (qu e fq5),qi (qu e W)];exact S.fh b u e
  refine⟨.ref lb,rfl,.int p,rfl,lb,t.map V.int,p,.int (at2 G r p),rfl,rfl,((s5.trans (sF7 _ _)).seq hsq2),qax (by rw[Qa,t3];rfl),?_⟩;refine⟨.ref a,rfl,a,cs.Board,L,[(Sj,.int n),(Sb,.int d),(SU,v),(SI,.ref D)],rfl,by rw[qi (Z9 U)];exact qk,T.Board_c,T.Board_n_bottom,(show 4<1000 by decide),?_⟩;refine kk Z _ v r hr' ht ⟨s5,λc o c1 c2 e=>?_,λc o e=>?_,λc o e=>?_⟩ ⟨qk,i5,?_,W,fq5⟩
  ·rw[qi c1,qi c2,qi c1];exact R.trans S.bh c o e
  ·rw[qi (qu e W)];exact sF7 _ _ c o e
  ·rcases S.new c o e with q|q
   ·exact .inl q
   ·exact .inr (qB R q)
  ·rw[qi U,qk,Qlw]
def quw(d:Int)(a:LL)(b:LI)(m w i u:Nat)(x:Int×Int):Prop :=
 (∃k,k<i/\b[k]?=some (u:Int)/\x=(shT (at2 a k (w-1)) d,shB (at2 a k (w-1)) d))\/((∀k,k<i->b[k]?≠some (u:Int))/\x=(shT 0 1,shB 0 1))
def qyh(nm:List Str)(fs:List (Str×Qj))(ds:List Qj)(q:List Qj->Prop):Prop :=∃(n:Nat)(d:Int)(b:LL)(a:LI)(m w:Nat),nm=bNm/\fs=bFs n d b a/\ds=[]/\(Bd m w b a/\0<d/\intBits d<=2000/\1<=w/\n<=900 /\ ∀x∈a,x<n) /\
 ∀c:List (Int×Int),c.length=n->(∀u x,c[u]?=some x->quw d b a m w m u x)->q (c.map λx=>dSh x.1 x.2)
theorem qdy:FnScope [Sk,"found",So,"unknown"] [Sk] (defScope qma):=sc0
theorem qux(F:MDef K cs.Board "told" "Board.told" qma [Sk])(T:Txt K mg cs)(b:Ok P w K mg base Ub 3 [SG,Sb] (PSp K qfr)):OkM P w K mg base cs.Board "told" 4 [Sk] (zmj K cs.Board qyh):=by
  refine F.vokF qdy (by rintro W fs X q ⟨_,_,_,_,_,_,_,_,h,_⟩;rw[h];rfl) λf Y A J s H E U Z W fs X q h=>?_;obtain⟨n,d,p,V,m,w,rfl,rfl,rfl,⟨G,d0,d1,w1,hn,hs⟩,h⟩:=h;refine⟨_,(qg (qtz (caps:=[]) (own:=[Sf]) (ix:=[]) (i:=1) qdy.nd rfl ⟨rfl,rfl,rfl,rfl,rfl,rfl⟩ (qS T.range_ (qcz 0 T.Board_c T.Board_n_unknowns)) (λ_ _ _ _=>(ql (i:=0) (show Zb ([Sf]:List Str) by decide))) (λ_ _ _ _=>(qt b.c U.m (qd qf (qd qf qe)))))
   (qg (qau rfl (qkh T.zip_ (qcz 0 T.Board_c T.Board_n_lines) (qcz 0 T.Board_c T.Board_n_stands_for)) (qff (n:=2) rfl (qJ (ql (i:=2) qdy.nd) (qJ (ql (i:=3) qdy.nd) qcn))) (qh (qar (qN xas (qc 3) qf) (qh (zzw 1 (qt b.c U.m (qd (qr (qc 2) (qes qf)) (qd (qcz 0 T.Board_c T.Board_n_bottom) qe))) (qc 3))) qE)))
   (qh (qgv 1)))),?_⟩
  have C:(p.map qci).length=m:=by rw[Qe,G.l]
  have L:(qxg 0 (n:Int).toNat).length=n:=by grind[qK]
  refine⟨rfl,_,rfl,⟨by lia,by lia⟩,qm (by grind),λk M e=>M=(Zf n (dSh (shT 0 1) (shB 0 1))).take k /\ ∃u,e=[u],⟨by simp,_,rfl⟩,?_,?_⟩
  ·rintro i x M e c ⟨g,s,rfl⟩;obtain⟨hi,rfl⟩:=qag c;exact⟨⟨by decide,by decide⟩,qv (by grind) g,_,rfl⟩
  rintro M e ⟨g,u,rfl⟩;rw[L,Ya (by grind)]at g;subst g;refine⟨rfl,_,rfl,rfl,_,rfl,λi e =>∃N O l,e=[.obj Z cs.Board bNm (bFs n d p V),.own l,N,O] /\ ∃o:List (Int×Int),l=o.map (λx=>dSh x.1 x.2)/\o.length=n /\ ∀u x,o[u]?=some x->quw d p V m w i u x,⟨_,_,_,rfl,Zf n (shT 0 1,shB 0 1),by rw[List.map_replicate],by simp,λu x c => .inr ⟨λk I=>by lia,?_⟩⟩,?_,?_⟩
  ·grind
  ·rintro i x e c ⟨N,O,l,rfl,o,rfl,Q,D⟩;obtain⟨x,y,h3,h4,rfl⟩:=qhk c;obtain⟨u,rfl,R,S⟩:=qan h4;obtain⟨r,er,rfl⟩:∃r,p[i]?=some r/\qci r=x:=by
    grind
   have lr:=G.w r (Qh er);obtain⟨r1,r2⟩:=G.at er (j:=w-1) (by lia);refine⟨rfl,rfl,qjv (λa=>?_) (λa=>?_)⟩
   ·have un:=hs u S;refine⟨.int (at2 p i (w-1)),atI_last (by grind),rfl,_,rfl,⟨by lia,qp d1 (by decide)⟩,rfl,rfl,u.toNat,?_,_,_,_,rfl,o.set u.toNat (shT (at2 p i (w-1)) d,shB (at2 p i (w-1)) d),?_,by grind,λv x c=>?_⟩
    ·exact zqd a (by show u<(((o.map _).length:Nat):Int);grind)
    ·rw[Qlw];rfl
    ·rw[Qjd]at c;by_cases e:u.toNat=v
     ·rw[if_pos e]at c;split at c
      ·exact .inl ⟨i,by lia,by rw[R];congr 1;lia,(Qr c).symm⟩
      ·cases c
     ·rw[if_neg e]at c;rcases D v x c with⟨k,I,t,B⟩|⟨t,B⟩
      ·exact .inl ⟨k,by lia,t,B⟩
      ·refine .inr ⟨λk I z=>?_,B⟩;by_cases q:k=i
       ·subst q;rw[R]at z;have:=Qr z;lia
       ·exact t k (by lia) z
   ·refine⟨_,_,_,rfl,o,rfl,Q,λv x c=>?_⟩;rcases D v x c with⟨k,I,t,B⟩|⟨t,B⟩
    ·exact .inl ⟨k,by lia,t,B⟩
    ·refine .inr ⟨λk I z=>?_,B⟩;by_cases q:k=i
     ·subst q;rw[R]at z;have:=Qr z;lia
     ·exact t k (by lia) z
  ·rintro e ⟨N,O,l,rfl,o,rfl,Q,D⟩;rw[qdp,C,Qe,G.s,Qjt]at D;exact⟨_,rfl,h o Q D⟩
def qhr(a:LL)(b:LI)(d:Int):Sta:=⟨λk=>(b[k]?).getD 0,at2 a,d⟩
def qhv(a:LL):Nat->Nat->Int:=λj x=>at2 a x j
theorem Brd.congr(h:Brd m col B L d)(e:∀x k,k<m->B x k=B' x k):Brd m col B' L d where
 pos:=h.pos
 hd:=by rw[h.hd];grind[qfl]
 hL:=λk hk j=>by
  rw[h.hL k hk j];exact qfl λx y _ hy=>by
   unfold qap;grind
 hI:=λj x hx=>by
  rw[h.hI j x hx];grind[qj]
theorem qie(a:k<m):at2 ((Qm m).map f) k j=((f k)[j]?).getD 0:=by
 unfold at2;rw[Qa,Qo a];rfl
theorem qnr(a:k<m):((qfj m)[k]?).getD 0 = -(m:Int)+k:=by
 unfold qfj;rw[Qa,Qo a];rfl
theorem znr(row:LI)(s:Int)(k m:Nat):(qsh row s k m).length=row.length+m+1:=by
 unfold qsh;simp;lia
theorem zcz(h:j<row.length):((qsh row s k m)[j]?).getD 0=tn s*(row[j]?).getD 0:=by
 unfold qsh;rw[Qa,Zv (by simp;lia),Zv h,Qc h];rfl
theorem zkm(h:j<m):((qsh row s k m)[row.length+j]?).getD 0=tn s*(if j=k then 1 else 0):=by
 unfold qsh;rw[Qa,Zv (by simp;lia),Yj (by lia),Nat.add_sub_cancel_left,Qa,Qo h];rfl
theorem qts:((qsh row s k m)[row.length+m]?).getD 0=tn s*s:=by
 unfold qsh;rw[Qa,Yj (by simp)];simp
theorem zzi(s:Int):0<=tn s*s:=by unfold tn;split <;> lia
theorem zfk(hw:∀r∈R,r.length=n):Good R.length n (qhv (qP R b)) (qhr (qP R b) (qfj R.length) 1) where
 brd:=(zkn R.length (qhv (qP R b))).congr λx k hk=>by
  unfold Bas;rw[if_pos (show(qhr (qP R b) (qfj R.length) 1).st k<0 by show((qfj R.length)[k]?).getD 0<0;grind[qnr])]
 sum:=λk hk=>by
  show 0<=at2 (qP R b) k (n+R.length);unfold qP;rw[qie hk];have e:((R[k]?).getD []).length=n:=by
   grind
  rw[<- e,qts];exact zzi _
 top:=λk hk=>by
  show((qfj R.length)[k]?).getD 0<n;grind[qnr]
theorem zio(h:Ls.length<=k):at2 Ls k j=0:=by
 unfold at2;rw[Q5 h];rfl
theorem zpx{w r p:Nat}(a:∀l∈Ls,l.length=w)(g:r<Ls.length):at2 (qsg Ls r p d)=piv (at2 Ls) d r p:=by
 funext k j
 obtain⟨t,et⟩:∃t,Ls[r]?=some t:=⟨_,Qc g⟩
 have lt:=a t (Qh et);unfold piv;by_cases h:k<Ls.length
 ·obtain⟨l,el⟩:∃l,Ls[k]?=some l:=⟨_,Qc h⟩
  have m:=a l (Qh el);have e:at2 (qsg Ls r p d) k j=((if k=r then l else zdc l t p d)[j]?).getD 0:=by
   unfold at2 qsg;rw[Qhs,el,et];rfl
  rw[e];by_cases z:k=r
  ·subst z;rw[if_pos rfl,if_pos rfl];unfold at2;rw[el];rfl
  ·rw[if_neg z,if_neg z];have b:∀i,at2 Ls k i=(l[i]?).getD 0:=λi=>by unfold at2;rw[el];rfl
   have c:∀i,at2 Ls r i=(t[i]?).getD 0:=λi=>by unfold at2;rw[et];rfl
   rw[b,b,c,c];unfold zdc;by_cases n:j<w
   ·rw[Ji,Qc (show j<l.length by lia),Qc (show j<t.length by lia)];rfl
   ·rw[Q5 (by simp;lia),Q5 (show l.length<=j by lia),Q5 (show t.length<=j by lia)];simp
 ·have f:∀i,at2 Ls k i=0:=λi=>zio (by lia);rw[zio (by unfold qsg;simp;lia),if_neg (by lia),f,f];simp
theorem zyc(hl:Ls.length=m)(hs:ss.length=m)(hw:∀l∈Ls,l.length=n+m+1)(c1:c<n)(c2:0<lack m (qhr Ls ss d) c)(c3:∀j,j<c->lack m (qhr Ls ss d) j<=0)(hr:r<m)(ht:Tg Ls ss (n+m+1) c m r):Stp m n (qhr Ls ss d) c r (qhr (qsg Ls r c d) (ss.set r c) (at2 Ls r c)) where
  c1:=c1
  c2:=c2
  c3:=c3
  r1:=hr
  r2:=ht.1
  r3:=λk hk hp=>(ht.2 k hk hp).1
  r4:=λk hk hp e=>(ht.2 k hk hp).2 e
  st:=by
   funext k
   show((ss.set r (c:Int))[k]?).getD 0=if k=r then(c:Int)else(ss[k]?).getD 0
   grind
  L:=zpx hw (by lia)
  d:=rfl
theorem ziw(a:∀j x,x<m->(col j x).natAbs<=M)(b:1<=M)(c:x<m):(Bas col st x k).natAbs<=M:=by
 unfold Bas;split
 ·split
  ·exact b
  ·exact Yd _
 ·exact a _ _ c
theorem Good.abs(h:Good m n col b)(c:∀j x,x<m->(col j x).natAbs<=M)(d:1<=M):(∀k,k<m ->∀j,(b.L k j).natAbs<=fct m*M^m)/\b.d.natAbs<=fct m*M^m:=by
 refine⟨λk e j=>?_,?_⟩
 ·rw[h.brd.hL k e j];refine qzc λx y a _=>?_;unfold qap;split
  ·exact c _ _ a
  ·exact ziw c d a
 ·rw[h.brd.hd];exact qzc λx y a _=>ziw c d a
def zbr(m n:Nat)(b:Sta)(u:Nat):Int:=qo m λk=>if b.st k=(u:Int)then b.L k (n+m)else 0
theorem Good.val(h:Good m n col b){k u:Nat}(d:k<m)(e:b.st k=(u:Int)):zbr m n b u=b.L k (n+m):=by
 unfold zbr;rw[qQ d λi g f=>if_neg λz=>?_,if_pos e];have a:=h.basic d e d;have c:=h.basic g z d;rw[if_pos rfl]at a;rw[if_neg (Z9 f),a]at c;have:=h.brd.pos;lia
theorem zpq{u:Nat}(h:∀k,k<m->b.st k≠(u:Int)):zbr m n b u=0:=qao λk a=>if_neg (h k a)
theorem Good.fits'(h:Good m n col b)(a:lack m b (n+m)=0)(c:x<m):
 b.d*col (n+m) x=qo n λu=>col u x*zbr m n b u:=by
  rw[h.fits a c];have e:(qo n λu=>col u x*zbr m n b u)=qo n λu=>qo m λk=>if b.st k=(u:Int)then col u x*b.L k (n+m)else 0:=qj λu _=>by
   unfold zbr;rw[<- qy];exact qj λk _=>by
    split
    ·rfl
    ·lia
  rw[e,qjm];refine qj λk d=>?_;by_cases q:b.st k<0
  ·rw[if_pos q,qao λu _=>if_neg (by lia)]
  ·rw[if_neg q];have t:=h.top k d;rw[qQ (r:=(b.st k).toNat) (by lia) λu _ f=>if_neg (by lia),if_pos (by lia),Zp]
theorem qwl(h:Good m n col b)(f:Nat->Int)(at':Nat->Nat)(e:∀x,x<m->col j x=qo N λl=>f l*col (at' l) x):
 lack m b j=qo N λl=>f l*lack m b (at' l):=by
  unfold lack;have a:(qo N λl=>f l*qo m λk=>if b.st k<0 then b.L k (at' l)else 0)=qo N λl=>qo m λk=>if b.st k<0 then f l*b.L k (at' l)else 0:=qj λl _=>by
   rw[<- qy];exact qj λk _=>by
    split
    ·rfl
    ·lia
  rw[a,qjm];refine qj λk c=>?_;by_cases q:b.st k<0
  ·rw[if_pos q,h.brd.comb f at' e c];exact qj λl _=>by rw[if_pos q]
  ·rw[if_neg q];exact(qao λl _=>if_neg q).symm
theorem qvm(f:∀r∈R,r.length=n)(a:x<R.length):
 (∀j,j<n->qhv (qP R b) j x=qo R.length λl=>at2 R l j*qhv (qP R b) (n+l) x)/\qhv (qP R b) (n+R.length) x=qo R.length λl=>(b[l]?).getD 0*qhv (qP R b) (n+l) x:=by
  have e:((R[x]?).getD []).length=n:=by
   grind
  have d:∀l,l<R.length->qhv (qP R b) (n+l) x=tn ((b[x]?).getD 0)*(if l=x then 1 else 0):=λl c=>by
   show at2 (qP R b) x (n+l)=_;unfold qP;rw[qie a,<- e,zkm c]
  refine⟨λj g=>?_,?_⟩
  ·rw[qQ a λl c z=>by grind,d x a,if_pos rfl];show at2 (qP R b) x j=_;unfold qP;rw[qie a,zcz (by lia)];unfold at2;grind
  ·rw[qQ a λl c z=>by grind,d x a,if_pos rfl];show at2 (qP R b) x (n+R.length)=_;unfold qP;grind[qie,qts]
theorem Good.none'(c:∀r∈R,r.length=n)(h:Good R.length n (qhv (qP R b)) s):
 (∀j,j<n->(qo R.length λl=>at2 R l j*lack R.length s (n+l))=lack R.length s j)/\(qo R.length λl=>(b[l]?).getD 0*lack R.length s (n+l))=lack R.length s (n+R.length) :=
  ⟨λj d=>(qwl h (λl=>at2 R l j) (λl=>n+l) λx a=>(qvm c a).1 j d).symm,(qwl h (λl=>(b[l]?).getD 0) (λl=>n+l) λx a=>(qvm c a).2).symm⟩
theorem Good.told'(k:∀r∈R,r.length=n)(h:Good R.length n (qhv (qP R b)) s)(d:lack R.length s (n+R.length)=0)(a:x<R.length):
 s.d*(b[x]?).getD 0=qo n λu=>at2 R x u*zbr R.length n s u:=by
  have e:((R[x]?).getD []).length=n:=by
   grind
  have f:=h.fits' d a;have g:qhv (qP R b) (n+R.length) x=tn ((b[x]?).getD 0)*(b[x]?).getD 0:=by
   show at2 (qP R b) x (n+R.length)=_;unfold qP;grind[qie,qts]
  have i:∀u,u<n->qhv (qP R b) u x=tn ((b[x]?).getD 0)*at2 R x u:=λu c=>by
   show at2 (qP R b) x u=_;unfold qP;rw[qie a,zcz (by lia)];rfl
  rw[g,qj λu c=>by rw[i u c,J9],qy]at f;have j:tn ((b[x]?).getD 0)≠0:=by unfold tn;grind
  refine Zz j ?_;grind
theorem zbp:∀{m n:Nat},m<=n->fct m<=fct n
 |m,0,h=>by grind
 |m,n+1,h=>by
  by_cases e:m=n+1
  ·grind
  ·exact Zq (zbp (m:=m) (n:=n) (by lia)) (Nat.le_mul_of_pos_left _ (by lia))
theorem qxz(c:m<=24)(h:x<=fct m*20000000^m):x<2^700:=by
 have a:fct m*20000000^m<=fct 24*20000000^24:=Yp (zbp c) (Qhq (by decide) c);have b:fct 24*20000000^24<2^700:=by decide +kernel
 lia
theorem zdy(s x:Int):(tn s*x).natAbs=x.natAbs:=by unfold tn;split <;> lia
theorem zdg{l:LI}(h:∀x∈l,x.natAbs<=M)(j:Nat):((l[j]?).getD 0).natAbs<=M:=by
 grind
theorem zhz(z:∀r∈R,∀x∈r,x.natAbs<=20000000)(c:∀x∈b,x.natAbs<=20000000)(j x:Nat)(d:x<R.length):(qhv (qP R b) j x).natAbs<=20000000:=by
 show(at2 (qP R b) x j).natAbs<=_;unfold qP;rw[qie d];refine zdg (λy e=>?_) j;obtain⟨w,a,rfl⟩:=Ql.mp e;rw[zdy];simp only[Zh,Ql,Q6]at a;rcases a with(a|⟨i,_,rfl⟩)|rfl
 ·grind
 ·grind
 ·exact zdg c x
structure Rn(n:Nat)(R:LL)(b:LI)(T:Nat)(d:Int)(Ls:LL)(ss:LI):Prop where
 l:Ls.length=R.length
 s:ss.length=R.length
 w:∀r∈Ls,r.length=n+R.length+1
 run:∃st cs rs,Run R.length n (qhv (qP R b)) T st cs rs/\st T=qhr Ls ss d
theorem Rn.good(h:Rn n R b T d Ls ss):Good R.length n (qhv (qP R b)) (qhr Ls ss d):=by
 obtain⟨a,c,rs,r,e⟩:=h.run;rw[<- e];exact(r.at T (Qs _)).1
theorem Rn.short(h:Rn n R b T d Ls ss):T<(n+R.length)^R.length:=by
 obtain⟨a,c,rs,r,e⟩:=h.run;exact r.short
theorem Rn.first(h:SvPre n R b):Rn n R b 0 1 (qP R b) (qfj R.length) where
 l:=by simp[qP]
 s:=by simp[qfj]
 w:=λr hr=>by
  obtain⟨k,hk,rfl⟩:=Ql.mp hr;have hk:=Zi.mp hk;rw[znr,Qc hk];show(R[k]).length+_+_=_;rw[h.i.w _ (Ze _)]
 run:=⟨λ_=>qhr (qP R b) (qfj R.length) 1,λ_=>0,λ_=>0,⟨zfk h.i.w,λk hk=>by
  show _<=((qfj R.length)[k]?).getD 0;rw[qnr hk];lia,fun τ hτ=>by lia⟩,rfl⟩
theorem Rn.next(h:Rn n R b T d Ls ss)(c1:c<n)(c2:0<qad Ls ss R.length c)(c3:∀j,j<c->qad Ls ss R.length j<=0)(hr:r<R.length)(ht:Tg Ls ss (n+R.length+1) c R.length r):Rn n R b (T+1) (at2 Ls r c) (qsg Ls r c d) (ss.set r c) where
  l:=by unfold qsg;rw[List.length_mapIdx];exact h.l
  s:=by rw[Ve];exact h.s
  w:=λl hl=>by
   obtain⟨k,hk,rfl⟩:=List.mem_mapIdx.mp hl;have a:=h.w _ (Ze hk);split
   ·exact a
   ·have e:Ls[r]?=some (Ls[r]'(by rw[h.l];exact hr)):=Qc _;have a2:=h.w _ (Qh e);unfold zdc;grind
  run:=by
   obtain⟨st,cs,rs,rr,e⟩:=h.run;have s:=zyc (n:=n) (d:=d) h.l h.s h.w c1 c2 c3 hr ht;rw[<- e]at s;exact⟨_,_,_,rr.snoc s,by grind⟩
theorem Rn.bd(h:Rn n R b T d Ls ss)(p:SvPre n R b):Bd R.length (n+R.length+1) Ls ss/\0<d/\intBits d<=2000:=by
 have g:=h.good;obtain⟨i,l⟩:=g.abs (M:=20000000) (λj x a=>zhz p.z p.zb j x a) (by decide);have f:=p.i.hm;refine⟨⟨h.l,h.s,h.w,λr m x a=>?_⟩,g.brd.pos,qp (intBits_le_iff.mpr (qxz f l)) (by decide)⟩;obtain⟨k,o,rfl⟩:=Vj.mp m;obtain⟨j,q,rfl⟩:=Vj.mp a;have c:k<R.length:=by rw[<- h.l];exact o
 have e:at2 Ls k j=Ls[k][j]:=by
  unfold at2;grind
 rw[<- e];exact qp (intBits_le_iff.mpr (qxz f (i k c j))) (by decide)
theorem Rn.top(h:Rn n R b T d Ls ss):∀x∈ss,x<(n:Int):=λx a=>by
 obtain⟨k,c,rfl⟩:=Vj.mp a;have t:=h.good.top k (by rw[<- h.s];exact c);have t:(ss[k]?).getD 0<(n:Int):=t;grind
theorem Rn.nn(h:Rn n R b T d Ls ss):0<=qad Ls ss R.length (n+R.length):=qgc λk c=>by
 have a:0<=at2 Ls k (n+R.length):=h.good.sum k c;grind
theorem xcl:shB 0 1=1/\shT 0 1=0:=by decide
theorem Rn.fit(h:Rn n R b T d Ls ss)(p:SvPre n R b)(I : ¬ 0<qad Ls ss R.length (n+R.length))(w:vs.length=n)(A:∀u x,vs[u]?=some x->quw d Ls ss R.length (n+R.length+1) R.length u x):zwz n R b vs:=by
 have g:=h.good;obtain⟨B,o,C⟩:=h.bd p;have nn:=h.nn;have z:lack R.length (qhr Ls ss d) (n+R.length)=0:=by
  have:qad Ls ss R.length (n+R.length)=0:=by lia
  exact this
 have D:d≠0:=by lia
 have i:∀u x,vs[u]?=some x->(Shr x.1 x.2/\0<=x.1/\x.2∣d/\intBits x.1<=2000)/\zbr R.length n (qhr Ls ss d) u=x.1*(d/x.2):=λu x l=>by
  rcases A u x l with⟨k,c,e,rfl⟩|⟨e,rfl⟩
  ·have m:zbr R.length n (qhr Ls ss d) u=at2 Ls k (n+R.length):=g.val c (by show(ss[k]?).getD 0=_;rw[e];rfl);have E:0<=at2 Ls k (n+R.length):=g.sum k c;obtain⟨row,er⟩:∃row,Ls[k]?=some row:=⟨_,Qc (by rw[h.l];exact c)⟩
   have f:intBits (at2 Ls k (n+R.length))<=2000:=(B.at er (by lia)).2;rw[m,show n+R.length+1-1=n+R.length from rfl];generalize at2 Ls k (n+R.length)=N at *;obtain⟨q,r⟩:=qcc (t:=N) D;have F:=qjq N d;have J:=q.pos;have s:shB N d∣d:=⟨cm N d,by rw[Zp];exact F.symm⟩
   refine⟨⟨q,?_,s,qdr f⟩,?_⟩
   ·have:0<=shT N d*d:=by rw[r];exact Q2 E (by lia)
    exact Int.nonneg_of_mul_nonneg_left this o
   ·show N=shT N d*(d/shB N d);refine Zs (a:=shB N d) (by lia) ?_;rw[J9,Qib s,r]
  ·have m:zbr R.length n (qhr Ls ss d) u=0:=zpq λk c y=>e k c (by
    have y:(ss[k]?).getD 0=(u:Int):=y;rw[Qc (by rw[h.s];exact c)]at y ⊢;exact congrArg some y)
   obtain⟨G,H⟩:=xcl;rw[m,G,H];exact⟨⟨⟨by decide,by decide⟩,by decide,⟨d,by lia⟩,intBits_le_iff.mpr (by decide +kernel)⟩,by lia⟩
 refine⟨w,d,o,C,λx l=>?_,λk c=>?_⟩
 ·obtain⟨u,v⟩:=Qdo l;exact(i u x v).1
 ·have t:=g.told' p.i.w z c;have t:d*(b[k]?).getD 0=_:=t;rw[t];refine qj λu v=>?_;have j:vs[u]?=some (vs[u]'(by lia)):=Qc _;rw[(i u _ j).2,j];rfl
theorem qvx:∀{ws:LI}{g:Nat},qaq g ws=0->g=0 /\ ∀x∈ws,x=0
 |[],g,h=>⟨h,λx d=>by cases d⟩
 |w::ws,g,h=>by
  obtain⟨a,b⟩:=qvx (ws:=ws) (g:=Yy g w) h;have c:=Int.gcd_eq_zero_iff.mp a;grind
def wts(a:LL)(b:LI)(n m:Nat):LI:=(Qm m).map λl=>qad a b m (n+l)
theorem Rn.none(h:Rn n R b T d Ls ss)(p:SvPre n R b)(k:0<qad Ls ss R.length (n+R.length))(s:∀j,j<n->qad Ls ss R.length j<=0):
 0<qaq 0 (wts Ls ss n R.length)/\zry n R b ((wts Ls ss n R.length).map λx=>x/(qaq 0 (wts Ls ss n R.length):Int)):=by
  obtain⟨m,i⟩:=h.good.none' p.i.w;have t:(wts Ls ss n R.length).length=R.length:=by simp[wts]
  have w:∀l,l<R.length->((wts Ls ss n R.length)[l]?).getD 0=qad Ls ss R.length (n+l):=λl f=>by
   unfold wts;rw[Qa,Qo f];rfl
  have m:∀j,j<n->(qo R.length λl=>at2 R l j*qad Ls ss R.length (n+l))=qad Ls ss R.length j:=m;have i:(qo R.length λl=>(b[l]?).getD 0*qad Ls ss R.length (n+l))=qad Ls ss R.length (n+R.length):=i;have u:0<qaq 0 (wts Ls ss n R.length):=by
   rcases Qaj (qaq 0 (wts Ls ss n R.length))with z|z
   ·have a:=(qvx z).2;rw[qao λl f=>by
     have:=a _ (Ql.mpr ⟨l,Zi.mpr f,rfl⟩);rw[this,Yr]]at i
    lia
   ·exact z
  have v:=qek (wts Ls ss n R.length) 0;refine⟨u,?_⟩;generalize qaq 0 (wts Ls ss n R.length)=g at *;have at':∀l,l<R.length->(g:Int)*((((wts Ls ss n R.length).map λx=>x/(g:Int))[l]?).getD 0)=qad Ls ss R.length (n+l):=λl f=>by
   have e:(wts Ls ss n R.length)[l]?=some (qad Ls ss R.length (n+l)):=by unfold wts;rw[Qa,Qo f];rfl
   rw[Qa,e];exact Vi (v _ (Qh e))
  have o:(0:Int)<g:=by lia
  refine⟨by rw[Qe,t],λj r=>?_,?_⟩
  ·have q:(g:Int)*(qo R.length λl=>at2 R l j*((((wts Ls ss n R.length).map λx=>x/(g:Int))[l]?).getD 0))=qad Ls ss R.length j:=by
    rw[<- m j r,<- qy];exact qj λl f=>by rw[<- at' l f];grind
   have c:=s j r;rcases Zk 0 (qo R.length λl=>at2 R l j*((((wts Ls ss n R.length).map λx=>x/(g:Int))[l]?).getD 0))with y|y
   ·have:=Za o y;lia
   ·exact y
  ·have q:(g:Int)*(qo R.length λl=>(b[l]?).getD 0*((((wts Ls ss n R.length).map λx=>x/(g:Int))[l]?).getD 0))=qad Ls ss R.length (n+R.length):=by
    rw[<- i,<- qy];exact qj λl f=>by rw[<- at' l f];grind
   rw[<- q]at k;rw[Zp]at k;exact Int.pos_of_mul_pos_left k o
theorem Rn.gbits(h:Rn n R b T d Ls ss)(p:SvPre n R b)(a:0<qad Ls ss R.length (n+R.length)):intBits (qaq 0 (wts Ls ss n R.length):Int)<=9000:=by
 have g:=h.good;obtain⟨e,_⟩:=g.abs (M:=20000000) (λj x f=>zhz p.z p.zb j x f) (by decide);have c:=p.i.hm;have i:(qo R.length λl=>(b[l]?).getD 0*qad Ls ss R.length (n+l))=qad Ls ss R.length (n+R.length):=(g.none' p.i.w).2;rw[<- i]at a;obtain⟨l,o,q⟩:=qtj a;have u:qad Ls ss R.length (n+l)≠0:=λz=>by rw[z,Yr]at q;lia
 have r:=qek (wts Ls ss n R.length) 0 (qad Ls ss R.length (n+l)) (Ql.mpr ⟨l,Zi.mpr o,rfl⟩);have le:=Qau (by lia) (Qip.mp r);have v:(qad Ls ss R.length (n+l)).natAbs<=R.length*2^700:=qtl λk s=>by
  by_cases q:(ss[k]?).getD 0<0
  ·rw[if_pos q];exact Yq (qxz c (e k s (n+l)))
  ·rw[if_neg q];exact Yd _
 refine qp (intBits_le_iff (m:=710).mpr ?_) (by decide);have:R.length*2^700<=24*2^700:=Qbb _ c;have t:24*2^700<2^710:=by decide +kernel
 rw[Int.natAbs_natCast];lia
def qwt(ds:List Qj)(q:Qj->Prop):Prop :=∃(n:Nat)(R:LL)(b:LI),ds=[qgx R,.list (b.map .int)]/\SvPre n R b/\(∀a,zwz n R b a->q (.tuple [.str "fits",.list (a.map λx=>dSh x.1 x.2)])) /\ ∀c,zry n R b c->q (.tuple [.str "none",.list (c.map .int)])
theorem BAt.go(h:BAt K C H F a dx qa n d Ls ss vl)(g:Go F H F' H'):BAt K C H' F' a dx qa n d Ls ss vl :=
 ⟨g.h _ _ h.ha,h.hl.mono g.f,g.h _ _ h.hq,qqz g h.ha h.fa,qqz g h.hq h.fq⟩
def lkD(n m:Nat)(a:LL)(b:LI):Qj :=.list (((Qm (n+m+1)).map (qad a b m)).map .int)
theorem zhg(b:BAt K C H F a dx qa n d Ls ss vl)(j:Same F H)(o:Bd m (n+m+1) Ls ss)(p:n<=20)(r:m<=24)(k:∀e c i,Go F H e c->Is K e (lkD n m Ls ss) i->Q i c):zmj K C qzl [.ref a] H Q E:=by
  refine⟨a,dx,_,[],upd F qa (.lst (ss.map V.int)),bNm,bFs n d Ls ss,[],λl=>l=((Qm (n+m+1)).map (qad Ls ss m)).map .int,rfl,b.ha,qmw j b.hq,b.flds,qah,⟨n,d,Ls,ss,m,rfl,rfl,rfl,⟨o,p,r⟩,rfl⟩,λl s w e c g f t h u q=>?_⟩;subst q;have v:=u.ints_inv;subst v;exact k _ c (.ref s) (zxf (zqn b.fq b.hq g) f h) (qeq (SqL.of qk) (qhi _))
theorem ziv:∀vs:List (Int×Int),qkd (vs.map λx=>dSh x.1 x.2)=true
 |[]=>rfl
 |x::r=>by
  rw[Qq];unfold qkd;rw[ziv r];simp[dSh,qvf,qkd]
theorem zwo{n m w:Nat}(b:BAt K C H F a dx qa n d Ls ss vl)(p:Same F H)(r:Bd m w Ls ss/\0<d/\intBits d<=2000/\1<=w/\n<=900 /\ ∀x∈ss,x<(n:Int))(k:∀(vs:List (Int×Int))c xs f e,Go F H f e->vs.length=n->(∀u x,vs[u]?=some x->quw d Ls ss m w m u x)->H c=none->e c=some (.lst xs)->Iss K f (vs.map λx=>dSh x.1 x.2) xs->Q (.ref c) e):zmj K C qyh [.ref a] H Q E:=by
  refine⟨a,dx,_,[],upd F qa (.lst (ss.map V.int)),bNm,bFs n d Ls ss,[],λl =>∃vs:List (Int×Int),l=(vs.map λx=>dSh x.1 x.2)/\vs.length=n /\ ∀u x,vs[u]?=some x->quw d Ls ss m w m u x,rfl,b.ha,qmw p b.hq,b.flds,qah,⟨n,d,Ls,ss,m,w,rfl,rfl,rfl,r,λvs h i=>⟨vs,rfl,h,i⟩⟩,λl c xs f e g j s o t q=>?_⟩;obtain⟨vs,rfl,h,i⟩:=q;exact k vs c xs _ e (zqn b.fq b.hq g) h i j o (Iss.off (g.f.at qk) (ziv vs) t)
theorem zpb(l:List α)(h:i+1<=l.length):qrl l (some (i:Int)) (some (-1))=(l.drop i).take (l.length-1-i):=by
 have e:HT.sIx l.length l.length (some (-1))=l.length-1:=by
  show(if(-1:Int)<0 then((-1:Int)+(l.length:Int)).toNat else min (-1:Int).toNat l.length)=l.length-1;rw[if_pos (by decide)];lia
 unfold qrl;rw[HT.sIx_nat,e,Vy (by lia)]
theorem ztg:qrl (((Qm (n+m+1)).map (qad Ls ss m)).map Q8) none (some (n:Int))=((Qm n).map (qad Ls ss m)).map .int:=by
 rw[zxu _ (by lia),<- Qav,<- Qav,Qky,Yx,Vy (by lia)]
theorem xad:qrl (((Qm (n+m+1)).map (qad Ls ss m)).map Q8) (some (n:Int)) (some (-1))=(wts Ls ss n m).map .int:=by
 rw[zpb _ (by simp)];refine Zt λk=>?_;by_cases a:k<m
 ·rw[Qfb (by simp;lia),List.getElem?_drop,Qa,Qa,Qo (by lia)];unfold wts;rw[Qa,Qa,Qo a];rfl
 ·rw[Q5 (by simp;lia),Q5 (by simp[wts];lia)]
theorem qti(e:σ[i]?=some (some (.ref a)))(h:H a=some (.ins C dx fs))(l:fs.lookup m=none)(k:sp [.ref a] H Q E0):zls C m sp [] E0 (zbm i) zrf σ H Q:=⟨_,e,a,dx,fs,rfl,h,l,k⟩
theorem xea{g:Type}{l:List g}(h:l.length=6):∃a b c d e f,l=[a,b,c,d,e,f]:=by
 match l,h with
 |[a,b,c,d,e,f],_=>grind
def SvW(K:Qd)(C:Addr)(F H:Hp)(n:Nat)(R:LL)(b:LI)(l:Nat)(m:St)(g:Hp):Prop :=∃T d e f c a o h p i j k q,
 l+T=(n+R.length)^R.length/\m=[some i,some j,some (.int n),some (.ref a),some k,q]/\Go F H c g/\BAt K C g c a o h n d e f p/\H a=none/\H h=none /\
 Is K c (qgx R) i/\Is K c (.list (b.map .int)) j/\Is K c (lkD n R.length e f) k/\Rn n R b T d e f
theorem qfd:FnScope [Sh,SM,Sj,"board","lack",Sf] [Sh,SM] (defScope zdq):=sc0
theorem zjw(F:Def K mg "solved" zdq [Sh,SM])(T:Txt K mg cs)(o:Ok P w K mg base "first_above" 1 [S6] (PSp K qir))(C:Ok P w K mg base "lowest" 2 ["weights"] (FSp K qwo))(k:OkM P w K mg base cs.Board "__init__" 2 [Sk,Sj,Sh,SM] (zqy K cs.Board))(t:OkM P w K mg base cs.Board "lack" 1 [Sk] (zmj K cs.Board qzl))(l:OkM P w K mg base cs.Board "bring_in" 3 [Sk,Sf] (zis K cs.Board))(u:OkM P w K mg base cs.Board "told" 4 [Sk] (zmj K cs.Board qyh)):Ok P w K mg base "solved" 5 [Sh,SM] (SolSp K qwt):=by
  refine F.ok qfd (by rintro vs H Q E ⟨F,ds,q,_,i,⟨_,_,_,h,_⟩,_⟩;rw[i.len,h];rfl) λf cdv A outer s H vs Q E X h=>?_;obtain⟨F0,ds,q,sm,hi,⟨n,R,b,rfl,D,k1,k2⟩,kk⟩:=h;obtain⟨f1,fd1,G,hm1,hb1⟩:=t.ex;obtain⟨f2,fd2,S,hm2,hb2⟩:=l.ex;obtain⟨f3,fd3,F3,hm3,hb3⟩:=u.ex;obtain⟨f4,fd4,J,hm4,hb4⟩:=k.ex;refine⟨_,qW (VS.ps (qz (i:=2) qfd.nd (qel (xam (qc 0)) (qA qdh T.len_ L2.boot_len (qd (qr (qc 0) qf) qe)) qf))) (qW (VS.ps (qar (VW.pt (qjn (qN zeb (qc 2) (qdo T.MOST_UNKNOWNS_)) (qgi (qN zeb (qA qdh T.len_ L2.boot_len (qd (qc 0) qe)) (qdo T.MOST_ROWS_))))) qbw qE)) (qW (qge (i:=3) qfd.nd rfl (by first|exact Vn rfl|grind) (ztc ⟨T.Board_mk,hm4.at_,hm4.fn,T.Board_kp⟩ J X.m rfl T.Board_ hb4 .nil qsu (qM (pv 2) (qM (pv 0) (qM (pv 1) qbe)))) rfl (by first|grind|exact .inr rfl))
   (qW (qge (i:=4) qfd.nd rfl (by first|exact Vn rfl|grind) (qta (pv 3) T.Board_c hm1 G X.m hb1 .nil qsu) rfl (by first|grind|exact .inr rfl))
   (qW (zce Qeb (VT.pt (qN zeb (qr (qc 4) (qes qf)) qf)) (qW (VS.ps (qz (i:=5) qfd.nd (qt o.c X.m (qd (qC (qhj (qc 4) qyw (qfn (qc 2)))) qe)))) (qW (zsg (VT.pt (qN qqy (qc 5) qdk)) (qei (qkr (qzz (qM zfr (qM (VF.pe (qcp C.c X.m (qd (qC (qhj (qc 4) (qfn (qc 2)) (qfn (qes qf)))) qe))) qbe))))) qyk) (qW (qko (qyq (pv 3) T.Board_c hm2 S X.m hb2 .nil qsu (qM (pv 5) qbe))) (qei (qge (i:=4) qfd.nd rfl (by first|exact Vn rfl|exact Y3 rfl) (qta (pv 3) T.Board_c hm1 G X.m hb1 .nil qsu) rfl (by first|exact .inl rfl|exact .inr rfl)))))))
   (qei (qkr (qzz (qM zfr (qM (qta (pv 3) T.Board_c hm3 F3 X.m hb3 .nil qsu) qbe))))))))),?_⟩
  have L:=D.i.hn;have M:=D.i.hm;refine⟨⟨H,H,F0⟩,_,F0,{ nx:=λe=>e=[.val (qgx R),.val (.list (b.map .int)),.val (.int n),.non,.non,.non],rt:=λ_ _=>False },qde sm hi,?_,⟨λe1 G I σ1 I1 s1 q1=>?_,λ_ _ _ _ _ _ _ _ _ q=>q.elim,λ_ _ _ _ _ _ q=>q.elim,λ_ _ _ _ _ _ q=>q.elim⟩⟩
  ·have hR0:R≠[]:=λz=>by have:=D.m1;rw[z]at this;simp at this
   obtain⟨r0,R0,eR⟩:=Q1 hR0;have l0:=D.i.w r0 (by rw[eR];simp);have aR:atI (R.map qci) 0=some (qci r0):=by rw[eR];exact qmq _ _
   have eT:zxi (qgx R)=true:=by rw[eR];rfl
   refine⟨λx z=>(by cases z),?_⟩;show if zxi (qgx R)=true then _ else _
   rw[if_pos eT];refine⟨qci r0,aR,?_⟩;show(_:Sto)=_;rw[show((r0.map Q8).length:Int)=n by rw[Qe,l0]];rfl
  have q1:=q1;subst q1;refine⟨⟨H,H,F0⟩,_,G,{ nx:=λe=>e=[.val (qgx R),.val (.list (b.map .int)),.val (.int n),.non,.non,.non],rt:=λ_ _=>False },I1,?_,⟨λY S H2 σ2 U s2 q2=>?_,λ_ _ _ _ _ _ _ _ _ q=>q.elim,λ_ _ _ _ _ _ q=>q.elim,λ_ _ _ _ _ _ q=>q.elim⟩⟩
  ·refine qjv (λz=>by exfalso;lia) (λ_=>?_);refine qjv (λz=>by exfalso;rw[Qe]at z;lia) (λ_=>?_);rfl
  have q2:=q2;subst q2;have g2:=U.goOf;obtain⟨x0,x1,x2,x3,x4,x5,m⟩:=xea U.len.symm;obtain⟨vr,e0,ir⟩:=(show∃v,x0=some v/\Is K S (qgx R) v by have:=U.slot 0;rw[m]at this;exact this)
  obtain⟨vb,e1,ib⟩:=(show∃v,x1=some v/\Is K S (.list (b.map .int)) v by have:=U.slot 1;rw[m]at this;exact this)
  obtain⟨v2,Y,i2⟩:=(show∃v,x2=some v/\Is K S (.int n) v by have:=U.slot 2;rw[m]at this;exact this)
  rw[i2.int_inv]at Y;rw[e0,e1,Y]at m;subst m;refine⟨.int n,rfl,vr,rfl,vb,rfl,λx N hx hdx hne=>?_⟩;have h2x:upd H2 N (.own x) x=none:=by rw[qi (Z9 hne)];exact hx
  have gm:Go F0 H S (upd (upd H2 N (.own x)) x (.ins cs.Board N [])):=g2.trans ((Go.side g2.fh hdx).trans (Go.side (g2.fh.trans (qbh hdx)) h2x));refine⟨x,N,S,vr,vb,n,R,b,rfl,qk,qB g2.fh hx,gm.fh,ir,ib,D.i,λF3 H3 vl qa hqa V Z=>⟨rfl,?_⟩⟩;have na:=qB g2.h hx;have nq:=qB gm.h hqa;have g3:=GoX.go gm V na nq;have rn0:=Rn.first D;refine qti rfl Z.ha rfl (zhg Z g3.fh (rn0.bd D).1 L M λJ H4 vk g4 ik=>?_);refine⟨SvW K cs.Board F0 H n R b,⟨(n+R.length)^R.length,0,_,_,_,J,x,N,qa,vl,vr,vb,vk,_,rfl,rfl,g3.trans g4,Z.go g4,na,nq,(ir.mono V.f).mono g4.f,(ib.mono V.f).mono g4.f,ik,rn0⟩,?_⟩;rintro mm σ I ⟨T',d,y,B,G,a,N,qa,vl,vr,vb,vk,o5,hT,rfl,g,Z,na,nq,ir,ib,ik,rn⟩;obtain⟨hB,d0,d1⟩:=rn.bd D;have hE:EnvOk K ⟨I,I,G⟩ G I [.val (qgx R),.val (.list (b.map .int)),.val (.int n),.obj a cs.Board bNm [],.val (lkD n R.length y B),.non] [some vr,some vb,some (.int n),some (.ref a),some vk,o5] :=
   qpz g.fh ⟨_,_,rfl,⟨⟨vr,rfl,ir⟩,rfl⟩,_,_,rfl,⟨⟨vb,rfl,ib⟩,rfl⟩,_,_,rfl,⟨⟨_,rfl,qZ _⟩,rfl⟩,_,_,rfl,⟨⟨N,_,rfl,Z.ha,rfl,λf d z=>by cases z⟩,rfl⟩,_,_,rfl,⟨⟨vk,rfl,ik⟩,rfl⟩,_,_,rfl,⟨trivial,rfl⟩,rfl⟩
  refine⟨⟨I,I,G⟩,_,G,λbb e=>bb=decide (0<qad y B R.length (n+R.length))/\e=[.val (qgx R),.val (.list (b.map .int)),.val (.int n),.obj a cs.Board bNm [],.val (lkD n R.length y B),.non],hE,?_,λbb S H2 Y U s2 q2=>?_⟩
  ·refine⟨.int (qad y B R.length (n+R.length)),atI_last ?_,?_⟩
   ·rw[Qe,Qe,Z1,Qcd,Qa,Qa,Qo (by lia)];rfl
   ·exact⟨rfl,rfl⟩
  obtain⟨rfl,rfl⟩:=q2;by_cases h0:0<qad y B R.length (n+R.length)
  ·rw[decide_eq_true h0,if_pos rfl];refine⟨λσ' H' =>∃m',m'<mm/\SvW K cs.Board F0 H n R b m' σ' H',λσ' H' z=>z,?_⟩;refine⟨⟨I,I,G⟩,_,S,{ nx:=λe =>∃dd,((dd = .none /\ ∀j,j<n->qad y B R.length j<=0) \/ ∃c:Nat,dd = .int c/\c<n/\0<qad y B R.length c /\ ∀j,j<c->qad y B R.length j<=0)/\e=[.val (qgx R),.val (.list (b.map .int)),.val (.int n),.obj a cs.Board bNm [],.val (lkD n R.length y B),.val dd],rt:=λ_ _=>False },U,?_,⟨λe3 F3 H3 σ3 I3 s3 q3=>?_,λ_ _ _ _ _ _ _ _ _ q=>q.elim,λ_ _ _ _ _ _ q=>q.elim,λ_ _ _ _ _ _ q=>q.elim⟩⟩
   ·rintro r rfl;rw[ztg];refine⟨(Qm n).map (qad y B R.length),rfl,λz=>⟨.none,.inl ⟨rfl,λj hj=>z _ (Ql.mpr ⟨j,Zi.mpr hj,rfl⟩)⟩,rfl⟩,λc x z x0 zj=>?_⟩;have hc:c<n:=by
     have:=(Qp.mp z).1;simpa using this
    rw[Qa,Qo hc]at z;have z:=Qr z;refine⟨.int c,.inr ⟨c,rfl,hc,by rw[z];exact x0,λj hj=>zj j _ hj ?_⟩,rfl⟩;rw[Qa,Qo (by lia)];rfl
   obtain⟨dd,hdd,rfl⟩:=q3;refine⟨⟨I,I,G⟩,_,F3,λbb e=>bb=qbu dd/\e=[.val (qgx R),.val (.list (b.map .int)),.val (.int n),.obj a cs.Board bNm [],.val (lkD n R.length y B),.val dd],I3,?_,λbb J H4 e4 O s4 q4=>?_⟩
   ·exact⟨rfl,rfl,rfl⟩
   obtain⟨rfl,rfl⟩:=q4;rcases hdd with⟨rfl,hc⟩|⟨c,rfl,c1,c2,c3⟩
   ·show if true=true then _ else _
    rw[if_pos rfl];obtain⟨gp,hW⟩:=rn.none D h0 hc;refine⟨⟨I,I,G⟩,_,J,λds e=>ds=((wts y B n R.length).map λx=>x/(qaq 0 (wts y B n R.length):Int)).map .int,O,?_,λla xs ds F5 H5 e5 I5 s5 h1 h2 h3 h4 h5 h6 h7=>⟨szl,λp hpp=>?_⟩⟩
    ·rintro r rfl;rw[xad];exact⟨wts y B n R.length,rfl,⟨by simp[wts];lia,gp,rn.gbits D h0⟩,rfl⟩
    subst h7;obtain⟨F6,W,i6,p1,p2⟩:=zgo (w := "none") (g.trans I5.goOf) (qB g.h h4) h1 h6 hpp;exact kk _ _ p la xs F6 _ W i6 p1 (qB g.h h4) p2 (by rw[h6.len];simp[wts];lia) (k2 _ hW)
   ·show if false=true then _ else _
    rw[if_neg (by decide)];have g4:=O.goOf;have A4:=Z.go g4;obtain⟨x0,x1,x2,x3,x4,x5,m⟩:=xea O.len.symm;obtain⟨vr',e0,ir'⟩:=(show∃v,x0=some v/\Is K J (qgx R) v by have:=O.slot 0;rw[m]at this;exact this)
    obtain⟨vb',e1,ib'⟩:=(show∃v,x1=some v/\Is K J (.list (b.map .int)) v by have:=O.slot 1;rw[m]at this;exact this)
    obtain⟨v2,Y,i2⟩:=(show∃v,x2=some v/\Is K J (.int n) v by have:=O.slot 2;rw[m]at this;exact this)
    have e3:x3=some (.ref a):=by
     have:=O.slot 3;rw[m]at this;obtain⟨_,_,z,_⟩:=this;exact z
    obtain⟨v5,e5,i5⟩:=(show∃v,x5=some v/\Is K J (.int c) v by have:=O.slot 5;rw[m]at this;exact this)
    obtain⟨vk',e4,_⟩:=(show∃v,x4=some v/\Is K J (lkD n R.length y B) v by have:=O.slot 4;rw[m]at this;exact this)
    rw[i2.int_inv]at Y;rw[i5.int_inv]at e5;rw[e0,e1,Y,e3,e4,e5]at m;subst m;refine⟨.ref a,rfl,a,N,_,rfl,A4.ha,rfl,.int c,rfl,a,N,qa,J,vl,n,d,y,B,R.length,c,rfl,A4,O.fh,⟨hB,c1,M,L,d0,d1,zmq (b:=qhr y B d) c2⟩,λF5 H5 vl' r hr' ht V A5=>?_⟩;have rn':=rn.next c1 c2 c3 hr' ht;have gg:=GoX.go (g.trans g4) V na nq;have hS:=rn'.short;refine qti rfl A5.ha rfl (zhg A5 V.fh (rn'.bd D).1 L M λF6 H6 vk6 W ik6=>?_);exact⟨(n+R.length)^R.length-(T'+1),by lia,T'+1,_,_,_,F6,a,N,qa,vl',vr',vb',vk6,_,by lia,rfl,gg.trans W,A5.go W,na,nq,(ir'.mono V.f).mono W.f,(ib'.mono V.f).mono W.f,ik6,rn'⟩
  ·rw[decide_eq_false h0,if_neg (by decide)];have g2:=U.goOf;have A2:=Z.go g2;refine qti rfl A2.ha rfl (zwo A2 U.fh ⟨hB,d0,d1,by lia,by lia,rn.top⟩ λvs lb xs F3 H3 g3 hv1 hv2 hlb hH3 iss=>⟨szl,λp hpp=>?_⟩);have nl:=qB (g.trans g2).h hlb;obtain⟨F6,W,i6,p1,p2⟩:=zgo (w := "fits") ((g.trans g2).trans g3) nl hH3 iss hpp;exact kk _ _ p lb xs F6 _ W i6 p1 nl p2 (by rw[iss.len,Qe];lia) (k1 vs (rn.fit D h0 hv1 hv2))
def qew(ds:List Qj)(q:Qj->Prop):Prop :=∃b r R,ds=[qU b (r::R)]/\r.length<=4/\q .none
theorem qkx:FnScope [Sd] [Sd] (defScope qfw):=sc0
theorem qkt(F:Def K mg S7 qfw [Sd])(T:Txt K mg cs)(a:Ok P w K mg base SC 1 [Sd] (PSp K qba)):Ok P w K mg base S7 2 [Sd] (PSp K qew):=by
  refine F.vok qkx (by rintro d q ⟨_,_,_,h,_⟩;rw[h];rfl) λf e A c s H E g d q h=>?_;obtain⟨b,r,R,rfl,i,h⟩:=h;refine⟨_,(qh (qar (qN zeb (qt a.c g.m (qd (qc 0) qe)) (qdo T.MOST_COMPARED_)) qbw qE)),?_⟩;exact⟨b,r,R,rfl,qjv (λz=>by lia) (λ_=>h)⟩
def qrc(ds:List Qj)(q:List Qj->Prop):Prop :=∃(r:LI)(j n:Nat),ds=[qfv r,.int j,.int n]/\(r.length<=12/\1<=n/\n<=12)/\q ((qcu r j n).map .int)
theorem zed:FnScope [Se,"new",Sg] [Se,"new",Sg] (defScope qvt):=sc0
theorem zeu(F:Def K mg "seen_as" qvt [Se,"new",Sg])(T:Txt K mg cs):Ok P w K mg base "seen_as" 1 [Se,"new",Sg] (FSp K qrc):=by
  refine F.vokF zed (by rintro k q ⟨_,_,_,h,_⟩;rw[h];rfl) λf l A c s H E m k q h=>?_;obtain⟨r,j,n,rfl,⟨o,D,p⟩,h⟩:=h;refine⟨_,(qh (qem (qH (caps:=[Se,"new",Sg]) (own:=[Sf]) (ix:=[0,1,2]) rfl ⟨rfl,rfl,rfl,rfl,rfl,rfl⟩ (qS T.range_ (qx qR (qA qdh T.len_ L2.boot_len (qd (qc 0) qe)) (qc 2))) (λ_ _ _ _=>(ql (i:=3) (show Zb ([Se,"new",Sg,Sf]:List Str) by decide))) (λ_ _ _ _=>(qel (qN (qni m.units) (qx qkz (qc 3) (qc 2)) (qc 1)) (qr (qc 0) (qx qjo (qc 3) (qc 2))) qf))))),?_⟩;have t:(((r.map Q8).length:Nat):Int)=r.length:=by rw[Qe]
  have G:=Yp o p;have u:((r.length:Nat):Int)*((n:Nat):Int)=((r.length*n:Nat):Int):=by rw[Qan]
  refine⟨Jy (qbr (by lia) (by lia)),?_⟩;rw[t,u];refine⟨⟨by lia,by lia⟩,qI ((qcu r j n).map .int) (by rw[qK,Yx];simp[qcu]) (qm (by simp[qcu];lia)) (λe =>∃s,e=[.val (qfv r),.val (.int j),.val (.int n),s]) ⟨_,rfl⟩ ?_ ⟨_,rfl,h⟩⟩;rintro i x I e v a ⟨s,rfl⟩;obtain⟨J,rfl⟩:=qag v;rw[Y5];have b:i<r.length*n:=by lia
  have d:((i:Nat):Int)%((n:Nat):Int)=((i%n:Nat):Int):=by rw[Int.natCast_emod]
  have y:((i:Nat):Int)/((n:Nat):Int)=((i/n:Nat):Int):=by rw[Qfw]
  have B:=Nat.div_lt_of_lt_mul (by rw[Qbq];exact b);have g:((qcu r j n).map Q8)[i]?=some (.int (if i%n=j then(r[i/n]?).getD 0 else 0)):=by
   unfold qcu;rw[Qa,Qa,Qo b];rfl
  have C:r[i/n]?=some ((r[i/n]?).getD 0):=by rw[Qc B];rfl
  refine⟨by lia,rfl,rfl,qif (λz=>?_) (λz=>?_)⟩
  ·rw[d]at z;refine⟨⟨by lia,qp (qbr (by lia) (by lia)) (by decide)⟩,?_⟩;rw[y];refine⟨.int ((r[i/n]?).getD 0),qax (by rw[Qa,C];rfl),qv (g.trans ?_) a,_,rfl⟩;rw[if_pos (by lia)]
  ·rw[d]at z;refine⟨qv (g.trans ?_) a,_,rfl⟩;rw[if_neg (by lia)]
def qhu(ds:List Qj)(q:List Qj->Prop):Prop :=∃(b:Int)(r:LI)(R:LL)(i n:Nat),ds=[qU b (r::R),.int i,.int n]/\(r.length<=12/\1<=n/\n<=12)/\q ((qnl b i r.length n).map .int)
theorem qpn:FnScope [Sc,"old",Sg] [Sc,"old",Sg] (defScope qil):=sc0
theorem qpj(F:Def K mg "shown_in_all" qil [Sc,"old",Sg])(T:Txt K mg cs)(a:Ok P w K mg base SC 1 [Sd] (PSp K qba)):Ok P w K mg base "shown_in_all" 2 [Sc,"old",Sg] (FSp K qhu):=by
  refine F.vokF qpn (by rintro o q ⟨_,_,_,_,_,h,_⟩;rw[h];rfl) λf p A d s H E l o q h=>?_;obtain⟨b,r,R,i,n,rfl,⟨t,B,u⟩,h⟩:=h;refine⟨_,(qh (qem (qH (caps:=[Sc,"old",Sg]) (own:=[Sf]) (ix:=[0,1,2]) rfl ⟨rfl,rfl,rfl,rfl,rfl,rfl⟩ (qS T.range_ (qx qR (qt a.c l.m (qd (qc 0) qe)) (qc 2))) (λ_ _ _ _=>(ql (i:=3) (show Zb ([Sc,"old",Sg,Sf]:List Str) by decide))) (λ_ _ _ _=>(qel (qN (qni l.units) (qx qjo (qc 3) (qc 2)) (qc 1)) (qr (qc 0) qf) qf))))),?_⟩;have C:r.length*n<=12*12:=Yp t u;have v:((r.length:Nat):Int)*((n:Nat):Int)=((r.length*n:Nat):Int):=by rw[Qan]
  refine⟨b,r,R,rfl,Jy (qbr (by lia) (by lia)),?_⟩;show _/\_;rw[v];refine⟨⟨by lia,by lia⟩,qI ((qnl b i r.length n).map .int) (by rw[qK,Yx];simp[qnl]) (qm (by simp[qnl];lia)) (λe =>∃s,e=[.val (qU b (r::R)),.val (.int i),.val (.int n),s]) ⟨_,rfl⟩ ?_ ⟨_,rfl,h⟩⟩;rintro k x D e y c ⟨s,rfl⟩;obtain⟨G,rfl⟩:=qag y;rw[Y5];have j:k<r.length*n:=by lia
  have m:((k:Nat):Int)/((n:Nat):Int)=((k/n:Nat):Int):=by rw[Qfw]
  have g:((qnl b i r.length n).map Q8)[k]?=some (.int (if k/n=i then b else 0)):=by
   unfold qnl;rw[Qa,Qa,Qo j];rfl
  refine⟨⟨by lia,qp (qbr (by lia) (by lia)) (by decide)⟩,rfl,rfl,qif (λz=>?_) (λz=>?_)⟩
  ·rw[m]at z;refine⟨_,rfl,qv (g.trans ?_) c,_,rfl⟩;rw[if_pos (by lia)]
  ·rw[m]at z;refine⟨qv (g.trans ?_) c,_,rfl⟩;rw[if_neg (by lia)]
def qlx(ds:List Qj)(q:List Qj->Prop):Prop :=∃(b:Int)(R:LL)(m:Nat)(c:Int)(S:LL)(n:Nat),ds=[qU b R,qU c S]/\CmpPre b R m c S n/\q ((eqL b R m n).map qci)
theorem qet:FnScope [Sc,Sa,Sg,Sh,Se] [Sc,Sa] (defScope qoo):=sc0
theorem qxm(F:Def K mg "equations" qoo [Sc,Sa])(T:Txt K mg cs)(g:Ok P w K mg base SC 1 [Sd] (PSp K qba))(l:Ok P w K mg base "seen_as" 1 [Se,"new",Sg] (FSp K qrc))(a:Ok P w K mg base "shown_in_all" 2 [Sc,"old",Sg] (FSp K qhu)):Ok P w K mg base "equations" 3 [Sc,Sa] (FSp K qlx):=by
  refine F.vokF qet (by rintro X q ⟨_,_,_,_,_,_,h,_⟩;rw[h];rfl) λf Y A C s H E p X q h=>?_;obtain⟨b,R,m,c,S,n,rfl,o,h⟩:=h;refine⟨_,(qg (qz (i:=2) qet.nd (qt g.c p.m (qd (qc 1) qe)))
   (qg (qfm (i:=3) qet.nd (qbp qe))
   (qg (qau rfl (qV (qr (qc 0) qf)) (ql (i:=4) qet.nd) (qh (qns 3 (qH (caps:=[Sg,Se]) (own:=[Ss]) (ix:=[2,4]) rfl ⟨rfl,rfl,rfl,rfl,rfl,rfl⟩ (qS T.range_ (qc 2)) (λ_ _ _ _=>(ql (i:=2) (show Zb ([Sg,Se,Ss]:List Str) by decide))) (λ_ _ _ _=>(qC (qcp l.c p.m (qd (qc 1) (qd (qc 2) (qd (qc 0) qe))))))))))
   (qg (qns 3 (qH (caps:=[Sc,Sg]) (own:=[Ss]) (ix:=[0,2]) rfl ⟨rfl,rfl,rfl,rfl,rfl,rfl⟩ (qS T.range_ (qt g.c p.m (qd (qc 0) qe))) (λ_ _ _ _=>(ql (i:=2) (show Zb ([Sc,Sg,Ss]:List Str) by decide))) (λ_ _ _ _=>(qC (qcp a.c p.m (qd (qc 0) (qd (qc 2) (qd (qc 1) qe))))))))
   (qh (qgv 3)))))),?_⟩
  have w1:=o.w1;have Z:=o.w2;have m1:=o.m1;have m2:=o.m2;have n1:=o.n1;have M:=o.n2;have hl:=o.l;obtain⟨D,N,G⟩:=Q1 (show R≠[] from λz=>by grind);obtain⟨O,S0,Q⟩:=Q1 (show S≠[] from λz=>by grind);have U:=o.r.len D (by rw[G];simp);have l2:=o.s.len O (by rw[Q];simp);have V:∀i,i<=R.length->(((R.take i).map λr=>(Qm n).map λj=>qcu r j n).flatten).length=i*n:=λi W=>by
   rw[qbg (qda _ n),Qe,Vm,Vy W]
  refine⟨c,O,S0,by rw[Q],szl,_,rfl,λi e =>∃I,e=[.val (qU b R),.val (qU c S),.val (.int n),.own ((((R.take i).map λr=>(Qm n).map λj=>qcu r j n).flatten).map qci),I],⟨_,by rw[l2];rfl⟩,?_,?_⟩
  ·rintro i x e hx ⟨I,rfl⟩;obtain⟨r,p,rfl⟩:=qmo hx;have W:=(Qp.mp p).1;have lr:=o.r.len r (Qh p);refine⟨rfl,⟨by lia,by lia⟩,?_⟩;refine⟨qm (by grind[qK]),λk t e=>t=(((Qm n).map λj=>qcu r j n).map qci).take k /\ ∃u,e=[.val (.int n),.val (qfv r),u],⟨by simp,_,rfl⟩,?_,?_⟩
   ·rintro j y t e J ⟨d,s,rfl⟩;obtain⟨hj,rfl⟩:=qag J;rw[Y5];have v:j<n:=by lia
    refine⟨r,j,n,rfl,⟨by lia,by lia,by lia⟩,qv ?_ d,_,rfl⟩;rw[Qa,Qa,Qo v];rfl
   ·rintro t e ⟨d,u,rfl⟩;rw[qK,Yx,Ya (by simp)]at d;subst d;have B:=V i (by lia);have L:i*n<=4*4:=Yp (by lia) M;refine⟨rfl,qcg ?_,.val (qfv r),?_⟩
    ·show(((((R.take i).map λr=>(Qm n).map λj=>qcu r j n).flatten).map qci)).length+(((Qm n).map λj=>qcu r j n).map qci).length<=1000;rw[Qe,Qe,Qe,Z1,B];lia
    ·rw[Z0,p];simp;rfl
  rintro e ⟨I,rfl⟩;rw[Qe,Zm];have B:=V R.length (Qs _);rw[Zm]at B;have L:=Yp Z M;refine⟨rfl,b,D,N,by rw[G],⟨by lia,by lia⟩,?_⟩;refine⟨qm (by rw[qK];lia),λk t e=>t=(((Qm m).map λi=>qnl b i m n).map qci).take k /\ ∃u,e=[.val (qU b R),.val (.int n),u],⟨by simp,_,rfl⟩,?_,?_⟩
  ·rintro j y t e J ⟨d,s,rfl⟩;obtain⟨hj,rfl⟩:=qag J;rw[Y5];have v:j<m:=by lia
   refine⟨b,D,N,j,n,by rw[G],⟨by lia,by lia,by lia⟩,qv ?_ d,_,rfl⟩;rw[Qa,Qa,Qo v,U];rfl
  ·rintro t e ⟨d,u,rfl⟩;rw[qK,Yx,U,Ya (by simp)]at d;subst d;refine⟨rfl,qcg ?_,?_⟩
   ·show(((R.map λr=>(Qm n).map λj=>qcu r j n).flatten).map qci).length+(((Qm m).map λi=>qnl b i m n).map qci).length<=1000;rw[Qe,Qe,Qe,Z1,B];lia
   ·rw[eqL,Zo]at h;exact⟨_,rfl,h⟩
def qiq(ds:List Qj)(q:List Qj->Prop):Prop :=∃(b:Int)(R:LL)(m:Nat)(c:Int)(S:LL)(n:Nat),ds=[qU b R,qU c S]/\CmpPre b R m c S n/\q ((qgb S c m).map .int)
theorem qfc:FnScope [Sc,Sa,SM,Se] [Sc,Sa] (defScope qki):=sc0
theorem qqm(F:Def K mg "wanted_sums" qki [Sc,Sa])(T:Txt K mg cs)(a:Ok P w K mg base SC 1 [Sd] (PSp K qba)):Ok P w K mg base "wanted_sums" 2 [Sc,Sa] (FSp K qiq):=by
  refine F.vokF qfc (by rintro L q ⟨_,_,_,_,_,_,h,_⟩;rw[h];rfl) λf M A k s H E g L q h=>?_;obtain⟨b,R,m,c,S,n,rfl,d,h⟩:=h;refine⟨_,(qg (qfm (i:=2) qfc.nd (qbp qe))
   (qg (qau rfl (qV (qr (qc 1) qf)) (ql (i:=3) qfc.nd) (qh (zdt 2 (qc 3))))
   (quz 2 (qh (qem (qpu (qc 2) (qC (qH (caps:=[Sa]) (own:=[Ss]) (ix:=[1]) rfl ⟨rfl,rfl,rfl,rfl,rfl,rfl⟩ (qS T.range_ (qt a.c g.m (qd (qc 0) qe))) (λ_ _ _ _=>(ql (i:=1) (show Zb ([Sa,Ss]:List Str) by decide))) (λ_ _ _ _=>(qr (qc 0) qf)))))))))),?_⟩
  have V:=d.w1;have W:=d.w2;have X:=d.m2;have B:=d.n2;have C:=d.l;obtain⟨D,N,G⟩:=Q1 (show R≠[] from λz=>by grind);have O:=d.r.len D (by rw[G];simp);have I:∀i,i<=S.length->((S.take i).flatten).length=i*n:=λi J=>by
   rw[qbg (λl C=>d.s.len l (Qhr C)),Vm,Vy J]
  refine⟨szl,_,rfl,λi e =>∃o,e=[.val (qU b R),.val (qU c S),.own (((S.take i).flatten).map .int),o],⟨_,rfl⟩,?_,?_⟩
  ·rintro i x e Q ⟨o,rfl⟩;obtain⟨r,g,rfl⟩:=qmo Q;have J:=(Qp.mp g).1;have Y:=d.s.len r (Qh g);have p:=I i (by lia);have t:i*n<=4*4:=Yp (by lia) B;refine⟨rfl,rfl,qcg ?_,.val (qfv r),?_⟩
   ·show(((S.take i).flatten).map Q8).length+(r.map Q8).length<=1000;grind
   ·rw[Z0,g];simp;rfl
  rintro e ⟨o,rfl⟩;rw[Qe,Zm];have p:=I S.length (Qs _);rw[Zm]at p;have t:S.length*n<=4*4:=Yp (by lia) B;refine⟨b,D,N,by rw[G],⟨by lia,by lia⟩,?_⟩;refine qI (((Qm m).map λ_=>c).map .int) (by simp[qK,O]) (qm (by simp;lia)) (λe =>∃s,e=[.val (qU c S),s]) ⟨_,rfl⟩ ?_ ?_
  ·rintro j y Z e U u ⟨s,rfl⟩;obtain⟨hj,rfl⟩:=qag U;have v:j<m:=by lia
   refine⟨_,rfl,qv ?_ u,_,rfl⟩;rw[Qa,Qa,Qo v];rfl
  ·refine⟨qcg ?_,?_⟩
   ·rw[Qe,Qe,Qe,Z1,p];lia
   ·rw[qgb,Zo]at h;exact⟨_,rfl,h⟩
def qld(ds:List Qj)(q:Qj->Prop):Prop :=∃(l:List Qj)(n w:Nat),ds=[.list l,.int n,.int w]/\(n<=100/\w<=100)/\q (.list ((qL l n w).map .tuple))
theorem zej:FnScope ["flat","wide",Sg] ["flat","wide",Sg] (defScope qwv):=sc0
theorem zeq(F:Def K mg "in_rows" qwv ["flat","wide",Sg])(T:Txt K mg cs):Ok P w K mg base "in_rows" 1 ["flat","wide",Sg] (PSp K qld):=by
  refine F.vok zej (by rintro g q ⟨_,_,_,h,_⟩;rw[h];rfl) λf j A a s H E o g q h=>?_;obtain⟨l,n,w,rfl,⟨p,r⟩,h⟩:=h;refine⟨_,(qh (qw (qC (qH (caps:=["flat","wide"]) (own:=["k"]) (ix:=[0,1]) rfl ⟨rfl,rfl,rfl,rfl,rfl,rfl⟩ (qS T.range_ (qc 2)) (λ_ _ _ _=>(ql (i:=2) (show Zb (["flat","wide","k"]:List Str) by decide))) (λ_ _ _ _=>(qch qfq T.tuple_ L2.boot_tuple (qd (qC (qhj (qc 0) (qfn (qx qR (qc 2) (qc 1))) (qfn (qx qR (qx qdn (qc 2) qf) (qc 1))))) qe))))))),?_⟩;refine⟨⟨by lia,by lia⟩,qI ((qL l n w).map .tuple) (by simp[qL,qK]) (qm (by simp[qL];lia)) (λe =>∃s,e=[.val (.list l),.val (.int n),s]) ⟨_,rfl⟩ ?_ h⟩;rintro i x t e k b ⟨s,rfl⟩;obtain⟨u,rfl⟩:=qag k;rw[Y5];have c:i<w:=by lia
  have d:((i:Nat):Int)*((n:Nat):Int)=((i*n:Nat):Int):=by rw[Qan]
  have m:(((i:Nat):Int)+1)*((n:Nat):Int)=((i*n+n:Nat):Int):=by rw[Jc,d];lia
  refine⟨Jy (qbr (by lia) (by lia)),Jy (qbr (by lia) (by lia)),?_⟩;rintro z rfl;refine⟨qv ?_ b,_,rfl⟩;rw[Qa,qdx c,d,m,zhe _ (by lia) (by lia)];show some (Qel _)=some (Qel _)
  congr 3
  lia
def qks(ds:List Qj)(q:Qj->Prop):Prop :=∃(b:Int)(R:LL)(m:Nat)(c:Int)(S:LL)(n:Nat)(a:List (Int×Int)),ds=[qU b R,qU c S,.list (a.map dS)]/\(CmpPre b R m c S n/\zwz (m*n) (eqL b R m n) (qgb S c m) a) /\ ∀B D,Dls b R m c S n B D->q (qU B D)
theorem qgd:FnScope [Sc,Sa,"values","back","shares"] [Sc,Sa,"values"] (defScope qly):=sc0
theorem quk(F:Def K mg "dulling_by" qly [Sc,Sa,"values"])(T:Txt K mg cs)(o:Ok P w K mg base Ub 3 [SG,Sb] (PSp K qfr))(g:Ok P w K mg base SC 1 [Sd] (PSp K qba))(a:Ok P w K mg base SR 2 [Sh] (PSp K qct))(p:Ok P w K mg base "times" 4 [Sc,Sa] (PSp K qtb))(j:Ok P w K mg base "in_rows" 1 ["flat","wide",Sg] (PSp K qld)):Ok P w K mg base "dulling_by" 5 [Sc,Sa,"values"] (PSp K qks):=by
  refine F.vok qgd (by rintro ds q ⟨_,_,_,_,_,_,_,h,_⟩;rw[h];rfl) λf cdv A G s H E t ds q h=>?_;obtain⟨b,R,m,c,S,n,u,rfl,⟨l,X⟩,h⟩:=h;refine⟨_,(qg (qz (i:=3) qgd.nd (qt o.c t.m (qd (qr (qc 0) qf) (qd (qr (qc 1) qf) qe))))
   (qg (qza (caps:=["back"]) (own:=["value"]) (ix:=[3]) (i:=4) qgd.nd rfl ⟨rfl,rfl,rfl,rfl,rfl,rfl⟩ (qV (qc 2)) (λ_ _ _ _=>(ql (i:=1) (show Zb (["back","value"]:List Str) by decide))) (λ_ _ _ _=>(qt p.c t.m (qd (qc 1) (qd (qc 0) qe)))))
   (qh (qw (qt a.c t.m (qd (qt j.c t.m (qd (qc 4) (qd (qt g.c t.m (qd (qc 1) qe)) (qd (qt g.c t.m (qd (qc 0) qe)) qe)))) qe)))))),?_⟩
  have w1:=l.w1;have m1:=l.m1;have m2:=l.m2;have n1:=l.n1;have n2:=l.n2;have hl:=l.l;have b1:=l.r.pos;have c1:=l.s.pos;have zb:=l.zb;have zc:=l.zc;obtain⟨Y,R0,Z⟩:=Q1 (show R≠[] from λz=>by grind);obtain⟨s0,S0,eS⟩:=Q1 (show S≠[] from λz=>by grind);have l1:=l.r.len Y (by rw[Z];simp);have l2:=l.s.len s0 (by rw[eS];simp);obtain⟨vl,d,d0,zd,hx,_⟩:=id X;have mn:=Yp m2 n2;have bb:intBits b<=64:=qbr (by lia) (by lia);have I:intBits c<=64:=qbr (by lia) (by lia);have J:=qkc (by lia) (qp bb (by decide)) (qp I (by decide));have L:∀x∈u,ShW x.1 x.2:=λx hm=>by
   obtain⟨M,q2,N,O⟩:=hx x hm;exact⟨M,qp O (by decide),qp (zmf N d0 zd) (by decide)⟩
  refine⟨_,rfl,_,rfl,⟨by lia,qp I (by decide)⟩,?_⟩;refine qI (ds:=u.map dS) ((u.map (qai b c)).map dS) (by simp) (qm (by grind)) (λe =>∃s,e=[.val (dSh (shT b c) (shB b c)),s]) ⟨_,rfl⟩ ?_ ?_
  ·rintro i x ys e Q U ⟨s,rfl⟩;obtain⟨y,C,rfl⟩:=shG Q;refine⟨y.1,y.2,_,_,rfl,⟨L y (Qh C),J⟩,qv ?_ U,_,rfl⟩;rw[Qa,Qa,C];rfl
  refine⟨c,s0,S0,by rw[eS],b,Y,R0,by rw[Z],_,n,m,by rw[l1,l2],⟨by lia,by lia⟩,?_⟩;have V:0<d*c:=Za d0 (by lia);have D:∀r∈qL (u.map (qai b c)) n m,∀y∈r,∃x∈u,y=qai b c x:=λr t y C=>by
   obtain⟨k,hk,rfl⟩:=Ql.mp t;grind
  refine⟨_,qL (u.map (qai b c)) n m,d*c,rfl,⟨⟨_,rfl,by simp[qL],λi x v=>?_⟩,by simp[qL];lia,λr t=>⟨?_,λy C=>?_⟩,V,qp (Yv zd I) (by decide)⟩,λB hB=>h B _ (ztv l X hB)⟩
  ·rw[Qa]at v;cases e:(qL ((u.map (qai b c)).map dS) n m)[i]? with
   |none=>grind
   |some z =>
    rw[e]at v;have ez:=(Qr v).symm;subst ez;have hi:i<m:=by
     have:=(Qp.mp e).1;simpa[qL]using this
    rw[qdx hi]at e;have e':=(Qr e).symm;subst e';refine⟨_,qdx hi,?_⟩;show some _=some _;rw[Qav,Qfq]
  ·obtain⟨k,hk,rfl⟩:=Ql.mp t;rw[Vm];lia
  ·obtain⟨x,W,rfl⟩:=D r t y C;obtain⟨M,q2,N,O⟩:=hx x W;obtain⟨g1,g2,g3⟩:=qse (show 0<b by lia) (show 0<c by lia) M;exact⟨g1,qdr (qp (Yv O (qdr (qp bb (Qs _)))) (by decide)),Vu g3 (Qgu N (Qjq _))⟩
theorem zqh(n:Nat)(h:Qj.strOk x=true):Shp n (.str x):=by simp[Shp,Qad,Qgy,h]
def qiv(ds:List Qj)(q:Qj->Prop):Prop :=∃(b:Int)(R:LL)(m:Nat)(c:Int)(S:LL)(n:Nat),ds=[qU b R,qU c S]/\CmpPre b R m c S n/\ztr b R m c S n q
theorem qor:FnScope [Sc,Sa,"answer"] [Sc,Sa] (defScope qqu):=sc0
theorem zai(F:Def K mg "compared" qqu [Sc,Sa])(T:Txt K mg cs)(o:Ok P w K mg base "stands" 1 [Sd] (PSp K qjl))(t:Ok P w K mg base SC 1 [Sd] (PSp K qba))(d:Ok P w K mg base SO 2 [Sc,Sa] (PSp K qbo))(p:Ok P w K mg base "solved" 5 [Sh,SM] (SolSp K qwt))(a:Ok P w K mg base S7 2 [Sd] (PSp K qew))(k:Ok P w K mg base "equations" 3 [Sc,Sa] (FSp K qlx))(g:Ok P w K mg base "wanted_sums" 2 [Sc,Sa] (FSp K qiq))(l:Ok P w K mg base "in_rows" 1 ["flat","wide",Sg] (PSp K qld))(j:Ok P w K mg base "dulling_by" 5 [Sc,Sa,"values"] (PSp K qks)):Ok P w K mg base "compared" 6 [Sc,Sa] (PSp K qiv):=by
  refine F.vok qor (by rintro Q q ⟨_,_,_,_,_,_,h,_⟩;rw[h];rfl) λf U A y s H E u Q q h=>?_;obtain⟨b,R,m,c,S,n,rfl,r,V,W⟩:=h;refine⟨_,(qg (qdv (qt d.c u.m (qd (qc 0) (qd (qc 1) qe))))
   (qg (qdv (qt a.c u.m (qd (qc 0) qe)))
   (qg (qdv (qt a.c u.m (qd (qc 1) qe)))
   (qg (qz (i:=2) qor.nd (qt (xcr p).c u.m (qd (qC (qcp k.c u.m (qd (qc 0) (qd (qc 1) qe)))) (qd (qC (qcp g.c u.m (qd (qc 0) (qd (qc 1) qe)))) qe))))
   (qg (qar (qN (qni u.units) (qr (qc 2) qf) qui) (qh (qw (qck (qd qui (qd (qt j.c u.m (qd (qc 0) (qd (qc 1) (qd (qr (qc 2) qf) qe)))) qe))))) qE)
   (qh (qw (qck (qd qui (qd (qch qfq T.tuple_ L2.boot_tuple (qd (qt l.c u.m (qd (qr (qc 2) qf) (qd (qt t.c u.m (qd (qc 1) qe)) (qd (qt o.c u.m (qd (qc 1) qe)) qe)))) qe)) qe)))))))))),?_⟩
  have w1:=r.w1;have w2:=r.w2;have m2:=r.m2;have n2:=r.n2;have J:=r.l;obtain⟨L,X,M⟩:=Q1 (show R≠[] from λz=>by grind);obtain⟨C,N,G⟩:=Q1 (show S≠[] from λz=>by grind);have l1:=r.r.len L (by rw[M];simp);have Y:=r.s.len C (by rw[G];simp);have v:=zqh (x := "fits") 0 (by decide +kernel);have I:=zqh (x := "none") 0 (by decide +kernel);refine⟨b,R,c,S,rfl,J,b,L,X,by rw[M],by lia,c,C,N,by rw[G],by lia,b,R,m,c,S,n,rfl,r,b,R,m,c,S,n,rfl,r,m*n,eqL b R m n,qgb S c m,rfl,zvi r,λZ hv=>?_,λO hw=>?_⟩
  ·refine⟨.str "fits",rfl,v.ok,v.ok,zxs v.refl ⟨_,rfl,b,R,m,c,S,n,Z,rfl,⟨r,hv⟩,λB D hD=>⟨szl,V B D hD⟩⟩⟩
  ·refine⟨.str "none",rfl,I.ok,v.ok,zmg (by decide +kernel) ⟨_,rfl,c,C,N,by rw[G],c,S,rfl,_,n,R.length,by rw[Y,J],⟨by lia,by lia⟩,?_⟩⟩;have e:(qL (O.map Q8) n R.length).map Qel=(qL O n R.length).map qfv:=by
    unfold qL qfv;grind[Zj,Q9,Qav,Qfq]
   rw[e];exact⟨szl,W _ (zoh r hw)⟩
def qkl(ds:List Qj)(q:Qj->Prop):Prop :=∃(b:Int)(R:LL)(m:Nat)(c:Int)(S:LL)(n:Nat),ds=[qU b R,qU c S]/\CmpPre b R m c S n/\((∃B D,Dls b R m c S n B D)->q (.bool true))/\((∃W,Dcs b R m c S n W)->q (.bool false))
theorem quv:FnScope [Sc,Sa] [Sc,Sa] (defScope qmg):=sc0
theorem qup(F:Def K mg "dulls_into" qmg [Sc,Sa])(T:Txt K mg cs)(a:Ok P w K mg base "compared" 6 [Sc,Sa] (PSp K qiv)):Ok P w K mg base "dulls_into" 7 [Sc,Sa] (PSp K qkl):=by
  refine F.vok quv (by rintro k q ⟨_,_,_,_,_,_,h,_⟩;rw[h];rfl) λf l A g s H E j k q h=>?_;obtain⟨b,R,m,c,S,n,rfl,o,p,r⟩:=h;refine⟨_,(qh (qw (qce (qni j.units) (qr (qt a.c j.m (qd (qc 0) (qd (qc 1) qe))) qf) qui))),?_⟩;have d:=zqh (x := "dulls") 0 (by decide +kernel);have i:=zqh (x := Ua) 0 (by decide +kernel);refine⟨b,R,m,c,S,n,rfl,o,λB D t=>⟨_,rfl,d.ok,d.ok,?_⟩,λW u=>⟨_,rfl,i.ok,d.ok,?_⟩⟩
  ·have e:=d.refl;rw[e];exact p ⟨B,D,t⟩
  ·have e:Vh (.str Ua) (.str "dulls")=false:=by decide +kernel
   rw[e];exact r ⟨W,u⟩
def zbe(ds:List Qj)(q:Qj->Prop):Prop :=∃(b:Int)(R:LL)(m:Nat)(c:Int)(S:LL)(n:Nat),ds=[qU b R,qU c S]/\CmpPre b R m c S n/\((∃B D,Dls b R m c S n B D)->(∃B D,Dls c S n b R m B D)->q (.bool true))/\((∃W,Dcs b R m c S n W)\/(∃W,Dcs c S n b R m W)->q (.bool false))
theorem CmpPre.symm(h:CmpPre b R m c S n):CmpPre c S n b R m :=
 ⟨h.s,h.r,h.l.symm,h.l▸h.w1,h.l▸h.w2,h.n1,h.n2,h.m1,h.m2,h.zc,h.zb⟩
theorem zpo:FnScope [Sc,Sa] [Sc,Sa] (defScope zhh):=sc0
theorem zou(F:Def K mg "alike" zhh [Sc,Sa])(T:Txt K mg cs)(a:Ok P w K mg base "dulls_into" 7 [Sc,Sa] (PSp K qkl)):Ok P w K mg base "alike" 8 [Sc,Sa] (PSp K zbe):=by
  refine F.vok zpo (by rintro l q ⟨_,_,_,_,_,_,h,_⟩;rw[h];rfl) λf o A d s H E i l q h=>?_;obtain⟨b,R,m,c,S,n,rfl,j,p,k⟩:=h;refine⟨_,(qh (qw (qih (qt a.c i.m (qd (qc 0) (qd (qc 1) qe))) (qhh (qt a.c i.m (qd (qc 1) (qd (qc 0) qe))))))),?_⟩;refine⟨b,R,m,c,S,n,rfl,j,λr=>zxs rfl ⟨c,S,n,b,R,m,rfl,j.symm,λe=>p r e,λg=>k (.inr g)⟩,λg=>zmg rfl (k (.inl g))⟩
section
variable{b c:Int}{R S Y:LL}{m n w a:Nat}{B:Int}{D:LL}
theorem ztm(b:∀r∈R,r.length=m)(c:D.length=m)(a:s<R.length)(d:j<n):at2 (qcd R D n) s j=qo m λi=>at2 R s i*at2 D i j:=by
 have e:=Qc a;have f:=b _ (Ze a);rw[qdq (T:=qcd R D n) (r:=(Qm n).map λk=>qoc R[s] (qO D k)) (x:=qoc R[s] (qO D j)) (by unfold qcd;grind) (by grind)];unfold qoc;rw[<- qaz]
 congr 1
 refine Zt λt=>?_;rw[Ji,Qa];unfold qO;rw[Qa];grind[Qc,Qo,qcb,Q5]
end
structure P46(b:Int)(R:LL)(n:Nat):Prop where
 g:Gls b R n
 l:R.length=2
 n1:1<=n
 n2:n<=4
 z:b<=1000000
theorem P46.g2(h:P46 b R n):G2 b R n:=⟨h.g.t,h.l,h.n1,by have:=h.n2;lia,qp (qbr (by have:=h.g.t.pos;lia) (by have:=h.z;lia)) (by decide)⟩
theorem zvs(a:Tab B Q m)(b:Q≠[]):∃X Y,Dul B Q m (B/(qaa Q:Int)) (qbt Q (qaa Q)) m X Y:=by
 obtain⟨g,c,d,e⟩:=qut a b;refine⟨_,_,Dul.same λs j _ _=>?_⟩;grind
theorem P46.prod(h:P46 b R n)(a:Gls c M m)(d:M.length=n)(f:1<=m)(i:m<=4)(r:b*c<=1000000):
 P46 (b*c/(qaa (qcd R M m):Int)) (qbt (qcd R M m) (qaa (qcd R M m))) m/\b*c/(qaa (qcd R M m):Int)<=b*c /\ ∃X Y,Dul b R n (b*c/(qaa (qcd R M m):Int)) (qbt (qcd R M m) (qaa (qcd R M m))) m X Y:=by
  have t:=h.g.t.prod a.t d;have e:(qcd R M m).length=2:=by simp[qcd];exact h.l
  have ne:qcd R M m≠[]:=λz=>by grind
  have g:=t.gls ne;have u:=h.g.t.pos;have v:=a.t.pos;have le:b*c/(qaa (qcd R M m):Int)<=b*c:=Qdk _ (Q2 (by lia) (by lia));obtain⟨X,Y,k⟩:=zvs t ne;have l:Dul b R n (b*c) (qcd R M m) m c M:=⟨a.t,d,λs j o p=>by rw[ztm h.g.t.len d o p,Zp (b*c),J9]⟩
  have q:=l.trans (Za (by lia) (by lia)) (by rw[e,h.l]) k;exact⟨⟨g,by simp[qbt];exact e,f,i,by lia⟩,le,_,_,q⟩
theorem zho(b c:Int)(D E:List (Int×Int)):∀(a d:List Nat),Qdt (a.map (crn b D)) (d.map (crn c E))=true->a.map (crn b D)=d.map (crn c E)
 |[],[],_=>rfl
 |[],_::_,h=>by simp[Qdt]at h
 |_::_,[],h=>by simp[Qdt]at h
 |x::a,y::d,h=>by
  rw[Qq,Qq,Qdt,Yb]at h;have e:crn b D x=crn c E y:=by
   have q:=h.1;unfold crn dSh at q ⊢;simp[Vh,Qdt]at q;grind
  rw[Qq,Qq,e,zho b c D E a d h.2]
theorem qym(b:Int)(D:List (Int×Int))(k:Nat):Shp 3 (.list ((Qm k).map (crn b D))):=zsm λx c=>by
 obtain⟨i,_,rfl⟩:=Ql.mp c;refine zif λy a=>?_;simp only[Zd,Y7,or_false]at a;rcases a with rfl|rfl <;> exact zif (zni [_,_] 0)
theorem zpc(C:Crv b D)(a:Crv c E)(d:f=true↔Dom b D c E)(g:s=true↔Dom c E b D):Vh (.list ((Qm (D.length+1)).map (crn b D))) (.list ((Qm (E.length+1)).map (crn c E)))=(f&&s):=by
 cases e:(f&&s)with
 |true =>
  rw[Yb]at e;rw[zmw C a (d.mp e.1) (g.mp e.2)];exact(qym c E _).refl
 |false =>
  cases w:Vh (.list ((Qm (D.length+1)).map (crn b D))) (.list ((Qm (E.length+1)).map (crn c E)))with
  |false=>rfl
  |true =>
   exfalso;rw[Vh]at w;have w:=zho b c D E _ _ w;have l:D.length=E.length:=by have:=congrArg Qcu w;grind
   have same:∀i,i<=E.length->crn b D i=crn c E i:=λi h=>by
    have:=congrArg (λx=>x[i]?) w;grind
   have j:=qyv C.b1 a (zdb C a l same);have k:=qyv a.b1 C (zdb a C l.symm λi h=>(same i (by lia)).symm);grind
def qev(ds:List Qj)(q:Qj->Prop):Prop :=∃(b:Int)(R:LL)(n:Nat)(c:Int)(S:LL)(m:Nat),ds=[qU b R,qU c S]/\(P46 b R n/\P46 c S m)/\q (.bool true)
theorem qcs:FnScope [SA,Sv,"_law_first","_law_second"] [SA,Sv] (defScope qfu):=sc0
theorem qky(F:Def K mg S8 qfu [SA,Sv])(T:Txt K mg cs)(d:Ok P w K mg base "curve" 6 [Sd] (qkq [cs.tb,cs.tb1] (FSp K qtw)))(j:Ok P w K mg base "held" 7 [Sc,Sa] (qkq [cs.tb,cs.tb1] (PSp K qso)))(g:Ok P w K mg base "compared" 6 [Sc,Sa] (PSp K qiv))(l:Ok P w K mg base "alike" 8 [Sc,Sa] (PSp K zbe)):Ok P w K mg base S8 9 [SA,Sv] (qkq [cs.tb,cs.tb1] (PSp K qev)):=by
  refine F.tvok qcs (by rintro ds q ⟨_,_,_,_,_,_,h,_⟩;rw[h];rfl) λf cdv A outer s H E o r ds q h=>?_;obtain⟨b,R,n,c,S,m,rfl,⟨a,g2⟩,h⟩:=h;refine⟨_,(qg (qz (i:=2) qcs.nd (qce qqy (qt (j.t r) o.m (qd (qc 0) (qd (qc 1) qe))) qdk))
   (qg (qz (i:=3) qcs.nd (qce qqy (qt (j.t r) o.m (qd (qc 1) (qd (qc 0) qe))) qdk))
   (qg (qar (qN (zme o.units) (qih (qc 2) (qhh (qc 3))) (qce (qni o.units) (qC (qcp (d.t r) o.m (qd (qc 0) qe))) (qC (qcp (d.t r) o.m (qd (qc 1) qe))))) (qh (qw qgw)) qE)
   (qg (qar (qN (zme o.units) (qce (qni o.units) (qr (qt g.c o.m (qd (qc 0) (qd (qc 1) qe))) qf) qui) (qc 2)) (qh (qw qgw)) qE)
   (qh (qw (qce (qni o.units) (qih (qc 2) (qhh (qc 3))) (qt l.c o.m (qd (qc 0) (qd (qc 1) qe)))))))))),?_⟩
  refine⟨b,R,n,c,S,m,rfl,⟨a.g2,g2.g2⟩,λD E' Y u v hf=>⟨rfl,c,S,m,b,R,n,rfl,⟨g2.g2,a.g2⟩,λE2 D2 Z hE2 hD2 Q=>⟨rfl,?_⟩⟩⟩;obtain rfl:=u.uniq hD2;obtain rfl:=v.uniq hE2;have C:=u.crv a.g.t a.l;have C2:=v.crv g2.g.t g2.l;have cv:=zpc C C2 hf Q;have G:CmpPre b R n c S m:=⟨a.g.t,g2.g.t,by rw[a.l,g2.l],by rw[a.l];decide,by rw[a.l];decide,a.n1,a.n2,g2.n1,g2.n2,by have:=a.z;lia,by have:=g2.z;lia⟩
  have dl:(∃B M,Dls b R n c S m B M)->qbu Y=true:=λI=>by obtain⟨B,M,U⟩:=I;exact hf.mpr (qid a.g.t g2.g.t a.l u v U.u)
  have dl2:(∃B M,Dls c S m b R n B M)->qbu Z=true:=λJ=>by obtain⟨B,M,U⟩:=J;exact Q.mpr (qid g2.g.t a.g.t g2.l v u U.u)
  have dc:(∃W,Dcs b R n c S m W)->qbu Y=false:=λL=>by
   obtain⟨W,V⟩:=L;cases e:qbu Y with
   |false=>rfl
   |true=>exact(zhl a.g.t g2.g.t a.l g2.l g2.n1 u v (hf.mp e) V).elim
  have dc2:(∃W,Dcs c S m b R n W)->qbu Z=false:=λN=>by
   obtain⟨W,V⟩:=N;cases e:qbu Z with
   |false=>rfl
   |true=>exact(zhl g2.g.t a.g.t g2.l a.l a.n1 v u (Q.mp e) V).elim
  have t:=zqh (x := "dulls") 0 (by decide +kernel);have shC:=zqh (x := Ua) 0 (by decide +kernel);have bb:∀x:Bool,Vh (.bool x) (.bool x)=true:=λx=>by cases x <;> rfl
  generalize qbu Y=f1 at *;generalize qbu Z=f2 at *;have O:∀x y:Bool,x=y->q (.bool (Vh (.bool x) (.bool y))):=λx y e=>by rw[e,bb];exact h
  refine qqg (λh1=>?_) (λh1=>?_)
  all_goals
   refine⟨b,R,n,rfl,⟨a.g.t,a.l,a.n1,a.g2.n2,a.g2.z⟩,λf' T' k p fr hp Q=>?_⟩;obtain⟨D',hD',C',lD,eL⟩:=qsv a.g.t a.l fr hp Q;obtain rfl:=u.uniq hD';rw[eL,<- lD];refine⟨c,S,m,rfl,⟨g2.g.t,g2.l,g2.n1,g2.g2.n2,g2.g2.z⟩,λf2' T2 k2 p2 fr2 hp2 hs2=>?_⟩;obtain⟨E3,hE3,C3,lE,eL2⟩:=qsv g2.g.t g2.l fr2 hp2 hs2;obtain rfl:=v.uniq hE3;rw[eL2,<- lE];refine⟨(qym _ _ _).ok,(qym _ _ _).ok,rfl,rfl,xat (by rw[cv,h1];cases f2 <;> rfl) ?_⟩;refine⟨b,R,n,c,S,m,rfl,G,λB M U=>⟨_,rfl,t.ok,t.ok,rfl,rfl,xat (by rw[dl ⟨B,M,U⟩,t.refl];rfl) ?_⟩,λW V=>⟨_,rfl,shC.ok,t.ok,rfl,rfl,xat (by rw[dc ⟨W,V⟩,show Vh (.str Ua) (.str "dulls")=false by decide +kernel];rfl) ?_⟩⟩
  all_goals
   exact qqg (λX=>⟨b,R,n,c,S,m,rfl,G,λk1 k2=>⟨rfl,rfl,O _ _ (dl2 k2)⟩,λk=>⟨rfl,rfl,O _ _ (k.elim (λz=>by rw[dc z]at X;cases X) dc2)⟩⟩) (λX=>⟨b,R,n,c,S,m,rfl,G,λk1 k2=>(by rw[dl k1]at X;cases X),λk=>⟨rfl,rfl,O _ _ rfl⟩⟩)
def qhm:DC
 |[d,.int b],q=>q (.bool (qal d b))
 |_,_=>False
theorem qxi:FnScope [Se,Sb] [Se,Sb] (defScope qov):=sc0
theorem qxt(F:Def K mg "makes_row" qov [Se,Sb])(T:Txt K mg cs)(a:Ok P w K mg base SQ 1 [SD] (PSp K qby)):Ok P w K mg base "makes_row" 2 [Se,Sb] (PSp K qhm):=by
  refine F.vok qxi (λm q h=>by unfold qhm at h;split at h;all_goals first|rfl|exact h.elim) λf t A g s H E o m q h=>?_
  match m,h with
  |[d,.int b],h =>
  refine⟨_,(qg (qar (VW.pt (qjn (qbq (qbj (zia T.isinstance_ T.list_ L2.boot_list T.tuple_ L2.boot_tuple (qc 0)))) (qgi (qbq (qsz zrw zrw qf (qA qdh T.len_ L2.boot_len (qd (qc 0) qe)) (qdo T.MOST_SIGNS_)))))) (qh (qw qgw)) qE)
   (qh (qw (qih (qA (zsc rfl) T.all_ L2.boot_all (qd (qC (qH (caps:=[]) (own:=[Sx]) (ix:=[]) rfl ⟨rfl,rfl,rfl,rfl,rfl,rfl⟩ (qV (qc 0)) (λ_ _ _ _=>(ql (i:=0) (show Zb ([Sx]:List Str) by decide))) (λ_ _ _ _=>(qih (qt a.c o.m (qd (qc 0) qe)) (qhh (qce xas (qc 0) qf)))))) qe)) (qhh (qce (qni o.units) (qA (zec rfl) T.sum_ L2.boot_sum (qd (qc 0) qe)) (qc 1))))))),?_⟩
  have h:q (.bool (qal d b)):=h;cases hs:qbf d with
  |none =>
   have e:(qun "list" d||qun "tuple" d)=false:=by rw[qsl,hs];rfl
   have u:qal d b=false:=by unfold qal;rw[hs]
   rw[u]at h;refine qqg (λ_=>?_) (λz=>?_)
   ·exact h
   ·rw[e]at z;cases z
  |some l =>
   have v:qal d b=((decide (1<=l.length)&&decide (l.length<=12))&&(l.all qww&&decide ((l.map zfn).sum=b))):=by unfold qal;rw[hs]
   rw[v]at h;refine qqg (λz=>?_) (λ_=>qrk hs (qjv (λy=>qqg (λj=>?_) (λj=>?_)) (λy=>qyb ?_)))
   ·rw[qsl,hs]at z;cases z
   ·have e:decide (l.length<=12)=false:=by simp at j ⊢;lia
    rw[e,Qer,Qbd]at h;exact h
   ·have k:decide (1<=l.length)=true:=by simp;lia
    have p:decide (l.length<=12)=true:=by simp at j ⊢;lia
    rw[k,p]at h;replace h:q (.bool (l.all qww&&decide ((l.map zfn).sum=b))):=h
    refine qac hs (qI (l.map λx => .bool (qww x)) (by simp) (qm (by simp at p ⊢;lia)) (λe =>∃s,e=[s]) ⟨_,rfl⟩ ?_ ?_)
    ·rintro i x G e B c ⟨s,rfl⟩;have r:(l.map λx=>Qj.bool (qww x))[i]?=some (.bool (qww x)):=by rw[Qa,B];rfl
     cases x with
     |int n=>exact⟨qv r c,_,rfl⟩
     |_=>exact⟨qv r c,_,rfl⟩
    ·refine⟨l.map qww,by rw[Zj];rfl,?_⟩;have e:(l.map qww).all id=l.all qww:=by rw[Qjv];rfl
     rw[e];refine qqg (λz=>?_) (λz=>?_)
     ·obtain⟨C,g2⟩:=qit z;rw[z]at h;refine zwa (ns:=l.map zfn) (by rw[hs,<- C]) ⟨rfl,rfl,?_⟩;have D:Vh (.int (l.map zfn).sum) (.int b)=decide ((l.map zfn).sum=b):=by rw[qsb];exact Bool.beq_eq_decide_eq _ _
      rw[D];exact h
     ·rw[z]at h;exact h
   ·have k:decide (1<=l.length)=false:=decide_eq_false (by lia);rw[k]at h;exact h
def qez:DC
 |[bd,c,.int a,.int b],q=>(1<=a/\b<=900)/\q (.bool (qbc bd c a b))
 |_,_=>False
theorem qqn:FnScope [Sb,Sh,"fewest","most"] [Sb,Sh,"fewest","most"] (defScope qkp):=sc0
theorem qql(F:Def K mg "makes_table" qkp [Sb,Sh,"fewest","most"])(T:Txt K mg cs)(c:Ok P w K mg base SQ 1 [SD] (PSp K qby))(a:Ok P w K mg base "makes_row" 2 [Se,Sb] (PSp K qhm)):Ok P w K mg base "makes_table" 3 [Sb,Sh,"fewest","most"] (PSp K qez):=by
  refine F.vok qqn (λv q h=>by unfold qez at h;grind) λf D A u s H E n v q h=>?_
  match v,h with
  |[bd,d,.int o,.int j],⟨⟨N,O⟩,h⟩ =>
  refine⟨_,(qg (qar (VW.pt (qjn (qbq (qbj (qt c.c n.m (qd (qc 0) qe)))) (qgi (qN zes (qc 0) qf)))) (qh (qw qgw)) qE)
   (qg (qar (VW.pt (qjn (qbq (qbj (zia T.isinstance_ T.list_ L2.boot_list T.tuple_ L2.boot_tuple (qc 1)))) (qgi (qbq (qsz zrw zrw (qc 2) (qA qdh T.len_ L2.boot_len (qd (qc 1) qe)) (qc 3)))))) (qh (qw qgw)) qE)
   (qg (qar (qbq (qbj (qA (zsc rfl) T.all_ L2.boot_all (qd (qC (qH (caps:=[Sb]) (own:=[Se]) (ix:=[0]) rfl ⟨rfl,rfl,rfl,rfl,rfl,rfl⟩ (qV (qc 1)) (λ_ _ _ _=>(ql (i:=1) (show Zb ([Sb,Se]:List Str) by decide))) (λ_ _ _ _=>(qt a.c n.m (qd (qc 1) (qd (qc 0) qe)))))) qe)))) (qh (qw qgw)) qE)
   (qh (qw (qA (zsc rfl) T.all_ L2.boot_all (qd (qC (qH (caps:=[Sh]) (own:=[Se]) (ix:=[1]) rfl ⟨rfl,rfl,rfl,rfl,rfl,rfl⟩ (qV (qc 1)) (λ_ _ _ _=>(ql (i:=1) (show Zb ([Sh,Se]:List Str) by decide))) (λ_ _ _ _=>(qce (qni n.units) (qA qdh T.len_ L2.boot_len (qd (qc 1) qe)) (qA qdh T.len_ L2.boot_len (qd (qr (qc 0) qf) qe)))))) qe))))))),?_⟩
  have h:q (.bool (qbc bd d o j)):=h;cases bd with
  |int b =>
   refine qjv (λG=>?_) (λG=>?_)
   ·have e:qbc (.int b) d o j=false:=by
     unfold qbc;grind
    rw[e]at h;exact h
   cases hs:qbf d with
   |none =>
    have e:(qun "list" d||qun "tuple" d)=false:=by grind[qsl]
    have I:qbc (.int b) d o j=false:=by unfold qbc;rw[hs]
    rw[I]at h;refine qqg (λ_=>h) (λz=>?_);grind
   |some l =>
    have J:qbc (.int b) d o j=((decide (o<=l.length)&&decide ((l.length:Int)<=j))&&(l.all (qal · b)&&l.all λr=>qnd r==qnd ((l[0]?).getD .none))):=by
     unfold qbc;grind
    rw[J]at h;refine qqg (λz=>?_) (λ_=>qrk hs (qjv (λp=>qqg (λg2=>?_) (λg2=>?_)) (λp=>qyb ?_)))
    ·grind[qsl]
    ·have e:decide ((l.length:Int)<=j)=false:=by
      grind
     rw[e,Qer,Qbd]at h;exact h
    ·have B:decide ((l.length:Int)<=j)=true:=by
      grind
     have Q:=of_decide_eq_true B;rw[decide_eq_true p,B,Qis,Qis]at h;refine qac hs (qI (l.map λx => .bool (qal x b)) (by simp) (qm (by simp;lia)) (λe =>∃s,e=[.val (.int b),s]) ⟨_,rfl⟩ ?_ ?_)
     ·rintro i x L e m k ⟨s,rfl⟩;exact⟨qv (by rw[Qa,m];rfl) k,_,rfl⟩
     refine⟨l.map (qal · b),by rw[Zj];rfl,?_⟩;have e:(l.map (qal · b)).all id=l.all (qal · b):=by rw[Qjv];rfl
     rw[e];refine qqg (λz=>?_) (λz=>?_)
     ·have t:l.all (qal · b)=false:=by
       cases q:l.all (qal · b)with
       |false=>rfl
       |true=>rw[q]at z;cases z
      rw[t,Qbd]at h;exact h
     ·have t:l.all (qal · b)=true:=by
       cases q:l.all (qal · b)with
       |true=>rfl
       |false=>rw[q]at z;cases z
      rw[t,Qis]at h;have C:∀x∈l,qbf x=some ((qbf x).getD []):=λx m=>by
       obtain⟨r,n,_⟩:=qlz.mp (Yc.mp t x m);rw[n];rfl
      obtain⟨y,g,rfl⟩:∃y g,l=y::g:=by
       cases l with
       |nil=>simp at p;lia
       |cons y g=>exact⟨y,g,rfl⟩
      refine qac hs (qI ((y::g).map λx => .bool (qnd x==qnd y)) (by simp) (qm (by rw[Qe];lia)) (λe =>∃s,e=[.val d,s]) ⟨_,rfl⟩ ?_ ?_)
      ·rintro i x L e m k ⟨s,rfl⟩;refine qrk (C x (qdc m)) (qzb hs (qmq _ _) (qrk (C y (by simp)) ⟨rfl,rfl,?_,_,rfl⟩));refine qv ?_ k;rw[Qa,m];have M:Vh (.int ((qbf x).getD []).length) (.int ((qbf y).getD []).length)=(qnd x==qnd y):=by
        rw[qsb];unfold qnd;rw[Qgl];simp;lia
       rw[M];rfl
      ·refine⟨(y::g).map λx=>qnd x==qnd y,by rw[Zj];rfl,?_⟩;have e:((y::g).map λx=>qnd x==qnd y).all id=(y::g).all λx=>qnd x==qnd y:=by rw[Qjv];rfl
       rw[e];exact h
    ·rw[decide_eq_false p,Qbd,Qbd]at h;exact h
  |_=>exact h
def qis(ds:List Qj)(q:Qj->Prop):Prop :=∃(b:Int)(d:Qj)(R:LL)(n:Nat),ds=[.int b,d]/\(RowsD d R/\Tab b R n/\1<=n/\n<=12/\2<=R.length/\R.length<=4/\intBits b<=9000)/\q (qU (b/qaa R) (qbt R (qaa R)))
theorem zay:FnScope [Sb,Sh] [Sb,Sh] (defScope qrv):=sc0
theorem zaz(F:Def K mg "glass_of" qrv [Sb,Sh])(T:Txt K mg cs)(a:Ok P w K mg base SK 3 [Sb,Sh] (PSp K qbm))(c:Ok P w K mg base "makes_table" 3 [Sb,Sh,"fewest","most"] (PSp K qez)):Ok P w K mg base "glass_of" 4 [Sb,Sh] (PSp K qis):=by
  refine F.vok zay (by rintro k q ⟨_,_,_,_,h,_⟩;rw[h];rfl) λf l A e s H E g k q h=>?_;obtain⟨b,d,R,n,rfl,⟨i,j,m,o,r,t,p⟩,h⟩:=h;refine⟨_,(qg (qar (qbq (qbj (qt c.c g.m (qd (qc 0) (qd (qc 1) (qd (qdo T.FEWEST_STANDS_) (qd (qdo T.MOST_STANDS_) qe))))))) qbw qE)
   (qh (qw (qt a.c g.m (qd (qc 0) (qd (qc 1) qe)))))),?_⟩
  refine⟨⟨by decide,by decide⟩,?_⟩;rw[quq i j m o (by lia) (by lia)];exact⟨b,d,R,n,rfl,⟨i,j,λz=>by grind,by lia,by lia,p⟩,h⟩
def qcr:DC
 |[.int n],q=>(2<=n/\n<=4)/\q .none
 |_,_=>False
theorem qpl:FnScope [Sg] [Sg] (defScope qim):=sc0
theorem qpp(F:Def K mg S3 qim [Sg])(T:Txt K mg cs)(a:Ok P w K mg base SQ 1 [SD] (PSp K qby)):Ok P w K mg base S3 2 [Sg] (PSp K qcr):=by
  refine F.vok qpl (λc q h=>by unfold qcr at h;split at h;all_goals first|rfl|exact h.elim) λf d A b s H E e c q h=>?_
  match c,h with
  |[.int n],⟨⟨g,i⟩,h⟩ =>
  refine⟨_,(qh (qar (VW.pt (qjn (qbq (qbj (qt a.c e.m (qd (qc 0) qe)))) (qgi (qbq (qsz zrw zrw (qdo T.FEWEST_STANDS_) (qc 0) (qdo T.MOST_STANDS_)))))) qbw qE)),?_⟩;refine qjv (λ_=>qqg (λz=>?_) (λ_=>h)) (λz=>absurd g z);rw[decide_eq_true i]at z;cases z
def qcy(n:Nat):LL:=(Qm n).map λp=>qgk p n
theorem qwb(a:2<=n)(b:n<=4):Tab 1 (qcy n) n/\qaa (qcy n)=1/\qbt (qcy n) 1=qcy n/\(qcy n).length=n:=by
 have:n=2\/n=3\/n=4:=by lia
 rcases this with rfl|rfl|rfl <;> exact⟨⟨by decide,by decide,by decide,by decide⟩,by decide,by decide,by decide⟩
def zct(ds:List Qj)(q:Qj->Prop):Prop :=∃n:Nat,ds=[.int n]/\(2<=n/\n<=4)/\q (qU 1 (qcy n))
theorem zoj:FnScope [Sg] [Sg] (defScope zgh):=sc0
theorem zoz(F:Def K mg "clear" zgh [Sg])(T:Txt K mg cs)(b:Ok P w K mg base "one_sign" 1 [Sf,Sg] (PSp K qix))(c:Ok P w K mg base "glass_of" 4 [Sb,Sh] (PSp K qis))(a:Ok P w K mg base S3 2 [Sg] (PSp K qcr)):Ok P w K mg base "clear" 5 [Sg] (PSp K zct):=by
  refine F.vok zoj (by rintro m q ⟨_,h,_⟩;rw[h];rfl) λf o A d s H E g m q h=>?_;obtain⟨n,rfl,⟨p,r⟩,h⟩:=h;refine⟨_,(qg (qdv (qt a.c g.m (qd (qc 0) qe)))
   (qh (qw (qt c.c g.m (qd qf (qd (qC (qH (caps:=[Sg]) (own:=["stand"]) (ix:=[0]) rfl ⟨rfl,rfl,rfl,rfl,rfl,rfl⟩ (qS T.range_ (qc 0)) (λ_ _ _ _=>(ql (i:=1) (show Zb ([Sg,"stand"]:List Str) by decide))) (λ_ _ _ _=>(qt b.c g.m (qd (qc 1) (qd (qc 0) qe)))))) qe)))))),?_⟩
  obtain⟨t,u,v,l⟩:=qwb p r;refine⟨⟨by lia,by lia⟩,⟨by lia,by lia⟩,qI ((qcy n).map qfv) (by simp[l,qK]) (qm (by simp[l];lia)) (λe =>∃s,e=[.val (.int n),s]) ⟨_,rfl⟩ ?_ ?_⟩
  ·rintro i x z e y j ⟨s,rfl⟩;obtain⟨B,rfl⟩:=qag y;have k:i<n:=by lia
   rw[Y5];refine⟨i,n,rfl,by lia,qv ?_ j,_,rfl⟩;unfold qcy;rw[Qa,Qa,Qo k];rfl
  ·refine⟨1,_,qcy n,n,rfl,⟨RowsD.of (f :=.tuple) (λ_=>rfl) rfl,t,by lia,by lia,by lia,by lia,by decide⟩,?_⟩;rw[u];show q (qU (1/1) (qbt (qcy n) 1));rw[v];exact h
def qdj(n:Nat):LL:=Zf n [1]
theorem qxh(a:2<=n)(b:n<=4):Tab 1 (qdj n) 1/\qaa (qdj n)=1/\qbt (qdj n) 1=qdj n/\(qdj n).length=n:=by
 have:n=2\/n=3\/n=4:=by omega
 rcases this with rfl|rfl|rfl <;> exact⟨⟨by decide,by decide,by decide,by decide⟩,by decide,by decide,by decide⟩
def zck(ds:List Qj)(q:Qj->Prop):Prop :=∃n:Nat,ds=[.int n]/\(2<=n/\n<=4)/\q (qU 1 (qdj n))
theorem zol:FnScope [Sg] [Sg] (defScope zgn):=sc0
theorem znd(F:Def K mg "blind" zgn [Sg])(T:Txt K mg cs)(b:Ok P w K mg base "glass_of" 4 [Sb,Sh] (PSp K qis))(a:Ok P w K mg base S3 2 [Sg] (PSp K qcr)):Ok P w K mg base "blind" 5 [Sg] (PSp K zck):=by
  refine F.vok zol (by rintro k q ⟨_,h,_⟩;rw[h];rfl) λf l A c s H E j k q h=>?_;obtain⟨n,rfl,⟨m,o⟩,h⟩:=h;refine⟨_,(qg (qdv (qt a.c j.m (qd (qc 0) qe)))
   (qh (qw (qt b.c j.m (qd qf (qd (qC (qH (caps:=[]) (own:=["stand"]) (ix:=[]) rfl ⟨rfl,rfl,rfl,rfl,rfl,rfl⟩ (qS T.range_ (qc 0)) (λ_ _ _ _=>(ql (i:=0) (show Zb (["stand"]:List Str) by decide))) (λ_ _ _ _=>(qck (qd qf qe))))) qe)))))),?_⟩
  obtain⟨p,r,v,t⟩:=qxh m o;refine⟨⟨by lia,by lia⟩,⟨by lia,by lia⟩,qI ((qdj n).map qfv) (by simp[t,qK]) (qm (by grind)) (λe =>∃s,e=[s]) ⟨_,rfl⟩ ?_ ?_⟩
  ·rintro i x y e u d ⟨s,rfl⟩;obtain⟨z,rfl⟩:=qag u;have g:i<n:=by lia
   refine⟨szl,qv ?_ d,_,rfl⟩;unfold qdj;rw[Qa,Qby,if_pos g];rfl
  ·refine⟨1,_,qdj n,1,rfl,⟨RowsD.of (f :=.tuple) (λ_=>rfl) rfl,p,by lia,by lia,by lia,by lia,by decide⟩,?_⟩;rw[r];show q (qU (1/1) (qbt (qdj n) 1));grind
theorem zbz(a:s<W)(b:i<W):at2 (qcy W) s i=if s=i then 1 else 0:=by
 rw[qdq (r:=qgk s W) (x:=if i=s then 1 else 0)]
 ·grind
 ·unfold qcy;grind
 ·unfold qgk;grind
theorem zml(a:s<W):at2 (qdj W) s 0=1:=by
 refine qdq (r:=[1]) ?_ rfl;unfold qdj;rw[Qby,if_pos a]
section
variable{b c:Int}{R S Y:LL}{m n w a:Nat}{B:Int}{D:LL}
theorem zll(a:Tab b R m)(e:R.length=w):∃B D,Dul b R m 1 (qdj w) 1 B D :=
 ⟨_,_,Dul.pick (f:=λ_=>0) (λi c=>by decide) λs j d h=>by
  have:j=0:=by lia
  subst this;rw[qj (g:=λi=>at2 R s i) λi c=>by grind,a.rs d,zml (by lia)]⟩
theorem zlj(c:Tab b R m)(d:R.length=w):Dul 1 (qcy w) w b R m b R:=⟨c,d,λs j e g=>by
 have a:s<w:=by simpa[qcy]using e
 rw[qQ a λi f ne=>by rw[zbz a f,if_neg (Z9 ne),Zr],zbz a a,if_pos rfl];grind⟩
end
def qex(ds:List Qj)(q:Qj->Prop):Prop :=∃(b:Int)(R:LL)(n:Nat)(c:Int)(M:LL)(m:Nat),ds=[qU b R,qU c M]/\(P46 b R n/\Gls c M m/\M.length=n/\1<=m/\m<=4/\b*c<=1000000)/\q (.bool true)
theorem qkw:FnScope [SH,SN] [SH,SN] (defScope qfy):=sc0
theorem qkv(F:Def K mg S9 qfy [SH,SN])(T:Txt K mg cs)(e:Ok P w K mg base "held" 7 [Sc,Sa] (qkq [cs.tb,cs.tb1] (PSp K qso)))(g:Ok P w K mg base "dulled" 5 [Sd,Sn] (PSp K qoa))(i:Ok P w K mg base "clear" 5 [Sg] (PSp K zct))(j:Ok P w K mg base "blind" 5 [Sg] (PSp K zck)):Ok P w K mg base S9 8 [SH,SN] (qkq [cs.tb,cs.tb1] (PSp K qex)):=by
  refine F.tvok qkw (by rintro G q ⟨_,_,_,_,_,_,h,_⟩;rw[h];rfl) λf I A t s H E l k G q h=>?_;obtain⟨b,R,n,c,M,m,rfl,⟨a,u,x,J,L,N⟩,h⟩:=h;refine⟨_,(qg (qar (qN qzw (qt (e.t k) l.m (qd (qc 0) (qd (qt g.c l.m (qd (qc 0) (qd (qc 1) qe))) qe))) qdk) (qh (qw qgw)) qE)
   (qg (qar (qN qzw (qt (e.t k) l.m (qd (qc 0) (qd (qt j.c l.m (qd qf qe)) qe))) qdk) (qh (qw qgw)) qE)
   (qh (qw (qih (qce qqy (qt (e.t k) l.m (qd (qt i.c l.m (qd qf qe)) (qd (qc 0) qe))) qdk) (qhh (qce qqy (qt (e.t k) l.m (qd (qc 0) (qd (qc 0) qe))) qdk))))))),?_⟩
  have V:=a.g.t.pos;have W:=u.t.pos;have O:=a.n1;have Z:=a.n2;have zc:c<=1000000:=by
   have:=Qn (show 1<=b by lia) (show 0<=c by lia);lia
  obtain⟨y,_,X,Y,d3⟩:=a.prod u x J L N;obtain⟨tb,_,_,Q⟩:=qxh (n:=2) (by decide) (by decide);obtain⟨B,_,_,C⟩:=qwb (n:=2) (by decide) (by decide);have S:G2 1 (qdj 2) 1:=⟨tb,Q,by decide,by decide,by decide⟩
  have U:G2 1 (qcy 2) 2:=⟨B,C,by decide,by decide,by decide⟩
  refine⟨b,R,n,c,M,m,rfl,⟨a.g.t,u.t,λz=>by have:=a.l;grind,x,O,by lia,by rw[a.l];decide,by lia,qp a.g2.z (by decide),qp (qbr (by lia) (by lia)) (by decide)⟩,?_⟩;refine⟨b,R,n,_,_,m,rfl,⟨a.g2,y.g2⟩,λD v d o p r=>⟨rfl,zmg (by rw[r.mpr (qid a.g.t y.g.t a.l o p d3)];rfl) ?_⟩⟩;refine⟨2,rfl,⟨by decide,by decide⟩,b,R,n,1,qdj 2,1,rfl,⟨a.g2,S⟩,λD v d o p r=>⟨rfl,zmg (by obtain⟨_,_,z⟩:=zll a.g.t a.l;rw[r.mpr (qid a.g.t tb a.l o p z)];rfl) ?_⟩⟩;refine⟨2,rfl,⟨by decide,by decide⟩,1,qcy 2,2,b,R,n,rfl,⟨U,a.g2⟩,λD v d o p r=>⟨rfl,zxs (r.mpr (qid B a.g.t C o p (zlj a.g.t a.l))) ?_⟩⟩;refine⟨b,R,n,b,R,n,rfl,⟨a.g2,a.g2⟩,λD v d o p r=>⟨rfl,?_⟩⟩;rw[r.mpr (qid a.g.t a.g.t a.l o p (Dul.self b R n))];exact h
theorem znt:∀m:Nat,m<41->2<=m ->∀d:Nat,d<6->2<=d->Qec 1 (m:Int) (d:Int)=true/\Yw 1 (m:Int) (d:Int)=((Yw 1 (m:Int) (d:Int)).toNat:Int):=by decide
theorem zvf(e:2<=j)(f:j<=40)(c1:2<=c)(c2:c<=5):∃n,Rng3 1 j c n:=by
 obtain⟨m,rfl⟩:=Vf (show 0<=j by lia);obtain⟨d,rfl⟩:=Vf (show 0<=c by lia);obtain⟨a,b⟩:=znt m (by lia) (by lia) d (by lia) (by lia);exact⟨_,by lia,by lia,a,b⟩
theorem znv(a:2<=k)(b:k<=40)(c1:2<=c)(c2:c<=5):∃m,Rng3 1 (if(if n>2 then n else 2)<k then(if n>2 then n else 2)else k) c m :=
 zvf (by grind) (by grind) c1 c2
theorem zuk:∀m:Nat,m<41->2<=m ->∀d:Nat,d<6->2<=d->Yw 1 (m:Int) (d:Int)*d<=50:=by decide
theorem zjl(h:Rng3 1 j c n)(a:2<=j)(b:j<=40)(c1:2<=c)(c2:c<=5):(n:Int)*c<=50:=by
 obtain⟨m,rfl⟩:=Vf (show 0<=j by omega);obtain⟨d,rfl⟩:=Vf (show 0<=c by omega);have:=zuk m (by omega) (by omega) d (by omega) (by omega);rw[h.n]at this;exact this
theorem xax(c:Tab b R n)(l:R.length=2):∃a,atI (R.map qfv) 0=some (qfv a)/\a.length=n:=by
 match R,l with
 |a::d,_=>exact⟨a,qmq _ _,c.len a (by simp)⟩
abbrev T3:=Int×LL×Nat
def d3(g:T3):Qj:=qU g.1 g.2.1
def qzs(j:Nat):Int:=if j=0 then 99 else if j=1 then 9801 else 970299
theorem zvx(a:P46 b R n)(d:P46 c S m)(nm:n*m<=12):
 G2 (b*c/(qaa (qje R S):Int)) (qbt (qje R S) (qaa (qje R S))) (n*m) /\ ∃X Y,Dul (b*c/(qaa (qje R S):Int)) (qbt (qje R S) (qaa (qje R S))) (n*m) c S m X Y:=by
  have t:=a.g.t.bes d.g.t;have j:(qje R S).length=2:=by rw[qrf (by rw[a.l,d.l]),a.l]
  have ne:qje R S≠[]:=λz=>by grind
  have q:=a.g.t.pos;have r:=d.g.t.pos;have k:=a.z;have l:=d.z;have s:=Qhx k l (by lia) (by lia);obtain⟨f,T,e,h,i,u,_,X,Y,o⟩:=zmk t ne;obtain⟨rfl,rfl⟩:=zbn e;have v:=h.pos;have g:=Yp a.n1 d.n1;have p:=xgr a.g.t d.g.t (by rw[a.l,d.l]) d.n1;exact⟨⟨h,by rw[i,j],g,nm,qp (qbr (by lia) (by lia)) (by decide)⟩,_,_,o.trans (Za (by lia) (by lia)) (by rw[i]) p⟩
theorem qgh:FnScope [Si,Sr,"_law_some","_law_sorts","_law_k","_law_fresh",SN,SA,Sv,"_law_third"] [Si] (defScope qzr):=sc0
theorem xaq(F:Fun K "law" "law" qzr f fd)(T:Txt K mg cs)(p:Ok P w K mg base "held" 7 [Sc,Sa] (qkq [cs.tb,cs.tb1] (PSp K qso)))(C:Ok P w K mg base "dulled" 5 [Sd,Sn] (PSp K qoa))(G:Ok P w K mg base "beside" 4 [Sc,Sa] (PSp K qvs))(q:Ok P w K mg base Ud 1 [Si,Sr,SL] (FSp K qgf))(h:Ok P w K mg base "_law_glass" 3 [Si,Sr,Su,SB] (PSp K qjs))(a:Ok P w K mg base S8 9 [SA,Sv] (qkq [cs.tb,cs.tb1] (PSp K qev)))(l:Ok P w K mg base S9 8 [SH,SN] (qkq [cs.tb,cs.tb1] (PSp K qex))):FnOk P w K mg base CX0 10 f fd [Si] (quy [cs.tb,cs.tb1] K):=by
  refine F.vlawT qgh rfl λcdv A outer s H E y r ns B=>?_;refine⟨_,(qg (qau rfl (zkp T.range_ qf (qA (zzm rfl) T.min_ L2.boot_min (qd qf (qd (qA (zxv rfl) T.max_ L2.boot_max (qd qf (qd (qA qdh T.len_ L2.boot_len (qd (qc 0) qe)) qe))) qe))) qf) (ql (i:=1) qgh.nd) (qg (qfm (i:=2) qgh.nd (qbp (qd (qt h.c y.m (qd (qc 0) (qd (qc 1) (qd (qC (qbp (qd qf (qd qf qe)))) (qd qf qe))))) qe)))
   (qg (qz (i:=3) qgh.nd (qC (qcp q.c y.m (qd (qc 0) (qd (qx qdn (qc 1) qf) (qd (qC (qbp (qd qf (qd qf (qd qf qe))))) qe))))))
   (qg (qau rfl (qS T.range_ qf) (ql (i:=4) qgh.nd) (qg (qz (i:=5) qgh.nd (qt h.c y.m (qd (qc 0) (qd (qx qdn (qx qdn (qc 1) qf) (qc 4)) (qd (qC (qbp (qd qf (qd qf qe)))) (qd qf qe))))))
   (qg (qz (i:=6) qgh.nd (qt h.c y.m (qd (qc 0) (qd (qx qdn (qx qdn (qc 1) qf) (qc 4)) (qd (qC (zre (qbp (qd (qA qdh T.len_ L2.boot_len (qd (qr (qr (zfq 2 (qes qf)) qf) qf) qe)) qe)) qf)) (qd qf qe))))))
   (qg (qar (qbq (qbj (qt (l.t r) y.m (qd (zfq 2 (qes qf)) (qd (qc 6) qe))))) (qh (qw qgw)) qE)
   (qqr (qar (qN (qni y.units) (qr (qc 3) (qc 4)) qf) (qh (qz (i:=5) qgh.nd (qt C.c y.m (qd (zfq 2 (qes qf)) (qd (qc 6) qe))))) qE)
   (qh (qef 2 (qc 5))))))))
   (quz 2 (qg (zqz (qc 2) (zyt (n:=3) rfl (qJ (ql (i:=7) qgh.nd) (qJ (ql (i:=8) qgh.nd) (qJ (ql (i:=9) qgh.nd) qcn)))))
   (qg (qar (VW.pt (qjn (qbq (qbj (qt (a.t r) y.m (qd (qc 7) (qd (qc 8) qe))))) (qgi (qbq (qbj (qt (a.t r) y.m (qd (qc 8) (qd (qc 9) qe)))))))) (qh (qw qgw)) qE)
   (qg (qar (VW.pt (zqs (qN qqy (qt (p.t r) y.m (qd (qc 7) (qd (qc 8) qe))) qdk) (zil (qN qqy (qt (p.t r) y.m (qd (qc 8) (qd (qc 9) qe))) qdk)))) (qh (qar (qN qzw (qt (p.t r) y.m (qd (qc 7) (qd (qc 9) qe))) qdk) (qh (qw qgw)) qE)) qE)
   (qh (qar (qN zes (qx qR (qA qdh T.len_ L2.boot_len (qd (qr (qr (qc 7) qf) qf) qe)) (qA qdh T.len_ L2.boot_len (qd (qr (qr (qc 8) qf) qf) qe))) qf) (qh (qar (qN qzw (qt (p.t r) y.m (qd (qt G.c y.m (qd (qc 7) (qd (qc 8) qe))) (qd (qc 8) qe))) qdk) (qh (qw qgw)) qE)) qE))))))))))
   (qh (qw qgw))),?_⟩
  obtain⟨n0,hn0⟩:=znv (n:=((ns.map Q8).length:Nat)) (k:=17) (c:=4) (by decide) (by decide) (by decide) (by decide);have n0k:=zjl hn0 (by split <;> split <;> lia) (by split <;> split <;> lia) (by decide) (by decide);refine⟨n0,hn0,λi e =>∃(t1 t2 t3 t4 t5 t6 S U V:Sl),e=[.val (.list (ns.map .int)),t1,t2,t3,t4,t5,t6,S,U,V],⟨_,_,_,_,_,_,_,_,_,rfl⟩,?_,?_⟩
  ·rintro i x e I ⟨t1,t2,t3,t4,t5,t6,S,U,V,rfl⟩;obtain⟨hi,rfl⟩:=znm I;clear I;have mk:∀{b:Int}{R:LL}{n:Nat},Gls b R n->b<=99->(2:Int)<=R.length->(R.length:Int)<=2->1<=n->(n:Int)<=4->P46 b R n:=λh1 h2 h3 h4 h5 h6=>⟨h1,by lia,h5,by lia,by lia⟩
   refine⟨szl,ns,1+i*4,2,2,4,rfl,⟨B,by lia,by decide,by decide,by decide,by decide,by decide⟩,λb R n hG hb l1 l2 n1 n2=>⟨szl,?_⟩⟩;have g0:=mk hG hb l1 l2 n1 n2;refine⟨szl,ns,_,[2,2,2],rfl,⟨by lia,by decide,by decide,B⟩,λxs hxs=>?_⟩;obtain⟨x0,_,rfl,_,_,x1,_,rfl,_,_,x2,_,rfl,_,_,rfl⟩:=hxs;have sort:∀j:Nat,j<2 ->∃z:Int,atI ([x0,x1,x2].map Q8) (j:Int)=some (.int z):=λj hj=>by
    have:j=0\/j=1:=by lia
    rcases this with rfl|rfl
    ·exact⟨x0,rfl⟩
    ·exact⟨x1,rfl⟩
   refine⟨⟨by decide,by decide⟩,λj e =>∃(L:List T3)(g:T3)(t4 t5 t6 S U V:Sl),(L.length=j/\(∀x∈L++[g],P46 x.1 x.2.1 x.2.2)/\g.1<=qzs j)/\e=[.val (.list (ns.map .int)),.val (.int (1+i*4)),.own ((L++[g]).map d3),.val (.list ([x0,x1,x2].map .int)),t4,t5,t6,S,U,V],⟨[],(b,R,n),_,_,_,_,_,_,⟨rfl,λx I=>by rw[Q6.mp I];exact g0,hb⟩,rfl⟩,?_,?_⟩
   ·rintro j x e I ⟨L,g,t4,t5,t6,S,U,V,⟨lL,hP,Q⟩,rfl⟩;obtain⟨hj',rfl⟩:=qag I;rw[Y5];have hj:j<2:=by lia
    clear hj' I;have J:=hP g (by simp);have aL:atI ((L++[g]).map d3) (-1)=some (d3 g):=atI_last (by rw[Qe,Qa,Y2];simp);obtain⟨m,gR,gn⟩:=g;have J:P46 m gR gn:=J;have Q:m<=qzs j:=Q;have gb2:m<=9801:=by unfold qzs at Q;split at Q <;> (try split at Q) <;> lia
    have gn1:=J.n1;have gn2:=J.n2;have g1:=J.g.t.pos;refine⟨szl,ns,_,2,2,4,rfl,⟨B,by lia,by decide,by decide,by decide,by decide,by decide⟩,λb1 R1 m1 hG1 hb1 k1 k2 k3 k4=>?_⟩;have p1:=mk hG1 hb1 k1 k2 k3 k4;obtain⟨q0,aq,lq⟩:=xax J.g.t J.l;refine⟨rfl,rfl,_,aL,_,rfl,_,aq,szl,⟨by decide,by decide,qcg (by simp)⟩,?_⟩;rintro l0 e1;have e1:l0=[.int ((q0.map Q8).length:Nat),.int ((q0.map Q8).length:Nat)]:=e1;subst e1;have eM:(((q0.map Q8).length:Nat):Int)=(gn:Int):=by simp[lq]
    refine⟨ns,_,((q0.map Q8).length:Nat),((q0.map Q8).length:Nat),4,rfl,⟨B,by lia,by lia,by lia,by lia,by decide,by decide⟩,λc M o hM hc l5 l6 o1 o2=>?_⟩;have lM:M.length=gn:=by lia
    have c1:=hM.t.pos;have bc0:m*c<=m*99:=Yn hc (by lia);have bc:m*c<=1000000:=by lia
    obtain⟨pp,ple,_⟩:=J.prod hM lM o1 (by lia) bc;refine⟨rfl,rfl,_,aL,m,gR,gn,c,M,o,rfl,⟨J,hM,lM,o1,by lia,bc⟩,?_⟩;obtain⟨z,ez⟩:=sort j hj;refine⟨λe =>∃(b2:Int)(R2:LL)(n2:Nat),(P46 b2 R2 n2/\b2<=qzs (j+1))/\e=[.val (.list (ns.map .int)),.val (.int (1+i*4)),.own ((L++[(m,gR,gn)]).map d3),.val (.list ([x0,x1,x2].map .int)),.val (.int j),.val (qU b2 R2),.val (qU c M),S,U,V],?_,?_⟩
    ·refine⟨_,ez,rfl,rfl,qif (λ_=>?_) (λ_=>⟨b1,R1,m1,⟨p1,?_⟩,rfl⟩)⟩
     ·refine⟨rfl,rfl,_,aL,m,gR,gn,c,M,o,rfl,⟨J.g.t,hM.t,λz=>by have:=J.l;rw[z]at this;simp at this,lM,gn1,by lia,by have:=J.l;lia,by lia,qp J.g2.z (by decide),qp (qbr (by lia) (by lia)) (by decide)⟩,_,_,o,⟨pp,?_⟩,rfl⟩;refine Qen ple ?_;unfold qzs at Q ⊢;have:j=0\/j=1:=by lia
      rcases this with rfl|rfl
      ·have Q:m<=99:=Q;show m*c<=9801;lia
      ·have Q:m<=9801:=Q;show m*c<=970299;lia
     ·unfold qzs;split
      ·lia
      ·split <;> lia
    ·rintro e ⟨b2,R2,n2,⟨p2,b2l⟩,rfl⟩;refine⟨rfl,rfl,qm (by show((L++[(m,gR,gn)]).map d3).length<=1000;simp;lia),L++[(m,gR,gn)],(b2,R2,n2),.val (.int j),.val (qU b2 R2),.val (qU c M),S,U,V,⟨by simp[lL],λx I=>?_,b2l⟩,?_⟩
     ·rcases Zh.mp I with I|I
      ·exact hP x I
      ·rw[Q6.mp I];exact p2
     ·rw[Zo (l₂:=[(b2,R2,n2)])];rfl
   ·rintro e ⟨L,g,t4,t5,t6,S,U,V,⟨lL,hP,_⟩,rfl⟩;have lL:L.length=2:=lL;obtain⟨u,v,rfl⟩:∃u v,L=[u,v]:=by
     match L,lL with
     |[u,v],_=>exact⟨u,v,rfl⟩
    have t:=hP u (by simp);have pv:=hP v (by simp);have pw:=hP g (by simp);clear hP;obtain⟨ub,uR,un⟩:=u;obtain⟨W,Z,N⟩:=v;obtain⟨wb,wR,wn⟩:=g;have t:P46 ub uR un:=t;have pv:P46 W Z N:=pv;have pw:P46 wb wR wn:=pw;refine⟨rfl,rfl,ub,uR,un,W,Z,N,rfl,⟨t,pv⟩,W,Z,N,wb,wR,wn,rfl,⟨pv,pw⟩,?_⟩;have no3:∀(D E1 E3:List (Int×Int)){E2 D' E4:List (Int×Int)}{d:Qj},DOf uR un D->DOf Z N E1->DOf Z N E2->DOf wR wn E3->DOf uR un D'->DOf wR wn E4->Dom ub D W E1->Dom W E2 wb E3->(qbu d=true↔Dom ub D' wb E4)->(!qbu d)=false:=λD E1 E3 {E2 D' E4 d} hD O hE2 hE3 hD' hE4 y1 y2 f3=>by
     obtain rfl:=hD.uniq hD';obtain rfl:=O.uniq hE2;obtain rfl:=hE3.uniq hE4;rw[f3.mpr (y1.tr t.g.t.pos pv.g.t.pos pw.g.t.pos y2)];rfl
    refine(λrest=>⟨ub,uR,un,W,Z,N,rfl,⟨t.g2,pv.g2⟩,λD E1 d1 hD O f1=>⟨rfl,qqg (λy1=>⟨W,Z,N,wb,wR,wn,rfl,⟨pv.g2,pw.g2⟩,λE2 E3 d2 hE2 hE3 f2=>⟨rfl,qqg (λy2=>⟨ub,uR,un,wb,wR,wn,rfl,⟨t.g2,pw.g2⟩,λD' E4 d3 hD' hE4 f3=>⟨rfl,zmg (no3 D E1 E3 hD O hE2 hE3 hD' hE4 (f1.mp y1) (f2.mp y2) f3) rest⟩⟩) (λ_=>rest)⟩⟩) (λ_=>rest)⟩⟩) ?_;obtain⟨q0,aq,lq⟩:=xax t.g.t t.l;obtain⟨q1,ar,lr⟩:=xax pv.g.t pv.l;have un2:=t.n2;have vn2:=pv.n2;refine⟨_,rfl,_,aq,_,rfl,_,ar,V3 (qp (qbr (by simp;lia) (by simp[lq];lia)) (by decide)),qjv (λlt=>?_) (λ_=>⟨_,_,_,_,_,_,_,_,_,rfl⟩)⟩;have nm:un*N<=12:=by
     rw[Qe,Qe,lq,lr]at lt;have:((un*N:Nat):Int)<13:=by rw[Qan];exact lt
     lia
    obtain⟨gB,X,Y,dB⟩:=zvx t pv nm;refine⟨ub,uR,un,W,Z,N,rfl,⟨t.g.t,pv.g.t,by rw[t.l,pv.l],by rw[t.l];decide,by rw[t.l];decide,by lia,by lia,nm,qp t.g2.z (by decide),qp pv.g2.z (by decide)⟩,?_⟩;refine⟨_,_,_,W,Z,N,rfl,⟨gB,pv.g2⟩,λD E1 d1 hD O f1=>⟨rfl,zmg (by rw[f1.mpr (qid gB.t pv.g.t gB.l hD O dB)];rfl) ⟨_,_,_,_,_,_,_,_,_,rfl⟩⟩⟩
  ·rintro e ⟨t1,t2,t3,t4,t5,t6,S,U,V,rfl⟩;rfl
end
theorem walk{l:Qgq}{K:Qcp->Qd}(m:l.most=some 63)(e:d.params.defaults=[])(o:∀(w:World)(h:Heap),YP w h->(K w.params).In h /\ ∀b∈tbs,∃c,h.TableAt c b #[])(g:∀P,∀b∈tbs,(K P).lookup b=none)(F:∀(w:World)(mg:Str->Option Value)(i:Addr)(h:Heap),(K w.params).In h->h.Ns Zu mg->mg d.name=some (.ref i) ->
 ∃j:Qbk,(∀(s:Qt)(u:Value),Qjl s j ⟨[u],[]⟩ [(Si,u)]) /\ ∀base:Heap,(K w.params).In base->base.Ns Zu mg->FnOk l.prog w (K w.params) mg base CX0 10 i j [Si] (quy tbs (K w.params))):
 Qln q loose XP YP l.row.toRowW d [] (λf vs=>Qlg f vs) :=
  L2.walk_ofT (n:=63) (k:=10) (x := Si) (tbs:=λ_=>tbs) (CX:=λ_=>CX0) (sp:=λw=>quy tbs (K w.params)) m (by decide) e ⟨rfl,by decide,by decide⟩ o g F (λ_ _ a p r t v=>⟨t,a,p,rfl,v,r,λ_=>rfl⟩) λ_ _ _ _ _ z=>z
theorem zdi{b:Type}{n:Nat}{us:List b}(h:us.length=n+1):∃a r,us=a::r/\r.length=n:=by
 cases us with
 |nil=>cases h
 |cons a r=>exact⟨a,r,rfl,Qlu h⟩
theorem us1{b:Type}{us:List b}(h:us.length=1):∃a:b,us=[a]:=by
 obtain⟨a,c,rfl,d⟩:=zdi h;cases c with
 |nil=>exact⟨a,rfl⟩
 |cons _ _=>cases d
theorem us2{c:Type}{us:List c}(h:us.length=2):∃a b:c,us=[a,b]:=by
 obtain⟨a,g,rfl,d⟩:=zdi h;obtain⟨b,e,rfl,f⟩:=zdi d;cases e with
 |nil=>exact⟨a,b,rfl⟩
 |cons _ _=>cases f
theorem us3{d:Type}{us:List d}(h:us.length=3):∃a b c:d,us=[a,b,c]:=by
 obtain⟨a,j,rfl,e⟩:=zdi h;obtain⟨b,k,rfl,f⟩:=zdi e;obtain⟨c,g,rfl,i⟩:=zdi f;cases g with
 |nil=>exact⟨a,b,c,rfl⟩
 |cons _ _=>cases i
theorem us4{e:Type}{us:List e}(h:us.length=4):∃a b c d:e,us=[a,b,c,d]:=by
 obtain⟨a,l,rfl,f⟩:=zdi h;obtain⟨b,m,rfl,g⟩:=zdi f;obtain⟨c,n,rfl,i⟩:=zdi g;obtain⟨d,j,rfl,k⟩:=zdi i;cases j with
 |nil=>exact⟨a,b,c,d,rfl⟩
 |cons _ _=>cases k
def pv0(K:Qd)(f:Nat):Value:=match K.lookup f with|some ⟨_,_,.func d,_⟩=>d.pyModule|_ => .none
def tk0(K:Qd)(x:Str):Nat:=match Qbs K Zu x with|some (some (.int _ t))=>t|some (some (.str _ t))=>t|_=>0
abbrev lo0(K:Qd)(q:Str)(f c:Nat):=(K.lookup f,Qcy K (.ref c) q,V7 K (.ref f))
abbrev fo9(K:Qd)(x q:Str)(st:Stmt)(f c:Nat):=(some (fo0 x q st (pv0 K f) c),true,true)
abbrev Hb9(x q:Str)(st:Stmt)(ps:List Str):Prop :=∀(kV a d:Value)(e:Option Addr)(b f:Value)(c:List Value),c.length=ps.length->Qdw (Vx x q (defArgs st) (defBody st) (defScope st) .none kV a d e b f) ⟨c,[]⟩=pure (ps.zip c)
section
variable{K:Qd}{mg:Str->Option Value}{h:Heap}{x m q:Str}{st:Stmt}{ps:List Str}{f c C:Nat}
theorem lk9(h:lo0 K q f c=fo9 K x q st f c):Fun K x q st f (Vx x q (defArgs st) (defBody st) (defScope st) .none .none .none (pv0 K f) none (.ref c) .none)/\V7 K (.ref f)=true:=⟨zzy (congrArg (·.1) h) (congrArg (·.2.1) h) (congrArg (·.2.2) h),congrArg (·.2.2) h⟩
theorem df9(f:Nat)(X:K.In h)(G:h.Ns Zu mg)(e:(Qbs K Zu x,lo0 K x f (f-1))=(some (some (.ref f)),fo9 K x x st f (f-1)):=by kernel_rfl)(b:Hb9 x x st ps:=by(intro _ _ _ _ _ _ us a;first|(obtain⟨_,rfl⟩:=us1 a;rfl)|(obtain⟨_,_,rfl⟩:=us2 a;rfl)|(obtain⟨_,_,_,rfl⟩:=us3 a;rfl)|(obtain⟨_,_,_,_,rfl⟩:=us4 a;rfl))):Def K mg x st ps :=
 have F:=(lk9 (congrArg (·.2) e)).1
 ⟨_,_,F,Qdu X G (congrArg (·.1) e),F.binds b⟩
theorem dt9(f:Nat)(X:K.In h)(G:h.Ns Zu mg)(e:(Qbs K Zu x,lo0 K x f c)=(some (some (.ref f)),fo9 K x x st f c):=by kernel_rfl)(b:Hb9 x x st ps:=by(intro _ _ _ _ _ _ us a;first|(obtain⟨_,rfl⟩:=us1 a;rfl)|(obtain⟨_,_,rfl⟩:=us2 a;rfl)|(obtain⟨_,_,_,rfl⟩:=us3 a;rfl)|(obtain⟨_,_,_,_,rfl⟩:=us4 a;rfl))):DefT K mg x st ps c :=
 have z:=congrArg (·.2) e
 ⟨_,_,_,_,_,_,_,_,_,congrArg (·.1) z,congrArg (·.2.1) z,congrArg (·.2.2) z,Qdu X G (congrArg (·.1) e),(lk9 z).1.binds b⟩
theorem md9(f:Nat)(e:(Vt K (.ref C) m,Qgf K (.ref f),lo0 K q f (f-1))=(some (some (.ref f)),true,fo9 K m q st f (f-1)):=by kernel_rfl)(b:Hb9 m q st ps:=by(intro _ _ _ _ _ _ us a;first|(obtain⟨_,rfl⟩:=us1 a;rfl)|(obtain⟨_,_,rfl⟩:=us2 a;rfl)|(obtain⟨_,_,_,rfl⟩:=us3 a;rfl)|(obtain⟨_,_,_,_,rfl⟩:=us4 a;rfl))):MDef K C m q st ps :=
 have F:=lk9 (congrArg (·.2.2) e)
 ⟨_,_,F.1,⟨congrArg (·.1) e,congrArg (·.2.1) e,F.2⟩,F.1.binds b⟩
theorem kr9{c:Type}{a b:c}(e:a=b:=by kernel_rfl):a=b:=e
theorem mn9(X:K.In h)(G:h.Ns Zu mg)(e:Qbs K Zu x=some none:=by kernel_rfl):mg x=none:=PySem.W.mg_none_of X G e
theorem mi9(X:K.In h)(G:h.Ns Zu mg){n:Int}(e:Qbs K Zu x=some (some (.int n (tk0 K x))):=by kernel_rfl):∃t,mg x=some (.int n t):=⟨_,Qdu X G e⟩
theorem mo9(X:K.In h)(G:h.Ns Zu mg){v:Value}(e:Qbs K Zu x=some (some v):=by kernel_rfl):mg x=some v:=Qdu X G e
end
theorem all_mk{l:Qgq}{w:World}{h:Heap}{mg:Str->Option Value}{fa:Addr}(X:(K0 w.params).In h)(G:h.Ns Zu mg)(I:mg "law" = some (.ref fa)):∃fd:Qbk,(∀(s:Qt)(v:Value),Qjl s fd ⟨[v],[]⟩ [(Si,v)]) /\ ∀base:Heap,(K0 w.params).In base->base.Ns Zu mg->FnOk l.prog w (K0 w.params) mg base CX0 10 fa fd [Si] (quy [242,281] (K0 w.params)):=by
 have a:(Qbs (K0 w.params) Zu "law",lo0 (K0 w.params) "law" 570 569)=(some (some (.ref 570)),fo9 (K0 w.params) "law" "law" qzr 570 569):=by kernel_rfl
 have e:=I.symm.trans (Qdu X G (congrArg (·.1) a));cases e;have T:Txt (K0 w.params) mg ⟨437,242,281,246,285,4⟩:=⟨mo9 X G,⟨kr9,kr9,kr9,kr9⟩,kr9,kr9,kr9,kr9,kr9,kr9,kr9,kr9,kr9,kr9,mo9 X G,mn9 X G,mn9 X G,mn9 X G,mn9 X G,mn9 X G,mn9 X G,mn9 X G,mn9 X G,mn9 X G,mn9 X G,mn9 X G,mn9 X G,mn9 X G,mn9 X G,mn9 X G,mn9 X G,mi9 X G,mi9 X G,mi9 X G,mi9 X G,mi9 X G,mi9 X G⟩
 refine⟨Vx "law" "law" (defArgs qzr) (defBody qzr) (defScope qzr) .none .none .none (pv0 (K0 w.params) 570) none (.ref 569) .none,λs v => .of_eq rfl,λbase KB _=>?_⟩;have f:=zag (P:=l.prog) (w:=w) (base:=base) (df9 82 X G) T;have g:=zen (P:=l.prog) (w:=w) (base:=base) (df9 89 X G) T;have O2:=zaf (df9 110 X G) T f g;have E:=qpq (df9 117 X G) T O2;have O4:=zom (df9 145 X G) T E;have F:=zfe (df9 103 X G) T g;have i:=zpd (df9 96 X G) T f F;have J:=zkw (P:=l.prog) (w:=w) (base:=base) (df9 196 X G) T;have b:=zmt (P:=l.prog) (w:=w) (base:=base) (df9 203 X G) T;have H:=zlf (P:=l.prog) (w:=w) (base:=base) (df9 208 X G) T;have j:=qlq (df9 169 X G) T g;have k:=zee (P:=l.prog) (w:=w) (base:=base) (df9 179 X G) T;have c:=qph (df9 174 X G) T j k;have L:=qqi (P:=l.prog) (w:=w) (base:=base) (df9 189 X G) T;have m:=qku (df9 184 X G) T g L;have n:=zbc (P:=l.prog) (w:=w) (base:=base) (df9 235 X G) T;have o:=qmy (P:=l.prog) (w:=w) (base:=base) (df9 262 X G) T;have p:=qnc (df9 252 X G) T o;have M:=qmz (dt9 247 X G) T KB b H j k p;have N:=qll (df9 257 X G) T o;have O:=zba (P:=l.prog) (w:=w) (base:=base) (df9 269 X G) T;have Q:=zae (df9 274 X G) T i b H p;have R:=zng (df9 240 X G) T b c m n M N O Q;have S:=qvd (P:=l.prog) (w:=w) (base:=base) (df9 293 X G) T;have U:=qli (dt9 286 X G) T KB S;have q:=zoy (df9 279 X G) T i J b H R U;have V:=zem (df9 298 X G) T O4;have W:=zpn (df9 124 X G) T E F;have r:=zpv (df9 131 X G) T E F;have t:=zna (df9 138 X G) T E F;have u:=zpp (df9 312 X G) T i r;have Y:=qxu (df9 305 X G) T W r t u;have Z:=zak (P:=l.prog) (w:=w) (base:=base) (df9 326 X G) T;have d:=zwn (df9 319 X G) T O4 q V u Y Z;have O34:=zln (P:=l.prog) (w:=w) (base:=base) (df9 213 X G) T;have O35:=qub (df9 343 X G) T b H O34;have O36:=qxk (df9 338 X G) T b c O35;have x:=zjo (df9 333 X G) T O36;have O38:=zkv (P:=l.prog) (w:=w) (base:=base) (df9 360 X G) T;have O39:=qxo (df9 355 X G) T O38;have y:=qia (df9 367 X G) T J;have O41:=qic (P:=l.prog) (w:=w) (base:=base) (df9 374 X G) T;have O42:=zkl (df9 348 X G) T b c O39 y O41;have z:=que (P:=l.prog) (w:=w) (base:=base) (df9 516 X G) T;have O44:=qqk (P:=l.prog) (w:=w) (base:=base) (df9 523 X G) T;have O45:=qxp (df9 528 X G) T O44;have O46:=zaq (P:=l.prog) (w:=w) (base:=base) (df9 535 X G) T;have O47:=qxv (df9 542 X G) T z O46;have O48:=qum (df9 549 X G) T O45 O47;have O49:=qqj (P:=l.prog) (w:=w) (base:=base) (df9 388 X G) T;have O50:=zkh (df9 393 X G) T g;have O51:=qur (P:=l.prog) (w:=w) (base:=base) (df9 446 X G) T;have O52:=qlp (md9 405) T O51;have O53:=qua (P:=l.prog) (w:=w) (base:=base) (md9 410) T;have O54:=qjd (P:=l.prog) (w:=w) (base:=base) (md9 429) T;have O55:=qlj (md9 422) T O54;have O56:=zdv (P:=l.prog) (w:=w) (base:=base) (df9 451 X G) T;have O57:=qlo (md9 415) T O55 O56;have O58:=qux (md9 434) T i;have O59:=zjw (df9 381 X G) T O49 O50 O52 O53 O57 O58;have O60:=qkt (df9 479 X G) T b;have O61:=zeu (P:=l.prog) (w:=w) (base:=base) (df9 489 X G) T;have O62:=qpj (df9 494 X G) T b;have O63:=qxm (df9 484 X G) T b O61 O62;have O64:=qqm (df9 499 X G) T b;have A:=zeq (P:=l.prog) (w:=w) (base:=base) (df9 509 X G) T;have O66:=quk (df9 504 X G) T i b m t A;have B:=zai (df9 458 X G) T J b y O59 O60 O63 O64 A O66;have O68:=qup (df9 472 X G) T B;have O69:=zou (df9 465 X G) T O68;have O70:=qky (df9 556 X G) T q d B O69;have O71:=qxt (df9 162 X G) T f;have O72:=qql (df9 157 X G) T f O71;have C:=zaz (df9 152 X G) T c O72;have D:=qpp (df9 230 X G) T f;have O75:=zoz (df9 218 X G) T n C D;have O76:=znd (df9 223 X G) T C D;have O77:=qkv (df9 563 X G) T d x O75 O76;exact xaq (P:=l.prog) (w:=w) (K:=(K0 w.params)) (mg:=mg) (base:=base) (lk9 (congrArg (·.2) a)).1 T d x O42 z O48 O70 O77
theorem tq0(P:Qcp):(([(242,246),(281,285)]:List (Addr×Addr)).all λp=>L2.codeTb (K0 P) p.2 p.1)=true:=by kernel_rfl
end My
open PySem PySem.W PyProof.Rows
set_option maxRecDepth 100000 in
set_option maxHeartbeats 0 in
theorem PySem.Challenge.cw_dullglass_k46_whole_curves_and_dulls_holds : PySem.Challenge.rw_dullglass_k46_whole_curves_and_dulls.Holds := by
 w_on
 refine holds_law My.sd0 λsaid=>?_;refine holds_open (q:=view Qf [93]) (XP:=λ_ _=>True) (YP:=InK My.K1) My.left0 (InK.of My.ik0) InK.keeps (λ_ _=>V8) (λ_ _ _ _ _=>V8) (by rfl) (by rfl) (by rfl) (λs _=>recFacts_nil rfl) (by rfl) (by assumption) (by decide +kernel) ⟨rfl,rfl,rfl,rfl,rfl,by decide +kernel⟩ ?hw ?hc
 case hw=>w_witness2
 k_fill
 exact My.walk (l:=Yl) (K:=My.K0) (tbs:=[242,281]) rfl rfl (λw h Y=>L2.tabs_in (ts:=[(242,246),(281,285)]) (My.tn0 _) (My.tq0 _) Y) (λ_=>L2.none_all (ts:=[(242,246),(281,285)]) (by kernel_rfl)) λw mg fa h KX G hmg=>My.all_mk KX G hmg
