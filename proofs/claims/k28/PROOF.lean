import PyProof.Rows.All
import Wide.All
import OpenK.AllK
import Wide.FinOn
import Lean
import PyProof.EqAt
import PyProof.EqKinds
import PyProof.TupleCall
import PySem.Challenge.RW_dullglass_k28_whole_one_of_both
set_option Elab.async false
set_option linter.all false
set_option maxRecDepth 100000
set_option maxHeartbeats 4000000
set_option genSizeOf false
set_option genInjectivity false
namespace L2
open PySem PySem.Spec PyProof.Rows
abbrev Key:=Sum Int Str
def keyIs:Key→Value→Bool
 | .inl k,v=>Value.isInt k v
 | .inr x,v=>Value.isStrOf x v
def keyH (w:World):Key→Int
 | .inl k=>hashInt k
 | .inr x=>hashStr w x
theorem keyIs_shape : ∀ {k:Key} {v:Value},keyIs k v=true→(∃ i t,k=Sum.inl i∧v=Value.int i t)∨(∃ x t,k=Sum.inr x∧v=Value.str x t)
 | .inl i,v,h=>by
  obtain ⟨t,e⟩:=Value.isInt_shape (k:=i) (v:=v) h
  exact .inl ⟨i,t,rfl,e⟩
 | .inr x,v,h=>by
  obtain ⟨t,e⟩:=Value.isStrOf_shape (x:=x) (v:=v) h
  exact .inr ⟨x,t,rfl,e⟩
theorem key_ll (a b:Int):decide ((Sum.inl a:Key)=Sum.inl b)=(a==b):=by
 by_cases e:a=b
 ·subst e; simp
 ·have h : ¬ (Sum.inl a:Key)=Sum.inl b:=fun q=>e (Sum.inl.inj q)
  rw [decide_eq_false h]
  exact (beq_eq_false_iff_ne.mpr e).symm
theorem key_rr (a b:Str):decide ((Sum.inr a:Key)=Sum.inr b)=decide (a=b):=by
 by_cases e:a=b
 ·subst e; simp
 ·have h : ¬ (Sum.inr a:Key)=Sum.inr b:=fun q=>e (Sum.inr.inj q)
  rw [decide_eq_false h,decide_eq_false e]
theorem key_lr (a:Int) (b:Str):decide ((Sum.inl a:Key)=Sum.inr b)=false:=decide_eq_false (fun q=>nomatch q)
theorem key_rl (a:Str) (b:Int):decide ((Sum.inr a:Key)=Sum.inl b)=false:=decide_eq_false (fun q=>nomatch q)
def mixKind (prog:Program) (w:World):PySem.KeyKind prog w Key where
 is:=keyIs
 hash:=keyH w
 inj:=fun v a b ha hb=>by
  rcases keyIs_shape ha with ⟨i,t,rfl,rfl⟩|⟨x,t,rfl,rfl⟩
  ·rcases keyIs_shape hb with ⟨j,u,rfl,e⟩|⟨y,u,rfl,e⟩
   ·injection e with e1 _; rw [e1]
   ·exact nomatch e
  ·rcases keyIs_shape hb with ⟨j,u,rfl,e⟩|⟨y,u,rfl,e⟩
   ·exact nomatch e
   ·injection e with e1 _; rw [e1]
 byValue:=fun k v h=>by
  rcases keyIs_shape h with ⟨i,t,rfl,rfl⟩|⟨x,t,rfl,rfl⟩ <;> rfl
 pyHash:=fun hv h=>by
  rcases keyIs_shape hv with ⟨i,t,rfl,rfl⟩|⟨x,t,rfl,rfl⟩
  ·exact wpAny_pyHash_int h
  ·exact wpAny_pyHash_str h
 eqBool:=fun hu hv h=>by
  rcases keyIs_shape hu with ⟨i,t,rfl,rfl⟩|⟨x,t,rfl,rfl⟩
  ·rcases keyIs_shape hv with ⟨j,u,rfl,rfl⟩|⟨y,u,rfl,rfl⟩
   ·rw [key_ll] at h; exact wpAny_eqBool_int h
   ·rw [key_lr] at h; exact SeqAt.EqAt.int_str i t y u _ _ _ _ h
  ·rcases keyIs_shape hv with ⟨j,u,rfl,rfl⟩|⟨y,u,rfl,rfl⟩
   ·rw [key_rl] at h; exact SeqAt.EqAt.str_int x t j u _ _ _ _ h
   ·rw [key_rr] at h; exact wpAny_eqBool_str h
 «strs»:=fun k x t v h=>by
  rcases keyIs_shape h with ⟨i,u,rfl,e⟩|⟨y,u,rfl,e⟩
  ·exact nomatch e
  ·injection e with e1 _
   subst e1
   cases v <;> rfl
end L2
namespace L2
open PySem PySem.Spec PyProof.Rows
inductive V where
 | non|bl (b:Bool)|int (i:Int)|str (x:Str)|byt (b:Array UInt8)|flt (b:UInt64)|ref (a:Addr)|ty (n:String)
 deriving DecidableEq
def RelV:V→Value→Prop
 | .non,u=>u=Value.none
 | .bl b,u=>u=Value.bool b
 | .int i,u => ∃ t,u=Value.int i t
 | .str x,u => ∃ t,u=Value.str x t
 | .byt b,u => ∃ t,u=Value.bytes b t
 | .flt b,u => ∃ t,u=Value.float b t
 | .ref a,u=>u=Value.ref a
 | .ty n,u=>u=Value.type n
abbrev Vals:List V→List Value→Prop:=Paired RelV
theorem Vals.length {xs:List V} {us:List Value} (r:Vals xs us):xs.length=us.length:=Paired.length r
theorem Vals.get : ∀ {xs:List V} {us:List Value} {i:Nat} {x:V},Vals xs us→xs[i]?=some x → ∃ u,us[i]?=some u∧RelV x u
 | _,_,_,_,.nil,e=>by simp at e
 | _,_,0,_,.cons r _,e=>by simp at e; subst e; exact ⟨_,rfl,r⟩
 | _,_,i+1,x,.cons _ t,e=>by
  obtain ⟨u,h1,h2⟩:=Vals.get (i:=i) (x:=x) t (by simpa using e)
  exact ⟨u,by simpa using h1,h2⟩
theorem Vals.set {x:V} {u:Value} (r:RelV x u) : ∀ {xs:List V} {us:List Value} (i:Nat),Vals xs us→Vals (xs.set i x) (us.set i u)
 | _,_,_,.nil => .nil
 | _,_,0,.cons _ t => .cons r t
 | _,_,i+1,.cons q t => .cons q (Vals.set r i t)
theorem Vals.append : ∀ {xs ys:List V} {us ws:List Value},Vals xs us→Vals ys ws→Vals (xs++ys) (us++ws)
 | _,_,_,_,.nil,s=>s
 | _,_,_,_,.cons r t,s => .cons r (Vals.append t s)
theorem Vals.take : ∀ {xs:List V} {us:List Value} (n:Nat),Vals xs us→Vals (xs.take n) (us.take n)
 | _,_,0,_ => .nil
 | _,_,_+1,.nil => .nil
 | _,_,n+1,.cons r t => .cons r (Vals.take n t)
theorem Vals.drop : ∀ {xs:List V} {us:List Value} (n:Nat),Vals xs us→Vals (xs.drop n) (us.drop n)
 | _,_,0,r=>r
 | _,_,_+1,.nil => .nil
 | _,_,n+1,.cons _ t=>Vals.drop n t
def RelO:Option V→Option Value→Prop
 | some v,some u=>RelV v u
 | none,none=>True
 | _,_=>False
def KV {κ:Type}:List (κ×V)→List (κ×Value)→Prop:=Paired fun (p:κ×V) (q:κ×Value)=>p.1=q.1∧RelV p.2 q.2
def kV:Key→V
 | .inl i => .int i
 | .inr x => .str x
inductive HO where
 | lst (xs:List V)
 | tup (xs:List V)
 | dK (kvs:List (Key×V))|dT (kvs:List (List Key×V))
 | set (S:Int→Bool) (n:Nat)
 | ins (C dx:Addr) (fs:List (Str×V))
 | own (x:Addr)
 | xd (fs:List (Str×V))
 | met (f x:Addr)
 | rng (lo hi:Int)
 | frz (o:Obj) (u:HO)
 | tbl (ps:Array Value)
 | ext (φ:Heap→Prop)
abbrev Hp:=Addr→Option HO
def upd (H:Hp) (a:Addr) (o:HO):Hp:=fun b=>if b=a then some o else H b
theorem upd_same {H:Hp} {a:Addr} {o:HO}:upd H a o a=some o:=by unfold upd; rw [if_pos rfl]
theorem upd_ne {H:Hp} {a b:Addr} {o:HO} (h:b≠a):upd H a o b=H b:=by unfold upd; rw [if_neg h]
theorem upd_upd {H:Hp} {a:Addr} {o u:HO}:upd (upd H a o) a u=upd H a u:=by
 funext b; unfold upd; split <;> rfl
theorem ne_of_none {H:Hp} {a b:Addr} {o:HO} (h:H a=some o) (h':H b=none):a≠b:=by
 intro e; subst e; rw [h] at h'; cases h'
section
variable (P:Program) (w:World)
def ObjOk (H:Hp) (h:Heap) (a:Addr):HO→Prop
 | .lst xs=>xs.length≤sizeLine ∧ ∃ (its:List Value) (n:Nat),Vals xs its∧h.get? a=some { cls :=.type "list",data :=.seq its.toArray n }
 | .tup xs=>xs.length≤sizeLine ∧ ∃ its:List Value,Vals xs its∧IsTup h a its.toArray
 | .dK kvs=>kvs.length≤sizeLine∧(a==sysModules)=false ∧ ∃ vs,KV kvs vs∧h.DictOf (mixKind P w) a vs
 | .dT kvs=>kvs.length≤sizeLine∧(a==sysModules)=false ∧ ∃ xs:List (List Key×Addr×Value),
  Paired (fun (p:List Key×V) (q:List Key×Addr×Value)=>p.1=q.1∧H q.2.1=some (.tup (p.1.map kV))∧RelV p.2 q.2.2) kvs xs ∧
  ∃ o es ep,h.get? a=some o∧o.ExactDict∧o.data = .dict es ep∧es.toList=xs.map (entryOfKey (tupleKind (mixKind P w)))∧(xs.map (·.1)).Nodup
 | .set S n=>h.SetOf (intKind P w) a S n
 | .ins C dx fs=>H dx=some (.own a)∧fs.length≤1000∧dx≠a∧h.get? a=some (PySem.W.instObj C dx) ∧
  ∃ mA,h.Ns1 dx mA∧(∀ f,RelO (fs.lookup f) (mA f))∧PySem.Within mA (fs.map (·.1))
 | .own _ => ∃ o,h.get? a=some o
 | .xd fs => ∃ mA,h.Ns1 a mA ∧ ∀ f,RelO (fs.lookup f) (mA f)
 | .rng lo hi => ∃ t u v,h.get? a=some { cls :=.type "range",data :=.fields #[.int lo t,.int hi u,.int 1 v] }
 | .frz o u=>h.get? a=some o∧ObjOk H h a u
 | .tbl ps=>h.get? a=some { cls :=.none,data :=.fields ps }
 | .met f x=>h.get? a=some (PySem.W.methodObj (.ref f) (.ref x))
 | .ext φ=>φ h∧(∃ o,h.get? a=some o) ∧ ∀ h1 h2:Heap,φ h1→(∀ o,h1.get? a=some o→h2.get? a=some o)→φ h2
def HOk (H:Hp) (h:Heap):Prop := ∀ a o,H a=some o→ObjOk P w H h a o
end
section
variable {P:Program} {w:World} {H H':Hp} {h h':Heap} {a:Addr} {o:HO}
theorem ObjOk.lt (x:ObjOk P w H h a o):a<h.objs.size:=by
 cases o with
 | lst xs=>obtain ⟨_,_,_,_,e⟩:=x; exact Heap.lt_size e
 | tup xs=>obtain ⟨_,_,_,p⟩:=x; exact p.lt
 | dK kvs=>obtain ⟨_,_,_,_,o,_,_,e,_⟩:=x; exact Heap.lt_size e
 | dT kvs=>obtain ⟨_,_,_,_,o,_,_,e,_⟩:=x; exact Heap.lt_size e
 | set S n=>obtain ⟨o,_,_,_,e,_⟩:=x; exact Heap.lt_size e
 | ins C dx fs=>obtain ⟨_,_,_,e,_⟩:=x; exact Heap.lt_size e
 | own y=>obtain ⟨_,e⟩:=x; exact Heap.lt_size e
 | xd fs=>obtain ⟨_,⟨_,_,_,e,_⟩,_⟩:=x; exact Heap.lt_size e
 | rng lo hi=>obtain ⟨_,_,_,e⟩:=x; exact Heap.lt_size e
 | frz ob u=>obtain ⟨e,_⟩:=x; exact Heap.lt_size e
 | tbl ps=>exact Heap.lt_size (show h.get? a=some _ from x)
 | met f y=>exact Heap.lt_size (show h.get? a=some _ from x)
 | ext φ=>obtain ⟨_,⟨_,e⟩,_⟩:=x; exact Heap.lt_size e
theorem Paired.mapP {α β:Type} {F G:α→β→Prop} : ∀ {l₁:List α} {l₂:List β},Paired F l₁ l₂→(∀ a b,F a b→G a b)→Paired G l₁ l₂
 | _,_,.nil,_ => .nil
 | _,_,.cons r t,f => .cons (f _ _ r) (Paired.mapP t f)
theorem ObjOk.stay (x:ObjOk P w H h a o) (k : ∀ b u,(b=a∨H b=some (.own a))→h.get? b=some u→h'.get? b=some u)
 (ho : ∀ b,H b=some (.own a)→H' b=some (.own a)) (ht : ∀ b xs,H b=some (.tup xs)→H' b=some (.tup xs)):ObjOk P w H' h' a o:=by
  induction o with
  | lst xs=>obtain ⟨z,its,n,r,e⟩:=x; exact ⟨z,its,n,r,k _ _ (.inl rfl) e⟩
  | tup xs=>obtain ⟨z,its,r,ob,e,c⟩:=x; exact ⟨z,its,r,ob,k _ _ (.inl rfl) e,c⟩
  | dK kvs=>obtain ⟨z,y,vs,r,ob,es,ep,e,c⟩:=x; exact ⟨z,y,vs,r,ob,es,ep,k _ _ (.inl rfl) e,c⟩
  | dT kvs =>
   obtain ⟨z,y,xs,r,ob,es,ep,e,c⟩:=x
   exact ⟨z,y,xs,Paired.mapP r fun p q z=>⟨z.1,ht _ _ z.2.1,z.2.2⟩,ob,es,ep,k _ _ (.inl rfl) e,c⟩
  | set S n=>obtain ⟨ob,es,ep,t,e,c⟩:=x; exact ⟨ob,es,ep,t,k _ _ (.inl rfl) e,c⟩
  | ins C dx fs =>
   obtain ⟨d,z,ne,e,mA,⟨od,es,ep,e2,c⟩,r⟩:=x
   exact ⟨ho _ d,z,ne,k _ _ (.inl rfl) e,mA,⟨od,es,ep,k _ _ (.inr d) e2,c⟩,r⟩
  | own y=>obtain ⟨ob,e⟩:=x; exact ⟨ob,k _ _ (.inl rfl) e⟩
  | xd fs=>obtain ⟨mA,⟨od,es,ep,e,c⟩,r⟩:=x; exact ⟨mA,⟨od,es,ep,k _ _ (.inl rfl) e,c⟩,r⟩
  | rng lo hi=>obtain ⟨t,u,v,e⟩:=x; exact ⟨t,u,v,k _ _ (.inl rfl) e⟩
  | frz ob u ih=>obtain ⟨e,q⟩:=x; exact ⟨k _ _ (.inl rfl) e,ih q⟩
  | tbl ps =>
   have e:h.get? a=some { cls :=.none,data :=.fields ps }:=x
   show h'.get? a=some { cls :=.none,data :=.fields ps }
   exact k a _ (.inl rfl) e
  | met f y =>
   have e:h.get? a=some (PySem.W.methodObj (.ref f) (.ref y)):=x
   show h'.get? a=some (PySem.W.methodObj (.ref f) (.ref y))
   exact k a _ (.inl rfl) e
  | ext φ=>obtain ⟨p,⟨o,e⟩,st⟩:=x; exact ⟨st _ _ p fun o q=>k _ _ (.inl rfl) q,⟨o,k _ _ (.inl rfl) e⟩,st⟩
theorem HOk.lt (x:HOk P w H h) (e:H a=some o):a<h.objs.size:=(x a o e).lt
theorem HOk.fresh (x:HOk P w H h) (e:h.objs.size≤a):H a=none:=by
 cases q:H a with
 | none=>rfl
 | some u=>exact absurd (Nat.lt_of_lt_of_le (x.lt q) e) (Nat.lt_irrefl _)
theorem HOk.kept (x:HOk P w H h) (k : ∀ b u,h.get? b=some u→h'.get? b=some u):HOk P w H h':=fun a o e =>
 (x a o e).stay (fun b u _ q=>k b u q) (fun _ q=>q) fun _ _ q=>q
theorem HOk.laid (x:HOk P w H h) (k : ∀ b u,h.get? b=some u→h'.get? b=some u) (hp:h.objs.size≤a) (new:ObjOk P w (upd H a o) h' a o):HOk P w (upd H a o) h':=fun b u e=>by
 have hn:=x.fresh hp
 by_cases hb:b=a
 ·subst hb; rw [upd_same] at e; cases e; exact new
 ·rw [upd_ne hb] at e
  exact (x b u e).stay (fun c v _ q=>k c v q) (fun c q=>by rw [upd_ne (ne_of_none q hn)]; exact q) fun c xs q=>by rw [upd_ne (ne_of_none q hn)]; exact q
end
def Rd (H:Hp) (a:Addr) (u:HO):Prop:=H a=some u ∨ ∃ o,H a=some (.frz o u)
theorem Rd.ok {P:Program} {w:World} {H:Hp} {h:Heap} {a:Addr} {u:HO} (r:Rd H a u) (x:HOk P w H h):ObjOk P w H h a u:=by
 rcases r with r|⟨o,r⟩
 ·exact x a u r
 ·obtain ⟨_,q⟩:=x a _ r
  exact q
def Mut:Option HO→Prop
 | some (.lst _)=>True
 | some (.dK _)=>True
 | some (.dT _)=>True
 | some (.set _ _)=>True
 | some (.ins _ _ _)=>True
 | some (.ext _)=>True
 | _=>False
section
variable {P:Program} {w:World} {H:Hp} {h h':Heap} {x e:Addr} {o':HO}
theorem HOk.write (ok:HOk P w H h) (mu:Mut (H x)) (he:e=x∨H e=some (.own x)) (k : ∀ b u,b≠e→h.get? b=some u→h'.get? b=some u) (heo : ∃ u,h'.get? e=some u)
 (new:ObjOk P w (upd H x o') h' x o'):HOk P w (upd H x o') h':=fun b u q=>by
  have nown : ∀ c y,H c=some (.own y)→c≠x:=fun c y r z=>by subst z; rw [r] at mu; exact mu
  have ntup : ∀ c xs,H c=some (.tup xs)→c≠x:=fun c xs r z=>by subst z; rw [r] at mu; exact mu
  by_cases hb:b=x
  ·subst hb; rw [upd_same] at q; cases q; exact new
  ·rw [upd_ne hb] at q
   by_cases hbe:b=e
   ·have q':H b=some (.own x):=by
     rcases he with z|z
     ·exact absurd (hbe.trans z) hb
     ·rw [hbe]; exact z
    rw [q] at q'; cases q'
    obtain ⟨v,hv⟩:=heo
    exact ⟨v,by rw [hbe]; exact hv⟩
   ·refine (ok b u q).stay (fun c v hc r=>k c v ?_ r) (fun c r=>by rw [upd_ne (nown c b r)]; exact r) fun c xs r=>by rw [upd_ne (ntup c xs r)]; exact r
    rcases hc with rfl|hc
    ·exact hbe
    ·rintro rfl
     rcases he with z|z
     ·exact nown c b hc z
     ·rw [hc] at z; cases z; exact hb rfl
end
structure Un (fs ex:List Addr) (H H':Hp) (h h':Heap):Prop where
 keep : ∀ b o,h.get? b=some o→H b=none→b ∉ fs→b ∉ ex→h'.get? b=some o
 slot : ∀ b o,h.get? b=some o→H b=none→b ∈ fs→b ∉ ex → ∃ sl,h'.get? b=some { o with slots:=sl }
 free : ∀ b o,h.get? b=some o→H b=none→b ∉ ex→H' b=none
 there : ∀ b o,h.get? b=some o→b ∉ ex → ∃ o',h'.get? b=some o'
 tups : ∀ b xs,H b=some (.tup xs)→H' b=some (.tup xs)
 frzs : ∀ b o u,H b=some (.frz o u)→H' b=some (.frz o u)
 tbls : ∀ b ps,H b=some (.tbl ps) → ∃ more,H' b=some (.tbl (ps++more))
section
variable {fs fs' ex ex':List Addr} {H H1 H2:Hp} {h h1 h2 h':Heap} {a x e:Addr} {o:HO}
theorem Un.any (u:Un fs ex H H1 h h1) {b:Addr} {ob:Obj} (q:h.get? b=some ob) (n:H b=none) (hx:b ∉ ex) : ∃ sl,h1.get? b=some { ob with slots:=sl }:=by
 by_cases hb:b ∈ fs
 ·exact u.slot b ob q n hb hx
 ·exact ⟨ob.slots,u.keep b ob q n hb hx⟩
theorem Un.kept (k : ∀ b u,h.get? b=some u→h'.get? b=some u):Un fs ex H H h h' :=
 ⟨fun b ob q _ _ _=>k b ob q,fun b ob q _ _ _=>⟨ob.slots,k b ob q⟩,fun _ _ _ n _=>n,fun b ob q _=>⟨ob,k b ob q⟩,fun _ _ q=>q,fun _ _ _ q=>q,fun _ ps q=>⟨#[],by rw [q]; simp⟩⟩
theorem Un.refl:Un fs ex H H h h:=Un.kept fun _ _ q=>q
theorem Un.laid (k : ∀ b u,h.get? b=some u→h'.get? b=some u) (hp:h.objs.size≤a) (hn:H a=none):Un fs ex H (upd H a o) h h' where
 keep:=fun b u q _ _ _=>k b u q
 slot:=fun b u q _ _ _=>⟨u.slots,k b u q⟩
 free:=fun b u q n _=>by rw [upd_ne (Nat.ne_of_lt (Nat.lt_of_lt_of_le (Heap.lt_size q) hp))]; exact n
 there:=fun b u q _=>⟨u,k b u q⟩
 tups:=fun b xs q=>by rw [upd_ne (ne_of_none q hn)]; exact q
 frzs:=fun b u xs q=>by rw [upd_ne (ne_of_none q hn)]; exact q
 tbls:=fun b ps q=>⟨#[],by rw [upd_ne (ne_of_none q hn),q]; simp⟩
theorem Un.write (mu:Mut (H x)) (he:e=x∨H e=some (.own x)) (k : ∀ b u,b≠e→h.get? b=some u→h'.get? b=some u) (heo : ∃ u,h'.get? e=some u):Un fs ex H (upd H x o) h h':=by
 have hx : ∀ b,H b=none→b≠x:=fun b n z=>by subst z; rw [n] at mu; exact mu
 have hb : ∀ b,H b=none→b≠e:=fun b n z=>by
  subst z
  rcases he with r|r
  ·exact hx b n r
  ·rw [n] at r; cases r
 have hm : ∀ b u,H b=some u → ¬ Mut (some u)→b≠x:=fun b u q nm z=>by subst z; rw [q] at mu; exact nm mu
 refine ⟨fun b u q n _ _=>k b u (hb b n) q,fun b u q n _ _=>⟨u.slots,k b u (hb b n) q⟩,fun b u q n _=>by rw [upd_ne (hx b n)]; exact n,fun b u q _=>?_,
  fun b xs q=>by rw [upd_ne (hm b _ q fun z=>z)]; exact q,fun b u xs q=>by rw [upd_ne (hm b _ q fun z=>z)]; exact q,fun b ps q=>⟨#[],by rw [upd_ne (hm b _ q fun z=>z),q]; simp⟩⟩
 by_cases hbe:b=e
 ·subst hbe; exact heo
 ·exact ⟨u,k b u hbe q⟩
end
def trk (h:Heap) (H:Hp):List Addr:=(List.range h.objs.size).filter fun a=>(H a).isSome
def hidT (h:Heap) (H:Hp):Heap:=PySem.W.hideAll h (trk h H)
theorem hidT_size (h:Heap) (H:Hp):(hidT h H).objs.size=h.objs.size:=PySem.W.hideAll_size _ _
theorem hidT_get {h:Heap} {H:Hp} {b:Addr} {o:Obj} (e:h.get? b=some o) (n:H b=none):(hidT h H).get? b=some o :=
 PySem.W.hideAll_get _ e fun hm=>by
  have q:(H b).isSome=true:=(List.mem_filter.mp hm).2
  rw [n] at q; simp at q
theorem of_hidT {h:Heap} {H:Hp} {b:Addr} {o:Obj} (e:(hidT h H).get? b=some o):h.get? b=some o∧H b=none:=by
 have e':h.get? b=some o:=PySem.W.of_hideAll (trk h H) e
 refine ⟨e',?_⟩
 cases q:H b with
 | none=>rfl
 | some x =>
  have hm:b ∈ trk h H:=List.mem_filter.mpr ⟨List.mem_range.mpr (Heap.lt_size e'),by simp [q]⟩
  have z:(hidT h H).get? b=none:=PySem.W.hideAll_none (trk h H) hm
  rw [z] at e; cases e
def allNews (g h:Heap) (L:Addr):List (Addr×Obj):=(List.range h.objs.size).filterMap fun a=>if a=L∨(g.get? a).isSome=true then none else (h.get? a).map fun o=>(a,o)
def rest (g h:Heap) (L d:Addr):List (Addr×Obj):=(allNews g h L).filter fun p=>decide (p.1≠d)
end L2
namespace L2
open PySem PySem.Spec PyProof.Rows
structure Mod (K:PySem.W.Frag) (mg:Str→Option Value) (base:Heap):Prop where
 kin:K.In base
 glob:base.Ns mainGlobals mg
 blt : ∃ mb,base.Ns builtinsNs mb ∧ ∀ x:Str,x ≠ "__name__" → mb x=bootBuiltins x
 nolimit:base.NoLimit
structure Cx where
 prog:Program
 w:World
 K:PySem.W.Frag
 mg:Str→Option Value
 base:Heap
 A:Around
 N:List Str
 s₀:Shared
 H₀:Hp
 env:Env
 outer:List Env
 stack:List Env
 ex:List Addr
 fn:Str→Bool
 calm:Bool
 pn:List (Addr×Obj)
 xe:Value→Shared→Prop
def frs (l:List Env):List Addr:=l.filterMap (·.frame)
abbrev Cx.fs (X:Cx):List Addr:=frs X.outer
def Vis (sc:Scope) (x:Str):Prop:=sc.names.lookup x=some .local∨sc.names.lookup x=some .cell∨sc.names.lookup x=some .free
def Loc (sc:Scope) (x:Str):Prop:=sc.names.lookup x=some .local∨sc.names.lookup x=some .cell
def Look (env:Env) (h:Heap) (m:Str→Option Value) (x:Str) (u:Value):Prop :=
 (env.kindOf x=some .local∧m x=some u)∨((env.kindOf x=some .cell∨env.kindOf x=some .free) ∧ ∃ c,env.cells.lookup x=some c∧h.IsCell c (some u))
structure Cx.Ok (X:Cx):Prop where
 mod:Mod X.K X.mg X.base
 kind:X.env.scope.kind = .function
 glob:X.env.globals=mainGlobals
 blt:X.env.builtins=builtinsNs
 above:X.s₀.heap.objs.size≤X.env.locals
 inj : ∀ x y c,X.env.cells.lookup x=some c→X.env.cells.lookup y=some c→x=y
 has : ∀ x,(X.env.kindOf x=some .cell∨X.env.kindOf x=some .free) → ∃ c,X.env.cells.lookup x=some c
 cab : ∀ x c,X.fn x=true→X.env.cells.lookup x=some c→X.s₀.heap.objs.size≤c
 hd:X.calm=true→X.A.handled=none
 frames:X.A.frames=some X.stack
 stk:X.stack=X.outer∨(X.stack=X.env::X.outer∧X.env.frame=some X.env.locals)
 exf : ∀ b ∈ X.ex,b≠X.env.locals ∧ ∀ x c,X.env.cells.lookup x=some c→c≠b
 bs : ∀ b o,X.base.get? b=some o→X.s₀.heap.get? b=some o∧X.H₀ b=none
 bsz:X.base.objs.size≤X.s₀.heap.objs.size
 noex : ∀ b o,X.base.get? b=some o→b ∉ X.ex
 exfs : ∀ b ∈ X.ex,b ∉ X.fs
 funs:X.s₀.heap.FunFrames X.base X.outer
 frf : ∀ b ∈ X.fs,X.H₀ b=none
structure Inv (X:Cx) (pins:List (Addr×Obj)) (σ:List (Option V)) (H:Hp) (s:Shared):Prop where
 ok:X.Ok
 os:s.os=X.s₀.os
 bare:AllBare s.gens
 base:Un X.fs X.ex X.H₀ H X.s₀.heap s.heap
 loc : ∃ m,s.heap.Ns X.env.locals m ∧ ∀ (i:Nat) (x:Str) (v:V),X.N[i]?=some x→σ[i]?=some (some v)→Vis X.env.scope x → ∃ u,RelV v u∧Look X.env s.heap m x u
 cell : ∀ x c,X.env.cells.lookup x=some c → ∃ v,s.heap.IsCell c v
 free:H X.env.locals=none
 freeC : ∀ x c,X.env.cells.lookup x=some c→H c=none
 pin : ∀ p ∈ X.pn++pins,s.heap.get? p.1=some p.2∧H p.1=none∧p.1≠X.env.locals∧p.1 ∉ X.fs ∧ ∀ v,p.2.data ≠ .cell v
 hok:HOk X.prog X.w H s.heap
 len:σ.length=X.N.length
section
variable {X:Cx} {pins:List (Addr×Obj)} {σ:List (Option V)} {H H':Hp} {s:Shared} {h':Heap}
theorem Cx.Ok.nofr (ok:X.Ok) {b:Addr} {o:Obj} (e:X.base.get? b=some o):b ∉ X.fs:=fun hb=>by
 have:=(ok.funs.mem hb).1
 rw [e] at this; cases this
theorem Inv.bs (I:Inv X pins σ H s) : ∀ b o,X.base.get? b=some o→s.heap.get? b=some o∧H b=none:=fun b o e =>
 ⟨I.base.keep b o (I.ok.bs b o e).1 (I.ok.bs b o e).2 (I.ok.nofr e) (I.ok.noex b o e),I.base.free b o (I.ok.bs b o e).1 (I.ok.bs b o e).2 (I.ok.noex b o e)⟩
theorem Inv.bk (I:Inv X pins σ H s) : ∀ b o,X.base.get? b=some o→s.heap.get? b=some o:=fun b o e=>(I.bs b o e).1
theorem Inv.mod (I:Inv X pins σ H s):Mod X.K X.mg X.base:=I.ok.mod
theorem Inv.kIn (I:Inv X pins σ H s):X.K.In s.heap:=I.ok.mod.kin.keeps I.bk
theorem Inv.lt (I:Inv X pins σ H s):X.env.locals<s.heap.objs.size:=let ⟨_,hn,_⟩:=I.loc; hn.lt
theorem Inv.sz (I:Inv X pins σ H s):X.s₀.heap.objs.size≤s.heap.objs.size:=Nat.le_trans I.ok.above (Nat.le_of_lt I.lt)
theorem Inv.nofs (I:Inv X pins σ H s) {a:Addr} (h:s.heap.objs.size≤a):a ∉ X.fs:=fun hb=>by
 obtain ⟨_,o,ho,_⟩:=I.ok.funs.mem hb
 exact absurd (Nat.lt_of_lt_of_le (Heap.lt_size ho) (Nat.le_trans I.sz h)) (Nat.lt_irrefl _)
theorem Inv.cne (I:Inv X pins σ H s) : ∀ x c,X.env.cells.lookup x=some c→c≠X.env.locals:=fun x c e z=>by
 obtain ⟨v,o,ho,hd⟩:=I.cell x c e
 obtain ⟨m,⟨o',es,ep,ho',hd',_⟩,_⟩:=I.loc
 rw [z,ho'] at ho; cases ho; rw [hd'] at hd; cases hd
theorem Inv.funs (I:Inv X pins σ H s):s.heap.FunFrames X.base X.outer:=by
 have all : ∀ (l:List Env),(∀ b ∈ frs l,b ∈ X.fs)→X.s₀.heap.FunFrames X.base l→s.heap.FunFrames X.base l:=by
  intro l
  induction l with
  | nil=>intro _ _; trivial
  | cons env r ih =>
   intro hs hl
   obtain ⟨hk,⟨L,o,hf,hn,ho,hd⟩,hr⟩:=hl
   have hL:L ∈ X.fs:=hs L (by unfold frs; rw [List.filterMap_cons,hf]; exact List.mem_cons_self)
   obtain ⟨sl,e⟩:=I.base.slot L o ho (I.ok.frf L hL) hL fun z=>I.ok.exfs L z hL
   exact ⟨hk,⟨L,_,hf,hn,e,hd⟩,ih (fun b hb=>hs b (by unfold frs; rw [List.filterMap_cons,hf]; exact List.mem_cons_of_mem _ hb)) hr⟩
 exact all X.outer (fun _ hb=>hb) I.ok.funs
theorem Inv.stack (I:Inv X pins σ H s):s.heap.FunFrames X.base X.stack:=by
 rcases I.ok.stk with e|⟨e,hf⟩
 ·rw [e]; exact I.funs
 ·rw [e]
  obtain ⟨m,hn,_⟩:=I.loc
  refine .cons (by rw [I.ok.kind]; decide) hf hn ?_ I.funs
  exact Heap.get?_none_of_le (Nat.le_trans I.ok.bsz I.ok.above)
theorem Inv.stkSub (I:Inv X pins σ H s) : ∀ b ∈ frs X.stack,b ∈ X.env.locals::X.fs:=fun b hb=>by
 rcases I.ok.stk with e|⟨e,hf⟩
 ·rw [e] at hb; exact List.mem_cons_of_mem _ hb
 ·rw [e] at hb
  unfold frs at hb
  rw [List.filterMap_cons,hf] at hb
  exact hb
theorem Inv.stkFree (I:Inv X pins σ H s) : ∀ b ∈ frs X.stack,H b=none:=fun b hb=>by
 rcases List.mem_cons.mp (I.stkSub b hb) with e|hb
 ·rw [e]; exact I.free
 ·obtain ⟨_,o,ho,_⟩:=I.ok.funs.mem hb
  exact I.base.free b o ho (I.ok.frf b hb) fun z=>I.ok.exfs b z hb
theorem Inv.step {g':Array GenState} {t':Nat} {d':Drawn} {ch:List Addr} (I:Inv X pins σ H s)
 (hch : ∀ b ∈ ch,(b ∈ X.ex∨X.s₀.heap.objs.size≤b)∧b≠X.env.locals∧(∀ x c,X.env.cells.lookup x=some c→c≠b) ∧ ∀ p ∈ X.pn++pins,p.1≠b)
 (keep : ∀ b o,b≠X.env.locals→b ∉ X.fs→b ∉ ch→s.heap.get? b=some o→H b=none→h'.get? b=some o)
 (slot : ∀ b o,b≠X.env.locals→b ∈ X.fs→b ∉ ch→s.heap.get? b=some o→H b=none → ∃ sl,h'.get? b=some { o with slots:=sl }) (free : ∀ b o,b ∉ ch→s.heap.get? b=some o→H b=none→H' b=none)
  (there : ∀ b o,b ∉ ch→s.heap.get? b=some o → ∃ o',h'.get? b=some o')
  (tups : ∀ b xs,H b=some (.tup xs)→H' b=some (.tup xs)) (frzs : ∀ b o u,H b=some (.frz o u)→H' b=some (.frz o u)) (tbls : ∀ b ps,H b=some (.tbl ps) → ∃ more,H' b=some (.tbl (ps++more)))
  (ns : ∀ m,s.heap.Ns X.env.locals m→h'.Ns X.env.locals m) (hok:HOk X.prog X.w H' h') (hg:AllBare g') :
  Inv X pins σ H' { s with heap:=h',gens:=g',drawn:=d',toks:=t' }:=by
  have neL : ∀ b o,X.s₀.heap.get? b=some o→b≠X.env.locals:=fun b o e=>Nat.ne_of_lt (Nat.lt_of_lt_of_le (Heap.lt_size e) I.ok.above)
  have neC : ∀ b o,X.s₀.heap.get? b=some o→b ∉ X.ex→b ∉ ch:=fun b o e hx hb=>by
   rcases (hch b hb).1 with z|z
   ·exact hx z
   ·exact absurd (Nat.lt_of_lt_of_le (Heap.lt_size e) z) (Nat.lt_irrefl _)
  have cellK : ∀ x c,X.env.cells.lookup x=some c → ∀ v,s.heap.IsCell c v→h'.IsCell c v:=fun x c e v xx1=>by
   obtain ⟨o,ho,hd⟩:=xx1
   have nch:c ∉ ch:=fun z=>(hch c z).2.2.1 x c e rfl
   by_cases hc:c ∈ X.fs
   ·obtain ⟨sl,q⟩:=slot c o (I.cne x c e) hc nch ho (I.freeC x c e)
    exact ⟨_,q,hd⟩
   ·exact ⟨o,keep c o (I.cne x c e) hc nch ho (I.freeC x c e),hd⟩
  refine ⟨I.ok,I.os,hg,⟨fun b o e n hb hx=>?_,fun b o e n hb hx=>?_,fun b o e n hx=>?_,fun b o e hx=>?_,fun b xs e=>tups b xs (I.base.tups b xs e),fun b o xs e=>frzs b o xs (I.base.frzs b o xs e),fun b ps e=>?_⟩,?_,fun x c e=>?_,?_,fun x c e=>?_,fun p hp=>?_,hok,I.len⟩
  ·exact keep b o (neL b o e) hb (neC b o e hx) (I.base.keep b o e n hb hx) (I.base.free b o e n hx)
  ·obtain ⟨sl,e1⟩:=I.base.slot b o e n hb hx
   obtain ⟨sl',e2⟩:=slot b _ (neL b o e) hb (neC b o e hx) e1 (I.base.free b o e n hx)
   exact ⟨sl',e2⟩
  ·obtain ⟨o',e1⟩:=I.base.there b o e hx
   exact free b o' (neC b o e hx) e1 (I.base.free b o e n hx)
  ·obtain ⟨o',e1⟩:=I.base.there b o e hx
   exact there b o' (neC b o e hx) e1
  ·obtain ⟨m1,e1⟩:=I.base.tbls b ps e
   obtain ⟨m2,e2⟩:=tbls b _ e1
   exact ⟨m1++m2,by rw [e2,Array.append_assoc]⟩
  ·obtain ⟨m,hn,hl⟩:=I.loc
   refine ⟨m,ns m hn,fun i x v e1 e2 e3=>?_⟩
   obtain ⟨u,r,l⟩:=hl i x v e1 e2 e3
   refine ⟨u,r,?_⟩
   rcases l with l|⟨k,c,e,z⟩
   ·exact .inl l
   ·exact .inr ⟨k,c,e,cellK x c e _ z⟩
  ·obtain ⟨v,z⟩:=I.cell x c e
   exact ⟨v,cellK x c e v z⟩
  ·obtain ⟨m,⟨o,_,_,ho,_⟩,_⟩:=I.loc
   exact free _ o (fun z=>(hch _ z).2.1 rfl) ho I.free
  ·obtain ⟨v,o,ho,hd⟩:=I.cell x c e
   exact free c o (fun z=>(hch c z).2.2.1 x c e rfl) ho (I.freeC x c e)
  ·obtain ⟨e,n,ne,nf,d⟩:=I.pin p hp
   have nch:p.1 ∉ ch:=fun z=>(hch p.1 z).2.2.2 p hp rfl
   exact ⟨keep p.1 p.2 ne nf nch e n,free p.1 p.2 nch e n,ne,nf,d⟩
theorem Inv.un {t':Nat} (I:Inv X pins σ H s) (u:Un X.fs [] H H' s.heap h') (hok:HOk X.prog X.w H' h'):Inv X pins σ H' { s with heap:=h',toks:=t' }:=by
 obtain ⟨m,⟨o,es,ep,ho,r⟩,_⟩:=id I.loc
 obtain ⟨sl,hL⟩:=u.any ho I.free (by simp)
 exact I.step (g':=s.gens) (d':=s.drawn) (ch:=[]) (fun _ z=>nomatch z) (fun b o _ hb _ e n=>u.keep b o e n hb (by simp)) (fun b o _ hb _ e n=>u.slot b o e n hb (by simp)) (fun b o _ e n=>u.free b o e n (by simp)) (fun b o _ e=>u.there b o e (by simp)) u.tups u.frzs u.tbls (fun m' hm=>by
  obtain ⟨o',es',ep',ho',r'⟩:=hm
  rw [ho] at ho'; cases ho'
  exact ⟨_,es',ep',hL,r'⟩) hok I.bare
theorem Inv.call {g':Array GenState} {t':Nat} {d':Drawn} {ch:List Addr} (I:Inv X pins σ H s) (u:Un (frs X.stack) ch H H' s.heap h') (hok:HOk X.prog X.w H' h') (hg:AllBare g')
 (hch : ∀ b ∈ ch,(b ∈ X.ex∨X.s₀.heap.objs.size≤b)∧b≠X.env.locals∧(∀ x c,X.env.cells.lookup x=some c→c≠b) ∧ ∀ p ∈ X.pn++pins,p.1≠b) :
 Inv X pins σ H' { s with heap:=h',gens:=g',drawn:=d',toks:=t' }:=by
  obtain ⟨m,⟨o,es,ep,ho,r⟩,_⟩:=id I.loc
  obtain ⟨sl,hL⟩:=u.any ho I.free fun z=>(hch _ z).2.1 rfl
  exact I.step (ch:=ch) hch (fun b o hL hb hc e n=>u.keep b o e n (fun z=>(List.mem_cons.mp (I.stkSub b z)).elim hL hb) hc) (fun b o _ _ hc e n=>u.any e n hc) (fun b o hc e n=>u.free b o e n hc) (fun b o hc e=>u.there b o e hc) u.tups u.frzs u.tbls (fun m' hm=>by
   obtain ⟨o',es',ep',ho',r'⟩:=hm
   rw [ho] at ho'; cases ho'
   exact ⟨_,es',ep',hL,r'⟩) hok hg
theorem Inv.turned {t':Nat} {it:Addr} (I:Inv X pins σ H s) (k : ∀ b o,b≠it→s.heap.get? b=some o→h'.get? b=some o) (hn:H it=none) (hL:it≠X.env.locals)
 (h1:it ∈ X.ex∨X.s₀.heap.objs.size≤it) (h2 : ∀ x c,X.env.cells.lookup x=some c→c≠it) (h3 : ∀ p ∈ X.pn++pins,p.1≠it):Inv X pins σ H { s with heap:=h',toks:=t' }:=by
  have nit : ∀ b u,H b=some u→b≠it:=fun b u e z=>by rw [z,hn] at e; cases e
  refine I.step (g':=s.gens) (d':=s.drawn) (ch:=[it]) (fun b hb=>?_) (fun b o _ _ hc e _=>k b o (fun z=>hc (by simp [z])) e) (fun b o _ _ hc e _=>⟨o.slots,k b o (fun z=>hc (by simp [z])) e⟩) (fun _ _ _ _ n=>n)
   (fun b o hc e=>⟨o,k b o (fun z=>hc (by simp [z])) e⟩) (fun _ _ e=>e) (fun _ _ _ e=>e) (fun b ps e=>⟨#[],by rw [e]; simp⟩) (fun m hm=>?_) (fun b u e=>?_) I.bare
  ·have e:b=it:=by simpa using hb
   subst e
   exact ⟨h1,hL,h2,h3⟩
  ·obtain ⟨o,es,ep,ho,r⟩:=hm
   exact ⟨o,es,ep,k _ o (Ne.symm hL) ho,r⟩
  ·refine (I.hok b u e).stay (fun c v hc q=>k c v ?_ q) (fun _ q=>q) fun _ _ q=>q
   rcases hc with z|z
   ·rw [z]; exact nit b u e
   ·exact nit c _ z
theorem Inv.tok (I:Inv X pins σ H s) (t:Nat):Inv X pins σ H { s with toks:=t }:=I.un (h':=s.heap) (t':=t) Un.refl I.hok
theorem Inv.kept {t':Nat} (I:Inv X pins σ H s) (k : ∀ b u,s.heap.get? b=some u→h'.get? b=some u):Inv X pins σ H { s with heap:=h',toks:=t' }:=I.un (Un.kept k) (I.hok.kept k)
theorem Inv.laid {a:Addr} {o:HO} {t':Nat} (I:Inv X pins σ H s) (k : ∀ b u,s.heap.get? b=some u→h'.get? b=some u) (hp:s.heap.objs.size≤a) (new:ObjOk X.prog X.w (upd H a o) h' a o) :
 Inv X pins σ (upd H a o) { s with heap:=h',toks:=t' }:=I.un (Un.laid k hp (I.hok.fresh hp)) (I.hok.laid k hp new)
theorem Inv.write {x e:Addr} {o:HO} {t':Nat} (I:Inv X pins σ H s) (mu:Mut (H x)) (he:e=x∨H e=some (.own x)) (k : ∀ b u,b≠e→s.heap.get? b=some u→h'.get? b=some u) (heo : ∃ u,h'.get? e=some u)
 (new:ObjOk X.prog X.w (upd H x o) h' x o):Inv X pins σ (upd H x o) { s with heap:=h',toks:=t' }:=I.un (Un.write mu he k heo) (I.hok.write mu he k heo new)
theorem Inv.pins_of {pins':List (Addr×Obj)} (I:Inv X pins σ H s) (h : ∀ p ∈ pins',s.heap.get? p.1=some p.2∧H p.1=none∧p.1≠X.env.locals∧p.1 ∉ X.fs ∧ ∀ v,p.2.data ≠ .cell v):Inv X pins' σ H s :=
 ⟨I.ok,I.os,I.bare,I.base,I.loc,I.cell,I.free,I.freeC,fun p hp=>(List.mem_append.mp hp).elim (fun z=>I.pin p (List.mem_append_left _ z)) (h p),I.hok,I.len⟩
theorem nodup_ix {N:List Str} (hN:N.Nodup) {i j:Nat} {x:Str} (a:N[i]?=some x) (b:N[j]?=some x):i=j:=by
 obtain ⟨h1,e1⟩:=List.getElem?_eq_some_iff.mp a
 obtain ⟨h2,e2⟩:=List.getElem?_eq_some_iff.mp b
 exact (List.getElem_inj hN).mp (e1.trans e2.symm)
theorem store_ok2 {M:Model} {A:Around} {E:Value→Shared→Prop} {i:Nat} {x:Str} {v:V} {u:Value} {Q:Unit→Shared→Prop} (I:Inv X pins σ H s) (hN:X.N.Nodup) (hi:X.N[i]?=some x) (hx:Loc X.env.scope x) (r:RelV v u)
 (h : ∀ s',Inv X pins (σ.set i (some v)) H s'→(∃ a,Heap.SameBut a s.heap s'.heap∧(a=X.env.locals∨X.env.cells.lookup x=some a))→Q () s') (hf:X.fn x=true∨X.env.scope.names.lookup x=some .local:=by first|exact .inl rfl|exact .inr rfl|assumption):wpAny M A (storeName X.env x u) Q E s:=by
  obtain ⟨m,hn,hl⟩:=id I.loc
  have hcls:(X.env.scope.kind == .class||(X.env.scope.kind == .module&&X.env.locals != X.env.globals))=false:=by rw [I.ok.kind]; rfl
  have hiσ:i<σ.length:=by rw [I.len]; exact (List.getElem?_eq_some_iff.mp hi).1
  have cne:=I.cne
  have tracked : ∀ {a:Addr} {h':Heap},(∃ o,s.heap.get? a=some o∧H a=none)→Heap.SameBut a s.heap h'→HOk X.prog X.w H h':=fun {a h'} ha hs b ob e=>by
   obtain ⟨_,_,hfree⟩:=ha
   refine (I.hok b ob e).stay (fun c w' hc q=>(hs.2 c ?_).trans q) (fun _ q=>q) fun _ _ q=>q
   rintro rfl
   rcases hc with rfl|hc
   ·rw [hfree] at e; cases e
   ·rw [hfree] at hc; cases hc
  rcases hx with hk|hk
  ·refine wpAny_storeName_local hk hn (fun h' hn' hs=>?_) hcls
   obtain ⟨oL,_,_,hoL,_⟩:=id hn
   refine h _ ⟨I.ok,I.os,I.bare,⟨fun b o e n hb hx=>?_,fun b o e n hb hx=>?_,I.base.free,fun b o e hx=>?_,I.base.tups,I.base.frzs,I.base.tbls⟩,⟨_,hn',fun j y v' e1 e2 e3=>?_⟩,fun y c e=>?_,I.free,I.freeC,fun p hp=>?_,tracked ⟨oL,hoL,I.free⟩ hs,by simpa using I.len⟩ ⟨_,hs,.inl rfl⟩
   ·exact (hs.2 b (Nat.ne_of_lt (Nat.lt_of_lt_of_le (Heap.lt_size e) I.ok.above))).trans (I.base.keep b o e n hb hx)
   ·obtain ⟨sl,e1⟩:=I.base.slot b o e n hb hx
    exact ⟨sl,(hs.2 b (Nat.ne_of_lt (Nat.lt_of_lt_of_le (Heap.lt_size e) I.ok.above))).trans e1⟩
   ·obtain ⟨o',e1⟩:=I.base.there b o e hx
    exact ⟨o',(hs.2 b (Nat.ne_of_lt (Nat.lt_of_lt_of_le (Heap.lt_size e) I.ok.above))).trans e1⟩
   ·by_cases hj:j=i
    ·subst hj
     rw [hi] at e1; cases e1
     rw [List.getElem?_set_self hiσ] at e2
     cases e2
     exact ⟨u,r,.inl ⟨hk,by simp⟩⟩
    ·rw [List.getElem?_set_ne (Ne.symm hj)] at e2
     obtain ⟨u',r',q⟩:=hl j y v' e1 e2 e3
     refine ⟨u',r',?_⟩
     rcases q with ⟨k,e⟩|⟨k,c,e,z⟩
     ·refine .inl ⟨k,?_⟩
      have:y≠x:=fun e=>hj (nodup_ix hN e1 (e ▸ hi))
      simp [this,e]
     ·exact .inr ⟨k,c,e,z.sameBut hs (cne y c e)⟩
   ·obtain ⟨w',z⟩:=I.cell y c e
    exact ⟨w',z.sameBut hs (cne y c e)⟩
   ·obtain ⟨e,n,ne,nf,d⟩:=I.pin p hp
    exact ⟨(hs.2 p.1 ne).trans e,n,ne,nf,d⟩
  ·have hfn:X.fn x=true:=by
    rcases hf with z|z
    ·exact z
    ·rw [z] at hk; cases hk
   obtain ⟨c,hc⟩:=I.ok.has x (.inl hk)
   obtain ⟨w',z⟩:=I.cell x c hc
   refine wpAny_storeName_cell I.ok.kind hk hc z (fun h' hc' hs=>?_)
   obtain ⟨oc,hoc,hocd⟩:=id z
   refine h { s with heap:=h' } ⟨I.ok,I.os,I.bare,⟨fun b o e n hb hx=>?_,fun b o e n hb hx=>?_,I.base.free,fun b o e hx=>?_,I.base.tups,I.base.frzs,I.base.tbls⟩,⟨m,hn.sameBut hs (Ne.symm (cne x c hc)),fun j y v' e1 e2 e3=>?_⟩,fun y c' e=>?_,I.free,I.freeC,fun p hp=>?_,tracked ⟨oc,hoc,I.freeC x c hc⟩ hs,by simpa using I.len⟩ ⟨c,hs,.inr hc⟩
   ·exact (hs.2 b (Nat.ne_of_lt (Nat.lt_of_lt_of_le (Heap.lt_size e) (I.ok.cab x c hfn hc)))).trans (I.base.keep b o e n hb hx)
   ·obtain ⟨sl,e1⟩:=I.base.slot b o e n hb hx
    exact ⟨sl,(hs.2 b (Nat.ne_of_lt (Nat.lt_of_lt_of_le (Heap.lt_size e) (I.ok.cab x c hfn hc)))).trans e1⟩
   ·obtain ⟨o',e1⟩:=I.base.there b o e hx
    exact ⟨o',(hs.2 b (Nat.ne_of_lt (Nat.lt_of_lt_of_le (Heap.lt_size e) (I.ok.cab x c hfn hc)))).trans e1⟩
   ·by_cases hj:j=i
    ·subst hj
     rw [hi] at e1; cases e1
     rw [List.getElem?_set_self hiσ] at e2
     cases e2
     exact ⟨u,r,.inr ⟨.inl hk,c,hc,hc'⟩⟩
    ·rw [List.getElem?_set_ne (Ne.symm hj)] at e2
     obtain ⟨u',r',q⟩:=hl j y v' e1 e2 e3
     refine ⟨u',r',?_⟩
     rcases q with q|⟨k,c',e,z'⟩
     ·exact .inl q
     ·refine .inr ⟨k,c',e,z'.sameBut hs ?_⟩
      rintro rfl
      exact hj (nodup_ix hN e1 (I.ok.inj _ _ _ e hc ▸ hi))
   ·by_cases hcc:c'=c
    ·subst hcc; exact ⟨_,hc'⟩
    ·obtain ⟨w2,z2⟩:=I.cell y c' e
     exact ⟨w2,z2.sameBut hs hcc⟩
   ·obtain ⟨e,n,ne,nf,d⟩:=I.pin p hp
    refine ⟨(hs.2 p.1 ?_).trans e,n,ne,nf,d⟩
    intro q
    rw [q,hoc] at e
    have q':oc=p.2:=Option.some.inj e
    exact d w' (by rw [← q']; exact hocd)
theorem store_ok {M:Model} {A:Around} {E:Value→Shared→Prop} {i:Nat} {x:Str} {v:V} {u:Value} {Q:Unit→Shared→Prop} (I:Inv X pins σ H s) (hN:X.N.Nodup) (hi:X.N[i]?=some x) (hx:Loc X.env.scope x) (r:RelV v u)
 (h : ∀ s',Inv X pins (σ.set i (some v)) H s'→Q () s') (hf:X.fn x=true∨X.env.scope.names.lookup x=some .local:=by first|exact .inl rfl|exact .inr rfl|assumption):wpAny M A (storeName X.env x u) Q E s :=
  store_ok2 I hN hi hx r (fun s' I' _=>h s' I') hf
theorem Inv.call' {s':Shared} {ch:List Addr} (I:Inv X pins σ H s) (ho:s'.os=s.os) (u:Un (frs X.stack) ch H H' s.heap s'.heap) (hok:HOk X.prog X.w H' s'.heap) (hg:AllBare s'.gens)
 (hch : ∀ b ∈ ch,(b ∈ X.ex∨X.s₀.heap.objs.size≤b)∧b≠X.env.locals∧(∀ x c,X.env.cells.lookup x=some c→c≠b) ∧ ∀ p ∈ X.pn++pins,p.1≠b):Inv X pins σ H' s':=by
  obtain ⟨h',g',d',t',o'⟩:=s'
  have e:o'=s.os:=ho
  subst e
  exact I.call (g':=g') (t':=t') (d':=d') u hok hg hch
end
abbrev XK:=Value→Option Addr→Hp→Prop
abbrev St:=List (Option V)
abbrev VK:=V→Hp→Prop
abbrev TE:=St→Hp→VK→Prop
abbrev TT:=St→Hp→(Bool→Hp→Prop)→Prop
abbrev TA:=St→Hp→(List V→Hp→Prop)→Prop
structure Ends where
 nx:St→Hp→Prop
 rt:VK
 bk:St→Hp→Prop:=fun _ _=>False
 ct:St→Hp→Prop:=fun _ _=>False
abbrev TS:=Ends→St→Hp→Prop
def EP (X:Cx) (pins:List (Addr×Obj)) (σ:St) (Q:VK) (u:Value) (s':Shared):Prop := ∃ v H',Inv X pins σ H' s'∧RelV v u∧Q v H'
def TP (X:Cx) (pins:List (Addr×Obj)) (σ:St) (Q:Bool→Hp→Prop) (b:Bool) (s':Shared):Prop := ∃ H',Inv X pins σ H' s'∧Q b H'
def AP (X:Cx) (pins:List (Addr×Obj)) (σ:St) (Q:List V→Hp→Prop) (us:List Value) (s':Shared):Prop := ∃ vs H',Inv X pins σ H' s'∧Vals vs us∧Q vs H'
def SP (X:Cx) (pins:List (Addr×Obj)) (D:Ends) (f:Flow) (s':Shared):Prop :=
 match f with
 | .next => ∃ σ' H',Inv X pins σ' H' s'∧D.nx σ' H'
 | .brk => ∃ σ' H',Inv X pins σ' H' s'∧D.bk σ' H'
 | .cont => ∃ σ' H',Inv X pins σ' H' s'∧D.ct σ' H'
 | .ret u => ∃ v σ' H',Inv X pins σ' H' s'∧RelV v u∧D.rt v H'
def PE (X:Cx) (e:Expr) (t:TE):Prop :=
 ∀ (pins:List (Addr×Obj)) (s:Shared) (σ:St) (H:Hp) (Q:VK),Inv X pins σ H s→t σ H Q→wpAny (model X.prog X.w) X.A (eval e X.env) (EP X pins σ Q) X.xe s
def PT (X:Cx) (e:Expr) (t:TT):Prop :=
 ∀ (pins:List (Addr×Obj)) (s:Shared) (σ:St) (H:Hp) (Q:Bool→Hp→Prop),Inv X pins σ H s→t σ H Q→wpAny (model X.prog X.w) X.A (isTrue e X.env (eval e X.env)) (TP X pins σ Q) X.xe s
def PW (X:Cx) (e:Expr) (t:TT):Prop :=
 ∀ (whole:Sem Value) (pins:List (Addr×Obj)) (s:Shared) (σ:St) (H:Hp) (Q:Bool→Hp→Prop),Inv X pins σ H s→t σ H Q→wpAny (model X.prog X.w) X.A (isTrue e X.env whole) (TP X pins σ Q) X.xe s
theorem PW.pt {X:Cx} {e:Expr} {t:TT} (h:PW X e t):PT X e t:=h _
def PA (X:Cx) (es:List Expr) (t:TA):Prop :=
 ∀ (pos:Pos) (pins:List (Addr×Obj)) (s:Shared) (σ:St) (H:Hp) (Q:List V→Hp→Prop),Inv X pins σ H s→t σ H Q→wpAny (model X.prog X.w) X.A (spliced (backTo pos (starEach es X.env))) (AP X pins σ Q) X.xe s
def PS (X:Cx) (st:Stmt) (t:TS):Prop :=
 ∀ (pins:List (Addr×Obj)) (s:Shared) (σ:St) (H:Hp) (D:Ends),Inv X pins σ H s→t D σ H→wpAny (model X.prog X.w) X.A (exec st X.env) (SP X pins D) X.xe s
def PSs (X:Cx) (st:List Stmt) (t:TS):Prop :=
 ∀ (pins:List (Addr×Obj)) (s:Shared) (σ:St) (H:Hp) (D:Ends),Inv X pins σ H s→t D σ H→wpAny (model X.prog X.w) X.A (execs st X.env) (SP X pins D) X.xe s
theorem thn {α:Type} {t:Sem α} {Q Q':α→Shared→Prop} {M:Model} {A:Around} {E:Value→Shared→Prop} {s:Shared} (h:wpAny M A t Q E s) (hQ : ∀ a s,Q a s→Q' a s):wpAny M A t Q' E s:=wpAny_mono h hQ fun _ _ x=>x
end L2
namespace L2
open PySem PySem.Spec PyProof.Rows
section
variable {X:Cx}
def tVar (i:Nat):TE:=fun σ H Q => ∃ v,σ[i]?=some (some v)∧Q v H
def tC (v:V):TE:=fun _ H Q=>Q v H
theorem pe_var {i:Nat} {x:Str} {pos:Pos} (hN:X.N[i]?=some x) (hv:Vis X.env.scope x) (hd:(x==("__debug__" : Str))=false:=by decide) (hcd:(x==("__classdict__" : Str))=false:=by decide):PE X (.Name x pos) (tVar i):=by
 intro pins s σ H Q I h
 obtain ⟨v,e,h⟩:=h
 obtain ⟨m,hn,hl⟩:=I.loc
 obtain ⟨u,r,l⟩:=hl i x v hN e hv
 have fin:EP X pins σ Q u s:=⟨v,H,I,r,h⟩
 rcases l with ⟨hk,hm⟩|⟨hk,c,hc,hcell⟩
 ·exact wpAny_Name (wpAny_loadName_local I.ok.kind hk hn hm fin) hd
 ·rcases hk with hk|hk
  ·exact wpAny_Name (wpAny_loadName_cell I.ok.kind hk hc hcell fin) hd
  ·exact wpAny_Name (wpAny_loadName_free I.ok.kind hk hc hcell fin hcd) hd
theorem pe_int {i j pos}:PE X (.Constant (.int i) j pos) (tC (.int i)):=fun _ _ _ H _ I h=>wpAny_Constant_int ⟨.int i,H,I.tok _,⟨_,rfl⟩,h⟩
theorem pe_bl {b j pos}:PE X (.Constant (.bool b) j pos) (tC (.bl b)):=fun _ _ _ H _ I h=>Constant_bool ⟨.bl b,H,I,rfl,h⟩
theorem pe_non {j pos}:PE X (.Constant .none j pos) (tC .non):=fun _ _ _ H _ I h=>Constant_none ⟨.non,H,I,rfl,h⟩
theorem pe_str {x j pos}:PE X (.Constant (.str x) j pos) (tC (.str x)):=fun _ _ _ H _ I h=>Calls.Constant_str ⟨.str x,H,I.tok _,⟨_,rfl⟩,h⟩
def Gl (X:Cx) (x:Str):Prop:=X.env.kindOf x=some .globalImplicit
theorem ld_glob {E:Value→Shared→Prop} {pins:List (Addr×Obj)} {s:Shared} {σ:St} {H:Hp} {x:Str} {u:Value} {pos:Pos} {Q:Value→Shared→Prop} (I:Inv X pins σ H s) (hg:Gl X x) (hm:X.mg x=some u) (h:Q u s)
 (hd:(x==("__debug__" : Str))=false:=by decide):wpAny (model X.prog X.w) X.A (eval (.Name x pos) X.env) Q E s :=
  Calls.Name_function_global I.ok.kind hg (Calls.loadGlobal_global (by rw [I.ok.glob]; exact I.mod.glob.keeps I.bk) hm h) hd
theorem ld_blt {E:Value→Shared→Prop} {pins:List (Addr×Obj)} {s:Shared} {σ:St} {H:Hp} {x:Str} {u:Value} {pos:Pos} {Q:Value→Shared→Prop} (I:Inv X pins σ H s) (hg:Gl X x) (hm:X.mg x=none) (hv:bootBuiltins x=some u) (h:Q u s)
 (hn:x ≠ "__name__":=by decide) (hd:(x==("__debug__" : Str))=false:=by decide):wpAny (model X.prog X.w) X.A (eval (.Name x pos) X.env) Q E s:=by
  obtain ⟨mb,h1,h2⟩:=I.mod.blt
  exact Calls.Name_function_global I.ok.kind hg (Calls.loadGlobal_builtin (by rw [I.ok.glob]; exact I.mod.glob.keeps I.bk) hm (by rw [I.ok.blt]; exact h1.keeps I.bk) ((h2 x hn).trans hv) h) hd
theorem pe_glob {x:Str} {v:V} {u:Value} {pos:Pos} (hg:Gl X x) (hm:X.mg x=some u) (r:RelV v u) (hd:(x==("__debug__" : Str))=false:=by decide):PE X (.Name x pos) (tC v) :=
 fun _ _ _ H _ I h=>ld_glob I hg hm ⟨v,H,I,r,h⟩ hd
theorem pe_bltn {x:Str} {v:V} {u:Value} {pos:Pos} (hg:Gl X x) (hm:X.mg x=none) (hv:bootBuiltins x=some u) (r:RelV v u) (hn:x ≠ "__name__":=by decide) (hd:(x==("__debug__" : Str))=false:=by decide):PE X (.Name x pos) (tC v) :=
 fun _ _ _ H _ I h=>ld_blt I hg hm hv ⟨v,H,I,r,h⟩ hn hd
variable {a b:Expr} {ta tb:TE} {pos:Pos}
def tB (t:TE):TT:=fun σ H Q=>t σ H fun x H1 => ∃ c,x = .bl c∧Q c H1
theorem pt_val {e:Expr} {t:TE} (h:PE X e t) (he : ∀ whole,isTrue e X.env whole=(do let v ← whole; standAt e.pos; holding [v] (truthy v)):=by intro _; rfl):PT X e (tB t):=by
 intro pins s σ H Q I hw
 refine isTrue_plain (thn (h pins s σ H _ I hw) fun v s1 xx2=>?_) (he _)
 obtain ⟨x,H1,I1,r1,q1⟩:=xx2
 obtain ⟨d,rfl,q⟩:=q1
 cases r1
 exact wpAny_truthy_bool ⟨H1,I1,q⟩
variable {tA tB':TT} {rest:List Expr}
def tAnd (t u:TT):TT:=fun σ H Q=>t σ H fun c H1=>if c=true then u σ H1 Q else Q false H1
def tOr (t u:TT):TT:=fun σ H Q=>t σ H fun c H1=>if c=true then Q true H1 else u σ H1 Q
def tNot (t:TT):TT:=fun σ H Q=>t σ H fun c H1=>Q (!c) H1
theorem pw_and1 (ha:PT X a tA):PW X (.BoolOp .And [a] pos) tA:=by
 intro wh pins s σ H Q I h
 refine isTrue_and (thn (ha pins s σ H Q I h) fun c s1 e=>?_)
 cases c with
 | true=>exact isTrue_and_nil e
 | false=>exact e
theorem pw_or1 (ha:PT X a tA):PW X (.BoolOp .Or [a] pos) tA:=by
 intro wh pins s σ H Q I h
 refine isTrue_or (thn (ha pins s σ H Q I h) fun c s1 e=>?_)
 cases c with
 | false=>exact isTrue_or_nil e
 | true=>exact e
theorem pw_and (ha:PT X a tA) (hb:PW X (.BoolOp .And (b::rest) pos) tB'):PW X (.BoolOp .And (a::b::rest) pos) (tAnd tA tB'):=by
 intro wh pins s σ H Q I h
 refine isTrue_and (thn (ha pins s σ H _ I h) fun c s1 xx3=>?_)
 obtain ⟨H1,I1,q1⟩:=xx3
 cases c with
 | true=>exact hb wh pins s1 σ H1 Q I1 q1
 | false=>exact ⟨H1,I1,q1⟩
theorem pw_or (ha:PT X a tA) (hb:PW X (.BoolOp .Or (b::rest) pos) tB'):PW X (.BoolOp .Or (a::b::rest) pos) (tOr tA tB'):=by
 intro wh pins s σ H Q I h
 refine isTrue_or (thn (ha pins s σ H _ I h) fun c s1 xx4=>?_)
 obtain ⟨H1,I1,q1⟩:=xx4
 cases c with
 | true=>exact ⟨H1,I1,q1⟩
 | false=>exact hb wh pins s1 σ H1 Q I1 q1
theorem pt_not (ha:PT X a tA):PT X (.UnaryOp .Not a pos) (tNot tA):=by
 intro pins s σ H Q I h
 exact isTrue_not (ha pins s σ H (fun c H1=>Q (!c) H1) I h)
def tAndV (ta tb:TE):TE:=fun σ H Q=>ta σ H fun x H1 => ∃ c,x = .bl c∧if c=true then tb σ H1 Q else Q (.bl false) H1
def tOrV (ta tb:TE):TE:=fun σ H Q=>ta σ H fun x H1 => ∃ c,x = .bl c∧if c=true then Q (.bl true) H1 else tb σ H1 Q
def tNotV (ta:TE):TE:=fun σ H Q=>ta σ H fun x H1 => ∃ c,x = .bl c∧Q (.bl (!c)) H1
theorem pe_one {op} {t:TE} (h:PE X a t):PE X (.BoolOp op [a] pos) t:=fun pins s σ H Q I hw=>BoolOp_one (h pins s σ H Q I hw)
theorem pe_and (ha:PE X a ta) (hb:PE X (.BoolOp .And (b::rest) pos) tb):PE X (.BoolOp .And (a::b::rest) pos) (tAndV ta tb):=by
 intro pins s σ H Q I h
 refine BoolOp_and (thn (ha pins s σ H _ I h) fun v s1 xx5=>?_)
 obtain ⟨x,H1,I1,r1,q1⟩:=xx5
 obtain ⟨c,rfl,q1⟩:=q1
 cases r1
 refine wpAny_truthy_bool ?_
 cases c with
 | true=>exact hb pins s1 σ H1 Q I1 q1
 | false=>exact ⟨.bl false,H1,I1,rfl,q1⟩
theorem pe_or (ha:PE X a ta) (hb:PE X (.BoolOp .Or (b::rest) pos) tb):PE X (.BoolOp .Or (a::b::rest) pos) (tOrV ta tb):=by
 intro pins s σ H Q I h
 refine BoolOp_or (thn (ha pins s σ H _ I h) fun v s1 xx6=>?_)
 obtain ⟨x,H1,I1,r1,q1⟩:=xx6
 obtain ⟨c,rfl,q1⟩:=q1
 cases r1
 refine wpAny_truthy_bool ?_
 cases c with
 | false=>exact hb pins s1 σ H1 Q I1 q1
 | true=>exact ⟨.bl true,H1,I1,rfl,q1⟩
theorem pe_not (ha:PE X a ta):PE X (.UnaryOp .Not a pos) (tNotV ta):=by
 intro pins s σ H Q I h
 refine UnaryOp_ (thn (ha pins s σ H _ I h) fun v s1 xx7=>?_)
 obtain ⟨x,H1,I1,r1,q1⟩:=xx7
 obtain ⟨c,rfl,q1⟩:=q1
 cases r1
 exact not_of (wpAny_truthy_bool ⟨.bl (!c),H1,I1,rfl,q1⟩)
def tIf (t:TT) (ta tb:TE):TE:=fun σ H Q=>t σ H fun c H1=>if c=true then ta σ H1 Q else tb σ H1 Q
theorem pe_ifExp {c:Expr} (hc:PT X c tA) (ha:PE X a ta) (hb:PE X b tb):PE X (.IfExp c a b pos) (tIf tA ta tb):=by
 intro pins s σ H Q I h
 refine wpAny_IfExp (thn (hc pins s σ H _ I h) fun d s1 xx8=>?_)
 obtain ⟨H1,I1,q1⟩:=xx8
 cases d with
 | true=>exact ha pins s1 σ H1 Q I1 q1
 | false=>exact hb pins s1 σ H1 Q I1 q1
end
end L2
namespace L2
open PySem PySem.Spec PyProof.Rows
def SqL (K:PySem.W.Frag) (H:Hp) (a:Addr) (xs:List V):Prop :=
 Rd H a (.lst xs) ∨
  ∃ (o:Obj) (its:Array Value) (n:Nat),K.lookup a=some o∧o.cls = .type "list" ∧ o.dict=none∧o.data = .seq its n∧its.size≤sizeLine∧Vals xs its.toList
def SqT (K:PySem.W.Frag) (H:Hp) (a:Addr) (xs:List V):Prop :=
 Rd H a (.tup xs) ∨
  ∃ (o:Obj) (its:Array Value) (n:Nat),K.lookup a=some o∧o.cls = .type "tuple" ∧ o.data = .seq its n∧its.size≤sizeLine∧Vals xs its.toList
def absV:Value→Option V
 | .none=>some .non
 | .bool b=>some (.bl b)
 | .int i _=>some (.int i)
 | .str x _=>some (.str x)
 | .bytes b _=>some (.byt b)
 | .float b _=>some (.flt b)
 | .ref a=>some (.ref a)
 | .type n=>some (.ty n)
 | _=>none
theorem RelV.abs {x:V} {u:Value} (r:RelV x u):absV u=some x:=by
 cases x with
 | non=>cases r; rfl
 | bl _=>cases r; rfl
 | int _=>obtain ⟨t,rfl⟩:=r; rfl
 | str _=>obtain ⟨t,rfl⟩:=r; rfl
 | byt _=>obtain ⟨t,rfl⟩:=r; rfl
 | flt _=>obtain ⟨t,rfl⟩:=r; rfl
 | ref _=>cases r; rfl
 | ty _=>cases r; rfl
theorem RelV.inj {x y:V} {u:Value} (r:RelV x u) (q:RelV y u):x=y:=Option.some.inj (r.abs.symm.trans q.abs)
theorem Vals.inj : ∀ {xs ys:List V} {us:List Value},Vals xs us→Vals ys us→xs=ys
 | _,_,_,.nil,.nil=>rfl
 | _,_,_,.cons r t,.cons r' t'=>by rw [r.inj r',Vals.inj t t']
section
variable {X:Cx} {pins:List (Addr×Obj)} {σ:St} {H:Hp} {s:Shared} {a:Addr} {xs ys:List V}
theorem SqL.of {K:PySem.W.Frag} (h:H a=some (.lst xs)):SqL K H a xs :=.inl (.inl h)
theorem SqT.of {K:PySem.W.Frag} (h:H a=some (.tup xs)):SqT K H a xs :=.inl (.inl h)
theorem Inv.list (I:Inv X pins σ H s) (h:SqL X.K H a xs) : ∃ its:List Value,Vals xs its∧PlainL s.heap a its.toArray∧xs.length≤sizeLine:=by
 rcases h with h|⟨o,its,n,hk,hc,hd,hs,hz,r⟩
 ·obtain ⟨z,its,n,r,e⟩:=h.ok I.hok
  exact ⟨its,r,⟨_,n,e,rfl,rfl,rfl⟩,z⟩
 ·refine ⟨its.toList,r,⟨o,n,I.kIn a o hk,hc,hd,by simpa using hs⟩,?_⟩
  have e:=r.length
  simp only [Array.length_toList] at e
  omega
theorem Inv.tuple (I:Inv X pins σ H s) (h:SqT X.K H a xs) : ∃ its:List Value,Vals xs its∧IsTup s.heap a its.toArray∧xs.length≤sizeLine:=by
 rcases h with h|⟨o,its,n,hk,hc,hs,hz,r⟩
 ·obtain ⟨z,its,r,p⟩:=h.ok I.hok
  exact ⟨its,r,p,z⟩
 ·refine ⟨its.toList,r,⟨o,I.kIn a o hk,hc,n,by simpa using hs⟩,?_⟩
  have e:=r.length
  simp only [Array.length_toList] at e
  omega
theorem Inv.list_inj (I:Inv X pins σ H s) (h:SqL X.K H a xs) (h':SqL X.K H a ys):xs=ys:=by
 obtain ⟨its,r,⟨o,n,e,_,_,d⟩,_⟩:=I.list h
 obtain ⟨its',r',⟨o',n',e',_,_,d'⟩,_⟩:=I.list h'
 rw [e] at e'; cases e'
 rw [d] at d'
 injection d' with d1 _
 have:its=its':=by simpa using congrArg Array.toList d1
 subst this
 exact r.inj r'
theorem Inv.tuple_inj (I:Inv X pins σ H s) (h:SqT X.K H a xs) (h':SqT X.K H a ys):xs=ys:=by
 obtain ⟨its,r,⟨o,e,_,n,d⟩,_⟩:=I.tuple h
 obtain ⟨its',r',⟨o',e',_,n',d'⟩,_⟩:=I.tuple h'
 rw [e] at e'; cases e'
 rw [d] at d'
 injection d' with d1 _
 have:its=its':=by simpa using congrArg Array.toList d1
 subst this
 exact r.inj r'
end
abbrev Cx.wish (X:Cx) (E:Value→Shared→Prop):Cx:={ X with xe:=E }
abbrev Cx.nox (X:Cx):Cx:=X.wish fun _ _=>False
theorem Cx.Ok.wish {X:Cx} (ok:X.Ok) (E:Value→Shared→Prop):(X.wish E).Ok :=
 ⟨ok.mod,ok.kind,ok.glob,ok.blt,ok.above,ok.inj,ok.has,ok.cab,ok.hd,ok.frames,ok.stk,ok.exf,ok.bs,ok.bsz,ok.noex,ok.exfs,ok.funs,ok.frf⟩
theorem Cx.Ok.unwish {X:Cx} {E:Value→Shared→Prop} (ok:(X.wish E).Ok):X.Ok :=
 ⟨ok.mod,ok.kind,ok.glob,ok.blt,ok.above,ok.inj,ok.has,ok.cab,ok.hd,ok.frames,ok.stk,ok.exf,ok.bs,ok.bsz,ok.noex,ok.exfs,ok.funs,ok.frf⟩
section
variable {X:Cx} {pins:List (Addr×Obj)} {σ:St} {H:Hp} {s:Shared} {E:Value→Shared→Prop}
theorem Inv.wish (I:Inv X pins σ H s) (E:Value→Shared→Prop):Inv (X.wish E) pins σ H s:=⟨I.ok.wish E,I.os,I.bare,I.base,I.loc,I.cell,I.free,I.freeC,I.pin,I.hok,I.len⟩
theorem Inv.unwish (I:Inv (X.wish E) pins σ H s):Inv X pins σ H s:=⟨I.ok.unwish,I.os,I.bare,I.base,I.loc,I.cell,I.free,I.freeC,I.pin,I.hok,I.len⟩
theorem SP.unwish {D:Ends} {f:Flow} {s':Shared} (h:SP (X.wish E) pins D f s'):SP X pins D f s':=by
 cases f with
 | next=>obtain ⟨σ',H',I,q⟩:=h; exact ⟨σ',H',I.unwish,q⟩
 | brk=>obtain ⟨σ',H',I,q⟩:=h; exact ⟨σ',H',I.unwish,q⟩
 | cont=>obtain ⟨σ',H',I,q⟩:=h; exact ⟨σ',H',I.unwish,q⟩
 | ret u=>obtain ⟨v,σ',H',I,r,q⟩:=h; exact ⟨v,σ',H',I.unwish,r,q⟩
theorem PSs.nox {st:List Stmt} {t:TS} (h:PSs X.nox st t):PSs X st t:=fun pins s σ H D I hw =>
 wpAny_mono (h pins s σ H D (I.wish _) hw) (fun _ _ q=>q.unwish) fun _ _ z=>False.elim z
end
section
variable {X:Cx} {st:Stmt} {rest:List Stmt} {t u:TS} {e:Expr} {te:TE} {pos:Pos}
def tNext:TS:=fun D σ H=>D.nx σ H
def tSeq (t u:TS):TS:=fun D σ H=>t { D with nx:=u D } σ H
theorem pss_nil:PSs X [] tNext:=fun _ _ σ H _ I h=>wpAny_execs_nil ⟨σ,H,I,h⟩
theorem pss_cons (h1:PS X st t) (h2:PSs X rest u):PSs X (st::rest) (tSeq t u):=by
 intro pins s σ H D I h
 refine wpAny_execs_cons (thn (h1 pins s σ H { D with nx:=u D } I h) fun f s1 q=>?_)
 cases f with
 | next =>
  obtain ⟨σ',H',I',q⟩:=q
  exact h2 pins s1 σ' H' D I' q
 | ret v=>exact q
 | brk=>exact q
 | cont=>exact q
theorem pss_one (h1:PS X st t):PSs X [st] t:=by
 intro pins s σ H D I h
 refine wpAny_execs_cons (thn (h1 pins s σ H D I h) fun f s1 q=>?_)
 cases f with
 | next=>exact wpAny_execs_nil q
 | ret v=>exact q
 | brk=>exact q
 | cont=>exact q
theorem Inv.quiet {pins:List (Addr×Obj)} {σ:St} {H:Hp} {s:Shared} (I:Inv X pins σ H s):interactive X.env=false:=by simp [interactive,I.ok.kind]
def tDrop (te:TE):TS:=fun D σ H=>te σ H fun _ H1=>D.nx σ H1
theorem ps_expr (he:PE X e te) (hs:swapsWith e none pos.line X.env=pure false:=by rfl):PS X (.Expr e pos) (tDrop te):=by
 intro pins s σ H D I h
 exact wpAny_Expr_any (thn (he pins s σ H _ I h) fun v s1 xx11=>by obtain ⟨x,H1,I1,r1,q1⟩:=xx11; exact ⟨σ,H1,I1,q1⟩) I.quiet hs
def tRet (te:TE):TS:=fun D σ H=>te σ H D.rt
theorem ps_ret (he:PE X e te):PS X (.Return (some e) pos) (tRet te):=by
 intro pins s σ H D I h
 exact wpAny_Return_some (thn (he pins s σ H _ I h) fun v s1 xx12=>by obtain ⟨x,H1,I1,r1,q1⟩:=xx12; exact ⟨x,σ,H1,I1,r1,q1⟩)
def tIfS (c:TT) (t u:TS):TS:=fun D σ H=>c σ H fun b H1=>if b=true then t D σ H1 else u D σ H1
theorem ps_if {c:Expr} {a b:List Stmt} {tc:TT} (hc:PT X c tc) (ha:PSs X a t) (hb:PSs X b u):PS X (.If c a b pos) (tIfS tc t u):=by
 intro pins s σ H D I h
 refine wpAny_If (thn (hc pins s σ H _ I h) fun d s1 xx13=>?_)
 obtain ⟨H1,I1,q1⟩:=xx13
 cases d with
 | true=>exact ha pins s1 σ H1 D I1 q1
 | false=>exact hb pins s1 σ H1 D I1 q1
def tNever:TS:=fun _ _ _=>False
theorem pss_never {sts:List Stmt}:PSs X sts tNever:=fun _ _ _ _ _ _ h=>h.elim
end
abbrev TG:=V→St→Hp→(St→Hp→Prop)→Prop
abbrev TGs:=List V→St→Hp→(St→Hp→Prop)→Prop
def PG (X:Cx) (target:Expr) (t:TG):Prop :=
 ∀ (pins:List (Addr×Obj)) (s:Shared) (σ:St) (H:Hp) (v:V) (u:Value) (Q:St→Hp→Prop),Inv X pins σ H s→RelV v u→t v σ H Q →
  wpAny (model X.prog X.w) X.A (assign target X.env u) (fun _ s' => ∃ σ' H',Inv X pins σ' H' s'∧Q σ' H') X.xe s
def PGs (X:Cx) (ts:List Expr) (t:TGs):Prop :=
 ∀ (pins:List (Addr×Obj)) (s:Shared) (σ:St) (H:Hp) (vs:List V) (us:List Value) (Q:St→Hp→Prop),Inv X pins σ H s→Vals vs us→t vs σ H Q →
  wpAny (model X.prog X.w) X.A (assignInOrder ((assignEach ts X.env).map (·.2)) us) (fun _ s' => ∃ σ' H',Inv X pins σ' H' s'∧Q σ' H') X.xe s
abbrev TSet:=V→V→V→Hp→(Hp→Prop)→Prop
def PSet (X:Cx) (t:TSet):Prop :=
 ∀ (pins:List (Addr×Obj)) (s:Shared) (σ:St) (H:Hp) (o i v:V) (ov iv u:Value) (Q:Hp→Prop),Inv X pins σ H s→RelV o ov→RelV i iv→RelV v u→t o i v H Q →
  wpAny (model X.prog X.w) X.A (setItem ov iv u) (fun _ s' => ∃ H',Inv X pins σ H' s'∧Q H') X.xe s
section
variable {X:Cx} {pos:Pos}
def gName (i:Nat):TG:=fun v σ H Q=>Q (σ.set i (some v)) H
theorem pg_name {i:Nat} {x:Str} (hN:X.N.Nodup) (hi:X.N[i]?=some x) (hx:Loc X.env.scope x) (hf:X.fn x=true∨X.env.scope.names.lookup x=some .local:=by first|exact .inl rfl|exact .inr rfl|assumption):PG X (.Name x pos) (gName i):=by
 intro pins s σ H v u Q I r h
 exact wpAny_assign_Name (store_ok I hN hi hx r (fun s' I'=>⟨_,H,I',h⟩) hf)
def gNil:TGs:=fun vs σ H Q=>vs=[]∧Q σ H
def gCons (t:TG) (u:TGs):TGs:=fun vs σ H Q => ∃ v r,vs=v::r∧t v σ H fun σ' H'=>u r σ' H' Q
theorem pgs_nil:PGs X [] gNil:=by
 intro pins s σ H vs us Q I r h
 obtain ⟨e,h⟩:=h
 subst e
 cases r
 exact assignInOrder_nil ⟨σ,H,I,h⟩
theorem pgs_cons {e:Expr} {es:List Expr} {t:TG} {u:TGs} (h1:PG X e t) (h2:PGs X es u)
 (hs:(assignEach (e::es) X.env).map (·.2)=assign e X.env::(assignEach es X.env).map (·.2):=by rfl):PGs X (e::es) (gCons t u):=by
  intro pins s σ H vs us Q I r h
  obtain ⟨v,vr,e1,h⟩:=h
  subst e1
  cases r with
  | cons r rr =>
   rw [hs]
   refine assignInOrder_cons (thn (h1 pins s σ H _ _ _ I r h) fun _ s1 xx14=>?_)
   obtain ⟨σ1,H1,I1,q1⟩:=xx14
   exact h2 pins s1 σ1 H1 _ _ Q I1 rr q1
def gTup (K:PySem.W.Frag) (n:Nat) (t:TGs):TG:=fun v σ H Q => ∃ a xs,v = .ref a∧SqT K H a xs∧xs.length=n∧t xs σ H Q
theorem pg_tup {es:List Expr} {k:Nat} {t:TGs} {n:Nat} (hc:X.calm=true) (h:PGs X es t)
 (hn:(assignEach es X.env).length=n:=by rfl) (hst:(assignEach es X.env).findIdx? (·.1)=none:=by rfl):PG X (.Tuple es k pos) (gTup X.K n t):=by
  intro pins s σ H v u Q I r hw
  obtain ⟨a,xs,e1,hq,hl,hw⟩:=hw
  subst e1
  cases r
  obtain ⟨its,rv,ht,hz⟩:=I.tuple hq
  refine assign_Tuple_tuple (I.ok.hd hc) ht (by simp [hn,← hl,rv.length]) hst fun h' hx=>?_
  have I1:Inv X pins σ H { s with heap:=h' }:=I.kept (t':=s.toks) fun b o e=>hx b o (Nat.ne_of_lt (Heap.lt_size e)) e
  exact h pins _ σ H xs _ Q I1 (by simpa using rv) hw
def gSub (to ti:TE) (t:TSet):TG:=fun v σ H Q=>to σ H fun o H1=>ti σ H1 fun i H2=>t o i v H2 fun H3=>Q σ H3
theorem pg_sub {o i:Expr} {to ti:TE} {t:TSet} (ho:PE X o to) (hi:PE X i ti) (hs:PSet X t)
 (ha : ∀ v,assign (.Subscript o i pos) X.env v=(do
 let ov ← holding [v] (eval o X.env)
 let iv ← holding [v,ov] (eval i X.env)
 standAt pos
 holding [v,ov,iv] (setItem ov iv v)
 release [v,ov,iv] []):=by intro _; rfl):PG X (.Subscript o i pos) (gSub to ti t):=by
  intro pins s σ H v u Q I r h
  rw [ha]
  refine wpAny_bind (wpAny_holding (thn (ho pins s σ H _ I h) fun ov s1 xx17=>?_))
  obtain ⟨x,H1,I1,r1,q1⟩:=xx17
  refine wpAny_bind (wpAny_holding (thn (hi pins s1 σ H1 _ I1 q1) fun iv s2 xx16=>?_))
  obtain ⟨y,H2,I2,r2,q2⟩:=xx16
  refine wpAny_bind (wpAny_standAt (wpAny_bind (wpAny_holding (thn (hs pins s2 σ H2 x y v ov iv u _ I2 r1 r2 r q2) fun _ s3 xx15=>?_))))
  obtain ⟨H3,I3,q3⟩:=xx15
  exact wpAny_release ⟨σ,H3,I3,q3⟩
def tAsg (te:TE) (g:TG):TS:=fun D σ H=>te σ H fun x H1=>g x σ H1 D.nx
theorem ps_asg {tg e:Expr} {te:TE} {g:TG} (he:PE X e te) (hg:PG X tg g) (hs:swapsWithSole [tg] e pos.line X.env=pure false:=by rfl) (hw:swappedStores [tg] e X.env=pure none:=by rfl)
 (h1:(assignEach [tg] X.env).map (·.2)=[assign tg X.env]:=by rfl):PS X (.Assign [tg] e pos) (tAsg te g):=by
 intro pins s σ H D I h
 refine wpAny_Assign_stores (thn (he pins s σ H _ I h) fun v s1 xx18=>?_) hs hw
 obtain ⟨x,H1,I1,r1,q1⟩:=xx18
 rw [h1]
 exact thn (hg pins s1 σ H1 x v _ I1 r1 q1) fun _ s2 q=>q
theorem ps_set {i:Nat} {x:Str} {e:Expr} {te:TE} {pos':Pos} (hN:X.N.Nodup) (hi:X.N[i]?=some x) (hx:Loc X.env.scope x) (he:PE X e te) (hs:swapsWith e (some (.Name x pos')) pos.line X.env=pure false:=by rfl) (hf:X.fn x=true∨X.env.scope.names.lookup x=some .local:=by first|exact .inl rfl|exact .inr rfl|assumption) :
 PS X (.Assign [.Name x pos'] e pos) (tAsg te (gName i)):=by
 intro pins s σ H D I h
 refine wpAny_Assign_Name (thn (he pins s σ H _ I h) fun v s1 xx19=>?_) hs
 obtain ⟨y,H1,I1,r1,q1⟩:=xx19
 exact store_ok I1 hN hi hx r1 (fun s2 I2=>⟨_,H1,I2,q1⟩) hf
def tPar (i j:Nat) (ta:TA):TS:=fun D σ H=>ta σ H fun vs H1 => ∃ v w,vs=[v,w]∧D.nx ((σ.set i (some v)).set j (some w)) H1
theorem ps_par {i j:Nat} {x y:Str} {a b:Expr} {ta:TA} {px py pt:Pos} {kt k2 pt2} (hc:X.calm=true) (hN:X.N.Nodup) (hi:X.N[i]?=some x) (hj:X.N[j]?=some y) (hij:i≠j)
 (hx:X.env.scope.names.lookup x=some .local) (hy:X.env.scope.names.lookup y=some .local) (ha:PA X [a,b] ta)
 (hw:swappedStores [.Tuple [.Name x px,.Name y py] kt pt] (.Tuple [a,b] k2 pt2) X.env=pure (some [x,y]))
 (hs:swapsWithSole [.Tuple [.Name x px,.Name y py] kt pt] (.Tuple [a,b] k2 pt2) pos.line X.env=pure false:=by rfl) :
  PS X (.Assign [.Tuple [.Name x px,.Name y py] kt pt] (.Tuple [a,b] k2 pt2) pos) (tPar i j ta):=by
  intro pins s σ H D I h
  rw [exec_Assign_arm]
  refine wpAny_bind (wpAny_standAt ?_)
  rw [hs]
  refine wpAny_bind (wpAny_pure ?_)
  rw [if_neg (by decide)]
  refine wpAny_bind (Tuple_ (thn (ha _ pins s σ H _ I h) fun us s1 xx20=>?_))
  obtain ⟨vs,H1,I1,r1,q1⟩:=xx20
  obtain ⟨v,w,e1,q1⟩:=q1
  subst e1
  obtain ⟨u1,u2,rfl,rv,rw'⟩ : ∃ u1 u2,us=[u1,u2]∧RelV v u1∧RelV w u2:=by
   cases r1 with
   | cons p q =>
    cases q with
    | cons p' q' =>
     cases q'
     exact ⟨_,_,rfl,p,p'⟩
  refine wpAny_newObj_type ?_ (by show 2≤sizeLine; decide)
  have I2:Inv X pins σ H1 { s1 with heap:=s1.heap.push { cls :=.type "tuple",data :=.seq [u1,u2].toArray } }:=I1.kept (t':=s1.toks) fun b o e=>Heap.get?_push_of_some _ e
  rw [hw]
  refine wpAny_bind (wpAny_pure ?_)
  show wpAny (model X.prog X.w) X.A (do rule "assign.swapped-stores"; let items ← unpackItems (.ref s1.heap.objs.size) 2 none; assignInOrder [fun v=>bindName X.env y v,fun v=>bindName X.env x v] items.reverse; pure Flow.next) _ _ _
  refine wpAny_bind (wpAny_rule (wpAny_bind (unpackItems_tuple (items := #[u1,u2]) (I.ok.hd hc) (IsTup.new s1.heap _) fun h' hx'=>?_)))
  have I3:=I2.kept (h':=h') (t':=s1.toks) fun b o e=>hx' b o (Nat.ne_of_lt (Heap.lt_size e)) e
  show wpAny _ _ (assignInOrder [fun v=>bindName X.env y v,fun v=>bindName X.env x v] [u2,u1] >>= fun _=>pure Flow.next) _ _ _
  refine wpAny_bind (assignInOrder_cons (wpAny_bindName (store_ok I3 hN hj (.inl hy) rw' (fun s2 I4=>?_) (.inr hy))))
  refine assignInOrder_cons (wpAny_bindName (store_ok I4 hN hi (.inl hx) rv (fun s3 I5=>assignInOrder_nil (wpAny_pure ?_)) (.inr hx)))
  rw [List.set_comm _ _ (Ne.symm hij)] at I5
  exact ⟨_,H1,I5,q1⟩
end
section
variable {X:Cx} {pos:Pos}
def tWhile (c:TT) (tb:TS):TS:=fun D σ H => ∃ W:Nat→St→Hp→Prop,(∃ m,W m σ H) ∧ ∀ m σ H,W m σ H →
 c σ H fun b H1=>if b=true then ∃ N:St→Hp→Prop,(∀ σ' H',N σ' H' → ∃ m',m'<m∧W m' σ' H')∧tb { D with nx:=N,ct:=N,bk:=D.nx } σ H1 else D.nx σ H1
theorem ps_while {c:Expr} {body:List Stmt} {tc:TT} {tb:TS} (hp:PassesOwn (model X.prog X.w) X.A X.env X.xe) (hc:PT X c tc) (hb:PSs X body tb):PS X (.While c body [] pos) (tWhile tc tb):=by
 intro pins s σ H D I h
 obtain ⟨W,⟨m0,w0⟩,turn⟩:=h
 refine wpAny_While (codeAny_whileLoop (fun n s' => ∃ σ' H',Inv X pins σ' H' s'∧W n σ' H') ?_ m0 ⟨σ,H,I,w0⟩)
 rintro n s1 ⟨σ1,H1,I1,w1⟩
 refine wpAny_passesOwn hp (thn (hc pins s1 σ1 H1 _ I1 (turn n σ1 H1 w1)) fun b s2 xx21=>?_)
 obtain ⟨H2,I2,q2⟩:=xx21
 cases b with
 | true =>
  obtain ⟨N,hN,q2⟩:=q2
  rw [if_pos rfl]
  refine wpAny_passesOwn hp (thn (hb pins s2 σ1 H2 _ I2 q2) fun f s3 q3=>?_)
  cases f with
  | next =>
   obtain ⟨σ3,H3,I3,n3⟩:=q3
   obtain ⟨m',hm,w3⟩:=hN σ3 H3 n3
   exact ⟨m',hm,σ3,H3,I3,w3⟩
  | cont =>
   obtain ⟨σ3,H3,I3,n3⟩:=q3
   obtain ⟨m',hm,w3⟩:=hN σ3 H3 n3
   exact ⟨m',hm,σ3,H3,I3,w3⟩
  | brk=>exact q3
  | ret v=>exact q3
 | false =>
  rw [if_neg Bool.false_ne_true]
  exact wpAny_execs_nil ⟨σ1,H2,I2,q2⟩
end
structure It where
 go:Nat→Hp→Prop
 yld:Nat→Hp→V→Hp→Prop
 stop:Nat→Hp→Prop
def FpOk (X:Cx) (pins:List (Addr×Obj)) (H:Hp) (b:Addr):Prop :=
 H b=none∧b≠X.env.locals∧b ∉ X.fs∧(b ∈ X.ex∨X.s₀.heap.objs.size≤b)∧(∀ x c,X.env.cells.lookup x=some c→c≠b) ∧ ∀ p ∈ X.pn++pins,p.1≠b
theorem Inv.fpOk {X:Cx} {pins:List (Addr×Obj)} {σ:St} {H H':Hp} {s:Shared} {b:Addr} (I:Inv X pins σ H s) (hb:s.heap.objs.size≤b) (hn:H' b=none):FpOk X pins H' b:=by
 refine ⟨hn,Nat.ne_of_gt (Nat.lt_of_lt_of_le I.lt hb),I.nofs hb,.inr (Nat.le_trans I.sz hb),fun x c e z=>?_,fun p hp z=>?_⟩
 ·obtain ⟨v,q⟩:=I.cell x c e
  exact absurd (Nat.lt_of_lt_of_le q.lt (by rw [z]; exact hb)) (Nat.lt_irrefl _)
 ·exact absurd (Nat.lt_of_lt_of_le (Heap.lt_size (I.pin p hp).1) (by rw [z]; exact hb)) (Nat.lt_irrefl _)
structure Turn (P:Program) (w:World) (K:PySem.W.Frag) (tg:Expr) (J:It) (fp:List Addr) (it:Addr) (tn:Nat→Heap→Prop):Prop where
 mem:it ∈ fp
 obj : ∀ i h,tn i h → ∀ b ∈ fp,∃ o,h.get? b=some o ∧ ∀ v,o.data ≠ .cell v
 keep : ∀ i h h',tn i h→(∀ b ∈ fp,∀ o,h.get? b=some o→h'.get? b=some o)→tn i h'
 item : ∀ (X:Cx),X.prog=P→X.w=w→X.K=K→X.calm=true → ∀ (i:Nat) (pins:List (Addr×Obj)) (s:Shared) (σ:St) (H:Hp) (E:Value→Shared→Prop),Inv X pins σ H s→(∀ b ∈ fp,FpOk X pins H b)→tn i s.heap→J.go i H →
  wpAny (model P w) X.A (pyNext (.ref it)) (fun r s1 => ∃ u,r=some u ∧
   wpAny (model P w) X.A (letOwnedTupleGo tg (.ref it) u) (fun _ s2 => ∃ x H',Inv X pins σ H' s2∧RelV x u∧J.yld i H x H'∧tn (i+1) s2.heap ∧ ∀ b ∈ fp,H' b=none) E s1) E s
 done : ∀ (X:Cx),X.prog=P→X.w=w→X.K=K→X.calm=true → ∀ (i:Nat) (pins:List (Addr×Obj)) (s:Shared) (σ:St) (H:Hp) (E:Value→Shared→Prop),Inv X pins σ H s→(∀ b ∈ fp,FpOk X pins H b)→tn i s.heap→J.stop i H →
  wpAny (model P w) X.A (pyNext (.ref it)) (fun r s1=>r=none∧Inv X pins σ H s1) E s
 self : ∀ (A:Around) (i:Nat) (s:Shared) (Q:Value→Shared→Prop) (E:Value→Shared→Prop),tn i s.heap→Q (.ref it) s→wpAny (model P w) A (pyIter (.ref it)) Q E s
abbrev TI:=St→Hp→(It→Hp→Prop)→Prop
def PIE (X:Cx) (pins:List (Addr×Obj)) (σ:St) (tg:Expr) (R:It→Hp→Prop) (itv:Value) (s2:Shared):Prop :=
 ∃ (it:Addr) (fp:List Addr) (tn:Nat→Heap→Prop) (J:It) (H':Hp),itv = .ref it∧Inv X pins σ H' s2∧Turn X.prog X.w X.K tg J fp it tn∧tn 0 s2.heap∧(∀ b ∈ fp,FpOk X pins H' b)∧R J H'
def PI (X:Cx) (tg iter:Expr) (wi:TI):Prop :=
 ∀ (pins:List (Addr×Obj)) (s:Shared) (σ:St) (H:Hp) (R:It→Hp→Prop),Inv X pins σ H s→wi σ H R →
  wpAny (model X.prog X.w) X.A (eval iter X.env) (fun v s1=>wpAny (model X.prog X.w) X.A (pyIter v) (PIE X pins σ tg R) X.xe s1) X.xe s
theorem go_of {M:Model} {A:Around} {E:Value→Shared→Prop} {s:Shared} {tg:Expr} {it:Addr} {u:Value} {o:Obj} {n:String} {vs:Array Value} {Q:Unit→Shared→Prop} (ho:s.heap.get? it=some o) (hc:o.cls = .type n) (hd:o.data = .fields vs)
 (hn:["enumerate","zip","dict_itemiterator","dict_reverseitemiterator","odict_iterator","itertools.zip_longest","itertools.pairwise"].contains n=false) (hQ:Q () s):wpAny M A (letOwnedTupleGo tg (.ref it) u) Q E s:=by
  unfold letOwnedTupleGo
  cases tg <;> first
   | exact wpAny_pure hQ
   | (cases u <;> first
    | exact wpAny_pure hQ
    | (refine wpAny_bind (wpAny_load ho ?_)
       rw [hc,hd]
       show wpAny M A (if (["enumerate","zip","dict_itemiterator","dict_reverseitemiterator","odict_iterator","itertools.zip_longest","itertools.pairwise"].contains n&&vs[0]?==some (rawInt _))=true then _ else _) Q E s
       rw [if_neg (by intro h; rw [hn,Bool.false_and] at h; cases h)]
       exact wpAny_pure hQ))
def Itl (K:PySem.W.Frag) (a:Addr):It :=
 ⟨fun i H => ∃ xs x,SqL K H a xs∧xs[i]?=some x,fun i H x H'=>H'=H ∧ ∀ xs,SqL K H a xs→xs[i]?=some x,fun i H => ∃ xs,SqL K H a xs∧xs.length≤i⟩
def Itt (K:PySem.W.Frag) (a:Addr):It :=
 ⟨fun i H => ∃ xs x,SqT K H a xs∧xs[i]?=some x,fun i H x H'=>H'=H ∧ ∀ xs,SqT K H a xs→xs[i]?=some x,fun i H => ∃ xs,SqT K H a xs∧xs.length≤i⟩
def Itr (lo:Int) (n:Nat):It:=⟨fun i _=>i<n,fun i H x H'=>H'=H∧x = .int (lo+i),fun i _=>n≤i⟩
theorem turn_list {P:Program} {w:World} {K:PySem.W.Frag} {tg:Expr} (a it:Addr):Turn P w K tg (Itl K a) [it] it (fun i h=>h.IsListIter it a i) where
 mem:=by simp
 obj:=fun i h st b hb=>by
  have e:b=it:=by simpa using hb
  subst e
  obtain ⟨o,e,c,d⟩:=st
  exact ⟨o,e,fun v z=>by rw [d] at z; cases z⟩
 keep:=fun i h h' st k=>st.at fun o e=>k it (by simp) o e
 item:=by
  intro X hP hw hK hc i pins s σ H E I hf st hg
  subst hP hw hK
  obtain ⟨xs,x,hq,hx⟩:=hg
  obtain ⟨its,rv,p,hz⟩:=I.list hq
  obtain ⟨u,hu,ru⟩:=rv.get hx
  obtain ⟨f0,f1,f2,f3,f4,f5⟩:=hf it (by simp)
  refine wpAny_pyNext_list_item st p.isList (x:=u) (by simpa using hu) fun h' st' sb=>?_
  have I1:Inv X pins σ H { s with heap:=h' }:=I.turned (t':=s.toks) (fun b o hb e=>(sb.2 b hb).trans e) f0 f1 f3 f4 f5
  obtain ⟨o,e,c,d⟩:=id st'
  exact ⟨u,rfl,go_of (s:={ s with heap:=h' }) e c d (by decide) ⟨x,H,I1,ru,⟨rfl,fun ys hy=>by rw [I.list_inj hy hq]; exact hx⟩,st',fun b hb=>(hf b hb).1⟩⟩
 done:=by
  intro X hP hw hK hc i pins s σ H E I hf st hg
  subst hP hw hK
  obtain ⟨xs,hq,hx⟩:=hg
  obtain ⟨its,rv,p,hz⟩:=I.list hq
  obtain ⟨f0,f1,f2,f3,f4,f5⟩:=hf it (by simp)
  have hl:=rv.length
  exact wpAny_pyNext_list_end (I.ok.hd hc) st p.isList (by simp; omega) fun h' eb=>⟨rfl,I.turned (t':=s.toks) (fun b o hb e=>eb b o hb e) f0 f1 f3 f4 f5⟩
 self:=fun _ _ _ _ _ st h=>wpAny_pyIter_listiter st h
theorem turn_tuple {P:Program} {w:World} {K:PySem.W.Frag} {tg:Expr} (a it:Addr):Turn P w K tg (Itt K a) [it] it (fun i h=>h.IsTupleIter it a i) where
 mem:=by simp
 obj:=fun i h st b hb=>by
  have e:b=it:=by simpa using hb
  subst e
  obtain ⟨o,e,c,d⟩:=st
  exact ⟨o,e,fun v z=>by rw [d] at z; cases z⟩
 keep:=fun i h h' st k=>st.at fun o e=>k it (by simp) o e
 item:=by
  intro X hP hw hK hc i pins s σ H E I hf st hg
  subst hP hw hK
  obtain ⟨xs,x,hq,hx⟩:=hg
  obtain ⟨its,rv,p,hz⟩:=I.tuple hq
  obtain ⟨u,hu,ru⟩:=rv.get hx
  obtain ⟨f0,f1,f2,f3,f4,f5⟩:=hf it (by simp)
  refine wpAny_pyNext_tuple_item st (show s.heap.IsTuple a its.toArray from p) (x:=u) (by simpa using hu) fun h' st' sb=>?_
  have I1:Inv X pins σ H { s with heap:=h' }:=I.turned (t':=s.toks) (fun b o hb e=>(sb.2 b hb).trans e) f0 f1 f3 f4 f5
  obtain ⟨o,e,c,d⟩:=id st'
  exact ⟨u,rfl,go_of (s:={ s with heap:=h' }) e c d (by decide) ⟨x,H,I1,ru,⟨rfl,fun ys hy=>by rw [I.tuple_inj hy hq]; exact hx⟩,st',fun b hb=>(hf b hb).1⟩⟩
 done:=by
  intro X hP hw hK hc i pins s σ H E I hf st hg
  subst hP hw hK
  obtain ⟨xs,hq,hx⟩:=hg
  obtain ⟨its,rv,p,hz⟩:=I.tuple hq
  obtain ⟨f0,f1,f2,f3,f4,f5⟩:=hf it (by simp)
  have hl:=rv.length
  exact wpAny_pyNext_tuple_end (I.ok.hd hc) st (show s.heap.IsTuple a its.toArray from p) (by simp; omega) fun h' eb=>⟨rfl,I.turned (t':=s.toks) (fun b o hb e=>eb b o hb e) f0 f1 f3 f4 f5⟩
 self:=fun _ _ _ _ _ st h=>wpAny_pyIter_tupleiter st h
theorem turn_range {P:Program} {w:World} {K:PySem.W.Frag} {tg:Expr} (it:Addr) (lo:Int) (n:Nat):Turn P w K tg (Itr lo n) [it] it (fun i h=>IsRangeIter h it (lo+(i:Nat)*1) ((n:Int)-(i:Nat)) 1) where
 mem:=by simp
 obj:=fun i h st b hb=>by
  have e:b=it:=by simpa using hb
  subst e
  exact ⟨_,st,fun v z=>by
   have z':Data.fields _=Data.cell v:=z
   cases z'⟩
 keep:=fun i h h' st k=>k it (by simp) _ st
 item:=by
  intro X hP hw hK hc i pins s σ H E I hf st hg
  subst hP hw hK
  obtain ⟨f0,f1,f2,f3,f4,f5⟩:=hf it (by simp)
  have W:=Walks.range (prog:=X.prog) (w:=X.w) (I.ok.hd hc) it lo 1 n
  refine W.item i s _ _ hg st fun v h' tk hv st' kk=>?_
  obtain ⟨t,rfl⟩:=hv
  have I1:Inv X pins σ H { s with heap:=h',toks:=tk }:=I.turned (fun b o hb e=>kk b o (by simpa using hb) e) f0 f1 f3 f4 f5
  refine ⟨_,rfl,go_of (s:={ s with heap:=h',toks:=tk }) (n := "range_iterator") st' rfl rfl (by decide) ⟨.int (lo+i),H,I1,⟨t,?_⟩,⟨rfl,rfl⟩,st',fun b hb=>(hf b hb).1⟩⟩
  rw [Int.mul_one]
 done:=by
  intro X hP hw hK hc i pins s σ H E I hf st hg
  subst hP hw hK
  obtain ⟨f0,f1,f2,f3,f4,f5⟩:=hf it (by simp)
  exact wpAny_pyNext_range_end (I.ok.hd hc) st (by have:n≤i:=hg; omega) fun h' eb=>⟨rfl,I.turned (t':=s.toks) (fun b o hb e=>eb b o hb e) f0 f1 f3 f4 f5⟩
 self:=fun _ _ _ _ _ st h=>wpAny_pyIter_rangeiter st h
end L2
namespace L2
open PySem PySem.Spec PyProof.Rows
section
variable {X:Cx} {tg:Expr}
theorem range_it {pins:List (Addr×Obj)} {σ:St} {H:Hp} {s:Shared} {R:It→Hp→Prop} {E:Value→Shared→Prop} {lo hi:Int} {t u v:Tok} {tk:Nat} (I:Inv X pins σ H s) (h1 : -(2^62)≤lo) (h2:lo<2^62) (h3 : -(2^62)≤hi) (h4:hi<2^62)
 (q:R (Itr lo (hi-lo).toNat) H):wpAny (model X.prog X.w) X.A (pyIter (.ref s.heap.objs.size)) (PIE X pins σ tg R) E { s with heap:=s.heap.push { cls :=.type "range",data :=.fields #[.int lo t,.int hi u,.int 1 v] },toks:=tk }:=by
  refine wpAny_pyIter_range (IsRange.new ..) (small_one h1 h2 h3 h4) ?_
  have I1:Inv X pins σ H { s with heap:=s.heap.push { cls :=.type "range",data :=.fields #[.int lo t,.int hi u,.int 1 v] },toks:=tk }:=I.kept fun b o e=>Heap.get?_push_of_some _ e
  refine ⟨(s.heap.push { cls :=.type "range",data :=.fields #[.int lo t,.int hi u,.int 1 v] }).objs.size,[(s.heap.push { cls :=.type "range",data :=.fields #[.int lo t,.int hi u,.int 1 v] }).objs.size],_,_,H,rfl,
   I1.kept (t':=tk) fun b o e=>Heap.get?_push_of_some _ e,turn_range _ lo (hi-lo).toNat,?_,fun b hb=>?_,q⟩
  ·have e1:lo+((0:Nat):Int)*1=lo:=by simp
   have e2:(((hi-lo).toNat:Nat):Int)-((0:Nat):Int)=Builtin.Range.rangeSize lo hi 1:=by rw [rangeSize_one]; split <;> omega
   show IsRangeIter _ _ (lo+((0:Nat):Int)*1) ((((hi-lo).toNat:Nat):Int)-((0:Nat):Int)) 1
   rw [e1,e2]
   exact Heap.get?_push_size _ rfl
  ·have e:b=(s.heap.push { cls :=.type "range",data :=.fields #[.int lo t,.int hi u,.int 1 v] }).objs.size:=by simpa using hb
   subst e
   exact I1.fpOk (Nat.le_refl _) (I1.hok.fresh (Nat.le_refl _))
def iRng1 (ta:TA):TI:=fun σ H R=>ta σ H fun vs H1 => ∃ j:Int,vs=[.int j] ∧ -(2^62)≤j∧j<2^62∧R (Itr 0 j.toNat) H1
theorem pi_range1 {a:Expr} {ta:TA} {p pos:Pos} (hg:Gl X "range") (hm:X.mg "range" = none) (ha:PA X [a] ta) (hs:starEach [a] X.env=[(false,eval a X.env)]:=by rfl):PI X tg (.Call (.Name "range" p) [a] [] pos) (iRng1 ta):=by
 intro pins s σ H R I h
 refine Call_ (ld_blt I hg hm boot_range (PyProof.Rows.callWith_type1 (thn (ha pos pins s σ H _ I h) fun us s1 xx22=>?_) hs rfl))
 obtain ⟨vs,H1,I1,r1,q1⟩:=xx22
 obtain ⟨j,e,q1,q2,q⟩:=q1
 subst e
 cases r1 with
 | cons r rr =>
  cases rr
  obtain ⟨t,rfl⟩:=r
  exact call_range_1 (range_it I1 (by omega) (by omega) q1 q2 (by simpa using q))
def tFor (wi:TI) (g:TG) (tb:TS):TS:=fun D σ H=>wi σ H fun J H1 => ∃ W:Nat→Nat→St→Hp→Prop,(∃ m,W 0 m σ H1) ∧ ∀ i m σ H,W i m σ H →
 (J.stop i H∧D.nx σ H)∨(J.go i H ∧ ∃ N:St→Hp→Prop,(∀ σ' H',N σ' H' → ∃ m',m'<m∧W (i+1) m' σ' H') ∧ ∀ x H',J.yld i H x H'→g x σ H' fun σ2 H2=>tb { D with nx:=N,ct:=N,bk:=D.nx } σ2 H2)
def pinsAt (fp:List Addr) (h:Heap):List (Addr×Obj):=fp.filterMap fun b=>(h.get? b).map fun o=>(b,o)
theorem mem_pinsAt {fp:List Addr} {h:Heap} {b:Addr} {o:Obj} (hb:b ∈ fp) (e:h.get? b=some o):(b,o) ∈ pinsAt fp h:=List.mem_filterMap.mpr ⟨b,hb,by rw [e]; rfl⟩
theorem of_pinsAt {fp:List Addr} {h:Heap} {p:Addr×Obj} (hp:p ∈ pinsAt fp h):p.1 ∈ fp∧h.get? p.1=some p.2:=by
 obtain ⟨b,hb,e⟩:=List.mem_filterMap.mp hp
 cases q:h.get? b with
 | none=>rw [q] at e; cases e
 | some o =>
  rw [q] at e
  have e':(b,o)=p:=Option.some.inj e
  subst e'
  exact ⟨hb,q⟩
theorem Inv.pinned {pins:List (Addr×Obj)} {σ:St} {H:Hp} {s:Shared} {fp:List Addr} (I:Inv X pins σ H s) (hf : ∀ b ∈ fp,FpOk X pins H b) (ho : ∀ b ∈ fp,∃ o,s.heap.get? b=some o ∧ ∀ v,o.data ≠ .cell v):Inv X (pins++pinsAt fp s.heap) σ H s :=
 I.pins_of fun p hp=>(List.mem_append.mp hp).elim (fun z=>I.pin p (List.mem_append_right _ z)) fun z=>by
  obtain ⟨hb,e⟩:=of_pinsAt z
  obtain ⟨f0,f1,f2,_⟩:=hf p.1 hb
  obtain ⟨o,e',d⟩:=ho p.1 hb
  rw [e] at e'; cases e'
  exact ⟨e,f0,f1,f2,d⟩
theorem Inv.unpinned {pins pl:List (Addr×Obj)} {σ:St} {H:Hp} {s:Shared} (I:Inv X (pins++pl) σ H s):Inv X pins σ H s:=I.pins_of fun p hp=>I.pin p (List.mem_append_right _ (List.mem_append_left _ hp))
theorem ps_for {iter:Expr} {body:List Stmt} {wi:TI} {g:TG} {tb:TS} {pos:Pos} (hp:PassesOwn (model X.prog X.w) X.A X.env X.xe) (hc:X.calm=true) (hi:PI X tg iter wi) (hg:PG X tg g) (hb:PSs X body tb)
 (hs : ∀ x,foldedSetIterable iter X.env x=pure x:=by intro _; rfl):PS X (.For tg iter body [] pos) (tFor wi g tb):=by
  intro pins s σ H D I h
  refine wpAny_For (thn (hi pins s σ H _ I h) fun v s1 h1=>thn h1 fun itv s2 h2=>?_) hs
  obtain ⟨it,fp,tn,J,H2,e,I2,T,st2,f2,W,⟨m0,w0⟩,turn⟩:=h2
  subst e
  have stat : ∀ {H':Hp},(∀ b ∈ fp,H' b=none) → ∀ b ∈ fp,FpOk X pins H' b:=fun hn b hb=>⟨hn b hb,(f2 b hb).2⟩
  refine codeAny_forLoop_any (fun n s' => ∃ i σ' H',Inv X pins σ' H' s'∧tn i s'.heap∧(∀ b ∈ fp,H' b=none)∧W i n σ' H') ?_ m0 ⟨0,σ,H2,I2,st2,fun b hb=>(f2 b hb).1,w0⟩
  rintro n s3 ⟨i,σ3,H3,I3,st3,fr3,w3⟩
  rcases turn i n σ3 H3 w3 with ⟨stop,qn⟩|⟨go,N,hN,step⟩
  ·refine wpAny_passesOwn hp (thn (T.done X rfl rfl rfl hc i pins s3 σ3 H3 X.xe I3 (stat fr3) st3 stop) fun r s4 xx26=>?_)
   obtain ⟨hr,I4⟩:=xx26
   subst hr
   exact wpAny_execs_nil ⟨σ3,H3,I4,qn⟩
  ·refine wpAny_passesOwn hp (thn (T.item X rfl rfl rfl hc i pins s3 σ3 H3 X.xe I3 (stat fr3) st3 go) fun r s4 xx25=>?_)
   obtain ⟨u,hr,h4⟩:=xx25
   subst hr
   refine wpAny_passesOwn hp (thn h4 fun _ s5 xx24=>?_)
   obtain ⟨x,H5,I5,r5,y5,st5,fr5⟩:=xx24
   have I5':=I5.pinned (stat fr5) (T.obj _ _ st5)
   refine wpAny_passesOwn hp (thn (hg _ s5 σ3 H5 x u _ I5' r5 (step x H5 y5)) fun _ s6 xx23=>?_)
   obtain ⟨σ6,H6,I6,q6⟩:=xx23
   refine wpAny_passesOwn hp (thn (hb _ s6 σ6 H6 _ I6 q6) fun f s7 q7=>?_)
   have again : ∀ {σ7:St} {H7:Hp},Inv X (pins++pinsAt fp s5.heap) σ7 H7 s7→N σ7 H7 → ∃ m,m<n ∧ ∃ i σ' H',Inv X pins σ' H' s7∧tn i s7.heap∧(∀ b ∈ fp,H' b=none)∧W i m σ' H':=fun {σ7 H7} I7 n7=>by
    obtain ⟨m',hm,w7⟩:=hN σ7 H7 n7
    refine ⟨m',hm,i+1,σ7,H7,I7.unpinned,T.keep _ _ _ st5 fun b hb o e=>(I7.pin (b,o) (List.mem_append_right _ (List.mem_append_right _ (mem_pinsAt hb e)))).1,fun b hb=>?_,w7⟩
    obtain ⟨o,e,d⟩:=T.obj _ _ st5 b hb
    exact (I7.pin (b,o) (List.mem_append_right _ (List.mem_append_right _ (mem_pinsAt hb e)))).2.1
   cases f with
   | next=>obtain ⟨σ7,H7,I7,n7⟩:=q7; exact again I7 n7
   | cont=>obtain ⟨σ7,H7,I7,n7⟩:=q7; exact again I7 n7
   | brk=>obtain ⟨σ7,H7,I7,q7⟩:=q7; exact ⟨σ7,H7,I7.unpinned,q7⟩
   | ret v=>obtain ⟨x7,σ7,H7,I7,r7,q7⟩:=q7; exact ⟨x7,σ7,H7,I7.unpinned,r7,q7⟩
end
end L2
namespace L2
open PySem PySem.Spec PyProof.Rows
abbrev R2:=V→V→Hp→VK→Prop
def OpR (X:Cx) (f:Value→Value→Sem Value) (r:R2):Prop :=
 ∀ (pins:List (Addr×Obj)) (s:Shared) (σ:St) (H:Hp) (x y:V) (v u:Value) (Q:VK),Inv X pins σ H s→RelV x v→RelV y u→r x y H Q →
  wpAny (model X.prog X.w) X.A (f v u) (EP X pins σ Q) X.xe s
def UnR (X:Cx) (f:Value→Sem Value) (r:V→Hp→VK→Prop):Prop :=
 ∀ (pins:List (Addr×Obj)) (s:Shared) (σ:St) (H:Hp) (x:V) (v:Value) (Q:VK),Inv X pins σ H s→RelV x v→r x H Q →
  wpAny (model X.prog X.w) X.A (f v) (EP X pins σ Q) X.xe s
def CallR (X:Cx) (f:Value) (r:List V→Hp→VK→Prop):Prop :=
 ∀ (pins:List (Addr×Obj)) (s:Shared) (σ:St) (H:Hp) (xs:List V) (us:List Value) (Q:VK),Inv X pins σ H s→Vals xs us→r xs H Q →
  wpAny (model X.prog X.w) X.A (call f us) (EP X pins σ Q) X.xe s
def TruR (X:Cx) (r:V→Hp→(Bool→Hp→Prop)→Prop):Prop :=
 ∀ (pins:List (Addr×Obj)) (s:Shared) (σ:St) (H:Hp) (x:V) (v:Value) (Q:Bool→Hp→Prop),Inv X pins σ H s→RelV x v→r x H Q →
  wpAny (model X.prog X.w) X.A (truthy v) (TP X pins σ Q) X.xe s
def tOp (r:R2) (ta tb:TE):TE:=fun σ H Q=>ta σ H fun x H1=>tb σ H1 fun y H2=>r x y H2 Q
def tUn (r:V→Hp→VK→Prop) (ta:TE):TE:=fun σ H Q=>ta σ H fun x H1=>r x H1 Q
def rI (C:Int→Int→Prop) (g:Int→Int→V):R2:=fun x y H Q => ∃ i j,x = .int i∧y = .int j∧C i j∧Q (g i j) H
def rI0 (g:Int→Int→V):R2:=fun x y H Q => ∃ i j,x = .int i∧y = .int j∧Q (g i j) H
def rU (g:Int→V):V→Hp→VK→Prop:=fun x H Q => ∃ i,x = .int i∧Q (g i) H
section
variable {X:Cx} {a b c:Expr} {ta tb tc:TE} {pos:Pos}
theorem binT (ha:PE X a ta) (hb:PE X b tb) {pins:List (Addr×Obj)} {s:Shared} {σ:St} {H:Hp} {R:V→V→Hp→Prop} (I:Inv X pins σ H s)
 (h:ta σ H fun x H1=>tb σ H1 fun y H2=>R x y H2) {Q:Value→Shared→Prop} {f:Value→Value→Sem Value}
 (hf : ∀ v u s2 x y H2,Inv X pins σ H2 s2→RelV x v→RelV y u→R x y H2→wpAny (model X.prog X.w) X.A (f v u) Q X.xe s2) :
 wpAny (model X.prog X.w) X.A (eval a X.env) (fun v s₁=>wpAny (model X.prog X.w) X.A (eval b X.env) (fun u s₂=>wpAny (model X.prog X.w) X.A (f v u) Q X.xe s₂) X.xe s₁) X.xe s:=by
  refine thn (ha pins s σ H _ I h) fun v s1 xx28=>?_
  obtain ⟨x,H1,I1,r1,q1⟩:=xx28
  refine thn (hb pins s1 σ H1 _ I1 q1) fun u s2 xx27=>?_
  obtain ⟨y,H2,I2,r2,q2⟩:=xx27
  exact hf v u s2 x y H2 I2 r1 r2 q2
theorem pe_op {op:Operator} {r:R2} (ho:OpR X (binaryOp op) r) (ha:PE X a ta) (hb:PE X b tb):PE X (.BinOp a op b pos) (tOp r ta tb):=by
 intro pins s σ H Q I h
 exact wpAny_BinOp (binT ha hb I h fun v u s2 x y H2 I2 rx ry q=>ho pins s2 σ H2 x y v u Q I2 rx ry q)
theorem pe_un {op:UnaryOp} {r:V→Hp→VK→Prop} (ho:UnR X (unaryOp op) r) (ha:PE X a ta):PE X (.UnaryOp op a pos) (tUn r ta):=by
 intro pins s σ H Q I h
 exact UnaryOp_ (thn (ha pins s σ H _ I h) fun v s1 xx29=>by obtain ⟨x,H1,I1,r1,q1⟩:=xx29; exact ho pins s1 σ H1 x v Q I1 r1 q1)
theorem opI {f:Value→Value→Sem Value} {C:Int→Int→Prop} {g:Int→Int→Int}
 (rule : ∀ (i j:Int) (t u:Tok) (s:Shared) (Q:Value→Shared→Prop) (E:Value→Shared→Prop),C i j→Q (.int (g i j) s.toks) { s with toks:=s.toks+1 }→wpAny (model X.prog X.w) X.A (f (.int i t) (.int j u)) Q E s) :
  OpR X f (rI C fun i j => .int (g i j)):=by
  intro pins s σ H x y v u Q I rx ry h
  obtain ⟨i,j,rfl,rfl,hc,q⟩:=h
  obtain ⟨t,rfl⟩:=rx
  obtain ⟨t',rfl⟩:=ry
  exact rule i j t t' s _ _ hc ⟨.int (g i j),H,I.tok _,⟨_,rfl⟩,q⟩
theorem opI0 {f:Value→Value→Sem Value} {g:Int→Int→Int}
 (rule : ∀ (i j:Int) (t u:Tok) (s:Shared) (Q:Value→Shared→Prop) (E:Value→Shared→Prop),Q (.int (g i j) s.toks) { s with toks:=s.toks+1 }→wpAny (model X.prog X.w) X.A (f (.int i t) (.int j u)) Q E s) :
  OpR X f (rI0 fun i j => .int (g i j)):=by
  intro pins s σ H x y v u Q I rx ry h
  obtain ⟨i,j,rfl,rfl,q⟩:=h
  obtain ⟨t,rfl⟩:=rx
  obtain ⟨t',rfl⟩:=ry
  exact rule i j t t' s _ _ ⟨.int (g i j),H,I.tok _,⟨_,rfl⟩,q⟩
theorem opB0 {f:Value→Value→Sem Value} {g:Int→Int→Bool}
 (rule : ∀ (i j:Int) (t u:Tok) (s:Shared) (Q:Value→Shared→Prop) (E:Value→Shared→Prop),Q (.bool (g i j)) s→wpAny (model X.prog X.w) X.A (f (.int i t) (.int j u)) Q E s) :
 OpR X f (rI0 fun i j => .bl (g i j)):=by
  intro pins s σ H x y v u Q I rx ry h
  obtain ⟨i,j,rfl,rfl,q⟩:=h
  obtain ⟨t,rfl⟩:=rx
  obtain ⟨t',rfl⟩:=ry
  exact rule i j t t' s _ _ ⟨.bl (g i j),H,I,rfl,q⟩
theorem op_add:OpR X (binaryOp .Add) (rI0 fun i j => .int (i+j)):=opI0 fun _ _ _ _ _ _ _ q=>add_int q
theorem op_sub:OpR X (binaryOp .Sub) (rI0 fun i j => .int (i-j)):=opI0 fun _ _ _ _ _ _ _ q=>sub_int q
theorem op_mod:OpR X (binaryOp .Mod) (rI (fun _ j=>0<j) fun i j => .int (i%j)):=opI fun i j _ _ _ _ _ hc q=>by
 have h1:(0:Int)<j:=hc
 exact mod_int' (by omega) (by rw [Int.fmod_eq_emod_of_nonneg i (by omega)]; exact q)
theorem unI {f:Value→Sem Value} {g:Int→Int}
 (rule : ∀ (i:Int) (t:Tok) (s:Shared) (Q:Value→Shared→Prop) (E:Value→Shared→Prop),Q (.int (g i) s.toks) { s with toks:=s.toks+1 }→wpAny (model X.prog X.w) X.A (f (.int i t)) Q E s) :
  UnR X f (rU fun i => .int (g i)):=by
  intro pins s σ H x v Q I rx h
  obtain ⟨i,rfl,q⟩:=h
  obtain ⟨t,rfl⟩:=rx
  exact rule i t s _ _ ⟨.int (g i),H,I.tok _,⟨_,rfl⟩,q⟩
theorem un_neg:UnR X (unaryOp .USub) (rU fun i => .int (-i)):=unI fun _ _ _ _ _ q=>neg_int q
end
section
variable {X:Cx} {a b c:Expr} {ta tb tc:TE} {pos:Pos}
theorem fin_bl {pins:List (Addr×Obj)} {σ:St} {H:Hp} {s:Shared} {Q:VK} {k k':Bool} (I:Inv X pins σ H s) (q:Q (.bl k) H) (e:k=k'):EP X pins σ Q (.bool k') s:=by
 subst e
 exact ⟨.bl k,H,I,rfl,q⟩
theorem op_lt:OpR X (compareOp .Lt) (rI0 fun i j => .bl (decide (i<j))):=opB0 fun _ _ _ _ _ _ _ q=>lt_int q
theorem op_le:OpR X (compareOp .LtE) (rI0 fun i j => .bl (decide (i≤j))):=opB0 fun _ _ _ _ _ _ _ q=>le_int q
theorem op_gt:OpR X (compareOp .Gt) (rI0 fun i j => .bl (decide (j<i))):=opB0 fun _ _ _ _ _ _ _ q=>gt_int q
theorem op_ge:OpR X (compareOp .GtE) (rI0 fun i j => .bl (decide (j≤i))):=opB0 fun _ _ _ _ _ _ _ q=>ge_int q
theorem op_isN:OpR X (compareOp .Is) (fun x y H Q=>y = .non∧Q (.bl (decide (x = .non))) H):=by
 intro pins s σ H x y v u Q I rx ry h
 obtain ⟨rfl,q⟩:=h
 cases ry
 refine is_none_gen (fin_bl I q ?_)
 cases x <;> first
  | (cases rx; rfl)
  | (obtain ⟨t,rfl⟩:=rx; rfl)
theorem nomark (b:Expr) {op:CmpOp} (h:op ≠ .In:=by decide) (h2:op ≠ .NotIn:=by decide):behindInMarks op b=false:=by
 have e1:(op==CmpOp.In)=false:=by cases op <;> first|rfl|exact absurd rfl h
 have e2:(op==CmpOp.NotIn)=false:=by cases op <;> first|rfl|exact absurd rfl h2
 cases b <;> simp [behindInMarks,e1,e2]
theorem pe_cmpR {op:CmpOp} {r:R2} (ho:OpR X (compareOp op) r) (ha:PE X a ta) (hb:PE X b tb) (hm:behindInMarks op b=false):PE X (.Compare a [op] [b] pos) (tOp r ta tb):=by
 intro pins s σ H Q I h
 exact wpAny_Compare1 (binT ha hb I h fun v u s2 x y H2 I2 rx ry q=>ho pins s2 σ H2 x y v u Q I2 rx ry q) hm
def tTest (t:TE):TT:=fun σ H Q=>t σ H fun x H' => ∃ k,x = .bl k∧Q k H'
theorem pt_cmpR {op:CmpOp} {r:R2} (ho:OpR X (compareOp op) r) (ha:PE X a ta) (hb:PE X b tb) (hm:behindInMarks op b=false):PT X (.Compare a [op] [b] pos) (tTest (tOp r ta tb)):=by
 intro pins s σ H Q I h
 refine wpAny_isTrue_Compare1 (thn (ha pins s σ H _ I h) fun v s1 ⟨x,H1,I1,r1,q1⟩=>thn (hb pins s1 σ H1 _ I1 q1) fun u s2 ⟨y,H2,I2,r2,q2⟩ =>
  thn (ho pins s2 σ H2 x y v u _ I2 r1 r2 q2) fun c s3 ⟨z,H3,I3,r3,k,e,q3⟩=>?_) hm
 subst e
 cases r3
 exact wpAny_truthy_bool ⟨H3,I3,q3⟩
def tChain (r r':R2) (ta tb tc:TE):TE:=fun σ H Q=>ta σ H fun x H1=>tb σ H1 fun y H2=>r x y H2 fun z H3 => ∃ k,z = .bl k ∧
 (if k=true then tc σ H3 fun w' H4=>r' y w' H4 Q else Q (.bl false) H3)
theorem pe_chain {op op':CmpOp} {r r':R2} (ho:OpR X (compareOp op) r) (ho':OpR X (compareOp op') r') (ha:PE X a ta) (hb:PE X b tb) (hc:PE X c tc)
 (hm:lastMarks [op,op'] [b,c]=false:=by with_unfolding_all rfl):PE X (.Compare a [op,op'] [b,c] pos) (tChain r r' ta tb tc):=by
  intro pins s σ H Q I h
  refine Compare_chain (thn (ha pins s σ H _ I h) fun v s1 ⟨x,H1,I1,r1,q1⟩=>chain_link (thn (hb pins s1 σ H1 _ I1 q1) fun u s2 ⟨y,H2,I2,r2,q2⟩ =>
   thn (ho pins s2 σ H2 x y v u _ I2 r1 r2 q2) fun d s3 ⟨z,H3,I3,r3,k,e,q3⟩=>?_)) hm
  subst e
  cases r3
  refine wpAny_truthy_bool ?_
  cases k with
  | false=>exact ite_ff ⟨.bl false,H3,I3,rfl,q3⟩
  | true=>exact ite_tt (chain_last (thn (hc pins s3 σ H3 _ I3 q3) fun w' s4 xx33=>by obtain ⟨z',H4,I4,r4,q4⟩:=xx33; exact ho' pins s4 σ H4 y z' u w' Q I4 r2 r4 q4))
theorem pt_chain {op op':CmpOp} {r r':R2} (ho:OpR X (compareOp op) r) (ho':OpR X (compareOp op') r') (ha:PE X a ta) (hb:PE X b tb) (hc:PE X c tc)
 (hm:lastMarks [op,op'] [b,c]=false:=by with_unfolding_all rfl):PT X (.Compare a [op,op'] [b,c] pos) (tTest (tChain r r' ta tb tc)):=by
  intro pins s σ H Q I h
  refine isTrue_chain (thn (ha pins s σ H _ I h) fun v s1 ⟨x,H1,I1,r1,q1⟩=>test_link (thn (hb pins s1 σ H1 _ I1 q1) fun u s2 ⟨y,H2,I2,r2,q2⟩ =>
   thn (ho pins s2 σ H2 x y v u _ I2 r1 r2 q2) fun d s3 ⟨z,H3,I3,r3,k,e,q3⟩=>?_)) hm
  subst e
  cases r3
  refine wpAny_truthy_bool ?_
  cases k with
  | false =>
   obtain ⟨k',e',q'⟩:=q3
   cases e'
   exact ite_ff ⟨H3,I3,q'⟩
  | true =>
   refine ite_tt (test_last (thn (hc pins s3 σ H3 _ I3 q3) fun w' s4 ⟨z',H4,I4,r4,q4⟩=>thn (ho' pins s4 σ H4 y z' u w' _ I4 r2 r4 q4) fun d' s5 xx37=>?_))
   obtain ⟨z2,H5,I5,r5,k2,e2,q5⟩:=xx37
   subst e2
   cases r5
   exact wpAny_truthy_bool ⟨H5,I5,q5⟩
def TruV (K:PySem.W.Frag) (x:V) (H:Hp) (k:Bool):Prop :=
 match x with
 | .non=>k=false
 | .bl b=>k=b
 | .int i=>k=(i != 0)
 | .str y=>y.length≤sizeLine∧k=((y.length:Int) != 0)
 | .byt y=>y.size≤sizeLine∧k=((y.size:Int) != 0)
 | .ref p=>(∃ xs,SqL K H p xs∧k = !xs.isEmpty)∨(∃ xs,SqT K H p xs∧k = !xs.isEmpty) ∨ ∃ kvs,H p=some (.dK kvs)∧k = !kvs.isEmpty
 | _=>False
theorem isEmpty_kv {κ:Type} {kvs:List (κ×V)} {vs:List (κ×Value)} (r:KV kvs vs):(!vs.isEmpty) = !kvs.isEmpty:=by
 cases r <;> rfl
theorem isEmpty_of {xs:List V} {its:List Value} (r:Vals xs its):(!its.toArray.isEmpty) = !xs.isEmpty:=by
 cases r <;> simp
theorem line63:(sizeLine:Nat)<2^63:=by rw [sizeLine_eq]; decide
theorem tru_ok:TruR X (fun x H Q => ∃ k,TruV X.K x H k∧Q k H):=by
 intro pins s σ H x v Q I rx h
 obtain ⟨k,e,q⟩:=h
 have hl:=line63
 have hs:sizeLine=16777216:=sizeLine_eq
 cases x with
 | non =>
  cases rx
  have e':k=false:=e
  subst e'
  exact truthy_none ⟨H,I,q⟩
 | bl b =>
  cases rx
  have e':k=b:=e
  subst e'
  exact wpAny_truthy_bool ⟨H,I,q⟩
 | int i =>
  obtain ⟨t,rfl⟩:=rx
  have e':k=(i != 0):=e
  subst e'
  exact PySem.P.truthy_int ⟨H,I,q⟩
 | str y =>
  obtain ⟨t,rfl⟩:=rx
  obtain ⟨hy,e'⟩:y.length≤sizeLine∧k=((y.length:Int) != 0):=e
  subst e'
  exact PySem.P.truthy_str (by omega) ⟨H,I.tok _,q⟩
 | byt y =>
  obtain ⟨t,rfl⟩:=rx
  obtain ⟨hy,e'⟩:y.size≤sizeLine∧k=((y.size:Int) != 0):=e
  subst e'
  exact PySem.W.truthy_bytes (by omega) ⟨H,I.tok _,q⟩
 | ref p =>
  cases rx
  have e':(∃ xs,SqL X.K H p xs∧k = !xs.isEmpty)∨(∃ xs,SqT X.K H p xs∧k = !xs.isEmpty) ∨ ∃ kvs,H p=some (.dK kvs)∧k = !kvs.isEmpty:=e
  rcases e' with ⟨xs,hx,e'⟩|⟨xs,hx,e'⟩|⟨kvs,hx,e'⟩
  ·subst e'
   obtain ⟨its,r,pl,hz⟩:=I.list hx
   have hlen:=r.length
   exact wpAny_truthy_list pl.isList (by simp only [List.size_toArray]; omega) ⟨H,I.tok _,by rw [isEmpty_of r]; exact q⟩
  ·subst e'
   obtain ⟨its,r,pl,hz⟩:=I.tuple hx
   have hlen:=r.length
   exact truthy_tuple pl (by simp only [List.size_toArray]; omega) ⟨H,I.tok _,by rw [isEmpty_of r]; exact q⟩
  ·subst e'
   obtain ⟨hz,hS,vs,r,m⟩:kvs.length≤sizeLine∧(p==sysModules)=false ∧ ∃ vs,KV kvs vs∧s.heap.DictOf (mixKind X.prog X.w) p vs:=I.hok p _ hx
   have hlen:kvs.length=vs.length:=Paired.length r
   exact wpAny_truthy_dict hS m (by omega) ⟨H,I.tok _,by rw [isEmpty_kv r]; exact q⟩
 | _=>exact (show False from e).elim
theorem pt_truth (ha:PE X a ta) (he : ∀ whole,isTrue a X.env whole=(do let v ← whole; standAt a.pos; holding [v] (truthy v))) :
 PT X a (fun σ H Q=>ta σ H fun x H' => ∃ k,TruV X.K x H' k∧Q k H'):=by
  intro pins s σ H Q I h
  exact isTrue_plain (thn (ha pins s σ H _ I h) fun v s1 xx42=>by obtain ⟨x,H1,I1,r1,q1⟩:=xx42; exact tru_ok pins s1 σ H1 x v Q I1 r1 q1) (he _)
theorem op_add_str:OpR X (binaryOp .Add) (fun x y H Q => ∃ i j,x = .str i∧y = .str j∧i.length+j.length≤sizeLine∧Q (.str (i++j)) H):=by
 intro pins s σ H x y v u Q I rx ry h
 obtain ⟨i,j,rfl,rfl,hz,q⟩:=h
 obtain ⟨t,rfl⟩:=rx
 obtain ⟨t',rfl⟩:=ry
 exact add_str (fun t' tk=>⟨.str (i++j),H,I.tok _,⟨_,rfl⟩,q⟩) hz
theorem vals1 {x:V} {us:List Value} (r:Vals [x] us) : ∃ u,us=[u]∧RelV x u:=by
 cases r with
 | cons r1 r2=>cases r2; exact ⟨_,rfl,r1⟩
theorem vals2 {x y:V} {us:List Value} (r:Vals [x,y] us) : ∃ u w',us=[u,w']∧RelV x u∧RelV y w':=by
 cases r with
 | cons r1 r2 =>
  cases r2 with
  | cons r3 r4=>cases r4; exact ⟨_,_,rfl,r1,r3⟩
theorem call_abs:CallR X (.builtin "abs") (fun xs H Q => ∃ i,xs=[.int i]∧Q (.int (if i<0 then -i else i)) H):=by
 intro pins s σ H xs us Q I r h
 obtain ⟨i,rfl,q⟩:=h
 obtain ⟨u,rfl,t,rfl⟩:=vals1 r
 exact call_abs_int fun u tk=>⟨.int (if i<0 then -i else i),H,I.tok _,⟨_,rfl⟩,q⟩
theorem call_min2 (hc:X.calm=true):CallR X (.builtin "min") (fun xs H Q => ∃ i j,xs=[.int i,.int j]∧Q (.int (if j<i then j else i)) H):=by
 intro pins s σ H xs us Q I r h
 obtain ⟨i,j,rfl,q⟩:=h
 obtain ⟨u,w',rfl,⟨t,rfl⟩,⟨t',rfl⟩⟩:=vals2 r
 refine min_two_ints (I.ok.hd hc) fun h' tk k=>⟨_,H,I.kept k,?_,q⟩
 by_cases hj:j<i
 ·rw [if_pos hj,if_pos hj]; exact ⟨_,rfl⟩
 ·rw [if_neg hj,if_neg hj]; exact ⟨_,rfl⟩
theorem call_int1:CallR X (.type "int") (fun xs H Q=>(∃ i,xs=[.int i]∧Q (.int i) H) ∨ ∃ k,xs=[.bl k]∧Q (.int (if k then 1 else 0)) H):=by
 intro pins s σ H xs us Q I r h
 rcases h with ⟨i,rfl,q⟩|⟨k,rfl,q⟩
 ·obtain ⟨u,rfl,t,rfl⟩:=vals1 r
  exact call_int_int ⟨.int i,H,I,⟨_,rfl⟩,q⟩
 ·obtain ⟨u,rfl,r1⟩:=vals1 r
  cases r1
  exact call_int_bool ⟨.int (if k then 1 else 0),H,I.tok _,⟨_,rfl⟩,q⟩
end
end L2
namespace L2
open PySem PySem.Spec PyProof.Rows
structure ObjM (h:Heap) (x dx C:Addr) (mA:Str→Option Value):Prop where
 obj:h.get? x=some (PySem.W.instObj C dx)
 ns:h.Ns1 dx mA
 ne:dx≠x
theorem lookIn_ns {h:Heap} {dx:Addr} {mA:Str→Option Value} (n:h.Ns1 dx mA) : ∃ od,h.get? dx=some od ∧ ∀ name,PySem.W.lookIn name od=some (mA name):=by
 obtain ⟨o,es,ep,ho,hd,hk,_,hm⟩:=n
 refine ⟨o,ho,fun name=>?_⟩
 have e:=hm name
 unfold nsFind findBy at e
 rw [← Array.find?_toList] at e
 unfold PySem.W.lookIn
 rw [hd]
 dsimp only
 split
 ·rename_i y q
  rw [q] at e
  exact congrArg some e
 ·rename_i q
  rw [q] at e
  have a:es.toList.any (·.refKey)=false:=by
   rw [List.any_eq_false]
   intro y hy
   obtain ⟨z,t,hkey⟩:=hk y (Array.mem_toList_iff.mp hy)
   simp [DictEntry.refKey,hkey]
  have a' : ¬ es.toList.any (·.refKey)=true:=by rw [a]; exact Bool.false_ne_true
  rw [if_neg a']
  exact congrArg some e
theorem ObjM.look {h:Heap} {x dx C:Addr} {mA:Str→Option Value} (I:ObjM h x dx C mA) : ∃ od,PySem.W.InstAt h x (PySem.W.instObj C dx) C (some od) ∧ ∀ name,PySem.W.lookIn name od=some (mA name) :=
 let ⟨od,ho,hl⟩:=lookIn_ns I.ns
 ⟨od,⟨I.obj,rfl,rfl,ho⟩,hl⟩
section
variable {prog:Program} {w:World} {A:Around} {E:Value→Shared→Prop} {s:Shared} {K:PySem.W.Frag} {x dx C f:Addr} {mA:Str→Option Value} {name:Str} {v:Value}
theorem get_map {expr:Bool} {Q:Value→Shared→Prop} (X:K.In s.heap) (I:ObjM s.heap x dx C mA) (hg:PySem.W.plainGet K C name=true) (hh:PySem.W.hasDictIn K C=true)
 (ha:PySem.W.findIn K (.ref C) name=some none) (hv:mA name=some v) (hv':PySem.W.handedIn v=true) (h:Q v { s with toks:=s.toks+1 }) :
  wpAny (model prog w) A (getAttr (.ref x) name expr) Q E s:=by
  obtain ⟨od,J,hl⟩:=I.look
  exact PySem.W.get_value X J (PySem.W.plainGet_of hg).1 (PySem.W.findObj_own hh ha rfl (by rw [hl,hv])) hv' h
theorem get_meth {pl:Sem Bool} {Q:Value×List Value→Shared→Prop} (X:K.In s.heap) (I:ObjM s.heap x dx C mA) (hg:PySem.W.plainGet K C name=true)
 (hf:PySem.W.findIn K (.ref C) name=some (some (.ref f))) (ht:PySem.W.isFn K (.ref f)=true) (hv:mA name=none) (h:Q (.ref f,[.ref x]) s) :
 wpAny (model prog w) A (getMethod (.ref x) name pl) Q E s:=by
  obtain ⟨od,J,hl⟩:=I.look
  exact PySem.W.method_fn X J (PySem.W.plainGet_of hg).1 (PySem.W.plainGet_of hg).2 hf (beq_iff_eq.mp ht) (by show (PySem.W.lookIn name od).map (·.isSome)=some false; rw [hl,hv]; rfl) h
theorem set_map {ns:List Str} {Q:Unit→Shared→Prop} (X:K.In s.heap) (I:ObjM s.heap x dx C mA)
 (hs:PySem.W.findIn K (.ref C) "__setattr__" = some (some (.builtin "object.__setattr__"))) (hp:PySem.W.plainOver K C=true) (ht:PySem.W.takerIn K C name=some none) (hh:PySem.W.hasDictIn K C=true)
 (hw:PySem.Within mA ns) (hsz:ns.length≤sizeLine)
 (h : ∀ h',ObjM h' x dx C (fun y=>if y=name then some v else mA y)→Heap.SameBut dx s.heap h'→Q () { s with heap:=h',toks:=s.toks+2 }) :
  wpAny (model prog w) A (setAttr (.ref x) name v) Q E s:=by
  obtain ⟨od,J,hl⟩:=I.look
  refine PySem.W.set_plain X J hs (PySem.W.osa_open (s:={ s with toks:=s.toks+1 }) (r:=none) X J hp ht fun b=>?_)
  obtain ⟨cd,hc,hd'⟩:=PySem.W.any_some hh
  have hx:s.heap.get? x=some ⟨.ref C,some dx,.plain,#[]⟩:=I.obj
  refine wpAny_bind (wpAny_pure (wpAny_bind (wpAny_bind (wpAny_loadPart hx (wpAny_bind (PySem.W.Looks.here (s:={ s with toks:=s.toks+1 }) (PySem.W.looks_clsIn X hc) ?_))))))
  rw [hd']
  refine wpAny_pure (a:=some dx) (wpAny_bind (wpAny_pure (wpAny_bind ?_)))
  refine wpAny_nsSet1 (s:={ s with toks:=s.toks+1 }) I.ns fun h' hn2 hs2=>?_
  obtain ⟨oD,esD,epD,hoD,hdD,hcD⟩:=hn2.count (PySem.Within.cons name v hw)
  refine wpAny_bind (wpAny_lookBehind hoD (by rw [hdD]; exact pastItsLine_dict (Nat.le_trans hcD (by rw [List.length_cons]; omega))) ?_)
  exact wpAny_pure (h _ ⟨(hs2.2 _ (Ne.symm I.ne)).trans I.obj,hn2,I.ne⟩ hs2)
theorem make_map {R:Result→Shared→Prop} {vs:List Value} {kw:List (Str×Value)} (X:K.In s.heap) (hm:PySem.W.makesIn K C=true)
 (hi:PySem.W.findIn K (.ref C) "__init__" = some (some (.ref f))) (hf:PySem.W.typeIn K (.ref f)=some (.type "function"))
 (h:codeAny (model prog w) (A.under (.builtin "type.__call__" ⟨.ref C::vs,kw⟩)) (.call (.ref f) ⟨.ref (s.heap.objs.size+1)::vs,kw⟩) (PySem.W.InitBack (s.heap.objs.size+1) R)
 { s with heap:=(s.heap.push PySem.W.emptyDict).push (PySem.W.instObj C s.heap.objs.size) }) :
  codeAny (model prog w) A (.call (.ref C) ⟨vs,kw⟩) R s:=by
  obtain ⟨hh,g,d,t,os⟩:=s
  exact PySem.W.make_core (PySem.W.makes_of X hm) (PySem.W.looks_findIn X hi) (fun self=>PySem.W.bind_fn X self hf) (.inl rfl) h
end
def putF (f:Str) (v:V):List (Str×V)→List (Str×V)
 | []=>[(f,v)]
 | (g,x)::r=>if g=f then (g,v)::r else (g,x)::putF f v r
theorem lookup_putF (f g:Str) (v:V) : ∀ fs:List (Str×V),(putF f v fs).lookup g=if g=f then some v else fs.lookup g
 | []=>by
  show List.lookup g [(f,v)]=_
  by_cases h:g=f
  ·have hb:(g==f)=true:=beq_iff_eq.mpr h
   simp only [List.lookup,hb,if_pos h]
  ·have hb:(g==f)=false:=beq_eq_false_iff_ne.mpr h
   simp only [List.lookup,hb,if_neg h]
 | (k,x)::r=>by
  have ih:=lookup_putF f g v r
  rw [show putF f v ((k,x)::r)=(if k=f then (k,v)::r else (k,x)::putF f v r) from rfl]
  by_cases hk:k=f
  ·rw [if_pos hk]
   by_cases h:g=k
   ·have hb:(g==k)=true:=beq_iff_eq.mpr h
    simp only [List.lookup,hb,if_pos (h.trans hk)]
   ·have hb:(g==k)=false:=beq_eq_false_iff_ne.mpr h
    simp only [List.lookup,hb,if_neg (fun e:g=f=>h (e.trans hk.symm))]
  ·rw [if_neg hk]
   by_cases h:g=k
   ·have hb:(g==k)=true:=beq_iff_eq.mpr h
    simp only [List.lookup,hb,if_neg (fun e:g=f=>hk (h.symm.trans e))]
   ·have hb:(g==k)=false:=beq_eq_false_iff_ne.mpr h
    simp only [List.lookup,hb]
    exact ih
theorem keys_putF (f:Str) (v:V) : ∀ fs:List (Str×V),f ∈ (putF f v fs).map (·.1) ∧ ∀ g,g ∈ fs.map (·.1)→g ∈ (putF f v fs).map (·.1)
 | []=>⟨by simp [putF],fun g h=>by simp at h⟩
 | (k,x)::r=>by
  obtain ⟨i1,i2⟩:=keys_putF f v r
  rw [show putF f v ((k,x)::r)=(if k=f then (k,v)::r else (k,x)::putF f v r) from rfl]
  by_cases hk:k=f
  ·rw [if_pos hk]
   subst hk
   exact ⟨by simp,fun g h=>by simpa using h⟩
  ·rw [if_neg hk]
   refine ⟨?_,fun g h=>?_⟩
   ·rw [List.map_cons]
    exact List.mem_cons_of_mem _ i1
   ·rw [List.map_cons] at h ⊢
    rcases List.mem_cons.mp h with e|e
    ·exact List.mem_cons.mpr (.inl e)
    ·exact List.mem_cons_of_mem _ (i2 g e)
theorem length_putF (f:Str) (v:V) : ∀ fs:List (Str×V),(putF f v fs).length≤fs.length+1
 | []=>by simp [putF]
 | (k,x)::r=>by
  have ih:=length_putF f v r
  rw [show putF f v ((k,x)::r)=(if k=f then (k,v)::r else (k,x)::putF f v r) from rfl]
  by_cases hk:k=f
  ·rw [if_pos hk,List.length_cons,List.length_cons]; omega
  ·rw [if_neg hk,List.length_cons,List.length_cons]; omega
theorem RelO.some_of {v:V} {o:Option Value} (r:RelO (some v) o) : ∃ u,o=some u∧RelV v u:=by
 cases o with
 | none=>exact (show False from r).elim
 | some u=>exact ⟨u,rfl,r⟩
theorem RelO.none_of {o:Option Value} (r:RelO none o):o=none:=by
 cases o with
 | none=>rfl
 | some u=>exact (show False from r).elim
theorem handed_of {v:V} {u:Value} (r:RelV v u):PySem.W.handedIn u=true:=by
 cases v with
 | non=>cases (show u=Value.none from r); rfl
 | bl b=>cases (show u=Value.bool b from r); rfl
 | int i=>obtain ⟨t,e⟩:=(show ∃ t,u=Value.int i t from r); cases e; rfl
 | str x=>obtain ⟨t,e⟩:=(show ∃ t,u=Value.str x t from r); cases e; rfl
 | byt b=>obtain ⟨t,e⟩:=(show ∃ t,u=Value.bytes b t from r); cases e; rfl
 | flt b=>obtain ⟨t,e⟩:=(show ∃ t,u=Value.float b t from r); cases e; rfl
 | ref a=>cases (show u=Value.ref a from r); rfl
 | ty n=>cases (show u=Value.type n from r); rfl
section
variable {P:Program} {w:World} {H H':Hp} {h h':Heap} {a C dx:Addr} {fs fs':List (Str×V)}
theorem ins_get (hok:HOk P w H h) (e:H a=some (.ins C dx fs)) : ∃ mA,ObjM h a dx C mA∧(∀ f,RelO (fs.lookup f) (mA f))∧PySem.Within mA (fs.map (·.1))∧fs.length≤1000∧H dx=some (.own a):=by
 obtain ⟨d,z,ne,ob,mA,n,r,q⟩:=(show ObjOk P w H h a (.ins C dx fs) from hok a _ e)
 exact ⟨mA,⟨ob,n,ne⟩,r,q,z,d⟩
end
structure Cls (K:PySem.W.Frag) (C:Addr):Prop where
 pg:PySem.W.plainGet K C Str.empty=true
 hd:PySem.W.hasDictIn K C=true
 po:PySem.W.plainOver K C=true
 sa:PySem.W.findIn K (.ref C) "__setattr__" = some (some (.builtin "object.__setattr__"))
theorem Cls.get {K:PySem.W.Frag} {C:Addr} (c:Cls K C) (f:Str):PySem.W.plainGet K C f=true:=c.pg
def NoAttr (K:PySem.W.Frag) (C:Addr) (f:Str):Prop:=PySem.W.findIn K (.ref C) f=some none
theorem NoAttr.taker {K:PySem.W.Frag} {C:Addr} {f:Str} (n:NoAttr K C f):PySem.W.takerIn K C f=some none:=by
 unfold PySem.W.takerIn
 rw [show PySem.W.findIn K (.ref C) f=some none from n]
 rfl
structure Meth (K:PySem.W.Frag) (C:Addr) (m:Str) (f:Addr):Prop where
 at_:PySem.W.findIn K (.ref C) m=some (some (.ref f))
 fn:PySem.W.isFn K (.ref f)=true
 kp:PySem.W.keepIn K (.ref f)=true
section
variable {X:Cx} {pins:List (Addr×Obj)} {σ:St} {H:Hp} {s:Shared} {a C dx:Addr} {fs:List (Str×V)} {f:Str} {v:V} {A:Around} {E:Value→Shared→Prop}
theorem getattr_ok {b:Bool} {Q:Value→Shared→Prop} (I:Inv X pins σ H s) (e:H a=some (.ins C dx fs)) (c:Cls X.K C) (n:NoAttr X.K C f) (l:fs.lookup f=some v)
 (h : ∀ u s',Inv X pins σ H s'→RelV v u→Q u s'):wpAny (model X.prog X.w) A (getAttr (.ref a) f b) Q E s:=by
  obtain ⟨mA,O,r,_,_,_⟩:=ins_get I.hok e
  obtain ⟨u,hu,ru⟩:=RelO.some_of (v:=v) (o:=mA f) (by rw [← l]; exact r f)
  exact get_map I.kIn O (c.get f) c.hd n hu (handed_of ru) (h u _ (I.tok _) ru)
theorem getmeth_ok {m:Str} {g:Addr} {pl:Sem Bool} {Q:Value×List Value→Shared→Prop} (I:Inv X pins σ H s) (e:H a=some (.ins C dx fs)) (c:Cls X.K C) (k:Meth X.K C m g) (l:fs.lookup m=none)
 (h:Q (.ref g,[.ref a]) s):wpAny (model X.prog X.w) A (getMethod (.ref a) m pl) Q E s:=by
  obtain ⟨mA,O,r,_,_,_⟩:=ins_get I.hok e
  have hn:mA m=none:=RelO.none_of (by rw [← l]; exact r m)
  exact get_meth I.kIn O (c.get m) k.at_ k.fn hn h
theorem setattr_ok {y:V} {u:Value} {Q:Unit→Shared→Prop} (I:Inv X pins σ H s) (e:H a=some (.ins C dx fs)) (c:Cls X.K C) (n:NoAttr X.K C f) (hl:fs.length<1000) (ry:RelV y u)
 (h : ∀ s',Inv X pins σ (upd H a (.ins C dx (putF f y fs))) s'→Q () s'):wpAny (model X.prog X.w) A (setAttr (.ref a) f u) Q E s:=by
  obtain ⟨mA,O,r,wi,_,ho⟩:=ins_get I.hok e
  have hz:(fs.map (·.1)).length≤sizeLine:=by rw [List.length_map,sizeLine_eq]; omega
  refine set_map I.kIn O c.sa c.po n.taker c.hd wi hz fun h' O' sb=>h _ ?_
  have hd : ∃ o,h'.get? dx=some o:=let ⟨o,_,_,e',_⟩:=O'.ns; ⟨o,e'⟩
  refine I.write (x:=a) (e:=dx) (by rw [e]; exact True.intro) (.inr ho) (fun b q hb z=>(sb.2 b hb).trans z) hd ?_
  refine ⟨by rw [upd_ne O.ne]; exact ho,?_,O.ne,O'.obj,_,O'.ns,fun g=>?_,fun g hg=>?_⟩
  ·have:=length_putF f y fs; omega
  ·show RelO ((putF f y fs).lookup g) (if g=f then some u else mA g)
   rw [lookup_putF]
   by_cases q:g=f
   ·rw [if_pos q,if_pos q]; exact ry
   ·rw [if_neg q,if_neg q]; exact r g
  ·by_cases q:g=f
   ·rw [q]; exact (keys_putF f y fs).1
   ·refine (keys_putF f y fs).2 g (wi g fun z=>hg ?_)
    show (if g=f then some u else mA g)=none
    rw [if_neg q]; exact z
theorem Inv.made (I:Inv X pins σ H s):Inv X pins σ (upd (upd H s.heap.objs.size (.own (s.heap.objs.size+1))) (s.heap.objs.size+1) (.ins C s.heap.objs.size []))
 { s with heap:=(s.heap.push PySem.W.emptyDict).push (PySem.W.instObj C s.heap.objs.size) }:=by
  have e1:(s.heap.push PySem.W.emptyDict).get? s.heap.objs.size=some PySem.W.emptyDict:=Heap.get?_push_size s.heap rfl
  have e2:((s.heap.push PySem.W.emptyDict).push (PySem.W.instObj C s.heap.objs.size)).get? (s.heap.objs.size+1)=some (PySem.W.instObj C s.heap.objs.size):=by
   have:=Heap.get?_push_size (s.heap.push PySem.W.emptyDict) (o:=PySem.W.instObj C s.heap.objs.size) rfl
   rwa [Heap.size_push] at this
  have e3:(s.heap.push PySem.W.emptyDict).Ns s.heap.objs.size (fun _=>none):=⟨PySem.W.emptyDict,#[],_,e1,rfl,(fun e he=>absurd he (by simp)),fun _=>rfl⟩
  have I1:=I.laid (a:=s.heap.objs.size) (o :=.own (s.heap.objs.size+1)) (h':=s.heap.push PySem.W.emptyDict) (t':=s.toks) (fun b u q=>Heap.get?_push_of_some _ q) (Nat.le_refl _) ⟨_,e1⟩
  refine I1.laid (a:=s.heap.objs.size+1) (o :=.ins C s.heap.objs.size []) (t':=s.toks) (fun b u q=>Heap.get?_push_of_some _ q) (Nat.le_of_eq (Heap.size_push _ _)) ?_
  have ne:s.heap.objs.size≠s.heap.objs.size+1:=Nat.ne_of_lt (Nat.lt_succ_self _)
  refine ⟨by rw [upd_ne ne,upd_same],Nat.zero_le _,ne,e2,fun _=>none,(Heap.Ns1.of_empty e3).at fun o q=>Heap.get?_push_of_some _ q,fun _=>True.intro,fun y hy=>absurd rfl hy⟩
theorem attr_of {prog:Program} {w:World} {env:Env} {e:Expr} {f:Str} {pos:Pos} {s:Shared} {Q:Value→Shared→Prop} (hb:attributeBase e f env (eval e env)=eval e env)
 (h:wpAny (model prog w) A (eval e env) (fun o s₁=>wpAny (model prog w) A (getAttr o f true) Q E s₁) E s):wpAny (model prog w) A (eval (.Attribute e f pos) env) Q E s :=
  Attribute_any_ h (by rw [arm_eval_Attribute,hb])
end
def tFld (K:PySem.W.Frag) (ta:TE) (f:Str):TE:=fun σ H Q=>ta σ H fun x H1 => ∃ a C dx fs v,x = .ref a∧H1 a=some (.ins C dx fs)∧Cls K C∧NoAttr K C f∧fs.lookup f=some v∧Q v H1
def sFld (K:PySem.W.Frag) (ta tv:TE) (f:Str):TS:=fun D σ H=>tv σ H fun y H1=>ta σ H1 fun x H2 => ∃ a C dx fs,x = .ref a∧H2 a=some (.ins C dx fs)∧Cls K C∧NoAttr K C f∧fs.length<1000 ∧
 D.nx σ (upd H2 a (.ins C dx (putF f y fs)))
section
variable {X:Cx} {o e value:Expr} {f:Str} {pos pos' tpos:Pos} {ta tv:TE}
theorem pe_fld (he:PE X e ta) (hb:attributeBase e f X.env (eval e X.env)=eval e X.env):PE X (.Attribute e f pos) (tFld X.K ta f):=by
 intro pins s σ H Q I h
 refine attr_of hb (thn (he pins s σ H _ I h) fun u s1 xx43=>?_)
 obtain ⟨x,H1,I1,rx,a,C,dx,fs,v,ex,ea,c,n,l,q⟩:=xx43
 subst ex
 obtain rfl:u=Value.ref a:=rx
 exact getattr_ok I1 ea c n l fun u' s2 I2 ru=>⟨v,H1,I2,ru,q⟩
theorem ps_fld (ha:PE X o ta) (hv:PE X value tv) (hs:swapsWith value (some (.Attribute o f pos')) pos.line X.env=pure false):PS X (.Assign [.Attribute o f pos'] value pos) (sFld X.K ta tv f):=by
 intro pins s σ H D I h
 refine plainObj_wpAny_Assign_Attribute (thn (hv pins s σ H _ I h) fun u s1 ⟨y,H1,I1,ry,q⟩=>thn (ha pins s1 σ H1 _ I1 q) fun ov s2 xx44=>?_) hs
 obtain ⟨x,H2,I2,rx,a,C,dx,fs,ex,ea,c,n,l,q2⟩:=xx44
 subst ex
 obtain rfl:ov=Value.ref a:=rx
 exact setattr_ok I2 ea c n l ry fun s3 I3=>⟨σ,_,I3,q2⟩
end
section
variable {X:Cx} {pins:List (Addr×Obj)} {σ:St} {H:Hp} {s:Shared} {A:Around} {E:Value→Shared→Prop} {Q:Value→Shared→Prop} {c:Value} {b:Bool}
end
end L2
namespace L2
open PySem PySem.Spec PyProof.Rows
structure Room (k:Nat) (A:Around):Prop where
 hd:A.handled=none
 dp:A.depth+3*k+5<recursionLimit
 un:A.units+16*k+200<cLine
theorem Room.mono {j k:Nat} {A:Around} (r:Room k A) (h:j≤k):Room j A:=⟨r.hd,by have:=r.dp; omega,by have:=r.un; omega⟩
theorem Room.deeper {k:Nat} {A:Around} (r:Room (k+1) A) (env:Env):Room k (A.deeper env) :=
 ⟨r.hd,by have:=r.dp; show A.depth+1+3*k+5<_; omega,by have:=r.un; show A.units+3+16*k+200<_; omega⟩
theorem make_depth {A:Around} {C:Addr} {us:List Value} {kw:List (Str×Value)}:(A.under (.builtin "type.__call__" ⟨.ref C::us,kw⟩)).depth=A.depth+1:=by
 first|rfl|simp [Around.under,Code.weight,Code.isCreation,Code.isGuard,Code.isCaller,Code.frames,Code.isFrame,guardIds]
theorem make_units {A:Around} {C:Addr} {us:List Value} {kw:List (Str×Value)}:(A.under (.builtin "type.__call__" ⟨.ref C::us,kw⟩)).units=A.units+1:=by
 first|rfl|simp [Around.under,Code.cUnits,Code.frames,Code.isFrame]
theorem Room.make {k:Nat} {A:Around} (r:Room (k+1) A) (C:Addr) (us:List Value) (kw:List (Str×Value)):Room k (A.under (.builtin "type.__call__" ⟨.ref C::us,kw⟩)) :=
 ⟨r.hd,by have:=r.dp; rw [make_depth]; omega,by have:=r.un; rw [make_units]; omega⟩
theorem Room.depth {k:Nat} {A:Around} (r:Room k A):A.depth<recursionLimit:=by have:=r.dp; omega
theorem Room.units {k:Nat} {A:Around} (r:Room k A):A.units+64<cLine:=by have:=r.un; omega
def tNil:TA:=fun _ H Q=>Q [] H
def tCons (ta:TE) (tr:TA):TA:=fun σ H Q=>ta σ H fun x H1=>tr σ H1 fun xs H2=>Q (x::xs) H2
section
variable {X:Cx} {e:Expr} {es:List Expr} {te:TE} {t:TA} {pos:Pos}
theorem pa_nil:PA X [] tNil:=fun _ _ _ _ H Q I h=>Calls.spliced_nil ⟨[],H,I,.nil,h⟩
theorem pa_cons (ha:PE X e te) (hr:PA X es t) (hs:starEach (e::es) X.env=(false,eval e X.env)::starEach es X.env:=by rfl):PA X (e::es) (tCons te t):=by
 intro pos pins s σ H Q I h
 rw [hs]
 show wpAny _ _ (spliced ((false,eval e X.env)::backTo pos (starEach es X.env))) _ _ s
 refine Calls.spliced_cons (thn (ha pins s σ H _ I h) fun u s1 xx47=>?_)
 obtain ⟨x,H1,I1,r1,q1⟩:=xx47
 exact thn (hr pos pins s1 σ H1 _ I1 q1) fun us s2 xx46=>by obtain ⟨xs,H2,I2,r2,q2⟩:=xx46; exact ⟨x::xs,H2,I2,.cons r1 r2,q2⟩
def tTup (t:TA):TE:=fun σ H Q=>t σ H fun xs H1=>xs.length≤sizeLine ∧ ∀ p,H1 p=none→Q (.ref p) (upd H1 p (.tup xs))
def tLst (t:TA):TE:=fun σ H Q=>t σ H fun xs H1=>xs.length≤sizeLine ∧ ∀ p,H1 p=none→Q (.ref p) (upd H1 p (.lst xs))
theorem pe_tup {x1} (h:PA X es t):PE X (.Tuple es x1 pos) (tTup t):=by
 intro pins s σ H Q I hq
 refine wpAny_Tuple_spliced (thn (h pos pins s σ H _ I hq) fun us s1 ⟨xs,H1,I1,r,z,q⟩=>⟨by rw [← r.length]; exact z,?_⟩)
 have hf:H1 s1.heap.objs.size=none:=I1.hok.fresh (Nat.le_refl _)
 refine ⟨.ref s1.heap.objs.size,upd H1 s1.heap.objs.size (.tup xs),I1.laid (t':=s1.toks) (fun b u e=>Heap.get?_push_of_some _ e) (Nat.le_refl _) ?_,rfl,q _ hf⟩
 exact ⟨z,us,r,⟨_,Heap.get?_push_size _ rfl,rfl,_,rfl⟩⟩
theorem pe_lst (h:PA X es t):PE X (.List es pos) (tLst t):=by
 intro pins s σ H Q I hq
 refine wpAny_List_spliced (thn (h pos pins s σ H _ I hq) fun us s1 ⟨xs,H1,I1,r,z,q⟩=>⟨by rw [← r.length]; exact z,?_⟩)
 have hf:H1 s1.heap.objs.size=none:=I1.hok.fresh (Nat.le_refl _)
 refine ⟨.ref s1.heap.objs.size,upd H1 s1.heap.objs.size (.lst xs),I1.laid (t':=s1.toks) (fun b u e=>Heap.get?_push_of_some _ e) (Nat.le_refl _) ?_,rfl,q _ hf⟩
 exact ⟨z,us,0,r,Heap.get?_push_size _ rfl⟩
end
abbrev Sp:=List V→Hp→VK→XK→Prop
abbrev CXT:=List Env→Hp→Shared→XK→Value→Shared→Prop
structure Env0 (P:Program) (w:World) (K:PySem.W.Frag) (mg:Str→Option Value) (base:Heap) (A:Around) (outer:List Env) (s:Shared) (H:Hp):Prop where
 frames:A.frames=some outer
 mod:Mod K mg base
 bs : ∀ b o,base.get? b=some o→s.heap.get? b=some o∧H b=none
 bsz:base.objs.size≤s.heap.objs.size
 funs:s.heap.FunFrames base outer
 frf : ∀ b ∈ frs outer,H b=none
 hok:HOk P w H s.heap
 bare:AllBare s.gens
def CE (outer:List Env) (P:Program) (w:World) (H:Hp) (s:Shared) (Q:VK) (u:Value) (s':Shared):Prop :=
 ∃ v H',s'.os=s.os∧AllBare s'.gens∧Un (frs outer) [] H H' s.heap s'.heap∧HOk P w H' s'.heap∧RelV v u∧Q v H'
def CR (CX:CXT) (outer:List Env) (P:Program) (w:World) (H:Hp) (s:Shared) (Q:VK) (E:XK) (r:Result) (s':Shared):Prop :=
 match r with
 | .ok (.ret u)=>CE outer P w H s Q u s'
 | .ok _=>False
 | .error e=>CX outer H s E e s'
structure FnOk (P:Program) (w:World) (K:PySem.W.Frag) (mg:Str→Option Value) (base:Heap) (CX:CXT) (k:Nat) (f:Addr) (fd:FuncData) (ps:List Str) (sp:Sp):Prop where
 len : ∀ vs H Q E,sp vs H Q E→vs.length=ps.length
 run : ∀ (A:Around) (outer:List Env) (s:Shared) (H:Hp) (args:Args) (us:List Value) (vs:List V) (Q:VK) (E:XK),Room k A→Env0 P w K mg base A outer s H→BindsTo s fd args (ps.zip us)→Vals vs us→sp vs H Q E →
  codeAny (model P w) A (.call (.ref f) args) (CR CX outer P w H s Q E) s
theorem FnOk.imp {P:Program} {w:World} {K:PySem.W.Frag} {mg:Str→Option Value} {base:Heap} {CX:CXT} {k:Nat} {f:Addr} {fd:FuncData} {ps:List Str} {sp sp':Sp} (F:FnOk P w K mg base CX k f fd ps sp)
 (h : ∀ vs H Q E,sp' vs H Q E→sp vs H Q E):FnOk P w K mg base CX k f fd ps sp' :=
  ⟨fun vs H Q E q=>F.len vs H Q E (h _ _ _ _ q),fun A outer s H args us vs Q E hr he hb hv hs=>F.run A outer s H args us vs Q E hr he hb hv (h _ _ _ _ hs)⟩
theorem Env0.make {P:Program} {w:World} {K:PySem.W.Frag} {mg:Str→Option Value} {base:Heap} {A:Around} {outer:List Env} {s:Shared} {H:Hp} (e:Env0 P w K mg base A outer s H) (C:Addr) (us:List Value) (kw:List (Str×Value)) :
 Env0 P w K mg base (A.under (.builtin "type.__call__" ⟨.ref C::us,kw⟩)) outer s H:=⟨by first|exact e.frames|(simpa [Around.under,Code.envs,Code.isFrame,pushEnvs] using e.frames),e.mod,e.bs,e.bsz,e.funs,e.frf,e.hok,e.bare⟩
section
variable {X:Cx} {pins:List (Addr×Obj)} {σ:St} {H:Hp} {s s':Shared}
theorem Inv.env0 (I:Inv X pins σ H s):Env0 X.prog X.w X.K X.mg X.base X.A X.stack s H :=
 ⟨I.ok.frames,I.ok.mod,I.bs,Nat.le_trans I.ok.bsz I.sz,I.stack,I.stkFree,I.hok,I.bare⟩
theorem Inv.after {Q:VK} {u:Value} (I:Inv X pins σ H s) (h:CE X.stack X.prog X.w H s Q u s'):EP X pins σ Q u s':=by
 obtain ⟨v,H',os,bare,un,hok,r,q⟩:=h
 obtain ⟨hh,g,d,t,os'⟩:=s'
 obtain rfl:os'=s.os:=os
 exact ⟨v,H',I.call (h':=hh) (g':=g) (d':=d) (t':=t) (ch:=[]) un hok bare (fun b z=>absurd z (by simp)),r,q⟩
end
def tCall (sp:Sp) (dvs:List V) (E:XK) (t:TA):TE:=fun σ H Q=>t σ H fun vs H1=>sp (vs++dvs) H1 Q E
def tMeth (C:Addr) (m:Str) (sp:Sp) (dvs:List V) (E:XK) (ta:TE) (t:TA):TE:=fun σ H Q=>ta σ H fun x H1 => ∃ a dx fs,x = .ref a∧H1 a=some (.ins C dx fs)∧fs.lookup m=none ∧
 t σ H1 fun vs H2=>sp (x::(vs++dvs)) H2 Q E
def tMake (C:Addr) (sp:Sp) (dvs:List V) (E:XK) (t:TA):TE:=fun σ H Q=>t σ H fun vs H1 => ∀ x dx,H1 x=none→H1 dx=none→dx≠x →
 sp (.ref x::(vs++dvs)) (upd (upd H1 dx (.own x)) x (.ins C dx [])) (fun v H2=>v = .non∧Q (.ref x) H2) E
def Binds (K:PySem.W.Frag) (fd:FuncData) (ps:List Str) (ds:List Value):Prop :=
 ∀ (s:Shared) (us:List Value),K.In s.heap→(us++ds).length=ps.length→BindsTo s fd ⟨us,[]⟩ (ps.zip (us++ds))
theorem Binds.all {K:PySem.W.Frag} {fd:FuncData} {ps:List Str} (h : ∀ us:List Value,us.length=ps.length→bindArgs fd ⟨us,[]⟩=pure (ps.zip us)):Binds K fd ps []:=fun s us _ hl=>by
 rw [List.append_nil] at hl ⊢
 exact .of_eq (h us hl)
def Passes (CX:CXT) (X:Cx) (E:XK):Prop := ∀ (pins:List (Addr×Obj)) (σ:St) (H:Hp) (s:Shared) (e:Value) (s':Shared),Inv X pins σ H s→CX X.stack H s E e s'→X.xe e s'
section
variable {X:Cx} {CX:CXT} {k:Nat} {f C:Addr} {fd:FuncData} {ps:List Str} {sp:Sp} {dvs:List V} {ds:List Value} {E:XK} {x m:Str} {p pos apos:Pos} {e o:Expr} {es:List Expr} {ta:TE} {t:TA}
theorem run_fn {pins:List (Addr×Obj)} {σ:St} {H:Hp} {s:Shared} {Q:VK} {us:List Value} {vs:List V} (F:FnOk X.prog X.w X.K X.mg X.base CX k f fd ps sp) (hr:Room k X.A) (hb:Binds X.K fd ps ds) (hd:Vals dvs ds) (hx:Passes CX X E)
 (I:Inv X pins σ H s) (r:Vals vs us) (h:sp (vs++dvs) H Q E):wpAny (model X.prog X.w) X.A (call (.ref f) us) (EP X pins σ Q) X.xe s:=by
  have r2:Vals (vs++dvs) (us++ds):=r.append hd
  have hl:(us++ds).length=ps.length:=by rw [← r2.length]; exact F.len _ _ _ _ h
  refine wpAny_call (codeAny_mono (F.run X.A X.stack s H ⟨us,[]⟩ (us++ds) (vs++dvs) Q E hr I.env0 (hb s us I.kIn hl) r2 h) fun r s' hq=>?_)
  cases r with
  | error e=>exact hx pins σ H s e s' I hq
  | ok fl =>
   cases fl with
   | ret u=>exact I.after hq
   | next=>exact False.elim hq
   | brk=>exact False.elim hq
   | cont=>exact False.elim hq
theorem pe_call (F:FnOk X.prog X.w X.K X.mg X.base CX k f fd ps sp) (hr:Room k X.A) (hg:Gl X x) (hm:X.mg x=some (.ref f)) (hk:PySem.W.keepIn X.K (.ref f)=true) (hb:Binds X.K fd ps ds) (hd:Vals dvs ds) (hx:Passes CX X E)
 (ha:PA X (e::es) t) (hdb:(x==("__debug__" : Str))=false:=by decide) (he:starEach (e::es) X.env=(false,eval e X.env)::starEach es X.env:=by rfl) (hpl:(backTo pos (starEach es X.env)).any (·.1)=false:=by rfl) :
  PE X (.Call (.Name x p) (e::es) [] pos) (tCall sp dvs E t):=by
  intro pins s σ H Q I h
  refine wpAny_Call_Name_kw (ld_glob I hg hm ?_ hdb)
  refine PySem.W.callWith_K (h₀:=X.base) I.ok.mod.kin hk (thn (ha pos pins s σ H _ I h) fun us s1 ⟨vs,H1,I1,r,q⟩=>⟨I1.kIn,?_⟩) he hpl
  exact run_fn F hr hb hd hx I1 r q
theorem pe_meth {pl:Sem Bool} (he:PE X o ta) (c:Cls X.K C) (hm:Meth X.K C m f) (F:FnOk X.prog X.w X.K X.mg X.base CX k f fd ps sp) (hr:Room k X.A) (hb:Binds X.K fd ps ds) (hd:Vals dvs ds) (hx:Passes CX X E) (ha:PA X (e::es) t)
 (hst:starEach (e::es) X.env=(false,eval e X.env)::starEach es X.env:=by rfl) (hpl:(backTo pos (starEach es X.env)).any (·.1)=false:=by rfl)
  (ht:eval (.Call (.Attribute o m apos) (e::es) [] pos) X.env=(do
   let ov ← eval o X.env
   standAt apos.atName
   let (f,first) ← holding [ov] (getMethod ov m pl)
   callWith pos f first (backTo pos (starEach (e::es) X.env)) (backToKw pos (keywordEach [] X.env))):=by rfl) :
  PE X (.Call (.Attribute o m apos) (e::es) [] pos) (tMeth C m sp dvs E ta t):=by
  intro pins s σ H Q I h
  refine PySem.W.methodCall_KW (pl:=pl) (thn (he pins s σ H _ I h) fun u s1 xx52=>?_) ht
  obtain ⟨x,H1,I1,rx,a,dx,fs,ex,ea,l,q⟩:=xx52
  subst ex
  obtain rfl:u=Value.ref a:=rx
  refine getmeth_ok I1 ea c hm l ?_
  refine PySem.W.callWith_K (first:=[.ref a]) (h₀:=X.base) I.ok.mod.kin hm.kp (thn (ha pos pins s1 σ H1 _ I1 q) fun us s2 ⟨vs,H2,I2,r,q2⟩=>⟨I2.kIn,?_⟩) hst hpl
  exact run_fn (us :=.ref a::us) (vs :=.ref a::vs) F hr hb hd hx I2 (.cons rfl r) q2
theorem pe_meth0 {pl:Sem Bool} (he:PE X o ta) (c:Cls X.K C) (hm:Meth X.K C m f) (F:FnOk X.prog X.w X.K X.mg X.base CX k f fd ps sp) (hr:Room k X.A) (hb:Binds X.K fd ps ds) (hd:Vals dvs ds) (hx:Passes CX X E)
 (ht:eval (.Call (.Attribute o m apos) [] [] pos) X.env=(do
 let ov ← eval o X.env
 standAt apos.atName
 let (f,first) ← holding [ov] (getMethod ov m pl)
 callWith pos f first (backTo pos (starEach [] X.env)) (backToKw pos (keywordEach [] X.env))):=by rfl) :
  PE X (.Call (.Attribute o m apos) [] [] pos) (tMeth C m sp dvs E ta tNil):=by
  intro pins s σ H Q I h
  refine PySem.W.methodCall_KW (pl:=pl) (thn (he pins s σ H _ I h) fun u s1 xx53=>?_) ht
  obtain ⟨x,H1,I1,rx,a,dx,fs,ex,ea,l,q⟩:=xx53
  subst ex
  obtain rfl:u=Value.ref a:=rx
  refine getmeth_ok I1 ea c hm l ?_
  exact PySem.W.callWith_K0 (first:=[.ref a]) I1.kIn hm.kp (run_fn (us:=[.ref a]) (vs:=[.ref a]) F hr hb hd hx I1 (.cons rfl .nil) q)
structure Mk (K:PySem.W.Frag) (C f:Addr):Prop where
 makes:PySem.W.makesIn K C=true
 init:PySem.W.findIn K (.ref C) "__init__" = some (some (.ref f))
 fn:PySem.W.isFn K (.ref f)=true
 kp:PySem.W.keepIn K (.ref C)=true
theorem run_make {pins:List (Addr×Obj)} {σ:St} {H:Hp} {s:Shared} {Q:VK} {us:List Value} {vs:List V} (M:Mk X.K C f) (F:FnOk X.prog X.w X.K X.mg X.base CX k f fd ps sp) (hr:Room (k+1) X.A) (hb:Binds X.K fd ps ds) (hd:Vals dvs ds)
 (hx:Passes CX X E) (I:Inv X pins σ H s) (r:Vals vs us)
 (h : ∀ x dx,H x=none→H dx=none→dx≠x→sp (.ref x::(vs++dvs)) (upd (upd H dx (.own x)) x (.ins C dx [])) (fun v H2=>v = .non∧Q (.ref x) H2) E) :
 wpAny (model X.prog X.w) X.A (call (.ref C) us) (EP X pins σ Q) X.xe s:=by
  have hq:=h (s.heap.objs.size+1) s.heap.objs.size (I.hok.fresh (Nat.le_succ _)) (I.hok.fresh (Nat.le_refl _)) (Nat.ne_of_lt (Nat.lt_succ_self _))
  have I2:=Inv.made (C:=C) I
  have r2:Vals (V.ref (s.heap.objs.size+1)::(vs++dvs)) (Value.ref (s.heap.objs.size+1)::(us++ds)) :=.cons rfl (r.append hd)
  have hl:(Value.ref (s.heap.objs.size+1)::us++ds).length=ps.length:=by
   have e:=r2.length
   rw [F.len _ _ _ _ hq] at e
   exact e.symm
  refine wpAny_call (make_map (f:=f) I.kIn M.makes M.init (beq_iff_eq.mp M.fn) (codeAny_mono (F.run _ X.stack _ _ ⟨Value.ref (s.heap.objs.size+1)::us,[]⟩ (Value.ref (s.heap.objs.size+1)::(us++ds)) _ _ E (hr.make C us [])
   (I2.env0.make C us []) (hb _ (Value.ref (s.heap.objs.size+1)::us) I2.kIn hl) r2 hq) fun r s' hq'=>?_))
  cases r with
  | error e=>exact hx pins σ _ _ e s' I2 hq'
  | ok fl =>
   cases fl with
   | ret u =>
    obtain ⟨v,H',I3,rv,ev,q3⟩:=I2.after hq'
    subst ev
    exact ⟨rv,⟨V.ref (s.heap.objs.size+1),H',I3,rfl,q3⟩⟩
   | next=>exact False.elim hq'
   | brk=>exact False.elim hq'
   | cont=>exact False.elim hq'
theorem pe_make (M:Mk X.K C f) (F:FnOk X.prog X.w X.K X.mg X.base CX k f fd ps sp) (hr:Room (k+1) X.A) (hg:Gl X x) (hm:X.mg x=some (.ref C)) (hb:Binds X.K fd ps ds) (hd:Vals dvs ds) (hx:Passes CX X E)
 (ha:PA X (e::es) t) (hdb:(x==("__debug__" : Str))=false:=by decide) (he:starEach (e::es) X.env=(false,eval e X.env)::starEach es X.env:=by rfl) (hpl:(backTo pos (starEach es X.env)).any (·.1)=false:=by rfl) :
  PE X (.Call (.Name x p) (e::es) [] pos) (tMake C sp dvs E t):=by
  intro pins s σ H Q I h
  refine wpAny_Call_Name_kw (ld_glob I hg hm ?_ hdb)
  refine PySem.W.callWith_K (h₀:=X.base) I.ok.mod.kin M.kp (thn (ha pos pins s σ H _ I h) fun us s1 ⟨vs,H1,I1,r,q⟩=>⟨I1.kIn,?_⟩) he hpl
  exact run_make M F hr hb hd hx I1 r q
end
section
variable {X:Cx} {CX:CXT} {k:Nat} {f C:Addr} {fd:FuncData} {ps ks:List Str} {sp:Sp} {E:XK} {x m:Str} {p pos apos kpos:Pos} {e o:Expr} {es:List Expr} {kws:List Keyword} {te ta:TE} {t tk:TA} {nm:Option Str}
variable {g:List Value→List Value→List Value} {gV:List V→List V→List V}
end
structure FnScope (N P:List Str) (sc:Scope):Prop where
 kind:sc.kind = .function
 co:sc.isCoroutine=false
 gen:sc.isGenerator=false
 nd:N.Nodup
 pre:N.take P.length=P
 par : ∀ x ∈ P,sc.names.lookup x=some .local∨sc.names.lookup x=some .cell
 nofree : ∀ y ∈ sc.names,y.2 ≠ .free
theorem bindL_out {kindOf:Str→Option NameKind} {x:Str} : ∀ {binds:List (Str×Value)} {m:Str→Option Value},(∀ v,(x,v) ∉ binds)→bindL kindOf binds m x=m x
 | [],_,_=>rfl
 | (n,v)::r,m,h=>by
  unfold bindL
  rw [bindL_out fun w hw=>h w (List.mem_cons_of_mem _ hw)]
  split
  ·have:x≠n:=by rintro rfl; exact h v List.mem_cons_self
   simp [this]
  ·rfl
theorem bindC_out {kindOf:Str→Option NameKind} {x:Str} : ∀ {binds:List (Str×Value)} {m:Str→Option Value},(∀ v,(x,v) ∉ binds)→bindC kindOf binds m x=m x
 | [],_,_=>rfl
 | (n,v)::r,m,h=>by
  unfold bindC
  rw [bindC_out fun w hw=>h w (List.mem_cons_of_mem _ hw)]
  split
  ·rfl
  ·have:x≠n:=by rintro rfl; exact h v List.mem_cons_self
   simp [this]
theorem bindL_get {kindOf:Str→Option NameKind} {x:Str} {v:Value} : ∀ {P:List Str} {vs:List Value} {i:Nat} {m:Str→Option Value},P.Nodup→P[i]?=some x→vs[i]?=some v→kindOf x=some .local →
 bindL kindOf (P.zip vs) m x=some v
  | [],_,_,_,_,h,_,_=>by simp at h
  | _::_,[],_,_,_,_,h,_=>by simp at h
  | p::P,w::vs,0,m,nd,h1,h2,hk=>by
   simp at h1 h2; subst h1; subst h2
   show bindL kindOf ((p,w)::P.zip vs) m p=_
   unfold bindL
   rw [bindL_out fun v hv=>(List.nodup_cons.mp nd).1 (List.of_mem_zip hv).1,if_pos hk]
   simp
  | p::P,w::vs,i+1,m,nd,h1,h2,hk=>by
   show bindL kindOf ((p,w)::P.zip vs) m x=_
   unfold bindL
   exact bindL_get (i:=i) (List.nodup_cons.mp nd).2 (by simpa using h1) (by simpa using h2) hk
theorem bindC_get {kindOf:Str→Option NameKind} {x:Str} {v:Value} : ∀ {P:List Str} {vs:List Value} {i:Nat} {m:Str→Option Value},P.Nodup→P[i]?=some x→vs[i]?=some v→kindOf x≠some .local →
 bindC kindOf (P.zip vs) m x=some v
  | [],_,_,_,_,h,_,_=>by simp at h
  | _::_,[],_,_,_,_,h,_=>by simp at h
  | p::P,w::vs,0,m,nd,h1,h2,hk=>by
   simp at h1 h2; subst h1; subst h2
   show bindC kindOf ((p,w)::P.zip vs) m p=_
   unfold bindC
   rw [bindC_out fun v hv=>(List.nodup_cons.mp nd).1 (List.of_mem_zip hv).1,if_neg hk]
   simp
  | p::P,w::vs,i+1,m,nd,h1,h2,hk=>by
   show bindC kindOf ((p,w)::P.zip vs) m x=_
   unfold bindC
   exact bindC_get (i:=i) (List.nodup_cons.mp nd).2 (by simpa using h1) (by simpa using h2) hk
def start (N:List Str) (vs:List V):St:=vs.map some++List.replicate (N.length-vs.length) none
def cxOf (CX:CXT) (P:Program) (w:World) (K:PySem.W.Frag) (mg:Str→Option Value) (base:Heap) (N:List Str) (qual:Str) (scope:Scope) (f:Addr) (cd:Value) (A:Around) (outer:List Env) (s:Shared) (H:Hp) (E:XK):Cx where
 prog:=P
 w:=w
 K:=K
 mg:=mg
 base:=base
 A:=A.deeper (envOfC qual scope s.heap.objs.size f cd)
 N:=N
 s₀:=s
 H₀:=H
 env:=envOfC qual scope s.heap.objs.size f cd
 outer:=outer
 stack:=envOfC qual scope s.heap.objs.size f cd::outer
 ex:=[]
 calm:=true
 fn:=fun _=>true
 pn:=[]
 xe:=fun e s'=>wpAny (model P w) (A.deeper (envOfC qual scope s.heap.objs.size f cd)) (leaving (envOfC qual scope s.heap.objs.size f cd) e) (fun _ s''=>CX outer H s E e s'') (fun e' s''=>CX outer H s E e' s'') s'
theorem cell_has {sc:Scope} {n:Nat} {x:Str} (h:sc.names.lookup x=some .cell) : ∃ c,(cellsFrom n sc.names []).lookup x=some c:=by
 have q:=PySem.W.cellsFrom_some sc.names n [] (.inl h)
 exact Option.isSome_iff_exists.mp q
theorem inv_start {CX:CXT} {P:Program} {w:World} {K:PySem.W.Frag} {mg:Str→Option Value} {base:Heap} {N ps:List Str} {qual:Str} {scope:Scope} {f:Addr} {cd:Value} {A:Around} {outer:List Env} {s s1:Shared} {H:Hp} {E:XK} {us:List Value} {vs:List V}
 (S:FnScope N ps scope) (hd:A.handled=none) (e0:Env0 P w K mg base A outer s H) (hl:vs.length=ps.length) (r:Vals vs us)
 (x:InCallC s s.heap.objs.size (bindL (envOfC qual scope s.heap.objs.size f cd).kindOf (ps.zip us) fun _=>none) (cellsFrom (s.heap.objs.size+1) scope.names []) (bindC (envOfC qual scope s.heap.objs.size f cd).kindOf (ps.zip us) fun _=>none) s1) :
 Inv (cxOf CX P w K mg base N qual scope f cd A outer s H E) [] (start N vs) H s1:=by
  have hpl:ps.length≤N.length:=by have:=congrArg List.length S.pre; rw [List.length_take] at this; omega
  obtain ⟨h1,tk,rfl,hk⟩:=x.done
  have noA : ∀ b:Addr,b ∉ (cxOf CX P w K mg base N qual scope f cd A outer s H E).ex:=fun b z=>absurd (show b ∈ ([]:List Addr) from z) (by simp)
  refine ⟨⟨e0.mod,S.kind,rfl,rfl,Nat.le_refl _,fun y z c h1 h2=>?_,fun y hy=>?_,fun y c _ h=>?_,fun _=>hd,Around.frames_deeper e0.frames,.inr ⟨rfl,rfl⟩,fun b z=>absurd z (noA b),e0.bs,e0.bsz,fun b _ _=>noA b,fun b z=>absurd z (noA b),e0.funs,e0.frf⟩,
   rfl,e0.bare,Un.kept hk,⟨_,x.toInCall.ns,fun i y v h1 h2 h3=>?_⟩,fun y c h=>⟨_,x.cell y c h⟩,e0.hok.fresh (Nat.le_refl _),fun y c h=>?_,fun p hp=>absurd (show p ∈ ([]:List (Addr×Obj)) from hp) (by simp),e0.hok.kept hk,?_⟩
  ·exact name_of_addr x.apart (PySem.mem_of_lookup h1) (PySem.mem_of_lookup h2)
  ·have hy:scope.names.lookup y=some .cell∨scope.names.lookup y=some .free:=hy
   rcases hy with hy|hy
   ·exact cell_has hy
   ·exact absurd rfl (S.nofree _ (PySem.mem_of_lookup hy))
  ·exact Nat.le_of_lt (x.above y c (PySem.mem_of_lookup h))
  ·have hi:i<vs.length:=by
    unfold start at h2
    by_cases hi:i<vs.length
    ·exact hi
    ·rw [List.getElem?_append_right (by simpa using hi)] at h2
     rw [List.getElem?_replicate] at h2
     split at h2 <;> cases h2
   have ha:vs[i]?=some v:=by
    unfold start at h2
    rw [List.getElem?_append_left (by simpa using hi),List.getElem?_map] at h2
    cases e:vs[i]? with
    | none=>rw [e] at h2; cases h2
    | some a=>rw [e] at h2; cases h2; rfl
   obtain ⟨u,hu,rv⟩:=r.get ha
   have hp:ps[i]?=some y:=by
    rw [← S.pre,List.getElem?_take_of_lt (by omega)]; exact h1
   have ndP:ps.Nodup:=by rw [← S.pre]; exact S.nd.sublist (List.take_sublist _ _)
   refine ⟨u,rv,?_⟩
   rcases S.par y (List.mem_of_getElem? hp) with k|k
   ·exact .inl ⟨k,bindL_get ndP hp hu k⟩
   ·obtain ⟨c,e⟩:=cell_has (n:=s.heap.objs.size+1) k
    refine .inr ⟨.inl k,c,e,?_⟩
    have q:=x.cell y c e
    rw [bindC_get ndP hp hu (by show scope.names.lookup y≠_; rw [k]; decide)] at q
    exact q
  ·exact e0.hok.fresh (Nat.le_of_lt (x.above y c (PySem.mem_of_lookup h)))
  ·unfold start
   show _=N.length
   rw [List.length_append,List.length_map,List.length_replicate]
   omega
theorem fn_of {CX:CXT} {P:Program} {w:World} {K:PySem.W.Frag} {mg:Str→Option Value} {base:Heap} {k:Nat} {f:Addr} {name qual:Str} {params:Arguments} {body:List Stmt} {scope:Scope} {dV kV doc pm cdv ct oc:Value} {an od:Option Addr}
 {osl:Array (Option Value)} {N ps:List Str} {sp:Sp} (lk:K.lookup f=some ⟨oc,od,.func (PySem.W.fnOf name qual params body scope dV kV doc pm an cdv ct),osl⟩) (hcd:PySem.W.codeIn K cdv qual=true) (S:FnScope N ps scope)
 (len : ∀ vs H Q E,sp vs H Q E→vs.length=ps.length)
 (hbody : ∀ (A:Around) (outer:List Env) (s:Shared) (H:Hp) (vs:List V) (Q:VK) (E:XK),Room k (A.deeper (envOfC qual scope s.heap.objs.size f cdv))→sp vs H Q E →
 ∃ t,PSs (cxOf CX P w K mg base N qual scope f cdv A outer s H E) body t∧t { nx:=fun _ H'=>Q .non H',rt:=Q } (start N vs) H) :
  FnOk P w K mg base CX (k+1) f (PySem.W.fnOf name qual params body scope dV kV doc pm an cdv ct) ps sp:=by
  refine ⟨len,fun A outer s H args us vs Q E hr e0 hb r hsp=>?_⟩
  have hl:=len _ _ _ _ hsp
  have KX:K.In s.heap:=e0.mod.kin.keeps fun b o e=>(e0.bs b o e).1
  have lim:s.heap.NoLimit:=e0.mod.nolimit.keeps fun b o e=>(e0.bs b o e).1
  have hkind : ∀ y ∈ ps.zip us,scope.names.lookup y.1=some .local∨(scope.names.lookup y.1=some .cell∧((cellsFrom (s.heap.objs.size+1) scope.names []).lookup y.1).isSome=true):=fun xx55 hy=>by
   obtain ⟨n,v⟩:=xx55
   rcases S.par n (List.of_mem_zip hy).1 with q|q
   ·exact .inl q
   ·exact .inr ⟨q,PySem.W.cellsFrom_some _ _ _ (.inl q)⟩
  refine codeAny_call_function hr.depth (KX _ _ lk) rfl S.co S.gen rfl (PySem.W.codeRec_of KX hcd) (hb _ _ _ _ ?_)
  refine wpAny_newFunctionEnv_cells S.kind hkind fun env he s1 x=>?_
  subst he
  refine ⟨lim.keeps x.toInCall.keep,codeAny_func ?_⟩
  obtain ⟨t,ht,hq⟩:=hbody A outer s H vs Q E (hr.deeper _) hsp
  have I:Inv (cxOf CX P w K mg base N qual scope f cdv A outer s H E) [] (start N vs) H s1:=inv_start S hr.hd e0 hl r x
  refine wpAny_mono (ht [] s1 (start N vs) H _ I hq) (fun fl s' hs=>?_) fun e s' hs=>hs
  have fin : ∀ {σ':St} {H':Hp} {v:V} {u:Value},Inv (cxOf CX P w K mg base N qual scope f cdv A outer s H E) [] σ' H' s'→RelV v u→Q v H'→CE outer P w H s Q u s' :=
   fun {σ' H' v u} J rv q=>⟨v,H',J.os,J.bare,J.base,J.hok,rv,q⟩
  cases fl with
  | ret u =>
   obtain ⟨v,σ',H',J,rv,q⟩:=hs
   exact fin J rv q
  | next =>
   obtain ⟨σ',H',J,q⟩:=hs
   exact fin (v:=V.non) (u:=Value.none) J rfl q
  | brk =>
   obtain ⟨_,_,_,q⟩:=hs
   exact False.elim q
  | cont =>
   obtain ⟨_,_,_,q⟩:=hs
   exact False.elim q
end L2
namespace L2
open PySem PySem.Spec PyProof.Rows
section
variable {X:Cx} {x:Str} {p pos:Pos} {e:Expr} {es:List Expr} {t:TA} {id T:String} {r:List V→Hp→VK→Prop}
def tCB (r:List V→Hp→VK→Prop) (t:TA):TE:=fun σ H Q=>t σ H fun vs H1=>r vs H1 Q
theorem pe_callB (hc:CallR X (.builtin id) r) (hg:Gl X x) (hm:X.mg x=none) (hv:bootBuiltins x=some (.builtin id)) (ha:PA X (e::es) t) (hn:x ≠ "__name__":=by decide) (hdb:(x==("__debug__" : Str))=false:=by decide)
 (he:starEach (e::es) X.env=(false,eval e X.env)::starEach es X.env:=by rfl) (hpl:(backTo pos (starEach es X.env)).any (·.1)=false:=by rfl):PE X (.Call (.Name x p) (e::es) [] pos) (tCB r t):=by
 intro pins s σ H Q I h
 refine wpAny_Call_Name_kw (ld_blt I hg hm hv ?_ hn hdb)
 exact PyProof.Rows.callWith_builtin1 (thn (ha pos pins s σ H _ I h) fun us s1 xx56=>by obtain ⟨vs,H1,I1,r1,q1⟩:=xx56; exact hc pins s1 σ H1 vs us Q I1 r1 q1) he hpl
theorem pe_callTy (hc:CallR X (.type T) r) (hg:Gl X x) (hm:X.mg x=none) (hv:bootBuiltins x=some (.type T)) (ha:PA X (e::es) t) (hn:x ≠ "__name__":=by decide) (hdb:(x==("__debug__" : Str))=false:=by decide)
 (he:starEach (e::es) X.env=(false,eval e X.env)::starEach es X.env:=by rfl) (hpl:(backTo pos (starEach es X.env)).any (·.1)=false:=by rfl):PE X (.Call (.Name x p) (e::es) [] pos) (tCB r t):=by
 intro pins s σ H Q I h
 refine wpAny_Call_Name_kw (ld_blt I hg hm hv ?_ hn hdb)
 exact PyProof.Rows.callWith_type1 (thn (ha pos pins s σ H _ I h) fun us s1 xx57=>by obtain ⟨vs,H1,I1,r1,q1⟩:=xx57; exact hc pins s1 σ H1 vs us Q I1 r1 q1) he hpl
end
end L2
namespace HT
open PySem PyProof.Rows
section
open PySem.SeqAt
open PySem.AutoSeq1 (wpAny_loadPart')
open PySem.MeetsSeq PySem.MeetsSeq2 PySem.MeetsSeq3
end
section
variable {prog:Program} {w:World} {A:Around} {E:Value→Shared→Prop} {s:Shared}
theorem cat_tup {t b:Addr} {vs ws:List Value} {Q:Value→Shared→Prop} (ht:IsTup s.heap t vs.toArray) (hb:IsTup s.heap b ws.toArray) (hv:vs≠[])
 (h1:ws=[]→Q (.ref t) s) (h2:ws≠[]→Q (.ref s.heap.objs.size) { s with heap:=s.heap.push { cls :=.type "tuple",data :=.seq (vs++ws).toArray } })
  (hsz:vs.length+ws.length≤sizeLine):wpAny (model prog w) A (binaryOp .Add (.ref t) (.ref b)) Q E s:=by
  obtain ⟨⟨cls,dd,data,sl⟩,ho,hc,n,hd⟩:=id ht
  obtain ⟨⟨cls2,dd2,data2,sl2⟩,ho2,hc2,n2,hd2⟩:=id hb
  simp only at hc hd hc2 hd2
  subst hc hd hc2 hd2
  have e:vs.toArray++ws.toArray=(vs++ws).toArray:=by simp
  by_cases hw:ws=[]
  ·exact concat_meets ⟨_,ho,rfl⟩ ⟨_,ho2,rfl⟩ noFill_tuple_add seq_tuple_add PySem.F.slot_tuple_add PySem.F.entry_tuple_add (PySem.F.args_tuple_add_2 _ _)
    (tuple_addW1 t b vs.toArray ws.toArray n n2 dd dd2 sl sl2 (by simpa using hv) (by simp [hw])) ⟨ho,ho2,h1 hw⟩
  ·refine concat_meets ⟨_,ho,rfl⟩ ⟨_,ho2,rfl⟩ noFill_tuple_add seq_tuple_add PySem.F.slot_tuple_add PySem.F.entry_tuple_add (PySem.F.args_tuple_add_2 _ _)
    (tuple_addW2 t b vs.toArray ws.toArray n n2 dd dd2 sl sl2 (by simpa using hv) (by simpa using hw) (by rw [List.size_toArray,List.size_toArray]; exact hsz)) ⟨ho,ho2,?_⟩
   rw [e]
   exact h2 hw
def sIx (n d:Nat):Option Int→Nat
 | none=>d
 | some v=>if v<0 then (v+(n:Int)).toNat else min v.toNat n
theorem sIx_none (n d:Nat):sIx n d none=d:=rfl
theorem sIx_nat (n d k:Nat):sIx n d (some (k:Int))=min k n:=by
 show (if (k:Int)<0 then ((k:Int)+(n:Int)).toNat else min (k:Int).toNat n)=min k n
 rw [if_neg (by omega),Int.toNat_natCast]
end
end HT
namespace L2
open PySem PySem.Spec PyProof.Rows
abbrev TO:=St→Hp→(Option Int→Hp→Prop)→Prop
def PO (X:Cx) (e:Option Expr) (t:TO):Prop :=
 ∀ (pins:List (Addr×Obj)) (s:Shared) (σ:St) (H:Hp) (Q:Option Int→Hp→Prop),Inv X pins σ H s→t σ H Q →
  wpAny (model X.prog X.w) X.A (evalPart e X.env) (fun u s' => ∃ o H',Inv X pins σ H' s'∧IsPart u o∧Q o H') X.xe s
def tNoPart:TO:=fun _ H Q=>Q none H
def tPart (t:TE):TO:=fun σ H Q=>t σ H fun x H1 => ∃ i,x = .int i∧Q (some i) H1
theorem intsAre_of {ns:List Int} : ∀ {us:List Value},Vals (ns.map V.int) us→IntsAre us ns:=by
 induction ns with
 | nil=>intro us r; rw [List.map_nil] at r; cases r; exact .nil
 | cons n ns ih =>
  intro us r
  rw [List.map_cons] at r
  cases r with
  | cons r1 r2 =>
   obtain ⟨t,e⟩:=r1
   subst e
   exact .cons n t (ih r2)
section
variable {X:Cx} {e:Expr} {te:TE} {lo hi:Option Expr} {tl th:TO} {pos p2:Pos}
theorem po_none:PO X none tNoPart:=by
 intro pins s σ H Q I h
 rw [evalPart_none]
 exact wpAny_pure ⟨none,H,I,.none,h⟩
theorem po_some (h:PE X e te):PO X (some e) (tPart te):=by
 intro pins s σ H Q I hw
 rw [evalPart_some]
 refine thn (h pins s σ H _ I hw) fun u s1 xx58=>?_
 obtain ⟨x,H1,I1,r1,q1⟩:=xx58
 obtain ⟨i,rfl,q⟩:=q1
 obtain ⟨t,rfl⟩:=r1
 exact ⟨some i,H1,I1,.int i t,q⟩
def SlR (X:Cx) (r:V→Option Int→Option Int→Hp→VK→Prop):Prop :=
 ∀ (pins:List (Addr×Obj)) (s:Shared) (σ:St) (H:Hp) (x:V) (v vl vu:Value) (lo hi:Option Int) (sl:Addr) (Q:VK),Inv X pins σ H s→RelV x v→s.heap.IsSliceOf sl vl vu .none→IsPart vl lo→IsPart vu hi→r x lo hi H Q →
  ∃ T id,typeLookup (.type T) "__getitem__" = pure (some (.builtin id))∧s.TypeIs v T∧wpAny (model X.prog X.w) X.A (getItem v (.ref sl)) (EP X pins σ Q) X.xe s
def tSl (r:V→Option Int→Option Int→Hp→VK→Prop) (te:TE) (tl th:TO):TE:=fun σ H Q=>te σ H fun x H1=>tl σ H1 fun l H2=>th σ H2 fun u H3=>r x l u H3 Q
theorem pe_slice {r:V→Option Int→Option Int→Hp→VK→Prop} (hr:SlR X r) (he:PE X e te) (hl:PO X lo tl) (hu:PO X hi th):PE X (.Subscript e (.Slice lo hi none p2) pos) (tSl r te tl th):=by
 intro pins s σ H Q I h
 refine Subscript_ (thn (he pins s σ H _ I h) fun v s1 xx61=>?_)
 obtain ⟨x,H1,I1,r1,q1⟩:=xx61
 refine wpAny_Slice (thn (hl pins s1 σ H1 _ I1 q1) fun vl s2 ⟨l,H2,I2,pl,q2⟩=>thn (hu pins s2 σ H2 _ I2 q2) fun vu s3 xx59=>?_)
 obtain ⟨u,H3,I3,pu,q3⟩:=xx59
 rw [evalPart_none]
 refine wpAny_pure ?_
 have I4:Inv X pins σ H3 { s3 with heap:=s3.heap.push { cls :=.type "slice",data :=.fields #[vl,vu,.none] } }:=I3.kept (t':=s3.toks) fun b ob q=>Heap.get?_push_of_some _ q
 obtain ⟨T,id,hT,ht,hg⟩:=hr pins { s3 with heap:=s3.heap.push { cls :=.type "slice",data :=.fields #[vl,vu,.none] } } σ H3 x v vl vu l u s3.heap.objs.size Q I4 r1 (Heap.IsSliceOf.new ..) pl pu q3
 show wpAny (model X.prog X.w) X.A (subscriptTail e (.Slice lo hi none p2) v (.ref s3.heap.objs.size)) (EP X pins σ Q) X.xe { s3 with heap:=s3.heap.push { cls :=.type "slice",data :=.fields #[vl,vu,.none] } }
 exact tail_any (ops:=[.ref s3.heap.objs.size,v]) ht hT hg (by with_unfolding_all rfl)
def cutV (xs:List V) (lo hi:Option Int):List V:=(xs.drop (HT.sIx xs.length 0 lo)).take (HT.sIx xs.length xs.length hi-HT.sIx xs.length 0 lo)
theorem cutV_length (xs:List V) (lo hi:Option Int):(cutV xs lo hi).length≤xs.length:=by
 unfold cutV
 rw [List.length_take,List.length_drop]
 omega
def rCatT (K:PySem.W.Frag):R2:=fun x y H Q => ∃ a b xs ys,x = .ref a∧y = .ref b∧SqT K H a xs∧SqT K H b ys∧xs≠[]∧xs.length+ys.length≤sizeLine ∧
 (ys=[]→Q (.ref a) H)∧(ys≠[] → ∀ p,H p=none→Q (.ref p) (upd H p (.tup (xs++ys))))
theorem Vals.nil_iff {xs:List V} {us:List Value} (r:Vals xs us):us=[]↔xs=[]:=by
 cases r with
 | nil=>simp
 | cons _ _=>simp
theorem op_catT:OpR X (binaryOp .Add) (rCatT X.K):=by
 intro pins s σ H x y v u Q I rx ry h
 obtain ⟨a,b,xs,ys,rfl,rfl,ha,hb,hx,hz,q1,q2⟩:=h
 cases rx
 cases ry
 obtain ⟨its,r1,p1,_⟩:=I.tuple ha
 obtain ⟨its2,r2,p2,_⟩:=I.tuple hb
 refine HT.cat_tup p1 p2 (fun z=>hx (r1.nil_iff.mp z)) (fun z=>⟨.ref a,H,I,rfl,q1 (r2.nil_iff.mp z)⟩) (fun z=>?_) (by rw [← r1.length,← r2.length]; exact hz)
 refine ⟨.ref s.heap.objs.size,_,I.laid (t':=s.toks) (o :=.tup (xs++ys)) (fun b ob q=>Heap.get?_push_of_some _ q) (Nat.le_refl _) ?_,rfl,q2 (fun w=>z (r2.nil_iff.mpr w)) _ (I.hok.fresh (Nat.le_refl _))⟩
 exact ⟨by rw [List.length_append]; exact hz,_,r1.append r2,IsTup.new _ _⟩
end
end L2
namespace L2
open PySem PySem.Spec PyProof.Rows
def ixN (n:Nat) (i:Int):Option Nat:=if 0≤i then (if i<n then some i.toNat else none) else if -(n:Int)≤i then some (i+n).toNat else none
def atI {α:Type} (xs:List α) (i:Int):Option α:=(ixN xs.length i).bind fun j=>xs[j]?
theorem ixN_seq {n:Nat} {i:Int} {j:Nat} (h:ixN n i=some j):seqIndex? i n=some j∧j<n ∧ -(n:Int)≤i∧i<n:=by
 unfold ixN at h
 by_cases h0:0≤i
 ·rw [if_pos h0] at h
  by_cases h1:i<n
  ·rw [if_pos h1] at h
   have e:i.toNat=j:=Option.some.inj h
   exact ⟨by rw [seqIndex_of h0 h1,e],by omega,by omega,h1⟩
  ·rw [if_neg h1] at h; cases h
 ·rw [if_neg h0] at h
  by_cases h1 : -(n:Int)≤i
  ·rw [if_pos h1] at h
   have e:(i+n).toNat=j:=Option.some.inj h
   exact ⟨by rw [seqIndex_neg (by omega) h1,e],by omega,h1,by omega⟩
  ·rw [if_neg h1] at h; cases h
theorem atI_get {α:Type} {xs:List α} {i:Int} {v:α} (h:atI xs i=some v) : ∃ j,seqIndex? i xs.length=some j∧xs[j]?=some v∧j<xs.length ∧ -(xs.length:Int)≤i∧i<xs.length:=by
 unfold atI at h
 cases e:ixN xs.length i with
 | none=>rw [e] at h; cases h
 | some j =>
  rw [e] at h
  obtain ⟨h1,h2,h3,h4⟩:=ixN_seq e
  exact ⟨j,h1,h,h2,h3,h4⟩
theorem atI_nat {α:Type} {xs:List α} {j:Nat} {v:α} (h:xs[j]?=some v):atI xs (j:Int)=some v:=by
 have hj:j<xs.length:=(List.getElem?_eq_some_iff.mp h).1
 have e:ixN xs.length (j:Int)=some j:=by
  unfold ixN
  rw [if_pos (by omega),if_pos (by omega)]; simp
 unfold atI; rw [e]; exact h
theorem atI_last {α:Type} (xs:List α) (v:α):atI (xs++[v]) (-1)=some v:=by
 have hl:(xs++[v]).length=xs.length+1:=by simp
 have e:ixN (xs++[v]).length (-1)=some xs.length:=by
  unfold ixN
  rw [hl,if_neg (by decide),if_pos (by omega)]
  congr 1
  omega
 unfold atI
 rw [e]
 show (xs++[v])[xs.length]?=some v
 simp
def PlainIx (b:Expr):Prop := ∀ o i,subscripted b false o i=operate [o,i] (getItem o i)
def IxR (X:Cx) (r:R2):Prop :=
 ∀ (value slice:Expr) (pins:List (Addr×Obj)) (s:Shared) (σ:St) (H:Hp) (x y:V) (v u:Value) (Q:VK),Inv X pins σ H s→RelV x v→RelV y u→r x y H Q →
  subscripted slice false v u=operate [v,u] (getItem v u)→wpAny (model X.prog X.w) X.A (subscriptTail value slice v u) (EP X pins σ Q) X.xe s
def MtR (X:Cx) (id:String) (r:V→List V→Hp→VK→Prop):Prop :=
 ∀ (pins:List (Addr×Obj)) (s:Shared) (σ:St) (H:Hp) (x:V) (xs:List V) (v:Value) (us:List Value) (Q:VK),Inv X pins σ H s→RelV x v→Vals xs us→r x xs H Q →
  wpAny (model X.prog X.w) X.A (call (.builtin id) (v::us)) (EP X pins σ Q) X.xe s
section
variable {X:Cx} {a b:Expr} {ta tb:TE} {pos:Pos}
theorem IxR.or {r r':R2} (h:IxR X r) (h':IxR X r'):IxR X (fun x y H Q=>r x y H Q∨r' x y H Q):=by
 intro value slice pins s σ H x y v u Q I rx ry q hs
 rcases q with q|q
 ·exact h value slice pins s σ H x y v u Q I rx ry q hs
 ·exact h' value slice pins s σ H x y v u Q I rx ry q hs
theorem pe_ix {r:R2} (hr:IxR X r) (ha:PE X a ta) (hb:PE X b tb) (hs:PlainIx b):PE X (.Subscript a b pos) (tOp r ta tb):=by
 intro pins s σ H Q I h
 exact Subscript_ (binT ha hb I h fun v u s2 x y H2 I2 rx ry q=>hr a b pins s2 σ H2 x y v u Q I2 rx ry q (hs _ _))
def rIxL (K:PySem.W.Frag):R2:=fun x y H Q => ∃ p xs i v,x = .ref p∧y = .int i∧SqL K H p xs∧atI xs i=some v∧Q v H
def rIxT (K:PySem.W.Frag):R2:=fun x y H Q => ∃ p xs i v,x = .ref p∧y = .int i∧SqT K H p xs∧atI xs i=some v∧Q v H
def rIxS:R2:=fun x y H Q => ∃ z i c,x = .str z∧y = .int i∧z.length≤sizeLine∧atI z.cps.toList i=some c∧Q (.str ⟨#[c]⟩) H
theorem ix_list:IxR X (rIxL X.K):=by
 intro value slice pins s σ H x y v u Q I rx ry h hs
 obtain ⟨p,xs,i,z,rfl,rfl,hq,he,q⟩:=h
 cases rx
 obtain ⟨t,rfl⟩:=ry
 obtain ⟨its,r,pl,hz⟩:=I.list hq
 obtain ⟨j,h1,h2,h3,h4,h5⟩:=atI_get he
 obtain ⟨w,ew,rw'⟩:=r.get h2
 have hl:=r.length
 have hn:=line63
 have fin:EP X pins σ Q w s:=⟨z,H,I,rw',q⟩
 by_cases h0:0≤i
 ·have hj:i.toNat=j:=by
   rw [seqIndex_of h0 h5] at h1
   exact Option.some.inj h1
  exact item_listR pl.isList h0 (by omega) (by rw [hj]; simpa using ew) fin hs
 ·have hj:(i+(its.toArray.size:Int)).toNat=j:=by
   rw [seqIndex_neg (by omega) h4] at h1
   rw [List.size_toArray,← hl]
   exact Option.some.inj h1
  exact subscriptTail_builtinR (x:=w) pl.isList.typeIs slot_list_getitem.lookup
   (wpAny_getItem_list_neg (Q:=fun r s'=>r=w∧EP X pins σ Q r s') pl.isList (by omega) (by rw [List.size_toArray] <;> omega) (by omega) (by rw [hj]; simpa using ew) ⟨rfl,fin⟩) hs
theorem ix_tup:IxR X (rIxT X.K):=by
 intro value slice pins s σ H x y v u Q I rx ry h hs
 obtain ⟨p,xs,i,z,rfl,rfl,hq,he,q⟩:=h
 cases rx
 obtain ⟨t,rfl⟩:=ry
 obtain ⟨its,r,pl,hz⟩:=I.tuple hq
 obtain ⟨j,h1,h2,h3,h4,h5⟩:=atI_get he
 obtain ⟨w,ew,rw'⟩:=r.get h2
 have hl:=r.length
 have hn:=line63
 have fin:EP X pins σ Q w s:=⟨z,H,I,rw',q⟩
 exact subscriptTail_builtinR (x:=w) pl.typeIs slot_tuple_getitem.lookup
  (getItem_tuple (j:=j) (Q:=fun r s'=>r=w∧EP X pins σ Q r s') pl (by omega) (by omega) (by rw [List.size_toArray,← hl]; exact h1) (by simpa using ew) ⟨rfl,fin⟩) hs
theorem ix_str:IxR X rIxS:=by
 intro value slice pins s σ H x y v u Q I rx ry h hs
 obtain ⟨z,i,c,rfl,rfl,hz,he,q⟩:=h
 obtain ⟨t,rfl⟩:=rx
 obtain ⟨t',rfl⟩:=ry
 obtain ⟨j,h1,h2,h3,h4,h5⟩:=atI_get he
 have hl:z.cps.toList.length=z.length:=by simp [Str.length]
 rw [hl] at h1 h4 h5
 have hn:=line63
 exact tail_any (typeIs_str s z t) slot_str_getitem.lookup (getItem_str (c:=c) (by
  have e1:decide (i < -(2^63:Int))=false:=decide_eq_false (by omega)
  have e2:decide (i≥2^63)=false:=decide_eq_false (by omega)
  rw [e1,e2,Bool.or_false]) (by rw [h1]; simpa using h2) ⟨.str ⟨#[c]⟩,H,I.tok _,⟨_,rfl⟩,q⟩) hs
def rIx (K:PySem.W.Frag):R2:=fun x y H Q=>rIxL K x y H Q∨rIxT K x y H Q∨rIxS x y H Q
theorem ix_seq:IxR X (rIx X.K):=ix_list.or (ix_tup.or ix_str)
theorem mapSeq_set (its:List Value) (n j:Nat) (u:Value):Obj.mapSeq (·.setIfInBounds j u) { cls :=.type "list",data :=.seq its.toArray n }={ cls :=.type "list",data :=.seq (its.set j u).toArray n }:=by
 simp [Obj.mapSeq]
theorem Inv.lst {pins:List (Addr×Obj)} {σ:St} {H:Hp} {s:Shared} {p:Addr} {xs:List V} (I:Inv X pins σ H s) (h:H p=some (.lst xs)) :
 ∃ (its:List Value) (n:Nat),Vals xs its∧s.heap.get? p=some { cls :=.type "list",data :=.seq its.toArray n }∧xs.length≤sizeLine:=by
  obtain ⟨z,its,n,r,e⟩:=I.hok p _ h
  exact ⟨its,n,r,e,z⟩
theorem Inv.lstUpd {pins:List (Addr×Obj)} {σ:St} {H:Hp} {s:Shared} {p:Addr} {xs ys:List V} {its its':List Value} {n n':Nat} {f:Obj→Obj} (I:Inv X pins σ H s) (h:H p=some (.lst xs))
 (ho:s.heap.get? p=some { cls :=.type "list",data :=.seq its.toArray n }) (hf:f { cls :=.type "list",data :=.seq its.toArray n }={ cls :=.type "list",data :=.seq its'.toArray n' }) (r:Vals ys its') (hz:ys.length≤sizeLine) (t:Nat) :
  Inv X pins σ (upd H p (.lst ys)) { s with heap:=s.heap.update p f,toks:=t }:=by
  have e:(s.heap.update p f).get? p=some { cls :=.type "list",data :=.seq its'.toArray n' }:=by
   rw [Heap.get?_update_self f ho (by rw [hf] <;> rfl),hf]
  refine I.write (x:=p) (e:=p) (by rw [h]; trivial) (.inl rfl) (fun b u hb q=>(Heap.get?_update_other _ _ (Ne.symm hb)).trans q) ⟨_,e⟩ ?_
  exact ⟨hz,its',n',r,e⟩
def rSetL:V→V→V→Hp→(Hp→Prop)→Prop:=fun o i v H Q => ∃ p xs k j,o = .ref p∧i = .int k∧H p=some (.lst xs)∧ixN xs.length k=some j∧Q (upd H p (.lst (xs.set j v)))
theorem set_list:PSet X rSetL:=by
 intro pins s σ H o i v ov iv u Q I ro ri rv h
 obtain ⟨p,xs,k,j,rfl,rfl,hp,hj,q⟩:=h
 cases ro
 obtain ⟨t,rfl⟩:=ri
 obtain ⟨its,n,r,ho,hz⟩:=I.lst hp
 obtain ⟨h1,h2,h3,h4⟩:=ixN_seq hj
 have hl:=r.length
 have hn:=line63
 have I':Inv X pins σ (upd H p (.lst (xs.set j v))) { s with heap:=s.heap.update p (Obj.mapSeq (·.setIfInBounds j u)) } :=
  I.lstUpd hp ho (mapSeq_set its n j u) (r.set rv j) (by rw [List.length_set]; exact hz) s.toks
 by_cases h0:0≤k
 ·have hk:k.toNat=j:=by
   rw [seqIndex_of h0 h4] at h1
   exact Option.some.inj h1
  exact PySem.W.ki_setAt ho h0 (by omega) (by rw [List.size_toArray,← hl]; exact h4) (by rw [hk]; exact ⟨_,I',q⟩)
 ·have hk:(k+(its.toArray.size:Int)).toNat=j:=by
   rw [seqIndex_neg (by omega) h3] at h1
   rw [List.size_toArray,← hl]
   exact Option.some.inj h1
  exact PySem.W.ki_setBack ho (by omega) (by rw [List.size_toArray,← hl]; exact h3) (by omega) (by rw [hk]; exact ⟨_,I',q⟩)
theorem slice_bounds (lo hi:Option Int) (n:Nat):(sliceBounds lo hi none n).1=((HT.sIx n 0 lo:Nat):Int)∧(sliceBounds lo hi none n).2.1=((HT.sIx n n hi:Nat):Int)∧(sliceBounds lo hi none n).2.2=1:=by
 refine ⟨?_,?_,rfl⟩
 ·cases lo with
  | none=>simp [sliceBounds,HT.sIx]
  | some i =>
   simp only [sliceBounds,HT.sIx,Option.getD_none,show (1:Int)>0 by decide,if_true]
   by_cases h:i<0
   ·simp only [h,if_true] <;> omega
   ·simp only [h,if_false] <;> omega
 ·cases hi with
  | none=>simp [sliceBounds,HT.sIx]
  | some i =>
   simp only [sliceBounds,HT.sIx,Option.getD_none,show (1:Int)>0 by decide,if_true]
   by_cases h:i<0
   ·simp only [h,if_true] <;> omega
   ·simp only [h,if_false] <;> omega
theorem slicePick_cut (its:List Value) (lo hi:Option Int):slicePick its.toArray lo hi none=((its.drop (HT.sIx its.length 0 lo)).take (HT.sIx its.length its.length hi-HT.sIx its.length 0 lo)).toArray:=by
 obtain ⟨h1,h2,h3⟩:=slice_bounds lo hi its.toArray.size
 unfold slicePick
 rw [h1,h2,h3]
 simp only [sliceRange_one,pick_run,List.size_toArray] <;> rfl
def rSlL (K:PySem.W.Frag):V→Option Int→Option Int→Hp→VK→Prop:=fun x lo hi H Q => ∃ a xs,x = .ref a∧SqL K H a xs ∧ ∀ p,H p=none→Q (.ref p) (upd H p (.lst (cutV xs lo hi)))
theorem sl_list:SlR X (rSlL X.K):=by
 intro pins s σ H x v vl vu lo hi sl Q I rx hs pl pu h
 obtain ⟨a,xs,rfl,hx,q⟩:=h
 cases rx
 obtain ⟨its,r,ht,hz⟩:=I.list hx
 have hlen:=r.length
 refine ⟨"list",_,slot_list_getitem.lookup,ht.isList.typeIs,?_⟩
 refine wpAny_getItem_list_slice ht.isList hs pl pu .none (by simp) ?_ (by rw [List.size_toArray] <;> omega)
 rw [slicePick_cut,← hlen]
 refine ⟨.ref s.heap.objs.size,_,I.laid (t':=s.toks) (o :=.lst (cutV xs lo hi)) (fun b ob q=>Heap.get?_push_of_some _ q) (Nat.le_refl _) ?_,rfl,q _ (I.hok.fresh (Nat.le_refl _))⟩
 exact ⟨Nat.le_trans (cutV_length xs lo hi) hz,_,0,(r.drop (HT.sIx xs.length 0 lo)).take (HT.sIx xs.length xs.length hi-HT.sIx xs.length 0 lo),Heap.get?_push_size _ rfl⟩
theorem call_len_seq:CallR X (.builtin "len") (fun xs H Q => ∃ p ys,xs=[.ref p]∧(SqL X.K H p ys∨SqT X.K H p ys)∧Q (.int ys.length) H):=by
 intro pins s σ H xs us Q I r h
 obtain ⟨p,ys,rfl,hq,q⟩:=h
 obtain ⟨u,rfl,rx⟩:=vals1 r
 cases rx
 have hn:=line63
 rcases hq with hq|hq
 ·obtain ⟨its,r',pl,hz⟩:=I.list hq
  have hlen:=r'.length
  exact Calls.call_len_list pl.isList (by simp only [List.size_toArray] <;> omega) ⟨.int ys.length,H,I.tok _,⟨s.toks+1,by rw [List.size_toArray,hlen]⟩,q⟩
 ·obtain ⟨its,r',pl,hz⟩:=I.tuple hq
  have hlen:=r'.length
  exact len_tuple pl (by simp only [List.size_toArray] <;> omega) ⟨.int ys.length,H,I.tok _,⟨s.toks+1,by rw [List.size_toArray,hlen]⟩,q⟩
theorem call_len_str:CallR X (.builtin "len") (fun xs H Q => ∃ z,xs=[.str z]∧z.length≤sizeLine∧Q (.int z.length) H):=by
 intro pins s σ H xs us Q I r h
 obtain ⟨z,rfl,hz,q⟩:=h
 obtain ⟨u,rfl,t,rfl⟩:=vals1 r
 have hn:=line63
 exact len_str (by omega) ⟨.int z.length,H,I.tok _,⟨_,rfl⟩,q⟩
theorem CallR.or {f:Value} {r r':List V→Hp→VK→Prop} (h:CallR X f r) (h':CallR X f r'):CallR X f (fun xs H Q=>r xs H Q∨r' xs H Q):=by
 intro pins s σ H xs us Q I rs q
 rcases q with q|q
 ·exact h pins s σ H xs us Q I rs q
 ·exact h' pins s σ H xs us Q I rs q
theorem call_list_of:CallR X (.type "list") (fun xs H Q => ∃ p ys,xs=[.ref p]∧(SqL X.K H p ys∨SqT X.K H p ys) ∧ ∀ l,H l=none→Q (.ref l) (upd H l (.lst ys))):=by
 intro pins s σ H xs us Q I r h
 obtain ⟨p,ys,rfl,hq,q⟩:=h
 obtain ⟨u,rfl,rx⟩:=vals1 r
 cases rx
 have fin : ∀ (its:List Value),Vals ys its→ys.length≤sizeLine → ∀ (h':Heap) (c':Nat),(∀ b o',s.heap.get? b=some o'→h'.get? b=some o') →
  h'.get? s.heap.objs.size=some { cls :=.type "list",dict:=none,data :=.seq its.toArray c',slots := #[] }→EP X pins σ Q (.ref s.heap.objs.size) { s with heap:=h' }:=fun its r' hz h' c' kp e =>
  ⟨.ref s.heap.objs.size,_,I.laid (t':=s.toks) kp (Nat.le_refl _) (show ObjOk X.prog X.w _ h' _ (.lst ys) from ⟨hz,its,c',r',e⟩),rfl,q _ (I.hok.fresh (Nat.le_refl _))⟩
 rcases hq with hq|hq
 ·obtain ⟨its,r',pl,hz⟩:=I.list hq
  have hlen:=r'.length
  obtain ⟨o,ho,hc,n,hd⟩:=pl.isList
  exact call_list_seq p (.inl rfl) ho hc hd (fun h' c' kp e=>fin its r' hz h' c' kp e) (by simp only [List.size_toArray] <;> omega)
 ·obtain ⟨its,r',pl,hz⟩:=I.tuple hq
  have hlen:=r'.length
  obtain ⟨o,ho,hc,n,hd⟩:=pl
  exact call_list_seq p (.inr rfl) ho hc hd (fun h' c' kp e=>fin its r' hz h' c' kp e) (by simp only [List.size_toArray] <;> omega)
theorem call_tuple_of:CallR X (.type "tuple") (fun xs H Q => ∃ p ys,xs=[.ref p]∧((SqL X.K H p ys ∧ ∀ l,H l=none→Q (.ref l) (upd H l (.tup ys)))∨(SqT X.K H p ys∧Q (.ref p) H))):=by
 intro pins s σ H xs us Q I r h
 obtain ⟨p,ys,rfl,h⟩:=h
 obtain ⟨u,rfl,rx⟩:=vals1 r
 cases rx
 rcases h with ⟨hq,q⟩|⟨hq,q⟩
 ·obtain ⟨its,r',pl,hz⟩:=I.list hq
  have hlen:=r'.length
  refine call_tuple_list pl.isList (fun h' kp=>?_) (by simp only [List.size_toArray] <;> omega)
  have I1:Inv X pins σ H { s with heap:=h' }:=I.kept (t':=s.toks) kp
  have I2:Inv X pins σ (upd H h'.objs.size (.tup ys)) { s with heap:=h'.push { cls :=.type "tuple",data :=.seq its.toArray } } :=
   I1.laid (t':=s.toks) (fun b o e=>Heap.get?_push_of_some _ e) (Nat.le_refl _) (show ObjOk X.prog X.w _ _ _ (.tup ys) from ⟨hz,its,r',IsTup.new _ _⟩)
  exact ⟨.ref h'.objs.size,_,I2,rfl,q _ (I1.hok.fresh (Nat.le_refl _))⟩
 ·obtain ⟨its,r',pl,hz⟩:=I.tuple hq
  exact call_tuple_same pl ⟨.ref p,H,I,rfl,q⟩
def tyV (K:PySem.W.Frag) (T:String) (x:V) (H:Hp):Prop:=match x with
 | .str _=>T = "str"
 | .int _=>T = "int"
 | .ref p=>(T = "list" ∧ ∃ xs,SqL K H p xs)∨(T = "tuple" ∧ ∃ o,K.lookup p=some o∧o.cls = .type "tuple" ∧ o.dict=none) ∨
  (T = "dict" ∧ ((∃ kvs,H p=some (.dK kvs)) ∨ ∃ kvs,H p=some (.dT kvs)))∨(T = "set" ∧ ∃ S n,H p=some (.set S n))
 | _=>False
theorem tyV_is {pins:List (Addr×Obj)} {σ:St} {H:Hp} {s:Shared} {T:String} {x:V} {v:Value} (I:Inv X pins σ H s) (r:RelV x v) (ty:tyV X.K T x H) :
 s.TypeIs v T ∧ ∀ a,v = .ref a → ∃ ob,s.heap.get? a=some ob∧ob.dict=none:=by
  cases x with
  | str z =>
   obtain ⟨t,rfl⟩:=r
   cases (show T = "str" from ty)
   exact ⟨typeIs_str s z t,fun _ e=>nomatch e⟩
  | int i =>
   obtain ⟨t,rfl⟩:=r
   cases (show T = "int" from ty)
   exact ⟨typeIs_int s i t,fun _ e=>nomatch e⟩
  | ref p =>
   cases r
   rcases ty with ⟨rfl,xs,hq⟩|⟨rfl,o,hk,hc,hd⟩|⟨rfl,hk⟩|⟨rfl,S,n,hk⟩
   ·obtain ⟨its,_,pl,_⟩:=I.list hq
    refine ⟨pl.isList.typeIs,fun a e=>?_⟩
    cases e
    obtain ⟨o,n,e,c,hd,_⟩:=pl
    exact ⟨o,e,hd⟩
   ·refine ⟨⟨o,I.kIn p o hk,hc⟩,fun a e=>?_⟩
    cases e
    exact ⟨o,I.kIn _ o hk,hd⟩
   ·have z : ∃ o,s.heap.get? p=some o∧o.ExactDict:=by
     rcases hk with ⟨kvs,hk⟩|⟨kvs,hk⟩
     ·obtain ⟨_,_,_,_,o,_,_,e,ex,_⟩:=I.hok p _ hk
      exact ⟨o,e,ex⟩
     ·obtain ⟨_,_,_,_,o,_,_,e,ex,_⟩:=I.hok p _ hk
      exact ⟨o,e,ex⟩
    obtain ⟨o,e,ex⟩:=z
    refine ⟨⟨o,e,ex.1⟩,fun a e2=>?_⟩
    cases e2
    exact ⟨o,e,ex.2.1⟩
   ·obtain ⟨o,_,_,_,e,ex,_⟩:=I.hok p _ hk
    refine ⟨⟨o,e,ex.1⟩,fun a e2=>?_⟩
    cases e2
    exact ⟨o,e,ex.2.1⟩
  | _=>exact False.elim ty
def tBM (K:PySem.W.Frag) (T:String) (r:V→List V→Hp→VK→Prop) (to:TE) (t:TA):TE:=fun σ H Q=>to σ H fun x H1=>tyV K T x H1∧t σ H1 fun xs H2=>r x xs H2 Q
variable {o e:Expr} {es:List Expr} {to:TE} {t:TA} {name:Str} {apos cpos:Pos} {T id:String} {r:V→List V→Hp→VK→Prop}
theorem pe_bm (pa:PlainAttrs T) (slot:Slot T name id) (hty:typeOf (.builtin id)=pure (.type "method_descriptor")) (hm:MtR X id r) (ho:PE X o to) (ha:PA X (e::es) t)
 (hbase:attributeBase o name X.env (eval o X.env)=eval o X.env:=by rfl)
  (hfew:((backTo cpos (starEach (e::es) X.env)).all (fun x => !x.1)&&(backToKw cpos (keywordEach [] X.env)).all (fun x=>x.1.isSome)
   && decide ((e::es).length+([]:List Keyword).length+(if ([]:List Keyword).isEmpty then 0 else 1)<30))=true:=by rfl)
  (hline:(apos.endLine==cpos.line)=true:=by rfl) (hs:starEach (e::es) X.env=(false,eval e X.env)::starEach es X.env:=by rfl) (hplain:(backTo cpos (starEach es X.env)).any (·.1)=false:=by rfl) :
  PE X (.Call (.Attribute o name apos) (e::es) [] cpos) (tBM X.K T r to t):=by
  intro pins s σ H Q I h
  refine wpAny_Call_method_late hbase hfew hline rfl (thn (ho pins s σ H _ I h) fun v s1 xx63=>?_)
  obtain ⟨x,H1,I1,r1,ty,q1⟩:=xx63
  obtain ⟨h1,h2⟩:=tyV_is I1 r1 ty
  refine ⟨T,id,pa,slot,hty,h1,h2,?_⟩
  have hA:=ha cpos pins s1 σ H1 _ I1 q1
  rw [hs] at hA ⊢
  refine Calls.callWith_builtin (by show (false||(backTo cpos (starEach es X.env)).any (·.1))=false; rw [hplain] <;> rfl) (Calls.evalArgs_plain ?_)
  exact thn hA fun us s2 xx62=>by obtain ⟨vs,H2,I2,r2,q2⟩:=xx62; exact hm pins s2 σ H2 x vs v us Q I2 r1 r2 q2
/- xs.append(e),list.index on a module's tuple .. are MtR facts of 06m -/
end
end L2
namespace L2
open PySem PySem.Spec PyProof.Rows
def MtM (X:Cx) (id:String) (r:V→List V→Hp→VK→Prop):Prop :=
 ∀ (pins:List (Addr×Obj)) (s:Shared) (σ:St) (H:Hp) (x:V) (xs:List V) (v:Value) (us:List Value) (Q:VK),Inv X pins σ H s→RelV x v→Vals xs us→r x xs H Q →
  wpAny (model X.prog X.w) X.A (call (.builtin id) (v::us)) (EP X pins σ Q) X.xe s
theorem Vals.one : ∀ {x:V} {us:List Value},Vals [x] us → ∃ u,us=[u]∧RelV x u
 | _,_,.cons r .nil=>⟨_,rfl,r⟩
theorem Vals.rep {xs:List V} {us:List Value} (h:Vals xs us) : ∀ k:Nat,Vals (List.replicate k xs).flatten (List.replicate k us).flatten
 | 0 => .nil
 | k+1=>by
  rw [List.replicate_succ,List.replicate_succ,List.flatten_cons,List.flatten_cons]
  exact Vals.append h (Vals.rep h k)
section
variable {X:Cx} {pins:List (Addr×Obj)} {σ:St} {H:Hp} {s:Shared} {l b:Addr} {xs ys zs:List V}
theorem Inv.lset {its its':List Value} {n:Nat} {f:Array Value→Array Value} {t':Nat} (I:Inv X pins σ H s) (hH:H l=some (.lst xs))
 (e:s.heap.get? l=some { cls :=.type "list",data :=.seq its.toArray n }) (hf:f its.toArray=its'.toArray) (hv:Vals ys its') (hz:ys.length≤sizeLine) :
  Inv X pins σ (upd H l (.lst ys)) { s with heap:=s.heap.update l (Obj.mapSeq f),toks:=t' }:=by
  have q:=PySem.IsL.update e f
  rw [hf] at q
  refine I.write (x:=l) (e:=l) (by rw [hH]; exact trivial) (.inl rfl) (fun b' u hb hu=>(Heap.get?_update_other s.heap (Obj.mapSeq f) (Ne.symm hb)).trans hu) ⟨_,q⟩ ?_
  exact ⟨hz,its',_,hv,q⟩
theorem Inv.lnew {its:List Value} {t':Nat} (I:Inv X pins σ H s) (hv:Vals ys its) (hz:ys.length≤sizeLine) :
 Inv X pins σ (upd H s.heap.objs.size (.lst ys)) { s with heap:=s.heap.push { cls :=.type "list",data :=.seq its.toArray },toks:=t' } :=
  I.laid (fun _ _ q=>Heap.get?_push_of_some _ q) (Nat.le_refl _) ⟨hz,its,0,hv,Heap.get?_push_size _ rfl⟩
theorem Inv.fresh (I:Inv X pins σ H s):H s.heap.objs.size=none:=I.hok.fresh (Nat.le_refl _)
theorem Inv.lstM (I:Inv X pins σ H s) (hH:H l=some (.lst xs)):xs.length≤sizeLine ∧ ∃ (its:List Value) (n:Nat),Vals xs its∧xs.length=its.length∧s.heap.get? l=some { cls :=.type "list",data :=.seq its.toArray n }:=by
 obtain ⟨z,its,n,r,e⟩:=I.hok l _ hH
 exact ⟨z,its,n,r,r.length,e⟩
theorem notLongL {n:Nat} (h:n≤sizeLine):Builtin.List.listTooLong n=false:=by
 unfold Builtin.List.listTooLong
 exact decide_eq_false (by omega)
end
section
variable {X:Cx}
def rAppend:V→List V→Hp→VK→Prop:=fun x vs H Q => ∃ l xs y,x = .ref l∧vs=[y]∧H l=some (.lst xs)∧xs.length<sizeLine∧Q .non (upd H l (.lst (xs++[y])))
theorem mt_append:MtM X "list.append" rAppend:=by
 intro pins s σ H x vs v us Q I rx rv h
 obtain ⟨l,xs,y,rfl,rfl,hH,hz,q⟩:=h
 cases rx
 obtain ⟨u,rfl,ru⟩:=rv.one
 obtain ⟨z,its,n,r,hl,e⟩:=I.lstM hH
 refine call_meets F.slot_list_append ⟨_,e,rfl⟩ F.entry_list_append (F.args_list_append_2 _ _) (PySem.list_append l its.toArray n u (by rw [List.size_toArray]; omega)) ⟨e,?_⟩
 refine ⟨.non,_,I.lset (its':=its++[u]) hH e (by simp) (r.append (.cons ru .nil)) ?_,rfl,q⟩
 rw [List.length_append,List.length_singleton]
 omega
def rExtend:V→List V→Hp→VK→Prop:=fun x vs H Q => ∃ l b xs zs,x = .ref l∧vs=[.ref b]∧H l=some (.lst xs)∧H b=some (.lst zs)∧xs.length+zs.length≤sizeLine∧Q .non (upd H l (.lst (xs++zs)))
theorem mt_extend:MtM X "list.extend" rExtend:=by
 intro pins s σ H x vs v us Q I rx rv h
 obtain ⟨l,b,xs,zs,rfl,rfl,hH,hB,hz,q⟩:=h
 cases rx
 obtain ⟨u,rfl,ru⟩:=rv.one
 cases ru
 obtain ⟨z,its,n,r,hl,e⟩:=I.lstM hH
 obtain ⟨z2,its2,n2,r2,hl2,e2⟩:=I.lstM hB
 have hsz:its.toArray.size+its2.toArray.size≤sizeLine:=by rw [List.size_toArray,List.size_toArray]; omega
 have hlong : ¬ (!its.toArray.isEmpty&&Builtin.List.listTooLong (its.toArray.size+its2.toArray.size))=true:=by
  rw [notLongL hsz,Bool.and_false]
  exact Bool.false_ne_true
 refine call_meets F.slot_list_extend ⟨_,e,rfl⟩ F.entry_list_extend (F.args_list_extend_2 _ _)
  (AutoSeq1.list_extend_list_list_0 l its.toArray n b its2.toArray n2 hlong (by rw [List.size_toArray]; omega) (by omega)) ⟨e,e2,?_⟩
 refine ⟨.non,_,I.lset (its':=its++its2) hH e (by simp) (r.append r2) ?_,rfl,q⟩
 rw [List.length_append]
 omega
end
section
variable {prog:Program} {w:World} {A:Around} {E:Value→Shared→Prop} {s:Shared}
set_option maxRecDepth 100000 in
end
section
variable {X:Cx}
end
end L2
namespace Att
open PySem PySem.W PySem.Calls PyProof.Rows
theorem ints_of_wellAll {P:Params} {h:Heap} : ∀ (ns:List Int) (vs:List Value),WellAll P h vs (ns.map WData.int)→IntsAre vs ns:=by
 intro ns
 induction ns with
 | nil =>
  intro vs w
  rw [List.map_nil] at w
  cases w
  exact .nil
 | cons n ns ih =>
  intro vs w
  rw [List.map_cons] at w
  cases w with
  | cons a b =>
   cases a
   exact .cons _ _ (ih _ b)
theorem script_of {l:OpenLaw} {n:Nat} (hn:l.most=some n) {P:Params} {h:Heap} {args:List WData} {vals:List Value}
 (hpre:l.row.toRowW.claim.pre args=true) (hwl:WellAll P h vals args) :
 ∃ a vs ns,vals=[Value.ref a]∧args=[WData.list (ns.map WData.int)]∧h.get? a=some { cls :=.type "list",data :=.seq vs.toArray }∧IntsAre vs ns∧ns.length≤n:=by
  have hsh:WShape.hasAll [] args [.list .int]=true:=(pre_splitW hpre).1
  have hc:l.pre.holds [] { args:=args }=true:=(pre_splitW hpre).2
  obtain ⟨d,r,rfl,h1,h2⟩:=hasAllW_cons hsh
  obtain rfl:=hasAllW_nil h2
  obtain ⟨xs,rfl,h3⟩:=hasW_list h1
  obtain ⟨ns,rfl⟩:=items_int h3
  have hlen:ns.length≤n:=by
   unfold OpenLaw.pre at hc
   have h4:(WTm.not (.lt (.lit (.int (n:Int))) (.len (.arg 0)))).holds [] { args:=[.list (ns.map .int)] }=true:=by
    have h4:=(holds_andW hc).1
    rw [hn] at h4
    exact h4
   have h5:=condW_of h4 (w_not (w_lt w_lit (w_len_list (w_arg rfl))))
   rw [List.length_map] at h5
   refine Nat.le_of_not_lt fun q=>?_
   have q':(n:Int)<((ns.length:Nat):Int):=by omega
   first
    | (rw [decide_eq_true q'] at h5; exact absurd h5 (by decide))
    | (simp at h5; omega)
  cases hwl with
  | cons w1 w2 =>
   cases w2
   cases w1 with
   | list ho hall=>exact ⟨_,_,ns,rfl,rfl,ho,ints_of_wellAll ns _ hall,hlen⟩
theorem post_true (l:OpenLaw) (args:List WData):l.row.toRowW.claim.post args (.bool true) args=true :=
 postW_of (r:=l.row.toRowW) (X:=(true==true))
  (show WShape.has [] (.bool true) .bool=true by first|rfl|decide|simp [WShape.has,WShape.arms,WShape.armsAll])
  (show (WTm.eq .res (.lit (.bool true))).value [] { args:=args,res:=some (.bool true),after:=args }=some (.bool (true==true)) from w_eq_bool (w_res rfl) w_lit) rfl
theorem attach_call {l:OpenLaw} {n:Nat} {q:Program} {loose:List Str} {XP:(Str→Option Value)→Heap→Prop} {YP:World→Heap→Prop} {d:DefRec}
 (hn:l.most=some n) (hdf:d.params.defaults=[])
 (call : ∀ (w:World) (s₀ s₁:Shared) (mg mb:Str→Option Value) (fa:Addr) (o:Obj) (pm cd doc:Value) (a:Addr) (vs:List Value) (ns:List Int),
 Ground q loose [] XP w s₀ mg mb s₁.heap→YP w s₁.heap →
 s₁.heap.get? fa=some o→o.data = .func (docDef d.name d.params d.body d.scope pm cd doc)→s₁.heap.CodeRec cd d.name→mg d.name=some (.ref fa) →
 s₁.heap.get? a=some { cls :=.type "list",data :=.seq vs.toArray }→IntsAre vs ns→ns.length≤n→s₁.gens = #[] →
  codeAny (model l.prog w) callerA (.call (.ref fa) ⟨[.ref a],[]⟩) (fun r s'=>r = .ok (.ret (.bool true))∧OldK s₁.heap s'.heap∧s'.os=s₁.os∧AllBare s'.gens) s₁) :
  WalkO q loose XP YP l.row.toRowW d [] (fun f vs=>PySem.call f vs):=by
  intro w s₀ s₁ mg mb G Y fa o pm cd doc dV kV ho hd hcd hD hmg hg args vals as hpre hlay hrd hwl hlo
  obtain rfl:dV = .none:=Dflts.none hD hdf
  obtain rfl:kV = .none:=Dflts.noKw hD
  obtain ⟨a,vs,ns,rfl,rfl,hobj,hints,hlen⟩:=script_of hn hpre hwl
  refine enter_call (codeAny_mono (call w s₀ s₁ mg mb fa o pm cd doc a vs ns G Y ho (fd_plain hd) hcd hmg hobj hints hlen hg) fun r s' hq=>?_)
  obtain ⟨rfl,h2,h3,h4⟩:=hq
  exact ⟨.inl ⟨.bool true,.bool true,[],rfl,fun _=>rfl,.bool true,post_true l _,fun _=>⟨List.Pairwise.nil,fun _ hm=>(nomatch hm)⟩⟩,h2,h3,h4⟩
section
variable {prog:Program} {w:World} {A:Around} {E:Value→Shared→Prop} {s:Shared} {K:Frag}
end
end Att
namespace L2
open PySem PySem.Spec PyProof.Rows
theorem vals_ints : ∀ {vs:List Value} {ns:List Int},IntsAre vs ns→Vals (ns.map V.int) vs
 | _,_,.nil => .nil
 | _,_,.cons n t h => .cons ⟨t,rfl⟩ (vals_ints h)
def Only (H:Hp):Prop := ∀ b,H b=none ∨ ∃ o xs,H b=some (.frz o (.lst xs))
theorem law_call {P:Program} {w:World} {K:PySem.W.Frag} {mg mb:Str→Option Value} {CX:CXT} {k:Nat} {fa a:Addr} {fd:FuncData} {x:Str} {sp:Sp} {s₁:Shared} {vs:List Value} {ns:List Int}
 (KX:K.In s₁.heap) (hns:s₁.heap.Ns mainGlobals mg) (hb:s₁.heap.Ns builtinsNs mb) (hbb : ∀ x:Str,x ≠ "__name__" → mb x=bootBuiltins x) (hlim:s₁.heap.NoLimit) (hg:s₁.gens = #[])
 (ha:s₁.heap.get? a=some { cls :=.type "list",data :=.seq vs.toArray }) (hi:IntsAre vs ns) (hl:ns.length≤sizeLine) (hr:Room k callerA)
  (F : ∀ base:Heap,K.In base→base.Ns mainGlobals mg→FnOk P w K mg base CX k fa fd [x] sp) (hbind : ∀ (s:Shared) (u:Value),BindsTo s fd ⟨[u],[]⟩ [(x,u)])
  (hsp : ∀ H:Hp,Only H→SqL K H a (ns.map V.int)→sp [.ref a] H (fun v _=>v = .bl true) fun _ _ _=>False)
  (hCX : ∀ H e s',CX [] H s₁ (fun _ _ _=>False) e s'→False) :
  codeAny (model P w) callerA (.call (.ref fa) ⟨[.ref a],[]⟩) (fun r s'=>r = .ok (.ret (.bool true))∧OldK s₁.heap s'.heap∧s'.os=s₁.os∧AllBare s'.gens) s₁:=by
  have rv:=vals_ints hi
  have lenV:=hi.length
  have core : ∀ H:Hp,Only H→SqL K H a (ns.map V.int)→HOk P w H s₁.heap→(∀ b,H b≠none→b=a)→(H a≠none→K.lookup a=none) →
   codeAny (model P w) callerA (.call (.ref fa) ⟨[.ref a],[]⟩) (fun r s'=>r = .ok (.ret (.bool true))∧OldK s₁.heap s'.heap∧s'.os=s₁.os∧AllBare s'.gens) s₁:=by
   intro H hO hS hok hA hK
   have base_of : ∀ {b:Addr} {o:Obj},s₁.heap.get? b=some o→H b=none→(hidT s₁.heap H).get? b=some o:=fun e n=>hidT_get e n
   have noA : ∀ {b:Addr} {o:Obj} {es:Array DictEntry} {ep:Nat},s₁.heap.get? b=some o→o.data = .dict es ep→H b=none:=fun {b o es ep} e d=>by
    cases q:H b with
    | none=>rfl
    | some u =>
     have e':b=a:=hA b (by rw [q]; simp)
     subst e'
     rw [ha] at e; cases e
     have d':Data.seq vs.toArray _=Data.dict es ep:=d
     cases d'
   have nsK : ∀ {b:Addr} {m:Str→Option Value},s₁.heap.Ns b m→(hidT s₁.heap H).Ns b m:=fun {b m} ⟨o,es,ep,e,d,r⟩=>⟨o,es,ep,base_of e (noA e d),d,r⟩
   have hKb:K.In (hidT s₁.heap H):=fun b o e=>base_of (KX b o e) (by
    cases q:H b with
    | none=>rfl
    | some u =>
     have e':b=a:=hA b (by rw [q]; simp)
     subst e'
     rw [hK (by rw [q]; simp)] at e; cases e)
   have hM:Mod K mg (hidT s₁.heap H):=⟨hKb,nsK hns,⟨mb,nsK hb,hbb⟩,let ⟨mc,h1,h2⟩:=hlim; ⟨mc,nsK h1,h2⟩⟩
   have e0:Env0 P w K mg (hidT s₁.heap H) callerA [] s₁ H:=⟨rfl,hM,fun b o e=>of_hidT e,Nat.le_of_eq (hidT_size _ _),trivial,fun b hb=>absurd (show b ∈ ([]:List Addr) from hb) (by simp),hok,.of_eq hg⟩
   refine codeAny_mono ((F _ hKb (nsK hns)).run callerA [] s₁ H ⟨[.ref a],[]⟩ [.ref a] [.ref a] _ _ hr e0 (hbind s₁ (.ref a)) (.cons rfl .nil) (hsp H hO hS)) fun r s' h=>?_
   cases r with
   | error e=>exact (hCX H e s' h).elim
   | ok fl =>
    cases fl with
    | next=>exact False.elim h
    | brk=>exact False.elim h
    | cont=>exact False.elim h
    | ret u =>
     obtain ⟨v,H',os,bare,un,hok',r',q⟩:=h
     have q':v = .bl true:=q
     subst q'
     obtain rfl:u=Value.bool true:=r'
     refine ⟨rfl,OldK.of_keep fun b o e=>?_,os,bare⟩
     cases q:H b with
     | none=>exact un.keep b o e q (by intro z; exact absurd (show b ∈ ([]:List Addr) from z) (by simp)) (by simp)
     | some u =>
      rcases hO b with z|⟨ob,xs,z⟩
      ·rw [q] at z; cases z
      ·have z2:=un.frzs b ob _ z
       obtain ⟨e1,_⟩:=hok b _ z
       obtain ⟨e2,_⟩:=hok' b _ z2
       rw [e] at e1; cases e1
       exact e2
  cases hk:K.lookup a with
  | some o =>
   have e:=KX a o hk
   rw [ha] at e
   cases e
   refine core (fun _=>none) (fun _ => .inl rfl) (.inr ⟨_,vs.toArray,_,hk,rfl,rfl,rfl,by rw [List.size_toArray,lenV]; exact hl,by simpa using rv⟩) (fun b u z=>by have z':(none:Option HO)=some u:=z; cases z') (fun b z=>absurd rfl z) fun z=>absurd rfl z
  | none =>
   refine core (fun b=>if b=a then some (.frz { cls :=.type "list",data :=.seq vs.toArray } (.lst (ns.map V.int))) else none) (fun b=>?_) (.inl (.inr ⟨{ cls :=.type "list",data :=.seq vs.toArray },if_pos rfl⟩)) (fun b u z=>?_) (fun b z=>?_) fun _=>hk
   ·by_cases hb:b=a
    ·exact .inr ⟨_,_,if_pos hb⟩
    ·exact .inl (if_neg hb)
   ·by_cases hb:b=a
    ·have z':=(if_pos hb).symm.trans z
     cases z'
     subst hb
     exact ⟨ha,by rw [List.length_map]; exact hl,vs,_,rv,ha⟩
    ·have z':=(if_neg hb).symm.trans z
     cases z'
   ·by_cases hb:b=a
    ·exact hb
    ·exact absurd (if_neg hb) z
end L2
namespace L2
open PySem PySem.Spec PyProof.Rows
theorem walk_of {l:PySem.W.OpenLaw} {n k:Nat} {q:Program} {loose:List Str} {XP:(Str→Option Value)→Heap→Prop} {YP:World→Heap→Prop} {d:DefRec} {K:Params→PySem.W.Frag} {CX:World→CXT} {sp:World→Sp} {x:Str}
 (hn:l.most=some n) (hn2:n≤sizeLine) (hdf:d.params.defaults=[]) (hr:Room k callerA)
 (hY : ∀ (w:World) (h:Heap),YP w h→(K w.params).In h)
 (F : ∀ (w:World) (mg:Str→Option Value) (fa:Addr) (h:Heap),(K w.params).In h→h.Ns mainGlobals mg→mg d.name=some (.ref fa) →
 ∃ fd:FuncData,(∀ (s:Shared) (u:Value),BindsTo s fd ⟨[u],[]⟩ [(x,u)]) ∧
 ∀ base:Heap,(K w.params).In base→base.Ns mainGlobals mg→FnOk l.prog w (K w.params) mg base (CX w) k fa fd [x] (sp w))
 (hsp : ∀ (w:World) (H:Hp) (a:Addr) (ns:List Int),ns.length≤n→Only H→SqL (K w.params) H a (ns.map V.int)→sp w [.ref a] H (fun v _=>v = .bl true) fun _ _ _=>False)
 (hCX : ∀ (w:World) (H:Hp) (s:Shared) (e:Value) (s':Shared),CX w [] H s (fun _ _ _=>False) e s'→False) :
 PySem.W.WalkO q loose XP YP l.row.toRowW d [] (fun f vs=>PySem.call f vs):=by
  refine Att.attach_call hn hdf fun w s₀ s₁ mg mb fa o pm cd doc a vs ns G Y ho hd hcd hmg hobj hints hlen hg=>?_
  have KX:=hY w _ Y
  obtain ⟨fd,hb,hF⟩:=F w mg fa _ KX G.T.g hmg
  exact law_call KX G.T.g G.T.b G.T.builtins G.T.nolimit hg hobj hints (Nat.le_trans hlen hn2) hr hF hb (fun H hO hS=>hsp w H a ns hlen hO hS) fun H e s'=>hCX w H s₁ e s'
end L2
namespace L2
open PySem PySem.Spec PyProof.Rows
def defArgs (s:Stmt):Arguments:=match s with
 | .FunctionDef _ a _ _ _ _ _ _ _ _=>a
 | _=>{ posonlyargs:=[],args:=[],vararg:=none,kwonlyargs:=[],kw_defaults:=[],kwarg:=none,defaults:=[] }
def defBody (s:Stmt):List Stmt:=match s with
 | .FunctionDef _ _ b _ _ _ _ _ _ _=>b
 | _=>[]
def defScope (s:Stmt):Scope:=match s with
 | .FunctionDef _ _ _ _ _ _ sc _ _ _=>sc
 | _=>{ kind :=.function,names:=[],isGenerator:=false,isCoroutine:=false }
abbrev CX0:CXT:=fun _ _ _ _ _ _=>False
abbrev E0:XK:=fun _ _ _=>False
theorem pass0 {X:Cx}:Passes CX0 X E0:=fun _ _ _ _ _ _ _ h=>h.elim
structure Fun (K:PySem.W.Frag) (x qual:Str) (st:Stmt) (f:Addr) (fd:FuncData):Prop where
 ex : ∃ (oc:Value) (od:Option Addr) (kV doc pm:Value) (an:Option Addr) (cdv ct:Value) (osl:Array (Option Value)),
  fd=PySem.W.fnOf x qual (defArgs st) (defBody st) (defScope st) .none kV doc pm an cdv ct∧K.lookup f=some ⟨oc,od,.func fd,osl⟩∧PySem.W.codeIn K cdv qual=true
 kp:PySem.W.keepIn K (.ref f)=true
section
variable {P:Program} {w:World} {K:PySem.W.Frag} {mg:Str→Option Value} {base:Heap}
theorem Fun.ok {x qual:Str} {st:Stmt} {f:Addr} {fd:FuncData} {N ps:List Str} {k:Nat} {sp:Sp} (F:Fun K x qual st f fd) (S:FnScope N ps (defScope st)) (len : ∀ vs H Q E,sp vs H Q E→vs.length=ps.length)
 (hbody : ∀ (cdv:Value) (A:Around) (outer:List Env) (s:Shared) (H:Hp) (vs:List V) (Q:VK) (E:XK),Room k (A.deeper (envOfC qual (defScope st) s.heap.objs.size f cdv))→sp vs H Q E →
 ∃ t,PSs (cxOf CX0 P w K mg base N qual (defScope st) f cdv A outer s H E).nox (defBody st) t∧t { nx:=fun _ H'=>Q .non H',rt:=Q } (start N vs) H):FnOk P w K mg base CX0 (k+1) f fd ps sp:=by
  obtain ⟨oc,od,kV,doc,pm,an,cdv,ct,osl,rfl,lk,hcd⟩:=F.ex
  refine fn_of lk hcd S len fun A outer s H vs Q E hr hsp=>?_
  obtain ⟨t,h,q⟩:=hbody cdv A outer s H vs Q E hr hsp
  exact ⟨t,h.nox,q⟩
theorem Fun.binds {x qual:Str} {st:Stmt} {f:Addr} {fd:FuncData} {ps:List Str} (F:Fun K x qual st f fd)
 (h : ∀ (kV doc pm:Value) (an:Option Addr) (cdv ct:Value) (us:List Value),us.length=ps.length→bindArgs (PySem.W.fnOf x qual (defArgs st) (defBody st) (defScope st) .none kV doc pm an cdv ct) ⟨us,[]⟩=pure (ps.zip us)):Binds K fd ps []:=by
  obtain ⟨oc,od,kV,doc,pm,an,cdv,ct,osl,rfl,lk,hcd⟩:=F.ex
  exact .all (h kV doc pm an cdv ct)
theorem fun_mk {x qual:Str} {st:Stmt} {f:Addr} {oc:Value} {od an:Option Addr} {osl:Array (Option Value)} {kV doc pm cdv ct:Value} (l:K.lookup f=some ⟨oc,od,.func (PySem.W.fnOf x qual (defArgs st) (defBody st) (defScope st) .none kV doc pm an cdv ct),osl⟩)
 (c:PySem.W.codeIn K cdv qual=true) (k:PySem.W.keepIn K (.ref f)=true):Fun K x qual st f (PySem.W.fnOf x qual (defArgs st) (defBody st) (defScope st) .none kV doc pm an cdv ct):=⟨⟨oc,od,kV,doc,pm,an,cdv,ct,osl,rfl,l,c⟩,k⟩
end
theorem small1000 {n:Nat} (h:n≤1000):n<sizeLine:=Nat.lt_of_le_of_lt h (by decide)
section
variable {X:Cx}
end
theorem iteF {A B:Prop} (h:B):if false=true then A else B:=by
 rw [if_neg Bool.false_ne_true]
 exact h
theorem iteT {A B:Prop} (h:A):if true=true then A else B:=by
 rw [if_pos rfl]
 exact h
def Same (H H':Hp):Prop := ∀ b o,H b=some o→H' b=some o
theorem Same.refl (H:Hp):Same H H:=fun _ _ h=>h
theorem Same.trans {H H1 H2:Hp} (a:Same H H1) (b:Same H1 H2):Same H H2:=fun c o h=>b c o (a c o h)
theorem Same.free {H H':Hp} (e:Same H H') {l:Addr} (h:H' l=Option.none):H l=Option.none:=by
 cases q:H l with
 | none=>rfl
 | some o =>
  rw [e l o q] at h
  cases h
theorem Same.seq {K:PySem.W.Frag} {H H':Hp} {a:Addr} {xs:List V} (e:Same H H') (h:SqL K H a xs):SqL K H' a xs:=by
 rcases h with (h|⟨o,h⟩)|h
 ·exact .inl (.inl (e _ _ h))
 ·exact .inl (.inr ⟨o,e _ _ h⟩)
 ·exact .inr h
end L2
namespace L2
open PySem PySem.Spec PyProof.Rows
mutual
def Is (K:PySem.W.Frag) (H:Hp):PyData→V→Prop
 | .none,v=>v = .non
 | .bool b,v=>v = .bl b
 | .int i,v=>v = .int i
 | .str x,v=>v = .str x
 | .list l,v => ∃ a xs,v = .ref a∧SqL K H a xs∧Iss K H l xs
 | .tuple l,v => ∃ a xs,v = .ref a∧SqT K H a xs∧Iss K H l xs
 | .dict l,v => ∃ a kvs,v = .ref a∧H a=some (.dK kvs)∧(!l.isEmpty) = !kvs.isEmpty
def Iss (K:PySem.W.Frag) (H:Hp):List PyData→List V→Prop
 | [],xs=>xs=[]
 | d::l,xs => ∃ x r,xs=x::r∧Is K H d x∧Iss K H l r
end
theorem same_rd {H H':Hp} {a:Addr} {u:HO} (s:Same H H') (h:Rd H a u):Rd H' a u:=by
 rcases h with h|⟨o,h⟩
 ·exact .inl (s _ _ h)
 ·exact .inr ⟨o,s _ _ h⟩
theorem same_seqT {K:PySem.W.Frag} {H H':Hp} {a:Addr} {xs:List V} (s:Same H H') (h:SqT K H a xs):SqT K H' a xs:=by
 rcases h with h|h
 ·exact .inl (same_rd s h)
 ·exact .inr h
theorem same_new {H:Hp} {p:Addr} {o:HO} (h:H p=none):Same H (upd H p o):=fun b u e=>by
 rw [upd_ne (ne_of_none e h)]; exact e
mutual
theorem Is.mono {K:PySem.W.Frag} {H H':Hp} (s:Same H H') : ∀ {d:PyData} {v:V},Is K H d v→Is K H' d v
 | .none,_,h=>by unfold Is at h ⊢; exact h
 | .bool _,_,h=>by unfold Is at h ⊢; exact h
 | .int _,_,h=>by unfold Is at h ⊢; exact h
 | .str _,_,h=>by unfold Is at h ⊢; exact h
 | .list l,_,h=>by
  unfold Is at h ⊢
  obtain ⟨a,xs,e,q,r⟩:=h
  exact ⟨a,xs,e,s.seq q,Iss.mono s r⟩
 | .tuple l,_,h=>by
  unfold Is at h ⊢
  obtain ⟨a,xs,e,q,r⟩:=h
  exact ⟨a,xs,e,same_seqT s q,Iss.mono s r⟩
 | .dict _,_,h=>by
  unfold Is at h ⊢
  obtain ⟨a,kvs,e,q,m⟩:=h
  exact ⟨a,kvs,e,s _ _ q,m⟩
theorem Iss.mono {K:PySem.W.Frag} {H H':Hp} (s:Same H H') : ∀ {l:List PyData} {xs:List V},Iss K H l xs→Iss K H' l xs
 | [],_,h=>by unfold Iss at h ⊢; exact h
 | d::l,_,h=>by
  unfold Iss at h ⊢
  obtain ⟨x,r,e,p,q⟩:=h
  exact ⟨x,r,e,Is.mono s p,Iss.mono s q⟩
end
section
variable {K:PySem.W.Frag} {H H':Hp}
theorem is_non:Is K H .none .non:=by unfold Is; rfl
theorem is_bl (b:Bool):Is K H (.bool b) (.bl b):=by unfold Is; rfl
theorem is_int (i:Int):Is K H (.int i) (.int i):=by unfold Is; rfl
theorem is_str (x:Str):Is K H (.str x) (.str x):=by unfold Is; rfl
theorem is_lst {a:Addr} {xs:List V} {l:List PyData} (h:SqL K H a xs) (r:Iss K H l xs):Is K H (.list l) (.ref a):=by unfold Is; exact ⟨a,xs,rfl,h,r⟩
theorem is_tup {a:Addr} {xs:List V} {l:List PyData} (h:SqT K H a xs) (r:Iss K H l xs):Is K H (.tuple l) (.ref a):=by unfold Is; exact ⟨a,xs,rfl,h,r⟩
theorem iss_nil:Iss K H [] []:=by unfold Iss; rfl
theorem iss_cons {d:PyData} {l:List PyData} {x:V} {xs:List V} (h:Is K H d x) (r:Iss K H l xs):Iss K H (d::l) (x::xs):=by unfold Iss; exact ⟨x,xs,rfl,h,r⟩
theorem Is.bl_inv {b:Bool} {v:V} (h:Is K H (.bool b) v):v = .bl b:=by unfold Is at h; exact h
theorem Is.int_inv {i:Int} {v:V} (h:Is K H (.int i) v):v = .int i:=by unfold Is at h; exact h
theorem Is.non_inv {v:V} (h:Is K H .none v):v = .non:=by unfold Is at h; exact h
theorem Is.lst_inv {l:List PyData} {v:V} (h:Is K H (.list l) v) : ∃ a xs,v = .ref a∧SqL K H a xs∧Iss K H l xs:=by unfold Is at h; exact h
theorem Is.tup_inv {l:List PyData} {v:V} (h:Is K H (.tuple l) v) : ∃ a xs,v = .ref a∧SqT K H a xs∧Iss K H l xs:=by unfold Is at h; exact h
theorem Is.dct_inv {l:List (PyData×PyData)} {v:V} (h:Is K H (.dict l) v) : ∃ a kvs,v = .ref a∧H a=some (.dK kvs)∧(!l.isEmpty) = !kvs.isEmpty:=by unfold Is at h; exact h
theorem Iss.nil_inv {xs:List V} (h:Iss K H [] xs):xs=[]:=by unfold Iss at h; exact h
theorem Iss.cons_inv {d:PyData} {l:List PyData} {xs:List V} (h:Iss K H (d::l) xs) : ∃ x r,xs=x::r∧Is K H d x∧Iss K H l r:=by unfold Iss at h; exact h
theorem Iss.len : ∀ {l:List PyData} {xs:List V},Iss K H l xs→xs.length=l.length
 | [],_,h=>by rw [h.nil_inv]; rfl
 | d::l,_,h=>by
  obtain ⟨x,r,rfl,_,q⟩:=h.cons_inv
  simp [Iss.len q]
theorem Iss.get : ∀ {l:List PyData} {xs:List V} {i:Nat} {d:PyData},Iss K H l xs→l[i]?=some d → ∃ x,xs[i]?=some x∧Is K H d x
 | [],_,i,d,h,e=>by simp at e
 | d'::l,_,0,d,h,e=>by
  obtain ⟨x,r,rfl,p,q⟩:=h.cons_inv
  simp at e; subst e
  exact ⟨x,rfl,p⟩
 | d'::l,_,i+1,d,h,e=>by
  obtain ⟨x,r,rfl,p,q⟩:=h.cons_inv
  obtain ⟨y,e1,e2⟩:=Iss.get q (show l[i]?=some d by simpa using e)
  exact ⟨y,by simpa using e1,e2⟩
theorem Iss.get' : ∀ {l:List PyData} {xs:List V} {i:Nat} {x:V},Iss K H l xs→xs[i]?=some x → ∃ d,l[i]?=some d∧Is K H d x:=fun {l xs i x} h e=>by
 have hl:=h.len
 have hi:i<xs.length:=(List.getElem?_eq_some_iff.mp e).1
 obtain ⟨d,hd⟩ : ∃ d,l[i]?=some d:=⟨l[i]'(by omega),List.getElem?_eq_getElem _⟩
 obtain ⟨y,e1,e2⟩:=h.get hd
 rw [e] at e1; cases e1
 exact ⟨d,hd,e2⟩
theorem iss_append : ∀ {l m:List PyData} {xs ys:List V},Iss K H l xs→Iss K H m ys→Iss K H (l++m) (xs++ys)
 | [],m,_,ys,h,h'=>by rw [h.nil_inv]; exact h'
 | d::l,m,_,ys,h,h'=>by
  obtain ⟨x,r,rfl,p,q⟩:=h.cons_inv
  exact iss_cons p (iss_append q h')
theorem iss_take : ∀ {l:List PyData} {xs:List V} (n:Nat),Iss K H l xs→Iss K H (l.take n) (xs.take n)
 | _,_,0,_=>iss_nil
 | [],_,n+1,h=>by rw [h.nil_inv]; exact iss_nil
 | d::l,_,n+1,h=>by
  obtain ⟨x,r,rfl,p,q⟩:=h.cons_inv
  exact iss_cons p (iss_take n q)
theorem iss_drop : ∀ {l:List PyData} {xs:List V} (n:Nat),Iss K H l xs→Iss K H (l.drop n) (xs.drop n)
 | _,_,0,h=>h
 | [],_,n+1,h=>by rw [h.nil_inv]; exact iss_nil
 | d::l,_,n+1,h=>by
  obtain ⟨x,r,rfl,p,q⟩:=h.cons_inv
  exact iss_drop n q
theorem iss_ints : ∀ ns:List Int,Iss K H (ns.map .int) (ns.map V.int)
 | []=>iss_nil
 | n::ns=>iss_cons (is_int n) (iss_ints ns)
theorem Iss.ints_inv : ∀ {ns:List Int} {xs:List V},Iss K H (ns.map .int) xs→xs=ns.map V.int
 | [],_,h=>h.nil_inv
 | n::ns,_,h=>by
  obtain ⟨x,r,rfl,p,q⟩:=h.cons_inv
  rw [p.int_inv,Iss.ints_inv q]; rfl
end
section
variable {X:Cx} {pins:List (Addr×Obj)} {σ:St} {H:Hp} {s:Shared}
mutual
theorem Is.reads (I:Inv X pins σ H s) : ∀ {d:PyData} {x:V} {u:Value},d.canLay0=true→Is X.K H d x→RelV x u → ∃ as,Reads s.heap u d as
 | .none,_,u,_,h,r=>by
  rw [h.non_inv] at r; cases r; exact ⟨_,.none⟩
 | .bool b,_,u,_,h,r=>by
  rw [h.bl_inv] at r; cases r; exact ⟨_,.bool b⟩
 | .int i,_,u,_,h,r=>by
  rw [h.int_inv] at r; obtain ⟨t,rfl⟩:=r; exact ⟨_,.int i t⟩
 | .str x,_,u,_,h,r=>by
  unfold Is at h
  subst h
  obtain ⟨t,rfl⟩:=r; exact ⟨_,.str x t⟩
 | .list l,_,u,z,h,r=>by
  obtain ⟨a,xs,rfl,q,p⟩:=h.lst_inv
  cases r
  obtain ⟨its,rv,pl,_⟩:=I.list q
  obtain ⟨o,ho,hc,n,hd⟩:=pl.isList
  obtain ⟨as,ra⟩:=Iss.reads I (by simpa [PyData.canLay0] using z) p rv
  exact ⟨_,.list ho hc hd (by rw [List.toList_toArray]; exact ra)⟩
 | .tuple l,_,u,z,h,r=>by
  obtain ⟨a,xs,rfl,q,p⟩:=h.tup_inv
  cases r
  obtain ⟨its,rv,pl,_⟩:=I.tuple q
  obtain ⟨o,ho,hc,n,hd⟩:=pl
  obtain ⟨as,ra⟩:=Iss.reads I (by simpa [PyData.canLay0] using z) p rv
  exact ⟨_,.tuple ho hc hd (by rw [List.toList_toArray]; exact ra)⟩
 | .dict _,_,u,z,h,r=>by simp [PyData.canLay0] at z
theorem Iss.reads (I:Inv X pins σ H s) : ∀ {l:List PyData} {xs:List V} {us:List Value},PyData.canLayAll0 l=true→Iss X.K H l xs→Vals xs us → ∃ as,ReadsAll s.heap us l as
 | [],_,us,_,h,r=>by
  rw [h.nil_inv] at r; cases r; exact ⟨_,.nil⟩
 | d::l,_,us,z,h,r=>by
  have z':d.canLay0=true∧PyData.canLayAll0 l=true:=by simpa [PyData.canLayAll0] using z
  obtain ⟨x,y,rfl,p,q⟩:=h.cons_inv
  cases r with
  | cons r1 r2 =>
   obtain ⟨as,ra⟩:=Is.reads I z'.1 p r1
   obtain ⟨bs,rb⟩:=Iss.reads I z'.2 q r2
   exact ⟨_,.cons ra rb⟩
end
end
section
variable {X:Cx}
def rEqD (K:PySem.W.Frag):R2:=fun x y H Q => ∃ d e,Is K H d x∧Is K H e y∧SeqAt.shaped d=true∧SeqAt.shaped e=true∧Q (.bl (PyData.eqv d e)) H
def rNeD (K:PySem.W.Frag):R2:=fun x y H Q => ∃ d e,Is K H d x∧Is K H e y∧SeqAt.shaped d=true∧SeqAt.shaped e=true∧Q (.bl (!PyData.eqv d e)) H
theorem op_eqD (hu:X.A.units+64<cLine):OpR X (compareOp .Eq) (rEqD X.K):=by
 intro pins s σ H x y v u Q I rx ry h
 obtain ⟨d,e,h1,h2,z1,z2,q⟩:=h
 obtain ⟨as,ra⟩:=Is.reads I (Bool.and_eq_true_iff.mp z1).1 h1 rx
 obtain ⟨bs,rb⟩:=Is.reads I (Bool.and_eq_true_iff.mp z2).1 h2 ry
 exact SeqAt.compareEq_shaped ra rb z1 z2 hu ⟨.bl (PyData.eqv d e),H,I,rfl,q⟩
theorem op_neD (hu:X.A.units+64<cLine):OpR X (compareOp .NotEq) (rNeD X.K):=by
 intro pins s σ H x y v u Q I rx ry h
 obtain ⟨d,e,h1,h2,z1,z2,q⟩:=h
 obtain ⟨as,ra⟩:=Is.reads I (Bool.and_eq_true_iff.mp z1).1 h1 rx
 obtain ⟨bs,rb⟩:=Is.reads I (Bool.and_eq_true_iff.mp z2).1 h2 ry
 exact SeqAt.compareNe_shaped ra rb z1 z2 hu ⟨.bl (!PyData.eqv d e),H,I,rfl,q⟩
theorem op_mulB:OpR X (binaryOp .Mult) (rI IntMulOk fun i j => .int (i*j)):=opI fun _ _ _ _ _ _ _ hc q=>mul_int q hc
def CDivB (_ j:Int):Prop:=j≠0∧Builtin.Int.intBits j≤9000
theorem op_fdivB:OpR X (binaryOp .FloorDiv) (rI CDivB fun i j => .int (i.fdiv j)):=opI fun i j _ _ _ _ _ hc q=>by
 refine floordiv_int hc.1 q (.inl (PyProof.noPylong_of_log2 ?_))
 have h:=hc.2
 unfold Builtin.Int.intBits at h
 rw [if_neg (by simpa using hc.1)] at h
 omega
def rCatS (K:PySem.W.Frag):R2:=fun x y H Q => ∃ a b xs zs,x = .ref a∧y = .ref b∧SqL K H a xs∧SqL K H b zs∧xs.length+zs.length≤sizeLine ∧
 ∀ p,H p=none→Q (.ref p) (upd H p (.lst (xs++zs)))
theorem op_catS:OpR X (binaryOp .Add) (rCatS X.K):=by
 intro pins s σ H x y v u Q I rx ry h
 obtain ⟨a,b,xs,zs,rfl,rfl,hA,hB,hz,q⟩:=h
 cases rx
 cases ry
 obtain ⟨its,r,pl,z1⟩:=I.list hA
 obtain ⟨its2,r2,pl2,z2⟩:=I.list hB
 have l1:=r.length
 have l2:=r2.length
 obtain ⟨⟨cls,dd,data,sl⟩,ho,hc,n,hd⟩:=pl.isList
 obtain ⟨⟨cls2,dd2,data2,sl2⟩,ho2,hc2,n2,hd2⟩:=pl2.isList
 simp only at hc hd hc2 hd2
 subst hc hd hc2 hd2
 have e:its.toArray++its2.toArray=(its++its2).toArray:=by simp
 refine concat_meets ⟨_,ho,rfl⟩ ⟨_,ho2,rfl⟩ noFill_list_add seq_list_add PySem.F.slot_list_add PySem.F.entry_list_add (PySem.F.args_list_add_2 _ _) (list_addW a b its.toArray its2.toArray n n2 dd dd2 sl sl2 (by simp only [List.size_toArray]; omega)) ⟨ho,ho2,?_⟩
 rw [e]
 exact ⟨.ref _,_,I.lnew (t':=s.toks) (r.append r2) (by rw [List.length_append]; omega),rfl,q _ I.fresh⟩
def tyD:PyData→String
 | .none => "NoneType"
 | .bool _ => "bool"
 | .int _ => "int"
 | .str _ => "str"
 | .list _ => "list"
 | .tuple _ => "tuple"
 | .dict _ => "dict"
theorem isinst_D {pins:List (Addr×Obj)} {σ:St} {H:Hp} {s:Shared} {A:Around} {E:Value→Shared→Prop} {Q:Value→Shared→Prop} {c:Value} {b:Bool} {d:PyData} {x:V} {u:Value}
 (I:Inv X pins σ H s) (hd:Is X.K H d x) (rx:RelV x u) (e:PySem.W.kitOne X.K (.type (tyD d)) c=some b) (h : ∀ tk,Q (.bool b) { s with toks:=tk }) :
  wpAny (model X.prog X.w) A (call (.builtin "isinstance") [u,c]) Q E s:=by
  cases d with
  | none=>rw [hd.non_inv] at rx; cases rx; exact PySem.W.kia_one PySem.W.kitx_none I.kIn True.intro e (fun z=>nomatch z) h
  | bool y=>rw [hd.bl_inv] at rx; cases rx; exact PySem.W.kia_one PySem.W.kitx_bool I.kIn True.intro e (fun z=>nomatch z) h
  | int i=>rw [hd.int_inv] at rx; obtain ⟨t,rfl⟩:=rx; exact PySem.W.kia_one PySem.W.kitx_int I.kIn True.intro e (fun z=>nomatch z) h
  | str y =>
   unfold Is at hd
   subst hd
   obtain ⟨t,rfl⟩:=rx; exact PySem.W.kia_one PySem.W.kitx_str I.kIn True.intro e (fun z=>nomatch z) h
  | list l =>
   obtain ⟨a,xs,rfl,q,_⟩:=hd.lst_inv
   cases rx
   obtain ⟨its,_,pl,_⟩:=I.list q
   obtain ⟨o,ho,hc,_⟩:=pl.isList
   exact PySem.W.kia_one PySem.W.kitx_list I.kIn ⟨o,ho,hc⟩ e (fun z=>nomatch z) h
  | tuple l =>
   obtain ⟨a,xs,rfl,q,_⟩:=hd.tup_inv
   cases rx
   obtain ⟨its,_,pl,_⟩:=I.tuple q
   obtain ⟨o,ho,hc,_⟩:=pl
   exact PySem.W.kia_one PySem.W.kitx_tuple I.kIn ⟨o,ho,hc⟩ e (fun z=>nomatch z) h
  | dict l =>
   obtain ⟨a,kvs,rfl,q,_⟩:=hd.dct_inv
   cases rx
   obtain ⟨_,_,vs,_,p⟩:=(show ObjOk X.prog X.w H s.heap a (.dK kvs) from I.hok a _ q)
   obtain ⟨o,es,ep,h1,h2,_⟩:=p
   exact PySem.W.kia_one PySem.W.kitx_dict I.kIn ⟨o,h1,h2.1⟩ e (fun z=>nomatch z) h
def rIsD (K:PySem.W.Frag):List V→Hp→VK→Prop:=fun xs H Q => ∃ d x n b,xs=[x,.ty n]∧Is K H d x∧PySem.W.kitOne K (.type (tyD d)) (.type n)=some b∧Q (.bl b) H
theorem call_isi:CallR X (.builtin "isinstance") (rIsD X.K):=by
 intro pins s σ H xs us Q I r h
 obtain ⟨d,x,n,b,rfl,hd,e,q⟩:=h
 obtain ⟨u,c,rfl,rx,rc⟩:=vals2 r
 cases rc
 exact isinst_D I hd rx e fun tk=>⟨.bl b,H,I.tok tk,rfl,q⟩
theorem Iss.atI {K:PySem.W.Frag} {H:Hp} {l:List PyData} {xs:List V} {i:Int} {d:PyData} (h:Iss K H l xs) (e:L2.atI l i=some d) : ∃ x,L2.atI xs i=some x∧Is K H d x:=by
 unfold L2.atI at e ⊢
 rw [h.len]
 cases q:ixN l.length i with
 | none=>rw [q] at e; cases e
 | some j =>
  rw [q] at e
  exact h.get e
end
def Ite (K:PySem.W.Frag) (a:Addr):It :=
 ⟨fun i H => ∃ xs x,SqL K H a xs∧xs[i]?=some x,fun i H v H' => ∃ p x,(∀ xs,SqL K H a xs→xs[i]?=some x)∧H p=none∧v = .ref p∧H'=upd H p (.tup [.int i,x]),fun i H => ∃ xs,SqL K H a xs∧xs.length≤i⟩
theorem turn_enum {P:Program} {w:World} {K:PySem.W.Frag} {elts:List Expr} {x1:Nat} {tpos:Pos} (a e it:Addr) (hne:e≠it) :
 Turn P w K (.Tuple elts x1 tpos) (Ite K a) [e,it] e (fun i h=>(∃ old,IsEnum h e it (i:Nat) old)∧h.IsListIter it a i) where
  mem:=by simp
  obj:=fun i h st b hb=>by
   obtain ⟨⟨old,s1⟩,s2⟩:=st
   have hb':b=e∨b=it:=by simpa using hb
   rcases hb' with rfl|rfl
   ·exact ⟨_,s1,fun v z=>by have z':Data.fields _=Data.cell v:=z; cases z'⟩
   ·obtain ⟨o,q,c,d⟩:=s2
    exact ⟨o,q,fun v z=>by rw [d] at z; cases z⟩
  keep:=fun i h h' st k=>by
   obtain ⟨⟨old,s1⟩,s2⟩:=st
   exact ⟨⟨old,k e (by simp) _ s1⟩,s2.at fun o q=>k it (by simp) o q⟩
  item:=by
   intro X hP hw hK hc i pins s σ H E I hf st hg
   subst hP hw hK
   obtain ⟨xs,x,hq,hx⟩:=hg
   obtain ⟨its,rv,p,hz⟩:=I.list hq
   obtain ⟨u,hu,ru⟩:=rv.get hx
   obtain ⟨⟨old,s1⟩,s2⟩:=st
   obtain ⟨f0,f1,f2,f3,f4,f5⟩:=hf e (by simp)
   obtain ⟨g0,g1,g2,g3,g4,g5⟩:=hf it (by simp)
   have hel:e<s.heap.objs.size:=Heap.lt_size s1
   refine wpAny_pyNext_enum_item s1 s2 p.isList (x:=u) (by simpa using hu) hne fun h₁ ho hi ht hz₁ hk=>⟨_,rfl,?_⟩
   refine wpAny_letOwnedTupleGo_enum (s:={ s with heap:=h₁,toks:=s.toks+1 }) ho fun h₂ he₂ hs₂=>?_
   replace hs₂:Heap.SameBut e h₁ h₂:=hs₂
   have fresh:H s.heap.objs.size=none:=I.hok.fresh (Nat.le_refl _)
   have kk : ∀ b o,b≠e→b≠it→s.heap.get? b=some o→h₂.get? b=some o:=fun b o b1 b2 q=>hs₂.extBut b o b1 (hk b o b1 b2 q)
   have nb : ∀ b v,H b=some v→b≠e∧b≠it:=fun b v q=>⟨fun z=>(by rw [z,f0] at q; cases q),fun z=>(by rw [z,g0] at q; cases q)⟩
   have ht₂:h₂.get? s.heap.objs.size=some { cls :=.type "tuple",data :=.seq #[.int i s.toks,u] }:=(hs₂.2 _ (Nat.ne_of_gt hel)).trans ht
   have I1:Inv X pins σ (upd H s.heap.objs.size (.tup [.int i,x])) { s with heap:=h₂,toks:=s.toks+1 }:=by
    refine I.step (g':=s.gens) (d':=s.drawn) (ch:=[e,it]) (fun b hb=>?_) (fun b o _ _ hc q _=>kk b o (fun z=>hc (by simp [z])) (fun z=>hc (by simp [z])) q)
     (fun b o _ _ hc q _=>⟨o.slots,kk b o (fun z=>hc (by simp [z])) (fun z=>hc (by simp [z])) q⟩) (fun b o _ q n=>by rw [upd_ne (Nat.ne_of_lt (Heap.lt_size q))]; exact n)
     (fun b o hc q=>⟨o,kk b o (fun z=>hc (by simp [z])) (fun z=>hc (by simp [z])) q⟩) (fun b ys q=>by rw [upd_ne (ne_of_none q fresh)]; exact q) (fun b o v q=>by rw [upd_ne (ne_of_none q fresh)]; exact q)
     (fun b ps q=>⟨#[],by rw [upd_ne (ne_of_none q fresh),q]; simp⟩) (fun m hm=>?_) (fun b v q=>?_) I.bare
    ·have hb':b=e∨b=it:=by simpa using hb
     rcases hb' with rfl|rfl
     ·exact ⟨f3,f1,f4,f5⟩
     ·exact ⟨g3,g1,g4,g5⟩
    ·obtain ⟨o,es,ep,ho',r⟩:=hm
     exact ⟨o,es,ep,kk _ o (Ne.symm f1) (Ne.symm g1) ho',r⟩
    ·by_cases hb:b=s.heap.objs.size
     ·subst hb
      rw [upd_same] at q
      cases q
      exact ⟨(by show 2≤sizeLine; decide),[.int i s.toks,u],.cons ⟨s.toks,rfl⟩ (.cons ru .nil),⟨_,ht₂,rfl,_,rfl⟩⟩
     ·rw [upd_ne hb] at q
      refine (I.hok b v q).stay (fun c ob hc z=>?_) (fun c z=>by rw [upd_ne (ne_of_none z fresh)]; exact z) fun c ys z=>by rw [upd_ne (ne_of_none z fresh)]; exact z
      rcases hc with hc|hc
      ·subst hc; exact kk _ _ (nb _ _ q).1 (nb _ _ q).2 z
      ·exact kk _ _ (nb _ _ hc).1 (nb _ _ hc).2 z
   refine ⟨.ref s.heap.objs.size,_,I1,rfl,⟨s.heap.objs.size,x,fun ys hy=>by rw [I.list_inj hy hq]; exact hx,fresh,rfl,rfl⟩,⟨⟨u,?_⟩,?_⟩,fun b hb=>?_⟩
   ·have e1:((i+1:Nat):Int)=(i:Int)+1:=by push_cast; rfl
    rw [e1]; exact he₂
   ·exact hi.extBut hs₂.extBut (Ne.symm hne)
   ·have hb':b=e∨b=it:=by simpa using hb
    have hlt:b<s.heap.objs.size:=by
     rcases hb' with rfl|rfl
     ·exact hel
     ·obtain ⟨o,q,_⟩:=s2; exact Heap.lt_size q
    rw [upd_ne (Nat.ne_of_lt hlt)]
    exact (hf b hb).1
  done:=by
   intro X hP hw hK hc i pins s σ H E I hf st hg
   subst hP hw hK
   obtain ⟨xs,hq,hx⟩:=hg
   obtain ⟨its,rv,p,hz⟩:=I.list hq
   obtain ⟨⟨old,s1⟩,s2⟩:=st
   obtain ⟨g0,g1,g2,g3,g4,g5⟩:=hf it (by simp)
   have hl:=rv.length
   exact wpAny_pyNext_enum_end (I.ok.hd hc) s1 s2 p.isList (by simp; omega) fun h' eb=>⟨rfl,I.turned (t':=s.toks) (fun b o hb q=>eb b o hb q) g0 g1 g3 g4 g5⟩
  self:=fun A i s Q E st h=>by
   obtain ⟨⟨old,s1⟩,s2⟩:=st
   exact wpAny_pyIter_enum s1 h
section
variable {X:Cx} {elts:List Expr} {x1:Nat} {tpos:Pos}
def iEnum (K:PySem.W.Frag) (ta:TA):TI:=fun σ H R=>ta σ H fun vs H1 => ∃ a,vs=[.ref a]∧(∃ xs,SqL K H1 a xs)∧R (Ite K a) H1
theorem pi_enum {a:Expr} {ta:TA} {p pos:Pos} (hg:Gl X "enumerate") (hm:X.mg "enumerate" = none) (ha:PA X [a] ta) (hs:starEach [a] X.env=[(false,eval a X.env)]:=by rfl) :
 PI X (.Tuple elts x1 tpos) (.Call (.Name "enumerate" p) [a] [] pos) (iEnum X.K ta):=by
 intro pins s σ H R I h
 refine Call_ (ld_blt I hg hm boot_enumerate (PyProof.Rows.callWith_type1 (thn (ha pos pins s σ H _ I h) fun us s1 xx64=>?_) hs rfl))
 obtain ⟨vs,H1,I1,r1,q1⟩:=xx64
 obtain ⟨l,e,⟨xs,hq⟩,q⟩:=q1
 subst e
 cases r1 with
 | cons r rr =>
  cases rr
  cases r
  obtain ⟨its,rv,pl,hz⟩:=I1.list hq
  refine call_enumerate_list pl.isList fun h' he hi hz' hk=>?_
  refine wpAny_pyIter_enum he ?_
  have I2:Inv X pins σ H1 { s1 with heap:=h' }:=I1.kept (t':=s1.toks) hk
  refine ⟨s1.heap.objs.size+1,[s1.heap.objs.size+1,s1.heap.objs.size],_,_,H1,rfl,I2,turn_enum l _ _ (Nat.succ_ne_self _),⟨⟨_,he⟩,hi⟩,fun b hb=>?_,q⟩
  have hb':b=s1.heap.objs.size+1∨b=s1.heap.objs.size:=by simpa using hb
  have hle:s1.heap.objs.size≤b:=by
   rcases hb' with rfl|rfl
   ·exact Nat.le_succ _
   ·exact Nat.le_refl _
  exact I1.fpOk hle (I1.hok.fresh hle)
end
theorem szl {α:Type} {l:List α} (h:decide (l.length≤1000)=true:=by rfl):l.length≤sizeLine:=Nat.le_of_lt (small1000 (of_decide_eq_true h))
theorem eqv_int (i j:Int):PyData.eqv (.int i) (.int j)=(i==j):=by simp only [PyData.eqv]
theorem ite_ne {i j:Int} {A B:Prop} (h1:i≠j→A) (h2:i=j→B):if (!PyData.eqv (.int i) (.int j))=true then A else B:=by
 rw [eqv_int]
 by_cases h:i=j
 ·subst h; simpa using h2 rfl
 ·have e:(i==j)=false:=by simpa using h
  rw [e]; simpa using h1 h
theorem ite_eq {i j:Int} {A B:Prop} (h1:i=j→A) (h2:i≠j→B):if (PyData.eqv (.int i) (.int j))=true then A else B:=by
 rw [eqv_int]
 by_cases h:i=j
 ·subst h; simpa using h1 rfl
 ·have e:(i==j)=false:=by simpa using h
  rw [e]; simpa using h2 h
theorem iteD {p A B:Prop} [Decidable p] (h1:p→A) (h2 : ¬ p→B):if decide p=true then A else B:=by
 by_cases h:p
 ·simpa [h] using h1 h
 ·simpa [h] using h2 h
theorem atI_ints {ns:List Int} {i:Int} (h0:0≤i) (h1:i<ns.length) : ∃ n,L2.atI (ns.map PyData.int) i=some (.int n):=by
 have hi:i.toNat<ns.length:=by omega
 refine ⟨ns[i.toNat],?_⟩
 have e:(ns.map PyData.int)[i.toNat]?=some (.int ns[i.toNat]):=by simp [hi]
 have:=atI_nat e
 rwa [Int.toNat_of_nonneg h0] at this
theorem boot_abs:bootBuiltins "abs" = some (.builtin "abs"):=by decide +kernel
theorem boot_max:bootBuiltins "max" = some (.builtin "max"):=by decide +kernel
theorem boot_min:bootBuiltins "min" = some (.builtin "min"):=by decide +kernel
theorem boot_len:bootBuiltins "len" = some (.builtin "len"):=by decide +kernel
theorem boot_isinstance:bootBuiltins "isinstance" = some (.builtin "isinstance"):=by decide +kernel
theorem boot_int:bootBuiltins "int" = some (.type "int"):=by decide +kernel
theorem boot_bool:bootBuiltins "bool" = some (.type "bool"):=by decide +kernel
theorem boot_tuple:bootBuiltins "tuple" = some (.type "tuple"):=by decide +kernel
theorem boot_list:bootBuiltins "list" = some (.type "list"):=by decide +kernel
section
variable {K:PySem.W.Frag}
end
structure Def (K:PySem.W.Frag) (mg:Str→Option Value) (x:Str) (st:Stmt) (ps:List Str):Prop where
 ex : ∃ (f:Addr) (fd:FuncData),Fun K x x st f fd∧mg x=some (.ref f)∧Binds K fd ps []
structure Ok (P:Program) (w:World) (K:PySem.W.Frag) (mg:Str→Option Value) (base:Heap) (x:Str) (k:Nat) (ps:List Str) (sp:Sp):Prop where
 ex : ∃ (f:Addr) (fd:FuncData),FnOk P w K mg base CX0 k f fd ps sp∧mg x=some (.ref f)∧PySem.W.keepIn K (.ref f)=true∧Binds K fd ps []
section
variable {P:Program} {w:World} {K:PySem.W.Frag} {mg:Str→Option Value} {base:Heap}
theorem Def.ok {x:Str} {st:Stmt} {N ps:List Str} {k:Nat} {sp:Sp} (F:Def K mg x st ps) (S:FnScope N ps (defScope st)) (len : ∀ vs H Q E,sp vs H Q E→vs.length=ps.length)
 (hbody : ∀ (f:Addr) (cdv:Value) (A:Around) (outer:List Env) (s:Shared) (H:Hp) (vs:List V) (Q:VK) (E:XK),Room k (A.deeper (envOfC x (defScope st) s.heap.objs.size f cdv))→sp vs H Q E →
 ∃ t,PSs (cxOf CX0 P w K mg base N x (defScope st) f cdv A outer s H E).nox (defBody st) t∧t { nx:=fun _ H'=>Q .non H',rt:=Q } (start N vs) H):Ok P w K mg base x (k+1) ps sp:=by
  obtain ⟨f,fd,Fn,hm,hb⟩:=F.ex
  exact ⟨f,fd,Fn.ok S len (hbody f),hm,Fn.kp,hb⟩
end
section
variable {X:Cx} {x:Str} {k:Nat} {ps:List Str} {sp:Sp} {p pos:Pos} {e:Expr} {es:List Expr} {t:TA}
theorem pe_fn (O:Ok X.prog X.w X.K X.mg X.base x k ps sp) (hr:Room k X.A) (ha:PA X (e::es) t) (hg:Gl X x:=by rfl) (hdb:(x==("__debug__" : Str))=false:=by decide)
 (he:starEach (e::es) X.env=(false,eval e X.env)::starEach es X.env:=by rfl) (hpl:(backTo pos (starEach es X.env)).any (·.1)=false:=by rfl):PE X (.Call (.Name x p) (e::es) [] pos) (tCall sp [] E0 t):=by
 obtain ⟨f,fd,F,hm,hk,hb⟩:=O.ex
 exact pe_call F hr hg hm hk hb .nil pass0 ha hdb he hpl
theorem pe_append {o:Expr} {to:TE} {te:TE} {apos cpos:Pos} (ho:PE X o to) (he:PE X e te) (hbase:attributeBase o "append" X.env (eval o X.env)=eval o X.env:=by rfl)
 (hfew:((backTo cpos (starEach [e] X.env)).all (fun x => !x.1)&&(backToKw cpos (keywordEach [] X.env)).all (fun x=>x.1.isSome)
  && decide ([e].length+([]:List Keyword).length+(if ([]:List Keyword).isEmpty then 0 else 1)<30))=true:=by rfl)
 (hline:(apos.endLine==cpos.line)=true:=by rfl) (hs:starEach [e] X.env=(false,eval e X.env)::starEach [] X.env:=by rfl) (hplain:(backTo cpos (starEach [] X.env)).any (·.1)=false:=by rfl) :
 PE X (.Call (.Attribute o "append" apos) [e] [] cpos) (tBM X.K "list" rAppend to (tCons te tNil)) :=
 pe_bm PySem.F.plainAttrs_list PySem.F.slot_list_append PySem.F.type_list_append mt_append ho (pa_cons he pa_nil hs) hbase hfew hline hs hplain
end
end L2
namespace L2
open PySem PySem.Spec PyProof.Rows
def closL (cells:List (Str×Addr)):List (Str×NameKind)→List (Str×Addr)→List (Str×Addr)
 | [],acc=>acc
 | (n,k)::r,acc=>if (k == .free)=true then (match cells.lookup n with|some c=>closL cells r ((n,c)::acc)|none=>closL cells r acc) else closL cells r acc
theorem closL_mem {cells:List (Str×Addr)} : ∀ {names:List (Str×NameKind)} {acc:List (Str×Addr)} {p:Str×Addr},p ∈ closL cells names acc→p ∈ acc∨cells.lookup p.1=some p.2
 | [],acc,p,h => .inl h
 | (n,k)::r,acc,p,h=>by
  unfold closL at h
  split at h
  ·split at h
   ·rename_i c hc
    rcases closL_mem h with h|h
    ·rcases List.mem_cons.mp h with h|h
     ·subst h; exact .inr hc
     ·exact .inl h
    ·exact .inr h
   ·exact closL_mem h
  ·exact closL_mem h
theorem closL_has {cells:List (Str×Addr)} : ∀ {names:List (Str×NameKind)} {acc:List (Str×Addr)} {x:Str},((∃ c,(x,c) ∈ acc)∨((x,NameKind.free) ∈ names ∧ ∃ c,cells.lookup x=some c)) → ∃ c,(x,c) ∈ closL cells names acc
 | [],acc,x,h=>by
  rcases h with h|h
  ·exact h
  ·exact absurd h.1 (by simp)
 | (n,k)::r,acc,x,h=>by
  unfold closL
  split
  ·rename_i hk
   split
   ·rename_i c hc
    refine closL_has ?_
    rcases h with ⟨d,h⟩|⟨h,d,hd⟩
    ·exact .inl ⟨d,List.mem_cons_of_mem _ h⟩
    ·rcases List.mem_cons.mp h with h|h
     ·cases h; exact .inl ⟨c,by simp⟩
     ·exact .inr ⟨h,d,hd⟩
   ·rename_i hc
    refine closL_has ?_
    rcases h with h|⟨h,d,hd⟩
    ·exact .inl h
    ·rcases List.mem_cons.mp h with h|h
     ·cases h; rw [hd] at hc; cases hc
     ·exact .inr ⟨h,d,hd⟩
  ·rename_i hk
   refine closL_has ?_
   rcases h with h|⟨h,d,hd⟩
   ·exact .inl h
   ·rcases List.mem_cons.mp h with h|h
    ·cases h; exact absurd rfl hk
    ·exact .inr ⟨h,d,hd⟩
theorem cf_new {x:Str} {c:Addr} : ∀ {names:List (Str×NameKind)} {n:Nat} {acc:List (Str×Addr)},(cellsFrom n names acc).lookup x=some c→(n≤c∧(x,NameKind.cell) ∈ names)∨acc.lookup x=some c
 | [],_,_,h => .inr h
 | (y,k)::r,n,acc,h=>by
  unfold cellsFrom at h
  split at h
  ·rename_i hk
   rcases cf_new h with ⟨h1,h2⟩|h1
   ·exact .inl ⟨by omega,List.mem_cons_of_mem _ h2⟩
   ·by_cases e:x=y
    ·subst e
     have hb:(x==x)=true:=by simp
     rw [List.lookup_cons,hb] at h1
     have hk':k = .cell:=by simpa using hk
     subst hk'
     cases h1
     exact .inl ⟨Nat.le_refl _,by simp⟩
    ·have hb:(x==y)=false:=by simpa using e
     rw [List.lookup_cons,hb] at h1
     exact .inr h1
  ·rcases cf_new h with ⟨h1,h2⟩|h1
   ·exact .inl ⟨h1,List.mem_cons_of_mem _ h2⟩
   ·exact .inr h1
theorem cf_old {x:Str} : ∀ {names:List (Str×NameKind)} {n:Nat} {acc:List (Str×Addr)},(x,NameKind.cell) ∉ names→(cellsFrom n names acc).lookup x=acc.lookup x
 | [],_,_,_=>rfl
 | (y,k)::r,n,acc,h=>by
  have hr:(x,NameKind.cell) ∉ r:=fun z=>h (List.mem_cons_of_mem _ z)
  unfold cellsFrom
  split
  ·rename_i hk
   have hk':k = .cell:=by simpa using hk
   subst hk'
   have e:x≠y:=fun z=>h (by rw [z]; simp)
   have hb:(x==y)=false:=by simpa using e
   rw [cf_old hr,List.lookup_cons,hb]
  ·exact cf_old hr
theorem cf_above {x:Str} {c lo:Nat} : ∀ {names:List (Str×NameKind)} {n:Nat} {acc:List (Str×Addr)},lo≤n→((x,NameKind.cell) ∈ names ∨ ∃ a,acc.lookup x=some a∧lo≤a)→(cellsFrom n names acc).lookup x=some c→lo≤c
 | [],_,acc,_,h,e=>by
  rcases h with h|⟨a,h1,h2⟩
  ·simp at h
  ·have e:acc.lookup x=some c:=e
   rw [h1] at e
   cases e
   exact h2
 | (y,k)::r,n,acc,hn,h,e=>by
  unfold cellsFrom at e
  split at e
  ·rename_i hk
   refine cf_above (lo:=lo) (by omega) ?_ e
   by_cases z:x=y
   ·subst z
    have hb:(x==x)=true:=by simp
    exact .inr ⟨n,by rw [List.lookup_cons,hb],hn⟩
   ·have hb:(x==y)=false:=by simpa using z
    rcases h with h|⟨a,h1,h2⟩
    ·rcases List.mem_cons.mp h with h|h
     ·cases h; exact absurd rfl z
     ·exact .inl h
    ·exact .inr ⟨a,by rw [List.lookup_cons,hb]; exact h1,h2⟩
  ·rename_i hk
   refine cf_above hn ?_ e
   rcases h with h|h
   ·rcases List.mem_cons.mp h with h|h
    ·cases h; exact absurd rfl hk
    ·exact .inl h
   ·exact .inr h
theorem cf_inj {x y:Str} {c:Addr} : ∀ {names:List (Str×NameKind)} {n:Nat} {acc:List (Str×Addr)},(∀ z a,acc.lookup z=some a→a<n)→n≤c→(cellsFrom n names acc).lookup x=some c→(cellsFrom n names acc).lookup y=some c→x=y
 | [],n,acc,hA,hn,h,_=>absurd (hA x c h) (Nat.not_lt.mpr hn)
 | (w,k)::r,n,acc,hA,hn,h,h'=>by
  unfold cellsFrom at h h'
  split at h
  ·rename_i hk
   rw [if_pos hk] at h'
   have hA' : ∀ z a,((w,n)::acc).lookup z=some a→a<n+1:=fun z a q=>by
    rw [List.lookup_cons] at q
    split at q
    ·cases q; exact Nat.lt_succ_self _
    ·exact Nat.lt_succ_of_lt (hA z a q)
   have at_n : ∀ z,((w,n)::acc).lookup z=some n→z=w:=fun z q=>by
    rw [List.lookup_cons] at q
    split at q
    ·rename_i hb; exact beq_iff_eq.mp hb
    ·exact absurd (hA z n q) (Nat.lt_irrefl _)
   by_cases e:c=n
   ·subst e
    have a1:x=w:=by
     rcases cf_new h with ⟨q,_⟩|q
     ·exact absurd q (Nat.not_succ_le_self _)
     ·exact at_n x q
    have a2:y=w:=by
     rcases cf_new h' with ⟨q,_⟩|q
     ·exact absurd q (Nat.not_succ_le_self _)
     ·exact at_n y q
    rw [a1,a2]
   ·exact cf_inj hA' (Nat.lt_of_le_of_ne hn (Ne.symm e)) h h'
  ·rename_i hk
   rw [if_neg hk] at h'
   exact cf_inj hA hn h h'
theorem cf_cell {x:Str} {c:Addr} : ∀ {names:List (Str×NameKind)} {h:Heap} {acc:List (Str×Addr)},(cellsFrom h.objs.size names acc).lookup x=some c→acc.lookup x=some c∨(pushCells h names).IsCell c none
 | [],_,_,e => .inl e
 | (y,k)::r,h,acc,e=>by
  unfold cellsFrom at e
  unfold pushCells
  split at e
  ·rename_i hk
   rw [if_pos hk]
   have e':(cellsFrom (h.push { cls :=.type "cell",data :=.cell none }).objs.size r ((y,h.objs.size)::acc)).lookup x=some c:=by rw [Heap.size_push]; exact e
   rcases cf_cell e' with q|q
   ·rw [List.lookup_cons] at q
    split at q
    ·have q:=Option.some.inj q
     subst q
     exact .inr ⟨_,pushCells_keeps _ _ _ _ (Heap.get?_push_size _ rfl),rfl⟩
    ·exact .inl q
   ·exact .inr q
  ·rename_i hk
   rw [if_neg hk]
   exact cf_cell e
theorem nfe_cells {M:Model} {A:Around} {E:Value→Shared→Prop} {s:Shared} {scope:Scope} {globals:Addr} {cl:List (Str×Addr)} {qual:Str} {outer:Env} {Q:Env→Shared→Prop}
 (hQ:Q (newEnv scope s.heap.objs.size globals (cellsFrom (s.heap.objs.size+1) scope.names cl) qual none .none (some outer) builtinsNs) { s with heap:=pushCells (s.heap.push { cls :=.type "dict",data :=.dict #[] }) scope.names }) :
  wpAny M A (newFunctionEnv scope globals cl [] qual none .none (some outer)) Q E s:=by
  simp only [newFunctionEnv,Option.isSome_some,if_true]
  refine wpAny_bind (wpAny_alloc ?_)
  refine wpAny_bind (wpAny_layCells _ (fun name kind cells=>by cases hkc:kind==NameKind.cell <;> simp [hkc]) _ _ _ _ ?_)
  rw [show ({ s with heap:=s.heap.push { cls :=.type "dict",data :=.dict #[] } }:Shared).heap.objs.size=s.heap.objs.size+1 from Heap.size_push ..]
  rw [List.forIn_nil]
  exact wpAny_bind (wpAny_pure (wpAny_pure hQ))
structure CompScope (env:Env) (scope:Scope) (caps:List Str):Prop where
 clos:closureFor scope env=pure (closL env.cells scope.names [])
 kind:scope.kind = .function
 cells:scope.names.all (fun y => !(y.2 == .cell)||scope.names.lookup y.1==some .cell)=true
 names:scope.names.all (fun y => !(y.2 == .local)||scope.names.lookup y.1==some .local)=true
 free:scope.names.all (fun y => !(y.2 == .free)||(env.cells.lookup y.1).isSome)=true
 cap:caps.all (fun x=>scope.names.lookup x==some .free&&(env.scope.names.lookup x==some .cell||env.scope.names.lookup x==some .free))=true
theorem mem_lookup {β:Type} : ∀ {l:List (Str×β)} {x:Str} {c:β},l.lookup x=some c→(x,c) ∈ l:=fun h=>PySem.mem_of_lookup h
theorem lookup_mem : ∀ {l:List (Str×Addr)} {x:Str} {c:Addr},(x,c) ∈ l → ∃ d,l.lookup x=some d
 | [],_,_,h=>by simp at h
 | (y,d)::r,x,c,h=>by
  by_cases e:x=y
  ·subst e; exact ⟨d,by simp⟩
  ·have hb:(x==y)=false:=by simpa using e
   rcases List.mem_cons.mp h with h|h
   ·cases h; exact absurd rfl e
   ·obtain ⟨d',hd⟩:=lookup_mem h
    exact ⟨d',by rw [List.lookup_cons,hb]; exact hd⟩
section
variable {env:Env} {scope:Scope} {caps:List Str}
abbrev clOf (scope:Scope) (env:Env):List (Str×Addr):=closL env.cells scope.names []
theorem CompScope.sub (S:CompScope env scope caps) {x:Str} {c:Addr} (h:(clOf scope env).lookup x=some c):env.cells.lookup x=some c:=by
 rcases closL_mem (mem_lookup h) with h|h
 ·simp at h
 ·exact h
theorem relabel_mem {x:Str} {k:NameKind} (h:(relabel scope env).names.lookup x=some k) : ∃ k',(x,k') ∈ scope.names∧(k'=k∨(k' = .free∧k = .cell)):=by
 have hm:=mem_lookup h
 obtain ⟨⟨n,k0⟩,h1,h2⟩:=List.mem_map.mp hm
 dsimp only at h2
 split at h2
 ·rename_i hc
  cases h2
  have:k0 = .free:=by
   have:=(Bool.and_eq_true_iff.mp (Bool.and_eq_true_iff.mp hc).1).1
   simpa using this
  subst this
  exact ⟨_,h1,.inr ⟨rfl,rfl⟩⟩
 ·cases h2
  exact ⟨_,h1,.inl rfl⟩
abbrev nclOf (scope:Scope) (env:Env) (n:Nat):List (Str×Addr):=cellsFrom n scope.names (clOf scope env)
theorem CompScope.hasF (S:CompScope env scope caps) {x:Str} (key:(x,NameKind.free) ∈ scope.names) : ∃ c,(clOf scope env).lookup x=some c:=by
 have:=List.all_eq_true.mp S.free _ key
 have hs:(env.cells.lookup x).isSome=true:=by simpa using this
 obtain ⟨c,hc⟩:=Option.isSome_iff_exists.mp hs
 obtain ⟨d,hd⟩:=closL_has (cells:=env.cells) (names:=scope.names) (acc:=[]) (.inr ⟨key,c,hc⟩)
 exact lookup_mem hd
theorem CompScope.isC (S:CompScope env scope caps) {x:Str} (h:(x,NameKind.cell) ∈ scope.names):scope.names.lookup x=some .cell:=by
 have:=List.all_eq_true.mp S.cells _ h
 simpa using this
theorem CompScope.has (S:CompScope env scope caps) {x:Str} (n:Nat) (h:(relabel scope env).names.lookup x=some .cell∨(relabel scope env).names.lookup x=some .free) : ∃ c,(nclOf scope env n).lookup x=some c:=by
 have key:scope.names.lookup x=some .cell∨(x,NameKind.free) ∈ scope.names:=by
  rcases h with h|h
  ·obtain ⟨k',h1,h2⟩:=relabel_mem h
   rcases h2 with rfl|⟨rfl,_⟩
   ·exact .inl (S.isC h1)
   ·exact .inr h1
  ·obtain ⟨k',h1,h2⟩:=relabel_mem h
   rcases h2 with rfl|⟨_,h2⟩
   ·exact .inr h1
   ·cases h2
 refine Option.isSome_iff_exists.mp (PySem.W.cellsFrom_some scope.names n _ ?_)
 rcases key with k|k
 ·exact .inl k
 ·obtain ⟨c,hc⟩:=S.hasF k
  exact .inr (by rw [hc]; rfl)
theorem CompScope.look (S:CompScope env scope caps) {x:Str} {n:Nat} {c:Addr} (h:(nclOf scope env n).lookup x=some c):(n≤c∧(x,NameKind.cell) ∈ scope.names)∨env.cells.lookup x=some c:=by
 rcases cf_new h with q|q
 ·exact .inl q
 ·exact .inr (S.sub q)
end
def blk (X:Cx) (pins:List (Addr×Obj)) (scope:Scope) (N':List Str) (s3:Shared) (H:Hp) (ex:List Addr):Cx where
 prog:=X.prog
 w:=X.w
 K:=X.K
 mg:=X.mg
 base:=X.base
 A:=X.A
 N:=N'
 s₀:=s3
 H₀:=H
 env:=compEnvC scope (nclOf scope X.env (s3.heap.objs.size+1)) s3.heap.objs.size X.env
 outer:=X.stack
 stack:=X.stack
 ex:=ex
 fn:=fun x=>scope.names.lookup x==some .cell
 calm:=X.calm
 pn:=X.pn++pins
 xe:=fun _ _=>False
def capS (ix:List Nat) (k:Nat) (σ:St):St:=ix.map (fun i=>(σ[i]?).join)++List.replicate k none
def tComp (ix:List Nat) (k:Nat) (wi:TI) (g:TG) (te:TE):TE:=fun σ H Q=>wi σ H fun J H1 => ∃ W:Nat→Nat→List V→St→Hp→Prop,(∃ m,W 0 m [] (capS ix k σ) H1) ∧ ∀ i m ys σ1 H2,W i m ys σ1 H2 →
 (J.stop i H2∧ys.length≤sizeLine ∧ ∀ p,H2 p=none→Q (.ref p) (upd H2 p (.lst ys))) ∨
 (J.go i H2∧ys.length<sizeLine ∧ ∃ N:V→St→Hp→Prop,(∀ y σ2 H5,N y σ2 H5 → ∃ m',m'<m∧W (i+1) m' (ys++[y]) σ2 H5) ∧ ∀ x H3,J.yld i H2 x H3→g x σ1 H3 fun σ2 H4=>te σ2 H4 fun y H5=>N y σ2 H5)
theorem codeAny_compLoop_any {prog:Program} {w:World} {A:Around} {R:Result→Shared→Prop} {s:Shared} {elt target iter:Expr} {scope:Scope} {pos:Pos} {it acc:Value} {env:Env} (I:Nat→Shared→Prop)
 (turn : ∀ n s,I n s→wpAny (model prog w) A (pyNext it) (fun r s₁=>match r with
  | none=>R (.ok .next) s₁
  | some v=>wpAny (model prog w) A (letOwnedTupleGo target it v) (fun _ s₁'=>wpAny (model prog w) A (assign target env v) (fun _ s₂=>wpAny (model prog w) A (eval elt env) (fun x s₃ =>
   wpAny (model prog w) A (call (.builtin "list.append") [acc,x]) (fun _ s₄ => ∃ m,m<n∧I m s₄) (notedBy (model prog w) A env fun e s'=>R (.error e) s') s₃)
   (notedBy (model prog w) A env fun e s'=>R (.error e) s') s₂) (notedBy (model prog w) A env fun e s'=>R (.error e) s') s₁') (notedBy (model prog w) A env fun e s'=>R (.error e) s') s₁) (notedBy (model prog w) A env fun e s'=>R (.error e) s') s)
  (n:Nat) (h:I n s):codeAny (model prog w) A (.compLoop (.ListComp elt [⟨target,iter,[],0⟩] scope pos) 0 it acc env) R s:=by
  refine codeAny_loop rfl I (fun n s hI=>?_) n h
  show wpAny _ _ ((compTurn (.ListComp elt [⟨target,iter,[],0⟩] scope pos) 0 it acc env).onRaise (fun x=>do noteFrame x env; theTreesLotGoes x)) _ _ s
  refine wpAny_noted ?_
  rw [compTurn_list1]
  refine wpAny_bind (wpAny_standAt (wpAny_bind (wpAny_mono (turn n s hI) (fun r s₁ h₁=>?_) fun _ _ h'=>h')))
  cases r with
  | none=>exact wpAny_pure h₁
  | some v =>
   exact wpAny_bind (wpAny_mono h₁ (fun _ s₁' h₁'=>wpAny_bind (wpAny_mono h₁' (fun _ s₂ h₂=>wpAny_bind (wpAny_bind (wpAny_mono h₂ (fun x s₃ h₃=>wpAny_bind (wpAny_mono h₃
    (fun _ s₄ h₄=>wpAny_pure (wpAny_pure ⟨rfl,h₄⟩)) fun _ _ h'=>h')) fun _ _ h'=>h'))) fun _ _ h'=>h')) fun _ _ h'=>h')
section
variable {X:Cx} {elt target iter:Expr} {scope:Scope} {pos:Pos} {caps own:List Str} {ix:List Nat} {wi:TI} {g:TG} {te:TE}
def tYes:TT:=fun _ H Q=>Q true H
abbrev TstT:=Env→(Bool→Shared→Prop)→(Value→Shared→Prop)→Shared→Prop
def LoopR (prog:Program) (w:World) (A:Around) (elt target iter:Expr) (cs:List Expr) (scope:Scope) (pos:Pos) (Tst:TstT):Prop := ∀ {R:Result→Shared→Prop} {s:Shared} {it acc:Value} {env:Env} (I:Nat→Shared→Prop)
 (turn : ∀ n s,I n s→wpAny (model prog w) A (pyNext it) (fun r s₁=>match r with
  | none=>R (.ok .next) s₁
  | some v=>wpAny (model prog w) A (letOwnedTupleGo target it v) (fun _ s₁'=>wpAny (model prog w) A (assign target env v) (fun _ s₂=>Tst env (fun b s₂'=>match b with
   | true=>wpAny (model prog w) A (eval elt env) (fun x s₃ =>
    wpAny (model prog w) A (call (.builtin "list.append") [acc,x]) (fun _ s₄ => ∃ m,m<n∧I m s₄) (notedBy (model prog w) A env fun e s'=>R (.error e) s') s₃)
    (notedBy (model prog w) A env fun e s'=>R (.error e) s') s₂'
   | false => ∃ m,m<n∧I m s₂') (notedBy (model prog w) A env fun e s'=>R (.error e) s') s₂) (notedBy (model prog w) A env fun e s'=>R (.error e) s') s₁') (notedBy (model prog w) A env fun e s'=>R (.error e) s') s₁) (notedBy (model prog w) A env fun e s'=>R (.error e) s') s)
 (n:Nat) (h:I n s),codeAny (model prog w) A (.compLoop (.ListComp elt [⟨target,iter,cs,0⟩] scope pos) 0 it acc env) R s
theorem comp_core {cs:List Expr} {tt:TT} {Tst:TstT} (hloop:LoopR X.prog X.w X.A elt target iter cs scope pos Tst) (hc:X.calm=true) (S:CompScope X.env scope caps) (hi:PI X target iter wi)
 (hg : ∀ pins s3 H ex,PG (blk X pins scope (caps++own) s3 H ex) target g)
 (he : ∀ pins s3 H ex,PE (blk X pins scope (caps++own) s3 H ex) elt te)
 (htst : ∀ pins s3 H ex pins' s σ H' Qb P E,Inv (blk X pins scope (caps++own) s3 H ex) pins' σ H' s→tt σ H' Qb→(∀ b s' H'',Inv (blk X pins scope (caps++own) s3 H ex) pins' σ H'' s'→Qb b H''→P b s')→Tst (blk X pins scope (caps++own) s3 H ex).env P E s)
 (hix:caps.length=ix.length) (hcapB:(caps.zip ix).all (fun p=>X.N[p.2]?==some p.1)=true)
 (hs : ∀ x,foldedSetIterable iter X.env x=pure x) {use:Option (Value→Sem Unit)} {Q0:Value→Shared→Prop} {Qv:VK} {pins:List (Addr×Obj)} {s:Shared} {σ:St} {H:Hp} {pos':Pos} (I:Inv X pins σ H s) {Inner:It→Hp→Prop} (h:wi σ H Inner)
 (hin : ∀ J H1,Inner J H1 → ∃ W:Nat→Nat→List V→St→Hp→Prop,(∃ m,W 0 m [] (capS ix own.length σ) H1) ∧ ∀ i m ys σ1 H2,W i m ys σ1 H2 →
 (J.stop i H2∧ys.length≤sizeLine ∧ ∀ p,H2 p=none→Qv (.ref p) (upd H2 p (.lst ys))) ∨
 (J.go i H2∧ys.length<sizeLine ∧ ∃ (N:V→St→Hp→Prop) (N0:St→Hp→Prop),(∀ y σ2 H5,N y σ2 H5 → ∃ m',m'<m∧W (i+1) m' (ys++[y]) σ2 H5)∧(∀ σ2 H5,N0 σ2 H5 → ∃ m',m'<m∧W (i+1) m' ys σ2 H5) ∧
 ∀ x H3,J.yld i H2 x H3→g x σ1 H3 fun σ2 H4=>tt σ2 H4 fun b H5=>match b with|true=>te σ2 H5 fun y H6=>N y σ2 H6|false=>N0 σ2 H5))
 (fin : ∀ (D C:Addr) (s6:Shared) (H6:Hp) (m6:Str→Option Value),s6.heap.Ns C m6→Inv X pins σ H6 s6→H6 C=none→C≠X.env.locals→C ∉ X.fs→(C ∈ X.ex∨X.s₀.heap.objs.size≤C)→(∀ x c,X.env.cells.lookup x=some c→c≠C)→(∀ p ∈ X.pn++pins,p.1≠C)→Qv (.ref D) H6 →
 compPost (model X.prog X.w) X.A X.xe use Q0 (.ref D) C (.ok .next) s6) :
 wpAny (model X.prog X.w) X.A (comprehension (.ListComp elt [⟨target,iter,cs,0⟩] scope pos) scope X.env pos' (newList []) false (eval iter X.env) use) Q0 X.xe s:=by
  have hcap : ∀ (j:Nat) (x:Str) (i:Nat),caps[j]?=some x→ix[j]?=some i→X.N[i]?=some x:=fun j x i h1 h2=>by
   have hm:(x,i) ∈ caps.zip ix:=by
    have:(caps.zip ix)[j]?=some (x,i):=by rw [List.getElem?_zip_eq_some]; exact ⟨h1,h2⟩
    exact List.mem_of_getElem? this
   have:=List.all_eq_true.mp hcapB _ hm
   simpa using this
  have hnm : ∀ y ∈ scope.names,y.2 = .local→scope.names.lookup y.1=some .local:=fun y hy hl=>by
   have:=List.all_eq_true.mp S.names y hy
   rw [hl] at this
   simpa using this
  refine wpAny_comprehension_free (use:=use) rfl hs S.clos S.kind hnm (thn (hi pins s σ H _ I h) fun v s1 h1=>thn h1 fun itv s2 h2=>?_)
  obtain ⟨it,fp,tn,J,H2,e,I2,T,st2,f2,hJ⟩:=h2
  obtain ⟨W,⟨m0,w0⟩,turn⟩:=hin J H2 hJ
  subst e
  refine wpAny_newObj_type (nfe_cells ?_)
  dsimp only
  generalize eh0:s2.heap.push { cls :=.type "list",data :=.seq #[] }=h3
  have hns₁:(pushCells (h3.push { cls :=.type "dict",data :=.dict #[] }) scope.names).Ns h3.objs.size (fun _=>none):=(Heap.Ns.new h3 (.type "dict")).keeps (pushCells_keeps _ _)
  have hkp : ∀ b o,h3.get? b=some o→(pushCells (h3.push { cls :=.type "dict",data :=.dict #[] }) scope.names).get? b=some o:=fun b o q=>pushCells_keeps _ _ b o (Heap.get?_push_of_some _ q)
  have hcl₁ : ∀ x c,(nclOf scope X.env (h3.objs.size+1)).lookup x=some c→(clOf scope X.env).lookup x=some c∨(pushCells (h3.push { cls :=.type "dict",data :=.dict #[] }) scope.names).IsCell c none:=fun x c q=>by
   refine cf_cell (h:=h3.push { cls :=.type "dict",data :=.dict #[] }) ?_
   rw [Heap.size_push]; exact q
  generalize pushCells (h3.push { cls :=.type "dict",data :=.dict #[] }) scope.names=h₁ at hns₁ hkp hcl₁ ⊢
  obtain ⟨s3,hs3⟩ : ∃ s3:Shared,s3={ s2 with heap:=h3 }:=⟨_,rfl⟩
  have e3:h3=s3.heap:=by rw [hs3]
  subst e3
  have eh:s3.heap=s2.heap.push { cls :=.type "list",data :=.seq ([]:List Value).toArray }:=eh0.symm
  have hC:s3.heap.objs.size=s2.heap.objs.size+1:=by rw [eh,Heap.size_push]
  have hDlt:s2.heap.objs.size<s3.heap.objs.size:=by omega
  have k23 : ∀ b o,s2.heap.get? b=some o→s3.heap.get? b=some o:=fun b o q=>by rw [eh]; exact Heap.get?_push_of_some _ q
  have hD3:s3.heap.get? s2.heap.objs.size=some { cls :=.type "list",data :=.seq ([]:List Value).toArray }:=by rw [eh]; exact Heap.get?_push_size _ rfl
  have I3:Inv X pins σ H2 s3:=by rw [hs3]; exact I2.kept (t':=s2.toks) k23
  have k34 : ∀ b o,s3.heap.get? b=some o→h₁.get? b=some o:=hkp
  have fpl : ∀ b ∈ fp,b<s2.heap.objs.size:=fun b hb=>by
   obtain ⟨o,q,_⟩:=T.obj 0 _ st2 b hb
   exact Heap.lt_size q
  have cel : ∀ x c,X.env.cells.lookup x=some c→c<s2.heap.objs.size:=fun x c q=>by
   obtain ⟨v,o,z,_⟩:=I2.cell x c q
   exact Heap.lt_size z
  have ncl : ∀ x c,(nclOf scope X.env (s3.heap.objs.size+1)).lookup x=some c→X.env.cells.lookup x=some c∨s3.heap.objs.size<c:=fun x c q=>(S.look q).elim (fun z => .inr z.1) .inl
  have pnl : ∀ p ∈ X.pn++pins,p.1<s2.heap.objs.size:=fun p hp=>Heap.lt_size (I2.pin p hp).1
  have hDn:H2 s2.heap.objs.size=none:=I2.hok.fresh (Nat.le_refl _)
  have ok:(blk X pins scope (caps++own) s3 H2 (s2.heap.objs.size::fp)).Ok:=by
   refine ⟨I2.mod,S.kind,I2.ok.glob,I2.ok.blt,Nat.le_refl _,fun x y c h1 h2=>?_,fun x hx=>S.has _ hx,fun x c hf q=>?_,I2.ok.hd,I2.ok.frames,.inl rfl,fun b hb=>?_,I3.bs,?_,fun b o q hb=>?_,fun b hb=>?_,I3.stack,I3.stkFree⟩
   ·rcases ncl x c h1 with q1|q1
    ·rcases ncl y c h2 with q2|q2
     ·exact I2.ok.inj x y c q1 q2
     ·exact absurd (Nat.lt_trans (cel x c q1) hDlt) (Nat.not_lt.mpr (Nat.le_of_lt q2))
    ·exact cf_inj (n:=s3.heap.objs.size+1) (acc:=clOf scope X.env) (fun z a q=>Nat.lt_succ_of_lt (Nat.lt_trans (cel z a (S.sub q)) hDlt)) q1 h1 h2
   ·exact Nat.le_trans (Nat.le_succ _) (cf_above (lo:=s3.heap.objs.size+1) (Nat.le_refl _) (.inl (mem_lookup (beq_iff_eq.mp hf))) q)
   ·have hb':b=s2.heap.objs.size∨b ∈ fp:=List.mem_cons.mp hb
    rcases hb' with rfl|hb'
    ·exact ⟨Nat.ne_of_lt hDlt,fun x c q=>(ncl x c q).elim (fun z=>Nat.ne_of_lt (cel x c z)) fun z=>Nat.ne_of_gt (Nat.lt_trans hDlt z)⟩
    ·exact ⟨Nat.ne_of_lt (Nat.lt_trans (fpl b hb') hDlt),fun x c q=>(ncl x c q).elim (fun z=>(f2 b hb').2.2.2.2.1 x c z) fun z=>Nat.ne_of_gt (Nat.lt_trans (fpl b hb') (Nat.lt_trans hDlt z))⟩
   ·exact Nat.le_trans I2.ok.bsz I3.sz
   ·have hlt:b<X.base.objs.size:=Heap.lt_size q
    have hb':b=s2.heap.objs.size∨b ∈ fp:=List.mem_cons.mp hb
    have h1:=I2.ok.bsz
    have h2:=I2.sz
    rcases hb' with rfl|hb'
    ·exact absurd hlt (Nat.not_lt.mpr (Nat.le_trans h1 h2))
    ·rcases (f2 b hb').2.2.2.1 with z|z
     ·exact I2.ok.noex b o q z
     ·exact absurd hlt (Nat.not_lt.mpr (Nat.le_trans h1 z))
   ·have hb':b=s2.heap.objs.size∨b ∈ fp:=List.mem_cons.mp hb
    intro z
    have z':=I2.stkSub b z
    rcases hb' with rfl|hb'
    ·rcases List.mem_cons.mp z' with z'|z'
     ·exact Nat.ne_of_gt I2.lt z'
     ·exact I2.nofs (Nat.le_refl _) z'
    ·rcases List.mem_cons.mp z' with z'|z'
     ·exact (f2 b hb').2.1 z'
     ·exact (f2 b hb').2.2.1 z'
  have len0:(capS ix own.length σ).length=(caps++own).length:=by unfold capS; simp [hix]
  have I4:Inv (blk X pins scope (caps++own) s3 H2 (s2.heap.objs.size::fp)) [] (capS ix own.length σ) H2 { s2 with heap:=h₁ }:=by
   obtain ⟨mX,nsX,lkX⟩:=I3.loc
   refine ⟨ok,(by show s2.os=s3.os; rw [hs3]),I2.bare,Un.kept k34,⟨_,hns₁,fun j x v h1 h2 h3=>?_⟩,fun x c q=>?_,I3.hok.fresh (Nat.le_refl _),fun x c q=>(ncl x c q).elim (fun z=>I3.freeC x c z) fun z=>I3.hok.fresh (Nat.le_of_lt z),fun p hp=>?_,I3.hok.kept k34,len0⟩
   ·-- a captured name
    have hj:j<ix.length:=by
     unfold capS at h2
     by_cases hj:j<ix.length
     ·exact hj
     ·rw [List.getElem?_append_right (by simpa using hj),List.getElem?_replicate] at h2
      split at h2 <;> cases h2
    have h1':caps[j]?=some x:=by
     have:(caps++own)[j]?=some x:=h1
     rwa [List.getElem?_append_left (by omega)] at this
    have hij:ix[j]?=some ix[j]:=List.getElem?_eq_getElem hj
    have hv:σ[ix[j]]?=some (some v):=by
     unfold capS at h2
     rw [List.getElem?_append_left (by simpa using hj),List.getElem?_map,hij] at h2
     have h2':(σ[ix[j]]?).join=some v:=by simpa using h2
     cases q:σ[ix[j]]? with
     | none=>rw [q] at h2'; cases h2'
     | some o=>rw [q] at h2'; cases o with
      | none=>cases h2'
      | some y=>have:y=v:=by simpa using h2'
                rw [this]
    have hk:=List.all_eq_true.mp S.cap x (List.mem_of_getElem? h1')
    obtain ⟨k1,k2⟩:=Bool.and_eq_true_iff.mp hk
    have k1':scope.names.lookup x=some .free:=by simpa using k1
    have k2':X.env.scope.names.lookup x=some .cell∨X.env.scope.names.lookup x=some .free:=by simpa using k2
    obtain ⟨u,ru,lk⟩:=lkX ix[j] x v (hcap j x _ h1' hij) hv (k2'.elim (fun z => .inr (.inl z)) (fun z => .inr (.inr z)))
    refine ⟨u,ru,?_⟩
    have hrel:(relabel scope X.env).names.lookup x=some .cell∨(relabel scope X.env).names.lookup x=some .free:=by
     rcases h3 with h3|h3|h3
     ·have h3':(relabel scope X.env).names.lookup x=some NameKind.local:=h3
      obtain ⟨k',m1,m2⟩:=relabel_mem h3'
      rcases m2 with rfl|⟨_,m2⟩
      ·have:=hnm _ m1 rfl
       rw [k1'] at this; cases this
      ·cases m2
     ·exact .inl h3
     ·exact .inr h3
    have hxc:(x,NameKind.cell) ∉ scope.names:=fun z=>by
     have:=S.isC z
     rw [k1'] at this; cases this
    obtain ⟨c,hcl⟩:=S.hasF (mem_lookup k1')
    have hcl':(nclOf scope X.env (s3.heap.objs.size+1)).lookup x=some c:=(cf_old hxc).trans hcl
    rcases lk with ⟨kl,_⟩|⟨_,c',ec,ic⟩
    ·have kl':X.env.scope.names.lookup x=some .local:=kl
     rcases k2' with z|z <;> (rw [kl'] at z; cases z)
    ·have:=S.sub hcl
     have ee:c'=c:=by rw [ec] at this; exact Option.some.inj this
     exact .inr ⟨hrel,c,hcl',ee ▸ ic.keeps k34⟩
   ·rcases hcl₁ x c q with z|z
    ·obtain ⟨v,ic⟩:=I3.cell x c (S.sub z)
     exact ⟨v,ic.keeps k34⟩
    ·exact ⟨_,z⟩
   ·have hp':p ∈ X.pn++pins:=by simpa [blk] using hp
    obtain ⟨q1,q2,q3,q4,q5⟩:=I3.pin p hp'
    refine ⟨k34 _ _ q1,q2,Nat.ne_of_lt (Nat.lt_trans (pnl p hp') hDlt),fun z=>?_,q5⟩
    rcases List.mem_cons.mp (I3.stkSub p.1 z) with z'|z'
    ·exact q3 z'
    ·exact q4 z'
  have hD4:h₁.get? s2.heap.objs.size=some { cls :=.type "list",data :=.seq ([]:List Value).toArray }:=k34 _ _ hD3
  have st4:tn 0 h₁:=T.keep _ _ _ st2 fun b _ o q=>k34 b o (k23 b o q)
  have fpk : ∀ {H':Hp} {ob:Obj},(∀ b ∈ fp,H' b=none) → ∀ b ∈ fp,FpOk (blk X pins scope (caps++own) s3 H2 (s2.heap.objs.size::fp)) [(s2.heap.objs.size,ob)] H' b:=fun {H' ob} hn b hb=>by
   obtain ⟨_,a1,a2,a3,a4,a5⟩:=f2 b hb
   refine ⟨hn b hb,Nat.ne_of_lt (Nat.lt_trans (fpl b hb) hDlt),fun z=>?_,.inl (List.mem_cons_of_mem _ hb),fun x c q=>(ncl x c q).elim (fun z=>a4 x c z) fun z=>Nat.ne_of_gt (Nat.lt_trans (fpl b hb) (Nat.lt_trans hDlt z)),fun p hp=>?_⟩
   ·rcases List.mem_cons.mp (I2.stkSub b z) with z'|z'
    ·exact a1 z'
    ·exact a2 z'
   ·have hp':p ∈ X.pn++pins∨p=(s2.heap.objs.size,ob):=by simpa [blk,or_assoc] using hp
    rcases hp' with hp'|rfl
    ·exact a5 p hp'
    ·exact Nat.ne_of_gt (fpl b hb)
  have loop : ∀ s5:Shared,s5=({ s2 with heap:=h₁ }:Shared) →
   codeAny (model X.prog X.w) X.A (.compLoop (.ListComp elt [⟨target,iter,cs,0⟩] scope pos) 0 (.ref it) (.ref s2.heap.objs.size) (compEnvC scope (nclOf scope X.env (s3.heap.objs.size+1)) s3.heap.objs.size X.env))
    (compPost (model X.prog X.w) X.A X.xe use Q0 (.ref s2.heap.objs.size) s3.heap.objs.size) s5:=by
   rintro s5 rfl
   refine hloop (fun n s' => ∃ i ys its cp σ' H',Inv (blk X pins scope (caps++own) s3 H2 (s2.heap.objs.size::fp)) [] σ' H' s'∧tn i s'.heap∧(∀ b ∈ fp,H' b=none)∧H' s2.heap.objs.size=none ∧
    s'.heap.get? s2.heap.objs.size=some { cls :=.type "list",data :=.seq (its:List Value).toArray cp }∧Vals ys its∧W i n ys σ' H') ?_ m0 ⟨0,[],[],_,_,H2,I4,st4,fun b hb=>(f2 b hb).1,hDn,hD4,.nil,w0⟩
   rintro n s5 ⟨i,ys,its,cp,σ5,H5,I5,st5,fr5,hD5,gD5,rv5,w5⟩
   have Dfs:s2.heap.objs.size ∉ (blk X pins scope (caps++own) s3 H2 (s2.heap.objs.size::fp)).fs:=fun z=>by
    rcases List.mem_cons.mp (I2.stkSub _ z) with z'|z'
    ·exact Nat.ne_of_gt I2.lt z'
    ·exact I2.nofs (Nat.le_refl _) z'
   have I5':Inv (blk X pins scope (caps++own) s3 H2 (s2.heap.objs.size::fp)) [(s2.heap.objs.size,{ cls :=.type "list",data :=.seq its.toArray cp })] σ5 H5 s5:=by
    refine I5.pins_of fun p hp=>?_
    have hp':p ∈ (blk X pins scope (caps++own) s3 H2 (s2.heap.objs.size::fp)).pn++[]∨p=(s2.heap.objs.size,{ cls :=.type "list",data :=.seq its.toArray cp }):=by
     first
      | exact .inr (List.mem_singleton.mp hp)
      | (rcases List.mem_append.mp hp with z|z
         ·exact .inl (List.mem_append_left _ z)
         ·exact .inr (List.mem_singleton.mp z))
    rcases hp' with z|rfl
    ·exact I5.pin p z
    ·exact ⟨gD5,hD5,Nat.ne_of_lt hDlt,Dfs,fun v z=>by cases z⟩
   rcases turn i n ys σ5 H5 w5 with ⟨stop,hz,qn⟩|⟨go,hz,N,N0,hN,hN0,step⟩
   ·refine thn (T.done (blk X pins scope (caps++own) s3 H2 (s2.heap.objs.size::fp)) rfl rfl rfl hc i _ s5 σ5 H5 _ I5' (fpk fr5) st5 stop) fun r s6 ⟨hr,I6⟩=>?_
    subst hr
    obtain ⟨m6,ns6,_⟩:=id I6.loc
    have gD6:=(I6.pin _ (List.mem_append_right _ (List.mem_singleton.mpr rfl))).1
    have kC : ∀ b o,b≠s3.heap.objs.size→s6.heap.get? b=some o→s6.heap.get? b=some o:=fun b o _ q=>q
    have bne : ∀ b o,s2.heap.get? b=some o→b≠s3.heap.objs.size:=fun b o q=>Nat.ne_of_lt (Nat.lt_trans (Heap.lt_size q) hDlt)
    have bnD : ∀ b o,s2.heap.get? b=some o→b≠s2.heap.objs.size:=fun b o q=>Nat.ne_of_lt (Heap.lt_size q)
    have nC : ∀ b u,H5 b=some u→b≠s3.heap.objs.size:=fun b u q z=>by
     have z1:H5 s3.heap.objs.size=none:=I6.free
     rw [z,z1] at q; cases q
    have U:=I6.base
    have IX:Inv X pins σ (upd H5 s2.heap.objs.size (.lst ys)) s6:=by
     refine I2.call' (ch:=s2.heap.objs.size::fp) ?_ ?_ ?_ I6.bare ?_
     ·show s6.os=s2.os
      rw [I6.os]; show s3.os=s2.os; rw [hs3]
     ·refine ⟨fun b o q n hb hx=>kC b o (bne b o q) (U.keep b o (k23 b o q) n hb hx),fun b o q n hb hx=>?_,fun b o q n hx=>?_,fun b o q hx=>?_,fun b xs q=>?_,fun b o u q=>?_,fun b ps q=>?_⟩
      ·obtain ⟨sl,z⟩:=U.slot b o (k23 b o q) n hb hx
       exact ⟨sl,kC b _ (bne b o q) z⟩
      ·rw [upd_ne (bnD b o q)]; exact U.free b o (k23 b o q) n hx
      ·obtain ⟨o',z⟩:=U.there b o (k23 b o q) hx
       exact ⟨o',kC b _ (bne b o q) z⟩
      ·have:=U.tups b xs q
       rw [upd_ne (ne_of_none this hD5)]; exact this
      ·have:=U.frzs b o u q
       rw [upd_ne (ne_of_none this hD5)]; exact this
      ·obtain ⟨more,z⟩:=U.tbls b ps q
       exact ⟨more,by rw [upd_ne (ne_of_none z hD5)]; exact z⟩
     ·intro b u q
      by_cases hb:b=s2.heap.objs.size
      ·subst hb
       rw [upd_same] at q
       cases q
       exact ⟨hz,its,cp,rv5,kC _ _ (Nat.ne_of_lt hDlt) gD6⟩
      ·rw [upd_ne hb] at q
       refine (I6.hok b u q).stay (fun c ob hc z=>kC c ob ?_ z) (fun c z=>by rw [upd_ne (ne_of_none z hD5)]; exact z) fun c xs z=>by rw [upd_ne (ne_of_none z hD5)]; exact z
       rcases hc with hc|hc
       ·rw [hc]; exact nC b u q
       ·exact nC c _ hc
     ·intro b hb
      have hb':b=s2.heap.objs.size∨b ∈ fp:=List.mem_cons.mp hb
      rcases hb' with rfl|hb'
      ·exact ⟨.inr I2.sz,Nat.ne_of_gt I2.lt,fun x c q=>Nat.ne_of_lt (cel x c q),fun p hp=>Nat.ne_of_lt (pnl p hp)⟩
      ·obtain ⟨_,a1,_,a3,a4,a5⟩:=f2 b hb'
       exact ⟨a3,a1,a4,a5⟩
    have hCH:(upd H5 s2.heap.objs.size (.lst ys)) s3.heap.objs.size=none:=by
     rw [upd_ne (Nat.ne_of_gt hDlt)]; exact I6.free
    exact fin _ _ s6 _ m6 ns6 IX hCH (Nat.ne_of_gt (Nat.lt_trans I2.lt hDlt)) (I2.nofs (Nat.le_of_lt hDlt)) (.inr (Nat.le_trans I2.sz (Nat.le_of_lt hDlt))) (fun x c q=>Nat.ne_of_lt (Nat.lt_trans (cel x c q) hDlt)) (fun p hp=>Nat.ne_of_lt (Nat.lt_trans (pnl p hp) hDlt)) (qn _ hD5)
   ·refine thn (T.item (blk X pins scope (caps++own) s3 H2 (s2.heap.objs.size::fp)) rfl rfl rfl hc i _ s5 σ5 H5 _ I5' (fpk fr5) st5 go) fun r s6 ⟨u,hr,h6⟩=>?_
    subst hr
    refine thn h6 fun _ s7 xx69=>?_
    obtain ⟨x,H7,I7,r7,y7,st7,fr7⟩:=xx69
    have I7':=I7.pinned (fpk fr7) (T.obj _ _ st7)
    refine wpAny_mono (hg pins s3 H2 _ _ s7 σ5 H7 x u _ I7' r7 (step x H7 y7)) (fun _ s8 xx68=>?_) fun _ _ z=>z.elim
    obtain ⟨σ8,H8,I8,q8⟩:=xx68
    refine htst pins s3 H2 _ _ s8 σ8 H8 _ _ _ I8 q8 fun bt s8' H8' I8' q8'=>?_
    cases bt with
    | false =>
     have q9:N0 σ8 H8':=q8'
     obtain ⟨m',hm',w9⟩:=hN0 σ8 H8' q9
     have gD9:=(I8'.pin (s2.heap.objs.size,{ cls :=.type "list",data :=.seq its.toArray cp }) (List.mem_append_right _ (List.mem_append_left _ (List.mem_singleton.mpr rfl))))
     have pin8 : ∀ b ∈ fp,∀ o,s7.heap.get? b=some o→s8'.heap.get? b=some o∧H8' b=none:=fun b hb o q=>by
      have z:=I8'.pin (b,o) (List.mem_append_right _ (List.mem_append_right _ (mem_pinsAt hb q)))
      exact ⟨z.1,z.2.1⟩
     refine ⟨m',hm',i+1,ys,its,cp,σ8,H8',?_,?_,fun b hb=>?_,gD9.2.1,gD9.1,rv5,w9⟩
     ·exact (I8'.pins_of (pins':=[]) (fun p hp=>by
       first
        | exact absurd hp (by simp)
        | (rw [List.append_nil] at hp; exact I8'.pin p (List.mem_append_left _ hp))))
     ·exact T.keep _ _ _ st7 fun b hb o q=>(pin8 b hb o q).1
     ·obtain ⟨o,q,_⟩:=T.obj _ _ st7 b hb
      exact (pin8 b hb o q).2
    | true =>
     refine wpAny_mono (he pins s3 H2 _ _ s8' σ8 H8' _ I8' q8') (fun uy s9 xx67=>?_) fun _ _ z=>z.elim
     obtain ⟨y,H9,I9,r9,n9⟩:=xx67
     obtain ⟨m',hm',w9⟩:=hN y σ8 H9 n9
     have gD9:=(I9.pin (s2.heap.objs.size,{ cls :=.type "list",data :=.seq its.toArray cp }) (List.mem_append_right _ (List.mem_append_left _ (List.mem_singleton.mpr rfl))))
     have pin9 : ∀ b ∈ fp,∀ o,s7.heap.get? b=some o→s9.heap.get? b=some o∧H9 b=none:=fun b hb o q=>by
      have z:=I9.pin (b,o) (List.mem_append_right _ (List.mem_append_right _ (mem_pinsAt hb q)))
      exact ⟨z.1,z.2.1⟩
     have hl9:=rv5.length
     refine call_meets PySem.F.slot_list_append ⟨_,gD9.1,rfl⟩ PySem.F.entry_list_append (PySem.F.args_list_append_2 _ _) (PySem.list_append s2.heap.objs.size its.toArray cp uy (by rw [List.size_toArray]; omega)) ⟨gD9.1,?_⟩
     have qD:=PySem.IsL.update gD9.1 (fun xs=>xs.push uy)
     have ep:its.toArray.push uy=(its++[uy]).toArray:=by simp
     rw [ep] at qD
     have up : ∀ b o,b≠s2.heap.objs.size→s9.heap.get? b=some o→(s9.heap.update s2.heap.objs.size (Obj.mapSeq fun xs=>xs.push uy)).get? b=some o:=fun b o hb q=>(Heap.get?_update_other s9.heap _ (Ne.symm hb)).trans q
     refine ⟨m',hm',i+1,ys++[y],its++[uy],_,σ8,H9,?_,?_,fun b hb=>?_,gD9.2.1,qD,rv5.append (.cons r9 .nil),w9⟩
     ·refine (I9.pins_of (pins':=[]) (fun p hp=>by
       first
        | exact absurd hp (by simp)
        | (rw [List.append_nil] at hp; exact I9.pin p (List.mem_append_left _ hp)))).turned (it:=s2.heap.objs.size) up gD9.2.1 (Nat.ne_of_lt hDlt) (.inl (List.mem_cons_self ..)) (fun x c q=>(ncl x c q).elim (fun z=>Nat.ne_of_lt (cel x c z)) fun z=>Nat.ne_of_gt (Nat.lt_trans hDlt z)) fun p hp=>?_
      have hp':p ∈ X.pn++pins:=by simpa [blk] using hp
      exact Nat.ne_of_lt (pnl p hp')
     ·exact T.keep _ _ _ st7 fun b hb o q=>up b o (Nat.ne_of_lt (fpl b hb)) (pin9 b hb o q).1
     ·obtain ⟨o,q,_⟩:=T.obj _ _ st7 b hb
      exact (pin9 b hb o q).2
  exact codeAny_compStart_list (loop _ rfl) (T.self _ 0 _ _ _ st4 (loop _ rfl))
theorem comp_core0 (hc:X.calm=true) (S:CompScope X.env scope caps) (hi:PI X target iter wi)
 (hg : ∀ pins s3 H ex,PG (blk X pins scope (caps++own) s3 H ex) target g)
 (he : ∀ pins s3 H ex,PE (blk X pins scope (caps++own) s3 H ex) elt te)
 (hix:caps.length=ix.length) (hcapB:(caps.zip ix).all (fun p=>X.N[p.2]?==some p.1)=true)
 (hs : ∀ x,foldedSetIterable iter X.env x=pure x) {use:Option (Value→Sem Unit)} {Q0:Value→Shared→Prop} {Qv:VK} {pins:List (Addr×Obj)} {s:Shared} {σ:St} {H:Hp} {pos':Pos} (I:Inv X pins σ H s) (h:tComp ix own.length wi g te σ H Qv)
 (fin : ∀ (D C:Addr) (s6:Shared) (H6:Hp) (m6:Str→Option Value),s6.heap.Ns C m6→Inv X pins σ H6 s6→H6 C=none→C≠X.env.locals→C ∉ X.fs→(C ∈ X.ex∨X.s₀.heap.objs.size≤C)→(∀ x c,X.env.cells.lookup x=some c→c≠C)→(∀ p ∈ X.pn++pins,p.1≠C)→Qv (.ref D) H6 →
 compPost (model X.prog X.w) X.A X.xe use Q0 (.ref D) C (.ok .next) s6) :
 wpAny (model X.prog X.w) X.A (comprehension (.ListComp elt [⟨target,iter,[],0⟩] scope pos) scope X.env pos' (newList []) false (eval iter X.env) use) Q0 X.xe s:=by
  refine comp_core (cs:=[]) (tt:=tYes) (Tst:=fun _ P _ s=>P true s) (fun J turn n h=>codeAny_compLoop_any J turn n h) hc S hi hg he (fun _ _ _ _ _ s _ H' _ _ _ I q k=>k true s H' I q) hix hcapB hs I h (fun J H1 z=>?_) fin
  obtain ⟨W,w0,turn⟩:=z
  refine ⟨W,w0,fun i m ys σ1 H2 w=>?_⟩
  rcases turn i m ys σ1 H2 w with z|z
  ·exact .inl z
  ·obtain ⟨go,hz,N,hN,step⟩:=z
   exact .inr ⟨go,hz,N,fun _ _=>False,hN,fun _ _ z=>z.elim,step⟩
theorem pe_comp (hc:X.calm=true) (S:CompScope X.env scope caps) (hi:PI X target iter wi)
 (hg : ∀ pins s3 H ex,PG (blk X pins scope (caps++own) s3 H ex) target g)
 (he : ∀ pins s3 H ex,PE (blk X pins scope (caps++own) s3 H ex) elt te)
 (hix:caps.length=ix.length:=by rfl) (hcapB:(caps.zip ix).all (fun p=>X.N[p.2]?==some p.1)=true:=by rfl)
  (hs : ∀ x,foldedSetIterable iter X.env x=pure x:=by intro _; rfl):PE X (.ListComp elt [⟨target,iter,[],0⟩] scope pos) (tComp ix own.length wi g te):=by
  intro pins s σ H Q I h
  rw [eval_ListComp]
  exact comp_core0 (use:=none) (Q0:=EP X pins σ Q) hc S hi hg he hix hcapB hs I h fun D C s6 H6 m6 ns6 IX c1 c2 c3 c4 c5 c6 q=>⟨m6,ns6,fun h' sb=>⟨.ref D,H6,IX.turned (t':=s6.toks) (it:=C) (fun b o hb q=>sb.extBut b o hb q) c1 c2 c4 c5 c6,rfl,q⟩⟩
end
end L2
namespace L2
open PySem PySem.Spec PyProof.Rows
inductive Sl where
 | non
 | val (d:PyData)
 | own (ds:List PyData)
 | pen (ds:List PyData)
 | new (d:PyData)
 | exc (C:Addr)
  | obj (a C:Addr) (nm:List Str) (fs:List (Str×PyData))
abbrev Sto:=List Sl
def gS:Sto→Nat→Sl
 | [],_ => .non
 | s::_,0=>s
 | _::r,i+1=>gS r i
def Sl.mut:Sl→Bool
 | .own _=>true
 | .pen _=>true
 | _=>false
def vS (σ:St) (i:Nat):Option V:=(σ[i]?).join
theorem gS_set : ∀ (e:Sto) (i j:Nat) (s:Sl),gS (e.set i s) j=if i=j∧i<e.length then s else gS e j
 | [],i,j,s=>by simp [gS]
 | x::e,0,0,s=>by simp [gS]
 | x::e,0,j+1,s=>by simp [gS]
 | x::e,i+1,0,s=>by simp [gS]
 | x::e,i+1,j+1,s=>by
  simp only [List.set_cons_succ,gS,gS_set e i j s,List.length_cons,Nat.add_right_cancel_iff,Nat.add_lt_add_iff_right]
theorem gS_out : ∀ {e:Sto} {i:Nat},e.length≤i→gS e i = .non
 | [],_,_=>by simp [gS]
 | x::e,0,h=>by simp at h
 | x::e,i+1,h=>by simp only [gS]; exact gS_out (by simpa using h)
theorem vS_set (σ:St) (i j:Nat) (v:Option V):vS (σ.set i v) j=if i=j∧i<σ.length then v else vS σ j:=by
 unfold vS
 rw [List.getElem?_set]
 by_cases h:i=j
 ·subst h
  by_cases h2:i<σ.length
  ·simp [h2]
  ·simp [h2]
 ·simp [h]
theorem vS_some {σ:St} {i:Nat} {v:V} (h:vS σ i=some v):σ[i]?=some (some v):=by
 unfold vS at h
 cases e:σ[i]? with
 | none=>rw [e] at h; cases h
 | some o=>rw [e] at h; cases o with
  | none=>cases h
  | some u=>simpa using h
structure Frm where
 B:Hp
 He:Hp
 F0:Hp
mutual
def IsN (K:PySem.W.Frag) (H:Hp):PyData→V→Prop
 | .none,v=>v = .non
 | .bool b,v=>v = .bl b
 | .int i,v=>v = .int i
 | .str x,v=>v = .str x
 | .list l,v => ∃ a xs,v = .ref a∧H a=some (.lst xs)∧IssN K H l xs
 | .tuple l,v => ∃ a xs,v = .ref a∧H a=some (.tup xs)∧IssN K H l xs
 | .dict _,_=>False
def IssN (K:PySem.W.Frag) (H:Hp):List PyData→List V→Prop
 | [],xs=>xs=[]
 | d::l,xs => ∃ x r,xs=x::r∧IsN K H d x∧IssN K H l r
end
mutual
theorem IsN.is {K:PySem.W.Frag} {H H':Hp} (s:Same H H') : ∀ {d:PyData} {v:V},IsN K H d v→Is K H' d v
 | .none,_,h=>by unfold IsN at h; unfold Is; exact h
 | .bool _,_,h=>by unfold IsN at h; unfold Is; exact h
 | .int _,_,h=>by unfold IsN at h; unfold Is; exact h
 | .str _,_,h=>by unfold IsN at h; unfold Is; exact h
 | .list l,_,h=>by
  unfold IsN at h; unfold Is
  obtain ⟨a,xs,e,q,r⟩:=h
  exact ⟨a,xs,e,SqL.of (s _ _ q),IssN.is s r⟩
 | .tuple l,_,h=>by
  unfold IsN at h; unfold Is
  obtain ⟨a,xs,e,q,r⟩:=h
  exact ⟨a,xs,e,SqT.of (s _ _ q),IssN.is s r⟩
 | .dict _,_,h=>by unfold IsN at h; exact h.elim
theorem IssN.is {K:PySem.W.Frag} {H H':Hp} (s:Same H H') : ∀ {l:List PyData} {xs:List V},IssN K H l xs→Iss K H' l xs
 | [],_,h=>by unfold IssN at h; unfold Iss; exact h
 | d::l,_,h=>by
  unfold IssN at h; unfold Iss
  obtain ⟨x,r,e,p,q⟩:=h
  exact ⟨x,r,e,IsN.is s p,IssN.is s q⟩
end
mutual
theorem IsN.mono {K:PySem.W.Frag} {H H':Hp} (s:Same H H') : ∀ {d:PyData} {v:V},IsN K H d v→IsN K H' d v
 | .none,_,h=>by unfold IsN at h ⊢; exact h
 | .bool _,_,h=>by unfold IsN at h ⊢; exact h
 | .int _,_,h=>by unfold IsN at h ⊢; exact h
 | .str _,_,h=>by unfold IsN at h ⊢; exact h
 | .list l,_,h=>by
  unfold IsN at h ⊢
  obtain ⟨a,xs,e,q,r⟩:=h
  exact ⟨a,xs,e,s _ _ q,IssN.mono s r⟩
 | .tuple l,_,h=>by
  unfold IsN at h ⊢
  obtain ⟨a,xs,e,q,r⟩:=h
  exact ⟨a,xs,e,s _ _ q,IssN.mono s r⟩
 | .dict _,_,h=>by unfold IsN at h; exact h.elim
theorem IssN.mono {K:PySem.W.Frag} {H H':Hp} (s:Same H H') : ∀ {l:List PyData} {xs:List V},IssN K H l xs→IssN K H' l xs
 | [],_,h=>by unfold IssN at h ⊢; exact h
 | d::l,_,h=>by
  unfold IssN at h ⊢
  obtain ⟨x,r,e,p,q⟩:=h
  exact ⟨x,r,e,IsN.mono s p,IssN.mono s q⟩
end
def newF (M:Frm) (F:Hp):Hp:=fun b=>if (M.He b).isNone=true∧(M.B b).isNone=true then F b else none
theorem newF_le {M:Frm} {F:Hp}:Same (newF M F) F:=fun b o e=>by
 unfold newF at e; split at e
 ·exact e
 ·cases e
theorem newF_mono {M:Frm} {F F':Hp} (s:Same F F'):Same (newF M F) (newF M F'):=fun b o e=>by
 unfold newF at e ⊢; split at e
 ·rename_i h; rw [if_pos h]; exact s b o e
 ·cases e
def excO (C ea:Addr):HO :=.ext fun h => ∃ o,h.get? ea=some o∧o.cls = .ref C
section
variable (K:PySem.W.Frag) (M:Frm) (F H:Hp)
def SlotOk:Sl→Option V→Prop
 | .non,_=>True
 | .val d,x => ∃ v,x=some v∧Is K F d v
 | .own ds,x => ∃ a vs,x=some (.ref a)∧H a=some (.lst vs)∧F a=none∧M.B a=none∧M.He a=none∧Iss K F ds vs
 | .pen ds,x => ∃ a vs,x=some (.ref a)∧H a=some (.lst vs)∧F a=none∧M.B a=none∧(∃ o,M.He a=some o)∧Iss K F ds vs
 | .new d,x => ∃ v,x=some v∧IsN K (newF M F) d v
 | .exc C,x => ∃ ea,x=some (.ref ea)∧F ea=some (excO C ea)
 | .obj a C nm fs,x => ∃ dx vs,x=some (.ref a)∧M.B a=some (.ins C dx vs)∧vs.map (·.1)=nm ∧ ∀ f d,(f,d) ∈ fs → ∃ v,vs.lookup f=some v∧Is K F d v
structure EnvOk (env:Sto) (σ:St):Prop where
 len:env.length=σ.length
 slot : ∀ i,SlotOk K M F H (gS env i) (vS σ i)
 dis : ∀ i j a,i≠j→(gS env i).mut=true→(gS env j).mut=true→vS σ i=some (.ref a)→vS σ j=some (.ref a)→False
 f0:Same M.F0 F
 fe:Same M.F0 M.He
 fh:Same F H
 bh:Same M.B H
 new : ∀ b o,F b=some o→M.F0 b=some o∨M.He b=none
 dom : ∀ b o,M.He b=some o → ∃ o',H b=some o'
end
structure Go (F H F' H':Hp):Prop where
 f:Same F F'
 h:Same H H'
 fh:Same F' H'
 new : ∀ b o,F' b=some o→F b=some o∨H b=none
theorem same_none {H H':Hp} (s:Same H H') {b:Addr} (h:H' b=none):H b=none:=s.free h
theorem Go.refl {F H:Hp} (s:Same F H):Go F H F H:=⟨.refl _,.refl _,s,fun _ _ h => .inl h⟩
theorem Go.trans {F H F1 H1 F2 H2:Hp} (a:Go F H F1 H1) (b:Go F1 H1 F2 H2):Go F H F2 H2 :=
 ⟨a.f.trans b.f,a.h.trans b.h,b.fh,fun c o h=>(b.new c o h).elim (fun q=>a.new c o q) fun q => .inr (same_none a.h q)⟩
theorem Go.put {F H:Hp} {p:Addr} {o:HO} (s:Same F H) (h:H p=none):Go F H (upd F p o) (upd H p o):=by
 refine ⟨same_new (same_none s h),same_new h,fun b u e=>?_,fun b u e=>?_⟩
 ·unfold upd at e ⊢
  split at e
  ·rename_i z; rw [if_pos z]; exact e
  ·rename_i z; rw [if_neg z]; exact s b u e
 ·unfold upd at e
  split at e
  ·rename_i z; subst z; exact .inr h
  ·exact .inl e
theorem Go.side {F H:Hp} {p:Addr} {o:HO} (s:Same F H) (h:H p=none):Go F H F (upd H p o) :=
 ⟨.refl _,same_new h,s.trans (same_new h),fun _ _ e => .inl e⟩
section
variable {K:PySem.W.Frag} {M:Frm} {F H F' H':Hp} {env:Sto} {σ:St}
theorem SlotOk.go {s:Sl} {x:Option V} (h:SlotOk K M F H s x) (g:Go F H F' H'):SlotOk K M F' H' s x:=by
 have nf : ∀ {a:Addr} {o:HO},H a=some o→F a=none→F' a=none:=fun {a o} h1 h2=>by
  cases e:F' a with
  | none=>rfl
  | some u=>rcases g.new a u e with q|q
            ·rw [h2] at q; cases q
            ·rw [h1] at q; cases q
 cases s with
 | non=>trivial
 | val d=>obtain ⟨v,e,i⟩:=h; exact ⟨v,e,i.mono g.f⟩
 | own ds=>obtain ⟨a,vs,e,h1,h2,h3,h4,h5⟩:=h; exact ⟨a,vs,e,g.h _ _ h1,nf h1 h2,h3,h4,h5.mono g.f⟩
 | pen ds=>obtain ⟨a,vs,e,h1,h2,h3,hx,h5⟩:=h; exact ⟨a,vs,e,g.h _ _ h1,nf h1 h2,h3,hx,h5.mono g.f⟩
 | new d=>obtain ⟨v,e,i⟩:=h; exact ⟨v,e,i.mono (newF_mono g.f)⟩
 | exc C=>obtain ⟨ea,e,i⟩:=h; exact ⟨ea,e,g.f _ _ i⟩
 | obj a0 C nm fs=>obtain ⟨dx,vs,e,b,hn,i⟩:=h; exact ⟨dx,vs,e,b,hn,fun f d m=>let ⟨v,l,j⟩:=i f d m; ⟨v,l,j.mono g.f⟩⟩
theorem EnvOk.go (I:EnvOk K M F H env σ) (g:Go F H F' H'):EnvOk K M F' H' env σ where
 len:=I.len
 slot:=fun i=>(I.slot i).go g
 dis:=I.dis
 f0:=I.f0.trans g.f
 fe:=I.fe
 fh:=g.fh
 bh:=I.bh.trans g.h
 new:=fun b o e=>(g.new b o e).elim (fun q=>I.new b o q) fun q=>by
  refine .inr ?_
  cases z:M.He b with
  | none=>rfl
  | some u=>obtain ⟨o',q'⟩:=I.dom b u z; rw [q] at q'; cases q'
 dom:=fun b o e=>let ⟨o',q⟩:=I.dom b o e; ⟨o',g.h _ _ q⟩
theorem EnvOk.he (I:EnvOk K M F H env σ) {a:Addr} (h:H a=none):M.He a=none:=by
 cases z:M.He a with
 | none=>rfl
 | some u=>obtain ⟨o',q'⟩:=I.dom a u z; rw [h] at q'; cases q'
theorem EnvOk.setv (I:EnvOk K M F H env σ) {i:Nat} {d:PyData} {v:V} (h:Is K F d v):EnvOk K M F H (env.set i (.val d)) (σ.set i (some v)) where
 len:=by rw [List.length_set,List.length_set]; exact I.len
 slot:=fun j=>by
  rw [gS_set,vS_set,I.len]
  split
  ·exact ⟨v,rfl,h⟩
  ·exact I.slot j
 dis:=fun j k a hjk h1 h2 h3 h4=>by
  rw [gS_set] at h1 h2
  rw [vS_set] at h3 h4
  rw [I.len] at h1 h2
  split at h1
  ·cases h1
  ·rename_i z1
   split at h2
   ·cases h2
   ·rename_i z2
    rw [if_neg z1] at h3
    rw [if_neg z2] at h4
    exact I.dis j k a hjk h1 h2 h3 h4
 f0:=I.f0
 fe:=I.fe
 fh:=I.fh
 bh:=I.bh
 new:=I.new
 dom:=I.dom
theorem EnvOk.seto (I:EnvOk K M F H env σ) {i:Nat} {ds:List PyData} {a:Addr} {vs:List V} (h1:H a=some (.lst vs)) (h2:F a=none) (h3:M.B a=none) (h4:M.He a=none)
 (h5 : ∀ j,(gS env j).mut=true→vS σ j≠some (.ref a)) (h6:Iss K F ds vs):EnvOk K M F H (env.set i (.own ds)) (σ.set i (some (.ref a))) where
  len:=by rw [List.length_set,List.length_set]; exact I.len
  slot:=fun j=>by
   rw [gS_set,vS_set,I.len]
   split
   ·exact ⟨a,vs,rfl,h1,h2,h3,h4,h6⟩
   ·exact I.slot j
  dis:=fun j k b hjk m1 m2 e1 e2=>by
   rw [gS_set] at m1 m2
   rw [vS_set] at e1 e2
   rw [I.len] at m1 m2
   by_cases z1:i=j∧i<σ.length
   ·rw [if_pos z1] at m1 e1
    have z2 : ¬ (i=k∧i<σ.length):=fun z=>hjk (z1.1.symm.trans z.1)
    rw [if_neg z2] at m2 e2
    injection e1 with e1; injection e1 with e1; subst e1
    exact h5 k m2 e2
   ·rw [if_neg z1] at m1 e1
    by_cases z2:i=k∧i<σ.length
    ·rw [if_pos z2] at m2 e2
     injection e2 with e2; injection e2 with e2; subst e2
     exact h5 j m1 e1
    ·rw [if_neg z2] at m2 e2
     exact I.dis j k b hjk m1 m2 e1 e2
  f0:=I.f0
  fe:=I.fe
  fh:=I.fh
  bh:=I.bh
  new:=I.new
  dom:=I.dom
def Sl.upd:Sl→List PyData→Sl
 | .own _,ds => .own ds
 | .pen _,ds => .pen ds
 | s,_=>s
def Sl.cnt:Sl→List PyData
 | .own ds=>ds
 | .pen ds=>ds
 | _=>[]
theorem SlotOk.addr {s:Sl} {x:Option V} (h:SlotOk K M F H s x) (m:s.mut=true) : ∃ a vs,x=some (.ref a)∧H a=some (.lst vs)∧F a=none∧M.B a=none∧Iss K F s.cnt vs:=by
 cases s with
 | non=>cases m
 | val d=>cases m
 | own ds=>obtain ⟨a,vs,e,h1,h2,h3,h4,h5⟩:=h; exact ⟨a,vs,e,h1,h2,h3,h5⟩
 | pen ds=>obtain ⟨a,vs,e,h1,h2,h3,hx,h5⟩:=h; exact ⟨a,vs,e,h1,h2,h3,h5⟩
 | new d=>cases m
 | exc C=>cases m
 | obj a0 C nm fs=>cases m
theorem gS_lt {e:Sto} {i:Nat} (h:(gS e i).mut=true):i<e.length:=by
 by_cases z:i<e.length
 ·exact z
 ·rw [gS_out (by omega)] at h; cases h
theorem EnvOk.chg (I:EnvOk K M F H env σ) {i:Nat} {a:Addr} {ds:List PyData} {vs:List V} (m:(gS env i).mut=true) (ea:vS σ i=some (.ref a)) (h:Iss K F ds vs):EnvOk K M F (upd H a (.lst vs)) (env.set i ((gS env i).upd ds)) σ:=by
 obtain ⟨a',vs0,e,h1,h2,h3,h5⟩:=(I.slot i).addr m
 rw [ea] at e; injection e with e; injection e with e; subst e
 have hi:=gS_lt m
 have mu:((gS env i).upd ds).mut=true:=by
  cases q:gS env i with
  | non=>rw [q] at m; cases m
  | val d=>rw [q] at m; cases m
  | own d=>rfl
  | pen d=>rfl
  | new d=>rw [q] at m; cases m
  | exc C=>rw [q] at m; cases m
  | obj a0 C nm fs=>rw [q] at m; cases m
 have muj : ∀ j,(gS (env.set i ((gS env i).upd ds)) j).mut=(gS env j).mut:=fun j=>by
  rw [gS_set]
  split
  ·rename_i z; rw [mu,← z.1,m]
  ·rfl
 refine ⟨by rw [List.length_set]; exact I.len,fun j=>?_,fun j k b hjk m1 m2 e1 e2=>I.dis j k b hjk (muj j ▸ m1) (muj k ▸ m2) e1 e2,I.f0,I.fe,fun b o e=>?_,fun b o e=>?_,I.new,fun b o e=>?_⟩
 ·rw [gS_set]
  by_cases z:i=j
  ·subst z
   rw [if_pos ⟨rfl,hi⟩]
   have S:=I.slot i
   cases q:gS env i with
   | non=>rw [q] at m; cases m
   | val d=>rw [q] at m; cases m
   | own ds0 =>
    rw [q] at S
    obtain ⟨a',vs',e,g1,g2,g3,g4,g5⟩:=S
    rw [ea] at e; injection e with e; injection e with e; subst e
    exact ⟨a,vs,ea,upd_same,g2,g3,g4,h⟩
   | pen ds0 =>
    rw [q] at S
    obtain ⟨a',vs',e,g1,g2,g3,gx,g5⟩:=S
    rw [ea] at e; injection e with e; injection e with e; subst e
    exact ⟨a,vs,ea,upd_same,g2,g3,gx,h⟩
   | new d=>rw [q] at m; cases m
   | exc C=>rw [q] at m; cases m
   | obj a0 C nm fs=>rw [q] at m; cases m
  ·rw [if_neg (fun y=>z y.1)]
   have S:=I.slot j
   cases q:gS env j with
   | non=>trivial
   | val d=>rw [q] at S; exact S
   | own ds0 =>
    rw [q] at S
    obtain ⟨b,vs',e,g1,g2,g3,g4,g5⟩:=S
    have hb:b≠a:=fun y=>by subst y; exact I.dis i j b z m (by rw [q]; rfl) ea e
    exact ⟨b,vs',e,by rw [upd_ne hb]; exact g1,g2,g3,g4,g5⟩
   | pen ds0 =>
    rw [q] at S
    obtain ⟨b,vs',e,g1,g2,g3,gx,g5⟩:=S
    have hb:b≠a:=fun y=>by subst y; exact I.dis i j b z m (by rw [q]; rfl) ea e
    exact ⟨b,vs',e,by rw [upd_ne hb]; exact g1,g2,g3,gx,g5⟩
   | new d=>rw [q] at S; exact S
   | exc C=>rw [q] at S; exact S
   | obj a0 C nm fs=>rw [q] at S; exact S
 ·rw [upd_ne (ne_of_none e h2)]; exact I.fh b o e
 ·rw [upd_ne (ne_of_none e h3)]; exact I.bh b o e
 ·obtain ⟨o',q⟩:=I.dom b o e
  by_cases z:b=a
  ·subst z; exact ⟨_,upd_same⟩
  ·exact ⟨o',by rw [upd_ne z]; exact q⟩
theorem EnvOk.frz (I:EnvOk K M F H env σ) {a:Addr} {vs:List V} (h1:H a=some (.lst vs)) (h2:F a=none) (h4:M.He a=none) (h5 : ∀ j,(gS env j).mut=true→vS σ j≠some (.ref a)) :
 EnvOk K M (upd F a (.lst vs)) H env σ∧Same F (upd F a (.lst vs)):=by
  have sF:Same F (upd F a (.lst vs)):=same_new h2
  refine ⟨⟨I.len,fun j=>?_,I.dis,I.f0.trans sF,I.fe,fun b o e=>?_,I.bh,fun b o e=>?_,I.dom⟩,sF⟩
  ·have S:=I.slot j
   have n5:=h5 j
   cases q:gS env j with
   | non=>trivial
   | val d=>rw [q] at S; obtain ⟨v,e,i⟩:=S; exact ⟨v,e,i.mono sF⟩
   | own ds0 =>
    rw [q] at S n5
    obtain ⟨b,vs',e,g1,g2,g3,g4,g5⟩:=S
    have hb:b≠a:=fun y=>by subst y; exact n5 rfl e
    exact ⟨b,vs',e,g1,by rw [upd_ne hb]; exact g2,g3,g4,g5.mono sF⟩
   | pen ds0 =>
    rw [q] at S n5
    obtain ⟨b,vs',e,g1,g2,g3,gx,g5⟩:=S
    have hb:b≠a:=fun y=>by subst y; exact n5 rfl e
    exact ⟨b,vs',e,g1,by rw [upd_ne hb]; exact g2,g3,gx,g5.mono sF⟩
   | new d=>rw [q] at S; obtain ⟨v,e,i⟩:=S; exact ⟨v,e,i.mono (newF_mono sF)⟩
   | exc C=>rw [q] at S; obtain ⟨ea,e,i⟩:=S; exact ⟨ea,e,sF _ _ i⟩
   | obj a0 C nm fs=>rw [q] at S; obtain ⟨dx,vs',e,b',hn,i⟩:=S; exact ⟨dx,vs',e,b',hn,fun f d m=>let ⟨v,l,j⟩:=i f d m; ⟨v,l,j.mono sF⟩⟩
  ·by_cases z:b=a
   ·subst z; rw [upd_same] at e; rw [h1]; exact e
   ·rw [upd_ne z] at e; exact I.fh b o e
  ·by_cases z:b=a
   ·subst z; exact .inr h4
   ·rw [upd_ne z] at e; exact I.new b o e
theorem EnvOk.drop (I:EnvOk K M F H env σ) (i:Nat):EnvOk K M F H (env.set i .non) σ where
 len:=by rw [List.length_set]; exact I.len
 slot:=fun j=>by
  rw [gS_set]
  split
  ·trivial
  ·exact I.slot j
 dis:=fun j k a hjk h1 h2 h3 h4=>by
  rw [gS_set] at h1 h2
  split at h1
  ·cases h1
  ·split at h2
   ·cases h2
   ·exact I.dis j k a hjk h1 h2 h3 h4
 f0:=I.f0
 fe:=I.fe
 fh:=I.fh
 bh:=I.bh
 new:=I.new
 dom:=I.dom
theorem EnvOk.tell (I:EnvOk K M F H env σ) {i:Nat} {d:PyData} {v:V} (e:vS σ i=some v) (h:Is K F d v):EnvOk K M F H (env.set i (.val d)) σ where
 len:=by rw [List.length_set]; exact I.len
 slot:=fun j=>by
  rw [gS_set]
  split
  ·rename_i z; rw [← z.1]; exact ⟨v,e,h⟩
  ·exact I.slot j
 dis:=fun j k a hjk h1 h2 h3 h4=>by
  rw [gS_set] at h1 h2
  split at h1
  ·cases h1
  ·split at h2
   ·cases h2
   ·exact I.dis j k a hjk h1 h2 h3 h4
 f0:=I.f0
 fe:=I.fe
 fh:=I.fh
 bh:=I.bh
 new:=I.new
 dom:=I.dom
def Sl.fz:Sl→Sl
 | .own ds => .val (.list ds)
 | s=>s
theorem EnvOk.freeze (I:EnvOk K M F H env σ) (i:Nat) : ∃ F',EnvOk K M F' H (env.set i (gS env i).fz) σ∧Same F F':=by
 have same : ∀ s,gS env i=s→env.set i s=env:=fun s h=>by
  subst h
  apply List.ext_getElem?
  intro j
  rw [List.getElem?_set]
  split
  ·rename_i z
   subst z
   split
   ·rename_i hi
    have : ∀ (e:Sto) (n:Nat) (h:n<e.length),some (gS e n)=e[n]?:=by
     intro e
     induction e with
     | nil=>intro n h; simp at h
     | cons x e ih=>intro n h; cases n with
      | zero=>rfl
      | succ n=>simp only [gS,List.getElem?_cons_succ]; exact ih n (by simpa using h)
    exact this env i hi
   ·rename_i hi
    rw [List.getElem?_eq_none (by omega)]
  ·rfl
 cases q:gS env i with
 | non=>exact ⟨F,by rw [show Sl.fz .non = .non from rfl,same _ q]; exact I,.refl _⟩
 | val d=>exact ⟨F,by rw [show Sl.fz (.val d) = .val d from rfl,same _ q]; exact I,.refl _⟩
 | pen ds=>exact ⟨F,by rw [show Sl.fz (.pen ds) = .pen ds from rfl,same _ q]; exact I,.refl _⟩
 | new d=>exact ⟨F,by rw [show Sl.fz (.new d) = .new d from rfl,same _ q]; exact I,.refl _⟩
 | exc C=>exact ⟨F,by rw [show Sl.fz (.exc C) = .exc C from rfl,same _ q]; exact I,.refl _⟩
 | obj a0 C nm fs=>exact ⟨F,by rw [show Sl.fz (.obj a0 C nm fs) = .obj a0 C nm fs from rfl,same _ q]; exact I,.refl _⟩
 | own ds =>
  have S:=I.slot i
  rw [q] at S
  obtain ⟨a,vs,e,h1,h2,h3,h4,h5⟩:=S
  obtain ⟨J,s⟩:=(I.drop i).frz h1 h2 h4 (fun j m z=>by
   rw [gS_set] at m
   split at m
   ·cases m
   ·rename_i hn
    by_cases hij:i=j
    ·subst hij
     exact hn ⟨rfl,gS_lt (by rw [q]; rfl)⟩
    ·exact I.dis i j a hij (by rw [q]; rfl) m e z)
  have T:=J.tell (i:=i) (d :=.list ds) e (is_lst (SqL.of upd_same) (h5.mono s))
  rw [List.set_set] at T
  exact ⟨_,T,s⟩
end
end L2
namespace L2
open PySem PySem.Spec PyProof.Rows
abbrev WE:=Sto→(PyData→Sto→Prop)→Prop
abbrev WF:=Sto→(List PyData→Sto→Prop)→Prop
abbrev WT:=Sto→(Bool→Sto→Prop)→Prop
inductive Ret where
 | val (d:PyData)
 | own (ds:List PyData)
 | new (d:PyData)
def Ret.data:Ret→PyData
 | .val d=>d
 | .own ds => .list ds
 | .new d=>d
structure WEnds where
 nx:Sto→Prop
 rt:Ret→Sto→Prop
 bk:Sto→Prop:=fun _=>False
 ct:Sto→Prop:=fun _=>False
abbrev WS:=WEnds→Sto→Prop
abbrev WG:=PyData→Sto→(Sto→Prop)→Prop
abbrev WGs:=List PyData→Sto→(Sto→Prop)→Prop
abbrev D2:=PyData→PyData→(PyData→Prop)→Prop
abbrev DC:=List PyData→(PyData→Prop)→Prop
section
variable (K:PySem.W.Frag)
def liftE (W:WE):TE:=fun σ H R => ∃ M env F Q,EnvOk K M F H env σ∧W env Q ∧ ∀ d v F' H' env',EnvOk K M F' H' env' σ→Same F F'→Is K F' d v→Q d env'→R v H'
def liftF (W:WF):TE:=fun σ H R => ∃ M env F Q,EnvOk K M F H env σ∧W env Q ∧ ∀ a vs ds F' H' env',EnvOk K M F' H' env' σ→Same F F'→H' a=some (.lst vs)→F' a=none→M.B a=none→M.He a=none →
 (∀ i,(gS env' i).mut=true→vS σ i≠some (.ref a))→Iss K F' ds vs→Q ds env'→R (.ref a) H'
def liftA (W:WF):TA:=fun σ H R => ∃ M env F Q,EnvOk K M F H env σ∧W env Q ∧ ∀ ds vs F' H' env',EnvOk K M F' H' env' σ→Same F F'→Iss K F' ds vs→Q ds env'→R vs H'
def liftT (W:WT):TT:=fun σ H R => ∃ M env F Q,EnvOk K M F H env σ∧W env Q ∧ ∀ b F' H' env',EnvOk K M F' H' env' σ→Same F F'→Q b env'→R b H'
def RetOk (M:Frm) (F H:Hp):Ret→V→Prop
 | .val d,v=>Is K F d v
 | .own ds,v => ∃ a vs,v = .ref a∧H a=some (.lst vs)∧F a=none∧M.B a=none∧M.He a=none∧Iss K F ds vs
 | .new d,v=>IsN K (newF M F) d v
structure EndsOk (M:Frm) (F:Hp) (DD:WEnds) (D:Ends):Prop where
 nx : ∀ env' F' H' σ',EnvOk K M F' H' env' σ'→Same F F'→DD.nx env'→D.nx σ' H'
 rt : ∀ r v env' F' H' σ',EnvOk K M F' H' env' σ'→Same F F'→RetOk K M F' H' r v→DD.rt r env'→D.rt v H'
 bk : ∀ env' F' H' σ',EnvOk K M F' H' env' σ'→Same F F'→DD.bk env'→D.bk σ' H'
 ct : ∀ env' F' H' σ',EnvOk K M F' H' env' σ'→Same F F'→DD.ct env'→D.ct σ' H'
def liftS (W:WS):TS:=fun D σ H => ∃ M env F DD,EnvOk K M F H env σ∧W DD env∧EndsOk K M F DD D
def liftG (W:WG):TG:=fun v σ H R => ∃ M env F d Q,EnvOk K M F H env σ∧Is K F d v∧W d env Q ∧ ∀ F' H' env' σ',EnvOk K M F' H' env' σ'→Same F F'→Q env'→R σ' H'
def liftGs (W:WGs):TGs:=fun vs σ H R => ∃ M env F ds Q,EnvOk K M F H env σ∧Iss K F ds vs∧W ds env Q ∧ ∀ F' H' env' σ',EnvOk K M F' H' env' σ'→Same F F'→Q env'→R σ' H'
def lift2 (r:D2):R2:=fun x y H Q => ∃ F dx dy q,Same F H∧Is K F dx x∧Is K F dy y∧r dx dy q ∧ ∀ d v F' H',Go F H F' H'→Is K F' d v→q d→Q v H'
def liftC (r:DC):List V→Hp→VK→Prop:=fun vs H Q => ∃ F ds q,Same F H∧Iss K F ds vs∧r ds q ∧ ∀ d v F' H',Go F H F' H'→Is K F' d v→q d→Q v H'
def liftCF (r:List PyData→(List PyData→Prop)→Prop):List V→Hp→VK→Prop:=fun vs H Q => ∃ F ds q,Same F H∧Iss K F ds vs∧r ds q ∧ ∀ l a xs F' H',Go F H F' H'→H a=none→F' a=none→H' a=some (.lst xs)→Iss K F' l xs→q l→Q (.ref a) H'
structure ItD (J:It) (F:Hp) (ds:List PyData):Prop where
 go : ∀ i H,Same F H→i<ds.length→J.go i H
 stop : ∀ H,Same F H→J.stop ds.length H
 yld : ∀ i H x H' F1,Same F F1→Same F1 H→i<ds.length→J.yld i H x H' → ∃ d F2,ds[i]?=some d∧Go F1 H F2 H'∧Is K F2 d x
def liftI (W:WF):TI:=fun σ H R => ∃ M env F Q,EnvOk K M F H env σ∧W env Q ∧ ∀ ds J F' H' env',EnvOk K M F' H' env' σ→Same F F'→ItD K J F' ds→Q ds env'→R J H'
end
section
variable {K:PySem.W.Frag} {M:Frm} {F F':Hp} {DD:WEnds} {D:Ends}
theorem EndsOk.mono (h:EndsOk K M F DD D) (s:Same F F'):EndsOk K M F' DD D :=
 ⟨fun e f g i j k=>h.nx e f g i j (s.trans k),fun r v e f g i j k=>h.rt r v e f g i j (s.trans k),fun e f g i j k=>h.bk e f g i j (s.trans k),fun e f g i j k=>h.ct e f g i j (s.trans k)⟩
end
def VE (X:Cx) (e:Expr) (W:WE):Prop:=PE X e (liftE X.K W)
def VF (X:Cx) (e:Expr) (W:WF):Prop:=PE X e (liftF X.K W)
def VA (X:Cx) (e:List Expr) (W:WF):Prop:=PA X e (liftA X.K W)
def VT (X:Cx) (e:Expr) (W:WT):Prop:=PT X e (liftT X.K W)
def VW (X:Cx) (e:Expr) (W:WT):Prop:=PW X e (liftT X.K W)
theorem VW.pt {X:Cx} {e:Expr} {W:WT} (h:VW X e W):VT X e W:=PW.pt h
def VS (X:Cx) (st:Stmt) (W:WS):Prop:=PS X st (liftS X.K W)
def VSs (X:Cx) (st:List Stmt) (W:WS):Prop:=PSs X st (liftS X.K W)
def VG (X:Cx) (e:Expr) (W:WG):Prop:=PG X e (liftG X.K W)
def VGs (X:Cx) (e:List Expr) (W:WGs):Prop:=PGs X e (liftGs X.K W)
def VI (X:Cx) (tg e:Expr) (W:WF):Prop:=PI X tg e (liftI X.K W)
def OpV (X:Cx) (f:Value→Value→Sem Value) (r:D2):Prop:=OpR X f (lift2 X.K r)
def CallV (X:Cx) (f:Value) (r:DC):Prop:=CallR X f (liftC X.K r)
def CallVF (X:Cx) (f:Value) (r:List PyData→(List PyData→Prop)→Prop):Prop:=CallR X f (liftCF X.K r)
section
variable {X:Cx}
theorem PE.imp {e:Expr} {t t':TE} (h:PE X e t) (i : ∀ σ H Q,t' σ H Q→t σ H Q):PE X e t':=fun pins s σ H Q I q=>h pins s σ H Q I (i σ H Q q)
theorem PA.imp {e:List Expr} {t t':TA} (h:PA X e t) (i : ∀ σ H Q,t' σ H Q→t σ H Q):PA X e t':=fun pos pins s σ H Q I q=>h pos pins s σ H Q I (i σ H Q q)
theorem PT.imp {e:Expr} {t t':TT} (h:PT X e t) (i : ∀ σ H Q,t' σ H Q→t σ H Q):PT X e t':=fun pins s σ H Q I q=>h pins s σ H Q I (i σ H Q q)
theorem PW.imp {e:Expr} {t t':TT} (h:PW X e t) (i : ∀ σ H Q,t' σ H Q→t σ H Q):PW X e t':=fun wh pins s σ H Q I q=>h wh pins s σ H Q I (i σ H Q q)
theorem PS.imp {e:Stmt} {t t':TS} (h:PS X e t) (i : ∀ D σ H,t' D σ H→t D σ H):PS X e t':=fun pins s σ H D I q=>h pins s σ H D I (i D σ H q)
theorem PSs.imp {e:List Stmt} {t t':TS} (h:PSs X e t) (i : ∀ D σ H,t' D σ H→t D σ H):PSs X e t':=fun pins s σ H D I q=>h pins s σ H D I (i D σ H q)
theorem PG.imp {e:Expr} {t t':TG} (h:PG X e t) (i : ∀ v σ H Q,t' v σ H Q→t v σ H Q):PG X e t':=fun pins s σ H v u Q I r q=>h pins s σ H v u Q I r (i v σ H Q q)
theorem PGs.imp {e:List Expr} {t t':TGs} (h:PGs X e t) (i : ∀ v σ H Q,t' v σ H Q→t v σ H Q):PGs X e t':=fun pins s σ H v u Q I r q=>h pins s σ H v u Q I r (i v σ H Q q)
theorem PI.imp {tg e:Expr} {t t':TI} (h:PI X tg e t) (i : ∀ σ H Q,t' σ H Q→t σ H Q):PI X tg e t':=fun pins s σ H Q I q=>h pins s σ H Q I (i σ H Q q)
theorem OpR.imp {f:Value→Value→Sem Value} {r r':R2} (h:OpR X f r) (i : ∀ x y H Q,r' x y H Q→r x y H Q):OpR X f r':=fun pins s σ H x y v u Q I a b q=>h pins s σ H x y v u Q I a b (i x y H Q q)
theorem CallR.imp {f:Value} {r r':List V→Hp→VK→Prop} (h:CallR X f r) (i : ∀ x H Q,r' x H Q→r x H Q):CallR X f r':=fun pins s σ H x u Q I a q=>h pins s σ H x u Q I a (i x H Q q)
theorem IxR.imp {r r':R2} (h:IxR X r) (i : ∀ x y H Q,r' x y H Q→r x y H Q):IxR X r':=fun value slice pins s σ H x y v u Q I a b q=>h value slice pins s σ H x y v u Q I a b (i x y H Q q)
def wVar (i:Nat):WE:=fun env Q=>match gS env i with | .val d=>Q d env | .new d=>Q d env|_=>False
theorem ve_var (i:Nat) {x:Str} {pos:Pos} (hN:X.N[i]?=some x:=by rfl) (hv:Vis X.env.scope x:=by first|exact Or.inl rfl|exact Or.inr (Or.inl rfl)|exact Or.inr (Or.inr rfl)) (hd:(x==("__debug__" : Str))=false:=by decide)
 (hcd:(x==("__classdict__" : Str))=false:=by decide):VE X (.Name x pos) (wVar i):=(pe_var hN hv hd hcd).imp fun σ H R xx72=>by
 obtain ⟨M,env,F,Q,I,h,k⟩:=xx72
 have S:=I.slot i
 unfold wVar at h
 cases q:gS env i with
 | val d =>
  rw [q] at S h
  obtain ⟨v,e,j⟩:=S
  exact ⟨v,vS_some e,k d v F H env I (.refl _) j h⟩
 | new d =>
  rw [q] at S h
  obtain ⟨v,e,j⟩:=S
  exact ⟨v,vS_some e,k d v F H env I (.refl _) (j.is newF_le) h⟩
 | non=>rw [q] at h; exact h.elim
 | own ds=>rw [q] at h; exact h.elim
 | pen ds=>rw [q] at h; exact h.elim
 | exc C=>rw [q] at h; exact h.elim
 | obj a0 C nm fs=>rw [q] at h; exact h.elim
def wC (d:PyData):WE:=fun env Q=>Q d env
theorem ve_c {e:Expr} {v:V} {d:PyData} (h:PE X e (tC v)) (i : ∀ F,Is X.K F d v):VE X e (wC d):=h.imp fun σ H R xx73=>by obtain ⟨M,env,F,Q,I,h,k⟩:=xx73; exact k d v F H env I (.refl _) (i F) h
theorem ve_int {i j pos}:VE X (.Constant (.int i) j pos) (wC (.int i)):=ve_c pe_int fun _=>is_int i
theorem ve_bl {b j pos}:VE X (.Constant (.bool b) j pos) (wC (.bool b)):=ve_c pe_bl fun _=>is_bl b
theorem ve_non {j pos}:VE X (.Constant .none j pos) (wC .none):=ve_c pe_non fun _=>is_non
theorem ve_str {x j pos}:VE X (.Constant (.str x) j pos) (wC (.str x)):=ve_c pe_str fun _=>is_str x
theorem ve_globI {x:Str} {i:Int} {pos:Pos} (h : ∃ t,X.mg x=some (.int i t)) (hg:Gl X x:=by rfl) (hd:(x==("__debug__" : Str))=false:=by decide):VE X (.Name x pos) (wC (.int i)):=by
 obtain ⟨t,hm⟩:=h
 exact ve_c (pe_glob (v :=.int i) hg hm ⟨t,rfl⟩ hd) fun _=>is_int i
def wOp (r:D2) (Wa Wb:WE):WE:=fun env Q=>Wa env fun x e1=>Wb e1 fun y e2=>r x y fun d=>Q d e2
theorem op_lift {r:D2} {Wa Wb:WE} {σ:St} {H:Hp} {R:VK} (h:liftE X.K (wOp r Wa Wb) σ H R):tOp (lift2 X.K r) (liftE X.K Wa) (liftE X.K Wb) σ H R:=by
 obtain ⟨M,env,F,Q,I,h,k⟩:=h
 exact ⟨M,env,F,_,I,h,fun d v F1 H1 e1 I1 s1 i1 h1=>⟨M,e1,F1,_,I1,h1,fun d2 v2 F2 H2 e2 I2 s2 i2 h2 =>
  ⟨F2,d,d2,_,I2.fh,i1.mono s2,i2,h2,fun d3 v3 F3 H3 g i3 q=>k d3 v3 F3 H3 e2 (I2.go g) (s1.trans (s2.trans g.f)) i3 q⟩⟩⟩
section
variable {a b c:Expr} {Wa Wb Wc:WE} {pos:Pos}
theorem ve_op {op:Operator} {r:D2} (ho:OpV X (binaryOp op) r) (ha:VE X a Wa) (hb:VE X b Wb):VE X (.BinOp a op b pos) (wOp r Wa Wb) :=
 (pe_op ho ha hb).imp fun _ _ _ h=>op_lift h
theorem ve_cmp {op:CmpOp} {r:D2} (ho:OpV X (compareOp op) r) (ha:VE X a Wa) (hb:VE X b Wb) (hm:behindInMarks op b=false:=by first|exact nomark _|with_unfolding_all rfl):VE X (.Compare a [op] [b] pos) (wOp r Wa Wb) :=
 (pe_cmpR ho ha hb hm).imp fun _ _ _ h=>op_lift h
def wTest (W:WE):WT:=fun env Q=>W env fun d e=>match d with | .bool b=>Q b e|_=>False
theorem test_lift {W:WE} {σ:St} {H:Hp} {R:Bool→Hp→Prop} (h:liftT X.K (wTest W) σ H R):liftE X.K W σ H fun x H' => ∃ k,x = .bl k∧R k H':=by
 obtain ⟨M,env,F,Q,I,h,k⟩:=h
 refine ⟨M,env,F,_,I,h,fun d v F1 H1 e1 I1 s1 i1 h1=>?_⟩
 cases d with
 | bool b=>exact ⟨b,i1.bl_inv,k b F1 H1 e1 I1 s1 h1⟩
 | _=>exact False.elim h1
theorem vt_cmp {op:CmpOp} {r:D2} (ho:OpV X (compareOp op) r) (ha:VE X a Wa) (hb:VE X b Wb) (hm:behindInMarks op b=false:=by first|exact nomark _|with_unfolding_all rfl):VT X (.Compare a [op] [b] pos) (wTest (wOp r Wa Wb)) :=
 (pt_cmpR ho ha hb hm).imp fun σ H R h=>op_lift (test_lift h)
theorem vt_val {e:Expr} {W:WE} (h:VE X e W) (he : ∀ whole,isTrue e X.env whole=(do let v ← whole; standAt e.pos; holding [v] (truthy v)):=by intro _; rfl):VT X e (wTest W) :=
 (pt_val h he).imp fun σ H R h=>test_lift h
def truD:PyData→Bool
 | .none=>false
 | .bool b=>b
 | .int i=>i != 0
 | .str x=>(x.length:Int) != 0
 | .list l => !l.isEmpty
 | .tuple l => !l.isEmpty
 | .dict l => !l.isEmpty
def wTru (W:WE):WT:=fun env Q=>W env fun d e=>(∀ x,d = .str x→x.length≤sizeLine)∧Q (truD d) e
theorem Iss.emp {K:PySem.W.Frag} {H:Hp} {l:List PyData} {xs:List V} (h:Iss K H l xs):(!l.isEmpty) = !xs.isEmpty:=by
 cases l with
 | nil=>rw [h.nil_inv]; rfl
 | cons d l=>obtain ⟨x,r,rfl,_⟩:=h.cons_inv; rfl
theorem vt_tru {e:Expr} {W:WE} (h:VE X e W) (he : ∀ whole,isTrue e X.env whole=(do let v ← whole; standAt e.pos; holding [v] (truthy v)):=by intro _; rfl):VT X e (wTru W) :=
 (pt_truth h he).imp fun σ H R xx74=>by
  obtain ⟨M,env,F,Q,I,h,k⟩:=xx74
  refine ⟨M,env,F,_,I,h,fun d v F1 H1 e1 I1 s1 i1 h1=>⟨truD d,?_,k _ F1 H1 e1 I1 s1 h1.2⟩⟩
  replace i1:=i1.mono I1.fh
  cases d with
  | none=>rw [i1.non_inv]; rfl
  | bool b=>rw [i1.bl_inv]; rfl
  | int i=>rw [i1.int_inv]; rfl
  | str x=>unfold Is at i1; subst i1; exact ⟨h1.1 x rfl,rfl⟩
  | list l=>obtain ⟨a,xs,rfl,q,r⟩:=i1.lst_inv; exact .inl ⟨xs,q,r.emp⟩
  | tuple l=>obtain ⟨a,xs,rfl,q,r⟩:=i1.tup_inv; exact .inr (.inl ⟨xs,q,r.emp⟩)
  | dict l=>obtain ⟨a,kvs,rfl,q,m⟩:=i1.dct_inv; exact .inr (.inr ⟨kvs,q,m⟩)
def wChain (r r':D2) (Wa Wb Wc:WE):WE:=fun env Q=>Wa env fun x e1=>Wb e1 fun y e2=>r x y fun z=>match z with
 | .bool k=>if k=true then Wc e2 fun w e3=>r' y w fun d=>Q d e3 else Q (.bool false) e2
 | _=>False
theorem chain_lift {r r':D2} {σ:St} {H:Hp} {R:VK} (h:liftE X.K (wChain r r' Wa Wb Wc) σ H R):tChain (lift2 X.K r) (lift2 X.K r') (liftE X.K Wa) (liftE X.K Wb) (liftE X.K Wc) σ H R:=by
 obtain ⟨M,env,F,Q,I,h,k⟩:=h
 refine ⟨M,env,F,_,I,h,fun d v F1 H1 e1 I1 s1 i1 h1=>⟨M,e1,F1,_,I1,h1,fun d2 v2 F2 H2 e2 I2 s2 i2 h2=>⟨F2,d,d2,_,I2.fh,i1.mono s2,i2,h2,fun d3 v3 F3 H3 g i3 q=>?_⟩⟩⟩
 have I3:=I2.go g
 have s3:=s1.trans (s2.trans g.f)
 cases d3 with
 | bool b =>
  refine ⟨b,i3.bl_inv,?_⟩
  cases b with
  | false=>exact iteF (k _ _ F3 H3 e2 I3 s3 (is_bl false) q)
  | true=>exact iteT ⟨M,e2,F3,_,I3,q,fun d4 v4 F4 H4 e4 I4 s4 i4 h4=>⟨F4,d2,d4,_,I4.fh,(i2.mono g.f).mono s4,i4,h4,fun d5 v5 F5 H5 g5 i5 q5=>k d5 v5 F5 H5 e4 (I4.go g5) (s3.trans (s4.trans g5.f)) i5 q5⟩⟩
 | _=>exact False.elim q
theorem ve_chain {op op':CmpOp} {r r':D2} (ho:OpV X (compareOp op) r) (ho':OpV X (compareOp op') r') (ha:VE X a Wa) (hb:VE X b Wb) (hc:VE X c Wc)
 (hm:lastMarks [op,op'] [b,c]=false:=by with_unfolding_all rfl):VE X (.Compare a [op,op'] [b,c] pos) (wChain r r' Wa Wb Wc):=(pe_chain ho ho' ha hb hc hm).imp fun _ _ _ h=>chain_lift h
theorem vt_chain {op op':CmpOp} {r r':D2} (ho:OpV X (compareOp op) r) (ho':OpV X (compareOp op') r') (ha:VE X a Wa) (hb:VE X b Wb) (hc:VE X c Wc)
 (hm:lastMarks [op,op'] [b,c]=false:=by with_unfolding_all rfl):VT X (.Compare a [op,op'] [b,c] pos) (wTest (wChain r r' Wa Wb Wc)):=(pt_chain ho ho' ha hb hc hm).imp fun _ _ _ h=>chain_lift (test_lift h)
end
section
variable {a b c:Expr} {Wa Wb Wc:WE} {Ta Tb Tc:WT} {pos:Pos} {rest:List Expr}
def wAnd (t u:WT):WT:=fun env Q=>t env fun k e=>if k=true then u e Q else Q false e
def wOr (t u:WT):WT:=fun env Q=>t env fun k e=>if k=true then Q true e else u e Q
def wNot (t:WT):WT:=fun env Q=>t env fun k e=>Q (!k) e
theorem vw_and1 (ha:VT X a Ta):VW X (.BoolOp .And [a] pos) Ta:=pw_and1 ha
theorem vw_or1 (ha:VT X a Ta):VW X (.BoolOp .Or [a] pos) Ta:=pw_or1 ha
theorem vw_and (ha:VT X a Ta) (hb:VW X (.BoolOp .And (b::rest) pos) Tb):VW X (.BoolOp .And (a::b::rest) pos) (wAnd Ta Tb):=(pw_and ha hb).imp fun σ H R xx75=>by
 obtain ⟨M,env,F,Q,I,h,k⟩:=xx75
 refine ⟨M,env,F,_,I,h,fun x F1 H1 e1 I1 s1 h1=>?_⟩
 cases x with
 | true=>exact iteT ⟨M,e1,F1,Q,I1,h1,fun y F2 H2 e2 I2 s2 h2=>k y F2 H2 e2 I2 (s1.trans s2) h2⟩
 | false=>exact iteF (k false F1 H1 e1 I1 s1 h1)
theorem vw_or (ha:VT X a Ta) (hb:VW X (.BoolOp .Or (b::rest) pos) Tb):VW X (.BoolOp .Or (a::b::rest) pos) (wOr Ta Tb):=(pw_or ha hb).imp fun σ H R xx76=>by
 obtain ⟨M,env,F,Q,I,h,k⟩:=xx76
 refine ⟨M,env,F,_,I,h,fun x F1 H1 e1 I1 s1 h1=>?_⟩
 cases x with
 | true=>exact iteT (k true F1 H1 e1 I1 s1 h1)
 | false=>exact iteF ⟨M,e1,F1,Q,I1,h1,fun y F2 H2 e2 I2 s2 h2=>k y F2 H2 e2 I2 (s1.trans s2) h2⟩
theorem vt_not (ha:VT X a Ta):VT X (.UnaryOp .Not a pos) (wNot Ta):=(pt_not ha).imp fun σ H R xx77=>by
 obtain ⟨M,env,F,Q,I,h,k⟩:=xx77
 exact ⟨M,env,F,_,I,h,fun x F1 H1 e1 I1 s1 h1=>k (!x) F1 H1 e1 I1 s1 h1⟩
def wAndV (Wa Wb:WE):WE:=fun env Q=>Wa env fun d e=>match d with | .bool k=>if k=true then Wb e Q else Q (.bool false) e|_=>False
def wOrV (Wa Wb:WE):WE:=fun env Q=>Wa env fun d e=>match d with | .bool k=>if k=true then Q (.bool true) e else Wb e Q|_=>False
def wNotV (Wa:WE):WE:=fun env Q=>Wa env fun d e=>match d with | .bool k=>Q (.bool (!k)) e|_=>False
theorem ve_one {op} (h:VE X a Wa):VE X (.BoolOp op [a] pos) Wa:=pe_one h
theorem ve_and (ha:VE X a Wa) (hb:VE X (.BoolOp .And (b::rest) pos) Wb):VE X (.BoolOp .And (a::b::rest) pos) (wAndV Wa Wb):=(pe_and ha hb).imp fun σ H R xx78=>by
 obtain ⟨M,env,F,Q,I,h,k⟩:=xx78
 refine ⟨M,env,F,_,I,h,fun d v F1 H1 e1 I1 s1 i1 h1=>?_⟩
 cases d with
 | bool x =>
  refine ⟨x,i1.bl_inv,?_⟩
  cases x with
  | true=>exact iteT ⟨M,e1,F1,Q,I1,h1,fun d2 v2 F2 H2 e2 I2 s2 i2 h2=>k d2 v2 F2 H2 e2 I2 (s1.trans s2) i2 h2⟩
  | false=>exact iteF (k _ _ F1 H1 e1 I1 s1 (is_bl false) h1)
 | _=>exact False.elim h1
theorem ve_or (ha:VE X a Wa) (hb:VE X (.BoolOp .Or (b::rest) pos) Wb):VE X (.BoolOp .Or (a::b::rest) pos) (wOrV Wa Wb):=(pe_or ha hb).imp fun σ H R xx79=>by
 obtain ⟨M,env,F,Q,I,h,k⟩:=xx79
 refine ⟨M,env,F,_,I,h,fun d v F1 H1 e1 I1 s1 i1 h1=>?_⟩
 cases d with
 | bool x =>
  refine ⟨x,i1.bl_inv,?_⟩
  cases x with
  | false=>exact iteF ⟨M,e1,F1,Q,I1,h1,fun d2 v2 F2 H2 e2 I2 s2 i2 h2=>k d2 v2 F2 H2 e2 I2 (s1.trans s2) i2 h2⟩
  | true=>exact iteT (k _ _ F1 H1 e1 I1 s1 (is_bl true) h1)
 | _=>exact False.elim h1
theorem ve_not (ha:VE X a Wa):VE X (.UnaryOp .Not a pos) (wNotV Wa):=(pe_not ha).imp fun σ H R xx80=>by
 obtain ⟨M,env,F,Q,I,h,k⟩:=xx80
 refine ⟨M,env,F,_,I,h,fun d v F1 H1 e1 I1 s1 i1 h1=>?_⟩
 cases d with
 | bool x=>exact ⟨x,i1.bl_inv,k _ _ F1 H1 e1 I1 s1 (is_bl _) h1⟩
 | _=>exact False.elim h1
def wIfE (t:WT) (Wa Wb:WE):WE:=fun env Q=>t env fun k e=>if k=true then Wa e Q else Wb e Q
theorem ve_ifExp (hc:VT X c Tc) (ha:VE X a Wa) (hb:VE X b Wb):VE X (.IfExp c a b pos) (wIfE Tc Wa Wb):=(pe_ifExp hc ha hb).imp fun σ H R xx81=>by
 obtain ⟨M,env,F,Q,I,h,k⟩:=xx81
 refine ⟨M,env,F,_,I,h,fun x F1 H1 e1 I1 s1 h1=>?_⟩
 cases x with
 | true=>exact iteT ⟨M,e1,F1,Q,I1,h1,fun d2 v2 F2 H2 e2 I2 s2 i2 h2=>k d2 v2 F2 H2 e2 I2 (s1.trans s2) i2 h2⟩
 | false=>exact iteF ⟨M,e1,F1,Q,I1,h1,fun d2 v2 F2 H2 e2 I2 s2 i2 h2=>k d2 v2 F2 H2 e2 I2 (s1.trans s2) i2 h2⟩
end
section
variable {a b:Expr} {Wa Wb:WE} {pos p2:Pos}
def wUn (r:PyData→(PyData→Prop)→Prop) (W:WE):WE:=fun env Q=>W env fun d e=>r d fun y=>Q y e
def dNeg:PyData→(PyData→Prop)→Prop
 | .int i,q=>q (.int (-i))
 | _,_=>False
theorem ve_neg (ha:VE X a Wa):VE X (.UnaryOp .USub a pos) (wUn dNeg Wa):=(pe_un un_neg ha).imp fun σ H R xx82=>by
 obtain ⟨M,env,F,Q,I,h,k⟩:=xx82
 refine ⟨M,env,F,_,I,h,fun d v F1 H1 e1 I1 s1 i1 h1=>?_⟩
 cases d with
 | int i=>exact ⟨i,i1.int_inv,k _ _ F1 H1 e1 I1 s1 (is_int _) h1⟩
 | _=>exact False.elim h1
def dIx:D2
 | .list l,.int i,q => ∃ d,atI l i=some d∧q d
 | .tuple l,.int i,q => ∃ d,atI l i=some d∧q d
 | _,_,_=>False
theorem ix_V:IxR X (lift2 X.K dIx):=ix_seq.imp fun x y H Q xx83=>by
 obtain ⟨F,dx,dy,q,s,i1,i2,h,k⟩:=xx83
 cases dx with
 | list l=>cases dy with
  | int i =>
   obtain ⟨d,e,hq⟩:=h
   obtain ⟨a,xs,rfl,hs,hr⟩:=i1.lst_inv
   obtain ⟨z,ez,hz⟩:=hr.atI e
   exact .inl ⟨a,xs,i,z,rfl,i2.int_inv,s.seq hs,ez,k d z F H (.refl s) hz hq⟩
  | _=>exact False.elim h
 | tuple l=>cases dy with
  | int i =>
   obtain ⟨d,e,hq⟩:=h
   obtain ⟨a,xs,rfl,hs,hr⟩:=i1.tup_inv
   obtain ⟨z,ez,hz⟩:=hr.atI e
   exact .inr (.inl ⟨a,xs,i,z,rfl,i2.int_inv,same_seqT s hs,ez,k d z F H (.refl s) hz hq⟩)
  | _=>exact False.elim h
 | _=>exact False.elim h
theorem ve_ix (ha:VE X a Wa) (hb:VE X b Wb) (hs:PlainIx b:=by exact (fun _ _=>rfl)):VE X (.Subscript a b pos) (wOp dIx Wa Wb):=(pe_ix ix_V ha hb hs).imp fun _ _ _ h=>op_lift h
abbrev WO:=Sto→(Option Int→Sto→Prop)→Prop
def liftO (K:PySem.W.Frag) (W:WO):TO:=fun σ H R => ∃ M env F Q,EnvOk K M F H env σ∧W env Q ∧ ∀ o F' H' env',EnvOk K M F' H' env' σ→Same F F'→Q o env'→R o H'
def wNoPart:WO:=fun env Q=>Q none env
def wPart (W:WE):WO:=fun env Q=>W env fun d e=>match d with | .int i=>Q (some i) e|_=>False
def VO (X:Cx) (e:Option Expr) (W:WO):Prop:=PO X e (liftO X.K W)
theorem PO.imp {e:Option Expr} {t t':TO} (h:PO X e t) (i : ∀ σ H Q,t' σ H Q→t σ H Q):PO X e t':=fun pins s σ H Q I q=>h pins s σ H Q I (i σ H Q q)
theorem vo_none:VO X none wNoPart:=po_none.imp fun σ H R xx84=>by obtain ⟨M,env,F,Q,I,h,k⟩:=xx84; exact k none F H env I (.refl _) h
theorem vo_some (ha:VE X a Wa):VO X (some a) (wPart Wa):=(po_some ha).imp fun σ H R xx85=>by
 obtain ⟨M,env,F,Q,I,h,k⟩:=xx85
 refine ⟨M,env,F,_,I,h,fun d v F1 H1 e1 I1 s1 i1 h1=>?_⟩
 cases d with
 | int i=>exact ⟨i,i1.int_inv,k (some i) F1 H1 e1 I1 s1 h1⟩
 | _=>exact False.elim h1
def cutL {α:Type} (ds:List α) (lo hi:Option Int):List α:=(ds.drop (HT.sIx ds.length 0 lo)).take (HT.sIx ds.length ds.length hi-HT.sIx ds.length 0 lo)
theorem iss_cut {K:PySem.W.Frag} {H:Hp} {l:List PyData} {xs:List V} (h:Iss K H l xs) (lo hi:Option Int):Iss K H (cutL l lo hi) (cutV xs lo hi):=by
 have e:cutV xs lo hi=(xs.drop (HT.sIx l.length 0 lo)).take (HT.sIx l.length l.length hi-HT.sIx l.length 0 lo):=by unfold cutV; rw [h.len]
 rw [e]
 exact iss_take _ (iss_drop _ h)
def wSlL (Wa:WE) (Wl Wh:WO):WF:=fun env Q=>Wa env fun d e1=>Wl e1 fun lo e2=>Wh e2 fun hi e3=>match d with | .list l => ∀ r,r=cutL l lo hi→Q r e3|_=>False
theorem vf_slice {lo hi:Option Expr} {Wl Wh:WO} (he:VE X a Wa) (hl:VO X lo Wl) (hu:VO X hi Wh):VF X (.Subscript a (.Slice lo hi none p2) pos) (wSlL Wa Wl Wh) :=
 (pe_slice sl_list he hl hu).imp fun σ H R xx86=>by
  obtain ⟨M,env,F,Q,I,h,k⟩:=xx86
  refine ⟨M,env,F,_,I,h,fun d v F1 H1 e1 I1 s1 i1 h1=>⟨M,e1,F1,_,I1,h1,fun lo F2 H2 e2 I2 s2 h2=>⟨M,e2,F2,_,I2,h2,fun hi F3 H3 e3 I3 s3 h3=>?_⟩⟩⟩
  cases d with
  | list l =>
   obtain ⟨a,xs,rfl,hs,hr⟩:=(i1.mono (s2.trans s3)).lst_inv
   refine ⟨a,xs,rfl,I3.fh.seq hs,fun p hp=>?_⟩
   have g:=Go.side (o:=HO.lst (cutV xs lo hi)) I3.fh hp
   refine k p _ _ F3 _ e3 (I3.go g) (s1.trans (s2.trans s3)) upd_same (same_none I3.fh hp) (same_none I3.bh hp) (I3.he hp) (fun i m z=>?_) (iss_cut hr lo hi) (h3 _ rfl)
   obtain ⟨b,vs,e,q,_⟩:=(I3.slot i).addr m
   rw [z] at e; injection e with e; injection e with e; subst e
   rw [hp] at q; cases q
  | _=>exact False.elim h3
end
def wL (W:WF):WE:=fun env Q=>W env fun ds e=>Q (.list ds) e
theorem vf_fz {e:Expr} {W:WF} (h:VF X e W):VE X e (wL W):=h.imp fun σ H R xx87=>by
 obtain ⟨M,env,F,Q,I,h,k⟩:=xx87
 refine ⟨M,env,F,_,I,h,fun a vs ds F1 H1 e1 I1 s1 h1 h2 h3 h4 h5 h6 h7=>?_⟩
 obtain ⟨J,s⟩:=I1.frz h1 h2 h4 h5
 exact k _ _ _ H1 e1 J (s1.trans s) (is_lst (SqL.of upd_same) (h6.mono s)) h7
theorem fresh_apart {K:PySem.W.Frag} {M:Frm} {F H:Hp} {env:Sto} {σ:St} (I:EnvOk K M F H env σ) {p:Addr} (hp:H p=none) : ∀ i,(gS env i).mut=true→vS σ i≠some (.ref p):=fun i m z=>by
 obtain ⟨b,vs,e,q,_⟩:=(I.slot i).addr m
 rw [z] at e; injection e with e; injection e with e; subst e
 rw [hp] at q; cases q
theorem new_lst {K:PySem.W.Frag} {M:Frm} {F H:Hp} {env:Sto} {σ:St} {R:VK} {Q:List PyData→Sto→Prop} {F0:Hp} {l:List PyData} {xs:List V} (I:EnvOk K M F H env σ) (s:Same F0 F) (hi:Iss K F l xs) (h:Q l env)
 (k : ∀ a vs ds F' H' env',EnvOk K M F' H' env' σ→Same F0 F'→H' a=some (.lst vs)→F' a=none→M.B a=none→M.He a=none→(∀ i,(gS env' i).mut=true→vS σ i≠some (.ref a))→Iss K F' ds vs→Q ds env'→R (.ref a) H') :
 ∀ p,H p=none→R (.ref p) (upd H p (.lst xs)):=fun p hp =>
  k p xs l F _ env (I.go (.side I.fh hp)) s upd_same (same_none I.fh hp) (same_none I.bh hp) (I.he hp) (fresh_apart I hp) hi h
section
variable {e:Expr} {es:List Expr} {W:WE} {Wr:WF} {pos:Pos}
def wNil:WF:=fun env Q=>Q [] env
def wCons (W:WE) (Wr:WF):WF:=fun env Q=>W env fun d e1=>Wr e1 fun ds e2=>Q (d::ds) e2
theorem va_nil:VA X [] wNil:=pa_nil.imp fun σ H R xx88=>by obtain ⟨M,env,F,Q,I,h,k⟩:=xx88; exact k [] [] F H env I (.refl _) iss_nil h
theorem va_cons (ha:VE X e W) (hr:VA X es Wr) (hs:starEach (e::es) X.env=(false,eval e X.env)::starEach es X.env:=by rfl):VA X (e::es) (wCons W Wr) :=
 (pa_cons ha hr hs).imp fun σ H R xx89=>by obtain ⟨M,env,F,Q,I,h,k⟩:=xx89; exact ⟨M,env,F,_,I,h,fun d v F1 H1 e1 I1 s1 i1 h1=>⟨M,e1,F1,_,I1,h1,fun ds vs F2 H2 e2 I2 s2 i2 h2=>k (d::ds) (v::vs) F2 H2 e2 I2 (s1.trans s2) (iss_cons (i1.mono s2) i2) h2⟩⟩
def wTup (Wr:WF):WE:=fun env Q=>Wr env fun ds e=>ds.length≤sizeLine∧Q (.tuple ds) e
theorem ve_tup {x1} (h:VA X es Wr):VE X (.Tuple es x1 pos) (wTup Wr):=(pe_tup h).imp fun σ H R xx90=>by
 obtain ⟨M,env,F,Q,I,h,k⟩:=xx90
 refine ⟨M,env,F,_,I,h,fun ds vs F1 H1 e1 I1 s1 i1 h1=>⟨by rw [i1.len]; exact h1.1,fun p hp=>?_⟩⟩
 have g:=Go.put (o:=HO.tup vs) I1.fh hp
 exact k _ _ _ _ e1 (I1.go g) (s1.trans g.f) (is_tup (SqT.of upd_same) (i1.mono g.f)) h1.2
def wLst (Wr:WF):WF:=fun env Q=>Wr env fun ds e=>ds.length≤sizeLine∧Q ds e
theorem vf_lst (h:VA X es Wr):VF X (.List es pos) (wLst Wr):=(pe_lst h).imp fun σ H R xx91=>by
 obtain ⟨M,env,F,Q,I,h,k⟩:=xx91
 exact ⟨M,env,F,_,I,h,fun ds vs F1 H1 e1 I1 s1 i1 h1=>⟨by rw [i1.len]; exact h1.1,new_lst I1 s1 i1 h1.2 k⟩⟩
end
end
end L2
namespace L2
open PySem PySem.Spec PyProof.Rows
section
variable {X:Cx}
def dI2 (g:Int→Int→(PyData→Prop)→Prop):D2
 | .int i,.int j,q=>g i j q
 | _,_,_=>False
theorem i2_of {g:Int→Int→(PyData→Prop)→Prop} {x y:PyData} {q:PyData→Prop} (h:dI2 g x y q) : ∃ i j,x = .int i∧y = .int j∧g i j q:=by
 cases x with
 | int i=>cases y with
  | int j=>exact ⟨i,j,rfl,rfl,h⟩
  | _=>exact False.elim h
 | _=>exact False.elim h
theorem opI_V {f:Value→Value→Sem Value} {C:Int→Int→Prop} {g:Int→Int→PyData} {gv:Int→Int→V} (h:OpR X f (rI C gv)) (hg : ∀ i j F,Is X.K F (g i j) (gv i j)):OpV X f (dI2 fun i j q=>C i j∧q (g i j)):=h.imp fun x y H Q xx92=>by
 obtain ⟨F,dx,dy,q,s,i1,i2,h,k⟩:=xx92
 obtain ⟨i,j,rfl,rfl,c,hq⟩:=i2_of h
 exact ⟨i,j,i1.int_inv,i2.int_inv,c,k _ _ F H (.refl s) (hg i j F) hq⟩
theorem opI0_V {f:Value→Value→Sem Value} {g:Int→Int→PyData} {gv:Int→Int→V} (h:OpR X f (rI0 gv)) (hg : ∀ i j F,Is X.K F (g i j) (gv i j)):OpV X f (dI2 fun i j q=>q (g i j)):=h.imp fun x y H Q xx93=>by
 obtain ⟨F,dx,dy,q,s,i1,i2,h,k⟩:=xx93
 obtain ⟨i,j,rfl,rfl,hq⟩:=i2_of h
 exact ⟨i,j,i1.int_inv,i2.int_inv,k _ _ F H (.refl s) (hg i j F) hq⟩
abbrev dSub:D2:=dI2 fun i j q=>q (.int (i-j))
abbrev dMulI:D2:=dI2 fun i j q=>IntMulOk i j∧q (.int (i*j))
abbrev dFdiv:D2:=dI2 fun i j q=>CDivB i j∧q (.int (i.fdiv j))
abbrev dDiv:D2:=dI2 fun i j q=>(0<j∧Builtin.Int.intBits j≤9000)∧q (.int (i/j))
abbrev dMod:D2:=dI2 fun i j q=>0<j∧q (.int (i%j))
abbrev dLt:D2:=dI2 fun i j q=>q (.bool (decide (i<j)))
abbrev dLe:D2:=dI2 fun i j q=>q (.bool (decide (i≤j)))
abbrev dGt:D2:=dI2 fun i j q=>q (.bool (decide (j<i)))
abbrev dGe:D2:=dI2 fun i j q=>q (.bool (decide (j≤i)))
theorem o_sub:OpV X (binaryOp .Sub) dSub:=opI0_V op_sub fun _ _ _=>is_int _
theorem o_mulI:OpV X (binaryOp .Mult) dMulI:=opI_V op_mulB fun _ _ _=>is_int _
theorem o_fdiv:OpV X (binaryOp .FloorDiv) dFdiv:=opI_V op_fdivB fun _ _ _=>is_int _
theorem op_divP:OpR X (binaryOp .FloorDiv) (rI (fun _ j=>0<j∧Builtin.Int.intBits j≤9000) fun i j => .int (i/j)):=op_fdivB.imp fun x y H Q xx94=>by
 obtain ⟨i,j,e1,e2,c,q⟩:=xx94
 exact ⟨i,j,e1,e2,⟨by have:=c.1; omega,c.2⟩,by show Q (V.int (i.fdiv j)) H; rw [Int.fdiv_eq_ediv_of_nonneg _ (Int.le_of_lt c.1)]; exact q⟩
theorem o_div:OpV X (binaryOp .FloorDiv) dDiv:=opI_V op_divP fun _ _ _=>is_int _
theorem o_mod:OpV X (binaryOp .Mod) dMod:=opI_V op_mod fun _ _ _=>is_int _
theorem o_lt:OpV X (compareOp .Lt) dLt:=opI0_V op_lt fun _ _ _=>is_bl _
theorem o_le:OpV X (compareOp .LtE) dLe:=opI0_V op_le fun _ _ _=>is_bl _
theorem o_gt:OpV X (compareOp .Gt) dGt:=opI0_V op_gt fun _ _ _=>is_bl _
theorem o_ge:OpV X (compareOp .GtE) dGe:=opI0_V op_ge fun _ _ _=>is_bl _
def dEq:D2:=fun d e q=>SeqAt.shaped d=true∧SeqAt.shaped e=true∧q (.bool (PyData.eqv d e))
def dNe:D2:=fun d e q=>SeqAt.shaped d=true∧SeqAt.shaped e=true∧q (.bool (!PyData.eqv d e))
theorem o_eq (hu:X.A.units+64<cLine):OpV X (compareOp .Eq) dEq:=(op_eqD hu).imp fun x y H Q xx95=>by
 obtain ⟨F,dx,dy,q,s,i1,i2,h,k⟩:=xx95
 exact ⟨dx,dy,i1.mono s,i2.mono s,h.1,h.2.1,k _ _ F H (.refl s) (is_bl _) h.2.2⟩
theorem o_ne (hu:X.A.units+64<cLine):OpV X (compareOp .NotEq) dNe:=(op_neD hu).imp fun x y H Q xx96=>by
 obtain ⟨F,dx,dy,q,s,i1,i2,h,k⟩:=xx96
 exact ⟨dx,dy,i1.mono s,i2.mono s,h.1,h.2.1,k _ _ F H (.refl s) (is_bl _) h.2.2⟩
def isNoneD:PyData→Bool
 | .none=>true
 | _=>false
def dIsN:D2:=fun d e q=>e = .none∧q (.bool (isNoneD d))
theorem is_none_iff {K:PySem.W.Frag} {F:Hp} {d:PyData} {x:V} (h:Is K F d x):decide (x = .non)=isNoneD d:=by
 cases d with
 | none=>rw [h.non_inv]; rfl
 | bool b=>rw [h.bl_inv]; rfl
 | int b=>rw [h.int_inv]; rfl
 | str b=>unfold Is at h; rw [h]; rfl
 | list l=>obtain ⟨a,xs,rfl,_⟩:=h.lst_inv; rfl
 | tuple l=>obtain ⟨a,xs,rfl,_⟩:=h.tup_inv; rfl
 | dict l=>obtain ⟨a,xs,rfl,_⟩:=h.dct_inv; rfl
theorem o_isN:OpV X (compareOp .Is) dIsN:=op_isN.imp fun x y H Q xx97=>by
 obtain ⟨F,dx,dy,q,s,i1,i2,h,k⟩:=xx97
 obtain ⟨rfl,hq⟩:=h
 exact ⟨i2.non_inv,by rw [is_none_iff i1]; exact k _ _ F H (.refl s) (is_bl _) hq⟩
def dAdd:D2
 | .int i,.int j,q=>q (.int (i+j))
 | .list l,.list m,q=>l.length+m.length≤sizeLine∧q (.list (l++m))
 | .tuple l,.tuple m,q=>l≠[]∧l.length+m.length≤sizeLine∧q (.tuple (l++m))
 | .str x,.str y,q=>x.length+y.length≤sizeLine∧q (.str (x++y))
 | _,_,_=>False
theorem o_add:OpV X (binaryOp .Add) dAdd:=by
 rintro pins s σ H x y v u Q I rx ry ⟨F,dx,dy,q,sm,i1,i2,h,k⟩
 cases dx with
 | int i=>cases dy with
  | int j=>exact op_add pins s σ H x y v u Q I rx ry ⟨i,j,i1.int_inv,i2.int_inv,k _ _ F H (.refl sm) (is_int _) h⟩
  | _=>exact False.elim h
 | list l=>cases dy with
  | list m =>
   obtain ⟨a,xs,rfl,hs,hr⟩:=i1.lst_inv
   obtain ⟨b,ys,rfl,ht,hq⟩:=i2.lst_inv
   refine op_catS pins s σ H _ _ v u Q I rx ry ⟨a,b,xs,ys,rfl,rfl,sm.seq hs,sm.seq ht,by rw [hr.len,hq.len]; exact h.1,fun p hp=>?_⟩
   have g:=Go.put (o:=HO.lst (xs++ys)) sm hp
   exact k _ _ _ _ g (is_lst (SqL.of upd_same) ((iss_append hr hq).mono g.f)) h.2
  | _=>exact False.elim h
 | tuple l=>cases dy with
  | tuple m =>
   obtain ⟨a,xs,rfl,hs,hr⟩:=i1.tup_inv
   obtain ⟨b,ys,rfl,ht,hq⟩:=i2.tup_inv
   refine op_catT pins s σ H _ _ v u Q I rx ry ⟨a,b,xs,ys,rfl,rfl,same_seqT sm hs,same_seqT sm ht,fun z=>h.1 (List.length_eq_zero_iff.mp (by rw [← hr.len,z]; rfl)),by rw [hr.len,hq.len]; exact h.2.1,fun z=>?_,fun _ p hp=>?_⟩
   ·have hm:m=[]:=List.length_eq_zero_iff.mp (by rw [← hq.len,z]; rfl)
    subst hm
    refine k _ _ F H (.refl sm) i1 ?_
    have:=h.2.2; rw [List.append_nil] at this; exact this
   ·have g:=Go.put (o:=HO.tup (xs++ys)) sm hp
    exact k _ _ _ _ g (is_tup (SqT.of upd_same) ((iss_append hr hq).mono g.f)) h.2.2
  | _=>exact False.elim h
 | str x0=>cases dy with
  | str y0 =>
   unfold Is at i1 i2
   exact op_add_str pins s σ H x y v u Q I rx ry ⟨x0,y0,i1,i2,h.1,k _ _ F H (.refl sm) (is_str _) h.2⟩
  | _=>exact False.elim h
 | _=>exact False.elim h
def wCat (Wa Wb:WE):WF:=fun env Q=>Wa env fun x e1=>Wb e1 fun y e2=>match x,y with
 | .list l,.list m=>l.length+m.length≤sizeLine∧Q (l++m) e2
 | _,_=>False
theorem vf_cat {a b:Expr} {Wa Wb:WE} {pos:Pos} (ha:VE X a Wa) (hb:VE X b Wb):VF X (.BinOp a .Add b pos) (wCat Wa Wb):=(pe_op op_catS ha hb).imp fun σ H R xx98=>by
 obtain ⟨M,env,F,Q,I,h,k⟩:=xx98
 refine ⟨M,env,F,_,I,h,fun d v F1 H1 e1 I1 s1 i1 h1=>⟨M,e1,F1,_,I1,h1,fun d2 v2 F2 H2 e2 I2 s2 i2 h2=>?_⟩⟩
 cases d with
 | list l=>cases d2 with
  | list m =>
   obtain ⟨a,xs,rfl,hs,hr⟩:=(i1.mono s2).lst_inv
   obtain ⟨b,ys,rfl,ht,hq⟩:=i2.lst_inv
   exact ⟨a,b,xs,ys,rfl,rfl,I2.fh.seq hs,I2.fh.seq ht,by rw [hr.len,hq.len]; exact h2.1,new_lst I2 (s1.trans s2) (iss_append hr hq) h2.2 k⟩
  | _=>exact False.elim h2
 | _=>exact False.elim h2
section
variable {x:Str} {p pos:Pos} {e:Expr} {es:List Expr} {Wr:WF} {id T:String} {r:DC} {rf:List PyData→(List PyData→Prop)→Prop}
def wCall (r:DC) (Wr:WF):WE:=fun env Q=>Wr env fun ds e=>r ds fun d=>Q d e
def wCallF (r:List PyData→(List PyData→Prop)→Prop) (Wr:WF):WF:=fun env Q=>Wr env fun ds e=>r ds fun l=>Q l e
theorem call_lift {σ:St} {H:Hp} {R:VK} (h:liftE X.K (wCall r Wr) σ H R):liftA X.K Wr σ H fun vs H1=>liftC X.K r vs H1 R:=by
 obtain ⟨M,env,F,Q,I,h,k⟩:=h
 exact ⟨M,env,F,_,I,h,fun ds vs F1 H1 e1 I1 s1 i1 h1=>⟨F1,ds,_,I1.fh,i1,h1,fun d v F2 H2 g i2 q=>k d v F2 H2 e1 (I1.go g) (s1.trans g.f) i2 q⟩⟩
theorem callF_lift {σ:St} {H:Hp} {R:VK} (h:liftF X.K (wCallF rf Wr) σ H R):liftA X.K Wr σ H fun vs H1=>liftCF X.K rf vs H1 R:=by
 obtain ⟨M,env,F,Q,I,h,k⟩:=h
 refine ⟨M,env,F,_,I,h,fun ds vs F1 H1 e1 I1 s1 i1 h1=>⟨F1,ds,_,I1.fh,i1,h1,fun l a xs F2 H2 g ha hf hh hi q=>?_⟩⟩
 exact k a xs l F2 H2 e1 (I1.go g) (s1.trans g.f) hh hf (same_none I1.bh ha) (I1.he ha) (fresh_apart I1 ha) hi q
theorem ve_callB (hc:CallV X (.builtin id) r) (hm:X.mg x=none) (hv:bootBuiltins x=some (.builtin id)) (ha:VA X (e::es) Wr) (hg:Gl X x:=by rfl) (hn:x ≠ "__name__":=by decide) (hdb:(x==("__debug__" : Str))=false:=by decide)
 (he:starEach (e::es) X.env=(false,eval e X.env)::starEach es X.env:=by rfl) (hpl:(backTo pos (starEach es X.env)).any (·.1)=false:=by rfl):VE X (.Call (.Name x p) (e::es) [] pos) (wCall r Wr) :=
 (pe_callB hc hg hm hv ha hn hdb he hpl).imp fun _ _ _ h=>call_lift h
theorem ve_callTy (hc:CallV X (.type T) r) (hm:X.mg x=none) (hv:bootBuiltins x=some (.type T)) (ha:VA X (e::es) Wr) (hg:Gl X x:=by rfl) (hn:x ≠ "__name__":=by decide) (hdb:(x==("__debug__" : Str))=false:=by decide)
 (he:starEach (e::es) X.env=(false,eval e X.env)::starEach es X.env:=by rfl) (hpl:(backTo pos (starEach es X.env)).any (·.1)=false:=by rfl):VE X (.Call (.Name x p) (e::es) [] pos) (wCall r Wr) :=
 (pe_callTy hc hg hm hv ha hn hdb he hpl).imp fun _ _ _ h=>call_lift h
theorem vf_callB (hc:CallVF X (.builtin id) rf) (hm:X.mg x=none) (hv:bootBuiltins x=some (.builtin id)) (ha:VA X (e::es) Wr) (hg:Gl X x:=by rfl) (hn:x ≠ "__name__":=by decide) (hdb:(x==("__debug__" : Str))=false:=by decide)
 (he:starEach (e::es) X.env=(false,eval e X.env)::starEach es X.env:=by rfl) (hpl:(backTo pos (starEach es X.env)).any (·.1)=false:=by rfl):VF X (.Call (.Name x p) (e::es) [] pos) (wCallF rf Wr) :=
 (pe_callB hc hg hm hv ha hn hdb he hpl).imp fun _ _ _ h=>callF_lift h
theorem vf_callTy (hc:CallVF X (.type T) rf) (hm:X.mg x=none) (hv:bootBuiltins x=some (.type T)) (ha:VA X (e::es) Wr) (hg:Gl X x:=by rfl) (hn:x ≠ "__name__":=by decide) (hdb:(x==("__debug__" : Str))=false:=by decide)
 (he:starEach (e::es) X.env=(false,eval e X.env)::starEach es X.env:=by rfl) (hpl:(backTo pos (starEach es X.env)).any (·.1)=false:=by rfl):VF X (.Call (.Name x p) (e::es) [] pos) (wCallF rf Wr) :=
 (pe_callTy hc hg hm hv ha hn hdb he hpl).imp fun _ _ _ h=>callF_lift h
def PSp (K:PySem.W.Frag) (sp:DC):Sp:=fun vs H Q _=>liftC K sp vs H Q
def FSp (K:PySem.W.Frag) (sp:List PyData→(List PyData→Prop)→Prop):Sp:=fun vs H Q _=>liftCF K sp vs H Q
theorem ve_fn {k:Nat} {ps:List Str} {sp:DC} (O:Ok X.prog X.w X.K X.mg X.base x k ps (PSp X.K sp)) (hr:Room k X.A) (ha:VA X (e::es) Wr) (hg:Gl X x:=by rfl) (hdb:(x==("__debug__" : Str))=false:=by decide)
 (he:starEach (e::es) X.env=(false,eval e X.env)::starEach es X.env:=by rfl) (hpl:(backTo pos (starEach es X.env)).any (·.1)=false:=by rfl):VE X (.Call (.Name x p) (e::es) [] pos) (wCall sp Wr) :=
 (pe_fn O hr ha hg hdb he hpl).imp fun σ H R h=>by
  have e:tCall (PSp X.K sp) [] E0 (liftA X.K Wr) σ H R=liftA X.K Wr σ H fun vs H1=>liftC X.K sp vs H1 R:=by unfold tCall PSp; simp only [List.append_nil]
  rw [e]
  exact call_lift h
theorem vf_fn {k:Nat} {ps:List Str} {sp:List PyData→(List PyData→Prop)→Prop} (O:Ok X.prog X.w X.K X.mg X.base x k ps (FSp X.K sp)) (hr:Room k X.A) (ha:VA X (e::es) Wr) (hg:Gl X x:=by rfl) (hdb:(x==("__debug__" : Str))=false:=by decide)
 (he:starEach (e::es) X.env=(false,eval e X.env)::starEach es X.env:=by rfl) (hpl:(backTo pos (starEach es X.env)).any (·.1)=false:=by rfl):VF X (.Call (.Name x p) (e::es) [] pos) (wCallF sp Wr) :=
 (pe_fn O hr ha hg hdb he hpl).imp fun σ H R h=>by
  have e:tCall (FSp X.K sp) [] E0 (liftA X.K Wr) σ H R=liftA X.K Wr σ H fun vs H1=>liftCF X.K sp vs H1 R:=by unfold tCall FSp; simp only [List.append_nil]
  rw [e]
  exact callF_lift h
end
def dAbs:DC
 | [.int i],q=>q (.int (if i<0 then -i else i))
 | _,_=>False
def dMin2:DC
 | [.int i,.int j],q=>q (.int (if j<i then j else i))
 | _,_=>False
def dInt1:DC
 | [.int i],q=>q (.int i)
 | [.bool b],q=>q (.int (if b then 1 else 0))
 | _,_=>False
def dLen:DC
 | [.list l],q=>q (.int l.length)
 | [.tuple l],q=>q (.int l.length)
 | [.str x],q=>x.length≤sizeLine∧q (.int x.length)
 | _,_=>False
theorem iss1 {K:PySem.W.Frag} {H:Hp} {d:PyData} {vs:List V} (h:Iss K H [d] vs) : ∃ v,vs=[v]∧Is K H d v:=by
 obtain ⟨x,r,rfl,p,q⟩:=h.cons_inv
 rw [q.nil_inv]; exact ⟨x,rfl,p⟩
theorem iss2 {K:PySem.W.Frag} {H:Hp} {d e:PyData} {vs:List V} (h:Iss K H [d,e] vs) : ∃ v u,vs=[v,u]∧Is K H d v∧Is K H e u:=by
 obtain ⟨x,r,rfl,p,q⟩:=h.cons_inv
 obtain ⟨y,rfl,q'⟩:=iss1 q
 exact ⟨x,y,rfl,p,q'⟩
theorem c_abs:CallV X (.builtin "abs") dAbs:=call_abs.imp fun xs H Q xx99=>by
 obtain ⟨F,ds,q,s,i,h,k⟩:=xx99
 match ds,h,i with
 | [.int n],h,i =>
  obtain ⟨v,rfl,j⟩:=iss1 i
  exact ⟨n,by rw [j.int_inv],k _ _ F H (.refl s) (is_int _) h⟩
theorem c_min2 (hc:X.calm=true):CallV X (.builtin "min") dMin2:=(call_min2 hc).imp fun xs H Q xx100=>by
 obtain ⟨F,ds,q,s,i,h,k⟩:=xx100
 match ds,h,i with
 | [.int n,.int m],h,i =>
  obtain ⟨v,u,rfl,j,j2⟩:=iss2 i
  exact ⟨n,m,by rw [j.int_inv,j2.int_inv],k _ _ F H (.refl s) (is_int _) h⟩
theorem c_int:CallV X (.type "int") dInt1:=call_int1.imp fun xs H Q xx101=>by
 obtain ⟨F,ds,q,s,i,h,k⟩:=xx101
 match ds,h,i with
 | [.int n],h,i =>
  obtain ⟨v,rfl,j⟩:=iss1 i
  exact .inl ⟨n,by rw [j.int_inv],k _ _ F H (.refl s) (is_int _) h⟩
 | [.bool n],h,i =>
  obtain ⟨v,rfl,j⟩:=iss1 i
  exact .inr ⟨n,by rw [j.bl_inv],k _ _ F H (.refl s) (is_int _) h⟩
theorem c_len:CallV X (.builtin "len") dLen:=(call_len_seq.or call_len_str).imp fun xs H Q xx102=>by
 obtain ⟨F,ds,q,s,i,h,k⟩:=xx102
 match ds,h,i with
 | [.list l],h,i =>
  obtain ⟨v,rfl,j⟩:=iss1 i
  obtain ⟨a,xs,rfl,hs,hr⟩:=j.lst_inv
  exact .inl ⟨a,xs,rfl,.inl (s.seq hs),k _ _ F H (.refl s) (by rw [hr.len]; exact is_int _) h⟩
 | [.tuple l],h,i =>
  obtain ⟨v,rfl,j⟩:=iss1 i
  obtain ⟨a,xs,rfl,hs,hr⟩:=j.tup_inv
  exact .inl ⟨a,xs,rfl,.inr (same_seqT s hs),k _ _ F H (.refl s) (by rw [hr.len]; exact is_int _) h⟩
 | [.str z],h,i =>
  obtain ⟨v,rfl,j⟩:=iss1 i
  unfold Is at j
  subst j
  exact .inr ⟨z,rfl,h.1,k _ _ F H (.refl s) (is_int _) h.2⟩
def dListF:List PyData→(List PyData→Prop)→Prop
 | [.list l],q=>q l
 | [.tuple l],q=>q l
 | _,_=>False
theorem c_list:CallVF X (.type "list") dListF:=call_list_of.imp fun xs H Q xx103=>by
 obtain ⟨F,ds,q,s,i,h,k⟩:=xx103
 match ds,h,i with
 | [.list l],h,i =>
  obtain ⟨v,rfl,j⟩:=iss1 i
  obtain ⟨a,xs,rfl,hs,hr⟩:=j.lst_inv
  exact ⟨a,xs,rfl,.inl (s.seq hs),fun p hp=>k l p xs F _ (.side s hp) hp (same_none s hp) upd_same hr h⟩
 | [.tuple l],h,i =>
  obtain ⟨v,rfl,j⟩:=iss1 i
  obtain ⟨a,xs,rfl,hs,hr⟩:=j.tup_inv
  exact ⟨a,xs,rfl,.inr (same_seqT s hs),fun p hp=>k l p xs F _ (.side s hp) hp (same_none s hp) upd_same hr h⟩
def dTuple:DC
 | [.list l],q=>q (.tuple l)
 | [.tuple l],q=>q (.tuple l)
 | _,_=>False
theorem c_tuple:CallV X (.type "tuple") dTuple:=call_tuple_of.imp fun xs H Q xx104=>by
 obtain ⟨F,ds,q,s,i,h,k⟩:=xx104
 match ds,h,i with
 | [.list l],h,i =>
  obtain ⟨v,rfl,j⟩:=iss1 i
  obtain ⟨a,xs,rfl,hs,hr⟩:=j.lst_inv
  refine ⟨a,xs,rfl,.inl ⟨s.seq hs,fun p hp=>?_⟩⟩
  have g:=Go.put (o:=HO.tup xs) s hp
  exact k _ _ _ _ g (is_tup (SqT.of upd_same) (hr.mono g.f)) h
 | [.tuple l],h,i =>
  obtain ⟨v,rfl,j⟩:=iss1 i
  obtain ⟨a,xs,rfl,hs,hr⟩:=j.tup_inv
  exact ⟨a,xs,rfl,.inr ⟨same_seqT s hs,k _ _ F H (.refl s) j h⟩⟩
end
end L2
namespace L2
open PySem PySem.Spec PyProof.Rows
section
variable {X:Cx}
section
variable {a b c e o:Expr} {W Wa Wb:WE} {Tc:WT} {pos pos':Pos} {st:Stmt} {sts rest:List Stmt} {Wt Wu:WS} {WfF:WF}
def wNext:WS:=fun D env=>D.nx env
def wSeq (t u:WS):WS:=fun D env=>t { D with nx:=u D } env
def wMid (t u:WS):WS:=fun D env => ∃ Md:Sto→Prop,t { D with nx:=Md } env ∧ ∀ e,Md e→u D e
def wNever:WS:=fun _ _=>False
theorem vss_nil:VSs X [] wNext:=pss_nil.imp fun D σ H xx105=>by obtain ⟨M,env,F,DD,I,h,k⟩:=xx105; exact k.nx env F H σ I (.refl _) h
theorem vss_one (h:VS X st Wt):VSs X [st] Wt:=pss_one h
theorem vss_cons (h1:VS X st Wt) (h2:VSs X rest Wu):VSs X (st::rest) (wSeq Wt Wu):=(pss_cons h1 h2).imp fun D σ H xx106=>by
 obtain ⟨M,env,F,DD,I,h,k⟩:=xx106
 exact ⟨M,env,F,{ DD with nx:=Wu DD },I,h,fun e' F' H' σ' I' s' h'=>⟨M,e',F',DD,I',h',k.mono s'⟩,k.rt,k.bk,k.ct⟩
theorem vss_mid (h1:VS X st Wt) (h2:VSs X rest Wu):VSs X (st::rest) (wMid Wt Wu):=(pss_cons h1 h2).imp fun D σ H xx107=>by
 obtain ⟨M,env,F,DD,I,⟨Md,h,hm⟩,k⟩:=xx107
 exact ⟨M,env,F,{ DD with nx:=Md },I,h,fun e' F' H' σ' I' s' h'=>⟨M,e',F',DD,I',hm e' h',k.mono s'⟩,k.rt,k.bk,k.ct⟩
theorem vss_never:VSs X sts wNever:=pss_never.imp fun D σ H xx108=>by obtain ⟨M,env,F,DD,I,h,k⟩:=xx108; exact h.elim
def wFz (i:Nat) (t:WS):WS:=fun D env=>t D (env.set i (gS env i).fz)
theorem vss_fz (i:Nat) (h:VSs X sts Wt):VSs X sts (wFz i Wt):=h.imp fun D σ H xx109=>by
 obtain ⟨M,env,F,DD,I,h,k⟩:=xx109
 obtain ⟨F',J,s⟩:=I.freeze i
 exact ⟨M,_,F',DD,J,h,k.mono s⟩
def wDrop (W:WE):WS:=fun D env=>W env fun _ e=>D.nx e
theorem vs_expr (he:VE X e W) (hs:swapsWith e none pos.line X.env=pure false:=by rfl):VS X (.Expr e pos) (wDrop W):=(ps_expr he hs).imp fun D σ H xx110=>by
 obtain ⟨M,env,F,DD,I,h,k⟩:=xx110
 exact ⟨M,env,F,_,I,h,fun d v F1 H1 e1 I1 s1 i1 h1=>k.nx e1 F1 H1 σ I1 s1 h1⟩
def wRet (W:WE):WS:=fun D env=>W env fun d e=>D.rt (.val d) e
theorem vs_ret (he:VE X e W):VS X (.Return (some e) pos) (wRet W):=(ps_ret he).imp fun D σ H xx111=>by
 obtain ⟨M,env,F,DD,I,h,k⟩:=xx111
 exact ⟨M,env,F,_,I,h,fun d v F1 H1 e1 I1 s1 i1 h1=>k.rt (.val d) v e1 F1 H1 σ I1 s1 i1 h1⟩
def wRetF (W:WF):WS:=fun D env=>W env fun l e=>D.rt (.own l) e
theorem vs_retF (he:VF X e WfF):VS X (.Return (some e) pos) (wRetF WfF):=(ps_ret he).imp fun D σ H xx112=>by
 obtain ⟨M,env,F,DD,I,h,k⟩:=xx112
 exact ⟨M,env,F,_,I,h,fun p vs l F1 H1 e1 I1 s1 g1 g2 g3 g4 g5 g6 h1=>k.rt (.own l) _ e1 F1 H1 σ I1 s1 ⟨p,vs,rfl,g1,g2,g3,g4,g6⟩ h1⟩
def wRetO (i:Nat):WS:=fun D env=>match gS env i with | .own ds=>D.rt (.own ds) env|_=>False
theorem vs_retO (i:Nat) {x:Str} {px:Pos} (hN:X.N[i]?=some x:=by rfl) (hv:Vis X.env.scope x:=by first|exact Or.inl rfl|exact Or.inr (Or.inl rfl)|exact Or.inr (Or.inr rfl)) (hd:(x==("__debug__" : Str))=false:=by decide)
 (hcd:(x==("__classdict__" : Str))=false:=by decide):VS X (.Return (some (.Name x px)) pos) (wRetO i):=(ps_ret (pe_var hN hv hd hcd)).imp fun D σ H xx113=>by
 obtain ⟨M,env,F,DD,I,h,k⟩:=xx113
 have S:=I.slot i
 unfold wRetO at h
 cases q:gS env i with
 | own ds =>
  rw [q] at S h
  obtain ⟨p,vs,e,g1,g2,g3,g4,g5⟩:=S
  exact ⟨_,vS_some e,k.rt (.own ds) _ env F H σ I (.refl _) ⟨p,vs,rfl,g1,g2,g3,g4,g5⟩ h⟩
 | non=>rw [q] at h; exact h.elim
 | val d=>rw [q] at h; exact h.elim
 | pen ds=>rw [q] at h; exact h.elim
 | new d=>rw [q] at h; exact h.elim
 | exc C=>rw [q] at h; exact h.elim
 | obj a0 C nm fs=>rw [q] at h; exact h.elim
def wIf (Tc:WT) (t u:WS):WS:=fun D env=>Tc env fun k e=>if k=true then t D e else u D e
theorem vs_if {A B:List Stmt} (hc:VT X c Tc) (ha:VSs X A Wt) (hb:VSs X B Wu):VS X (.If c A B pos) (wIf Tc Wt Wu):=(ps_if hc ha hb).imp fun D σ H xx114=>by
 obtain ⟨M,env,F,DD,I,h,k⟩:=xx114
 refine ⟨M,env,F,_,I,h,fun x F1 H1 e1 I1 s1 h1=>?_⟩
 cases x with
 | true=>exact iteT ⟨M,e1,F1,DD,I1,h1,k.mono s1⟩
 | false=>exact iteF ⟨M,e1,F1,DD,I1,h1,k.mono s1⟩
def wSet (i:Nat) (W:WE):WS:=fun D env=>W env fun d e=>D.nx (e.set i (.val d))
theorem vs_set {i:Nat} {x:Str} (hN:X.N.Nodup) (he:VE X e W) (hi:X.N[i]?=some x:=by rfl) (hx:Loc X.env.scope x:=by first|exact Or.inl rfl|exact Or.inr rfl) (hs:swapsWith e (some (.Name x pos')) pos.line X.env=pure false:=by rfl)
 (hf:X.fn x=true∨X.env.scope.names.lookup x=some .local:=by first|exact .inl rfl|exact .inr rfl):VS X (.Assign [.Name x pos'] e pos) (wSet i W):=(ps_set hN hi hx he hs hf).imp fun D σ H xx115=>by
 obtain ⟨M,env,F,DD,I,h,k⟩:=xx115
 exact ⟨M,env,F,_,I,h,fun d v F1 H1 e1 I1 s1 i1 h1=>k.nx _ F1 H1 _ (I1.setv i1) s1 h1⟩
def wSetO (i:Nat) (W:WF):WS:=fun D env=>W env fun l e=>D.nx (e.set i (.own l))
theorem vs_setO {i:Nat} {x:Str} (hN:X.N.Nodup) (he:VF X e WfF) (hi:X.N[i]?=some x:=by rfl) (hx:Loc X.env.scope x:=by first|exact Or.inl rfl|exact Or.inr rfl) (hs:swapsWith e (some (.Name x pos')) pos.line X.env=pure false:=by rfl)
 (hf:X.fn x=true∨X.env.scope.names.lookup x=some .local:=by first|exact .inl rfl|exact .inr rfl):VS X (.Assign [.Name x pos'] e pos) (wSetO i WfF):=(ps_set hN hi hx he hs hf).imp fun D σ H xx116=>by
 obtain ⟨M,env,F,DD,I,h,k⟩:=xx116
 exact ⟨M,env,F,_,I,h,fun p vs l F1 H1 e1 I1 s1 g1 g2 g3 g4 g5 g6 h1=>k.nx _ F1 H1 _ (I1.seto g1 g2 g3 g4 g5 g6) s1 h1⟩
def wgName (i:Nat):WG:=fun d env Q=>Q (env.set i (.val d))
theorem vg_name {i:Nat} {x:Str} (hN:X.N.Nodup) (hi:X.N[i]?=some x:=by rfl) (hx:Loc X.env.scope x:=by first|exact Or.inl rfl|exact Or.inr rfl) (hf:X.fn x=true∨X.env.scope.names.lookup x=some .local:=by first|exact .inl rfl|exact .inr rfl):VG X (.Name x pos) (wgName i) :=
 (pg_name hN hi hx hf).imp fun v σ H R xx117=>by obtain ⟨M,env,F,d,Q,I,j,h,k⟩:=xx117; exact k F H _ _ (I.setv j) (.refl _) h
def wgNil:WGs:=fun ds env Q=>ds=[]∧Q env
def wgCons (G:WG) (Gs:WGs):WGs:=fun ds env Q=>match ds with|[]=>False|d::r=>G d env fun e=>Gs r e Q
theorem vgs_nil:VGs X [] wgNil:=pgs_nil.imp fun v σ H R xx118=>by
 obtain ⟨M,env,F,ds,Q,I,j,h,k⟩:=xx118
 obtain ⟨rfl,h⟩:=h
 exact ⟨j.nil_inv,k F H env σ I (.refl _) h⟩
theorem vgs_cons {es:List Expr} {G:WG} {Gs:WGs} (h1:VG X e G) (h2:VGs X es Gs) (hs:(assignEach (e::es) X.env).map (·.2)=assign e X.env::(assignEach es X.env).map (·.2):=by rfl):VGs X (e::es) (wgCons G Gs) :=
 (pgs_cons h1 h2 hs).imp fun v σ H R xx119=>by
  obtain ⟨M,env,F,ds,Q,I,j,h,k⟩:=xx119
  cases ds with
  | nil=>exact False.elim h
  | cons d r =>
   obtain ⟨x,xs,rfl,j1,j2⟩:=j.cons_inv
   exact ⟨x,xs,rfl,M,env,F,d,_,I,j1,h,fun F1 H1 e1 σ1 I1 s1 q1=>⟨M,e1,F1,r,Q,I1,j2.mono s1,q1,fun F2 H2 e2 σ2 I2 s2 q2=>k F2 H2 e2 σ2 I2 (s1.trans s2) q2⟩⟩
def wgTup (n:Nat) (Gs:WGs):WG:=fun d env Q=>match d with | .tuple l=>l.length=n∧Gs l env Q|_=>False
theorem vg_tup {es:List Expr} {kk n:Nat} {Gs:WGs} (hc:X.calm=true) (h:VGs X es Gs) (hn:(assignEach es X.env).length=n:=by rfl) (hst:(assignEach es X.env).findIdx? (·.1)=none:=by rfl):VG X (.Tuple es kk pos) (wgTup n Gs) :=
 (pg_tup hc h hn hst).imp fun v σ H R xx120=>by
  obtain ⟨M,env,F,d,Q,I,j,h,k⟩:=xx120
  cases d with
  | tuple l =>
   obtain ⟨a,xs,rfl,hs,hr⟩:=j.tup_inv
   exact ⟨a,xs,rfl,same_seqT I.fh hs,by rw [hr.len]; exact h.1,M,env,F,l,Q,I,hr,h.2,k⟩
  | _=>exact False.elim h
def wAsg (W:WE) (G:WG):WS:=fun D env=>W env fun d e=>G d e D.nx
theorem vs_asg {tg:Expr} {G:WG} (he:VE X e W) (hg:VG X tg G) (hs:swapsWithSole [tg] e pos.line X.env=pure false:=by rfl) (hw:swappedStores [tg] e X.env=pure none:=by rfl)
 (h1:(assignEach [tg] X.env).map (·.2)=[assign tg X.env]:=by rfl):VS X (.Assign [tg] e pos) (wAsg W G):=(ps_asg he hg hs hw h1).imp fun D σ H xx121=>by
 obtain ⟨M,env,F,DD,I,h,k⟩:=xx121
 exact ⟨M,env,F,_,I,h,fun d v F1 H1 e1 I1 s1 i1 h1=>⟨M,e1,F1,d,_,I1,i1,h1,fun F2 H2 e2 σ2 I2 s2 q2=>k.nx e2 F2 H2 σ2 I2 (s1.trans s2) q2⟩⟩
def wApp (i:Nat) (W:WE):WS:=fun D env=>(gS env i).mut=true∧W env fun d e=>(gS e i).mut=true∧(gS e i).cnt.length<sizeLine∧D.nx (e.set i ((gS e i).upd ((gS e i).cnt++[d])))
theorem vs_append (i:Nat) {x:Str} {px apos cpos:Pos} (he:VE X e W) (hN:X.N[i]?=some x:=by rfl) (hv:Vis X.env.scope x:=by first|exact Or.inl rfl|exact Or.inr (Or.inl rfl)|exact Or.inr (Or.inr rfl)) (hd:(x==("__debug__" : Str))=false:=by decide)
 (hcd:(x==("__classdict__" : Str))=false:=by decide)
 (hbase:attributeBase (.Name x px) "append" X.env (eval (.Name x px) X.env)=eval (.Name x px) X.env:=by rfl)
 (hfew:((backTo cpos (starEach [e] X.env)).all (fun x => !x.1)&&(backToKw cpos (keywordEach [] X.env)).all (fun x=>x.1.isSome)
  && decide ([e].length+([]:List Keyword).length+(if ([]:List Keyword).isEmpty then 0 else 1)<30))=true:=by rfl)
 (hline:(apos.endLine==cpos.line)=true:=by rfl) (hst:starEach [e] X.env=(false,eval e X.env)::starEach [] X.env:=by rfl) (hplain:(backTo cpos (starEach [] X.env)).any (·.1)=false:=by rfl)
 (hs:swapsWith (.Call (.Attribute (.Name x px) "append" apos) [e] [] cpos) none pos.line X.env=pure false:=by rfl):VS X (.Expr (.Call (.Attribute (.Name x px) "append" apos) [e] [] cpos) pos) (wApp i W) :=
 (ps_expr (pe_append (pe_var hN hv hd hcd) he hbase hfew hline hst hplain) hs).imp fun D σ H xx122=>by
  obtain ⟨M,env,F,DD,I,⟨hm,h⟩,k⟩:=xx122
  obtain ⟨p,vs,ep,g1,g2,g3,g4⟩:=(I.slot i).addr hm
  refine ⟨_,vS_some ep,.inl ⟨rfl,_,SqL.of g1⟩,M,env,F,_,I,h,fun d v F1 H1 e1 I1 s1 i1 h1=>?_⟩
  obtain ⟨m1,z1,q1⟩:=h1
  obtain ⟨p',vs1,ep',f1,f2,f3,f4⟩:=(I1.slot i).addr m1
  rw [ep] at ep'; injection ep' with ep'; injection ep' with ep'; subst ep'
  exact ⟨p,vs1,v,rfl,rfl,f1,by rw [f4.len]; exact z1,k.nx _ F1 _ σ (I1.chg m1 ep (iss_append f4 (iss_cons i1 iss_nil))) s1 q1⟩
def wPut (i:Nat) (W Wj:WE):WS:=fun D env=>W env fun d e1=>(gS e1 i).mut=true∧Wj e1 fun y e2=>match y with
 | .int n=>(gS e2 i).mut=true ∧ ∃ j,ixN (gS e2 i).cnt.length n=some j∧D.nx (e2.set i ((gS e2 i).upd ((gS e2 i).cnt.set j d)))
 | _=>False
theorem iss_set {K:PySem.W.Frag} {H:Hp} {d:PyData} {v:V} (h:Is K H d v) : ∀ {l:List PyData} {xs:List V} (j:Nat),Iss K H l xs→Iss K H (l.set j d) (xs.set j v)
 | [],_,j,r=>by rw [r.nil_inv]; simpa using iss_nil
 | x::l,_,0,r=>by obtain ⟨y,ys,rfl,p,q⟩:=r.cons_inv; exact iss_cons h q
 | x::l,_,j+1,r=>by obtain ⟨y,ys,rfl,p,q⟩:=r.cons_inv; exact iss_cons p (iss_set h j q)
theorem vs_put (i:Nat) {x:Str} {px:Pos} (he:VE X e W) (hj:VE X b Wb) (hN:X.N[i]?=some x:=by rfl) (hv:Vis X.env.scope x:=by first|exact Or.inl rfl|exact Or.inr (Or.inl rfl)|exact Or.inr (Or.inr rfl)) (hd:(x==("__debug__" : Str))=false:=by decide)
 (hcd:(x==("__classdict__" : Str))=false:=by decide)
 (ha : ∀ v,assign (.Subscript (.Name x px) b pos') X.env v=(do
  let ov ← holding [v] (eval (.Name x px) X.env)
  let iv ← holding [v,ov] (eval b X.env)
  standAt pos'
  holding [v,ov,iv] (setItem ov iv v)
  release [v,ov,iv] []):=by intro _; rfl)
 (hs:swapsWithSole [.Subscript (.Name x px) b pos'] e pos.line X.env=pure false:=by rfl) (hw:swappedStores [.Subscript (.Name x px) b pos'] e X.env=pure none:=by rfl)
 (h1:(assignEach [.Subscript (.Name x px) b pos'] X.env).map (·.2)=[assign (.Subscript (.Name x px) b pos') X.env]:=by rfl):VS X (.Assign [.Subscript (.Name x px) b pos'] e pos) (wPut i W Wb) :=
 (ps_asg he (pg_sub (pe_var hN hv hd hcd) hj set_list ha) hs hw h1).imp fun D σ H xx123=>by
  obtain ⟨M,env,F,DD,I,h,k⟩:=xx123
  refine ⟨M,env,F,_,I,h,fun d v F1 H1 e1 I1 s1 i1 h1=>?_⟩
  obtain ⟨m1,h1⟩:=h1
  obtain ⟨p,vs,ep,g1,g2,g3,g4⟩:=(I1.slot i).addr m1
  refine ⟨_,vS_some ep,M,e1,F1,_,I1,h1,fun d2 v2 F2 H2 e2 I2 s2 i2 h2=>?_⟩
  cases d2 with
  | int n =>
   obtain ⟨m2,j,hj,q⟩:=h2
   obtain ⟨p',vs1,ep',f1,f2,f3,f4⟩:=(I2.slot i).addr m2
   rw [ep] at ep'; injection ep' with ep'; injection ep' with ep'; subst ep'
   exact ⟨p,vs1,n,j,rfl,i2.int_inv,f1,by rw [f4.len]; exact hj,k.nx _ F2 _ σ (I2.chg m2 ep (iss_set (i1.mono s2) j f4)) (s1.trans s2) q⟩
  | _=>exact False.elim h2
def wIxO (i:Nat) (Wj:WE):WE:=fun env Q=>(gS env i).mut=true∧Wj env fun y e=>match y with
 | .int n=>(gS e i).mut=true ∧ ∃ d,atI (gS e i).cnt n=some d∧Q d e
 | _=>False
theorem ve_ixO (i:Nat) {x:Str} {px:Pos} (hj:VE X b Wb) (hN:X.N[i]?=some x:=by rfl) (hv:Vis X.env.scope x:=by first|exact Or.inl rfl|exact Or.inr (Or.inl rfl)|exact Or.inr (Or.inr rfl)) (hd:(x==("__debug__" : Str))=false:=by decide)
 (hcd:(x==("__classdict__" : Str))=false:=by decide) (hs:PlainIx b:=by exact (fun _ _=>rfl)):VE X (.Subscript (.Name x px) b pos) (wIxO i Wb) :=
 (pe_ix ix_list (pe_var hN hv hd hcd) hj hs).imp fun σ H R xx124=>by
  obtain ⟨M,env,F,Q,I,⟨m,h⟩,k⟩:=xx124
  obtain ⟨p,vs,ep,g1,g2,g3,g4⟩:=(I.slot i).addr m
  refine ⟨_,vS_some ep,M,env,F,_,I,h,fun d2 v2 F2 H2 e2 I2 s2 i2 h2=>?_⟩
  cases d2 with
  | int n =>
   obtain ⟨m2,d,hd,q⟩:=h2
   obtain ⟨p',vs1,ep',f1,f2,f3,f4⟩:=(I2.slot i).addr m2
   rw [ep] at ep'; injection ep' with ep'; injection ep' with ep'; subst ep'
   obtain ⟨z,ez,hz⟩:=f4.atI hd
   exact ⟨p,vs1,n,z,rfl,i2.int_inv,SqL.of f1,ez,k d z F2 H2 e2 I2 s2 hz q⟩
  | _=>exact False.elim h2
def wLenO (i:Nat):WE:=fun env Q=>(gS env i).mut=true∧Q (.int (gS env i).cnt.length) env
theorem ve_lenO (i:Nat) {x:Str} {px p:Pos} (hm:X.mg "len" = none) (hN:X.N[i]?=some x:=by rfl) (hv:Vis X.env.scope x:=by first|exact Or.inl rfl|exact Or.inr (Or.inl rfl)|exact Or.inr (Or.inr rfl)) (hd:(x==("__debug__" : Str))=false:=by decide)
 (hcd:(x==("__classdict__" : Str))=false:=by decide) (hg:Gl X "len":=by rfl) (hs:starEach [.Name x px] X.env=(false,eval (.Name x px) X.env)::starEach [] X.env:=by rfl) (hpl:(backTo pos (starEach [] X.env)).any (·.1)=false:=by rfl) :
 VE X (.Call (.Name "len" p) [.Name x px] [] pos) (wLenO i) :=
 (pe_callB call_len_seq hg hm boot_len (pa_cons (pe_var hN hv hd hcd) pa_nil hs) (by decide) (by decide) hs hpl).imp fun σ H R xx125=>by
  obtain ⟨M,env,F,Q,I,⟨m,h⟩,k⟩:=xx125
  obtain ⟨a,vs,ep,g1,g2,g3,g4⟩:=(I.slot i).addr m
  exact ⟨_,vS_some ep,a,vs,rfl,.inl (SqL.of g1),k _ _ F H env I (.refl _) (by rw [g4.len]; exact is_int _) h⟩
def wWhile (Tc:WT) (t:WS):WS:=fun D env => ∃ P:Nat→Sto→Prop,(∃ m,P m env) ∧ ∀ m e,P m e→Tc e fun k e1=>if k=true then t { D with nx:=fun e2 => ∃ m',m'<m∧P m' e2,ct:=fun e2 => ∃ m',m'<m∧P m' e2,bk:=D.nx } e1 else D.nx e1
theorem vs_while {body:List Stmt} (hc:VT X c Tc) (hb:VSs X body Wt) (hp:PassesOwn (model X.prog X.w) X.A X.env X.xe:=by exact PassesOwn.never):VS X (.While c body [] pos) (wWhile Tc Wt) :=
 (ps_while hp hc hb).imp fun D σ H xx129=>by
  obtain ⟨M,env,F,DD,I,⟨P,⟨m0,p0⟩,turn⟩,k⟩:=xx129
  refine ⟨fun m σ' H' => ∃ e' F',EnvOk X.K M F' H' e' σ'∧Same F F'∧P m e',⟨m0,env,F,I,.refl _,p0⟩,fun m σ1 H1 xx128=>?_⟩
  obtain ⟨e1,F1,I1,s1,p1⟩:=xx128
  refine ⟨M,e1,F1,_,I1,turn m e1 p1,fun x F2 H2 e2 I2 s2 h2=>?_⟩
  cases x with
  | true =>
   refine iteT ⟨fun σ' H' => ∃ m',m'<m ∧ ∃ e' F',EnvOk X.K M F' H' e' σ'∧Same F F'∧P m' e',fun σ' H' z=>z,M,e2,F2,_,I2,h2,?_⟩
   have s02:=s1.trans s2
   exact ⟨fun e3 F3 H3 σ3 I3 s3 xx127=>by obtain ⟨m',l,p3⟩:=xx127; exact ⟨m',l,e3,F3,I3,s02.trans s3,p3⟩,fun r v e3 F3 H3 σ3 I3 s3=>k.rt r v e3 F3 H3 σ3 I3 (s02.trans s3),
    fun e3 F3 H3 σ3 I3 s3=>k.nx e3 F3 H3 σ3 I3 (s02.trans s3),fun e3 F3 H3 σ3 I3 s3 xx126=>by obtain ⟨m',l,p3⟩:=xx126; exact ⟨m',l,e3,F3,I3,s02.trans s3,p3⟩⟩
  | false=>exact iteF (k.nx e2 F2 H2 σ1 I2 (s1.trans s2) h2)
def wFor (Wi:WF) (G:WG) (t:WS):WS:=fun D env=>Wi env fun ds e0 => ∃ P:Nat→Sto→Prop,P 0 e0 ∧
 (∀ i d e,ds[i]?=some d→P i e→G d e fun e1=>t { D with nx:=P (i+1),ct:=P (i+1),bk:=D.nx } e1) ∧ ∀ e,P ds.length e→D.nx e
theorem vs_for {tg iter:Expr} {body:List Stmt} {Wi:WF} {G:WG} (hc:X.calm=true) (hi:VI X tg iter Wi) (hg:VG X tg G) (hb:VSs X body Wt)
 (hs : ∀ x,foldedSetIterable iter X.env x=pure x:=by intro _; rfl) (hp:PassesOwn (model X.prog X.w) X.A X.env X.xe:=by exact PassesOwn.never):VS X (.For tg iter body [] pos) (wFor Wi G Wt) :=
  (ps_for hp hc hi hg hb hs).imp fun D σ H xx132=>by
   obtain ⟨M,env,F,DD,I,h,k⟩:=xx132
   refine ⟨M,env,F,_,I,h,fun ds J F1 H1 e1 I1 s1 jt xx131=>?_⟩
   obtain ⟨P,p0,turn,fin⟩:=xx131
   refine ⟨fun i m σ' H'=>m=ds.length-i∧i≤ds.length ∧ ∃ e' F',EnvOk X.K M F' H' e' σ'∧Same F1 F'∧P i e',⟨ds.length,by simp,Nat.zero_le _,e1,F1,I1,.refl _,p0⟩,fun i m σ2 H2 xx130=>?_⟩
   obtain ⟨hm,hi,e2,F2,I2,s2,p2⟩:=xx130
   by_cases hl:i=ds.length
   ·subst hl
    exact .inl ⟨jt.stop H2 (s2.trans I2.fh),k.nx e2 F2 H2 σ2 I2 (s1.trans s2) (fin e2 p2)⟩
   ·have hlt:i<ds.length:=by omega
    refine .inr ⟨jt.go i H2 (s2.trans I2.fh) hlt,fun σ' H' => ∃ e' F',EnvOk X.K M F' H' e' σ'∧Same F1 F'∧P (i+1) e',fun σ' H' z=>⟨ds.length-(i+1),by omega,rfl,hlt,z⟩,fun x H3 hy=>?_⟩
    obtain ⟨d,F3,hd,g,j⟩:=jt.yld i H2 x H3 F2 s2 I2.fh hlt hy
    refine ⟨M,e2,F3,d,_,I2.go g,j,turn i d e2 hd p2,fun F4 H4 e4 σ4 I4 s4 h4=>⟨M,e4,F4,_,I4,h4,?_⟩⟩
    have s14:=s2.trans (g.f.trans s4)
    exact ⟨fun e5 F5 H5 σ5 I5 s5 p5=>⟨e5,F5,I5,s14.trans s5,p5⟩,fun r v e5 F5 H5 σ5 I5 s5=>k.rt r v e5 F5 H5 σ5 I5 ((s1.trans s14).trans s5),
     fun e5 F5 H5 σ5 I5 s5=>k.nx e5 F5 H5 σ5 I5 ((s1.trans s14).trans s5),fun e5 F5 H5 σ5 I5 s5 p5=>⟨e5,F5,I5,s14.trans s5,p5⟩⟩
end
end
end L2
namespace L2
open PySem PySem.Spec PyProof.Rows
section
variable {X:Cx}
theorem vals_ty : ∀ {ns:List String} {us:List Value},Vals (ns.map V.ty) us→us=ns.map Value.type
 | [],_,h=>by cases h; rfl
 | n::ns,_,h=>by
  cases h with
  | cons r t=>rw [vals_ty t]; cases r; rfl
theorem kit_D {pins:List (Addr×Obj)} {σ:St} {H:Hp} {s:Shared} {d:PyData} {x:V} {u:Value} (I:Inv X pins σ H s) (hd:Is X.K H d x) (rx:RelV x u) :
 ∃ HP:Heap→Prop,PySem.W.KitX X.K u (.type (tyD d)) HP∧HP s.heap∧u ≠ .builtin "__main__.__loader__#opaque":=by
  cases d with
  | none=>rw [hd.non_inv] at rx; cases rx; exact ⟨_,PySem.W.kitx_none,True.intro,fun z=>nomatch z⟩
  | bool y=>rw [hd.bl_inv] at rx; cases rx; exact ⟨_,PySem.W.kitx_bool,True.intro,fun z=>nomatch z⟩
  | int i=>rw [hd.int_inv] at rx; obtain ⟨t,rfl⟩:=rx; exact ⟨_,PySem.W.kitx_int,True.intro,fun z=>nomatch z⟩
  | str y =>
   unfold Is at hd
   subst hd
   obtain ⟨t,rfl⟩:=rx; exact ⟨_,PySem.W.kitx_str,True.intro,fun z=>nomatch z⟩
  | list l =>
   obtain ⟨a,xs,rfl,q,_⟩:=hd.lst_inv
   cases rx
   obtain ⟨its,_,pl,_⟩:=I.list q
   obtain ⟨o,ho,hc,_⟩:=pl.isList
   exact ⟨_,PySem.W.kitx_list,⟨o,ho,hc⟩,fun z=>nomatch z⟩
  | tuple l =>
   obtain ⟨a,xs,rfl,q,_⟩:=hd.tup_inv
   cases rx
   obtain ⟨its,_,pl,_⟩:=I.tuple q
   obtain ⟨o,ho,hc,_⟩:=pl
   exact ⟨_,PySem.W.kitx_tuple,⟨o,ho,hc⟩,fun z=>nomatch z⟩
  | dict l =>
   obtain ⟨a,kvs,rfl,q,_⟩:=hd.dct_inv
   cases rx
   obtain ⟨_,_,vs,_,p⟩:=(show ObjOk X.prog X.w H s.heap a (.dK kvs) from I.hok a _ q)
   obtain ⟨o,es,ep,h1,h2,_⟩:=p
   exact ⟨_,PySem.W.kitx_dict,⟨o,h1,h2.1⟩,fun z=>nomatch z⟩
def rIsAny (K:PySem.W.Frag):List V→Hp→VK→Prop:=fun xs H Q => ∃ (d:PyData) (x:V) (a:Addr) (ns:List String) (b:Bool),xs=[x,.ref a]∧H a=some (.tup (ns.map V.ty))∧Is K H d x∧PySem.W.kitAny K (.type (tyD d)) (ns.map Value.type)=some b∧Q (.bl b) H
theorem call_isAny:CallR X (.builtin "isinstance") (rIsAny X.K):=by
 intro pins s σ H xs us Q I r h
 obtain ⟨d,x,a,ns,b,rfl,ha,hd,e,q⟩:=h
 obtain ⟨u,c,rfl,rx,rc⟩:=vals2 r
 cases rc
 obtain ⟨its,rv,pl,_⟩:=I.tuple (SqT.of ha)
 obtain ⟨⟨cls,dd,data,sl⟩,ho,hc,n,hdt⟩:=pl
 simp only at hc hdt
 subst hc hdt
 rw [vals_ty rv] at ho
 obtain ⟨HP,Z,hp,hne⟩:=kit_D I hd rx
 exact PySem.W.kia_tup Z I.kIn hp ho e hne fun tk=>⟨.bl b,H,I.tok tk,rfl,q⟩
theorem vals_bools : ∀ {bs:List Bool} {us:List Value},Vals (bs.map V.bl) us→LSm.BoolsAre us bs
 | [],_,h=>by cases h; exact .nil
 | b::bs,_,h=>by
  cases h with
  | cons r t=>cases r; exact .cons b (vals_bools t)
def rAll (K:PySem.W.Frag):List V→Hp→VK→Prop:=fun xs H Q => ∃ (a:Addr) (bs:List Bool),xs=[.ref a]∧SqL K H a (bs.map V.bl)∧Q (.bl (bs.all id)) H
theorem call_all (hc:X.calm=true):CallR X (.builtin "all") (rAll X.K):=by
 intro pins s σ H xs us Q I r h
 obtain ⟨a,bs,rfl,ha,q⟩:=h
 obtain ⟨u,rfl,rx⟩:=vals1 r
 cases rx
 obtain ⟨its,rv,pl,_⟩:=I.list ha
 have hl:=pl.isList
 have hb:=vals_bools rv
 have hlt:a<s.heap.objs.size:=pl.lt
 refine call_all_walk (wpAny_pyIter_list hl ?_)
 refine ⟨s.heap.objs.size,[s.heap.objs.size,a],[s.heap.objs.size],its.toArray.size,_,_,fun i=>(bs[i]?).getD true,rfl,Walks.list (A:=X.A.in1) (I.ok.hd hc) _ a (Nat.ne_of_lt hlt) its.toArray,
  ⟨⟨_,Heap.get?_push_size _ rfl,rfl,rfl⟩,hl.push _⟩,fun i v s' Q' E' hP hQ=>?_,fun h' tk hk=>?_⟩
 ·obtain ⟨b,e,rfl⟩:=hb.get i v (by simpa using hP)
  simp only [e,Option.getD_some] at hQ
  exact wpAny_truthy_bool hQ
 ·have hlen:its.toArray.size=bs.length:=by rw [List.size_toArray]; exact hb.length
  have e:((List.range its.toArray.size).all fun i=>(bs[i]?).getD true)=bs.all id:=by
   rw [hlen,Bool.eq_iff_iff,List.all_eq_true,List.all_eq_true]
   constructor
   ·intro z b hb'
    obtain ⟨i,hi,rfl⟩:=List.getElem_of_mem hb'
    have:=z i (List.mem_range.mpr hi)
    simpa [hi] using this
   ·intro z i hi
    have hi':=List.mem_range.mp hi
    simpa [hi'] using z _ (List.getElem_mem hi')
  rw [e]
  refine ⟨.bl (bs.all id),H,I.kept (t':=tk) (fun b o z=>hk b o (fun hm=>?_) (Heap.get?_push_of_some _ z)),rfl,q⟩
  rw [List.mem_singleton.mp hm] at z
  exact Nat.lt_irrefl _ (Heap.lt_size z)
theorem preSum_list : ∀ (ns:List Int) (n:Nat),n≤ns.length→preSum (fun i=>(ns[i]?).getD 0) n=(ns.take n).sum
 | ns,0,_=>by simp [preSum]
 | ns,n+1,h=>by
  have hn:n<ns.length:=h
  have e:(ns[n]?).getD 0=ns[n]:=by rw [List.getElem?_eq_getElem hn]; rfl
  have e2:(ns.take n++[ns[n]]).sum=(ns.take n).sum+ns[n]:=by rw [List.sum_append]; simp
  rw [preSum,preSum_list ns n (Nat.le_of_lt hn),e,List.take_add_one,List.getElem?_eq_getElem hn]
  exact e2.symm
theorem ints_get : ∀ {ns:List Int} {us:List Value},Vals (ns.map V.int) us → ∀ (i:Nat) (v:Value),us[i]?=some v → ∃ t,v = .int ((ns[i]?).getD 0) t
 | [],_,h,i,v,e=>by cases h; simp at e
 | n::ns,_,h,i,v,e=>by
  cases h with
  | cons r t =>
   cases i with
   | zero =>
    obtain ⟨k,rfl⟩:=r
    have:Value.int n k=v:=by simpa using e
    exact ⟨k,by rw [← this]; rfl⟩
   | succ i =>
    obtain ⟨k,hk⟩:=ints_get t i v (by simpa using e)
    exact ⟨k,by simpa using hk⟩
def rSum (K:PySem.W.Frag):List V→Hp→VK→Prop:=fun xs H Q => ∃ (a:Addr) (ns:List Int),xs=[.ref a]∧(SqL K H a (ns.map V.int)∨SqT K H a (ns.map V.int))∧Q (.int ns.sum) H
theorem call_sum (hc:X.calm=true):CallR X (.builtin "sum") (rSum X.K):=by
 intro pins s σ H xs us Q I r h
 obtain ⟨a,ns,rfl,ha,q⟩:=h
 obtain ⟨u,rfl,rx⟩:=vals1 r
 cases rx
 have fin : ∀ (its:List Value) (h':Heap) (tk t':Nat),its.length=ns.length→(∀ b o,s.heap.get? b=some o→h'.get? b=some o)→EP X pins σ Q (.int (preSum (fun i=>(ns[i]?).getD 0) its.toArray.size) t') { s with heap:=h',toks:=tk }:=fun its h' tk t' hl hk=>by
  have e:preSum (fun i=>(ns[i]?).getD 0) its.toArray.size=ns.sum:=by
   rw [List.size_toArray,hl,preSum_list ns _ (Nat.le_refl _),List.take_length]
  rw [e]
  exact ⟨.int ns.sum,H,I.kept (t':=tk) hk,⟨t',rfl⟩,q⟩
 have old : ∀ {h':Heap} {ob:Obj},(∀ b o,b ∉ [s.heap.objs.size]→(s.heap.push ob).get? b=some o→h'.get? b=some o) → ∀ b o,s.heap.get? b=some o→h'.get? b=some o:=fun hk b o z =>
  hk b o (fun hm=>by rw [List.mem_singleton.mp hm] at z; exact Nat.lt_irrefl _ (Heap.lt_size z)) (Heap.get?_push_of_some _ z)
 rcases ha with ha|ha
 ·obtain ⟨its,rv,pl,_⟩:=I.list ha
  have hl:=pl.isList
  have hlt:a<s.heap.objs.size:=pl.lt
  have hlen:its.length=ns.length:=by rw [← rv.length,List.length_map]
  refine call_sum_walkG (wpAny_pyIter_list hl ?_)
  refine ⟨s.heap.objs.size,[s.heap.objs.size,a],[s.heap.objs.size],its.toArray.size,_,_,fun i=>(ns[i]?).getD 0,rfl,Walks.list (A:=X.A.in1) (I.ok.hd hc) _ a (Nat.ne_of_lt hlt) its.toArray,
   ⟨⟨_,Heap.get?_push_size _ rfl,rfl,rfl⟩,hl.push _⟩,fun b hb=>?_,fun i v hP=>ints_get rv i v (by simpa using hP),fun h' tk t' hk=>fin its h' tk t' hlen (old hk)⟩
  have hb':b=s.heap.objs.size∨b=a:=by simpa using hb
  rw [Heap.size_push]
  rcases hb' with rfl|rfl
  ·exact Nat.lt_succ_self _
  ·exact Nat.lt_succ_of_lt hlt
 ·obtain ⟨its,rv,pl,_⟩:=I.tuple ha
  have hl:s.heap.IsTuple a its.toArray:=pl
  have hlt:a<s.heap.objs.size:=IsTup.lt pl
  have hlen:its.length=ns.length:=by rw [← rv.length,List.length_map]
  refine call_sum_walkG (wpAny_pyIter_tuple hl ?_)
  refine ⟨s.heap.objs.size,[s.heap.objs.size,a],[s.heap.objs.size],its.toArray.size,_,_,fun i=>(ns[i]?).getD 0,rfl,Walks.tuple (A:=X.A.in1) (I.ok.hd hc) _ a (Nat.ne_of_lt hlt) its.toArray,
   ⟨⟨_,Heap.get?_push_size _ rfl,rfl,rfl⟩,pl.push _⟩,fun b hb=>?_,fun i v hP=>ints_get rv i v (by simpa using hP),fun h' tk t' hk=>fin its h' tk t' hlen (old hk)⟩
  have hb':b=s.heap.objs.size∨b=a:=by simpa using hb
  rw [Heap.size_push]
  rcases hb' with rfl|rfl
  ·exact Nat.lt_succ_self _
  ·exact Nat.lt_succ_of_lt hlt
def rSorted (K:PySem.W.Frag):List V→Hp→VK→Prop:=fun xs H Q => ∃ (a:Addr) (ns:List Int),xs=[.ref a]∧SqL K H a (ns.map V.int)∧ns.length<64 ∧ ∀ (p:Addr) (ns':List Int),H p=none→ns'.Perm ns→ns'.Pairwise (· ≤ ·)→Q (.ref p) (upd H p (.lst (ns'.map V.int)))
theorem call_sorted:CallR X (.builtin "sorted") (rSorted X.K):=by
 intro pins s σ H xs us Q I r h
 obtain ⟨a,ns,rfl,ha,h64,q⟩:=h
 obtain ⟨u,rfl,rx⟩:=vals1 r
 cases rx
 obtain ⟨its,rv,pl,_⟩:=I.list ha
 have hlen:its.length=ns.length:=by rw [← rv.length,List.length_map]
 refine sorted_ints pl.isList (intsAre_of rv) (by omega) fun out ns' a1 a2 a3=>?_
 obtain ⟨e,he⟩:=sortedAll_at s.heap its out
 have hl':ns'.length=ns.length:=a2.length_eq
 refine ⟨.ref (s.heap.objs.size+1),_,I.laid (t':=s.toks) (a:=s.heap.objs.size+1) (o :=.lst (ns'.map V.int)) (fun b o z=>sortedAll_old z) (Nat.le_succ _) ?_,rfl,q _ ns' (I.hok.fresh (Nat.le_succ _)) a2 a3⟩
 exact ⟨Nat.le_of_lt (small1000 (by rw [List.length_map]; omega)),out.toList,e,vals_ints a1,by rw [Array.toArray_toList]; exact he⟩
def iAny (K:PySem.W.Frag) (tl:TE):TI:=fun σ H R=>tl σ H fun x H1 => ∃ a,x = .ref a∧(((∃ xs,SqL K H1 a xs)∧R (Itl K a) H1)∨((∃ xs,SqT K H1 a xs)∧R (Itt K a) H1))
theorem pi_any {tg l:Expr} {tl:TE} (hl:PE X l tl):PI X tg l (iAny X.K tl):=by
 intro pins s σ H R I h
 refine thn (hl pins s σ H _ I h) fun v s1 xx133=>?_
 obtain ⟨x,H1,I1,r1,q1⟩:=xx133
 obtain ⟨a,e,q1⟩:=q1
 subst e
 cases r1
 rcases q1 with ⟨⟨xs,hq⟩,q⟩|⟨⟨xs,hq⟩,q⟩
 ·obtain ⟨its,rv,p,hz⟩:=I1.list hq
  refine wpAny_pyIter_list p.isList ?_
  refine ⟨s1.heap.objs.size,[s1.heap.objs.size],_,_,H1,rfl,I1.kept (t':=s1.toks) fun b o e=>Heap.get?_push_of_some _ e,turn_list a _,⟨_,Heap.get?_push_size _ rfl,rfl,rfl⟩,fun b hb=>?_,q⟩
  have e:b=s1.heap.objs.size:=by simpa using hb
  subst e
  exact I1.fpOk (Nat.le_refl _) (I1.hok.fresh (Nat.le_refl _))
 ·obtain ⟨its,rv,p,hz⟩:=I1.tuple hq
  refine wpAny_pyIter_tuple (show s1.heap.IsTuple a its.toArray from p) ?_
  refine ⟨s1.heap.objs.size,[s1.heap.objs.size],_,_,H1,rfl,I1.kept (t':=s1.toks) fun b o e=>Heap.get?_push_of_some _ e,turn_tuple a _,⟨_,Heap.get?_push_size _ rfl,rfl,rfl⟩,fun b hb=>?_,q⟩
  have e:b=s1.heap.objs.size:=by simpa using hb
  subst e
  exact I1.fpOk (Nat.le_refl _) (I1.hok.fresh (Nat.le_refl _))
end
theorem boot_all:bootBuiltins "all" = some (.builtin "all"):=by decide +kernel
theorem boot_sum:bootBuiltins "sum" = some (.builtin "sum"):=by decide +kernel
theorem boot_sorted:bootBuiltins "sorted" = some (.builtin "sorted"):=by decide +kernel
end L2
namespace L2
open PySem PySem.Spec PyProof.Rows
section
variable {X:Cx}
theorem itd_lst {K:PySem.W.Frag} {F:Hp} {a:Addr} {xs:List V} {l:List PyData} (hs:SqL K F a xs) (hr:Iss K F l xs):ItD K (Itl K a) F l where
 go:=fun i H s hi=>⟨xs,xs[i]'(by rw [hr.len]; exact hi),s.seq hs,List.getElem?_eq_getElem _⟩
 stop:=fun H s=>⟨xs,s.seq hs,by rw [hr.len]; exact Nat.le_refl _⟩
 yld:=fun i H x H' F1 s1 s2 hi hy=>by
  obtain ⟨rfl,hy⟩:=hy
  obtain ⟨d,e1,e2⟩:=hr.get' (hy xs ((s1.trans s2).seq hs))
  exact ⟨d,F1,e1,.refl s2,e2.mono s1⟩
theorem itd_tup {K:PySem.W.Frag} {F:Hp} {a:Addr} {xs:List V} {l:List PyData} (hs:SqT K F a xs) (hr:Iss K F l xs):ItD K (Itt K a) F l where
 go:=fun i H s hi=>⟨xs,xs[i]'(by rw [hr.len]; exact hi),same_seqT s hs,List.getElem?_eq_getElem _⟩
 stop:=fun H s=>⟨xs,same_seqT s hs,by rw [hr.len]; exact Nat.le_refl _⟩
 yld:=fun i H x H' F1 s1 s2 hi hy=>by
  obtain ⟨rfl,hy⟩:=hy
  obtain ⟨d,e1,e2⟩:=hr.get' (hy xs (same_seqT (s1.trans s2) hs))
  exact ⟨d,F1,e1,.refl s2,e2.mono s1⟩
def rngD (lo:Int) (n:Nat):List PyData:=(List.range n).map fun (k:Nat) => .int (lo+(k:Int))
theorem rngD_len (lo:Int) (n:Nat):(rngD lo n).length=n:=by simp [rngD]
theorem rngD_get {lo:Int} {n i:Nat} (h:i<n):(rngD lo n)[i]?=some (.int (lo+i)):=by simp [rngD,h]
theorem rngD_inv {lo:Int} {n i:Nat} {d:PyData} (h:(rngD lo n)[i]?=some d):i<n∧d = .int (lo+i):=by
 have hi:i<n:=by
  have:=(List.getElem?_eq_some_iff.mp h).1
  rwa [rngD_len] at this
 rw [rngD_get hi] at h
 exact ⟨hi,(Option.some.inj h).symm⟩
theorem itd_rng {K:PySem.W.Frag} {F:Hp} {lo:Int} {n:Nat}:ItD K (Itr lo n) F (rngD lo n) where
 go:=fun i H s hi=>by rw [rngD_len] at hi; exact hi
 stop:=fun H s=>by rw [rngD_len]; exact Nat.le_refl _
 yld:=fun i H x H' F1 s1 s2 hi hy=>by
  obtain ⟨rfl,rfl⟩:=hy
  rw [rngD_len] at hi
  exact ⟨_,F1,rngD_get hi,.refl s2,is_int _⟩
def enumD (l:List PyData):List PyData:=(List.range l.length).map fun (k:Nat) => .tuple [.int k,(l[k]?).getD .none]
theorem enumD_len (l:List PyData):(enumD l).length=l.length:=by simp [enumD]
theorem enumD_get {l:List PyData} {i:Nat} {d:PyData} (h:l[i]?=some d):(enumD l)[i]?=some (.tuple [.int i,d]):=by
 have hi:=(List.getElem?_eq_some_iff.mp h).1
 have e:l[i]=d:=by rw [List.getElem?_eq_getElem hi] at h; exact Option.some.inj h
 simp [enumD,hi,e]
theorem enumD_inv {l:List PyData} {i:Nat} {d:PyData} (h:(enumD l)[i]?=some d) : ∃ x,l[i]?=some x∧d = .tuple [.int i,x]:=by
 have hi:i<l.length:=by
  have:=(List.getElem?_eq_some_iff.mp h).1
  rwa [enumD_len] at this
 have e:=enumD_get (List.getElem?_eq_getElem hi)
 rw [h] at e
 exact ⟨_,List.getElem?_eq_getElem hi,Option.some.inj e⟩
theorem itd_enum {K:PySem.W.Frag} {F:Hp} {a:Addr} {xs:List V} {l:List PyData} (hs:SqL K F a xs) (hr:Iss K F l xs):ItD K (Ite K a) F (enumD l) where
 go:=fun i H s hi=>by rw [enumD_len] at hi; exact ⟨xs,xs[i]'(by rw [hr.len]; exact hi),s.seq hs,List.getElem?_eq_getElem _⟩
 stop:=fun H s=>by rw [enumD_len]; exact ⟨xs,s.seq hs,by rw [hr.len]; exact Nat.le_refl _⟩
 yld:=fun i H x H' F1 s1 s2 hi hy=>by
  obtain ⟨p,y,hy,hp,rfl,rfl⟩:=hy
  obtain ⟨d,e1,e2⟩:=hr.get' (hy xs ((s1.trans s2).seq hs))
  have g:=Go.put (o:=HO.tup [.int i,y]) s2 hp
  exact ⟨_,_,enumD_get e1,g,is_tup (SqT.of upd_same) (iss_cons (is_int _) (iss_cons ((e2.mono s1).mono g.f) iss_nil))⟩
section
variable {tg a b c:Expr} {W:WE} {Wr:WF} {p pos:Pos}
def isTy (T:String):PyData→Bool
 | .none=>false
 | .bool _=>T == "bool" || T == "int"
 | .int _=>T == "int"
 | .str _=>T == "str"
 | .list _=>T == "list"
 | .tuple _=>T == "tuple"
 | .dict _=>T == "dict"
def dSum:DC
 | [.list l],q => ∃ ns:List Int,l=ns.map .int∧q (.int ns.sum)
 | [.tuple l],q => ∃ ns:List Int,l=ns.map .int∧q (.int ns.sum)
 | _,_=>False
def seqD:PyData→Option (List PyData)
 | .list l=>some l
 | .tuple l=>some l
 | _=>none
theorem seq_elim {d:PyData} {l:List PyData} {Q:List PyData→Prop} (h:seqD d=some l) (q:Q l):(seqD d).elim False Q:=by rw [h]; exact q
theorem len_seq {d:PyData} {l:List PyData} {q:PyData→Prop} (h:seqD d=some l) (hq:q (.int l.length)):dLen [d] q:=by
 cases d with
 | list m=>cases h; exact hq
 | tuple m=>cases h; exact hq
 | _=>cases h
theorem ix_seqD {d:PyData} {l:List PyData} {i:Int} {x:PyData} {q:PyData→Prop} (h:seqD d=some l) (e:atI l i=some x) (hq:q x):dIx d (.int i) q:=by
 cases d with
 | list m=>cases h; exact ⟨x,e,hq⟩
 | tuple m=>cases h; exact ⟨x,e,hq⟩
 | _=>cases h
theorem sum_seq {d:PyData} {ns:List Int} {q:PyData→Prop} (h:seqD d=some (ns.map .int)) (hq:q (.int ns.sum)):dSum [d] q:=by
 cases d with
 | list m=>cases h; exact ⟨ns,rfl,hq⟩
 | tuple m=>cases h; exact ⟨ns,rfl,hq⟩
 | _=>cases h
theorem isi_seq (d:PyData):(isTy "list" d||isTy "tuple" d)=(seqD d).isSome:=by cases d <;> rfl
def wiSeq (W:WE):WF:=fun env Q=>W env fun d e=>(seqD d).elim False fun l=>Q l e
theorem vi_seq (h:VE X a W):VI X tg a (wiSeq W):=(pi_any h).imp fun σ H R xx134=>by
 obtain ⟨M,env,F,Q,I,h,k⟩:=xx134
 refine ⟨M,env,F,_,I,h,fun d v F1 H1 e1 I1 s1 i1 h1=>?_⟩
 cases d with
 | list l =>
  obtain ⟨b,xs,rfl,hs,hr⟩:=i1.lst_inv
  exact ⟨b,rfl,.inl ⟨⟨xs,I1.fh.seq hs⟩,k l _ F1 H1 e1 I1 s1 (itd_lst hs hr) h1⟩⟩
 | tuple l =>
  obtain ⟨b,xs,rfl,hs,hr⟩:=i1.tup_inv
  exact ⟨b,rfl,.inr ⟨⟨xs,same_seqT I1.fh hs⟩,k l _ F1 H1 e1 I1 s1 (itd_tup hs hr) h1⟩⟩
 | _=>exact False.elim h1
def wiR1 (W:WE):WF:=fun env Q=>W env fun d e=>match d with
 | .int j=>(-(2^62)≤j∧j<2^62)∧Q (rngD 0 j.toNat) e
 | _=>False
theorem vi_range1 (hm:X.mg "range" = none) (ha:VE X a W) (hg:Gl X "range":=by rfl) (hs:starEach [a] X.env=[(false,eval a X.env)]:=by rfl) (hs':starEach [a] X.env=(false,eval a X.env)::starEach [] X.env:=by rfl):VI X tg (.Call (.Name "range" p) [a] [] pos) (wiR1 W) :=
 (pi_range1 hg hm (pa_cons ha pa_nil hs') hs).imp fun σ H R xx135=>by
  obtain ⟨M,env,F,Q,I,h,k⟩:=xx135
  refine ⟨M,env,F,_,I,h,fun d v F1 H1 e1 I1 s1 i1 h1=>?_⟩
  cases d with
  | int j=>exact ⟨j,by rw [i1.int_inv],h1.1.1,h1.1.2,k _ _ F1 H1 e1 I1 s1 itd_rng h1.2⟩
  | _=>exact False.elim h1
def wiEn (W:WE):WF:=fun env Q=>W env fun d e=>match d with
 | .list l=>Q (enumD l) e
 | _=>False
theorem vi_enum {elts:List Expr} {x1:Nat} {tpos:Pos} (hm:X.mg "enumerate" = none) (ha:VE X a W) (hg:Gl X "enumerate":=by rfl) (hs:starEach [a] X.env=[(false,eval a X.env)]:=by rfl) (hs':starEach [a] X.env=(false,eval a X.env)::starEach [] X.env:=by rfl) :
 VI X (.Tuple elts x1 tpos) (.Call (.Name "enumerate" p) [a] [] pos) (wiEn W) :=
 (pi_enum hg hm (pa_cons ha pa_nil hs') hs).imp fun σ H R xx136=>by
  obtain ⟨M,env,F,Q,I,h,k⟩:=xx136
  refine ⟨M,env,F,_,I,h,fun d v F1 H1 e1 I1 s1 i1 h1=>?_⟩
  cases d with
  | list l =>
   obtain ⟨b,xs,rfl,hs,hr⟩:=i1.lst_inv
   exact ⟨b,rfl,⟨xs,I1.fh.seq hs⟩,k _ _ F1 H1 e1 I1 s1 (itd_enum hs hr) h1⟩
  | _=>exact False.elim h1
end
def Sl.seen:Sl→Sl
 | .val d => .val d
 | .new d => .val d
 | _ => .non
def capE (ix:List Nat) (k:Nat) (env:Sto):Sto:=ix.map (fun i=>(gS env i).seen)++List.replicate k .non
def wComp (ix:List Nat) (k:Nat) (Wi:WF) (G:WG) (We:WE):WF:=fun env Q=>Wi env fun ds e0=>ds.length<sizeLine ∧ ∃ P:Nat→List PyData→Sto→Prop,P 0 [] (capE ix k e0) ∧
 (∀ i d ys e,ds[i]?=some d→P i ys e→G d e fun e1=>We e1 fun y e2=>P (i+1) (ys++[y]) e2) ∧ ∀ ys e,P ds.length ys e→Q ys e0
theorem gS_map : ∀ (ix:List Nat) (f:Nat→Sl) (r:Sto) (j:Nat),gS (ix.map f++r) j=match ix[j]? with|some i=>f i|none=>gS r (j-ix.length)
 | [],f,r,j=>by simp
 | i::ix,f,r,0=>by simp [gS]
 | i::ix,f,r,j+1=>by simp only [List.map_cons,List.cons_append,gS,List.getElem?_cons_succ,List.length_cons,Nat.add_sub_add_right]; exact gS_map ix f r j
theorem gS_rep (k j:Nat):gS (List.replicate k .non) j = .non:=by
 induction k generalizing j with
 | zero=>simp [gS]
 | succ k ih=>cases j with
  | zero=>simp [List.replicate_succ,gS]
  | succ j=>simp only [List.replicate_succ,gS]; exact ih j
theorem vS_cap (ix:List Nat) (k:Nat) (σ:St) (j i:Nat) (h:ix[j]?=some i):vS (capS ix k σ) j=vS σ i:=by
 have hj:=(List.getElem?_eq_some_iff.mp h).1
 unfold vS capS
 rw [List.getElem?_append_left (by simpa using hj),List.getElem?_map,h]
 rfl
theorem EnvOk.cap {K:PySem.W.Frag} {M:Frm} {F H:Hp} {env:Sto} {σ:St} (I:EnvOk K M F H env σ) (ix:List Nat) (k:Nat):EnvOk K ⟨H,H,F⟩ F H (capE ix k env) (capS ix k σ) where
 len:=by simp [capE,capS]
 slot:=fun j=>by
  unfold capE
  rw [gS_map]
  cases h:ix[j]? with
  | none=>rw [gS_rep]; trivial
  | some i =>
   show SlotOk K _ F H (gS env i).seen _
   rw [vS_cap ix k σ j i h]
   have S:=I.slot i
   cases q:gS env i with
   | val d=>rw [q] at S; exact S
   | non=>trivial
   | own ds=>trivial
   | pen ds=>trivial
   | new d=>rw [q] at S; obtain ⟨v,e,j⟩:=S; exact ⟨v,e,j.is newF_le⟩
   | exc C=>trivial
   | obj a0 C nm fs=>trivial
 dis:=fun i j a _ h1=>by
  unfold capE at h1
  rw [gS_map] at h1
  cases h:ix[i]? with
  | none=>rw [h,gS_rep] at h1; cases h1
  | some n =>
   rw [h] at h1
   replace h1:(gS env n).seen.mut=true:=h1
   cases q:gS env n <;> rw [q] at h1 <;> cases h1
 f0 :=.refl _
 fe:=I.fh
 fh:=I.fh
 bh :=.refl _
 new:=fun b o e => .inl e
 dom:=fun b o e=>⟨o,e⟩
theorem EnvOk.goOf {K:PySem.W.Frag} {F H F' H':Hp} {env:Sto} {σ:St} (I:EnvOk K ⟨H,H,F⟩ F' H' env σ):Go F H F' H':=⟨I.f0,I.bh,I.fh,I.new⟩
theorem vf_comp {elt target iter:Expr} {scope:Scope} {pos:Pos} {caps own:List Str} {ix:List Nat} {Wi:WF} {G:WG} {We:WE} (hc:X.calm=true) (S:CompScope X.env scope caps) (hi:VI X target iter Wi)
 (hg : ∀ pins s3 H ex,VG (blk X pins scope (caps++own) s3 H ex) target G)
 (he : ∀ pins s3 H ex,VE (blk X pins scope (caps++own) s3 H ex) elt We)
 (hix:caps.length=ix.length:=by rfl) (hcapB:(caps.zip ix).all (fun p=>X.N[p.2]?==some p.1)=true:=by rfl)
  (hs : ∀ x,foldedSetIterable iter X.env x=pure x:=by intro _; rfl):VF X (.ListComp elt [⟨target,iter,[],0⟩] scope pos) (wComp ix own.length Wi G We) :=
  (pe_comp (g:=liftG X.K G) (te:=liftE X.K We) hc S hi hg he hix hcapB hs).imp fun σ H R xx139=>by
   obtain ⟨M,env,F,Q,I,h,k⟩:=xx139
   refine ⟨M,env,F,_,I,h,fun ds J F1 H1 e1 I1 s1 jt xx138=>?_⟩
   obtain ⟨hz,P,p0,turn,fin⟩:=xx138
   refine ⟨fun i m ys σ1 H'=>m=ds.length-i∧i≤ds.length ∧ ∃ e' F' l,EnvOk X.K ⟨H1,H1,F1⟩ F' H' e' σ1∧Iss X.K F' l ys∧ys.length=i∧P i l e',⟨ds.length,by simp,Nat.zero_le _,capE ix own.length e1,F1,[],I1.cap ix own.length,iss_nil,rfl,p0⟩,?_⟩
   rintro i m ys σ1 H2 ⟨hm,hi,e2,F2,l,I2,i2,hl,p2⟩
   have g2:=I2.goOf
   by_cases he:i=ds.length
   ·subst he
    exact .inl ⟨jt.stop H2 (g2.f.trans g2.fh),by omega,new_lst (I1.go g2) (s1.trans g2.f) i2 (fin l e2 p2) k⟩
   ·have hlt:i<ds.length:=by omega
    refine .inr ⟨jt.go i H2 (g2.f.trans g2.fh) hlt,by omega,fun y σ' H' => ∃ e' F' l',EnvOk X.K ⟨H1,H1,F1⟩ F' H' e' σ'∧Iss X.K F' l' (ys++[y])∧P (i+1) l' e',
     fun y σ' H' xx137=>by obtain ⟨e',F',l',I',i',p'⟩:=xx137; exact ⟨ds.length-(i+1),by omega,rfl,hlt,e',F',l',I',i',by simp [hl],p'⟩,fun x H3 hy=>?_⟩
    obtain ⟨d,F3,hd,g,j⟩:=jt.yld i H2 x H3 F2 g2.f g2.fh hlt hy
    refine ⟨_,e2,F3,d,_,I2.go g,j,turn i d l e2 hd p2,fun F4 H4 e4 σ4 I4 s4 h4=>⟨_,e4,F4,_,I4,h4,fun d5 v5 F5 H5 e5 I5 s5 i5 h5=>?_⟩⟩
    exact ⟨e5,F5,l++[d5],I5,iss_append ((i2.mono (g.f.trans s4)).mono s5) (iss_cons i5 iss_nil),h5⟩
theorem comp_by {ix:List Nat} {k:Nat} {G:WG} {We:WE} {Q:List PyData→Sto→Prop} {ds:List PyData} {e0:Sto} (L:List PyData) (hl:L.length=ds.length) (hz:L.length<sizeLine) (Iv:Sto→Prop) (h0:Iv (capE ix k e0))
 (h : ∀ (i:Nat) d ys e,ds[i]?=some d→ys=L.take i→Iv e→G d e fun e1=>We e1 fun y e2=>ys++[y]=L.take (i+1)∧Iv e2) (q:Q L e0) :
 ds.length<sizeLine ∧ ∃ P:Nat→List PyData→Sto→Prop,P 0 [] (capE ix k e0)∧(∀ i d ys e,ds[i]?=some d→P i ys e→G d e fun e1=>We e1 fun y e2=>P (i+1) (ys++[y]) e2) ∧ ∀ ys e,P ds.length ys e→Q ys e0 :=
  ⟨by omega,fun i ys e=>ys=L.take i∧Iv e,⟨by simp,h0⟩,fun i d ys e hd hp=>h i d ys e hd hp.1 hp.2,fun ys e hp=>by rw [hp.1,← hl,List.take_length]; exact q⟩
theorem snoc_take {α:Type} {L ys:List α} {y:α} {i:Nat} (e:L[i]?=some y) (h:ys=L.take i):ys++[y]=L.take (i+1):=by
 rw [h,List.take_add_one,e]; rfl
def wIsi (T:String) (W:WE):WE:=fun env Q=>W env fun d e=>Q (.bool (isTy T d)) e
section
variable {a:Expr} {W:WE} {p pos pT:Pos} {T:String} {t:Str}
theorem ve_isi (hm:X.mg "isinstance" = none) (ht:X.mg t=none) (hv:bootBuiltins t=some (.type T)) (ha:VE X a W) (hk : ∀ d,PySem.W.kitOne X.K (.type (tyD d)) (.type T)=some (isTy T d):=by intro d; cases d <;> rfl)
 (hg:Gl X "isinstance":=by rfl) (hgt:Gl X t:=by rfl) (hn:t ≠ "__name__":=by decide) (hdt:(t==("__debug__" : Str))=false:=by decide)
 (hs:starEach [a,.Name t pT] X.env=(false,eval a X.env)::starEach [.Name t pT] X.env:=by rfl) (hs2:starEach [.Name t pT] X.env=(false,eval (.Name t pT) X.env)::starEach [] X.env:=by rfl) (hpl:(backTo pos (starEach [.Name t pT] X.env)).any (·.1)=false:=by rfl) :
 VE X (.Call (.Name "isinstance" p) [a,.Name t pT] [] pos) (wIsi T W) :=
 (pe_callB call_isi hg hm boot_isinstance (pa_cons ha (pa_cons (pe_bltn (v :=.ty T) hgt ht hv rfl hn hdt) pa_nil hs2) hs) (by decide) (by decide) hs hpl).imp fun σ H R xx140=>by
  obtain ⟨M,env,F,Q,I,h,k⟩:=xx140
  exact ⟨M,env,F,_,I,h,fun d v F1 H1 e1 I1 s1 i1 h1=>⟨d,v,T,isTy T d,rfl,i1.mono I1.fh,hk d,k _ _ F1 H1 e1 I1 s1 (is_bl _) h1⟩⟩
def wIsi2 (T T':String) (W:WE):WE:=fun env Q=>W env fun d e=>Q (.bool (isTy T d||isTy T' d)) e
theorem ve_isi2 {T':String} {t':Str} {pT' ptu:Pos} {x1:Nat} (hm:X.mg "isinstance" = none) (ht:X.mg t=none) (hv:bootBuiltins t=some (.type T)) (ht':X.mg t'=none) (hv':bootBuiltins t'=some (.type T')) (ha:VE X a W)
 (hk : ∀ d,PySem.W.kitAny X.K (.type (tyD d)) ([T,T'].map Value.type)=some (isTy T d||isTy T' d):=by intro d; cases d <;> rfl)
  (hg:Gl X "isinstance":=by rfl) (hgt:Gl X t:=by rfl) (hgt':Gl X t':=by rfl) (hn:t ≠ "__name__":=by decide) (hn':t' ≠ "__name__":=by decide) (hdt:(t==("__debug__" : Str))=false:=by decide) (hdt':(t'==("__debug__" : Str))=false:=by decide)
  (hs:starEach [a,.Tuple [.Name t pT,.Name t' pT'] x1 ptu] X.env=(false,eval a X.env)::starEach [.Tuple [.Name t pT,.Name t' pT'] x1 ptu] X.env:=by rfl)
  (hs2:starEach [.Tuple [.Name t pT,.Name t' pT'] x1 ptu] X.env=(false,eval (.Tuple [.Name t pT,.Name t' pT'] x1 ptu) X.env)::starEach [] X.env:=by rfl)
  (hs3:starEach [.Name t pT,.Name t' pT'] X.env=(false,eval (.Name t pT) X.env)::starEach [.Name t' pT'] X.env:=by rfl)
  (hs4:starEach [.Name t' pT'] X.env=(false,eval (.Name t' pT') X.env)::starEach [] X.env:=by rfl)
  (hpl:(backTo pos (starEach [.Tuple [.Name t pT,.Name t' pT'] x1 ptu] X.env)).any (·.1)=false:=by rfl) :
  VE X (.Call (.Name "isinstance" p) [a,.Tuple [.Name t pT,.Name t' pT'] x1 ptu] [] pos) (wIsi2 T T' W) :=
  (pe_callB call_isAny hg hm boot_isinstance (pa_cons ha (pa_cons (pe_tup (pa_cons (pe_bltn (v :=.ty T) hgt ht hv rfl hn hdt) (pa_cons (pe_bltn (v :=.ty T') hgt' ht' hv' rfl hn' hdt') pa_nil hs4) hs3)) pa_nil hs2) hs) (by decide) (by decide) hs hpl).imp fun σ H R xx141=>by
   obtain ⟨M,env,F,Q,I,h,k⟩:=xx141
   exact ⟨M,env,F,_,I,h,fun d v F1 H1 e1 I1 s1 i1 h1=>⟨szl,fun p hp=>⟨d,v,p,[T,T'],_,rfl,upd_same,(i1.mono I1.fh).mono (same_new hp),hk d,
    k _ _ F1 _ e1 (I1.go (.side I1.fh hp)) s1 (is_bl _) h1⟩⟩⟩
end
theorem c_sum (hc:X.calm=true):CallV X (.builtin "sum") dSum:=(call_sum hc).imp fun xs H Q xx142=>by
 obtain ⟨F,ds,q,s,i,h,k⟩:=xx142
 match ds,h,i with
 | [.list l],h,i =>
  obtain ⟨v,rfl,j⟩:=iss1 i
  obtain ⟨a,xs,rfl,hs,hr⟩:=j.lst_inv
  obtain ⟨ns,rfl,hq⟩:=h
  rw [hr.ints_inv] at hs
  exact ⟨a,ns,rfl,.inl (s.seq hs),k _ _ F H (.refl s) (is_int _) hq⟩
 | [.tuple l],h,i =>
  obtain ⟨v,rfl,j⟩:=iss1 i
  obtain ⟨a,xs,rfl,hs,hr⟩:=j.tup_inv
  obtain ⟨ns,rfl,hq⟩:=h
  rw [hr.ints_inv] at hs
  exact ⟨a,ns,rfl,.inr (same_seqT s hs),k _ _ F H (.refl s) (is_int _) hq⟩
def dSortF:List PyData→(List PyData→Prop)→Prop
 | [.list l],q => ∃ ns:List Int,l=ns.map .int∧ns.length<64 ∧ ∀ ns':List Int,ns'.Perm ns→ns'.Pairwise (· ≤ ·)→q (ns'.map .int)
 | _,_=>False
theorem c_sorted:CallVF X (.builtin "sorted") dSortF:=call_sorted.imp fun xs H Q xx143=>by
 obtain ⟨F,ds,q,s,i,h,k⟩:=xx143
 match ds,h,i with
 | [.list l],h,i =>
  obtain ⟨v,rfl,j⟩:=iss1 i
  obtain ⟨a,xs,rfl,hs,hr⟩:=j.lst_inv
  obtain ⟨ns,rfl,hz,hq⟩:=h
  rw [hr.ints_inv] at hs
  exact ⟨a,ns,rfl,s.seq hs,hz,fun p ns' hp h1 h2=>k _ p _ F _ (.side s hp) hp (same_none s hp) upd_same (iss_ints ns') (hq ns' h1 h2)⟩
def dAll:DC
 | [.list l],q => ∃ bs:List Bool,l=bs.map .bool∧q (.bool (bs.all id))
 | _,_=>False
theorem Iss.bools_inv {K:PySem.W.Frag} {H:Hp} : ∀ {bs:List Bool} {xs:List V},Iss K H (bs.map .bool) xs→xs=bs.map V.bl
 | [],_,h=>h.nil_inv
 | n::ns,_,h=>by
  obtain ⟨x,r,rfl,p,q⟩:=h.cons_inv
  rw [p.bl_inv,Iss.bools_inv q]; rfl
theorem c_all (hc:X.calm=true):CallV X (.builtin "all") dAll:=(call_all hc).imp fun xs H Q xx144=>by
 obtain ⟨F,ds,q,s,i,h,k⟩:=xx144
 match ds,h,i with
 | [.list l],h,i =>
  obtain ⟨v,rfl,j⟩:=iss1 i
  obtain ⟨a,xs,rfl,hs,hr⟩:=j.lst_inv
  obtain ⟨bs,rfl,hq⟩:=h
  rw [hr.bools_inv] at hs
  exact ⟨a,bs,rfl,s.seq hs,k _ _ F H (.refl s) (is_bl _) hq⟩
end
def startE (N:List Str) (ds:List PyData):Sto:=ds.map .val++List.replicate (N.length-ds.length) .non
theorem gS_val : ∀ (ds:List PyData) (r:Sto) (j:Nat),gS (ds.map .val++r) j=match ds[j]? with|some d => .val d|none=>gS r (j-ds.length)
 | [],r,j=>by simp
 | i::ix,r,0=>by simp [gS]
 | i::ix,r,j+1=>by simp only [List.map_cons,List.cons_append,gS,List.getElem?_cons_succ,List.length_cons,Nat.add_sub_add_right]; exact gS_val ix r j
theorem vS_start {N:List Str} {vs:List V} {j:Nat} {v:V} (h:vs[j]?=some v):vS (start N vs) j=some v:=by
 have hj:=(List.getElem?_eq_some_iff.mp h).1
 unfold vS start
 rw [List.getElem?_append_left (by simpa using hj),List.getElem?_map,h]
 rfl
theorem env_start {K:PySem.W.Frag} {F H:Hp} {N:List Str} {ds:List PyData} {vs:List V} (s:Same F H) (i:Iss K F ds vs):EnvOk K ⟨H,H,F⟩ F H (startE N ds) (start N vs) where
 len:=by simp [startE,start,i.len]
 slot:=fun j=>by
  unfold startE
  rw [gS_val]
  cases h:ds[j]? with
  | none=>rw [gS_rep]; trivial
  | some d =>
   obtain ⟨x,e1,e2⟩:=i.get h
   exact ⟨x,vS_start e1,e2⟩
 dis:=fun i j a _ h1=>by
  unfold startE at h1
  rw [gS_val] at h1
  cases h:ds[i]? with
  | none=>rw [h,gS_rep] at h1; cases h1
  | some d=>rw [h] at h1; cases h1
 f0 :=.refl _
 fe:=s
 fh:=s
 bh :=.refl _
 new:=fun b o e => .inl e
 dom:=fun b o e=>⟨o,e⟩
section
variable {P:Program} {w:World} {K:PySem.W.Frag} {mg:Str→Option Value} {base:Heap}
theorem RetOk.is {F H F' H':Hp} {env:Sto} {σ:St} {r:Ret} {v:V} (I:EnvOk K ⟨H,H,F⟩ F' H' env σ) (h:RetOk K ⟨H,H,F⟩ F' H' r v) : ∃ F'',Go F H F'' H'∧Is K F'' r.data v:=by
 have g:=I.goOf
 cases r with
 | val d=>exact ⟨F',g,h⟩
 | new d=>exact ⟨F',g,IsN.is newF_le h⟩
 | own ds =>
  obtain ⟨a,vs,rfl,h1,h2,h3,h4,h5⟩:=h
  have s:Same F' (upd F' a (.lst vs)):=same_new h2
  refine ⟨upd F' a (.lst vs),⟨g.f.trans s,g.h,fun b o e=>?_,fun b o e=>?_⟩,is_lst (SqL.of upd_same) (h5.mono s)⟩
  ·by_cases z:b=a
   ·subst z; rw [upd_same] at e; rw [h1]; exact e
   ·rw [upd_ne z] at e; exact g.fh b o e
  ·by_cases z:b=a
   ·subst z; exact .inr h4
   ·rw [upd_ne z] at e; exact g.new b o e
theorem Def.vok {x:Str} {st:Stmt} {N ps:List Str} {k:Nat} {sp:DC} (F:Def K mg x st ps) (S:FnScope N ps (defScope st)) (len : ∀ ds q,sp ds q→ds.length=ps.length)
 (hbody : ∀ (f:Addr) (cdv:Value) (A:Around) (outer:List Env) (s:Shared) (H:Hp) (E:XK),Room k (A.deeper (envOfC x (defScope st) s.heap.objs.size f cdv)) → ∀ ds q,sp ds q →
 ∃ W,VSs (cxOf CX0 P w K mg base N x (defScope st) f cdv A outer s H E).nox (defBody st) W∧W { nx:=fun _=>q .none,rt:=fun r _=>q r.data } (startE N ds)):Ok P w K mg base x (k+1) ps (PSp K sp) :=
  F.ok S (fun vs H Q E xx146=>by obtain ⟨F,ds,q,_,i,h,_⟩:=xx146; rw [i.len]; exact len ds q h) fun f cdv A outer s H vs Q E hr xx145=>by
   obtain ⟨F,ds,q,sm,i,h,kk⟩:=xx145
   obtain ⟨W,hW,hq⟩:=hbody f cdv A outer s H E hr ds q h
   refine ⟨_,hW,⟨H,H,F⟩,startE N ds,F,_,env_start sm i,hq,⟨fun e1 F1 H1 σ1 I1 s1 q1=>kk _ _ F1 H1 I1.goOf is_non q1,fun r v e1 F1 H1 σ1 I1 s1 r1 q1=>?_,fun _ _ _ _ _ _ h=>h.elim,fun _ _ _ _ _ _ h=>h.elim⟩⟩
   obtain ⟨F2,g,j⟩:=r1.is I1
   exact kk _ _ F2 H1 g j q1
theorem Def.vokF {x:Str} {st:Stmt} {N ps:List Str} {k:Nat} {sp:List PyData→(List PyData→Prop)→Prop} (F:Def K mg x st ps) (S:FnScope N ps (defScope st)) (len : ∀ ds q,sp ds q→ds.length=ps.length)
 (hbody : ∀ (f:Addr) (cdv:Value) (A:Around) (outer:List Env) (s:Shared) (H:Hp) (E:XK),Room k (A.deeper (envOfC x (defScope st) s.heap.objs.size f cdv)) → ∀ ds q,sp ds q →
 ∃ W,VSs (cxOf CX0 P w K mg base N x (defScope st) f cdv A outer s H E).nox (defBody st) W∧W { nx:=fun _=>False,rt:=fun r _ => ∃ l,r = .own l∧q l } (startE N ds)):Ok P w K mg base x (k+1) ps (FSp K sp) :=
  F.ok S (fun vs H Q E xx148=>by obtain ⟨F,ds,q,_,i,h,_⟩:=xx148; rw [i.len]; exact len ds q h) fun f cdv A outer s H vs Q E hr xx147=>by
   obtain ⟨F,ds,q,sm,i,h,kk⟩:=xx147
   obtain ⟨W,hW,hq⟩:=hbody f cdv A outer s H E hr ds q h
   refine ⟨_,hW,⟨H,H,F⟩,startE N ds,F,_,env_start sm i,hq,⟨fun e1 F1 H1 σ1 I1 s1 q1=>q1.elim,fun r v e1 F1 H1 σ1 I1 s1 r1 q1=>?_,fun _ _ _ _ _ _ h=>h.elim,fun _ _ _ _ _ _ h=>h.elim⟩⟩
   obtain ⟨l,rfl,q1⟩:=q1
   obtain ⟨a,vs,rfl,h1,h2,h3,h4,h5⟩:=r1
   exact kk l a vs F1 H1 I1.goOf h4 h2 h1 h5 q1
def spLaw (K:PySem.W.Frag):Sp:=fun vs H Q _ => ∃ (a:Addr) (ns:List Int),vs=[.ref a]∧SqL K H a (ns.map V.int)∧ns.length≤63 ∧ ∀ H',Q (.bl true) H'
theorem Fun.vlaw {x:Str} {st:Stmt} {f:Addr} {fd:FuncData} {N ps:List Str} {k:Nat} (F:Fun K x x st f fd) (S:FnScope N ps (defScope st)) (hp:ps.length=1)
 (hbody : ∀ (cdv:Value) (A:Around) (outer:List Env) (s:Shared) (H:Hp) (E:XK),Room k (A.deeper (envOfC x (defScope st) s.heap.objs.size f cdv)) → ∀ ns:List Int,ns.length≤63 →
 ∃ W,VSs (cxOf CX0 P w K mg base N x (defScope st) f cdv A outer s H E).nox (defBody st) W∧W { nx:=fun _=>False,rt:=fun r _=>r.data = .bool true } (startE N [.list (ns.map .int)])):FnOk P w K mg base CX0 (k+1) f fd ps (spLaw K):=by
  refine F.ok S (fun vs H Q E h=>?_) (fun cdv A outer s H vs Q E hr h=>?_)
  ·obtain ⟨a,ns,rfl,_⟩:=h
   exact hp.symm
  ·obtain ⟨a,ns,rfl,hS,hlen,kk⟩:=h
   have hi:Iss K H [.list (ns.map .int)] [.ref a]:=iss_cons (is_lst hS (iss_ints ns)) iss_nil
   obtain ⟨W,hW,hq⟩:=hbody cdv A outer s H E hr ns hlen
   refine ⟨_,hW,⟨H,H,H⟩,startE N _,H,_,env_start (.refl _) hi,hq,⟨fun e1 F1 H1 σ1 I1 s1 q1=>q1.elim,fun r v e1 F1 H1 σ1 I1 s1 r1 q1=>?_,fun _ _ _ _ _ _ h=>h.elim,fun _ _ _ _ _ _ h=>h.elim⟩⟩
   obtain ⟨F2,g,j⟩:=r1.is I1
   have q1:r.data = .bool true:=q1
   rw [q1] at j
   rw [j.bl_inv]
   exact kk H1
end
end L2
namespace L2
open PySem PySem.Spec PyProof.Rows
section
variable (K:PySem.W.Frag)
def liftN (W:WE):TE:=fun σ H R => ∃ M env F Q,EnvOk K M F H env σ∧W env Q ∧ ∀ d v F' H' env',EnvOk K M F' H' env' σ→Same F F'→IsN K (newF M F') d v→Q d env'→R v H'
def liftFN (W:WF):TE:=fun σ H R => ∃ M env F Q,EnvOk K M F H env σ∧W env Q ∧ ∀ a vs ds F' H' env',EnvOk K M F' H' env' σ→Same F F'→H' a=some (.lst vs)→F' a=none→M.B a=none→M.He a=none →
 (∀ i,(gS env' i).mut=true→vS σ i≠some (.ref a))→IssN K (newF M F') ds vs→Q ds env'→R (.ref a) H'
structure EndsT (M:Frm) (DD:WEnds) (D:Ends):Prop where
 nx : ∀ env' F' H' σ',EnvOk K M F' H' env' σ'→DD.nx env'→D.nx σ' H'
 rt : ∀ r v env' F' H' σ',EnvOk K M F' H' env' σ'→RetOk K M F' H' r v→DD.rt r env'→D.rt v H'
 bk : ∀ env' F' H' σ',EnvOk K M F' H' env' σ'→DD.bk env'→D.bk σ' H'
 ct : ∀ env' F' H' σ',EnvOk K M F' H' env' σ'→DD.ct env'→D.ct σ' H'
def liftST (W:WS):TS:=fun D σ H => ∃ M env F DD,EnvOk K M F H env σ∧W DD env∧EndsT K M DD D
end
def VN (X:Cx) (e:Expr) (W:WE):Prop:=PE X e (liftN X.K W)
def VFN (X:Cx) (e:Expr) (W:WF):Prop:=PE X e (liftFN X.K W)
def VST (X:Cx) (st:Stmt) (W:WS):Prop:=PS X st (liftST X.K W)
def VSsT (X:Cx) (st:List Stmt) (W:WS):Prop:=PSs X st (liftST X.K W)
section
variable {X:Cx} {a b e:Expr} {W:WE} {Wf:WF} {pos p:Pos}
end
section
variable {P:Program} {w:World} {K:PySem.W.Frag} {mg:Str→Option Value} {base:Heap}
end
section
variable {X:Cx} {c e:Expr} {Tc:WT} {W:WE} {Wt Wu:WS} {st:Stmt} {sts rest:List Stmt} {pos pos':Pos}
mutual
def immD:PyData→Bool
 | .list _=>false
 | .tuple l=>immAll l
 | .dict _=>false
 | _=>true
def immAll:List PyData→Bool
 | []=>true
 | d::l=>immD d&&immAll l
end
mutual
theorem Is.imm {K:PySem.W.Frag} {F F':Hp} (s : ∀ b o,F b=some o→(∀ xs,o ≠ .lst xs)→F' b=some o) : ∀ {d:PyData} {v:V},immD d=true→Is K F d v→Is K F' d v
 | .none,_,_,h=>by unfold Is at h ⊢; exact h
 | .bool _,_,_,h=>by unfold Is at h ⊢; exact h
 | .int _,_,_,h=>by unfold Is at h ⊢; exact h
 | .str _,_,_,h=>by unfold Is at h ⊢; exact h
 | .list l,_,m,h=>by unfold immD at m; cases m
 | .dict l,_,m,h=>by unfold immD at m; cases m
 | .tuple l,_,m,h=>by
  unfold immD at m
  unfold Is at h ⊢
  obtain ⟨a,xs,e,q,r⟩:=h
  refine ⟨a,xs,e,?_,Iss.imm s m r⟩
  rcases q with (q|⟨o,q⟩)|q
  ·exact .inl (.inl (s _ _ q (fun _ z=>nomatch z)))
  ·exact .inl (.inr ⟨o,s _ _ q (fun _ z=>nomatch z)⟩)
  ·exact .inr q
theorem Iss.imm {K:PySem.W.Frag} {F F':Hp} (s : ∀ b o,F b=some o→(∀ xs,o ≠ .lst xs)→F' b=some o) : ∀ {l:List PyData} {xs:List V},immAll l=true→Iss K F l xs→Iss K F' l xs
 | [],_,_,h=>by unfold Iss at h ⊢; exact h
 | d::l,_,m,h=>by
  unfold immAll at m
  rw [Bool.and_eq_true] at m
  unfold Iss at h ⊢
  obtain ⟨x,r,e,p,q⟩:=h
  exact ⟨x,r,e,Is.imm s m.1 p,Iss.imm s m.2 q⟩
end
end
section
variable {X:Cx}
end
end L2
namespace L2
open PySem PySem.Spec PyProof.Rows
section
variable {X:Cx} {elt target iter:Expr} {scope:Scope} {pos:Pos} {caps own:List Str} {ix:List Nat} {wi:TI} {g:TG} {te:TE}
theorem ps_comp {i:Nat} {y:Str} {py spos:Pos} (hN:X.N.Nodup) (hiy:X.N[i]?=some y) (hy:X.env.scope.names.lookup y=some .local) (hsw:swapsWith (.ListComp elt [⟨target,iter,[],0⟩] scope pos) (some (.Name y py)) spos.line X.env=pure true) (hc:X.calm=true) (S:CompScope X.env scope caps) (hi:PI X target iter wi)
 (hg : ∀ pins s3 H ex,PG (blk X pins scope (caps++own) s3 H ex) target g)
 (he : ∀ pins s3 H ex,PE (blk X pins scope (caps++own) s3 H ex) elt te)
 (hix:caps.length=ix.length:=by rfl) (hcapB:(caps.zip ix).all (fun p=>X.N[p.2]?==some p.1)=true:=by rfl)
  (hs : ∀ x,foldedSetIterable iter X.env x=pure x:=by intro _; rfl):PS X (.Assign [.Name y py] (.ListComp elt [⟨target,iter,[],0⟩] scope pos) spos) (tAsg (tComp ix own.length wi g te) (gName i)):=by
  intro pins s σ H D I h
  rw [exec_Assign_Name_used _ _ _ _ hsw]
  refine wpAny_bind (wpAny_standAt (wpAny_bind ?_))
  show wpAny _ _ (do let _ ← comprehension (.ListComp elt [⟨target,iter,[],0⟩] scope pos) scope X.env _ (newList []) false (eval iter X.env) (some (assign (.Name y py) X.env))) _ _ s
  refine wpAny_bind (thn (comp_core0 (use:=some (assign (.Name y py) X.env)) (Q0:=fun _ s'=>SP X pins D .next s') hc S hi hg he hix hcapB hs I h fun D' C s6 H6 m6 ns6 IX c1 c2 c3 c4 c5 c6 q=>?_) (fun _ s' hq=>wpAny_pure (wpAny_pure hq)))
  obtain ⟨oC,esC,epC,hoC,hdC,rC⟩:=id ns6
  have IX':Inv X (pins++[(C,oC)]) σ H6 s6:=IX.pins_of fun p hp=>by
   rcases List.mem_append.mp hp with z|z
   ·exact IX.pin p (List.mem_append_right _ z)
   ·rw [List.mem_singleton.mp z]
    exact ⟨hoC,c1,c2,c3,fun v q=>by rw [hdC] at q; cases q⟩
  show wpAny _ _ (assign (.Name y py) X.env (.ref D')) _ _ _
  refine wpAny_assign_Name (store_ok IX' hN hiy (Or.inl hy) (v :=.ref D') rfl (fun s7 I7=>?_) (.inr hy))
  have gC:s7.heap.get? C=some oC:=(I7.pin (C,oC) (List.mem_append_right _ (List.mem_append_right _ (List.mem_singleton.mpr rfl)))).1
  refine ⟨m6,⟨oC,esC,epC,gC,hdC,rC⟩,fun h' sb=>?_⟩
  exact ⟨_,_,I7.unpinned.turned (t':=s7.toks) (it:=C) (fun b o hb q=>sb.extBut b o hb q) c1 c2 c4 c5 c6,q⟩
end
section
variable {K:PySem.W.Frag} {ix:List Nat} {n:Nat} {Wi:WF} {G:WG} {We:WE} {σ:St} {H:Hp} {R:VK}
theorem comp_lift (h:liftF K (wComp ix n Wi G We) σ H R):tComp ix n (liftI K Wi) (liftG K G) (liftE K We) σ H R:=by
 obtain ⟨M,env,F,Q,I,h,k⟩:=h
 refine ⟨M,env,F,_,I,h,fun ds J F1 H1 e1 I1 s1 jt xx150=>?_⟩
 obtain ⟨hz,P,p0,turn,fin⟩:=xx150
 refine ⟨fun i m ys σ1 H'=>m=ds.length-i∧i≤ds.length ∧ ∃ e' F' l,EnvOk K ⟨H1,H1,F1⟩ F' H' e' σ1∧Iss K F' l ys∧ys.length=i∧P i l e',⟨ds.length,by simp,Nat.zero_le _,capE ix n e1,F1,[],I1.cap ix n,iss_nil,rfl,p0⟩,?_⟩
 rintro i m ys σ1 H2 ⟨hm,hi,e2,F2,l,I2,i2,hl,p2⟩
 have g2:=I2.goOf
 by_cases he:i=ds.length
 ·subst he
  exact .inl ⟨jt.stop H2 (g2.f.trans g2.fh),by omega,new_lst (I1.go g2) (s1.trans g2.f) i2 (fin l e2 p2) k⟩
 ·have hlt:i<ds.length:=by omega
  refine .inr ⟨jt.go i H2 (g2.f.trans g2.fh) hlt,by omega,fun y σ' H' => ∃ e' F' l',EnvOk K ⟨H1,H1,F1⟩ F' H' e' σ'∧Iss K F' l' (ys++[y])∧P (i+1) l' e',
   fun y σ' H' xx149=>by obtain ⟨e',F',l',I',i',p'⟩:=xx149; exact ⟨ds.length-(i+1),by omega,rfl,hlt,e',F',l',I',i',by simp [hl],p'⟩,fun x H3 hy=>?_⟩
  obtain ⟨d,F3,hd,g,j⟩:=jt.yld i H2 x H3 F2 g2.f g2.fh hlt hy
  refine ⟨_,e2,F3,d,_,I2.go g,j,turn i d l e2 hd p2,fun F4 H4 e4 σ4 I4 s4 h4=>⟨_,e4,F4,_,I4,h4,fun d5 v5 F5 H5 e5 I5 s5 i5 h5=>?_⟩⟩
  exact ⟨e5,F5,l++[d5],I5,iss_append ((i2.mono (g.f.trans s4)).mono s5) (iss_cons i5 iss_nil),h5⟩
end
section
variable {X:Cx} {elt target iter:Expr} {scope:Scope} {pos py spos:Pos} {caps own:List Str} {ix:List Nat} {Wi:WF} {G:WG} {We:WE} {i:Nat} {y:Str}
theorem vs_setC (hN:X.N.Nodup) (hc:X.calm=true) (S:CompScope X.env scope caps) (hi:VI X target iter Wi) (hg : ∀ pins s3 H ex,VG (blk X pins scope (caps++own) s3 H ex) target G) (he : ∀ pins s3 H ex,VE (blk X pins scope (caps++own) s3 H ex) elt We)
 (hiy:X.N[i]?=some y:=by rfl) (hy:X.env.scope.names.lookup y=some .local:=by rfl) (hsw:swapsWith (.ListComp elt [⟨target,iter,[],0⟩] scope pos) (some (.Name y py)) spos.line X.env=pure true:=by rfl)
  (hix:caps.length=ix.length:=by rfl) (hcapB:(caps.zip ix).all (fun p=>X.N[p.2]?==some p.1)=true:=by rfl) (hs : ∀ x,foldedSetIterable iter X.env x=pure x:=by intro _; rfl) :
  VS X (.Assign [.Name y py] (.ListComp elt [⟨target,iter,[],0⟩] scope pos) spos) (wSet i (wL (wComp ix own.length Wi G We))) :=
  (ps_comp (wi:=liftI X.K Wi) (g:=liftG X.K G) (te:=liftE X.K We) hN hiy hy hsw hc S hi hg he hix hcapB hs).imp fun D σ H ⟨M,env,F,DD,I,h,k⟩=>comp_lift ⟨M,env,F,_,I,h,fun a vs ds F1 H1 e1 I1 s1 h1 h2 h3 h4 h5 h6 h7=>by
   obtain ⟨J,s⟩:=I1.frz h1 h2 h4 h5
   exact k.nx _ _ H1 _ (J.setv (is_lst (SqL.of upd_same) (h6.mono s))) (s1.trans s) h7⟩
theorem vs_setCO (hN:X.N.Nodup) (hc:X.calm=true) (S:CompScope X.env scope caps) (hi:VI X target iter Wi) (hg : ∀ pins s3 H ex,VG (blk X pins scope (caps++own) s3 H ex) target G) (he : ∀ pins s3 H ex,VE (blk X pins scope (caps++own) s3 H ex) elt We)
 (hiy:X.N[i]?=some y:=by rfl) (hy:X.env.scope.names.lookup y=some .local:=by rfl) (hsw:swapsWith (.ListComp elt [⟨target,iter,[],0⟩] scope pos) (some (.Name y py)) spos.line X.env=pure true:=by rfl)
  (hix:caps.length=ix.length:=by rfl) (hcapB:(caps.zip ix).all (fun p=>X.N[p.2]?==some p.1)=true:=by rfl) (hs : ∀ x,foldedSetIterable iter X.env x=pure x:=by intro _; rfl) :
  VS X (.Assign [.Name y py] (.ListComp elt [⟨target,iter,[],0⟩] scope pos) spos) (wSetO i (wComp ix own.length Wi G We)) :=
  (ps_comp (wi:=liftI X.K Wi) (g:=liftG X.K G) (te:=liftE X.K We) hN hiy hy hsw hc S hi hg he hix hcapB hs).imp fun D σ H ⟨M,env,F,DD,I,h,k⟩=>comp_lift ⟨M,env,F,_,I,h,fun a vs ds F1 H1 e1 I1 s1 h1 h2 h3 h4 h5 h6 h7 =>
   k.nx _ F1 H1 _ (I1.seto h1 h2 h3 h4 h5 h6) s1 h7⟩
end
end L2
namespace L2
open PySem PySem.Spec PyProof.Rows
section
variable {X:Cx} {tg:Expr}
end
def offA (H:Hp) (a:Addr):Hp:=fun b=>if b=a then none else H b
section
variable {X:Cx}
end
section
variable {P:Program} {w:World} {K:PySem.W.Frag} {mg:Str→Option Value} {base:Heap}
end
end L2
namespace L2
open PySem PySem.Spec PyProof.Rows
section
variable {X:Cx} {elt target iter:Expr} {scope:Scope} {pos py spos:Pos} {caps own:List Str} {ix:List Nat} {Wi:WF} {G:WG} {We:WE} {i i0 j0:Nat} {y:Str}
end
end L2
namespace L2
open PySem PySem.Spec PyProof.Rows
section
variable {X:Cx} {pins:List (Addr×Obj)} {σ:St} {H:Hp} {s:Shared}
end
section
variable {P:Program} {w:World} {K:PySem.W.Frag} {mg:Str→Option Value} {base:Heap} {N:List Str} {qual:Str} {scope:Scope} {f:Addr} {cd:Value} {A:Around} {outer:List Env} {s:Shared} {H:Hp} {E:XK}
end
end L2
namespace L2
open PySem PySem.Spec PyProof.Rows
section
variable {X:Cx} {x:Str} {C:Addr} {E:XK} {e:Expr} {es:List Expr} {t:TA} {np cpos pos:Pos}
end
end L2
namespace L2
open PySem PySem.Spec PyProof.Rows
section
variable {M:Model} {A:Around} {E:Value→Shared→Prop} {C N C' N':Addr} {nm nm' q q':Str} {bs bm bs' bm':List Value}
end
section
variable {X:Cx} {pins:List (Addr×Obj)} {σ:St} {H1 H2:Hp} {s1 s':Shared} {B h5:Heap}
end
section
variable {X:Cx} {pins:List (Addr×Obj)} {σ:St} {H:Hp} {s:Shared}
end
end L2
namespace L2
open PySem PySem.Spec PyProof.Rows
section
variable {X:Cx} {pins pins0:List (Addr×Obj)} {σ:St} {H:Hp} {s:Shared}
end
section
variable {X:Cx} {body suite:List Stmt} {b₀:Stmt} {x n:Str} {np hpos pos:Pos} {C':Addr} {i:Nat} {tb:(St→XK)→TS} {ts:TS}
end
end L2
namespace L2
open PySem PySem.Spec PyProof.Rows
section
variable {K:PySem.W.Frag} {M:Frm} {F H:Hp} {env:Sto} {σ:St}
theorem EnvOk.sets (I:EnvOk K M F H env σ) {i:Nat} {s:Sl} {v:Option V} (m:s.mut=false) (h:SlotOk K M F H s v):EnvOk K M F H (env.set i s) (σ.set i v) where
 len:=by rw [List.length_set,List.length_set]; exact I.len
 slot:=fun j=>by
  rw [gS_set,vS_set,I.len]
  split
  ·exact h
  ·exact I.slot j
 dis:=fun j k a hjk h1 h2 h3 h4=>by
  rw [gS_set] at h1 h2
  rw [vS_set] at h3 h4
  rw [I.len] at h1 h2
  split at h1
  ·rw [m] at h1; cases h1
  ·rename_i z1
   split at h2
   ·rw [m] at h2; cases h2
   ·rename_i z2
    rw [if_neg z1] at h3
    rw [if_neg z2] at h4
    exact I.dis j k a hjk h1 h2 h3 h4
 f0:=I.f0
 fe:=I.fe
 fh:=I.fh
 bh:=I.bh
 new:=I.new
 dom:=I.dom
end
abbrev WX:=Addr→Sto→Prop
def ExOk (K:PySem.W.Frag) (M:Frm) (F:Hp) (Wx:WX) (Ex:St→XK):Prop := ∀ C env' F' H' σ',EnvOk K M F' H' env' σ'→Same F F'→Wx C env'→Ex σ' (.ref C) none H'
def liftEX (K:PySem.W.Frag) (Ex:St→XK) (W:WX→WE):TE:=fun σ H R => ∃ M env F Wx Q,EnvOk K M F H env σ∧W Wx env Q∧ExOk K M F Wx Ex ∧ ∀ d v F' H' env',EnvOk K M F' H' env' σ→Same F F'→Is K F' d v→Q d env'→R v H'
def liftSX (K:PySem.W.Frag) (Ex:St→XK) (W:WX→WS):TS:=fun D σ H => ∃ M env F Wx DD,EnvOk K M F H env σ∧W Wx DD env∧ExOk K M F Wx Ex∧EndsOk K M F DD D
def VEX (X:Cx) (Ex:St→XK) (e:Expr) (W:WX→WE):Prop:=PE X e (liftEX X.K Ex W)
def VSX (X:Cx) (Ex:St→XK) (st:Stmt) (W:WX→WS):Prop:=PS X st (liftSX X.K Ex W)
def VSsX (X:Cx) (Ex:St→XK) (st:List Stmt) (W:WX→WS):Prop:=PSs X st (liftSX X.K Ex W)
abbrev DE:=List PyData→(PyData→Prop)→(Addr→Prop)→Prop
section
variable {X:Cx} {Ex:St→XK} {x:Str} {k:Nat} {ps:List Str} {sp:DE} {e c:Expr} {es:List Expr} {p pos:Pos} {Wr:WF} {st:Stmt} {rest A B:List Stmt} {Tc:WT} {W:WX→WE} {Wt Wu:WX→WS} {W0:WS}
end
end L2
namespace L2
open PySem PySem.Spec PyProof.Rows
section
variable {X:Cx} {Ex:St→XK} {E:XK} {x y n:Str} {k i j:Nat} {ps:List Str} {sp:DE} {e:Expr} {es:List Expr} {p np cpos hpos pos pos':Pos} {Wr:WF} {st b₀:Stmt} {body suite:List Stmt} {C C':Addr} {Wb:WX→WS} {Ws:WS}
end
section
variable {P:Program} {w:World} {K:PySem.W.Frag} {mg:Str→Option Value} {base:Heap}
end
end L2
namespace L2
open PySem PySem.Spec PyProof.Rows
section
variable {prog:Program} {w:World} {A:Around} {E:Value→Shared→Prop} {h:Heap} {g:Array GenState} {d:Drawn} {t:Nat} {os:OsState} {a:Addr} {o:Obj} {K:PySem.W.Frag}
 {nm q:Str} {C N:Addr} {bs bm:List Value} {hdct:Bool} {sn:List Str} {sub:List Value} {ab:Bool} {col:Option Bool} {dd:Option Addr} {k0 k1 k2 k3 k5:Option Value} {newId:String}
end
end L2
namespace L2
open PySem PySem.Spec PyProof.Rows
section
variable {X:Cx}
section
variable {y:Str} {c:Expr} {cs:List Expr} {v:V} {vs:List V} {u:Value} {us:List Value} {p py pt pos:Pos} {x1:Nat}
end
end
end L2
namespace L2
open PySem PySem.Spec PyProof.Rows
section
variable {prog:Program} {w:World} {A:Around} {E:Value→Shared→Prop} {s:Shared}
def SqIt (b:Bool) (h:Heap) (j l:Addr) (i:Nat):Prop:=match b with
 | true=>h.IsTupleIter j l i
 | false=>h.IsListIter j l i
def SqOf (b:Bool) (h:Heap) (l:Addr) (us:Array Value):Prop:=match b with
 | true=>h.IsTuple l us
 | false=>h.IsList l us
def itTy:Bool→String
 | true => "tuple_iterator"
 | false => "list_iterator"
abbrev itO (b:Bool) (l:Addr):Obj:={ cls :=.type (itTy b),data :=.fields #[.ref l,.int 0 0] }
theorem SqIt.at' {b:Bool} {h h':Heap} {j l:Addr} {i:Nat} (x:SqIt b h j l i) (e : ∀ o,h.get? j=some o→h'.get? j=some o):SqIt b h' j l i:=by
 cases b with
 | true=>exact Heap.IsTupleIter.at x e
 | false=>exact Heap.IsListIter.at x e
theorem SqIt.but {b:Bool} {h h':Heap} {j l c:Addr} {i:Nat} (x:SqIt b h j l i) (e:Heap.SameBut c h h') (n:j≠c):SqIt b h' j l i:=x.at' fun o q=>e.extBut j o n q
theorem SqIt.obj {b:Bool} {h:Heap} {j l:Addr} {i:Nat} (x:SqIt b h j l i) : ∃ o,h.get? j=some o ∧ ∀ v,o.data ≠ .cell v:=by
 cases b with
 | true=>obtain ⟨o,q,_,d⟩:=x; exact ⟨o,q,fun v z=>by rw [d] at z; cases z⟩
 | false=>obtain ⟨o,q,_,d⟩:=x; exact ⟨o,q,fun v z=>by rw [d] at z; cases z⟩
theorem SqOf.at' {b:Bool} {h h':Heap} {l:Addr} {us:Array Value} (x:SqOf b h l us) (e : ∀ o,h.get? l=some o→h'.get? l=some o):SqOf b h' l us:=by
 cases b with
 | true=>obtain ⟨o,q,r⟩:=x; exact ⟨o,e o q,r⟩
 | false=>exact Heap.IsList.at x e
theorem SqOf.but {b:Bool} {h h':Heap} {l c:Addr} {us:Array Value} (x:SqOf b h l us) (e:Heap.SameBut c h h') (n:l≠c):SqOf b h' l us:=x.at' fun o q=>e.extBut l o n q
theorem SqOf.lt {b:Bool} {h:Heap} {l:Addr} {us:Array Value} (x:SqOf b h l us):l<h.objs.size:=by
 cases b with
 | true=>obtain ⟨o,q,_⟩:=x; exact Heap.lt_size q
 | false=>obtain ⟨o,q,_⟩:=x; exact Heap.lt_size q
theorem tnx_item {j t:Addr} {k:Nat} {us:Array Value} {u:Value} {Q:Value→Shared→Prop} (hj:s.heap.IsTupleIter j t k) (ht:s.heap.IsTuple t us) (hu:us[k]?=some u)
 (q : ∀ h',h'.IsTupleIter j t (k+1)→Heap.SameBut j s.heap h'→Q u { s with heap:=h' }):wpAny (model prog w) A (Builtin.SmallTypes.nextOf (.ref j)) Q E s:=by
  obtain ⟨ob,e1,e2,e3⟩:=id hj
  obtain ⟨ot,f1,_,nt,f3⟩:=ht
  unfold Builtin.SmallTypes.nextOf
  refine wpAny_bind (wpAny_callSpecial?_slot (name:=Str.ofString "__next__") hj.typeIs F.slot_tuple_iterator_next (wpAny_call_entry F.slot_tuple_iterator_next hj.typeIs F.entry_tuple_iterator_next ?_ (F.args_tuple_iterator_next_1 _)))
  show wpAny _ _ (field (.ref j) 0 >>= _) _ _ s
  refine wpAny_bind (wpAny_field e1 e3 (x :=.ref t) rfl ?_)
  show wpAny _ _ (if (Value.ref t==Value.none)=true then _ else _) _ _ s
  rw [if_neg (fun z:(Value.ref t==Value.none)=true=>Bool.false_ne_true z)]
  show wpAny _ _ (field (.ref j) 1 >>= _) _ _ s
  refine wpAny_bind (wpAny_field e1 e3 (x :=.int k 0) rfl ?_)
  show wpAny _ _ (seqItems? (.ref t) >>= _) _ _ s
  refine wpAny_bind (wpAny_seqItems f1 f3 ?_)
  simp only [Int.toNat_natCast,hu]
  refine wpAny_bind (wpAny_setField e1 e3 (by simp) (wpAny_pure ⟨u,rfl,wpAny_pure (q _ ?_ (Heap.SameBut.update ..))⟩))
  exact ⟨_,Heap.get?_update_self _ e1 (Obj.isFreed_of_fields (Obj.data_mapFields e3 _)),(Obj.cls_mapFields ..).trans e2,by rw [Obj.data_mapFields e3]; simp [rawInt]⟩
theorem tnx_end {j t:Addr} {k:Nat} {us:Array Value} {Q:Value→Shared→Prop} (hh:A.handled=none) (hj:s.heap.IsTupleIter j t k) (ht:s.heap.IsTuple t us) (hu:us[k]?=none)
 (q : ∀ h' e,Heap.ExtBut j s.heap h'→(∃ o,h'.get? e=some o∧o.cls = .type "StopIteration")→E (.ref e) { s with heap:=h' }):wpAny (model prog w) A (Builtin.SmallTypes.nextOf (.ref j)) Q E s:=by
  obtain ⟨ob,e1,e2,e3⟩:=id hj
  obtain ⟨ot,f1,_,nt,f3⟩:=ht
  unfold Builtin.SmallTypes.nextOf
  refine wpAny_bind (wpAny_callSpecial?_slot (name:=Str.ofString "__next__") hj.typeIs F.slot_tuple_iterator_next (wpAny_call_entry F.slot_tuple_iterator_next hj.typeIs F.entry_tuple_iterator_next ?_ (F.args_tuple_iterator_next_1 _)))
  show wpAny _ _ (field (.ref j) 0 >>= _) _ _ s
  refine wpAny_bind (wpAny_field e1 e3 (x :=.ref t) rfl ?_)
  show wpAny _ _ (if (Value.ref t==Value.none)=true then _ else _) _ _ s
  rw [if_neg (fun z:(Value.ref t==Value.none)=true=>Bool.false_ne_true z)]
  show wpAny _ _ (field (.ref j) 1 >>= _) _ _ s
  refine wpAny_bind (wpAny_field e1 e3 (x :=.int k 0) rfl ?_)
  show wpAny _ _ (seqItems? (.ref t) >>= _) _ _ s
  refine wpAny_bind (wpAny_seqItems f1 f3 ?_)
  simp only [Int.toNat_natCast,hu]
  refine wpAny_bind (wpAny_rule (wpAny_bind (wpAny_setField e1 e3 (by simp) ?_)))
  show wpAny _ _ (newExc (.type "StopIteration") [] >>= _) _ _ _
  refine wpAny_bind (?_:wpAny _ _ (newExc (.type "StopIteration") []) _ _ _)
  simp only [newExc,newTuple]
  refine wpAny_bind (wpAny_newObj_type (?_:_) (by size_fits))
  refine wpAny_bind (m:=firstArgMember _ _) (wpAny_of_eq (a:=Value.none) (by first|rfl|(simp only [firstArgMember]; rfl)|skip) ?_)
  refine wpAny_newObj_type (?_:_) (by size_fits)
  simp only [raiseNew]
  refine wpAny_bind (wpAny_handled (?_:_))
  first|rw [hh]|rw [show A.in1.handled=none from hh]
  refine wpAny_bind (wpAny_pure (wpAny_throw (?_:_)))
  exact q _ _ (((Heap.SameBut.update ..).extBut.push _).push _) ⟨_,Heap.get?_push_size _ rfl,rfl⟩
theorem snx_item {b:Bool} {j l:Addr} {k:Nat} {us:Array Value} {u:Value} {Q:Value→Shared→Prop} (hj:SqIt b s.heap j l k) (hl:SqOf b s.heap l us) (hu:us[k]?=some u)
 (q : ∀ h',SqIt b h' j l (k+1)→Heap.SameBut j s.heap h'→Q u { s with heap:=h' }):wpAny (model prog w) A (Builtin.SmallTypes.nextOf (.ref j)) Q E s:=by
  cases b with
  | true=>exact tnx_item hj hl hu q
  | false=>exact wpAny_nextOf_list_item hj hl hu q
theorem snx_end {b:Bool} {j l:Addr} {k:Nat} {us:Array Value} {Q:Value→Shared→Prop} (hh:A.handled=none) (hj:SqIt b s.heap j l k) (hl:SqOf b s.heap l us) (hu:us[k]?=none)
 (q : ∀ h' e,Heap.ExtBut j s.heap h'→(∃ o,h'.get? e=some o∧o.cls = .type "StopIteration")→E (.ref e) { s with heap:=h' }):wpAny (model prog w) A (Builtin.SmallTypes.nextOf (.ref j)) Q E s:=by
  cases b with
  | true=>exact tnx_end hh hj hl hu q
  | false=>exact wpAny_nextOf_list_end hh hj hl hu q
theorem sit_new {b:Bool} {l:Addr} {us:Array Value} {Q:Value→Shared→Prop} (hl:SqOf b s.heap l us) (q:Q (.ref s.heap.objs.size) { s with heap:=s.heap.push (itO b l) }):wpAny (model prog w) A (pyIter (.ref l)) Q E s:=by
 cases b with
 | true=>exact wpAny_pyIter_tuple hl q
 | false=>exact wpAny_pyIter_list hl q
theorem zpn_item {b c:Bool} {z TI TO j1 j2 l1 l2:Addr} {k1 k2:Nat} {us vs:Array Value} {u v x0 y0:Value} {Q:Value→Shared→Prop} (D:ZipApart z TI TO j1 j2 l1 l2)
 (a0:IsZip s.heap z TI TO .none) (a1:IsPair s.heap TI (.ref j1) (.ref j2)) (a2:IsPair s.heap TO x0 y0)
 (e1:SqIt b s.heap j1 l1 k1) (e2:SqIt c s.heap j2 l2 k2) (g1:SqOf b s.heap l1 us) (g2:SqOf c s.heap l2 vs) (hu:us[k1]?=some u) (hv:vs[k2]?=some v)
 (q : ∀ h',IsZip h' z TI TO (rawInt s.heap.objs.size)→IsPair h' TO u v→SqIt b h' j1 l1 (k1+1)→SqIt c h' j2 l2 (k2+1)→IsPair h' s.heap.objs.size u v→h'.objs.size=s.heap.objs.size+1 →
 (∀ a o,a≠z→a≠TO→a≠j1→a≠j2→s.heap.get? a=some o→h'.get? a=some o)→Q (.ref s.heap.objs.size) { s with heap:=h' }) :
  wpAny (model prog w) A (Builtin.«zip.__next__» ⟨[.ref z],[]⟩) (fun r s' => ∃ y,r = .done (.ret y)∧Q y s') E s:=by
  show wpAny _ _ (field (.ref z) 2 >>= _) _ _ _
  refine wpAny_bind (wpAny_field a0 rfl (x :=.bool false) rfl ?_)
  show wpAny _ _ (field (.ref z) 3 >>= _) _ _ _
  refine wpAny_bind (wpAny_field a0 rfl (x :=.ref TI) rfl ?_)
  refine wpAny_bind (wpAny_seqItems a1 rfl ?_)
  show wpAny _ _ (Builtin.SmallTypes.ownedTupleIsFree (.ref z) >>= _) _ _ _
  refine wpAny_bind (?_:wpAny _ _ (Builtin.SmallTypes.ownedTupleIsFree (.ref z)) _ _ _)
  unfold Builtin.SmallTypes.ownedTupleIsFree
  refine wpAny_bind (wpAny_field a0 rfl (x :=.none) rfl (wpAny_pure ?_))
  simp only [if_true]
  refine wpAny_bind (wpAny_rule (?_:_))
  refine wpAny_bind (wpAny_field a0 rfl (x :=.ref TO) rfl ?_)
  refine wpAny_bind (wpAny_setField_rec a0 (by simp) fun p1 b0 m1=>?_)
  replace b0:IsZip p1 z TI TO .ellipsis:=b0
  refine wpAny_bind (?_:_)
  simp only [List.zipIdx_cons,List.zipIdx_nil,List.forIn_cons,List.forIn_nil]
  refine wpAny_bind (wpAny_bind (wpAny_onRaise (?_:_)))
  show wpAny _ _ (Builtin.SmallTypes.nextOf (.ref j1) >>= _) _ _ _
  refine wpAny_bind (snx_item (e1.but m1 D.i1z) (g1.but m1 D.l1z) hu fun p2 f1 m2=>wpAny_pure ?_)
  have c2:IsPair p2 TO x0 y0:=m2.extBut _ _ D.TOi1 (m1.extBut _ _ D.TOz a2)
  refine wpAny_bind (wpAny_seqItems c2 rfl ?_)
  refine wpAny_bind (wpAny_updateSeq_pair c2 fun p3 c3 m3=>?_)
  replace c3:IsPair p3 TO u y0:=c3
  refine wpAny_bind (wpAny_letGo (wpAny_pure (?_:_)))
  refine wpAny_bind (wpAny_bind (wpAny_onRaise (?_:_)))
  show wpAny _ _ (Builtin.SmallTypes.nextOf (.ref j2) >>= _) _ _ _
  refine wpAny_bind (snx_item (((e2.but m1 D.i2z).but m2 D.i12.symm).but m3 D.TOi2.symm) (((g2.but m1 D.l2z).but m2 D.l2i1).but m3 D.l2TO) hv fun p4 f2 m4=>wpAny_pure ?_)
  have c4:IsPair p4 TO u y0:=m4.extBut _ _ D.TOi2 c3
  refine wpAny_bind (wpAny_seqItems c4 rfl ?_)
  refine wpAny_bind (wpAny_updateSeq_pair c4 fun p5 c5 m5=>?_)
  replace c5:IsPair p5 TO u v:=c5
  refine wpAny_bind (wpAny_letGo (wpAny_pure (wpAny_pure (?_:_))))
  refine wpAny_bind (wpAny_seqItems c5 rfl ?_)
  refine wpAny_bind (wpAny_newTuple (?_:_))
  have sz:p5.objs.size=s.heap.objs.size:=by rw [m5.1,m4.1,m3.1,m2.1,m1.1]
  have b5:IsZip p5 z TI TO .ellipsis:=m5.extBut _ _ D.TOz.symm (m4.extBut _ _ D.i2z.symm (m3.extBut _ _ D.TOz.symm (m2.extBut _ _ D.i1z.symm b0)))
  have k5 : ∀ a o,a≠z→a≠TO→a≠j1→a≠j2→s.heap.get? a=some o→p5.get? a=some o:=fun a o n1 n2 n3 n4 e =>
   m5.extBut _ _ n2 (m4.extBut _ _ n4 (m3.extBut _ _ n2 (m2.extBut _ _ n3 (m1.extBut _ _ n1 e))))
  have f5:SqIt b p5 j1 l1 (k1+1):=((f1.but m3 D.TOi1.symm).but m4 D.i12).but m5 D.TOi1.symm
  have f6:SqIt c p5 j2 l2 (k2+1):=f2.but m5 D.TOi2.symm
  have zlt:z<p5.objs.size:=Heap.lt_size b5
  show wpAny _ _ (Builtin.SmallTypes.ownedTupleHandOut (.ref z) (.ref p5.objs.size) >>= _) _ _ _
  refine wpAny_bind (?_:wpAny _ _ (Builtin.SmallTypes.ownedTupleHandOut (.ref z) (.ref p5.objs.size)) _ _ _)
  unfold Builtin.SmallTypes.ownedTupleHandOut
  have b6:IsZip (p5.push { cls :=.type "tuple",data :=.seq #[u,v] }) z TI TO .ellipsis:=Heap.get?_push_of_some _ b5
  refine wpAny_bind (wpAny_setField_rec b6 (by simp) fun p7 b7 m7=>?_)
  replace b7:IsZip p7 z TI TO (rawInt p5.objs.size):=b7
  refine wpAny_setField_rec b7 (by simp) fun p8 b8 m8=>?_
  replace b8:IsZip p8 z TI TO (rawInt p5.objs.size):=b8
  have up : ∀ a o,a≠z→p5.get? a=some o→p8.get? a=some o:=fun a o n e=>m8.extBut _ _ n (m7.extBut _ _ n (Heap.get?_push_of_some _ e))
  have t8:IsPair p8 p5.objs.size u v:=m8.extBut _ _ (Nat.ne_of_gt zlt) (m7.extBut _ _ (Nat.ne_of_gt zlt) (Heap.get?_push_size _ rfl))
  have z8:p8.objs.size=p5.objs.size+1:=by rw [m8.1,m7.1,Heap.size_push]
  rw [sz] at b8 t8 z8
  refine wpAny_pure ⟨_,rfl,(?_:Q (.ref p5.objs.size) _)⟩
  rw [sz]
  exact q p8 b8 (up _ _ D.TOz c5) (f5.at' fun o e=>up _ o D.i1z e) (f6.at' fun o e=>up _ o D.i2z e) t8 z8 fun a o n1 n2 n3 n4 e=>up a o n1 (k5 a o n1 n2 n3 n4 e)
theorem zpn_end {b c:Bool} {z TI TO j1 j2 l1 l2:Addr} {k1 k2:Nat} {us vs:Array Value} {x0 y0:Value} {Q:Fin→Shared→Prop} (hh:A.handled=none) (D:ZipApart z TI TO j1 j2 l1 l2)
 (a0:IsZip s.heap z TI TO .none) (a1:IsPair s.heap TI (.ref j1) (.ref j2)) (a2:IsPair s.heap TO x0 y0)
 (e1:SqIt b s.heap j1 l1 k1) (e2:SqIt c s.heap j2 l2 k2) (g1:SqOf b s.heap l1 us) (g2:SqOf c s.heap l2 vs) (hend:us[k1]?=none∨vs[k2]?=none)
 (q : ∀ h' e,(∀ a o,a≠z→a≠TO→a≠j1→a≠j2→s.heap.get? a=some o→h'.get? a=some o)→(∃ o,h'.get? e=some o∧o.cls = .type "StopIteration")→E (.ref e) { s with heap:=h' }) :
  wpAny (model prog w) A (Builtin.«zip.__next__» ⟨[.ref z],[]⟩) Q E s:=by
  show wpAny _ _ (field (.ref z) 2 >>= _) _ _ _
  refine wpAny_bind (wpAny_field a0 rfl (x :=.bool false) rfl ?_)
  show wpAny _ _ (field (.ref z) 3 >>= _) _ _ _
  refine wpAny_bind (wpAny_field a0 rfl (x :=.ref TI) rfl ?_)
  refine wpAny_bind (wpAny_seqItems a1 rfl ?_)
  show wpAny _ _ (Builtin.SmallTypes.ownedTupleIsFree (.ref z) >>= _) _ _ _
  refine wpAny_bind (?_:wpAny _ _ (Builtin.SmallTypes.ownedTupleIsFree (.ref z)) _ _ _)
  unfold Builtin.SmallTypes.ownedTupleIsFree
  refine wpAny_bind (wpAny_field a0 rfl (x :=.none) rfl (wpAny_pure ?_))
  simp only [if_true]
  refine wpAny_bind (wpAny_rule (?_:_))
  refine wpAny_bind (wpAny_field a0 rfl (x :=.ref TO) rfl ?_)
  refine wpAny_bind (wpAny_setField_rec a0 (by simp) fun p1 b0 m1=>?_)
  replace b0:IsZip p1 z TI TO .ellipsis:=b0
  refine wpAny_bind (?_:_)
  simp only [List.zipIdx_cons,List.zipIdx_nil,List.forIn_cons,List.forIn_nil]
  refine wpAny_bind (wpAny_bind (wpAny_onRaise (?_:_)))
  show wpAny _ _ (Builtin.SmallTypes.nextOf (.ref j1) >>= _) _ _ _
  cases hu:us[k1]? with
  | none =>
   refine wpAny_bind (snx_end hh (e1.but m1 D.i1z) (g1.but m1 D.l1z) hu fun p2 e m2 he=>?_)
   obtain ⟨oe,h3,h4⟩:=he
   have b2:IsZip p2 z TI TO .ellipsis:=m2 _ _ D.i1z.symm b0
   have nz:e≠z:=fun x=>by subst x; rw [b2] at h3; cases h3; simp at h4
   exact wpAny_setField_rec b2 (by simp) fun p3 _ m3=>q p3 e (fun a o n1 _ n3 _ x=>m3.extBut _ _ n1 (m2 _ _ n3 (m1.extBut _ _ n1 x))) ⟨oe,m3.extBut _ _ nz h3,h4⟩
  | some u =>
   have hv:vs[k2]?=none:=by
    rcases hend with h|h
    ·rw [hu] at h; cases h
    ·exact h
   refine wpAny_bind (snx_item (e1.but m1 D.i1z) (g1.but m1 D.l1z) hu fun p2 f1 m2=>wpAny_pure ?_)
   have c2:IsPair p2 TO x0 y0:=m2.extBut _ _ D.TOi1 (m1.extBut _ _ D.TOz a2)
   refine wpAny_bind (wpAny_seqItems c2 rfl ?_)
   refine wpAny_bind (wpAny_updateSeq_pair c2 fun p3 c3 m3=>?_)
   refine wpAny_bind (wpAny_letGo (wpAny_pure (?_:_)))
   refine wpAny_bind (wpAny_bind (wpAny_onRaise (?_:_)))
   show wpAny _ _ (Builtin.SmallTypes.nextOf (.ref j2) >>= _) _ _ _
   refine wpAny_bind (snx_end hh (((e2.but m1 D.i2z).but m2 D.i12.symm).but m3 D.TOi2.symm) (((g2.but m1 D.l2z).but m2 D.l2i1).but m3 D.l2TO) hv fun p4 e m4 he=>?_)
   obtain ⟨oe,h3,h4⟩:=he
   have b4:IsZip p4 z TI TO .ellipsis:=m4 _ _ D.i2z.symm (m3.extBut _ _ D.TOz.symm (m2.extBut _ _ D.i1z.symm b0))
   have nz:e≠z:=fun x=>by subst x; rw [b4] at h3; cases h3; simp at h4
   exact wpAny_setField_rec b4 (by simp) fun p5 _ m5=>q p5 e (fun a o n1 n2 n3 n4 x=>m5.extBut _ _ n1 (m4 _ _ n4 (m3.extBut _ _ n2 (m2.extBut _ _ n3 (m1.extBut _ _ n1 x))))) ⟨oe,m5.extBut _ _ nz h3,h4⟩
theorem zpy_item {b c:Bool} {z TI TO j1 j2 l1 l2:Addr} {k1 k2:Nat} {us vs:Array Value} {u v x0 y0:Value} {Q:Option Value→Shared→Prop} (D:ZipApart z TI TO j1 j2 l1 l2)
 (a0:IsZip s.heap z TI TO .none) (a1:IsPair s.heap TI (.ref j1) (.ref j2)) (a2:IsPair s.heap TO x0 y0)
 (e1:SqIt b s.heap j1 l1 k1) (e2:SqIt c s.heap j2 l2 k2) (g1:SqOf b s.heap l1 us) (g2:SqOf c s.heap l2 vs) (hu:us[k1]?=some u) (hv:vs[k2]?=some v)
 (q : ∀ h',IsZip h' z TI TO (rawInt s.heap.objs.size)→IsPair h' TO u v→SqIt b h' j1 l1 (k1+1)→SqIt c h' j2 l2 (k2+1)→IsPair h' s.heap.objs.size u v→h'.objs.size=s.heap.objs.size+1 →
 (∀ a o,a≠z→a≠TO→a≠j1→a≠j2→s.heap.get? a=some o→h'.get? a=some o)→Q (some (.ref s.heap.objs.size)) { s with heap:=h' }) :
  wpAny (model prog w) A (pyNext (.ref z)) Q E s:=by
  have ty:s.TypeIs (.ref z) "zip":=⟨_,a0,rfl⟩
  unfold pyNext
  exact wpAny_bind (wpAny_attempt (wpAny_callSpecial?_slot (name:=Str.ofString "__next__") ty F.slot_zip_next (wpAny_call_entry F.slot_zip_next ty F.entry_zip_next
   (zpn_item D a0 a1 a2 e1 e2 g1 g2 hu hv fun h' r1 r2 r3 r4 r5 r6 r7=>wpAny_pure (q h' r1 r2 r3 r4 r5 r6 r7)) (F.args_zip_next_1 _))))
theorem zpy_end {b c:Bool} {z TI TO j1 j2 l1 l2:Addr} {k1 k2:Nat} {us vs:Array Value} {x0 y0:Value} {Q:Option Value→Shared→Prop} (hh:A.handled=none) (D:ZipApart z TI TO j1 j2 l1 l2)
 (a0:IsZip s.heap z TI TO .none) (a1:IsPair s.heap TI (.ref j1) (.ref j2)) (a2:IsPair s.heap TO x0 y0)
 (e1:SqIt b s.heap j1 l1 k1) (e2:SqIt c s.heap j2 l2 k2) (g1:SqOf b s.heap l1 us) (g2:SqOf c s.heap l2 vs) (hend:us[k1]?=none∨vs[k2]?=none)
 (q : ∀ h',(∀ a o,a≠z→a≠TO→a≠j1→a≠j2→s.heap.get? a=some o→h'.get? a=some o)→Q none { s with heap:=h' }):wpAny (model prog w) A (pyNext (.ref z)) Q E s:=by
  have ty:s.TypeIs (.ref z) "zip":=⟨_,a0,rfl⟩
  unfold pyNext
  refine wpAny_bind (wpAny_attempt (wpAny_callSpecial?_slot (name:=Str.ofString "__next__") ty F.slot_zip_next (wpAny_call_entry F.slot_zip_next ty F.entry_zip_next (zpn_end hh D a0 a1 a2 e1 e2 g1 g2 hend fun h' e hk he=>?_) (F.args_zip_next_1 _))))
  obtain ⟨o,ho,hc⟩:=he
  exact wpAny_bind (wpAny_isInstance (T := "StopIteration") (b:=true) ⟨o,ho,hc⟩ isSubtype_stop (wpAny_pure (q _ hk)))
abbrev zh1 (b:Bool) (h:Heap) (l:Addr):Heap:=h.push (itO b l)
abbrev zh2 (b c:Bool) (h:Heap) (l1 l2:Addr):Heap:=(zh1 b h l1).push (itO c l2)
abbrev zh3 (b c:Bool) (h:Heap) (l1 l2:Addr):Heap:=(zh2 b c h l1 l2).push { cls :=.type "tuple",data :=.seq #[.ref h.objs.size,.ref (zh1 b h l1).objs.size] }
abbrev zh4 (b c:Bool) (h:Heap) (l1 l2:Addr):Heap:=(zh3 b c h l1 l2).push { cls :=.type "tuple",data :=.seq #[.none,.none] }
abbrev zh5 (b c:Bool) (h:Heap) (l1 l2:Addr):Heap:=(zh4 b c h l1 l2).push { cls :=.type "zip",data :=.fields #[.none,.bool false,.bool false,.ref (zh2 b c h l1 l2).objs.size,.ref (zh3 b c h l1 l2).objs.size] }
theorem zp_new (b c:Bool) (l1 l2:Addr) (us vs:Array Value):Meets (Builtin.«zip.__new__» ⟨[.type "zip",.ref l1,.ref l2],[]⟩)
 (fun _ R s=>SqOf b s.heap l1 us∧SqOf c s.heap l2 vs∧R (.ok (.ret (.ref (zh4 b c s.heap l1 l2).objs.size))) { s with heap:=zh5 b c s.heap l1 l2 }) :=
  .of_wp fun prog w A R s h=>by
   obtain ⟨hp,g,d,tk,os⟩:=s
   obtain ⟨g1,g2,h⟩:=h
   have hsub:=sub_zip
   have y1:SqOf b (Shared.heap ⟨hp,g,d,tk,os⟩) l1 us:=g1
   have y2:SqOf c (Shared.heap ⟨hp.push (itO b l1),g,d,tk,os⟩) l2 vs:=SqOf.at' g2 fun o e=>Heap.get?_push_of_some _ e
   wp_walk using sit_new y1,sit_new y2
   exact ⟨_,rfl,h⟩
theorem zp_call {b c:Bool} {l1 l2:Addr} {us vs:Array Value} {Q:Value→Shared→Prop} (g1:SqOf b s.heap l1 us) (g2:SqOf c s.heap l2 vs)
 (q : ∀ h',IsZip h' (s.heap.objs.size+4) (s.heap.objs.size+2) (s.heap.objs.size+3) .none→IsPair h' (s.heap.objs.size+2) (.ref s.heap.objs.size) (.ref (s.heap.objs.size+1)) →
 IsPair h' (s.heap.objs.size+3) .none .none→SqIt b h' s.heap.objs.size l1 0→SqIt c h' (s.heap.objs.size+1) l2 0→(∀ a o,s.heap.get? a=some o→h'.get? a=some o)→Q (.ref (s.heap.objs.size+4)) { s with heap:=h' }) :
  wpAny (model prog w) A (call (.type "zip") [.ref l1,.ref l2]) Q E s:=by
  refine callType_new F.called_zip (by decide) (F.typeCall_zip_2 _ _) (F.newCall_zip_2 _ _) (fun ob=>F.args_object_init_3 ob _ _) F.entry_zip_new (zp_new b c l1 l2 us vs) ⟨g1,g2,?_⟩
  have n1:(zh1 b s.heap l1).objs.size=s.heap.objs.size+1:=Heap.size_push ..
  have n2:(zh2 b c s.heap l1 l2).objs.size=s.heap.objs.size+2:=by rw [Heap.size_push,n1]
  have n3:(zh3 b c s.heap l1 l2).objs.size=s.heap.objs.size+3:=by rw [Heap.size_push,n2]
  have n4:(zh4 b c s.heap l1 l2).objs.size=s.heap.objs.size+4:=by rw [Heap.size_push,n3]
  have r5:(zh5 b c s.heap l1 l2).get? (zh4 b c s.heap l1 l2).objs.size=some _:=Heap.get?_push_size _ rfl
  have r4:(zh5 b c s.heap l1 l2).get? (zh3 b c s.heap l1 l2).objs.size=some _:=Heap.get?_push_of_some _ (Heap.get?_push_size _ rfl)
  have r3:(zh5 b c s.heap l1 l2).get? (zh2 b c s.heap l1 l2).objs.size=some _:=Heap.get?_push_of_some _ (Heap.get?_push_of_some _ (Heap.get?_push_size _ rfl))
  have r2:(zh5 b c s.heap l1 l2).get? (zh1 b s.heap l1).objs.size=some (itO c l2):=Heap.get?_push_of_some _ (Heap.get?_push_of_some _ (Heap.get?_push_of_some _ (Heap.get?_push_size _ rfl)))
  have r1:(zh5 b c s.heap l1 l2).get? s.heap.objs.size=some (itO b l1):=Heap.get?_push_of_some _ (Heap.get?_push_of_some _ (Heap.get?_push_of_some _ (Heap.get?_push_of_some _ (Heap.get?_push_size _ rfl))))
  show _∧_
  rw [n2,n3,n4] at r5
  rw [n1,n2] at r3
  rw [n3] at r4
  rw [n1] at r2
  rw [n4]
  have si : ∀ {b:Bool} {h:Heap} {a l:Addr},h.get? a=some (itO b l)→SqIt b h a l 0:=fun {b} {h} {a} {l} e=>by
   cases b with
   | true=>exact ⟨_,e,rfl,rfl⟩
   | false=>exact ⟨_,e,rfl,rfl⟩
  exact ⟨⟨_,r5,rfl⟩,q _ r5 r3 r4 (si r1) (si r2) fun a o x=>Heap.get?_push_of_some _ (Heap.get?_push_of_some _ (Heap.get?_push_of_some _ (Heap.get?_push_of_some _ (Heap.get?_push_of_some _ x))))⟩
end
end L2
namespace L2
open PySem PySem.Spec PyProof.Rows
def SqX (b:Bool) (K:PySem.W.Frag) (H:Hp) (a:Addr) (xs:List V):Prop:=match b with
 | true=>SqT K H a xs
 | false=>SqL K H a xs
section
variable {X:Cx} {pins:List (Addr×Obj)} {σ:St} {H:Hp} {s:Shared} {b:Bool} {a:Addr} {xs ys:List V}
theorem Inv.sqx (I:Inv X pins σ H s) (h:SqX b X.K H a xs) : ∃ its:List Value,Vals xs its∧SqOf b s.heap a its.toArray:=by
 cases b with
 | true =>
  obtain ⟨its,r,p,_⟩:=I.tuple h
  obtain ⟨o,ho,hc,n,hd⟩:=p
  exact ⟨its,r,o,ho,hc,n,hd⟩
 | false =>
  obtain ⟨its,r,p,_⟩:=I.list h
  exact ⟨its,r,p.isList⟩
theorem Inv.sqx_inj (I:Inv X pins σ H s) (h:SqX b X.K H a xs) (h':SqX b X.K H a ys):xs=ys:=by
 cases b with
 | true=>exact I.tuple_inj h h'
 | false=>exact I.list_inj h h'
end
def Itz (K:PySem.W.Frag) (b c:Bool) (l m:Addr):It :=
 ⟨fun i H => ∃ xs ys x y,SqX b K H l xs∧SqX c K H m ys∧xs[i]?=some x∧ys[i]?=some y,fun i H v H' => ∃ p x y,(∀ xs,SqX b K H l xs→xs[i]?=some x)∧(∀ ys,SqX c K H m ys→ys[i]?=some y)∧H p=none∧v = .ref p∧H'=upd H p (.tup [x,y]),
  fun i H => ∃ xs ys,SqX b K H l xs∧SqX c K H m ys∧(xs.length≤i∨ys.length≤i)⟩
theorem turn_zip {P:Program} {w:World} {K:PySem.W.Frag} {elts:List Expr} {x1:Nat} {tpos:Pos} {b c:Bool} (z TI TO j1 j2 l m:Addr) (D:ZipApart z TI TO j1 j2 l m) :
 Turn P w K (.Tuple elts x1 tpos) (Itz K b c l m) [z,TI,TO,j1,j2] z (fun i h=>IsZip h z TI TO .none∧IsPair h TI (.ref j1) (.ref j2)∧(∃ x0 y0,IsPair h TO x0 y0)∧SqIt b h j1 l i∧SqIt c h j2 m i) where
  mem:=by simp
  obj:=fun i h st a ha=>by
   obtain ⟨s0,s1,⟨x0,y0,s2⟩,s3,s4⟩:=st
   simp only [List.mem_cons,List.not_mem_nil,or_false] at ha
   rcases ha with rfl|rfl|rfl|rfl|rfl
   ·exact ⟨_,s0,fun v z=>by have z':Data.fields _=Data.cell v:=z; cases z'⟩
   ·exact ⟨_,s1,fun v z=>by have z':Data.seq _ _=Data.cell v:=z; cases z'⟩
   ·exact ⟨_,s2,fun v z=>by have z':Data.seq _ _=Data.cell v:=z; cases z'⟩
   ·exact s3.obj
   ·exact s4.obj
  keep:=fun i h h' st k=>by
   obtain ⟨s0,s1,⟨x0,y0,s2⟩,s3,s4⟩:=st
   exact ⟨k z (by simp) _ s0,k TI (by simp) _ s1,⟨x0,y0,k TO (by simp) _ s2⟩,s3.at' fun o q=>k j1 (by simp) o q,s4.at' fun o q=>k j2 (by simp) o q⟩
  item:=by
   intro X hP hw hK hc i pins s σ H E I hf st hg
   subst hP hw hK
   obtain ⟨xs,ys,x,y,hq,hq',hx,hy⟩:=hg
   obtain ⟨us,rv,p1⟩:=I.sqx hq
   obtain ⟨vs,rw',p2⟩:=I.sqx hq'
   obtain ⟨u,hu,ru⟩:=rv.get hx
   obtain ⟨v,hv,rv'⟩:=rw'.get hy
   obtain ⟨s0,s1,⟨x0,y0,s2⟩,s3,s4⟩:=st
   obtain ⟨z0,z1,z2,z3,z4,z5⟩:=hf z (by simp)
   obtain ⟨o0,o1,o2,o3,o4,o5⟩:=hf TO (by simp)
   obtain ⟨f0,f1,f2,f3,f4,f5⟩:=hf j1 (by simp)
   obtain ⟨g0,g1,g2,g3,g4,g5⟩:=hf j2 (by simp)
   have zlt:z<s.heap.objs.size:=Heap.lt_size s0
   refine zpy_item D s0 s1 s2 s3 s4 p1 p2 (u:=u) (v:=v) (by simpa using hu) (by simpa using hv) fun h₁ a0 a2 a3 a4 ht hz₁ hk=>⟨_,rfl,?_⟩
   refine wpAny_letOwnedTupleGo_zip (s:={ s with heap:=h₁ }) a0 fun h₂ he₂ hs₂=>?_
   replace hs₂:Heap.SameBut z h₁ h₂:=hs₂
   have fresh:H s.heap.objs.size=none:=I.hok.fresh (Nat.le_refl _)
   have kk : ∀ a o,a≠z→a≠TO→a≠j1→a≠j2→s.heap.get? a=some o→h₂.get? a=some o:=fun a o b1 b2 b3 b4 q=>hs₂.extBut a o b1 (hk a o b1 b2 b3 b4 q)
   have kc : ∀ a o,a ∉ [z,TO,j1,j2]→s.heap.get? a=some o→h₂.get? a=some o:=fun a o hc q=>kk a o (fun z=>hc (by simp [z])) (fun z=>hc (by simp [z])) (fun z=>hc (by simp [z])) (fun z=>hc (by simp [z])) q
   have nb : ∀ a o v,s.heap.get? a=some o→H a=some v→h₂.get? a=some o:=fun a o v e q=>kk a o (fun n=>by rw [n,z0] at q; cases q) (fun n=>by rw [n,o0] at q; cases q) (fun n=>by rw [n,f0] at q; cases q) (fun n=>by rw [n,g0] at q; cases q) e
   have ht₂:h₂.get? s.heap.objs.size=some { cls :=.type "tuple",data :=.seq #[u,v] }:=(hs₂.2 _ (Nat.ne_of_gt zlt)).trans ht
   have I1:Inv X pins σ (upd H s.heap.objs.size (.tup [x,y])) { s with heap:=h₂ }:=by
    refine I.step (t':=s.toks) (g':=s.gens) (d':=s.drawn) (ch:=[z,TO,j1,j2]) (fun a ha=>?_) (fun a o _ _ hc q _=>kc a o hc q)
     (fun a o _ _ hc q _=>⟨o.slots,kc a o hc q⟩) (fun a o _ q n=>by rw [upd_ne (Nat.ne_of_lt (Heap.lt_size q))]; exact n)
     (fun a o hc q=>⟨o,kc a o hc q⟩) (fun a ys q=>by rw [upd_ne (ne_of_none q fresh)]; exact q) (fun a o v q=>by rw [upd_ne (ne_of_none q fresh)]; exact q)
     (fun a ps q=>⟨#[],by rw [upd_ne (ne_of_none q fresh),q]; simp⟩) (fun m hm=>?_) (fun a v' q=>?_) I.bare
    ·simp only [List.mem_cons,List.not_mem_nil,or_false] at ha
     rcases ha with rfl|rfl|rfl|rfl
     ·exact ⟨z3,z1,z4,z5⟩
     ·exact ⟨o3,o1,o4,o5⟩
     ·exact ⟨f3,f1,f4,f5⟩
     ·exact ⟨g3,g1,g4,g5⟩
    ·obtain ⟨o,es,ep,ho',r⟩:=hm
     exact ⟨o,es,ep,kk _ o (Ne.symm z1) (Ne.symm o1) (Ne.symm f1) (Ne.symm g1) ho',r⟩
    ·by_cases hb:a=s.heap.objs.size
     ·subst hb
      rw [upd_same] at q
      cases q
      exact ⟨(by show 2≤sizeLine; decide),[u,v],.cons ru (.cons rv' .nil),⟨_,ht₂,rfl,_,rfl⟩⟩
     ·rw [upd_ne hb] at q
      refine (I.hok a v' q).stay (fun d ob hd e=>?_) (fun d e=>by rw [upd_ne (ne_of_none e fresh)]; exact e) fun d ws e=>by rw [upd_ne (ne_of_none e fresh)]; exact e
      rcases hd with hd|hd
      ·subst hd; exact nb _ _ _ e q
      ·exact nb _ _ _ e hd
   refine ⟨.ref s.heap.objs.size,_,I1,rfl,⟨s.heap.objs.size,x,y,fun ws hw=>by rw [I.sqx_inj hw hq]; exact hx,fun ws hw=>by rw [I.sqx_inj hw hq']; exact hy,fresh,rfl,rfl⟩,⟨he₂,?_,⟨u,v,?_⟩,?_,?_⟩,fun a ha=>?_⟩
   ·exact hs₂.extBut _ _ D.TIz (hk _ _ D.TIz D.TITO D.TIi1 D.TIi2 s1)
   ·exact hs₂.extBut _ _ D.TOz a2
   ·exact a3.but hs₂ D.i1z
   ·exact a4.but hs₂ D.i2z
   ·have hlt:a<s.heap.objs.size:=by
     simp only [List.mem_cons,List.not_mem_nil,or_false] at ha
     rcases ha with rfl|rfl|rfl|rfl|rfl
     ·exact zlt
     ·exact Heap.lt_size s1
     ·exact Heap.lt_size s2
     ·obtain ⟨o,q,_⟩:=s3.obj; exact Heap.lt_size q
     ·obtain ⟨o,q,_⟩:=s4.obj; exact Heap.lt_size q
    rw [upd_ne (Nat.ne_of_lt hlt)]
    exact (hf a ha).1
  done:=by
   intro X hP hw hK hc i pins s σ H E I hf st hg
   subst hP hw hK
   obtain ⟨xs,ys,hq,hq',hx⟩:=hg
   obtain ⟨us,rv,p1⟩:=I.sqx hq
   obtain ⟨vs,rw',p2⟩:=I.sqx hq'
   obtain ⟨s0,s1,⟨x0,y0,s2⟩,s3,s4⟩:=st
   obtain ⟨z0,z1,z2,z3,z4,z5⟩:=hf z (by simp)
   obtain ⟨o0,o1,o2,o3,o4,o5⟩:=hf TO (by simp)
   obtain ⟨f0,f1,f2,f3,f4,f5⟩:=hf j1 (by simp)
   obtain ⟨g0,g1,g2,g3,g4,g5⟩:=hf j2 (by simp)
   have l1:=rv.length
   have l2:=rw'.length
   refine zpy_end (I.ok.hd hc) D s0 s1 s2 s3 s4 p1 p2 (by rcases hx with hx|hx; exact .inl (by simp; omega); exact .inr (by simp; omega)) fun h' hk=>⟨rfl,?_⟩
   have kc : ∀ a o,a ∉ [z,TO,j1,j2]→s.heap.get? a=some o→h'.get? a=some o:=fun a o hc q=>hk a o (fun z=>hc (by simp [z])) (fun z=>hc (by simp [z])) (fun z=>hc (by simp [z])) (fun z=>hc (by simp [z])) q
   have nb : ∀ a o v,s.heap.get? a=some o→H a=some v→h'.get? a=some o:=fun a o v e q=>hk a o (fun n=>by rw [n,z0] at q; cases q) (fun n=>by rw [n,o0] at q; cases q) (fun n=>by rw [n,f0] at q; cases q) (fun n=>by rw [n,g0] at q; cases q) e
   refine I.step (t':=s.toks) (g':=s.gens) (d':=s.drawn) (ch:=[z,TO,j1,j2]) (fun a ha=>?_) (fun a o _ _ hc q _=>kc a o hc q)
    (fun a o _ _ hc q _=>⟨o.slots,kc a o hc q⟩) (fun a o _ q n=>n) (fun a o hc q=>⟨o,kc a o hc q⟩) (fun a ys q=>q) (fun a o v q=>q) (fun a ps q=>⟨#[],by rw [q]; simp⟩) (fun m hm=>?_) (fun a v' q=>?_) I.bare
   ·simp only [List.mem_cons,List.not_mem_nil,or_false] at ha
    rcases ha with rfl|rfl|rfl|rfl
    ·exact ⟨z3,z1,z4,z5⟩
    ·exact ⟨o3,o1,o4,o5⟩
    ·exact ⟨f3,f1,f4,f5⟩
    ·exact ⟨g3,g1,g4,g5⟩
   ·obtain ⟨o,es,ep,ho',r⟩:=hm
    exact ⟨o,es,ep,hk _ o (Ne.symm z1) (Ne.symm o1) (Ne.symm f1) (Ne.symm g1) ho',r⟩
   ·refine (I.hok a v' q).stay (fun d ob hd e=>?_) (fun d e=>e) fun d ws e=>e
    rcases hd with hd|hd
    ·subst hd; exact nb _ _ _ e q
    ·exact nb _ _ _ e hd
  self:=fun A i s Q E st h=>wpAny_pyIter_zip st.1 h
theorem boot_zip:bootBuiltins "zip" = some (.type "zip"):=by decide +kernel
section
variable {X:Cx} {elts:List Expr} {x1:Nat} {tpos:Pos}
def iZip (K:PySem.W.Frag) (ta:TA):TI:=fun σ H R=>ta σ H fun vs H1 => ∃ b c l m,vs=[.ref l,.ref m]∧(∃ xs,SqX b K H1 l xs)∧(∃ ys,SqX c K H1 m ys)∧R (Itz K b c l m) H1
theorem pi_zip {a b:Expr} {ta:TA} {p pos:Pos} (hg:Gl X "zip") (hm:X.mg "zip" = none) (ha:PA X [a,b] ta) (hs:starEach [a,b] X.env=[(false,eval a X.env),(false,eval b X.env)]:=by rfl) (hs2:starEach [b] X.env=[(false,eval b X.env)]:=by rfl) :
 PI X (.Tuple elts x1 tpos) (.Call (.Name "zip" p) [a,b] [] pos) (iZip X.K ta):=by
 intro pins s σ H R I h
 refine Call_ (ld_blt I hg hm boot_zip (PyProof.Rows.callWith_type1 (thn (ha pos pins s σ H _ I h) fun us s1 xx154=>?_) (by rw [hs,hs2]) (by rw [hs2]; rfl)))
 obtain ⟨vs,H1,I1,r1,q1⟩:=xx154
 obtain ⟨kb,kc,l,m,e,⟨xs,hq⟩,⟨ys,hq'⟩,q⟩:=q1
 subst e
 cases r1 with
 | cons r rr =>
  cases rr with
  | cons r' rr =>
   cases rr
   cases r
   cases r'
   obtain ⟨its,rv,pl⟩:=I1.sqx hq
   obtain ⟨its',rv',pl'⟩:=I1.sqx hq'
   refine zp_call pl pl' fun h' a0 a1 a2 a3 a4 hk=>?_
   refine wpAny_pyIter_zip a0 ?_
   have I2:Inv X pins σ H1 { s1 with heap:=h' }:=I1.kept (t':=s1.toks) hk
   refine ⟨s1.heap.objs.size+4,[s1.heap.objs.size+4,s1.heap.objs.size+2,s1.heap.objs.size+3,s1.heap.objs.size,s1.heap.objs.size+1],_,_,H1,rfl,I2,turn_zip (b:=kb) (c:=kc) _ _ _ _ _ l m (zipApart_new pl.lt pl'.lt),⟨a0,a1,⟨_,_,a2⟩,a3,a4⟩,fun b hb=>?_,q⟩
   have hle:s1.heap.objs.size≤b:=by
    simp only [List.mem_cons,List.not_mem_nil,or_false] at hb
    rcases hb with rfl|rfl|rfl|rfl|rfl
    ·exact Nat.le_add_right _ 4
    ·exact Nat.le_add_right _ 2
    ·exact Nat.le_add_right _ 3
    ·exact Nat.le_refl _
    ·exact Nat.le_add_right _ 1
   exact I1.fpOk hle (I1.hok.fresh hle)
end
def zipD (l m:List PyData):List PyData:=(l.zip m).map fun p => .tuple [p.1,p.2]
theorem zipD_len (l m:List PyData):(zipD l m).length=min l.length m.length:=by simp [zipD]
theorem zipD_get {l m:List PyData} {i:Nat} {x y:PyData} (h1:l[i]?=some x) (h2:m[i]?=some y):(zipD l m)[i]?=some (.tuple [x,y]):=by
 unfold zipD
 rw [List.getElem?_map,List.getElem?_zip_eq_some (z:=(x,y)) |>.mpr ⟨h1,h2⟩]; rfl
theorem zipD_inv {l m:List PyData} {i:Nat} {d:PyData} (h:(zipD l m)[i]?=some d) : ∃ x y,l[i]?=some x∧m[i]?=some y∧d = .tuple [x,y]:=by
 have hi:=(List.getElem?_eq_some_iff.mp h).1
 rw [zipD_len] at hi
 have h1:i<l.length:=by omega
 have h2:i<m.length:=by omega
 have e:=zipD_get (List.getElem?_eq_getElem h1) (List.getElem?_eq_getElem h2)
 rw [h] at e
 exact ⟨_,_,List.getElem?_eq_getElem h1,List.getElem?_eq_getElem h2,Option.some.inj e⟩
theorem same_seqX {b:Bool} {K:PySem.W.Frag} {F H:Hp} {a:Addr} {xs:List V} (s:Same F H) (h:SqX b K F a xs):SqX b K H a xs:=by
 cases b with
 | true=>exact same_seqT s h
 | false=>exact s.seq h
theorem itd_zip {b c:Bool} {K:PySem.W.Frag} {F:Hp} {a a':Addr} {xs ys:List V} {l m:List PyData} (hs:SqX b K F a xs) (hr:Iss K F l xs) (hs':SqX c K F a' ys) (hr':Iss K F m ys):ItD K (Itz K b c a a') F (zipD l m) where
 go:=fun i H s hi=>by
  rw [zipD_len] at hi
  exact ⟨xs,ys,xs[i]'(by rw [hr.len]; omega),ys[i]'(by rw [hr'.len]; omega),same_seqX s hs,same_seqX s hs',List.getElem?_eq_getElem _,List.getElem?_eq_getElem _⟩
 stop:=fun H s=>by
  rw [zipD_len]
  refine ⟨xs,ys,same_seqX s hs,same_seqX s hs',?_⟩
  rw [hr.len,hr'.len]; omega
 yld:=fun i H x H' F1 s1 s2 hi hy=>by
  obtain ⟨p,y,y',hy,hy',hp,rfl,rfl⟩:=hy
  obtain ⟨d,e1,e2⟩:=hr.get' (hy xs (same_seqX (s1.trans s2) hs))
  obtain ⟨d',e1',e2'⟩:=hr'.get' (hy' ys (same_seqX (s1.trans s2) hs'))
  have g:=Go.put (o:=HO.tup [y,y']) s2 hp
  exact ⟨_,_,zipD_get e1 e1',g,is_tup (SqT.of upd_same) (iss_cons ((e2.mono s1).mono g.f) (iss_cons ((e2'.mono s1).mono g.f) iss_nil))⟩
theorem is_sqx {K:PySem.W.Frag} {F:Hp} {d:PyData} {l:List PyData} {v:V} (e:seqD d=some l) (i:Is K F d v) : ∃ b a xs,v = .ref a∧SqX b K F a xs∧Iss K F l xs:=by
 cases d with
 | list m=>cases e; obtain ⟨a,xs,rfl,hs,hr⟩:=i.lst_inv; exact ⟨false,a,xs,rfl,hs,hr⟩
 | tuple m=>cases e; obtain ⟨a,xs,rfl,hs,hr⟩:=i.tup_inv; exact ⟨true,a,xs,rfl,hs,hr⟩
 | _=>cases e
section
variable {X:Cx} {a b:Expr} {p pos:Pos} {elts:List Expr} {x1:Nat} {tpos:Pos}
def wiZip (Wa Wb:WE):WF:=fun env Q=>Wa env fun x e1=>Wb e1 fun y e=>(seqD x).elim False fun l=>(seqD y).elim False fun m=>Q (zipD l m) e
theorem vi_zip2 {Wa Wb:WE} (hm:X.mg "zip" = none) (ha:VE X a Wa) (hb:VE X b Wb) (hg:Gl X "zip":=by rfl) (hs:starEach [a,b] X.env=[(false,eval a X.env),(false,eval b X.env)]:=by rfl) (hs2:starEach [b] X.env=[(false,eval b X.env)]:=by rfl)
 (hs3:starEach [a,b] X.env=(false,eval a X.env)::starEach [b] X.env:=by rfl) (hs4:starEach [b] X.env=(false,eval b X.env)::starEach [] X.env:=by rfl):VI X (.Tuple elts x1 tpos) (.Call (.Name "zip" p) [a,b] [] pos) (wiZip Wa Wb) :=
 (pi_zip hg hm (pa_cons ha (pa_cons hb pa_nil hs4) hs3) hs hs2).imp fun σ H R xx155=>by
  obtain ⟨M,env,F,Q,I,h,k⟩:=xx155
  refine ⟨M,env,F,_,I,h,fun d v F1 H1 e1 I1 s1 i1 h1=>⟨M,e1,F1,_,I1,h1,fun d2 v2 F2 H2 e2 I2 s2 i2 h2=>?_⟩⟩
  cases q1:seqD d with
  | none=>rw [q1] at h2; exact h2.elim
  | some l =>
   cases q2:seqD d2 with
   | none=>rw [q1,q2] at h2; exact h2.elim
   | some m =>
    rw [q1,q2] at h2
    obtain ⟨kb,a1,xs,rfl,z1,z2⟩:=is_sqx q1 (i1.mono s2)
    obtain ⟨kc,a2,ys,rfl,z3,z4⟩:=is_sqx q2 i2
    exact ⟨kb,kc,a1,a2,rfl,⟨xs,same_seqX I2.fh z1⟩,⟨ys,same_seqX I2.fh z3⟩,k _ _ F2 H2 e2 I2 (s1.trans s2) (itd_zip z1 z2 z3 z4) h2⟩
end
end L2
namespace L2
open PySem PySem.Spec PyProof.Rows
section
variable {X:Cx}
end
end L2
namespace L2
open PySem PySem.Spec PyProof.Rows
section
variable {X:Cx} {e:Expr} {W:WF} {We:WE} {pos:Pos}
def wExt (i:Nat) (W:WF):WS:=fun D env=>(gS env i).mut=true∧W env fun l e=>(gS e i).mut=true∧(gS e i).cnt.length+l.length≤sizeLine∧D.nx (e.set i ((gS e i).upd ((gS e i).cnt++l)))
theorem vs_extend (i:Nat) {x:Str} {px apos cpos:Pos} (he:VF X e W) (hN:X.N[i]?=some x:=by rfl) (hv:Vis X.env.scope x:=by first|exact Or.inl rfl|exact Or.inr (Or.inl rfl)|exact Or.inr (Or.inr rfl)) (hd:(x==("__debug__" : Str))=false:=by decide)
 (hcd:(x==("__classdict__" : Str))=false:=by decide)
 (hbase:attributeBase (.Name x px) "extend" X.env (eval (.Name x px) X.env)=eval (.Name x px) X.env:=by rfl)
 (hfew:((backTo cpos (starEach [e] X.env)).all (fun x => !x.1)&&(backToKw cpos (keywordEach [] X.env)).all (fun x=>x.1.isSome)
  && decide ([e].length+([]:List Keyword).length+(if ([]:List Keyword).isEmpty then 0 else 1)<30))=true:=by rfl)
 (hline:(apos.endLine==cpos.line)=true:=by rfl) (hst:starEach [e] X.env=(false,eval e X.env)::starEach [] X.env:=by rfl) (hplain:(backTo cpos (starEach [] X.env)).any (·.1)=false:=by rfl)
 (hs:swapsWith (.Call (.Attribute (.Name x px) "extend" apos) [e] [] cpos) none pos.line X.env=pure false:=by rfl):VS X (.Expr (.Call (.Attribute (.Name x px) "extend" apos) [e] [] cpos) pos) (wExt i W) :=
 (ps_expr (pe_bm PySem.F.plainAttrs_list PySem.F.slot_list_extend PySem.F.type_list_extend mt_extend (pe_var hN hv hd hcd) (pa_cons he pa_nil hst) hbase hfew hline hst hplain) hs).imp fun D σ H xx156=>by
  obtain ⟨M,env,F,DD,I,⟨hm,h⟩,k⟩:=xx156
  obtain ⟨p,vs,ep,g1,g2,g3,g4⟩:=(I.slot i).addr hm
  refine ⟨_,vS_some ep,.inl ⟨rfl,_,SqL.of g1⟩,M,env,F,_,I,h,fun a us ds F1 H1 e1 I1 s1 hH hF _ _ _ i1 h1=>?_⟩
  obtain ⟨m1,z1,q1⟩:=h1
  obtain ⟨p',vs1,ep',f1,f2,f3,f4⟩:=(I1.slot i).addr m1
  rw [ep] at ep'; injection ep' with ep'; injection ep' with ep'; subst ep'
  exact ⟨p,a,vs1,us,rfl,rfl,f1,hH,by rw [f4.len,i1.len]; exact z1,k.nx _ F1 _ σ (I1.chg m1 ep (iss_append f4 i1)) s1 q1⟩
end
end L2
namespace L2
open PySem PySem.Spec PyProof.Rows
section
variable {prog:Program} {w:World} {A:Around} {E:Value→Shared→Prop} {s:Shared}
end
section
variable {X:Cx}
end
end L2
namespace L2
open PySem PySem.Spec PyProof.Rows
section
variable {X:Cx} {a b c d:Expr} {pos:Pos} {ta tb tc td:TE}
variable {Wa Wb Wc Wd:WE}
end
end L2
namespace L2
open PySem PySem.Spec PyProof.Rows
def tCompIf (ix:List Nat) (k:Nat) (wi:TI) (g:TG) (tt:TT) (te:TE):TE:=fun σ H Q=>wi σ H fun J H1 => ∃ W:Nat→Nat→List V→St→Hp→Prop,(∃ m,W 0 m [] (capS ix k σ) H1) ∧ ∀ i m ys σ1 H2,W i m ys σ1 H2 →
 (J.stop i H2∧ys.length≤sizeLine ∧ ∀ p,H2 p=none→Q (.ref p) (upd H2 p (.lst ys))) ∨
 (J.go i H2∧ys.length<sizeLine ∧ ∃ (N:V→St→Hp→Prop) (N0:St→Hp→Prop),(∀ y σ2 H5,N y σ2 H5 → ∃ m',m'<m∧W (i+1) m' (ys++[y]) σ2 H5)∧(∀ σ2 H5,N0 σ2 H5 → ∃ m',m'<m∧W (i+1) m' ys σ2 H5) ∧
  ∀ x H3,J.yld i H2 x H3→g x σ1 H3 fun σ2 H4=>tt σ2 H4 fun b H5=>match b with|true=>te σ2 H5 fun y H6=>N y σ2 H6|false=>N0 σ2 H5)
theorem codeAny_compLoop_if {prog:Program} {w:World} {A:Around} {R:Result→Shared→Prop} {s:Shared} {elt target iter cnd:Expr} {scope:Scope} {pos:Pos} {it acc:Value} {env:Env} (I:Nat→Shared→Prop)
 (turn : ∀ n s,I n s→wpAny (model prog w) A (pyNext it) (fun r s₁=>match r with
  | none=>R (.ok .next) s₁
  | some v=>wpAny (model prog w) A (letOwnedTupleGo target it v) (fun _ s₁'=>wpAny (model prog w) A (assign target env v) (fun _ s₂=>wpAny (model prog w) A (isTrue cnd env (eval cnd env)) (fun b s₂'=>match b with
   | true=>wpAny (model prog w) A (eval elt env) (fun x s₃ =>
    wpAny (model prog w) A (call (.builtin "list.append") [acc,x]) (fun _ s₄ => ∃ m,m<n∧I m s₄) (notedBy (model prog w) A env fun e s'=>R (.error e) s') s₃)
    (notedBy (model prog w) A env fun e s'=>R (.error e) s') s₂'
   | false => ∃ m,m<n∧I m s₂') (notedBy (model prog w) A env fun e s'=>R (.error e) s') s₂) (notedBy (model prog w) A env fun e s'=>R (.error e) s') s₁') (notedBy (model prog w) A env fun e s'=>R (.error e) s') s₁) (notedBy (model prog w) A env fun e s'=>R (.error e) s') s)
  (n:Nat) (h:I n s):codeAny (model prog w) A (.compLoop (.ListComp elt [⟨target,iter,[cnd],0⟩] scope pos) 0 it acc env) R s:=by
  refine codeAny_loop rfl I (fun n s hI=>?_) n h
  show wpAny _ _ ((compTurn (.ListComp elt [⟨target,iter,[cnd],0⟩] scope pos) 0 it acc env).onRaise (fun x=>do noteFrame x env; theTreesLotGoes x)) _ _ s
  refine wpAny_noted (?_:_)
  rw [compTurn_list]
  refine wpAny_bind (wpAny_standAt (wpAny_bind (wpAny_mono (turn n s hI) (fun r s₁ h₁=>?_) fun _ _ z=>z)))
  cases r with
  | none=>exact wpAny_pure h₁
  | some v =>
   refine wpAny_bind (wpAny_mono h₁ (fun _ s₁' h₁'=>wpAny_bind (wpAny_mono h₁' (fun _ s₂ h₂=>?_) fun _ _ z=>z)) fun _ _ z=>z)
   refine wpAny_bind (wpAny_tests_one (wpAny_mono h₂ (fun b s₂' hb=>?_) fun _ _ z=>z))
   cases b with
   | true =>
    refine wpAny_bind (wpAny_bind (wpAny_mono hb (fun x s₃ h₃=>wpAny_bind (wpAny_mono h₃ (fun _ s₄ h₄=>wpAny_pure (wpAny_pure ⟨rfl,h₄⟩)) fun _ _ z=>z)) fun _ _ z=>z))
   | false=>exact wpAny_bind (wpAny_pure (wpAny_pure ⟨rfl,hb⟩))
section
variable {X:Cx} {elt target iter cnd:Expr} {scope:Scope} {pos:Pos} {caps own:List Str} {ix:List Nat} {wi:TI} {g:TG} {te:TE} {tt:TT}
theorem pe_compIf (hc:X.calm=true) (S:CompScope X.env scope caps) (hi:PI X target iter wi)
 (hg : ∀ pins s3 H ex,PG (blk X pins scope (caps++own) s3 H ex) target g)
 (he : ∀ pins s3 H ex,PE (blk X pins scope (caps++own) s3 H ex) elt te)
 (ht : ∀ pins s3 H ex,PT (blk X pins scope (caps++own) s3 H ex) cnd tt)
 (hix:caps.length=ix.length:=by rfl) (hcapB:(caps.zip ix).all (fun p=>X.N[p.2]?==some p.1)=true:=by rfl)
  (hs : ∀ x,foldedSetIterable iter X.env x=pure x:=by intro _; rfl):PE X (.ListComp elt [⟨target,iter,[cnd],0⟩] scope pos) (tCompIf ix own.length wi g tt te):=by
  intro pins s σ H Q I h
  rw [eval_ListComp]
  refine comp_core (cs:=[cnd]) (tt:=tt) (Tst:=fun env P E s=>wpAny (model X.prog X.w) X.A (isTrue cnd env (eval cnd env)) P E s) (fun J turn n h=>codeAny_compLoop_if J turn n h) (use:=none) (Q0:=EP X pins σ Q) hc S hi hg he (fun pins s3 H ex pins' s σ H' Qb P E I q k=>wpAny_mono (ht pins s3 H ex pins' s σ H' Qb I q) (fun b s' z=>?_) fun _ _ z=>z.elim) hix hcapB hs I h (fun J H1 z=>z) fun D C s6 H6 m6 ns6 IX c1 c2 c3 c4 c5 c6 q=>⟨m6,ns6,fun h' sb=>⟨.ref D,H6,IX.turned (t':=s6.toks) (it:=C) (fun b o hb q=>sb.extBut b o hb q) c1 c2 c4 c5 c6,rfl,q⟩⟩
  obtain ⟨H'',I'',q''⟩:=z
  exact k b s' H'' I'' q''
def wCompIf (ix:List Nat) (k:Nat) (Wi:WF) (G:WG) (Wt:WT) (We:WE):WF:=fun env Q=>Wi env fun ds e0=>ds.length<sizeLine ∧ ∃ P:Nat→List PyData→Sto→Prop,P 0 [] (capE ix k e0) ∧
 (∀ i d ys e,ds[i]?=some d→P i ys e→G d e fun e1=>Wt e1 fun b e2=>if b=true then We e2 fun y e3=>P (i+1) (ys++[y]) e3 else P (i+1) ys e2) ∧ ∀ ys e,P ds.length ys e→Q ys e0
theorem vf_compIf {elt target iter cnd:Expr} {scope:Scope} {pos:Pos} {caps own:List Str} {ix:List Nat} {Wi:WF} {G:WG} {Wt:WT} {We:WE} (hc:X.calm=true) (S:CompScope X.env scope caps) (hi:VI X target iter Wi)
 (hg : ∀ pins s3 H ex,VG (blk X pins scope (caps++own) s3 H ex) target G) (ht : ∀ pins s3 H ex,VT (blk X pins scope (caps++own) s3 H ex) cnd Wt)
 (he : ∀ pins s3 H ex,VE (blk X pins scope (caps++own) s3 H ex) elt We)
 (hix:caps.length=ix.length:=by rfl) (hcapB:(caps.zip ix).all (fun p=>X.N[p.2]?==some p.1)=true:=by rfl)
  (hs : ∀ x,foldedSetIterable iter X.env x=pure x:=by intro _; rfl):VF X (.ListComp elt [⟨target,iter,[cnd],0⟩] scope pos) (wCompIf ix own.length Wi G Wt We) :=
  (pe_compIf (g:=liftG X.K G) (tt:=liftT X.K Wt) (te:=liftE X.K We) hc S hi hg he ht hix hcapB hs).imp fun σ H R xx160=>by
   obtain ⟨M,env,F,Q,I,h,k⟩:=xx160
   refine ⟨M,env,F,_,I,h,fun ds J F1 H1 e1 I1 s1 jt xx159=>?_⟩
   obtain ⟨hz,P,p0,turn,fin⟩:=xx159
   refine ⟨fun i m ys σ1 H'=>m=ds.length-i∧i≤ds.length ∧ ∃ e' F' l,EnvOk X.K ⟨H1,H1,F1⟩ F' H' e' σ1∧Iss X.K F' l ys∧ys.length≤i∧P i l e',⟨ds.length,by simp,Nat.zero_le _,capE ix own.length e1,F1,[],I1.cap ix own.length,iss_nil,Nat.le_refl _,p0⟩,?_⟩
   rintro i m ys σ1 H2 ⟨hm,hi,e2,F2,l,I2,i2,hl,p2⟩
   have g2:=I2.goOf
   by_cases he:i=ds.length
   ·subst he
    exact .inl ⟨jt.stop H2 (g2.f.trans g2.fh),by omega,new_lst (I1.go g2) (s1.trans g2.f) i2 (fin l e2 p2) k⟩
   ·have hlt:i<ds.length:=by omega
    refine .inr ⟨jt.go i H2 (g2.f.trans g2.fh) hlt,by omega,fun y σ' H' => ∃ e' F' l',EnvOk X.K ⟨H1,H1,F1⟩ F' H' e' σ'∧Iss X.K F' l' (ys++[y])∧P (i+1) l' e',fun σ' H' => ∃ e' F' l',EnvOk X.K ⟨H1,H1,F1⟩ F' H' e' σ'∧Iss X.K F' l' ys∧P (i+1) l' e',
     fun y σ' H' xx158=>by obtain ⟨e',F',l',I',i',p'⟩:=xx158; exact ⟨ds.length-(i+1),by omega,rfl,hlt,e',F',l',I',i',by simp; omega,p'⟩,fun σ' H' xx157=>by obtain ⟨e',F',l',I',i',p'⟩:=xx157; exact ⟨ds.length-(i+1),by omega,rfl,hlt,e',F',l',I',i',by omega,p'⟩,fun x H3 hy=>?_⟩
    obtain ⟨d,F3,hd,g,j⟩:=jt.yld i H2 x H3 F2 g2.f g2.fh hlt hy
    refine ⟨_,e2,F3,d,_,I2.go g,j,turn i d l e2 hd p2,fun F4 H4 e4 σ4 I4 s4 h4=>⟨_,e4,F4,_,I4,h4,fun b F5 H5 e5 I5 s5 h5=>?_⟩⟩
    cases b with
    | true =>
     rw [if_pos rfl] at h5
     refine ⟨_,e5,F5,_,I5,h5,fun d6 v6 F6 H6 e6 I6 s6 i6 h6=>?_⟩
     exact ⟨e6,F6,l++[d6],I6,iss_append (((i2.mono (g.f.trans s4)).mono s5).mono s6) (iss_cons i6 iss_nil),h6⟩
    | false =>
     rw [if_neg Bool.false_ne_true] at h5
     exact ⟨e5,F5,l,I5,(i2.mono (g.f.trans s4)).mono s5,h5⟩
end
end L2
namespace L2
open PySem PySem.Spec PyProof.Rows
def isIn (k:Int):Value→Bool
 | .int b _=>b==k
 | _=>false
theorem vals_in : ∀ {ns:List Int} {us:List Value},Vals (ns.map V.int) us → ∀ (i:Nat) (u:Value),us[i]?=some u → ∃ n t,ns[i]?=some n∧u = .int n t
 | [],_,.nil,i,u,h=>by simp at h
 | n::ns,_,.cons r q,0,u,h=>by
  obtain ⟨t,rfl⟩:=r
  simp at h
  exact ⟨n,t,rfl,h.symm⟩
 | n::ns,_,.cons r q,i+1,u,h=>by
  obtain ⟨m,t,a,b⟩:=vals_in q i u (by simpa using h)
  exact ⟨m,t,by simpa using a,b⟩
section
variable {X:Cx}
theorem mt_indexI:MtM X "list.index" (fun x vs H Q => ∃ (a:Addr) (ns:List Int) (k:Int) (j:Nat),x = .ref a∧vs=[.int k]∧SqL X.K H a (ns.map V.int)∧ns[j]?=some k∧(∀ m,m<j→ns[m]?≠some k)∧Q (.int (j:Nat)) H):=by
 intro pins s σ H x vs v us Q I rx rv h
 obtain ⟨a,ns,k,j,rfl,rfl,hs,hj,hno,q⟩:=h
 cases rx
 obtain ⟨u,rfl,ru⟩:=rv.one
 obtain ⟨tk,rfl⟩:=ru
 obtain ⟨its,r,⟨⟨cls,dd,data,sl⟩,n,e,hc,hd,hdt⟩,hz⟩:=I.list hs
 simp only at hc hd hdt
 subst hc hd hdt
 have hl:ns.length=its.length:=by have:=r.length; simpa using this
 have hjl:=(List.getElem?_eq_some_iff.mp hj).1
 have hjs:j<its.toArray.size:=by simp; omega
 refine call_meets F.slot_list_index ⟨_,e,rfl⟩ F.entry_list_index (F.args_list_index_2 _ _) (SeqAt.list_indexAt a its.toArray n none sl (.int k tk) (isIn k) j hjs ?_ ?_ ?_) ⟨e,fun y hy=>?_,?_⟩
 ·have hz':ns.length≤sizeLine:=by simpa using hz
  have:sizeLine<2^62:=by decide
  omega
 ·obtain ⟨m,t,a1,a2⟩:=vals_in r j its[j] (List.getElem?_eq_getElem _)
  rw [hj] at a1
  cases a1
  show isIn k its[j]=true
  rw [a2]; simp [isIn]
 ·intro m hm hmj
  have hml:m<its.length:=by simpa using hm
  obtain ⟨z,t,a1,a2⟩:=vals_in r m its[m] (List.getElem?_eq_getElem _)
  have h2:z≠k:=fun q=>hno m hmj (by rw [a1,q])
  show isIn k its[m]=false
  rw [a2]; simp [isIn,h2]
 ·have hy':y ∈ its:=by simpa using hy
  obtain ⟨i,hi,rfl⟩:=List.getElem_of_mem hy'
  obtain ⟨z,t,a1,a2⟩:=vals_in r i its[i] (List.getElem?_eq_getElem _)
  rw [a2]
  exact SeqAt.EqAt.int_int z t k tk
 ·exact ⟨.int (j:Nat),H,I.tok _,⟨_,rfl⟩,q⟩
end
theorem iss_ints' {K:PySem.W.Frag} {F:Hp} : ∀ {ns:List Int} {xs:List V},Iss K F (ns.map PyData.int) xs→xs=ns.map V.int
 | [],_,h=>h.nil_inv
 | b::bs,_,h=>by obtain ⟨y,ys,rfl,p,q⟩:=h.cons_inv; rw [p.int_inv,iss_ints' q]; rfl
section
variable {X:Cx} {e:Expr} {We:WE} {pos:Pos}
def wMeth (i:Nat) (f:PyData→PyData→(PyData→Prop)→Prop) (W:WE):WE:=fun env Q => ∃ l,gS env i = .val (.list l)∧W env fun d e=>f (.list l) d fun r=>Q r e
def dIndexI:PyData→PyData→(PyData→Prop)→Prop:=fun l d q => ∃ (ns:List Int) (k:Int) (j:Nat),l = .list (ns.map .int)∧d = .int k∧ns[j]?=some k∧(∀ m,m<j→ns[m]?≠some k)∧q (.int (j:Nat))
variable {x:Str} {px apos cpos:Pos}
theorem ve_indexI (i:Nat) (he:VE X e We) (hN:X.N[i]?=some x:=by rfl) (hv:Vis X.env.scope x:=by first|exact Or.inl rfl|exact Or.inr (Or.inl rfl)|exact Or.inr (Or.inr rfl)) (hd:(x==("__debug__" : Str))=false:=by decide)
 (hcd:(x==("__classdict__" : Str))=false:=by decide) (hbase:attributeBase (.Name x px) "index" X.env (eval (.Name x px) X.env)=eval (.Name x px) X.env:=by rfl)
 (hfew:((backTo cpos (starEach [e] X.env)).all (fun x => !x.1)&&(backToKw cpos (keywordEach [] X.env)).all (fun x=>x.1.isSome)&&decide ([e].length+([]:List Keyword).length+(if ([]:List Keyword).isEmpty then 0 else 1)<30))=true:=by rfl)
 (hline:(apos.endLine==cpos.line)=true:=by rfl) (hst:starEach [e] X.env=(false,eval e X.env)::starEach [] X.env:=by rfl) (hplain:(backTo cpos (starEach [] X.env)).any (·.1)=false:=by rfl) :
 VE X (.Call (.Attribute (.Name x px) "index" apos) [e] [] cpos) (wMeth i dIndexI We) :=
 (pe_bm PySem.F.plainAttrs_list PySem.F.slot_list_index PySem.F.type_list_index mt_indexI (pe_var hN hv hd hcd) (pa_cons he pa_nil hst) hbase hfew hline hst hplain).imp fun σ H R xx161=>by
  obtain ⟨M,env,F,Q,I,⟨l,hm,h⟩,k⟩:=xx161
  have S:=I.slot i
  rw [hm] at S
  obtain ⟨v,ev,jv⟩:=S
  obtain ⟨a,xs,rfl,hs,hr⟩:=jv.lst_inv
  refine ⟨_,vS_some ev,.inl ⟨rfl,xs,I.fh.seq hs⟩,M,env,F,_,I,h,fun d v F1 H1 e1 I1 s1 i1 h1=>?_⟩
  obtain ⟨bs,kb,j,el,rfl,hj,hno,q⟩:=h1
  cases el
  have ex:=iss_ints' hr
  subst ex
  exact ⟨a,bs,kb,j,rfl,by rw [i1.int_inv],(s1.trans I1.fh).seq hs,hj,hno,k _ _ F1 H1 e1 I1 s1 (is_int _) q⟩
end
end L2
namespace L2
open PySem PySem.Spec PyProof.Rows
theorem tup_is {h:Heap} {a:Addr} {us:Array Value} (p:IsTup h a us):h.IsTuple a us:=p
section
variable {prog:Program} {w:World} {A:Around} {E:Value→Shared→Prop} {s:Shared}
theorem ten_item {e j l:Addr} {k:Nat} {us:Array Value} {u old:Value} {Q:Value→Shared→Prop} (a0:IsEnum s.heap e j k old) (a1:s.heap.IsTupleIter j l k) (g1:s.heap.IsTuple l us) (hu:us[k]?=some u) (hne:e≠j)
 (q : ∀ h',IsEnumOut h' e j ((k:Int)+1) u s.heap.objs.size→h'.IsTupleIter j l (k+1)→h'.get? s.heap.objs.size=some { cls :=.type "tuple",data :=.seq #[.int k s.toks,u] }→h'.objs.size=s.heap.objs.size+1 →
  (∀ b o,b≠e→b≠j→s.heap.get? b=some o→h'.get? b=some o)→Q (.ref s.heap.objs.size) { s with heap:=h',toks:=s.toks+1 }) :
  wpAny (model prog w) A (Builtin.«enumerate.__next__» ⟨[.ref e],[]⟩) (fun r s' => ∃ v,r = .done (.ret v)∧Q v s') E s:=by
  obtain ⟨p0,g,d,t0,os⟩:=s
  show wpAny _ _ (field (.ref e) 2 >>= _) _ _ _
  refine wpAny_bind (wpAny_field a0 rfl (x :=.ref j) rfl ?_)
  refine wpAny_bind (tnx_item a1 g1 hu fun p1 b1 m1=>?_)
  replace m1:Heap.SameBut j p0 p1:=m1
  have c1:IsEnum p1 e j k old:=(m1.2 e hne).trans a0
  show wpAny _ _ (field (.ref e) 3 >>= _) _ _ ⟨p1,g,d,t0,os⟩
  refine wpAny_bind (wpAny_field c1 rfl (x:=rawInt k) rfl ?_)
  show wpAny _ _ (field (.ref e) 4 >>= _) _ _ ⟨p1,g,d,t0,os⟩
  refine wpAny_bind (wpAny_field c1 rfl (x :=.none) rfl ?_)
  show wpAny _ _ (mkInt k >>= _) _ _ ⟨p1,g,d,t0,os⟩
  refine wpAny_bind (wpAny_mkInt (?_:_))
  show wpAny _ _ (setField (.ref e) 3 (rawInt ((k:Int)+1)) >>= _) _ _ ⟨p1,g,d,t0+1,os⟩
  refine wpAny_bind (wpAny_setField_rec c1 (by simp) fun p2 c2 m2=>?_)
  replace m2:Heap.SameBut e p1 p2:=m2
  replace c2:IsEnum p2 e j ((k:Int)+1) old:=c2
  show wpAny _ _ (setField (.ref e) 4 .none >>= _) _ _ ⟨p2,g,d,t0+1,os⟩
  refine wpAny_bind (wpAny_setField_rec c2 (by simp) fun p3 c3 m3=>?_)
  replace m3:Heap.SameBut e p2 p3:=m3
  replace c3:IsEnum p3 e j ((k:Int)+1) old:=c3
  show wpAny _ _ (newTuple [.int k t0,u] >>= _) _ _ ⟨p3,g,d,t0+1,os⟩
  refine wpAny_bind (wpAny_newTuple (?_:_))
  have c4:IsEnum (p3.push { cls :=.type "tuple",data :=.seq #[.int k t0,u] }) e j ((k:Int)+1) old:=Heap.get?_push_of_some _ c3
  generalize hp4:p3.push { cls :=.type "tuple",data :=.seq #[.int k t0,u] }=p4 at c4
  have z3:p3.objs.size=p0.objs.size:=by rw [m3.1,m2.1,m1.1]
  have elt:e<p0.objs.size:=Heap.lt_size a0
  have t4:p4.get? p0.objs.size=some { cls :=.type "tuple",data :=.seq #[.int k t0,u] }:=by rw [← hp4,← z3]; exact Heap.get?_push_size _ rfl
  have z4:p4.objs.size=p0.objs.size+1:=by rw [← hp4,Heap.size_push,z3]
  have k4 : ∀ b o,b≠e→b≠j→p0.get? b=some o→p4.get? b=some o:=fun b o n1 n2 h=>by
   rw [← hp4]; exact Heap.get?_push_of_some _ (m3.extBut b o n1 (m2.extBut b o n1 (m1.extBut b o n2 h)))
  have b4:p4.IsTupleIter j l (k+1):=by
   rw [← hp4]; obtain ⟨o,ho,r⟩:=(b1.extBut m2.extBut (Ne.symm hne)).extBut m3.extBut (Ne.symm hne); exact ⟨o,Heap.get?_push_of_some _ ho,r⟩
  show wpAny _ _ (Builtin.SmallTypes.ownedTupleIsFree (.ref e) >>= _) _ _ ⟨p4,g,d,t0+1,os⟩
  rw [z3]
  clear hp4 c3 m3 c2 m2 c1 m1 b1 z3 p3 p2 p1
  refine wpAny_bind (?_:wpAny _ _ (Builtin.SmallTypes.ownedTupleIsFree (.ref e)) _ _ _)
  unfold Builtin.SmallTypes.ownedTupleIsFree
  refine wpAny_bind (wpAny_field c4 rfl (x :=.none) rfl (wpAny_pure ?_))
  simp only [if_true]
  refine wpAny_bind (wpAny_rule (?_:_))
  refine wpAny_bind (wpAny_field c4 rfl (x:=old) rfl ?_)
  refine wpAny_bind (wpAny_setField_rec c4 (by simp) fun p5 c5 m5=>?_)
  replace m5:Heap.SameBut e p4 p5:=m5
  replace c5:IsEnum p5 e j ((k:Int)+1) u:=c5
  show wpAny _ _ (Builtin.SmallTypes.ownedTupleHandOut (.ref e) (.ref p0.objs.size) >>= _) _ _ ⟨p5,g,d,t0+1,os⟩
  refine wpAny_bind (?_:wpAny _ _ (Builtin.SmallTypes.ownedTupleHandOut (.ref e) (.ref p0.objs.size)) _ _ _)
  unfold Builtin.SmallTypes.ownedTupleHandOut
  refine wpAny_bind (wpAny_setField_rec c5 (by simp) fun p6 c6 m6=>?_)
  replace m6:Heap.SameBut e p5 p6:=m6
  replace c6:IsEnumOut p6 e j ((k:Int)+1) u p0.objs.size:=c6
  refine wpAny_setField_rec c6 (by simp) fun p7 c7 m7=>?_
  replace m7:Heap.SameBut e p6 p7:=m7
  replace c7:IsEnumOut p7 e j ((k:Int)+1) u p0.objs.size:=c7
  refine wpAny_bind (wpAny_letGo (wpAny_pure ⟨_,rfl,q p7 c7 ?_ ?_ ?_ ?_⟩))
  ·exact ((b4.extBut m5.extBut (Ne.symm hne)).extBut m6.extBut (Ne.symm hne)).extBut m7.extBut (Ne.symm hne)
  ·exact m7.extBut _ _ (Nat.ne_of_gt elt) (m6.extBut _ _ (Nat.ne_of_gt elt) (m5.extBut _ _ (Nat.ne_of_gt elt) t4))
  ·rw [m7.1,m6.1,m5.1,z4]
  ·exact fun b o n1 n2 h=>m7.extBut b o n1 (m6.extBut b o n1 (m5.extBut b o n1 (k4 b o n1 n2 h)))
theorem tenm_item {e j l:Addr} {k:Nat} {us:Array Value} {x old:Value} {Q:Option Value→Shared→Prop} (a0:IsEnum s.heap e j k old) (a1:s.heap.IsTupleIter j l k) (g1:s.heap.IsTuple l us) (hu:us[k]?=some x) (hne:e≠j)
 (q : ∀ h',IsEnumOut h' e j ((k:Int)+1) x s.heap.objs.size→h'.IsTupleIter j l (k+1)→h'.get? s.heap.objs.size=some { cls :=.type "tuple",data :=.seq #[.int k s.toks,x] }→h'.objs.size=s.heap.objs.size+1 →
  (∀ b o,b≠e→b≠j→s.heap.get? b=some o→h'.get? b=some o)→Q (some (.ref s.heap.objs.size)) { s with heap:=h',toks:=s.toks+1 }):wpAny (model prog w) A (pyNext (.ref e)) Q E s:=by
  have ty:s.TypeIs (.ref e) "enumerate":=⟨_,a0,rfl⟩
  unfold pyNext
  exact wpAny_bind (wpAny_attempt (wpAny_callSpecial?_slot (name:=Str.ofString "__next__") ty F.slot_enumerate_next (wpAny_call_entry F.slot_enumerate_next ty F.entry_enumerate_next
   (ten_item a0 a1 g1 hu hne fun h' r1 r2 r3 r4 r5=>wpAny_pure (q h' r1 r2 r3 r4 r5)) (F.args_enumerate_next_1 _))))
theorem tenm_end {e j l:Addr} {k:Nat} {us:Array Value} {old:Value} {Q:Option Value→Shared→Prop} (hh:A.handled=none) (a0:IsEnum s.heap e j k old) (a1:s.heap.IsTupleIter j l k) (g1:s.heap.IsTuple l us) (hu:us[k]?=none)
 (q : ∀ h',Heap.ExtBut j s.heap h'→Q none { s with heap:=h' }):wpAny (model prog w) A (pyNext (.ref e)) Q E s:=by
  have ty:s.TypeIs (.ref e) "enumerate":=⟨_,a0,rfl⟩
  unfold pyNext
  refine wpAny_bind (wpAny_attempt (wpAny_callSpecial?_slot (name:=Str.ofString "__next__") ty F.slot_enumerate_next (wpAny_call_entry F.slot_enumerate_next ty F.entry_enumerate_next (?_:_) (F.args_enumerate_next_1 _))))
  show wpAny _ _ (field (.ref e) 2 >>= _) _ _ _
  refine wpAny_bind (wpAny_field a0 rfl (x :=.ref j) rfl ?_)
  refine wpAny_bind (tnx_end hh a1 g1 hu fun h' x m hx=>?_)
  obtain ⟨o,ho,hc⟩:=hx
  exact wpAny_bind (wpAny_isInstance (T := "StopIteration") (b:=true) ⟨o,ho,hc⟩ isSubtype_stop (wpAny_pure (q _ m)))
theorem tenm_new (l:Addr) (us:Array Value):Meets (Builtin.«enumerate.__new__» ⟨[.type "enumerate",.ref l],[]⟩) (fun _ R s=>s.heap.IsTuple l us ∧
 R (.ok (.ret (.ref (s.heap.push (itO true l)).objs.size))) { s with heap:=(s.heap.push (itO true l)).push { cls :=.type "enumerate",data :=.fields #[.none,.bool false,.ref s.heap.objs.size,rawInt 0,.none,.none] } }) :=
  .of_wp fun prog w A R s h=>by
   obtain ⟨p0,g,d,tk,os⟩:=s
   obtain ⟨hl,h⟩:=h
   obtain ⟨ob,o1,o2,n,o3⟩:=id hl
   have hsub:=sub_enumerate
   have y1:Heap.IsTuple (Shared.heap ⟨p0,g,d,tk,os⟩) l us:=hl
   wp_walk using AutoSeq1.wpAny_loadPart' o1
   refine wpAny_stack_any fun st=>wpAny_pure ?_
   split
   ·rename_i c _ _ _ _ _
    cases (c==Value.type "enumerate")
    ·wp_walk using AutoSeq1.wpAny_loadPart' o1,wpAny_pyIter_tuple y1
     exact ⟨_,rfl,h⟩
    ·wp_walk using AutoSeq1.wpAny_loadPart' o1,wpAny_pyIter_tuple y1
     exact ⟨_,rfl,h⟩
   ·wp_walk using AutoSeq1.wpAny_loadPart' o1,wpAny_pyIter_tuple y1
    exact ⟨_,rfl,h⟩
theorem tenm_call {l:Addr} {us:Array Value} {Q:Value→Shared→Prop} (hL:s.heap.IsTuple l us)
 (h : ∀ h',IsEnum h' (s.heap.objs.size+1) s.heap.objs.size 0 .none→h'.IsTupleIter s.heap.objs.size l 0→h'.objs.size=s.heap.objs.size+2→(∀ b o,s.heap.get? b=some o→h'.get? b=some o)→Q (.ref (s.heap.objs.size+1)) { s with heap:=h' }) :
  wpAny (model prog w) A (call (.type "enumerate") [.ref l]) Q E s:=by
  refine callType_new F.called_enumerate (by decide) (F.typeCall_enumerate_1 _) (F.newCall_enumerate_1 _) (fun ob=>F.args_object_init_2 ob _) F.entry_enumerate_new (tenm_new l us) ⟨hL,?_⟩
  have hz:(s.heap.push (itO true l)).objs.size=s.heap.objs.size+1:=Heap.size_push ..
  have g2:((s.heap.push (itO true l)).push { cls :=.type "enumerate",data :=.fields #[.none,.bool false,.ref s.heap.objs.size,rawInt 0,.none,.none] }).get? (s.heap.push (itO true l)).objs.size=some _:=Heap.get?_push_size _ rfl
  have g1:((s.heap.push (itO true l)).push { cls :=.type "enumerate",data :=.fields #[.none,.bool false,.ref s.heap.objs.size,rawInt 0,.none,.none] }).get? s.heap.objs.size=some (itO true l):=Heap.get?_push_of_some _ (Heap.get?_push_size _ rfl)
  show _∧_
  rw [hz] at g2 ⊢
  exact ⟨⟨_,g2,rfl⟩,h _ g2 ⟨_,g1,rfl,rfl⟩ (by rw [Heap.size_push,hz]) fun b o x=>Heap.get?_push_of_some _ (Heap.get?_push_of_some _ x)⟩
end
def IteT (K:PySem.W.Frag) (a:Addr):It :=
 ⟨fun i H => ∃ xs x,SqT K H a xs∧xs[i]?=some x,fun i H v H' => ∃ p x,(∀ xs,SqT K H a xs→xs[i]?=some x)∧H p=none∧v = .ref p∧H'=upd H p (.tup [.int i,x]),fun i H => ∃ xs,SqT K H a xs∧xs.length≤i⟩
theorem turn_enumT {P:Program} {w:World} {K:PySem.W.Frag} {elts:List Expr} {x1:Nat} {tpos:Pos} (a e it:Addr) (hne:e≠it) :
 Turn P w K (.Tuple elts x1 tpos) (IteT K a) [e,it] e (fun i h=>(∃ old,IsEnum h e it (i:Nat) old)∧h.IsTupleIter it a i) where
  mem:=by simp
  obj:=fun i h st b hb=>by
   obtain ⟨⟨old,s1⟩,s2⟩:=st
   have hb':b=e∨b=it:=by simpa using hb
   rcases hb' with rfl|rfl
   ·exact ⟨_,s1,fun v z=>by have z':Data.fields _=Data.cell v:=z; cases z'⟩
   ·obtain ⟨o,q,c,d⟩:=s2
    exact ⟨o,q,fun v z=>by rw [d] at z; cases z⟩
  keep:=fun i h h' st k=>by
   obtain ⟨⟨old,s1⟩,s2⟩:=st
   exact ⟨⟨old,k e (by simp) _ s1⟩,s2.at fun o q=>k it (by simp) o q⟩
  item:=by
   intro X hP hw hK hc i pins s σ H E I hf st hg
   subst hP hw hK
   obtain ⟨xs,x,hq,hx⟩:=hg
   obtain ⟨its,rv,p,hz⟩:=I.tuple hq
   obtain ⟨u,hu,ru⟩:=rv.get hx
   obtain ⟨⟨old,s1⟩,s2⟩:=st
   obtain ⟨f0,f1,f2,f3,f4,f5⟩:=hf e (by simp)
   obtain ⟨g0,g1,g2,g3,g4,g5⟩:=hf it (by simp)
   have hel:e<s.heap.objs.size:=Heap.lt_size s1
   refine tenm_item s1 s2 (tup_is p) (x:=u) (by simpa using hu) hne fun h₁ ho hi ht hz₁ hk=>⟨_,rfl,?_⟩
   refine wpAny_letOwnedTupleGo_enum (s:={ s with heap:=h₁,toks:=s.toks+1 }) ho fun h₂ he₂ hs₂=>?_
   replace hs₂:Heap.SameBut e h₁ h₂:=hs₂
   have fresh:H s.heap.objs.size=none:=I.hok.fresh (Nat.le_refl _)
   have kk : ∀ b o,b≠e→b≠it→s.heap.get? b=some o→h₂.get? b=some o:=fun b o b1 b2 q=>hs₂.extBut b o b1 (hk b o b1 b2 q)
   have nb : ∀ b v,H b=some v→b≠e∧b≠it:=fun b v q=>⟨fun z=>(by rw [z,f0] at q; cases q),fun z=>(by rw [z,g0] at q; cases q)⟩
   have ht₂:h₂.get? s.heap.objs.size=some { cls :=.type "tuple",data :=.seq #[.int i s.toks,u] }:=(hs₂.2 _ (Nat.ne_of_gt hel)).trans ht
   have I1:Inv X pins σ (upd H s.heap.objs.size (.tup [.int i,x])) { s with heap:=h₂,toks:=s.toks+1 }:=by
    refine I.step (g':=s.gens) (d':=s.drawn) (ch:=[e,it]) (fun b hb=>?_) (fun b o _ _ hc q _=>kk b o (fun z=>hc (by simp [z])) (fun z=>hc (by simp [z])) q)
     (fun b o _ _ hc q _=>⟨o.slots,kk b o (fun z=>hc (by simp [z])) (fun z=>hc (by simp [z])) q⟩) (fun b o _ q n=>by rw [upd_ne (Nat.ne_of_lt (Heap.lt_size q))]; exact n)
     (fun b o hc q=>⟨o,kk b o (fun z=>hc (by simp [z])) (fun z=>hc (by simp [z])) q⟩) (fun b ys q=>by rw [upd_ne (ne_of_none q fresh)]; exact q) (fun b o v q=>by rw [upd_ne (ne_of_none q fresh)]; exact q)
     (fun b ps q=>⟨#[],by rw [upd_ne (ne_of_none q fresh),q]; simp⟩) (fun m hm=>?_) (fun b v q=>?_) I.bare
    ·have hb':b=e∨b=it:=by simpa using hb
     rcases hb' with rfl|rfl
     ·exact ⟨f3,f1,f4,f5⟩
     ·exact ⟨g3,g1,g4,g5⟩
    ·obtain ⟨o,es,ep,ho',r⟩:=hm
     exact ⟨o,es,ep,kk _ o (Ne.symm f1) (Ne.symm g1) ho',r⟩
    ·by_cases hb:b=s.heap.objs.size
     ·subst hb
      rw [upd_same] at q
      cases q
      exact ⟨(by show 2≤sizeLine; decide),[.int i s.toks,u],.cons ⟨s.toks,rfl⟩ (.cons ru .nil),⟨_,ht₂,rfl,_,rfl⟩⟩
     ·rw [upd_ne hb] at q
      refine (I.hok b v q).stay (fun c ob hc z=>?_) (fun c z=>by rw [upd_ne (ne_of_none z fresh)]; exact z) fun c ys z=>by rw [upd_ne (ne_of_none z fresh)]; exact z
      rcases hc with hc|hc
      ·subst hc; exact kk _ _ (nb _ _ q).1 (nb _ _ q).2 z
      ·exact kk _ _ (nb _ _ hc).1 (nb _ _ hc).2 z
   refine ⟨.ref s.heap.objs.size,_,I1,rfl,⟨s.heap.objs.size,x,fun ys hy=>by rw [I.tuple_inj hy hq]; exact hx,fresh,rfl,rfl⟩,⟨⟨u,?_⟩,?_⟩,fun b hb=>?_⟩
   ·have e1:((i+1:Nat):Int)=(i:Int)+1:=by push_cast; rfl
    rw [e1]; exact he₂
   ·exact hi.extBut hs₂.extBut (Ne.symm hne)
   ·have hb':b=e∨b=it:=by simpa using hb
    have hlt:b<s.heap.objs.size:=by
     rcases hb' with rfl|rfl
     ·exact hel
     ·obtain ⟨o,q,_⟩:=s2; exact Heap.lt_size q
    rw [upd_ne (Nat.ne_of_lt hlt)]
    exact (hf b hb).1
  done:=by
   intro X hP hw hK hc i pins s σ H E I hf st hg
   subst hP hw hK
   obtain ⟨xs,hq,hx⟩:=hg
   obtain ⟨its,rv,p,hz⟩:=I.tuple hq
   obtain ⟨⟨old,s1⟩,s2⟩:=st
   obtain ⟨g0,g1,g2,g3,g4,g5⟩:=hf it (by simp)
   have hl:=rv.length
   exact tenm_end (I.ok.hd hc) s1 s2 (tup_is p) (by simp; omega) fun h' eb=>⟨rfl,I.turned (t':=s.toks) (fun b o hb q=>eb b o hb q) g0 g1 g3 g4 g5⟩
  self:=fun A i s Q E st h=>by
   obtain ⟨⟨old,s1⟩,s2⟩:=st
   exact wpAny_pyIter_enum s1 h
section
variable {X:Cx} {elts:List Expr} {x1:Nat} {tpos:Pos}
def iEnumT (K:PySem.W.Frag) (ta:TA):TI:=fun σ H R=>ta σ H fun vs H1 => ∃ a,vs=[.ref a]∧(∃ xs,SqT K H1 a xs)∧R (IteT K a) H1
theorem pi_enumT {a:Expr} {ta:TA} {p pos:Pos} (hg:Gl X "enumerate") (hm:X.mg "enumerate" = none) (ha:PA X [a] ta) (hs:starEach [a] X.env=[(false,eval a X.env)]:=by rfl) :
 PI X (.Tuple elts x1 tpos) (.Call (.Name "enumerate" p) [a] [] pos) (iEnumT X.K ta):=by
 intro pins s σ H R I h
 refine Call_ (ld_blt I hg hm boot_enumerate (PyProof.Rows.callWith_type1 (thn (ha pos pins s σ H _ I h) fun us s1 xx162=>?_) hs rfl))
 obtain ⟨vs,H1,I1,r1,q1⟩:=xx162
 obtain ⟨l,e,⟨xs,hq⟩,q⟩:=q1
 subst e
 cases r1 with
 | cons r rr =>
  cases rr
  cases r
  obtain ⟨its,rv,pl,hz⟩:=I1.tuple hq
  refine tenm_call (tup_is pl) fun h' he hi hz' hk=>?_
  refine wpAny_pyIter_enum he ?_
  have I2:Inv X pins σ H1 { s1 with heap:=h' }:=I1.kept (t':=s1.toks) hk
  refine ⟨s1.heap.objs.size+1,[s1.heap.objs.size+1,s1.heap.objs.size],_,_,H1,rfl,I2,turn_enumT l _ _ (Nat.succ_ne_self _),⟨⟨_,he⟩,hi⟩,fun b hb=>?_,q⟩
  have hb':b=s1.heap.objs.size+1∨b=s1.heap.objs.size:=by simpa using hb
  have hle:s1.heap.objs.size≤b:=by
   rcases hb' with rfl|rfl
   ·exact Nat.le_succ _
   ·exact Nat.le_refl _
  exact I1.fpOk hle (I1.hok.fresh hle)
end
theorem itd_enumT {K:PySem.W.Frag} {F:Hp} {a:Addr} {xs:List V} {l:List PyData} (hs:SqT K F a xs) (hr:Iss K F l xs):ItD K (IteT K a) F (enumD l) where
 go:=fun i H s hi=>by rw [enumD_len] at hi; exact ⟨xs,xs[i]'(by rw [hr.len]; exact hi),same_seqT s hs,List.getElem?_eq_getElem _⟩
 stop:=fun H s=>by rw [enumD_len]; exact ⟨xs,same_seqT s hs,by rw [hr.len]; exact Nat.le_refl _⟩
 yld:=fun i H x H' F1 s1 s2 hi hy=>by
  obtain ⟨p,y,hy,hp,rfl,rfl⟩:=hy
  obtain ⟨d,e1,e2⟩:=hr.get' (hy xs (same_seqT (s1.trans s2) hs))
  have g:=Go.put (o:=HO.tup [.int i,y]) s2 hp
  exact ⟨_,_,enumD_get e1,g,is_tup (SqT.of upd_same) (iss_cons (is_int _) (iss_cons ((e2.mono s1).mono g.f) iss_nil))⟩
section
variable {X:Cx} {a:Expr} {W:WE} {p pos:Pos}
def wiEnT (W:WE):WF:=fun env Q=>W env fun d e=>match d with
 | .tuple l=>Q (enumD l) e
 | _=>False
theorem vi_enumT {elts:List Expr} {x1:Nat} {tpos:Pos} (hm:X.mg "enumerate" = none) (ha:VE X a W) (hg:Gl X "enumerate":=by rfl) (hs:starEach [a] X.env=[(false,eval a X.env)]:=by rfl) (hs':starEach [a] X.env=(false,eval a X.env)::starEach [] X.env:=by rfl) :
 VI X (.Tuple elts x1 tpos) (.Call (.Name "enumerate" p) [a] [] pos) (wiEnT W) :=
 (pi_enumT hg hm (pa_cons ha pa_nil hs') hs).imp fun σ H R xx163=>by
  obtain ⟨M,env,F,Q,I,h,k⟩:=xx163
  refine ⟨M,env,F,_,I,h,fun d v F1 H1 e1 I1 s1 i1 h1=>?_⟩
  cases d with
  | tuple l =>
   obtain ⟨b,xs,rfl,hs,hr⟩:=i1.tup_inv
   exact ⟨b,rfl,⟨xs,same_seqT I1.fh hs⟩,k _ _ F1 H1 e1 I1 s1 (itd_enumT hs hr) h1⟩
  | _=>exact False.elim h1
variable {e1 e2:Expr} {W1 W2:WE}
def wPar (i j:Nat) (Wr:WF):WS:=fun D env=>Wr env fun ds e=>match ds with
 | [d,d']=>D.nx ((e.set i (.val d)).set j (.val d'))
 | _=>False
theorem vs_par {i j:Nat} {x y:Str} {a b:Expr} {Wr:WF} {px py pt pos:Pos} {kt k2 pt2} (hc:X.calm=true) (hN:X.N.Nodup) (ha:VA X [a,b] Wr) (hi:X.N[i]?=some x:=by rfl) (hj:X.N[j]?=some y:=by rfl) (hij:i≠j:=by decide)
 (hx:X.env.scope.names.lookup x=some .local:=by rfl) (hy:X.env.scope.names.lookup y=some .local:=by rfl)
 (hw:swappedStores [.Tuple [.Name x px,.Name y py] kt pt] (.Tuple [a,b] k2 pt2) X.env=pure (some [x,y]):=by rfl)
 (hs:swapsWithSole [.Tuple [.Name x px,.Name y py] kt pt] (.Tuple [a,b] k2 pt2) pos.line X.env=pure false:=by rfl) :
 VS X (.Assign [.Tuple [.Name x px,.Name y py] kt pt] (.Tuple [a,b] k2 pt2) pos) (wPar i j Wr) :=
 (ps_par hc hN hi hj hij hx hy ha hw hs).imp fun D σ H xx164=>by
  obtain ⟨M,env,F,DD,I,h,k⟩:=xx164
  refine ⟨M,env,F,_,I,h,fun ds vs F1 H1 e1 I1 s1 i1 h1=>?_⟩
  cases ds with
  | nil=>exact h1.elim
  | cons d r=>cases r with
   | nil=>exact h1.elim
   | cons d' r=>cases r with
    | cons _ _=>exact h1.elim
    | nil =>
     obtain ⟨v,w',rfl,j1,j2⟩:=iss2 i1
     exact ⟨v,w',rfl,k.nx _ F1 H1 _ ((I1.setv j1).setv j2) s1 h1⟩
end
end L2
namespace L2
open PySem PySem.Spec PyProof.Rows
section
variable {X:Cx}
theorem call_maxL (hc:X.calm=true):CallR X (.builtin "max") (fun xs H Q => ∃ (a:Addr) (ns:List Int),xs=[.ref a]∧SqL X.K H a (ns.map V.int)∧ns≠[] ∧ ∀ M,M ∈ ns→(∀ x ∈ ns,x≤M)→Q (.int M) H):=by
 intro pins s σ H xs us Q I r h
 obtain ⟨a,ns,rfl,ha,hn,q⟩:=h
 obtain ⟨u,rfl,rx⟩:=vals1 r
 cases rx
 obtain ⟨its,rv,pl,_⟩:=I.list ha
 have ii:IntsAre its ns:=intsAre_of rv
 obtain ⟨ys,ey⟩:=ii.allInts.items
 have en:ns=ys.toList.map (·.1):=by rw [← ii.numsOf,← nums_intItems,← ey]
 have ys0:0<ys.size:=by
  have z:=List.length_pos_iff.mpr hn
  rw [en,List.length_map,Array.length_toList] at z
  exact z
 have hl:=pl.isList
 rw [ey] at hl
 refine max_intList (I.ok.hd hc) hl ys0 fun v h' tk hv hk=>?_
 obtain ⟨t,rfl⟩:=intItems_at hv
 obtain ⟨_,h2⟩:=argBest_gt (numAt ys) (ys.size-1)
 refine ⟨.int _,H,I.kept (t':=tk) hk,⟨t,rfl⟩,q _ ?_ fun x hx=>?_⟩
 ·rw [en,numAt_eq]; exact getD_mem (by rw [List.length_map,Array.length_toList]; omega)
 ·rw [en] at hx
  obtain ⟨j,hj,rfl⟩:=mem_getD hx
  rw [List.length_map,Array.length_toList] at hj
  rw [← numAt_eq]
  exact h2 j (by omega)
def dMaxL:DC
 | [.list l],q => ∃ ns:List Int,l=ns.map .int∧ns≠[] ∧ ∀ M,M ∈ ns→(∀ x ∈ ns,x≤M)→q (.int M)
 | _,_=>False
theorem c_maxL (hc:X.calm=true):CallV X (.builtin "max") dMaxL:=(call_maxL hc).imp fun xs H Q xx165=>by
 obtain ⟨F,ds,q,s,i,h,k⟩:=xx165
 match ds,h,i with
 | [.list l],⟨ns,e,hn,hq⟩,i =>
  subst e
  obtain ⟨v,rfl,j⟩:=iss1 i
  obtain ⟨a,xs,rfl,hs,hr⟩:=j.lst_inv
  have ex:=iss_ints' hr
  subst ex
  exact ⟨a,ns,rfl,s.seq hs,hn,fun M h1 h2=>k _ _ F H (.refl s) (is_int _) (hq M h1 h2)⟩
end
end L2
namespace L2
open PySem PySem.Spec PyProof.Rows
section
variable {X:Cx}
end
end L2
namespace L2
open PySem PySem.Spec PyProof.Rows
section
variable {X:Cx}
end
section
variable {P:Program} {w:World} {K:PySem.W.Frag} {mg:Str→Option Value} {base:Heap}
end
end L2
namespace L2
open PySem PySem.Spec PyProof.Rows
section
variable {X:Cx} {elt target iter cnd:Expr} {scope:Scope} {pos:Pos} {caps own:List Str} {ix:List Nat} {wi:TI} {g:TG} {te:TE} {tt:TT}
end
section
variable {K:PySem.W.Frag} {ix:List Nat} {n:Nat} {Wi:WF} {G:WG} {Wt:WT} {We:WE} {σ:St} {H:Hp} {R:VK}
end
section
variable {X:Cx} {elt target iter cnd:Expr} {scope:Scope} {pos py spos:Pos} {caps own:List Str} {ix:List Nat} {Wi:WF} {G:WG} {Wt:WT} {We:WE} {i:Nat} {y:Str}
end
end L2
namespace L2
open PySem PySem.Spec PyProof.Rows
section
variable {κ:Type} [DecidableEq κ]
end
section
variable {P:Program} {w:World} {H:Hp} {h:Heap} {a:Addr}
end
section
variable {X:Cx} {pins:List (Addr×Obj)} {σ:St} {H:Hp} {s:Shared} {a:Addr} {y v:V} {u r:Value} {o:Option V} {A:Around} {E:Value→Shared→Prop}
end
section
variable {X:Cx} {pins:List (Addr×Obj)} {σ:St} {H:Hp} {s:Shared} {a:Addr} {kvs:List (Key×V)} {k:Key} {u:Value} {A:Around} {E:Value→Shared→Prop}
end
section
variable {X:Cx} {o i e value:Expr} {pos pos' tpos:Pos} {td ty tv:TE}
end
section
variable {X:Cx} {pos:Pos}
end
end L2
namespace L2
open PySem PySem.Spec PyProof.Rows
section
variable {X:Cx}
end
end L2
namespace L2
open PySem PySem.Spec PyProof.Rows
abbrev DO:=List Str→List (Str×PyData)→List PyData→(PyData→Prop)→Prop
abbrev DOF:=List Str→List (Str×PyData)→List PyData→(List PyData→Prop)→Prop
def Flds (K:PySem.W.Frag) (F:Hp) (us:List (Str×V)) (nm:List Str) (fs:List (Str×PyData)):Prop:=us.map (·.1)=nm ∧ ∀ f d,(f,d) ∈ fs → ∃ v,us.lookup f=some v∧Is K F d v
def OSp (K:PySem.W.Frag) (C:Addr) (sp:DO):Sp:=fun vs H Q _ => ∃ a dx us rest F nm fs ds q,vs = .ref a::rest∧H a=some (.ins C dx us)∧Same F H∧Flds K F us nm fs∧Iss K F ds rest∧sp nm fs ds q ∧
 ∀ d v F' H',Go F H F' H'→Is K F' d v→q d→Q v H'
def OFSp (K:PySem.W.Frag) (C:Addr) (sp:DOF):Sp:=fun vs H Q _ => ∃ a dx us rest F nm fs ds q,vs = .ref a::rest∧H a=some (.ins C dx us)∧Same F H∧Flds K F us nm fs∧Iss K F ds rest∧sp nm fs ds q ∧
 ∀ l b xs F' H',Go F H F' H'→H b=none→F' b=none→H' b=some (.lst xs)→Iss K F' l xs→q l→Q (.ref b) H'
structure OkM (P:Program) (w:World) (K:PySem.W.Frag) (mg:Str→Option Value) (base:Heap) (C:Addr) (m:Str) (k:Nat) (ps:List Str) (sp:Sp):Prop where
 ex : ∃ (f:Addr) (fd:FuncData),FnOk P w K mg base CX0 k f fd ps sp∧Meth K C m f∧Binds K fd ps []
structure MDef (K:PySem.W.Frag) (C:Addr) (m qual:Str) (st:Stmt) (ps:List Str):Prop where
 ex : ∃ (f:Addr) (fd:FuncData),Fun K m qual st f fd∧Meth K C m f∧Binds K fd ps []
theorem mem_of_lookup {α:Type} : ∀ {l:List (Str×α)} {f:Str} {d:α},l.lookup f=some d→(f,d) ∈ l
 | (g,e)::l,f,d,h=>by
  rw [List.lookup_cons] at h
  cases q:f==g with
  | true =>
   rw [q] at h
   have e1:f=g:=beq_iff_eq.mp q
   have e2:e=d:=Option.some.inj h
   subst e1 e2; simp
  | false =>
   rw [q] at h
   exact List.mem_cons_of_mem _ (mem_of_lookup h)
theorem lookup_names {α:Type} : ∀ {l:List (Str×α)} {nm:List Str} {f:Str},l.map (·.1)=nm→nm.contains f=false→l.lookup f=none
 | [],_,f,_,_=>rfl
 | (g,e)::l,nm,f,h,q=>by
  subst h
  rw [List.map_cons,List.contains_cons,Bool.or_eq_false_iff] at q
  rw [List.lookup_cons]
  have q1:(f==g)=false:=q.1
  rw [q1]
  exact lookup_names rfl q.2
section
variable {P:Program} {w:World} {K:PySem.W.Frag} {mg:Str→Option Value} {base:Heap}
def startO (N:List Str) (a C:Addr) (nm:List Str) (fs:List (Str×PyData)) (ds:List PyData):Sto:=(startE N (.none::ds)).set 0 (.obj a C nm fs)
theorem env_startO {F H:Hp} {N:List Str} {C:Addr} {nm:List Str} {fs:List (Str×PyData)} {us:List (Str×V)} {a dx:Addr} {ds:List PyData} {rest:List V} (s:Same F H) (ha:H a=some (.ins C dx us)) (hf:Flds K F us nm fs) (i:Iss K F ds rest) :
 EnvOk K ⟨H,H,F⟩ F H (startO N a C nm fs ds) (start N (.ref a::rest)):=by
  have I:=env_start (K:=K) (N:=N) s (iss_cons is_non i)
  have e:start N (.ref a::rest)=(start N (.non::rest)).set 0 (some (.ref a)):=rfl
  rw [e]
  exact I.sets (i:=0) (s :=.obj a C nm fs) rfl ⟨dx,us,rfl,ha,hf.1,hf.2⟩
theorem MDef.vok {C:Addr} {m qual:Str} {st:Stmt} {N ps:List Str} {k:Nat} {sp:DO} (F:MDef K C m qual st ps) (S:FnScope N ps (defScope st)) (len : ∀ nm fs ds q,sp nm fs ds q→ds.length+1=ps.length)
 (hbody : ∀ (f:Addr) (cdv:Value) (A:Around) (outer:List Env) (s:Shared) (H:Hp) (E:XK),Room k (A.deeper (envOfC qual (defScope st) s.heap.objs.size f cdv)) → ∀ a nm fs ds q,sp nm fs ds q →
 ∃ W,VSs (cxOf CX0 P w K mg base N qual (defScope st) f cdv A outer s H E).nox (defBody st) W∧W { nx:=fun _=>q .none,rt:=fun r _=>q r.data } (startO N a C nm fs ds)):OkM P w K mg base C m (k+1) ps (OSp K C sp):=by
  obtain ⟨f,fd,Fn,hm,hb⟩:=F.ex
  refine ⟨f,fd,Fn.ok S (fun vs H Q E xx167=>by obtain ⟨a,dx,us,rest,F,nm,fs,ds,q,e,_,_,_,i,h,_⟩:=xx167; rw [e,List.length_cons,i.len]; exact len nm fs ds q h) fun cdv A outer s H vs Q E hr xx166=>?_,hm,hb⟩
  obtain ⟨a,dx,us,rest,F,nm,fs,ds,q,e,ha,sm,hf,i,h,kk⟩:=xx166
  subst e
  obtain ⟨W,hW,hq⟩:=hbody f cdv A outer s H E hr a nm fs ds q h
  refine ⟨_,hW,⟨H,H,F⟩,startO N a C nm fs ds,F,_,env_startO sm ha hf i,hq,⟨fun e1 F1 H1 σ1 I1 s1 q1=>kk _ _ F1 H1 I1.goOf is_non q1,fun r v e1 F1 H1 σ1 I1 s1 r1 q1=>?_,fun _ _ _ _ _ _ h=>h.elim,fun _ _ _ _ _ _ h=>h.elim⟩⟩
  obtain ⟨F2,g,j⟩:=r1.is I1
  exact kk _ _ F2 H1 g j q1
theorem MDef.vokF {C:Addr} {m qual:Str} {st:Stmt} {N ps:List Str} {k:Nat} {sp:DOF} (F:MDef K C m qual st ps) (S:FnScope N ps (defScope st)) (len : ∀ nm fs ds q,sp nm fs ds q→ds.length+1=ps.length)
 (hbody : ∀ (f:Addr) (cdv:Value) (A:Around) (outer:List Env) (s:Shared) (H:Hp) (E:XK),Room k (A.deeper (envOfC qual (defScope st) s.heap.objs.size f cdv)) → ∀ a nm fs ds q,sp nm fs ds q →
 ∃ W,VSs (cxOf CX0 P w K mg base N qual (defScope st) f cdv A outer s H E).nox (defBody st) W∧W { nx:=fun _=>False,rt:=fun r _ => ∃ l,r = .own l∧q l } (startO N a C nm fs ds)):OkM P w K mg base C m (k+1) ps (OFSp K C sp):=by
  obtain ⟨f,fd,Fn,hm,hb⟩:=F.ex
  refine ⟨f,fd,Fn.ok S (fun vs H Q E xx169=>by obtain ⟨a,dx,us,rest,F,nm,fs,ds,q,e,_,_,_,i,h,_⟩:=xx169; rw [e,List.length_cons,i.len]; exact len nm fs ds q h) fun cdv A outer s H vs Q E hr xx168=>?_,hm,hb⟩
  obtain ⟨a,dx,us,rest,F,nm,fs,ds,q,e,ha,sm,hf,i,h,kk⟩:=xx168
  subst e
  obtain ⟨W,hW,hq⟩:=hbody f cdv A outer s H E hr a nm fs ds q h
  refine ⟨_,hW,⟨H,H,F⟩,startO N a C nm fs ds,F,_,env_startO sm ha hf i,hq,⟨fun e1 F1 H1 σ1 I1 s1 q1=>q1.elim,fun r v e1 F1 H1 σ1 I1 s1 r1 q1=>?_,fun _ _ _ _ _ _ h=>h.elim,fun _ _ _ _ _ _ h=>h.elim⟩⟩
  obtain ⟨l,rfl,q1⟩:=q1
  obtain ⟨b,xs,rfl,h1,h2,h3,h4,h5⟩:=r1
  exact kk l b xs F1 H1 I1.goOf h4 h2 h1 h5 q1
end
section
variable {X:Cx}
def wFld (C:Addr) (i:Nat) (f:Str):WE:=fun env Q=>match gS env i with | .obj _ C' _ fs=>C'=C ∧ ∃ d,fs.lookup f=some d∧Q d env|_=>False
theorem ve_fld (i:Nat) {C:Addr} {x f:Str} {px pos:Pos} (c:Cls X.K C) (n:NoAttr X.K C f) (hN:X.N[i]?=some x:=by rfl) (hv:Vis X.env.scope x:=by first|exact Or.inl rfl|exact Or.inr (Or.inl rfl)|exact Or.inr (Or.inr rfl)) (hd:(x==("__debug__" : Str))=false:=by decide)
 (hcd:(x==("__classdict__" : Str))=false:=by decide) (hb:attributeBase (.Name x px) f X.env (eval (.Name x px) X.env)=eval (.Name x px) X.env:=by rfl):VE X (.Attribute (.Name x px) f pos) (wFld C i f) :=
 (pe_fld (pe_var hN hv hd hcd) hb).imp fun σ H R xx170=>by
  obtain ⟨M,env,F,Q,I,h,k⟩:=xx170
  have S:=I.slot i
  unfold wFld at h
  cases q:gS env i with
  | obj a C' nm0 fs =>
   rw [q] at S h
   obtain ⟨rfl,d,hl,h⟩:=h
   obtain ⟨dx,vs,e,hB,nm,hfs⟩:=S
   obtain ⟨v,l,j⟩:=hfs f d (mem_of_lookup hl)
   exact ⟨_,vS_some e,a,C',dx,vs,v,rfl,I.bh _ _ hB,c,n,l,k d v F H env I (.refl _) j h⟩
  | non=>rw [q] at h; exact h.elim
  | val d=>rw [q] at h; exact h.elim
  | own ds=>rw [q] at h; exact h.elim
  | pen ds=>rw [q] at h; exact h.elim
  | new d=>rw [q] at h; exact h.elim
  | exc C=>rw [q] at h; exact h.elim
def wMthO (C:Addr) (i:Nat) (m:Str) (sp:DO) (Wr:WF):WE:=fun env Q=>match gS env i with
 | .obj _ C' nm fs=>C'=C∧nm.contains m=false∧Wr env fun ds e=>match gS e i with | .obj _ C2 nm2 fs2=>C2=C∧sp nm2 fs2 ds fun d=>Q d e|_=>False
 | _=>False
theorem meth_lift {C:Addr} {i:Nat} {m:Str} {sp:DO} {Wr:WF} {σ:St} {H:Hp} {R:VK} (h:liftE X.K (wMthO C i m sp Wr) σ H R):tMeth C m (OSp X.K C sp) [] E0 (tVar i) (liftA X.K Wr) σ H R:=by
 obtain ⟨M,env,F,Q,I,h,k⟩:=h
 have S:=I.slot i
 unfold wMthO at h
 cases q:gS env i with
 | obj a C' nm0 fs =>
  rw [q] at S h
  obtain ⟨rfl,hl,h⟩:=h
  obtain ⟨dx,vs,e,hB,nm,hfs⟩:=S
  refine ⟨_,vS_some e,a,dx,vs,rfl,I.bh _ _ hB,lookup_names nm hl,M,env,F,_,I,h,fun ds us F1 H1 e1 I1 s1 i1 h1=>?_⟩
  have S1:=I1.slot i
  cases q1:gS e1 i with
  | obj a2 C2 nm3 fs2 =>
   rw [q1] at S1 h1
   obtain ⟨rfl,h1⟩:=h1
   obtain ⟨dx2,vs2,e2,hB2,nm2,hfs2⟩:=S1
   rw [e] at e2
   injection e2 with e2; injection e2 with e2; subst e2
   show OSp X.K C2 sp (V.ref a::(us++[])) H1 R E0
   rw [List.append_nil]
   exact ⟨a,dx2,vs2,us,F1,nm3,fs2,ds,_,rfl,I1.bh _ _ hB2,I1.fh,⟨nm2,hfs2⟩,i1,h1,fun d v F2 H2 g i2 q=>k d v F2 H2 e1 (I1.go g) (s1.trans g.f) i2 q⟩
  | non=>rw [q1] at h1; exact h1.elim
  | val d=>rw [q1] at h1; exact h1.elim
  | own ds=>rw [q1] at h1; exact h1.elim
  | pen ds=>rw [q1] at h1; exact h1.elim
  | new d=>rw [q1] at h1; exact h1.elim
  | exc C=>rw [q1] at h1; exact h1.elim
 | non=>rw [q] at h; exact h.elim
 | val d=>rw [q] at h; exact h.elim
 | own ds=>rw [q] at h; exact h.elim
 | pen ds=>rw [q] at h; exact h.elim
 | new d=>rw [q] at h; exact h.elim
 | exc C=>rw [q] at h; exact h.elim
theorem ve_meth (i:Nat) {C:Addr} {x m:Str} {px apos pos:Pos} {pl:Sem Bool} {e:Expr} {es:List Expr} {Wr:WF} {k:Nat} {ps:List Str} {sp:DO} (O:OkM X.prog X.w X.K X.mg X.base C m k ps (OSp X.K C sp)) (c:Cls X.K C) (hr:Room k X.A) (ha:VA X (e::es) Wr)
 (hN:X.N[i]?=some x:=by rfl) (hv:Vis X.env.scope x:=by first|exact Or.inl rfl|exact Or.inr (Or.inl rfl)|exact Or.inr (Or.inr rfl)) (hd:(x==("__debug__" : Str))=false:=by decide) (hcd:(x==("__classdict__" : Str))=false:=by decide)
  (hst:starEach (e::es) X.env=(false,eval e X.env)::starEach es X.env:=by rfl) (hpl:(backTo pos (starEach es X.env)).any (·.1)=false:=by rfl)
  (ht:eval (.Call (.Attribute (.Name x px) m apos) (e::es) [] pos) X.env=(do
   let ov ← eval (.Name x px) X.env
   standAt apos.atName
   let (f,first) ← holding [ov] (getMethod ov m pl)
   callWith pos f first (backTo pos (starEach (e::es) X.env)) (backToKw pos (keywordEach [] X.env))):=by rfl) :
  VE X (.Call (.Attribute (.Name x px) m apos) (e::es) [] pos) (wMthO C i m sp Wr):=by
  obtain ⟨f,fd,F,hm,hb⟩:=O.ex
  exact (pe_meth (pl:=pl) (pe_var hN hv hd hcd) c hm F hr hb .nil pass0 ha hst hpl ht).imp fun σ H R h=>meth_lift h
end
end L2
namespace L2
open PySem PySem.Spec PyProof.Rows
section
variable {X:Cx}
theorem VE.pe {e:Expr} {W:WE} (h:VE X e W):PE X e (liftE X.K W):=h
theorem VF.pe {e:Expr} {W:WF} (h:VF X e W):PE X e (liftF X.K W):=h
theorem VT.pt {e:Expr} {W:WT} (h:VT X e W):PT X e (liftT X.K W):=h
theorem VS.ps {st:Stmt} {W:WS} (h:VS X st W):PS X st (liftS X.K W):=h
end
structure GoX (a b:Addr) (F H F' H':Hp):Prop where
 f:Same F F'
 h : ∀ c o,c≠a→c≠b→H c=some o→H' c=some o
 fh:Same F' H'
 new : ∀ c o,F' c=some o→F c=some o∨H c=none
theorem cut_go {a:Addr} {o:HO} {F H F' H':Hp} (hF:F a=none) (hH:H a=some o) (g:Go (upd F a o) H F' H'):Go F H (offA F' a) H':=by
 refine ⟨fun b u e=>?_,g.h,fun b u e=>?_,fun b u e=>?_⟩
 ·have hb:b≠a:=ne_of_none e hF
  unfold offA; rw [if_neg hb]
  exact g.f b u (by rw [upd_ne hb]; exact e)
 ·unfold offA at e
  split at e
  ·cases e
  ·exact g.fh b u e
 ·unfold offA at e
  split at e
  ·cases e
  ·rename_i hb
   rcases g.new b u e with q|q
   ·rw [upd_ne hb] at q; exact .inl q
   ·exact .inr q
mutual
def flatD:PyData→Bool
 | .list _=>false
 | .dict _=>false
 | .tuple l=>flatDs l
 | _=>true
def flatDs:List PyData→Bool
 | []=>true
 | d::l=>flatD d&&flatDs l
end
mutual
theorem Is.off {K:PySem.W.Frag} {F:Hp} {a:Addr} {xs:List V} (hF:F a=some (.lst xs)) : ∀ {d:PyData} {v:V},flatD d=true→Is K F d v→Is K (offA F a) d v
 | .none,_,_,h=>by unfold Is at h ⊢; exact h
 | .bool _,_,_,h=>by unfold Is at h ⊢; exact h
 | .int _,_,_,h=>by unfold Is at h ⊢; exact h
 | .str _,_,_,h=>by unfold Is at h ⊢; exact h
 | .list l,_,z,h=>by simp [flatD] at z
 | .dict l,_,z,h=>by simp [flatD] at z
 | .tuple l,_,z,h=>by
  unfold Is at h ⊢
  obtain ⟨b,ys,e,q,r⟩:=h
  refine ⟨b,ys,e,?_,Iss.off hF (by simpa [flatD] using z) r⟩
  rcases q with q|q
  ·refine .inl ?_
   rcases q with q|⟨o,q⟩
   ·refine .inl ?_
    unfold offA
    rw [if_neg (fun y=>by subst y; rw [hF] at q; cases q)]; exact q
   ·refine .inr ⟨o,?_⟩
    unfold offA
    rw [if_neg (fun y=>by subst y; rw [hF] at q; cases q)]; exact q
  ·exact .inr q
theorem Iss.off {K:PySem.W.Frag} {F:Hp} {a:Addr} {xs:List V} (hF:F a=some (.lst xs)) : ∀ {l:List PyData} {vs:List V},flatDs l=true→Iss K F l vs→Iss K (offA F a) l vs
 | [],_,_,h=>by unfold Iss at h ⊢; exact h
 | d::l,_,z,h=>by
  unfold Iss at h ⊢
  obtain ⟨x,r,e,p,q⟩:=h
  have z':flatD d=true∧flatDs l=true:=by simpa [flatDs] using z
  exact ⟨x,r,e,Is.off hF z'.1 p,Iss.off hF z'.2 q⟩
end
section
variable {X:Cx}
theorem boot_rng:bootBuiltins "range" = some (.type "range"):=by decide +kernel
theorem call_rng2:CallR X (.type "range") (fun xs H Q => ∃ i j,xs=[.int i,.int j] ∧ ∀ l,H l=none→Q (.ref l) (upd H l (.rng i j))):=by
 intro pins s σ H xs us Q I r h
 obtain ⟨i,j,rfl,q⟩:=h
 obtain ⟨u,c,rfl,⟨t,rfl⟩,⟨t',rfl⟩⟩:=vals2 r
 refine call_range_2 ⟨.ref s.heap.objs.size,_,I.laid (a:=s.heap.objs.size) (o :=.rng i j) (t':=s.toks+1) (fun _ _ q=>Heap.get?_push_of_some _ q) (Nat.le_refl _) ?_,rfl,q _ (I.hok.fresh (Nat.le_refl _))⟩
 exact ⟨t,t',s.toks,Heap.get?_push_size _ rfl⟩
def rngV (i:Int) (n:Nat):List V:=(List.range n).map fun (k:Nat)=>V.int (i+k)
theorem vals_rng {i:Int} {n:Nat} {acc:Array Value} (h:ItemsOf (fun (k:Nat) (v:Value) => ∃ t,v=Value.int (i+(k:Int)*1) t) acc n):Vals (rngV i n) acc.toList:=by
 have key : ∀ (m:Nat) (l:List Value),l.length=m → ∀ o:Nat,(∀ k v,l[k]?=some v → ∃ t,v=Value.int (i+((o+k:Nat):Int)) t)→Vals ((List.range' o m).map fun (k:Nat)=>V.int (i+k)) l:=by
  intro m
  induction m with
  | zero =>
   intro l hl o _
   cases l with
   | nil=>exact .nil
   | cons _ _=>cases hl
  | succ m ih =>
   intro l hl o hk
   cases l with
   | nil=>cases hl
   | cons v l =>
    rw [List.range'_succ,List.map_cons]
    refine .cons (hk 0 v rfl) (ih l (Nat.succ.inj hl) (o+1) fun k w hw=>?_)
    obtain ⟨t,e⟩:=hk (k+1) w (by simpa using hw)
    exact ⟨t,by rw [e]; congr 2 <;> omega⟩
 unfold rngV
 rw [List.range_eq_range']
 refine key n acc.toList (by rw [Array.length_toList]; exact h.1) 0 fun k v hv=>?_
 obtain ⟨t,e⟩:=h.2 k v (by rw [← Array.getElem?_toList]; exact hv)
 exact ⟨t,by rw [e]; congr 2 <;> omega⟩
theorem call_lrng (hc:X.calm=true):CallR X (.type "list") (fun xs H Q => ∃ r i j,xs=[.ref r]∧H r=some (.rng i j)∧(-(2^62)≤i∧i<2^62 ∧ -(2^62)≤j∧j<2^62)∧(j-i).toNat≤1000 ∧ ∀ l,H l=none→Q (.ref l) (upd H l (.lst (rngV i (j-i).toNat)))):=by
 intro pins s σ H xs us Q I r h
 obtain ⟨p,i,j,rfl,hp,⟨h1,h2,h3,h4⟩,hl,q⟩:=h
 obtain ⟨u,rfl,rx⟩:=vals1 r
 cases rx
 obtain ⟨t,t',v,ho⟩:=(show ObjOk X.prog X.w H s.heap p (.rng i j) from I.hok p _ hp)
 refine call_list_range (I.ok.hd hc) (a:=i) (b:=j) (c:=1) (t:=t) (u:=t') (v:=v) (n:=(j-i).toNat) ho (small_one h1 h2 h3 h4) (by rw [rangeSize_one]; split <;> omega) (by omega) fun h' tk acc' c' kp hS hacc=>?_
 refine ⟨.ref s.heap.objs.size,_,I.laid (t':=tk) kp (Nat.le_refl _) (show ObjOk X.prog X.w _ h' _ (.lst (rngV i (j-i).toNat)) from ⟨?_,acc'.toList,c',vals_rng hacc,?_⟩),rfl,q _ (I.hok.fresh (Nat.le_refl _))⟩
 ·unfold rngV; rw [List.length_map,List.length_range]; exact Nat.le_of_lt (small1000 hl)
 ·rw [hS]
end
end L2
namespace L2
open PySem PySem.Spec PyProof.Rows
theorem same_upd {F H:Hp} {a:Addr} {o:HO} (s:Same F H) (h:H a=some o):Same (upd F a o) H:=fun b u e=>by
 by_cases z:b=a
 ·subst z; rw [upd_same] at e; rw [← e]; exact h
 ·rw [upd_ne z] at e; exact s b u e
theorem same_fz {F H:Hp} {a:Addr} {o:HO} (s:Same F H) (h:H a=some o):Same F (upd F a o):=fun b u e=>by
 by_cases z:b=a
 ·subst z
  rw [upd_same]
  have:=s _ _ e
  rw [h] at this; exact this
 ·rw [upd_ne z]; exact e
theorem go_none {F H F' H':Hp} {a:Addr} {o:HO} (g:Go F H F' H') (h:H a=some o) (f:F a=none):F' a=none:=by
 cases e:F' a with
 | none=>rfl
 | some u =>
  rcases g.new a u e with q|q
  ·rw [f] at q; cases q
  ·rw [h] at q; cases q
theorem go_fz {F H F' H':Hp} {b:Addr} {o:HO} (g:Go F H F' H') (hb:H b=none) (h':H' b=some o):Go F H (upd F' b o) H' where
 f:=g.f.trans (same_fz g.fh h')
 h:=g.h
 fh:=same_upd g.fh h'
 new:=fun c u e=>by
  by_cases z:c=b
  ·subst z; exact .inr hb
  ·rw [upd_ne z] at e; exact g.new c u e
theorem GoX.go {F H F1 H1 F2 H2:Hp} {a b:Addr} (g:Go F H F1 H1) (x:GoX a b F1 H1 F2 H2) (na:H a=none) (nb:H b=none):Go F H F2 H2 where
 f:=g.f.trans x.f
 h:=fun c o e=>x.h c o (ne_of_none e na) (ne_of_none e nb) (g.h c o e)
 fh:=x.fh
 new:=fun c o e=>(x.new c o e).elim (fun q=>g.new c o q) fun q => .inr (same_none g.h q)
section
variable {K:PySem.W.Frag} {M:Frm} {F H:Hp}
def Slots (K:PySem.W.Frag) (M:Frm) (F H:Hp):Sto→St→Prop
 | [],σ=>σ=[]
 | s::e,σ => ∃ x r,σ=x::r∧(SlotOk K M F H s x∧s.mut=false)∧Slots K M F H e r
theorem Slots.len : ∀ {e:Sto} {σ:St},Slots K M F H e σ→e.length=σ.length
 | [],σ,h=>by
  have h:σ=[]:=h
  subst h; rfl
 | s::e,σ,h=>by
  obtain ⟨x,r,rfl,_,h⟩:=h
  rw [List.length_cons,List.length_cons,Slots.len h]
theorem Slots.at : ∀ {e:Sto} {σ:St},Slots K M F H e σ → ∀ i,SlotOk K M F H (gS e i) (vS σ i)∧(gS e i).mut=false
 | [],σ,h,i=>by
  rw [gS_out (Nat.zero_le _)]
  exact ⟨trivial,rfl⟩
 | s::e,σ,h,0=>by
  obtain ⟨x,r,rfl,q,h⟩:=h
  exact q
 | s::e,σ,h,i+1=>by
  obtain ⟨x,r,rfl,q,h⟩:=h
  have e1:vS (x::r) (i+1)=vS r i:=by unfold vS; rw [List.getElem?_cons_succ]
  rw [e1]
  exact Slots.at h i
theorem env_of {env:Sto} {σ:St} (s:Same F H) (h:Slots K ⟨H,H,F⟩ F H env σ):EnvOk K ⟨H,H,F⟩ F H env σ where
 len:=h.len
 slot:=fun i=>(h.at i).1
 dis:=fun i j a _ m _ _ _=>by rw [(h.at i).2] at m; cases m
 f0 :=.refl _
 fe:=s
 fh:=s
 bh :=.refl _
 new:=fun b o e => .inl e
 dom:=fun b o e=>⟨o,e⟩
end
def SolSp (K:PySem.W.Frag) (sp:DC):Sp:=fun vs H Q _ => ∃ F ds q,Same F H∧Iss K F ds vs∧sp ds q ∧
 ∀ d t p lb xs F' H',Go F H F' H'→Is K F' d (.ref p)→H' p=some (.tup [t,.ref lb])→H lb=none→H' lb=some (.lst xs)→xs.length≤900→q d→Q (.ref p) H'
theorem SolSp.psp {K:PySem.W.Frag} {sp:DC} {vs:List V} {H:Hp} {Q:VK} {E:XK} (h:PSp K sp vs H Q E):SolSp K sp vs H Q E:=by
 obtain ⟨F,ds,q,s,i,h,k⟩:=h
 exact ⟨F,ds,q,s,i,h,fun d t p lb xs F' H' g j _ _ _ _ z=>k d (.ref p) F' H' g j z⟩
theorem sol_fin {K:PySem.W.Frag} {F H F1 H1:Hp} {p a:Addr} {xs:List V} {ds:List PyData} {w:Str} (g:Go F H F1 H1) (ha:H a=none) (h1:H1 a=some (.lst xs)) (i:Iss K F1 ds xs) (hp:H1 p=none) :
 ∃ F2,Go F H F2 (upd H1 p (.tup [.str w,.ref a]))∧Is K F2 (.tuple [.str w,.list ds]) (.ref p)∧upd H1 p (.tup [.str w,.ref a]) p=some (.tup [.str w,.ref a])∧upd H1 p (.tup [.str w,.ref a]) a=some (.lst xs):=by
  have g2:=go_fz g ha h1
  have g3:=Go.put (o:=HO.tup [.str w,.ref a]) g2.fh hp
  have ne:a≠p:=ne_of_none h1 hp
  refine ⟨_,g2.trans g3,is_tup (SqT.of upd_same) (iss_cons (is_str w) (iss_cons (is_lst (SqL.of ?_) (i.mono ((same_fz g.fh h1).trans g3.f))) iss_nil)),upd_same,by rw [upd_ne ne]; exact h1⟩
  rw [upd_ne ne]; exact upd_same
theorem Ok.imp' {P:Program} {w:World} {K:PySem.W.Frag} {mg:Str→Option Value} {base:Heap} {x:Str} {k:Nat} {ps:List Str} {sp sp':Sp} (O:Ok P w K mg base x k ps sp) (h : ∀ vs H Q E,sp' vs H Q E→sp vs H Q E):Ok P w K mg base x k ps sp':=by
 obtain ⟨f,fd,F,a,b,c⟩:=O.ex
 exact ⟨f,fd,F.imp h,a,b,c⟩
theorem sol_v {P:Program} {w:World} {K:PySem.W.Frag} {mg:Str→Option Value} {base:Heap} {x:Str} {k:Nat} {ps:List Str} {sp:DC} (O:Ok P w K mg base x k ps (SolSp K sp)):Ok P w K mg base x k ps (PSp K sp):=O.imp' fun _ _ _ _ z=>SolSp.psp z
section
variable {X:Cx}
end
section
variable {X:Cx}
end
end L2
namespace L2
open PySem PySem.Spec PyProof.Rows
section
variable {X:Cx}
end
end L2
namespace L2
open PySem PySem.Spec PyProof.Rows
section
variable {X:Cx}
end
end L2
namespace L2
open PySem PySem.Spec PyProof.Rows
theorem ext_tup (l:Addr) (its:Array Value) (n:Nat) (b:Addr) (dc:Option Addr) (its2:Array Value) (n2:Nat) (sl:Array (Option Value)) (h0 : ¬(!its.isEmpty&&Builtin.List.listTooLong (its.size+its2.size))=true) (h1:its.size≤sizeLine) (h2:its.size+its2.size≤sizeLine+1) :
 Meets (Builtin.«list.extend» ⟨[.ref l,.ref b],[]⟩) (fun _ Rr s=>s.heap.get? l=some { cls :=.type "list",dict:=none,data :=.seq its n,slots := #[] }∧s.heap.get? b=some ⟨.type "tuple",dc,.seq its2 n2,sl⟩∧Rr (.ok (.ret Value.none)) { s with heap:=s.heap.update l (Obj.mapSeq fun x=>x++its2),toks:=s.toks }) :=
  .of_wp fun prog w A Rr s h=>by
   obtain ⟨hp,g,d,tk,os⟩:=s
   obtain ⟨hl,hb,h⟩:=h
   have f2:=sub_tuple_tuple
   have f3:=sub_list_list
   have f4:=sub_tuple_list
   have f5:=sub_list_tuple
   have hz':(its++its2).size≤sizeLine+1:=by rw [Array.size_append]; exact h2
   wp_walk using (wpAny_updateSeq hl rfl (hz:=h1) (_hz':=hz')),wpAny_loadPart' hl,wpAny_loadPart' hb
   exact ⟨_,rfl,h⟩
def rExtT (K:PySem.W.Frag):V→List V→Hp→VK→Prop:=fun x vs H Q => ∃ l b xs zs,x = .ref l∧vs=[.ref b]∧H l=some (.lst xs)∧SqT K H b zs∧xs.length+zs.length≤sizeLine∧Q .non (upd H l (.lst (xs++zs)))
section
variable {X:Cx} {e:Expr} {We:WE} {pos:Pos}
theorem mt_extT:MtM X "list.extend" (rExtT X.K):=by
 intro pins s σ H x vs v us Q I rx rv h
 obtain ⟨l,b,xs,zs,rfl,rfl,hH,hB,hz,q⟩:=h
 cases rx
 obtain ⟨u,rfl,ru⟩:=rv.one
 cases ru
 obtain ⟨z,its,n,r,hl,e⟩:=I.lstM hH
 obtain ⟨its2,r2,⟨o,e2,oc,n2,od⟩,z2⟩:=I.tuple hB
 obtain ⟨c,dc,dd,sl⟩:=o
 dsimp only at oc od
 subst oc od
 have hl2:=r2.length
 have hsz:its.toArray.size+its2.toArray.size≤sizeLine:=by rw [List.size_toArray,List.size_toArray]; omega
 have hlong : ¬ (!its.toArray.isEmpty&&Builtin.List.listTooLong (its.toArray.size+its2.toArray.size))=true:=by
  rw [notLongL hsz,Bool.and_false]
  exact Bool.false_ne_true
 refine call_meets F.slot_list_extend ⟨_,e,rfl⟩ F.entry_list_extend (F.args_list_extend_2 _ _) (ext_tup l its.toArray n b dc its2.toArray n2 sl hlong (by rw [List.size_toArray]; omega) (by omega)) ⟨e,e2,?_⟩
 refine ⟨.non,_,I.lset (its':=its++its2) hH e (by simp) (r.append r2) ?_,rfl,q⟩
 rw [List.length_append]
 omega
def wExtT (i:Nat) (We:WE):WS:=fun D env=>(gS env i).mut=true∧We env fun d e=>match d with
 | .tuple l=>(gS e i).mut=true∧(gS e i).cnt.length+l.length≤sizeLine∧D.nx (e.set i ((gS e i).upd ((gS e i).cnt++l)))
 | _=>False
theorem vs_extendT (i:Nat) {x:Str} {px apos cpos:Pos} (he:VE X e We) (hN:X.N[i]?=some x:=by rfl) (hv:Vis X.env.scope x:=by first|exact Or.inl rfl|exact Or.inr (Or.inl rfl)|exact Or.inr (Or.inr rfl)) (hd:(x==("__debug__" : Str))=false:=by decide)
 (hcd:(x==("__classdict__" : Str))=false:=by decide)
 (hbase:attributeBase (.Name x px) "extend" X.env (eval (.Name x px) X.env)=eval (.Name x px) X.env:=by rfl)
 (hfew:((backTo cpos (starEach [e] X.env)).all (fun x => !x.1)&&(backToKw cpos (keywordEach [] X.env)).all (fun x=>x.1.isSome)
  && decide ([e].length+([]:List Keyword).length+(if ([]:List Keyword).isEmpty then 0 else 1)<30))=true:=by rfl)
 (hline:(apos.endLine==cpos.line)=true:=by rfl) (hst:starEach [e] X.env=(false,eval e X.env)::starEach [] X.env:=by rfl) (hplain:(backTo cpos (starEach [] X.env)).any (·.1)=false:=by rfl)
 (hs:swapsWith (.Call (.Attribute (.Name x px) "extend" apos) [e] [] cpos) none pos.line X.env=pure false:=by rfl):VS X (.Expr (.Call (.Attribute (.Name x px) "extend" apos) [e] [] cpos) pos) (wExtT i We) :=
 (ps_expr (pe_bm PySem.F.plainAttrs_list PySem.F.slot_list_extend PySem.F.type_list_extend mt_extT (pe_var hN hv hd hcd) (pa_cons he pa_nil hst) hbase hfew hline hst hplain) hs).imp fun D σ H xx171=>by
  obtain ⟨M,env,F,DD,I,⟨hm,h⟩,k⟩:=xx171
  obtain ⟨p,vs,ep,g1,g2,g3,g4⟩:=(I.slot i).addr hm
  refine ⟨_,vS_some ep,.inl ⟨rfl,_,SqL.of g1⟩,M,env,F,_,I,h,fun d2 v2 F1 H1 e1 I1 s1 i1 h1=>?_⟩
  cases d2 with
  | tuple l =>
   obtain ⟨m1,z1,q1⟩:=h1
   obtain ⟨p',vs1,ep',f1,f2,f3,f4⟩:=(I1.slot i).addr m1
   rw [ep] at ep'; injection ep' with ep'; injection ep' with ep'; subst ep'
   obtain ⟨a,xs,rfl,hs',hr⟩:=i1.tup_inv
   exact ⟨p,a,vs1,xs,rfl,rfl,f1,same_seqT I1.fh hs',by rw [f4.len,hr.len]; exact z1,k.nx _ F1 _ σ (I1.chg m1 ep (iss_append f4 hr)) s1 q1⟩
  | _=>exact False.elim h1
end
end L2
namespace L2
open PySem PySem.Spec PyProof.Rows
section
variable {X:Cx}
end
end L2
namespace L2
open PySem PySem.Spec PyProof.Rows
section
variable {X:Cx} {pos:Pos}
end
end L2
namespace L2
open PySem PySem.Spec PyProof.Rows
mutual
def flatN:PyData→Bool
 | .list _=>false
 | .dict _=>false
 | .tuple l=>flatNs l
 | _=>true
def flatNs:List PyData→Bool
 | []=>true
 | d::l=>flatN d&&flatNs l
end
mutual
theorem is_off {K:PySem.W.Frag} {F:Hp} {a:Addr} {vs:List V} (h:F a=some (.lst vs)) : ∀ {d:PyData} {v:V},flatN d=true→Is K F d v→Is K (offA F a) d v
 | .none,_,_,i=>by unfold Is at i ⊢; exact i
 | .bool _,_,_,i=>by unfold Is at i ⊢; exact i
 | .int _,_,_,i=>by unfold Is at i ⊢; exact i
 | .str _,_,_,i=>by unfold Is at i ⊢; exact i
 | .list l,_,z,_=>by unfold flatN at z; cases z
 | .dict l,_,z,_=>by unfold flatN at z; cases z
 | .tuple l,_,z,i=>by
  unfold flatN at z
  unfold Is at i ⊢
  obtain ⟨b,xs,e,q,r⟩:=i
  refine ⟨b,xs,e,?_,iss_off h z r⟩
  rcases q with (q|⟨o,q⟩)|q
  ·exact .inl (.inl (by unfold offA; rw [if_neg (fun c=>by rw [c,h] at q; cases q)]; exact q))
  ·exact .inl (.inr ⟨o,by unfold offA; rw [if_neg (fun c=>by rw [c,h] at q; cases q)]; exact q⟩)
  ·exact .inr q
theorem iss_off {K:PySem.W.Frag} {F:Hp} {a:Addr} {vs:List V} (h:F a=some (.lst vs)) : ∀ {l:List PyData} {xs:List V},flatNs l=true→Iss K F l xs→Iss K (offA F a) l xs
 | [],_,_,i=>by unfold Iss at i ⊢; exact i
 | d::l,_,z,i=>by
  unfold flatNs at z
  rw [Bool.and_eq_true] at z
  unfold Iss at i ⊢
  obtain ⟨x,r,e,p,q⟩:=i
  exact ⟨x,r,e,is_off h z.1 p,iss_off h z.2 q⟩
end
section
variable {X:Cx}
end
end L2
namespace L2
open PySem PySem.Spec PyProof.Rows
section
variable {X:Cx} {Ex:St→XK} {a b:Expr} {rest:List Expr} {pos:Pos} {Wa Wx2:WX→WE} {Wb:WE}
end
end L2
namespace My
open PySem L2
seal VE VF VA VT VW VS VSs VG VGs VI VO OpV CallV CallVF VN VFN VST VSsT VEX VSX VSsX
def top (i:Nat):Stmt:=PySem.Challenge.pw_dullglass_k28_whole_one_of_both.main.body.getD i (.Pass ⟨0,0,0,0⟩)
def methAt (s:Stmt) (j:Nat):Stmt:=match s with | .ClassDef _ _ _ body _ _ _ _ _ _ _=>body.getD j (.Pass ⟨0,0,0,0⟩)|s=>s
abbrev s_is_whole:Stmt:=top 7
abbrev s_makes_row:Stmt:=top 21
abbrev s_makes_table:Stmt:=top 20
abbrev s_divisor:Stmt:=top 8
abbrev s_common_divisor:Stmt:=top 22
abbrev s_divided:Stmt:=top 24
abbrev s_lowest_table:Stmt:=top 23
abbrev s_glass_of:Stmt:=top 19
abbrev s_stands:Stmt:=top 27
abbrev s_signs:Stmt:=top 28
abbrev s_check_alike_stands:Stmt:=top 32
abbrev s_first_above:Stmt:=top 37
abbrev s_lowest:Stmt:=top 38
abbrev s_first_line:Stmt:=top 40
abbrev s_Board___init__:Stmt:=methAt (top 39) 0
abbrev s_Board_lack:Stmt:=methAt (top 39) 1
abbrev s_Board_is_tighter:Stmt:=methAt (top 39) 4
abbrev s_Board_tightest:Stmt:=methAt (top 39) 3
abbrev s_cleared:Stmt:=top 41
abbrev s_Board_bring_in:Stmt:=methAt (top 39) 2
abbrev s_reduced:Stmt:=top 10
abbrev s_share:Stmt:=top 9
abbrev s_Board_told:Stmt:=methAt (top 39) 5
abbrev s_solved:Stmt:=top 36
abbrev s_check_few_signs:Stmt:=top 47
abbrev s_seen_as:Stmt:=top 49
abbrev s_shown_in_all:Stmt:=top 50
abbrev s_equations:Stmt:=top 48
abbrev s_wanted_sums:Stmt:=top 51
abbrev s_is_share:Stmt:=top 11
abbrev s_check_shares:Stmt:=top 12
abbrev s_times:Stmt:=top 13
abbrev s_over_bottom:Stmt:=top 26
abbrev s_table_of_shares:Stmt:=top 25
abbrev s_in_rows:Stmt:=top 53
abbrev s_dulling_by:Stmt:=top 52
abbrev s_compared:Stmt:=top 44
abbrev s_dulls_into:Stmt:=top 46
abbrev s_alike:Stmt:=top 45
abbrev s__law_cell:Stmt:=top 62
abbrev s__law_drawn:Stmt:=top 63
abbrev s__law_glass:Stmt:=top 64
abbrev s__law_whole:Stmt:=top 66
abbrev s__law_is_dulling:Stmt:=top 67
abbrev s__law_dulls:Stmt:=top 68
abbrev s_below:Stmt:=top 14
abbrev s_check_payoffs:Stmt:=top 57
abbrev s_is_plan:Stmt:=top 58
abbrev s_column:Stmt:=top 29
abbrev s_paired:Stmt:=top 30
abbrev s_worth:Stmt:=top 59
abbrev s_gain:Stmt:=top 55
abbrev s_first_best_act:Stmt:=top 60
abbrev s_best:Stmt:=top 56
abbrev s__law_best:Stmt:=top 65
abbrev s__law_more:Stmt:=top 69
abbrev s__law_word:Stmt:=top 70
abbrev s__law_other:Stmt:=top 71
abbrev s_law:Stmt:=top 72
structure Cs where
 Board:Addr
structure Txt (K:PySem.W.Frag) (mg:Str→Option Value) (cs:Cs):Prop where
 Board_:mg "Board" = some (.ref cs.Board)
 Board_c:Cls K cs.Board
 Board_mk:PySem.W.makesIn K cs.Board=true
 Board_kp:PySem.W.keepIn K (.ref cs.Board)=true
 Board_n_bottom:NoAttr K cs.Board "bottom"
 Board_n_lines:NoAttr K cs.Board "lines"
 Board_n_stands_for:NoAttr K cs.Board "stands_for"
 Board_n_unknowns:NoAttr K cs.Board "unknowns"
 abs_:mg "abs" = none
 all_:mg "all" = none
 bool_:mg "bool" = none
 enumerate_:mg "enumerate" = none
 int_:mg "int" = none
 isinstance_:mg "isinstance" = none
 len_:mg "len" = none
 list_:mg "list" = none
 max_:mg "max" = none
 min_:mg "min" = none
 range_:mg "range" = none
 sorted_:mg "sorted" = none
 sum_:mg "sum" = none
 tuple_:mg "tuple" = none
 zip_:mg "zip" = none
 FEWEST_STANDS_ : ∃ t,mg "FEWEST_STANDS" = some (.int 2 t)
 MOST_COMPARED_ : ∃ t,mg "MOST_COMPARED" = some (.int 4 t)
 MOST_ROWS_ : ∃ t,mg "MOST_ROWS" = some (.int 24 t)
 MOST_SIGNS_ : ∃ t,mg "MOST_SIGNS" = some (.int 12 t)
 MOST_STANDS_ : ∃ t,mg "MOST_STANDS" = some (.int 4 t)
 MOST_UNKNOWNS_ : ∃ t,mg "MOST_UNKNOWNS" = some (.int 20 t)
section
variable {P:Program} {w:World} {K:PySem.W.Frag} {mg:Str→Option Value} {base:Heap} {cs:Cs}
def wholeD:PyData→Bool
 | .int _=>true
 | _=>false
def sp_is_whole:DC
 | [d],q=>q (.bool (wholeD d))
 | _,_=>False
theorem sc_is_whole:FnScope ["thing"] ["thing"] (defScope s_is_whole):=⟨rfl,rfl,rfl,by decide +kernel,rfl,by decide +kernel,by decide +kernel⟩
theorem ok_is_whole (F:Def K mg "is_whole" s_is_whole ["thing"]) (T:Txt K mg cs)
 : Ok P w K mg base "is_whole" 1 ["thing"] (PSp K sp_is_whole):=by
  refine F.vok sc_is_whole (fun ds q h=>by unfold sp_is_whole at h; split at h; all_goals first|rfl|exact h.elim) fun f cdv A outer s H E hr ds q h=>?_
  match ds,h with
  | [d],h =>
  refine ⟨_,(vss_one (vs_ret (ve_and (ve_isi T.isinstance_ T.int_ L2.boot_int (ve_var 0)) (ve_one (ve_not (ve_isi T.isinstance_ T.bool_ L2.boot_bool (ve_var 0))))))),?_⟩
  cases d <;> exact h
theorem gcd_turn {a b:Int} {g:Nat} (h0:0≤a) (hb:0≤b) (h1:b≠0) (h:Nat.gcd a.toNat b.toNat=g) :
 0≤a%b∧a%b<b∧Nat.gcd b.toNat (a%b).toNat=g:=by
  have hp:0<b:=by omega
  have e1:=Int.emod_nonneg a h1
  have e2:=Int.emod_lt_of_pos a hp
  refine ⟨e1,e2,?_⟩
  have e3:(a%b).toNat=a.toNat%b.toNat:=by
   have:((a.toNat%b.toNat:Nat):Int)=a%b:=by
    rw [Int.natCast_emod,Int.toNat_of_nonneg h0,Int.toNat_of_nonneg hb]
   rw [← this]; rfl
  rw [e3,← h,Nat.gcd_comm b.toNat,Nat.gcd_comm a.toNat]
  exact (Nat.gcd_rec _ _).symm
theorem gcd_end {a:Int} {b:Int} {g:Nat} (h0:0≤a) (h1:b=0) (h:Nat.gcd a.toNat b.toNat=g):a=(g:Int):=by
 subst h1
 rw [← h]
 have:Nat.gcd a.toNat (Int.toNat 0)=a.toNat:=Nat.gcd_zero_right _
 rw [this]; omega
theorem gcd_start (a b:Int):Nat.gcd (if a<0 then -a else a).toNat (if b<0 then -b else b).toNat=Int.gcd a b:=by
 have e : ∀ x:Int,(if x<0 then -x else x).toNat=x.natAbs:=fun x=>by split <;> omega
 rw [e,e]; rfl
structure Shr (p q:Int):Prop where
 pos:1≤q
 gcd:Int.gcd p q=1
def cm (t b:Int):Int:=if b<0 then -(Int.gcd t b:Int) else (Int.gcd t b:Int)
def shT (t b:Int):Int:=t.fdiv (cm t b)
def shB (t b:Int):Int:=b.fdiv (cm t b)
theorem gcd_pos {t b:Int} (hb:b≠0):0<Int.gcd t b:=Int.gcd_pos_of_ne_zero_right t hb
theorem cm_ne {t b:Int} (hb:b≠0):cm t b≠0:=by
 have:=gcd_pos (t:=t) hb
 unfold cm; split <;> omega
theorem cm_dvd_t (t b:Int):cm t b∣t:=by
 have h:(Int.gcd t b:Int)∣t:=Int.gcd_dvd_left ..
 unfold cm; split
 ·exact Int.neg_dvd.mpr h
 ·exact h
theorem cm_dvd_b (t b:Int):cm t b∣b:=by
 have h:(Int.gcd t b:Int)∣b:=Int.gcd_dvd_right ..
 unfold cm; split
 ·exact Int.neg_dvd.mpr h
 ·exact h
theorem fdiv_of_dvd {c t:Int} (h:c∣t):c*(t.fdiv c)=t:=Int.mul_fdiv_cancel' h
theorem shT_mul (t b:Int):cm t b*shT t b=t:=fdiv_of_dvd (cm_dvd_t t b)
theorem shB_mul (t b:Int):cm t b*shB t b=b:=fdiv_of_dvd (cm_dvd_b t b)
theorem natAbs_cm (t b:Int):(cm t b).natAbs=Int.gcd t b:=by unfold cm; split <;> omega
theorem sh_ok {t b:Int} (hb:b≠0):Shr (shT t b) (shB t b)∧shT t b*b=t*shB t b:=by
 have h1:=shT_mul t b
 have h2:=shB_mul t b
 have hc:=cm_ne (t:=t) hb
 have hg:=gcd_pos (t:=t) hb
 refine ⟨⟨?_,?_⟩,?_⟩
 ·by_cases hn:b<0
  ·have hcn:cm t b<0:=by unfold cm; rw [if_pos hn]; omega
   have:0<shB t b:=by
    rcases Int.lt_or_le 0 (shB t b) with h|h
    ·exact h
    ·have:=Int.mul_nonneg_of_nonpos_of_nonpos (Int.le_of_lt hcn) h
     omega
   omega
  ·have hcn:0<cm t b:=by unfold cm; rw [if_neg hn]; omega
   have hbp:0<b:=by omega
   have:0<shB t b:=by
    rcases Int.lt_or_le 0 (shB t b) with h|h
    ·exact h
    ·have:=Int.mul_nonpos_of_nonneg_of_nonpos (Int.le_of_lt hcn) h
     omega
   omega
 ·have e:Int.gcd (cm t b*shT t b) (cm t b*shB t b)=(cm t b).natAbs*Int.gcd (shT t b) (shB t b):=Int.gcd_mul_left ..
  rw [h1,h2,natAbs_cm] at e
  have e2:Int.gcd t b*1=Int.gcd t b*Int.gcd (shT t b) (shB t b):=by omega
  exact (Nat.eq_of_mul_eq_mul_left hg e2).symm
 ·have e:shT t b*(cm t b*shB t b)=(cm t b*shT t b)*shB t b:=by
   rw [← Int.mul_assoc,Int.mul_comm (shT t b)]
  rw [h2,h1] at e
  exact e
theorem dvd_cop {k m n:Int} (h:Int.gcd m k=1) (e:k∣m*n):k∣n:=by
 have e':k.natAbs∣m.natAbs*n.natAbs:=by rw [← Int.natAbs_mul]; exact Int.natAbs_dvd_natAbs.mpr e
 have c:Nat.Coprime k.natAbs m.natAbs:=by
  show Nat.gcd k.natAbs m.natAbs=1
  rw [Nat.gcd_comm]; exact h
 exact Int.natAbs_dvd_natAbs.mp (c.dvd_of_dvd_mul_left e')
open Builtin.Int (intBits)
theorem cm_bits {t b:Int} {m:Nat} (hb:b≠0) (h:intBits b≤m):intBits (cm t b)≤m:=by
 refine intBits_le_of_natAbs ?_ h
 rw [natAbs_cm]
 exact Nat.le_of_dvd (by omega) (Nat.gcd_dvd_right t.natAbs b.natAbs)
theorem shT_bits {t b:Int} {m:Nat} (h:intBits t≤m):intBits (shT t b)≤m:=intBits_fdiv_le h
theorem shB_bits {t b:Int} {m:Nat} (h:intBits b≤m):intBits (shB t b)≤m:=intBits_fdiv_le h
theorem mulok {a b:Int} (ha:intBits a≤4000) (hb:intBits b≤4000):IntMulOk a b :=.of_le ha hb (by decide)
theorem bits_up {x:Int} {m n:Nat} (h:intBits x≤m) (e:m≤n):intBits x≤n:=Nat.le_trans h e
theorem bits64 {x:Int} (h1 : -(2^64)<x) (h2:x<2^64):intBits x≤64:=intBits_le_64 h1 h2
theorem take_snoc {zs:List Int} {i:Nat} {z:Int} (h:zs[i]?=some z):zs.take (i+1)=zs.take i++[z]:=by
 rw [List.take_add_one,h]; rfl
theorem int_get {zs:List Int} {i:Nat} {x:PyData} (h:(zs.map PyData.int)[i]?=some x) : ∃ z,x = .int z∧zs[i]?=some z∧z ∈ zs:=by
 rw [List.getElem?_map] at h
 cases e:zs[i]? with
 | none=>rw [e] at h; cases h
 | some z =>
  rw [e] at h
  exact ⟨z,(Option.some.inj h).symm,rfl,List.mem_of_getElem? e⟩
theorem ints_snoc (xs:List Int) (x:Int):xs.map PyData.int++[PyData.int x]=(xs++[x]).map PyData.int:=by simp
structure Tab (b:Int) (R:List (List Int)) (n:Nat):Prop where
 pos:1≤b
 len : ∀ r ∈ R,r.length=n
 nn : ∀ r ∈ R,∀ x ∈ r,0≤x
 sum : ∀ r ∈ R,r.sum=b
def dRow (r:List Int):PyData :=.list (r.map .int)
def tRow (r:List Int):PyData :=.tuple (r.map .int)
theorem get_mem {α:Type} {l:List α} {i:Nat} {x:α} (h:l[i]?=some x):x ∈ l:=List.mem_of_getElem? h
theorem small_le {n:Nat} (h:n≤1000):n≤sizeLine:=Nat.le_of_lt (small1000 h)
theorem atI_zero {α:Type} (y:α) (l:List α):atI (y::l) 0=some y:=atI_nat (j:=0) rfl
theorem atI_int {α:Type} {l:List α} {i:Int} {x:α} (h0:0≤i) (h:l[i.toNat]?=some x):atI l i=some x:=by
 have:=atI_nat h
 rwa [Int.toNat_of_nonneg h0] at this
theorem iteB {c:Bool} {A B:Prop} (h1:c=true→A) (h2:c=false→B):if c=true then A else B:=by
 cases c with
 | true=>exact iteT (h1 rfl)
 | false=>exact iteF (h2 rfl)
def dRows (R:List (List Int)):PyData :=.list (R.map dRow)
theorem sum_nn : ∀ {r:List Int},(∀ n ∈ r,0≤n)→0≤r.sum
 | [],_=>by simp
 | n::r,h=>by
  rw [List.sum_cons]
  have a:=h n (by simp)
  have b:=sum_nn fun m hm=>h m (List.mem_cons_of_mem _ hm)
  omega
theorem mem_le_sum : ∀ {r:List Int} {x:Int},(∀ n ∈ r,0≤n)→x ∈ r→x≤r.sum
 | n::r,x,h,hx=>by
  rw [List.sum_cons]
  have a:=h n (by simp)
  have b:=sum_nn fun m hm=>h m (List.mem_cons_of_mem _ hm)
  rcases List.mem_cons.mp hx with rfl|hx
  ·omega
  ·have:=mem_le_sum (fun m hm=>h m (List.mem_cons_of_mem _ hm)) hx
   omega
theorem Tab.le {b:Int} {R:List (List Int)} {n:Nat} {r:List Int} {x:Int} (h:Tab b R n) (hr:r ∈ R) (hx:x ∈ r):0≤x∧x≤b :=
 ⟨h.nn r hr x hx,h.sum r hr ▸ mem_le_sum (h.nn r hr) hx⟩
theorem iteY {b:Bool} {A B:Prop} (h:b=true) (k:A):if b=true then A else B:=by rw [h]; exact iteT k
theorem iteZ {b:Bool} {A B:Prop} (h:b=false) (k:B):if b=true then A else B:=by rw [h]; exact iteF k
def gRow (g:Nat) (r:List Int):Nat:=r.foldl (fun (g:Nat) (n:Int)=>Int.gcd g n) g
def gTab (R:List (List Int)):Nat:=R.foldl gRow 0
theorem gRow_dvd_acc : ∀ (r:List Int) (g:Nat),gRow g r∣g
 | [],g=>Nat.dvd_refl _
 | n::r,g=>Nat.dvd_trans (gRow_dvd_acc r (Int.gcd g n)) (by have:=Int.gcd_dvd_natAbs_left (g:Int) n; simpa using this)
theorem gRow_dvd : ∀ (r:List Int) (g:Nat),∀ n ∈ r,(gRow g r:Int)∣n
 | m::r,g,n,h=>by
  rcases List.mem_cons.mp h with rfl|h
  ·exact Int.dvd_trans (Int.natCast_dvd_natCast.mpr (gRow_dvd_acc r (Int.gcd g n))) (Int.gcd_dvd_right ..)
  ·exact gRow_dvd r (Int.gcd g m) n h
theorem gFold_dvd_acc : ∀ (R:List (List Int)) (g:Nat),R.foldl gRow g∣g
 | [],g=>Nat.dvd_refl _
 | r::R,g=>Nat.dvd_trans (gFold_dvd_acc R (gRow g r)) (gRow_dvd_acc r g)
theorem gFold_dvd : ∀ (R:List (List Int)) (g:Nat),∀ r ∈ R,∀ n ∈ r,((R.foldl gRow g:Nat):Int)∣n
 | s::R,g,r,h,n,hn=>by
  rcases List.mem_cons.mp h with rfl|h
  ·exact Int.dvd_trans (Int.natCast_dvd_natCast.mpr (gFold_dvd_acc R (gRow g r))) (gRow_dvd r g n hn)
  ·exact gFold_dvd R (gRow g s) r h n hn
theorem gTab_dvd {R:List (List Int)} {r:List Int} {n:Int} (h:r ∈ R) (hn:n ∈ r):(gTab R:Int)∣n:=gFold_dvd R 0 r h n hn
theorem gRow_mul (k:Nat) : ∀ (r:List Int) (g:Nat),gRow (k*g) (r.map fun n=>(k:Int)*n)=k*gRow g r
 | [],g=>rfl
 | n::r,g=>by
  have e:Int.gcd ((k*g:Nat):Int) ((k:Int)*n)=k*Int.gcd g n:=by
   rw [Int.natCast_mul,Int.gcd_mul_left]; rfl
  show gRow (Int.gcd ((k*g:Nat):Int) ((k:Int)*n)) (r.map fun n=>(k:Int)*n)=_
  rw [e]
  exact gRow_mul k r (Int.gcd g n)
theorem gFold_mul (k:Nat) : ∀ (R:List (List Int)) (g:Nat),(R.map fun r=>r.map fun n=>(k:Int)*n).foldl gRow (k*g)=k*R.foldl gRow g
 | [],g=>rfl
 | r::R,g=>by
  show (R.map fun r=>r.map fun n=>(k:Int)*n).foldl gRow (gRow (k*g) (r.map fun n=>(k:Int)*n))=_
  rw [gRow_mul]
  exact gFold_mul k R (gRow g r)
theorem gTab_mul (k:Nat) (R:List (List Int)):gTab (R.map fun r=>r.map fun n=>(k:Int)*n)=k*gTab R:=gFold_mul k R 0
def divT (R:List (List Int)) (g:Int):List (List Int):=R.map fun r=>r.map fun n=>n/g
theorem map_eq_self {α:Type} {f:α→α} : ∀ {l:List α},(∀ x ∈ l,f x=x)→l.map f=l
 | [],_=>rfl
 | x::l,h=>by rw [List.map_cons,h x (by simp),map_eq_self fun y hy=>h y (List.mem_cons_of_mem _ hy)]
theorem divT_mul {R:List (List Int)}:(divT R (gTab R)).map (fun r=>r.map fun n=>(gTab R:Int)*n)=R:=by
 unfold divT
 rw [List.map_map]
 refine map_eq_self fun r hr=>?_
 show (r.map fun n=>n/(gTab R:Int)).map (fun n=>(gTab R:Int)*n)=r
 rw [List.map_map]
 exact map_eq_self fun n hn=>Int.mul_ediv_cancel' (gTab_dvd hr hn)
theorem gTab_low {R:List (List Int)} (h:0<gTab R):gTab (divT R (gTab R))=1:=by
 have e:=gTab_mul (gTab R) (divT R (gTab R))
 rw [divT_mul] at e
 have e2:gTab R*1=gTab R*gTab (divT R (gTab R)):=by omega
 exact (Nat.eq_of_mul_eq_mul_left h e2).symm
theorem sum_zero : ∀ {r:List Int},(∀ n ∈ r,n=0)→r.sum=0
 | [],_=>rfl
 | n::r,h=>by rw [List.sum_cons,h n (by simp),sum_zero fun m hm=>h m (List.mem_cons_of_mem _ hm)]; rfl
theorem Tab.gpos {b:Int} {R:List (List Int)} {n:Nat} (h:Tab b R n) (hR:R≠[]):0<gTab R:=by
 rcases Nat.eq_zero_or_pos (gTab R) with e|e
 ·exfalso
  obtain ⟨r,R',rfl⟩:=List.exists_cons_of_ne_nil hR
  have h1:=h.sum r (by simp)
  have h2 : ∀ m ∈ r,m=0:=fun m hm=>by
   have:=gTab_dvd (R:=r::R') (by simp) hm
   rw [e] at this
   exact Int.zero_dvd.mp this
  rw [sum_zero h2] at h1
  have:=h.pos
  omega
 ·exact e
theorem sum_dvd {g:Int} : ∀ {r:List Int},(∀ n ∈ r,g∣n)→g∣r.sum
 | [],_=>by simp
 | n::r,h=>by rw [List.sum_cons]; exact Int.dvd_add (h n (by simp)) (sum_dvd fun m hm=>h m (List.mem_cons_of_mem _ hm))
theorem Tab.gdvd {b:Int} {R:List (List Int)} {n:Nat} (h:Tab b R n) (hR:R≠[]):(gTab R:Int)∣b:=by
 obtain ⟨r,R',rfl⟩:=List.exists_cons_of_ne_nil hR
 rw [← h.sum r (by simp)]
 exact sum_dvd fun m hm=>gTab_dvd (by simp) hm
theorem sum_div {g:Int} : ∀ {r:List Int},(∀ n ∈ r,g∣n)→(r.map fun n=>n/g).sum=r.sum/g
 | [],_=>by simp
 | n::r,h=>by
  rw [List.map_cons,List.sum_cons,List.sum_cons,sum_div fun m hm=>h m (List.mem_cons_of_mem _ hm)]
  exact (Int.add_ediv_of_dvd_left (h n (by simp))).symm
theorem Tab.low {b:Int} {R:List (List Int)} {n:Nat} (h:Tab b R n) (hR:R≠[]):Tab (b/gTab R) (divT R (gTab R)) n:=by
 have hp:=h.gpos hR
 have hd:=h.gdvd hR
 have hb:=h.pos
 have hgb:(gTab R:Int)≤b:=Int.le_of_dvd (by omega) hd
 refine ⟨?_,?_,?_,?_⟩
 ·exact (Int.le_ediv_iff_mul_le (by omega)).mpr (by omega)
 ·intro r hr
  obtain ⟨s,hs,rfl⟩:=List.mem_map.mp hr
  rw [List.length_map]; exact h.len s hs
 ·intro r hr x hx
  obtain ⟨s,hs,rfl⟩:=List.mem_map.mp hr
  obtain ⟨y,hy,rfl⟩:=List.mem_map.mp hx
  exact Int.ediv_nonneg (h.nn s hs y hy) (by omega)
 ·intro r hr
  obtain ⟨s,hs,rfl⟩:=List.mem_map.mp hr
  rw [sum_div fun m hm=>gTab_dvd hs hm,h.sum s hs]
theorem gRow_snoc (g:Nat) (r:List Int) (n:Int):gRow g (r++[n])=Int.gcd (gRow g r) n:=by unfold gRow; rw [List.foldl_append]; rfl
theorem gFold_snoc (R:List (List Int)) (r:List Int):gTab (R++[r])=gRow (gTab R) r:=by unfold gTab; rw [List.foldl_append]; rfl
def natD:PyData→Bool
 | .int n=>decide (0≤n)
 | _=>false
def intD:PyData→Int
 | .int n=>n
 | _=>0
def makesRow (d:PyData) (b:Int):Bool:=match seqD d with
 | none=>false
 | some l=>(decide (1≤l.length)&&decide (l.length≤12))&&(l.all natD&&decide ((l.map intD).sum=b))
def lenD (d:PyData):Nat:=((seqD d).getD []).length
def makesTable (bd rd:PyData) (lo hi:Int):Bool:=match bd,seqD rd with
 | .int b,some l=>decide (1≤b)&&((decide (lo≤l.length)&&decide ((l.length:Int)≤hi))&&(l.all (makesRow · b)&&l.all fun r=>lenD r==lenD ((l[0]?).getD .none)))
 | _,_=>false
def RowsD (d:PyData) (R:List (List Int)):Prop := ∃ l,seqD d=some l∧l.map (fun x=>(seqD x).getD [])=R.map (fun r=>r.map PyData.int) ∧ ∀ x ∈ l,(seqD x).isSome=true
theorem RowsD.len {d:PyData} {R:List (List Int)} {l:List PyData} (h:RowsD d R) (e:seqD d=some l):l.length=R.length:=by
 obtain ⟨m,e',h1,_⟩:=h
 rw [e] at e'; cases e'
 have:=congrArg List.length h1
 simpa using this
theorem RowsD.get {d:PyData} {R:List (List Int)} {l:List PyData} {i:Nat} {x:PyData} (h:RowsD d R) (e:seqD d=some l) (hx:l[i]?=some x) : ∃ r,R[i]?=some r∧seqD x=some (r.map .int):=by
 obtain ⟨m,e',h1,h2⟩:=h
 rw [e] at e'; cases e'
 have h3:(l.map fun x=>(seqD x).getD [])[i]?=some ((seqD x).getD []):=by rw [List.getElem?_map,hx]; rfl
 rw [h1,List.getElem?_map] at h3
 obtain ⟨y,hy⟩:=Option.isSome_iff_exists.mp (h2 x (List.mem_of_getElem? hx))
 cases q:R[i]? with
 | none=>rw [q] at h3; cases h3
 | some r =>
  rw [q] at h3
  refine ⟨r,rfl,?_⟩
  rw [hy] at h3 ⊢
  exact h3.symm
theorem RowsD.of {d:PyData} {R:List (List Int)} {f:List PyData→PyData} (hf : ∀ l,seqD (f l)=some l) (e:seqD d=some (R.map fun r=>f (r.map .int))):RowsD d R:=by
 refine ⟨_,e,?_,?_⟩
 ·rw [List.map_map]
  refine List.map_congr_left fun r _=>?_
  simp [hf]
 ·intro x hx
  obtain ⟨r,_,rfl⟩:=List.mem_map.mp hx
  simp [hf]
theorem ints_of_nat : ∀ {l:List PyData},l.all natD=true→l=(l.map intD).map PyData.int ∧ ∀ n ∈ l.map intD,0≤n
 | [],_=>by simp
 | d::l,h=>by
  rw [List.all_cons,Bool.and_eq_true] at h
  obtain ⟨e,g⟩:=ints_of_nat h.2
  cases d with
  | int n =>
   have hn:0≤n:=of_decide_eq_true h.1
   refine ⟨?_,?_⟩
   ·rw [List.map_cons,List.map_cons,← e]; rfl
   ·intro m hm
    rcases List.mem_cons.mp hm with rfl|hm
    ·exact hn
    ·exact g m hm
  | _=>exact absurd h.1 (by simp [natD])
theorem nat_of_ints {ns:List Int} (h : ∀ n ∈ ns,0≤n):(ns.map PyData.int).all natD=true∧(ns.map PyData.int).map intD=ns:=by
 refine ⟨?_,?_⟩
 ·rw [List.all_eq_true]
  intro x hx
  obtain ⟨n,hn,rfl⟩:=List.mem_map.mp hx
  exact decide_eq_true (h n hn)
 ·rw [List.map_map]; exact map_eq_self fun n _=>rfl
theorem makesRow_iff {d:PyData} {b:Int}:makesRow d b=true ↔ ∃ r:List Int,seqD d=some (r.map .int)∧1≤r.length∧r.length≤12∧(∀ n ∈ r,0≤n)∧r.sum=b:=by
 unfold makesRow
 cases h:seqD d with
 | none=>simp
 | some l =>
  simp only [Bool.and_eq_true,decide_eq_true_eq]
  constructor
  ·rintro ⟨⟨h1,h2⟩,h3,h4⟩
   obtain ⟨e,g⟩:=ints_of_nat h3
   exact ⟨l.map intD,by rw [← e],by simpa using h1,by simpa using h2,g,h4⟩
  ·rintro ⟨r,e,h1,h2,h3,h4⟩
   cases e
   obtain ⟨g1,g2⟩:=nat_of_ints h3
   exact ⟨⟨by simpa using h1,by simpa using h2⟩,g1,by rw [g2]; exact h4⟩
theorem makesTable_of {d:PyData} {b lo hi:Int} {R:List (List Int)} {n:Nat} (h:RowsD d R) (hT:Tab b R n) (h1:1≤n) (h2:n≤12) (h3:lo≤R.length) (h4:R.length≤hi):makesTable (.int b) d lo hi=true:=by
 obtain ⟨l,e,_⟩:=id h
 have hl:=h.len e
 have rowOf : ∀ x ∈ l,∃ r ∈ R,seqD x=some (r.map .int):=fun x hx=>by
  obtain ⟨i,hi,rfl⟩:=List.getElem_of_mem hx
  obtain ⟨r,hr,e'⟩:=h.get e (List.getElem?_eq_getElem hi)
  exact ⟨r,List.mem_of_getElem? hr,e'⟩
 have lenOf : ∀ x ∈ l,lenD x=n:=fun x hx=>by
  obtain ⟨r,hr,e'⟩:=rowOf x hx
  unfold lenD
  rw [e']
  simpa using hT.len r hr
 unfold makesTable
 rw [e]
 simp only [Bool.and_eq_true,decide_eq_true_eq,List.all_eq_true,beq_iff_eq]
 refine ⟨hT.pos,⟨by omega,by omega⟩,fun x hx=>?_,fun x hx=>?_⟩
 ·obtain ⟨r,hr,e'⟩:=rowOf x hx
  exact makesRow_iff.mpr ⟨r,e',by rw [hT.len r hr]; exact h1,by rw [hT.len r hr]; exact h2,hT.nn r hr,hT.sum r hr⟩
 ·rw [lenOf x hx]
  cases l with
  | nil=>simp at hx
  | cons y l=>exact (lenOf y (by simp)).symm
def dTab (b:Int) (R:List (List Int)):PyData :=.tuple [.int b,.tuple (R.map tRow)]
theorem rowsD_tup (R:List (List Int)):RowsD (.tuple (R.map tRow)) R:=RowsD.of (f :=.tuple) (fun _=>rfl) rfl
theorem rowsD_lst (R:List (List Int)):RowsD (.list (R.map dRow)) R:=RowsD.of (f :=.list) (fun _=>rfl) rfl
def sp_makes_row:DC
 | [d,.int b],q=>q (.bool (makesRow d b))
 | _,_=>False
theorem sc_makes_row:FnScope ["row","bottom"] ["row","bottom"] (defScope s_makes_row):=⟨rfl,rfl,rfl,by decide +kernel,rfl,by decide +kernel,by decide +kernel⟩
theorem ok_makes_row (F:Def K mg "makes_row" s_makes_row ["row","bottom"]) (T:Txt K mg cs)
 (O_is_whole:Ok P w K mg base "is_whole" 1 ["thing"] (PSp K sp_is_whole))
 : Ok P w K mg base "makes_row" 2 ["row","bottom"] (PSp K sp_makes_row):=by
  refine F.vok sc_makes_row (fun ds q h=>by unfold sp_makes_row at h; split at h; all_goals first|rfl|exact h.elim) fun f cdv A outer s H E hr ds q h=>?_
  match ds,h with
  | [d,.int b],h =>
  refine ⟨_,(vss_cons (vs_if (VW.pt (vw_or (vt_not (vt_val (ve_isi2 T.isinstance_ T.list_ L2.boot_list T.tuple_ L2.boot_tuple (ve_var 0)))) (vw_or1 (vt_not (vt_chain o_le o_le ve_int (ve_callB c_len T.len_ L2.boot_len (va_cons (ve_var 0) va_nil)) (ve_globI T.MOST_SIGNS_)))))) (vss_one (vs_ret ve_bl)) vss_nil)
   (vss_one (vs_ret (ve_and (ve_callB (c_all rfl) T.all_ L2.boot_all (va_cons (vf_fz (vf_comp (caps:=[]) (own:=["number"]) (ix:=[]) rfl ⟨rfl,rfl,rfl,rfl,rfl,rfl⟩ (vi_seq (ve_var 0)) (fun _ _ _ _=>(vg_name (i:=0) (show List.Nodup (["number"]:List Str) by decide))) (fun _ _ _ _=>(ve_and (ve_fn O_is_whole (hr.mono (by decide)) (va_cons (ve_var 0) va_nil)) (ve_one (ve_cmp o_ge (ve_var 0) ve_int)))))) va_nil)) (ve_one (ve_cmp (o_eq hr.units) (ve_callB (c_sum rfl) T.sum_ L2.boot_sum (va_cons (ve_var 0) va_nil)) (ve_var 1))))))),?_⟩
  have h:q (.bool (makesRow d b)):=h
  cases hs:seqD d with
  | none =>
   have e:(isTy "list" d||isTy "tuple" d)=false:=by rw [isi_seq,hs]; rfl
   have h0:makesRow d b=false:=by unfold makesRow; rw [hs]
   rw [h0] at h
   refine iteB (fun _=>?_) (fun z=>?_)
   ·exact h
   ·rw [e] at z; cases z
  | some l =>
   have hm:makesRow d b=((decide (1≤l.length)&&decide (l.length≤12))&&(l.all natD&&decide ((l.map intD).sum=b))):=by unfold makesRow; rw [hs]
   rw [hm] at h
   refine iteB (fun z=>?_) (fun _=>len_seq hs (iteD (fun h1=>iteB (fun h2=>?_) (fun h2=>?_)) (fun h1=>iteT ?_)))
   ·rw [isi_seq,hs] at z; cases z
   ·have e:decide (l.length≤12)=false:=by simp at h2 ⊢; omega
    rw [e,Bool.and_false,Bool.false_and] at h; exact h
   ·have e1:decide (1≤l.length)=true:=by simp; omega
    have e2:decide (l.length≤12)=true:=by simp at h2 ⊢; omega
    rw [e1,e2] at h
    replace h:q (.bool (l.all natD&&decide ((l.map intD).sum=b))):=h
    refine seq_elim hs (comp_by (l.map fun x => .bool (natD x)) (by simp) (small1000 (by simp at e2 ⊢; omega)) (fun e => ∃ s,e=[s]) ⟨_,rfl⟩ ?_ ?_)
    ·rintro i x ys e hx hys ⟨s,rfl⟩
     have hL:(l.map fun x=>PyData.bool (natD x))[i]?=some (.bool (natD x)):=by rw [List.getElem?_map,hx]; rfl
     cases x with
     | int n=>exact ⟨snoc_take hL hys,_,rfl⟩
     | _=>exact ⟨snoc_take hL hys,_,rfl⟩
    ·refine ⟨l.map natD,by rw [List.map_map]; rfl,?_⟩
     have e:(l.map natD).all id=l.all natD:=by rw [List.all_map]; rfl
     rw [e]
     refine iteB (fun z=>?_) (fun z=>?_)
     ·obtain ⟨g1,g2⟩:=ints_of_nat z
      rw [z] at h
      refine sum_seq (ns:=l.map intD) (by rw [hs,← g1]) ⟨rfl,rfl,?_⟩
      have e3:PyData.eqv (.int (l.map intD).sum) (.int b)=decide ((l.map intD).sum=b):=by rw [eqv_int]; exact Bool.beq_eq_decide_eq _ _
      rw [e3]; exact h
     ·rw [z] at h; exact h
   ·have e1:decide (1≤l.length)=false:=decide_eq_false (by omega)
    rw [e1] at h; exact h
def sp_makes_table:DC
 | [bd,rd,.int lo,.int hi],q=>(1≤lo∧hi≤900)∧q (.bool (makesTable bd rd lo hi))
 | _,_=>False
theorem sc_makes_table:FnScope ["bottom","rows","fewest","most"] ["bottom","rows","fewest","most"] (defScope s_makes_table):=⟨rfl,rfl,rfl,by decide +kernel,rfl,by decide +kernel,by decide +kernel⟩
theorem ok_makes_table (F:Def K mg "makes_table" s_makes_table ["bottom","rows","fewest","most"]) (T:Txt K mg cs)
 (O_is_whole:Ok P w K mg base "is_whole" 1 ["thing"] (PSp K sp_is_whole))
 (O_makes_row:Ok P w K mg base "makes_row" 2 ["row","bottom"] (PSp K sp_makes_row))
 : Ok P w K mg base "makes_table" 3 ["bottom","rows","fewest","most"] (PSp K sp_makes_table):=by
  refine F.vok sc_makes_table (fun ds q h=>by unfold sp_makes_table at h; split at h; all_goals first|rfl|exact h.elim) fun f cdv A outer s H E hr ds q h=>?_
  match ds,h with
  | [bd,rd,.int lo,.int hi],⟨⟨h1,h2⟩,h⟩ =>
  refine ⟨_,(vss_cons (vs_if (VW.pt (vw_or (vt_not (vt_val (ve_fn O_is_whole (hr.mono (by decide)) (va_cons (ve_var 0) va_nil)))) (vw_or1 (vt_cmp o_lt (ve_var 0) ve_int)))) (vss_one (vs_ret ve_bl)) vss_nil)
   (vss_cons (vs_if (VW.pt (vw_or (vt_not (vt_val (ve_isi2 T.isinstance_ T.list_ L2.boot_list T.tuple_ L2.boot_tuple (ve_var 1)))) (vw_or1 (vt_not (vt_chain o_le o_le (ve_var 2) (ve_callB c_len T.len_ L2.boot_len (va_cons (ve_var 1) va_nil)) (ve_var 3)))))) (vss_one (vs_ret ve_bl)) vss_nil)
   (vss_cons (vs_if (vt_not (vt_val (ve_callB (c_all rfl) T.all_ L2.boot_all (va_cons (vf_fz (vf_comp (caps:=["bottom"]) (own:=["row"]) (ix:=[0]) rfl ⟨rfl,rfl,rfl,rfl,rfl,rfl⟩ (vi_seq (ve_var 1)) (fun _ _ _ _=>(vg_name (i:=1) (show List.Nodup (["bottom","row"]:List Str) by decide))) (fun _ _ _ _=>(ve_fn O_makes_row (hr.mono (by decide)) (va_cons (ve_var 1) (va_cons (ve_var 0) va_nil)))))) va_nil)))) (vss_one (vs_ret ve_bl)) vss_nil)
   (vss_one (vs_ret (ve_callB (c_all rfl) T.all_ L2.boot_all (va_cons (vf_fz (vf_comp (caps:=["rows"]) (own:=["row"]) (ix:=[1]) rfl ⟨rfl,rfl,rfl,rfl,rfl,rfl⟩ (vi_seq (ve_var 1)) (fun _ _ _ _=>(vg_name (i:=1) (show List.Nodup (["rows","row"]:List Str) by decide))) (fun _ _ _ _=>(ve_cmp (o_eq hr.units) (ve_callB c_len T.len_ L2.boot_len (va_cons (ve_var 1) va_nil)) (ve_callB c_len T.len_ L2.boot_len (va_cons (ve_ix (ve_var 0) ve_int) va_nil)))))) va_nil))))))),?_⟩
  have h:q (.bool (makesTable bd rd lo hi)):=h
  cases bd with
  | int b =>
   refine iteD (fun hb=>?_) (fun hb=>?_)
   ·have e:makesTable (.int b) rd lo hi=false:=by
     unfold makesTable
     cases seqD rd with
     | none=>rfl
     | some l=>show (decide (1≤b)&&_)=false; rw [decide_eq_false (by omega)]; rfl
    rw [e] at h; exact h
   cases hs:seqD rd with
   | none =>
    have e:(isTy "list" rd||isTy "tuple" rd)=false:=by rw [isi_seq,hs]; rfl
    have h0:makesTable (.int b) rd lo hi=false:=by unfold makesTable; rw [hs]
    rw [h0] at h
    refine iteB (fun _=>h) (fun z=>?_)
    rw [e] at z; cases z
   | some l =>
    have hm:makesTable (.int b) rd lo hi=((decide (lo≤l.length)&&decide ((l.length:Int)≤hi))&&(l.all (makesRow · b)&&l.all fun r=>lenD r==lenD ((l[0]?).getD .none))):=by
     unfold makesTable; rw [hs]; show (decide (1≤b)&&_)=_; rw [decide_eq_true (by omega)]; rfl
    rw [hm] at h
    refine iteB (fun z=>?_) (fun _=>len_seq hs (iteD (fun g1=>iteB (fun g2=>?_) (fun g2=>?_)) (fun g1=>iteT ?_)))
    ·rw [isi_seq,hs] at z; cases z
    ·have e:decide ((l.length:Int)≤hi)=false:=by
      cases q:decide ((l.length:Int)≤hi) with
      | false=>rfl
      | true=>rw [q] at g2; cases g2
     rw [e,Bool.and_false,Bool.false_and] at h; exact h
    ·have e2:decide ((l.length:Int)≤hi)=true:=by
      cases q:decide ((l.length:Int)≤hi) with
      | true=>rfl
      | false=>rw [q] at g2; cases g2
     have g3:=of_decide_eq_true e2
     rw [decide_eq_true g1,e2,Bool.true_and,Bool.true_and] at h
     refine seq_elim hs (comp_by (l.map fun x => .bool (makesRow x b)) (by simp) (small1000 (by simp; omega)) (fun e => ∃ s,e=[.val (.int b),s]) ⟨_,rfl⟩ ?_ ?_)
     ·rintro i x ys e hx hys ⟨s,rfl⟩
      exact ⟨snoc_take (by rw [List.getElem?_map,hx]; rfl) hys,_,rfl⟩
     refine ⟨l.map (makesRow · b),by rw [List.map_map]; rfl,?_⟩
     have e:(l.map (makesRow · b)).all id=l.all (makesRow · b):=by rw [List.all_map]; rfl
     rw [e]
     refine iteB (fun z=>?_) (fun z=>?_)
     ·have z':l.all (makesRow · b)=false:=by
       cases q:l.all (makesRow · b) with
       | false=>rfl
       | true=>rw [q] at z; cases z
      rw [z',Bool.false_and] at h; exact h
     ·have z':l.all (makesRow · b)=true:=by
       cases q:l.all (makesRow · b) with
       | true=>rfl
       | false=>rw [q] at z; cases z
      rw [z',Bool.true_and] at h
      have sq : ∀ x ∈ l,seqD x=some ((seqD x).getD []):=fun x hx=>by
       obtain ⟨r,hr,_⟩:=makesRow_iff.mp (List.all_eq_true.mp z' x hx)
       rw [hr]; rfl
      obtain ⟨y,l',rfl⟩ : ∃ y l',l=y::l':=by
       cases l with
       | nil=>simp at g1; omega
       | cons y l'=>exact ⟨y,l',rfl⟩
      refine seq_elim hs (comp_by ((y::l').map fun x => .bool (lenD x==lenD y)) (by simp) (small1000 (by rw [List.length_map]; omega)) (fun e => ∃ s,e=[.val rd,s]) ⟨_,rfl⟩ ?_ ?_)
      ·rintro i x ys e hx hys ⟨s,rfl⟩
       refine len_seq (sq x (get_mem hx)) (ix_seqD hs (atI_zero _ _) (len_seq (sq y (by simp)) ⟨rfl,rfl,?_,_,rfl⟩))
       refine snoc_take ?_ hys
       rw [List.getElem?_map,hx]
       have e3:PyData.eqv (.int ((seqD x).getD []).length) (.int ((seqD y).getD []).length)=(lenD x==lenD y):=by
        rw [eqv_int]; unfold lenD
        rw [Bool.eq_iff_iff]; simp; omega
       rw [e3]; rfl
      ·refine ⟨(y::l').map fun x=>lenD x==lenD y,by rw [List.map_map]; rfl,?_⟩
       have e:((y::l').map fun x=>lenD x==lenD y).all id=(y::l').all fun x=>lenD x==lenD y:=by rw [List.all_map]; rfl
       rw [e]; exact h
    ·rw [decide_eq_false g1,Bool.false_and,Bool.false_and] at h; exact h
  | _=>exact h
def sp_divisor:DC
 | [.int a,.int b],q=>q (.int (Int.gcd a b))
 | _,_=>False
theorem abs_nn (x:Int):0≤(if x<0 then -x else x):=by split <;> omega
theorem sc_divisor:FnScope ["one","other","rest"] ["one","other"] (defScope s_divisor):=⟨rfl,rfl,rfl,by decide +kernel,rfl,by decide +kernel,by decide +kernel⟩
theorem ok_divisor (F:Def K mg "divisor" s_divisor ["one","other"]) (T:Txt K mg cs)
 : Ok P w K mg base "divisor" 1 ["one","other"] (PSp K sp_divisor):=by
  refine F.vok sc_divisor (fun ds q h=>by unfold sp_divisor at h; split at h; all_goals first|rfl|exact h.elim) fun f cdv A outer s H E hr ds q h=>?_
  match ds,h with
  | [.int a,.int b],h =>
  refine ⟨_,(vss_cons (vs_set (i:=0) sc_divisor.nd (ve_callB c_abs T.abs_ L2.boot_abs (va_cons (ve_var 0) va_nil)))
   (vss_cons (vs_set (i:=1) sc_divisor.nd (ve_callB c_abs T.abs_ L2.boot_abs (va_cons (ve_var 1) va_nil)))
   (vss_cons (vs_while (vt_cmp (o_ne hr.units) (ve_var 1) ve_int) (vss_cons (vs_set (i:=2) sc_divisor.nd (ve_op o_mod (ve_var 0) (ve_var 1)))
   (vss_cons (vs_set (i:=0) sc_divisor.nd (ve_var 1))
   (vss_one (vs_set (i:=1) sc_divisor.nd (ve_var 2))))))
   (vss_one (vs_ret (ve_var 0)))))),?_⟩
  refine ⟨fun m e => ∃ x y r,e=[.val (.int x),.val (.int y),r]∧0≤x∧0≤y∧Nat.gcd x.toNat y.toNat=Int.gcd a b∧m=y.toNat,⟨_,_,_,_,rfl,abs_nn a,abs_nn b,gcd_start a b,rfl⟩,?_⟩
  rintro m e ⟨x,y,r,rfl,hx,hy,hg,rfl⟩
  refine ⟨rfl,rfl,ite_ne (fun hne=>?_) (fun he=>?_)⟩
  ·obtain ⟨t1,t2,t3⟩:=gcd_turn hx hy hne hg
   exact ⟨by omega,(x%y).toNat,by omega,y,x%y,_,rfl,hy,t1,t3,rfl⟩
  ·subst he
   have:=gcd_end hx rfl hg
   rw [this]; exact h
def sp_common_divisor (ds:List PyData) (q:PyData→Prop):Prop := ∃ d R,ds=[d]∧RowsD d R∧q (.int (gTab R))
theorem sc_common_divisor:FnScope ["rows","common","row","number"] ["rows"] (defScope s_common_divisor):=⟨rfl,rfl,rfl,by decide +kernel,rfl,by decide +kernel,by decide +kernel⟩
theorem ok_common_divisor (F:Def K mg "common_divisor" s_common_divisor ["rows"]) (T:Txt K mg cs)
 (O_divisor:Ok P w K mg base "divisor" 1 ["one","other"] (PSp K sp_divisor))
 : Ok P w K mg base "common_divisor" 2 ["rows"] (PSp K sp_common_divisor):=by
  refine F.vok sc_common_divisor (by rintro ds q ⟨_,_,h,_⟩; rw [h]; rfl) fun f cdv A outer s H E hr ds q h=>?_
  obtain ⟨d,R,rfl,hR,h⟩:=h
  refine ⟨_,(vss_cons (vs_set (i:=1) sc_common_divisor.nd ve_int)
   (vss_cons (vs_for rfl (vi_seq (ve_var 0)) (vg_name (i:=2) sc_common_divisor.nd) (vss_one (vs_for rfl (vi_seq (ve_var 2)) (vg_name (i:=3) sc_common_divisor.nd) (vss_one (vs_set (i:=1) sc_common_divisor.nd (ve_fn O_divisor (hr.mono (by decide)) (va_cons (ve_var 1) (va_cons (ve_var 3) va_nil))))))))
   (vss_one (vs_ret (ve_var 1))))),?_⟩
  obtain ⟨l,e,_⟩:=id hR
  refine seq_elim e ⟨fun i e => ∃ t1 t2 c,e=[.val d,.val (.int c),t1,t2]∧c=(gTab (R.take i):Int),⟨_,_,_,rfl,rfl⟩,?_,?_⟩
  ·rintro i x e' hx ⟨t1,t2,_,rfl,rfl⟩
   obtain ⟨r,hr,er⟩:=hR.get e hx
   refine seq_elim er ⟨fun j e => ∃ t2 c,e=[.val d,.val (.int c),.val x,t2]∧c=(gRow (gTab (R.take i)) (r.take j):Int),⟨_,_,rfl,rfl⟩,?_,?_⟩
   ·rintro j y e hy ⟨t2,_,rfl,rfl⟩
    obtain ⟨z,rfl,hz,_⟩:=int_get hy
    refine ⟨_,_,rfl,?_⟩
    rw [take_snoc hz,gRow_snoc]
   ·rintro e ⟨t2,_,rfl,rfl⟩
    refine ⟨_,_,_,rfl,?_⟩
    rw [List.length_map,List.take_length,List.take_add_one,hr]
    show _=((gTab (R.take i++[r]):Nat):Int)
    rw [gFold_snoc]
  ·rintro e' ⟨t1,t2,_,rfl,rfl⟩
   rw [hR.len e,List.take_length]
   exact h
def sp_divided (ds:List PyData) (q:PyData→Prop):Prop := ∃ (d:PyData) (r:List Int) (g:Int),ds=[d,.int g]∧(seqD d=some (r.map .int)∧r.length≤900∧0<g∧intBits g≤9000)∧q (tRow (r.map fun n=>n/g))
theorem sc_divided:FnScope ["row","common"] ["row","common"] (defScope s_divided):=⟨rfl,rfl,rfl,by decide +kernel,rfl,by decide +kernel,by decide +kernel⟩
theorem ok_divided (F:Def K mg "divided" s_divided ["row","common"]) (T:Txt K mg cs)
 : Ok P w K mg base "divided" 1 ["row","common"] (PSp K sp_divided):=by
  refine F.vok sc_divided (by rintro ds q ⟨_,_,_,h,_⟩; rw [h]; rfl) fun f cdv A outer s H E hr ds q h=>?_
  obtain ⟨d,r,g,rfl,⟨e,hl,g0,g1⟩,h⟩:=h
  refine ⟨_,(vss_one (vs_ret (ve_callTy c_tuple T.tuple_ L2.boot_tuple (va_cons (vf_fz (vf_comp (caps:=["common"]) (own:=["number"]) (ix:=[1]) rfl ⟨rfl,rfl,rfl,rfl,rfl,rfl⟩ (vi_seq (ve_var 0)) (fun _ _ _ _=>(vg_name (i:=1) (show List.Nodup (["common","number"]:List Str) by decide))) (fun _ _ _ _=>(ve_op o_div (ve_var 1) (ve_var 0))))) va_nil)))),?_⟩
  refine seq_elim e (comp_by ((r.map fun n=>n/g).map .int) (by simp) (small1000 (by simp; omega)) (fun e => ∃ s,e=[.val (.int g),s]) ⟨_,rfl⟩ ?_ h)
  rintro i x ys e hx hys ⟨s,rfl⟩
  obtain ⟨z,rfl,hz,_⟩:=int_get hx
  refine ⟨⟨g0,g1⟩,snoc_take ?_ hys,_,rfl⟩
  rw [List.getElem?_map,List.getElem?_map,hz]; rfl
def sp_lowest_table (ds:List PyData) (q:PyData→Prop):Prop := ∃ (b:Int) (d:PyData) (R:List (List Int)) (n:Nat),ds=[.int b,d]∧(RowsD d R∧Tab b R n∧R≠[]∧R.length≤900∧n≤900∧intBits b≤9000)∧q (dTab (b/gTab R) (divT R (gTab R)))
theorem bits_dvd {g b:Int} {m:Nat} (hb:0<b) (h:g∣b) (hz:intBits b≤m):intBits g≤m:=by
 refine intBits_le_of_natAbs ?_ hz
 exact Nat.le_of_dvd (by omega) (Int.natAbs_dvd_natAbs.mpr h)
theorem sc_lowest_table:FnScope ["bottom","rows","common"] ["bottom","rows"] (defScope s_lowest_table):=⟨rfl,rfl,rfl,by decide +kernel,rfl,by decide +kernel,by decide +kernel⟩
theorem ok_lowest_table (F:Def K mg "lowest_table" s_lowest_table ["bottom","rows"]) (T:Txt K mg cs)
 (O_common_divisor:Ok P w K mg base "common_divisor" 2 ["rows"] (PSp K sp_common_divisor))
 (O_divided:Ok P w K mg base "divided" 1 ["row","common"] (PSp K sp_divided))
 : Ok P w K mg base "lowest_table" 3 ["bottom","rows"] (PSp K sp_lowest_table):=by
  refine F.vok sc_lowest_table (by rintro ds q ⟨_,_,_,_,h,_⟩; rw [h]; rfl) fun f cdv A outer s H E hr ds q h=>?_
  obtain ⟨b,d,R,n,rfl,⟨hR,hT,hn,hl,hn2,hz⟩,h⟩:=h
  refine ⟨_,(vss_cons (vs_set (i:=2) sc_lowest_table.nd (ve_fn O_common_divisor (hr.mono (by decide)) (va_cons (ve_var 1) va_nil)))
   (vss_one (vs_ret (ve_tup (va_cons (ve_op o_div (ve_var 0) (ve_var 2)) (va_cons (ve_callTy c_tuple T.tuple_ L2.boot_tuple (va_cons (vf_fz (vf_comp (caps:=["common"]) (own:=["row"]) (ix:=[2]) rfl ⟨rfl,rfl,rfl,rfl,rfl,rfl⟩ (vi_seq (ve_var 1)) (fun _ _ _ _=>(vg_name (i:=1) (show List.Nodup (["common","row"]:List Str) by decide))) (fun _ _ _ _=>(ve_fn O_divided (hr.mono (by decide)) (va_cons (ve_var 1) (va_cons (ve_var 0) va_nil)))))) va_nil)) va_nil)))))),?_⟩
  have g0:=hT.gpos hn
  have g1:intBits (gTab R:Int)≤9000:=bits_dvd (by have:=hT.pos; omega) (hT.gdvd hn) hz
  refine ⟨d,R,rfl,hR,⟨by omega,g1⟩,?_⟩
  obtain ⟨l,e,_⟩:=id hR
  refine seq_elim e (comp_by ((divT R (gTab R)).map tRow) (by unfold divT; simp [hR.len e]) (small1000 (by unfold divT; simp; omega)) (fun e => ∃ s,e=[.val (.int (gTab R)),s]) ⟨_,rfl⟩ ?_ ⟨szl,h⟩)
  rintro i x ys e' hx hys ⟨s,rfl⟩
  obtain ⟨r,hr,er⟩:=hR.get e hx
  refine ⟨x,r,gTab R,rfl,⟨er,by rw [hT.len r (get_mem hr)]; exact hn2,by omega,g1⟩,snoc_take ?_ hys,_,rfl⟩
  unfold divT
  rw [List.getElem?_map,List.getElem?_map,hr]; rfl
def dotI (a b:List Int):Int:=(List.zipWith (· * ·) a b).sum
def colI (D:List (List Int)) (k:Nat):List Int:=D.map fun r=>(r[k]?).getD 0
theorem col_mem {D:List (List Int)} {k:Nat} {x:Int} (h:x ∈ colI D k):x=0 ∨ ∃ d ∈ D,x ∈ d:=by
 obtain ⟨d,hd,rfl⟩:=List.mem_map.mp h
 cases e:d[k]? with
 | none=>exact .inl (by simp)
 | some y=>exact .inr ⟨d,hd,by simpa using List.mem_of_getElem? e⟩
theorem bits_le {x b:Int} {m:Nat} (h0:0≤x) (h:x≤b) (hz:intBits b≤m):intBits x≤m:=intBits_le_of_natAbs (by omega) hz
theorem Tab.bits {b:Int} {R:List (List Int)} {n m:Nat} {r:List Int} {x:Int} (h:Tab b R n) (hz:intBits b≤m) (hr:r ∈ R) (hx:x ∈ r):intBits x≤m:=bits_le (h.le hr hx).1 (h.le hr hx).2 hz
theorem zip_get {a b:List Int} {i:Nat} {x y:Int} (h1:a[i]?=some x) (h2:b[i]?=some y):(List.zipWith (· * ·) a b)[i]?=some (x*y):=by
 rw [List.getElem?_zipWith,h1,h2]
theorem col_get {D:List (List Int)} {k i:Nat} {d:List Int} {x:Int} (h:D[i]?=some d) (hx:d[k]?=some x):(colI D k)[i]?=some x:=by
 unfold colI
 rw [List.getElem?_map,h]
 simp [hx]
theorem col_len (D:List (List Int)) (k:Nat):(colI D k).length=D.length:=by simp [colI]
structure Gls (b:Int) (R:List (List Int)) (n:Nat):Prop where
 t:Tab b R n
 g:gTab R=1
theorem Tab.gls {b:Int} {R:List (List Int)} {n:Nat} (h:Tab b R n) (hR:R≠[]):Gls (b/gTab R) (divT R (gTab R)) n:=⟨h.low hR,gTab_low (h.gpos hR)⟩
def sp_glass_ofL (ds:List PyData) (q:PyData→Prop):Prop := ∃ (b:Int) (d:PyData) (R:List (List Int)) (n:Nat),ds=[.int b,d]∧(RowsD d R∧Tab b R n∧1≤n∧n≤12∧2≤R.length∧R.length≤4∧intBits b≤9000) ∧ ∀ b' R',Gls b' R' n→b'≤b→R'.length=R.length→b'=b/gTab R→R'=divT R (gTab R)→q (dTab b' R')
theorem sc_glass_of:FnScope ["bottom","rows"] ["bottom","rows"] (defScope s_glass_of):=⟨rfl,rfl,rfl,by decide +kernel,rfl,by decide +kernel,by decide +kernel⟩
theorem ok_glass_of (F:Def K mg "glass_of" s_glass_of ["bottom","rows"]) (T:Txt K mg cs)
 (O_makes_table:Ok P w K mg base "makes_table" 3 ["bottom","rows","fewest","most"] (PSp K sp_makes_table))
 (O_lowest_table:Ok P w K mg base "lowest_table" 3 ["bottom","rows"] (PSp K sp_lowest_table))
 : Ok P w K mg base "glass_of" 4 ["bottom","rows"] (PSp K sp_glass_ofL):=by
  refine F.vok sc_glass_of (by rintro ds q ⟨_,_,_,_,h,_⟩; rw [h]; rfl) fun f cdv A outer s H E hr ds q h=>?_
  obtain ⟨b,d,R,n,rfl,hp,h⟩:=h
  obtain ⟨hR,hT,n1,n2,r1,r2,hz⟩:=hp
  have ne:R≠[]:=fun z=>by rw [z] at r1; simp at r1
  have h':=h _ _ (hT.gls ne) (Int.ediv_le_self _ (by have:=hT.pos; omega)) (by simp [divT]) rfl rfl
  refine ⟨_,(vss_cons (vs_if (vt_not (vt_val (ve_fn O_makes_table (hr.mono (by decide)) (va_cons (ve_var 0) (va_cons (ve_var 1) (va_cons (ve_globI T.FEWEST_STANDS_) (va_cons (ve_globI T.MOST_STANDS_) va_nil))))))) vss_never vss_nil)
   (vss_one (vs_ret (ve_fn O_lowest_table (hr.mono (by decide)) (va_cons (ve_var 0) (va_cons (ve_var 1) va_nil)))))),?_⟩
  refine ⟨⟨by decide,by decide⟩,?_⟩
  rw [makesTable_of hR hT n1 n2 (by omega) (by omega)]
  exact ⟨b,d,R,n,rfl,⟨hR,hT,ne,by omega,by omega,hz⟩,h'⟩
def sp_stands (ds:List PyData) (q:PyData→Prop):Prop := ∃ b R,ds=[dTab b R]∧q (.int (R.length:Nat))
theorem sc_stands:FnScope ["glass"] ["glass"] (defScope s_stands):=⟨rfl,rfl,rfl,by decide +kernel,rfl,by decide +kernel,by decide +kernel⟩
theorem ok_stands (F:Def K mg "stands" s_stands ["glass"]) (T:Txt K mg cs)
 : Ok P w K mg base "stands" 1 ["glass"] (PSp K sp_stands):=by
  refine F.vok sc_stands (by rintro ds q ⟨_,_,h,_⟩; rw [h]; rfl) fun f cdv A outer s H E hr ds q h=>?_
  obtain ⟨b,R,rfl,h⟩:=h
  refine ⟨_,(vss_one (vs_ret (ve_callB c_len T.len_ L2.boot_len (va_cons (ve_ix (ve_var 0) ve_int) va_nil)))),?_⟩
  refine ⟨_,rfl,?_⟩
  have e:(R.map tRow).length=R.length:=by simp
  show q (.int ((R.map tRow).length:Nat))
  rw [e]; exact h
def sp_signs (ds:List PyData) (q:PyData→Prop):Prop := ∃ b r R,ds=[dTab b (r::R)]∧q (.int (r.length:Nat))
theorem sc_signs:FnScope ["glass"] ["glass"] (defScope s_signs):=⟨rfl,rfl,rfl,by decide +kernel,rfl,by decide +kernel,by decide +kernel⟩
theorem ok_signs (F:Def K mg "signs" s_signs ["glass"]) (T:Txt K mg cs)
 : Ok P w K mg base "signs" 1 ["glass"] (PSp K sp_signs):=by
  refine F.vok sc_signs (by rintro ds q ⟨_,_,_,h,_⟩; rw [h]; rfl) fun f cdv A outer s H E hr ds q h=>?_
  obtain ⟨b,r,R,rfl,h⟩:=h
  refine ⟨_,(vss_one (vs_ret (ve_callB c_len T.len_ L2.boot_len (va_cons (ve_ix (ve_ix (ve_var 0) ve_int) ve_int) va_nil)))),?_⟩
  refine ⟨_,rfl,_,atI_zero _ _,?_⟩
  have e:(r.map PyData.int).length=r.length:=by simp
  show q (.int ((r.map PyData.int).length:Nat))
  rw [e]; exact h
def sp_check_alike_stands (ds:List PyData) (q:PyData→Prop):Prop := ∃ b R c S,ds=[dTab b R,dTab c S]∧R.length=S.length∧q .none
theorem sc_check_alike_stands:FnScope ["one","other"] ["one","other"] (defScope s_check_alike_stands):=⟨rfl,rfl,rfl,by decide +kernel,rfl,by decide +kernel,by decide +kernel⟩
theorem ok_check_alike_stands (F:Def K mg "check_alike_stands" s_check_alike_stands ["one","other"]) (T:Txt K mg cs)
 (O_stands:Ok P w K mg base "stands" 1 ["glass"] (PSp K sp_stands))
 : Ok P w K mg base "check_alike_stands" 2 ["one","other"] (PSp K sp_check_alike_stands):=by
  refine F.vok sc_check_alike_stands (by rintro ds q ⟨_,_,_,_,h,_⟩; rw [h]; rfl) fun f cdv A outer s H E hr ds q h=>?_
  obtain ⟨b,R,c,S,rfl,hl,h⟩:=h
  refine ⟨_,(vss_one (vs_if (vt_cmp (o_ne hr.units) (ve_fn O_stands (hr.mono (by decide)) (va_cons (ve_var 0) va_nil)) (ve_fn O_stands (hr.mono (by decide)) (va_cons (ve_var 1) va_nil))) vss_never vss_nil)),?_⟩
  refine ⟨b,R,rfl,c,S,rfl,rfl,rfl,ite_ne (fun z=>?_) (fun _=>h)⟩
  exfalso; apply z; rw [hl]
def sp_first_above (ds:List PyData) (q:PyData→Prop):Prop := ∃ ns:List Int,ds=[.list (ns.map .int)]∧((∀ n ∈ ns,n≤0)→q .none) ∧ ∀ (c:Nat) (x:Int),ns[c]?=some x→0<x→(∀ j y,j<c→ns[j]?=some y→y≤0)→q (.int c)
theorem sc_first_above:FnScope ["numbers","place","number"] ["numbers"] (defScope s_first_above):=⟨rfl,rfl,rfl,by decide +kernel,rfl,by decide +kernel,by decide +kernel⟩
theorem ok_first_above (F:Def K mg "first_above" s_first_above ["numbers"]) (T:Txt K mg cs)
 : Ok P w K mg base "first_above" 1 ["numbers"] (PSp K sp_first_above):=by
  refine F.vok sc_first_above (by rintro ds q ⟨_,h,_⟩; rw [h]; rfl) fun f cdv A outer s H E hr ds q h=>?_
  obtain ⟨ns,rfl,h1,h2⟩:=h
  refine ⟨_,(vss_cons (vs_for rfl (vi_enum T.enumerate_ (ve_var 0)) (vg_tup (n:=2) rfl (vgs_cons (vg_name (i:=1) sc_first_above.nd) (vgs_cons (vg_name (i:=2) sc_first_above.nd) vgs_nil))) (vss_one (vs_if (vt_cmp o_gt (ve_var 2) ve_int) (vss_one (vs_ret (ve_var 1))) vss_nil)))
   (vss_one (vs_ret ve_non))),?_⟩
  refine ⟨fun i e => ∃ t1 t2,e=[.val (.list (ns.map .int)),t1,t2] ∧ ∀ j y,j<i→ns[j]?=some y→y≤0,⟨_,_,rfl,fun j y hj=>by omega⟩,?_,?_⟩
  ·rintro i x e hx ⟨t1,t2,rfl,hI⟩
   obtain ⟨x,hx',rfl⟩:=enumD_inv hx
   obtain ⟨x,rfl,hx',_⟩:=int_get hx'
   refine ⟨rfl,rfl,iteD (fun a=>h2 i x hx' a hI) (fun a=>⟨_,_,rfl,fun j y hj hy=>?_⟩)⟩
   by_cases e:j=i
   ·subst e; rw [hx'] at hy; cases hy; omega
   ·exact hI j y (by omega) hy
  ·rintro e ⟨t1,t2,rfl,hI⟩
   rw [enumD_len,List.length_map] at hI
   refine h1 fun n hn=>?_
   obtain ⟨j,hj,rfl⟩:=List.mem_iff_getElem.mp hn
   exact hI j _ hj (List.getElem?_eq_getElem hj)
def sp_lowest (ds:List PyData) (q:List PyData→Prop):Prop := ∃ ws:List Int,ds=[.list (ws.map .int)]∧(ws.length≤400∧0<gRow 0 ws∧intBits (gRow 0 ws:Int)≤9000)∧q ((ws.map fun x=>x/(gRow 0 ws:Int)).map .int)
theorem sc_lowest:FnScope ["weights","common","weight"] ["weights"] (defScope s_lowest):=⟨rfl,rfl,rfl,by decide +kernel,rfl,by decide +kernel,by decide +kernel⟩
theorem ok_lowest (F:Def K mg "lowest" s_lowest ["weights"]) (T:Txt K mg cs)
 (O_divisor:Ok P w K mg base "divisor" 1 ["one","other"] (PSp K sp_divisor))
 : Ok P w K mg base "lowest" 2 ["weights"] (FSp K sp_lowest):=by
  refine F.vokF sc_lowest (by rintro ds q ⟨_,h,_⟩; rw [h]; rfl) fun f cdv A outer s H E hr ds q h=>?_
  obtain ⟨ws,rfl,⟨hl,g0,g1⟩,h⟩:=h
  refine ⟨_,(vss_cons (vs_set (i:=1) sc_lowest.nd ve_int)
   (vss_cons (vs_for rfl (vi_seq (ve_var 0)) (vg_name (i:=2) sc_lowest.nd) (vss_one (vs_set (i:=1) sc_lowest.nd (ve_fn O_divisor (hr.mono (by decide)) (va_cons (ve_var 1) (va_cons (ve_var 2) va_nil))))))
   (vss_one (vs_retF (vf_comp (caps:=["common"]) (own:=["weight"]) (ix:=[1]) rfl ⟨rfl,rfl,rfl,rfl,rfl,rfl⟩ (vi_seq (ve_var 0)) (fun _ _ _ _=>(vg_name (i:=1) (show List.Nodup (["common","weight"]:List Str) by decide))) (fun _ _ _ _=>(ve_op o_div (ve_var 1) (ve_var 0)))))))),?_⟩
  refine ⟨fun i e => ∃ t c,e=[.val (.list (ws.map .int)),.val (.int c),t]∧c=(gRow 0 (ws.take i):Int),⟨_,_,rfl,rfl⟩,?_,?_⟩
  ·rintro i x e hx ⟨t,_,rfl,rfl⟩
   obtain ⟨x,rfl,hx,_⟩:=int_get hx
   refine ⟨_,_,rfl,?_⟩
   rw [take_snoc hx,gRow_snoc]
  ·rintro e ⟨t,_,rfl,rfl⟩
   rw [List.length_map,List.take_length]
   refine comp_by ((ws.map fun x=>x/(gRow 0 ws:Int)).map .int) (by simp) (small1000 (by simp; omega)) (fun e => ∃ s,e=[.val (.int (gRow 0 ws)),s]) ⟨_,rfl⟩ ?_ ⟨_,rfl,h⟩
   rintro i x ys e hx hys ⟨s,rfl⟩
   obtain ⟨x,rfl,hx,_⟩:=int_get hx
   refine ⟨⟨by omega,g1⟩,snoc_take ?_ hys,_,rfl⟩
   rw [List.getElem?_map,List.getElem?_map,hx]; rfl
def bFs (n d:Int) (Ls:List (List Int)) (ss:List Int):List (Str×PyData):=[("unknowns",.int n),("bottom",.int d),("lines",.list (Ls.map dRow)),("stands_for",.list (ss.map .int))]
def bNm:List Str:=["unknowns","bottom","lines","stands_for"]
def at2 (Ls:List (List Int)) (k j:Nat):Int:=(((Ls[k]?).getD [])[j]?).getD 0
structure Bd (m w:Nat) (Ls:List (List Int)) (ss:List Int):Prop where
 l:Ls.length=m
 s:ss.length=m
 w : ∀ r ∈ Ls,r.length=w
 z : ∀ r ∈ Ls,∀ x ∈ r,intBits x≤2000
theorem Bd.row {m w:Nat} {Ls:List (List Int)} {ss:List Int} (h:Bd m w Ls ss) {k:Int} (h0:0≤k) (h1:k<m) : ∃ r,Ls[k.toNat]?=some r∧atI (Ls.map dRow) k=some (dRow r)∧r.length=w:=by
 have hl:=h.l
 have e:Ls[k.toNat]?=some (Ls[k.toNat]'(by omega)):=List.getElem?_eq_getElem _
 exact ⟨_,e,atI_int h0 (by rw [List.getElem?_map,e]; rfl),h.w _ (List.mem_of_getElem? e)⟩
theorem Bd.at {m w:Nat} {Ls:List (List Int)} {ss:List Int} (h:Bd m w Ls ss) {k j:Nat} {r:List Int} (hr:Ls[k]?=some r) (hj:j<w):r[j]?=some (at2 Ls k j)∧intBits (at2 Ls k j)≤2000:=by
 have hl:=h.w r (List.mem_of_getElem? hr)
 have e:r[j]?=some (r[j]'(by omega)):=List.getElem?_eq_getElem _
 have e2:at2 Ls k j=r[j]'(by omega):=by unfold at2; rw [hr]; show (r[j]?).getD 0=_; rw [e]; rfl
 rw [e2]
 exact ⟨e,h.z r (List.mem_of_getElem? hr) _ (List.getElem_mem _)⟩
theorem ixN_in {l:Nat} {j:Int} (h0:0≤j) (h:j<l):ixN l j=some j.toNat:=by
 unfold ixN
 rw [if_pos h0,if_pos h]
theorem atI_last {α:Type} {l:List α} {x:α} (h:l[l.length-1]?=some x):atI l (-1)=some x:=by
 have h0:0<l.length:=by
  rcases Nat.eq_zero_or_pos l.length with e|e
  ·rw [List.getElem?_eq_none (by omega)] at h; cases h
  ·exact e
 unfold atI ixN
 rw [if_neg (by decide),if_pos (by omega)]
 show l[(-1+(l.length:Int)).toNat]?=some x
 rw [show (-1+(l.length:Int)).toNat=l.length-1 by omega]; exact h
def tightB (Ls:List (List Int)) (ss:List Int) (w k c p:Nat):Bool :=
 decide (at2 Ls k (w-1)*at2 Ls c p<at2 Ls c (w-1)*at2 Ls k p)||(decide (at2 Ls k (w-1)*at2 Ls c p=at2 Ls c (w-1)*at2 Ls k p)&&decide ((ss[k]?).getD 0<(ss[c]?).getD 0))
def Tg (Ls:List (List Int)) (ss:List Int) (w p i r:Nat):Prop:=0<at2 Ls r p ∧ ∀ k,k<i→0<at2 Ls k p →
 at2 Ls r (w-1)*at2 Ls k p≤at2 Ls k (w-1)*at2 Ls r p∧(at2 Ls r (w-1)*at2 Ls k p=at2 Ls k (w-1)*at2 Ls r p→(ss[r]?).getD 0≤(ss[k]?).getD 0)
section
variable {Ls:List (List Int)} {ss:List Int} {w p i r:Nat}
theorem Tg.skip (h:Tg Ls ss w p i r) (hn : ¬ 0<at2 Ls i p):Tg Ls ss w p (i+1) r:=⟨h.1,fun k hk hp=>by
 by_cases e:k=i
 ·subst e; exact (hn hp).elim
 ·exact h.2 k (by omega) hp⟩
theorem Tg.stay (h:Tg Ls ss w p i r) (ht:tightB Ls ss w i r p=false):Tg Ls ss w p (i+1) r:=⟨h.1,fun k hk hp=>by
 by_cases e:k=i
 ·subst e
  unfold tightB at ht
  rw [Bool.or_eq_false_iff,Bool.and_eq_false_iff,decide_eq_false_iff_not,decide_eq_false_iff_not,decide_eq_false_iff_not] at ht
  refine ⟨by omega,fun e=>?_⟩
  rcases ht.2 with z|z
  ·exact (z e.symm).elim
  ·omega
 ·exact h.2 k (by omega) hp⟩
theorem Tg.first (hn : ∀ k,k<i → ¬ 0<at2 Ls k p) (hp:0<at2 Ls i p):Tg Ls ss w p (i+1) i:=⟨hp,fun k hk hp'=>by
 by_cases e:k=i
 ·subst e; exact ⟨Int.le_refl _,fun _=>Int.le_refl _⟩
 ·exact (hn k (by omega) hp').elim⟩
theorem Tg.take (h:Tg Ls ss w p i r) (hp:0<at2 Ls i p) (ht:tightB Ls ss w i r p=true):Tg Ls ss w p (i+1) i:=⟨hp,fun k hk hk'=>by
 by_cases e:k=i
 ·subst e; exact ⟨Int.le_refl _,fun _=>Int.le_refl _⟩
 ·obtain ⟨a,b⟩:=h.2 k (by omega) hk'
  have hr:=h.1
  unfold tightB at ht
  rw [Bool.or_eq_true,Bool.and_eq_true,decide_eq_true_eq,decide_eq_true_eq,decide_eq_true_eq] at ht
  generalize at2 Ls k p=ak at *
  generalize at2 Ls i p=ai at *
  generalize at2 Ls r p=ar at *
  generalize at2 Ls k (w-1)=sk at *
  generalize at2 Ls i (w-1)=si at *
  generalize at2 Ls r (w-1)=sr at *
  have c1:si*ar≤sr*ai:=by omega
  have d1:(si*ar)*ak≤(sr*ai)*ak:=Int.mul_le_mul_of_nonneg_right c1 (by omega)
  have d2:(sr*ak)*ai≤(sk*ar)*ai:=Int.mul_le_mul_of_nonneg_right a (by omega)
  have e1:(sr*ai)*ak=(sr*ak)*ai:=by grind
  have e2:(si*ar)*ak=ar*(si*ak):=by grind
  have e3:(sk*ar)*ai=ar*(sk*ai):=by grind
  refine ⟨Int.le_of_mul_le_mul_left (a:=ar) (by omega) hr,fun e=>?_⟩
  rw [e] at e2
  have g1:(si*ar)*ak=(sr*ai)*ak:=by omega
  have g2:(sr*ak)*ai=(sk*ar)*ai:=by omega
  have g1:=Int.eq_of_mul_eq_mul_right (by omega) g1
  have g2:=Int.eq_of_mul_eq_mul_right (by omega) g2
  have:=b g2
  omega⟩
end
def tn (s:Int):Int:=if s<0 then -1 else 1
def fstL (row:List Int) (s:Int) (k m:Nat):List Int:=(row++(List.range m).map (fun j=>if j=k then 1 else 0)++[s]).map fun x=>tn s*x
def sp_first_line (ds:List PyData) (q:List PyData→Prop):Prop := ∃ (row:List Int) (s:Int) (k m:Nat),ds=[.list (row.map .int),.int s,.int k,.int m]∧(row.length≤400∧m≤400)∧q ((fstL row s k m).map .int)
theorem sc_first_line:FnScope ["row","total","k","many","turned","marks"] ["row","total","k","many"] (defScope s_first_line):=⟨rfl,rfl,rfl,by decide +kernel,rfl,by decide +kernel,by decide +kernel⟩
theorem ok_first_line (F:Def K mg "first_line" s_first_line ["row","total","k","many"]) (T:Txt K mg cs)
 : Ok P w K mg base "first_line" 1 ["row","total","k","many"] (FSp K sp_first_line):=by
  refine F.vokF sc_first_line (by rintro ds q ⟨_,_,_,_,h,_⟩; rw [h]; rfl) fun f cdv A outer s H E hr ds q h=>?_
  obtain ⟨row,s,k,m,rfl,⟨hl,hm⟩,h⟩:=h
  refine ⟨_,(vss_mid (vs_set (i:=4) sc_first_line.nd (ve_ifExp (vt_cmp o_lt (ve_var 1) ve_int) (ve_neg ve_int) ve_int))
   (vss_cons (vs_setC (caps:=["k"]) (own:=["place"]) (ix:=[2]) (i:=5) sc_first_line.nd rfl ⟨rfl,rfl,rfl,rfl,rfl,rfl⟩ (vi_range1 T.range_ (ve_var 3)) (fun _ _ _ _=>(vg_name (i:=1) (show List.Nodup (["k","place"]:List Str) by decide))) (fun _ _ _ _=>(ve_ifExp (vt_cmp (o_eq hr.units) (ve_var 1) (ve_var 0)) ve_int ve_int)))
   (vss_one (vs_retF (vf_comp (caps:=["turned"]) (own:=["number"]) (ix:=[4]) rfl ⟨rfl,rfl,rfl,rfl,rfl,rfl⟩ (vi_seq (vf_fz (vf_cat (vf_fz (vf_cat (vf_fz (vf_callTy c_list T.list_ L2.boot_list (va_cons (ve_var 0) va_nil))) (ve_var 5))) (vf_fz (vf_lst (va_cons (ve_var 1) va_nil)))))) (fun _ _ _ _=>(vg_name (i:=1) (show List.Nodup (["turned","number"]:List Str) by decide))) (fun _ _ _ _=>(ve_op o_mulI (ve_var 0) (ve_var 1)))))))),?_⟩
  refine ⟨fun e=>e=[.val (.list (row.map .int)),.val (.int s),.val (.int k),.val (.int m),.val (.int (tn s)),.non],?_,?_⟩
  ·refine iteD (fun a=>?_) (fun a=>?_)
   ·show _=_; unfold tn; rw [if_pos a]; rfl
   ·show _=_; unfold tn; rw [if_neg a]; rfl
  rintro e rfl
  have hrl:(rngD 0 (m:Int).toNat).length=m:=by rw [rngD_len]; omega
  refine ⟨⟨by omega,by omega⟩,small1000 (by rw [hrl]; omega),fun j ys e=>ys=(((List.range m).map fun j=>if j=k then (1:Int) else 0).map PyData.int).take j ∧ ∃ u,e=[.val (.int k),u],⟨by simp,_,rfl⟩,?_,?_⟩
  ·rintro i x ys e hx ⟨hys,u,rfl⟩
   obtain ⟨hi,rfl⟩:=rngD_inv hx
   have hi':i<m:=by omega
   have ge:(((List.range m).map fun j=>if j=k then (1:Int) else 0).map PyData.int)[i]?=some (.int (if i=k then 1 else 0)):=by
    rw [List.getElem?_map,List.getElem?_map,List.getElem?_range hi']; rfl
   refine ⟨rfl,rfl,ite_eq (fun a=>⟨snoc_take (ge.trans ?_) hys,_,rfl⟩) (fun a=>⟨snoc_take (ge.trans ?_) hys,_,rfl⟩)⟩
   ·rw [if_pos (by omega)]
   ·rw [if_neg (by omega)]
  rintro ys e ⟨hys,u,rfl⟩
  rw [hrl,List.take_of_length_le (by simp)] at hys
  subst hys
  have hall:row.map PyData.int++((List.range m).map fun j=>if j=k then (1:Int) else 0).map PyData.int++[PyData.int s]=(row++((List.range m).map fun j=>if j=k then (1:Int) else 0)++[s]).map PyData.int:=by
   rw [List.map_append,List.map_append]; rfl
  refine ⟨small_le (by simp; omega),szl,small_le (by simp; omega),?_⟩
  refine comp_by ((fstL row s k m).map .int) (by simp [fstL]) (small1000 (by simp [fstL]; omega)) (fun e => ∃ u,e=[.val (.int (tn s)),u]) ⟨_,rfl⟩ ?_ ⟨_,rfl,h⟩
  rintro i x ys e hx hys ⟨u,rfl⟩
  rw [hall] at hx
  obtain ⟨x,rfl,hx,_⟩:=int_get hx
  refine ⟨IntMulOk.of_left (by unfold tn; split <;> decide),snoc_take ?_ hys,_,rfl⟩
  unfold fstL
  rw [List.getElem?_map,List.getElem?_map,hx]; rfl
structure BAt (K:PySem.W.Frag) (C:Addr) (H F:Hp) (a dx qa:Addr) (n:Nat) (d:Int) (Ls:List (List Int)) (ss:List Int) (vl:V):Prop where
 ha:H a=some (.ins C dx [("unknowns",.int n),("bottom",.int d),("lines",vl),("stands_for",.ref qa)])
 hl:Is K F (.list (Ls.map dRow)) vl
 hq:H qa=some (.lst (ss.map V.int))
 fa:F a=none
 fq:F qa=none
theorem BAt.flds {K:PySem.W.Frag} {C:Addr} {H F:Hp} {a dx qa:Addr} {n:Nat} {d:Int} {Ls:List (List Int)} {ss:List Int} {vl:V} (h:BAt K C H F a dx qa n d Ls ss vl) :
 Flds K (upd F qa (.lst (ss.map V.int))) [("unknowns",.int n),("bottom",.int d),("lines",vl),("stands_for",.ref qa)] bNm (bFs n d Ls ss):=by
  have s:Same F (upd F qa (.lst (ss.map V.int))):=same_new h.fq
  refine ⟨rfl,fun f e hm=>?_⟩
  unfold bFs at hm
  simp only [List.mem_cons,List.not_mem_nil,or_false,Prod.mk.injEq] at hm
  rcases hm with ⟨rfl,rfl⟩|⟨rfl,rfl⟩|⟨rfl,rfl⟩|⟨rfl,rfl⟩
  ·exact ⟨_,rfl,is_int _⟩
  ·exact ⟨_,rfl,is_int _⟩
  ·exact ⟨_,rfl,h.hl.mono s⟩
  ·exact ⟨_,rfl,is_lst (SqL.of upd_same) (iss_ints ss)⟩
def bFs3 (n d:Int) (Ls:List (List Int)):List (Str×PyData):=[("unknowns",.int n),("bottom",.int d),("lines",.list (Ls.map dRow))]
theorem BAt.flds3 {K:PySem.W.Frag} {C:Addr} {H F:Hp} {a dx qa:Addr} {n:Nat} {d:Int} {Ls:List (List Int)} {ss:List Int} {vl:V} (h:BAt K C H F a dx qa n d Ls ss vl) :
 Flds K F [("unknowns",.int n),("bottom",.int d),("lines",vl),("stands_for",.ref qa)] bNm (bFs3 n d Ls):=by
  refine ⟨rfl,fun f e hm=>?_⟩
  unfold bFs3 at hm
  simp only [List.mem_cons,List.not_mem_nil,or_false,Prod.mk.injEq] at hm
  rcases hm with ⟨rfl,rfl⟩|⟨rfl,rfl⟩|⟨rfl,rfl⟩
  ·exact ⟨_,rfl,is_int _⟩
  ·exact ⟨_,rfl,is_int _⟩
  ·exact ⟨_,rfl,h.hl⟩
def sgn (i:Nat):Int:=if i%2=0 then 1 else -1
theorem sgn_succ (i:Nat):sgn (i+1) = - sgn i:=by
 unfold sgn
 split <;> split <;> omega
def sumN:Nat→(Nat→Int)→Int
 | 0,_=>0
 | n+1,f=>sumN n f+f n
theorem sumN_congr {f g:Nat→Int} : ∀ {n:Nat},(∀ i,i<n→f i=g i)→sumN n f=sumN n g
 | 0,_=>rfl
 | n+1,h=>by
  show sumN n f+f n=sumN n g+g n
  rw [sumN_congr fun i hi=>h i (by omega),h n (by omega)]
theorem sumN_zero {f:Nat→Int} {n:Nat} (h : ∀ i,i<n→f i=0):sumN n f=0:=by
 induction n with
 | zero=>rfl
 | succ n ih =>
  show sumN n f+f n=0
  rw [ih fun i hi=>h i (by omega),h n (by omega)]; rfl
theorem sumN_lin (k l:Int) (f g:Nat→Int) : ∀ n:Nat,sumN n (fun i=>k*f i+l*g i)=k*sumN n f+l*sumN n g
 | 0=>by show (0:Int)=k*0+l*0; omega
 | n+1=>by
  show sumN n (fun i=>k*f i+l*g i)+(k*f n+l*g n)=k*(sumN n f+f n)+l*(sumN n g+g n)
  rw [sumN_lin k l f g n]; grind
theorem sumN_mul (k:Int) (f:Nat→Int) (n:Nat):sumN n (fun i=>k*f i)=k*sumN n f:=by
 have:=sumN_lin k 0 f (fun _=>0) n
 simpa using this
theorem sumN_add (f g:Nat→Int) (n:Nat):sumN n (fun i=>f i+g i)=sumN n f+sumN n g:=by
 have:=sumN_lin 1 1 f g n
 simpa using this
theorem sumN_one {f:Nat→Int} {n r:Nat} (hr:r<n) (h : ∀ i,i<n→i≠r→f i=0):sumN n f=f r:=by
 induction n with
 | zero=>omega
 | succ n ih =>
  show sumN n f+f n=f r
  by_cases e:r=n
  ·subst e
   rw [sumN_zero fun i hi=>h i (by omega) (by omega)]; omega
  ·rw [ih (by omega) fun i hi=>h i (by omega),h n (by omega) (by omega)]; omega
theorem sumN_two {f:Nat→Int} {n r s:Nat} (hr:r<n) (hs:s<n) (hrs:r≠s) (h : ∀ i,i<n→i≠r→i≠s→f i=0):sumN n f=f r+f s:=by
 have e:sumN n f=sumN n (fun i=>(if i=r then f r else 0)+(if i=s then f s else 0)):=sumN_congr fun i hi=>by
  by_cases e1:i=r
  ·subst e1; rw [if_pos rfl,if_neg hrs]; omega
  ·by_cases e2:i=s
   ·subst e2; rw [if_neg e1,if_pos rfl]; omega
   ·rw [if_neg e1,if_neg e2,h i hi e1 e2]; rfl
 rw [e,sumN_add,sumN_one hr fun i _ z=>if_neg z,sumN_one hs fun i _ z=>if_neg z,if_pos rfl,if_pos rfl]
theorem sumN_alt {f:Nat→Nat→Int} : ∀ n:Nat,(∀ i j,i≤j→j<n→f (j+1) i = - f i j)→sumN (n+1) (fun i=>sumN n (f i))=0
 | 0,_=>rfl
 | n+1,h=>by
  have ih:=sumN_alt n fun i j hi hj=>h i j hi (by omega)
  have e:sumN (n+1) (fun i=>sumN (n+1) (f i))=sumN (n+1) (fun i=>sumN n (f i))+sumN (n+1) (fun i=>f i n):=by
   rw [← sumN_add]; rfl
  have e2:sumN (n+1) (f (n+1)) = - sumN (n+1) (fun i=>f i n):=by
   rw [sumN_congr (g:=fun i => -1*f i n) fun i hi=>by rw [h i n (by omega) (by omega)]; omega,sumN_mul]; omega
  show sumN (n+1) (fun i=>sumN (n+1) (f i))+sumN (n+1) (f (n+1))=0
  rw [e,e2,ih]; omega
def skip (i x:Nat):Nat:=if x<i then x else x+1
theorem skip_lt {i x m:Nat} (h:x<m):skip i x<m+1:=by unfold skip; split <;> omega
theorem skip_skip {i j x:Nat} (h:i≤j):skip (j+1) (skip i x)=skip i (skip j x):=by
 unfold skip
 split <;> split <;> split <;> (try split) <;> omega
def det:Nat→(Nat→Nat→Int)→Int
 | 0,_=>1
 | m+1,a=>sumN (m+1) fun i=>sgn i*a i 0*det m (fun x y=>a (skip i x) (y+1))
theorem det_congr : ∀ {m:Nat} {a b:Nat→Nat→Int},(∀ x y,x<m→y<m→a x y=b x y)→det m a=det m b
 | 0,_,_,_=>rfl
 | m+1,a,b,h=>sumN_congr fun i hi=>by
  rw [h i 0 hi (by omega),det_congr fun x y hx hy=>h (skip i x) (y+1) (skip_lt hx) (by omega)]
def setc (a:Nat→Nat→Int) (y:Nat) (v:Nat→Int):Nat→Nat→Int:=fun x z=>if z=y then v x else a x z
theorem setc_same {a:Nat→Nat→Int} {y:Nat} {v:Nat→Int} {x:Nat}:setc a y v x y=v x:=if_pos rfl
theorem setc_ne {a:Nat→Nat→Int} {y z:Nat} {v:Nat→Int} {x:Nat} (h:z≠y):setc a y v x z=a x z:=if_neg h
theorem det_lin (k l:Int) (u v:Nat→Int) : ∀ {m:Nat} (a:Nat→Nat→Int) {y:Nat},y<m → ∀ (u v:Nat→Int),
 det m (setc a y fun x=>k*u x+l*v x)=k*det m (setc a y u)+l*det m (setc a y v)
  | m+1,a,0,_,u,v=>by
   unfold det
   rw [← sumN_lin]
   refine sumN_congr fun i _=>?_
   have e : ∀ w,(fun x y=>setc a 0 w (skip i x) (y+1))=fun x y=>a (skip i x) (y+1):=fun w=>by
    funext x y; exact setc_ne (by omega)
   rw [e,e,e,setc_same,setc_same,setc_same]; grind
  | m+1,a,y+1,hy,u,v=>by
   unfold det
   rw [← sumN_lin]
   refine sumN_congr fun i _=>?_
   have e : ∀ w:Nat→Int,(fun x z=>setc a (y+1) w (skip i x) (z+1))=setc (fun x z=>a (skip i x) (z+1)) y fun x=>w (skip i x):=fun w=>by
    funext x z
    unfold setc
    by_cases h:z=y
    ·subst h; rw [if_pos rfl,if_pos rfl]
    ·rw [if_neg (by omega),if_neg h]
   rw [e,e,e,setc_ne (by omega),setc_ne (by omega),setc_ne (by omega)]
   rw [det_lin k l u v (fun x z=>a (skip i x) (z+1)) (show y<m by omega) (fun x=>u (skip i x)) (fun x=>v (skip i x))]; grind
theorem det_adj : ∀ {m:Nat} {a:Nat→Nat→Int} {y:Nat},y+1<m→(∀ x,x<m→a x y=a x (y+1))→det m a=0
 | m+2,a,0,_,h=>by
  have e:det (m+2) a=sumN (m+2) (fun i=>sumN (m+1) (fun j=>sgn i*a i 0*(sgn j*a (skip i j) 1*det m (fun x y=>a (skip i (skip j x)) (y+2))))):=by
   show sumN (m+2) _=_
   refine sumN_congr fun i _=>?_
   rw [sumN_mul]; rfl
  rw [e]
  refine sumN_alt (m+1) fun i j hi hj=>?_
  have s1:skip (j+1) i=i:=by unfold skip; rw [if_pos (by omega)]
  have s2:skip i j=j+1:=by unfold skip; rw [if_neg (by omega)]
  rw [s1,s2,sgn_succ,← h i (by omega),← h (j+1) (by omega)]
  have e3:(fun x y=>a (skip (j+1) (skip i x)) (y+2))=fun x y=>a (skip i (skip j x)) (y+2):=by
   funext x y; rw [skip_skip hi]
  rw [e3]; grind
 | m+1,a,y+1,hy,h=>by
  show sumN (m+1) _=0
  refine sumN_zero fun i _=>?_
  rw [det_adj (m:=m) (a:=fun x z=>a (skip i x) (z+1)) (y:=y) (by omega) fun x hx=>h (skip i x) (skip_lt hx)]
  omega
theorem setc_setc {a:Nat→Nat→Int} {y z:Nat} {u v:Nat→Int} (h:y≠z):setc (setc a y u) z v=setc (setc a z v) y u:=by
 funext x t
 unfold setc
 by_cases h1:t=z
 ·by_cases h2:t=y
  ·omega
  ·simp [h1,Ne.symm h]
 ·simp [h1]
theorem setc_self {a:Nat→Nat→Int} {y:Nat}:setc a y (fun x=>a x y)=a:=by
 funext x t
 unfold setc
 by_cases h:t=y
 ·subst h; rw [if_pos rfl]
 ·rw [if_neg h]
theorem swap_of {m:Nat} {a:Nat→Nat→Int} {y z:Nat} (hy:y<m) (hz:z<m) (hyz:y≠z) (h0 : ∀ w:Nat→Int,det m (setc (setc a y w) z w)=0) (u v:Nat→Int) :
 det m (setc (setc a y u) z v) = - det m (setc (setc a y v) z u):=by
  have e:=h0 fun x=>1*u x+1*v x
  rw [det_lin 1 1 u v _ hz] at e
  rw [setc_setc hyz,setc_setc hyz,det_lin 1 1 u v _ hy,det_lin 1 1 u v _ hy,← setc_setc hyz,← setc_setc hyz,← setc_setc hyz,← setc_setc hyz,h0 u,h0 v] at e
  omega
theorem det_two : ∀ (d:Nat) {m:Nat} {a:Nat→Nat→Int} {y:Nat},y+d+1<m→(∀ x,x<m→a x y=a x (y+d+1))→det m a=0
 | 0,m,a,y,hm,h=>det_adj hm h
 | d+1,m,a,y,hm,h=>by
  have h0 : ∀ w:Nat→Int,det m (setc (setc a (y+d+1) w) (y+d+2) w)=0:=fun w=>det_adj (y:=y+d+1) (by omega) fun x _=>by
   rw [setc_ne (by omega),setc_same,setc_same]
  have e:=swap_of (by omega) (by omega) (by omega) h0 (fun x=>a x (y+d+1)) (fun x=>a x (y+d+2))
  rw [setc_self,show setc a (y+d+2) (fun x=>a x (y+d+2))=a from setc_self] at e
  rw [e,det_two d (y:=y) (by omega) fun x hx=>?_]
  ·rfl
  ·rw [setc_ne (by omega),setc_ne (by omega),setc_ne (by omega),setc_same]
   exact h x hx
theorem det_same {m:Nat} {a:Nat→Nat→Int} {y z:Nat} (hy:y<m) (hz:z<m) (hyz:y≠z) (h : ∀ x,x<m→a x y=a x z):det m a=0:=by
 rcases Nat.lt_or_gt_of_ne hyz with g|g
 ·obtain ⟨d,rfl⟩ : ∃ d,z=y+d+1:=⟨z-y-1,by omega⟩
  exact det_two d hz h
 ·obtain ⟨d,rfl⟩ : ∃ d,y=z+d+1:=⟨y-z-1,by omega⟩
  exact det_two d hy fun x hx=>(h x hx).symm
theorem det_swap {m:Nat} {a:Nat→Nat→Int} {y z:Nat} (hy:y<m) (hz:z<m) (hyz:y≠z) (u v:Nat→Int) :
 det m (setc (setc a y u) z v) = - det m (setc (setc a y v) z u) :=
  swap_of hy hz hyz (fun w=>det_same hy hz hyz fun x _=>by rw [setc_ne hyz,setc_same,setc_same]) u v
theorem det_one : ∀ m:Nat,det m (fun x y=>if x=y then 1 else 0)=1
 | 0=>rfl
 | m+1=>by
  show sumN (m+1) _=1
  rw [sumN_one (r:=0) (by omega) fun i _ hi=>by show sgn i*(if i=0 then 1 else 0)*_=0; rw [if_neg hi,Int.mul_zero,Int.zero_mul]]
  have e:(fun x y=>if skip 0 x=y+1 then (1:Int) else 0)=fun x y=>if x=y then 1 else 0:=by
   funext x y
   have:skip 0 x=x+1:=by unfold skip; rw [if_neg (by omega)]
   rw [this]; simp
  rw [e,det_one m]; rfl
theorem det_sum {m:Nat} (a:Nat→Nat→Int) {y:Nat} (hy:y<m) (c:Nat→Int) (w:Nat→Nat→Int) : ∀ n:Nat,
 det m (setc a y fun x=>sumN n fun i=>c i*w i x)=sumN n fun i=>c i*det m (setc a y (w i))
  | 0=>by
   have e:=det_lin 0 0 (fun _=>0) (fun _=>0) a hy (fun _=>0) (fun _=>0)
   simp at e
   exact e
  | n+1=>by
   have e:(fun x=>sumN (n+1) fun i=>c i*w i x)=fun x=>1*(sumN n fun i=>c i*w i x)+c n*w n x:=by
    funext x; show (sumN n fun i=>c i*w i x)+c n*w n x=_; omega
   rw [e,det_lin 1 (c n) (w n) (w n) a hy,det_sum a hy c w n]
   show _=(sumN n fun i=>c i*det m (setc a y (w i)))+c n*det m (setc a y (w n))
   omega
structure InPre (n:Nat) (R:List (List Int)) (b:List Int):Prop where
 l:b.length=R.length
 w : ∀ r ∈ R,r.length=n
 hn:n≤20
 hm:R.length≤24
structure SvPre (n:Nat) (R:List (List Int)) (b:List Int):Prop where
 i:InPre n R b
 n1:1≤n
 m1:1≤R.length
 z : ∀ r ∈ R,∀ x ∈ r,x.natAbs≤20000000
 zb : ∀ x ∈ b,x.natAbs≤20000000
def FitV (n:Nat) (R:List (List Int)) (b:List Int) (vs:List (Int×Int)):Prop:=vs.length=n ∧ ∃ d:Int,0<d∧intBits d≤2000∧(∀ x ∈ vs,Shr x.1 x.2∧0≤x.1∧x.2∣d∧intBits x.1≤2000) ∧
 ∀ k,k<R.length→d*(b[k]?).getD 0=sumN n fun u=>at2 R k u*(((vs[u]?).getD (0,1)).1*(d/((vs[u]?).getD (0,1)).2))
def NoneW (n:Nat) (R:List (List Int)) (b:List Int) (ws:List Int):Prop:=ws.length=R.length∧(∀ j,j<n→(sumN R.length fun l=>at2 R l j*(ws[l]?).getD 0)≤0)∧0<sumN R.length fun l=>(b[l]?).getD 0*(ws[l]?).getD 0
def firstL (R:List (List Int)) (b:List Int):List (List Int):=(List.range R.length).map fun k=>fstL ((R[k]?).getD []) ((b[k]?).getD 0) k R.length
def firstS (m:Nat):List Int:=(List.range m).map fun (k:Nat) => -(m:Int)+k
def initSp (K:PySem.W.Frag) (C:Addr):Sp:=fun vs H Q _ => ∃ (a dx:Addr) (F:Hp) (vr vb:V) (n:Nat) (R:List (List Int)) (b:List Int),vs=[.ref a,.int n,vr,vb]∧H a=some (.ins C dx [])∧F a=none∧Same F H∧Is K F (dRows R) vr∧Is K F (.list (b.map .int)) vb∧InPre n R b ∧
 ∀ F' H' vl qa,H qa=none→GoX a qa F H F' H'→BAt K C H' F' a dx qa n 1 (firstL R b) (firstS R.length) vl→Q .non H'
theorem sc_Board___init__:FnScope ["self","unknowns","rows","sums"] ["self","unknowns","rows","sums"] (defScope s_Board___init__):=⟨rfl,rfl,rfl,by decide +kernel,rfl,by decide +kernel,by decide +kernel⟩
theorem ok_Board___init__ (F:MDef K cs.Board "__init__" "Board.__init__" s_Board___init__ ["self","unknowns","rows","sums"]) (T:Txt K mg cs)
 (O_first_line:Ok P w K mg base "first_line" 1 ["row","total","k","many"] (FSp K sp_first_line))
 : OkM P w K mg base cs.Board "__init__" 2 ["self","unknowns","rows","sums"] (initSp K cs.Board):=by
  obtain ⟨f,fd,Fn,hm,hb⟩:=F.ex
  refine ⟨f,fd,Fn.ok sc_Board___init__ (by rintro vs H Q E ⟨_,_,_,_,_,_,_,_,h,_⟩; rw [h]; rfl) fun cdv A outer s H vs Q E hr h=>?_,hm,hb⟩
  obtain ⟨a,dx,F0,vr,vb,n,R,b,rfl,ha,fa,sm,hR,hbs,hp,kk⟩:=h
  refine ⟨_,pss_cons (ps_fld (pe_var (i:=0) rfl (by first|exact Or.inl rfl|exact Or.inr (Or.inl rfl)|exact Or.inr (Or.inr rfl)) (by decide) (by decide)) (pe_var (i:=1) rfl (by first|exact Or.inl rfl|exact Or.inr (Or.inl rfl)|exact Or.inr (Or.inr rfl)) (by decide) (by decide)) rfl) (pss_cons (ps_fld (pe_var (i:=0) rfl (by first|exact Or.inl rfl|exact Or.inr (Or.inl rfl)|exact Or.inr (Or.inr rfl)) (by decide) (by decide)) pe_int rfl) (pss_cons (ps_fld (pe_var (i:=0) rfl (by first|exact Or.inl rfl|exact Or.inr (Or.inl rfl)|exact Or.inr (Or.inr rfl)) (by decide) (by decide)) (VE.pe (vf_fz (vf_comp (caps:=["rows","sums"]) (own:=["k"]) (ix:=[2,3]) rfl ⟨rfl,rfl,rfl,rfl,rfl,rfl⟩ (vi_range1 T.range_ (ve_callB c_len T.len_ L2.boot_len (va_cons (ve_var 2) va_nil))) (fun _ _ _ _=>(vg_name (i:=2) (show List.Nodup (["rows","sums","k"]:List Str) by decide))) (fun _ _ _ _=>(vf_fz (vf_fn O_first_line (hr.mono (by decide)) (va_cons (ve_ix (ve_var 0) (ve_var 2)) (va_cons (ve_ix (ve_var 1) (ve_var 2)) (va_cons (ve_var 2) (va_cons (ve_callB c_len T.len_ L2.boot_len (va_cons (ve_var 0) va_nil)) va_nil)))))))))) rfl)
   (pss_one (ps_fld (pe_var (i:=0) rfl (by first|exact Or.inl rfl|exact Or.inr (Or.inl rfl)|exact Or.inr (Or.inr rfl)) (by decide) (by decide)) (pe_callTy (call_lrng rfl) rfl T.list_ L2.boot_list (pa_cons (pe_callTy call_rng2 rfl T.range_ L2.boot_rng (pa_cons (pe_un un_neg (pe_callB call_len_seq rfl T.len_ L2.boot_len (pa_cons (pe_var (i:=2) rfl (by first|exact Or.inl rfl|exact Or.inr (Or.inl rfl)|exact Or.inr (Or.inr rfl)) (by decide) (by decide)) pa_nil))) (pa_cons pe_int pa_nil))) pa_nil)) rfl)))),?_⟩
  refine ⟨.int n,rfl,.ref a,rfl,a,cs.Board,dx,[],rfl,ha,T.Board_c,T.Board_n_unknowns,(show 0<1000 by decide),?_⟩
  refine ⟨.ref a,rfl,a,cs.Board,dx,[("unknowns",.int n)],rfl,upd_same,T.Board_c,T.Board_n_bottom,(show 1<1000 by decide),?_⟩
  rw [upd_upd]
  have hm24:=hp.hm
  have sF2 : ∀ o,Same F0 (upd H a o):=fun o c u e=>by rw [upd_ne (ne_of_none e fa)]; exact sm c u e
  have I3:=env_startO (K:=K) (N:=["self","unknowns","rows","sums"]) (nm:=["unknowns","bottom"]) (fs:=[]) (C:=cs.Board) (a:=a) (dx:=dx) (us:=[("unknowns",.int n),("bottom",.int 1)]) (sF2 (.ins cs.Board dx [("unknowns",.int n),("bottom",.int 1)])) upd_same ⟨rfl,fun f d z=>by cases z⟩ (iss_cons (is_int (n:Int)) (iss_cons hR (iss_cons hbs iss_nil)))
  refine ⟨_,_,F0,fun dd e=>dd = .list ((firstL R b).map dRow),I3,?_,fun dd v F5 H5 e5 I5 s5 i5 q5=>?_⟩
  ·have hlen:(R.map dRow).length=R.length:=List.length_map _
   have hrl:(rngD 0 (((R.map dRow).length:Nat):Int).toNat).length=R.length:=by rw [rngD_len,hlen]; omega
   refine ⟨⟨by rw [hlen]; omega,by rw [hlen]; omega⟩,?_⟩
   refine comp_by ((firstL R b).map dRow) (by rw [hrl]; simp [firstL]) (small1000 (by simp [firstL]; omega)) (fun e => ∃ u,e=[.val (dRows R),.val (.list (b.map .int)),u]) ⟨_,rfl⟩ ?_ rfl
   rintro i x ys e hx hys ⟨u,rfl⟩
   obtain ⟨hi,rfl⟩:=rngD_inv hx
   have hi':i<R.length:=by rw [hlen] at hi; omega
   have eR:R[i]?=some ((R[i]?).getD []):=by rw [List.getElem?_eq_getElem hi']; rfl
   have eb:b[i]?=some ((b[i]?).getD 0):=by rw [List.getElem?_eq_getElem (by rw [hp.l]; exact hi')]; rfl
   have lr:=hp.w _ (List.mem_of_getElem? eR)
   have hn20:=hp.hn
   rw [Int.zero_add]
   refine ⟨_,atI_nat (by rw [List.getElem?_map,eR]; rfl),_,atI_nat (by rw [List.getElem?_map,eb]; rfl),(R[i]?).getD [],(b[i]?).getD 0,i,(R.map dRow).length,rfl,⟨by omega,by rw [hlen]; omega⟩,snoc_take ?_ hys,_,rfl⟩
   unfold firstL
   rw [List.getElem?_map,List.getElem?_map,List.getElem?_range hi',hlen]; rfl
  subst q5
  have fa5:F5 a=none:=by
   cases e:F5 a with
   | none=>rfl
   | some o=>rcases I5.new a o e with q|q
             ·have q:F0 a=some o:=q
              rw [fa] at q; cases q
             ·have q:upd H a (.ins cs.Board dx [("unknowns",.int n),("bottom",.int 1)]) a=none:=q
              rw [upd_same] at q; cases q
  have Ha5:=I5.bh a _ upd_same
  refine ⟨.ref a,rfl,a,cs.Board,dx,[("unknowns",.int n),("bottom",.int 1)],rfl,Ha5,T.Board_c,T.Board_n_lines,(show 2<1000 by decide),?_⟩
  obtain ⟨lr,xs,rfl,hsq,hxs⟩:=hR.lst_inv
  have lx:xs.length=R.length:=by rw [hxs.len,List.length_map]
  have s6 : ∀ o,Same F5 (upd H5 a o):=fun o c u e=>by rw [upd_ne (ne_of_none e fa5)]; exact I5.fh c u e
  refine ⟨.ref lr,rfl,lr,xs,rfl,.inl ((s5.trans (s6 _)).seq hsq),xs.length,rfl,_,_,rfl,fun l hl=>?_⟩
  refine ⟨l,-(xs.length:Int),0,rfl,upd_same,⟨by omega,by omega,by decide,by decide⟩,by omega,fun l2 hl2=>?_⟩
  have la:l≠a:=fun z=>by rw [z,upd_same] at hl; cases hl
  have l2l:l2≠l:=fun z=>by rw [z,upd_same] at hl2; cases hl2
  rw [upd_ne l2l] at hl2
  have l2a:l2≠a:=fun z=>by rw [z,upd_same] at hl2; cases hl2
  rw [upd_ne l2a] at hl2
  rw [upd_ne la] at hl
  have hH:H l2=none:=by
   have:=same_none I5.bh hl2
   have this:upd H a _ l2=none:=this
   rw [upd_ne l2a] at this; exact this
  have fl:=same_none I5.fh hl
  have fl2:=same_none I5.fh hl2
  refine ⟨.ref a,rfl,a,cs.Board,dx,[("unknowns",.int n),("bottom",.int 1),("lines",v)],rfl,by rw [upd_ne (Ne.symm l2a),upd_ne (Ne.symm la)]; exact upd_same,T.Board_c,T.Board_n_stands_for,(show 3<1000 by decide),?_⟩
  refine kk F5 _ v l2 hH ⟨s5,fun c o c1 c2 e=>?_,fun c o e=>?_,fun c o e=>?_⟩ ⟨upd_same,i5,?_,fa5,fl2⟩
  ·have h5:H5 c=some o:=I5.bh c o (by show upd H a _ c=_; rw [upd_ne c1]; exact e)
   rw [upd_ne c1,upd_ne c2,upd_ne (ne_of_none h5 hl),upd_ne c1]; exact h5
  ·rw [upd_ne (ne_of_none e fa5),upd_ne (ne_of_none e fl2),upd_ne (ne_of_none e fl),upd_ne (ne_of_none e fa5)]
   exact I5.fh c o e
  ·rcases I5.new c o e with q|q
   ·exact .inl q
   ·have q:upd H a _ c=none:=q
    rw [upd_ne (ne_of_none e fa5)] at q
    exact .inr q
  ·rw [upd_ne l2a,upd_same]
   have e:(0 - -(xs.length:Int)).toNat=R.length:=by omega
   rw [e,lx]
   unfold rngV firstS
   rw [List.map_map]; rfl
theorem setc_again {a:Nat→Nat→Int} {y:Nat} {u v:Nat→Int}:setc (setc a y u) y v=setc a y v:=by
 funext x t
 unfold setc
 by_cases h:t=y
 ·rw [if_pos h,if_pos h]
 ·rw [if_neg h,if_neg h,if_neg h]
theorem setc_congr {m:Nat} {a:Nat→Nat→Int} {y:Nat} {u v:Nat→Int} (h : ∀ x,x<m→u x=v x):det m (setc a y u)=det m (setc a y v) :=
 det_congr fun x z hx _=>by
  unfold setc
  by_cases e:z=y
  ·rw [if_pos e,if_pos e,h x hx]
  ·rw [if_neg e,if_neg e]
structure Brd (m:Nat) (col:Nat→Nat→Int) (B:Nat→Nat→Int) (L:Nat→Nat→Int) (d:Int):Prop where
 pos:0<d
 hd:d=det m B
 hL : ∀ k,k<m → ∀ j,L k j=det m (setc B k (col j))
 hI : ∀ j x,x<m→d*col j x=sumN m fun k=>L k j*B x k
theorem brd_first (m:Nat) (col:Nat→Nat→Int):Brd m col (fun x y=>if x=y then 1 else 0) (fun k j=>col j k) 1 where
 pos:=by omega
 hd:=(det_one m).symm
 hL:=fun k hk j=>by
  have e:det m (setc (fun x y=>if x=y then 1 else 0) k (col j))=det m (setc (fun x y=>if x=y then 1 else 0) k fun x=>sumN m fun i=>col j i*(if x=i then 1 else 0)) :=
   setc_congr fun x hx=>by
    rw [sumN_one hx fun i _ hi=>by rw [if_neg (Ne.symm hi)]; omega,if_pos rfl]; omega
  rw [e,det_sum _ hk (fun i=>col j i) (fun i x=>if x=i then 1 else 0)]
  rw [sumN_one hk fun i hi hik=>?_]
  ·rw [show setc (fun x y=>if x=y then (1:Int) else 0) k (fun x=>if x=k then 1 else 0)=fun x y=>if x=y then 1 else 0 from setc_self (a:=fun x y=>if x=y then (1:Int) else 0),det_one]; omega
  ·rw [det_same hk hi (Ne.symm hik) fun x _=>by rw [setc_same,setc_ne hik]]; omega
 hI:=fun j x hx=>by
  show 1*col j x=sumN m fun k=>col j k*(if x=k then 1 else 0)
  rw [sumN_one hx fun i _ hi=>by rw [if_neg (Ne.symm hi)]; omega,if_pos rfl]; omega
def piv (L:Nat→Nat→Int) (d:Int) (r c:Nat):Nat→Nat→Int:=fun k j=>if k=r then L r j else (L k j*L r c-L k c*L r j)/d
theorem Brd.exact {m:Nat} {col B L:Nat→Nat→Int} {d:Int} (h:Brd m col B L d) {r c:Nat} (hr:r<m) {k j:Nat} (hk:k<m) (hkr:k≠r) :
 d*det m (setc (setc B r (col c)) k (col j))=L k j*L r c-L k c*L r j:=by
  have e1:d*det m (setc (setc B r (col c)) k (col j))=det m (setc (setc B r (col c)) k fun x=>d*col j x):=by
   have:=det_lin d 0 (col j) (col j) (setc B r (col c)) hk (col j) (col j)
   simp at this
   exact this.symm
  rw [e1,setc_congr (v:=fun x=>sumN m fun i=>L i j*B x i) fun x hx=>h.hI j x hx,det_sum _ hk (fun i=>L i j) (fun i x=>B x i)]
  rw [sumN_two hk hr hkr fun i hi hik hir=>?_]
  ·have t1:det m (setc (setc B r (col c)) k fun x=>B x k)=L r c:=by
    rw [h.hL r hr c]
    congr 1
    have:(fun x=>B x k)=fun x=>setc B r (col c) x k:=by funext x; exact (setc_ne hkr).symm
    rw [this,setc_self]
   have t2:det m (setc (setc B r (col c)) k fun x=>B x r) = - L k c:=by
    rw [det_swap hr hk (Ne.symm hkr),setc_self,← h.hL k hk c]
   rw [t1,t2]; grind
  ·rw [det_same hk hi (Ne.symm hik) fun x _=>by rw [setc_same,setc_ne hik,setc_ne hir]]; omega
theorem Brd.next {m:Nat} {col B L:Nat→Nat→Int} {d:Int} (h:Brd m col B L d) {r c:Nat} (hr:r<m) (hp:0<L r c) :
 Brd m col (setc B r (col c)) (piv L d r c) (L r c) ∧ ∀ k,k<m→k≠r → ∀ j,d*piv L d r c k j=L k j*L r c-L k c*L r j:=by
  have hd0:d≠0:=by have:=h.pos; omega
  have ex : ∀ k,k<m→k≠r → ∀ j,piv L d r c k j=det m (setc (setc B r (col c)) k (col j)):=fun k hk hkr j=>by
   unfold piv
   rw [if_neg hkr,← h.exact hr hk hkr,Int.mul_ediv_cancel_left _ hd0]
  have ex2 : ∀ k,k<m→k≠r → ∀ j,d*piv L d r c k j=L k j*L r c-L k c*L r j:=fun k hk hkr j=>by
   rw [ex k hk hkr j,h.exact hr hk hkr]
  refine ⟨⟨hp,h.hL r hr c,fun k hk j=>?_,fun j x hx=>?_⟩,ex2⟩
  ·by_cases e:k=r
   ·subst e
    rw [setc_again,← h.hL k hk j]
    unfold piv; rw [if_pos rfl]
   ·exact ex k hk e j
  ·refine Int.eq_of_mul_eq_mul_left hd0 ?_
   rw [← sumN_mul]
   have t : ∀ k,k<m→d*(piv L d r c k j*setc B r (col c) x k)=(L r c*(L k j*B x k)+(- L r j)*(L k c*B x k))+(if k=r then L r j*(d*col c x) else 0):=fun k hk=>by
    by_cases e:k=r
    ·subst e
     rw [setc_same,if_pos rfl]
     unfold piv
     rw [if_pos rfl]; grind
    ·rw [setc_ne e,if_neg e,← Int.mul_assoc,ex2 k hk e j]; grind
   rw [sumN_congr t,sumN_add,sumN_lin,← h.hI j x hx,← h.hI c x hx,sumN_one hr fun i _ hi=>if_neg hi,if_pos rfl]
   grind
theorem Brd.basic {m:Nat} {col B L:Nat→Nat→Int} {d:Int} (h:Brd m col B L d) {i j:Nat} (hi:i<m) (e : ∀ x,x<m→B x i=col j x) {k:Nat} (hk:k<m) :
 L k j=if k=i then d else 0:=by
  rw [h.hL k hk j,setc_congr (v:=fun x=>B x i) fun x hx=>(e x hx).symm]
  by_cases q:k=i
  ·subst q; rw [if_pos rfl,setc_self,← h.hd]
  ·rw [if_neg q]
   exact det_same hk hi q fun x _=>by rw [setc_same,setc_ne (Ne.symm q)]
theorem Brd.comb {m:Nat} {col B L:Nat→Nat→Int} {d:Int} (h:Brd m col B L d) {j n:Nat} (f:Nat→Int) (at':Nat→Nat) (e : ∀ x,x<m→col j x=sumN n fun l=>f l*col (at' l) x) {k:Nat} (hk:k<m) :
 L k j=sumN n fun l=>f l*L k (at' l):=by
  rw [h.hL k hk j,setc_congr e,det_sum _ hk f (fun l=>col (at' l))]
  exact sumN_congr fun l _=>by rw [h.hL k hk]
theorem sumN_swap (f:Nat→Nat→Int) (n:Nat) : ∀ m:Nat,sumN m (fun i=>sumN n (f i))=sumN n (fun k=>sumN m fun i=>f i k)
 | 0=>(sumN_zero fun _ _=>rfl).symm
 | m+1=>by
  show sumN m (fun i=>sumN n (f i))+sumN n (f m)=sumN n (fun k=>(sumN m fun i=>f i k)+f m k)
  rw [sumN_swap f n m,sumN_add]
theorem sumN_neg {f:Nat→Int} : ∀ {n:Nat},sumN n f<0 → ∃ k,k<n∧f k<0
 | 0,h=>absurd h (by show ¬ (0:Int)<0; omega)
 | n+1,h=>by
  have h':sumN n f+f n<0:=h
  by_cases q:f n<0
  ·exact ⟨n,by omega,q⟩
  ·obtain ⟨k,hk,z⟩:=sumN_neg (f:=f) (n:=n) (by omega)
   exact ⟨k,by omega,z⟩
theorem sumN_pos {f:Nat→Int} : ∀ {n:Nat},0<sumN n f → ∃ k,k<n∧0<f k
 | 0,h=>absurd h (by show ¬ (0:Int)<0; omega)
 | n+1,h=>by
  have h':0<sumN n f+f n:=h
  by_cases q:0<f n
  ·exact ⟨n,by omega,q⟩
  ·obtain ⟨k,hk,z⟩:=sumN_pos (f:=f) (n:=n) (by omega)
   exact ⟨k,by omega,z⟩
theorem sumN_nonneg {f:Nat→Int} : ∀ {n:Nat},(∀ k,k<n→0≤f k)→0≤sumN n f
 | 0,_=>by show (0:Int)≤0; omega
 | n+1,h=>by
  have a:=sumN_nonneg (f:=f) (n:=n) fun k hk=>h k (by omega)
  have b:=h n (by omega)
  show 0≤sumN n f+f n
  omega
structure Sta where
 st:Nat→Int
 L:Nat→Nat→Int
 d:Int
def Bas (col:Nat→Nat→Int) (st:Nat→Int):Nat→Nat→Int:=fun x k=>if st k<0 then (if x=k then 1 else 0) else col (st k).toNat x
structure Good (m n:Nat) (col:Nat→Nat→Int) (b:Sta):Prop where
 brd:Brd m col (Bas col b.st) b.L b.d
 sum : ∀ k,k<m→0≤b.L k (n+m)
 top : ∀ k,k<m→b.st k<n
def lack (m:Nat) (b:Sta) (j:Nat):Int:=sumN m fun k=>if b.st k<0 then b.L k j else 0
structure Stp (m n:Nat) (b:Sta) (c r:Nat) (b':Sta):Prop where
 c1:c<n
 c2:0<lack m b c
 c3 : ∀ j,j<c→lack m b j≤0
 r1:r<m
 r2:0<b.L r c
 r3 : ∀ k,k<m→0<b.L k c→b.L r (n+m)*b.L k c≤b.L k (n+m)*b.L r c
 r4 : ∀ k,k<m→0<b.L k c→b.L r (n+m)*b.L k c=b.L k (n+m)*b.L r c→b.st r≤b.st k
 st:b'.st=fun k=>if k=r then (c:Int) else b.st k
 L:b'.L=piv b.L b.d r c
 d:b'.d=b.L r c
theorem bas_next {col:Nat→Nat→Int} {st:Nat→Int} {r c:Nat}:Bas col (fun k=>if k=r then (c:Int) else st k)=setc (Bas col st) r (col c):=by
 funext x k
 have e1 : ∀ v:Int,(fun k=>if k=r then (c:Int) else st k) k=v→Bas col (fun k=>if k=r then (c:Int) else st k) x k=if v<0 then (if x=k then 1 else 0) else col v.toNat x:=fun v hv=>by
  unfold Bas; rw [hv]
 by_cases e:k=r
 ·rw [e1 c (if_pos e),if_neg (by omega),e,setc_same]; rfl
 ·rw [e1 (st k) (if_neg e),setc_ne e]; rfl
theorem Good.basic {m n:Nat} {col:Nat→Nat→Int} {b:Sta} (h:Good m n col b) {i j:Nat} (hi:i<m) (e:b.st i=(j:Int)) {k:Nat} (hk:k<m):b.L k j=if k=i then b.d else 0 :=
 h.brd.basic hi (fun x _=>by unfold Bas; rw [e,if_neg (by omega)]; rfl) hk
theorem Good.lack0 {m n:Nat} {col:Nat→Nat→Int} {b:Sta} (h:Good m n col b) {i j:Nat} (hi:i<m) (e:b.st i=(j:Int)):lack m b j=0 :=
 sumN_zero fun k hk=>by
  by_cases q:b.st k<0
  ·rw [if_pos q,h.basic hi e hk,if_neg (fun z=>by subst z; omega)]
  ·rw [if_neg q]
theorem Good.next {m n:Nat} {col:Nat→Nat→Int} {b b':Sta} {c r:Nat} (h:Good m n col b) (s:Stp m n b c r b') :
 Good m n col b' ∧ ∀ k,k<m→k≠r → ∀ j,b.d*b'.L k j=b.L k j*b.L r c-b.L k c*b.L r j:=by
  obtain ⟨h1,h2⟩:=h.brd.next s.r1 s.r2
  have e:=bas_next (col:=col) (st:=b.st) (r:=r) (c:=c)
  rw [← s.L] at h2
  refine ⟨⟨?_,fun k hk=>?_,fun k hk=>?_⟩,h2⟩
  ·rw [s.st,e,s.L,s.d]; exact h1
  ·by_cases q:k=r
   ·subst q
    rw [s.L]; unfold piv; rw [if_pos rfl]; exact h.sum k hk
   ·have z:=h2 k hk q (n+m)
    have dp:=h.brd.pos
    have s0:=h.sum k hk
    have s1:=h.sum r s.r1
    have p0:=s.r2
    have:0≤b.d*b'.L k (n+m):=by
     rw [z]
     by_cases g:0<b.L k c
     ·have:=s.r3 k hk g
      have e2:b.L k c*b.L r (n+m)=b.L r (n+m)*b.L k c:=Int.mul_comm ..
      omega
     ·have a1:0≤b.L k (n+m)*b.L r c:=Int.mul_nonneg s0 (by omega)
      have a2:b.L k c*b.L r (n+m)≤0:=Int.mul_nonpos_of_nonpos_of_nonneg (by omega) s1
      omega
    exact Int.nonneg_of_mul_nonneg_right this dp
  ·rw [s.st]
   show (if k=r then (c:Int) else b.st k)<n
   by_cases q:k=r
   ·rw [if_pos q]; have:=s.c1; omega
   ·rw [if_neg q]; exact h.top k hk
theorem lack_id {m n:Nat} {col:Nat→Nat→Int} {a b:Sta} (ha:Good m n col a) (hb:Good m n col b) (same : ∀ k,k<m→(a.st k<0↔b.st k<0)) (e:Nat) :
 a.d*lack m b e=b.d*lack m a e+sumN m fun k=>if a.st k<0 then 0 else a.L k e*lack m b (a.st k).toNat:=by
  have one : ∀ i,i<m→a.d*b.L i e=sumN m fun k=>a.L k e*det m (setc (Bas col b.st) i fun x=>Bas col a.st x k):=fun i hi=>by
   have e1:a.d*b.L i e=det m (setc (Bas col b.st) i fun x=>a.d*col e x):=by
    rw [hb.brd.hL i hi e]
    have:=det_lin a.d 0 (col e) (col e) (Bas col b.st) hi (col e) (col e)
    simp at this
    exact this.symm
   rw [e1,setc_congr (v:=fun x=>sumN m fun k=>a.L k e*Bas col a.st x k) fun x hx=>ha.brd.hI e x hx,det_sum _ hi (fun k=>a.L k e) (fun k x=>Bas col a.st x k)]
  have phi : ∀ i k,i<m→k<m→det m (setc (Bas col b.st) i fun x=>Bas col a.st x k)=if a.st k<0 then (if i=k then b.d else 0) else b.L i (a.st k).toNat:=fun i k hi hk=>by
   by_cases q:a.st k<0
   ·rw [if_pos q]
    have q2:=(same k hk).mp q
    have e2:(fun x=>Bas col a.st x k)=fun x=>Bas col b.st x k:=by
     funext x; unfold Bas; rw [if_pos q,if_pos q2]
    rw [e2]
    by_cases g:i=k
    ·subst g; rw [if_pos rfl,setc_self,← hb.brd.hd]
    ·rw [if_neg g]
     exact det_same hi hk g fun x _=>by rw [setc_same,setc_ne (Ne.symm g)]
   ·rw [if_neg q,hb.brd.hL i hi]
    exact setc_congr fun x _=>by unfold Bas; rw [if_neg q]
  have l1:a.d*lack m b e=sumN m fun i=>sumN m fun k=>if b.st i<0 then a.L k e*(if a.st k<0 then (if i=k then b.d else 0) else b.L i (a.st k).toNat) else 0:=by
   unfold lack
   rw [← sumN_mul]
   refine sumN_congr fun i hi=>?_
   by_cases q:b.st i<0
   ·rw [if_pos q,one i hi]
    exact sumN_congr fun k hk=>by rw [if_pos q,phi i k hi hk]
   ·rw [if_neg q,sumN_zero fun k _=>if_neg q]; omega
  rw [l1,sumN_swap]
  have l2 : ∀ k,k<m→(sumN m fun i=>if b.st i<0 then a.L k e*(if a.st k<0 then (if i=k then b.d else 0) else b.L i (a.st k).toNat) else 0)
   = b.d*(if a.st k<0 then a.L k e else 0)+(if a.st k<0 then 0 else a.L k e*lack m b (a.st k).toNat):=fun k hk=>by
   by_cases q:a.st k<0
   ·rw [if_pos q,if_pos q,sumN_one hk fun i hi hik=>by
     by_cases g:b.st i<0
     ·rw [if_pos g,if_pos q,if_neg hik]; omega
     ·rw [if_neg g],if_pos ((same k hk).mp q),if_pos q,if_pos rfl,Int.mul_comm]; omega
   ·rw [if_neg q,if_neg q]
    unfold lack
    rw [← sumN_mul,Int.mul_zero,Int.zero_add]
    exact sumN_congr fun i _=>by
     by_cases g:b.st i<0
     ·rw [if_pos g,if_pos g,if_neg q]
     ·rw [if_neg g,if_neg g]; omega
  rw [sumN_congr l2,sumN_add,sumN_mul]
  rfl
theorem up_step {Q:Nat→Prop} {a b:Nat} (hab:a≤b) (ha : ¬ Q a) (hb:Q b) : ∃ τ,a≤τ∧τ<b ∧ ¬ Q τ∧Q (τ+1):=by
 induction b with
 | zero =>
  have:a=0:=by omega
  subst this; exact (ha hb).elim
 | succ b ih =>
  by_cases e:a=b+1
  ·subst e; exact (ha hb).elim
  ·by_cases q:Q b
   ·obtain ⟨τ,h1,h2,h3,h4⟩:=ih (by omega) q
    exact ⟨τ,h1,by omega,h3,h4⟩
   ·exact ⟨b,by omega,by omega,q,hb⟩
theorem up_round {Q:Nat→Prop} {T a b:Nat} (hT:Q T↔Q 0) (ha:a≤T) (hb:b≤T) (h1 : ¬ Q a) (h2:Q b) : ∃ τ,τ<T ∧ ¬ Q τ∧Q (τ+1):=by
 by_cases q:a≤b
 ·obtain ⟨τ,_,h,h3,h4⟩:=up_step q h1 h2
  exact ⟨τ,by omega,h3,h4⟩
 ·by_cases q0:Q T
  ·obtain ⟨τ,_,h,h3,h4⟩:=up_step ha h1 q0
   exact ⟨τ,h,h3,h4⟩
  ·have z : ¬ Q 0:=fun z=>q0 (hT.mpr z)
   obtain ⟨τ,_,h,h3,h4⟩:=up_step (Nat.zero_le b) z h2
   exact ⟨τ,by omega,h3,h4⟩
theorem max_of (f:Nat→Nat) : ∀ {T:Nat},0<T → ∃ β,β<T ∧ ∀ τ,τ<T→f τ≤f β
 | 1,_=>⟨0,by omega,fun τ h=>by have:τ=0:=by omega
                                subst this; exact Nat.le_refl _⟩
 | T+2,_=>by
  obtain ⟨β,h1,h2⟩:=max_of f (T:=T+1) (by omega)
  by_cases q:f β≤f (T+1)
  ·refine ⟨T+1,by omega,fun τ h=>?_⟩
   by_cases e:τ=T+1
   ·subst e; exact Nat.le_refl _
   ·exact Nat.le_trans (h2 τ (by omega)) q
  ·refine ⟨β,by omega,fun τ h=>?_⟩
   by_cases e:τ=T+1
   ·subst e; omega
   ·exact h2 τ (by omega)
theorem bland {m n:Nat} {col:Nat→Nat→Int} {b:Nat→Sta} {cs rs:Nat→Nat} {T:Nat} (hT:0<T) (h0:Good m n col (b 0)) (hs : ∀ τ,τ<T→Stp m n (b τ) (cs τ) (rs τ) (b (τ+1)))
 (he : ∀ k,k<m→(b T).st k=(b 0).st k):False:=by
  have G : ∀ τ,τ≤T→Good m n col (b τ):=fun τ=>by
   induction τ with
   | zero=>exact fun _=>h0
   | succ τ ih=>exact fun h=>((ih (by omega)).next (hs τ (by omega))).1
  have bs : ∀ x k,k<m→Bas col (b T).st x k=Bas col (b 0).st x k:=fun x k hk=>by unfold Bas; rw [he k hk]
  have eL : ∀ k,k<m → ∀ j,(b T).L k j=(b 0).L k j:=fun k hk j=>by
   rw [(G T (Nat.le_refl _)).brd.hL k hk,h0.brd.hL k hk]
   exact det_congr fun x y _ hy=>by
    unfold setc
    by_cases e:y=k
    ·rw [if_pos e,if_pos e]
    ·rw [if_neg e,if_neg e,bs x y hy]
  have ed:(b T).d=(b 0).d:=by
   rw [(G T (Nat.le_refl _)).brd.hd,h0.brd.hd]
   exact det_congr fun x y _ hy=>bs x y hy
  have a1 : ∀ τ,τ<T → ∀ k,(b (τ+1)).st k<0→(b τ).st k<0:=fun τ h k z=>by
   rw [(hs τ h).st] at z
   by_cases e:k=rs τ
   ·have z':(if k=rs τ then (cs τ:Int) else (b τ).st k)<0:=z
    rw [if_pos e] at z'; omega
   ·have z':(if k=rs τ then (cs τ:Int) else (b τ).st k)<0:=z
    rw [if_neg e] at z'; exact z'
  have a2 : ∀ i τ,τ+i≤T → ∀ k,(b (τ+i)).st k<0→(b τ).st k<0:=fun i=>by
   induction i with
   | zero=>exact fun τ _ k z=>z
   | succ i ih=>exact fun τ h k z=>ih τ (by omega) k (a1 (τ+i) (by omega) k z)
  have art : ∀ τ,τ≤T → ∀ k,k<m→((b τ).st k<0↔(b 0).st k<0):=fun τ h k hk=>by
   constructor
   ·intro z
    have:=a2 τ 0 (by omega) k (by rw [Nat.zero_add]; exact z)
    exact this
   ·intro z
    rw [← he k hk] at z
    exact a2 (T-τ) τ (by omega) k (by rw [show τ+(T-τ)=T by omega]; exact z)
  have rn : ∀ τ,τ<T → ¬ (b τ).st (rs τ)<0:=fun τ h z=>by
   have z1:=(art τ (by omega) _ (hs τ h).r1).mp z
   have z2:=(art (τ+1) (by omega) _ (hs τ h).r1).mpr z1
   rw [(hs τ h).st] at z2
   have z3:(if rs τ=rs τ then (cs τ:Int) else (b τ).st (rs τ))<0:=z2
   rw [if_pos rfl] at z3; omega
  have lk : ∀ τ,τ<T → ∀ j,(b τ).d*lack m (b (τ+1)) j=lack m (b τ) j*(b τ).L (rs τ) (cs τ)-lack m (b τ) (cs τ)*(b τ).L (rs τ) j:=fun τ h j=>by
   have nx:=((G τ (by omega)).next (hs τ h)).2
   have e1:(b τ).d*lack m (b (τ+1)) j=sumN m fun k=>(b τ).L (rs τ) (cs τ)*(if (b τ).st k<0 then (b τ).L k j else 0)+(- (b τ).L (rs τ) j)*(if (b τ).st k<0 then (b τ).L k (cs τ) else 0):=by
    unfold lack
    rw [← sumN_mul]
    refine sumN_congr fun k hk=>?_
    by_cases q:(b τ).st k<0
    ·have q2:(b (τ+1)).st k<0:=(art (τ+1) (by omega) k hk).mpr ((art τ (by omega) k hk).mp q)
     rw [if_pos q2,if_pos q,if_pos q,nx k hk (fun z=>rn τ h (z ▸ q)) j]; grind
    ·have q2 : ¬ (b (τ+1)).st k<0:=fun z=>q (a1 τ h k z)
     rw [if_neg q2,if_neg q,if_neg q]; grind
   rw [e1,sumN_lin]
   unfold lack
   grind
  have dp : ∀ τ,τ≤T→0<(b τ).d:=fun τ h=>(G τ h).brd.pos
  have mono : ∀ τ,τ≤T→lack m (b τ) (n+m)*(b 0).d≤lack m (b 0) (n+m)*(b τ).d∧((∃ σ,σ<τ∧0<(b σ).L (rs σ) (n+m))→lack m (b τ) (n+m)*(b 0).d<lack m (b 0) (n+m)*(b τ).d):=fun τ=>by
   induction τ with
   | zero=>exact fun _=>⟨Int.le_refl _,fun xx177=>by obtain ⟨σ,h,_⟩:=xx177; exact absurd h (by omega)⟩
   | succ τ ih =>
    intro h
    obtain ⟨i1,i2⟩:=ih (by omega)
    have s:=hs τ (by omega)
    have e:=lk τ (by omega) (n+m)
    rw [← s.d] at e
    have d0:=dp 0 (by omega)
    have d1:=dp τ (by omega)
    have d2:=dp (τ+1) h
    have r0:=(G τ (by omega)).sum (rs τ) s.r1
    have w0:0≤lack m (b τ) (cs τ)*(b τ).L (rs τ) (n+m):=Int.mul_nonneg (by have:=s.c2; omega) r0
    have key:(b τ).d*(lack m (b (τ+1)) (n+m)*(b 0).d)=(lack m (b τ) (n+m)*(b 0).d)*(b (τ+1)).d-(lack m (b τ) (cs τ)*(b τ).L (rs τ) (n+m))*(b 0).d:=by
     rw [← Int.mul_assoc,e]; grind
    have up:(lack m (b τ) (n+m)*(b 0).d)*(b (τ+1)).d≤(lack m (b 0) (n+m)*(b τ).d)*(b (τ+1)).d:=Int.mul_le_mul_of_nonneg_right i1 (by omega)
    have re:(lack m (b 0) (n+m)*(b τ).d)*(b (τ+1)).d=(b τ).d*(lack m (b 0) (n+m)*(b (τ+1)).d):=by grind
    have w1:0≤(lack m (b τ) (cs τ)*(b τ).L (rs τ) (n+m))*(b 0).d:=Int.mul_nonneg w0 (by omega)
    refine ⟨Int.le_of_mul_le_mul_left (a:=(b τ).d) (by omega) d1,fun ⟨σ,h1,h2⟩=>Int.lt_of_mul_lt_mul_left (a:=(b τ).d) ?_ (by omega)⟩
    by_cases q:σ=τ
    ·subst q
     have:0<(lack m (b σ) (cs σ)*(b σ).L (rs σ) (n+m))*(b 0).d:=Int.mul_pos (Int.mul_pos s.c2 h2) d0
     omega
    ·have:=Int.mul_lt_mul_of_pos_right (i2 ⟨σ,by omega,h2⟩) d2
     omega
  have deg : ∀ τ,τ<T→(b τ).L (rs τ) (n+m)=0:=fun τ h=>by
   have r0:=(G τ (by omega)).sum (rs τ) (hs τ h).r1
   by_cases q:0<(b τ).L (rs τ) (n+m)
   ·have z:=(mono T (Nat.le_refl _)).2 ⟨τ,h,q⟩
    have e1:lack m (b T) (n+m)=lack m (b 0) (n+m):=sumN_congr fun k hk=>by rw [he k hk,eL k hk]
    rw [e1,ed] at z
    exact (Int.lt_irrefl _ z).elim
   ·omega
  have zr : ∀ (j:Int) τ,τ<T→(∀ k,k<m→(b τ).st k=j→(b τ).L k (n+m)=0) → ∀ k,k<m→(b (τ+1)).st k=j→(b (τ+1)).L k (n+m)=0:=fun j τ h z k hk e=>by
   have nx:=((G τ (by omega)).next (hs τ h)).2
   by_cases q:k=rs τ
   ·rw [(hs τ h).L]
    unfold piv
    rw [if_pos q]; exact deg τ h
   ·have e':(b τ).st k=j:=by
     rw [(hs τ h).st] at e
     have e2:(if k=rs τ then (cs τ:Int) else (b τ).st k)=j:=e
     rw [if_neg q] at e2; exact e2
    have w:=nx k hk q (n+m)
    rw [z k hk e',deg τ h,Int.zero_mul,Int.mul_zero] at w
    have d1:=dp τ (by omega)
    rcases Int.mul_eq_zero.mp (show (b τ).d*(b (τ+1)).L k (n+m)=0 by omega) with g|g
    ·omega
    ·exact g
  have zr2 : ∀ (j:Int) i τ,τ+i≤T→(∀ k,k<m→(b τ).st k=j→(b τ).L k (n+m)=0) → ∀ k,k<m→(b (τ+i)).st k=j→(b (τ+i)).L k (n+m)=0:=fun j i=>by
   induction i with
   | zero=>exact fun τ _ z=>z
   | succ i ih=>exact fun τ h z=>zr j (τ+i) (by omega) (ih τ (by omega) z)
  have zero : ∀ (j:Int) α β,α≤T→β≤T→(∀ k,k<m→(b β).st k≠j) → ∀ k,k<m→(b α).st k=j→(b α).L k (n+m)=0:=fun j α β ha hb z k hk e=>by
   have z0 : ∀ k,k<m→(b β).st k=j→(b β).L k (n+m)=0:=fun k hk e=>(z k hk e).elim
   have zT : ∀ k,k<m→(b T).st k=j→(b T).L k (n+m)=0:=by
    have:=zr2 j (T-β) β (by omega) z0
    rw [show β+(T-β)=T by omega] at this; exact this
   have zs : ∀ k,k<m→(b 0).st k=j→(b 0).L k (n+m)=0:=fun k hk e=>by rw [← eL k hk]; exact zT k hk (by rw [he k hk]; exact e)
   have:=zr2 j α 0 (by omega) zs
   rw [Nat.zero_add] at this
   exact this k hk e
  obtain ⟨β,hβ,hmax⟩:=max_of cs hT
  let Q:Nat→Nat→Prop:=fun j τ => ∃ k,k<m∧(b τ).st k=(j:Int)
  have QT : ∀ j,Q j T↔Q j 0:=fun j=>⟨fun xx175=>by obtain ⟨k,hk,e⟩:=xx175; exact ⟨k,hk,by rw [← he k hk]; exact e⟩,fun xx174=>by obtain ⟨k,hk,e⟩:=xx174; exact ⟨k,hk,by rw [he k hk]; exact e⟩⟩
  have inn : ∀ j τ,τ<T → ¬ Q j τ→Q j (τ+1)→cs τ=j:=fun j τ h h1 xx173=>by
   obtain ⟨k,hk,e⟩:=xx173
   rw [(hs τ h).st] at e
   have e2:(if k=rs τ then (cs τ:Int) else (b τ).st k)=j:=e
   by_cases q:k=rs τ
   ·rw [if_pos q] at e2; omega
   ·rw [if_neg q] at e2; exact (h1 ⟨k,hk,e2⟩).elim
  have nb : ∀ τ,τ≤T → ∀ j,lack m (b τ) j≠0 → ¬ Q j τ:=fun τ h j z xx172=>by obtain ⟨k,hk,e⟩:=xx172; exact z ((G τ h).lack0 hk e)
  have tn : ¬ Q (cs β) β:=nb β (by omega) _ (by have:=(hs β hβ).c2; omega)
  have tb:Q (cs β) (β+1):=⟨rs β,(hs β hβ).r1,by rw [(hs β hβ).st]; exact if_pos rfl⟩
  obtain ⟨α,hα,o1,o2⟩:=up_round (Q:=fun τ => ¬ Q (cs β) τ) (T:=T) (a:=β+1) (b:=β) (by rw [QT]) (by omega) (by omega) (fun z=>z tb) tn
  have o1:Q (cs β) α:=Classical.byContradiction o1
  obtain ⟨k0,hk0,ek0⟩:=o1
  have er:k0=rs α:=by
   by_cases q:k0=rs α
   ·exact q
   ·refine (o2 ⟨k0,hk0,?_⟩).elim
    rw [(hs α hα).st]
    show (if k0=rs α then (cs α:Int) else (b α).st k0)=_
    rw [if_neg q]; exact ek0
  subst er
  have e1:cs α≤cs β:=hmax α hα
  have e2:cs α≠cs β:=fun z=>nb α (by omega) (cs α) (by have:=(hs α hα).c2; omega) ⟨rs α,hk0,by rw [ek0,z]⟩
  have id:=lack_id (G α (by omega)) (G β (by omega)) (fun k hk=>(art α (by omega) k hk).trans (art β (by omega) k hk).symm) (cs α)
  have p1:0<(b β).d*lack m (b α) (cs α):=Int.mul_pos (dp β (by omega)) (hs α hα).c2
  have p2:(b α).d*lack m (b β) (cs α)≤0:=Int.mul_nonpos_of_nonneg_of_nonpos (by have:=dp α (by omega); omega) ((hs β hβ).c3 (cs α) (by omega))
  obtain ⟨k,hk,hneg⟩:=sumN_neg (show (sumN m fun k=>if (b α).st k<0 then 0 else (b α).L k (cs α)*lack m (b β) ((b α).st k).toNat)<0 by omega)
  by_cases q:(b α).st k<0
  ·rw [if_pos q] at hneg; omega
  ·rw [if_neg q] at hneg
   obtain ⟨j,ej⟩ : ∃ j:Nat,(b α).st k=(j:Int):=⟨((b α).st k).toNat,by omega⟩
   rw [ej] at hneg
   have hneg:(b α).L k (cs α)*lack m (b β) j<0:=hneg
   have jl:lack m (b β) j≠0:=fun z=>by rw [z,Int.mul_zero] at hneg; omega
   have jn:=nb β (by omega) j jl
   obtain ⟨τ,hτ,u1,u2⟩:=up_round (Q:=Q j) (T:=T) (a:=β) (b:=α) (QT j) (by omega) (by omega) jn ⟨k,hk,ej⟩
   have jle:j≤cs β:=by rw [← inn j τ hτ u1 u2]; exact hmax τ hτ
   by_cases jt:j=cs β
   ·subst jt
    have ek:k=rs α:=by
     by_cases g:k=rs α
     ·exact g
     ·have w:=(G α (by omega)).basic hk ej hk
      have w2:=(G α (by omega)).basic hk0 ek0 hk
      rw [if_pos rfl] at w
      rw [if_neg g,w] at w2
      have:=dp α (by omega); omega
    subst ek
    have:=Int.mul_pos (hs α hα).r2 (hs β hβ).c2
    omega
   ·have c3:=(hs β hβ).c3 j (by omega)
    have lp:0<(b α).L k (cs α):=by
     rcases Int.lt_trichotomy 0 ((b α).L k (cs α)) with g|g|g
     ·exact g
     ·rw [← g,Int.zero_mul] at hneg; omega
     ·have:=Int.mul_nonneg_of_nonpos_of_nonpos (Int.le_of_lt g) c3
      omega
    have z1:(b α).L k (n+m)=0:=zero j α β (by omega) (by omega) (fun k' hk' e=>jn ⟨k',hk',e⟩) k hk ej
    have z2:=deg α hα
    have tie:=(hs α hα).r4 k hk lp (by rw [z1,z2,Int.zero_mul,Int.zero_mul])
    rw [ek0,ej] at tie
    omega
theorem zipw_get {α β γ:Type} {g:α→β→γ} {a:List α} {b:List β} {i:Nat} {x:α} {y:β} (h1:a[i]?=some x) (h2:b[i]?=some y):(List.zipWith g a b)[i]?=some (g x y):=by
 rw [List.getElem?_zipWith,h1,h2]
def lackS (Ls:List (List Int)) (ss:List Int) (i j:Nat):Int:=sumN i fun k=>if (ss[k]?).getD 0<0 then at2 Ls k j else 0
def sp_lack (nm:List Str) (fs:List (Str×PyData)) (ds:List PyData) (q:List PyData→Prop):Prop := ∃ (n:Nat) (d:Int) (Ls:List (List Int)) (ss:List Int) (m:Nat),nm=bNm∧fs=bFs n d Ls ss∧ds=[]∧(Bd m (n+m+1) Ls ss∧n≤20∧m≤24)∧q (((List.range (n+m+1)).map (lackS Ls ss m)).map .int)
theorem sc_Board_lack:FnScope ["self","total","line","unknown"] ["self"] (defScope s_Board_lack):=⟨rfl,rfl,rfl,by decide +kernel,rfl,by decide +kernel,by decide +kernel⟩
theorem ok_Board_lack (F:MDef K cs.Board "lack" "Board.lack" s_Board_lack ["self"]) (T:Txt K mg cs)
 : OkM P w K mg base cs.Board "lack" 1 ["self"] (OFSp K cs.Board sp_lack):=by
  refine F.vokF sc_Board_lack (by rintro nm fs ds q ⟨_,_,_,_,_,_,_,h,_⟩; rw [h]; rfl) fun f cdv A outer s H E hr a0 nm fs ds q h=>?_
  obtain ⟨n,d,Ls,ss,m,rfl,rfl,rfl,⟨hB,hn,hm⟩,h⟩:=h
  refine ⟨_,(vss_cons (vs_setCO (caps:=[]) (own:=["number"]) (ix:=[]) (i:=1) sc_Board_lack.nd rfl ⟨rfl,rfl,rfl,rfl,rfl,rfl⟩ (vi_range1 T.range_ (ve_op o_add (ve_op o_add (ve_fld 0 T.Board_c T.Board_n_unknowns) (ve_callB c_len T.len_ L2.boot_len (va_cons (ve_fld 0 T.Board_c T.Board_n_lines) va_nil))) ve_int)) (fun _ _ _ _=>(vg_name (i:=0) (show List.Nodup (["number"]:List Str) by decide))) (fun _ _ _ _=>ve_int))
   (vss_cons (vs_for rfl (vi_zip2 T.zip_ (ve_fld 0 T.Board_c T.Board_n_lines) (ve_fld 0 T.Board_c T.Board_n_stands_for)) (vg_tup (n:=2) rfl (vgs_cons (vg_name (i:=2) sc_Board_lack.nd) (vgs_cons (vg_name (i:=3) sc_Board_lack.nd) vgs_nil))) (vss_one (vs_if (vt_cmp o_lt (ve_var 3) ve_int) (vss_fz 1 (vss_one (vs_setCO (caps:=[]) (own:=["one","other"]) (ix:=[]) (i:=1) sc_Board_lack.nd rfl ⟨rfl,rfl,rfl,rfl,rfl,rfl⟩ (vi_zip2 T.zip_ (ve_var 1) (ve_var 2)) (fun _ _ _ _=>(vg_tup (n:=2) rfl (vgs_cons (vg_name (i:=0) (show List.Nodup (["one","other"]:List Str) by decide)) (vgs_cons (vg_name (i:=1) (show List.Nodup (["one","other"]:List Str) by decide)) vgs_nil)))) (fun _ _ _ _=>(ve_op o_add (ve_var 0) (ve_var 1)))))) vss_nil)))
   (vss_one (vs_retO 1)))),?_⟩
  have hlen:(Ls.map dRow).length=m:=by rw [List.length_map,hB.l]
  refine ⟨rfl,_,rfl,rfl,_,rfl,⟨by rw [hlen]; omega,by rw [hlen]; omega⟩,?_⟩
  have hrl:(rngD 0 ((n:Int)+((Ls.map dRow).length:Nat)+1).toNat).length=n+m+1:=by rw [rngD_len,hlen]; omega
  refine ⟨small1000 (by rw [hrl]; omega),fun k ys e=>ys=(List.replicate (n+m+1) (.int 0)).take k ∧ ∃ u,e=[u],⟨by simp,_,rfl⟩,?_,?_⟩
  ·rintro i x ys e hx ⟨hys,s,rfl⟩
   obtain ⟨hi,rfl⟩:=rngD_inv hx
   rw [hlen] at hi
   exact ⟨snoc_take (by rw [List.getElem?_replicate,if_pos (by omega)]) hys,_,rfl⟩
  rintro ys e ⟨hys,u,rfl⟩
  rw [hrl,List.take_of_length_le (by rw [List.length_replicate]; omega)] at hys
  subst hys
  have nx1 : ∀ i,(ss[i]?).getD 0<0 → ∀ j,lackS Ls ss (i+1) j=lackS Ls ss i j+at2 Ls i j:=fun i a j=>by
   show lackS Ls ss i j+(if _ then _ else _)=_
   rw [if_pos a]
  have nx2 : ∀ i,¬ (ss[i]?).getD 0<0→lackS Ls ss (i+1)=lackS Ls ss i:=fun i a=>by
   funext j
   show lackS Ls ss i j+(if _ then _ else _)=_
   rw [if_neg a]; omega
  refine ⟨rfl,_,rfl,rfl,_,rfl,fun i e => ∃ t1 t2 l,e=[.obj a0 cs.Board bNm (bFs n d Ls ss),.own l,t1,t2]∧l=((List.range (n+m+1)).map (lackS Ls ss i)).map .int,⟨_,_,_,rfl,?_⟩,?_,?_⟩
  ·refine (List.eq_replicate_iff.mpr ⟨by simp,fun x hx=>?_⟩).symm
   obtain ⟨y,hy,rfl⟩:=List.mem_map.mp hx
   obtain ⟨j,_,rfl⟩:=List.mem_map.mp hy
   rfl
  ·rintro i x e hx ⟨t1,t2,l,rfl,rfl⟩
   obtain ⟨x,y,h3,h4,rfl⟩:=zipD_inv hx
   obtain ⟨u,rfl,hu,_⟩:=int_get h4
   obtain ⟨r,er,rfl⟩ : ∃ r,Ls[i]?=some r∧dRow r=x:=by
    rw [List.getElem?_map] at h3
    cases q:Ls[i]? with
    | none=>rw [q] at h3; cases h3
    | some r=>rw [q] at h3; exact ⟨r,rfl,Option.some.inj h3⟩
   have es:(ss[i]?).getD 0=u:=by rw [hu]; rfl
   have lr:r.length=n+m+1:=hB.w r (List.mem_of_getElem? er)
   refine ⟨rfl,rfl,iteD (fun a=>?_) (fun a=>?_)⟩
   ·have hzl:(zipD (((List.range (n+m+1)).map (lackS Ls ss i)).map .int) (r.map .int)).length=n+m+1:=by rw [zipD_len]; simp; omega
    refine ⟨small1000 (by rw [hzl]; omega),fun k ys e=>ys=((((List.range (n+m+1)).map (lackS Ls ss (i+1))).map PyData.int)).take k ∧ ∃ s t,e=[s,t],⟨by simp,_,_,rfl⟩,?_,?_⟩
    rotate_left
    ·rintro ys e ⟨hys,s,t,rfl⟩
     rw [hzl,List.take_of_length_le (by simp)] at hys
     exact ⟨_,_,_,rfl,hys⟩
    rintro j z ys e hz ⟨hys,s,t,rfl⟩
    obtain ⟨x,y,h5,h6,rfl⟩:=zipD_inv hz
    obtain ⟨x,rfl,h5,_⟩:=int_get h5
    obtain ⟨y,rfl,h6,_⟩:=int_get h6
    have hj:j<n+m+1:=by rw [← lr]; exact (List.getElem?_eq_some_iff.mp h6).1
    have e1:x=lackS Ls ss i j:=by
     rw [List.getElem?_map,List.getElem?_range hj] at h5
     exact (Option.some.inj h5).symm
    have e2:y=at2 Ls i j:=by
     have:=(hB.at er hj).1
     rw [h6] at this
     exact Option.some.inj this
    refine ⟨rfl,rfl,snoc_take ?_ hys,_,_,rfl⟩
    rw [List.getElem?_map,List.getElem?_map,List.getElem?_range hj,e1,e2]
    show some (PyData.int (lackS Ls ss (i+1) j))=_
    rw [nx1 i (by rw [es]; exact a) j]
   ·exact ⟨_,_,_,rfl,by rw [nx2 i (by rw [es]; exact a)]⟩
  ·rintro e ⟨t1,t2,l,rfl,rfl⟩
   rw [zipD_len,hlen,List.length_map,hB.s,Nat.min_self]
   exact ⟨_,rfl,h⟩
def sp_is_tighter (nm:List Str) (fs:List (Str×PyData)) (ds:List PyData) (q:PyData→Prop):Prop := ∃ (n d:Int) (Ls:List (List Int)) (ss:List Int) (m w k c p:Nat),nm=bNm∧fs=bFs n d Ls ss∧ds=[.int k,.int c,.int p]∧(Bd m w Ls ss∧k<m∧c<m∧p<w)∧q (.bool (tightB Ls ss w k c p))
theorem sc_Board_is_tighter:FnScope ["self","k","chosen","place","one","other"] ["self","k","chosen","place"] (defScope s_Board_is_tighter):=⟨rfl,rfl,rfl,by decide +kernel,rfl,by decide +kernel,by decide +kernel⟩
theorem ok_Board_is_tighter (F:MDef K cs.Board "is_tighter" "Board.is_tighter" s_Board_is_tighter ["self","k","chosen","place"]) (T:Txt K mg cs)
 : OkM P w K mg base cs.Board "is_tighter" 1 ["self","k","chosen","place"] (OSp K cs.Board sp_is_tighter):=by
  refine F.vok sc_Board_is_tighter (by rintro nm fs ds q ⟨_,_,_,_,_,_,_,_,_,_,_,h,_⟩; rw [h]; rfl) fun f cdv A outer s H E hr a0 nm fs ds q h=>?_
  obtain ⟨n,d,Ls,ss,m,w,k,c,p,rfl,rfl,rfl,⟨hB,hk,hc,hp⟩,h⟩:=h
  refine ⟨_,(vss_cons (vs_set (i:=4) sc_Board_is_tighter.nd (ve_op o_mulI (ve_ix (ve_ix (ve_fld 0 T.Board_c T.Board_n_lines) (ve_var 1)) (ve_neg ve_int)) (ve_ix (ve_ix (ve_fld 0 T.Board_c T.Board_n_lines) (ve_var 2)) (ve_var 3))))
   (vss_cons (vs_set (i:=5) sc_Board_is_tighter.nd (ve_op o_mulI (ve_ix (ve_ix (ve_fld 0 T.Board_c T.Board_n_lines) (ve_var 2)) (ve_neg ve_int)) (ve_ix (ve_ix (ve_fld 0 T.Board_c T.Board_n_lines) (ve_var 1)) (ve_var 3))))
   (vss_one (vs_ret (ve_or (ve_cmp o_lt (ve_var 4) (ve_var 5)) (ve_one (ve_and (ve_cmp (o_eq hr.units) (ve_var 4) (ve_var 5)) (ve_one (ve_cmp o_lt (ve_ix (ve_fld 0 T.Board_c T.Board_n_stands_for) (ve_var 1)) (ve_ix (ve_fld 0 T.Board_c T.Board_n_stands_for) (ve_var 2))))))))))),?_⟩
  obtain ⟨r,er,ar,lr⟩:=hB.row (k:=(k:Int)) (by omega) (by omega)
  obtain ⟨t,et,at',lt⟩:=hB.row (k:=(c:Int)) (by omega) (by omega)
  have er:Ls[k]?=some r:=er
  have et:Ls[c]?=some t:=et
  obtain ⟨r1,r2⟩:=hB.at er (j:=w-1) (by omega)
  obtain ⟨r3,r4⟩:=hB.at er hp
  obtain ⟨t1,t2⟩:=hB.at et (j:=w-1) (by omega)
  obtain ⟨t3,t4⟩:=hB.at et hp
  have gi : ∀ {l:List Int} {j:Nat} {x:Int},l[j]?=some x→(l.map PyData.int)[j]?=some (.int x):=fun e=>by rw [List.getElem?_map,e]; rfl
  have hs:=hB.s
  have sk:ss[k]?=some ((ss[k]?).getD 0):=by rw [List.getElem?_eq_getElem (by omega)]; rfl
  have sc:ss[c]?=some ((ss[c]?).getD 0):=by rw [List.getElem?_eq_getElem (by omega)]; rfl
  refine ⟨rfl,_,rfl,_,ar,.int (at2 Ls k (w-1)),atI_last (by rw [List.length_map,lr]; exact gi r1),rfl,_,rfl,_,at',_,atI_nat (gi t3),mulok (bits_up r2 (by decide)) (bits_up t4 (by decide)),?_⟩
  refine ⟨rfl,_,rfl,_,at',.int (at2 Ls c (w-1)),atI_last (by rw [List.length_map,lt]; exact gi t1),rfl,_,rfl,_,ar,_,atI_nat (gi r3),mulok (bits_up t2 (by decide)) (bits_up r4 (by decide)),?_⟩
  have hq : ∀ b:Bool,b=tightB Ls ss w k c p→q (.bool b):=fun b e=>by rw [e]; exact h
  refine iteD (fun a=>hq _ ?_) (fun a=>?_)
  ·unfold tightB; rw [decide_eq_true a]; rfl
  ·have af:decide (at2 Ls k (w-1)*at2 Ls c p<at2 Ls c (w-1)*at2 Ls k p)=false:=decide_eq_false a
   refine ⟨rfl,rfl,ite_eq (fun e=>?_) (fun e=>hq _ ?_)⟩
   ·refine ⟨rfl,_,rfl,_,atI_nat (gi sk),rfl,_,rfl,_,atI_nat (gi sc),hq _ ?_⟩
    unfold tightB; rw [af,decide_eq_true e]; rfl
   ·unfold tightB; rw [af,decide_eq_false e]; rfl
def sp_tightest (nm:List Str) (fs:List (Str×PyData)) (ds:List PyData) (q:PyData→Prop):Prop := ∃ (n d:Int) (Ls:List (List Int)) (ss:List Int) (m w p:Nat),nm=bNm∧fs=bFs n d Ls ss∧ds=[.int p]∧(Bd m w Ls ss∧p<w∧m≤900 ∧ ∃ k,k<m∧0<at2 Ls k p) ∧ ∀ r,r<m→Tg Ls ss w p m r→q (.int r)
def TgI (Ls:List (List Int)) (ss:List Int) (w p i:Nat) (c:PyData):Prop:=(c = .none ∧ ∀ k,k<i → ¬ 0<at2 Ls k p) ∨ ∃ r:Nat,c = .int r∧r<i∧Tg Ls ss w p i r
theorem sc_Board_tightest:FnScope ["self","place","chosen","k","line"] ["self","place"] (defScope s_Board_tightest):=⟨rfl,rfl,rfl,by decide +kernel,rfl,by decide +kernel,by decide +kernel⟩
theorem ok_Board_tightest (F:MDef K cs.Board "tightest" "Board.tightest" s_Board_tightest ["self","place"]) (T:Txt K mg cs)
 (O_Board_is_tighter:OkM P w K mg base cs.Board "is_tighter" 1 ["self","k","chosen","place"] (OSp K cs.Board sp_is_tighter))
 : OkM P w K mg base cs.Board "tightest" 2 ["self","place"] (OSp K cs.Board sp_tightest):=by
  refine F.vok sc_Board_tightest (by rintro nm fs ds q ⟨_,_,_,_,_,_,_,_,_,h,_⟩; rw [h]; rfl) fun f cdv A outer s H E hr a0 nm fs ds q h=>?_
  obtain ⟨n,d,Ls,ss,m,w,p,rfl,rfl,rfl,⟨hB,hp,hm,k0,hk0,z0⟩,h⟩:=h
  refine ⟨_,(vss_cons (vs_set (i:=2) sc_Board_tightest.nd ve_non)
   (vss_cons (vs_for rfl (vi_enum T.enumerate_ (ve_fld 0 T.Board_c T.Board_n_lines)) (vg_tup (n:=2) rfl (vgs_cons (vg_name (i:=3) sc_Board_tightest.nd) (vgs_cons (vg_name (i:=4) sc_Board_tightest.nd) vgs_nil))) (vss_one (vs_if (VW.pt (vw_and (vt_cmp o_gt (ve_ix (ve_var 4) (ve_var 1)) ve_int) (vw_and1 (VW.pt (vw_or (vt_cmp o_isN (ve_var 2) ve_non) (vw_or1 (vt_val (ve_meth 0 O_Board_is_tighter T.Board_c (hr.mono (by decide)) (va_cons (ve_var 3) (va_cons (ve_var 2) (va_cons (ve_var 1) va_nil))))))))))) (vss_one (vs_set (i:=2) sc_Board_tightest.nd (ve_var 3))) vss_nil)))
   (vss_one (vs_ret (ve_var 2))))),?_⟩
  refine ⟨rfl,_,rfl,fun i e => ∃ t1 t2 c,e=[.obj a0 cs.Board bNm (bFs n d Ls ss),.val (.int p),.val c,t1,t2]∧TgI Ls ss w p i c,⟨_,_,_,rfl,.inl ⟨rfl,fun k hk=>by omega⟩⟩,?_,?_⟩
  ·rintro i x e hx ⟨t1,t2,c,rfl,hI⟩
   obtain ⟨x,hx',rfl⟩:=enumD_inv hx
   clear hx
   obtain ⟨r,er,rfl⟩ : ∃ r,Ls[i]?=some r∧dRow r=x:=by
    rw [List.getElem?_map] at hx'
    cases q:Ls[i]? with
    | none=>rw [q] at hx'; cases hx'
    | some r=>rw [q] at hx'; exact ⟨r,rfl,Option.some.inj hx'⟩
   have him:i<m:=by rw [← hB.l]; exact (List.getElem?_eq_some_iff.mp er).1
   obtain ⟨r3,_⟩:=hB.at er hp
   refine ⟨rfl,rfl,_,atI_nat (by rw [List.getElem?_map,r3]; rfl),?_⟩
   refine iteD (fun a=>?_) (fun a=>?_)
   ·rcases hI with ⟨rfl,z⟩|⟨r',rfl,hr',ht⟩
    ·exact ⟨rfl,_,_,_,rfl,.inr ⟨i,rfl,by omega,Tg.first z a⟩⟩
    ·refine ⟨rfl,rfl,rfl,rfl,n,d,Ls,ss,m,w,i,r',p,rfl,rfl,rfl,⟨hB,him,by omega,hp⟩,iteB (fun t=>?_) (fun t=>?_)⟩
     ·exact ⟨_,_,_,rfl,.inr ⟨i,rfl,by omega,ht.take a t⟩⟩
     ·exact ⟨_,_,_,rfl,.inr ⟨r',rfl,by omega,ht.stay t⟩⟩
   ·refine ⟨_,_,_,rfl,?_⟩
    rcases hI with ⟨rfl,z⟩|⟨r',rfl,hr',ht⟩
    ·exact .inl ⟨rfl,fun k hk=>by
      by_cases e:k=i
      ·subst e; exact a
      ·exact z k (by omega)⟩
    ·exact .inr ⟨r',rfl,by omega,ht.skip a⟩
  ·rintro e ⟨t1,t2,c,rfl,hI⟩
   rw [enumD_len,List.length_map,hB.l] at hI
   rcases hI with ⟨_,z⟩|⟨r,rfl,hr',ht⟩
   ·exact (z k0 hk0 z0).elim
   ·exact h r hr' ht
def clrI (r t:List Int) (p:Nat) (d:Int):List Int:=List.zipWith (fun x y=>(x*(t[p]?).getD 0-(r[p]?).getD 0*y)/d) r t
def sp_cleared (ds:List PyData) (q:List PyData→Prop):Prop := ∃ (r t:List Int) (p:Nat) (d:Int),ds=[.list (r.map .int),.list (t.map .int),.int p,.int d]∧(r.length=t.length∧p<r.length∧r.length≤900∧0<d∧intBits d≤2000∧(∀ x ∈ r,intBits x≤2000) ∧ ∀ x ∈ t,intBits x≤2000)∧q ((clrI r t p d).map .int)
theorem sc_cleared:FnScope ["line","pivot","place","bottom"] ["line","pivot","place","bottom"] (defScope s_cleared):=⟨rfl,rfl,rfl,by decide +kernel,rfl,by decide +kernel,by decide +kernel⟩
theorem ok_cleared (F:Def K mg "cleared" s_cleared ["line","pivot","place","bottom"]) (T:Txt K mg cs)
 : Ok P w K mg base "cleared" 1 ["line","pivot","place","bottom"] (FSp K sp_cleared):=by
  refine F.vokF sc_cleared (by rintro ds q ⟨_,_,_,_,h,_⟩; rw [h]; rfl) fun f cdv A outer s H E hr ds q h=>?_
  obtain ⟨r,t,p,d,rfl,⟨hl,hp,hz,d0,d1,zr,zt⟩,h⟩:=h
  refine ⟨_,(vss_one (vs_retF (vf_comp (caps:=["line","pivot","place","bottom"]) (own:=["one","other"]) (ix:=[0,1,2,3]) rfl ⟨rfl,rfl,rfl,rfl,rfl,rfl⟩ (vi_zip2 T.zip_ (ve_var 0) (ve_var 1)) (fun _ _ _ _=>(vg_tup (n:=2) rfl (vgs_cons (vg_name (i:=4) (show List.Nodup (["line","pivot","place","bottom","one","other"]:List Str) by decide)) (vgs_cons (vg_name (i:=5) (show List.Nodup (["line","pivot","place","bottom","one","other"]:List Str) by decide)) vgs_nil)))) (fun _ _ _ _=>(ve_op o_div (ve_op o_sub (ve_op o_mulI (ve_var 4) (ve_ix (ve_var 1) (ve_var 2))) (ve_op o_mulI (ve_ix (ve_var 0) (ve_var 2)) (ve_var 5))) (ve_var 3)))))),?_⟩
  have er:r[p]?=some ((r[p]?).getD 0):=by rw [List.getElem?_eq_getElem hp]; rfl
  have et:t[p]?=some ((t[p]?).getD 0):=by rw [List.getElem?_eq_getElem (by omega)]; rfl
  have z1:=zr _ (List.mem_of_getElem? er)
  have z2:=zt _ (List.mem_of_getElem? et)
  refine comp_by ((clrI r t p d).map .int) (by rw [zipD_len]; simp [clrI]) (small1000 (by simp [clrI]; omega)) (fun e => ∃ s u,e=[.val (.list (r.map .int)),.val (.list (t.map .int)),.val (.int p),.val (.int d),s,u]) ⟨_,_,rfl⟩ ?_ ⟨_,rfl,h⟩
  rintro i x ys e hx hys ⟨s,u,rfl⟩
  obtain ⟨x,y,h3,h4,rfl⟩:=zipD_inv hx
  obtain ⟨x,rfl,h3,m3⟩:=int_get h3
  obtain ⟨y,rfl,h4,m4⟩:=int_get h4
  refine ⟨rfl,rfl,.int ((t[p]?).getD 0),atI_nat (by rw [List.getElem?_map,et]; rfl),mulok (bits_up (zr x m3) (by decide)) (bits_up z2 (by decide)),.int ((r[p]?).getD 0),atI_nat (by rw [List.getElem?_map,er]; rfl),mulok (bits_up z1 (by decide)) (bits_up (zt y m4) (by decide)),⟨d0,bits_up d1 (by decide)⟩,snoc_take ?_ hys,_,_,rfl⟩
  unfold clrI
  rw [List.getElem?_map,zipw_get h3 h4]; rfl
def newL (Ls:List (List Int)) (r p:Nat) (d:Int):List (List Int):=Ls.mapIdx fun k line=>if k=r then line else clrI line ((Ls[r]?).getD []) p d
structure BrPre (n:Nat) (d:Int) (Ls:List (List Int)) (ss:List Int) (m p:Nat):Prop where
 b:Bd m (n+m+1) Ls ss
 hp:p<n
 hm:m≤24
 hn:n≤20
 d0:0<d
 d1:intBits d≤2000
 hk : ∃ k,k<m∧0<at2 Ls k p
def bringSp (K:PySem.W.Frag) (C:Addr):Sp:=fun vs H Q _ => ∃ (a dx qa:Addr) (F:Hp) (vl:V) (n:Nat) (d:Int) (Ls:List (List Int)) (ss:List Int) (m p:Nat),vs=[.ref a,.int p]∧BAt K C H F a dx qa n d Ls ss vl∧Same F H∧BrPre n d Ls ss m p ∧
 ∀ F' H' vl' r,r<m→Tg Ls ss (n+m+1) p m r→GoX a qa F H F' H'→BAt K C H' F' a dx qa n (at2 Ls r p) (newL Ls r p d) (ss.set r p) vl'→Q .non H'
theorem sc_Board_bring_in:FnScope ["self","place","turn","pivot","bottom"] ["self","place"] (defScope s_Board_bring_in):=⟨rfl,rfl,rfl,by decide +kernel,rfl,by decide +kernel,by decide +kernel⟩
theorem ok_Board_bring_in (F:MDef K cs.Board "bring_in" "Board.bring_in" s_Board_bring_in ["self","place"]) (T:Txt K mg cs)
 (O_Board_tightest:OkM P w K mg base cs.Board "tightest" 2 ["self","place"] (OSp K cs.Board sp_tightest))
 (O_cleared:Ok P w K mg base "cleared" 1 ["line","pivot","place","bottom"] (FSp K sp_cleared))
 : OkM P w K mg base cs.Board "bring_in" 3 ["self","place"] (bringSp K cs.Board):=by
  obtain ⟨f,fd,Fn,hm,hb⟩:=F.ex
  refine ⟨f,fd,Fn.ok sc_Board_bring_in (by rintro vs H Q E ⟨_,_,_,_,_,_,_,_,_,_,_,h,_⟩; rw [h]; rfl) fun cdv A outer s H vs Q E hr h=>?_,hm,hb⟩
  obtain ⟨a,dx,qa,F0,vl,n,d,Ls,ss,m,p,rfl,hA,sm,hp,kk⟩:=h
  obtain ⟨f1,fd1,F1,hm1,hb1⟩:=O_Board_tightest.ex
  refine ⟨_,pss_cons (ps_set (i:=2) sc_Board_bring_in.nd rfl (by first|exact Or.inl rfl|exact Or.inr rfl) (pe_meth (pe_var (i:=0) rfl (by first|exact Or.inl rfl|exact Or.inr (Or.inl rfl)|exact Or.inr (Or.inr rfl)) (by decide) (by decide)) T.Board_c hm1 F1 (hr.mono (by decide)) hb1 .nil pass0 (pa_cons (pe_var (i:=1) rfl (by first|exact Or.inl rfl|exact Or.inr (Or.inl rfl)|exact Or.inr (Or.inr rfl)) (by decide) (by decide)) pa_nil)) rfl (by first|exact .inl rfl|exact .inr rfl))
   (pss_cons (ps_set (i:=3) sc_Board_bring_in.nd rfl (by first|exact Or.inl rfl|exact Or.inr rfl) (pe_ix ix_list (pe_fld (pe_var (i:=0) rfl (by first|exact Or.inl rfl|exact Or.inr (Or.inl rfl)|exact Or.inr (Or.inr rfl)) (by decide) (by decide)) rfl) (pe_var (i:=2) rfl (by first|exact Or.inl rfl|exact Or.inr (Or.inl rfl)|exact Or.inr (Or.inr rfl)) (by decide) (by decide)) (fun _ _=>rfl)) rfl (by first|exact .inl rfl|exact .inr rfl))
   (pss_cons (ps_set (i:=4) sc_Board_bring_in.nd rfl (by first|exact Or.inl rfl|exact Or.inr rfl) (pe_fld (pe_var (i:=0) rfl (by first|exact Or.inl rfl|exact Or.inr (Or.inl rfl)|exact Or.inr (Or.inr rfl)) (by decide) (by decide)) rfl) rfl (by first|exact .inl rfl|exact .inr rfl))
   (pss_cons (ps_fld (pe_var (i:=0) rfl (by first|exact Or.inl rfl|exact Or.inr (Or.inl rfl)|exact Or.inr (Or.inr rfl)) (by decide) (by decide)) (VE.pe (vf_fz (vf_comp (caps:=["place","turn","pivot","bottom"]) (own:=["k","line"]) (ix:=[1,2,3,4]) rfl ⟨rfl,rfl,rfl,rfl,rfl,rfl⟩ (vi_enum T.enumerate_ (ve_fld 0 T.Board_c T.Board_n_lines)) (fun _ _ _ _=>(vg_tup (n:=2) rfl (vgs_cons (vg_name (i:=4) (show List.Nodup (["place","turn","pivot","bottom","k","line"]:List Str) by decide)) (vgs_cons (vg_name (i:=5) (show List.Nodup (["place","turn","pivot","bottom","k","line"]:List Str) by decide)) vgs_nil)))) (fun _ _ _ _=>(ve_ifExp (vt_cmp (o_eq hr.units) (ve_var 4) (ve_var 1)) (ve_var 5) (vf_fz (vf_fn O_cleared (hr.mono (by decide)) (va_cons (ve_var 5) (va_cons (ve_var 2) (va_cons (ve_var 0) (va_cons (ve_var 3) va_nil))))))))))) rfl)
   (pss_cons (ps_asg (pe_var (i:=1) rfl (by first|exact Or.inl rfl|exact Or.inr (Or.inl rfl)|exact Or.inr (Or.inr rfl)) (by decide) (by decide)) (pg_sub (pe_fld (pe_var (i:=0) rfl (by first|exact Or.inl rfl|exact Or.inr (Or.inl rfl)|exact Or.inr (Or.inr rfl)) (by decide) (by decide)) rfl) (pe_var (i:=2) rfl (by first|exact Or.inl rfl|exact Or.inr (Or.inl rfl)|exact Or.inr (Or.inr rfl)) (by decide) (by decide)) set_list (by intro _; rfl)) rfl rfl rfl)
   (pss_one (ps_fld (pe_var (i:=0) rfl (by first|exact Or.inl rfl|exact Or.inr (Or.inl rfl)|exact Or.inr (Or.inr rfl)) (by decide) (by decide)) (pe_ix ix_list (pe_var (i:=3) rfl (by first|exact Or.inl rfl|exact Or.inr (Or.inl rfl)|exact Or.inr (Or.inr rfl)) (by decide) (by decide)) (pe_var (i:=1) rfl (by first|exact Or.inl rfl|exact Or.inr (Or.inl rfl)|exact Or.inr (Or.inr rfl)) (by decide) (by decide)) (fun _ _=>rfl)) rfl)))))),?_⟩
  have hB:=hp.b
  have p0:=hp.hp
  have sF1:Same (upd F0 qa (.lst (ss.map V.int))) H:=same_upd sm hA.hq
  refine ⟨.ref a,rfl,a,dx,_,rfl,hA.ha,rfl,.int p,rfl,a,dx,_,[.int p],_,bNm,bFs n d Ls ss,[.int p],fun dd => ∃ r:Nat,r<m∧Tg Ls ss (n+m+1) p m r∧dd = .int r,rfl,hA.ha,sF1,hA.flds,iss_cons (is_int _) iss_nil,
   ⟨n,d,Ls,ss,m,n+m+1,p,rfl,rfl,rfl,⟨hB,by omega,by have:=hp.hm; omega,hp.hk⟩,fun r h1 h2=>⟨r,h1,h2,rfl⟩⟩,fun dd v F2 H2 g i2 q2=>?_⟩
  obtain ⟨r,hr',ht,rfl⟩:=q2
  have ev:=i2.int_inv
  subst ev
  have sH:Same H H2:=g.h
  have sF0:Same F0 H2:=sm.trans sH
  obtain ⟨la,xs,rfl,hsq,hxs⟩:=hA.hl.lst_inv
  obtain ⟨t,et,_,lt⟩:=hB.row (k:=(r:Int)) (by omega) (by omega)
  have et:Ls[r]?=some t:=et
  obtain ⟨xr,exr,ixr⟩:=hxs.get (i:=r) (d:=dRow t) (by rw [List.getElem?_map,et]; rfl)
  refine ⟨.ref a,rfl,a,cs.Board,dx,_,.ref la,rfl,sH _ _ hA.ha,T.Board_c,T.Board_n_lines,rfl,.int r,rfl,la,xs,r,xr,rfl,rfl,sF0.seq hsq,atI_nat exr,?_⟩
  refine ⟨.ref a,rfl,a,cs.Board,dx,_,.int d,rfl,sH _ _ hA.ha,T.Board_c,T.Board_n_bottom,rfl,?_⟩
  have A2:BAt K cs.Board H2 F0 a dx qa n d Ls ss (.ref la):=⟨sH _ _ hA.ha,hA.hl,sH _ _ hA.hq,hA.fa,hA.fq⟩
  have I4:=env_startO (K:=K) (N:=["self","place","turn","pivot","bottom"]) sF0 A2.ha A2.flds3 (iss_cons (is_int (p:Int)) (iss_cons (is_int (r:Int)) (iss_cons ixr (iss_cons (is_int d) iss_nil))))
  refine ⟨⟨H2,H2,F0⟩,_,F0,fun dd e=>dd = .list ((newL Ls r p d).map dRow),I4,?_,fun dd v F5 H5 e5 I5 s5 i5 q5=>?_⟩
  ·refine ⟨rfl,_,rfl,?_⟩
   have hlen:Ls.length=m:=hB.l
   have hm24:=hp.hm
   refine comp_by ((newL Ls r p d).map dRow) (by rw [enumD_len]; simp [newL]) (small1000 (by simp [newL]; omega)) (fun e => ∃ s u,e=[.val (.int p),.val (.int r),.val (dRow t),.val (.int d),s,u]) ⟨_,_,rfl⟩ ?_ rfl
   rintro i x ys e hx hys ⟨s,u,rfl⟩
   obtain ⟨x,hx',rfl⟩:=enumD_inv hx
   obtain ⟨l,el,rfl⟩ : ∃ l,Ls[i]?=some l∧dRow l=x:=by
    rw [List.getElem?_map] at hx'
    cases q:Ls[i]? with
    | none=>rw [q] at hx'; cases hx'
    | some l=>rw [q] at hx'; exact ⟨l,rfl,Option.some.inj hx'⟩
   have ll:=hB.w l (List.mem_of_getElem? el)
   have hn20:=hp.hn
   have ge:((newL Ls r p d).map dRow)[i]?=some (dRow (if i=r then l else clrI l t p d)):=by
    unfold newL
    rw [List.getElem?_map,List.getElem?_mapIdx,el,et]; rfl
   refine ⟨rfl,rfl,rfl,rfl,ite_eq (fun e=>⟨snoc_take ?_ hys,_,_,rfl⟩) (fun e=>⟨l,t,p,d,rfl,⟨by omega,by omega,by omega,hp.d0,hp.d1,hB.z l (List.mem_of_getElem? el),hB.z t (List.mem_of_getElem? et)⟩,snoc_take ?_ hys,_,_,rfl⟩)⟩
   ·rw [ge,if_pos (by omega)]
   ·rw [ge,if_neg (by omega)]; rfl
  subst q5
  have qne:qa≠a:=fun z=>by have:=hA.hq; rw [z,hA.ha] at this; cases this
  have Ha5:=I5.bh _ _ A2.ha
  have Hq5:=I5.bh _ _ A2.hq
  have fa5:F5 a=none:=by
   cases e:F5 a with
   | none=>rfl
   | some o=>rcases I5.new a o e with q|q
             ·have q:F0 a=some o:=q
              rw [hA.fa] at q; cases q
             ·have q:H2 a=none:=q
              rw [A2.ha] at q; cases q
  have fq5:F5 qa=none:=by
   cases e:F5 qa with
   | none=>rfl
   | some o=>rcases I5.new qa o e with q|q
             ·have q:F0 qa=some o:=q
              rw [hA.fq] at q; cases q
             ·have q:H2 qa=none:=q
              rw [A2.hq] at q; cases q
  obtain ⟨lb,ys,rfl,hsq2,hys⟩:=ixr.lst_inv
  have eys:=hys.ints_inv
  subst eys
  obtain ⟨t3,_⟩:=hB.at et (j:=p) (by omega)
  refine ⟨.ref a,rfl,a,cs.Board,dx,_,rfl,Ha5,T.Board_c,T.Board_n_lines,(show 4<1000 by decide),?_⟩
  refine ⟨.int p,rfl,.ref a,rfl,a,cs.Board,dx,_,.ref qa,rfl,upd_same,T.Board_c,T.Board_n_stands_for,rfl,.int r,rfl,qa,ss.map V.int,r,r,rfl,rfl,?_,?_,?_⟩
  ·rw [upd_ne qne]; exact Hq5
  ·rw [List.length_map,hB.s]; exact ixN_in (by omega) (by omega)
  have sF7 : ∀ o1 o2,Same F5 (upd (upd H5 a o1) qa o2):=fun o1 o2 b u e=>by
   rw [upd_ne (ne_of_none e fq5),upd_ne (ne_of_none e fa5)]; exact I5.fh b u e
  refine ⟨.ref lb,rfl,.int p,rfl,lb,t.map V.int,p,.int (at2 Ls r p),rfl,rfl,((s5.trans (sF7 _ _)).seq hsq2),atI_nat (by rw [List.getElem?_map,t3]; rfl),?_⟩
  refine ⟨.ref a,rfl,a,cs.Board,dx,[("unknowns",.int n),("bottom",.int d),("lines",v),("stands_for",.ref qa)],rfl,by rw [upd_ne (Ne.symm qne)]; exact upd_same,T.Board_c,T.Board_n_bottom,(show 4<1000 by decide),?_⟩
  refine kk F5 _ v r hr' ht ⟨s5,fun c o c1 c2 e=>?_,fun c o e=>?_,fun c o e=>?_⟩ ⟨upd_same,i5,?_,fa5,fq5⟩
  ·rw [upd_ne c1,upd_ne c2,upd_ne c1]
   exact I5.bh c o (sH c o e)
  ·rw [upd_ne (ne_of_none e fa5)]
   exact sF7 _ _ c o e
  ·rcases I5.new c o e with q|q
   ·exact .inl q
   ·exact .inr (same_none sH q)
  ·rw [upd_ne qne,upd_same,List.map_set]
def dSh (p q:Int):PyData :=.tuple [.int p,.int q]
def sp_reduced:DC
 | [.int t,.int b],q=>(b≠0∧intBits b≤9000)∧q (dSh (shT t b) (shB t b))
 | _,_=>False
theorem sc_reduced:FnScope ["top","bottom","common"] ["top","bottom"] (defScope s_reduced):=⟨rfl,rfl,rfl,by decide +kernel,rfl,by decide +kernel,by decide +kernel⟩
theorem ok_reduced (F:Def K mg "reduced" s_reduced ["top","bottom"]) (T:Txt K mg cs)
 (O_divisor:Ok P w K mg base "divisor" 1 ["one","other"] (PSp K sp_divisor))
 : Ok P w K mg base "reduced" 2 ["top","bottom"] (PSp K sp_reduced):=by
  refine F.vok sc_reduced (fun ds q h=>by unfold sp_reduced at h; split at h; all_goals first|rfl|exact h.elim) fun f cdv A outer s H E hr ds q h=>?_
  match ds,h with
  | [.int t,.int b],⟨⟨hb,hz⟩,h⟩ =>
  refine ⟨_,(vss_cons (vs_set (i:=2) sc_reduced.nd (ve_fn O_divisor (hr.mono (by decide)) (va_cons (ve_var 0) (va_cons (ve_var 1) va_nil))))
   (vss_mid (vs_if (vt_cmp o_lt (ve_var 1) ve_int) (vss_one (vs_set (i:=2) sc_reduced.nd (ve_neg (ve_var 2)))) vss_nil)
   (vss_one (vs_ret (ve_tup (va_cons (ve_op o_fdiv (ve_var 0) (ve_var 2)) (va_cons (ve_op o_fdiv (ve_var 1) (ve_var 2)) va_nil))))))),?_⟩
  have hc:=cm_ne (t:=t) hb
  have hcz:=cm_bits (t:=t) hb hz
  refine ⟨fun e=>e=[.val (.int t),.val (.int b),.val (.int (cm t b))],?_,?_⟩
  ·refine iteD (fun hn=>?_) (fun hn=>?_)
   ·show _=_
    unfold cm; rw [if_pos hn]; rfl
   ·show _=_
    unfold cm; rw [if_neg hn]; rfl
  ·rintro e rfl
   exact ⟨⟨hc,hcz⟩,⟨hc,hcz⟩,szl,h⟩
def sp_share:DC
 | [.int t,.int b],q=>(b≠0∧intBits b≤9000)∧q (dSh (shT t b) (shB t b))
 | _,_=>False
theorem sc_share:FnScope ["top","bottom"] ["top","bottom"] (defScope s_share):=⟨rfl,rfl,rfl,by decide +kernel,rfl,by decide +kernel,by decide +kernel⟩
theorem ok_share (F:Def K mg "share" s_share ["top","bottom"]) (T:Txt K mg cs)
 (O_is_whole:Ok P w K mg base "is_whole" 1 ["thing"] (PSp K sp_is_whole))
 (O_reduced:Ok P w K mg base "reduced" 2 ["top","bottom"] (PSp K sp_reduced))
 : Ok P w K mg base "share" 3 ["top","bottom"] (PSp K sp_share):=by
  refine F.vok sc_share (fun ds q h=>by unfold sp_share at h; split at h; all_goals first|rfl|exact h.elim) fun f cdv A outer s H E hr ds q h=>?_
  match ds,h with
  | [.int t,.int b],h =>
  refine ⟨_,(vss_cons (vs_if (VW.pt (vw_or (vt_not (vt_val (ve_fn O_is_whole (hr.mono (by decide)) (va_cons (ve_var 0) va_nil)))) (vw_or (vt_not (vt_val (ve_fn O_is_whole (hr.mono (by decide)) (va_cons (ve_var 1) va_nil)))) (vw_or1 (vt_cmp (o_eq hr.units) (ve_var 1) ve_int))))) vss_never vss_nil)
   (vss_one (vs_ret (ve_fn O_reduced (hr.mono (by decide)) (va_cons (ve_var 0) (va_cons (ve_var 1) va_nil)))))),?_⟩
  exact ⟨rfl,rfl,ite_eq (fun z=>(h.1.1 z).elim) (fun _=>h)⟩
def ToldAt (d:Int) (Ls:List (List Int)) (ss:List Int) (m w i u:Nat) (x:Int×Int):Prop :=
 (∃ k,k<i∧ss[k]?=some (u:Int)∧x=(shT (at2 Ls k (w-1)) d,shB (at2 Ls k (w-1)) d))∨((∀ k,k<i→ss[k]?≠some (u:Int))∧x=(shT 0 1,shB 0 1))
def sp_told (nm:List Str) (fs:List (Str×PyData)) (ds:List PyData) (q:List PyData→Prop):Prop := ∃ (n:Nat) (d:Int) (Ls:List (List Int)) (ss:List Int) (m w:Nat),nm=bNm∧fs=bFs n d Ls ss∧ds=[]∧(Bd m w Ls ss∧0<d∧intBits d≤2000∧1≤w∧n≤900 ∧ ∀ x ∈ ss,x<n) ∧
 ∀ vs:List (Int×Int),vs.length=n→(∀ u x,vs[u]?=some x→ToldAt d Ls ss m w m u x)→q (vs.map fun x=>dSh x.1 x.2)
theorem sc_Board_told:FnScope ["self","found","line","unknown"] ["self"] (defScope s_Board_told):=⟨rfl,rfl,rfl,by decide +kernel,rfl,by decide +kernel,by decide +kernel⟩
theorem ok_Board_told (F:MDef K cs.Board "told" "Board.told" s_Board_told ["self"]) (T:Txt K mg cs)
 (O_share:Ok P w K mg base "share" 3 ["top","bottom"] (PSp K sp_share))
 : OkM P w K mg base cs.Board "told" 4 ["self"] (OFSp K cs.Board sp_told):=by
  refine F.vokF sc_Board_told (by rintro nm fs ds q ⟨_,_,_,_,_,_,_,_,h,_⟩; rw [h]; rfl) fun f cdv A outer s H E hr a0 nm fs ds q h=>?_
  obtain ⟨n,d,Ls,ss,m,w,rfl,rfl,rfl,⟨hB,d0,d1,w1,hn,hs⟩,h⟩:=h
  refine ⟨_,(vss_cons (vs_setCO (caps:=[]) (own:=["place"]) (ix:=[]) (i:=1) sc_Board_told.nd rfl ⟨rfl,rfl,rfl,rfl,rfl,rfl⟩ (vi_range1 T.range_ (ve_fld 0 T.Board_c T.Board_n_unknowns)) (fun _ _ _ _=>(vg_name (i:=0) (show List.Nodup (["place"]:List Str) by decide))) (fun _ _ _ _=>(ve_fn O_share (hr.mono (by decide)) (va_cons ve_int (va_cons ve_int va_nil)))))
   (vss_cons (vs_for rfl (vi_zip2 T.zip_ (ve_fld 0 T.Board_c T.Board_n_lines) (ve_fld 0 T.Board_c T.Board_n_stands_for)) (vg_tup (n:=2) rfl (vgs_cons (vg_name (i:=2) sc_Board_told.nd) (vgs_cons (vg_name (i:=3) sc_Board_told.nd) vgs_nil))) (vss_one (vs_if (vt_cmp o_ge (ve_var 3) ve_int) (vss_one (vs_put 1 (ve_fn O_share (hr.mono (by decide)) (va_cons (ve_ix (ve_var 2) (ve_neg ve_int)) (va_cons (ve_fld 0 T.Board_c T.Board_n_bottom) va_nil))) (ve_var 3))) vss_nil)))
   (vss_one (vs_retO 1)))),?_⟩
  have hlen:(Ls.map dRow).length=m:=by rw [List.length_map,hB.l]
  have hrl:(rngD 0 (n:Int).toNat).length=n:=by rw [rngD_len]; omega
  refine ⟨rfl,_,rfl,⟨by omega,by omega⟩,small1000 (by rw [hrl]; omega),fun k ys e=>ys=(List.replicate n (dSh (shT 0 1) (shB 0 1))).take k ∧ ∃ u,e=[u],⟨by simp,_,rfl⟩,?_,?_⟩
  ·rintro i x ys e hx ⟨hys,s,rfl⟩
   obtain ⟨hi,rfl⟩:=rngD_inv hx
   exact ⟨⟨by decide,by decide⟩,snoc_take (by rw [List.getElem?_replicate,if_pos (by omega)]) hys,_,rfl⟩
  rintro ys e ⟨hys,u,rfl⟩
  rw [hrl,List.take_of_length_le (by rw [List.length_replicate]; omega)] at hys
  subst hys
  refine ⟨rfl,_,rfl,rfl,_,rfl,fun i e => ∃ t1 t2 l,e=[.obj a0 cs.Board bNm (bFs n d Ls ss),.own l,t1,t2] ∧ ∃ vs:List (Int×Int),l=vs.map (fun x=>dSh x.1 x.2)∧vs.length=n ∧ ∀ u x,vs[u]?=some x→ToldAt d Ls ss m w i u x,⟨_,_,_,rfl,List.replicate n (shT 0 1,shB 0 1),by rw [List.map_replicate],by simp,fun u x hx => .inr ⟨fun k hk=>by omega,?_⟩⟩,?_,?_⟩
  ·rw [List.getElem?_replicate] at hx
   split at hx
   ·exact (Option.some.inj hx).symm
   ·cases hx
  ·rintro i x e hx ⟨t1,t2,l,rfl,vs,rfl,hv,hI⟩
   obtain ⟨x,y,h3,h4,rfl⟩:=zipD_inv hx
   obtain ⟨u,rfl,hu,hum⟩:=int_get h4
   obtain ⟨r,er,rfl⟩ : ∃ r,Ls[i]?=some r∧dRow r=x:=by
    rw [List.getElem?_map] at h3
    cases q:Ls[i]? with
    | none=>rw [q] at h3; cases h3
    | some r=>rw [q] at h3; exact ⟨r,rfl,Option.some.inj h3⟩
   have lr:r.length=w:=hB.w r (List.mem_of_getElem? er)
   obtain ⟨r1,r2⟩:=hB.at er (j:=w-1) (by omega)
   refine ⟨rfl,rfl,iteD (fun a=>?_) (fun a=>?_)⟩
   ·have un:=hs u hum
    refine ⟨.int (at2 Ls i (w-1)),atI_last (by rw [List.length_map,lr,List.getElem?_map,r1]; rfl),rfl,_,rfl,⟨by omega,bits_up d1 (by decide)⟩,rfl,rfl,u.toNat,?_,_,_,_,rfl,vs.set u.toNat (shT (at2 Ls i (w-1)) d,shB (at2 Ls i (w-1)) d),?_,by rw [List.length_set]; exact hv,fun v x hx=>?_⟩
    ·exact ixN_in a (by show u<(((vs.map _).length:Nat):Int); rw [List.length_map,hv]; exact un)
    ·rw [List.map_set]; rfl
    ·rw [List.getElem?_set] at hx
     by_cases e:u.toNat=v
     ·rw [if_pos e] at hx
      split at hx
      ·exact .inl ⟨i,by omega,by rw [hu]; congr 1; omega,(Option.some.inj hx).symm⟩
      ·cases hx
     ·rw [if_neg e] at hx
      rcases hI v x hx with ⟨k,hk,h1,h2⟩|⟨h1,h2⟩
      ·exact .inl ⟨k,by omega,h1,h2⟩
      ·refine .inr ⟨fun k hk z=>?_,h2⟩
       by_cases q:k=i
       ·subst q; rw [hu] at z; have:=Option.some.inj z; omega
       ·exact h1 k (by omega) z
   ·refine ⟨_,_,_,rfl,vs,rfl,hv,fun v x hx=>?_⟩
    rcases hI v x hx with ⟨k,hk,h1,h2⟩|⟨h1,h2⟩
    ·exact .inl ⟨k,by omega,h1,h2⟩
    ·refine .inr ⟨fun k hk z=>?_,h2⟩
     by_cases q:k=i
     ·subst q; rw [hu] at z; have:=Option.some.inj z; omega
     ·exact h1 k (by omega) z
  ·rintro e ⟨t1,t2,l,rfl,vs,rfl,hv,hI⟩
   rw [zipD_len,hlen,List.length_map,hB.s,Nat.min_self] at hI
   exact ⟨_,rfl,h vs hv hI⟩
theorem pig : ∀ (N T:Nat) (f:Nat→Nat),(∀ i,i≤T→f i<N)→(∀ i j,i<j→j≤T→f i≠f j)→T<N
 | 0,T,f,h,_=>absurd (h 0 (Nat.zero_le _)) (by omega)
 | N+1,T,f,h,hd=>by
  by_cases q : ∃ i,i≤T∧f i=N
  ·obtain ⟨i0,hi0,e0⟩:=q
   cases T with
   | zero=>omega
   | succ T =>
    have sl : ∀ i,i≤T→skip i0 i≤T+1:=fun i hi=>by unfold skip; split <;> omega
    have sn : ∀ i,skip i0 i≠i0:=fun i=>by unfold skip; split <;> omega
    have sm : ∀ i j,i<j→skip i0 i<skip i0 j:=fun i j hij=>by unfold skip; split <;> split <;> omega
    have:=pig N T (fun i=>f (skip i0 i)) (fun i hi=>by
     have a:=h (skip i0 i) (sl i hi)
     have b:f (skip i0 i)≠N:=fun z=>by
      rcases Nat.lt_or_gt_of_ne (sn i) with g|g
      ·exact hd _ _ g hi0 (by rw [z,e0])
      ·exact hd _ _ g (sl i hi) (by rw [z,e0])
     show f (skip i0 i)<N
     omega) fun i j hij hj=>hd _ _ (sm i j hij) (sl j hj)
    omega
  ·have:=pig N T f (fun i hi=>by
    have a:=h i hi
    have b:f i≠N:=fun z=>q ⟨i,hi,z⟩
    omega) hd
   omega
def enc (B:Nat) (st:Nat→Nat):Nat→Nat
 | 0=>0
 | k+1=>enc B st k+st k*B^k
theorem enc_lt {B:Nat} {st:Nat→Nat} : ∀ {m:Nat},(∀ k,k<m→st k<B)→enc B st m<B^m
 | 0,_=>by simp [enc]
 | m+1,h=>by
  have a:=enc_lt (B:=B) (st:=st) (m:=m) fun k hk=>h k (by omega)
  have b:=h m (by omega)
  show enc B st m+st m*B^m<B^(m+1)
  rw [Nat.pow_succ,Nat.mul_comm (B^m) B]
  have:(st m+1)*B^m≤B*B^m:=Nat.mul_le_mul_right _ (by omega)
  rw [Nat.add_mul,Nat.one_mul] at this
  omega
theorem enc_inj {B:Nat} {st st':Nat→Nat} : ∀ {m:Nat},(∀ k,k<m→st k<B)→(∀ k,k<m→st' k<B)→enc B st m=enc B st' m → ∀ k,k<m→st k=st' k
 | 0,_,_,_,k,hk=>by omega
 | m+1,h,h',e,k,hk=>by
  have a:=enc_lt (B:=B) (st:=st) (m:=m) fun k hk=>h k (by omega)
  have a':=enc_lt (B:=B) (st:=st') (m:=m) fun k hk=>h' k (by omega)
  have e:enc B st m+st m*B^m=enc B st' m+st' m*B^m:=e
  have top:st m=st' m:=by
   have p:0<B^m:=by omega
   have e1:(enc B st m+st m*B^m)/B^m=st m:=by
    rw [Nat.mul_comm (st m),Nat.add_mul_div_left _ _ p,Nat.div_eq_of_lt a]; omega
   have e2:(enc B st' m+st' m*B^m)/B^m=st' m:=by
    rw [Nat.mul_comm (st' m),Nat.add_mul_div_left _ _ p,Nat.div_eq_of_lt a']; omega
   rw [← e1,← e2,e]
  by_cases q:k=m
  ·subst q; exact top
  ·rw [top] at e
   exact enc_inj (m:=m) (fun k hk=>h k (by omega)) (fun k hk=>h' k (by omega)) (by omega) k (by omega)
structure Run (m n:Nat) (col:Nat→Nat→Int) (T:Nat) (b:Nat→Sta) (cs rs:Nat→Nat):Prop where
 good:Good m n col (b 0)
 low : ∀ k,k<m → -(m:Int)≤(b 0).st k
 step : ∀ τ,τ<T→Stp m n (b τ) (cs τ) (rs τ) (b (τ+1))
theorem Run.at {m n:Nat} {col:Nat→Nat→Int} {T:Nat} {b:Nat→Sta} {cs rs:Nat→Nat} (h:Run m n col T b cs rs) : ∀ τ,τ≤T→Good m n col (b τ) ∧ ∀ k,k<m → -(m:Int)≤(b τ).st k
 | 0,_=>⟨h.good,h.low⟩
 | τ+1,hτ=>by
  obtain ⟨g,l⟩:=h.at τ (by omega)
  have s:=h.step τ (by omega)
  refine ⟨(g.next s).1,fun k hk=>?_⟩
  rw [s.st]
  show _≤if k=rs τ then (cs τ:Int) else (b τ).st k
  by_cases q:k=rs τ
  ·rw [if_pos q]; omega
  ·rw [if_neg q]; exact l k hk
theorem Run.short {m n:Nat} {col:Nat→Nat→Int} {T:Nat} {b:Nat→Sta} {cs rs:Nat→Nat} (h:Run m n col T b cs rs):T<(n+m)^m:=by
 refine pig ((n+m)^m) T (fun τ=>enc (n+m) (fun k=>((b τ).st k+m).toNat) m) (fun i hi=>?_) fun i j hij hj e=>?_
 ·obtain ⟨g,l⟩:=h.at i hi
  exact enc_lt fun k hk=>by have:=g.top k hk; have:=l k hk; omega
 ·obtain ⟨g,l⟩:=h.at i (by omega)
  obtain ⟨g',l'⟩:=h.at j hj
  have e2:=enc_inj (fun k hk=>by have:=g.top k hk; have:=l k hk; omega) (fun k hk=>by have:=g'.top k hk; have:=l' k hk; omega) e
  refine bland (b:=fun τ=>b (i+τ)) (cs:=fun τ=>cs (i+τ)) (rs:=fun τ=>rs (i+τ)) (T:=j-i) (by omega) g (fun τ hτ=>h.step (i+τ) (by omega)) fun k hk=>?_
  show (b (i+(j-i))).st k=(b i).st k
  rw [show i+(j-i)=j by omega]
  have a:=e2 k hk
  have:=l k hk
  have:=l' k hk
  have a:((b i).st k+m).toNat=((b j).st k+m).toNat:=a
  omega
theorem Run.snoc {m n:Nat} {col:Nat→Nat→Int} {T:Nat} {b:Nat→Sta} {cs rs:Nat→Nat} (h:Run m n col T b cs rs) {c r:Nat} {b':Sta} (s:Stp m n (b T) c r b') :
 Run m n col (T+1) (fun τ=>if τ≤T then b τ else b') (fun τ=>if τ<T then cs τ else c) (fun τ=>if τ<T then rs τ else r) where
  good:=by rw [if_pos (Nat.zero_le _)]; exact h.good
  low:=by rw [if_pos (Nat.zero_le _)]; exact h.low
  step:=fun τ hτ=>by
   by_cases q:τ<T
   ·rw [if_pos (by omega),if_pos q,if_pos q,if_pos (by omega)]; exact h.step τ q
   ·have:τ=T:=by omega
    subst this
    rw [if_pos (Nat.le_refl _),if_neg q,if_neg q,if_neg (by omega)]; exact s
theorem Good.fits {m n:Nat} {col:Nat→Nat→Int} {b:Sta} (h:Good m n col b) (h0:lack m b (n+m)=0) {x:Nat} (hx:x<m) :
 b.d*col (n+m) x=sumN m fun k=>if b.st k<0 then 0 else b.L k (n+m)*col (b.st k).toNat x:=by
  rw [h.brd.hI (n+m) x hx]
  refine sumN_congr fun k hk=>?_
  by_cases q:b.st k<0
  ·rw [if_pos q]
   have:b.L k (n+m)=0:=by
    have s0:=h.sum k hk
    by_cases g:b.L k (n+m)=0
    ·exact g
    ·exfalso
     have:0<lack m b (n+m):=by
      unfold lack
      have e:(sumN m fun i=>if b.st i<0 then b.L i (n+m) else 0)=(sumN m fun i=>if i=k then b.L k (n+m) else 0)+sumN m fun i=>if i=k then 0 else if b.st i<0 then b.L i (n+m) else 0:=by
       rw [← sumN_add]
       refine sumN_congr fun i _=>?_
       by_cases z:i=k
       ·subst z; rw [if_pos rfl,if_pos rfl,if_pos q]; omega
       ·rw [if_neg z,if_neg z]; omega
      rw [e,sumN_one hk fun i _ z=>if_neg z,if_pos rfl]
      have:0≤sumN m fun i=>if i=k then 0 else if b.st i<0 then b.L i (n+m) else 0:=sumN_nonneg fun i hi=>by
       by_cases z:i=k
       ·rw [if_pos z]; omega
       ·rw [if_neg z]
        by_cases y:b.st i<0
        ·rw [if_pos y]; exact h.sum i hi
        ·rw [if_neg y]; omega
      omega
     omega
   rw [this]; omega
  ·rw [if_neg q]; unfold Bas; rw [if_neg q]
theorem lack_pos {m:Nat} {b:Sta} {c:Nat} (h:0<lack m b c) : ∃ k,k<m∧0<b.L k c:=by
 obtain ⟨k,hk,z⟩:=sumN_pos h
 by_cases q:b.st k<0
 ·rw [if_pos q] at z; exact ⟨k,hk,z⟩
 ·rw [if_neg q] at z; omega
theorem sumN_abs {f:Nat→Int} {C:Nat} : ∀ {n:Nat},(∀ i,i<n→(f i).natAbs≤C)→(sumN n f).natAbs≤n*C
 | 0,_=>by simp [sumN]
 | n+1,h=>by
  have a:=sumN_abs (f:=f) (C:=C) (n:=n) fun i hi=>h i (by omega)
  have b:=h n (by omega)
  show (sumN n f+f n).natAbs≤_
  rw [Nat.add_mul,Nat.one_mul]
  have:=Int.natAbs_add_le (sumN n f) (f n)
  omega
def fct:Nat→Nat
 | 0=>1
 | n+1=>(n+1)*fct n
theorem det_abs {M:Nat} : ∀ {m:Nat} {a:Nat→Nat→Int},(∀ x y,x<m→y<m→(a x y).natAbs≤M)→(det m a).natAbs≤fct m*M^m
 | 0,_,_=>by simp [det,fct]
 | m+1,a,h=>by
  show (sumN (m+1) _).natAbs≤(m+1)*fct m*M^(m+1)
  have e:(m+1)*fct m*M^(m+1)=(m+1)*(M*(fct m*M^m)):=by rw [Nat.pow_succ]; grind
  rw [e]
  refine sumN_abs fun i hi=>?_
  have d:=det_abs (M:=M) (m:=m) (a:=fun x y=>a (skip i x) (y+1)) fun x y hx hy=>h _ _ (skip_lt hx) (by omega)
  have s:(sgn i).natAbs=1:=by unfold sgn; split <;> rfl
  rw [Int.natAbs_mul,Int.natAbs_mul,s,Nat.one_mul]
  exact Nat.mul_le_mul (h i 0 hi (by omega)) d
def staOf (Ls:List (List Int)) (ss:List Int) (d:Int):Sta:=⟨fun k=>(ss[k]?).getD 0,at2 Ls,d⟩
def colOf (Ls0:List (List Int)):Nat→Nat→Int:=fun j x=>at2 Ls0 x j
theorem Brd.congr {m:Nat} {col B B' L:Nat→Nat→Int} {d:Int} (h:Brd m col B L d) (e : ∀ x k,k<m→B x k=B' x k):Brd m col B' L d where
 pos:=h.pos
 hd:=by rw [h.hd]; exact det_congr fun x y _ hy=>e x y hy
 hL:=fun k hk j=>by
  rw [h.hL k hk j]
  exact det_congr fun x y _ hy=>by
   unfold setc
   by_cases z:y=k
   ·rw [if_pos z,if_pos z]
   ·rw [if_neg z,if_neg z,e x y hy]
 hI:=fun j x hx=>by
  rw [h.hI j x hx]
  exact sumN_congr fun k hk=>by rw [e x k hk]
theorem at2_map {f:Nat→List Int} {m k j:Nat} (hk:k<m):at2 ((List.range m).map f) k j=((f k)[j]?).getD 0:=by
 unfold at2
 rw [List.getElem?_map,List.getElem?_range hk]; rfl
theorem firstS_at {m k:Nat} (hk:k<m):((firstS m)[k]?).getD 0 = -(m:Int)+k:=by
 unfold firstS
 rw [List.getElem?_map,List.getElem?_range hk]; rfl
theorem fstL_len (row:List Int) (s:Int) (k m:Nat):(fstL row s k m).length=row.length+m+1:=by
 unfold fstL; simp; omega
theorem fstL_num {row:List Int} {s:Int} {k m j:Nat} (h:j<row.length):((fstL row s k m)[j]?).getD 0=tn s*(row[j]?).getD 0:=by
 unfold fstL
 rw [List.getElem?_map,List.getElem?_append_left (by simp; omega),List.getElem?_append_left h,List.getElem?_eq_getElem h]; rfl
theorem fstL_mark {row:List Int} {s:Int} {k m j:Nat} (h:j<m):((fstL row s k m)[row.length+j]?).getD 0=tn s*(if j=k then 1 else 0):=by
 unfold fstL
 rw [List.getElem?_map,List.getElem?_append_left (by simp; omega),List.getElem?_append_right (by omega),Nat.add_sub_cancel_left,List.getElem?_map,List.getElem?_range h]; rfl
theorem fstL_sum {row:List Int} {s:Int} {k m:Nat}:((fstL row s k m)[row.length+m]?).getD 0=tn s*s:=by
 unfold fstL
 rw [List.getElem?_map,List.getElem?_append_right (by simp)]
 simp
theorem tn_abs (s:Int):0≤tn s*s:=by unfold tn; split <;> omega
theorem good_first {n:Nat} {R:List (List Int)} {b:List Int} (hw : ∀ r ∈ R,r.length=n):Good R.length n (colOf (firstL R b)) (staOf (firstL R b) (firstS R.length) 1) where
 brd:=(brd_first R.length (colOf (firstL R b))).congr fun x k hk=>by
  unfold Bas
  rw [if_pos (show (staOf (firstL R b) (firstS R.length) 1).st k<0 by show ((firstS R.length)[k]?).getD 0<0; rw [firstS_at hk]; omega)]
 sum:=fun k hk=>by
  show 0≤at2 (firstL R b) k (n+R.length)
  unfold firstL
  rw [at2_map hk]
  have e:((R[k]?).getD []).length=n:=by
   rw [List.getElem?_eq_getElem hk]
   exact hw _ (List.getElem_mem _)
  rw [← e,fstL_sum]; exact tn_abs _
 top:=fun k hk=>by
  show ((firstS R.length)[k]?).getD 0<n
  rw [firstS_at hk]; omega
theorem at2_out {Ls:List (List Int)} {k j:Nat} (h:Ls.length≤k):at2 Ls k j=0:=by
 unfold at2; rw [List.getElem?_eq_none h]; rfl
theorem newL_piv {Ls:List (List Int)} {w r p:Nat} {d:Int} (hw : ∀ l ∈ Ls,l.length=w) (hr:r<Ls.length):at2 (newL Ls r p d)=piv (at2 Ls) d r p:=by
 funext k j
 obtain ⟨t,et⟩ : ∃ t,Ls[r]?=some t:=⟨_,List.getElem?_eq_getElem hr⟩
 have lt:=hw t (List.mem_of_getElem? et)
 unfold piv
 by_cases hk:k<Ls.length
 ·obtain ⟨l,el⟩ : ∃ l,Ls[k]?=some l:=⟨_,List.getElem?_eq_getElem hk⟩
  have ll:=hw l (List.mem_of_getElem? el)
  have e:at2 (newL Ls r p d) k j=((if k=r then l else clrI l t p d)[j]?).getD 0:=by
   unfold at2 newL
   rw [List.getElem?_mapIdx,el,et]; rfl
  rw [e]
  by_cases z:k=r
  ·subst z
   rw [if_pos rfl,if_pos rfl]
   unfold at2; rw [el]; rfl
  ·rw [if_neg z,if_neg z]
   have a1 : ∀ i,at2 Ls k i=(l[i]?).getD 0:=fun i=>by unfold at2; rw [el]; rfl
   have a2 : ∀ i,at2 Ls r i=(t[i]?).getD 0:=fun i=>by unfold at2; rw [et]; rfl
   rw [a1,a1,a2,a2]
   unfold clrI
   by_cases hj:j<w
   ·rw [List.getElem?_zipWith,List.getElem?_eq_getElem (show j<l.length by omega),List.getElem?_eq_getElem (show j<t.length by omega)]; rfl
   ·rw [List.getElem?_eq_none (by simp; omega),List.getElem?_eq_none (show l.length≤j by omega),List.getElem?_eq_none (show t.length≤j by omega)]
    simp
 ·have z1 : ∀ i,at2 Ls k i=0:=fun i=>at2_out (by omega)
  rw [at2_out (by unfold newL; simp; omega),if_neg (by omega),z1,z1]
  simp
theorem stp_of {Ls:List (List Int)} {ss:List Int} {d:Int} {m n c r:Nat} (hl:Ls.length=m) (hs:ss.length=m) (hw : ∀ l ∈ Ls,l.length=n+m+1) (c1:c<n) (c2:0<lack m (staOf Ls ss d) c) (c3 : ∀ j,j<c→lack m (staOf Ls ss d) j≤0)
 (hr:r<m) (ht:Tg Ls ss (n+m+1) c m r):Stp m n (staOf Ls ss d) c r (staOf (newL Ls r c d) (ss.set r c) (at2 Ls r c)) where
  c1:=c1
  c2:=c2
  c3:=c3
  r1:=hr
  r2:=ht.1
  r3:=fun k hk hp=>(ht.2 k hk hp).1
  r4:=fun k hk hp e=>(ht.2 k hk hp).2 e
  st:=by
   funext k
   show ((ss.set r (c:Int))[k]?).getD 0=if k=r then (c:Int) else (ss[k]?).getD 0
   rw [List.getElem?_set]
   by_cases z:r=k
   ·subst z; rw [if_pos rfl,if_pos rfl,if_pos (by omega)]; rfl
   ·rw [if_neg z,if_neg (Ne.symm z)]
  L:=newL_piv hw (by omega)
  d:=rfl
theorem bas_abs {m M:Nat} {col:Nat→Nat→Int} {st:Nat→Int} (hM : ∀ j x,x<m→(col j x).natAbs≤M) (h1:1≤M) {x k:Nat} (hx:x<m):(Bas col st x k).natAbs≤M:=by
 unfold Bas
 split
 ·split
  ·exact h1
  ·exact Nat.zero_le _
 ·exact hM _ _ hx
theorem Good.abs {m n M:Nat} {col:Nat→Nat→Int} {b:Sta} (h:Good m n col b) (hM : ∀ j x,x<m→(col j x).natAbs≤M) (h1:1≤M):(∀ k,k<m → ∀ j,(b.L k j).natAbs≤fct m*M^m)∧b.d.natAbs≤fct m*M^m:=by
 refine ⟨fun k hk j=>?_,?_⟩
 ·rw [h.brd.hL k hk j]
  refine det_abs fun x y hx _=>?_
  unfold setc
  split
  ·exact hM _ _ hx
  ·exact bas_abs hM h1 hx
 ·rw [h.brd.hd]
  exact det_abs fun x y hx _=>bas_abs hM h1 hx
def valN (m n:Nat) (b:Sta) (u:Nat):Int:=sumN m fun k=>if b.st k=(u:Int) then b.L k (n+m) else 0
theorem Good.val {m n:Nat} {col:Nat→Nat→Int} {b:Sta} (h:Good m n col b) {k u:Nat} (hk:k<m) (e:b.st k=(u:Int)):valN m n b u=b.L k (n+m):=by
 unfold valN
 rw [sumN_one hk fun i hi hik=>if_neg fun z=>?_,if_pos e]
 have a:=h.basic hk e hk
 have c:=h.basic hi z hk
 rw [if_pos rfl] at a
 rw [if_neg (Ne.symm hik),a] at c
 have:=h.brd.pos
 omega
theorem val_none {m n:Nat} {b:Sta} {u:Nat} (h : ∀ k,k<m→b.st k≠(u:Int)):valN m n b u=0:=sumN_zero fun k hk=>if_neg (h k hk)
theorem Good.fits' {m n:Nat} {col:Nat→Nat→Int} {b:Sta} (h:Good m n col b) (h0:lack m b (n+m)=0) {x:Nat} (hx:x<m) :
 b.d*col (n+m) x=sumN n fun u=>col u x*valN m n b u:=by
  rw [h.fits h0 hx]
  have e:(sumN n fun u=>col u x*valN m n b u)=sumN n fun u=>sumN m fun k=>if b.st k=(u:Int) then col u x*b.L k (n+m) else 0:=sumN_congr fun u _=>by
   unfold valN
   rw [← sumN_mul]
   exact sumN_congr fun k _=>by
    split
    ·rfl
    ·omega
  rw [e,sumN_swap]
  refine sumN_congr fun k hk=>?_
  by_cases q:b.st k<0
  ·rw [if_pos q,sumN_zero fun u _=>if_neg (by omega)]
  ·rw [if_neg q]
   have t:=h.top k hk
   rw [sumN_one (r:=(b.st k).toNat) (by omega) fun u _ hu=>if_neg (by omega),if_pos (by omega),Int.mul_comm]
theorem lack_comb {m n:Nat} {col:Nat→Nat→Int} {b:Sta} (h:Good m n col b) {j N:Nat} (f:Nat→Int) (at':Nat→Nat) (e : ∀ x,x<m→col j x=sumN N fun l=>f l*col (at' l) x) :
 lack m b j=sumN N fun l=>f l*lack m b (at' l):=by
  unfold lack
  have e2:(sumN N fun l=>f l*sumN m fun k=>if b.st k<0 then b.L k (at' l) else 0)=sumN N fun l=>sumN m fun k=>if b.st k<0 then f l*b.L k (at' l) else 0:=sumN_congr fun l _=>by
   rw [← sumN_mul]
   exact sumN_congr fun k _=>by
    split
    ·rfl
    ·omega
  rw [e2,sumN_swap]
  refine sumN_congr fun k hk=>?_
  by_cases q:b.st k<0
  ·rw [if_pos q,h.brd.comb f at' e hk]
   exact sumN_congr fun l _=>by rw [if_pos q]
  ·rw [if_neg q]
   exact (sumN_zero fun l _=>if_neg q).symm
theorem col_marks {n:Nat} {R:List (List Int)} {b:List Int} (hw : ∀ r ∈ R,r.length=n) {x:Nat} (hx:x<R.length) :
 (∀ j,j<n→colOf (firstL R b) j x=sumN R.length fun l=>at2 R l j*colOf (firstL R b) (n+l) x)∧colOf (firstL R b) (n+R.length) x=sumN R.length fun l=>(b[l]?).getD 0*colOf (firstL R b) (n+l) x:=by
  have e:((R[x]?).getD []).length=n:=by
   rw [List.getElem?_eq_getElem hx]
   exact hw _ (List.getElem_mem _)
  have mk : ∀ l,l<R.length→colOf (firstL R b) (n+l) x=tn ((b[x]?).getD 0)*(if l=x then 1 else 0):=fun l hl=>by
   show at2 (firstL R b) x (n+l)=_
   unfold firstL
   rw [at2_map hx,← e,fstL_mark hl]
  refine ⟨fun j hj=>?_,?_⟩
  ·rw [sumN_one hx fun l hl z=>by rw [mk l hl,if_neg z]; omega,mk x hx,if_pos rfl]
   show at2 (firstL R b) x j=_
   unfold firstL
   rw [at2_map hx,fstL_num (by omega)]
   unfold at2
   grind
  ·rw [sumN_one hx fun l hl z=>by rw [mk l hl,if_neg z]; omega,mk x hx,if_pos rfl]
   show at2 (firstL R b) x (n+R.length)=_
   unfold firstL
   rw [at2_map hx,← e,fstL_sum]
   grind
theorem Good.none' {n:Nat} {R:List (List Int)} {b:List Int} {s:Sta} (hw : ∀ r ∈ R,r.length=n) (h:Good R.length n (colOf (firstL R b)) s) :
 (∀ j,j<n→(sumN R.length fun l=>at2 R l j*lack R.length s (n+l))=lack R.length s j)∧(sumN R.length fun l=>(b[l]?).getD 0*lack R.length s (n+l))=lack R.length s (n+R.length) :=
  ⟨fun j hj=>(lack_comb h (fun l=>at2 R l j) (fun l=>n+l) fun x hx=>(col_marks hw hx).1 j hj).symm,(lack_comb h (fun l=>(b[l]?).getD 0) (fun l=>n+l) fun x hx=>(col_marks hw hx).2).symm⟩
theorem Good.told' {n:Nat} {R:List (List Int)} {b:List Int} {s:Sta} (hw : ∀ r ∈ R,r.length=n) (h:Good R.length n (colOf (firstL R b)) s) (h0:lack R.length s (n+R.length)=0) {x:Nat} (hx:x<R.length) :
 s.d*(b[x]?).getD 0=sumN n fun u=>at2 R x u*valN R.length n s u:=by
  have e:((R[x]?).getD []).length=n:=by
   rw [List.getElem?_eq_getElem hx]
   exact hw _ (List.getElem_mem _)
  have f:=h.fits' h0 hx
  have c1:colOf (firstL R b) (n+R.length) x=tn ((b[x]?).getD 0)*(b[x]?).getD 0:=by
   show at2 (firstL R b) x (n+R.length)=_
   unfold firstL
   rw [at2_map hx,← e,fstL_sum]
  have c2 : ∀ u,u<n→colOf (firstL R b) u x=tn ((b[x]?).getD 0)*at2 R x u:=fun u hu=>by
   show at2 (firstL R b) x u=_
   unfold firstL
   rw [at2_map hx,fstL_num (by omega)]; rfl
  rw [c1,sumN_congr fun u hu=>by rw [c2 u hu,Int.mul_assoc],sumN_mul] at f
  have t0:tn ((b[x]?).getD 0)≠0:=by unfold tn; split <;> decide
  refine Int.eq_of_mul_eq_mul_left t0 ?_
  rw [← f]; grind
theorem fct_mono : ∀ {m n:Nat},m≤n→fct m≤fct n
 | m,0,h=>by have:m=0:=by omega
             subst this; exact Nat.le_refl _
 | m,n+1,h=>by
  by_cases e:m=n+1
  ·subst e; exact Nat.le_refl _
  ·exact Nat.le_trans (fct_mono (m:=m) (n:=n) (by omega)) (Nat.le_mul_of_pos_left _ (by omega))
theorem short24 {m x:Nat} (hm:m≤24) (h:x≤fct m*20000000^m):x<2^700:=by
 have a:fct m*20000000^m≤fct 24*20000000^24:=Nat.mul_le_mul (fct_mono hm) (Nat.pow_le_pow_right (by decide) hm)
 have b:fct 24*20000000^24<2^700:=by decide +kernel
 omega
theorem tn_mul_abs (s x:Int):(tn s*x).natAbs=x.natAbs:=by unfold tn; split <;> omega
theorem getD_abs {l:List Int} {M:Nat} (h : ∀ x ∈ l,x.natAbs≤M) (j:Nat):((l[j]?).getD 0).natAbs≤M:=by
 cases e:l[j]? with
 | none=>simp
 | some x=>exact h x (List.mem_of_getElem? e)
theorem col_abs {R:List (List Int)} {b:List Int} (z : ∀ r ∈ R,∀ x ∈ r,x.natAbs≤20000000) (zb : ∀ x ∈ b,x.natAbs≤20000000) (j x:Nat) (hx:x<R.length):(colOf (firstL R b) j x).natAbs≤20000000:=by
 show (at2 (firstL R b) x j).natAbs≤_
 unfold firstL
 rw [at2_map hx]
 refine getD_abs (fun y hy=>?_) j
 unfold fstL at hy
 obtain ⟨w,hw,rfl⟩:=List.mem_map.mp hy
 rw [tn_mul_abs]
 simp only [List.mem_append,List.mem_map,List.mem_singleton] at hw
 rcases hw with (hw|⟨i,_,rfl⟩)|rfl
 ·rw [List.getElem?_eq_getElem hx] at hw
  exact z _ (List.getElem_mem _) w hw
 ·split <;> decide
 ·exact getD_abs zb x
structure Rn (n:Nat) (R:List (List Int)) (b:List Int) (T:Nat) (d:Int) (Ls:List (List Int)) (ss:List Int):Prop where
 l:Ls.length=R.length
 s:ss.length=R.length
 w : ∀ r ∈ Ls,r.length=n+R.length+1
 run : ∃ st cs rs,Run R.length n (colOf (firstL R b)) T st cs rs∧st T=staOf Ls ss d
theorem Rn.good {n:Nat} {R:List (List Int)} {b:List Int} {T:Nat} {d:Int} {Ls:List (List Int)} {ss:List Int} (h:Rn n R b T d Ls ss):Good R.length n (colOf (firstL R b)) (staOf Ls ss d):=by
 obtain ⟨st,cs,rs,r,e⟩:=h.run
 rw [← e]; exact (r.at T (Nat.le_refl _)).1
theorem Rn.short {n:Nat} {R:List (List Int)} {b:List Int} {T:Nat} {d:Int} {Ls:List (List Int)} {ss:List Int} (h:Rn n R b T d Ls ss):T<(n+R.length)^R.length:=by
 obtain ⟨st,cs,rs,r,e⟩:=h.run
 exact r.short
theorem Rn.first {n:Nat} {R:List (List Int)} {b:List Int} (h:SvPre n R b):Rn n R b 0 1 (firstL R b) (firstS R.length) where
 l:=by simp [firstL]
 s:=by simp [firstS]
 w:=fun r hr=>by
  unfold firstL at hr
  obtain ⟨k,hk,rfl⟩:=List.mem_map.mp hr
  have hk:=List.mem_range.mp hk
  rw [fstL_len,List.getElem?_eq_getElem hk]
  show (R[k]).length+_+_=_
  rw [h.i.w _ (List.getElem_mem _)]
 run:=⟨fun _=>staOf (firstL R b) (firstS R.length) 1,fun _=>0,fun _=>0,⟨good_first h.i.w,fun k hk=>by
  show _≤((firstS R.length)[k]?).getD 0
  rw [firstS_at hk]; omega,fun τ hτ=>by omega⟩,rfl⟩
theorem Rn.next {n:Nat} {R:List (List Int)} {b:List Int} {T:Nat} {d:Int} {Ls:List (List Int)} {ss:List Int} {c r:Nat} (h:Rn n R b T d Ls ss) (c1:c<n) (c2:0<lackS Ls ss R.length c) (c3 : ∀ j,j<c→lackS Ls ss R.length j≤0)
 (hr:r<R.length) (ht:Tg Ls ss (n+R.length+1) c R.length r):Rn n R b (T+1) (at2 Ls r c) (newL Ls r c d) (ss.set r c) where
  l:=by unfold newL; rw [List.length_mapIdx]; exact h.l
  s:=by rw [List.length_set]; exact h.s
  w:=fun l hl=>by
   unfold newL at hl
   obtain ⟨k,hk,rfl⟩:=List.mem_mapIdx.mp hl
   have a:=h.w _ (List.getElem_mem hk)
   split
   ·exact a
   ·have e:Ls[r]?=some (Ls[r]'(by rw [h.l]; exact hr)):=List.getElem?_eq_getElem _
    have a2:=h.w _ (List.mem_of_getElem? e)
    unfold clrI
    rw [List.length_zipWith,e]
    show min _ (Ls[r]'_).length=_
    omega
  run:=by
   obtain ⟨st,cs,rs,rr,e⟩:=h.run
   have s:=stp_of (n:=n) (d:=d) h.l h.s h.w c1 c2 c3 hr ht
   rw [← e] at s
   exact ⟨_,_,_,rr.snoc s,by show (if T+1≤T then _ else _)=_; rw [if_neg (by omega)]⟩
theorem Rn.bd {n:Nat} {R:List (List Int)} {b:List Int} {T:Nat} {d:Int} {Ls:List (List Int)} {ss:List Int} (h:Rn n R b T d Ls ss) (p:SvPre n R b):Bd R.length (n+R.length+1) Ls ss∧0<d∧intBits d≤2000:=by
 have g:=h.good
 obtain ⟨a1,a2⟩:=g.abs (M:=20000000) (fun j x hx=>col_abs p.z p.zb j x hx) (by decide)
 have hm:=p.i.hm
 refine ⟨⟨h.l,h.s,h.w,fun r hr x hx=>?_⟩,g.brd.pos,bits_up (intBits_le_iff.mpr (short24 hm a2)) (by decide)⟩
 obtain ⟨k,hk,rfl⟩:=List.mem_iff_getElem.mp hr
 obtain ⟨j,hj,rfl⟩:=List.mem_iff_getElem.mp hx
 have hk':k<R.length:=by rw [← h.l]; exact hk
 have e:at2 Ls k j=Ls[k][j]:=by
  unfold at2
  rw [List.getElem?_eq_getElem hk]
  show (Ls[k][j]?).getD 0=_
  rw [List.getElem?_eq_getElem hj]; rfl
 rw [← e]
 exact bits_up (intBits_le_iff.mpr (short24 hm (a1 k hk' j))) (by decide)
theorem Rn.top {n:Nat} {R:List (List Int)} {b:List Int} {T:Nat} {d:Int} {Ls:List (List Int)} {ss:List Int} (h:Rn n R b T d Ls ss) : ∀ x ∈ ss,x<(n:Int):=fun x hx=>by
 obtain ⟨k,hk,rfl⟩:=List.mem_iff_getElem.mp hx
 have t:=h.good.top k (by rw [← h.s]; exact hk)
 have t:(ss[k]?).getD 0<(n:Int):=t
 rw [List.getElem?_eq_getElem hk] at t
 exact t
theorem Rn.nn {n:Nat} {R:List (List Int)} {b:List Int} {T:Nat} {d:Int} {Ls:List (List Int)} {ss:List Int} (h:Rn n R b T d Ls ss):0≤lackS Ls ss R.length (n+R.length):=sumN_nonneg fun k hk=>by
 have a:0≤at2 Ls k (n+R.length):=h.good.sum k hk
 by_cases q:(ss[k]?).getD 0<0
 ·rw [if_pos q]; exact a
 ·rw [if_neg q]; omega
theorem shB01:shB 0 1=1∧shT 0 1=0:=by decide
theorem Rn.fit {n:Nat} {R:List (List Int)} {b:List Int} {T:Nat} {d:Int} {Ls:List (List Int)} {ss:List Int} (h:Rn n R b T d Ls ss) (p:SvPre n R b) (h0 : ¬ 0<lackS Ls ss R.length (n+R.length))
 {vs:List (Int×Int)} (hl:vs.length=n) (hv : ∀ u x,vs[u]?=some x→ToldAt d Ls ss R.length (n+R.length+1) R.length u x):FitV n R b vs:=by
  have g:=h.good
  obtain ⟨hB,d0,d1⟩:=h.bd p
  have nn:=h.nn
  have z:lack R.length (staOf Ls ss d) (n+R.length)=0:=by
   have:lackS Ls ss R.length (n+R.length)=0:=by omega
   exact this
  have hd:d≠0:=by omega
  have key : ∀ u x,vs[u]?=some x→(Shr x.1 x.2∧0≤x.1∧x.2∣d∧intBits x.1≤2000)∧valN R.length n (staOf Ls ss d) u=x.1*(d/x.2):=fun u x hx=>by
   rcases hv u x hx with ⟨k,hk,e,rfl⟩|⟨e,rfl⟩
   ·have ev:valN R.length n (staOf Ls ss d) u=at2 Ls k (n+R.length):=g.val hk (by show (ss[k]?).getD 0=_; rw [e]; rfl)
    have hN:0≤at2 Ls k (n+R.length):=g.sum k hk
    obtain ⟨row,er⟩ : ∃ row,Ls[k]?=some row:=⟨_,List.getElem?_eq_getElem (by rw [h.l]; exact hk)⟩
    have hbits:intBits (at2 Ls k (n+R.length))≤2000:=(hB.at er (by omega)).2
    rw [ev,show n+R.length+1-1=n+R.length from rfl]
    generalize at2 Ls k (n+R.length)=N at *
    obtain ⟨s1,s2⟩:=sh_ok (t:=N) hd
    have s3:=shB_mul N d
    have q1:=s1.pos
    have dv:shB N d∣d:=⟨cm N d,by rw [Int.mul_comm]; exact s3.symm⟩
    refine ⟨⟨s1,?_,dv,shT_bits hbits⟩,?_⟩
    ·have:0≤shT N d*d:=by rw [s2]; exact Int.mul_nonneg hN (by omega)
     exact Int.nonneg_of_mul_nonneg_left this d0
    ·show N=shT N d*(d/shB N d)
     refine Int.eq_of_mul_eq_mul_right (a:=shB N d) (by omega) ?_
     rw [Int.mul_assoc,Int.ediv_mul_cancel dv,s2]
   ·have ev:valN R.length n (staOf Ls ss d) u=0:=val_none fun k hk y=>e k hk (by
     have y:(ss[k]?).getD 0=(u:Int):=y
     rw [List.getElem?_eq_getElem (by rw [h.s]; exact hk)] at y ⊢
     exact congrArg some y)
    obtain ⟨b1,b2⟩:=shB01
    rw [ev,b1,b2]
    exact ⟨⟨⟨by decide,by decide⟩,by decide,⟨d,by omega⟩,intBits_le_iff.mpr (by decide +kernel)⟩,by omega⟩
  refine ⟨hl,d,d0,d1,fun x hx=>?_,fun k hk=>?_⟩
  ·obtain ⟨u,hu⟩:=List.getElem?_of_mem hx
   exact (key u x hu).1
  ·have t:=g.told' p.i.w z hk
   have t:d*(b[k]?).getD 0=_:=t
   rw [t]
   refine sumN_congr fun u hu=>?_
   have hu':vs[u]?=some (vs[u]'(by omega)):=List.getElem?_eq_getElem _
   rw [(key u _ hu').2,hu']; rfl
theorem gRow_zero : ∀ {ws:List Int} {g:Nat},gRow g ws=0→g=0 ∧ ∀ x ∈ ws,x=0
 | [],g,h=>⟨h,fun x hx=>by cases hx⟩
 | w::ws,g,h=>by
  obtain ⟨a,b⟩:=gRow_zero (ws:=ws) (g:=Int.gcd g w) h
  have c:=Int.gcd_eq_zero_iff.mp a
  refine ⟨by omega,fun x hx=>?_⟩
  rcases List.mem_cons.mp hx with rfl|hx
  ·exact c.2
  ·exact b x hx
def wts (Ls:List (List Int)) (ss:List Int) (n m:Nat):List Int:=(List.range m).map fun l=>lackS Ls ss m (n+l)
theorem Rn.none {n:Nat} {R:List (List Int)} {b:List Int} {T:Nat} {d:Int} {Ls:List (List Int)} {ss:List Int} (h:Rn n R b T d Ls ss) (p:SvPre n R b) (h0:0<lackS Ls ss R.length (n+R.length)) (hc : ∀ j,j<n→lackS Ls ss R.length j≤0) :
 0<gRow 0 (wts Ls ss n R.length)∧NoneW n R b ((wts Ls ss n R.length).map fun x=>x/(gRow 0 (wts Ls ss n R.length):Int)):=by
  obtain ⟨e1,e2⟩:=h.good.none' p.i.w
  have wl:(wts Ls ss n R.length).length=R.length:=by simp [wts]
  have wa : ∀ l,l<R.length→((wts Ls ss n R.length)[l]?).getD 0=lackS Ls ss R.length (n+l):=fun l hl=>by
   unfold wts; rw [List.getElem?_map,List.getElem?_range hl]; rfl
  have e1 : ∀ j,j<n→(sumN R.length fun l=>at2 R l j*lackS Ls ss R.length (n+l))=lackS Ls ss R.length j:=e1
  have e2:(sumN R.length fun l=>(b[l]?).getD 0*lackS Ls ss R.length (n+l))=lackS Ls ss R.length (n+R.length):=e2
  have gp:0<gRow 0 (wts Ls ss n R.length):=by
   rcases Nat.eq_zero_or_pos (gRow 0 (wts Ls ss n R.length)) with z|z
   ·have a:=(gRow_zero z).2
    rw [sumN_zero fun l hl=>by
     have:lackS Ls ss R.length (n+l)=0:=a _ (List.mem_map.mpr ⟨l,List.mem_range.mpr hl,rfl⟩)
     rw [this,Int.mul_zero]] at e2
    omega
   ·exact z
  have dv:=gRow_dvd (wts Ls ss n R.length) 0
  refine ⟨gp,?_⟩
  generalize gRow 0 (wts Ls ss n R.length)=g at *
  have at' : ∀ l,l<R.length→(g:Int)*((((wts Ls ss n R.length).map fun x=>x/(g:Int))[l]?).getD 0)=lackS Ls ss R.length (n+l):=fun l hl=>by
   have e:(wts Ls ss n R.length)[l]?=some (lackS Ls ss R.length (n+l)):=by unfold wts; rw [List.getElem?_map,List.getElem?_range hl]; rfl
   rw [List.getElem?_map,e]
   show (g:Int)*(lackS Ls ss R.length (n+l)/(g:Int))=_
   exact Int.mul_ediv_cancel' (dv _ (List.mem_of_getElem? e))
  have gi:(0:Int)<g:=by omega
  refine ⟨by rw [List.length_map,wl],fun j hj=>?_,?_⟩
  ·have q:(g:Int)*(sumN R.length fun l=>at2 R l j*((((wts Ls ss n R.length).map fun x=>x/(g:Int))[l]?).getD 0))=lackS Ls ss R.length j:=by
    rw [← e1 j hj,← sumN_mul]
    exact sumN_congr fun l hl=>by rw [← at' l hl]; grind
   have c:=hc j hj
   rcases Int.lt_or_le 0 (sumN R.length fun l=>at2 R l j*((((wts Ls ss n R.length).map fun x=>x/(g:Int))[l]?).getD 0)) with y|y
   ·have:=Int.mul_pos gi y
    omega
   ·exact y
  ·have q:(g:Int)*(sumN R.length fun l=>(b[l]?).getD 0*((((wts Ls ss n R.length).map fun x=>x/(g:Int))[l]?).getD 0))=lackS Ls ss R.length (n+R.length):=by
    rw [← e2,← sumN_mul]
    exact sumN_congr fun l hl=>by rw [← at' l hl]; grind
   rw [← q] at h0
   rw [Int.mul_comm] at h0
   exact Int.pos_of_mul_pos_left h0 gi
theorem Rn.gbits {n:Nat} {R:List (List Int)} {b:List Int} {T:Nat} {d:Int} {Ls:List (List Int)} {ss:List Int} (h:Rn n R b T d Ls ss) (p:SvPre n R b) (h0:0<lackS Ls ss R.length (n+R.length)):intBits (gRow 0 (wts Ls ss n R.length):Int)≤9000:=by
 have g:=h.good
 obtain ⟨a1,_⟩:=g.abs (M:=20000000) (fun j x hx=>col_abs p.z p.zb j x hx) (by decide)
 have hm:=p.i.hm
 have e2:(sumN R.length fun l=>(b[l]?).getD 0*lackS Ls ss R.length (n+l))=lackS Ls ss R.length (n+R.length):=(g.none' p.i.w).2
 rw [← e2] at h0
 obtain ⟨l,hl,q⟩:=sumN_pos h0
 have nz:lackS Ls ss R.length (n+l)≠0:=fun z=>by rw [z,Int.mul_zero] at q; omega
 have dv:=gRow_dvd (wts Ls ss n R.length) 0 (lackS Ls ss R.length (n+l)) (List.mem_map.mpr ⟨l,List.mem_range.mpr hl,rfl⟩)
 have le:gRow 0 (wts Ls ss n R.length)≤(lackS Ls ss R.length (n+l)).natAbs:=Nat.le_of_dvd (by omega) (Int.ofNat_dvd_left.mp dv)
 have ab:(lackS Ls ss R.length (n+l)).natAbs≤R.length*2^700:=sumN_abs fun k hk=>by
  by_cases q:(ss[k]?).getD 0<0
  ·rw [if_pos q]
   exact Nat.le_of_lt (short24 hm (a1 k hk (n+l)))
  ·rw [if_neg q]; exact Nat.zero_le _
 refine bits_up (intBits_le_iff (m:=710).mpr ?_) (by decide)
 have:R.length*2^700≤24*2^700:=Nat.mul_le_mul_right _ hm
 have t:24*2^700<2^710:=by decide +kernel
 rw [Int.natAbs_natCast]
 omega
theorem sIx_int {n d:Nat} {v:Int} (h:0≤v):HT.sIx n d (some v)=min v.toNat n:=by
 show (if v<0 then _ else _)=_
 rw [if_neg (by omega)]
theorem cut_to {α:Type} (l:List α) {j:Int} (h:0≤j):cutL l none (some j)=l.take j.toNat:=by
 unfold cutL
 rw [sIx_int h,HT.sIx_none,List.drop_zero,Nat.sub_zero]
 by_cases h1:j.toNat≤l.length
 ·rw [Nat.min_eq_left h1]
 ·rw [Nat.min_eq_right (by omega),List.take_of_length_le (Nat.le_refl _),List.take_of_length_le (by omega)]
theorem cut_mid {α:Type} (l:List α) {i j:Int} (h:0≤i) (h2:i≤j):cutL l (some i) (some j)=(l.drop i.toNat).take (j-i).toNat:=by
 unfold cutL
 rw [sIx_int h,sIx_int (by omega)]
 by_cases h1:i.toNat≤l.length
 ·rw [Nat.min_eq_left h1]
  by_cases h3:j.toNat≤l.length
  ·rw [Nat.min_eq_left h3]; congr 1; omega
  ·rw [Nat.min_eq_right (by omega),List.take_of_length_le (by simp),List.take_of_length_le (by simp; omega)]
 ·rw [Nat.min_eq_right (by omega),Nat.min_eq_right (by omega),List.drop_of_length_le (Nat.le_refl _),List.drop_of_length_le (by omega)]; simp
def sp_solved (ds:List PyData) (q:PyData→Prop):Prop := ∃ (n:Nat) (R:List (List Int)) (b:List Int),ds=[dRows R,.list (b.map .int)]∧SvPre n R b∧(∀ vs,FitV n R b vs→q (.tuple [.str "fits",.list (vs.map fun x=>dSh x.1 x.2)])) ∧ ∀ ws,NoneW n R b ws→(∀ x ∈ ws,intBits x≤710)→q (.tuple [.str "none",.list (ws.map .int)])
theorem Rn.wbits {n:Nat} {R:List (List Int)} {b:List Int} {T:Nat} {d:Int} {Ls:List (List Int)} {ss:List Int} (h:Rn n R b T d Ls ss) (p:SvPre n R b) (gp:0<gRow 0 (wts Ls ss n R.length)) : ∀ x ∈ (wts Ls ss n R.length).map fun x=>x/(gRow 0 (wts Ls ss n R.length):Int),intBits x≤710:=by
 intro x hx
 obtain ⟨y,hy,rfl⟩:=List.mem_map.mp hx
 have g:=h.good
 obtain ⟨a1,_⟩:=g.abs (M:=20000000) (fun j x hx=>col_abs p.z p.zb j x hx) (by decide)
 have hm:=p.i.hm
 have dv:=gRow_dvd (wts Ls ss n R.length) 0 y hy
 obtain ⟨l,hl,e⟩:=List.mem_map.mp hy
 have ab:y.natAbs≤R.length*2^700:=by
  rw [← e]
  exact sumN_abs fun k hk=>by
   by_cases q:(ss[k]?).getD 0<0
   ·rw [if_pos q]
    exact Nat.le_of_lt (short24 hm (a1 k hk (n+l)))
   ·rw [if_neg q]; exact Nat.zero_le _
 generalize gRow 0 (wts Ls ss n R.length)=g0 at *
 obtain ⟨k,rfl⟩:=dv
 rw [Int.mul_ediv_cancel_left _ (show (g0:Int)≠0 by omega)]
 have k1:k.natAbs≤((g0:Int)*k).natAbs:=by
  rw [Int.natAbs_mul,Int.natAbs_natCast]
  exact Nat.le_mul_of_pos_left _ gp
 refine intBits_le_iff (m:=710).mpr ?_
 have:R.length*2^700≤24*2^700:=Nat.mul_le_mul_right _ hm
 have t:24*2^700<2^710:=by decide +kernel
 omega
theorem BAt.go {K:PySem.W.Frag} {C:Addr} {H F H' F':Hp} {a dx qa:Addr} {n:Nat} {d:Int} {Ls:List (List Int)} {ss:List Int} {vl:V} (h:BAt K C H F a dx qa n d Ls ss vl) (g:Go F H F' H'):BAt K C H' F' a dx qa n d Ls ss vl :=
 ⟨g.h _ _ h.ha,h.hl.mono g.f,g.h _ _ h.hq,go_none g h.ha h.fa,go_none g h.hq h.fq⟩
def lkD (n m:Nat) (Ls:List (List Int)) (ss:List Int):PyData :=.list (((List.range (n+m+1)).map (lackS Ls ss m)).map .int)
theorem lack_at {K:PySem.W.Frag} {C:Addr} {H F:Hp} {a dx qa:Addr} {n m:Nat} {d:Int} {Ls:List (List Int)} {ss:List Int} {vl:V} (hA:BAt K C H F a dx qa n d Ls ss vl) (sm:Same F H) (hB:Bd m (n+m+1) Ls ss) (hn:n≤20) (hm:m≤24) {Q:VK} {E:XK}
 (k : ∀ F' H' vk,Go F H F' H'→Is K F' (lkD n m Ls ss) vk→Q vk H'):OFSp K C sp_lack [.ref a] H Q E:=by
  refine ⟨a,dx,_,[],upd F qa (.lst (ss.map V.int)),bNm,bFs n d Ls ss,[],fun l=>l=((List.range (n+m+1)).map (lackS Ls ss m)).map .int,rfl,hA.ha,same_upd sm hA.hq,hA.flds,iss_nil,⟨n,d,Ls,ss,m,rfl,rfl,rfl,⟨hB,hn,hm⟩,rfl⟩,fun l lb xs F' H' g hb1 hb2 hb3 hi q=>?_⟩
  subst q
  have ex:=hi.ints_inv
  subst ex
  exact k _ H' (.ref lb) (go_fz (cut_go hA.fq hA.hq g) hb1 hb3) (is_lst (SqL.of upd_same) (iss_ints _))
theorem flat_sh : ∀ vs:List (Int×Int),flatDs (vs.map fun x=>dSh x.1 x.2)=true
 | []=>rfl
 | x::r=>by
  rw [List.map_cons]
  unfold flatDs
  rw [flat_sh r]
  simp [dSh,flatD,flatDs]
theorem told_at {K:PySem.W.Frag} {C:Addr} {H F:Hp} {a dx qa:Addr} {n m w:Nat} {d:Int} {Ls:List (List Int)} {ss:List Int} {vl:V} (hA:BAt K C H F a dx qa n d Ls ss vl) (sm:Same F H) (hB:Bd m w Ls ss∧0<d∧intBits d≤2000∧1≤w∧n≤900 ∧ ∀ x ∈ ss,x<(n:Int)) {Q:VK} {E:XK}
 (k : ∀ (vs:List (Int×Int)) lb xs F' H',Go F H F' H'→vs.length=n→(∀ u x,vs[u]?=some x→ToldAt d Ls ss m w m u x)→H lb=none→H' lb=some (.lst xs)→Iss K F' (vs.map fun x=>dSh x.1 x.2) xs→Q (.ref lb) H'):OFSp K C sp_told [.ref a] H Q E:=by
  refine ⟨a,dx,_,[],upd F qa (.lst (ss.map V.int)),bNm,bFs n d Ls ss,[],fun l => ∃ vs:List (Int×Int),l=(vs.map fun x=>dSh x.1 x.2)∧vs.length=n ∧ ∀ u x,vs[u]?=some x→ToldAt d Ls ss m w m u x,rfl,hA.ha,same_upd sm hA.hq,hA.flds,iss_nil,⟨n,d,Ls,ss,m,w,rfl,rfl,rfl,hB,fun vs h1 h2=>⟨vs,rfl,h1,h2⟩⟩,fun l lb xs F' H' g hb1 hb2 hb3 hi q=>?_⟩
  obtain ⟨vs,rfl,h1,h2⟩:=q
  exact k vs lb xs _ H' (cut_go hA.fq hA.hq g) h1 h2 hb1 hb3 (Iss.off (g.f _ _ upd_same) (flat_sh vs) hi)
theorem cut_last {α:Type} (l:List α) {i:Nat} (h:i+1≤l.length):cutL l (some (i:Int)) (some (-1))=(l.drop i).take (l.length-1-i):=by
 have e:HT.sIx l.length l.length (some (-1))=l.length-1:=by
  show (if (-1:Int)<0 then ((-1:Int)+(l.length:Int)).toNat else min (-1:Int).toNat l.length)=l.length-1
  rw [if_pos (by decide)]
  omega
 unfold cutL
 rw [HT.sIx_nat,e,Nat.min_eq_left (by omega)]
theorem lk_take {n m:Nat} {Ls:List (List Int)} {ss:List Int}:cutL (((List.range (n+m+1)).map (lackS Ls ss m)).map PyData.int) none (some (n:Int))=((List.range n).map (lackS Ls ss m)).map .int:=by
 rw [cut_to _ (by omega),← List.map_take,← List.map_take,List.take_range,Int.toNat_natCast,Nat.min_eq_left (by omega)]
theorem lk_mid {n m:Nat} {Ls:List (List Int)} {ss:List Int}:cutL (((List.range (n+m+1)).map (lackS Ls ss m)).map PyData.int) (some (n:Int)) (some (-1))=(wts Ls ss n m).map .int:=by
 rw [cut_last _ (by simp)]
 refine List.ext_getElem? fun k=>?_
 by_cases hk:k<m
 ·rw [List.getElem?_take_of_lt (by simp; omega),List.getElem?_drop,List.getElem?_map,List.getElem?_map,List.getElem?_range (by omega)]
  unfold wts
  rw [List.getElem?_map,List.getElem?_map,List.getElem?_range hk]; rfl
 ·rw [List.getElem?_eq_none (by simp; omega),List.getElem?_eq_none (by simp [wts]; omega)]
theorem meth0_go {C:Addr} {m:Str} {sp:Sp} {σ:St} {H:Hp} {Q:VK} {i:Nat} {a dx:Addr} {fs:List (Str×V)} (e:σ[i]?=some (some (.ref a))) (h:H a=some (.ins C dx fs)) (l:fs.lookup m=none) (k:sp [.ref a] H Q E0):tMeth C m sp [] E0 (tVar i) tNil σ H Q:=⟨_,e,a,dx,fs,rfl,h,l,k⟩
theorem len6 {α:Type} {l:List α} (h:l.length=6) : ∃ a0 a1 a2 a3 a4 a5,l=[a0,a1,a2,a3,a4,a5]:=by
 match l,h with
 | [a0,a1,a2,a3,a4,a5],_=>exact ⟨a0,a1,a2,a3,a4,a5,rfl⟩
def SvW (K:PySem.W.Frag) (C:Addr) (F H:Hp) (n:Nat) (R:List (List Int)) (b:List Int) (mm:Nat) (σ:St) (H1:Hp):Prop := ∃ T d Ls ss F1 a dx qa vl vr vb vk o5,
 mm+T=(n+R.length)^R.length∧σ=[some vr,some vb,some (.int n),some (.ref a),some vk,o5]∧Go F H F1 H1∧BAt K C H1 F1 a dx qa n d Ls ss vl∧H a=none∧H qa=none ∧
 Is K F1 (dRows R) vr∧Is K F1 (.list (b.map .int)) vb∧Is K F1 (lkD n R.length Ls ss) vk∧Rn n R b T d Ls ss
theorem sc_solved:FnScope ["rows","sums","unknowns","board","lack","place"] ["rows","sums"] (defScope s_solved):=⟨rfl,rfl,rfl,by decide +kernel,rfl,by decide +kernel,by decide +kernel⟩
theorem ok_solved (F:Def K mg "solved" s_solved ["rows","sums"]) (T:Txt K mg cs)
 (O_first_above:Ok P w K mg base "first_above" 1 ["numbers"] (PSp K sp_first_above))
 (O_lowest:Ok P w K mg base "lowest" 2 ["weights"] (FSp K sp_lowest))
 (O_Board___init__:OkM P w K mg base cs.Board "__init__" 2 ["self","unknowns","rows","sums"] (initSp K cs.Board))
 (O_Board_lack:OkM P w K mg base cs.Board "lack" 1 ["self"] (OFSp K cs.Board sp_lack))
 (O_Board_bring_in:OkM P w K mg base cs.Board "bring_in" 3 ["self","place"] (bringSp K cs.Board))
 (O_Board_told:OkM P w K mg base cs.Board "told" 4 ["self"] (OFSp K cs.Board sp_told))
 : Ok P w K mg base "solved" 5 ["rows","sums"] (SolSp K sp_solved):=by
  refine F.ok sc_solved (by rintro vs H Q E ⟨F,ds,q,_,i,⟨_,_,_,h,_⟩,_⟩; rw [i.len,h]; rfl) fun f cdv A outer s H vs Q E hr h=>?_
  obtain ⟨F0,ds,q,sm,hi,⟨n,R,b,rfl,hp,k1,k2⟩,kk⟩:=h
  obtain ⟨f1,fd1,F1,hm1,hb1⟩:=O_Board_lack.ex
  obtain ⟨f2,fd2,F2,hm2,hb2⟩:=O_Board_bring_in.ex
  obtain ⟨f3,fd3,F3,hm3,hb3⟩:=O_Board_told.ex
  obtain ⟨f4,fd4,F4,hm4,hb4⟩:=O_Board___init__.ex
  refine ⟨_,pss_cons (VS.ps (vs_set (i:=2) sc_solved.nd (ve_ifExp (vt_tru (ve_var 0)) (ve_callB c_len T.len_ L2.boot_len (va_cons (ve_ix (ve_var 0) ve_int) va_nil)) ve_int))) (pss_cons (VS.ps (vs_if (VW.pt (vw_or (vt_cmp o_gt (ve_var 2) (ve_globI T.MOST_UNKNOWNS_)) (vw_or1 (vt_cmp o_gt (ve_callB c_len T.len_ L2.boot_len (va_cons (ve_var 0) va_nil)) (ve_globI T.MOST_ROWS_))))) vss_never vss_nil)) (pss_cons (ps_set (i:=3) sc_solved.nd rfl (by first|exact Or.inl rfl|exact Or.inr rfl) (pe_make ⟨T.Board_mk,hm4.at_,hm4.fn,T.Board_kp⟩ F4 (hr.mono (by decide)) rfl T.Board_ hb4 .nil pass0 (pa_cons (pe_var (i:=2) rfl (by first|exact Or.inl rfl|exact Or.inr (Or.inl rfl)|exact Or.inr (Or.inr rfl)) (by decide) (by decide)) (pa_cons (pe_var (i:=0) rfl (by first|exact Or.inl rfl|exact Or.inr (Or.inl rfl)|exact Or.inr (Or.inr rfl)) (by decide) (by decide)) (pa_cons (pe_var (i:=1) rfl (by first|exact Or.inl rfl|exact Or.inr (Or.inl rfl)|exact Or.inr (Or.inr rfl)) (by decide) (by decide)) pa_nil)))) rfl (by first|exact .inl rfl|exact .inr rfl))
   (pss_cons (ps_set (i:=4) sc_solved.nd rfl (by first|exact Or.inl rfl|exact Or.inr rfl) (pe_meth0 (pe_var (i:=3) rfl (by first|exact Or.inl rfl|exact Or.inr (Or.inl rfl)|exact Or.inr (Or.inr rfl)) (by decide) (by decide)) T.Board_c hm1 F1 (hr.mono (by decide)) hb1 .nil pass0) rfl (by first|exact .inl rfl|exact .inr rfl))
   (pss_cons (ps_while PassesOwn.never (VT.pt (vt_cmp o_gt (ve_ix (ve_var 4) (ve_neg ve_int)) ve_int)) (pss_cons (VS.ps (vs_set (i:=5) sc_solved.nd (ve_fn O_first_above (hr.mono (by decide)) (va_cons (vf_fz (vf_slice (ve_var 4) vo_none (vo_some (ve_var 2)))) va_nil)))) (pss_cons (ps_if (VT.pt (vt_cmp o_isN (ve_var 5) ve_non)) (pss_one (ps_ret (pe_tup (pa_cons pe_str (pa_cons (VF.pe (vf_fn O_lowest (hr.mono (by decide)) (va_cons (vf_fz (vf_slice (ve_var 4) (vo_some (ve_var 2)) (vo_some (ve_neg ve_int)))) va_nil))) pa_nil))))) pss_nil) (pss_cons (ps_expr (pe_meth (pe_var (i:=3) rfl (by first|exact Or.inl rfl|exact Or.inr (Or.inl rfl)|exact Or.inr (Or.inr rfl)) (by decide) (by decide)) T.Board_c hm2 F2 (hr.mono (by decide)) hb2 .nil pass0 (pa_cons (pe_var (i:=5) rfl (by first|exact Or.inl rfl|exact Or.inr (Or.inl rfl)|exact Or.inr (Or.inr rfl)) (by decide) (by decide)) pa_nil))) (pss_one (ps_set (i:=4) sc_solved.nd rfl (by first|exact Or.inl rfl|exact Or.inr rfl) (pe_meth0 (pe_var (i:=3) rfl (by first|exact Or.inl rfl|exact Or.inr (Or.inl rfl)|exact Or.inr (Or.inr rfl)) (by decide) (by decide)) T.Board_c hm1 F1 (hr.mono (by decide)) hb1 .nil pass0) rfl (by first|exact .inl rfl|exact .inr rfl)))))))
   (pss_one (ps_ret (pe_tup (pa_cons pe_str (pa_cons (pe_meth0 (pe_var (i:=3) rfl (by first|exact Or.inl rfl|exact Or.inr (Or.inl rfl)|exact Or.inr (Or.inr rfl)) (by decide) (by decide)) T.Board_c hm3 F3 (hr.mono (by decide)) hb3 .nil pass0) pa_nil))))))))),?_⟩
  have hn20:=hp.i.hn
  have hm24:=hp.i.hm
  refine ⟨⟨H,H,F0⟩,_,F0,{ nx:=fun e=>e=[.val (dRows R),.val (.list (b.map .int)),.val (.int n),.non,.non,.non],rt:=fun _ _=>False },env_start sm hi,?_,⟨fun e1 F1 H1 σ1 I1 s1 q1=>?_,fun _ _ _ _ _ _ _ _ _ q=>q.elim,fun _ _ _ _ _ _ q=>q.elim,fun _ _ _ _ _ _ q=>q.elim⟩⟩
  ·have hR0:R≠[]:=fun z=>by have:=hp.m1; rw [z] at this; simp at this
   obtain ⟨r0,R0,eR⟩:=List.exists_cons_of_ne_nil hR0
   have l0:r0.length=n:=hp.i.w r0 (by rw [eR]; simp)
   have aR:atI (R.map dRow) 0=some (dRow r0):=by rw [eR]; exact atI_zero _ _
   have eT:truD (dRows R)=true:=by rw [eR]; rfl
   refine ⟨fun x z=>(by cases z),?_⟩
   show if truD (dRows R)=true then _ else _
   rw [if_pos eT]
   refine ⟨dRow r0,aR,?_⟩
   show (_:Sto)=_
   rw [show ((r0.map PyData.int).length:Int)=n by rw [List.length_map,l0]]
   rfl
  have q1:e1=_:=q1
  subst q1
  refine ⟨⟨H,H,F0⟩,_,F1,{ nx:=fun e=>e=[.val (dRows R),.val (.list (b.map .int)),.val (.int n),.non,.non,.non],rt:=fun _ _=>False },I1,?_,⟨fun e2 F2 H2 σ2 I2 s2 q2=>?_,fun _ _ _ _ _ _ _ _ _ q=>q.elim,fun _ _ _ _ _ _ q=>q.elim,fun _ _ _ _ _ _ q=>q.elim⟩⟩
  ·refine iteD (fun z=>by exfalso; omega) (fun _=>?_)
   refine iteD (fun z=>by exfalso; rw [List.length_map] at z; omega) (fun _=>?_)
   rfl
  have q2:e2=_:=q2
  subst q2
  have g2:=I2.goOf
  obtain ⟨x0,x1,x2,x3,x4,x5,eσ⟩:=len6 I2.len.symm
  obtain ⟨vr,e0,ir⟩:=(show ∃ v,x0=some v∧Is K F2 (dRows R) v by have:=I2.slot 0; rw [eσ] at this; exact this)
  obtain ⟨vb,e1,ib⟩:=(show ∃ v,x1=some v∧Is K F2 (.list (b.map .int)) v by have:=I2.slot 1; rw [eσ] at this; exact this)
  obtain ⟨v2,e2,i2⟩:=(show ∃ v,x2=some v∧Is K F2 (.int n) v by have:=I2.slot 2; rw [eσ] at this; exact this)
  rw [i2.int_inv] at e2
  rw [e0,e1,e2] at eσ
  subst eσ
  refine ⟨.int n,rfl,vr,rfl,vb,rfl,fun x dx hx hdx hne=>?_⟩
  have h2x:upd H2 dx (.own x) x=none:=by rw [upd_ne (Ne.symm hne)]; exact hx
  have gm:Go F0 H F2 (upd (upd H2 dx (.own x)) x (.ins cs.Board dx [])):=g2.trans ((Go.side g2.fh hdx).trans (Go.side (g2.fh.trans (same_new hdx)) h2x))
  refine ⟨x,dx,F2,vr,vb,n,R,b,rfl,upd_same,same_none g2.fh hx,gm.fh,ir,ib,hp.i,fun F3 H3 vl qa hqa gx hA=>⟨rfl,?_⟩⟩
  have na:H x=none:=same_none g2.h hx
  have nq:H qa=none:=same_none gm.h hqa
  have g3:=GoX.go gm gx na nq
  have rn0:=Rn.first hp
  refine meth0_go rfl hA.ha rfl (lack_at hA g3.fh (rn0.bd hp).1 hn20 hm24 fun F4 H4 vk g4 ik=>?_)
  refine ⟨SvW K cs.Board F0 H n R b,⟨(n+R.length)^R.length,0,_,_,_,F4,x,dx,qa,vl,vr,vb,vk,_,rfl,rfl,g3.trans g4,hA.go g4,na,nq,(ir.mono gx.f).mono g4.f,(ib.mono gx.f).mono g4.f,ik,rn0⟩,?_⟩
  clear rn0 ik g4 hA gx g3 nq na hqa gm h2x hne hdx hx ir ib g2 I2 s2 I1 s1
  rintro mm σ H1 ⟨T',d,Ls,ss,F1,a,dx,qa,vl,vr,vb,vk,o5,hT,rfl,g,hA,na,nq,ir,ib,ik,rn⟩
  obtain ⟨hB,d0,d1⟩:=rn.bd hp
  have hE:EnvOk K ⟨H1,H1,F1⟩ F1 H1 [.val (dRows R),.val (.list (b.map .int)),.val (.int n),.obj a cs.Board bNm [],.val (lkD n R.length Ls ss),.non] [some vr,some vb,some (.int n),some (.ref a),some vk,o5] :=
   env_of g.fh ⟨_,_,rfl,⟨⟨vr,rfl,ir⟩,rfl⟩,_,_,rfl,⟨⟨vb,rfl,ib⟩,rfl⟩,_,_,rfl,⟨⟨_,rfl,is_int _⟩,rfl⟩,_,_,rfl,⟨⟨dx,_,rfl,hA.ha,rfl,fun f d z=>by cases z⟩,rfl⟩,_,_,rfl,⟨⟨vk,rfl,ik⟩,rfl⟩,_,_,rfl,⟨trivial,rfl⟩,rfl⟩
  refine ⟨⟨H1,H1,F1⟩,_,F1,fun bb e=>bb=decide (0<lackS Ls ss R.length (n+R.length))∧e=[.val (dRows R),.val (.list (b.map .int)),.val (.int n),.obj a cs.Board bNm [],.val (lkD n R.length Ls ss),.non],hE,?_,fun bb F2 H2 e2 I2 s2 q2=>?_⟩
  ·refine ⟨.int (lackS Ls ss R.length (n+R.length)),atI_last ?_,?_⟩
   ·rw [List.length_map,List.length_map,List.length_range,Nat.add_sub_cancel,List.getElem?_map,List.getElem?_map,List.getElem?_range (by omega)]; rfl
   ·exact ⟨rfl,rfl⟩
  obtain ⟨rfl,rfl⟩:=q2
  by_cases h0:0<lackS Ls ss R.length (n+R.length)
  ·rw [decide_eq_true h0,if_pos rfl]
   refine ⟨fun σ' H' => ∃ m',m'<mm∧SvW K cs.Board F0 H n R b m' σ' H',fun σ' H' z=>z,?_⟩
   refine ⟨⟨H1,H1,F1⟩,_,F2,{ nx:=fun e => ∃ dd,((dd = .none ∧ ∀ j,j<n→lackS Ls ss R.length j≤0) ∨ ∃ c:Nat,dd = .int c∧c<n∧0<lackS Ls ss R.length c ∧ ∀ j,j<c→lackS Ls ss R.length j≤0)∧e=[.val (dRows R),.val (.list (b.map .int)),.val (.int n),.obj a cs.Board bNm [],.val (lkD n R.length Ls ss),.val dd],rt:=fun _ _=>False },I2,?_,⟨fun e3 F3 H3 σ3 I3 s3 q3=>?_,fun _ _ _ _ _ _ _ _ _ q=>q.elim,fun _ _ _ _ _ _ q=>q.elim,fun _ _ _ _ _ _ q=>q.elim⟩⟩
   ·rintro r rfl
    rw [lk_take]
    refine ⟨(List.range n).map (lackS Ls ss R.length),rfl,fun z=>⟨.none,.inl ⟨rfl,fun j hj=>z _ (List.mem_map.mpr ⟨j,List.mem_range.mpr hj,rfl⟩)⟩,rfl⟩,fun c x z x0 zj=>?_⟩
    have hc:c<n:=by
     have:=(List.getElem?_eq_some_iff.mp z).1
     simpa using this
    rw [List.getElem?_map,List.getElem?_range hc] at z
    have z:=Option.some.inj z
    refine ⟨.int c,.inr ⟨c,rfl,hc,by rw [z]; exact x0,fun j hj=>zj j _ hj ?_⟩,rfl⟩
    rw [List.getElem?_map,List.getElem?_range (by omega)]; rfl
   obtain ⟨dd,hdd,rfl⟩:=q3
   refine ⟨⟨H1,H1,F1⟩,_,F3,fun bb e=>bb=isNoneD dd∧e=[.val (dRows R),.val (.list (b.map .int)),.val (.int n),.obj a cs.Board bNm [],.val (lkD n R.length Ls ss),.val dd],I3,?_,fun bb F4 H4 e4 I4 s4 q4=>?_⟩
   ·exact ⟨rfl,rfl,rfl⟩
   obtain ⟨rfl,rfl⟩:=q4
   rcases hdd with ⟨rfl,hc⟩|⟨c,rfl,c1,c2,c3⟩
   ·show if true=true then _ else _
    rw [if_pos rfl]
    obtain ⟨gp,hW⟩:=rn.none hp h0 hc
    refine ⟨⟨H1,H1,F1⟩,_,F4,fun ds e=>ds=((wts Ls ss n R.length).map fun x=>x/(gRow 0 (wts Ls ss n R.length):Int)).map .int,I4,?_,fun la xs ds F5 H5 e5 I5 s5 h1 h2 h3 h4 h5 h6 h7=>⟨szl,fun p hpp=>?_⟩⟩
    ·rintro r rfl
     rw [lk_mid]
     exact ⟨wts Ls ss n R.length,rfl,⟨by simp [wts]; omega,gp,rn.gbits hp h0⟩,rfl⟩
    subst h7
    obtain ⟨F6,g6,i6,p1,p2⟩:=sol_fin (w := "none") (g.trans I5.goOf) (same_none g.h h4) h1 h6 hpp
    exact kk _ _ p la xs F6 _ g6 i6 p1 (same_none g.h h4) p2 (by rw [h6.len]; simp [wts]; omega) (k2 _ hW (rn.wbits hp gp))
   ·show if false=true then _ else _
    rw [if_neg (by decide)]
    have g4:=I4.goOf
    have A4:=hA.go g4
    obtain ⟨x0,x1,x2,x3,x4,x5,eσ⟩:=len6 I4.len.symm
    obtain ⟨vr',e0,ir'⟩:=(show ∃ v,x0=some v∧Is K F4 (dRows R) v by have:=I4.slot 0; rw [eσ] at this; exact this)
    obtain ⟨vb',e1,ib'⟩:=(show ∃ v,x1=some v∧Is K F4 (.list (b.map .int)) v by have:=I4.slot 1; rw [eσ] at this; exact this)
    obtain ⟨v2,e2,i2⟩:=(show ∃ v,x2=some v∧Is K F4 (.int n) v by have:=I4.slot 2; rw [eσ] at this; exact this)
    have e3:x3=some (.ref a):=by
     have:=I4.slot 3
     rw [eσ] at this
     obtain ⟨_,_,z,_⟩:=this
     exact z
    obtain ⟨v5,e5,i5⟩:=(show ∃ v,x5=some v∧Is K F4 (.int c) v by have:=I4.slot 5; rw [eσ] at this; exact this)
    obtain ⟨vk',e4,_⟩:=(show ∃ v,x4=some v∧Is K F4 (lkD n R.length Ls ss) v by have:=I4.slot 4; rw [eσ] at this; exact this)
    rw [i2.int_inv] at e2
    rw [i5.int_inv] at e5
    rw [e0,e1,e2,e3,e4,e5] at eσ
    subst eσ
    refine ⟨.ref a,rfl,a,dx,_,rfl,A4.ha,rfl,.int c,rfl,a,dx,qa,F4,vl,n,d,Ls,ss,R.length,c,rfl,A4,I4.fh,⟨hB,c1,hm24,hn20,d0,d1,lack_pos (b:=staOf Ls ss d) c2⟩,fun F5 H5 vl' r hr' ht gx A5=>?_⟩
    have rn':=rn.next c1 c2 c3 hr' ht
    have gg:=GoX.go (g.trans g4) gx na nq
    have hS:=rn'.short
    refine meth0_go rfl A5.ha rfl (lack_at A5 gx.fh (rn'.bd hp).1 hn20 hm24 fun F6 H6 vk6 g6 ik6=>?_)
    exact ⟨(n+R.length)^R.length-(T'+1),by omega,T'+1,_,_,_,F6,a,dx,qa,vl',vr',vb',vk6,_,by omega,rfl,gg.trans g6,A5.go g6,na,nq,(ir'.mono gx.f).mono g6.f,(ib'.mono gx.f).mono g6.f,ik6,rn'⟩
  ·rw [decide_eq_false h0,if_neg (by decide)]
   have g2:=I2.goOf
   have A2:=hA.go g2
   refine meth0_go rfl A2.ha rfl (told_at A2 I2.fh ⟨hB,d0,d1,by omega,by omega,rn.top⟩ fun vs lb xs F3 H3 g3 hv1 hv2 hlb hH3 iss=>⟨szl,fun p hpp=>?_⟩)
   have nl:H lb=none:=same_none (g.trans g2).h hlb
   obtain ⟨F6,g6,i6,p1,p2⟩:=sol_fin (w := "fits") ((g.trans g2).trans g3) nl hH3 iss hpp
   exact kk _ _ p lb xs F6 _ g6 i6 p1 nl p2 (by rw [iss.len,List.length_map]; omega) (k1 vs (rn.fit hp h0 hv1 hv2))
def sp_check_few_signs (ds:List PyData) (q:PyData→Prop):Prop := ∃ b r R,ds=[dTab b (r::R)]∧r.length≤4∧q .none
theorem sc_check_few_signs:FnScope ["glass"] ["glass"] (defScope s_check_few_signs):=⟨rfl,rfl,rfl,by decide +kernel,rfl,by decide +kernel,by decide +kernel⟩
theorem ok_check_few_signs (F:Def K mg "check_few_signs" s_check_few_signs ["glass"]) (T:Txt K mg cs)
 (O_signs:Ok P w K mg base "signs" 1 ["glass"] (PSp K sp_signs))
 : Ok P w K mg base "check_few_signs" 2 ["glass"] (PSp K sp_check_few_signs):=by
  refine F.vok sc_check_few_signs (by rintro ds q ⟨_,_,_,h,_⟩; rw [h]; rfl) fun f cdv A outer s H E hr ds q h=>?_
  obtain ⟨b,r,R,rfl,hl,h⟩:=h
  refine ⟨_,(vss_one (vs_if (vt_cmp o_gt (ve_fn O_signs (hr.mono (by decide)) (va_cons (ve_var 0) va_nil)) (ve_globI T.MOST_COMPARED_)) vss_never vss_nil)),?_⟩
  exact ⟨b,r,R,rfl,iteD (fun z=>by omega) (fun _=>h)⟩
theorem range_sum (f:Nat→Int) : ∀ n:Nat,((List.range n).map f).sum=sumN n f
 | 0=>rfl
 | n+1=>by rw [List.range_succ,List.map_append,List.sum_append,range_sum f n]; simp [sumN]
theorem sumN_le0 {f:Nat→Int} {n:Nat} (h : ∀ k,k<n→f k≤0):sumN n f≤0:=by
 rcases Int.lt_or_le 0 (sumN n f) with z|z
 ·obtain ⟨k,hk,p⟩:=sumN_pos z
  have:=h k hk
  omega
 ·exact z
theorem bot_next {B q d:Int} (hB:0<B) (hq:0<q) (h1:B∣d) (h2:q∣d):0<B*q/(Int.gcd B q:Int)∧B*q/(Int.gcd B q:Int)∣d∧B∣B*q/(Int.gcd B q:Int)∧q∣B*q/(Int.gcd B q:Int):=by
 obtain ⟨x,rfl⟩:=Int.eq_ofNat_of_zero_le (Int.le_of_lt hB)
 obtain ⟨y,rfl⟩:=Int.eq_ofNat_of_zero_le (Int.le_of_lt hq)
 have e:(x:Int)*(y:Int)/(Int.gcd x y:Int)=((Nat.lcm x y:Nat):Int):=by
  unfold Nat.lcm
  rw [Int.gcd_natCast_natCast,Int.natCast_ediv,Int.natCast_mul]
 rw [e]
 have p:0<Nat.lcm x y:=Nat.lcm_pos (by omega) (by omega)
 refine ⟨by omega,?_,Int.natCast_dvd_natCast.mpr (Nat.dvd_lcm_left x y),Int.natCast_dvd_natCast.mpr (Nat.dvd_lcm_right x y)⟩
 rw [Int.ofNat_dvd_left] at h1 h2 ⊢
 exact Nat.lcm_dvd h1 h2
structure ShW (p q:Int):Prop where
 s:Shr p q
 b1:intBits p≤4000
 b2:intBits q≤4000
theorem ShW.bot {p q r s:Int} (h:ShW p q) (k:ShW r s):q*s≠0∧intBits (q*s)≤9000:=by
 have h1:=h.s.pos
 have h2:=k.s.pos
 have:=Int.mul_pos (show 0<q by omega) (show 0<s by omega)
 exact ⟨by omega,bits_up (intBits_mul_le h.b2 k.b2) (by decide)⟩
theorem shw_of {t b:Int} (hb:b≠0) (h1:intBits t≤4000) (h2:intBits b≤4000):ShW (shT t b) (shB t b):=⟨(sh_ok hb).1,shT_bits h1,shB_bits h2⟩
structure CmpPre (b:Int) (R:List (List Int)) (m:Nat) (c:Int) (S:List (List Int)) (n:Nat):Prop where
 r:Tab b R m
 s:Tab c S n
 l:R.length=S.length
 w1:1≤R.length
 w2:R.length≤4
 m1:1≤m
 m2:m≤4
 n1:1≤n
 n2:n≤4
 zb:b≤20000000
 zc:c≤20000000
def seenL (r:List Int) (j n:Nat):List Int:=(List.range (r.length*n)).map fun p=>if p%n=j then (r[p/n]?).getD 0 else 0
def allL (b:Int) (i m n:Nat):List Int:=(List.range (m*n)).map fun p=>if p/n=i then b else 0
def eqL (b:Int) (R:List (List Int)) (m n:Nat):List (List Int):=(R.map fun r=>(List.range n).map fun j=>seenL r j n).flatten++(List.range m).map fun i=>allL b i m n
def wantL (S:List (List Int)) (c:Int) (m:Nat):List Int:=S.flatten++(List.range m).map fun _=>c
theorem flatn_len {α:Type} {n:Nat} : ∀ {L:List (List α)},(∀ l ∈ L,l.length=n)→L.flatten.length=L.length*n
 | [],_=>by simp
 | l::L,h=>by
  rw [List.flatten_cons,List.length_append,flatn_len fun x hx=>h x (List.mem_cons_of_mem _ hx),h l (by simp),List.length_cons,Nat.succ_mul]
  omega
theorem flat_get {α:Type} {n:Nat} : ∀ {L:List (List α)} {s j:Nat},(∀ l ∈ L,l.length=n)→j<n→L.flatten[s*n+j]?=(L[s]?).bind fun l=>l[j]?
 | [],s,j,_,_=>by simp
 | l::L,0,j,h,hj=>by
  have e:=h l (by simp)
  rw [List.flatten_cons,Nat.zero_mul,Nat.zero_add,List.getElem?_append_left (by omega)]; rfl
 | l::L,s+1,j,h,hj=>by
  have e:=h l (by simp)
  rw [List.flatten_cons,List.getElem?_append_right (by rw [e,Nat.succ_mul]; omega),e,show (s+1)*n+j-n=s*n+j by rw [Nat.succ_mul]; omega,flat_get (fun x hx=>h x (List.mem_cons_of_mem _ hx)) hj]; rfl
theorem sumN_app (f:Nat→Int) (a:Nat) : ∀ b:Nat,sumN (a+b) f=sumN a f+sumN b fun j=>f (a+j)
 | 0=>by show sumN a f=sumN a f+0; omega
 | b+1=>by
  show sumN (a+b) f+f (a+b)=sumN a f+(sumN b (fun j=>f (a+j))+f (a+b))
  rw [sumN_app f a b]; omega
theorem sumN_grid (f:Nat→Int) (n:Nat) : ∀ m:Nat,sumN (m*n) f=sumN m fun i=>sumN n fun j=>f (i*n+j)
 | 0=>by rw [Nat.zero_mul]; rfl
 | m+1=>by
  rw [Nat.succ_mul,sumN_app,sumN_grid f n m]; rfl
theorem grid_div {i j n:Nat} (hj:j<n):(i*n+j)/n=i∧(i*n+j)%n=j:=by
 refine ⟨?_,?_⟩
 ·rw [Nat.mul_comm,Nat.mul_add_div (by omega),Nat.div_eq_of_lt hj,Nat.add_zero]
 ·rw [Nat.mul_comm,Nat.mul_add_mod,Nat.mod_eq_of_lt hj]
theorem grid_lt {i j m n:Nat} (hi:i<m) (hj:j<n):i*n+j<m*n:=by
 have:(i+1)*n≤m*n:=Nat.mul_le_mul_right n hi
 rw [Nat.succ_mul] at this
 omega
theorem seenL_at {r:List Int} {j n i j':Nat} (hi:i<r.length) (hj:j'<n):((seenL r j n)[i*n+j']?).getD 0=if j'=j then (r[i]?).getD 0 else 0:=by
 unfold seenL
 rw [List.getElem?_map,List.getElem?_range (grid_lt hi hj)]
 show (if (i*n+j')%n=j then _ else _)=_
 rw [(grid_div hj).1,(grid_div hj).2]
theorem allL_at {b:Int} {i m n i' j':Nat} (hi:i'<m) (hj:j'<n):((allL b i m n)[i'*n+j']?).getD 0=if i'=i then b else 0:=by
 unfold allL
 rw [List.getElem?_map,List.getElem?_range (grid_lt hi hj)]
 show (if (i'*n+j')/n=i then _ else _)=_
 rw [(grid_div hj).1]
section
variable {b:Int} {R:List (List Int)} {m:Nat} {c:Int} {S:List (List Int)} {n:Nat}
theorem eq_rows_len (R:List (List Int)) (n:Nat) : ∀ l ∈ R.map fun r=>(List.range n).map fun j=>seenL r j n,l.length=n:=fun l hl=>by
 obtain ⟨r,_,rfl⟩:=List.mem_map.mp hl
 simp
theorem eqL_len (b:Int) (R:List (List Int)) (m n:Nat):(eqL b R m n).length=R.length*n+m:=by
 unfold eqL
 rw [List.length_append,flatn_len (eq_rows_len R n),List.length_map,List.length_map,List.length_range]
theorem wantL_len (h:CmpPre b R m c S n):(wantL S c m).length=R.length*n+m:=by
 unfold wantL
 rw [List.length_append,flatn_len h.s.len,List.length_map,List.length_range,h.l]
theorem eqL_seen {s j:Nat} (hs:s<R.length) (hj:j<n):(eqL b R m n)[s*n+j]?=some (seenL ((R[s]?).getD []) j n):=by
 unfold eqL
 rw [List.getElem?_append_left (by rw [flatn_len (eq_rows_len R n),List.length_map]; exact grid_lt hs hj),flat_get (eq_rows_len R n) hj,List.getElem?_map,List.getElem?_eq_getElem hs]
 show ((List.range n).map fun j=>seenL R[s] j n)[j]?=_
 rw [List.getElem?_map,List.getElem?_range hj]; rfl
theorem eqL_all {i:Nat} (hi:i<m):(eqL b R m n)[R.length*n+i]?=some (allL b i m n):=by
 unfold eqL
 rw [List.getElem?_append_right (by rw [flatn_len (eq_rows_len R n),List.length_map]; omega),flatn_len (eq_rows_len R n),List.length_map,show R.length*n+i-R.length*n=i by omega,List.getElem?_map,List.getElem?_range hi]; rfl
theorem wantL_seen (h:CmpPre b R m c S n) {s j:Nat} (hs:s<R.length) (hj:j<n):((wantL S c m)[s*n+j]?).getD 0=at2 S s j:=by
 have hs':s<S.length:=by rw [← h.l]; exact hs
 unfold wantL at2
 rw [List.getElem?_append_left (by rw [flatn_len h.s.len]; exact grid_lt hs' hj),flat_get h.s.len hj,List.getElem?_eq_getElem hs']; rfl
theorem wantL_all (h:CmpPre b R m c S n) {i:Nat} (hi:i<m):((wantL S c m)[R.length*n+i]?).getD 0=c:=by
 unfold wantL
 rw [List.getElem?_append_right (by rw [flatn_len h.s.len,h.l]; omega),flatn_len h.s.len,h.l,show S.length*n+i-S.length*n=i by omega,List.getElem?_map,List.getElem?_range hi]; rfl
theorem row_len (h:CmpPre b R m c S n) {s:Nat} (hs:s<R.length):((R[s]?).getD []).length=m:=by
 rw [List.getElem?_eq_getElem hs]; exact h.r.len _ (List.getElem_mem hs)
theorem sum_seen (h:CmpPre b R m c S n) {s j:Nat} (hs:s<R.length) (hj:j<n) (X:Nat→Int):(sumN (m*n) fun u=>at2 (eqL b R m n) (s*n+j) u*X u)=sumN m fun i=>at2 R s i*X (i*n+j):=by
 rw [sumN_grid]
 refine sumN_congr fun i hi=>?_
 rw [sumN_one hj fun j' hj' ne=>?_]
 ·show ((((eqL b R m n)[s*n+j]?).getD [])[i*n+j]?).getD 0*_=_
  rw [eqL_seen hs hj]
  show ((seenL ((R[s]?).getD []) j n)[i*n+j]?).getD 0*_=_
  rw [seenL_at (by rw [row_len h hs]; exact hi) hj,if_pos rfl]; rfl
 ·show ((((eqL b R m n)[s*n+j]?).getD [])[i*n+j']?).getD 0*_=_
  rw [eqL_seen hs hj]
  show ((seenL ((R[s]?).getD []) j n)[i*n+j']?).getD 0*_=_
  rw [seenL_at (by rw [row_len h hs]; exact hi) hj',if_neg ne,Int.zero_mul]
theorem sum_all {i:Nat} (hi:i<m) (X:Nat→Int):(sumN (m*n) fun u=>at2 (eqL b R m n) (R.length*n+i) u*X u)=b*sumN n fun j=>X (i*n+j):=by
 rw [sumN_grid,sumN_one hi fun i' hi' ne=>?_,← sumN_mul]
 ·refine sumN_congr fun j hj=>?_
  show ((((eqL b R m n)[R.length*n+i]?).getD [])[i*n+j]?).getD 0*_=_
  rw [eqL_all hi]
  show ((allL b i m n)[i*n+j]?).getD 0*_=_
  rw [allL_at hi hj,if_pos rfl]
 ·refine sumN_zero fun j hj=>?_
  show ((((eqL b R m n)[R.length*n+i]?).getD [])[i'*n+j]?).getD 0*_=_
  rw [eqL_all hi]
  show ((allL b i m n)[i'*n+j]?).getD 0*_=_
  rw [allL_at hi' hj,if_neg ne,Int.zero_mul]
theorem seenL_mem {r:List Int} {j n:Nat} {x:Int} (h:x ∈ seenL r j n):x=0∨x ∈ r:=by
 obtain ⟨p,_,rfl⟩:=List.mem_map.mp h
 split
 ·cases e:r[p/n]? with
  | none=>exact .inl rfl
  | some y=>exact .inr (List.mem_of_getElem? e)
 ·exact .inl rfl
theorem cmp_pre (h:CmpPre b R m c S n):SvPre (m*n) (eqL b R m n) (wantL S c m):=by
 have hb:=h.r.pos
 have hc:=h.s.pos
 have mn:m*n≤4*4:=Nat.mul_le_mul h.m2 h.n2
 have wn:R.length*n≤4*4:=Nat.mul_le_mul h.w2 h.n2
 have m1:=h.m1
 have m2:=h.m2
 have mn1:1*1≤m*n:=Nat.mul_le_mul h.m1 h.n1
 have zb:=h.zb
 have zc:=h.zc
 refine ⟨⟨by rw [wantL_len h,eqL_len],fun r hr=>?_,by omega,by rw [eqL_len]; omega⟩,by omega,by rw [eqL_len]; omega,fun r hr x hx=>?_,fun x hx=>?_⟩
 ·unfold eqL at hr
  rcases List.mem_append.mp hr with q|q
  ·obtain ⟨l,hl,q⟩:=List.mem_flatten.mp q
   obtain ⟨r0,h0,rfl⟩:=List.mem_map.mp hl
   obtain ⟨j,_,rfl⟩:=List.mem_map.mp q
   simp [seenL,h.r.len r0 h0]
  ·obtain ⟨i,_,rfl⟩:=List.mem_map.mp q
   simp [allL]
 ·unfold eqL at hr
  rcases List.mem_append.mp hr with q|q
  ·obtain ⟨l,hl,q⟩:=List.mem_flatten.mp q
   obtain ⟨r0,h0,rfl⟩:=List.mem_map.mp hl
   obtain ⟨j,_,rfl⟩:=List.mem_map.mp q
   rcases seenL_mem hx with rfl|hx
   ·decide
   ·have:=h.r.le h0 hx
    omega
  ·obtain ⟨i,_,rfl⟩:=List.mem_map.mp q
   obtain ⟨p,_,rfl⟩:=List.mem_map.mp hx
   split <;> omega
 ·unfold wantL at hx
  rcases List.mem_append.mp hx with q|q
  ·obtain ⟨l,hl,q⟩:=List.mem_flatten.mp q
   have:=h.s.le hl q
   omega
  ·obtain ⟨_,_,rfl⟩:=List.mem_map.mp q
   omega
structure Dul (b:Int) (R:List (List Int)) (m:Nat) (c:Int) (S:List (List Int)) (n:Nat) (B:Int) (D:List (List Int)):Prop where
 t:Tab B D n
 l:D.length=m
 e : ∀ s j,s<R.length→j<n→c*(sumN m fun i=>at2 R s i*at2 D i j)=at2 S s j*b*B
structure Dls (b:Int) (R:List (List Int)) (m:Nat) (c:Int) (S:List (List Int)) (n:Nat) (B:Int) (D:List (List Int)):Prop where
 u:Dul b R m c S n B D
 g:gTab D=1
 z:intBits B≤3000
structure Dcs (b:Int) (R:List (List Int)) (m:Nat) (c:Int) (S:List (List Int)) (n:Nat) (W:List (List Int)):Prop where
 l:W.length=R.length
 w : ∀ r ∈ W,r.length=n
 v : ∃ v:Nat→Int,(∀ i j,i<m→j<n→(sumN R.length fun s=>at2 R s i*at2 W s j)+b*v i≤0)∧0<(sumN R.length fun s=>sumN n fun j=>at2 S s j*at2 W s j)+c*sumN m v
def inRows {α:Type} (l:List α) (n w:Nat):List (List α):=(List.range w).map fun k=>(l.drop (k*n)).take n
theorem inRows_get {α:Type} {l:List α} {n w k:Nat} (hk:k<w):(inRows l n w)[k]?=some ((l.drop (k*n)).take n):=by
 unfold inRows
 rw [List.getElem?_map,List.getElem?_range hk]; rfl
theorem cut_get {α:Type} {l:List α} {n k j:Nat} (hj:j<n):((l.drop (k*n)).take n)[j]?=l[k*n+j]?:=by
 rw [List.getElem?_take_of_lt hj,List.getElem?_drop]
theorem inRows_at {l:List Int} {n w k j:Nat} (hk:k<w) (hj:j<n):at2 (inRows l n w) k j=(l[k*n+j]?).getD 0:=by
 unfold at2
 rw [inRows_get hk]
 show (((l.drop (k*n)).take n)[j]?).getD 0=_
 rw [cut_get hj]
theorem cmp_none (h:CmpPre b R m c S n) {ws:List Int} (hw:NoneW (m*n) (eqL b R m n) (wantL S c m) ws):Dcs b R m c S n (inRows ws n R.length):=by
 obtain ⟨h1,h2,h3⟩:=hw
 rw [eqL_len] at h1 h2 h3
 have hcut : ∀ k,k<R.length→((ws.drop (k*n)).take n).length=n:=fun k hk=>by
  rw [List.length_take,List.length_drop,h1]
  have n1:=h.n1
  have a:=grid_lt (i:=k) (j:=n-1) (m:=R.length) (n:=n) hk (by omega)
  omega
 refine ⟨by simp [inRows],fun r hr=>?_,fun i=>(ws[R.length*n+i]?).getD 0,fun i j hi hj=>?_,?_⟩
 ·obtain ⟨k,hk,rfl⟩:=List.mem_map.mp hr
  exact hcut k (List.mem_range.mp hk)
 ·have:=h2 (i*n+j) (grid_lt hi hj)
  rw [sumN_app,sumN_grid] at this
  have e1:(sumN R.length fun s=>sumN n fun j'=>at2 (eqL b R m n) (s*n+j') (i*n+j)*(ws[s*n+j']?).getD 0)=sumN R.length fun s=>at2 R s i*at2 (inRows ws n R.length) s j:=sumN_congr fun s hs=>by
   rw [sumN_one hj fun j' hj' ne=>?_]
   ·rw [inRows_at hs hj]
    show ((((eqL b R m n)[s*n+j]?).getD [])[i*n+j]?).getD 0*_=_
    rw [eqL_seen hs hj]
    show ((seenL ((R[s]?).getD []) j n)[i*n+j]?).getD 0*_=_
    rw [seenL_at (by rw [row_len h hs]; exact hi) hj,if_pos rfl]; rfl
   ·show ((((eqL b R m n)[s*n+j']?).getD [])[i*n+j]?).getD 0*_=_
    rw [eqL_seen hs hj']
    show ((seenL ((R[s]?).getD []) j' n)[i*n+j]?).getD 0*_=_
    rw [seenL_at (by rw [row_len h hs]; exact hi) hj,if_neg (Ne.symm ne),Int.zero_mul]
  have e2:(sumN m fun j'=>at2 (eqL b R m n) (R.length*n+j') (i*n+j)*(ws[R.length*n+j']?).getD 0)=b*(ws[R.length*n+i]?).getD 0:=by
   rw [sumN_one hi fun i' hi' ne=>?_]
   ·show ((((eqL b R m n)[R.length*n+i]?).getD [])[i*n+j]?).getD 0*_=_
    rw [eqL_all hi]
    show ((allL b i m n)[i*n+j]?).getD 0*_=_
    rw [allL_at hi hj,if_pos rfl]
   ·show ((((eqL b R m n)[R.length*n+i']?).getD [])[i*n+j]?).getD 0*_=_
    rw [eqL_all hi']
    show ((allL b i' m n)[i*n+j]?).getD 0*_=_
    rw [allL_at hi hj,if_neg (Ne.symm ne),Int.zero_mul]
  rw [e1,e2] at this
  exact this
 ·rw [sumN_app,sumN_grid] at h3
  have e1:(sumN R.length fun s=>sumN n fun j=>((wantL S c m)[s*n+j]?).getD 0*(ws[s*n+j]?).getD 0)=sumN R.length fun s=>sumN n fun j=>at2 S s j*at2 (inRows ws n R.length) s j:=sumN_congr fun s hs=>sumN_congr fun j hj=>by
   rw [wantL_seen h hs hj,inRows_at hs hj]
  have e2:(sumN m fun i=>((wantL S c m)[R.length*n+i]?).getD 0*(ws[R.length*n+i]?).getD 0)=c*sumN m fun i=>(ws[R.length*n+i]?).getD 0:=by
   rw [← sumN_mul]
   exact sumN_congr fun i hi=>by rw [wantL_all h hi]
  rw [e1,e2] at h3
  exact h3
structure LcmB (V:List (List (Int×Int))) (B:Int):Prop where
 pos:0<B
 dv : ∀ r ∈ V,∀ x ∈ r,x.2∣B
 un : ∀ d:Int,(∀ r ∈ V,∀ x ∈ r,x.2∣d)→B∣d
def overB (B:Int) (r:List (Int×Int)):List Int:=r.map fun x=>x.1*(B/x.2)
theorem lcm_low {V:List (List (Int×Int))} {B g:Int} (h:LcmB V B) (hs : ∀ r ∈ V,∀ x ∈ r,Shr x.1 x.2) (g0:0<g) (gB:g∣B) (hg : ∀ r ∈ V,∀ y ∈ overB B r,g∣y):g=1:=by
 obtain ⟨t,e⟩:=gB
 have hB:=h.pos
 have t0:0<t:=by
  rcases Int.lt_or_le 0 t with q|q
  ·exact q
  ·have:=Int.mul_nonneg (Int.le_of_lt g0) (show 0 ≤ -t by omega)
   rw [Int.mul_neg] at this
   omega
 have hd:B∣t:=h.un t fun r hr x hx=>by
  have s:=hs r hr x hx
  obtain ⟨k,hk⟩:=hg r hr _ (List.mem_map.mpr ⟨x,hx,rfl⟩)
  obtain ⟨u,hu⟩:=h.dv r hr x hx
  have q0:x.2≠0:=by have:=s.pos; omega
  rw [hu,Int.mul_ediv_cancel_left _ q0] at hk
  refine dvd_cop s.gcd ⟨k,?_⟩
  have:g*(x.1*t)=g*(x.2*k):=by
   have e':x.2*u=g*t:=by rw [← hu,e]
   calc g*(x.1*t)=x.1*(g*t):=by grind
    _=x.1*(x.2*u):=by rw [e']
    _=x.2*(x.1*u):=by grind
    _=x.2*(g*k):=by rw [hk]
    _=g*(x.2*k):=by grind
  exact Int.eq_of_mul_eq_mul_left (by omega) this
 have le1:=Int.le_of_dvd t0 hd
 rw [e] at le1
 rcases Int.lt_or_le 1 g with q|q
 ·have:=Int.mul_lt_mul_of_pos_right q t0
  omega
 ·omega
def backS (b c:Int) (x:Int×Int):Int×Int:=(shT (x.1*shT b c) (x.2*shB b c),shB (x.1*shT b c) (x.2*shB b c))
theorem back_ok {b c:Int} {x:Int×Int} (hb:0<b) (hc:0<c) (hx:Shr x.1 x.2):Shr (backS b c x).1 (backS b c x).2∧(backS b c x).1*(x.2*c)=x.1*b*(backS b c x).2∧(backS b c x).2∣x.2*c:=by
 obtain ⟨s1,e1⟩:=sh_ok (t:=b) (b:=c) (by omega)
 have hx0:=hx.pos
 have q0:x.2*shB b c≠0:=by
  have:=Int.mul_pos (show 0<x.2 by omega) (show 0<shB b c by have:=s1.pos; omega)
  omega
 obtain ⟨s2,e2⟩:=sh_ok (t:=x.1*shT b c) (b:=x.2*shB b c) q0
 refine ⟨s2,?_,?_⟩
 ·have hbb:shT b c≠0:=by
   intro z
   rw [z,Int.zero_mul] at e1
   have:=Int.mul_pos hb (show 0<shB b c by have:=s1.pos; omega)
   omega
  have s0:shB b c≠0:=by have:=s1.pos; omega
  show shT (x.1*shT b c) (x.2*shB b c)*(x.2*c)=x.1*b*shB (x.1*shT b c) (x.2*shB b c)
  generalize shT (x.1*shT b c) (x.2*shB b c)=P at e2
  generalize shB (x.1*shT b c) (x.2*shB b c)=Q at e2
  generalize shT b c=t at *
  generalize shB b c=u at *
  have:u*(P*(x.2*c))=u*(x.1*b*Q):=by
   calc u*(P*(x.2*c))=(P*(x.2*u))*c:=by grind
    _=(x.1*t*Q)*c:=by rw [e2]
    _=x.1*Q*(t*c):=by grind
    _=x.1*Q*(b*u):=by rw [e1]
    _=u*(x.1*b*Q):=by grind
  exact Int.eq_of_mul_eq_mul_left s0 this
 ·refine Int.dvd_trans (b:=x.2*shB b c) ⟨cm (x.1*shT b c) (x.2*shB b c),?_⟩ ?_
  ·exact (shB_mul _ _).symm.trans (Int.mul_comm _ _)
  ·exact Int.mul_dvd_mul (Int.dvd_refl _) ⟨cm b c,(shB_mul _ _).symm.trans (Int.mul_comm _ _)⟩
theorem at2_mapS {f:List (Int×Int)→List Int} {V:List (List (Int×Int))} {i j:Nat} {r:List (Int×Int)} (h:V[i]?=some r):at2 (V.map f) i j=((f r)[j]?).getD 0:=by
 unfold at2
 rw [List.getElem?_map,h]; rfl
theorem cmp_fit (h:CmpPre b R m c S n) {vs:List (Int×Int)} (hv:FitV (m*n) (eqL b R m n) (wantL S c m) vs) {B:Int} (hB:LcmB (inRows (vs.map (backS b c)) n m) B) :
 Dls b R m c S n B ((inRows (vs.map (backS b c)) n m).map (overB B)):=by
  obtain ⟨vl,d,d0,zd,hx,he⟩:=hv
  have hb:=h.r.pos
  have hc:=h.s.pos
  have n1:=h.n1
  have hget : ∀ i j,i<m→j<n → ∃ x,vs[i*n+j]?=some x∧x ∈ vs:=fun i j hi hj=>by
   have e:vs[i*n+j]?=some (vs[i*n+j]'(by rw [vl]; exact grid_lt hi hj)):=List.getElem?_eq_getElem _
   exact ⟨_,e,List.mem_of_getElem? e⟩
  have hrow : ∀ r ∈ inRows (vs.map (backS b c)) n m,r.length=n ∧ ∀ y ∈ r,∃ x ∈ vs,y=backS b c x:=fun r hr=>by
   obtain ⟨k,hk,rfl⟩:=List.mem_map.mp hr
   have hk:=List.mem_range.mp hk
   refine ⟨?_,fun y hy=>?_⟩
   ·rw [List.length_take,List.length_drop,List.length_map,vl]
    have a:=grid_lt (i:=k) (j:=n-1) (m:=m) (n:=n) hk (by omega)
    omega
   ·obtain ⟨x,hx,rfl⟩:=List.mem_map.mp (List.mem_of_mem_drop (List.mem_of_mem_take hy))
    exact ⟨x,hx,rfl⟩
  have hsh : ∀ r ∈ inRows (vs.map (backS b c)) n m,∀ y ∈ r,Shr y.1 y.2∧0≤y.1:=fun r hr y hy=>by
   obtain ⟨x,hxm,rfl⟩:=(hrow r hr).2 y hy
   obtain ⟨q1,q2,_,_⟩:=hx x hxm
   obtain ⟨g1,g2,_⟩:=back_ok (show 0<b by omega) (show 0<c by omega) q1
   refine ⟨g1,?_⟩
   have e0:0≤x.1*b*(backS b c x).2:=Int.mul_nonneg (Int.mul_nonneg q2 (by omega)) (by have:=g1.pos; omega)
   rw [← g2] at e0
   have p0:0<x.2*c:=Int.mul_pos (by have:=q1.pos; omega) (by omega)
   rcases Int.lt_or_le (backS b c x).1 0 with z|z
   ·have:=Int.mul_neg_of_neg_of_pos z p0
    omega
   ·exact z
  have Bd:B∣d*c:=hB.un _ fun r hr y hy=>by
   obtain ⟨x,hxm,rfl⟩:=(hrow r hr).2 y hy
   obtain ⟨q1,_,q3,_⟩:=hx x hxm
   exact Int.dvd_trans (back_ok (show 0<b by omega) (show 0<c by omega) q1).2.2 (Int.mul_dvd_mul q3 (Int.dvd_refl _))
  have B0:=hB.pos
  have key : ∀ i j,i<m→j<n→at2 ((inRows (vs.map (backS b c)) n m).map (overB B)) i j*(d*c)=B*b*(((vs[i*n+j]?).getD (0,1)).1*(d/((vs[i*n+j]?).getD (0,1)).2)):=fun i j hi hj=>by
   obtain ⟨x,ex,hxm⟩:=hget i j hi hj
   obtain ⟨q1,q2,⟨e,he'⟩,_⟩:=hx x hxm
   obtain ⟨g1,g2,_⟩:=back_ok (show 0<b by omega) (show 0<c by omega) q1
   have hy:((vs.map (backS b c)).drop (i*n)).take n ∈ inRows (vs.map (backS b c)) n m:=List.mem_of_getElem? (inRows_get hi)
   have ey:(((vs.map (backS b c)).drop (i*n)).take n)[j]?=some (backS b c x):=by rw [cut_get hj,List.getElem?_map,ex]; rfl
   obtain ⟨t,ht⟩:=hB.dv _ hy _ (List.mem_of_getElem? ey)
   rw [at2_mapS (inRows_get hi),ex]
   unfold overB
   rw [List.getElem?_map,ey]
   show (backS b c x).1*(B/(backS b c x).2)*(d*c)=B*b*(x.1*(d/x.2))
   have y0:(backS b c x).2≠0:=by have:=g1.pos; omega
   have x0:x.2≠0:=by have:=q1.pos; omega
   have e1:B/(backS b c x).2=t:=by rw [ht,Int.mul_ediv_cancel_left _ y0]
   have e2:d/x.2=e:=by rw [he',Int.mul_ediv_cancel_left _ x0]
   rw [e1,e2,ht,he']
   generalize (backS b c x).1=P at *
   generalize (backS b c x).2=Q at *
   calc P*t*(x.2*e*c)=(P*(x.2*c))*(t*e):=by grind
    _=(x.1*b*Q)*(t*e):=by rw [g2]
    _=Q*t*b*(x.1*e):=by grind
  have dc0:d*c≠0:=by have:=Int.mul_pos d0 (show 0<c by omega); omega
  have hlen : ∀ r ∈ (inRows (vs.map (backS b c)) n m).map (overB B),r.length=n:=fun r hr=>by
   obtain ⟨r0,h0,rfl⟩:=List.mem_map.mp hr
   unfold overB
   rw [List.length_map]; exact (hrow r0 h0).1
  have hnn : ∀ r ∈ (inRows (vs.map (backS b c)) n m).map (overB B),∀ x ∈ r,0≤x:=fun r hr x hx'=>by
   obtain ⟨r0,h0,rfl⟩:=List.mem_map.mp hr
   obtain ⟨y,hy,rfl⟩:=List.mem_map.mp hx'
   obtain ⟨s1,s2⟩:=hsh r0 h0 y hy
   exact Int.mul_nonneg s2 (Int.ediv_nonneg (by omega) (by have:=s1.pos; omega))
  have hsum : ∀ r ∈ (inRows (vs.map (backS b c)) n m).map (overB B),r.sum=B:=fun r hr=>by
   obtain ⟨i,hi⟩:=List.getElem?_of_mem hr
   have hi':i<m:=by
    have:=(List.getElem?_eq_some_iff.mp hi).1
    simpa [inRows] using this
   have er:r.sum=sumN n fun j=>at2 ((inRows (vs.map (backS b c)) n m).map (overB B)) i j:=by
    have e1:r=(List.range n).map fun j=>at2 ((inRows (vs.map (backS b c)) n m).map (overB B)) i j:=by
     refine List.ext_getElem? fun j=>?_
     rw [List.getElem?_map]
     by_cases hj:j<n
     ·rw [List.getElem?_range hj,List.getElem?_eq_getElem (by rw [hlen r hr]; exact hj)]
      unfold at2
      rw [hi]
      simp [hlen r hr,hj]
     ·rw [List.getElem?_eq_none (by rw [hlen r hr]; omega),List.getElem?_eq_none (by simp; omega)]; rfl
    have e2:=range_sum (fun j=>at2 ((inRows (vs.map (backS b c)) n m).map (overB B)) i j) n
    rw [← e1] at e2
    exact e2
   have e3:=he (R.length*n+i) (by rw [eqL_len]; omega)
   rw [sum_all hi',wantL_all h hi'] at e3
   have e4:(d*c)*r.sum=(d*c)*B:=by
    rw [er,← sumN_mul]
    have:(sumN n fun j=>d*c*at2 ((inRows (vs.map (backS b c)) n m).map (overB B)) i j)=sumN n fun j=>(B*b)*(((vs[i*n+j]?).getD (0,1)).1*(d/((vs[i*n+j]?).getD (0,1)).2)):=sumN_congr fun j hj=>by
     rw [Int.mul_comm (d*c),key i j hi' hj]
    rw [this,sumN_mul,Int.mul_assoc B b,← e3,Int.mul_comm]
   exact Int.eq_of_mul_eq_mul_left dc0 e4
  refine ⟨⟨⟨by omega,hlen,hnn,hsum⟩,by simp [inRows],fun s j hs hj=>?_⟩,?_,?_⟩
  rotate_left
  ·have hT:Tab B ((inRows (vs.map (backS b c)) n m).map (overB B)) n:=⟨by omega,hlen,hnn,hsum⟩
   have hne:(inRows (vs.map (backS b c)) n m).map (overB B)≠[]:=fun z=>by
    have:=congrArg List.length z
    simp [inRows] at this
    have:=h.m1
    omega
   have g0:=hT.gpos hne
   have:=lcm_low hB (fun r hr x hx=>(hsh r hr x hx).1) (show (0:Int)<gTab ((inRows (vs.map (backS b c)) n m).map (overB B)) by omega) (hT.gdvd hne) fun r hr y hy=>gTab_dvd (List.mem_map.mpr ⟨r,hr,rfl⟩) hy
   omega
  ·refine intBits_le_of_natAbs (Nat.le_of_dvd ?_ (Int.natAbs_dvd_natAbs.mpr Bd)) (bits_up (intBits_mul_le zd (bits64 (x:=c) (by omega) (by have:=h.zc; omega))) (by decide))
   omega
  ·have e3:=he (s*n+j) (by rw [eqL_len]; have:=grid_lt (m:=R.length) hs hj; omega)
   rw [sum_seen h hs hj,wantL_seen h hs hj] at e3
   have:d*(c*sumN m fun i=>at2 R s i*at2 ((inRows (vs.map (backS b c)) n m).map (overB B)) i j)=d*(at2 S s j*b*B):=by
    have e4:(sumN m fun i=>(d*c)*(at2 R s i*at2 ((inRows (vs.map (backS b c)) n m).map (overB B)) i j))=sumN m fun i=>(B*b)*(at2 R s i*(((vs[i*n+j]?).getD (0,1)).1*(d/((vs[i*n+j]?).getD (0,1)).2))):=sumN_congr fun i hi=>by
     have k:=key i j hi hj
     calc (d*c)*(at2 R s i*at2 ((inRows (vs.map (backS b c)) n m).map (overB B)) i j)=at2 R s i*(at2 ((inRows (vs.map (backS b c)) n m).map (overB B)) i j*(d*c)):=by grind
      _=_:=by rw [k]; grind
    rw [sumN_mul,sumN_mul,← e3] at e4
    rw [← Int.mul_assoc,e4]; grind
   exact Int.eq_of_mul_eq_mul_left (by omega) this
theorem no_both {b:Int} {R:List (List Int)} {m:Nat} {c:Int} {S:List (List Int)} {n:Nat} {B:Int} {D W:List (List Int)} (hb:0<b) (hc:0<c) (h:Dul b R m c S n B D) (w:Dcs b R m c S n W):False:=by
 obtain ⟨v,h1,h2⟩:=w.v
 have hB:=h.t.pos
 have s1:(sumN m fun i=>sumN n fun j=>at2 D i j*((sumN R.length fun s=>at2 R s i*at2 W s j)+b*v i))≤0:=sumN_le0 fun i hi=>sumN_le0 fun j hj=>by
  have d0:0≤at2 D i j:=by
   unfold at2
   cases e:D[i]? with
   | none=>exact Int.le_refl _
   | some r =>
    show 0≤(r[j]?).getD 0
    cases e':r[j]? with
    | none=>exact Int.le_refl _
    | some x=>exact h.t.nn r (List.mem_of_getElem? e) x (List.mem_of_getElem? e')
  have:=Int.mul_nonneg d0 (show 0 ≤ -((sumN R.length fun s=>at2 R s i*at2 W s j)+b*v i) by have:=h1 i j hi hj; omega)
  rw [Int.mul_neg] at this
  omega
 have rs : ∀ i,i<m→(sumN n fun j=>at2 D i j)=B:=fun i hi=>by
  have hi':i<D.length:=by rw [h.l]; exact hi
  have er:D[i]?=some D[i]:=List.getElem?_eq_getElem hi'
  have hl:=h.t.len _ (List.getElem_mem hi')
  rw [← h.t.sum _ (List.getElem_mem hi')]
  have e1:(List.range n).map (fun j=>at2 D i j)=D[i]:=by
   refine List.ext_getElem? fun j=>?_
   rw [List.getElem?_map]
   by_cases hj:j<n
   ·rw [List.getElem?_range hj,List.getElem?_eq_getElem (by rw [hl]; exact hj)]
    unfold at2
    rw [er]
    simp [hl,hj]
   ·rw [List.getElem?_eq_none (l:=D[i]) (by rw [hl]; omega),List.getElem?_eq_none (by simp; omega)]; rfl
  have e2:=range_sum (fun j=>at2 D i j) n
  rw [e1] at e2
  exact e2.symm
 have s2:(sumN m fun i=>sumN n fun j=>at2 D i j*((sumN R.length fun s=>at2 R s i*at2 W s j)+b*v i))=(sumN R.length fun s=>sumN n fun j=>at2 W s j*sumN m fun i=>at2 R s i*at2 D i j)+b*B*sumN m v:=by
  have a1 : ∀ i,i<m→(sumN n fun j=>at2 D i j*((sumN R.length fun s=>at2 R s i*at2 W s j)+b*v i))=(sumN n fun j=>sumN R.length fun s=>at2 D i j*(at2 R s i*at2 W s j))+b*B*v i:=fun i hi=>by
   have:(sumN n fun j=>at2 D i j*((sumN R.length fun s=>at2 R s i*at2 W s j)+b*v i))=sumN n fun j=>(sumN R.length fun s=>at2 D i j*(at2 R s i*at2 W s j))+(b*v i)*at2 D i j:=sumN_congr fun j hj=>by
    rw [sumN_mul,Int.mul_add,Int.mul_comm (at2 D i j) (b*v i)]
   rw [this,sumN_add,sumN_mul,rs i hi]; grind
  rw [sumN_congr a1,sumN_add,sumN_mul]
  congr 1
  have sw : ∀ (p q:Nat) (f:Nat→Nat→Int),(sumN p fun i=>sumN q fun j=>f i j)=sumN q fun j=>sumN p fun i=>f i j:=fun p q f=>by
   induction p with
   | zero=>exact (sumN_zero fun j _=>rfl).symm
   | succ p ih =>
    show (sumN p fun i=>sumN q fun j=>f i j)+sumN q (fun j=>f p j)=sumN q fun j=>(sumN p fun i=>f i j)+f p j
    rw [ih,sumN_add]
  rw [sumN_congr fun i _=>sw n R.length fun j s=>at2 D i j*(at2 R s i*at2 W s j),sw]
  refine sumN_congr fun s hs=>?_
  rw [sw]
  refine sumN_congr fun j hj=>?_
  rw [← sumN_mul]
  exact sumN_congr fun i _=>by grind
 have s3:c*(sumN R.length fun s=>sumN n fun j=>at2 W s j*sumN m fun i=>at2 R s i*at2 D i j)=b*B*sumN R.length fun s=>sumN n fun j=>at2 S s j*at2 W s j:=by
  rw [← sumN_mul,← sumN_mul]
  refine sumN_congr fun s hs=>?_
  rw [← sumN_mul,← sumN_mul]
  refine sumN_congr fun j hj=>?_
  have:=h.e s j hs hj
  calc c*(at2 W s j*sumN m fun i=>at2 R s i*at2 D i j)=at2 W s j*(c*sumN m fun i=>at2 R s i*at2 D i j):=by grind
   _=at2 W s j*(at2 S s j*b*B):=by rw [this]
   _=_:=by grind
 rw [s2] at s1
 have bB:=Int.mul_pos hb (show 0<B by omega)
 have s4:=Int.mul_pos bB h2
 have s5:=Int.mul_nonneg (Int.le_of_lt hc) (show 0 ≤ -((sumN R.length fun s=>sumN n fun j=>at2 W s j*sumN m fun i=>at2 R s i*at2 D i j)+b*B*sumN m v) by omega)
 rw [Int.mul_neg,Int.mul_add,s3] at s5
 rw [Int.mul_add] at s4
 have e:c*(b*B*sumN m v)=b*B*(c*sumN m v):=by grind
 omega
end
def dS (x:Int×Int):PyData:=dSh x.1 x.2
theorem shG {vs:List (Int×Int)} {i:Nat} {x:PyData} (h:(vs.map dS)[i]?=some x) : ∃ y,vs[i]?=some y∧x=dSh y.1 y.2:=by
 rw [List.getElem?_map] at h
 cases q:vs[i]? with
 | none=>rw [q] at h; cases h
 | some y=>rw [q] at h; exact ⟨y,rfl,(Option.some.inj h).symm⟩
theorem dvdB {x d:Int} {m:Nat} (h:x∣d) (d0:0<d) (z:intBits d≤m):intBits x≤m :=
 intBits_le_of_natAbs (Nat.le_of_dvd (by omega) (Int.natAbs_dvd_natAbs.mpr h)) z
def RowsS (d:PyData) (V:List (List (Int×Int))):Prop := ∃ l,seqD d=some l∧l.length=V.length ∧ ∀ (i:Nat) (x:PyData),l[i]?=some x → ∃ r:List (Int×Int),V[i]?=some r∧seqD x=some (r.map dS)
structure LcmL (xs:List (Int×Int)) (B:Int):Prop where
 pos:0<B
 dv : ∀ x ∈ xs,x.2∣B
 un : ∀ d:Int,(∀ x ∈ xs,x.2∣d)→B∣d
theorem LcmL.nil:LcmL [] 1:=⟨by decide,fun x hx=>by simp at hx,fun d _=>⟨d,by omega⟩⟩
theorem LcmL.snoc {xs:List (Int×Int)} {B:Int} {y:Int×Int} (h:LcmL xs B) (hy:0<y.2):LcmL (xs++[y]) (B*y.2/(Int.gcd B y.2:Int)):=by
 have k:=bot_next (d:=B*y.2) h.pos hy ⟨_,rfl⟩ ⟨B,Int.mul_comm _ _⟩
 refine ⟨k.1,fun x hx=>?_,fun d hd=>(bot_next h.pos hy (h.un d fun x hx=>hd x (List.mem_append.mpr (.inl hx))) (hd y (by simp))).2.1⟩
 rcases List.mem_append.mp hx with q|q
 ·exact Int.dvd_trans (h.dv x q) k.2.2.1
 ·rw [List.mem_singleton.mp q]; exact k.2.2.2
theorem LcmL.b {V:List (List (Int×Int))} {B:Int} (h:LcmL V.flatten B):LcmB V B :=
 ⟨h.pos,fun r hr x hx=>h.dv x (List.mem_flatten.mpr ⟨r,hr,hx⟩),fun d hd=>h.un d fun x hx=>by
  obtain ⟨r,hr,hx⟩:=List.mem_flatten.mp hx
  exact hd r hr x hx⟩
theorem takeF {V:List (List (Int×Int))} {i:Nat} {r:List (Int×Int)} (h:V[i]?=some r):(V.take (i+1)).flatten=(V.take i).flatten++r:=by
 rw [List.take_add_one,h]; simp
theorem takeS {α:Type} {zs:List α} {i:Nat} {z:α} (h:zs[i]?=some z):zs.take (i+1)=zs.take i++[z]:=by
 rw [List.take_add_one,h]; rfl
def sp_seen_as (ds:List PyData) (q:List PyData→Prop):Prop := ∃ (r:List Int) (j n:Nat),ds=[tRow r,.int j,.int n]∧(r.length≤12∧1≤n∧n≤12)∧q ((seenL r j n).map .int)
theorem sc_seen_as:FnScope ["row","new","many"] ["row","new","many"] (defScope s_seen_as):=⟨rfl,rfl,rfl,by decide +kernel,rfl,by decide +kernel,by decide +kernel⟩
theorem ok_seen_as (F:Def K mg "seen_as" s_seen_as ["row","new","many"]) (T:Txt K mg cs)
 : Ok P w K mg base "seen_as" 1 ["row","new","many"] (FSp K sp_seen_as):=by
  refine F.vokF sc_seen_as (by rintro ds q ⟨_,_,_,h,_⟩; rw [h]; rfl) fun f cdv A outer s H E hr ds q h=>?_
  obtain ⟨r,j,n,rfl,⟨hl,n1,n2⟩,h⟩:=h
  refine ⟨_,(vss_one (vs_retF (vf_comp (caps:=["row","new","many"]) (own:=["place"]) (ix:=[0,1,2]) rfl ⟨rfl,rfl,rfl,rfl,rfl,rfl⟩ (vi_range1 T.range_ (ve_op o_mulI (ve_callB c_len T.len_ L2.boot_len (va_cons (ve_var 0) va_nil)) (ve_var 2))) (fun _ _ _ _=>(vg_name (i:=3) (show List.Nodup (["row","new","many","place"]:List Str) by decide))) (fun _ _ _ _=>(ve_ifExp (vt_cmp (o_eq hr.units) (ve_op o_mod (ve_var 3) (ve_var 2)) (ve_var 1)) (ve_ix (ve_var 0) (ve_op o_div (ve_var 3) (ve_var 2))) ve_int))))),?_⟩
  have lr:(((r.map PyData.int).length:Nat):Int)=r.length:=by rw [List.length_map]
  have mn:r.length*n≤12*12:=Nat.mul_le_mul hl n2
  have e0:((r.length:Nat):Int)*((n:Nat):Int)=((r.length*n:Nat):Int):=by rw [Int.natCast_mul]
  refine ⟨IntMulOk.of_right (bits64 (by omega) (by omega)),?_⟩
  show _∧_
  rw [lr,e0]
  refine ⟨⟨by omega,by omega⟩,comp_by ((seenL r j n).map .int) (by rw [rngD_len,Int.toNat_natCast]; simp [seenL]) (small1000 (by simp [seenL]; omega)) (fun e => ∃ s,e=[.val (tRow r),.val (.int j),.val (.int n),s]) ⟨_,rfl⟩ ?_ ⟨_,rfl,h⟩⟩
  rintro i x ys e hx hys ⟨s,rfl⟩
  obtain ⟨hi,rfl⟩:=rngD_inv hx
  rw [Int.zero_add]
  have hi':i<r.length*n:=by omega
  have e1:((i:Nat):Int)%((n:Nat):Int)=((i%n:Nat):Int):=by rw [Int.natCast_emod]
  have e2:((i:Nat):Int)/((n:Nat):Int)=((i/n:Nat):Int):=by rw [Int.natCast_ediv]
  have hd:i/n<r.length:=Nat.div_lt_of_lt_mul (by rw [Nat.mul_comm]; exact hi')
  have g:((seenL r j n).map PyData.int)[i]?=some (.int (if i%n=j then (r[i/n]?).getD 0 else 0)):=by
   unfold seenL
   rw [List.getElem?_map,List.getElem?_map,List.getElem?_range hi']; rfl
  have er:r[i/n]?=some ((r[i/n]?).getD 0):=by rw [List.getElem?_eq_getElem hd]; rfl
  refine ⟨by omega,rfl,rfl,ite_eq (fun z=>?_) (fun z=>?_)⟩
  ·rw [e1] at z
   refine ⟨⟨by omega,bits_up (bits64 (by omega) (by omega)) (by decide)⟩,?_⟩
   rw [e2]
   refine ⟨.int ((r[i/n]?).getD 0),atI_nat (by rw [List.getElem?_map,er]; rfl),snoc_take (g.trans ?_) hys,_,rfl⟩
   rw [if_pos (by omega)]
  ·rw [e1] at z
   refine ⟨snoc_take (g.trans ?_) hys,_,rfl⟩
   rw [if_neg (by omega)]
def sp_shown_in_all (ds:List PyData) (q:List PyData→Prop):Prop := ∃ (b:Int) (r:List Int) (R:List (List Int)) (i n:Nat),ds=[dTab b (r::R),.int i,.int n]∧(r.length≤12∧1≤n∧n≤12)∧q ((allL b i r.length n).map .int)
theorem sc_shown_in_all:FnScope ["one","old","many"] ["one","old","many"] (defScope s_shown_in_all):=⟨rfl,rfl,rfl,by decide +kernel,rfl,by decide +kernel,by decide +kernel⟩
theorem ok_shown_in_all (F:Def K mg "shown_in_all" s_shown_in_all ["one","old","many"]) (T:Txt K mg cs)
 (O_signs:Ok P w K mg base "signs" 1 ["glass"] (PSp K sp_signs))
 : Ok P w K mg base "shown_in_all" 2 ["one","old","many"] (FSp K sp_shown_in_all):=by
  refine F.vokF sc_shown_in_all (by rintro ds q ⟨_,_,_,_,_,h,_⟩; rw [h]; rfl) fun f cdv A outer s H E hr ds q h=>?_
  obtain ⟨b,r,R,i,n,rfl,⟨hl,n1,n2⟩,h⟩:=h
  refine ⟨_,(vss_one (vs_retF (vf_comp (caps:=["one","old","many"]) (own:=["place"]) (ix:=[0,1,2]) rfl ⟨rfl,rfl,rfl,rfl,rfl,rfl⟩ (vi_range1 T.range_ (ve_op o_mulI (ve_fn O_signs (hr.mono (by decide)) (va_cons (ve_var 0) va_nil)) (ve_var 2))) (fun _ _ _ _=>(vg_name (i:=3) (show List.Nodup (["one","old","many","place"]:List Str) by decide))) (fun _ _ _ _=>(ve_ifExp (vt_cmp (o_eq hr.units) (ve_op o_div (ve_var 3) (ve_var 2)) (ve_var 1)) (ve_ix (ve_var 0) ve_int) ve_int))))),?_⟩
  have mn:r.length*n≤12*12:=Nat.mul_le_mul hl n2
  have e0:((r.length:Nat):Int)*((n:Nat):Int)=((r.length*n:Nat):Int):=by rw [Int.natCast_mul]
  refine ⟨b,r,R,rfl,IntMulOk.of_right (bits64 (by omega) (by omega)),?_⟩
  show _∧_
  rw [e0]
  refine ⟨⟨by omega,by omega⟩,comp_by ((allL b i r.length n).map .int) (by rw [rngD_len,Int.toNat_natCast]; simp [allL]) (small1000 (by simp [allL]; omega)) (fun e => ∃ s,e=[.val (dTab b (r::R)),.val (.int i),.val (.int n),s]) ⟨_,rfl⟩ ?_ ⟨_,rfl,h⟩⟩
  rintro k x ys e hx hys ⟨s,rfl⟩
  obtain ⟨hk,rfl⟩:=rngD_inv hx
  rw [Int.zero_add]
  have hk':k<r.length*n:=by omega
  have e2:((k:Nat):Int)/((n:Nat):Int)=((k/n:Nat):Int):=by rw [Int.natCast_ediv]
  have g:((allL b i r.length n).map PyData.int)[k]?=some (.int (if k/n=i then b else 0)):=by
   unfold allL
   rw [List.getElem?_map,List.getElem?_map,List.getElem?_range hk']; rfl
  refine ⟨⟨by omega,bits_up (bits64 (by omega) (by omega)) (by decide)⟩,rfl,rfl,ite_eq (fun z=>?_) (fun z=>?_)⟩
  ·rw [e2] at z
   refine ⟨_,rfl,snoc_take (g.trans ?_) hys,_,rfl⟩
   rw [if_pos (by omega)]
  ·rw [e2] at z
   refine ⟨snoc_take (g.trans ?_) hys,_,rfl⟩
   rw [if_neg (by omega)]
theorem trow_get {R:List (List Int)} {i:Nat} {x:PyData} {f:List Int→PyData} (h:(R.map f)[i]?=some x) : ∃ r,R[i]?=some r∧x=f r:=by
 rw [List.getElem?_map] at h
 cases hr:R[i]? with
 | none=>rw [hr] at h; cases h
 | some r=>rw [hr] at h; exact ⟨r,rfl,(Option.some.inj h).symm⟩
def sp_equations (ds:List PyData) (q:List PyData→Prop):Prop := ∃ (b:Int) (R:List (List Int)) (m:Nat) (c:Int) (S:List (List Int)) (n:Nat),ds=[dTab b R,dTab c S]∧CmpPre b R m c S n∧q ((eqL b R m n).map dRow)
theorem sc_equations:FnScope ["one","other","many","rows","row"] ["one","other"] (defScope s_equations):=⟨rfl,rfl,rfl,by decide +kernel,rfl,by decide +kernel,by decide +kernel⟩
theorem ok_equations (F:Def K mg "equations" s_equations ["one","other"]) (T:Txt K mg cs)
 (O_signs:Ok P w K mg base "signs" 1 ["glass"] (PSp K sp_signs))
 (O_seen_as:Ok P w K mg base "seen_as" 1 ["row","new","many"] (FSp K sp_seen_as))
 (O_shown_in_all:Ok P w K mg base "shown_in_all" 2 ["one","old","many"] (FSp K sp_shown_in_all))
 : Ok P w K mg base "equations" 3 ["one","other"] (FSp K sp_equations):=by
  refine F.vokF sc_equations (by rintro ds q ⟨_,_,_,_,_,_,h,_⟩; rw [h]; rfl) fun f cdv A outer s H E hr ds q h=>?_
  obtain ⟨b,R,m,c,S,n,rfl,hp,h⟩:=h
  refine ⟨_,(vss_cons (vs_set (i:=2) sc_equations.nd (ve_fn O_signs (hr.mono (by decide)) (va_cons (ve_var 1) va_nil)))
   (vss_cons (vs_setO (i:=3) sc_equations.nd (vf_lst va_nil))
   (vss_cons (vs_for rfl (vi_seq (ve_ix (ve_var 0) ve_int)) (vg_name (i:=4) sc_equations.nd) (vss_one (vs_extend 3 (vf_comp (caps:=["many","row"]) (own:=["sign"]) (ix:=[2,4]) rfl ⟨rfl,rfl,rfl,rfl,rfl,rfl⟩ (vi_range1 T.range_ (ve_var 2)) (fun _ _ _ _=>(vg_name (i:=2) (show List.Nodup (["many","row","sign"]:List Str) by decide))) (fun _ _ _ _=>(vf_fz (vf_fn O_seen_as (hr.mono (by decide)) (va_cons (ve_var 1) (va_cons (ve_var 2) (va_cons (ve_var 0) va_nil))))))))))
   (vss_cons (vs_extend 3 (vf_comp (caps:=["one","many"]) (own:=["sign"]) (ix:=[0,2]) rfl ⟨rfl,rfl,rfl,rfl,rfl,rfl⟩ (vi_range1 T.range_ (ve_fn O_signs (hr.mono (by decide)) (va_cons (ve_var 0) va_nil))) (fun _ _ _ _=>(vg_name (i:=2) (show List.Nodup (["one","many","sign"]:List Str) by decide))) (fun _ _ _ _=>(vf_fz (vf_fn O_shown_in_all (hr.mono (by decide)) (va_cons (ve_var 0) (va_cons (ve_var 2) (va_cons (ve_var 1) va_nil))))))))
   (vss_one (vs_retO 3)))))),?_⟩
  have w1:=hp.w1
  have w2:=hp.w2
  have m1:=hp.m1
  have m2:=hp.m2
  have n1:=hp.n1
  have n2:=hp.n2
  have hl:=hp.l
  obtain ⟨r0,R0,eR⟩:=List.exists_cons_of_ne_nil (show R≠[] from fun z=>by rw [z] at w1; simp at w1)
  obtain ⟨s0,S0,eS⟩:=List.exists_cons_of_ne_nil (show S≠[] from fun z=>by rw [z] at hl; rw [hl] at w1; simp at w1)
  have l1:r0.length=m:=hp.r.len r0 (by rw [eR]; simp)
  have l2:s0.length=n:=hp.s.len s0 (by rw [eS]; simp)
  have fl : ∀ i,i≤R.length→(((R.take i).map fun r=>(List.range n).map fun j=>seenL r j n).flatten).length=i*n:=fun i hi=>by
   rw [flatn_len (eq_rows_len _ n),List.length_map,List.length_take,Nat.min_eq_left hi]
  refine ⟨c,s0,S0,by rw [eS],szl,_,rfl,fun i e => ∃ t4,e=[.val (dTab b R),.val (dTab c S),.val (.int n),.own ((((R.take i).map fun r=>(List.range n).map fun j=>seenL r j n).flatten).map dRow),t4],⟨_,by rw [l2]; rfl⟩,?_,?_⟩
  ·rintro i x e hx ⟨t4,rfl⟩
   obtain ⟨r,hr,rfl⟩:=trow_get hx
   have hi:i<R.length:=(List.getElem?_eq_some_iff.mp hr).1
   have lr:=hp.r.len r (List.mem_of_getElem? hr)
   refine ⟨rfl,⟨by omega,by omega⟩,?_⟩
   refine ⟨small1000 (by rw [rngD_len]; omega),fun k ys e=>ys=(((List.range n).map fun j=>seenL r j n).map dRow).take k ∧ ∃ u,e=[.val (.int n),.val (tRow r),u],⟨by simp,_,rfl⟩,?_,?_⟩
   ·rintro j y ys e hy ⟨hys,s,rfl⟩
    obtain ⟨hj,rfl⟩:=rngD_inv hy
    rw [Int.zero_add]
    have hj':j<n:=by omega
    refine ⟨r,j,n,rfl,⟨by omega,by omega,by omega⟩,snoc_take ?_ hys,_,rfl⟩
    rw [List.getElem?_map,List.getElem?_map,List.getElem?_range hj']; rfl
   ·rintro ys e ⟨hys,u,rfl⟩
    rw [rngD_len,Int.toNat_natCast,List.take_of_length_le (by simp)] at hys
    subst hys
    have hf:=fl i (by omega)
    have hin:i*n≤4*4:=Nat.mul_le_mul (by omega) n2
    refine ⟨rfl,small_le ?_,.val (tRow r),?_⟩
    ·show (((((R.take i).map fun r=>(List.range n).map fun j=>seenL r j n).flatten).map dRow)).length+(((List.range n).map fun j=>seenL r j n).map dRow).length≤1000
     rw [List.length_map,List.length_map,List.length_map,List.length_range,hf]; omega
    ·rw [List.take_add_one,hr]
     show _=[_,_,_,Sl.own _,_]
     simp
     rfl
  rintro e ⟨t4,rfl⟩
  rw [List.length_map,List.take_length]
  have hf:=fl R.length (Nat.le_refl _)
  rw [List.take_length] at hf
  have hin:R.length*n≤4*4:=Nat.mul_le_mul w2 n2
  refine ⟨rfl,b,r0,R0,by rw [eR],⟨by omega,by omega⟩,?_⟩
  refine ⟨small1000 (by rw [rngD_len]; omega),fun k ys e=>ys=(((List.range m).map fun i=>allL b i m n).map dRow).take k ∧ ∃ u,e=[.val (dTab b R),.val (.int n),u],⟨by simp,_,rfl⟩,?_,?_⟩
  ·rintro j y ys e hy ⟨hys,s,rfl⟩
   obtain ⟨hj,rfl⟩:=rngD_inv hy
   rw [Int.zero_add]
   have hj':j<m:=by omega
   refine ⟨b,r0,R0,j,n,by rw [eR],⟨by omega,by omega,by omega⟩,snoc_take ?_ hys,_,rfl⟩
   rw [List.getElem?_map,List.getElem?_map,List.getElem?_range hj',l1]; rfl
  ·rintro ys e ⟨hys,u,rfl⟩
   rw [rngD_len,Int.toNat_natCast,l1,List.take_of_length_le (by simp)] at hys
   subst hys
   refine ⟨rfl,small_le ?_,?_⟩
   ·show (((R.map fun r=>(List.range n).map fun j=>seenL r j n).flatten).map dRow).length+(((List.range m).map fun i=>allL b i m n).map dRow).length≤1000
    rw [List.length_map,List.length_map,List.length_map,List.length_range,hf]; omega
   ·rw [eqL,List.map_append] at h
    exact ⟨_,rfl,h⟩
def sp_wanted_sums (ds:List PyData) (q:List PyData→Prop):Prop := ∃ (b:Int) (R:List (List Int)) (m:Nat) (c:Int) (S:List (List Int)) (n:Nat),ds=[dTab b R,dTab c S]∧CmpPre b R m c S n∧q ((wantL S c m).map .int)
theorem sc_wanted_sums:FnScope ["one","other","sums","row"] ["one","other"] (defScope s_wanted_sums):=⟨rfl,rfl,rfl,by decide +kernel,rfl,by decide +kernel,by decide +kernel⟩
theorem ok_wanted_sums (F:Def K mg "wanted_sums" s_wanted_sums ["one","other"]) (T:Txt K mg cs)
 (O_signs:Ok P w K mg base "signs" 1 ["glass"] (PSp K sp_signs))
 : Ok P w K mg base "wanted_sums" 2 ["one","other"] (FSp K sp_wanted_sums):=by
  refine F.vokF sc_wanted_sums (by rintro ds q ⟨_,_,_,_,_,_,h,_⟩; rw [h]; rfl) fun f cdv A outer s H E hr ds q h=>?_
  obtain ⟨b,R,m,c,S,n,rfl,hp,h⟩:=h
  refine ⟨_,(vss_cons (vs_setO (i:=2) sc_wanted_sums.nd (vf_lst va_nil))
   (vss_cons (vs_for rfl (vi_seq (ve_ix (ve_var 1) ve_int)) (vg_name (i:=3) sc_wanted_sums.nd) (vss_one (vs_extendT 2 (ve_var 3))))
   (vss_fz 2 (vss_one (vs_retF (vf_cat (ve_var 2) (vf_fz (vf_comp (caps:=["other"]) (own:=["sign"]) (ix:=[1]) rfl ⟨rfl,rfl,rfl,rfl,rfl,rfl⟩ (vi_range1 T.range_ (ve_fn O_signs (hr.mono (by decide)) (va_cons (ve_var 0) va_nil))) (fun _ _ _ _=>(vg_name (i:=1) (show List.Nodup (["other","sign"]:List Str) by decide))) (fun _ _ _ _=>(ve_ix (ve_var 0) ve_int)))))))))),?_⟩
  have w1:=hp.w1
  have w2:=hp.w2
  have m2:=hp.m2
  have n2:=hp.n2
  have hl:=hp.l
  obtain ⟨r0,R0,eR⟩:=List.exists_cons_of_ne_nil (show R≠[] from fun z=>by rw [z] at w1; simp at w1)
  have l1:r0.length=m:=hp.r.len r0 (by rw [eR]; simp)
  have fl : ∀ i,i≤S.length→((S.take i).flatten).length=i*n:=fun i hi=>by
   rw [flatn_len (fun l hl=>hp.s.len l (List.mem_of_mem_take hl)),List.length_take,Nat.min_eq_left hi]
  refine ⟨szl,_,rfl,fun i e => ∃ t3,e=[.val (dTab b R),.val (dTab c S),.own (((S.take i).flatten).map .int),t3],⟨_,rfl⟩,?_,?_⟩
  ·rintro i x e hx ⟨t3,rfl⟩
   obtain ⟨r,hr,rfl⟩:=trow_get hx
   have hi:i<S.length:=(List.getElem?_eq_some_iff.mp hr).1
   have lr:=hp.s.len r (List.mem_of_getElem? hr)
   have hf:=fl i (by omega)
   have hin:i*n≤4*4:=Nat.mul_le_mul (by omega) n2
   refine ⟨rfl,rfl,small_le ?_,.val (tRow r),?_⟩
   ·show (((S.take i).flatten).map PyData.int).length+(r.map PyData.int).length≤1000
    rw [List.length_map,List.length_map,hf]; omega
   ·rw [List.take_add_one,hr]
    show _=[_,_,Sl.own _,_]
    simp
    rfl
  rintro e ⟨t3,rfl⟩
  rw [List.length_map,List.take_length]
  have hf:=fl S.length (Nat.le_refl _)
  rw [List.take_length] at hf
  have hin:S.length*n≤4*4:=Nat.mul_le_mul (by omega) n2
  refine ⟨b,r0,R0,by rw [eR],⟨by omega,by omega⟩,?_⟩
  show _∧_
  refine comp_by (((List.range m).map fun _=>c).map .int) (by simp [rngD_len,l1]) (small1000 (by simp; omega)) (fun e => ∃ s,e=[.val (dTab c S),s]) ⟨_,rfl⟩ ?_ ?_
  ·rintro j y ys e hy hys ⟨s,rfl⟩
   obtain ⟨hj,rfl⟩:=rngD_inv hy
   have hj':j<m:=by omega
   refine ⟨_,rfl,snoc_take ?_ hys,_,rfl⟩
   rw [List.getElem?_map,List.getElem?_map,List.getElem?_range hj']; rfl
  ·refine ⟨small_le ?_,?_⟩
   ·rw [List.length_map,List.length_map,List.length_map,List.length_range,hf]; omega
   ·rw [wantL,List.map_append] at h
    exact ⟨_,rfl,h⟩
def sp_is_share (ds:List PyData) (k:PyData→Prop):Prop := ∃ p q,ds=[dSh p q]∧Shr p q∧k (.bool true)
theorem sc_is_share:FnScope ["thing"] ["thing"] (defScope s_is_share):=⟨rfl,rfl,rfl,by decide +kernel,rfl,by decide +kernel,by decide +kernel⟩
theorem ok_is_share (F:Def K mg "is_share" s_is_share ["thing"]) (T:Txt K mg cs)
 (O_is_whole:Ok P w K mg base "is_whole" 1 ["thing"] (PSp K sp_is_whole))
 (O_divisor:Ok P w K mg base "divisor" 1 ["one","other"] (PSp K sp_divisor))
 : Ok P w K mg base "is_share" 2 ["thing"] (PSp K sp_is_share):=by
  refine F.vok sc_is_share (by rintro ds q ⟨_,_,h,_⟩; rw [h]; rfl) fun f cdv A outer s H E hr ds k h=>?_
  obtain ⟨p,q,rfl,hp,h⟩:=h
  refine ⟨_,(vss_cons (vs_if (VW.pt (vw_or (vt_not (vt_val (ve_isi T.isinstance_ T.tuple_ L2.boot_tuple (ve_var 0)))) (vw_or1 (vt_cmp (o_ne hr.units) (ve_callB c_len T.len_ L2.boot_len (va_cons (ve_var 0) va_nil)) ve_int)))) (vss_one (vs_ret ve_bl)) vss_nil)
   (vss_cons (vs_if (VW.pt (vw_or (vt_not (vt_val (ve_fn O_is_whole (hr.mono (by decide)) (va_cons (ve_ix (ve_var 0) ve_int) va_nil)))) (vw_or1 (vt_not (vt_val (ve_fn O_is_whole (hr.mono (by decide)) (va_cons (ve_ix (ve_var 0) ve_int) va_nil))))))) (vss_one (vs_ret ve_bl)) vss_nil)
   (vss_one (vs_ret (ve_and (ve_cmp o_ge (ve_ix (ve_var 0) ve_int) ve_int) (ve_one (ve_cmp (o_eq hr.units) (ve_fn O_divisor (hr.mono (by decide)) (va_cons (ve_ix (ve_var 0) ve_int) (va_cons (ve_ix (ve_var 0) ve_int) va_nil))) ve_int))))))),?_⟩
  have hq:=hp.pos
  refine ⟨rfl,rfl,_,rfl,_,rfl,_,rfl,?_⟩
  refine iteD (fun _=>⟨_,rfl,_,rfl,rfl,rfl,?_⟩) (fun z=>(z hq).elim)
  rw [hp.gcd]
  exact h
def sp_check_shares (ds:List PyData) (k:PyData→Prop):Prop := ∃ p q r s,ds=[dSh p q,dSh r s]∧(Shr p q∧Shr r s)∧k .none
theorem sc_check_shares:FnScope ["one","other"] ["one","other"] (defScope s_check_shares):=⟨rfl,rfl,rfl,by decide +kernel,rfl,by decide +kernel,by decide +kernel⟩
theorem ok_check_shares (F:Def K mg "check_shares" s_check_shares ["one","other"]) (T:Txt K mg cs)
 (O_is_share:Ok P w K mg base "is_share" 2 ["thing"] (PSp K sp_is_share))
 : Ok P w K mg base "check_shares" 3 ["one","other"] (PSp K sp_check_shares):=by
  refine F.vok sc_check_shares (by rintro ds q ⟨_,_,_,_,h,_⟩; rw [h]; rfl) fun f cdv A outer s H E hr ds k h=>?_
  obtain ⟨p,q,r,s,rfl,⟨hp,hr'⟩,h⟩:=h
  refine ⟨_,(vss_one (vs_if (VW.pt (vw_or (vt_not (vt_val (ve_fn O_is_share (hr.mono (by decide)) (va_cons (ve_var 0) va_nil)))) (vw_or1 (vt_not (vt_val (ve_fn O_is_share (hr.mono (by decide)) (va_cons (ve_var 1) va_nil))))))) vss_never vss_nil)),?_⟩
  exact ⟨p,q,rfl,hp,r,s,rfl,hr',h⟩
def sp_times (ds:List PyData) (k:PyData→Prop):Prop := ∃ p q r s,ds=[dSh p q,dSh r s]∧(ShW p q∧ShW r s)∧k (dSh (shT (p*r) (q*s)) (shB (p*r) (q*s)))
theorem sc_times:FnScope ["one","other"] ["one","other"] (defScope s_times):=⟨rfl,rfl,rfl,by decide +kernel,rfl,by decide +kernel,by decide +kernel⟩
theorem ok_times (F:Def K mg "times" s_times ["one","other"]) (T:Txt K mg cs)
 (O_reduced:Ok P w K mg base "reduced" 2 ["top","bottom"] (PSp K sp_reduced))
 (O_check_shares:Ok P w K mg base "check_shares" 3 ["one","other"] (PSp K sp_check_shares))
 : Ok P w K mg base "times" 4 ["one","other"] (PSp K sp_times):=by
  refine F.vok sc_times (by rintro ds q ⟨_,_,_,_,h,_⟩; rw [h]; rfl) fun f cdv A outer s H E hr ds k h=>?_
  obtain ⟨p,q,r,s,rfl,⟨hp,hr'⟩,h⟩:=h
  refine ⟨_,(vss_cons (vs_expr (ve_fn O_check_shares (hr.mono (by decide)) (va_cons (ve_var 0) (va_cons (ve_var 1) va_nil))))
   (vss_one (vs_ret (ve_fn O_reduced (hr.mono (by decide)) (va_cons (ve_op o_mulI (ve_ix (ve_var 0) ve_int) (ve_ix (ve_var 1) ve_int)) (va_cons (ve_op o_mulI (ve_ix (ve_var 0) ve_int) (ve_ix (ve_var 1) ve_int)) va_nil)))))),?_⟩
  exact ⟨p,q,r,s,rfl,⟨hp.s,hr'.s⟩,_,rfl,_,rfl,mulok hp.b1 hr'.b1,_,rfl,_,rfl,mulok hp.b2 hr'.b2,hp.bot hr',h⟩
def sp_over_bottom (ds:List PyData) (q:PyData→Prop):Prop := ∃ (d:PyData) (r:List (Int×Int)) (B:Int),ds=[d,.int B]∧(seqD d=some (r.map dS)∧r.length≤900∧(∀ x ∈ r,Shr x.1 x.2∧intBits x.1≤4000∧x.2∣B)∧0<B∧intBits B≤4000)∧q (tRow (overB B r))
theorem sc_over_bottom:FnScope ["row","bottom"] ["row","bottom"] (defScope s_over_bottom):=⟨rfl,rfl,rfl,by decide +kernel,rfl,by decide +kernel,by decide +kernel⟩
theorem ok_over_bottom (F:Def K mg "over_bottom" s_over_bottom ["row","bottom"]) (T:Txt K mg cs)
 : Ok P w K mg base "over_bottom" 1 ["row","bottom"] (PSp K sp_over_bottom):=by
  refine F.vok sc_over_bottom (by rintro ds q ⟨_,_,_,h,_⟩; rw [h]; rfl) fun f cdv A outer s H E hr ds q h=>?_
  obtain ⟨d,r,B,rfl,⟨e,hl,hx,B0,zB⟩,h⟩:=h
  refine ⟨_,(vss_one (vs_ret (ve_callTy c_tuple T.tuple_ L2.boot_tuple (va_cons (vf_fz (vf_comp (caps:=["bottom"]) (own:=["part"]) (ix:=[1]) rfl ⟨rfl,rfl,rfl,rfl,rfl,rfl⟩ (vi_seq (ve_var 0)) (fun _ _ _ _=>(vg_name (i:=1) (show List.Nodup (["bottom","part"]:List Str) by decide))) (fun _ _ _ _=>(ve_op o_mulI (ve_ix (ve_var 1) ve_int) (ve_op o_div (ve_var 0) (ve_ix (ve_var 1) ve_int)))))) va_nil)))),?_⟩
  refine seq_elim e (comp_by ((overB B r).map .int) (by simp [overB]) (small1000 (by simp [overB]; omega)) (fun e => ∃ s,e=[.val (.int B),s]) ⟨_,rfl⟩ ?_ h)
  rintro i x ys e hx' hys ⟨s,rfl⟩
  obtain ⟨y,hy,rfl⟩:=shG hx'
  obtain ⟨s1,s2,s3⟩:=hx y (List.mem_of_getElem? hy)
  have q0:=s1.pos
  refine ⟨.int y.1,rfl,.int y.2,rfl,⟨by omega,bits_up (dvdB s3 B0 zB) (by decide)⟩,mulok s2 (dvdB (x:=B/y.2) ⟨y.2,(Int.ediv_mul_cancel s3).symm⟩ B0 zB),snoc_take ?_ hys,_,rfl⟩
  unfold overB
  rw [List.getElem?_map,List.getElem?_map,hy]; rfl
def sp_table_of_shares (ds:List PyData) (q:PyData→Prop):Prop := ∃ (d:PyData) (V:List (List (Int×Int))) (D0:Int),ds=[d]∧(RowsS d V∧V.length≤900∧(∀ r ∈ V,r.length≤900 ∧ ∀ x ∈ r,Shr x.1 x.2∧intBits x.1≤4000∧x.2∣D0)∧0<D0∧intBits D0≤4000) ∧ ∀ B,LcmB V B→q (dTab B (V.map (overB B)))
theorem sc_table_of_shares:FnScope ["rows","bottom","row","part"] ["rows"] (defScope s_table_of_shares):=⟨rfl,rfl,rfl,by decide +kernel,rfl,by decide +kernel,by decide +kernel⟩
theorem ok_table_of_shares (F:Def K mg "table_of_shares" s_table_of_shares ["rows"]) (T:Txt K mg cs)
 (O_divisor:Ok P w K mg base "divisor" 1 ["one","other"] (PSp K sp_divisor))
 (O_over_bottom:Ok P w K mg base "over_bottom" 1 ["row","bottom"] (PSp K sp_over_bottom))
 : Ok P w K mg base "table_of_shares" 2 ["rows"] (PSp K sp_table_of_shares):=by
  refine F.vok sc_table_of_shares (by rintro ds q ⟨_,_,_,h,_⟩; rw [h]; rfl) fun f cdv A outer s H E hr ds q h=>?_
  obtain ⟨d,V,D0,rfl,⟨⟨l,e,el,hV⟩,hl,hx,d0,zd⟩,h⟩:=h
  refine ⟨_,(vss_cons (vs_set (i:=1) sc_table_of_shares.nd ve_int)
   (vss_cons (vs_for rfl (vi_seq (ve_var 0)) (vg_name (i:=2) sc_table_of_shares.nd) (vss_one (vs_for rfl (vi_seq (ve_var 2)) (vg_name (i:=3) sc_table_of_shares.nd) (vss_one (vs_set (i:=1) sc_table_of_shares.nd (ve_op o_div (ve_op o_mulI (ve_var 1) (ve_ix (ve_var 3) ve_int)) (ve_fn O_divisor (hr.mono (by decide)) (va_cons (ve_var 1) (va_cons (ve_ix (ve_var 3) ve_int) va_nil)))))))))
   (vss_one (vs_ret (ve_tup (va_cons (ve_var 1) (va_cons (ve_callTy c_tuple T.tuple_ L2.boot_tuple (va_cons (vf_fz (vf_comp (caps:=["bottom"]) (own:=["row"]) (ix:=[1]) rfl ⟨rfl,rfl,rfl,rfl,rfl,rfl⟩ (vi_seq (ve_var 0)) (fun _ _ _ _=>(vg_name (i:=1) (show List.Nodup (["bottom","row"]:List Str) by decide))) (fun _ _ _ _=>(ve_fn O_over_bottom (hr.mono (by decide)) (va_cons (ve_var 1) (va_cons (ve_var 0) va_nil)))))) va_nil)) va_nil))))))),?_⟩
  refine seq_elim e ⟨fun i e => ∃ t1 t2 B,e=[.val d,.val (.int B),t1,t2]∧LcmL (V.take i).flatten B∧B∣D0,⟨_,_,_,rfl,by simpa using LcmL.nil,⟨D0,by omega⟩⟩,?_,?_⟩
  ·rintro i x e' hxi ⟨t1,t2,B,rfl,hB,Bd⟩
   obtain ⟨r,hr,er⟩:=hV i x hxi
   refine seq_elim er ⟨fun j e => ∃ t2 B,e=[.val d,.val (.int B),.val x,t2]∧LcmL ((V.take i).flatten++r.take j) B∧B∣D0,⟨_,_,rfl,by simpa using hB,Bd⟩,?_,?_⟩
   ·rintro j y e hy ⟨t2,B,rfl,hB,Bd⟩
    obtain ⟨z,hz,rfl⟩:=shG hy
    obtain ⟨s1,s2,s3⟩:=(hx r (List.mem_of_getElem? hr)).2 z (List.mem_of_getElem? hz)
    have q0:=s1.pos
    have B0:=hB.pos
    have gp:(0:Int)<(Int.gcd B z.2:Nat):=by have:=Int.gcd_pos_of_ne_zero_right B (show z.2≠0 by omega); omega
    refine ⟨.int z.2,rfl,mulok (dvdB Bd d0 zd) (dvdB s3 d0 zd),.int z.2,rfl,⟨gp,bits_up (dvdB (Int.dvd_trans (Int.gcd_dvd_left ..) Bd) d0 zd) (by decide)⟩,_,_,rfl,?_,(bot_next B0 (show 0<z.2 by omega) Bd s3).2.1⟩
    rw [takeS hz,← List.append_assoc]
    exact hB.snoc (by omega)
   ·rintro e ⟨t2,B,rfl,hB,Bd⟩
    refine ⟨_,_,_,rfl,?_,Bd⟩
    rw [List.length_map,List.take_length] at hB
    rw [takeF hr]; exact hB
  rintro e' ⟨t1,t2,B,rfl,hB,Bd⟩
  rw [el,List.take_length] at hB
  have hB':=hB.b
  have B0:=hB.pos
  have zB:=dvdB Bd d0 zd
  refine seq_elim e (comp_by ((V.map (overB B)).map tRow) (by simp [el]) (small1000 (by simp; omega)) (fun e => ∃ s,e=[.val (.int B),s]) ⟨_,rfl⟩ ?_ ⟨szl,h B hB'⟩)
  rintro i x ys e' hxi hys ⟨s,rfl⟩
  obtain ⟨r,hr,er⟩:=hV i x hxi
  obtain ⟨rl,rx⟩:=hx r (List.mem_of_getElem? hr)
  refine ⟨x,r,B,rfl,⟨er,rl,fun y hy=>⟨(rx y hy).1,(rx y hy).2.1,hB'.dv r (List.mem_of_getElem? hr) y hy⟩,B0,zB⟩,snoc_take ?_ hys,_,rfl⟩
  rw [List.getElem?_map,List.getElem?_map,hr]; rfl
def sp_in_rows (ds:List PyData) (q:PyData→Prop):Prop := ∃ (l:List PyData) (n w:Nat),ds=[.list l,.int n,.int w]∧(n≤100∧w≤100)∧q (.list ((inRows l n w).map .tuple))
theorem sc_in_rows:FnScope ["flat","wide","many"] ["flat","wide","many"] (defScope s_in_rows):=⟨rfl,rfl,rfl,by decide +kernel,rfl,by decide +kernel,by decide +kernel⟩
theorem ok_in_rows (F:Def K mg "in_rows" s_in_rows ["flat","wide","many"]) (T:Txt K mg cs)
 : Ok P w K mg base "in_rows" 1 ["flat","wide","many"] (PSp K sp_in_rows):=by
  refine F.vok sc_in_rows (by rintro ds q ⟨_,_,_,h,_⟩; rw [h]; rfl) fun f cdv A outer s H E hr ds q h=>?_
  obtain ⟨l,n,w,rfl,⟨hn,hw⟩,h⟩:=h
  refine ⟨_,(vss_one (vs_ret (vf_fz (vf_comp (caps:=["flat","wide"]) (own:=["k"]) (ix:=[0,1]) rfl ⟨rfl,rfl,rfl,rfl,rfl,rfl⟩ (vi_range1 T.range_ (ve_var 2)) (fun _ _ _ _=>(vg_name (i:=2) (show List.Nodup (["flat","wide","k"]:List Str) by decide))) (fun _ _ _ _=>(ve_callTy c_tuple T.tuple_ L2.boot_tuple (va_cons (vf_fz (vf_slice (ve_var 0) (vo_some (ve_op o_mulI (ve_var 2) (ve_var 1))) (vo_some (ve_op o_mulI (ve_op o_add (ve_var 2) ve_int) (ve_var 1))))) va_nil))))))),?_⟩
  refine ⟨⟨by omega,by omega⟩,comp_by ((inRows l n w).map .tuple) (by simp [inRows,rngD_len]) (small1000 (by simp [inRows]; omega)) (fun e => ∃ s,e=[.val (.list l),.val (.int n),s]) ⟨_,rfl⟩ ?_ h⟩
  rintro i x ys e hx hys ⟨s,rfl⟩
  obtain ⟨hi,rfl⟩:=rngD_inv hx
  rw [Int.zero_add]
  have hi':i<w:=by omega
  have e1:((i:Nat):Int)*((n:Nat):Int)=((i*n:Nat):Int):=by rw [Int.natCast_mul]
  have e2:(((i:Nat):Int)+1)*((n:Nat):Int)=((i*n+n:Nat):Int):=by rw [Int.add_mul,e1]; omega
  refine ⟨IntMulOk.of_right (bits64 (by omega) (by omega)),IntMulOk.of_right (bits64 (by omega) (by omega)),?_⟩
  rintro z rfl
  refine ⟨snoc_take ?_ hys,_,rfl⟩
  rw [List.getElem?_map,inRows_get hi',e1,e2,cut_mid _ (by omega) (by omega)]
  show some (PyData.tuple _)=some (PyData.tuple _)
  congr 3
  omega
def sp_dulling_by (ds:List PyData) (q:PyData→Prop):Prop := ∃ (b:Int) (R:List (List Int)) (m:Nat) (c:Int) (S:List (List Int)) (n:Nat) (vs:List (Int×Int)),ds=[dTab b R,dTab c S,.list (vs.map dS)]∧(CmpPre b R m c S n∧FitV (m*n) (eqL b R m n) (wantL S c m) vs) ∧ ∀ B D,Dls b R m c S n B D→q (dTab B D)
theorem sc_dulling_by:FnScope ["one","other","values","back","shares"] ["one","other","values"] (defScope s_dulling_by):=⟨rfl,rfl,rfl,by decide +kernel,rfl,by decide +kernel,by decide +kernel⟩
theorem ok_dulling_by (F:Def K mg "dulling_by" s_dulling_by ["one","other","values"]) (T:Txt K mg cs)
 (O_signs:Ok P w K mg base "signs" 1 ["glass"] (PSp K sp_signs))
 (O_share:Ok P w K mg base "share" 3 ["top","bottom"] (PSp K sp_share))
 (O_times:Ok P w K mg base "times" 4 ["one","other"] (PSp K sp_times))
 (O_table_of_shares:Ok P w K mg base "table_of_shares" 2 ["rows"] (PSp K sp_table_of_shares))
 (O_in_rows:Ok P w K mg base "in_rows" 1 ["flat","wide","many"] (PSp K sp_in_rows))
 : Ok P w K mg base "dulling_by" 5 ["one","other","values"] (PSp K sp_dulling_by):=by
  refine F.vok sc_dulling_by (by rintro ds q ⟨_,_,_,_,_,_,_,h,_⟩; rw [h]; rfl) fun f cdv A outer s H E hr ds q h=>?_
  obtain ⟨b,R,m,c,S,n,vs,rfl,⟨hp,hv⟩,h⟩:=h
  refine ⟨_,(vss_cons (vs_set (i:=3) sc_dulling_by.nd (ve_fn O_share (hr.mono (by decide)) (va_cons (ve_ix (ve_var 0) ve_int) (va_cons (ve_ix (ve_var 1) ve_int) va_nil))))
   (vss_cons (vs_setC (caps:=["back"]) (own:=["value"]) (ix:=[3]) (i:=4) sc_dulling_by.nd rfl ⟨rfl,rfl,rfl,rfl,rfl,rfl⟩ (vi_seq (ve_var 2)) (fun _ _ _ _=>(vg_name (i:=1) (show List.Nodup (["back","value"]:List Str) by decide))) (fun _ _ _ _=>(ve_fn O_times (hr.mono (by decide)) (va_cons (ve_var 1) (va_cons (ve_var 0) va_nil)))))
   (vss_one (vs_ret (ve_fn O_table_of_shares (hr.mono (by decide)) (va_cons (ve_fn O_in_rows (hr.mono (by decide)) (va_cons (ve_var 4) (va_cons (ve_fn O_signs (hr.mono (by decide)) (va_cons (ve_var 1) va_nil)) (va_cons (ve_fn O_signs (hr.mono (by decide)) (va_cons (ve_var 0) va_nil)) va_nil)))) va_nil)))))),?_⟩
  have w1:=hp.w1
  have m1:=hp.m1
  have m2:=hp.m2
  have n1:=hp.n1
  have n2:=hp.n2
  have hl:=hp.l
  have b1:=hp.r.pos
  have c1:=hp.s.pos
  have zb:=hp.zb
  have zc:=hp.zc
  obtain ⟨r0,R0,eR⟩:=List.exists_cons_of_ne_nil (show R≠[] from fun z=>by rw [z] at w1; simp at w1)
  obtain ⟨s0,S0,eS⟩:=List.exists_cons_of_ne_nil (show S≠[] from fun z=>by rw [z] at hl; rw [hl] at w1; simp at w1)
  have l1:r0.length=m:=hp.r.len r0 (by rw [eR]; simp)
  have l2:s0.length=n:=hp.s.len s0 (by rw [eS]; simp)
  obtain ⟨vl,d,d0,zd,hx,_⟩:=id hv
  have mn:m*n≤4*4:=Nat.mul_le_mul m2 n2
  have bb:intBits b≤64:=bits64 (by omega) (by omega)
  have cb:intBits c≤64:=bits64 (by omega) (by omega)
  have hbk:ShW (shT b c) (shB b c):=shw_of (by omega) (bits_up bb (by decide)) (bits_up cb (by decide))
  have hvw : ∀ x ∈ vs,ShW x.1 x.2:=fun x hm=>by
   obtain ⟨q1,q2,q3,q4⟩:=hx x hm
   exact ⟨q1,bits_up q4 (by decide),bits_up (dvdB q3 d0 zd) (by decide)⟩
  refine ⟨_,rfl,_,rfl,⟨by omega,bits_up cb (by decide)⟩,?_⟩
  show _∧_
  refine comp_by (ds:=vs.map dS) ((vs.map (backS b c)).map dS) (by simp) (small1000 (by rw [List.length_map,List.length_map,vl]; omega)) (fun e => ∃ s,e=[.val (dSh (shT b c) (shB b c)),s]) ⟨_,rfl⟩ ?_ ?_
  ·rintro i x ys e hx' hys ⟨s,rfl⟩
   obtain ⟨y,hy,rfl⟩:=shG hx'
   refine ⟨y.1,y.2,_,_,rfl,⟨hvw y (List.mem_of_getElem? hy),hbk⟩,snoc_take ?_ hys,_,rfl⟩
   rw [List.getElem?_map,List.getElem?_map,hy]; rfl
  refine ⟨c,s0,S0,by rw [eS],b,r0,R0,by rw [eR],_,n,m,by rw [l1,l2],⟨by omega,by omega⟩,?_⟩
  have dc0:0<d*c:=Int.mul_pos d0 (by omega)
  have hrow : ∀ r ∈ inRows (vs.map (backS b c)) n m,∀ y ∈ r,∃ x ∈ vs,y=backS b c x:=fun r hr y hy=>by
   obtain ⟨k,hk,rfl⟩:=List.mem_map.mp hr
   obtain ⟨x,hx,rfl⟩:=List.mem_map.mp (List.mem_of_mem_drop (List.mem_of_mem_take hy))
   exact ⟨x,hx,rfl⟩
  refine ⟨_,inRows (vs.map (backS b c)) n m,d*c,rfl,⟨⟨_,rfl,by simp [inRows],fun i x hxi=>?_⟩,by simp [inRows]; omega,fun r hr=>⟨?_,fun y hy=>?_⟩,dc0,bits_up (intBits_mul_le zd cb) (by decide)⟩,fun B hB=>h B _ (cmp_fit hp hv hB)⟩
  ·rw [List.getElem?_map] at hxi
   cases e:(inRows ((vs.map (backS b c)).map dS) n m)[i]? with
   | none=>rw [e] at hxi; cases hxi
   | some z =>
    rw [e] at hxi
    have ez:=(Option.some.inj hxi).symm
    subst ez
    have hi:i<m:=by
     have:=(List.getElem?_eq_some_iff.mp e).1
     simpa [inRows] using this
    rw [inRows_get hi] at e
    have e':=(Option.some.inj e).symm
    subst e'
    refine ⟨_,inRows_get hi,?_⟩
    show some _=some _
    rw [List.map_take,List.map_drop]
  ·obtain ⟨k,hk,rfl⟩:=List.mem_map.mp hr
   rw [List.length_take]; omega
  ·obtain ⟨x,hxm,rfl⟩:=hrow r hr y hy
   obtain ⟨q1,q2,q3,q4⟩:=hx x hxm
   obtain ⟨g1,g2,g3⟩:=back_ok (show 0<b by omega) (show 0<c by omega) q1
   exact ⟨g1,shT_bits (bits_up (intBits_mul_le q4 (shT_bits (bits_up bb (Nat.le_refl _)))) (by decide)),Int.dvd_trans g3 (Int.mul_dvd_mul q3 (Int.dvd_refl _))⟩
def CmpSaysB (b:Int) (R:List (List Int)) (m:Nat) (c:Int) (S:List (List Int)) (n:Nat) (q:PyData→Prop):Prop :=
 (∀ B D,Dls b R m c S n B D→q (.tuple [.str "dulls",dTab B D])) ∧ ∀ W,Dcs b R m c S n W→(∀ r ∈ W,∀ x ∈ r,intBits x≤710)→q (.tuple [.str "decision",.tuple (W.map tRow)])
theorem rows_bits {ws:List Int} {n w z:Nat} (h : ∀ x ∈ ws,intBits x≤z) : ∀ r ∈ inRows ws n w,∀ x ∈ r,intBits x≤z:=by
 intro r hr x hx
 obtain ⟨k,_,rfl⟩:=List.mem_map.mp hr
 exact h x (List.mem_of_mem_drop (List.mem_of_mem_take hx))
def Shp (n:Nat) (d:PyData):Prop:=d.canLay0=true∧d.depth≤n
theorem shp_bool (i:Bool) (n:Nat):Shp n (.bool i):=by simp [Shp,PyData.canLay0,PyData.depth]
theorem Shp.ok {n:Nat} {d:PyData} (h:Shp n d) (hn:n≤64:=by decide):SeqAt.shaped d=true:=by
 unfold SeqAt.shaped
 rw [h.1,decide_eq_true (Nat.le_trans h.2 hn)]; rfl
theorem Shp.refl {n:Nat} {d:PyData} (h:Shp n d):PyData.eqv d d=true:=SeqAt.eqv_refl d h.1
theorem shpS {x:Str} (n:Nat) (h:PyData.strOk x=true):Shp n (.str x):=by simp [Shp,PyData.canLay0,PyData.depth,h]
def sp_compared (ds:List PyData) (q:PyData→Prop):Prop := ∃ (b:Int) (R:List (List Int)) (m:Nat) (c:Int) (S:List (List Int)) (n:Nat),ds=[dTab b R,dTab c S]∧CmpPre b R m c S n∧CmpSaysB b R m c S n q
theorem sc_compared:FnScope ["one","other","answer"] ["one","other"] (defScope s_compared):=⟨rfl,rfl,rfl,by decide +kernel,rfl,by decide +kernel,by decide +kernel⟩
theorem ok_compared (F:Def K mg "compared" s_compared ["one","other"]) (T:Txt K mg cs)
 (O_stands:Ok P w K mg base "stands" 1 ["glass"] (PSp K sp_stands))
 (O_signs:Ok P w K mg base "signs" 1 ["glass"] (PSp K sp_signs))
 (O_check_alike_stands:Ok P w K mg base "check_alike_stands" 2 ["one","other"] (PSp K sp_check_alike_stands))
 (O_solved:Ok P w K mg base "solved" 5 ["rows","sums"] (SolSp K sp_solved))
 (O_check_few_signs:Ok P w K mg base "check_few_signs" 2 ["glass"] (PSp K sp_check_few_signs))
 (O_equations:Ok P w K mg base "equations" 3 ["one","other"] (FSp K sp_equations))
 (O_wanted_sums:Ok P w K mg base "wanted_sums" 2 ["one","other"] (FSp K sp_wanted_sums))
 (O_in_rows:Ok P w K mg base "in_rows" 1 ["flat","wide","many"] (PSp K sp_in_rows))
 (O_dulling_by:Ok P w K mg base "dulling_by" 5 ["one","other","values"] (PSp K sp_dulling_by))
 : Ok P w K mg base "compared" 6 ["one","other"] (PSp K sp_compared):=by
  refine F.vok sc_compared (by rintro ds q ⟨_,_,_,_,_,_,h,_⟩; rw [h]; rfl) fun f cdv A outer s H E hr ds q h=>?_
  obtain ⟨b,R,m,c,S,n,rfl,hp,h1,h2⟩:=h
  refine ⟨_,(vss_cons (vs_expr (ve_fn O_check_alike_stands (hr.mono (by decide)) (va_cons (ve_var 0) (va_cons (ve_var 1) va_nil))))
   (vss_cons (vs_expr (ve_fn O_check_few_signs (hr.mono (by decide)) (va_cons (ve_var 0) va_nil)))
   (vss_cons (vs_expr (ve_fn O_check_few_signs (hr.mono (by decide)) (va_cons (ve_var 1) va_nil)))
   (vss_cons (vs_set (i:=2) sc_compared.nd (ve_fn (sol_v O_solved) (hr.mono (by decide)) (va_cons (vf_fz (vf_fn O_equations (hr.mono (by decide)) (va_cons (ve_var 0) (va_cons (ve_var 1) va_nil)))) (va_cons (vf_fz (vf_fn O_wanted_sums (hr.mono (by decide)) (va_cons (ve_var 0) (va_cons (ve_var 1) va_nil)))) va_nil))))
   (vss_cons (vs_if (vt_cmp (o_eq hr.units) (ve_ix (ve_var 2) ve_int) ve_str) (vss_one (vs_ret (ve_tup (va_cons ve_str (va_cons (ve_fn O_dulling_by (hr.mono (by decide)) (va_cons (ve_var 0) (va_cons (ve_var 1) (va_cons (ve_ix (ve_var 2) ve_int) va_nil)))) va_nil))))) vss_nil)
   (vss_one (vs_ret (ve_tup (va_cons ve_str (va_cons (ve_callTy c_tuple T.tuple_ L2.boot_tuple (va_cons (ve_fn O_in_rows (hr.mono (by decide)) (va_cons (ve_ix (ve_var 2) ve_int) (va_cons (ve_fn O_signs (hr.mono (by decide)) (va_cons (ve_var 1) va_nil)) (va_cons (ve_fn O_stands (hr.mono (by decide)) (va_cons (ve_var 1) va_nil)) va_nil)))) va_nil)) va_nil)))))))))),?_⟩
  have w1:=hp.w1
  have w2:=hp.w2
  have m2:=hp.m2
  have n2:=hp.n2
  have hl:=hp.l
  obtain ⟨r0,R0,eR⟩:=List.exists_cons_of_ne_nil (show R≠[] from fun z=>by rw [z] at w1; simp at w1)
  obtain ⟨s0,S0,eS⟩:=List.exists_cons_of_ne_nil (show S≠[] from fun z=>by rw [z] at hl; rw [hl] at w1; simp at w1)
  have l1:r0.length=m:=hp.r.len r0 (by rw [eR]; simp)
  have l2:s0.length=n:=hp.s.len s0 (by rw [eS]; simp)
  have shF:=shpS (x := "fits") 0 (by decide +kernel)
  have shN:=shpS (x := "none") 0 (by decide +kernel)
  refine ⟨b,R,c,S,rfl,hl,b,r0,R0,by rw [eR],by omega,c,s0,S0,by rw [eS],by omega,b,R,m,c,S,n,rfl,hp,b,R,m,c,S,n,rfl,hp,m*n,eqL b R m n,wantL S c m,rfl,cmp_pre hp,fun vs hv=>?_,fun ws hw hz=>?_⟩
  ·refine ⟨.str "fits",rfl,shF.ok,shF.ok,iteY shF.refl ⟨_,rfl,b,R,m,c,S,n,vs,rfl,⟨hp,hv⟩,fun B D hD=>⟨szl,h1 B D hD⟩⟩⟩
  ·refine ⟨.str "none",rfl,shN.ok,shF.ok,iteZ (by decide +kernel) ⟨_,rfl,c,s0,S0,by rw [eS],c,S,rfl,_,n,R.length,by rw [l2,hl],⟨by omega,by omega⟩,?_⟩⟩
   have e:(inRows (ws.map PyData.int) n R.length).map PyData.tuple=(inRows ws n R.length).map tRow:=by
    unfold inRows tRow
    rw [List.map_map,List.map_map]
    refine List.map_congr_left fun k _=>?_
    show PyData.tuple _=PyData.tuple _
    rw [List.map_take,List.map_drop]
   show _∧_
   rw [e]
   exact ⟨szl,h2 _ (cmp_none hp hw) (rows_bits hz)⟩
def sp_dulls_into (ds:List PyData) (q:PyData→Prop):Prop := ∃ (b:Int) (R:List (List Int)) (m:Nat) (c:Int) (S:List (List Int)) (n:Nat),ds=[dTab b R,dTab c S]∧CmpPre b R m c S n∧((∃ B D,Dls b R m c S n B D)→q (.bool true))∧((∃ W,Dcs b R m c S n W)→q (.bool false))
theorem sc_dulls_into:FnScope ["one","other"] ["one","other"] (defScope s_dulls_into):=⟨rfl,rfl,rfl,by decide +kernel,rfl,by decide +kernel,by decide +kernel⟩
theorem ok_dulls_into (F:Def K mg "dulls_into" s_dulls_into ["one","other"]) (T:Txt K mg cs)
 (O_compared:Ok P w K mg base "compared" 6 ["one","other"] (PSp K sp_compared))
 : Ok P w K mg base "dulls_into" 7 ["one","other"] (PSp K sp_dulls_into):=by
  refine F.vok sc_dulls_into (by rintro ds q ⟨_,_,_,_,_,_,h,_⟩; rw [h]; rfl) fun f cdv A outer s H E hr ds q h=>?_
  obtain ⟨b,R,m,c,S,n,rfl,hp,h1,h2⟩:=h
  refine ⟨_,(vss_one (vs_ret (ve_cmp (o_eq hr.units) (ve_ix (ve_fn O_compared (hr.mono (by decide)) (va_cons (ve_var 0) (va_cons (ve_var 1) va_nil))) ve_int) ve_str))),?_⟩
  have shD:=shpS (x := "dulls") 0 (by decide +kernel)
  have shC:=shpS (x := "decision") 0 (by decide +kernel)
  refine ⟨b,R,m,c,S,n,rfl,hp,fun B D hD=>⟨_,rfl,shD.ok,shD.ok,?_⟩,fun W hW _=>⟨_,rfl,shC.ok,shD.ok,?_⟩⟩
  ·have e:PyData.eqv (.str "dulls") (.str "dulls")=true:=shD.refl
   rw [e]; exact h1 ⟨B,D,hD⟩
  ·have e:PyData.eqv (.str "decision") (.str "dulls")=false:=by decide +kernel
   rw [e]; exact h2 ⟨W,hW⟩
def sp_alike (ds:List PyData) (q:PyData→Prop):Prop := ∃ (b:Int) (R:List (List Int)) (m:Nat) (c:Int) (S:List (List Int)) (n:Nat),ds=[dTab b R,dTab c S]∧CmpPre b R m c S n∧((∃ B D,Dls b R m c S n B D)→(∃ B D,Dls c S n b R m B D)→q (.bool true))∧((∃ W,Dcs b R m c S n W)∨(∃ W,Dcs c S n b R m W)→q (.bool false))
theorem CmpPre.symm {b:Int} {R:List (List Int)} {m:Nat} {c:Int} {S:List (List Int)} {n:Nat} (h:CmpPre b R m c S n):CmpPre c S n b R m :=
 ⟨h.s,h.r,h.l.symm,h.l ▸ h.w1,h.l ▸ h.w2,h.n1,h.n2,h.m1,h.m2,h.zc,h.zb⟩
theorem sc_alike:FnScope ["one","other"] ["one","other"] (defScope s_alike):=⟨rfl,rfl,rfl,by decide +kernel,rfl,by decide +kernel,by decide +kernel⟩
theorem ok_alike (F:Def K mg "alike" s_alike ["one","other"]) (T:Txt K mg cs)
 (O_dulls_into:Ok P w K mg base "dulls_into" 7 ["one","other"] (PSp K sp_dulls_into))
 : Ok P w K mg base "alike" 8 ["one","other"] (PSp K sp_alike):=by
  refine F.vok sc_alike (by rintro ds q ⟨_,_,_,_,_,_,h,_⟩; rw [h]; rfl) fun f cdv A outer s H E hr ds q h=>?_
  obtain ⟨b,R,m,c,S,n,rfl,hp,h1,h2⟩:=h
  refine ⟨_,(vss_one (vs_ret (ve_and (ve_fn O_dulls_into (hr.mono (by decide)) (va_cons (ve_var 0) (va_cons (ve_var 1) va_nil))) (ve_one (ve_fn O_dulls_into (hr.mono (by decide)) (va_cons (ve_var 1) (va_cons (ve_var 0) va_nil))))))),?_⟩
  refine ⟨b,R,m,c,S,n,rfl,hp,fun hD=>iteY rfl ⟨c,S,n,b,R,m,rfl,hp.symm,fun hD'=>h1 hD hD',fun hW=>h2 (.inr hW)⟩,fun hW=>iteZ rfl (h2 (.inl hW))⟩
def sp__law_cell (ds:List PyData) (q:PyData→Prop):Prop := ∃ (ns:List Int) (k:Int),ds=[.list (ns.map .int),.int k]∧(0≤k∧k≤1000∧ns.length≤63) ∧ ∀ z:Int,q (.int z)
theorem sc__law_cell:FnScope ["_law_script","_law_k"] ["_law_script","_law_k"] (defScope s__law_cell):=⟨rfl,rfl,rfl,by decide +kernel,rfl,by decide +kernel,by decide +kernel⟩
theorem ok__law_cell (F:Def K mg "_law_cell" s__law_cell ["_law_script","_law_k"]) (T:Txt K mg cs)
 : Ok P w K mg base "_law_cell" 1 ["_law_script","_law_k"] (PSp K sp__law_cell):=by
  refine F.vok sc__law_cell (by rintro ds q ⟨_,_,h,_⟩; rw [h]; rfl) fun f cdv A outer s H E hr ds q h=>?_
  obtain ⟨ns,k,rfl,⟨k0,k1,hl⟩,h⟩:=h
  refine ⟨_,(vss_cons (vs_if (vt_cmp o_lt (ve_var 1) (ve_callB c_len T.len_ L2.boot_len (va_cons (ve_var 0) va_nil))) (vss_one (vs_ret (ve_ix (ve_var 0) (ve_var 1)))) vss_nil)
   (vss_cons (vs_if (vt_cmp (o_eq hr.units) (ve_callB c_len T.len_ L2.boot_len (va_cons (ve_var 0) va_nil)) ve_int) (vss_one (vs_ret (ve_op o_add (ve_op o_add (ve_op o_mulI (ve_op o_mulI (ve_var 1) (ve_var 1)) ve_int) (ve_op o_mulI ve_int (ve_var 1))) ve_int))) vss_nil)
   (vss_one (vs_ret (ve_op o_add (ve_op o_mulI (ve_ix (ve_var 0) (ve_op o_mod (ve_var 1) (ve_callB c_len T.len_ L2.boot_len (va_cons (ve_var 0) va_nil)))) (ve_op o_add (ve_var 1) ve_int)) (ve_op o_mulI (ve_op o_mulI (ve_var 1) (ve_var 1)) ve_int)))))),?_⟩
  refine iteD (fun hlt=>?_) (fun hge=>?_)
  ·obtain ⟨n,en⟩:=atI_ints (ns:=ns) k0 (by simpa using hlt)
   exact ⟨_,en,h n⟩
  refine ⟨rfl,rfl,ite_eq (fun z=>?_) (fun z=>?_)⟩
  ·exact ⟨IntMulOk.of_left (bits64 (by omega) (by omega)),IntMulOk.of_right (by decide),IntMulOk.of_left (by decide),h _⟩
  ·have hp:0<(((ns.map PyData.int).length:Nat):Int):=by omega
   obtain ⟨n,en⟩:=atI_ints (ns:=ns) (i:=k%(((ns.map PyData.int).length:Nat):Int)) (Int.emod_nonneg _ (by omega)) (by have:=Int.emod_lt_of_pos k hp; simpa using this)
   exact ⟨hp,_,en,IntMulOk.of_right (bits64 (by omega) (by omega)),IntMulOk.of_left (bits64 (by omega) (by omega)),IntMulOk.of_right (by decide),h _⟩
def sp__law_drawnC (ds:List PyData) (q:PyData→Prop):Prop := ∃ (c base many:Int),ds=[.int c,.int base,.int many]∧(1≤base∧base≤1000000∧0≤many∧many≤60) ∧ ∀ xs:List Int,xs.length=many.toNat→(∀ x ∈ xs,0≤x∧x<base)→q (.list (xs.map .int))
theorem sc__law_drawn:FnScope ["_law_cell_here","_law_base","_law_many","_law_found","_law_left","_law_k","_law_number"] ["_law_cell_here","_law_base","_law_many"] (defScope s__law_drawn):=⟨rfl,rfl,rfl,by decide +kernel,rfl,by decide +kernel,by decide +kernel⟩
theorem ok__law_drawn (F:Def K mg "_law_drawn" s__law_drawn ["_law_cell_here","_law_base","_law_many"]) (T:Txt K mg cs)
 : Ok P w K mg base "_law_drawn" 1 ["_law_cell_here","_law_base","_law_many"] (PSp K sp__law_drawnC):=by
  refine F.vok sc__law_drawn (by rintro ds q ⟨_,_,_,h,_⟩; rw [h]; rfl) fun f cdv A outer s H E hr ds q h=>?_
  obtain ⟨c,base,many,rfl,⟨b1,b2,m0,m1⟩,h⟩:=h
  refine ⟨_,(vss_cons (vs_setO (i:=3) sc__law_drawn.nd (vf_lst va_nil))
   (vss_cons (vs_set (i:=4) sc__law_drawn.nd (ve_op o_div (ve_var 0) ve_int))
   (vss_cons (vs_for rfl (vi_range1 T.range_ (ve_var 2)) (vg_name (i:=5) sc__law_drawn.nd) (vss_cons (vs_set (i:=6) sc__law_drawn.nd (ve_var 4))
   (vss_mid (vs_if (vt_cmp (o_eq hr.units) (ve_op o_mod (ve_var 0) ve_int) ve_int) (vss_cons (vs_set (i:=6) sc__law_drawn.nd (ve_op o_add (ve_op o_add (ve_op o_mod (ve_var 0) ve_int) (ve_op o_mulI ve_int (ve_var 5))) ve_int))
   (vss_cons (vs_set (i:=6) sc__law_drawn.nd (ve_op o_mod (ve_op o_mulI (ve_var 6) (ve_op o_add (ve_op o_add (ve_op o_mod (ve_var 0) ve_int) (ve_op o_mulI (ve_var 5) (ve_var 5))) ve_int)) ve_int))
   (vss_one (vs_set (i:=6) sc__law_drawn.nd (ve_op o_mod (ve_op o_add (ve_op o_mulI (ve_var 6) (ve_var 6)) (ve_op o_mulI ve_int (ve_var 5))) ve_int))))) vss_nil)
   (vss_cons (vs_append 3 (ve_op o_mod (ve_var 6) (ve_var 1)))
   (vss_one (vs_set (i:=4) sc__law_drawn.nd (ve_op o_div (ve_var 4) (ve_var 1))))))))
   (vss_one (vs_retO 3))))),?_⟩
  have mb : ∀ x:Int,intBits (x%2147483629)≤64:=fun x=>bits64 (by omega) (by omega)
  have zb:intBits base≤9000:=bits_up (bits64 (by omega) (by omega)) (by decide)
  refine ⟨szl,⟨by decide,by decide⟩,⟨by omega,by omega⟩,?_⟩
  refine ⟨fun i e => ∃ (xs:List Int) (left:Int) (t5 t6:Sl) (l:List PyData),e=[.val (.int c),.val (.int base),.val (.int many),.own l,.val (.int left),t5,t6]∧l=xs.map .int∧xs.length=i∧(∀ x ∈ xs,0≤x∧x<base),⟨[],_,_,_,_,rfl,rfl,rfl,by simp⟩,?_,?_⟩
  ·rintro i d e hd ⟨xs,left,t5,t6,l,rfl,rfl,hx,hb⟩
   obtain ⟨hi,rfl⟩:=rngD_inv hd
   rw [Int.zero_add]
   refine ⟨fun e => ∃ number:Int,e=[.val (.int c),.val (.int base),.val (.int many),.own (xs.map .int),.val (.int left),.val (.int (i:Nat)),.val (.int number)],?_,?_⟩
   ·refine ⟨by decide,rfl,rfl,ite_eq (fun _=>?_) (fun _=>⟨left,rfl⟩)⟩
    exact ⟨by decide,IntMulOk.of_left (by decide),by decide,IntMulOk.of_left (bits64 (by omega) (by omega)),IntMulOk.of_left (bits64 (by omega) (by omega)),by decide,IntMulOk.of_left (mb _),IntMulOk.of_left (by decide),by decide,_,rfl⟩
   ·rintro e ⟨number,rfl⟩
    refine ⟨rfl,by omega,rfl,small1000 (by show (List.map PyData.int xs).length≤1000; rw [List.length_map]; omega),⟨by omega,zb⟩,xs++[number%base],_,_,_,_,rfl,ints_snoc _ _,by simp [hx],fun x h=>?_⟩
    rcases List.mem_append.mp h with h|h
    ·exact hb x h
    ·rw [List.mem_singleton.mp h]
     exact ⟨Int.emod_nonneg _ (by omega),Int.emod_lt_of_pos _ (by omega)⟩
  ·rintro e ⟨xs,left,t5,t6,l,rfl,rfl,hx,hb⟩
   rw [rngD_len] at hx
   exact h xs (by omega) hb
def diffs (a:Int) (cs:List Int) (b:Int):List Int:=List.zipWith (fun lo hi=>hi-lo) (a::cs) (cs++[b])
theorem diffs_ok : ∀ (cs:List Int) (a b:Int),cs.Pairwise (· ≤ ·)→(∀ c ∈ cs,a≤c∧c≤b)→a≤b→(diffs a cs b).length=cs.length+1∧(∀ x ∈ diffs a cs b,0≤x)∧(diffs a cs b).sum=b-a
 | [],a,b,_,_,hab=>by simp [diffs]; omega
 | c::cs,a,b,hp,h,hab=>by
  have e:diffs a (c::cs) b=(c-a)::diffs c cs b:=rfl
  obtain ⟨h1,h2⟩:=List.pairwise_cons.mp hp
  obtain ⟨q1,q2⟩:=h c (by simp)
  obtain ⟨i1,i2,i3⟩:=diffs_ok cs c b h2 (fun x hx=>⟨h1 x hx,(h x (List.mem_cons_of_mem _ hx)).2⟩) q2
  rw [e]
  refine ⟨by simp [i1],fun x hx=>?_,by rw [List.sum_cons,i3]; omega⟩
  rcases List.mem_cons.mp hx with rfl|hx
  ·omega
  ·exact i2 x hx
theorem set_sum' : ∀ {r:List Int} {i:Nat} {y:Int},i<r.length→(r.set i y).sum=r.sum-(r[i]?).getD 0+y
 | x::r,0,y,h=>by simp; omega
 | x::r,i+1,y,h=>by
  have h':i<r.length:=by simpa using h
  rw [List.set_cons_succ,List.sum_cons,List.sum_cons,set_sum' h',List.getElem?_cons_succ]; omega
def sp__law_glassD (ds:List PyData) (q:PyData→Prop):Prop := ∃ (ns:List Int) (at' world many:Int),ds=[.list (ns.map .int),.int at',.int world,.int many]∧(ns.length≤63∧0≤at'∧at'≤100∧2≤world∧world≤4∧1≤many∧many≤12) ∧
 ∀ (b:Int) (R:List (List Int)),Tab b R many.toNat→R.length=world→b≤500000→q (.tuple [.int b,.list (R.map dRow)])
theorem sc__law_glass:FnScope ["_law_script","_law_at","_law_world","_law_many","_law_cell_here","_law_bottom","_law_rows","_law_stand","_law_cuts","_law_ends"] ["_law_script","_law_at","_law_world","_law_many"] (defScope s__law_glass):=⟨rfl,rfl,rfl,by decide +kernel,rfl,by decide +kernel,by decide +kernel⟩
theorem ok__law_glass (F:Def K mg "_law_glass" s__law_glass ["_law_script","_law_at","_law_world","_law_many"]) (T:Txt K mg cs)
 (O__law_cell:Ok P w K mg base "_law_cell" 1 ["_law_script","_law_k"] (PSp K sp__law_cell))
 (O__law_drawn:Ok P w K mg base "_law_drawn" 1 ["_law_cell_here","_law_base","_law_many"] (PSp K sp__law_drawnC))
 : Ok P w K mg base "_law_glass" 2 ["_law_script","_law_at","_law_world","_law_many"] (PSp K sp__law_glassD):=by
  refine F.vok sc__law_glass (by rintro ds q ⟨_,_,_,_,h,_⟩; rw [h]; rfl) fun f cdv A outer s H E hr ds q h=>?_
  obtain ⟨ns,at',world,many,rfl,⟨hl,t0,t1,w0,w1,m0,m1⟩,h⟩:=h
  refine ⟨_,(vss_cons (vs_set (i:=4) sc__law_glass.nd (ve_fn O__law_cell (hr.mono (by decide)) (va_cons (ve_var 0) (va_cons (ve_var 1) va_nil))))
   (vss_cons (vs_set (i:=5) sc__law_glass.nd (ve_op o_add ve_int (ve_op o_mod (ve_var 4) ve_int)))
   (vss_mid (vs_if (vt_cmp (o_eq hr.units) (ve_op o_mod (ve_op o_div (ve_var 4) ve_int) ve_int) ve_int) (vss_one (vs_set (i:=5) sc__law_glass.nd (ve_op o_add ve_int (ve_op o_mod (ve_op o_div (ve_var 4) ve_int) (ve_ix (vf_fz (vf_lst (va_cons ve_int (va_cons ve_int va_nil)))) (ve_op o_mod (ve_op o_div (ve_var 4) ve_int) ve_int)))))) vss_nil)
   (vss_cons (vs_setO (i:=6) sc__law_glass.nd (vf_lst va_nil))
   (vss_cons (vs_for rfl (vi_range1 T.range_ (ve_var 2)) (vg_name (i:=7) sc__law_glass.nd) (vss_cons (vs_set (i:=8) sc__law_glass.nd (vf_fz (vf_callB c_sorted T.sorted_ L2.boot_sorted (va_cons (ve_fn O__law_drawn (hr.mono (by decide)) (va_cons (ve_fn O__law_cell (hr.mono (by decide)) (va_cons (ve_var 0) (va_cons (ve_op o_add (ve_op o_add (ve_var 1) ve_int) (ve_var 7)) va_nil))) (va_cons (ve_op o_add (ve_var 5) ve_int) (va_cons (ve_op o_sub (ve_var 3) ve_int) va_nil)))) va_nil))))
   (vss_cons (vs_set (i:=9) sc__law_glass.nd (vf_fz (vf_cat (vf_fz (vf_cat (vf_fz (vf_lst (va_cons ve_int va_nil))) (ve_var 8))) (vf_fz (vf_lst (va_cons (ve_var 5) va_nil))))))
   (vss_one (vs_append 6 (vf_fz (vf_comp (caps:=["_law_ends"]) (own:=["_law_k"]) (ix:=[9]) rfl ⟨rfl,rfl,rfl,rfl,rfl,rfl⟩ (vi_range1 T.range_ (ve_var 3)) (fun _ _ _ _=>(vg_name (i:=1) (show List.Nodup (["_law_ends","_law_k"]:List Str) by decide))) (fun _ _ _ _=>(ve_op o_sub (ve_ix (ve_var 0) (ve_op o_add (ve_var 1) ve_int)) (ve_ix (ve_var 0) (ve_var 1)))))))))))
   (vss_fz 6 (vss_one (vs_ret (ve_tup (va_cons (ve_var 5) (va_cons (ve_var 6) va_nil))))))))))),?_⟩
  refine ⟨ns,at',rfl,⟨t0,by omega,hl⟩,fun c=>?_⟩
  refine ⟨by decide,?_⟩
  refine ⟨fun e => ∃ (b:Int) (t6 t7 t8 t9:Sl),e=[.val (.list (ns.map .int)),.val (.int at'),.val (.int world),.val (.int many),.val (.int c),.val (.int b),t6,t7,t8,t9]∧1≤b∧b≤500000,?_,?_⟩
  ·refine ⟨⟨by decide,by decide⟩,by decide,rfl,rfl,ite_eq (fun _=>?_) (fun _=>⟨_,_,_,_,_,rfl,by omega,by omega⟩)⟩
   obtain ⟨k,ek,k1,k2⟩ : ∃ k:Int,atI [PyData.int 1000,.int 499999] (c/96%2)=some (.int k)∧1≤k∧k≤499999:=by
    have:c/96%2=0∨c/96%2=1:=by omega
    rcases this with z|z
    ·exact ⟨1000,by rw [z]; rfl,by decide,by decide⟩
    ·exact ⟨499999,by rw [z]; rfl,by decide,by decide⟩
   have x1:=Int.emod_nonneg (c/192) (show k≠0 by omega)
   have x2:=Int.emod_lt_of_pos (c/192) (show 0<k by omega)
   exact ⟨⟨by decide,by decide⟩,szl,⟨by decide,by decide⟩,by decide,.int k,ek,by omega,_,_,_,_,_,rfl,by omega,by omega⟩
  ·rintro e ⟨b,t6,t7,t8,t9,rfl,hb1,hb2⟩
   refine ⟨szl,⟨by omega,by omega⟩,?_⟩
   refine ⟨fun i e => ∃ (R:List (List Int)) (t7 t8 t9:Sl) (l:List PyData),e=[.val (.list (ns.map .int)),.val (.int at'),.val (.int world),.val (.int many),.val (.int c),.val (.int b),.own l,t7,t8,t9]∧l=R.map dRow∧R.length=i∧Tab b R many.toNat,⟨[],_,_,_,_,rfl,rfl,rfl,⟨hb1,by simp,by simp,by simp⟩⟩,?_,?_⟩
   ·rintro i d e hd ⟨R,t7,t8,t9,l,rfl,rfl,hR,hT⟩
    obtain ⟨hi,rfl⟩:=rngD_inv hd
    rw [Int.zero_add]
    refine ⟨ns,_,rfl,⟨by omega,by omega,hl⟩,fun c2=>?_⟩
    refine ⟨c2,b+1,many-1,rfl,⟨by omega,by omega,by omega,by omega⟩,fun cs hcl hcb=>?_⟩
    refine ⟨cs,rfl,by omega,fun ms hperm hsort=>?_⟩
    have hn : ∀ c ∈ ms,0≤c∧c≤b:=fun c hc=>by have:=hcb c (hperm.mem_iff.mp hc); omega
    have hml:=hperm.length_eq
    obtain ⟨d1,d2,d3⟩:=diffs_ok ms 0 b hsort hn (by omega)
    refine ⟨szl,?_,szl,?_,?_⟩
    ·simp only [List.length_map,List.length_cons,List.length_nil]; exact small_le (by omega)
    ·simp only [List.length_map,List.length_cons,List.length_nil,List.length_append]; exact small_le (by omega)
    have ea:[PyData.int 0]++ms.map PyData.int++[PyData.int b]=(0::ms++[b]).map PyData.int:=by simp
    rw [ea]
    refine ⟨rfl,⟨by omega,by omega⟩,?_⟩
    refine comp_by ((diffs 0 ms b).map .int) (by rw [rngD_len,List.length_map,d1]; omega) (small1000 (by rw [List.length_map,d1]; omega)) (fun e => ∃ t,e=[.val (.list ((0::ms++[b]).map .int)),t]) ⟨_,rfl⟩ ?_ ?_
    ·rintro j d ys e hd hys ⟨t,rfl⟩
     obtain ⟨hj,rfl⟩:=rngD_inv hd
     rw [Int.zero_add]
     have hj1:j<(0::ms).length:=by simp; omega
     have hj2:j<(ms++[b]).length:=by simp; omega
     have g1:(0::ms++[b])[j]?=some ((0::ms)[j]):=by rw [List.getElem?_append_left hj1,List.getElem?_eq_getElem hj1]
     have g2:(0::ms++[b])[j+1]?=some ((ms++[b])[j]):=by rw [List.cons_append,List.getElem?_cons_succ,List.getElem?_eq_getElem hj2]
     have x1:atI ((0::ms++[b]).map PyData.int) (j:Nat)=some (.int ((0::ms)[j])):=atI_nat (by rw [List.getElem?_map,g1]; rfl)
     have x2:atI ((0::ms++[b]).map PyData.int) ((j:Nat)+1:Int)=some (.int ((ms++[b])[j])):=atI_int (by omega) (by rw [List.getElem?_map,show ((j:Nat)+1:Int).toNat=j+1 by omega,g2]; rfl)
     refine ⟨_,x2,_,x1,snoc_take ?_ hys,_,rfl⟩
     unfold diffs
     rw [List.getElem?_map,List.getElem?_zipWith,List.getElem?_eq_getElem hj1,List.getElem?_eq_getElem hj2]; rfl
    ·refine ⟨rfl,small1000 (by show (List.map dRow R).length≤1000; rw [List.length_map]; omega),R++[diffs 0 ms b],_,_,_,_,rfl,by simp [dRow]; rfl,by simp [hR],⟨hb1,?_,?_,?_⟩⟩
     ·intro r' hr'
      rcases List.mem_append.mp hr' with h|h
      ·exact hT.len r' h
      ·rw [List.mem_singleton.mp h,d1]; omega
     ·intro r' hr'
      rcases List.mem_append.mp hr' with h|h
      ·exact hT.nn r' h
      ·rw [List.mem_singleton.mp h]; exact d2
     ·intro r' hr'
      rcases List.mem_append.mp hr' with h|h
      ·exact hT.sum r' h
      ·rw [List.mem_singleton.mp h,d3]; omega
   ·rintro e ⟨R,t7,t8,t9,l,rfl,rfl,hR,hT⟩
    rw [rngD_len] at hR
    exact ⟨szl,h b R hT (by omega) hb2⟩
def sp__law_whole:DC
 | [d],q=>q (.bool (match d with | .int _=>true|_=>false))
 | _,_=>False
theorem sc__law_whole:FnScope ["_law_one"] ["_law_one"] (defScope s__law_whole):=⟨rfl,rfl,rfl,by decide +kernel,rfl,by decide +kernel,by decide +kernel⟩
theorem ok__law_whole (F:Def K mg "_law_whole" s__law_whole ["_law_one"]) (T:Txt K mg cs)
 : Ok P w K mg base "_law_whole" 1 ["_law_one"] (PSp K sp__law_whole):=by
  refine F.vok sc__law_whole (fun ds q h=>by unfold sp__law_whole at h; split at h; all_goals first|rfl|exact h.elim) fun f cdv A outer s H E hr ds q h=>?_
  match ds,h with
  | [d],h =>
  refine ⟨_,(vss_one (vs_ret (ve_and (ve_isi T.isinstance_ T.int_ L2.boot_int (ve_var 0)) (ve_one (ve_not (ve_isi T.isinstance_ T.bool_ L2.boot_bool (ve_var 0))))))),?_⟩
  cases d <;> exact h
def sp__law_is_dulling (ds:List PyData) (q:PyData→Prop):Prop := ∃ (B:Int) (D:List (List Int)) (m n:Nat),ds=[dTab B D,.int m,.int n]∧(Tab B D n∧D.length=m∧gTab D=1∧intBits B≤3000)∧q (.bool true)
theorem sc__law_is_dulling:FnScope ["_law_found","_law_olds","_law_news","_law_by","_law_row","_law_number"] ["_law_found","_law_olds","_law_news"] (defScope s__law_is_dulling):=⟨rfl,rfl,rfl,by decide +kernel,rfl,by decide +kernel,by decide +kernel⟩
theorem ok__law_is_dulling (F:Def K mg "_law_is_dulling" s__law_is_dulling ["_law_found","_law_olds","_law_news"]) (T:Txt K mg cs)
 (O__law_whole:Ok P w K mg base "_law_whole" 1 ["_law_one"] (PSp K sp__law_whole))
 : Ok P w K mg base "_law_is_dulling" 2 ["_law_found","_law_olds","_law_news"] (PSp K sp__law_is_dulling):=by
  refine F.vok sc__law_is_dulling (by rintro ds q ⟨_,_,_,_,h,_⟩; rw [h]; rfl) fun f cdv A outer s H E hr ds q h=>?_
  obtain ⟨B,D,m,n,rfl,⟨hT,hl,hg,hz⟩,h⟩:=h
  refine ⟨_,(vss_cons (vs_if (VW.pt (vw_or (vt_not (vt_val (ve_isi T.isinstance_ T.tuple_ L2.boot_tuple (ve_var 0)))) (vw_or1 (vt_cmp (o_ne hr.units) (ve_callB c_len T.len_ L2.boot_len (va_cons (ve_var 0) va_nil)) ve_int)))) (vss_one (vs_ret ve_bl)) vss_nil)
   (vss_cons (vs_if (VW.pt (vw_or (vt_not (vt_val (ve_fn O__law_whole (hr.mono (by decide)) (va_cons (ve_ix (ve_var 0) ve_int) va_nil)))) (vw_or1 (vt_cmp o_lt (ve_ix (ve_var 0) ve_int) ve_int)))) (vss_one (vs_ret ve_bl)) vss_nil)
   (vss_cons (vs_if (VW.pt (vw_or (vt_not (vt_val (ve_isi T.isinstance_ T.tuple_ L2.boot_tuple (ve_ix (ve_var 0) ve_int)))) (vw_or1 (vt_cmp (o_ne hr.units) (ve_callB c_len T.len_ L2.boot_len (va_cons (ve_ix (ve_var 0) ve_int) va_nil)) (ve_var 1))))) (vss_one (vs_ret ve_bl)) vss_nil)
   (vss_cons (vs_set (i:=3) sc__law_is_dulling.nd ve_int)
   (vss_cons (vs_for rfl (vi_seq (ve_ix (ve_var 0) ve_int)) (vg_name (i:=4) sc__law_is_dulling.nd) (vss_cons (vs_if (VW.pt (vw_or (vt_not (vt_val (ve_isi T.isinstance_ T.tuple_ L2.boot_tuple (ve_var 4)))) (vw_or1 (vt_cmp (o_ne hr.units) (ve_callB c_len T.len_ L2.boot_len (va_cons (ve_var 4) va_nil)) (ve_var 2))))) (vss_one (vs_ret ve_bl)) vss_nil)
   (vss_cons (vs_for rfl (vi_seq (ve_var 4)) (vg_name (i:=5) sc__law_is_dulling.nd) (vss_cons (vs_if (VW.pt (vw_or (vt_not (vt_val (ve_fn O__law_whole (hr.mono (by decide)) (va_cons (ve_var 5) va_nil)))) (vw_or1 (vt_cmp o_lt (ve_var 5) ve_int)))) (vss_one (vs_ret ve_bl)) vss_nil)
   (vss_one (vs_while (vt_cmp (o_ne hr.units) (ve_var 5) ve_int) (vss_one (vs_par (i:=3) (j:=5) rfl sc__law_is_dulling.nd (va_cons (ve_var 5) (va_cons (ve_op o_mod (ve_var 3) (ve_var 5)) va_nil))))))))
   (vss_one (vs_if (vt_cmp (o_ne hr.units) (ve_callB (c_sum rfl) T.sum_ L2.boot_sum (va_cons (ve_var 4) va_nil)) (ve_ix (ve_var 0) ve_int)) (vss_one (vs_ret ve_bl)) vss_nil)))))
   (vss_one (vs_ret (ve_cmp (o_eq hr.units) (ve_var 3) ve_int)))))))),?_⟩
  have B0:=hT.pos
  have lD:(((D.map tRow).length:Nat):Int)=D.length:=by rw [List.length_map]
  refine ⟨rfl,rfl,ite_ne (fun z=>absurd rfl z) (fun _=>?_)⟩
  refine ⟨_,rfl,_,rfl,iteD (fun z=>by omega) (fun _=>?_)⟩
  refine ⟨_,rfl,_,rfl,rfl,rfl,ite_ne (fun z=>absurd (by rw [lD,hl]) z) (fun _=>?_)⟩
  refine ⟨_,rfl,fun i e => ∃ (y:Int) (t4 t5:Sl),e=[.val (dTab B D),.val (.int m),.val (.int n),.val (.int y),t4,t5]∧y=(gTab (D.take i):Int),⟨_,_,_,rfl,rfl⟩,?_,?_⟩
  ·rintro i x e hx ⟨_,t4,t5,rfl,rfl⟩
   obtain ⟨r,hr',rfl⟩:=trow_get hx
   have rm:=List.mem_of_getElem? hr'
   have lr:=hT.len r rm
   have lr':(((r.map PyData.int).length:Nat):Int)=r.length:=by rw [List.length_map]
   refine ⟨rfl,rfl,ite_ne (fun z=>absurd (by rw [lr',lr]) z) (fun _=>?_)⟩
   refine ⟨fun j e => ∃ (y:Int) (t5:Sl),e=[.val (dTab B D),.val (.int m),.val (.int n),.val (.int y),.val (tRow r),t5]∧y=(gRow (gTab (D.take i)) (r.take j):Int),⟨_,_,rfl,rfl⟩,?_,?_⟩
   ·rintro j d e hd ⟨_,t5,rfl,rfl⟩
    obtain ⟨z,rfl,hz',zm⟩:=int_get hd
    have z0:=hT.le rm zm
    refine iteD (fun z=>by omega) (fun _=>?_)
    refine ⟨fun m' e => ∃ x y:Int,e=[.val (dTab B D),.val (.int m),.val (.int n),.val (.int x),.val (tRow r),.val (.int y)]∧0≤x∧0≤y∧y≤B∧Nat.gcd x.toNat y.toNat=gRow (gTab (D.take i)) (r.take (j+1))∧m'=y.toNat,⟨_,_,_,rfl,by omega,z0.1,z0.2,?_,rfl⟩,?_⟩
    ·rw [take_snoc hz',gRow_snoc,Int.toNat_natCast]
     show Nat.gcd _ _=Nat.gcd _ _
     congr 1
     have:=z0.1
     omega
    ·rintro m' e ⟨x,y,rfl,hx0,hy0,hyB,hgc,rfl⟩
     refine ⟨rfl,rfl,ite_ne (fun hne=>?_) (fun he=>?_)⟩
     ·obtain ⟨t1,t2,t3⟩:=gcd_turn hx0 hy0 hne hgc
      exact ⟨by omega,(x%y).toNat,by omega,y,x%y,rfl,hy0,t1,by omega,t3,rfl⟩
     ·subst he
      exact ⟨_,_,rfl,gcd_end hx0 rfl hgc⟩
   ·rintro e ⟨_,t5,rfl,rfl⟩
    refine ⟨r,rfl,_,rfl,rfl,rfl,ite_ne (fun z=>absurd (hT.sum r rm) z) (fun _=>⟨_,_,_,rfl,?_⟩)⟩
    rw [List.length_map,List.take_length,List.take_add_one,hr']
    show _=((gTab (D.take i++[r]):Nat):Int)
    rw [gFold_snoc]
  ·rintro e ⟨_,t4,t5,rfl,rfl⟩
   rw [List.length_map,List.take_length,hg]
   exact ⟨rfl,rfl,h⟩
def sp__law_dulls (ds:List PyData) (q:PyData→Prop):Prop := ∃ (b:Int) (R:List (List Int)) (m:Nat) (c:Int) (S:List (List Int)) (n:Nat) (B:Int) (D:List (List Int)),ds=[dTab b R,dTab c S,dTab B D]∧(CmpPre b R m c S n∧Dul b R m c S n B D)∧q (.bool true)
theorem at_get {T:List (List Int)} {i j n:Nat} (hw : ∀ r ∈ T,r.length=n) (hi:i<T.length) (hj:j<n) : ∃ r,T[i]?=some r∧r ∈ T∧r[j]?=some (at2 T i j)∧at2 T i j ∈ r:=by
 have e:T[i]?=some T[i]:=List.getElem?_eq_getElem hi
 have l:=hw _ (List.getElem_mem hi)
 have e2:(T[i])[j]?=some ((T[i])[j]'(by omega)):=List.getElem?_eq_getElem _
 have e3:at2 T i j=(T[i])[j]'(by omega):=by
  unfold at2
  rw [e]
  show ((T[i])[j]?).getD 0=_
  rw [e2]; rfl
 rw [e3]
 exact ⟨_,e,List.getElem_mem hi,e2,List.getElem_mem _⟩
theorem sc__law_dulls:FnScope ["_law_one","_law_other_here","_law_dulling","_law_stand","_law_j","_law_total","_law_i","_law_due"] ["_law_one","_law_other_here","_law_dulling"] (defScope s__law_dulls):=⟨rfl,rfl,rfl,by decide +kernel,rfl,by decide +kernel,by decide +kernel⟩
theorem ok__law_dulls (F:Def K mg "_law_dulls" s__law_dulls ["_law_one","_law_other_here","_law_dulling"]) (T:Txt K mg cs)
 : Ok P w K mg base "_law_dulls" 1 ["_law_one","_law_other_here","_law_dulling"] (PSp K sp__law_dulls):=by
  refine F.vok sc__law_dulls (by rintro ds q ⟨_,_,_,_,_,_,_,_,h,_⟩; rw [h]; rfl) fun f cdv A outer s H E hr ds q h=>?_
  obtain ⟨b,R,m,c,S,n,B,D,rfl,⟨hp,hD⟩,h⟩:=h
  refine ⟨_,(vss_cons (vs_for rfl (vi_range1 T.range_ (ve_callB c_len T.len_ L2.boot_len (va_cons (ve_ix (ve_var 0) ve_int) va_nil))) (vg_name (i:=3) sc__law_dulls.nd) (vss_one (vs_for rfl (vi_range1 T.range_ (ve_callB c_len T.len_ L2.boot_len (va_cons (ve_ix (ve_ix (ve_var 1) ve_int) ve_int) va_nil))) (vg_name (i:=4) sc__law_dulls.nd) (vss_cons (vs_set (i:=5) sc__law_dulls.nd ve_int)
   (vss_cons (vs_for rfl (vi_range1 T.range_ (ve_callB c_len T.len_ L2.boot_len (va_cons (ve_ix (ve_var 2) ve_int) va_nil))) (vg_name (i:=6) sc__law_dulls.nd) (vss_one (vs_set (i:=5) sc__law_dulls.nd (ve_op o_add (ve_var 5) (ve_op o_mulI (ve_ix (ve_ix (ve_ix (ve_var 0) ve_int) (ve_var 3)) (ve_var 6)) (ve_ix (ve_ix (ve_ix (ve_var 2) ve_int) (ve_var 6)) (ve_var 4)))))))
   (vss_cons (vs_set (i:=7) sc__law_dulls.nd (ve_op o_mulI (ve_ix (ve_ix (ve_ix (ve_var 1) ve_int) (ve_var 3)) (ve_var 4)) (ve_ix (ve_var 0) ve_int)))
   (vss_one (vs_if (vt_cmp (o_ne hr.units) (ve_op o_mulI (ve_var 5) (ve_ix (ve_var 1) ve_int)) (ve_op o_mulI (ve_var 7) (ve_ix (ve_var 2) ve_int))) (vss_one (vs_ret ve_bl)) vss_nil))))))))
   (vss_one (vs_ret ve_bl))),?_⟩
  have w1:=hp.w1
  have w2:=hp.w2
  have m2:=hp.m2
  have n2:=hp.n2
  have hl:=hp.l
  have b1:=hp.r.pos
  have c1:=hp.s.pos
  have zb:=hp.zb
  have zc:=hp.zc
  obtain ⟨s0,S0,eS⟩:=List.exists_cons_of_ne_nil (show S≠[] from fun z=>by rw [z] at hl; rw [hl] at w1; simp at w1)
  have l2:s0.length=n:=hp.s.len s0 (by rw [eS]; simp)
  have aS:atI (S.map tRow) 0=some (tRow s0):=by rw [eS]; exact atI_zero _ _
  have lR:(((R.map tRow).length:Nat):Int)=R.length:=by rw [List.length_map]
  have lS:(((s0.map PyData.int).length:Nat):Int)=n:=by rw [List.length_map,l2]
  have lD:(((D.map tRow).length:Nat):Int)=m:=by rw [List.length_map,hD.l]
  refine ⟨_,rfl,⟨by rw [lR]; omega,by rw [lR]; omega⟩,fun i e => ∃ t3 t4 t5 t6 t7,e=[.val (dTab b R),.val (dTab c S),.val (dTab B D),t3,t4,t5,t6,t7],⟨_,_,_,_,_,rfl⟩,?_,?_⟩
  ·rintro i x e hx ⟨t3,t4,t5,t6,t7,rfl⟩
   obtain ⟨hi,rfl⟩:=rngD_inv hx
   rw [Int.zero_add]
   have hi':i<R.length:=by rw [lR] at hi; omega
   refine ⟨_,rfl,_,aS,⟨by rw [lS]; omega,by rw [lS]; omega⟩,fun j e => ∃ t4 t5 t6 t7,e=[.val (dTab b R),.val (dTab c S),.val (dTab B D),.val (.int i),t4,t5,t6,t7],⟨_,_,_,_,rfl⟩,?_,?_⟩
   ·rintro j x e hx ⟨t4,t5,t6,t7,rfl⟩
    obtain ⟨hj,rfl⟩:=rngD_inv hx
    rw [Int.zero_add]
    have hj':j<n:=by rw [lS] at hj; omega
    refine ⟨_,rfl,⟨by rw [lD]; omega,by rw [lD]; omega⟩,?_⟩
    obtain ⟨rS,gS1,gS2,gS3,gS4⟩:=at_get hp.s.len (show i<S.length by omega) hj'
    have zS:=hp.s.le gS2 gS4
    refine ⟨fun k e => ∃ t6,e=[.val (dTab b R),.val (dTab c S),.val (dTab B D),.val (.int i),.val (.int j),.val (.int (sumN k fun k=>at2 R i k*at2 D k j)),t6,t7],⟨_,rfl⟩,?_,?_⟩
    ·rintro k d e hd ⟨t6,rfl⟩
     obtain ⟨hk,rfl⟩:=rngD_inv hd
     rw [Int.zero_add]
     have hk':k<m:=by rw [lD] at hk; omega
     obtain ⟨rR,gR1,gR2,gR3,gR4⟩:=at_get hp.r.len hi' hk'
     obtain ⟨rD,gD1,gD2,gD3,gD4⟩:=at_get hD.t.len (show k<D.length by rw [hD.l]; exact hk') hj'
     have zR:=hp.r.le gR2 gR4
     refine ⟨_,rfl,tRow rR,atI_nat (by rw [List.getElem?_map,gR1]; rfl),.int (at2 R i k),atI_nat (by rw [List.getElem?_map,gR3]; rfl),_,rfl,tRow rD,atI_nat (by rw [List.getElem?_map,gD1]; rfl),.int (at2 D k j),atI_nat (by rw [List.getElem?_map,gD3]; rfl),IntMulOk.of_left (bits64 (by omega) (by omega)),_,rfl⟩
    ·rintro e ⟨t6,rfl⟩
     rw [rngD_len,lD,Int.toNat_natCast]
     have ee:=hD.e i j hi' hj'
     have m1:0≤at2 S i j*b:=Int.mul_nonneg zS.1 (by omega)
     have m3:at2 S i j*b≤20000000*20000000:=by
      have a1:=Int.mul_le_mul_of_nonneg_right (show at2 S i j≤20000000 by omega) (show 0≤b by omega)
      have a2:=Int.mul_le_mul_of_nonneg_left zb (show (0:Int)≤20000000 by decide)
      omega
     refine ⟨_,rfl,tRow rS,atI_nat (by rw [List.getElem?_map,gS1]; rfl),.int (at2 S i j),atI_nat (by rw [List.getElem?_map,gS3]; rfl),_,rfl,IntMulOk.of_left (bits64 (by omega) (by omega)),?_⟩
     refine ⟨_,rfl,IntMulOk.of_right (bits64 (by omega) (by omega)),_,rfl,IntMulOk.of_left (bits64 (by omega) (by omega)),rfl,rfl,ite_ne (fun z=>?_) (fun _=>⟨_,_,_,_,rfl⟩)⟩
     exfalso; apply z
     rw [Int.mul_comm]; exact ee
   ·rintro e ⟨t4,t5,t6,t7,rfl⟩
    exact ⟨_,_,_,_,_,rfl⟩
  ·rintro e ⟨t3,t4,t5,t6,t7,rfl⟩
   exact h
structure ShD (p q:Int):Prop where
 s:Shr p q
 b1:intBits p≤1000
 b2:intBits q≤1000
theorem ShD.ok {p q r s:Int} (h:ShD p q) (k:ShD r s):IntMulOk p s:=mulok (bits_up h.b1 (by decide)) (bits_up k.b2 (by decide))
def sp_below (ds:List PyData) (k:PyData→Prop):Prop := ∃ p q r s,ds=[dSh p q,dSh r s]∧(ShD p q∧ShD r s)∧k (.bool (decide (p*s<r*q)))
theorem sc_below:FnScope ["one","other"] ["one","other"] (defScope s_below):=⟨rfl,rfl,rfl,by decide +kernel,rfl,by decide +kernel,by decide +kernel⟩
theorem ok_below (F:Def K mg "below" s_below ["one","other"]) (T:Txt K mg cs)
 (O_check_shares:Ok P w K mg base "check_shares" 3 ["one","other"] (PSp K sp_check_shares))
 : Ok P w K mg base "below" 4 ["one","other"] (PSp K sp_below):=by
  refine F.vok sc_below (by rintro ds q ⟨_,_,_,_,h,_⟩; rw [h]; rfl) fun f cdv A outer s H E hr ds k h=>?_
  obtain ⟨p,q,r,s,rfl,⟨hp,hr'⟩,h⟩:=h
  refine ⟨_,(vss_cons (vs_expr (ve_fn O_check_shares (hr.mono (by decide)) (va_cons (ve_var 0) (va_cons (ve_var 1) va_nil))))
   (vss_one (vs_ret (ve_cmp o_lt (ve_op o_mulI (ve_ix (ve_var 0) ve_int) (ve_ix (ve_var 1) ve_int)) (ve_op o_mulI (ve_ix (ve_var 1) ve_int) (ve_ix (ve_var 0) ve_int)))))),?_⟩
  exact ⟨p,q,r,s,rfl,⟨hp.s,hr'.s⟩,_,rfl,_,rfl,hp.ok hr',_,rfl,_,rfl,hr'.ok hp,h⟩
structure Pays (Y:List (List Int)) (m a:Nat):Prop where
 m:Y.length=m
 a : ∀ y ∈ Y,y.length=a
 b : ∀ y ∈ Y,∀ x ∈ y,intBits x≤710
def dPay (Y:List (List Int)):PyData :=.tuple (Y.map tRow)
def totW (R Y:List (List Int)) (pl:List Int):Int:=((List.range pl.length).map fun s=>dotI (colI R s) (colI Y ((pl[s]?).getD 0).toNat)).sum
def inP (xs:List Int) (m:Int):Bool:=xs.all fun x=>decide (0≤x)&&decide (x<m)
structure WorPre (b:Int) (R:List (List Int)) (n:Nat) (Y:List (List Int)) (a:Nat) (s x:Int):Prop where
 t:Tab b R n
 y:Pays Y R.length a
 r:R.length≤900
 s0:0≤s
 s1:s<n
 x0:0≤x
 x1:x<a
 z:intBits b≤4000
theorem pay_bits {x:Int} (h:intBits x≤710):intBits x≤4000:=bits_up h (by decide)
def sp_check_payoffs (ds:List PyData) (q:PyData→Prop):Prop := ∃ b R Y,ds=[dTab b R,dPay Y]∧Y.length=R.length∧q .none
theorem sc_check_payoffs:FnScope ["glass","payoffs"] ["glass","payoffs"] (defScope s_check_payoffs):=⟨rfl,rfl,rfl,by decide +kernel,rfl,by decide +kernel,by decide +kernel⟩
theorem ok_check_payoffs (F:Def K mg "check_payoffs" s_check_payoffs ["glass","payoffs"]) (T:Txt K mg cs)
 (O_stands:Ok P w K mg base "stands" 1 ["glass"] (PSp K sp_stands))
 : Ok P w K mg base "check_payoffs" 2 ["glass","payoffs"] (PSp K sp_check_payoffs):=by
  refine F.vok sc_check_payoffs (by rintro ds q ⟨_,_,_,h,_⟩; rw [h]; rfl) fun f cdv A outer s H E hr ds q h=>?_
  obtain ⟨b,R,Y,rfl,hl,h⟩:=h
  refine ⟨_,(vss_one (vs_if (vt_cmp (o_ne hr.units) (ve_callB c_len T.len_ L2.boot_len (va_cons (ve_var 1) va_nil)) (ve_fn O_stands (hr.mono (by decide)) (va_cons (ve_var 0) va_nil))) vss_never vss_nil)),?_⟩
  refine ⟨b,R,rfl,rfl,rfl,ite_ne (fun z=>?_) (fun _=>h)⟩
  exfalso; apply z; simp [hl]
def sp_is_plan (ds:List PyData) (q:PyData→Prop):Prop := ∃ (pl:List Int) (m a:Int),ds=[.tuple (pl.map .int),.int m,.int a]∧(pl.length≤900∧pl.length=m∧inP pl a=true)∧q (.bool true)
theorem sc_is_plan:FnScope ["plan","many","acts"] ["plan","many","acts"] (defScope s_is_plan):=⟨rfl,rfl,rfl,by decide +kernel,rfl,by decide +kernel,by decide +kernel⟩
theorem ok_is_plan (F:Def K mg "is_plan" s_is_plan ["plan","many","acts"]) (T:Txt K mg cs)
 (O_is_whole:Ok P w K mg base "is_whole" 1 ["thing"] (PSp K sp_is_whole))
 : Ok P w K mg base "is_plan" 2 ["plan","many","acts"] (PSp K sp_is_plan):=by
  refine F.vok sc_is_plan (by rintro ds q ⟨_,_,_,h,_⟩; rw [h]; rfl) fun f cdv A outer s H E hr ds q h=>?_
  obtain ⟨pl,m,a,rfl,⟨hl,hm,hi⟩,h⟩:=h
  refine ⟨_,(vss_cons (vs_if (VW.pt (vw_or (vt_not (vt_val (ve_isi T.isinstance_ T.tuple_ L2.boot_tuple (ve_var 0)))) (vw_or1 (vt_cmp (o_ne hr.units) (ve_callB c_len T.len_ L2.boot_len (va_cons (ve_var 0) va_nil)) (ve_var 1))))) (vss_one (vs_ret ve_bl)) vss_nil)
   (vss_one (vs_ret (ve_callB (c_all rfl) T.all_ L2.boot_all (va_cons (vf_fz (vf_comp (caps:=["acts"]) (own:=["act"]) (ix:=[2]) rfl ⟨rfl,rfl,rfl,rfl,rfl,rfl⟩ (vi_seq (ve_var 0)) (fun _ _ _ _=>(vg_name (i:=1) (show List.Nodup (["acts","act"]:List Str) by decide))) (fun _ _ _ _=>(ve_and (ve_fn O_is_whole (hr.mono (by decide)) (va_cons (ve_var 1) va_nil)) (ve_one (ve_chain o_le o_lt ve_int (ve_var 1) (ve_var 0))))))) va_nil))))),?_⟩
  refine ⟨rfl,rfl,ite_ne (fun z=>?_) (fun _=>?_)⟩
  ·exfalso; apply z; simp [hm]
  show _∧_
  refine comp_by (pl.map fun x=>PyData.bool (decide (0≤x)&&decide (x<a))) (by simp) (small1000 (by simp; omega)) (fun e => ∃ s,e=[.val (.int a),s]) ⟨_,rfl⟩ ?_ ?_
  ·rintro i x ys e hx hys ⟨s,rfl⟩
   obtain ⟨x,rfl,hx,hxm⟩:=int_get hx
   refine iteD (fun h0=>?_) (fun h0=>?_)
   ·refine ⟨snoc_take ?_ hys,_,rfl⟩
    rw [List.getElem?_map,hx]
    simp [h0]
   ·refine ⟨snoc_take ?_ hys,_,rfl⟩
    rw [List.getElem?_map,hx]
    simp [h0]
  ·refine ⟨pl.map fun x=>decide (0≤x)&&decide (x<a),by rw [List.map_map]; rfl,?_⟩
   have e:((pl.map fun x=>decide (0≤x)&&decide (x<a)).all id)=inP pl a:=by rw [List.all_map]; rfl
   rw [e,hi]
   exact h
def sp_column (ds:List PyData) (q:List PyData→Prop):Prop := ∃ (d:PyData) (R:List (List Int)) (k:Nat),ds=[d,.int k]∧(RowsD d R∧R.length≤900 ∧ ∀ r ∈ R,k<r.length)∧q ((colI R k).map .int)
theorem sc_column:FnScope ["rows","place"] ["rows","place"] (defScope s_column):=⟨rfl,rfl,rfl,by decide +kernel,rfl,by decide +kernel,by decide +kernel⟩
theorem ok_column (F:Def K mg "column" s_column ["rows","place"]) (T:Txt K mg cs)
 : Ok P w K mg base "column" 1 ["rows","place"] (FSp K sp_column):=by
  refine F.vokF sc_column (by rintro ds q ⟨_,_,_,h,_⟩; rw [h]; rfl) fun f cdv A outer s H E hr ds q h=>?_
  obtain ⟨d,R,k,rfl,⟨hR,hl,hk⟩,h⟩:=h
  refine ⟨_,(vss_one (vs_retF (vf_comp (caps:=["place"]) (own:=["row"]) (ix:=[1]) rfl ⟨rfl,rfl,rfl,rfl,rfl,rfl⟩ (vi_seq (ve_var 0)) (fun _ _ _ _=>(vg_name (i:=1) (show List.Nodup (["place","row"]:List Str) by decide))) (fun _ _ _ _=>(ve_ix (ve_var 1) (ve_var 0)))))),?_⟩
  obtain ⟨l,e,_⟩:=id hR
  refine seq_elim e (comp_by ((colI R k).map .int) (by simp [colI,hR.len e]) (small1000 (by simp [colI]; omega)) (fun e => ∃ s,e=[.val (.int k),s]) ⟨_,rfl⟩ ?_ ?_)
  ·rintro i x ys e' hx hys ⟨s,rfl⟩
   obtain ⟨r,hr,er⟩:=hR.get e hx
   have hk':=hk r (get_mem hr)
   have hx:=List.getElem?_eq_getElem hk'
   refine ix_seqD er (atI_nat (by rw [List.getElem?_map,hx]; rfl)) ⟨snoc_take ?_ hys,_,rfl⟩
   rw [List.getElem?_map,col_get hr hx]; rfl
  ·exact ⟨_,rfl,h⟩
def sp_paired (ds:List PyData) (q:PyData→Prop):Prop := ∃ (d e:PyData) (a b:List Int),ds=[d,e]∧(seqD d=some (a.map .int)∧seqD e=some (b.map .int)∧a.length≤900∧(∀ x ∈ a,intBits x≤4000) ∧ ∀ y ∈ b,intBits y≤4000)∧q (.int (dotI a b))
theorem sc_paired:FnScope ["one","other"] ["one","other"] (defScope s_paired):=⟨rfl,rfl,rfl,by decide +kernel,rfl,by decide +kernel,by decide +kernel⟩
theorem ok_paired (F:Def K mg "paired" s_paired ["one","other"]) (T:Txt K mg cs)
 : Ok P w K mg base "paired" 1 ["one","other"] (PSp K sp_paired):=by
  refine F.vok sc_paired (by rintro ds q ⟨_,_,_,_,h,_⟩; rw [h]; rfl) fun f cdv A outer s H E hr ds q h=>?_
  obtain ⟨d,e,a,b,rfl,⟨h1,h2,hl,za,zb⟩,h⟩:=h
  refine ⟨_,(vss_one (vs_ret (ve_callB (c_sum rfl) T.sum_ L2.boot_sum (va_cons (vf_fz (vf_comp (caps:=[]) (own:=["number","beyond"]) (ix:=[]) rfl ⟨rfl,rfl,rfl,rfl,rfl,rfl⟩ (vi_zip2 T.zip_ (ve_var 0) (ve_var 1)) (fun _ _ _ _=>(vg_tup (n:=2) rfl (vgs_cons (vg_name (i:=0) (show List.Nodup (["number","beyond"]:List Str) by decide)) (vgs_cons (vg_name (i:=1) (show List.Nodup (["number","beyond"]:List Str) by decide)) vgs_nil)))) (fun _ _ _ _=>(ve_op o_mulI (ve_var 0) (ve_var 1))))) va_nil)))),?_⟩
  refine seq_elim h1 (seq_elim h2 (comp_by ((List.zipWith (· * ·) a b).map .int) (by simp [zipD_len]) (small1000 (by simp; omega)) (fun e => ∃ s t,e=[s,t]) ⟨_,_,rfl⟩ ?_ ?_))
  ·rintro i x ys e' hx hys ⟨s,t,rfl⟩
   obtain ⟨x,y,h3,h4,rfl⟩:=zipD_inv hx
   obtain ⟨x,rfl,h5,hxm⟩:=int_get h3
   obtain ⟨y,rfl,h6,hym⟩:=int_get h4
   refine ⟨rfl,rfl,mulok (za x hxm) (zb y hym),snoc_take ?_ hys,_,_,rfl⟩
   rw [List.getElem?_map,zip_get h5 h6]; rfl
  ·exact ⟨_,rfl,h⟩
def sp_worth (ds:List PyData) (q:PyData→Prop):Prop := ∃ b R n Y a s x,ds=[dTab b R,dPay Y,.int s,.int x]∧WorPre b R n Y a s x∧q (.int (dotI (colI R s.toNat) (colI Y x.toNat)))
theorem sc_worth:FnScope ["glass","payoffs","sign","act"] ["glass","payoffs","sign","act"] (defScope s_worth):=⟨rfl,rfl,rfl,by decide +kernel,rfl,by decide +kernel,by decide +kernel⟩
theorem ok_worth (F:Def K mg "worth" s_worth ["glass","payoffs","sign","act"]) (T:Txt K mg cs)
 (O_column:Ok P w K mg base "column" 1 ["rows","place"] (FSp K sp_column))
 (O_paired:Ok P w K mg base "paired" 1 ["one","other"] (PSp K sp_paired))
 : Ok P w K mg base "worth" 2 ["glass","payoffs","sign","act"] (PSp K sp_worth):=by
  refine F.vok sc_worth (by rintro ds q ⟨_,_,_,_,_,_,_,h,_⟩; rw [h]; rfl) fun f cdv A outer s H E hr ds q h=>?_
  obtain ⟨b,R,n,Y,a,s,x,rfl,hw,h⟩:=h
  refine ⟨_,(vss_one (vs_ret (ve_fn O_paired (hr.mono (by decide)) (va_cons (vf_fz (vf_fn O_column (hr.mono (by decide)) (va_cons (ve_ix (ve_var 0) ve_int) (va_cons (ve_var 2) va_nil)))) (va_cons (vf_fz (vf_fn O_column (hr.mono (by decide)) (va_cons (ve_var 1) (va_cons (ve_var 3) va_nil)))) va_nil))))),?_⟩
  obtain ⟨s',rfl⟩:=Int.eq_ofNat_of_zero_le hw.s0
  obtain ⟨x',rfl⟩:=Int.eq_ofNat_of_zero_le hw.x0
  have hs1:=hw.s1
  have hx1:=hw.x1
  have hr1:=hw.r
  have hy:=hw.y.m
  refine ⟨_,rfl,_,R,s',rfl,⟨rowsD_tup _,hr1,fun r hr=>by rw [hw.t.len r hr]; omega⟩,_,Y,x',rfl,⟨rowsD_tup _,by omega,fun y hy=>by rw [hw.y.a y hy]; omega⟩,_,_,_,_,rfl,⟨rfl,rfl,by rw [col_len]; omega,fun z hz=>?_,fun z hz=>?_⟩,h⟩
  ·rcases col_mem hz with rfl|⟨r,hr,hz⟩
   ·decide
   ·exact hw.t.bits hw.z hr hz
  ·rcases col_mem hz with rfl|⟨y,hy,hz⟩
   ·decide
   ·exact pay_bits (hw.y.b y hy z hz)
structure GainPre (b:Int) (R:List (List Int)) (n:Nat) (Y:List (List Int)) (a:Nat) (pl:List Int):Prop where
 t:Tab b R n
 y:Pays Y R.length a
 r1:1≤R.length
 r:R.length≤900
 n2:n≤900
 l:pl.length=n
 p:inP pl a=true
 z:intBits b≤4000
def sp_gain (ds:List PyData) (q:PyData→Prop):Prop := ∃ b R n Y a pl,ds=[dTab b R,dPay Y,.tuple (pl.map .int)]∧GainPre b R n Y a pl∧q (dSh (shT (totW R Y pl) b) (shB (totW R Y pl) b))
theorem sc_gain:FnScope ["glass","payoffs","plan","worths"] ["glass","payoffs","plan"] (defScope s_gain):=⟨rfl,rfl,rfl,by decide +kernel,rfl,by decide +kernel,by decide +kernel⟩
theorem ok_gain (F:Def K mg "gain" s_gain ["glass","payoffs","plan"]) (T:Txt K mg cs)
 (O_signs:Ok P w K mg base "signs" 1 ["glass"] (PSp K sp_signs))
 (O_share:Ok P w K mg base "share" 3 ["top","bottom"] (PSp K sp_share))
 (O_check_payoffs:Ok P w K mg base "check_payoffs" 2 ["glass","payoffs"] (PSp K sp_check_payoffs))
 (O_is_plan:Ok P w K mg base "is_plan" 2 ["plan","many","acts"] (PSp K sp_is_plan))
 (O_worth:Ok P w K mg base "worth" 2 ["glass","payoffs","sign","act"] (PSp K sp_worth))
 : Ok P w K mg base "gain" 4 ["glass","payoffs","plan"] (PSp K sp_gain):=by
  refine F.vok sc_gain (by rintro ds q ⟨_,_,_,_,_,_,h,_⟩; rw [h]; rfl) fun f cdv A outer s H E hr ds q h=>?_
  obtain ⟨b,R,n,Y,a,pl,rfl,hg,h⟩:=h
  refine ⟨_,(vss_cons (vs_expr (ve_fn O_check_payoffs (hr.mono (by decide)) (va_cons (ve_var 0) (va_cons (ve_var 1) va_nil))))
   (vss_cons (vs_if (vt_not (vt_val (ve_fn O_is_plan (hr.mono (by decide)) (va_cons (ve_var 2) (va_cons (ve_fn O_signs (hr.mono (by decide)) (va_cons (ve_var 0) va_nil)) (va_cons (ve_callB c_len T.len_ L2.boot_len (va_cons (ve_ix (ve_var 1) ve_int) va_nil)) va_nil)))))) vss_never vss_nil)
   (vss_cons (vs_setC (caps:=["glass","payoffs"]) (own:=["sign","act"]) (ix:=[0,1]) (i:=3) sc_gain.nd rfl ⟨rfl,rfl,rfl,rfl,rfl,rfl⟩ (vi_enumT T.enumerate_ (ve_var 2)) (fun _ _ _ _=>(vg_tup (n:=2) rfl (vgs_cons (vg_name (i:=2) (show List.Nodup (["glass","payoffs","sign","act"]:List Str) by decide)) (vgs_cons (vg_name (i:=3) (show List.Nodup (["glass","payoffs","sign","act"]:List Str) by decide)) vgs_nil)))) (fun _ _ _ _=>(ve_fn O_worth (hr.mono (by decide)) (va_cons (ve_var 0) (va_cons (ve_var 1) (va_cons (ve_var 2) (va_cons (ve_var 3) va_nil)))))))
   (vss_one (vs_ret (ve_fn O_share (hr.mono (by decide)) (va_cons (ve_callB (c_sum rfl) T.sum_ L2.boot_sum (va_cons (ve_var 3) va_nil)) (va_cons (ve_ix (ve_var 0) ve_int) va_nil)))))))),?_⟩
  have r1:=hg.r1
  have hn2:=hg.n2
  have hl:=hg.l
  have hRn:R≠[]:=fun z=>by rw [z] at r1; simp at r1
  have hYn:Y≠[]:=fun z=>by have:=hg.y.m; rw [z] at this; simp at this; omega
  obtain ⟨r0,R0,eR⟩:=List.exists_cons_of_ne_nil hRn
  obtain ⟨y0,Y0,eY⟩:=List.exists_cons_of_ne_nil hYn
  have l1:r0.length=n:=hg.t.len r0 (by rw [eR]; simp)
  have l2:y0.length=a:=hg.y.a y0 (by rw [eY]; simp)
  have aY:atI (Y.map tRow) 0=some (tRow y0):=by rw [eY]; exact atI_zero _ _
  refine ⟨b,R,Y,rfl,hg.y.m,b,r0,R0,by rw [eR],_,aY,pl,_,_,rfl,⟨by omega,by omega,by simp [l2]; exact hg.p⟩,?_⟩
  show _∧_
  refine comp_by (((List.range pl.length).map fun s=>dotI (colI R s) (colI Y ((pl[s]?).getD 0).toNat)).map .int) (by simp [enumD_len]) (small1000 (by simp; omega)) (fun e => ∃ s t,e=[.val (dTab b R),.val (dPay Y),s,t]) ⟨_,_,rfl⟩ ?_ ?_
  ·rintro i d ys e hd hys ⟨s,t,rfl⟩
   obtain ⟨x,hx,rfl⟩:=enumD_inv hd
   obtain ⟨x,rfl,h5,hxm⟩:=int_get hx
   have hi:i<pl.length:=(List.getElem?_eq_some_iff.mp h5).1
   have hb:=List.all_eq_true.mp hg.p x hxm
   have hb':0≤x∧x<a:=by simpa using hb
   refine ⟨rfl,rfl,b,R,n,Y,a,i,x,rfl,⟨hg.t,hg.y,hg.r,by omega,by omega,hb'.1,hb'.2,hg.z⟩,snoc_take ?_ hys,_,_,rfl⟩
   rw [List.getElem?_map,List.getElem?_map,List.getElem?_range hi,Int.toNat_natCast]
   simp [h5]
  ·have bp:=hg.t.pos
   refine ⟨_,rfl,_,rfl,⟨by omega,bits_up hg.z (by decide)⟩,h⟩
def fbA (w:List Int):Nat:=w.findIdx fun v=>w.all fun x=>decide (x≤v)
structure FB (w:List Int) (j:Nat) (v:Int):Prop where
 g:w[j]?=some v
 m : ∀ x ∈ w,x≤v
 l : ∀ m,m<j → ∀ u,w[m]?=some u→u<v
theorem mx_ex : ∀ {w:List Int},w≠[] → ∃ v ∈ w,∀ x ∈ w,x≤v
 | [],h=>absurd rfl h
 | [a],_=>⟨a,by simp,by simp⟩
 | a::b::w,_=>by
  obtain ⟨v,hv,hm⟩:=mx_ex (w:=b::w) (by simp)
  by_cases h:a≤v
  ·exact ⟨v,List.mem_cons_of_mem _ hv,fun x hx=>by
    rcases List.mem_cons.mp hx with rfl|hx
    ·exact h
    ·exact hm x hx⟩
  ·exact ⟨a,by simp,fun x hx=>by
    rcases List.mem_cons.mp hx with rfl|hx
    ·omega
    ·have:=hm x hx; omega⟩
theorem fb_of {w:List Int} {v:Int} (hv:v ∈ w) (hm : ∀ x ∈ w,x≤v):FB w (fbA w) v:=by
 have hp:(w.all fun x=>decide (x≤v))=true:=List.all_eq_true.mpr fun x hx=>by simpa using hm x hx
 have hl:fbA w<w.length:=List.findIdx_lt_length_of_exists ⟨v,hv,hp⟩
 have hq:(w.all fun x=>decide (x≤w[fbA w]))=true:=List.findIdx_getElem (w:=hl)
 have e:w[fbA w]=v:=by
  have a1:=List.all_eq_true.mp hq v hv
  have a2:=hm _ (List.getElem_mem hl)
  simp at a1; omega
 refine ⟨by rw [List.getElem?_eq_getElem hl,e],hm,fun m h u hu=>?_⟩
 obtain ⟨h2,e2⟩:=List.getElem?_eq_some_iff.mp hu
 have n1:(w.all fun x=>decide (x≤w[m]))=false:=by
  have:=List.not_of_lt_findIdx (p:=fun v=>w.all fun x=>decide (x≤v)) h
  simpa using this
 have n2:=hm _ (List.getElem_mem h2)
 have n3:w[m]≠v:=fun z=>by rw [z,hp] at n1; cases n1
 rw [← e2]; omega
theorem fb_ex {w:List Int} (h:w≠[]) : ∃ v,FB w (fbA w) v:=by
 obtain ⟨v,hv,hm⟩:=mx_ex h
 exact ⟨v,fb_of hv hm⟩
theorem fb_lt {w:List Int} (h:w≠[]):fbA w<w.length:=by
 obtain ⟨v,hv⟩:=fb_ex h
 exact (List.getElem?_eq_some_iff.mp hv.g).1
def wk (R Y:List (List Int)) (a s:Nat):List Int:=(List.range a).map fun x=>dotI (colI R s) (colI Y x)
theorem wk_len (R Y:List (List Int)) (a s:Nat):(wk R Y a s).length=a:=by simp [wk]
theorem wk_ne {R Y:List (List Int)} {a:Nat} (s:Nat) (h:1≤a):wk R Y a s≠[]:=fun z=>by
 have:=wk_len R Y a s
 rw [z] at this; simp at this; omega
def plB (R Y:List (List Int)) (a n:Nat):List Int:=(List.range n).map fun s=>((fbA (wk R Y a s):Nat):Int)
theorem plB_len (R Y:List (List Int)) (a n:Nat):(plB R Y a n).length=n:=by simp [plB]
theorem plB_in {R Y:List (List Int)} {a n:Nat} (h:1≤a):inP (plB R Y a n) a=true:=by
 rw [inP,List.all_eq_true]
 intro x hx
 obtain ⟨s,_,rfl⟩:=List.mem_map.mp hx
 have:=fb_lt (wk_ne (R:=R) (Y:=Y) s h)
 rw [wk_len] at this
 simp; omega
theorem wk_get {R Y:List (List Int)} {a s j:Nat} (h:j<a):(wk R Y a s)[j]?=some (dotI (colI R s) (colI Y j)):=by
 rw [wk,List.getElem?_map,List.getElem?_range h]; rfl
structure FbPre (b:Int) (R:List (List Int)) (n:Nat) (Y:List (List Int)) (a:Nat):Prop where
 t:Tab b R n
 y:Pays Y R.length a
 r1:1≤R.length
 r:R.length≤900
 n2:n≤900
 a1:1≤a
 a2:a≤900
 z:intBits b≤4000
def sp_first_best_act (ds:List PyData) (q:PyData→Prop):Prop := ∃ b R n Y a,∃ s:Nat,ds=[dTab b R,dPay Y,.int (s:Nat)]∧(FbPre b R n Y a∧s<n)∧q (.int (fbA (wk R Y a s):Nat))
theorem sc_first_best_act:FnScope ["glass","payoffs","sign","worths"] ["glass","payoffs","sign"] (defScope s_first_best_act):=⟨rfl,rfl,rfl,by decide +kernel,rfl,by decide +kernel,by decide +kernel⟩
theorem ok_first_best_act (F:Def K mg "first_best_act" s_first_best_act ["glass","payoffs","sign"]) (T:Txt K mg cs)
 (O_worth:Ok P w K mg base "worth" 2 ["glass","payoffs","sign","act"] (PSp K sp_worth))
 : Ok P w K mg base "first_best_act" 3 ["glass","payoffs","sign"] (PSp K sp_first_best_act):=by
  refine F.vok sc_first_best_act (by rintro ds q ⟨_,_,_,_,_,_,h,_⟩; rw [h]; rfl) fun f cdv A outer s H E hr ds q h=>?_
  obtain ⟨b,R,n,Y,a,s,rfl,⟨hg,hs⟩,h⟩:=h
  refine ⟨_,(vss_cons (vs_setC (caps:=["glass","payoffs","sign"]) (own:=["act"]) (ix:=[0,1,2]) (i:=3) sc_first_best_act.nd rfl ⟨rfl,rfl,rfl,rfl,rfl,rfl⟩ (vi_range1 T.range_ (ve_callB c_len T.len_ L2.boot_len (va_cons (ve_ix (ve_var 1) ve_int) va_nil))) (fun _ _ _ _=>(vg_name (i:=3) (show List.Nodup (["glass","payoffs","sign","act"]:List Str) by decide))) (fun _ _ _ _=>(ve_fn O_worth (hr.mono (by decide)) (va_cons (ve_var 0) (va_cons (ve_var 1) (va_cons (ve_var 2) (va_cons (ve_var 3) va_nil)))))))
   (vss_one (vs_ret (ve_indexI 3 (ve_callB (c_maxL rfl) T.max_ L2.boot_max (va_cons (ve_var 3) va_nil)))))),?_⟩
  have r1:=hg.r1
  have ha1:=hg.a1
  have ha2:=hg.a2
  have hYn:Y≠[]:=fun z=>by have:=hg.y.m; rw [z] at this; simp at this; omega
  obtain ⟨y0,Y0,eY⟩:=List.exists_cons_of_ne_nil hYn
  have l2:y0.length=a:=hg.y.a y0 (by rw [eY]; simp)
  have aY:atI (Y.map tRow) 0=some (tRow y0):=by rw [eY]; exact atI_zero _ _
  refine ⟨_,aY,⟨by omega,by simp; omega⟩,?_⟩
  show _∧_
  refine comp_by ((wk R Y a s).map .int) (by simp [rngD_len,wk_len]; omega) (small1000 (by simp [wk_len]; omega)) (fun e => ∃ u,e=[.val (dTab b R),.val (dPay Y),.val (.int (s:Nat)),u]) ⟨_,rfl⟩ ?_ ?_
  ·rintro i d ys e hd hys ⟨u,rfl⟩
   obtain ⟨hi,rfl⟩:=rngD_inv hd
   rw [Int.zero_add]
   have hi2:i<a:=by simp at hi; omega
   refine ⟨b,R,n,Y,a,s,i,rfl,⟨hg.t,hg.y,hg.r,by omega,by omega,by omega,by omega,hg.z⟩,snoc_take ?_ hys,_,rfl⟩
   rw [List.getElem?_map,wk_get hi2]; rfl
  ·refine ⟨_,rfl,_,rfl,wk_ne s ha1,fun M h1 h2=>?_⟩
   have hf:=fb_of h1 h2
   refine ⟨_,_,fbA (wk R Y a s),rfl,rfl,hf.g,fun m hm z=>?_,h⟩
   have:=hf.l m hm _ z
   omega
def sp_best (ds:List PyData) (q:PyData→Prop):Prop := ∃ b R n Y a,ds=[dTab b R,dPay Y]∧FbPre b R n Y a∧q (.tuple [dSh (shT (totW R Y (plB R Y a n)) b) (shB (totW R Y (plB R Y a n)) b),.tuple ((plB R Y a n).map .int)])
theorem sc_best:FnScope ["glass","payoffs","plan"] ["glass","payoffs"] (defScope s_best):=⟨rfl,rfl,rfl,by decide +kernel,rfl,by decide +kernel,by decide +kernel⟩
theorem ok_best (F:Def K mg "best" s_best ["glass","payoffs"]) (T:Txt K mg cs)
 (O_signs:Ok P w K mg base "signs" 1 ["glass"] (PSp K sp_signs))
 (O_check_payoffs:Ok P w K mg base "check_payoffs" 2 ["glass","payoffs"] (PSp K sp_check_payoffs))
 (O_gain:Ok P w K mg base "gain" 4 ["glass","payoffs","plan"] (PSp K sp_gain))
 (O_first_best_act:Ok P w K mg base "first_best_act" 3 ["glass","payoffs","sign"] (PSp K sp_first_best_act))
 : Ok P w K mg base "best" 5 ["glass","payoffs"] (PSp K sp_best):=by
  refine F.vok sc_best (by rintro ds q ⟨_,_,_,_,_,h,_⟩; rw [h]; rfl) fun f cdv A outer s H E hr ds q h=>?_
  obtain ⟨b,R,n,Y,a,rfl,hg,h⟩:=h
  refine ⟨_,(vss_cons (vs_expr (ve_fn O_check_payoffs (hr.mono (by decide)) (va_cons (ve_var 0) (va_cons (ve_var 1) va_nil))))
   (vss_cons (vs_set (i:=2) sc_best.nd (ve_callTy c_tuple T.tuple_ L2.boot_tuple (va_cons (vf_fz (vf_comp (caps:=["glass","payoffs"]) (own:=["sign"]) (ix:=[0,1]) rfl ⟨rfl,rfl,rfl,rfl,rfl,rfl⟩ (vi_range1 T.range_ (ve_fn O_signs (hr.mono (by decide)) (va_cons (ve_var 0) va_nil))) (fun _ _ _ _=>(vg_name (i:=2) (show List.Nodup (["glass","payoffs","sign"]:List Str) by decide))) (fun _ _ _ _=>(ve_fn O_first_best_act (hr.mono (by decide)) (va_cons (ve_var 0) (va_cons (ve_var 1) (va_cons (ve_var 2) va_nil))))))) va_nil)))
   (vss_one (vs_ret (ve_tup (va_cons (ve_fn O_gain (hr.mono (by decide)) (va_cons (ve_var 0) (va_cons (ve_var 1) (va_cons (ve_var 2) va_nil)))) (va_cons (ve_var 2) va_nil))))))),?_⟩
  have r1:=hg.r1
  have hn2:=hg.n2
  have hRn:R≠[]:=fun z=>by rw [z] at r1; simp at r1
  obtain ⟨r0,R0,eR⟩:=List.exists_cons_of_ne_nil hRn
  have l1:r0.length=n:=hg.t.len r0 (by rw [eR]; simp)
  refine ⟨b,R,Y,rfl,hg.y.m,b,r0,R0,by rw [eR],⟨by omega,by omega⟩,?_⟩
  show _∧_
  refine comp_by ((plB R Y a n).map .int) (by simp [rngD_len,plB_len]; omega) (small1000 (by simp [plB_len]; omega)) (fun e => ∃ s,e=[.val (dTab b R),.val (dPay Y),s]) ⟨_,rfl⟩ ?_ ?_
  ·rintro i d ys e hd hys ⟨s,rfl⟩
   obtain ⟨hi,rfl⟩:=rngD_inv hd
   rw [Int.zero_add]
   have hi2:i<n:=by omega
   refine ⟨b,R,n,Y,a,i,rfl,⟨hg,hi2⟩,snoc_take ?_ hys,_,rfl⟩
   rw [List.getElem?_map,plB,List.getElem?_map,List.getElem?_range hi2]; rfl
  ·exact ⟨b,R,n,Y,a,plB R Y a n,rfl,⟨hg.t,hg.y,hg.r1,hg.r,hg.n2,plB_len _ _ _ _,plB_in hg.a1,hg.z⟩,szl,h⟩
section
variable {b:Int} {R:List (List Int)} {m:Nat} {c:Int} {S:List (List Int)} {n:Nat} {B:Int} {D:List (List Int)}
theorem at2_some {T:List (List Int)} {i j:Nat} {r:List Int} {x:Int} (h:T[i]?=some r) (k:r[j]?=some x):at2 T i j=x:=by
 unfold at2
 rw [h]
 show (r[j]?).getD 0=x
 rw [k]; rfl
theorem sumN_sw (p q:Nat) (f:Nat→Nat→Int):(sumN p fun i=>sumN q fun j=>f i j)=sumN q fun j=>sumN p fun i=>f i j:=by
 induction p with
 | zero=>exact (sumN_zero fun j _=>rfl).symm
 | succ p ih =>
  show (sumN p fun i=>sumN q fun j=>f i j)+sumN q (fun j=>f p j)=sumN q fun j=>(sumN p fun i=>f i j)+f p j
  rw [ih,sumN_add]
theorem sumN_mono {f g:Nat→Int} : ∀ {n:Nat},(∀ i,i<n→f i≤g i)→sumN n f≤sumN n g
 | 0,_=>Int.le_refl _
 | n+1,h=>by
  show sumN n f+f n≤sumN n g+g n
  have a:=sumN_mono (f:=f) (g:=g) (n:=n) fun i hi=>h i (by omega)
  have b:=h n (by omega)
  omega
def maxN (f:Nat→Int):Nat→Int
 | 0=>f 0
 | k+1=>if maxN f k<f (k+1) then f (k+1) else maxN f k
theorem maxN_le (f:Nat→Int) : ∀ {k i:Nat},i≤k→f i≤maxN f k
 | 0,i,h=>by rw [Nat.le_zero.mp h]; exact Int.le_refl _
 | k+1,i,h=>by
  show f i≤if maxN f k<f (k+1) then f (k+1) else maxN f k
  by_cases e:i=k+1
  ·subst e; split <;> omega
  ·have:=maxN_le f (show i≤k by omega)
   split <;> omega
theorem maxN_at (f:Nat→Int) : ∀ k:Nat,∃ i,i≤k∧maxN f k=f i
 | 0=>⟨0,Nat.le_refl _,rfl⟩
 | k+1=>by
  obtain ⟨i,hi,e⟩:=maxN_at f k
  show ∃ i,i≤k+1∧(if maxN f k<f (k+1) then f (k+1) else maxN f k)=f i
  by_cases h:maxN f k<f (k+1)
  ·exact ⟨k+1,Nat.le_refl _,by rw [if_pos h]⟩
  ·exact ⟨i,by omega,by rw [if_neg h,e]⟩
def bestN (R Y:List (List Int)) (w m a:Nat):Int:=sumN m fun i=>maxN (fun x=>sumN w fun s=>at2 R s i*at2 Y s x) a
end
def sp__law_best (ds:List PyData) (q:PyData→Prop):Prop := ∃ (b:Int) (d1 d2:PyData) (R Y:List (List Int)) (m a:Nat),ds=[.int b,d1,d2]∧(RowsD d1 R∧RowsD d2 Y∧R.length=Y.length∧1≤R.length∧R.length≤900∧(∀ r ∈ R,r.length=m)∧(∀ y ∈ Y,y.length=a+1)∧m≤900∧a≤800 ∧ ∀ r ∈ R,∀ x ∈ r,intBits x≤64)∧q (.int (bestN R Y R.length m a))
theorem at_row {T:List (List Int)} {i j n:Nat} (hw : ∀ r ∈ T,r.length=n) (hi:i<T.length) (hj:j<n) : ∃ r,T[i]?=some r∧r ∈ T∧r[j]?=some (at2 T i j)∧at2 T i j ∈ r:=by
 have e:T[i]?=some T[i]:=List.getElem?_eq_getElem hi
 have l:=hw _ (List.getElem_mem hi)
 have e2:(T[i])[j]?=some ((T[i])[j]'(by omega)):=List.getElem?_eq_getElem _
 have e3:=at2_some e e2
 rw [e3]
 exact ⟨_,e,List.getElem_mem hi,e2,List.getElem_mem _⟩
theorem RowsD.at {d:PyData} {R:List (List Int)} {l:List PyData} (h:RowsD d R) (e:seqD d=some l) {i:Nat} {r:List Int} (hr:R[i]?=some r) : ∃ x,l[i]?=some x∧seqD x=some (r.map .int):=by
 have hl:=h.len e
 have hi:i<l.length:=by rw [hl]; exact (List.getElem?_eq_some_iff.mp hr).1
 obtain ⟨r',hr',er⟩:=h.get e (List.getElem?_eq_getElem hi)
 rw [hr] at hr'
 have:=Option.some.inj hr'
 subst this
 exact ⟨_,List.getElem?_eq_getElem hi,er⟩
theorem max_eq {f:Nat→Int} {a:Nat} {M:Int} (h1:M ∈ (List.range (a+1)).map f) (h2 : ∀ x ∈ (List.range (a+1)).map f,x≤M):M=maxN f a:=by
 obtain ⟨i,hi,e⟩:=maxN_at f a
 obtain ⟨j,hj,rfl⟩:=List.mem_map.mp h1
 have:=List.mem_range.mp hj
 have q1:=maxN_le f (show j≤a by omega)
 have q2:=h2 (f i) (List.mem_map.mpr ⟨i,List.mem_range.mpr (by omega),rfl⟩)
 rw [← e] at q2
 exact Int.le_antisymm q1 q2
theorem sc__law_best:FnScope ["_law_bottom","_law_rows","_law_payoffs","_law_total","_law_k","_law_sums","_law_act"] ["_law_bottom","_law_rows","_law_payoffs"] (defScope s__law_best):=⟨rfl,rfl,rfl,by decide +kernel,rfl,by decide +kernel,by decide +kernel⟩
theorem ok__law_best (F:Def K mg "_law_best" s__law_best ["_law_bottom","_law_rows","_law_payoffs"]) (T:Txt K mg cs)
 : Ok P w K mg base "_law_best" 1 ["_law_bottom","_law_rows","_law_payoffs"] (PSp K sp__law_best):=by
  refine F.vok sc__law_best (by rintro ds q ⟨_,_,_,_,_,_,_,h,_⟩; rw [h]; rfl) fun f cdv A outer s H E hr ds q h=>?_
  obtain ⟨b,d1,d2,R,Y,m,a,rfl,⟨hR,hY,hl,w1,w2,hm,ha,m9,a8,hz⟩,h⟩:=h
  refine ⟨_,(vss_cons (vs_set (i:=3) sc__law_best.nd ve_int)
   (vss_cons (vs_for rfl (vi_range1 T.range_ (ve_callB c_len T.len_ L2.boot_len (va_cons (ve_ix (ve_var 1) ve_int) va_nil))) (vg_name (i:=4) sc__law_best.nd) (vss_cons (vs_setO (i:=5) sc__law_best.nd (vf_lst va_nil))
   (vss_cons (vs_for rfl (vi_range1 T.range_ (ve_callB c_len T.len_ L2.boot_len (va_cons (ve_ix (ve_var 2) ve_int) va_nil))) (vg_name (i:=6) sc__law_best.nd) (vss_one (vs_append 5 (ve_callB (c_sum rfl) T.sum_ L2.boot_sum (va_cons (vf_fz (vf_comp (caps:=["_law_rows","_law_payoffs","_law_k","_law_act"]) (own:=["_law_stand"]) (ix:=[1,2,4,6]) rfl ⟨rfl,rfl,rfl,rfl,rfl,rfl⟩ (vi_range1 T.range_ (ve_callB c_len T.len_ L2.boot_len (va_cons (ve_var 1) va_nil))) (fun _ _ _ _=>(vg_name (i:=4) (show List.Nodup (["_law_rows","_law_payoffs","_law_k","_law_act","_law_stand"]:List Str) by decide))) (fun _ _ _ _=>(ve_op o_mulI (ve_ix (ve_ix (ve_var 0) (ve_var 4)) (ve_var 2)) (ve_ix (ve_ix (ve_var 1) (ve_var 4)) (ve_var 3)))))) va_nil)))))
   (vss_fz 5 (vss_one (vs_set (i:=3) sc__law_best.nd (ve_op o_add (ve_var 3) (ve_callB (c_maxL rfl) T.max_ L2.boot_max (va_cons (ve_var 5) va_nil)))))))))
   (vss_one (vs_ret (ve_var 3))))),?_⟩
  obtain ⟨l1,e1,_⟩:=id hR
  obtain ⟨l2,e2,_⟩:=id hY
  have ll:=hR.len e1
  have er0:R[0]?=some R[0]:=List.getElem?_eq_getElem (by omega)
  have ey0:Y[0]?=some Y[0]:=List.getElem?_eq_getElem (by omega)
  have lr0:=hm _ (List.mem_of_getElem? er0)
  have ly0:=ha _ (List.mem_of_getElem? ey0)
  generalize R[0]=r0 at er0 lr0
  generalize Y[0]=y0 at ey0 ly0
  obtain ⟨x0,gx0,sx0⟩:=hR.at e1 er0
  obtain ⟨x1,gx1,sx1⟩:=hY.at e2 ey0
  refine ix_seqD e1 (atI_nat gx0) (len_seq sx0 ?_)
  rw [List.length_map,lr0]
  refine ⟨⟨by omega,by omega⟩,fun i e => ∃ t4 t5 t6,e=[.val (.int b),.val d1,.val d2,.val (.int (sumN i fun i=>maxN (fun x=>sumN R.length fun s=>at2 R s i*at2 Y s x) a)),t4,t5,t6],⟨_,_,_,rfl⟩,?_,?_⟩
  ·rintro i x e hx ⟨t4,t5,t6,rfl⟩
   obtain ⟨hi,rfl⟩:=rngD_inv hx
   rw [Int.zero_add]
   have hi':i<m:=by omega
   refine ⟨szl,ix_seqD e2 (atI_nat gx1) (len_seq sx1 ?_)⟩
   rw [List.length_map,ly0]
   refine ⟨⟨by omega,by omega⟩,fun j e => ∃ t6,e=[.val (.int b),.val d1,.val d2,.val (.int (sumN i fun i=>maxN (fun x=>sumN R.length fun s=>at2 R s i*at2 Y s x) a)),.val (.int i),.own (((List.range j).map fun x=>sumN R.length fun s=>at2 R s i*at2 Y s x).map .int),t6],⟨_,rfl⟩,?_,?_⟩
   ·rintro j x e hx ⟨t6,rfl⟩
    obtain ⟨hj,rfl⟩:=rngD_inv hx
    rw [Int.zero_add]
    have hj':j<a+1:=by omega
    refine ⟨rfl,len_seq e1 ?_⟩
    rw [ll]
    refine ⟨⟨by omega,by omega⟩,?_⟩
    refine ⟨small1000 (by rw [rngD_len]; omega),fun k ys e=>ys=(((List.range R.length).map fun s=>at2 R s i*at2 Y s j).map PyData.int).take k ∧ ∃ v,e=[.val d1,.val d2,.val (.int i),.val (.int j),v],⟨by simp,_,rfl⟩,?_,?_⟩
    ·rintro k d ys e hd ⟨hys,v,rfl⟩
     obtain ⟨hk,rfl⟩:=rngD_inv hd
     rw [Int.zero_add]
     have hk':k<R.length:=by omega
     obtain ⟨rR,gR1,gR2,gR3,gR4⟩:=at_row hm hk' hi'
     obtain ⟨rY,gY1,gY2,gY3,gY4⟩:=at_row ha (show k<Y.length by omega) hj'
     obtain ⟨xR,xR1,xR2⟩:=hR.at e1 gR1
     obtain ⟨xY,xY1,xY2⟩:=hY.at e2 gY1
     have iR:atI (rR.map PyData.int) (i:Int)=some (.int (at2 R k i)):=atI_nat (by rw [List.getElem?_map,gR3]; rfl)
     have iY:atI (rY.map PyData.int) (j:Int)=some (.int (at2 Y k j)):=atI_nat (by rw [List.getElem?_map,gY3]; rfl)
     refine ix_seqD e1 (atI_nat xR1) (ix_seqD xR2 iR (ix_seqD e2 (atI_nat xY1) (ix_seqD xY2 iY ⟨IntMulOk.of_left (hz rR gR2 _ gR4),snoc_take ?_ hys,_,rfl⟩)))
     rw [List.getElem?_map,List.getElem?_map,List.getElem?_range hk']; rfl
    rintro ys e ⟨hys,v,rfl⟩
    rw [rngD_len,Int.toNat_natCast,List.take_of_length_le (by simp)] at hys
    subst hys
    refine ⟨_,rfl,rfl,small1000 (by show (((List.range j).map fun x=>sumN R.length fun s=>at2 R s i*at2 Y s x).map PyData.int).length≤1000; simp; omega),.val (.int j),?_⟩
    rw [range_sum,List.range_succ,List.map_append,List.map_append]; rfl
   ·rintro e ⟨t6,rfl⟩
    rw [rngD_len]
    refine ⟨(List.range (a+1)).map fun x=>sumN R.length fun s=>at2 R s i*at2 Y s x,?_,by simp,fun M hM hle=>?_⟩
    ·congr 2
    ·rw [max_eq hM hle]
     exact ⟨_,_,_,rfl⟩
  ·rintro e ⟨t4,t5,t6,rfl⟩
   rw [rngD_len,Int.toNat_natCast]
   exact h
theorem dot_at2 {R Y:List (List Int)} {w s x:Nat} (hR:R.length=w) (hY:Y.length=w):dotI (colI R s) (colI Y x)=sumN w fun t=>at2 R t s*at2 Y t x:=by
 unfold dotI
 rw [← range_sum]
 congr 1
 refine List.ext_getElem? fun t=>?_
 rw [List.getElem?_zipWith,List.getElem?_map]
 unfold colI
 rw [List.getElem?_map,List.getElem?_map]
 by_cases ht:t<w
 ·have e1:R[t]?=some (R[t]'(by omega)):=List.getElem?_eq_getElem _
  have e2:Y[t]?=some (Y[t]'(by omega)):=List.getElem?_eq_getElem _
  rw [List.getElem?_range ht,e1,e2]
  show some _=some (at2 R t s*at2 Y t x)
  unfold at2
  rw [e1,e2]; rfl
 ·rw [List.getElem?_eq_none (l:=R) (by omega),List.getElem?_eq_none (l:=List.range w) (by simp; omega)]; rfl
theorem maxN_of {f:Nat→Int} {k j:Nat} {v:Int} (hj:j≤k) (e:f j=v) (h : ∀ i,i≤k→f i≤v):maxN f k=v:=by
 obtain ⟨i,hi,e2⟩:=maxN_at f k
 have a:=h i hi
 have b:=maxN_le f hj
 omega
theorem tot_best {R Y:List (List Int)} {w a n:Nat} (hR:R.length=w) (hY:Y.length=w):totW R Y (plB R Y (a+1) n)=bestN R Y w n a:=by
 unfold totW bestN
 rw [plB_len,range_sum]
 refine sumN_congr fun s hs=>?_
 have e1:((plB R Y (a+1) n)[s]?).getD 0=((fbA (wk R Y (a+1) s):Nat):Int):=by
  unfold plB
  rw [List.getElem?_map,List.getElem?_range hs]; rfl
 rw [e1,Int.toNat_natCast]
 obtain ⟨v,hv⟩:=fb_ex (wk_ne (R:=R) (Y:=Y) (a:=a+1) s (by omega))
 have hl:=fb_lt (wk_ne (R:=R) (Y:=Y) (a:=a+1) s (by omega))
 rw [wk_len] at hl
 have g:=hv.g
 unfold wk at g
 rw [List.getElem?_map] at g
 have g':(List.range (a+1))[fbA (wk R Y (a+1) s)]?=some (fbA (wk R Y (a+1) s)):=List.getElem?_range hl
 unfold wk at g'
 rw [g'] at g
 have g:some (dotI (colI R s) (colI Y (fbA (wk R Y (a+1) s))))=some v:=g
 injection g with g
 rw [g]
 refine (maxN_of (j:=fbA (wk R Y (a+1) s)) (by omega) ?_ fun i hi=>?_).symm
 ·rw [← g,dot_at2 hR hY]
 ·have:=hv.m (dotI (colI R s) (colI Y i)) (List.mem_map.mpr ⟨i,List.mem_range.mpr (by omega),rfl⟩)
  rw [dot_at2 hR hY] at this
  exact this
theorem dcs_best {b c:Int} {R S Y:List (List Int)} {m n:Nat} (hb:0<b) (hc:0<c) (hn:1≤n) (h:Dcs b R m c S n Y):bestN R Y R.length m (n-1)*c<bestN S Y R.length n (n-1)*b:=by
 obtain ⟨v,h1,h2⟩:=h.v
 have A:bestN R Y R.length m (n-1) ≤ -b*sumN m v:=by
  rw [← sumN_mul]
  refine sumN_mono fun i hi=>?_
  obtain ⟨j,hj,e⟩:=maxN_at (fun x=>sumN R.length fun s=>at2 R s i*at2 Y s x) (n-1)
  rw [e]
  have:=h1 i j hi (by omega)
  have e3 : -b*v i = -(b*v i):=Int.neg_mul ..
  omega
 have B:(sumN R.length fun s=>sumN n fun j=>at2 S s j*at2 Y s j)≤bestN S Y R.length n (n-1):=by
  rw [sumN_sw]
  refine sumN_mono fun j hj=>?_
  exact maxN_le (fun x=>sumN R.length fun s=>at2 S s j*at2 Y s x) (show j≤n-1 by omega)
 generalize bestN R Y R.length m (n-1)=p at A
 generalize bestN S Y R.length n (n-1)=q at B
 generalize (sumN R.length fun s=>sumN n fun j=>at2 S s j*at2 Y s j)=t at B h2
 generalize sumN m v=V at A h2
 have a1:=Int.mul_le_mul_of_nonneg_right A (show 0≤c by omega)
 have a2 : -(c*V)<q:=by omega
 have a3:=Int.mul_lt_mul_of_pos_right a2 hb
 have e : -b*V*c = -(c*V)*b:=by grind
 omega
theorem at2_abs {T:List (List Int)} {i j C:Nat} (h : ∀ r ∈ T,∀ x ∈ r,x.natAbs≤C):(at2 T i j).natAbs≤C:=by
 unfold at2
 cases e:T[i]? with
 | none=>exact Nat.zero_le _
 | some r =>
  show ((r[j]?).getD 0).natAbs≤C
  cases e':r[j]? with
  | none=>exact Nat.zero_le _
  | some x=>exact h r (List.mem_of_getElem? e) x (List.mem_of_getElem? e')
theorem best_abs {R Y:List (List Int)} {w m a C D:Nat} (hR : ∀ r ∈ R,∀ x ∈ r,x.natAbs≤C) (hY : ∀ y ∈ Y,∀ x ∈ y,x.natAbs≤D):(bestN R Y w m a).natAbs≤m*(w*(C*D)) :=
 sumN_abs fun i hi=>by
  obtain ⟨x,_,e⟩:=maxN_at (fun x=>sumN w fun s=>at2 R s i*at2 Y s x) a
  rw [e]
  exact sumN_abs fun s hs=>by
   rw [Int.natAbs_mul]
   exact Nat.mul_le_mul (at2_abs hR) (at2_abs hY)
theorem best_bits {b:Int} {R Y:List (List Int)} {w m a:Nat} (hR:Tab b R m) (hb:b≤20000000) (hY : ∀ y ∈ Y,∀ x ∈ y,intBits x≤710) (hw:w≤4) (hm:m≤4):intBits (bestN R Y w m a)≤1000:=by
 have h:=best_abs (R:=R) (Y:=Y) (w:=w) (m:=m) (a:=a) (C:=20000000) (D:=2^710) (fun r hr x hx=>by have:=hR.le hr hx; omega) (fun y hy x hx=>Nat.le_of_lt (intBits_le_iff (m:=710).mp (hY y hy x hx)))
 refine bits_up (intBits_le_iff (m:=760).mpr ?_) (by decide)
 have t:4*(4*(20000000*2^710))<2^760:=by decide +kernel
 have u:m*(w*(20000000*2^710))≤4*(4*(20000000*2^710)):=Nat.mul_le_mul hm (Nat.mul_le_mul_right _ hw)
 exact Nat.lt_of_le_of_lt h (Nat.lt_of_le_of_lt u t)
theorem sh_less {t u b c:Int} (hb:0<b) (hc:0<c) (h:t*c<u*b):shT t b*shB u c<shT u c*shB t b:=by
 obtain ⟨s1,e1⟩:=sh_ok (t:=t) (b:=b) (by omega)
 obtain ⟨s2,e2⟩:=sh_ok (t:=u) (b:=c) (by omega)
 have q1:=s1.pos
 have q2:=s2.pos
 generalize shT t b=p at *
 generalize shB t b=q at *
 generalize shT u c=r at *
 generalize shB u c=s at *
 have a:=Int.mul_lt_mul_of_pos_right h (Int.mul_pos (show 0<q by omega) (show 0<s by omega))
 have x1:t*c*(q*s)=p*s*(b*c):=by
  have:t*c*(q*s)=t*q*(c*s):=by grind
  rw [this,← e1]; grind
 have x2:u*b*(q*s)=r*q*(b*c):=by
  have:u*b*(q*s)=u*s*(b*q):=by grind
  rw [this,← e2]; grind
 rw [x1,x2] at a
 exact Int.lt_of_mul_lt_mul_right a (by have:=Int.mul_pos hb hc; omega)
def sp__law_more (ds:List PyData) (q:PyData→Prop):Prop := ∃ (b:Int) (R:List (List Int)) (m:Nat) (c:Int) (S:List (List Int)) (n:Nat) (Y:List (List Int)),ds=[dTab b R,dTab c S,dPay Y]∧(CmpPre b R m c S n∧Dcs b R m c S n Y ∧ ∀ y ∈ Y,∀ x ∈ y,intBits x≤710)∧q (.bool true)
theorem sc__law_more:FnScope ["_law_one","_law_other_here","_law_payoffs","_law_row","_law_mine"] ["_law_one","_law_other_here","_law_payoffs"] (defScope s__law_more):=⟨rfl,rfl,rfl,by decide +kernel,rfl,by decide +kernel,by decide +kernel⟩
theorem ok__law_more (F:Def K mg "_law_more" s__law_more ["_law_one","_law_other_here","_law_payoffs"]) (T:Txt K mg cs)
 (O__law_whole:Ok P w K mg base "_law_whole" 1 ["_law_one"] (PSp K sp__law_whole))
 (O_below:Ok P w K mg base "below" 4 ["one","other"] (PSp K sp_below))
 (O_best:Ok P w K mg base "best" 5 ["glass","payoffs"] (PSp K sp_best))
 (O__law_best:Ok P w K mg base "_law_best" 1 ["_law_bottom","_law_rows","_law_payoffs"] (PSp K sp__law_best))
 : Ok P w K mg base "_law_more" 6 ["_law_one","_law_other_here","_law_payoffs"] (PSp K sp__law_more):=by
  refine F.vok sc__law_more (by rintro ds q ⟨_,_,_,_,_,_,_,h,_⟩; rw [h]; rfl) fun f cdv A outer s H E hr ds q h=>?_
  obtain ⟨b,R,m,c,S,n,Y,rfl,⟨hp,hD,hY⟩,h⟩:=h
  refine ⟨_,(vss_cons (vs_if (VW.pt (vw_or (vt_not (vt_val (ve_isi T.isinstance_ T.tuple_ L2.boot_tuple (ve_var 2)))) (vw_or1 (vt_cmp (o_ne hr.units) (ve_callB c_len T.len_ L2.boot_len (va_cons (ve_var 2) va_nil)) (ve_callB c_len T.len_ L2.boot_len (va_cons (ve_ix (ve_var 0) ve_int) va_nil)))))) (vss_one (vs_ret ve_bl)) vss_nil)
   (vss_cons (vs_for rfl (vi_seq (ve_var 2)) (vg_name (i:=3) sc__law_more.nd) (vss_cons (vs_if (VW.pt (vw_or (vt_not (vt_val (ve_isi T.isinstance_ T.tuple_ L2.boot_tuple (ve_var 3)))) (vw_or1 (vt_cmp (o_ne hr.units) (ve_callB c_len T.len_ L2.boot_len (va_cons (ve_var 3) va_nil)) (ve_callB c_len T.len_ L2.boot_len (va_cons (ve_ix (ve_ix (ve_var 1) ve_int) ve_int) va_nil)))))) (vss_one (vs_ret ve_bl)) vss_nil)
   (vss_one (vs_if (vt_cmp o_gt (ve_callB c_len T.len_ L2.boot_len (va_cons (vf_fz (vf_compIf (caps:=[]) (own:=["_law_number"]) (ix:=[]) rfl ⟨rfl,rfl,rfl,rfl,rfl,rfl⟩ (vi_seq (ve_var 3)) (fun _ _ _ _=>(vg_name (i:=0) (show List.Nodup (["_law_number"]:List Str) by decide))) (fun _ _ _ _=>(vt_not (vt_val (ve_fn O__law_whole (hr.mono (by decide)) (va_cons (ve_var 0) va_nil))))) (fun _ _ _ _=>(ve_var 0)))) va_nil)) ve_int) (vss_one (vs_ret ve_bl)) vss_nil))))
   (vss_cons (vs_set (i:=4) sc__law_more.nd (ve_op o_mulI (ve_fn O__law_best (hr.mono (by decide)) (va_cons (ve_ix (ve_var 0) ve_int) (va_cons (ve_ix (ve_var 0) ve_int) (va_cons (ve_var 2) va_nil)))) (ve_ix (ve_var 1) ve_int)))
   (vss_cons (vs_if (vt_cmp o_ge (ve_var 4) (ve_op o_mulI (ve_fn O__law_best (hr.mono (by decide)) (va_cons (ve_ix (ve_var 1) ve_int) (va_cons (ve_ix (ve_var 1) ve_int) (va_cons (ve_var 2) va_nil)))) (ve_ix (ve_var 0) ve_int))) (vss_one (vs_ret ve_bl)) vss_nil)
   (vss_one (vs_ret (ve_fn O_below (hr.mono (by decide)) (va_cons (ve_ix (ve_fn O_best (hr.mono (by decide)) (va_cons (ve_var 0) (va_cons (ve_var 2) va_nil))) ve_int) (va_cons (ve_ix (ve_fn O_best (hr.mono (by decide)) (va_cons (ve_var 1) (va_cons (ve_var 2) va_nil))) ve_int) va_nil))))))))),?_⟩
  have w1:=hp.w1
  have w2:=hp.w2
  have m2:=hp.m2
  have n1:=hp.n1
  have n2:=hp.n2
  have hl:=hp.l
  have b1:=hp.r.pos
  have c1:=hp.s.pos
  have zb:=hp.zb
  have zc:=hp.zc
  have yl:=hD.l
  have lY:(((Y.map tRow).length:Nat):Int)=R.length:=by rw [List.length_map,hD.l]
  have lR:(((R.map tRow).length:Nat):Int)=R.length:=by rw [List.length_map]
  obtain ⟨s0,S0,eS⟩:=List.exists_cons_of_ne_nil (show S≠[] from fun z=>by rw [z] at hl; rw [hl] at w1; simp at w1)
  have l2:s0.length=n:=hp.s.len s0 (by rw [eS]; simp)
  have aS:atI (S.map tRow) 0=some (tRow s0):=by rw [eS]; exact atI_zero _ _
  have lS:(((s0.map PyData.int).length:Nat):Int)=n:=by rw [List.length_map,l2]
  refine ⟨_,rfl,rfl,rfl,ite_ne (fun z=>absurd (by rw [lY,lR]) z) (fun _=>?_)⟩
  refine ⟨fun i e => ∃ t3,e=[.val (dTab b R),.val (dTab c S),.val (dPay Y),t3,.non],⟨_,rfl⟩,?_,?_⟩
  ·rintro i x e hx ⟨t3,rfl⟩
   obtain ⟨y,hy',rfl⟩:=trow_get hx
   have ym:=List.mem_of_getElem? hy'
   have ly:=hD.w y ym
   have ly':(((y.map PyData.int).length:Nat):Int)=n:=by rw [List.length_map,ly]
   refine ⟨_,rfl,_,aS,rfl,rfl,ite_ne (fun z=>absurd (by rw [ly',lS]) z) (fun _=>?_)⟩
   refine ⟨small1000 (by rw [List.length_map]; omega),fun k ys e=>ys=[] ∧ ∃ v,e=[v],⟨rfl,_,rfl⟩,?_,?_⟩
   ·rintro j d ys e hd ⟨rfl,v,rfl⟩
    obtain ⟨z,rfl,_,_⟩:=int_get hd
    exact ⟨rfl,_,rfl⟩
   ·rintro ys e ⟨rfl,v,rfl⟩
    exact ⟨_,rfl⟩
  rintro e ⟨t3,rfl⟩
  have zR : ∀ r ∈ R,∀ x ∈ r,intBits x≤64:=fun r hr x hx=>by have:=hp.r.le hr hx; exact bits64 (by omega) (by omega)
  have zS : ∀ r ∈ S,∀ x ∈ r,intBits x≤64:=fun r hr x hx=>by have:=hp.s.le hr hx; exact bits64 (by omega) (by omega)
  have wY : ∀ y ∈ Y,y.length=n-1+1:=fun y hy=>by have:=hD.w y hy; omega
  have key:=dcs_best (show 0<b by omega) (show 0<c by omega) n1 hD
  refine ⟨_,rfl,_,rfl,b,_,_,R,Y,m,n-1,rfl,⟨rowsD_tup _,rowsD_tup _,by omega,by omega,by omega,hp.r.len,wY,by omega,by omega,zR⟩,_,rfl,IntMulOk.of_right (bits64 (by omega) (by omega)),?_⟩
  rw [hl] at key
  refine ⟨_,rfl,_,rfl,c,_,_,S,Y,n,n-1,rfl,⟨rowsD_tup _,rowsD_tup _,by omega,by omega,by omega,hp.s.len,wY,by omega,by omega,zS⟩,_,rfl,IntMulOk.of_right (bits64 (by omega) (by omega)),iteD (fun z=>?_) (fun _=>?_)⟩
  ·exfalso
   rw [hl] at z
   omega
  have P1:Pays Y R.length n:=⟨yl,hD.w,hY⟩
  have P2:Pays Y S.length n:=⟨by omega,hD.w,hY⟩
  have F1:FbPre b R m Y n:=⟨hp.r,P1,w1,by omega,by omega,n1,by omega,bits_up (bits64 (by omega) (by omega)) (by decide)⟩
  have F2:FbPre c S n Y n:=⟨hp.s,P2,by omega,by omega,by omega,n1,by omega,bits_up (bits64 (by omega) (by omega)) (by decide)⟩
  have en:n-1+1=n:=by omega
  have t1:totW R Y (plB R Y n m)=bestN R Y S.length m (n-1):=by
   have:=tot_best (R:=R) (Y:=Y) (w:=S.length) (a:=n-1) (n:=m) hl (by omega)
   rw [en] at this; exact this
  have t2:totW S Y (plB S Y n n)=bestN S Y S.length n (n-1):=by
   have:=tot_best (R:=S) (Y:=Y) (w:=S.length) (a:=n-1) (n:=n) rfl (by omega)
   rw [en] at this; exact this
  have z1:=best_bits (w:=S.length) (a:=n-1) hp.r zb hY (by omega) hp.m2
  have z2:=best_bits (w:=S.length) (a:=n-1) hp.s zc hY (by omega) n2
  obtain ⟨s1,_⟩:=sh_ok (t:=totW R Y (plB R Y n m)) (b:=b) (by omega)
  obtain ⟨s2,_⟩:=sh_ok (t:=totW S Y (plB S Y n n)) (b:=c) (by omega)
  refine ⟨b,R,m,Y,n,rfl,F1,_,rfl,c,S,n,Y,n,rfl,F2,_,rfl,_,_,_,_,rfl,⟨⟨s1,shT_bits (by rw [t1]; exact z1),shB_bits (bits_up (bits64 (by omega) (by omega)) (by decide))⟩,⟨s2,shT_bits (by rw [t2]; exact z2),shB_bits (bits_up (bits64 (by omega) (by omega)) (by decide))⟩⟩,?_⟩
  show q (.bool _)
  rw [decide_eq_true (sh_less (show 0<b by omega) (show 0<c by omega) (by rw [t1,t2]; exact key))]
  exact h
def sp__law_word (ds:List PyData) (q:PyData→Prop):Prop := ∃ (d:PyData) (b:Int) (R:List (List Int)) (m:Nat) (c:Int) (S:List (List Int)) (n:Nat),ds=[d,dTab b R,dTab c S]∧CmpPre b R m c S n ∧
 ((∃ B D,Dls b R m c S n B D∧d = .tuple [.str "dulls",dTab B D]∧q (.str "dulls"))∨(∃ Y,Dcs b R m c S n Y∧(∀ y ∈ Y,∀ x ∈ y,intBits x≤710)∧d = .tuple [.str "decision",.tuple (Y.map tRow)]∧q (.str "decision")))
theorem sc__law_word:FnScope ["_law_found","_law_one","_law_other_here","_law_good"] ["_law_found","_law_one","_law_other_here"] (defScope s__law_word):=⟨rfl,rfl,rfl,by decide +kernel,rfl,by decide +kernel,by decide +kernel⟩
theorem ok__law_word (F:Def K mg "_law_word" s__law_word ["_law_found","_law_one","_law_other_here"]) (T:Txt K mg cs)
 (O__law_is_dulling:Ok P w K mg base "_law_is_dulling" 2 ["_law_found","_law_olds","_law_news"] (PSp K sp__law_is_dulling))
 (O__law_dulls:Ok P w K mg base "_law_dulls" 1 ["_law_one","_law_other_here","_law_dulling"] (PSp K sp__law_dulls))
 (O__law_more:Ok P w K mg base "_law_more" 6 ["_law_one","_law_other_here","_law_payoffs"] (PSp K sp__law_more))
 : Ok P w K mg base "_law_word" 7 ["_law_found","_law_one","_law_other_here"] (PSp K sp__law_word):=by
  refine F.vok sc__law_word (by rintro ds q ⟨_,_,_,_,_,_,_,h,_⟩; rw [h]; rfl) fun f cdv A outer s H E hr ds q h=>?_
  obtain ⟨d,b,R,m,c,S,n,rfl,hp,h⟩:=h
  refine ⟨_,(vss_cons (vs_if (VW.pt (vw_or (vt_not (vt_val (ve_isi T.isinstance_ T.tuple_ L2.boot_tuple (ve_var 0)))) (vw_or1 (vt_cmp (o_ne hr.units) (ve_callB c_len T.len_ L2.boot_len (va_cons (ve_var 0) va_nil)) ve_int)))) (vss_one (vs_ret ve_str)) vss_nil)
   (vss_cons (vs_if (vt_cmp (o_eq hr.units) (ve_ix (ve_var 0) ve_int) ve_str) (vss_cons (vs_set (i:=3) sc__law_word.nd (ve_fn O__law_is_dulling (hr.mono (by decide)) (va_cons (ve_ix (ve_var 0) ve_int) (va_cons (ve_callB c_len T.len_ L2.boot_len (va_cons (ve_ix (ve_ix (ve_var 1) ve_int) ve_int) va_nil)) (va_cons (ve_callB c_len T.len_ L2.boot_len (va_cons (ve_ix (ve_ix (ve_var 2) ve_int) ve_int) va_nil)) va_nil)))))
   (vss_one (vs_ret (ve_ix (vf_fz (vf_lst (va_cons ve_str (va_cons ve_str va_nil)))) (ve_callTy c_int T.int_ L2.boot_int (va_cons (ve_and (ve_var 3) (ve_one (ve_fn O__law_dulls (hr.mono (by decide)) (va_cons (ve_var 1) (va_cons (ve_var 2) (va_cons (ve_ix (ve_var 0) ve_int) va_nil)))))) va_nil)))))) vss_nil)
   (vss_cons (vs_if (VW.pt (vw_and (vt_cmp (o_eq hr.units) (ve_ix (ve_var 0) ve_int) ve_str) (vw_and1 (vt_val (ve_fn O__law_more (hr.mono (by decide)) (va_cons (ve_var 1) (va_cons (ve_var 2) (va_cons (ve_ix (ve_var 0) ve_int) va_nil)))))))) (vss_one (vs_ret ve_str)) vss_nil)
   (vss_one (vs_ret ve_str))))),?_⟩
  have w1:=hp.w1
  have hl:=hp.l
  have shD:=shpS (x := "dulls") 0 (by decide +kernel)
  have shC:=shpS (x := "decision") 0 (by decide +kernel)
  have cd':PyData.eqv (.str "decision") (.str "dulls")=false:=by decide +kernel
  obtain ⟨s0,S0,eS⟩:=List.exists_cons_of_ne_nil (show S≠[] from fun z=>by rw [z] at hl; rw [hl] at w1; simp at w1)
  have l2:s0.length=n:=hp.s.len s0 (by rw [eS]; simp)
  have aS:atI (S.map tRow) 0=some (tRow s0):=by rw [eS]; exact atI_zero _ _
  have lS:(((s0.map PyData.int).length:Nat):Int)=n:=by rw [List.length_map,l2]
  obtain ⟨r0,R0,eR⟩:=List.exists_cons_of_ne_nil (show R≠[] from fun z=>by rw [z] at w1; simp at w1)
  have l1:r0.length=m:=hp.r.len r0 (by rw [eR]; simp)
  have aR:atI (R.map tRow) 0=some (tRow r0):=by rw [eR]; exact atI_zero _ _
  have lR:(((r0.map PyData.int).length:Nat):Int)=m:=by rw [List.length_map,l1]
  rcases h with ⟨B,D,hD,rfl,h⟩|⟨Y,hD,hY,rfl,h⟩
  ·refine ⟨rfl,rfl,ite_ne (fun z=>absurd rfl z) (fun _=>?_)⟩
   refine ⟨_,rfl,shD.ok,shD.ok,iteY shD.refl ?_⟩
   refine ⟨_,rfl,_,rfl,_,aR,_,rfl,_,aS,B,D,m,n,by rw [lR,lS],⟨hD.u.t,hD.u.l,hD.g,hD.z⟩,?_⟩
   exact ⟨szl,_,rfl,b,R,m,c,S,n,B,D,rfl,⟨hp,hD.u⟩,_,rfl,h⟩
  ·refine ⟨rfl,rfl,ite_ne (fun z=>absurd rfl z) (fun _=>?_)⟩
   refine ⟨_,rfl,shC.ok,shD.ok,iteZ cd' ?_⟩
   exact ⟨_,rfl,shC.ok,shC.ok,iteY shC.refl ⟨_,rfl,b,R,m,c,S,n,Y,rfl,⟨hp,hD,hY⟩,h⟩⟩
theorem pk5 {z:Int} (h0:0≤z) (h1:z<5) : ∃ y:Nat,atI [PyData.int 2,.int 3,.int 2,.int 3,.int 4] z=some (.int y)∧2≤y∧y≤4:=by
 have:z=0∨z=1∨z=2∨z=3∨z=4:=by omega
 rcases this with rfl|rfl|rfl|rfl|rfl
 ·exact ⟨2,rfl,by decide,by decide⟩
 ·exact ⟨3,rfl,by decide,by decide⟩
 ·exact ⟨2,rfl,by decide,by decide⟩
 ·exact ⟨3,rfl,by decide,by decide⟩
 ·exact ⟨4,rfl,by decide,by decide⟩
def sp__law_other (ds:List PyData) (q:PyData→Prop):Prop := ∃ (ns:List Int) (W:Nat) (b:Int) (R:List (List Int)) (m:Nat),ds=[.list (ns.map .int),.int W,dTab b R]∧(ns.length≤63∧2≤W∧W≤4∧Gls b R m∧R.length=W∧1≤m∧m≤4∧b≤500000) ∧
 ∀ c S n,Gls c S n→S.length=W→1≤n→n≤4→c≤1000000→q (dTab c S)
theorem pk8c {z:Int} (h0:0≤z) (h1:z<8) : ∃ y:Nat,atI [PyData.int 1,.int 2,.int 3,.int 2,.int 3,.int 4,.int 3,.int 4] z=some (.int y)∧1≤y∧y≤4:=by
 have:z=0∨z=1∨z=2∨z=3∨z=4∨z=5∨z=6∨z=7:=by omega
 rcases this with rfl|rfl|rfl|rfl|rfl|rfl|rfl|rfl
 ·exact ⟨1,rfl,by decide,by decide⟩
 ·exact ⟨2,rfl,by decide,by decide⟩
 ·exact ⟨3,rfl,by decide,by decide⟩
 ·exact ⟨2,rfl,by decide,by decide⟩
 ·exact ⟨3,rfl,by decide,by decide⟩
 ·exact ⟨4,rfl,by decide,by decide⟩
 ·exact ⟨3,rfl,by decide,by decide⟩
 ·exact ⟨4,rfl,by decide,by decide⟩
theorem sum_two : ∀ r:List Int,(r.map fun x=>2*x).sum=2*r.sum
 | []=>rfl
 | x::r=>by rw [List.map_cons,List.sum_cons,List.sum_cons,sum_two r]; omega
theorem sc__law_other:FnScope ["_law_script","_law_world","_law_one","_law_cell_here","_law_many","_law_bottom","_law_rows","_law_stand","_law_row","_law_at","_law_to","_law_by"] ["_law_script","_law_world","_law_one"] (defScope s__law_other):=⟨rfl,rfl,rfl,by decide +kernel,rfl,by decide +kernel,by decide +kernel⟩
theorem ok__law_other (F:Def K mg "_law_other" s__law_other ["_law_script","_law_world","_law_one"]) (T:Txt K mg cs)
 (O_glass_of:Ok P w K mg base "glass_of" 4 ["bottom","rows"] (PSp K sp_glass_ofL))
 (O__law_cell:Ok P w K mg base "_law_cell" 1 ["_law_script","_law_k"] (PSp K sp__law_cell))
 (O__law_glass:Ok P w K mg base "_law_glass" 2 ["_law_script","_law_at","_law_world","_law_many"] (PSp K sp__law_glassD))
 : Ok P w K mg base "_law_other" 5 ["_law_script","_law_world","_law_one"] (PSp K sp__law_other):=by
  refine F.vok sc__law_other (by rintro ds q ⟨_,_,_,_,_,h,_⟩; rw [h]; rfl) fun f cdv A outer s H E hr ds q h=>?_
  obtain ⟨ns,W,b,R,m,rfl,⟨hlen,W1,W2,hG,hl,m1,m2,hb⟩,h⟩:=h
  refine ⟨_,(vss_cons (vs_set (i:=3) sc__law_other.nd (ve_fn O__law_cell (hr.mono (by decide)) (va_cons (ve_var 0) (va_cons ve_int va_nil))))
   (vss_cons (vs_set (i:=4) sc__law_other.nd (ve_ix (vf_fz (vf_lst (va_cons ve_int (va_cons ve_int (va_cons ve_int (va_cons ve_int (va_cons ve_int (va_cons ve_int (va_cons ve_int (va_cons ve_int va_nil)))))))))) (ve_op o_mod (ve_var 3) ve_int)))
   (vss_cons (vs_if (vt_cmp o_gt (ve_op o_mod (ve_op o_div (ve_var 3) ve_int) ve_int) ve_int) (vss_cons (vs_asg (ve_fn O__law_glass (hr.mono (by decide)) (va_cons (ve_var 0) (va_cons ve_int (va_cons (ve_var 1) (va_cons (ve_var 4) va_nil))))) (vg_tup (n:=2) rfl (vgs_cons (vg_name (i:=5) sc__law_other.nd) (vgs_cons (vg_name (i:=6) sc__law_other.nd) vgs_nil))))
   (vss_one (vs_ret (ve_fn O_glass_of (hr.mono (by decide)) (va_cons (ve_var 5) (va_cons (ve_var 6) va_nil)))))) vss_nil)
   (vss_cons (vs_setO (i:=6) sc__law_other.nd (vf_lst va_nil))
   (vss_cons (vs_for rfl (vi_range1 T.range_ (ve_var 1)) (vg_name (i:=7) sc__law_other.nd) (vss_cons (vs_setCO (caps:=[]) (own:=["_law_number"]) (ix:=[]) (i:=8) sc__law_other.nd rfl ⟨rfl,rfl,rfl,rfl,rfl,rfl⟩ (vi_seq (ve_ix (ve_ix (ve_var 2) ve_int) (ve_var 7))) (fun _ _ _ _=>(vg_name (i:=0) (show List.Nodup (["_law_number"]:List Str) by decide))) (fun _ _ _ _=>(ve_op o_mulI ve_int (ve_var 0))))
   (vss_mid (vs_set (i:=9) sc__law_other.nd (ve_op o_mod (ve_fn O__law_cell (hr.mono (by decide)) (va_cons (ve_var 0) (va_cons (ve_op o_add ve_int (ve_var 7)) va_nil))) (ve_lenO 8 T.len_)))
   (vss_mid (vs_set (i:=10) sc__law_other.nd (ve_op o_mod (ve_op o_div (ve_fn O__law_cell (hr.mono (by decide)) (va_cons (ve_var 0) (va_cons (ve_op o_add ve_int (ve_var 7)) va_nil))) ve_int) (ve_lenO 8 T.len_)))
   (vss_mid (vs_set (i:=11) sc__law_other.nd (ve_callB (c_min2 rfl) T.min_ L2.boot_min (va_cons (ve_ixO 8 (ve_var 9)) (va_cons (ve_op o_mod (ve_op o_div (ve_fn O__law_cell (hr.mono (by decide)) (va_cons (ve_var 0) (va_cons (ve_op o_add ve_int (ve_var 7)) va_nil))) ve_int) ve_int) va_nil))))
   (vss_cons (vs_put 8 (ve_op o_sub (ve_ixO 8 (ve_var 9)) (ve_var 11)) (ve_var 9))
   (vss_cons (vs_put 8 (ve_op o_add (ve_ixO 8 (ve_var 10)) (ve_var 11)) (ve_var 10))
   (vss_fz 8 (vss_one (vs_append 6 (ve_var 8)))))))))))
   (vss_fz 6 (vss_one (vs_ret (ve_fn O_glass_of (hr.mono (by decide)) (va_cons (ve_op o_mulI ve_int (ve_ix (ve_var 2) ve_int)) (va_cons (ve_var 6) va_nil))))))))))),?_⟩
  have b1:=hG.t.pos
  refine ⟨ns,11,rfl,⟨by decide,by decide,hlen⟩,fun z0=>?_⟩
  obtain ⟨n,en,n1,n2⟩:=pk8c (z:=z0%8) (by omega) (by omega)
  refine ⟨szl,by decide,.int n,en,⟨by decide,by decide⟩,by decide,iteD (fun _=>?_) (fun _=>?_)⟩
  ·refine ⟨ns,6,_,_,rfl,⟨hlen,by decide,by decide,by omega,by omega,by omega,by omega⟩,fun b0 R0 hT0 hl0 hb0=>?_⟩
   rw [Int.toNat_natCast] at hT0
   have b01:=hT0.pos
   exact ⟨rfl,rfl,b0,_,R0,n,rfl,⟨rowsD_lst _,hT0,by omega,by omega,by omega,by omega,bits_up (bits64 (by omega) (by omega)) (by decide)⟩,fun c S G c1 l1 _ _=>h c S n G (by omega) n1 n2 (by omega)⟩
  refine ⟨szl,⟨by omega,by omega⟩,fun i e => ∃ (S:List (List Int)) (t7 t8 t9 t10 t11:Sl),e=[.val (.list (ns.map .int)),.val (.int W),.val (dTab b R),.val (.int z0),.val (.int n),.non,.own (S.map dRow),t7,t8,t9,t10,t11]∧Tab (2*b) S m∧S.length=i,⟨[],_,_,_,_,_,rfl,⟨by omega,by simp,by simp,by simp⟩,rfl⟩,?_,?_⟩
  ·rintro i d e hd ⟨S,t7,t8,t9,t10,t11,rfl,hS,hi0⟩
   obtain ⟨hi,rfl⟩:=rngD_inv hd
   rw [Int.zero_add]
   have hi':i<R.length:=by omega
   have er0:R[i]?=some R[i]:=List.getElem?_eq_getElem hi'
   have rm:=List.mem_of_getElem? er0
   generalize R[i]=r at er0 rm
   have lr:=hG.t.len r rm
   refine ⟨_,rfl,tRow r,atI_nat (by rw [List.getElem?_map,er0]; rfl),?_⟩
   refine ⟨small1000 (by rw [List.length_map]; omega),fun k ys e=>ys=((r.map fun x=>2*x).map PyData.int).take k ∧ ∃ t,e=[t],⟨by simp,_,rfl⟩,?_,?_⟩
   ·rintro j d ys e hd ⟨hys,t,rfl⟩
    rw [List.getElem?_map] at hd
    cases ej:r[j]? with
    | none=>rw [ej] at hd; cases hd
    | some x =>
    rw [ej] at hd
    have hd:some (PyData.int x)=some d:=hd
    injection hd with hd
    subst hd
    refine ⟨IntMulOk.of_left (by decide),snoc_take ?_ hys,_,rfl⟩
    rw [List.getElem?_map,List.getElem?_map,ej]; rfl
   rintro ys e ⟨hys,t,rfl⟩
   rw [List.length_map,List.take_of_length_le (by simp)] at hys
   subst hys
   obtain ⟨z,ez⟩ : ∃ z,z=r.map fun x=>2*x:=⟨_,rfl⟩
   rw [← ez]
   have zl:z.length=m:=by rw [ez,List.length_map,lr]
   have zn : ∀ x ∈ z,0≤x:=fun x hx=>by
    rw [ez] at hx
    obtain ⟨y,hy,rfl⟩:=List.mem_map.mp hx
    have:=hG.t.nn r rm y hy
    omega
   have zs:z.sum=2*b:=by rw [ez,sum_two,hG.t.sum r rm]
   clear ez
   have lz:(((z.map PyData.int).length:Nat):Int)=m:=by rw [List.length_map,zl]
   have mz:0<(((z.map PyData.int).length:Nat):Int):=by rw [lz]; omega
   refine ⟨fun e => ∃ p:Int,(0≤p∧p<m)∧e=[.val (.list (ns.map .int)),.val (.int W),.val (dTab b R),.val (.int z0),.val (.int n),.non,.own (S.map dRow),.val (.int i),.own (z.map .int),.val (.int p),t10,t11],?_,?_⟩
   ·refine ⟨ns,_,rfl,⟨by omega,by omega,hlen⟩,fun z1=>⟨rfl,mz,z1%(((z.map PyData.int).length:Nat):Int),⟨Int.emod_nonneg z1 (by omega),?_⟩,rfl⟩⟩
    have:=Int.emod_lt_of_pos z1 mz
    omega
   rintro e ⟨p,⟨p0,p1⟩,rfl⟩
   refine ⟨fun e => ∃ u:Int,(0≤u∧u<m)∧e=[.val (.list (ns.map .int)),.val (.int W),.val (dTab b R),.val (.int z0),.val (.int n),.non,.own (S.map dRow),.val (.int i),.own (z.map .int),.val (.int p),.val (.int u),t11],?_,?_⟩
   ·refine ⟨ns,_,rfl,⟨by omega,by omega,hlen⟩,fun z1=>⟨⟨by decide,by decide⟩,rfl,mz,z1/5%(((z.map PyData.int).length:Nat):Int),⟨Int.emod_nonneg _ (by omega),?_⟩,rfl⟩⟩
    have:=Int.emod_lt_of_pos (z1/5) mz
    omega
   rintro e ⟨u,⟨u0,u1⟩,rfl⟩
   have ez:z[p.toNat]?=some (z[p.toNat]'(by omega)):=List.getElem?_eq_getElem _
   have zn':=zn _ (List.mem_of_getElem? ez)
   generalize z[p.toNat]'(by omega)=x at ez zn'
   have az:atI (z.map PyData.int) p=some (.int x):=atI_int p0 (by rw [List.getElem?_map,ez]; rfl)
   refine ⟨fun e => ∃ y:Int,(0≤y∧y≤x)∧e=[.val (.list (ns.map .int)),.val (.int W),.val (dTab b R),.val (.int z0),.val (.int n),.non,.own (S.map dRow),.val (.int i),.own (z.map .int),.val (.int p),.val (.int u),.val (.int y)],?_,?_⟩
   ·refine ⟨rfl,rfl,.int x,az,ns,_,rfl,⟨by omega,by omega,hlen⟩,fun z3=>⟨⟨by decide,by decide⟩,by decide,_,?_,rfl⟩⟩
    split <;> omega
   rintro e ⟨y,⟨y0,y1⟩,rfl⟩
   have hp3:p<(((z.map PyData.int).length:Nat):Int):=by omega
   refine ⟨rfl,rfl,.int x,az,rfl,rfl,p.toNat,ixN_in p0 hp3,?_⟩
   obtain ⟨v,ev⟩ : ∃ v,v=z.set p.toNat (x-y):=⟨_,rfl⟩
   have vl:v.length=m:=by rw [ev,List.length_set,zl]
   have vn : ∀ w ∈ v,0≤w:=fun w hw=>by
    rw [ev] at hw
    rcases List.mem_or_eq_of_mem_set hw with q|q
    ·exact zn w q
    ·omega
   have vs:v.sum=2*b-y:=by
    rw [ev,set_sum' (by omega),ez,zs]
    show 2*b-x+(x-y)=_
    omega
   have ew:v[u.toNat]?=some (v[u.toNat]'(by omega)):=List.getElem?_eq_getElem _
   have vn':=vn _ (List.mem_of_getElem? ew)
   generalize v[u.toNat]'(by omega)=x2 at ew vn'
   have lv:(((v.map PyData.int).length:Nat):Int)=m:=by rw [List.length_map,vl]
   have av:atI (v.map PyData.int) u=some (.int x2):=atI_int u0 (by rw [List.getElem?_map,ew]; rfl)
   have evm:(z.map PyData.int).set p.toNat (.int (x-y))=v.map .int:=by rw [ev,List.map_set]
   have av':atI ((z.map PyData.int).set p.toNat (.int (x-y))) u=some (.int x2):=by rw [evm]; exact av
   have lv':u<((((z.map PyData.int).set p.toNat (.int (x-y))).length:Nat):Int):=by rw [evm,lv]; exact u1
   refine ⟨rfl,rfl,.int x2,av',rfl,rfl,u.toNat,ixN_in u0 lv',?_⟩
   have ef:((z.map PyData.int).set p.toNat (.int (x-y))).set u.toNat (.int (x2+y))=(v.set u.toNat (x2+y)).map .int:=by rw [evm,List.map_set]
   refine ⟨rfl,rfl,small1000 (by show (S.map dRow).length≤1000; rw [List.length_map]; omega),S++[v.set u.toNat (x2+y)],.val (.int i),.val (dRow (v.set u.toNat (x2+y))),.val (.int p),.val (.int u),.val (.int y),?_,⟨by omega,?_,?_,?_⟩,by simp [hi0]⟩
   ·have e8:dRow (v.set u.toNat (x2+y)) = .list (((z.map PyData.int).set p.toNat (.int (x-y))).set u.toNat (.int (x2+y))):=by unfold dRow; rw [ef]
    rw [List.map_append (f:=dRow),List.map_cons,List.map_nil,e8]; rfl
   ·intro r' hr'
    rcases List.mem_append.mp hr' with h|h
    ·exact hS.len r' h
    ·rw [List.mem_singleton.mp h,List.length_set]; exact vl
   ·intro r' hr'
    rcases List.mem_append.mp hr' with h|h
    ·exact hS.nn r' h
    ·rw [List.mem_singleton.mp h]
     intro w hw
     rcases List.mem_or_eq_of_mem_set hw with q|q
     ·exact vn w q
     ·omega
   ·intro r' hr'
    rcases List.mem_append.mp hr' with h|h
    ·exact hS.sum r' h
    ·rw [List.mem_singleton.mp h,set_sum' (by omega),ew,vs]
     show 2*b-y-x2+(x2+y)=_
     omega
  rintro e ⟨S,t7,t8,t9,t10,t11,rfl,hS,hSl⟩
  rw [rngD_len] at hSl
  exact ⟨_,rfl,IntMulOk.of_left (by decide),2*b,_,S,m,rfl,⟨rowsD_lst _,hS,by omega,by omega,by omega,by omega,bits_up (bits64 (by omega) (by omega)) (by decide)⟩,fun c S' G c1 l1 _ _=>h c S' m G (by omega) m1 m2 (by omega)⟩
def Told (t:Bool) (b:Int) (R:List (List Int)) (m:Nat) (c:Int) (S:List (List Int)) (n:Nat):Prop:=if t=true then ∃ B D,Dls b R m c S n B D else ∃ Y,Dcs b R m c S n Y
def wdT (t:Bool):PyData:=if t=true then .str "dulls" else .str "decision"
theorem told_t {t:Bool} {b:Int} {R:List (List Int)} {m:Nat} {c:Int} {S:List (List Int)} {n:Nat} (hb:0<b) (hc:0<c) (h:Told t b R m c S n) (k : ∃ B D,Dls b R m c S n B D):t=true:=by
 cases t with
 | true=>rfl
 | false =>
  obtain ⟨Y,hY⟩:=h
  obtain ⟨B,D,hD⟩:=k
  exact (no_both hb hc hD.u hY).elim
theorem told_f {t:Bool} {b:Int} {R:List (List Int)} {m:Nat} {c:Int} {S:List (List Int)} {n:Nat} (hb:0<b) (hc:0<c) (h:Told t b R m c S n) (k : ∃ Y,Dcs b R m c S n Y):t=false:=by
 cases t with
 | false=>rfl
 | true =>
  obtain ⟨B,D,hD⟩:=h
  obtain ⟨Y,hY⟩:=k
  exact (no_both hb hc hD.u hY).elim
theorem sc_law:FnScope ["_law_script","_law_cell_here","_law_world","_law_many","_law_bottom","_law_rows","_law_one","_law_other_here","_law_first","_law_second","_law_due","_law_found"] ["_law_script"] (defScope s_law):=⟨rfl,rfl,rfl,by decide +kernel,rfl,by decide +kernel,by decide +kernel⟩
theorem law_fn {f:Addr} {fd:FuncData} (F:Fun K "law" "law" s_law f fd) (T:Txt K mg cs)
 (O_glass_of:Ok P w K mg base "glass_of" 4 ["bottom","rows"] (PSp K sp_glass_ofL))
 (O_compared:Ok P w K mg base "compared" 6 ["one","other"] (PSp K sp_compared))
 (O_alike:Ok P w K mg base "alike" 8 ["one","other"] (PSp K sp_alike))
 (O__law_cell:Ok P w K mg base "_law_cell" 1 ["_law_script","_law_k"] (PSp K sp__law_cell))
 (O__law_glass:Ok P w K mg base "_law_glass" 2 ["_law_script","_law_at","_law_world","_law_many"] (PSp K sp__law_glassD))
 (O__law_word:Ok P w K mg base "_law_word" 7 ["_law_found","_law_one","_law_other_here"] (PSp K sp__law_word))
 (O__law_other:Ok P w K mg base "_law_other" 5 ["_law_script","_law_world","_law_one"] (PSp K sp__law_other))
 : FnOk P w K mg base CX0 9 f fd ["_law_script"] (spLaw K):=by
  refine F.vlaw sc_law rfl fun cdv A outer s H E hr ns hlen=>?_
  refine ⟨_,(vss_cons (vs_set (i:=1) sc_law.nd (ve_fn O__law_cell (hr.mono (by decide)) (va_cons (ve_var 0) (va_cons ve_int va_nil))))
   (vss_cons (vs_set (i:=2) sc_law.nd (ve_ix (vf_fz (vf_lst (va_cons ve_int (va_cons ve_int (va_cons ve_int (va_cons ve_int (va_cons ve_int va_nil))))))) (ve_op o_mod (ve_var 1) ve_int)))
   (vss_cons (vs_set (i:=3) sc_law.nd (ve_ix (vf_fz (vf_lst (va_cons ve_int (va_cons ve_int (va_cons ve_int (va_cons ve_int (va_cons ve_int (va_cons ve_int (va_cons ve_int (va_cons ve_int va_nil)))))))))) (ve_op o_mod (ve_op o_div (ve_var 1) ve_int) ve_int)))
   (vss_mid (vs_if (vt_cmp (o_eq hr.units) (ve_op o_mod (ve_op o_div (ve_var 1) ve_int) ve_int) ve_int) (vss_cons (vs_set (i:=2) sc_law.nd ve_int)
   (vss_one (vs_set (i:=3) sc_law.nd ve_int))) vss_nil)
   (vss_cons (vs_asg (ve_fn O__law_glass (hr.mono (by decide)) (va_cons (ve_var 0) (va_cons ve_int (va_cons (ve_var 2) (va_cons (ve_var 3) va_nil))))) (vg_tup (n:=2) rfl (vgs_cons (vg_name (i:=4) sc_law.nd) (vgs_cons (vg_name (i:=5) sc_law.nd) vgs_nil))))
   (vss_mid (vs_set (i:=6) sc_law.nd (ve_fn O_glass_of (hr.mono (by decide)) (va_cons (ve_var 4) (va_cons (ve_var 5) va_nil))))
   (vss_mid (vs_set (i:=7) sc_law.nd (ve_fn O__law_other (hr.mono (by decide)) (va_cons (ve_var 0) (va_cons (ve_var 2) (va_cons (ve_var 6) va_nil)))))
   (vss_mid (vs_set (i:=8) sc_law.nd (ve_fn O__law_word (hr.mono (by decide)) (va_cons (ve_fn O_compared (hr.mono (by decide)) (va_cons (ve_var 6) (va_cons (ve_var 7) va_nil))) (va_cons (ve_var 6) (va_cons (ve_var 7) va_nil)))))
   (vss_mid (vs_set (i:=9) sc_law.nd (ve_fn O__law_word (hr.mono (by decide)) (va_cons (ve_fn O_compared (hr.mono (by decide)) (va_cons (ve_var 7) (va_cons (ve_var 6) va_nil))) (va_cons (ve_var 7) (va_cons (ve_var 6) va_nil)))))
   (vss_cons (vs_if (VW.pt (vw_or (vt_cmp (o_eq hr.units) (ve_var 8) ve_str) (vw_or1 (vt_cmp (o_eq hr.units) (ve_var 9) ve_str)))) (vss_one (vs_ret ve_bl)) vss_nil)
   (vss_mid (vs_set (i:=10) sc_law.nd (ve_and (ve_cmp (o_eq hr.units) (ve_var 8) ve_str) (ve_one (ve_cmp (o_eq hr.units) (ve_var 9) ve_str))))
   (vss_cons (vs_set (i:=11) sc_law.nd (ve_fn O_alike (hr.mono (by decide)) (va_cons (ve_var 6) (va_cons (ve_var 7) va_nil))))
   (vss_one (vs_ret (ve_and (ve_isi T.isinstance_ T.bool_ L2.boot_bool (ve_var 11)) (ve_and (ve_cmp (o_eq hr.units) (ve_var 11) (ve_var 10)) (ve_one (ve_cmp (o_eq hr.units) (ve_fn O_alike (hr.mono (by decide)) (va_cons (ve_var 7) (va_cons (ve_var 6) va_nil))) (ve_var 10))))))))))))))))))),?_⟩
  refine ⟨ns,0,rfl,⟨by decide,by decide,hlen⟩,fun z=>?_⟩
  obtain ⟨W,eW,W1,W2⟩:=pk5 (z:=z%5) (by omega) (by omega)
  obtain ⟨m,em,m1,m2⟩:=pk8c (z:=z/5%8) (by omega) (by omega)
  refine ⟨szl,by decide,.int W,eW,szl,⟨by decide,by decide⟩,by decide,.int m,em,?_⟩
  refine ⟨fun e => ∃ W m:Nat,(2≤W∧W≤4∧1≤m∧m≤4)∧e=[.val (.list (ns.map .int)),.val (.int z),.val (.int W),.val (.int m),.non,.non,.non,.non,.non,.non,.non,.non],?_,?_⟩
  ·exact ⟨⟨by decide,by decide⟩,by decide,rfl,rfl,ite_eq (fun _=>⟨4,4,by decide,rfl⟩) (fun _=>⟨W,m,⟨W1,W2,m1,m2⟩,rfl⟩)⟩
  clear eW W1 W2 em m1 m2 W m
  rintro e ⟨W,m,⟨W1,W2,m1,m2⟩,rfl⟩
  refine ⟨ns,1,_,_,rfl,⟨hlen,by decide,by decide,by omega,by omega,by omega,by omega⟩,fun b0 R0 hT0 hl0 hb0=>?_⟩
  rw [Int.toNat_natCast] at hT0
  have b01:=hT0.pos
  refine ⟨rfl,rfl,fun e => ∃ (t4 t5:Sl) (b:Int) (R:List (List Int)),(Gls b R m∧R.length=W∧b≤500000)∧e=[.val (.list (ns.map .int)),.val (.int z),.val (.int W),.val (.int m),t4,t5,.val (dTab b R),.non,.non,.non,.non,.non],?_,?_⟩
  ·exact ⟨b0,_,R0,m,rfl,⟨rowsD_lst _,hT0,by omega,by omega,by omega,by omega,bits_up (bits64 (by omega) (by omega)) (by decide)⟩,fun b R G c1 l1 _ _=>⟨_,_,b,R,⟨G,by omega,by omega⟩,rfl⟩⟩
  clear hT0 hl0 hb0 b01
  rintro e ⟨t4,t5,b,R,⟨G1,l1,c1⟩,rfl⟩
  refine ⟨fun e => ∃ (c:Int) (S:List (List Int)) (n:Nat),CmpPre b R m c S n∧e=[.val (.list (ns.map .int)),.val (.int z),.val (.int W),.val (.int m),t4,t5,.val (dTab b R),.val (dTab c S),.non,.non,.non,.non],?_,?_⟩
  ·exact ⟨ns,W,b,R,m,rfl,⟨hlen,W1,W2,G1,l1,m1,m2,c1⟩,fun c S n G2 l2 n1 n2 c2=>⟨c,S,n,⟨G1.t,G2.t,by omega,by omega,by omega,m1,m2,n1,n2,by omega,by omega⟩,rfl⟩⟩
  rintro e ⟨c,S,n,hp,rfl⟩
  have hq:=hp.symm
  refine ⟨fun e => ∃ t:Bool,Told t b R m c S n∧e=[.val (.list (ns.map .int)),.val (.int z),.val (.int W),.val (.int m),t4,t5,.val (dTab b R),.val (dTab c S),.val (wdT t),.non,.non,.non],?_,?_⟩
  ·exact ⟨b,R,m,c,S,n,rfl,hp,fun B D hD=>⟨_,b,R,m,c,S,n,rfl,hp,.inl ⟨B,D,hD,rfl,true,⟨B,D,hD⟩,rfl⟩⟩,fun Y hY hz=>⟨_,b,R,m,c,S,n,rfl,hp,.inr ⟨Y,hY,hz,rfl,false,⟨Y,hY⟩,rfl⟩⟩⟩
  rintro e ⟨t,ht,rfl⟩
  refine ⟨fun e => ∃ u:Bool,Told u c S n b R m∧e=[.val (.list (ns.map .int)),.val (.int z),.val (.int W),.val (.int m),t4,t5,.val (dTab b R),.val (dTab c S),.val (wdT t),.val (wdT u),.non,.non],?_,?_⟩
  ·exact ⟨c,S,n,b,R,m,rfl,hq,fun B D hD=>⟨_,c,S,n,b,R,m,rfl,hq,.inl ⟨B,D,hD,rfl,true,⟨B,D,hD⟩,rfl⟩⟩,fun Y hY hz=>⟨_,c,S,n,b,R,m,rfl,hq,.inr ⟨Y,hY,hz,rfl,false,⟨Y,hY⟩,rfl⟩⟩⟩
  rintro e ⟨u,hu,rfl⟩
  have sh0:=shpS (x := "") 0 (by decide +kernel)
  have shD:=shpS (x := "dulls") 0 (by decide +kernel)
  have shW : ∀ t,Shp 0 (wdT t):=fun t=>by
   cases t
   ·exact shpS (x := "decision") 0 (by decide +kernel)
   ·exact shD
  have nW : ∀ t,PyData.eqv (wdT t) (.str "")=false:=fun t=>by cases t <;> decide +kernel
  have eW : ∀ t,PyData.eqv (wdT t) (.str "dulls")=t:=fun t=>by cases t <;> decide +kernel
  refine ⟨(shW t).ok,sh0.ok,iteZ (nW t) ⟨(shW u).ok,sh0.ok,iteZ (nW u) ?_⟩⟩
  have bp:=hp.r.pos
  have cp:=hp.s.pos
  have yes:(∃ B D,Dls b R m c S n B D)→(∃ B D,Dls c S n b R m B D)→(t&&u)=true:=fun h1 h2=>by
   rw [told_t (by omega) (by omega) ht h1,told_t (by omega) (by omega) hu h2]; rfl
  have no:(∃ W,Dcs b R m c S n W)∨(∃ W,Dcs c S n b R m W)→(t&&u)=false:=fun h=>by
   rcases h with h|h
   ·rw [told_f (by omega) (by omega) ht h]; rfl
   ·rw [told_f (by omega) (by omega) hu h,Bool.and_false]
  refine ⟨fun e=>e=[.val (.list (ns.map .int)),.val (.int z),.val (.int W),.val (.int m),t4,t5,.val (dTab b R),.val (dTab c S),.val (wdT t),.val (wdT u),.val (.bool (t&&u)),.non],?_,?_⟩
  ·refine ⟨(shW t).ok,shD.ok,iteB (fun h1=>⟨(shW u).ok,shD.ok,?_⟩) (fun h1=>?_)⟩
   ·rw [eW t] at h1
    rw [eW u,h1]; rfl
   ·rw [eW t] at h1
    rw [h1]; rfl
  generalize (t&&u)=v at yes no
  rintro e rfl
  refine ⟨b,R,m,c,S,n,rfl,hp,fun h1 h2=>?_,fun h=>?_⟩
  ·have ev:=yes h1 h2
   subst ev
   refine ⟨(shp_bool _ 0).ok,(shp_bool _ 0).ok,?_⟩
   exact ⟨c,S,n,b,R,m,rfl,hq,fun _ _=>⟨(shp_bool _ 0).ok,(shp_bool _ 0).ok,rfl⟩,fun h=>(by have:=no h.symm; cases this)⟩
  ·have ev:=no h
   subst ev
   refine ⟨(shp_bool _ 0).ok,(shp_bool _ 0).ok,?_⟩
   exact ⟨c,S,n,b,R,m,rfl,hq,fun h1 h2=>(by have:=yes h2 h1; cases this),fun _=>⟨(shp_bool _ 0).ok,(shp_bool _ 0).ok,rfl⟩⟩
end
theorem us_s {α:Type} {n:Nat} {us:List α} (h:us.length=n+1) : ∃ a r,us=a::r∧r.length=n:=by
 cases us with
 | nil=>cases h
 | cons a r=>exact ⟨a,r,rfl,Nat.succ.inj h⟩
theorem us1 {α:Type} {us:List α} (h:us.length=1) : ∃ a0:α,us=[a0]:=by
 obtain ⟨a0,u0,rfl,h0⟩:=us_s h
 cases u0 with
 | nil=>exact ⟨a0,rfl⟩
 | cons _ _=>cases h0
theorem us2 {α:Type} {us:List α} (h:us.length=2) : ∃ a0 a1:α,us=[a0,a1]:=by
 obtain ⟨a0,u0,rfl,h0⟩:=us_s h
 obtain ⟨a1,u1,rfl,h1⟩:=us_s h0
 cases u1 with
 | nil=>exact ⟨a0,a1,rfl⟩
 | cons _ _=>cases h1
theorem us3 {α:Type} {us:List α} (h:us.length=3) : ∃ a0 a1 a2:α,us=[a0,a1,a2]:=by
 obtain ⟨a0,u0,rfl,h0⟩:=us_s h
 obtain ⟨a1,u1,rfl,h1⟩:=us_s h0
 obtain ⟨a2,u2,rfl,h2⟩:=us_s h1
 cases u2 with
 | nil=>exact ⟨a0,a1,a2,rfl⟩
 | cons _ _=>cases h2
theorem us4 {α:Type} {us:List α} (h:us.length=4) : ∃ a0 a1 a2 a3:α,us=[a0,a1,a2,a3]:=by
 obtain ⟨a0,u0,rfl,h0⟩:=us_s h
 obtain ⟨a1,u1,rfl,h1⟩:=us_s h0
 obtain ⟨a2,u2,rfl,h2⟩:=us_s h1
 obtain ⟨a3,u3,rfl,h3⟩:=us_s h2
 cases u3 with
 | nil=>exact ⟨a0,a1,a2,a3,rfl⟩
 | cons _ _=>cases h3
inductive LK (K:PySem.W.Frag) (x q:Str) (st:Stmt) (f:Addr):Prop
 | mk {oc kV dc pm cd ct:Value} {od an:Option Addr} {sl:Array (Option Value)} (l:K.lookup f=some ⟨oc,od,.func (PySem.W.fnOf x q (defArgs st) (defBody st) (defScope st) .none kV dc pm an cd ct),sl⟩) (c:PySem.W.codeIn K cd q=true) (k:PySem.W.keepIn K (.ref f)=true):LK K x q st f
theorem LK.fn {K:PySem.W.Frag} {x q:Str} {st:Stmt} {f:Addr} (h:LK K x q st f):(∃ fd,Fun K x q st f fd)∧PySem.W.keepIn K (.ref f)=true:=by
 cases h with
 | mk l c k=>exact ⟨⟨_,fun_mk l c k⟩,k⟩
theorem all_mk {l:PySem.W.OpenLaw} {w:World} {K:PySem.W.Frag} {h:Heap} {mg:Str→Option Value} {fa:Addr} (X:K.In h) (G:h.Ns mainGlobals mg) (hfa:mg "law" = some (.ref fa))
 {f0:Addr} (a0:PySem.W.nsIn K mainGlobals "is_whole" = some (some (.ref f0))) (l0:LK K "is_whole" "is_whole" s_is_whole f0)
 {f1:Addr} (a1:PySem.W.nsIn K mainGlobals "makes_row" = some (some (.ref f1))) (l1:LK K "makes_row" "makes_row" s_makes_row f1)
 {f2:Addr} (a2:PySem.W.nsIn K mainGlobals "makes_table" = some (some (.ref f2))) (l2:LK K "makes_table" "makes_table" s_makes_table f2)
 {f3:Addr} (a3:PySem.W.nsIn K mainGlobals "divisor" = some (some (.ref f3))) (l3:LK K "divisor" "divisor" s_divisor f3)
 {f4:Addr} (a4:PySem.W.nsIn K mainGlobals "common_divisor" = some (some (.ref f4))) (l4:LK K "common_divisor" "common_divisor" s_common_divisor f4)
 {f5:Addr} (a5:PySem.W.nsIn K mainGlobals "divided" = some (some (.ref f5))) (l5:LK K "divided" "divided" s_divided f5)
 {f6:Addr} (a6:PySem.W.nsIn K mainGlobals "lowest_table" = some (some (.ref f6))) (l6:LK K "lowest_table" "lowest_table" s_lowest_table f6)
 {f7:Addr} (a7:PySem.W.nsIn K mainGlobals "glass_of" = some (some (.ref f7))) (l7:LK K "glass_of" "glass_of" s_glass_of f7)
 {f8:Addr} (a8:PySem.W.nsIn K mainGlobals "stands" = some (some (.ref f8))) (l8:LK K "stands" "stands" s_stands f8)
 {f9:Addr} (a9:PySem.W.nsIn K mainGlobals "signs" = some (some (.ref f9))) (l9:LK K "signs" "signs" s_signs f9)
 {f10:Addr} (a10:PySem.W.nsIn K mainGlobals "check_alike_stands" = some (some (.ref f10))) (l10:LK K "check_alike_stands" "check_alike_stands" s_check_alike_stands f10)
 {f11:Addr} (a11:PySem.W.nsIn K mainGlobals "first_above" = some (some (.ref f11))) (l11:LK K "first_above" "first_above" s_first_above f11)
 {f12:Addr} (a12:PySem.W.nsIn K mainGlobals "lowest" = some (some (.ref f12))) (l12:LK K "lowest" "lowest" s_lowest f12)
 {f13:Addr} (a13:PySem.W.nsIn K mainGlobals "first_line" = some (some (.ref f13))) (l13:LK K "first_line" "first_line" s_first_line f13)
 {c_Board:Addr} (b_Board:PySem.W.nsIn K mainGlobals "Board" = some (some (.ref c_Board)))
 {f14:Addr} (a14:PySem.W.findIn K (.ref c_Board) "__init__" = some (some (.ref f14))) (l14:LK K "__init__" "Board.__init__" s_Board___init__ f14) (n14:PySem.W.isFn K (.ref f14)=true)
 {f15:Addr} (a15:PySem.W.findIn K (.ref c_Board) "lack" = some (some (.ref f15))) (l15:LK K "lack" "Board.lack" s_Board_lack f15) (n15:PySem.W.isFn K (.ref f15)=true)
 {f16:Addr} (a16:PySem.W.findIn K (.ref c_Board) "is_tighter" = some (some (.ref f16))) (l16:LK K "is_tighter" "Board.is_tighter" s_Board_is_tighter f16) (n16:PySem.W.isFn K (.ref f16)=true)
 {f17:Addr} (a17:PySem.W.findIn K (.ref c_Board) "tightest" = some (some (.ref f17))) (l17:LK K "tightest" "Board.tightest" s_Board_tightest f17) (n17:PySem.W.isFn K (.ref f17)=true)
 {f18:Addr} (a18:PySem.W.nsIn K mainGlobals "cleared" = some (some (.ref f18))) (l18:LK K "cleared" "cleared" s_cleared f18)
 {f19:Addr} (a19:PySem.W.findIn K (.ref c_Board) "bring_in" = some (some (.ref f19))) (l19:LK K "bring_in" "Board.bring_in" s_Board_bring_in f19) (n19:PySem.W.isFn K (.ref f19)=true)
 {f20:Addr} (a20:PySem.W.nsIn K mainGlobals "reduced" = some (some (.ref f20))) (l20:LK K "reduced" "reduced" s_reduced f20)
 {f21:Addr} (a21:PySem.W.nsIn K mainGlobals "share" = some (some (.ref f21))) (l21:LK K "share" "share" s_share f21)
 {f22:Addr} (a22:PySem.W.findIn K (.ref c_Board) "told" = some (some (.ref f22))) (l22:LK K "told" "Board.told" s_Board_told f22) (n22:PySem.W.isFn K (.ref f22)=true)
 {f23:Addr} (a23:PySem.W.nsIn K mainGlobals "solved" = some (some (.ref f23))) (l23:LK K "solved" "solved" s_solved f23)
 {f24:Addr} (a24:PySem.W.nsIn K mainGlobals "check_few_signs" = some (some (.ref f24))) (l24:LK K "check_few_signs" "check_few_signs" s_check_few_signs f24)
 {f25:Addr} (a25:PySem.W.nsIn K mainGlobals "seen_as" = some (some (.ref f25))) (l25:LK K "seen_as" "seen_as" s_seen_as f25)
 {f26:Addr} (a26:PySem.W.nsIn K mainGlobals "shown_in_all" = some (some (.ref f26))) (l26:LK K "shown_in_all" "shown_in_all" s_shown_in_all f26)
 {f27:Addr} (a27:PySem.W.nsIn K mainGlobals "equations" = some (some (.ref f27))) (l27:LK K "equations" "equations" s_equations f27)
 {f28:Addr} (a28:PySem.W.nsIn K mainGlobals "wanted_sums" = some (some (.ref f28))) (l28:LK K "wanted_sums" "wanted_sums" s_wanted_sums f28)
 {f29:Addr} (a29:PySem.W.nsIn K mainGlobals "is_share" = some (some (.ref f29))) (l29:LK K "is_share" "is_share" s_is_share f29)
 {f30:Addr} (a30:PySem.W.nsIn K mainGlobals "check_shares" = some (some (.ref f30))) (l30:LK K "check_shares" "check_shares" s_check_shares f30)
 {f31:Addr} (a31:PySem.W.nsIn K mainGlobals "times" = some (some (.ref f31))) (l31:LK K "times" "times" s_times f31)
 {f32:Addr} (a32:PySem.W.nsIn K mainGlobals "over_bottom" = some (some (.ref f32))) (l32:LK K "over_bottom" "over_bottom" s_over_bottom f32)
 {f33:Addr} (a33:PySem.W.nsIn K mainGlobals "table_of_shares" = some (some (.ref f33))) (l33:LK K "table_of_shares" "table_of_shares" s_table_of_shares f33)
 {f34:Addr} (a34:PySem.W.nsIn K mainGlobals "in_rows" = some (some (.ref f34))) (l34:LK K "in_rows" "in_rows" s_in_rows f34)
 {f35:Addr} (a35:PySem.W.nsIn K mainGlobals "dulling_by" = some (some (.ref f35))) (l35:LK K "dulling_by" "dulling_by" s_dulling_by f35)
 {f36:Addr} (a36:PySem.W.nsIn K mainGlobals "compared" = some (some (.ref f36))) (l36:LK K "compared" "compared" s_compared f36)
 {f37:Addr} (a37:PySem.W.nsIn K mainGlobals "dulls_into" = some (some (.ref f37))) (l37:LK K "dulls_into" "dulls_into" s_dulls_into f37)
 {f38:Addr} (a38:PySem.W.nsIn K mainGlobals "alike" = some (some (.ref f38))) (l38:LK K "alike" "alike" s_alike f38)
 {f39:Addr} (a39:PySem.W.nsIn K mainGlobals "_law_cell" = some (some (.ref f39))) (l39:LK K "_law_cell" "_law_cell" s__law_cell f39)
 {f40:Addr} (a40:PySem.W.nsIn K mainGlobals "_law_drawn" = some (some (.ref f40))) (l40:LK K "_law_drawn" "_law_drawn" s__law_drawn f40)
 {f41:Addr} (a41:PySem.W.nsIn K mainGlobals "_law_glass" = some (some (.ref f41))) (l41:LK K "_law_glass" "_law_glass" s__law_glass f41)
 {f42:Addr} (a42:PySem.W.nsIn K mainGlobals "_law_whole" = some (some (.ref f42))) (l42:LK K "_law_whole" "_law_whole" s__law_whole f42)
 {f43:Addr} (a43:PySem.W.nsIn K mainGlobals "_law_is_dulling" = some (some (.ref f43))) (l43:LK K "_law_is_dulling" "_law_is_dulling" s__law_is_dulling f43)
 {f44:Addr} (a44:PySem.W.nsIn K mainGlobals "_law_dulls" = some (some (.ref f44))) (l44:LK K "_law_dulls" "_law_dulls" s__law_dulls f44)
 {f45:Addr} (a45:PySem.W.nsIn K mainGlobals "below" = some (some (.ref f45))) (l45:LK K "below" "below" s_below f45)
 {f46:Addr} (a46:PySem.W.nsIn K mainGlobals "check_payoffs" = some (some (.ref f46))) (l46:LK K "check_payoffs" "check_payoffs" s_check_payoffs f46)
 {f47:Addr} (a47:PySem.W.nsIn K mainGlobals "is_plan" = some (some (.ref f47))) (l47:LK K "is_plan" "is_plan" s_is_plan f47)
 {f48:Addr} (a48:PySem.W.nsIn K mainGlobals "column" = some (some (.ref f48))) (l48:LK K "column" "column" s_column f48)
 {f49:Addr} (a49:PySem.W.nsIn K mainGlobals "paired" = some (some (.ref f49))) (l49:LK K "paired" "paired" s_paired f49)
 {f50:Addr} (a50:PySem.W.nsIn K mainGlobals "worth" = some (some (.ref f50))) (l50:LK K "worth" "worth" s_worth f50)
 {f51:Addr} (a51:PySem.W.nsIn K mainGlobals "gain" = some (some (.ref f51))) (l51:LK K "gain" "gain" s_gain f51)
 {f52:Addr} (a52:PySem.W.nsIn K mainGlobals "first_best_act" = some (some (.ref f52))) (l52:LK K "first_best_act" "first_best_act" s_first_best_act f52)
 {f53:Addr} (a53:PySem.W.nsIn K mainGlobals "best" = some (some (.ref f53))) (l53:LK K "best" "best" s_best f53)
 {f54:Addr} (a54:PySem.W.nsIn K mainGlobals "_law_best" = some (some (.ref f54))) (l54:LK K "_law_best" "_law_best" s__law_best f54)
 {f55:Addr} (a55:PySem.W.nsIn K mainGlobals "_law_more" = some (some (.ref f55))) (l55:LK K "_law_more" "_law_more" s__law_more f55)
 {f56:Addr} (a56:PySem.W.nsIn K mainGlobals "_law_word" = some (some (.ref f56))) (l56:LK K "_law_word" "_law_word" s__law_word f56)
 {f57:Addr} (a57:PySem.W.nsIn K mainGlobals "_law_other" = some (some (.ref f57))) (l57:LK K "_law_other" "_law_other" s__law_other f57)
 {f58:Addr} {od58 an58:Option Addr} {sl58:Array (Option Value)} {oc58 kV58 dc58 pm58 cd58 ct58:Value}
 (a58:PySem.W.nsIn K mainGlobals "law" = some (some (.ref f58))) (l58:K.lookup f58=some ⟨oc58,od58,.func (PySem.W.fnOf "law" "law" (defArgs s_law) (defBody s_law) (defScope s_law) .none kV58 dc58 pm58 an58 cd58 ct58),sl58⟩) (c58:PySem.W.codeIn K cd58 "law" = true) (k58:PySem.W.keepIn K (.ref f58)=true)
 (z_abs:PySem.W.nsIn K mainGlobals "abs" = some none)
 (z_all:PySem.W.nsIn K mainGlobals "all" = some none)
 (z_bool:PySem.W.nsIn K mainGlobals "bool" = some none)
 (z_enumerate:PySem.W.nsIn K mainGlobals "enumerate" = some none)
 (z_int:PySem.W.nsIn K mainGlobals "int" = some none)
 (z_isinstance:PySem.W.nsIn K mainGlobals "isinstance" = some none)
 (z_len:PySem.W.nsIn K mainGlobals "len" = some none)
 (z_list:PySem.W.nsIn K mainGlobals "list" = some none)
 (z_max:PySem.W.nsIn K mainGlobals "max" = some none)
 (z_min:PySem.W.nsIn K mainGlobals "min" = some none)
 (z_range:PySem.W.nsIn K mainGlobals "range" = some none)
 (z_sorted:PySem.W.nsIn K mainGlobals "sorted" = some none)
 (z_sum:PySem.W.nsIn K mainGlobals "sum" = some none)
 (z_tuple:PySem.W.nsIn K mainGlobals "tuple" = some none)
 (z_zip:PySem.W.nsIn K mainGlobals "zip" = some none)
 {t_FEWEST_STANDS:Tok} (y_FEWEST_STANDS:PySem.W.nsIn K mainGlobals "FEWEST_STANDS" = some (some (.int 2 t_FEWEST_STANDS)))
 {t_MOST_COMPARED:Tok} (y_MOST_COMPARED:PySem.W.nsIn K mainGlobals "MOST_COMPARED" = some (some (.int 4 t_MOST_COMPARED)))
 {t_MOST_ROWS:Tok} (y_MOST_ROWS:PySem.W.nsIn K mainGlobals "MOST_ROWS" = some (some (.int 24 t_MOST_ROWS)))
 {t_MOST_SIGNS:Tok} (y_MOST_SIGNS:PySem.W.nsIn K mainGlobals "MOST_SIGNS" = some (some (.int 12 t_MOST_SIGNS)))
 {t_MOST_STANDS:Tok} (y_MOST_STANDS:PySem.W.nsIn K mainGlobals "MOST_STANDS" = some (some (.int 4 t_MOST_STANDS)))
 {t_MOST_UNKNOWNS:Tok} (y_MOST_UNKNOWNS:PySem.W.nsIn K mainGlobals "MOST_UNKNOWNS" = some (some (.int 20 t_MOST_UNKNOWNS)))
 (f_Board_c_pg:PySem.W.plainGet K c_Board Str.empty=true)
 (f_Board_c_hd:PySem.W.hasDictIn K c_Board=true)
 (f_Board_c_po:PySem.W.plainOver K c_Board=true)
 (f_Board_c_sa:PySem.W.findIn K (.ref c_Board) "__setattr__" = some (some (.builtin "object.__setattr__")))
 (f_Board_mk:PySem.W.makesIn K c_Board=true)
 (f_Board_kp:PySem.W.keepIn K (.ref c_Board)=true)
 (f_Board_n_bottom:PySem.W.findIn K (.ref c_Board) "bottom" = some none)
 (f_Board_n_lines:PySem.W.findIn K (.ref c_Board) "lines" = some none)
 (f_Board_n_stands_for:PySem.W.findIn K (.ref c_Board) "stands_for" = some none)
 (f_Board_n_unknowns:PySem.W.findIn K (.ref c_Board) "unknowns" = some none)
 : ∃ fd:FuncData,(∀ (s:Shared) (v:Value),BindsTo s fd ⟨[v],[]⟩ [("_law_script",v)]) ∧ ∀ base:Heap,K.In base→base.Ns mainGlobals mg→FnOk l.prog w K mg base CX0 9 fa fd ["_law_script"] (spLaw K):=by
  have e:=hfa.symm.trans (PySem.W.mg_of X G a58)
  cases e
  have T:Txt K mg ⟨c_Board⟩:=⟨PySem.W.mg_of X G b_Board,⟨f_Board_c_pg,f_Board_c_hd,f_Board_c_po,f_Board_c_sa⟩,f_Board_mk,f_Board_kp,f_Board_n_bottom,f_Board_n_lines,f_Board_n_stands_for,f_Board_n_unknowns,PySem.W.mg_none_of X G z_abs,PySem.W.mg_none_of X G z_all,PySem.W.mg_none_of X G z_bool,PySem.W.mg_none_of X G z_enumerate,PySem.W.mg_none_of X G z_int,PySem.W.mg_none_of X G z_isinstance,PySem.W.mg_none_of X G z_len,PySem.W.mg_none_of X G z_list,PySem.W.mg_none_of X G z_max,PySem.W.mg_none_of X G z_min,PySem.W.mg_none_of X G z_range,PySem.W.mg_none_of X G z_sorted,PySem.W.mg_none_of X G z_sum,PySem.W.mg_none_of X G z_tuple,PySem.W.mg_none_of X G z_zip,⟨_,PySem.W.mg_of X G y_FEWEST_STANDS⟩,⟨_,PySem.W.mg_of X G y_MOST_COMPARED⟩,⟨_,PySem.W.mg_of X G y_MOST_ROWS⟩,⟨_,PySem.W.mg_of X G y_MOST_SIGNS⟩,⟨_,PySem.W.mg_of X G y_MOST_STANDS⟩,⟨_,PySem.W.mg_of X G y_MOST_UNKNOWNS⟩⟩
  obtain ⟨⟨_,F0⟩,k0⟩:=l0.fn
  have D0:Def K mg "is_whole" s_is_whole ["thing"]:=⟨_,_,F0,PySem.W.mg_of X G a0,F0.binds (ps:=["thing"]) fun _ _ _ _ _ _ us hl=>by obtain ⟨_,rfl⟩:=us1 hl; rfl⟩
  obtain ⟨⟨_,F1⟩,k1⟩:=l1.fn
  have D1:Def K mg "makes_row" s_makes_row ["row","bottom"]:=⟨_,_,F1,PySem.W.mg_of X G a1,F1.binds (ps:=["row","bottom"]) fun _ _ _ _ _ _ us hl=>by obtain ⟨_,_,rfl⟩:=us2 hl; rfl⟩
  obtain ⟨⟨_,F2⟩,k2⟩:=l2.fn
  have D2:Def K mg "makes_table" s_makes_table ["bottom","rows","fewest","most"]:=⟨_,_,F2,PySem.W.mg_of X G a2,F2.binds (ps:=["bottom","rows","fewest","most"]) fun _ _ _ _ _ _ us hl=>by obtain ⟨_,_,_,_,rfl⟩:=us4 hl; rfl⟩
  obtain ⟨⟨_,F3⟩,k3⟩:=l3.fn
  have D3:Def K mg "divisor" s_divisor ["one","other"]:=⟨_,_,F3,PySem.W.mg_of X G a3,F3.binds (ps:=["one","other"]) fun _ _ _ _ _ _ us hl=>by obtain ⟨_,_,rfl⟩:=us2 hl; rfl⟩
  obtain ⟨⟨_,F4⟩,k4⟩:=l4.fn
  have D4:Def K mg "common_divisor" s_common_divisor ["rows"]:=⟨_,_,F4,PySem.W.mg_of X G a4,F4.binds (ps:=["rows"]) fun _ _ _ _ _ _ us hl=>by obtain ⟨_,rfl⟩:=us1 hl; rfl⟩
  obtain ⟨⟨_,F5⟩,k5⟩:=l5.fn
  have D5:Def K mg "divided" s_divided ["row","common"]:=⟨_,_,F5,PySem.W.mg_of X G a5,F5.binds (ps:=["row","common"]) fun _ _ _ _ _ _ us hl=>by obtain ⟨_,_,rfl⟩:=us2 hl; rfl⟩
  obtain ⟨⟨_,F6⟩,k6⟩:=l6.fn
  have D6:Def K mg "lowest_table" s_lowest_table ["bottom","rows"]:=⟨_,_,F6,PySem.W.mg_of X G a6,F6.binds (ps:=["bottom","rows"]) fun _ _ _ _ _ _ us hl=>by obtain ⟨_,_,rfl⟩:=us2 hl; rfl⟩
  obtain ⟨⟨_,F7⟩,k7⟩:=l7.fn
  have D7:Def K mg "glass_of" s_glass_of ["bottom","rows"]:=⟨_,_,F7,PySem.W.mg_of X G a7,F7.binds (ps:=["bottom","rows"]) fun _ _ _ _ _ _ us hl=>by obtain ⟨_,_,rfl⟩:=us2 hl; rfl⟩
  obtain ⟨⟨_,F8⟩,k8⟩:=l8.fn
  have D8:Def K mg "stands" s_stands ["glass"]:=⟨_,_,F8,PySem.W.mg_of X G a8,F8.binds (ps:=["glass"]) fun _ _ _ _ _ _ us hl=>by obtain ⟨_,rfl⟩:=us1 hl; rfl⟩
  obtain ⟨⟨_,F9⟩,k9⟩:=l9.fn
  have D9:Def K mg "signs" s_signs ["glass"]:=⟨_,_,F9,PySem.W.mg_of X G a9,F9.binds (ps:=["glass"]) fun _ _ _ _ _ _ us hl=>by obtain ⟨_,rfl⟩:=us1 hl; rfl⟩
  obtain ⟨⟨_,F10⟩,k10⟩:=l10.fn
  have D10:Def K mg "check_alike_stands" s_check_alike_stands ["one","other"]:=⟨_,_,F10,PySem.W.mg_of X G a10,F10.binds (ps:=["one","other"]) fun _ _ _ _ _ _ us hl=>by obtain ⟨_,_,rfl⟩:=us2 hl; rfl⟩
  obtain ⟨⟨_,F11⟩,k11⟩:=l11.fn
  have D11:Def K mg "first_above" s_first_above ["numbers"]:=⟨_,_,F11,PySem.W.mg_of X G a11,F11.binds (ps:=["numbers"]) fun _ _ _ _ _ _ us hl=>by obtain ⟨_,rfl⟩:=us1 hl; rfl⟩
  obtain ⟨⟨_,F12⟩,k12⟩:=l12.fn
  have D12:Def K mg "lowest" s_lowest ["weights"]:=⟨_,_,F12,PySem.W.mg_of X G a12,F12.binds (ps:=["weights"]) fun _ _ _ _ _ _ us hl=>by obtain ⟨_,rfl⟩:=us1 hl; rfl⟩
  obtain ⟨⟨_,F13⟩,k13⟩:=l13.fn
  have D13:Def K mg "first_line" s_first_line ["row","total","k","many"]:=⟨_,_,F13,PySem.W.mg_of X G a13,F13.binds (ps:=["row","total","k","many"]) fun _ _ _ _ _ _ us hl=>by obtain ⟨_,_,_,_,rfl⟩:=us4 hl; rfl⟩
  obtain ⟨⟨_,F14⟩,k14⟩:=l14.fn
  have D14:MDef K c_Board "__init__" "Board.__init__" s_Board___init__ ["self","unknowns","rows","sums"]:=⟨_,_,F14,⟨a14,n14,k14⟩,F14.binds (ps:=["self","unknowns","rows","sums"]) fun _ _ _ _ _ _ us hl=>by obtain ⟨_,_,_,_,rfl⟩:=us4 hl; rfl⟩
  obtain ⟨⟨_,F15⟩,k15⟩:=l15.fn
  have D15:MDef K c_Board "lack" "Board.lack" s_Board_lack ["self"]:=⟨_,_,F15,⟨a15,n15,k15⟩,F15.binds (ps:=["self"]) fun _ _ _ _ _ _ us hl=>by obtain ⟨_,rfl⟩:=us1 hl; rfl⟩
  obtain ⟨⟨_,F16⟩,k16⟩:=l16.fn
  have D16:MDef K c_Board "is_tighter" "Board.is_tighter" s_Board_is_tighter ["self","k","chosen","place"]:=⟨_,_,F16,⟨a16,n16,k16⟩,F16.binds (ps:=["self","k","chosen","place"]) fun _ _ _ _ _ _ us hl=>by obtain ⟨_,_,_,_,rfl⟩:=us4 hl; rfl⟩
  obtain ⟨⟨_,F17⟩,k17⟩:=l17.fn
  have D17:MDef K c_Board "tightest" "Board.tightest" s_Board_tightest ["self","place"]:=⟨_,_,F17,⟨a17,n17,k17⟩,F17.binds (ps:=["self","place"]) fun _ _ _ _ _ _ us hl=>by obtain ⟨_,_,rfl⟩:=us2 hl; rfl⟩
  obtain ⟨⟨_,F18⟩,k18⟩:=l18.fn
  have D18:Def K mg "cleared" s_cleared ["line","pivot","place","bottom"]:=⟨_,_,F18,PySem.W.mg_of X G a18,F18.binds (ps:=["line","pivot","place","bottom"]) fun _ _ _ _ _ _ us hl=>by obtain ⟨_,_,_,_,rfl⟩:=us4 hl; rfl⟩
  obtain ⟨⟨_,F19⟩,k19⟩:=l19.fn
  have D19:MDef K c_Board "bring_in" "Board.bring_in" s_Board_bring_in ["self","place"]:=⟨_,_,F19,⟨a19,n19,k19⟩,F19.binds (ps:=["self","place"]) fun _ _ _ _ _ _ us hl=>by obtain ⟨_,_,rfl⟩:=us2 hl; rfl⟩
  obtain ⟨⟨_,F20⟩,k20⟩:=l20.fn
  have D20:Def K mg "reduced" s_reduced ["top","bottom"]:=⟨_,_,F20,PySem.W.mg_of X G a20,F20.binds (ps:=["top","bottom"]) fun _ _ _ _ _ _ us hl=>by obtain ⟨_,_,rfl⟩:=us2 hl; rfl⟩
  obtain ⟨⟨_,F21⟩,k21⟩:=l21.fn
  have D21:Def K mg "share" s_share ["top","bottom"]:=⟨_,_,F21,PySem.W.mg_of X G a21,F21.binds (ps:=["top","bottom"]) fun _ _ _ _ _ _ us hl=>by obtain ⟨_,_,rfl⟩:=us2 hl; rfl⟩
  obtain ⟨⟨_,F22⟩,k22⟩:=l22.fn
  have D22:MDef K c_Board "told" "Board.told" s_Board_told ["self"]:=⟨_,_,F22,⟨a22,n22,k22⟩,F22.binds (ps:=["self"]) fun _ _ _ _ _ _ us hl=>by obtain ⟨_,rfl⟩:=us1 hl; rfl⟩
  obtain ⟨⟨_,F23⟩,k23⟩:=l23.fn
  have D23:Def K mg "solved" s_solved ["rows","sums"]:=⟨_,_,F23,PySem.W.mg_of X G a23,F23.binds (ps:=["rows","sums"]) fun _ _ _ _ _ _ us hl=>by obtain ⟨_,_,rfl⟩:=us2 hl; rfl⟩
  obtain ⟨⟨_,F24⟩,k24⟩:=l24.fn
  have D24:Def K mg "check_few_signs" s_check_few_signs ["glass"]:=⟨_,_,F24,PySem.W.mg_of X G a24,F24.binds (ps:=["glass"]) fun _ _ _ _ _ _ us hl=>by obtain ⟨_,rfl⟩:=us1 hl; rfl⟩
  obtain ⟨⟨_,F25⟩,k25⟩:=l25.fn
  have D25:Def K mg "seen_as" s_seen_as ["row","new","many"]:=⟨_,_,F25,PySem.W.mg_of X G a25,F25.binds (ps:=["row","new","many"]) fun _ _ _ _ _ _ us hl=>by obtain ⟨_,_,_,rfl⟩:=us3 hl; rfl⟩
  obtain ⟨⟨_,F26⟩,k26⟩:=l26.fn
  have D26:Def K mg "shown_in_all" s_shown_in_all ["one","old","many"]:=⟨_,_,F26,PySem.W.mg_of X G a26,F26.binds (ps:=["one","old","many"]) fun _ _ _ _ _ _ us hl=>by obtain ⟨_,_,_,rfl⟩:=us3 hl; rfl⟩
  obtain ⟨⟨_,F27⟩,k27⟩:=l27.fn
  have D27:Def K mg "equations" s_equations ["one","other"]:=⟨_,_,F27,PySem.W.mg_of X G a27,F27.binds (ps:=["one","other"]) fun _ _ _ _ _ _ us hl=>by obtain ⟨_,_,rfl⟩:=us2 hl; rfl⟩
  obtain ⟨⟨_,F28⟩,k28⟩:=l28.fn
  have D28:Def K mg "wanted_sums" s_wanted_sums ["one","other"]:=⟨_,_,F28,PySem.W.mg_of X G a28,F28.binds (ps:=["one","other"]) fun _ _ _ _ _ _ us hl=>by obtain ⟨_,_,rfl⟩:=us2 hl; rfl⟩
  obtain ⟨⟨_,F29⟩,k29⟩:=l29.fn
  have D29:Def K mg "is_share" s_is_share ["thing"]:=⟨_,_,F29,PySem.W.mg_of X G a29,F29.binds (ps:=["thing"]) fun _ _ _ _ _ _ us hl=>by obtain ⟨_,rfl⟩:=us1 hl; rfl⟩
  obtain ⟨⟨_,F30⟩,k30⟩:=l30.fn
  have D30:Def K mg "check_shares" s_check_shares ["one","other"]:=⟨_,_,F30,PySem.W.mg_of X G a30,F30.binds (ps:=["one","other"]) fun _ _ _ _ _ _ us hl=>by obtain ⟨_,_,rfl⟩:=us2 hl; rfl⟩
  obtain ⟨⟨_,F31⟩,k31⟩:=l31.fn
  have D31:Def K mg "times" s_times ["one","other"]:=⟨_,_,F31,PySem.W.mg_of X G a31,F31.binds (ps:=["one","other"]) fun _ _ _ _ _ _ us hl=>by obtain ⟨_,_,rfl⟩:=us2 hl; rfl⟩
  obtain ⟨⟨_,F32⟩,k32⟩:=l32.fn
  have D32:Def K mg "over_bottom" s_over_bottom ["row","bottom"]:=⟨_,_,F32,PySem.W.mg_of X G a32,F32.binds (ps:=["row","bottom"]) fun _ _ _ _ _ _ us hl=>by obtain ⟨_,_,rfl⟩:=us2 hl; rfl⟩
  obtain ⟨⟨_,F33⟩,k33⟩:=l33.fn
  have D33:Def K mg "table_of_shares" s_table_of_shares ["rows"]:=⟨_,_,F33,PySem.W.mg_of X G a33,F33.binds (ps:=["rows"]) fun _ _ _ _ _ _ us hl=>by obtain ⟨_,rfl⟩:=us1 hl; rfl⟩
  obtain ⟨⟨_,F34⟩,k34⟩:=l34.fn
  have D34:Def K mg "in_rows" s_in_rows ["flat","wide","many"]:=⟨_,_,F34,PySem.W.mg_of X G a34,F34.binds (ps:=["flat","wide","many"]) fun _ _ _ _ _ _ us hl=>by obtain ⟨_,_,_,rfl⟩:=us3 hl; rfl⟩
  obtain ⟨⟨_,F35⟩,k35⟩:=l35.fn
  have D35:Def K mg "dulling_by" s_dulling_by ["one","other","values"]:=⟨_,_,F35,PySem.W.mg_of X G a35,F35.binds (ps:=["one","other","values"]) fun _ _ _ _ _ _ us hl=>by obtain ⟨_,_,_,rfl⟩:=us3 hl; rfl⟩
  obtain ⟨⟨_,F36⟩,k36⟩:=l36.fn
  have D36:Def K mg "compared" s_compared ["one","other"]:=⟨_,_,F36,PySem.W.mg_of X G a36,F36.binds (ps:=["one","other"]) fun _ _ _ _ _ _ us hl=>by obtain ⟨_,_,rfl⟩:=us2 hl; rfl⟩
  obtain ⟨⟨_,F37⟩,k37⟩:=l37.fn
  have D37:Def K mg "dulls_into" s_dulls_into ["one","other"]:=⟨_,_,F37,PySem.W.mg_of X G a37,F37.binds (ps:=["one","other"]) fun _ _ _ _ _ _ us hl=>by obtain ⟨_,_,rfl⟩:=us2 hl; rfl⟩
  obtain ⟨⟨_,F38⟩,k38⟩:=l38.fn
  have D38:Def K mg "alike" s_alike ["one","other"]:=⟨_,_,F38,PySem.W.mg_of X G a38,F38.binds (ps:=["one","other"]) fun _ _ _ _ _ _ us hl=>by obtain ⟨_,_,rfl⟩:=us2 hl; rfl⟩
  obtain ⟨⟨_,F39⟩,k39⟩:=l39.fn
  have D39:Def K mg "_law_cell" s__law_cell ["_law_script","_law_k"]:=⟨_,_,F39,PySem.W.mg_of X G a39,F39.binds (ps:=["_law_script","_law_k"]) fun _ _ _ _ _ _ us hl=>by obtain ⟨_,_,rfl⟩:=us2 hl; rfl⟩
  obtain ⟨⟨_,F40⟩,k40⟩:=l40.fn
  have D40:Def K mg "_law_drawn" s__law_drawn ["_law_cell_here","_law_base","_law_many"]:=⟨_,_,F40,PySem.W.mg_of X G a40,F40.binds (ps:=["_law_cell_here","_law_base","_law_many"]) fun _ _ _ _ _ _ us hl=>by obtain ⟨_,_,_,rfl⟩:=us3 hl; rfl⟩
  obtain ⟨⟨_,F41⟩,k41⟩:=l41.fn
  have D41:Def K mg "_law_glass" s__law_glass ["_law_script","_law_at","_law_world","_law_many"]:=⟨_,_,F41,PySem.W.mg_of X G a41,F41.binds (ps:=["_law_script","_law_at","_law_world","_law_many"]) fun _ _ _ _ _ _ us hl=>by obtain ⟨_,_,_,_,rfl⟩:=us4 hl; rfl⟩
  obtain ⟨⟨_,F42⟩,k42⟩:=l42.fn
  have D42:Def K mg "_law_whole" s__law_whole ["_law_one"]:=⟨_,_,F42,PySem.W.mg_of X G a42,F42.binds (ps:=["_law_one"]) fun _ _ _ _ _ _ us hl=>by obtain ⟨_,rfl⟩:=us1 hl; rfl⟩
  obtain ⟨⟨_,F43⟩,k43⟩:=l43.fn
  have D43:Def K mg "_law_is_dulling" s__law_is_dulling ["_law_found","_law_olds","_law_news"]:=⟨_,_,F43,PySem.W.mg_of X G a43,F43.binds (ps:=["_law_found","_law_olds","_law_news"]) fun _ _ _ _ _ _ us hl=>by obtain ⟨_,_,_,rfl⟩:=us3 hl; rfl⟩
  obtain ⟨⟨_,F44⟩,k44⟩:=l44.fn
  have D44:Def K mg "_law_dulls" s__law_dulls ["_law_one","_law_other_here","_law_dulling"]:=⟨_,_,F44,PySem.W.mg_of X G a44,F44.binds (ps:=["_law_one","_law_other_here","_law_dulling"]) fun _ _ _ _ _ _ us hl=>by obtain ⟨_,_,_,rfl⟩:=us3 hl; rfl⟩
  obtain ⟨⟨_,F45⟩,k45⟩:=l45.fn
  have D45:Def K mg "below" s_below ["one","other"]:=⟨_,_,F45,PySem.W.mg_of X G a45,F45.binds (ps:=["one","other"]) fun _ _ _ _ _ _ us hl=>by obtain ⟨_,_,rfl⟩:=us2 hl; rfl⟩
  obtain ⟨⟨_,F46⟩,k46⟩:=l46.fn
  have D46:Def K mg "check_payoffs" s_check_payoffs ["glass","payoffs"]:=⟨_,_,F46,PySem.W.mg_of X G a46,F46.binds (ps:=["glass","payoffs"]) fun _ _ _ _ _ _ us hl=>by obtain ⟨_,_,rfl⟩:=us2 hl; rfl⟩
  obtain ⟨⟨_,F47⟩,k47⟩:=l47.fn
  have D47:Def K mg "is_plan" s_is_plan ["plan","many","acts"]:=⟨_,_,F47,PySem.W.mg_of X G a47,F47.binds (ps:=["plan","many","acts"]) fun _ _ _ _ _ _ us hl=>by obtain ⟨_,_,_,rfl⟩:=us3 hl; rfl⟩
  obtain ⟨⟨_,F48⟩,k48⟩:=l48.fn
  have D48:Def K mg "column" s_column ["rows","place"]:=⟨_,_,F48,PySem.W.mg_of X G a48,F48.binds (ps:=["rows","place"]) fun _ _ _ _ _ _ us hl=>by obtain ⟨_,_,rfl⟩:=us2 hl; rfl⟩
  obtain ⟨⟨_,F49⟩,k49⟩:=l49.fn
  have D49:Def K mg "paired" s_paired ["one","other"]:=⟨_,_,F49,PySem.W.mg_of X G a49,F49.binds (ps:=["one","other"]) fun _ _ _ _ _ _ us hl=>by obtain ⟨_,_,rfl⟩:=us2 hl; rfl⟩
  obtain ⟨⟨_,F50⟩,k50⟩:=l50.fn
  have D50:Def K mg "worth" s_worth ["glass","payoffs","sign","act"]:=⟨_,_,F50,PySem.W.mg_of X G a50,F50.binds (ps:=["glass","payoffs","sign","act"]) fun _ _ _ _ _ _ us hl=>by obtain ⟨_,_,_,_,rfl⟩:=us4 hl; rfl⟩
  obtain ⟨⟨_,F51⟩,k51⟩:=l51.fn
  have D51:Def K mg "gain" s_gain ["glass","payoffs","plan"]:=⟨_,_,F51,PySem.W.mg_of X G a51,F51.binds (ps:=["glass","payoffs","plan"]) fun _ _ _ _ _ _ us hl=>by obtain ⟨_,_,_,rfl⟩:=us3 hl; rfl⟩
  obtain ⟨⟨_,F52⟩,k52⟩:=l52.fn
  have D52:Def K mg "first_best_act" s_first_best_act ["glass","payoffs","sign"]:=⟨_,_,F52,PySem.W.mg_of X G a52,F52.binds (ps:=["glass","payoffs","sign"]) fun _ _ _ _ _ _ us hl=>by obtain ⟨_,_,_,rfl⟩:=us3 hl; rfl⟩
  obtain ⟨⟨_,F53⟩,k53⟩:=l53.fn
  have D53:Def K mg "best" s_best ["glass","payoffs"]:=⟨_,_,F53,PySem.W.mg_of X G a53,F53.binds (ps:=["glass","payoffs"]) fun _ _ _ _ _ _ us hl=>by obtain ⟨_,_,rfl⟩:=us2 hl; rfl⟩
  obtain ⟨⟨_,F54⟩,k54⟩:=l54.fn
  have D54:Def K mg "_law_best" s__law_best ["_law_bottom","_law_rows","_law_payoffs"]:=⟨_,_,F54,PySem.W.mg_of X G a54,F54.binds (ps:=["_law_bottom","_law_rows","_law_payoffs"]) fun _ _ _ _ _ _ us hl=>by obtain ⟨_,_,_,rfl⟩:=us3 hl; rfl⟩
  obtain ⟨⟨_,F55⟩,k55⟩:=l55.fn
  have D55:Def K mg "_law_more" s__law_more ["_law_one","_law_other_here","_law_payoffs"]:=⟨_,_,F55,PySem.W.mg_of X G a55,F55.binds (ps:=["_law_one","_law_other_here","_law_payoffs"]) fun _ _ _ _ _ _ us hl=>by obtain ⟨_,_,_,rfl⟩:=us3 hl; rfl⟩
  obtain ⟨⟨_,F56⟩,k56⟩:=l56.fn
  have D56:Def K mg "_law_word" s__law_word ["_law_found","_law_one","_law_other_here"]:=⟨_,_,F56,PySem.W.mg_of X G a56,F56.binds (ps:=["_law_found","_law_one","_law_other_here"]) fun _ _ _ _ _ _ us hl=>by obtain ⟨_,_,_,rfl⟩:=us3 hl; rfl⟩
  obtain ⟨⟨_,F57⟩,k57⟩:=l57.fn
  have D57:Def K mg "_law_other" s__law_other ["_law_script","_law_world","_law_one"]:=⟨_,_,F57,PySem.W.mg_of X G a57,F57.binds (ps:=["_law_script","_law_world","_law_one"]) fun _ _ _ _ _ _ us hl=>by obtain ⟨_,_,_,rfl⟩:=us3 hl; rfl⟩
  have F58:=fun_mk (st:=s_law) l58 c58 k58
  refine ⟨PySem.W.fnOf "law" "law" (defArgs s_law) (defBody s_law) (defScope s_law) .none kV58 dc58 pm58 an58 cd58 ct58,fun s v => .of_eq rfl,fun base _ _=>?_⟩
  have O0:=ok_is_whole (P:=l.prog) (w:=w) (base:=base) D0 T
  have O1:=ok_makes_row D1 T O0
  have O2:=ok_makes_table D2 T O0 O1
  have O3:=ok_divisor (P:=l.prog) (w:=w) (base:=base) D3 T
  have O4:=ok_common_divisor D4 T O3
  have O5:=ok_divided (P:=l.prog) (w:=w) (base:=base) D5 T
  have O6:=ok_lowest_table D6 T O4 O5
  have O7:=ok_glass_of D7 T O2 O6
  have O8:=ok_stands (P:=l.prog) (w:=w) (base:=base) D8 T
  have O9:=ok_signs (P:=l.prog) (w:=w) (base:=base) D9 T
  have O10:=ok_check_alike_stands D10 T O8
  have O11:=ok_first_above (P:=l.prog) (w:=w) (base:=base) D11 T
  have O12:=ok_lowest D12 T O3
  have O13:=ok_first_line (P:=l.prog) (w:=w) (base:=base) D13 T
  have O14:=ok_Board___init__ D14 T O13
  have O15:=ok_Board_lack (P:=l.prog) (w:=w) (base:=base) D15 T
  have O16:=ok_Board_is_tighter (P:=l.prog) (w:=w) (base:=base) D16 T
  have O17:=ok_Board_tightest D17 T O16
  have O18:=ok_cleared (P:=l.prog) (w:=w) (base:=base) D18 T
  have O19:=ok_Board_bring_in D19 T O17 O18
  have O20:=ok_reduced D20 T O3
  have O21:=ok_share D21 T O0 O20
  have O22:=ok_Board_told D22 T O21
  have O23:=ok_solved D23 T O11 O12 O14 O15 O19 O22
  have O24:=ok_check_few_signs D24 T O9
  have O25:=ok_seen_as (P:=l.prog) (w:=w) (base:=base) D25 T
  have O26:=ok_shown_in_all D26 T O9
  have O27:=ok_equations D27 T O9 O25 O26
  have O28:=ok_wanted_sums D28 T O9
  have O29:=ok_is_share D29 T O0 O3
  have O30:=ok_check_shares D30 T O29
  have O31:=ok_times D31 T O20 O30
  have O32:=ok_over_bottom (P:=l.prog) (w:=w) (base:=base) D32 T
  have O33:=ok_table_of_shares D33 T O3 O32
  have O34:=ok_in_rows (P:=l.prog) (w:=w) (base:=base) D34 T
  have O35:=ok_dulling_by D35 T O9 O21 O31 O33 O34
  have O36:=ok_compared D36 T O8 O9 O10 O23 O24 O27 O28 O34 O35
  have O37:=ok_dulls_into D37 T O36
  have O38:=ok_alike D38 T O37
  have O39:=ok__law_cell (P:=l.prog) (w:=w) (base:=base) D39 T
  have O40:=ok__law_drawn (P:=l.prog) (w:=w) (base:=base) D40 T
  have O41:=ok__law_glass D41 T O39 O40
  have O42:=ok__law_whole (P:=l.prog) (w:=w) (base:=base) D42 T
  have O43:=ok__law_is_dulling D43 T O42
  have O44:=ok__law_dulls (P:=l.prog) (w:=w) (base:=base) D44 T
  have O45:=ok_below D45 T O30
  have O46:=ok_check_payoffs D46 T O8
  have O47:=ok_is_plan D47 T O0
  have O48:=ok_column (P:=l.prog) (w:=w) (base:=base) D48 T
  have O49:=ok_paired (P:=l.prog) (w:=w) (base:=base) D49 T
  have O50:=ok_worth D50 T O48 O49
  have O51:=ok_gain D51 T O9 O21 O46 O47 O50
  have O52:=ok_first_best_act D52 T O50
  have O53:=ok_best D53 T O9 O46 O51 O52
  have O54:=ok__law_best (P:=l.prog) (w:=w) (base:=base) D54 T
  have O55:=ok__law_more D55 T O42 O45 O53 O54
  have O56:=ok__law_word D56 T O43 O44 O55
  have O57:=ok__law_other D57 T O7 O39 O41
  exact law_fn (P:=l.prog) (w:=w) (K:=K) (mg:=mg) (base:=base) F58 T O7 O36 O38 O39 O41 O56 O57
theorem walk {l:PySem.W.OpenLaw} {q:Program} {loose:List Str} {XP:(Str→Option Value)→Heap→Prop} {YP:World→Heap→Prop} {d:DefRec} {K:Params→PySem.W.Frag} (hn:l.most=some 63) (hdf:d.params.defaults=[])
 (hY : ∀ (w:World) (h:Heap),YP w h→(K w.params).In h)
 (F : ∀ (w:World) (mg:Str→Option Value) (fa:Addr) (h:Heap),(K w.params).In h→h.Ns mainGlobals mg→mg d.name=some (.ref fa) →
 ∃ fd:FuncData,(∀ (s:Shared) (u:Value),BindsTo s fd ⟨[u],[]⟩ [("_law_script",u)]) ∧ ∀ base:Heap,(K w.params).In base→base.Ns mainGlobals mg→FnOk l.prog w (K w.params) mg base CX0 9 fa fd ["_law_script"] (spLaw (K w.params))) :
 PySem.W.WalkO q loose XP YP l.row.toRowW d [] (fun f vs=>PySem.call f vs) :=
  L2.walk_of (n:=63) (k:=9) (x := "_law_script") (CX:=fun _=>CX0) (sp:=fun w=>spLaw (K w.params)) hn (by decide) hdf ⟨rfl,by decide,by decide⟩ hY F (fun _ _ a ns hl _ hS=>⟨a,ns,rfl,hS,hl,fun _=>rfl⟩) fun _ _ _ _ _ z=>z
noncomputable section
open PySem PySem.W PySem.Calls PyProof.Rows
abbrev N0:=BT.node
abbrev nl0:=BT.nil
def en0 (P:Params) (x:Str) (t:Nat) (v:Value):DictEntry:=⟨PyData.keyHash P x,.str x t,v⟩
def tu0 (vs:List Value):Obj:=⟨.type "tuple",none,.seq vs.toArray 0,#[]⟩
def em0:Obj:=⟨.none,none,.fields #[],#[]⟩
def fo0 (n q:Str) (s:Stmt) (pm:Value) (c:Nat):Obj:=⟨.type "function",none,.func (PySem.W.fnOf n q (L2.defArgs s) (L2.defBody s) (L2.defScope s) .none .none .none pm none (.ref c) .none),#[]⟩
def pr0 (n q:Str) (s:Stmt):Obj:=⟨.none,none,.func ⟨n,q,L2.defArgs s,.stmts (L2.defBody s),L2.defScope s,0,[],.none,.none,.none,.none,none,.none,.none,0⟩,#[]⟩
def co0 (n q:Str) (t:Nat) (l ac fl:Int) (a:Nat) (b:Bool) (x y z:Value) (u:Nat):Obj:=⟨.type "code",none,.fields #[.str n t,.str q (t+1),.str "/claim/cut.py" (t+2),.int l 0,.int ac 0,.int 0 0,.int 0 0,.int fl 0,.ref a,.bool b,.int 181 0,.ref (a+1),.none,x,y,z,.int u 0,.int l 0,.str "/claim/cut.py" (u+1)],#[]⟩
lay_quick PySem.Challenge.pw_dullglass_k28_whole_one_of_both
def env0:Env:={ scope:=PySem.Challenge.pw_dullglass_k28_whole_one_of_both.main.scope,locals:=mainNs,globals:=mainNs,cells:=[],code:=(.ref 13),frame:=some 14 }
def cE0:Code :=.body (behindTheImports PySem.Challenge.pw_dullglass_k28_whole_one_of_both) env0
def ls0:List Str:=[Str.ofString "GlassError",Str.ofString "NoShare",Str.ofString "NoGlass",Str.ofString "NoFit",Str.ofString "TooMany",Str.ofString "is_whole",Str.ofString "divisor",Str.ofString "share",Str.ofString "reduced",Str.ofString "is_share",Str.ofString "check_shares",Str.ofString "times",Str.ofString "below",Str.ofString "FEWEST_STANDS",Str.ofString "MOST_STANDS",Str.ofString "MOST_SIGNS",Str.ofString "glass_of",Str.ofString "makes_table",Str.ofString "makes_row",Str.ofString "common_divisor",Str.ofString "lowest_table",Str.ofString "divided",Str.ofString "table_of_shares",Str.ofString "over_bottom",Str.ofString "stands",Str.ofString "signs",Str.ofString "column",Str.ofString "paired",Str.ofString "check_alike_stands",Str.ofString "MOST_UNKNOWNS",Str.ofString "MOST_ROWS",Str.ofString "solved",Str.ofString "first_above",Str.ofString "lowest",Str.ofString "Board",Str.ofString "first_line",Str.ofString "cleared",Str.ofString "MOST_COMPARED",Str.ofString "compared",Str.ofString "alike",Str.ofString "dulls_into",Str.ofString "check_few_signs",Str.ofString "equations",Str.ofString "seen_as",Str.ofString "shown_in_all",Str.ofString "wanted_sums",Str.ofString "dulling_by",Str.ofString "in_rows",Str.ofString "gain",Str.ofString "best",Str.ofString "check_payoffs",Str.ofString "is_plan",Str.ofString "worth",Str.ofString "first_best_act",Str.ofString "_law_cell",Str.ofString "_law_drawn",Str.ofString "_law_glass",Str.ofString "_law_best",Str.ofString "_law_whole",Str.ofString "_law_is_dulling",Str.ofString "_law_dulls",Str.ofString "_law_more",Str.ofString "_law_word",Str.ofString "_law_other"]
def lf0:Life:=⟨[],[],[],0,[],[],false,#[],[],0,false,false,false,0,[2000,10,10],false,0,true,[],[],0,false⟩
def o13a:Obj:=co0 "<module>" "<module>" 182 1 0 0 11 false .none .none .none 185
def o14a:Obj:=⟨(.type "frame"),none,.plain,#[(some (.ref 13)),(some (.ref 3)),(some (.ref 3)),none,(some (.str "__main__" 164)),none,(some (.ref 0))]⟩
def o3 (P:Params):Obj:=⟨(.type "dict"),none,(.dict #[en0 P "__name__" 165 (.str "law_dullglass_k28_whole_one_of_both" 667),en0 P "__doc__" 166 .none,en0 P "__package__" 167 .none,en0 P "__loader__" 168 (.builtin "__main__.__loader__#opaque"),en0 P "__spec__" 169 .none,en0 P "__annotations__" 170 (.ref 6),en0 P "__builtins__" 171 (.ref 4),en0 P "__file__" 173 (.str "/claim/cut.py" 172),en0 P "__cached__" 174 .none,en0 P "GlassError" 206 (.ref 24),en0 P "NoShare" 222 (.ref 37),en0 P "NoGlass" 238 (.ref 49),en0 P "NoFit" 254 (.ref 61),en0 P "TooMany" 270 (.ref 73),en0 P "is_whole" 279 (.ref 82),en0 P "divisor" 288 (.ref 89),en0 P "share" 296 (.ref 96),en0 P "reduced" 305 (.ref 103),en0 P "is_share" 312 (.ref 110),en0 P "check_shares" 320 (.ref 117),en0 P "times" 328 (.ref 124),en0 P "below" 336 (.ref 131),en0 P "FEWEST_STANDS" 340 (.int (2) 339),en0 P "MOST_STANDS" 342 (.int (4) 341),en0 P "MOST_SIGNS" 344 (.int (12) 343),en0 P "glass_of" 352 (.ref 138),en0 P "makes_table" 358 (.ref 143),en0 P "makes_row" 364 (.ref 148),en0 P "common_divisor" 374 (.ref 155),en0 P "lowest_table" 380 (.ref 160),en0 P "divided" 386 (.ref 165),en0 P "table_of_shares" 392 (.ref 170),en0 P "over_bottom" 398 (.ref 175),en0 P "stands" 405 (.ref 182),en0 P "signs" 412 (.ref 189),en0 P "column" 418 (.ref 194),en0 P "paired" 424 (.ref 199),en0 P "check_alike_stands" 434 (.ref 206),en0 P "MOST_UNKNOWNS" 438 (.int (20) 437),en0 P "MOST_ROWS" 440 (.int (24) 439),en0 P "solved" 452 (.ref 213),en0 P "first_above" 461 (.ref 220),en0 P "lowest" 467 (.ref 225),en0 P "Board" 538 (.ref 269),en0 P "first_line" 544 (.ref 278),en0 P "cleared" 550 (.ref 283),en0 P "MOST_COMPARED" 554 (.int (4) 553),en0 P "compared" 563 (.ref 290),en0 P "alike" 571 (.ref 297),en0 P "dulls_into" 579 (.ref 304),en0 P "check_few_signs" 586 (.ref 311),en0 P "equations" 592 (.ref 316),en0 P "seen_as" 598 (.ref 321),en0 P "shown_in_all" 604 (.ref 326),en0 P "wanted_sums" 610 (.ref 331),en0 P "dulling_by" 616 (.ref 336),en0 P "in_rows" 622 (.ref 341),en0 P "gain" 630 (.ref 346),en0 P "best" 636 (.ref 351),en0 P "check_payoffs" 644 (.ref 358),en0 P "is_plan" 650 (.ref 363),en0 P "worth" 660 (.ref 370),en0 P "first_best_act" 666 (.ref 375),en0 P "_law_cell" 676 (.ref 382),en0 P "_law_drawn" 689 (.ref 389),en0 P "_law_glass" 695 (.ref 394),en0 P "_law_best" 701 (.ref 399),en0 P "_law_whole" 708 (.ref 406),en0 P "_law_is_dulling" 720 (.ref 413),en0 P "_law_dulls" 734 (.ref 420),en0 P "_law_more" 740 (.ref 425),en0 P "_law_word" 750 (.ref 432),en0 P "_law_other" 756 (.ref 437),en0 P "law" 774 (.ref 444)] 74),#[]⟩
def o12:Obj:=⟨.none,none,(.fields #[(.int (2) 0),(.int (0) 0),(.ref 20),(.int (4) 0),(.int (0) 0),(.ref 33),(.int (6) 0),(.int (0) 0),(.ref 45),(.int (8) 0),(.int (0) 0),(.ref 57),(.int (10) 0),(.int (0) 0),(.ref 69),(.int (13) 0),(.int (0) 0),(.ref 81),(.int (15) 0),(.int (0) 0),(.ref 88),(.int (23) 0),(.int (0) 0),(.ref 95),(.int (27) 0),(.int (0) 0),(.ref 102),(.int (32) 0),(.int (0) 0),(.ref 109),(.int (38) 0),(.int (0) 0),(.ref 116),(.int (41) 0),(.int (0) 0),(.ref 123),(.int (44) 0),(.int (0) 0),(.ref 130),(.int (51) 0),(.int (0) 0),(.ref 137),(.int (55) 0),(.int (0) 0),(.ref 142),(.int (63) 0),(.int (0) 0),(.ref 147),(.int (67) 0),(.int (0) 0),(.ref 154),(.int (73) 0),(.int (0) 0),(.ref 159),(.int (76) 0),(.int (0) 0),(.ref 164),(.int (78) 0),(.int (0) 0),(.ref 169),(.int (84) 0),(.int (0) 0),(.ref 174),(.int (86) 0),(.int (0) 0),(.ref 181),(.int (88) 0),(.int (0) 0),(.ref 188),(.int (90) 0),(.int (0) 0),(.ref 193),(.int (92) 0),(.int (0) 0),(.ref 198),(.int (95) 0),(.int (0) 0),(.ref 205),(.int (101) 0),(.int (0) 0),(.ref 212),(.int (114) 0),(.int (0) 0),(.ref 219),(.int (119) 0),(.int (0) 0),(.ref 224),(.int (124) 0),(.int (0) 0),(.ref 231),(.int (165) 0),(.int (0) 0),(.ref 277),(.int (169) 0),(.int (0) 0),(.ref 282),(.int (173) 0),(.int (0) 0),(.ref 289),(.int (181) 0),(.int (0) 0),(.ref 296),(.int (183) 0),(.int (0) 0),(.ref 303),(.int (185) 0),(.int (0) 0),(.ref 310),(.int (188) 0),(.int (0) 0),(.ref 315),(.int (195) 0),(.int (0) 0),(.ref 320),(.int (197) 0),(.int (0) 0),(.ref 325),(.int (199) 0),(.int (0) 0),(.ref 330),(.int (204) 0),(.int (0) 0),(.ref 335),(.int (208) 0),(.int (0) 0),(.ref 340),(.int (211) 0),(.int (0) 0),(.ref 345),(.int (217) 0),(.int (0) 0),(.ref 350),(.int (221) 0),(.int (0) 0),(.ref 357),(.int (224) 0),(.int (0) 0),(.ref 362),(.int (228) 0),(.int (0) 0),(.ref 369),(.int (230) 0),(.int (0) 0),(.ref 374),(.int (234) 0),(.int (0) 0),(.ref 381),(.int (240) 0),(.int (0) 0),(.ref 388),(.int (252) 0),(.int (0) 0),(.ref 393),(.int (263) 0),(.int (0) 0),(.ref 398),(.int (271) 0),(.int (0) 0),(.ref 405),(.int (273) 0),(.int (0) 0),(.ref 412),(.int (292) 0),(.int (0) 0),(.ref 419),(.int (302) 0),(.int (0) 0),(.ref 424),(.int (314) 0),(.int (0) 0),(.ref 431),(.int (323) 0),(.int (0) 0),(.ref 436),(.int (339) 0),(.int (0) 0),(.ref 443)]),#[]⟩
def o16:Obj:=⟨(.type "builtin_function_or_method"),none,(.fields #[(.builtin "type.__prepare__"),(.type "type")]),#[]⟩
def o17 (P:Params):Obj:=⟨(.type "dict"),none,(.dict #[en0 P "__module__" 196 (.str "dullglass.errors" 187),en0 P "__qualname__" 198 (.str "GlassError" 197),en0 P "__firstlineno__" 200 (.int (2) 199),en0 P "__static_attributes__" 201 (.ref 22)] 4),#[]⟩
def o20:Obj:=co0 "GlassError" "GlassError" 191 2 0 0 18 false .none .none .none 194
def o21:Obj:=⟨(.type "frame"),none,.plain,#[(some (.ref 20)),(some (.ref 3)),(some (.ref 17)),none,(some (.str "dullglass.errors" 187)),none,(some (.ref 0))]⟩
def o23 (P:Params):Obj:=⟨(.type "dict"),none,(.dict #[en0 P "__module__" 196 (.str "dullglass.errors" 187),en0 P "__firstlineno__" 200 (.int (2) 199),en0 P "__static_attributes__" 201 (.ref 22),en0 P "__weakref__" 203 (.ref 25),en0 P "__doc__" 204 .none] 3),#[]⟩
def o24:Obj:=⟨(.type "type"),none,(.cls ⟨"GlassError",[(.type "ValueError")],[(.ref 24),(.type "ValueError"),(.type "Exception"),(.type "BaseException"),(.type "object")],23,"GlassError",true,[],[(.ref 37),(.ref 49),(.ref 61),(.ref 73)],false,none,false⟩),#[(some (.ref 15)),none,(some (.str "GlassError" 189)),(some (.str "GlassError" 197)),(some (.builtin "ValueError.__new__")),(some (.bool true))]⟩
def o25:Obj:=⟨(.type "getset_descriptor"),none,(.fields #[(.str "__weakref__" 202),(.ref 24),(.builtin "ExceptionGroup.__weakref__"),.none]),#[]⟩
def o26:Obj:=⟨(.type "super"),none,(.fields #[(.ref 24),(.ref 24),(.ref 24)]),#[]⟩
def o27:Obj:=⟨(.type "builtin_function_or_method"),none,(.fields #[(.builtin "object.__init_subclass__"),(.ref 24)]),#[]⟩
def o29:Obj:=⟨(.type "builtin_function_or_method"),none,(.fields #[(.builtin "type.__prepare__"),(.type "type")]),#[]⟩
def o30 (P:Params):Obj:=⟨(.type "dict"),none,(.dict #[en0 P "__module__" 214 (.str "dullglass.errors" 187),en0 P "__qualname__" 216 (.str "NoShare" 215),en0 P "__firstlineno__" 218 (.int (4) 217),en0 P "__static_attributes__" 219 (.ref 35)] 4),#[]⟩
def o33:Obj:=co0 "NoShare" "NoShare" 209 4 0 0 31 false .none .none .none 212
def o34:Obj:=⟨(.type "frame"),none,.plain,#[(some (.ref 33)),(some (.ref 3)),(some (.ref 30)),none,(some (.str "dullglass.errors" 187)),none,(some (.ref 0))]⟩
def o36 (P:Params):Obj:=⟨(.type "dict"),none,(.dict #[en0 P "__module__" 214 (.str "dullglass.errors" 187),en0 P "__firstlineno__" 218 (.int (4) 217),en0 P "__static_attributes__" 219 (.ref 35),en0 P "__doc__" 220 .none] 2),#[]⟩
def o37:Obj:=⟨(.type "type"),none,(.cls ⟨"NoShare",[(.ref 24)],[(.ref 37),(.ref 24),(.type "ValueError"),(.type "Exception"),(.type "BaseException"),(.type "object")],36,"NoShare",true,[],[],false,none,false⟩),#[(some (.ref 28)),none,(some (.str "NoShare" 207)),(some (.str "NoShare" 215)),(some (.builtin "ValueError.__new__")),(some (.bool true))]⟩
def o38:Obj:=⟨(.type "super"),none,(.fields #[(.ref 37),(.ref 37),(.ref 37)]),#[]⟩
def o39:Obj:=⟨(.type "builtin_function_or_method"),none,(.fields #[(.builtin "object.__init_subclass__"),(.ref 37)]),#[]⟩
def o41:Obj:=⟨(.type "builtin_function_or_method"),none,(.fields #[(.builtin "type.__prepare__"),(.type "type")]),#[]⟩
def o42 (P:Params):Obj:=⟨(.type "dict"),none,(.dict #[en0 P "__module__" 230 (.str "dullglass.errors" 187),en0 P "__qualname__" 232 (.str "NoGlass" 231),en0 P "__firstlineno__" 234 (.int (6) 233),en0 P "__static_attributes__" 235 (.ref 47)] 4),#[]⟩
def o45:Obj:=co0 "NoGlass" "NoGlass" 225 6 0 0 43 false .none .none .none 228
def o46:Obj:=⟨(.type "frame"),none,.plain,#[(some (.ref 45)),(some (.ref 3)),(some (.ref 42)),none,(some (.str "dullglass.errors" 187)),none,(some (.ref 0))]⟩
def o48 (P:Params):Obj:=⟨(.type "dict"),none,(.dict #[en0 P "__module__" 230 (.str "dullglass.errors" 187),en0 P "__firstlineno__" 234 (.int (6) 233),en0 P "__static_attributes__" 235 (.ref 47),en0 P "__doc__" 236 .none] 2),#[]⟩
def o49:Obj:=⟨(.type "type"),none,(.cls ⟨"NoGlass",[(.ref 24)],[(.ref 49),(.ref 24),(.type "ValueError"),(.type "Exception"),(.type "BaseException"),(.type "object")],48,"NoGlass",true,[],[],false,none,false⟩),#[(some (.ref 40)),none,(some (.str "NoGlass" 223)),(some (.str "NoGlass" 231)),(some (.builtin "ValueError.__new__")),(some (.bool true))]⟩
def o50:Obj:=⟨(.type "super"),none,(.fields #[(.ref 49),(.ref 49),(.ref 49)]),#[]⟩
def o51:Obj:=⟨(.type "builtin_function_or_method"),none,(.fields #[(.builtin "object.__init_subclass__"),(.ref 49)]),#[]⟩
def o53:Obj:=⟨(.type "builtin_function_or_method"),none,(.fields #[(.builtin "type.__prepare__"),(.type "type")]),#[]⟩
def o54 (P:Params):Obj:=⟨(.type "dict"),none,(.dict #[en0 P "__module__" 246 (.str "dullglass.errors" 187),en0 P "__qualname__" 248 (.str "NoFit" 247),en0 P "__firstlineno__" 250 (.int (8) 249),en0 P "__static_attributes__" 251 (.ref 59)] 4),#[]⟩
def o57:Obj:=co0 "NoFit" "NoFit" 241 8 0 0 55 false .none .none .none 244
def o58:Obj:=⟨(.type "frame"),none,.plain,#[(some (.ref 57)),(some (.ref 3)),(some (.ref 54)),none,(some (.str "dullglass.errors" 187)),none,(some (.ref 0))]⟩
def o60 (P:Params):Obj:=⟨(.type "dict"),none,(.dict #[en0 P "__module__" 246 (.str "dullglass.errors" 187),en0 P "__firstlineno__" 250 (.int (8) 249),en0 P "__static_attributes__" 251 (.ref 59),en0 P "__doc__" 252 .none] 2),#[]⟩
def o61:Obj:=⟨(.type "type"),none,(.cls ⟨"NoFit",[(.ref 24)],[(.ref 61),(.ref 24),(.type "ValueError"),(.type "Exception"),(.type "BaseException"),(.type "object")],60,"NoFit",true,[],[],false,none,false⟩),#[(some (.ref 52)),none,(some (.str "NoFit" 239)),(some (.str "NoFit" 247)),(some (.builtin "ValueError.__new__")),(some (.bool true))]⟩
def o62:Obj:=⟨(.type "super"),none,(.fields #[(.ref 61),(.ref 61),(.ref 61)]),#[]⟩
def o63:Obj:=⟨(.type "builtin_function_or_method"),none,(.fields #[(.builtin "object.__init_subclass__"),(.ref 61)]),#[]⟩
def o65:Obj:=⟨(.type "builtin_function_or_method"),none,(.fields #[(.builtin "type.__prepare__"),(.type "type")]),#[]⟩
def o66 (P:Params):Obj:=⟨(.type "dict"),none,(.dict #[en0 P "__module__" 262 (.str "dullglass.errors" 187),en0 P "__qualname__" 264 (.str "TooMany" 263),en0 P "__firstlineno__" 266 (.int (10) 265),en0 P "__static_attributes__" 267 (.ref 71)] 4),#[]⟩
def o69:Obj:=co0 "TooMany" "TooMany" 257 10 0 0 67 false .none .none .none 260
def o70:Obj:=⟨(.type "frame"),none,.plain,#[(some (.ref 69)),(some (.ref 3)),(some (.ref 66)),none,(some (.str "dullglass.errors" 187)),none,(some (.ref 0))]⟩
def o72 (P:Params):Obj:=⟨(.type "dict"),none,(.dict #[en0 P "__module__" 262 (.str "dullglass.errors" 187),en0 P "__firstlineno__" 266 (.int (10) 265),en0 P "__static_attributes__" 267 (.ref 71),en0 P "__doc__" 268 .none] 2),#[]⟩
def o73:Obj:=⟨(.type "type"),none,(.cls ⟨"TooMany",[(.ref 24)],[(.ref 73),(.ref 24),(.type "ValueError"),(.type "Exception"),(.type "BaseException"),(.type "object")],72,"TooMany",true,[],[],false,none,false⟩),#[(some (.ref 64)),none,(some (.str "TooMany" 255)),(some (.str "TooMany" 263)),(some (.builtin "ValueError.__new__")),(some (.bool true))]⟩
def o74:Obj:=⟨(.type "super"),none,(.fields #[(.ref 73),(.ref 73),(.ref 73)]),#[]⟩
def o75:Obj:=⟨(.type "builtin_function_or_method"),none,(.fields #[(.builtin "object.__init_subclass__"),(.ref 73)]),#[]⟩
def o81:Obj:=co0 "is_whole" "is_whole" 273 13 1 3 76 true (.ref 78) (.ref 79) (.ref 80) 277
def o82:Obj:=fo0 "is_whole" "is_whole" (top 7) (.str "dullglass.shares" 271) 81
def o88:Obj:=co0 "divisor" "divisor" 280 15 2 3 83 true (.ref 85) (.ref 86) (.ref 87) 286
def o89:Obj:=fo0 "divisor" "divisor" (top 8) (.str "dullglass.shares" 271) 88
def o95:Obj:=co0 "share" "share" 289 23 2 3 90 true (.ref 92) (.ref 93) (.ref 94) 294
def o96:Obj:=fo0 "share" "share" (top 9) (.str "dullglass.shares" 271) 95
def o102:Obj:=co0 "reduced" "reduced" 297 27 2 3 97 true (.ref 99) (.ref 100) (.ref 101) 303
def o103:Obj:=fo0 "reduced" "reduced" (top 10) (.str "dullglass.shares" 271) 102
def o109:Obj:=co0 "is_share" "is_share" 306 32 1 3 104 true (.ref 106) (.ref 107) (.ref 108) 310
def o110:Obj:=fo0 "is_share" "is_share" (top 11) (.str "dullglass.shares" 271) 109
def o116:Obj:=co0 "check_shares" "check_shares" 313 38 2 3 111 true (.ref 113) (.ref 114) (.ref 115) 318
def o117:Obj:=fo0 "check_shares" "check_shares" (top 12) (.str "dullglass.shares" 271) 116
def o123:Obj:=co0 "times" "times" 321 41 2 3 118 true (.ref 120) (.ref 121) (.ref 122) 326
def o124:Obj:=fo0 "times" "times" (top 13) (.str "dullglass.shares" 271) 123
def o130:Obj:=co0 "below" "below" 329 44 2 3 125 true (.ref 127) (.ref 128) (.ref 129) 334
def o131:Obj:=fo0 "below" "below" (top 14) (.str "dullglass.shares" 271) 130
def o137:Obj:=co0 "glass_of" "glass_of" 345 51 2 3 132 true (.ref 134) (.ref 135) (.ref 136) 350
def o138:Obj:=fo0 "glass_of" "glass_of" (top 19) (.str "dullglass.glasses" 337) 137
def o142:Obj:=co0 "makes_table" "makes_table" 353 55 4 3 139 true .none .none (.ref 141) 356
def o143:Obj:=fo0 "makes_table" "makes_table" (top 20) (.str "dullglass.glasses" 337) 142
def o147:Obj:=co0 "makes_row" "makes_row" 359 63 2 3 144 true .none .none (.ref 146) 362
def o148:Obj:=fo0 "makes_row" "makes_row" (top 21) (.str "dullglass.glasses" 337) 147
def o154:Obj:=co0 "common_divisor" "common_divisor" 365 67 1 3 149 true (.ref 151) (.ref 152) (.ref 153) 372
def o155:Obj:=fo0 "common_divisor" "common_divisor" (top 22) (.str "dullglass.glasses" 337) 154
def o159:Obj:=co0 "lowest_table" "lowest_table" 375 73 2 3 156 true .none .none (.ref 158) 378
def o160:Obj:=fo0 "lowest_table" "lowest_table" (top 23) (.str "dullglass.glasses" 337) 159
def o164:Obj:=co0 "divided" "divided" 381 76 2 3 161 true .none .none (.ref 163) 384
def o165:Obj:=fo0 "divided" "divided" (top 24) (.str "dullglass.glasses" 337) 164
def o169:Obj:=co0 "table_of_shares" "table_of_shares" 387 78 1 3 166 true .none .none (.ref 168) 390
def o170:Obj:=fo0 "table_of_shares" "table_of_shares" (top 25) (.str "dullglass.glasses" 337) 169
def o174:Obj:=co0 "over_bottom" "over_bottom" 393 84 2 3 171 true .none .none (.ref 173) 396
def o175:Obj:=fo0 "over_bottom" "over_bottom" (top 26) (.str "dullglass.glasses" 337) 174
def o181:Obj:=co0 "stands" "stands" 399 86 1 3 176 true (.ref 178) (.ref 179) (.ref 180) 403
def o182:Obj:=fo0 "stands" "stands" (top 27) (.str "dullglass.glasses" 337) 181
def o188:Obj:=co0 "signs" "signs" 406 88 1 3 183 true (.ref 185) (.ref 186) (.ref 187) 410
def o189:Obj:=fo0 "signs" "signs" (top 28) (.str "dullglass.glasses" 337) 188
def o193:Obj:=co0 "column" "column" 413 90 2 3 190 true .none .none (.ref 192) 416
def o194:Obj:=fo0 "column" "column" (top 29) (.str "dullglass.glasses" 337) 193
def o198:Obj:=co0 "paired" "paired" 419 92 2 3 195 true .none .none (.ref 197) 422
def o199:Obj:=fo0 "paired" "paired" (top 30) (.str "dullglass.glasses" 337) 198
def o205:Obj:=co0 "check_alike_stands" "check_alike_stands" 427 95 2 3 200 true (.ref 202) (.ref 203) (.ref 204) 432
def o206:Obj:=fo0 "check_alike_stands" "check_alike_stands" (top 32) (.str "dullglass.dulls" 425) 205
def o212:Obj:=co0 "solved" "solved" 441 101 2 3 207 true (.ref 209) (.ref 210) (.ref 211) 450
def o213:Obj:=fo0 "solved" "solved" (top 36) (.str "dullglass.solver" 435) 212
def o219:Obj:=co0 "first_above" "first_above" 453 114 1 3 214 true (.ref 216) (.ref 217) (.ref 218) 459
def o220:Obj:=fo0 "first_above" "first_above" (top 37) (.str "dullglass.solver" 435) 219
def o224:Obj:=co0 "lowest" "lowest" 462 119 1 3 221 true .none .none (.ref 223) 465
def o225:Obj:=fo0 "lowest" "lowest" (top 38) (.str "dullglass.solver" 435) 224
def o227:Obj:=⟨(.type "builtin_function_or_method"),none,(.fields #[(.builtin "type.__prepare__"),(.type "type")]),#[]⟩
def o228 (P:Params):Obj:=⟨(.type "dict"),none,(.dict #[en0 P "__module__" 475 (.str "dullglass.solver" 435),en0 P "__qualname__" 477 (.str "Board" 476),en0 P "__firstlineno__" 479 (.int (124) 478),en0 P "__init__" 485 (.ref 237),en0 P "lack" 491 (.ref 242),en0 P "bring_in" 497 (.ref 247),en0 P "tightest" 508 (.ref 254),en0 P "is_tighter" 520 (.ref 261),en0 P "told" 526 (.ref 266),en0 P "__static_attributes__" 531 (.ref 267)] 10),#[]⟩
def o230:Obj:=⟨.none,none,(.fields #[(.int (126) 0),(.int (4) 0),(.ref 236),(.int (132) 0),(.int (4) 0),(.ref 241),(.int (139) 0),(.int (4) 0),(.ref 246),(.int (147) 0),(.int (4) 0),(.ref 253),(.int (154) 0),(.int (4) 0),(.ref 260),(.int (159) 0),(.int (4) 0),(.ref 265)]),#[]⟩
def o231:Obj:=co0 "Board" "Board" 470 124 0 0 229 false .none .none .none 473
def o232:Obj:=⟨(.type "frame"),none,.plain,#[(some (.ref 231)),(some (.ref 3)),(some (.ref 228)),none,(some (.str "dullglass.solver" 435)),none,(some (.ref 0))]⟩
def o236:Obj:=co0 "__init__" "Board.__init__" 480 126 4 3 233 true .none .none (.ref 235) 483
def o237:Obj:=fo0 "__init__" "Board.__init__" (methAt (top 39) 0) (.str "dullglass.solver" 435) 236
def o241:Obj:=co0 "lack" "Board.lack" 486 132 1 3 238 true .none .none (.ref 240) 489
def o242:Obj:=fo0 "lack" "Board.lack" (methAt (top 39) 1) (.str "dullglass.solver" 435) 241
def o246:Obj:=co0 "bring_in" "Board.bring_in" 492 139 2 3 243 true .none .none (.ref 245) 495
def o247:Obj:=fo0 "bring_in" "Board.bring_in" (methAt (top 39) 2) (.str "dullglass.solver" 435) 246
def o253:Obj:=co0 "tightest" "Board.tightest" 498 147 2 3 248 true (.ref 250) (.ref 251) (.ref 252) 506
def o254:Obj:=fo0 "tightest" "Board.tightest" (methAt (top 39) 3) (.str "dullglass.solver" 435) 253
def o260:Obj:=co0 "is_tighter" "Board.is_tighter" 509 154 4 3 255 true (.ref 257) (.ref 258) (.ref 259) 518
def o261:Obj:=fo0 "is_tighter" "Board.is_tighter" (methAt (top 39) 4) (.str "dullglass.solver" 435) 260
def o265:Obj:=co0 "told" "Board.told" 521 159 1 3 262 true .none .none (.ref 264) 524
def o266:Obj:=fo0 "told" "Board.told" (methAt (top 39) 5) (.str "dullglass.solver" 435) 265
def o268 (P:Params):Obj:=⟨(.type "dict"),none,(.dict #[en0 P "__module__" 475 (.str "dullglass.solver" 435),en0 P "__firstlineno__" 479 (.int (124) 478),en0 P "__init__" 485 (.ref 237),en0 P "lack" 491 (.ref 242),en0 P "bring_in" 497 (.ref 247),en0 P "tightest" 508 (.ref 254),en0 P "is_tighter" 520 (.ref 261),en0 P "told" 526 (.ref 266),en0 P "__static_attributes__" 531 (.ref 267),en0 P "__dict__" 533 (.ref 270),en0 P "__weakref__" 535 (.ref 271),en0 P "__doc__" 536 .none] 4),#[]⟩
def o269:Obj:=⟨(.type "type"),none,(.cls ⟨"Board",[(.type "object")],[(.ref 269),(.type "object")],268,"Board",true,[],[],false,none,false⟩),#[none,none,(some (.str "Board" 468)),(some (.str "Board" 476)),(some (.builtin "object.__new__")),(some (.bool true))]⟩
def o270:Obj:=⟨(.type "getset_descriptor"),none,(.fields #[(.str "__dict__" 532),(.ref 269),(.builtin "function.__dict__"),(.builtin "function.__dict__#set")]),#[]⟩
def o271:Obj:=⟨(.type "getset_descriptor"),none,(.fields #[(.str "__weakref__" 534),(.ref 269),(.builtin "ExceptionGroup.__weakref__"),.none]),#[]⟩
def o272:Obj:=⟨(.type "super"),none,(.fields #[(.ref 269),(.ref 269),(.ref 269)]),#[]⟩
def o273:Obj:=⟨(.type "builtin_function_or_method"),none,(.fields #[(.builtin "object.__init_subclass__"),(.ref 269)]),#[]⟩
def o277:Obj:=co0 "first_line" "first_line" 539 165 4 3 274 true .none .none (.ref 276) 542
def o278:Obj:=fo0 "first_line" "first_line" (top 40) (.str "dullglass.solver" 435) 277
def o282:Obj:=co0 "cleared" "cleared" 545 169 4 3 279 true .none .none (.ref 281) 548
def o283:Obj:=fo0 "cleared" "cleared" (top 41) (.str "dullglass.solver" 435) 282
def o289:Obj:=co0 "compared" "compared" 555 173 2 3 284 true (.ref 286) (.ref 287) (.ref 288) 561
def o290:Obj:=fo0 "compared" "compared" (top 44) (.str "dullglass.compare" 551) 289
def o296:Obj:=co0 "alike" "alike" 564 181 2 3 291 true (.ref 293) (.ref 294) (.ref 295) 569
def o297:Obj:=fo0 "alike" "alike" (top 45) (.str "dullglass.compare" 551) 296
def o303:Obj:=co0 "dulls_into" "dulls_into" 572 183 2 3 298 true (.ref 300) (.ref 301) (.ref 302) 577
def o304:Obj:=fo0 "dulls_into" "dulls_into" (top 46) (.str "dullglass.compare" 551) 303
def o310:Obj:=co0 "check_few_signs" "check_few_signs" 580 185 1 3 305 true (.ref 307) (.ref 308) (.ref 309) 584
def o311:Obj:=fo0 "check_few_signs" "check_few_signs" (top 47) (.str "dullglass.compare" 551) 310
def o315:Obj:=co0 "equations" "equations" 587 188 2 3 312 true .none .none (.ref 314) 590
def o316:Obj:=fo0 "equations" "equations" (top 48) (.str "dullglass.compare" 551) 315
def o320:Obj:=co0 "seen_as" "seen_as" 593 195 3 3 317 true .none .none (.ref 319) 596
def o321:Obj:=fo0 "seen_as" "seen_as" (top 49) (.str "dullglass.compare" 551) 320
def o325:Obj:=co0 "shown_in_all" "shown_in_all" 599 197 3 3 322 true .none .none (.ref 324) 602
def o326:Obj:=fo0 "shown_in_all" "shown_in_all" (top 50) (.str "dullglass.compare" 551) 325
def o330:Obj:=co0 "wanted_sums" "wanted_sums" 605 199 2 3 327 true .none .none (.ref 329) 608
def o331:Obj:=fo0 "wanted_sums" "wanted_sums" (top 51) (.str "dullglass.compare" 551) 330
def o335:Obj:=co0 "dulling_by" "dulling_by" 611 204 3 3 332 true .none .none (.ref 334) 614
def o336:Obj:=fo0 "dulling_by" "dulling_by" (top 52) (.str "dullglass.compare" 551) 335
def o340:Obj:=co0 "in_rows" "in_rows" 617 208 3 3 337 true .none .none (.ref 339) 620
def o341:Obj:=fo0 "in_rows" "in_rows" (top 53) (.str "dullglass.compare" 551) 340
def o345:Obj:=co0 "gain" "gain" 625 211 3 3 342 true .none .none (.ref 344) 628
def o346:Obj:=fo0 "gain" "gain" (top 55) (.str "dullglass.decisions" 623) 345
def o350:Obj:=co0 "best" "best" 631 217 2 3 347 true .none .none (.ref 349) 634
def o351:Obj:=fo0 "best" "best" (top 56) (.str "dullglass.decisions" 623) 350
def o357:Obj:=co0 "check_payoffs" "check_payoffs" 637 221 2 3 352 true (.ref 354) (.ref 355) (.ref 356) 642
def o358:Obj:=fo0 "check_payoffs" "check_payoffs" (top 57) (.str "dullglass.decisions" 623) 357
def o362:Obj:=co0 "is_plan" "is_plan" 645 224 3 3 359 true .none .none (.ref 361) 648
def o363:Obj:=fo0 "is_plan" "is_plan" (top 58) (.str "dullglass.decisions" 623) 362
def o369:Obj:=co0 "worth" "worth" 651 228 4 3 364 true (.ref 366) (.ref 367) (.ref 368) 658
def o370:Obj:=fo0 "worth" "worth" (top 59) (.str "dullglass.decisions" 623) 369
def o374:Obj:=co0 "first_best_act" "first_best_act" 661 230 3 3 371 true .none .none (.ref 373) 664
def o375:Obj:=fo0 "first_best_act" "first_best_act" (top 60) (.str "dullglass.decisions" 623) 374
def o381:Obj:=co0 "_law_cell" "_law_cell" 669 234 2 3 376 true (.ref 378) (.ref 379) (.ref 380) 674
def o382:Obj:=fo0 "_law_cell" "_law_cell" (top 62) (.str "law_dullglass_k28_whole_one_of_both" 667) 381
def o388:Obj:=co0 "_law_drawn" "_law_drawn" 677 240 3 3 383 true (.ref 385) (.ref 386) (.ref 387) 687
def o389:Obj:=fo0 "_law_drawn" "_law_drawn" (top 63) (.str "law_dullglass_k28_whole_one_of_both" 667) 388
def o393:Obj:=co0 "_law_glass" "_law_glass" 690 252 4 3 390 true .none .none (.ref 392) 693
def o394:Obj:=fo0 "_law_glass" "_law_glass" (top 64) (.str "law_dullglass_k28_whole_one_of_both" 667) 393
def o398:Obj:=co0 "_law_best" "_law_best" 696 263 3 3 395 true .none .none (.ref 397) 699
def o399:Obj:=fo0 "_law_best" "_law_best" (top 65) (.str "law_dullglass_k28_whole_one_of_both" 667) 398
def o405:Obj:=co0 "_law_whole" "_law_whole" 702 271 1 3 400 true (.ref 402) (.ref 403) (.ref 404) 706
def o406:Obj:=fo0 "_law_whole" "_law_whole" (top 66) (.str "law_dullglass_k28_whole_one_of_both" 667) 405
def o412:Obj:=co0 "_law_is_dulling" "_law_is_dulling" 709 273 3 3 407 true (.ref 409) (.ref 410) (.ref 411) 718
def o413:Obj:=fo0 "_law_is_dulling" "_law_is_dulling" (top 67) (.str "law_dullglass_k28_whole_one_of_both" 667) 412
def o419:Obj:=co0 "_law_dulls" "_law_dulls" 721 292 3 3 414 true (.ref 416) (.ref 417) (.ref 418) 732
def o420:Obj:=fo0 "_law_dulls" "_law_dulls" (top 68) (.str "law_dullglass_k28_whole_one_of_both" 667) 419
def o424:Obj:=co0 "_law_more" "_law_more" 735 302 3 3 421 true .none .none (.ref 423) 738
def o425:Obj:=fo0 "_law_more" "_law_more" (top 69) (.str "law_dullglass_k28_whole_one_of_both" 667) 424
def o431:Obj:=co0 "_law_word" "_law_word" 741 314 3 3 426 true (.ref 428) (.ref 429) (.ref 430) 748
def o432:Obj:=fo0 "_law_word" "_law_word" (top 70) (.str "law_dullglass_k28_whole_one_of_both" 667) 431
def o436:Obj:=co0 "_law_other" "_law_other" 751 323 3 3 433 true .none .none (.ref 435) 754
def o437:Obj:=fo0 "_law_other" "_law_other" (top 71) (.str "law_dullglass_k28_whole_one_of_both" 667) 436
def o443:Obj:=co0 "law" "law" 757 339 1 3 438 true (.ref 440) (.ref 441) (.ref 442) 772
def o444:Obj:=fo0 "law" "law" (top 72) (.str "law_dullglass_k28_whole_one_of_both" 667) 443
def tA0 (P:Params):BT:=(N0 (boot_o_0 P) (N0 (boot_o_1 P) (N0 (boot_o_3 P) (N0 (boot_o_7 P) nl0 nl0) (N0 (tu0 []) nl0 nl0)) (N0 (boot_o_5 P) (N0 (boot_o_9 P) nl0 nl0) (N0 o13a nl0 nl0))) (N0 (boot_o_2 P) (N0 (boot_o_4 P) (N0 (boot_o_8 P) nl0 nl0) (N0 em0 nl0 nl0)) (N0 (boot_o_6 P) (N0 (boot_o_10 P) nl0 nl0) (N0 o14a nl0 nl0))))
def tE0 (P:Params):BT:=(N0 (boot_o_0 P) (N0 (boot_o_1 P) (N0 (o3 P) (N0 (boot_o_7 P) (N0 (tu0 [(.type "ValueError")]) (N0 (tu0 []) (N0 o63 (N0 (tu0 [(.str "one" 332),(.str "other" 333)]) (N0 (tu0 []) nl0 nl0) (N0 (tu0 []) nl0 nl0)) (N0 em0 (N0 (pr0 "seen_as" "seen_as" (top 49)) nl0 nl0) nl0)) (N0 o95 (N0 o159 (N0 (tu0 []) nl0 nl0) (N0 em0 nl0 nl0)) (N0 (pr0 "lowest" "lowest" (top 38)) (N0 o351 nl0 nl0) nl0))) (N0 (tu0 []) (N0 (tu0 []) (N0 o143 (N0 o271 nl0 nl0) (N0 o399 nl0 nl0)) (N0 (tu0 []) (N0 o335 nl0 nl0) nl0)) (N0 (tu0 []) (N0 o175 (N0 o303 nl0 nl0) (N0 o431 nl0 nl0)) (N0 em0 (N0 (tu0 []) nl0 nl0) nl0)))) (N0 (o23 P) (N0 o39 (N0 (tu0 []) (N0 (tu0 []) (N0 em0 nl0 nl0) (N0 em0 nl0 nl0)) (N0 o199 (N0 (tu0 []) nl0 nl0) nl0)) (N0 o103 (N0 em0 (N0 (pr0 "alike" "alike" (top 45)) nl0 nl0) (N0 (pr0 "_law_more" "_law_more" (top 69)) nl0 nl0)) (N0 o231 (N0 (tu0 []) nl0 nl0) nl0))) (N0 (tu0 []) (N0 (pr0 "divisor" "divisor" (top 8)) (N0 (tu0 [(.str "rows" 368),(.str "common" 369),(.str "row" 370),(.str "number" 371)]) (N0 (tu0 []) nl0 nl0) (N0 (tu0 []) nl0 nl0)) (N0 em0 (N0 em0 nl0 nl0) nl0)) (N0 em0 (N0 (tu0 []) (N0 o311 nl0 nl0) (N0 em0 nl0 nl0)) (N0 o247 (N0 o375 nl0 nl0) nl0))))) (N0 (tu0 []) (N0 em0 (N0 (tu0 []) (N0 (tu0 []) (N0 o131 (N0 (pr0 "is_tighter" "Board.is_tighter" (methAt (top 39) 4)) nl0 nl0) (N0 (pr0 "_law_drawn" "_law_drawn" (top 63)) nl0 nl0)) (N0 (tu0 []) (N0 em0 nl0 nl0) nl0)) (N0 (tu0 [(.str "top" 300),(.str "bottom" 301),(.str "common" 302)]) (N0 (pr0 "divided" "divided" (top 24)) (N0 (tu0 []) nl0 nl0) (N0 o419 nl0 nl0)) (N0 o227 (N0 (tu0 []) nl0 nl0) nl0))) (N0 o51 (N0 (tu0 []) (N0 o147 (N0 em0 nl0 nl0) (N0 (tu0 []) nl0 nl0)) (N0 (pr0 "solved" "solved" (top 36)) (N0 (pr0 "in_rows" "in_rows" (top 53)) nl0 nl0) nl0)) (N0 (pr0 "check_shares" "check_shares" (top 12)) (N0 (tu0 []) (N0 (tu0 [(.str "glass" 583)]) nl0 nl0) (N0 (pr0 "_law_other" "_law_other" (top 71)) nl0 nl0)) (N0 (tu0 []) (N0 (tu0 []) nl0 nl0) nl0)))) (N0 o27 (N0 (tu0 []) (N0 o75 (N0 (tu0 []) (N0 (tu0 [(.str "bottom" 527),(.str "lines" 528),(.str "stands_for" 529),(.str "unknowns" 530)]) nl0 nl0) (N0 (tu0 []) nl0 nl0)) (N0 (tu0 []) (N0 o331 nl0 nl0) nl0)) (N0 (tu0 []) (N0 (tu0 []) (N0 em0 nl0 nl0) (N0 em0 nl0 nl0)) (N0 (pr0 "__init__" "Board.__init__" (methAt (top 39) 0)) (N0 o363 nl0 nl0) nl0))) (N0 (tu0 []) (N0 em0 (N0 o155 (N0 o283 nl0 nl0) (N0 (pr0 "_law_is_dulling" "_law_is_dulling" (top 67)) nl0 nl0)) (N0 o219 (N0 (tu0 []) nl0 nl0) nl0)) (N0 o123 (N0 (pr0 "signs" "signs" (top 28)) (N0 o315 nl0 nl0) (N0 o443 nl0 nl0)) (N0 (tu0 []) (N0 (tu0 []) nl0 nl0) nl0)))))) (N0 (boot_o_5 P) (N0 (boot_o_9 P) (N0 (o17 P) (N0 o33 (N0 o65 (N0 (pr0 "below" "below" (top 14)) (N0 (tu0 [(.str "self" 512),(.str "k" 513),(.str "chosen" 514),(.str "place" 515),(.str "one" 516),(.str "other" 517)]) nl0 nl0) (N0 (tu0 [(.str "_law_cell_here" 680),(.str "_law_base" 681),(.str "_law_many" 682),(.str "_law_found" 683),(.str "_law_left" 684),(.str "_law_k" 685),(.str "_law_number" 686)]) nl0 nl0)) (N0 o193 (N0 o321 nl0 nl0) nl0)) (N0 (tu0 []) (N0 (tu0 []) (N0 o289 nl0 nl0) (N0 (tu0 []) nl0 nl0)) (N0 o225 (N0 em0 nl0 nl0) nl0))) (N0 o49 (N0 o81 (N0 em0 (N0 o273 nl0 nl0) (N0 em0 nl0 nl0)) (N0 (tu0 [(.str "rows" 444),(.str "sums" 445),(.str "unknowns" 446),(.str "board" 447),(.str "lack" 448),(.str "place" 449)]) (N0 (tu0 []) nl0 nl0) nl0)) (N0 (tu0 [(.str "one" 316),(.str "other" 317)]) (N0 em0 (N0 (tu0 []) nl0 nl0) (N0 (tu0 []) nl0 nl0)) (N0 o241 (N0 o369 nl0 nl0) nl0)))) (N0 o25 (N0 o41 (N0 o73 (N0 o137 (N0 o265 nl0 nl0) (N0 o393 nl0 nl0)) (N0 em0 (N0 (pr0 "wanted_sums" "wanted_sums" (top 51)) nl0 nl0) nl0)) (N0 em0 (N0 o169 (N0 o297 nl0 nl0) (N0 o425 nl0 nl0)) (N0 (tu0 []) (N0 (pr0 "is_plan" "is_plan" (top 58)) nl0 nl0) nl0))) (N0 o57 (N0 o89 (N0 (pr0 "common_divisor" "common_divisor" (top 22)) (N0 (pr0 "cleared" "cleared" (top 41)) nl0 nl0) (N0 (tu0 [(.str "_law_found" 712),(.str "_law_olds" 713),(.str "_law_news" 714),(.str "_law_by" 715),(.str "_law_row" 716),(.str "_law_number" 717)]) nl0 nl0)) (N0 (tu0 []) (N0 o345 nl0 nl0) nl0)) (N0 (tu0 []) (N0 (tu0 [(.str "glass" 409)]) (N0 em0 nl0 nl0) (N0 (tu0 []) nl0 nl0)) (N0 em0 (N0 em0 nl0 nl0) nl0))))) (N0 o13a (N0 o21 (N0 o37 (N0 o69 (N0 em0 (N0 o261 nl0 nl0) (N0 o389 nl0 nl0)) (N0 (pr0 "paired" "paired" (top 30)) (N0 o325 nl0 nl0) nl0)) (N0 (pr0 "reduced" "reduced" (top 10)) (N0 o165 (N0 (tu0 [(.str "one" 567),(.str "other" 568)]) nl0 nl0) (N0 (tu0 []) nl0 nl0)) (N0 (tu0 []) (N0 o357 nl0 nl0) nl0))) (N0 o53 (N0 (tu0 [(.str "one" 283),(.str "other" 284),(.str "rest" 285)]) (N0 (tu0 []) (N0 o277 nl0 nl0) (N0 o405 nl0 nl0)) (N0 o213 (N0 o341 nl0 nl0) nl0)) (N0 o117 (N0 o181 (N0 (pr0 "check_few_signs" "check_few_signs" (top 47)) nl0 nl0) (N0 o437 nl0 nl0)) (N0 (pr0 "bring_in" "Board.bring_in" (methAt (top 39) 2)) (N0 (pr0 "first_best_act" "first_best_act" (top 60)) nl0 nl0) nl0)))) (N0 o29 (N0 o45 (N0 em0 (N0 (pr0 "makes_table" "makes_table" (top 20)) (N0 o269 nl0 nl0) (N0 (pr0 "_law_best" "_law_best" (top 65)) nl0 nl0)) (N0 o205 (N0 em0 nl0 nl0) nl0)) (N0 o109 (N0 (pr0 "over_bottom" "over_bottom" (top 26)) (N0 (tu0 []) nl0 nl0) (N0 (tu0 []) nl0 nl0)) (N0 o237 (N0 em0 nl0 nl0) nl0))) (N0 o61 (N0 (tu0 []) (N0 em0 (N0 em0 nl0 nl0) (N0 o413 nl0 nl0)) (N0 (tu0 []) (N0 (pr0 "best" "best" (top 56)) nl0 nl0) nl0)) (N0 (tu0 []) (N0 o189 (N0 (tu0 []) nl0 nl0) nl0) (N0 o253 (N0 o381 nl0 nl0) nl0))))))) (N0 (boot_o_2 P) (N0 (boot_o_4 P) (N0 (boot_o_8 P) (N0 o16 (N0 em0 (N0 (tu0 [(.ref 24)]) (N0 (tu0 []) (N0 em0 nl0 nl0) (N0 em0 nl0 nl0)) (N0 (pr0 "column" "column" (top 29)) (N0 o320 nl0 nl0) nl0)) (N0 o96 (N0 o160 (N0 (pr0 "compared" "compared" (top 44)) nl0 nl0) (N0 (tu0 [(.str "_law_one" 724),(.str "_law_other_here" 725),(.str "_law_dulling" 726),(.str "_law_stand" 727),(.str "_law_j" 728),(.str "_law_total" 729),(.str "_law_i" 730),(.str "_law_due" 731)]) nl0 nl0)) (N0 o224 (N0 (tu0 []) nl0 nl0) nl0))) (N0 (o48 P) (N0 (pr0 "is_whole" "is_whole" (top 7)) (N0 (tu0 []) (N0 o272 nl0 nl0) (N0 (tu0 []) nl0 nl0)) (N0 em0 (N0 o336 nl0 nl0) nl0)) (N0 em0 (N0 (tu0 []) (N0 o304 nl0 nl0) (N0 o432 nl0 nl0)) (N0 (pr0 "lack" "Board.lack" (methAt (top 39) 1)) (N0 (pr0 "worth" "worth" (top 59)) nl0 nl0) nl0)))) (N0 o24 (N0 (tu0 [(.ref 24)]) (N0 (o72 P) (N0 (pr0 "glass_of" "glass_of" (top 19)) (N0 (pr0 "told" "Board.told" (methAt (top 39) 5)) nl0 nl0) (N0 (pr0 "_law_glass" "_law_glass" (top 64)) nl0 nl0)) (N0 (tu0 []) (N0 em0 nl0 nl0) nl0)) (N0 (tu0 []) (N0 (pr0 "table_of_shares" "table_of_shares" (top 25)) (N0 o296 nl0 nl0) (N0 o424 nl0 nl0)) (N0 o232 (N0 em0 nl0 nl0) nl0))) (N0 em0 (N0 o88 (N0 (tu0 []) (N0 em0 nl0 nl0) (N0 em0 nl0 nl0)) (N0 (tu0 [(.str "numbers" 456),(.str "place" 457),(.str "number" 458)]) (N0 (pr0 "gain" "gain" (top 55)) nl0 nl0) nl0)) (N0 (tu0 [(.str "one" 324),(.str "other" 325)]) (N0 em0 (N0 (tu0 []) nl0 nl0) (N0 (tu0 [(.str "_law_script" 760),(.str "_law_cell_here" 761),(.str "_law_world" 762),(.str "_law_many" 763),(.str "_law_bottom" 764),(.str "_law_rows" 765),(.str "_law_one" 766),(.str "_law_other_here" 767),(.str "_law_first" 768),(.str "_law_second" 769),(.str "_law_due" 770),(.str "_law_found" 771)]) nl0 nl0)) (N0 (tu0 []) (N0 (tu0 []) nl0 nl0) nl0))))) (N0 o12 (N0 o20 (N0 (o36 P) (N0 em0 (N0 (tu0 []) (N0 o260 nl0 nl0) (N0 o388 nl0 nl0)) (N0 em0 (N0 (pr0 "shown_in_all" "shown_in_all" (top 50)) nl0 nl0) nl0)) (N0 (tu0 []) (N0 o164 (N0 em0 nl0 nl0) (N0 o420 nl0 nl0)) (N0 (o228 P) (N0 (pr0 "check_payoffs" "check_payoffs" (top 57)) nl0 nl0) nl0))) (N0 (tu0 [(.ref 24)]) (N0 em0 (N0 o148 (N0 (pr0 "first_line" "first_line" (top 40)) nl0 nl0) (N0 (pr0 "_law_whole" "_law_whole" (top 66)) nl0 nl0)) (N0 o212 (N0 o340 nl0 nl0) nl0)) (N0 o116 (N0 (pr0 "stands" "stands" (top 27)) (N0 (tu0 []) nl0 nl0) (N0 o436 nl0 nl0)) (N0 em0 (N0 em0 nl0 nl0) nl0)))) (N0 (tu0 [(.ref 24)]) (N0 em0 (N0 (tu0 []) (N0 em0 (N0 (o268 P) nl0 nl0) (N0 em0 nl0 nl0)) (N0 (pr0 "check_alike_stands" "check_alike_stands" (top 32)) (N0 (tu0 []) nl0 nl0) nl0)) (N0 (pr0 "is_share" "is_share" (top 11)) (N0 em0 (N0 (tu0 [(.str "one" 575),(.str "other" 576)]) nl0 nl0) (N0 (tu0 [(.str "_law_found" 744),(.str "_law_one" 745),(.str "_law_other_here" 746),(.str "_law_good" 747)]) nl0 nl0)) (N0 o236 (N0 (tu0 []) nl0 nl0) nl0))) (N0 (o60 P) (N0 (tu0 [(.str "top" 292),(.str "bottom" 293)]) (N0 (tu0 []) (N0 (tu0 []) nl0 nl0) (N0 o412 nl0 nl0)) (N0 o220 (N0 em0 nl0 nl0) nl0)) (N0 o124 (N0 o188 (N0 o316 nl0 nl0) (N0 o444 nl0 nl0)) (N0 (pr0 "tightest" "Board.tightest" (methAt (top 39) 3)) (N0 (pr0 "_law_cell" "_law_cell" (top 62)) nl0 nl0) nl0)))))) (N0 (boot_o_6 P) (N0 (boot_o_10 P) (N0 (tu0 []) (N0 o34 (N0 (o66 P) (N0 o130 (N0 (tu0 []) nl0 nl0) (N0 (tu0 []) nl0 nl0)) (N0 o194 (N0 (tu0 []) nl0 nl0) nl0)) (N0 em0 (N0 em0 (N0 o290 nl0 nl0) (N0 (pr0 "_law_dulls" "_law_dulls" (top 68)) nl0 nl0)) (N0 (tu0 []) (N0 (tu0 [(.str "glass" 640),(.str "payoffs" 641)]) nl0 nl0) nl0))) (N0 o50 (N0 o82 (N0 (pr0 "makes_row" "makes_row" (top 21)) (N0 (tu0 []) nl0 nl0) (N0 (tu0 [(.str "_law_one" 705)]) nl0 nl0)) (N0 (tu0 []) (N0 em0 nl0 nl0) nl0)) (N0 (tu0 []) (N0 (tu0 [(.str "glass" 402)]) (N0 em0 nl0 nl0) (N0 em0 nl0 nl0)) (N0 o242 (N0 o370 nl0 nl0) nl0)))) (N0 o26 (N0 (o42 P) (N0 o74 (N0 o138 (N0 o266 nl0 nl0) (N0 o394 nl0 nl0)) (N0 (tu0 [(.str "one" 430),(.str "other" 431)]) (N0 o330 nl0 nl0) nl0)) (N0 (tu0 [(.str "thing" 309)]) (N0 o170 (N0 (tu0 []) nl0 nl0) (N0 (tu0 []) nl0 nl0)) (N0 em0 (N0 o362 nl0 nl0) nl0))) (N0 o58 (N0 (tu0 []) (N0 o154 (N0 o282 nl0 nl0) (N0 (tu0 []) nl0 nl0)) (N0 (pr0 "first_above" "first_above" (top 37)) (N0 o346 nl0 nl0) nl0)) (N0 (pr0 "times" "times" (top 13)) (N0 (tu0 []) (N0 (pr0 "equations" "equations" (top 48)) nl0 nl0) (N0 (pr0 "law" "law" (top 72)) nl0 nl0)) (N0 (tu0 [(.str "self" 501),(.str "place" 502),(.str "chosen" 503),(.str "k" 504),(.str "line" 505)]) (N0 (tu0 [(.str "_law_script" 672),(.str "_law_k" 673)]) nl0 nl0) nl0))))) (N0 o14a (N0 (tu0 []) (N0 o38 (N0 o70 (N0 (tu0 [(.str "bottom" 348),(.str "rows" 349)]) (N0 (tu0 []) nl0 nl0) (N0 (tu0 []) nl0 nl0)) (N0 o198 (N0 o326 nl0 nl0) nl0)) (N0 o102 (N0 (tu0 []) (N0 (tu0 []) nl0 nl0) (N0 em0 nl0 nl0)) (N0 o230 (N0 o358 nl0 nl0) nl0))) (N0 (o54 P) (N0 (tu0 []) (N0 em0 (N0 o278 nl0 nl0) (N0 o406 nl0 nl0)) (N0 (tu0 []) (N0 (tu0 []) nl0 nl0) nl0)) (N0 (tu0 []) (N0 o182 (N0 o310 nl0 nl0) (N0 (tu0 []) nl0 nl0)) (N0 o246 (N0 o374 nl0 nl0) nl0)))) (N0 (o30 P) (N0 o46 (N0 (tu0 [(.str "thing" 276)]) (N0 o142 (N0 o270 nl0 nl0) (N0 o398 nl0 nl0)) (N0 o206 (N0 (pr0 "dulling_by" "dulling_by" (top 52)) nl0 nl0) nl0)) (N0 o110 (N0 o174 (N0 (pr0 "dulls_into" "dulls_into" (top 46)) nl0 nl0) (N0 (pr0 "_law_word" "_law_word" (top 70)) nl0 nl0)) (N0 (tu0 []) (N0 (tu0 [(.str "glass" 654),(.str "payoffs" 655),(.str "sign" 656),(.str "act" 657)]) nl0 nl0) nl0))) (N0 o62 (N0 (pr0 "share" "share" (top 9)) (N0 (pr0 "lowest_table" "lowest_table" (top 23)) (N0 (tu0 [(.str "one" 558),(.str "other" 559),(.str "answer" 560)]) nl0 nl0) (N0 (tu0 []) nl0 nl0)) (N0 em0 (N0 o350 nl0 nl0) nl0)) (N0 em0 (N0 (tu0 []) (N0 em0 nl0 nl0) nl0) (N0 o254 (N0 o382 nl0 nl0) nl0))))))))
lay_quick My.cE0 My.env0 My.ls0
theorem r_pre (w:World):(fun os=>topGo treeTable PySem.Challenge.pw_dullglass_k28_whole_one_of_both w 11 (some (.ref 6)) 12 (Shared.mk (boot_heap w.params) (Array.mk []) boot_drawn boot_toks os) (topStub PySem.Challenge.pw_dullglass_k28_whole_one_of_both))=fun os=>some ((SharedT.mk (tA0 w.params) 15 lf0 (Array.mk []) boot_drawn 187 os).abs,Thread.mk (denote treeTable cE0) cE0 ⟨0,0,0,0⟩ [topFrame ⟨0,0,0,0⟩]):=by
 rewrite [PySem.W.Fast.te15667345088766844465,PySem.W.Fast.te14364793385576792824,PySem.W.Fast.te2385735874315461168,PySem.W.Fast.te11892475500146522536,PySem.W.Fast.te2665708160071446767]
 kernel_rfl
theorem r_block (w:World):(fun os=>segRun treeTable PySem.Challenge.pw_dullglass_k28_whole_one_of_both w 11 (some (.ref 6)) 1 1 (SharedT.mk (tA0 w.params) 15 lf0 (Array.mk []) boot_drawn 187 os).abs (blockOf (behindTheImports PySem.Challenge.pw_dullglass_k28_whole_one_of_both) env0 cE0 ⟨0,0,0,0⟩ [topFrame ⟨0,0,0,0⟩]))=fun os=>some (.next,(SharedT.mk (tA0 w.params) 15 lf0 (Array.mk []) boot_drawn 187 os).abs,cE0,⟨0,0,0,0⟩):=by
 rewrite [PySem.W.Fast.te14374325043358763698,PySem.W.Fast.te14364793385576792824,PySem.W.Fast.te2385735874315461168,PySem.W.Fast.te2665708160071446767,PySem.W.Fast.te13849342267361746138]
 kernel_rfl
theorem r_all (w:World):(fun os=>segRunT treeTable PySem.Challenge.pw_dullglass_k28_whole_one_of_both w 11 (some (.ref 6)) 1 3064 (SharedT.mk (tA0 w.params) 15 lf0 (Array.mk []) boot_drawn 187 os) (piecesOf (behindTheImports PySem.Challenge.pw_dullglass_k28_whole_one_of_both) env0 cE0 ⟨0,0,0,0⟩ [topFrame ⟨0,0,0,0⟩]))=fun os=>some (.next,(SharedT.mk (tE0 w.params) 445 lf0 (Array.mk []) boot_drawn 775 os),cE0,⟨339,0,355,117⟩):=by
 rewrite [PySem.W.Fast.te10110043849684766642,PySem.W.Fast.te14364793385576792824,PySem.W.Fast.te2385735874315461168,PySem.W.Fast.te2665708160071446767,PySem.W.Fast.te13849342267361746138]
 kernel_rfl
theorem r_fin (w:World):(fun os=>topRun treeTable PySem.Challenge.pw_dullglass_k28_whole_one_of_both w 11 (some (.ref 6)) 2 (SharedT.mk (tE0 w.params) 445 lf0 (Array.mk []) boot_drawn 775 os).abs ⟨doneF .next,cE0,⟨339,0,355,117⟩,[topFrame ⟨0,0,0,0⟩]⟩)=fun os=>some (SharedT.mk (tE0 w.params) 445 lf0 (Array.mk []) boot_drawn 775 os).abs:=by
 rewrite [PySem.W.Fast.te14082659384304107361,PySem.W.Fast.te14364793385576792824,PySem.W.Fast.te2385735874315461168,PySem.W.Fast.te2665708160071446767]
 kernel_rfl
theorem r_run (w:World) (os:OsState):topRun treeTable PySem.Challenge.pw_dullglass_k28_whole_one_of_both w 11 (some (.ref 6)) (12+(1+(3064+2))) (Shared.mk (boot_heap w.params) (Array.mk []) boot_drawn boot_toks os) (topStub PySem.Challenge.pw_dullglass_k28_whole_one_of_both)=some (SharedT.mk (tE0 w.params) 445 lf0 (Array.mk []) boot_drawn 775 os).abs :=
 go_top (congrFun (r_pre w) os) (piece_block (congrFun (r_block w) os) (by
  have q:=piece_app (rest:=[]) (segRun_of (congrFun (r_all w) os)) (piece_nil (congrFun (r_fin w) os))
  rwa [List.append_nil] at q))
theorem r_open:opening PySem.Challenge.pw_dullglass_k28_whole_one_of_both=plainProg PySem.Challenge.pw_dullglass_k28_whole_one_of_both.main.scope.names:=by kernel_rfl
theorem r_fence (s:Shared):fenceModules? PySem.Challenge.pw_dullglass_k28_whole_one_of_both s=some s:=by kernel_rfl
theorem r_size (w:World):((boot_heap w.params).isNs mainGlobals&&(Array.mk []:Array GenState).size==0,(boot_heap w.params).objs.size,(boot_heap w.params).nsMap mainGlobals "__annotations__")=(true,11,(some (.ref 6))):=by kernel_rfl
theorem l_one (w:World):(fun os=>(staticsOk (importedModules PySem.Challenge.pw_dullglass_k28_whole_one_of_both.main.body) (boot_heap w.params) (absHeap (tE0 w.params) 445 lf0)&&namesBound PySem.Challenge.pw_dullglass_k28_whole_one_of_both (absHeap (tE0 w.params) 445 lf0)&&gensDone (Shared.mk (absHeap (tE0 w.params) 445 lf0) (Array.mk []) boot_drawn 775 os)&&laidKept (boot_heap w.params) (absHeap (tE0 w.params) 445 lf0)))=fun _=>true:=by
 rewrite [PySem.W.Fast.te5923862056798008813,PySem.W.Fast.te2385735874315461168]
 kernel_rfl
theorem l_two (w:World):(fun os=>openSeen (view PySem.Challenge.pw_dullglass_k28_whole_one_of_both [72]) ls0 (importedModules PySem.Challenge.pw_dullglass_k28_whole_one_of_both.main.body) (fun _=>true) true (Shared.mk (absHeap (tE0 w.params) 445 lf0) (Array.mk []) boot_drawn 775 os))=fun _=>openGood (view PySem.Challenge.pw_dullglass_k28_whole_one_of_both [72]) ls0:=by
 rewrite [PySem.W.Fast.te4187177175401517315,PySem.W.Fast.te5923862056798008813,PySem.W.Fast.te2385735874315461168,PySem.W.Fast.te4294247251607483543]
 kernel_rfl
def K0 (P:Params):Frag:=(nat_lit 2,(boot_o_2 P))::(nat_lit 3,(o3 P))::(nat_lit 23,(o23 P))::(nat_lit 24,o24)::(nat_lit 25,o25)::(nat_lit 36,(o36 P))::(nat_lit 37,o37)::(nat_lit 48,(o48 P))::(nat_lit 49,o49)::(nat_lit 60,(o60 P))::(nat_lit 61,o61)::(nat_lit 72,(o72 P))::(nat_lit 73,o73)::(nat_lit 81,o81)::(nat_lit 82,o82)::(nat_lit 88,o88)::(nat_lit 89,o89)::(nat_lit 95,o95)::(nat_lit 96,o96)::(nat_lit 102,o102)::(nat_lit 103,o103)::(nat_lit 109,o109)::(nat_lit 110,o110)::(nat_lit 116,o116)::(nat_lit 117,o117)::(nat_lit 123,o123)::(nat_lit 124,o124)::(nat_lit 130,o130)::(nat_lit 131,o131)::(nat_lit 137,o137)::(nat_lit 138,o138)::(nat_lit 142,o142)::(nat_lit 143,o143)::(nat_lit 147,o147)::(nat_lit 148,o148)::(nat_lit 154,o154)::(nat_lit 155,o155)::(nat_lit 159,o159)::(nat_lit 160,o160)::(nat_lit 164,o164)::(nat_lit 165,o165)::(nat_lit 169,o169)::(nat_lit 170,o170)::(nat_lit 174,o174)::(nat_lit 175,o175)::(nat_lit 181,o181)::(nat_lit 182,o182)::(nat_lit 188,o188)::(nat_lit 189,o189)::(nat_lit 193,o193)::(nat_lit 194,o194)::(nat_lit 198,o198)::(nat_lit 199,o199)::(nat_lit 205,o205)::(nat_lit 206,o206)::(nat_lit 212,o212)::(nat_lit 213,o213)::(nat_lit 219,o219)::(nat_lit 220,o220)::(nat_lit 224,o224)::(nat_lit 225,o225)::(nat_lit 236,o236)::(nat_lit 237,o237)::(nat_lit 241,o241)::(nat_lit 242,o242)::(nat_lit 246,o246)::(nat_lit 247,o247)::(nat_lit 253,o253)::(nat_lit 254,o254)::(nat_lit 260,o260)::(nat_lit 261,o261)::(nat_lit 265,o265)::(nat_lit 266,o266)::(nat_lit 268,(o268 P))::(nat_lit 269,o269)::(nat_lit 270,o270)::(nat_lit 271,o271)::(nat_lit 277,o277)::(nat_lit 278,o278)::(nat_lit 282,o282)::(nat_lit 283,o283)::(nat_lit 289,o289)::(nat_lit 290,o290)::(nat_lit 296,o296)::(nat_lit 297,o297)::(nat_lit 303,o303)::(nat_lit 304,o304)::(nat_lit 310,o310)::(nat_lit 311,o311)::(nat_lit 315,o315)::(nat_lit 316,o316)::(nat_lit 320,o320)::(nat_lit 321,o321)::(nat_lit 325,o325)::(nat_lit 326,o326)::(nat_lit 330,o330)::(nat_lit 331,o331)::(nat_lit 335,o335)::(nat_lit 336,o336)::(nat_lit 340,o340)::(nat_lit 341,o341)::(nat_lit 345,o345)::(nat_lit 346,o346)::(nat_lit 350,o350)::(nat_lit 351,o351)::(nat_lit 357,o357)::(nat_lit 358,o358)::(nat_lit 362,o362)::(nat_lit 363,o363)::(nat_lit 369,o369)::(nat_lit 370,o370)::(nat_lit 374,o374)::(nat_lit 375,o375)::(nat_lit 381,o381)::(nat_lit 382,o382)::(nat_lit 388,o388)::(nat_lit 389,o389)::(nat_lit 393,o393)::(nat_lit 394,o394)::(nat_lit 398,o398)::(nat_lit 399,o399)::(nat_lit 405,o405)::(nat_lit 406,o406)::(nat_lit 412,o412)::(nat_lit 413,o413)::(nat_lit 419,o419)::(nat_lit 420,o420)::(nat_lit 424,o424)::(nat_lit 425,o425)::(nat_lit 431,o431)::(nat_lit 432,o432)::(nat_lit 436,o436)::(nat_lit 437,o437)::(nat_lit 443,o443)::(nat_lit 444,o444)::[]
def as0:List Addr:=[2,3,23,24,25,36,37,48,49,60,61,72,73,81,82,88,89,95,96,102,103,109,110,116,117,123,124,130,131,137,138,142,143,147,148,154,155,159,160,164,165,169,170,174,175,181,182,188,189,193,194,198,199,205,206,212,213,219,220,224,225,236,237,241,242,246,247,253,254,260,261,265,266,268,269,270,271,277,278,282,283,289,290,296,297,303,304,310,311,315,316,320,321,325,326,330,331,335,336,340,341,345,346,350,351,357,358,362,363,369,370,374,375,381,382,388,389,393,394,398,399,405,406,412,413,419,420,424,425,431,432,436,437,443,444]
theorem l_three (w:World):(fun (os:OsState)=>as0.map (absHeap (tE0 w.params) 445 lf0).get?)=fun _=>(K0 w.params).map fun p=>some p.2:=by kernel_rfl
theorem left0:LeftO PySem.Challenge.pw_dullglass_k28_whole_one_of_both (view PySem.Challenge.pw_dullglass_k28_whole_one_of_both [72]) ls0 (fun _=>true) (fun s=>as0.map s.heap.get?) (fun w=>(K0 w.params).map fun p=>some p.2) 100000 :=
 LeftO.of_pieces (H₀:=boot_heap) (H₁:=fun P=>absHeap (tE0 P) 445 lf0) (gs₁:=Array.mk []) (d₁:=boot_drawn) (k₁:=775) (boot_open r_open rfl r_fence) r_size r_run rfl fun w=>by
  funext os
  exact congr (congrArg Prod.mk (congrFun (l_one w) os)) (congr (congrArg Prod.mk (congrFun (l_two w) os)) (congrFun (l_three w) os))
end
end My
open PySem PySem.W PyProof.Rows
set_option maxRecDepth 100000 in
set_option maxHeartbeats 0 in
theorem PySem.Challenge.cw_dullglass_k28_whole_one_of_both_holds : PySem.Challenge.rw_dullglass_k28_whole_one_of_both.Holds := by
 w_on; o_law
 refine holds_open (q:=view PySem.Challenge.pw_dullglass_k28_whole_one_of_both [72]) (XP:=fun _ _=>True) (YP:=InK My.K0) My.left0 (InK.of fun _=>by kernel_rfl) InK.keeps (fun _ _=>True.intro) (fun _ _ _ _ _=>True.intro) (by rfl) (by rfl) (by rfl) (fun s _=>recFacts_nil rfl) (by rfl) (by assumption) (by decide +kernel) ⟨rfl,rfl,rfl,rfl,rfl,by decide +kernel⟩ ?hw ?hc
 case hw=>w_witness2
 k_fill
 refine My.walk (l:=PySem.Challenge.rw_dullglass_k28_whole_one_of_both) rfl rfl (fun w h Y=>Y) ?F
 case F =>
  intro w mg fa h KX G hmg
  refine' My.all_mk KX G hmg ?a0 ?l0 ?a1 ?l1 ?a2 ?l2 ?a3 ?l3 ?a4 ?l4 ?a5 ?l5 ?a6 ?l6 ?a7 ?l7 ?a8 ?l8 ?a9 ?l9 ?a10 ?l10 ?a11 ?l11 ?a12 ?l12 ?a13 ?l13 ?b_Board ?a14 ?l14 ?n14 ?a15 ?l15 ?n15 ?a16 ?l16 ?n16 ?a17 ?l17 ?n17 ?a18 ?l18 ?a19 ?l19 ?n19 ?a20 ?l20 ?a21 ?l21 ?a22 ?l22 ?n22 ?a23 ?l23 ?a24 ?l24 ?a25 ?l25 ?a26 ?l26 ?a27 ?l27 ?a28 ?l28 ?a29 ?l29 ?a30 ?l30 ?a31 ?l31 ?a32 ?l32 ?a33 ?l33 ?a34 ?l34 ?a35 ?l35 ?a36 ?l36 ?a37 ?l37 ?a38 ?l38 ?a39 ?l39 ?a40 ?l40 ?a41 ?l41 ?a42 ?l42 ?a43 ?l43 ?a44 ?l44 ?a45 ?l45 ?a46 ?l46 ?a47 ?l47 ?a48 ?l48 ?a49 ?l49 ?a50 ?l50 ?a51 ?l51 ?a52 ?l52 ?a53 ?l53 ?a54 ?l54 ?a55 ?l55 ?a56 ?l56 ?a57 ?l57 ?a58 ?l58 ?c58 ?k58 ?z_abs ?z_all ?z_bool ?z_enumerate ?z_int ?z_isinstance ?z_len ?z_list ?z_max ?z_min ?z_range ?z_sorted ?z_sum ?z_tuple ?z_zip ?y_FEWEST_STANDS ?y_MOST_COMPARED ?y_MOST_ROWS ?y_MOST_SIGNS ?y_MOST_STANDS ?y_MOST_UNKNOWNS ?f_Board_c_pg ?f_Board_c_hd ?f_Board_c_po ?f_Board_c_sa ?f_Board_mk ?f_Board_kp ?f_Board_n_bottom ?f_Board_n_lines ?f_Board_n_stands_for ?f_Board_n_unknowns
  (case a0=>k_is)
  (case l0=>refine' My.LK.mk ?l ?c ?k; (case l=>k_is); (case c=>k_is); (case k=>k_is))
  (case a1=>k_is)
  (case l1=>refine' My.LK.mk ?l ?c ?k; (case l=>k_is); (case c=>k_is); (case k=>k_is))
  (case a2=>k_is)
  (case l2=>refine' My.LK.mk ?l ?c ?k; (case l=>k_is); (case c=>k_is); (case k=>k_is))
  (case a3=>k_is)
  (case l3=>refine' My.LK.mk ?l ?c ?k; (case l=>k_is); (case c=>k_is); (case k=>k_is))
  (case a4=>k_is)
  (case l4=>refine' My.LK.mk ?l ?c ?k; (case l=>k_is); (case c=>k_is); (case k=>k_is))
  (case a5=>k_is)
  (case l5=>refine' My.LK.mk ?l ?c ?k; (case l=>k_is); (case c=>k_is); (case k=>k_is))
  (case a6=>k_is)
  (case l6=>refine' My.LK.mk ?l ?c ?k; (case l=>k_is); (case c=>k_is); (case k=>k_is))
  (case a7=>k_is)
  (case l7=>refine' My.LK.mk ?l ?c ?k; (case l=>k_is); (case c=>k_is); (case k=>k_is))
  (case a8=>k_is)
  (case l8=>refine' My.LK.mk ?l ?c ?k; (case l=>k_is); (case c=>k_is); (case k=>k_is))
  (case a9=>k_is)
  (case l9=>refine' My.LK.mk ?l ?c ?k; (case l=>k_is); (case c=>k_is); (case k=>k_is))
  (case a10=>k_is)
  (case l10=>refine' My.LK.mk ?l ?c ?k; (case l=>k_is); (case c=>k_is); (case k=>k_is))
  (case a11=>k_is)
  (case l11=>refine' My.LK.mk ?l ?c ?k; (case l=>k_is); (case c=>k_is); (case k=>k_is))
  (case a12=>k_is)
  (case l12=>refine' My.LK.mk ?l ?c ?k; (case l=>k_is); (case c=>k_is); (case k=>k_is))
  (case a13=>k_is)
  (case l13=>refine' My.LK.mk ?l ?c ?k; (case l=>k_is); (case c=>k_is); (case k=>k_is))
  (case b_Board=>k_is)
  (case a14=>k_is)
  (case l14=>refine' My.LK.mk ?l ?c ?k; (case l=>k_is); (case c=>k_is); (case k=>k_is))
  (case n14=>k_is)
  (case a15=>k_is)
  (case l15=>refine' My.LK.mk ?l ?c ?k; (case l=>k_is); (case c=>k_is); (case k=>k_is))
  (case n15=>k_is)
  (case a16=>k_is)
  (case l16=>refine' My.LK.mk ?l ?c ?k; (case l=>k_is); (case c=>k_is); (case k=>k_is))
  (case n16=>k_is)
  (case a17=>k_is)
  (case l17=>refine' My.LK.mk ?l ?c ?k; (case l=>k_is); (case c=>k_is); (case k=>k_is))
  (case n17=>k_is)
  (case a18=>k_is)
  (case l18=>refine' My.LK.mk ?l ?c ?k; (case l=>k_is); (case c=>k_is); (case k=>k_is))
  (case a19=>k_is)
  (case l19=>refine' My.LK.mk ?l ?c ?k; (case l=>k_is); (case c=>k_is); (case k=>k_is))
  (case n19=>k_is)
  (case a20=>k_is)
  (case l20=>refine' My.LK.mk ?l ?c ?k; (case l=>k_is); (case c=>k_is); (case k=>k_is))
  (case a21=>k_is)
  (case l21=>refine' My.LK.mk ?l ?c ?k; (case l=>k_is); (case c=>k_is); (case k=>k_is))
  (case a22=>k_is)
  (case l22=>refine' My.LK.mk ?l ?c ?k; (case l=>k_is); (case c=>k_is); (case k=>k_is))
  (case n22=>k_is)
  (case a23=>k_is)
  (case l23=>refine' My.LK.mk ?l ?c ?k; (case l=>k_is); (case c=>k_is); (case k=>k_is))
  (case a24=>k_is)
  (case l24=>refine' My.LK.mk ?l ?c ?k; (case l=>k_is); (case c=>k_is); (case k=>k_is))
  (case a25=>k_is)
  (case l25=>refine' My.LK.mk ?l ?c ?k; (case l=>k_is); (case c=>k_is); (case k=>k_is))
  (case a26=>k_is)
  (case l26=>refine' My.LK.mk ?l ?c ?k; (case l=>k_is); (case c=>k_is); (case k=>k_is))
  (case a27=>k_is)
  (case l27=>refine' My.LK.mk ?l ?c ?k; (case l=>k_is); (case c=>k_is); (case k=>k_is))
  (case a28=>k_is)
  (case l28=>refine' My.LK.mk ?l ?c ?k; (case l=>k_is); (case c=>k_is); (case k=>k_is))
  (case a29=>k_is)
  (case l29=>refine' My.LK.mk ?l ?c ?k; (case l=>k_is); (case c=>k_is); (case k=>k_is))
  (case a30=>k_is)
  (case l30=>refine' My.LK.mk ?l ?c ?k; (case l=>k_is); (case c=>k_is); (case k=>k_is))
  (case a31=>k_is)
  (case l31=>refine' My.LK.mk ?l ?c ?k; (case l=>k_is); (case c=>k_is); (case k=>k_is))
  (case a32=>k_is)
  (case l32=>refine' My.LK.mk ?l ?c ?k; (case l=>k_is); (case c=>k_is); (case k=>k_is))
  (case a33=>k_is)
  (case l33=>refine' My.LK.mk ?l ?c ?k; (case l=>k_is); (case c=>k_is); (case k=>k_is))
  (case a34=>k_is)
  (case l34=>refine' My.LK.mk ?l ?c ?k; (case l=>k_is); (case c=>k_is); (case k=>k_is))
  (case a35=>k_is)
  (case l35=>refine' My.LK.mk ?l ?c ?k; (case l=>k_is); (case c=>k_is); (case k=>k_is))
  (case a36=>k_is)
  (case l36=>refine' My.LK.mk ?l ?c ?k; (case l=>k_is); (case c=>k_is); (case k=>k_is))
  (case a37=>k_is)
  (case l37=>refine' My.LK.mk ?l ?c ?k; (case l=>k_is); (case c=>k_is); (case k=>k_is))
  (case a38=>k_is)
  (case l38=>refine' My.LK.mk ?l ?c ?k; (case l=>k_is); (case c=>k_is); (case k=>k_is))
  (case a39=>k_is)
  (case l39=>refine' My.LK.mk ?l ?c ?k; (case l=>k_is); (case c=>k_is); (case k=>k_is))
  (case a40=>k_is)
  (case l40=>refine' My.LK.mk ?l ?c ?k; (case l=>k_is); (case c=>k_is); (case k=>k_is))
  (case a41=>k_is)
  (case l41=>refine' My.LK.mk ?l ?c ?k; (case l=>k_is); (case c=>k_is); (case k=>k_is))
  (case a42=>k_is)
  (case l42=>refine' My.LK.mk ?l ?c ?k; (case l=>k_is); (case c=>k_is); (case k=>k_is))
  (case a43=>k_is)
  (case l43=>refine' My.LK.mk ?l ?c ?k; (case l=>k_is); (case c=>k_is); (case k=>k_is))
  (case a44=>k_is)
  (case l44=>refine' My.LK.mk ?l ?c ?k; (case l=>k_is); (case c=>k_is); (case k=>k_is))
  (case a45=>k_is)
  (case l45=>refine' My.LK.mk ?l ?c ?k; (case l=>k_is); (case c=>k_is); (case k=>k_is))
  (case a46=>k_is)
  (case l46=>refine' My.LK.mk ?l ?c ?k; (case l=>k_is); (case c=>k_is); (case k=>k_is))
  (case a47=>k_is)
  (case l47=>refine' My.LK.mk ?l ?c ?k; (case l=>k_is); (case c=>k_is); (case k=>k_is))
  (case a48=>k_is)
  (case l48=>refine' My.LK.mk ?l ?c ?k; (case l=>k_is); (case c=>k_is); (case k=>k_is))
  (case a49=>k_is)
  (case l49=>refine' My.LK.mk ?l ?c ?k; (case l=>k_is); (case c=>k_is); (case k=>k_is))
  (case a50=>k_is)
  (case l50=>refine' My.LK.mk ?l ?c ?k; (case l=>k_is); (case c=>k_is); (case k=>k_is))
  (case a51=>k_is)
  (case l51=>refine' My.LK.mk ?l ?c ?k; (case l=>k_is); (case c=>k_is); (case k=>k_is))
  (case a52=>k_is)
  (case l52=>refine' My.LK.mk ?l ?c ?k; (case l=>k_is); (case c=>k_is); (case k=>k_is))
  (case a53=>k_is)
  (case l53=>refine' My.LK.mk ?l ?c ?k; (case l=>k_is); (case c=>k_is); (case k=>k_is))
  (case a54=>k_is)
  (case l54=>refine' My.LK.mk ?l ?c ?k; (case l=>k_is); (case c=>k_is); (case k=>k_is))
  (case a55=>k_is)
  (case l55=>refine' My.LK.mk ?l ?c ?k; (case l=>k_is); (case c=>k_is); (case k=>k_is))
  (case a56=>k_is)
  (case l56=>refine' My.LK.mk ?l ?c ?k; (case l=>k_is); (case c=>k_is); (case k=>k_is))
  (case a57=>k_is)
  (case l57=>refine' My.LK.mk ?l ?c ?k; (case l=>k_is); (case c=>k_is); (case k=>k_is))
  (case a58=>k_is)
  (case l58=>k_is)
  (case c58=>k_is)
  (case k58=>k_is)
  (case z_abs=>k_is)
  (case z_all=>k_is)
  (case z_bool=>k_is)
  (case z_enumerate=>k_is)
  (case z_int=>k_is)
  (case z_isinstance=>k_is)
  (case z_len=>k_is)
  (case z_list=>k_is)
  (case z_max=>k_is)
  (case z_min=>k_is)
  (case z_range=>k_is)
  (case z_sorted=>k_is)
  (case z_sum=>k_is)
  (case z_tuple=>k_is)
  (case z_zip=>k_is)
  (case y_FEWEST_STANDS=>k_is)
  (case y_MOST_COMPARED=>k_is)
  (case y_MOST_ROWS=>k_is)
  (case y_MOST_SIGNS=>k_is)
  (case y_MOST_STANDS=>k_is)
  (case y_MOST_UNKNOWNS=>k_is)
  (case f_Board_c_pg=>first|k_exc|k_is|rfl)
  (case f_Board_c_hd=>first|k_exc|k_is|rfl)
  (case f_Board_c_po=>first|k_exc|k_is|rfl)
  (case f_Board_c_sa=>first|k_exc|k_is|rfl)
  (case f_Board_mk=>first|k_exc|k_is|rfl)
  (case f_Board_kp=>first|k_exc|k_is|rfl)
  (case f_Board_n_bottom=>first|k_exc|k_is|rfl)
  (case f_Board_n_lines=>first|k_exc|k_is|rfl)
  (case f_Board_n_stands_for=>first|k_exc|k_is|rfl)
  (case f_Board_n_unknowns=>first|k_exc|k_is|rfl)
