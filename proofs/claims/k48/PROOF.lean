import PyProof.Rows.All
import Wide.All
import OpenK.AllK
import Wide.FinOn
import Lean
import PyProof.EqAt
import PyProof.EqKinds
import PyProof.TupleCall
import PySem.Challenge.RW_dullglass_k48_tops_of_a_shelf
set_option Elab.async false
set_option linter.all false
set_option maxRecDepth 100000
set_option maxHeartbeats 4000000
set_option genSizeOf false
set_option genInjectivity false
namespace L2
open PySem PySem.Spec PyProof.Rows
abbrev Key:=Sum Int Str
def zahq:Key→Value→Bool
 | .inl k,v=>Value.isInt k v
 | .inr x,v=>Value.isStrOf x v
def keyH (w:World):Key→Int
 | .inl k=>hashInt k
 | .inr x=>hashStr w x
theorem qao : ∀ {k:Key}{v:Value},zahq k v=true→(∃ i t,k=Sum.inl i∧v=Value.int i t)∨(∃ x t,k=Sum.inr x∧v=Value.str x t)
 | .inl i,v,h=>by
  obtain ⟨t,e⟩:=Value.isInt_shape (k:=i) (v:=v) h
  exact .inl ⟨i,t,rfl,e⟩
 | .inr x,v,h=>by
  obtain ⟨t,e⟩:=Value.isStrOf_shape (x:=x) (v:=v) h
  exact .inr ⟨x,t,rfl,e⟩
theorem zaiu (a b:Int):decide ((Sum.inl a:Key)=Sum.inl b)=(a==b):=by
 by_cases e:a=b
 ·subst e;simp
 ·have h : ¬ (Sum.inl a:Key)=Sum.inl b:=fun q=>e (Sum.inl.inj q)
  rw [decide_eq_false h]
  exact (beq_eq_false_iff_ne.mpr e).symm
theorem zajr (a b:Str):decide ((Sum.inr a:Key)=Sum.inr b)=decide (a=b):=by
 by_cases e:a=b
 ·subst e;simp
 ·have h : ¬ (Sum.inr a:Key)=Sum.inr b:=fun q=>e (Sum.inr.inj q)
  rw [decide_eq_false h,decide_eq_false e]
theorem zajm (a:Int) (b:Str):decide ((Sum.inl a:Key)=Sum.inr b)=false:=decide_eq_false (fun q=>nomatch q)
theorem zaik (a:Str) (b:Int):decide ((Sum.inr a:Key)=Sum.inl b)=false:=decide_eq_false (fun q=>nomatch q)
def qrz (prog:Program) (w:World):PySem.KeyKind prog w Key where
 is:=zahq
 hash:=keyH w
 inj:=fun v a b ha hb=>by
  rcases qao ha with ⟨i,t,rfl,rfl⟩|⟨x,t,rfl,rfl⟩
  ·rcases qao hb with ⟨j,u,rfl,e⟩|⟨y,u,rfl,e⟩
   ·injection e with e1 _;rw [e1]
   ·exact nomatch e
  ·rcases qao hb with ⟨j,u,rfl,e⟩|⟨y,u,rfl,e⟩
   ·exact nomatch e
   ·injection e with e1 _;rw [e1]
 byValue:=fun k v h=>by
  rcases qao h with ⟨i,t,rfl,rfl⟩|⟨x,t,rfl,rfl⟩ <;> rfl
 pyHash:=fun hv h=>by
  rcases qao hv with ⟨i,t,rfl,rfl⟩|⟨x,t,rfl,rfl⟩
  ·exact wpAny_pyHash_int h
  ·exact wpAny_pyHash_str h
 eqBool:=fun hu hv h=>by
  rcases qao hu with ⟨i,t,rfl,rfl⟩|⟨x,t,rfl,rfl⟩
  ·rcases qao hv with ⟨j,u,rfl,rfl⟩|⟨y,u,rfl,rfl⟩
   ·rw [zaiu] at h;exact wpAny_eqBool_int h
   ·rw [zajm] at h;exact SeqAt.EqAt.int_str i t y u _ _ _ _ h
  ·rcases qao hv with ⟨j,u,rfl,rfl⟩|⟨y,u,rfl,rfl⟩
   ·rw [zaik] at h;exact SeqAt.EqAt.str_int x t j u _ _ _ _ h
   ·rw [zajr] at h;exact wpAny_eqBool_str h
 «strs»:=fun k x t v h=>by
  rcases qao h with ⟨i,u,rfl,e⟩|⟨y,u,rfl,e⟩
  ·exact nomatch e
  ·injection e with e1 _
   subst e1
   cases v <;> rfl
end L2
namespace L2
open PySem PySem.Spec PyProof.Rows
inductive V where
 | non|bl (b:Bool)|int (i:Int)|str (x:Str)|byt (b:Array UInt8)|flt (b:UInt64)|ref (a:Addr)|ty (n:String)
 deriving DecidableEq
def RelV:V→Value→Prop
 | .non,u=>u=Value.none
 | .bl b,u=>u=Value.bool b
 | .int i,u => ∃ t,u=Value.int i t
 | .str x,u => ∃ t,u=Value.str x t
 | .byt b,u => ∃ t,u=Value.bytes b t
 | .flt b,u => ∃ t,u=Value.float b t
 | .ref a,u=>u=Value.ref a
 | .ty n,u=>u=Value.type n
abbrev Vals:List V→List Value→Prop:=Paired RelV
theorem Vals.length {xs:List V}{us:List Value} (r:Vals xs us):xs.length=us.length:=Paired.length r
theorem Vals.get : ∀ {xs:List V}{us:List Value}{i:Nat}{x:V},Vals xs us→xs[i]?=some x → ∃ u,us[i]?=some u∧RelV x u
 | _,_,_,_,.nil,e=>by simp at e
 | _,_,0,_,.cons r _,e=>by simp at e;subst e;exact ⟨_,rfl,r⟩
 | _,_,i+1,x,.cons _ t,e=>by
  obtain ⟨u,h1,h2⟩:=Vals.get (i:=i) (x:=x) t (by simpa using e)
  exact ⟨u,by simpa using h1,h2⟩
theorem Vals.set {x:V}{u:Value} (r:RelV x u) : ∀ {xs:List V}{us:List Value} (i:Nat),Vals xs us→Vals (xs.set i x) (us.set i u)
 | _,_,_,.nil => .nil
 | _,_,0,.cons _ t => .cons r t
 | _,_,i+1,.cons q t => .cons q (Vals.set r i t)
theorem Vals.append : ∀ {xs ys:List V}{us ws:List Value},Vals xs us→Vals ys ws→Vals (xs++ys) (us++ws)
 | _,_,_,_,.nil,s=>s
 | _,_,_,_,.cons r t,s => .cons r (Vals.append t s)
theorem Vals.take : ∀ {xs:List V}{us:List Value} (n:Nat),Vals xs us→Vals (xs.take n) (us.take n)
 | _,_,0,_ => .nil
 | _,_,_+1,.nil => .nil
 | _,_,n+1,.cons r t => .cons r (Vals.take n t)
theorem Vals.drop : ∀ {xs:List V}{us:List Value} (n:Nat),Vals xs us→Vals (xs.drop n) (us.drop n)
 | _,_,0,r=>r
 | _,_,_+1,.nil => .nil
 | _,_,n+1,.cons _ t=>Vals.drop n t
def RelO:Option V→Option Value→Prop
 | some v,some u=>RelV v u
 | none,none=>True
 | _,_=>False
def KV {κ:Type}:List (κ×V)→List (κ×Value)→Prop:=Paired fun (p:κ×V) (q:κ×Value)=>p.1=q.1∧RelV p.2 q.2
def kV:Key→V
 | .inl i => .int i
 | .inr x => .str x
inductive HO where
 | lst (xs:List V)
 | tup (xs:List V)
 | dK (kvs:List (Key×V))|dT (kvs:List (List Key×V))
 | set (S:Int→Bool) (n:Nat)
 | ins (C dx:Addr) (fs:List (Str×V))
 | own (x:Addr)
 | xd (fs:List (Str×V))
 | met (f x:Addr)
 | rng (lo hi:Int)
 | frz (o:Obj) (u:HO)
 | tbl (ps:Array Value)
 | ext (φ:Heap→Prop)
abbrev Hp:=Addr→Option HO
def upd (H:Hp) (a:Addr) (o:HO):Hp:=fun b=>if b=a then some o else H b
theorem qp {H:Hp}{a:Addr}{o:HO}:upd H a o a=some o:=by unfold upd;rw [if_pos rfl]
theorem qk {H:Hp}{a b:Addr}{o:HO} (h:b≠a):upd H a o b=H b:=by unfold upd;rw [if_neg h]
theorem qxx {H:Hp}{a:Addr}{o u:HO}:upd (upd H a o) a u=upd H a u:=by
 funext b;unfold upd;split <;> rfl
theorem ql {H:Hp}{a b:Addr}{o:HO} (h:H a=some o) (h':H b=none):a≠b:=by
 intro e;subst e;rw [h] at h';cases h'
section
variable (P:Program) (w:World)
def ObjOk (H:Hp) (h:Heap) (a:Addr):HO→Prop
 | .lst xs=>xs.length≤sizeLine ∧ ∃ (its:List Value) (n:Nat),Vals xs its∧h.get? a=some { cls :=.type "list",data :=.seq its.toArray n }
 | .tup xs=>xs.length≤sizeLine ∧ ∃ its:List Value,Vals xs its∧IsTup h a its.toArray
 | .dK kvs=>kvs.length≤sizeLine∧(a==sysModules)=false ∧ ∃ vs,KV kvs vs∧h.DictOf (qrz P w) a vs
 | .dT kvs=>kvs.length≤sizeLine∧(a==sysModules)=false ∧ ∃ xs:List (List Key×Addr×Value),
  Paired (fun (p:List Key×V) (q:List Key×Addr×Value)=>p.1=q.1∧H q.2.1=some (.tup (p.1.map kV))∧RelV p.2 q.2.2) kvs xs ∧
  ∃ o es ep,h.get? a=some o∧o.ExactDict∧o.data = .dict es ep∧es.toList=xs.map (entryOfKey (tupleKind (qrz P w)))∧(xs.map (·.1)).Nodup
 | .set S n=>h.SetOf (intKind P w) a S n
 | .ins C dx fs=>H dx=some (.own a)∧fs.length≤1000∧dx≠a∧h.get? a=some (PySem.W.instObj C dx) ∧
  ∃ mA,h.Ns1 dx mA∧(∀ f,RelO (fs.lookup f) (mA f))∧PySem.Within mA (fs.map (·.1))
 | .own _ => ∃ o,h.get? a=some o
 | .xd fs => ∃ mA,h.Ns1 a mA ∧ ∀ f,RelO (fs.lookup f) (mA f)
 | .rng lo hi => ∃ t u v,h.get? a=some { cls :=.type "range",data :=.fields #[.int lo t,.int hi u,.int 1 v] }
 | .frz o u=>h.get? a=some o∧ObjOk H h a u
 | .tbl ps=>h.get? a=some { cls :=.none,data :=.fields ps }
 | .met f x=>h.get? a=some (PySem.W.methodObj (.ref f) (.ref x))
 | .ext φ=>φ h∧(∃ o,h.get? a=some o) ∧ ∀ h1 h2:Heap,φ h1→(∀ o,h1.get? a=some o→h2.get? a=some o)→φ h2
def HOk (H:Hp) (h:Heap):Prop := ∀ a o,H a=some o→ObjOk P w H h a o
end
section
variable {P:Program}{w:World}{H H':Hp}{h h':Heap}{a:Addr}{o:HO}
theorem ObjOk.lt (x:ObjOk P w H h a o):a<h.objs.size:=by
 cases o with
 | lst xs=>obtain ⟨_,_,_,_,e⟩:=x;exact Heap.lt_size e
 | tup xs=>obtain ⟨_,_,_,p⟩:=x;exact p.lt
 | dK kvs=>obtain ⟨_,_,_,_,o,_,_,e,_⟩:=x;exact Heap.lt_size e
 | dT kvs=>obtain ⟨_,_,_,_,o,_,_,e,_⟩:=x;exact Heap.lt_size e
 | set S n=>obtain ⟨o,_,_,_,e,_⟩:=x;exact Heap.lt_size e
 | ins C dx fs=>obtain ⟨_,_,_,e,_⟩:=x;exact Heap.lt_size e
 | own y=>obtain ⟨_,e⟩:=x;exact Heap.lt_size e
 | xd fs=>obtain ⟨_,⟨_,_,_,e,_⟩,_⟩:=x;exact Heap.lt_size e
 | rng lo hi=>obtain ⟨_,_,_,e⟩:=x;exact Heap.lt_size e
 | frz ob u=>obtain ⟨e,_⟩:=x;exact Heap.lt_size e
 | tbl ps=>exact Heap.lt_size (show h.get? a=some _ from x)
 | met f y=>exact Heap.lt_size (show h.get? a=some _ from x)
 | ext φ=>obtain ⟨_,⟨_,e⟩,_⟩:=x;exact Heap.lt_size e
theorem Paired.mapP {α β:Type}{F G:α→β→Prop} : ∀ {l₁:List α}{l₂:List β},Paired F l₁ l₂→(∀ a b,F a b→G a b)→Paired G l₁ l₂
 | _,_,.nil,_ => .nil
 | _,_,.cons r t,f => .cons (f _ _ r) (Paired.mapP t f)
theorem ObjOk.stay (x:ObjOk P w H h a o) (k : ∀ b u,(b=a∨H b=some (.own a))→h.get? b=some u→h'.get? b=some u)
 (ho : ∀ b,H b=some (.own a)→H' b=some (.own a)) (ht : ∀ b xs,H b=some (.tup xs)→H' b=some (.tup xs)):ObjOk P w H' h' a o:=by
  induction o with
  | lst xs=>obtain ⟨z,its,n,r,e⟩:=x;exact ⟨z,its,n,r,k _ _ (.inl rfl) e⟩
  | tup xs=>obtain ⟨z,its,r,ob,e,c⟩:=x;exact ⟨z,its,r,ob,k _ _ (.inl rfl) e,c⟩
  | dK kvs=>obtain ⟨z,y,vs,r,ob,es,ep,e,c⟩:=x;exact ⟨z,y,vs,r,ob,es,ep,k _ _ (.inl rfl) e,c⟩
  | dT kvs =>
   obtain ⟨z,y,xs,r,ob,es,ep,e,c⟩:=x
   exact ⟨z,y,xs,Paired.mapP r fun p q z=>⟨z.1,ht _ _ z.2.1,z.2.2⟩,ob,es,ep,k _ _ (.inl rfl) e,c⟩
  | set S n=>obtain ⟨ob,es,ep,t,e,c⟩:=x;exact ⟨ob,es,ep,t,k _ _ (.inl rfl) e,c⟩
  | ins C dx fs =>
   obtain ⟨d,z,ne,e,mA,⟨od,es,ep,e2,c⟩,r⟩:=x
   exact ⟨ho _ d,z,ne,k _ _ (.inl rfl) e,mA,⟨od,es,ep,k _ _ (.inr d) e2,c⟩,r⟩
  | own y=>obtain ⟨ob,e⟩:=x;exact ⟨ob,k _ _ (.inl rfl) e⟩
  | xd fs=>obtain ⟨mA,⟨od,es,ep,e,c⟩,r⟩:=x;exact ⟨mA,⟨od,es,ep,k _ _ (.inl rfl) e,c⟩,r⟩
  | rng lo hi=>obtain ⟨t,u,v,e⟩:=x;exact ⟨t,u,v,k _ _ (.inl rfl) e⟩
  | frz ob u ih=>obtain ⟨e,q⟩:=x;exact ⟨k _ _ (.inl rfl) e,ih q⟩
  | tbl ps =>
   have e:h.get? a=some { cls :=.none,data :=.fields ps }:=x
   show h'.get? a=some { cls :=.none,data :=.fields ps }
   exact k a _ (.inl rfl) e
  | met f y =>
   have e:h.get? a=some (PySem.W.methodObj (.ref f) (.ref y)):=x
   show h'.get? a=some (PySem.W.methodObj (.ref f) (.ref y))
   exact k a _ (.inl rfl) e
  | ext φ=>obtain ⟨p,⟨o,e⟩,st⟩:=x;exact ⟨st _ _ p fun o q=>k _ _ (.inl rfl) q,⟨o,k _ _ (.inl rfl) e⟩,st⟩
theorem HOk.lt (x:HOk P w H h) (e:H a=some o):a<h.objs.size:=(x a o e).lt
theorem HOk.fresh (x:HOk P w H h) (e:h.objs.size≤a):H a=none:=by
 cases q:H a with
 | none=>rfl
 | some u=>exact absurd (Nat.lt_of_lt_of_le (x.lt q) e) (Nat.lt_irrefl _)
theorem HOk.kept (x:HOk P w H h) (k : ∀ b u,h.get? b=some u→h'.get? b=some u):HOk P w H h':=fun a o e =>
 (x a o e).stay (fun b u _ q=>k b u q) (fun _ q=>q) fun _ _ q=>q
theorem HOk.laid (x:HOk P w H h) (k : ∀ b u,h.get? b=some u→h'.get? b=some u) (hp:h.objs.size≤a) (new:ObjOk P w (upd H a o) h' a o):HOk P w (upd H a o) h':=fun b u e=>by
 have hn:=x.fresh hp
 by_cases hb:b=a
 ·subst hb;rw [qp] at e;cases e;exact new
 ·rw [qk hb] at e
  exact (x b u e).stay (fun c v _ q=>k c v q) (fun c q=>by rw [qk (ql q hn)];exact q) fun c xs q=>by rw [qk (ql q hn)];exact q
end
def Rd (H:Hp) (a:Addr) (u:HO):Prop:=H a=some u ∨ ∃ o,H a=some (.frz o u)
theorem Rd.ok {P:Program}{w:World}{H:Hp}{h:Heap}{a:Addr}{u:HO} (r:Rd H a u) (x:HOk P w H h):ObjOk P w H h a u:=by
 rcases r with r|⟨o,r⟩
 ·exact x a u r
 ·obtain ⟨_,q⟩:=x a _ r
  exact q
def Mut:Option HO→Prop
 | some (.lst _)=>True
 | some (.dK _)=>True
 | some (.dT _)=>True
 | some (.set _ _)=>True
 | some (.ins _ _ _)=>True
 | some (.ext _)=>True
 | _=>False
section
variable {P:Program}{w:World}{H:Hp}{h h':Heap}{x e:Addr}{o':HO}
theorem HOk.write (ok:HOk P w H h) (mu:Mut (H x)) (he:e=x∨H e=some (.own x)) (k : ∀ b u,b≠e→h.get? b=some u→h'.get? b=some u) (heo : ∃ u,h'.get? e=some u)
 (new:ObjOk P w (upd H x o') h' x o'):HOk P w (upd H x o') h':=fun b u q=>by
  have nown : ∀ c y,H c=some (.own y)→c≠x:=fun c y r z=>by subst z;rw [r] at mu;exact mu
  have ntup : ∀ c xs,H c=some (.tup xs)→c≠x:=fun c xs r z=>by subst z;rw [r] at mu;exact mu
  by_cases hb:b=x
  ·subst hb;rw [qp] at q;cases q;exact new
  ·rw [qk hb] at q
   by_cases hbe:b=e
   ·have q':H b=some (.own x):=by
     rcases he with z|z
     ·exact absurd (hbe.trans z) hb
     ·rw [hbe];exact z
    rw [q] at q';cases q'
    obtain ⟨v,hv⟩:=heo
    exact ⟨v,by rw [hbe];exact hv⟩
   ·refine (ok b u q).stay (fun c v hc r=>k c v ?_ r) (fun c r=>by rw [qk (nown c b r)];exact r) fun c xs r=>by rw [qk (ntup c xs r)];exact r
    rcases hc with rfl|hc
    ·exact hbe
    ·rintro rfl
     rcases he with z|z
     ·exact nown c b hc z
     ·rw [hc] at z;cases z;exact hb rfl
end
structure Un (fs ex:List Addr) (H H':Hp) (h h':Heap):Prop where
 keep : ∀ b o,h.get? b=some o→H b=none→b ∉ fs→b ∉ ex→h'.get? b=some o
 slot : ∀ b o,h.get? b=some o→H b=none→b ∈ fs→b ∉ ex → ∃ sl,h'.get? b=some { o with slots:=sl }
 free : ∀ b o,h.get? b=some o→H b=none→b ∉ ex→H' b=none
 there : ∀ b o,h.get? b=some o→b ∉ ex → ∃ o',h'.get? b=some o'
 tups : ∀ b xs,H b=some (.tup xs)→H' b=some (.tup xs)
 frzs : ∀ b o u,H b=some (.frz o u)→H' b=some (.frz o u)
 tbls : ∀ b ps,H b=some (.tbl ps) → ∃ more,H' b=some (.tbl (ps++more))
section
variable {fs fs' ex ex':List Addr}{H H1 H2:Hp}{h h1 h2 h':Heap}{a x e:Addr}{o:HO}
theorem Un.any (u:Un fs ex H H1 h h1) {b:Addr}{ob:Obj} (q:h.get? b=some ob) (n:H b=none) (hx:b ∉ ex) : ∃ sl,h1.get? b=some { ob with slots:=sl }:=by
 by_cases hb:b ∈ fs
 ·exact u.slot b ob q n hb hx
 ·exact ⟨ob.slots,u.keep b ob q n hb hx⟩
theorem Un.kept (k : ∀ b u,h.get? b=some u→h'.get? b=some u):Un fs ex H H h h' :=
 ⟨fun b ob q _ _ _=>k b ob q,fun b ob q _ _ _=>⟨ob.slots,k b ob q⟩,fun _ _ _ n _=>n,fun b ob q _=>⟨ob,k b ob q⟩,fun _ _ q=>q,fun _ _ _ q=>q,fun _ ps q=>⟨#[],by rw [q];simp⟩⟩
theorem Un.refl:Un fs ex H H h h:=Un.kept fun _ _ q=>q
theorem Un.laid (k : ∀ b u,h.get? b=some u→h'.get? b=some u) (hp:h.objs.size≤a) (hn:H a=none):Un fs ex H (upd H a o) h h' where
 keep:=fun b u q _ _ _=>k b u q
 slot:=fun b u q _ _ _=>⟨u.slots,k b u q⟩
 free:=fun b u q n _=>by rw [qk (Nat.ne_of_lt (Nat.lt_of_lt_of_le (Heap.lt_size q) hp))];exact n
 there:=fun b u q _=>⟨u,k b u q⟩
 tups:=fun b xs q=>by rw [qk (ql q hn)];exact q
 frzs:=fun b u xs q=>by rw [qk (ql q hn)];exact q
 tbls:=fun b ps q=>⟨#[],by rw [qk (ql q hn),q];simp⟩
theorem Un.write (mu:Mut (H x)) (he:e=x∨H e=some (.own x)) (k : ∀ b u,b≠e→h.get? b=some u→h'.get? b=some u) (heo : ∃ u,h'.get? e=some u):Un fs ex H (upd H x o) h h':=by
 have hx : ∀ b,H b=none→b≠x:=fun b n z=>by subst z;rw [n] at mu;exact mu
 have hb : ∀ b,H b=none→b≠e:=fun b n z=>by
  subst z
  rcases he with r|r
  ·exact hx b n r
  ·rw [n] at r;cases r
 have hm : ∀ b u,H b=some u → ¬ Mut (some u)→b≠x:=fun b u q nm z=>by subst z;rw [q] at mu;exact nm mu
 refine ⟨fun b u q n _ _=>k b u (hb b n) q,fun b u q n _ _=>⟨u.slots,k b u (hb b n) q⟩,fun b u q n _=>by rw [qk (hx b n)];exact n,fun b u q _=>?_,
  fun b xs q=>by rw [qk (hm b _ q fun z=>z)];exact q,fun b u xs q=>by rw [qk (hm b _ q fun z=>z)];exact q,fun b ps q=>⟨#[],by rw [qk (hm b _ q fun z=>z),q];simp⟩⟩
 by_cases hbe:b=e
 ·subst hbe;exact heo
 ·exact ⟨u,k b u hbe q⟩
end
def trk (h:Heap) (H:Hp):List Addr:=(List.range h.objs.size).filter fun a=>(H a).isSome
def qwj (h:Heap) (H:Hp):Heap:=PySem.W.hideAll h (trk h H)
theorem qzo (h:Heap) (H:Hp):(qwj h H).objs.size=h.objs.size:=PySem.W.hideAll_size _ _
theorem zaca {h:Heap}{H:Hp}{b:Addr}{o:Obj} (e:h.get? b=some o) (n:H b=none):(qwj h H).get? b=some o :=
 PySem.W.hideAll_get _ e fun hm=>by
  have q:(H b).isSome=true:=(List.mem_filter.mp hm).2
  rw [n] at q;simp at q
theorem zaer {h:Heap}{H:Hp}{b:Addr}{o:Obj} (e:(qwj h H).get? b=some o):h.get? b=some o∧H b=none:=by
 have e':h.get? b=some o:=PySem.W.of_hideAll (trk h H) e
 refine ⟨e',?_⟩
 cases q:H b with
 | none=>rfl
 | some x =>
  have hm:b ∈ trk h H:=List.mem_filter.mpr ⟨List.mem_range.mpr (Heap.lt_size e'),by simp [q]⟩
  have z:(qwj h H).get? b=none:=PySem.W.hideAll_none (trk h H) hm
  rw [z] at e;cases e
def zafx (g h:Heap) (L:Addr):List (Addr×Obj):=(List.range h.objs.size).filterMap fun a=>if a=L∨(g.get? a).isSome=true then none else (h.get? a).map fun o=>(a,o)
def rest (g h:Heap) (L d:Addr):List (Addr×Obj):=(zafx g h L).filter fun p=>decide (p.1≠d)
end L2
namespace L2
open PySem PySem.Spec PyProof.Rows
structure Mod (K:PySem.W.Frag) (mg:Str→Option Value) (base:Heap):Prop where
 kin:K.In base
 glob:base.Ns mainGlobals mg
 blt : ∃ mb,base.Ns builtinsNs mb ∧ ∀ x:Str,x ≠ "__name__" → mb x=bootBuiltins x
 nolimit:base.NoLimit
structure Cx where
 prog:Program
 w:World
 K:PySem.W.Frag
 mg:Str→Option Value
 base:Heap
 A:Around
 N:List Str
 s₀:Shared
 H₀:Hp
 env:Env
 outer:List Env
 stack:List Env
 ex:List Addr
 fn:Str→Bool
 calm:Bool
 pn:List (Addr×Obj)
 xe:Value→Shared→Prop
def frs (l:List Env):List Addr:=l.filterMap (·.frame)
abbrev Cx.fs (X:Cx):List Addr:=frs X.outer
def Vis (sc:Scope) (x:Str):Prop:=sc.names.lookup x=some .local∨sc.names.lookup x=some .cell∨sc.names.lookup x=some .free
def Loc (sc:Scope) (x:Str):Prop:=sc.names.lookup x=some .local∨sc.names.lookup x=some .cell
def Look (env:Env) (h:Heap) (m:Str→Option Value) (x:Str) (u:Value):Prop :=
 (env.kindOf x=some .local∧m x=some u)∨((env.kindOf x=some .cell∨env.kindOf x=some .free) ∧ ∃ c,env.cells.lookup x=some c∧h.IsCell c (some u))
structure Cx.Ok (X:Cx):Prop where
 mod:Mod X.K X.mg X.base
 kind:X.env.scope.kind = .function
 glob:X.env.globals=mainGlobals
 blt:X.env.builtins=builtinsNs
 above:X.s₀.heap.objs.size≤X.env.locals
 inj : ∀ x y c,X.env.cells.lookup x=some c→X.env.cells.lookup y=some c→x=y
 has : ∀ x,(X.env.kindOf x=some .cell∨X.env.kindOf x=some .free) → ∃ c,X.env.cells.lookup x=some c
 cab : ∀ x c,X.fn x=true→X.env.cells.lookup x=some c→X.s₀.heap.objs.size≤c
 hd:X.calm=true→X.A.handled=none
 frames:X.A.frames=some X.stack
 stk:X.stack=X.outer∨(X.stack=X.env::X.outer∧X.env.frame=some X.env.locals)
 exf : ∀ b ∈ X.ex,b≠X.env.locals ∧ ∀ x c,X.env.cells.lookup x=some c→c≠b
 bs : ∀ b o,X.base.get? b=some o→X.s₀.heap.get? b=some o∧X.H₀ b=none
 bsz:X.base.objs.size≤X.s₀.heap.objs.size
 noex : ∀ b o,X.base.get? b=some o→b ∉ X.ex
 exfs : ∀ b ∈ X.ex,b ∉ X.fs
 funs:X.s₀.heap.FunFrames X.base X.outer
 frf : ∀ b ∈ X.fs,X.H₀ b=none
structure Inv (X:Cx) (pins:List (Addr×Obj)) (σ:List (Option V)) (H:Hp) (s:Shared):Prop where
 ok:X.Ok
 os:s.os=X.s₀.os
 bare:AllBare s.gens
 base:Un X.fs X.ex X.H₀ H X.s₀.heap s.heap
 loc : ∃ m,s.heap.Ns X.env.locals m ∧ ∀ (i:Nat) (x:Str) (v:V),X.N[i]?=some x→σ[i]?=some (some v)→Vis X.env.scope x → ∃ u,RelV v u∧Look X.env s.heap m x u
 cell : ∀ x c,X.env.cells.lookup x=some c → ∃ v,s.heap.IsCell c v
 free:H X.env.locals=none
 freeC : ∀ x c,X.env.cells.lookup x=some c→H c=none
 pin : ∀ p ∈ X.pn++pins,s.heap.get? p.1=some p.2∧H p.1=none∧p.1≠X.env.locals∧p.1 ∉ X.fs ∧ ∀ v,p.2.data ≠ .cell v
 hok:HOk X.prog X.w H s.heap
 len:σ.length=X.N.length
section
variable {X:Cx}{pins:List (Addr×Obj)}{σ:List (Option V)}{H H':Hp}{s:Shared}{h':Heap}
theorem Cx.Ok.nofr (ok:X.Ok) {b:Addr}{o:Obj} (e:X.base.get? b=some o):b ∉ X.fs:=fun hb=>by
 have:=(ok.funs.mem hb).1
 rw [e] at this;cases this
theorem Inv.bs (I:Inv X pins σ H s) : ∀ b o,X.base.get? b=some o→s.heap.get? b=some o∧H b=none:=fun b o e =>
 ⟨I.base.keep b o (I.ok.bs b o e).1 (I.ok.bs b o e).2 (I.ok.nofr e) (I.ok.noex b o e),I.base.free b o (I.ok.bs b o e).1 (I.ok.bs b o e).2 (I.ok.noex b o e)⟩
theorem Inv.bk (I:Inv X pins σ H s) : ∀ b o,X.base.get? b=some o→s.heap.get? b=some o:=fun b o e=>(I.bs b o e).1
theorem Inv.mod (I:Inv X pins σ H s):Mod X.K X.mg X.base:=I.ok.mod
theorem Inv.kIn (I:Inv X pins σ H s):X.K.In s.heap:=I.ok.mod.kin.keeps I.bk
theorem Inv.lt (I:Inv X pins σ H s):X.env.locals<s.heap.objs.size:=let ⟨_,hn,_⟩:=I.loc;hn.lt
theorem Inv.sz (I:Inv X pins σ H s):X.s₀.heap.objs.size≤s.heap.objs.size:=Nat.le_trans I.ok.above (Nat.le_of_lt I.lt)
theorem Inv.nofs (I:Inv X pins σ H s) {a:Addr} (h:s.heap.objs.size≤a):a ∉ X.fs:=fun hb=>by
 obtain ⟨_,o,ho,_⟩:=I.ok.funs.mem hb
 exact absurd (Nat.lt_of_lt_of_le (Heap.lt_size ho) (Nat.le_trans I.sz h)) (Nat.lt_irrefl _)
theorem Inv.cne (I:Inv X pins σ H s) : ∀ x c,X.env.cells.lookup x=some c→c≠X.env.locals:=fun x c e z=>by
 obtain ⟨v,o,ho,hd⟩:=I.cell x c e
 obtain ⟨m,⟨o',es,ep,ho',hd',_⟩,_⟩:=I.loc
 rw [z,ho'] at ho;cases ho;rw [hd'] at hd;cases hd
theorem Inv.funs (I:Inv X pins σ H s):s.heap.FunFrames X.base X.outer:=by
 have all : ∀ (l:List Env),(∀ b ∈ frs l,b ∈ X.fs)→X.s₀.heap.FunFrames X.base l→s.heap.FunFrames X.base l:=by
  intro l
  induction l with
  | nil=>intro _ _;trivial
  | cons env r ih =>
   intro hs hl
   obtain ⟨hk,⟨L,o,hf,hn,ho,hd⟩,hr⟩:=hl
   have hL:L ∈ X.fs:=hs L (by unfold frs;rw [List.filterMap_cons,hf];exact List.mem_cons_self)
   obtain ⟨sl,e⟩:=I.base.slot L o ho (I.ok.frf L hL) hL fun z=>I.ok.exfs L z hL
   exact ⟨hk,⟨L,_,hf,hn,e,hd⟩,ih (fun b hb=>hs b (by unfold frs;rw [List.filterMap_cons,hf];exact List.mem_cons_of_mem _ hb)) hr⟩
 exact all X.outer (fun _ hb=>hb) I.ok.funs
theorem Inv.stack (I:Inv X pins σ H s):s.heap.FunFrames X.base X.stack:=by
 rcases I.ok.stk with e|⟨e,hf⟩
 ·rw [e];exact I.funs
 ·rw [e]
  obtain ⟨m,hn,_⟩:=I.loc
  refine .cons (by rw [I.ok.kind];decide) hf hn ?_ I.funs
  exact Heap.get?_none_of_le (Nat.le_trans I.ok.bsz I.ok.above)
theorem Inv.stkSub (I:Inv X pins σ H s) : ∀ b ∈ frs X.stack,b ∈ X.env.locals::X.fs:=fun b hb=>by
 rcases I.ok.stk with e|⟨e,hf⟩
 ·rw [e] at hb;exact List.mem_cons_of_mem _ hb
 ·rw [e] at hb
  unfold frs at hb
  rw [List.filterMap_cons,hf] at hb
  exact hb
theorem Inv.stkFree (I:Inv X pins σ H s) : ∀ b ∈ frs X.stack,H b=none:=fun b hb=>by
 rcases List.mem_cons.mp (I.stkSub b hb) with e|hb
 ·rw [e];exact I.free
 ·obtain ⟨_,o,ho,_⟩:=I.ok.funs.mem hb
  exact I.base.free b o ho (I.ok.frf b hb) fun z=>I.ok.exfs b z hb
theorem Inv.step {g':Array GenState}{t':Nat}{d':Drawn}{ch:List Addr} (I:Inv X pins σ H s)
 (hch : ∀ b ∈ ch,(b ∈ X.ex∨X.s₀.heap.objs.size≤b)∧b≠X.env.locals∧(∀ x c,X.env.cells.lookup x=some c→c≠b) ∧ ∀ p ∈ X.pn++pins,p.1≠b)
 (keep : ∀ b o,b≠X.env.locals→b ∉ X.fs→b ∉ ch→s.heap.get? b=some o→H b=none→h'.get? b=some o)
 (slot : ∀ b o,b≠X.env.locals→b ∈ X.fs→b ∉ ch→s.heap.get? b=some o→H b=none → ∃ sl,h'.get? b=some { o with slots:=sl }) (free : ∀ b o,b ∉ ch→s.heap.get? b=some o→H b=none→H' b=none)
  (there : ∀ b o,b ∉ ch→s.heap.get? b=some o → ∃ o',h'.get? b=some o')
  (tups : ∀ b xs,H b=some (.tup xs)→H' b=some (.tup xs)) (frzs : ∀ b o u,H b=some (.frz o u)→H' b=some (.frz o u)) (tbls : ∀ b ps,H b=some (.tbl ps) → ∃ more,H' b=some (.tbl (ps++more)))
  (ns : ∀ m,s.heap.Ns X.env.locals m→h'.Ns X.env.locals m) (hok:HOk X.prog X.w H' h') (hg:AllBare g') :
  Inv X pins σ H' { s with heap:=h',gens:=g',drawn:=d',toks:=t' }:=by
  have neL : ∀ b o,X.s₀.heap.get? b=some o→b≠X.env.locals:=fun b o e=>Nat.ne_of_lt (Nat.lt_of_lt_of_le (Heap.lt_size e) I.ok.above)
  have neC : ∀ b o,X.s₀.heap.get? b=some o→b ∉ X.ex→b ∉ ch:=fun b o e hx hb=>by
   rcases (hch b hb).1 with z|z
   ·exact hx z
   ·exact absurd (Nat.lt_of_lt_of_le (Heap.lt_size e) z) (Nat.lt_irrefl _)
  have cellK : ∀ x c,X.env.cells.lookup x=some c → ∀ v,s.heap.IsCell c v→h'.IsCell c v:=fun x c e v xx1=>by
   obtain ⟨o,ho,hd⟩:=xx1
   have nch:c ∉ ch:=fun z=>(hch c z).2.2.1 x c e rfl
   by_cases hc:c ∈ X.fs
   ·obtain ⟨sl,q⟩:=slot c o (I.cne x c e) hc nch ho (I.freeC x c e)
    exact ⟨_,q,hd⟩
   ·exact ⟨o,keep c o (I.cne x c e) hc nch ho (I.freeC x c e),hd⟩
  refine ⟨I.ok,I.os,hg,⟨fun b o e n hb hx=>?_,fun b o e n hb hx=>?_,fun b o e n hx=>?_,fun b o e hx=>?_,fun b xs e=>tups b xs (I.base.tups b xs e),fun b o xs e=>frzs b o xs (I.base.frzs b o xs e),fun b ps e=>?_⟩,?_,fun x c e=>?_,?_,fun x c e=>?_,fun p hp=>?_,hok,I.len⟩
  ·exact keep b o (neL b o e) hb (neC b o e hx) (I.base.keep b o e n hb hx) (I.base.free b o e n hx)
  ·obtain ⟨sl,e1⟩:=I.base.slot b o e n hb hx
   obtain ⟨sl',e2⟩:=slot b _ (neL b o e) hb (neC b o e hx) e1 (I.base.free b o e n hx)
   exact ⟨sl',e2⟩
  ·obtain ⟨o',e1⟩:=I.base.there b o e hx
   exact free b o' (neC b o e hx) e1 (I.base.free b o e n hx)
  ·obtain ⟨o',e1⟩:=I.base.there b o e hx
   exact there b o' (neC b o e hx) e1
  ·obtain ⟨m1,e1⟩:=I.base.tbls b ps e
   obtain ⟨m2,e2⟩:=tbls b _ e1
   exact ⟨m1++m2,by rw [e2,Array.append_assoc]⟩
  ·obtain ⟨m,hn,hl⟩:=I.loc
   refine ⟨m,ns m hn,fun i x v e1 e2 e3=>?_⟩
   obtain ⟨u,r,l⟩:=hl i x v e1 e2 e3
   refine ⟨u,r,?_⟩
   rcases l with l|⟨k,c,e,z⟩
   ·exact .inl l
   ·exact .inr ⟨k,c,e,cellK x c e _ z⟩
  ·obtain ⟨v,z⟩:=I.cell x c e
   exact ⟨v,cellK x c e v z⟩
  ·obtain ⟨m,⟨o,_,_,ho,_⟩,_⟩:=I.loc
   exact free _ o (fun z=>(hch _ z).2.1 rfl) ho I.free
  ·obtain ⟨v,o,ho,hd⟩:=I.cell x c e
   exact free c o (fun z=>(hch c z).2.2.1 x c e rfl) ho (I.freeC x c e)
  ·obtain ⟨e,n,ne,nf,d⟩:=I.pin p hp
   have nch:p.1 ∉ ch:=fun z=>(hch p.1 z).2.2.2 p hp rfl
   exact ⟨keep p.1 p.2 ne nf nch e n,free p.1 p.2 nch e n,ne,nf,d⟩
theorem Inv.un {t':Nat} (I:Inv X pins σ H s) (u:Un X.fs [] H H' s.heap h') (hok:HOk X.prog X.w H' h'):Inv X pins σ H' { s with heap:=h',toks:=t' }:=by
 obtain ⟨m,⟨o,es,ep,ho,r⟩,_⟩:=id I.loc
 obtain ⟨sl,hL⟩:=u.any ho I.free (by simp)
 exact I.step (g':=s.gens) (d':=s.drawn) (ch:=[]) (fun _ z=>nomatch z) (fun b o _ hb _ e n=>u.keep b o e n hb (by simp)) (fun b o _ hb _ e n=>u.slot b o e n hb (by simp)) (fun b o _ e n=>u.free b o e n (by simp)) (fun b o _ e=>u.there b o e (by simp)) u.tups u.frzs u.tbls (fun m' hm=>by
  obtain ⟨o',es',ep',ho',r'⟩:=hm
  rw [ho] at ho';cases ho'
  exact ⟨_,es',ep',hL,r'⟩) hok I.bare
theorem Inv.call {g':Array GenState}{t':Nat}{d':Drawn}{ch:List Addr} (I:Inv X pins σ H s) (u:Un (frs X.stack) ch H H' s.heap h') (hok:HOk X.prog X.w H' h') (hg:AllBare g')
 (hch : ∀ b ∈ ch,(b ∈ X.ex∨X.s₀.heap.objs.size≤b)∧b≠X.env.locals∧(∀ x c,X.env.cells.lookup x=some c→c≠b) ∧ ∀ p ∈ X.pn++pins,p.1≠b) :
 Inv X pins σ H' { s with heap:=h',gens:=g',drawn:=d',toks:=t' }:=by
  obtain ⟨m,⟨o,es,ep,ho,r⟩,_⟩:=id I.loc
  obtain ⟨sl,hL⟩:=u.any ho I.free fun z=>(hch _ z).2.1 rfl
  exact I.step (ch:=ch) hch (fun b o hL hb hc e n=>u.keep b o e n (fun z=>(List.mem_cons.mp (I.stkSub b z)).elim hL hb) hc) (fun b o _ _ hc e n=>u.any e n hc) (fun b o hc e n=>u.free b o e n hc) (fun b o hc e=>u.there b o e hc) u.tups u.frzs u.tbls (fun m' hm=>by
   obtain ⟨o',es',ep',ho',r'⟩:=hm
   rw [ho] at ho';cases ho'
   exact ⟨_,es',ep',hL,r'⟩) hok hg
theorem Inv.turned {t':Nat}{it:Addr} (I:Inv X pins σ H s) (k : ∀ b o,b≠it→s.heap.get? b=some o→h'.get? b=some o) (hn:H it=none) (hL:it≠X.env.locals)
 (h1:it ∈ X.ex∨X.s₀.heap.objs.size≤it) (h2 : ∀ x c,X.env.cells.lookup x=some c→c≠it) (h3 : ∀ p ∈ X.pn++pins,p.1≠it):Inv X pins σ H { s with heap:=h',toks:=t' }:=by
  have nit : ∀ b u,H b=some u→b≠it:=fun b u e z=>by rw [z,hn] at e;cases e
  refine I.step (g':=s.gens) (d':=s.drawn) (ch:=[it]) (fun b hb=>?_) (fun b o _ _ hc e _=>k b o (fun z=>hc (by simp [z])) e) (fun b o _ _ hc e _=>⟨o.slots,k b o (fun z=>hc (by simp [z])) e⟩) (fun _ _ _ _ n=>n)
   (fun b o hc e=>⟨o,k b o (fun z=>hc (by simp [z])) e⟩) (fun _ _ e=>e) (fun _ _ _ e=>e) (fun b ps e=>⟨#[],by rw [e];simp⟩) (fun m hm=>?_) (fun b u e=>?_) I.bare
  ·have e:b=it:=by simpa using hb
   subst e
   exact ⟨h1,hL,h2,h3⟩
  ·obtain ⟨o,es,ep,ho,r⟩:=hm
   exact ⟨o,es,ep,k _ o (Ne.symm hL) ho,r⟩
  ·refine (I.hok b u e).stay (fun c v hc q=>k c v ?_ q) (fun _ q=>q) fun _ _ q=>q
   rcases hc with z|z
   ·rw [z];exact nit b u e
   ·exact nit c _ z
theorem Inv.tok (I:Inv X pins σ H s) (t:Nat):Inv X pins σ H { s with toks:=t }:=I.un (h':=s.heap) (t':=t) Un.refl I.hok
theorem Inv.kept {t':Nat} (I:Inv X pins σ H s) (k : ∀ b u,s.heap.get? b=some u→h'.get? b=some u):Inv X pins σ H { s with heap:=h',toks:=t' }:=I.un (Un.kept k) (I.hok.kept k)
theorem Inv.laid {a:Addr}{o:HO}{t':Nat} (I:Inv X pins σ H s) (k : ∀ b u,s.heap.get? b=some u→h'.get? b=some u) (hp:s.heap.objs.size≤a) (new:ObjOk X.prog X.w (upd H a o) h' a o) :
 Inv X pins σ (upd H a o) { s with heap:=h',toks:=t' }:=I.un (Un.laid k hp (I.hok.fresh hp)) (I.hok.laid k hp new)
theorem Inv.write {x e:Addr}{o:HO}{t':Nat} (I:Inv X pins σ H s) (mu:Mut (H x)) (he:e=x∨H e=some (.own x)) (k : ∀ b u,b≠e→s.heap.get? b=some u→h'.get? b=some u) (heo : ∃ u,h'.get? e=some u)
 (new:ObjOk X.prog X.w (upd H x o) h' x o):Inv X pins σ (upd H x o) { s with heap:=h',toks:=t' }:=I.un (Un.write mu he k heo) (I.hok.write mu he k heo new)
theorem Inv.pins_of {pins':List (Addr×Obj)} (I:Inv X pins σ H s) (h : ∀ p ∈ pins',s.heap.get? p.1=some p.2∧H p.1=none∧p.1≠X.env.locals∧p.1 ∉ X.fs ∧ ∀ v,p.2.data ≠ .cell v):Inv X pins' σ H s :=
 ⟨I.ok,I.os,I.bare,I.base,I.loc,I.cell,I.free,I.freeC,fun p hp=>(List.mem_append.mp hp).elim (fun z=>I.pin p (List.mem_append_left _ z)) (h p),I.hok,I.len⟩
theorem quu {N:List Str} (hN:N.Nodup) {i j:Nat}{x:Str} (a:N[i]?=some x) (b:N[j]?=some x):i=j:=by
 obtain ⟨h1,e1⟩:=List.getElem?_eq_some_iff.mp a
 obtain ⟨h2,e2⟩:=List.getElem?_eq_some_iff.mp b
 exact (List.getElem_inj hN).mp (e1.trans e2.symm)
theorem qzt {M:Model}{A:Around}{E:Value→Shared→Prop}{i:Nat}{x:Str}{v:V}{u:Value}{Q:Unit→Shared→Prop} (I:Inv X pins σ H s) (hN:X.N.Nodup) (hi:X.N[i]?=some x) (hx:Loc X.env.scope x) (r:RelV v u)
 (h : ∀ s',Inv X pins (σ.set i (some v)) H s'→(∃ a,Heap.SameBut a s.heap s'.heap∧(a=X.env.locals∨X.env.cells.lookup x=some a))→Q () s') (hf:X.fn x=true∨X.env.scope.names.lookup x=some .local:=by first|exact .inl rfl|exact .inr rfl|assumption):wpAny M A (storeName X.env x u) Q E s:=by
  obtain ⟨m,hn,hl⟩:=id I.loc
  have hcls:(X.env.scope.kind == .class||(X.env.scope.kind == .module&&X.env.locals != X.env.globals))=false:=by rw [I.ok.kind];rfl
  have hiσ:i<σ.length:=by rw [I.len];exact (List.getElem?_eq_some_iff.mp hi).1
  have cne:=I.cne
  have tracked : ∀ {a:Addr}{h':Heap},(∃ o,s.heap.get? a=some o∧H a=none)→Heap.SameBut a s.heap h'→HOk X.prog X.w H h':=fun {a h'} ha hs b ob e=>by
   obtain ⟨_,_,hfree⟩:=ha
   refine (I.hok b ob e).stay (fun c w' hc q=>(hs.2 c ?_).trans q) (fun _ q=>q) fun _ _ q=>q
   rintro rfl
   rcases hc with rfl|hc
   ·rw [hfree] at e;cases e
   ·rw [hfree] at hc;cases hc
  rcases hx with hk|hk
  ·refine wpAny_storeName_local hk hn (fun h' hn' hs=>?_) hcls
   obtain ⟨oL,_,_,hoL,_⟩:=id hn
   refine h _ ⟨I.ok,I.os,I.bare,⟨fun b o e n hb hx=>?_,fun b o e n hb hx=>?_,I.base.free,fun b o e hx=>?_,I.base.tups,I.base.frzs,I.base.tbls⟩,⟨_,hn',fun j y v' e1 e2 e3=>?_⟩,fun y c e=>?_,I.free,I.freeC,fun p hp=>?_,tracked ⟨oL,hoL,I.free⟩ hs,by simpa using I.len⟩ ⟨_,hs,.inl rfl⟩
   ·exact (hs.2 b (Nat.ne_of_lt (Nat.lt_of_lt_of_le (Heap.lt_size e) I.ok.above))).trans (I.base.keep b o e n hb hx)
   ·obtain ⟨sl,e1⟩:=I.base.slot b o e n hb hx
    exact ⟨sl,(hs.2 b (Nat.ne_of_lt (Nat.lt_of_lt_of_le (Heap.lt_size e) I.ok.above))).trans e1⟩
   ·obtain ⟨o',e1⟩:=I.base.there b o e hx
    exact ⟨o',(hs.2 b (Nat.ne_of_lt (Nat.lt_of_lt_of_le (Heap.lt_size e) I.ok.above))).trans e1⟩
   ·by_cases hj:j=i
    ·subst hj
     rw [hi] at e1;cases e1
     rw [List.getElem?_set_self hiσ] at e2
     cases e2
     exact ⟨u,r,.inl ⟨hk,by simp⟩⟩
    ·rw [List.getElem?_set_ne (Ne.symm hj)] at e2
     obtain ⟨u',r',q⟩:=hl j y v' e1 e2 e3
     refine ⟨u',r',?_⟩
     rcases q with ⟨k,e⟩|⟨k,c,e,z⟩
     ·refine .inl ⟨k,?_⟩
      have:y≠x:=fun e=>hj (quu hN e1 (e ▸ hi))
      simp [this,e]
     ·exact .inr ⟨k,c,e,z.sameBut hs (cne y c e)⟩
   ·obtain ⟨w',z⟩:=I.cell y c e
    exact ⟨w',z.sameBut hs (cne y c e)⟩
   ·obtain ⟨e,n,ne,nf,d⟩:=I.pin p hp
    exact ⟨(hs.2 p.1 ne).trans e,n,ne,nf,d⟩
  ·have hfn:X.fn x=true:=by
    rcases hf with z|z
    ·exact z
    ·rw [z] at hk;cases hk
   obtain ⟨c,hc⟩:=I.ok.has x (.inl hk)
   obtain ⟨w',z⟩:=I.cell x c hc
   refine wpAny_storeName_cell I.ok.kind hk hc z (fun h' hc' hs=>?_)
   obtain ⟨oc,hoc,hocd⟩:=id z
   refine h { s with heap:=h' } ⟨I.ok,I.os,I.bare,⟨fun b o e n hb hx=>?_,fun b o e n hb hx=>?_,I.base.free,fun b o e hx=>?_,I.base.tups,I.base.frzs,I.base.tbls⟩,⟨m,hn.sameBut hs (Ne.symm (cne x c hc)),fun j y v' e1 e2 e3=>?_⟩,fun y c' e=>?_,I.free,I.freeC,fun p hp=>?_,tracked ⟨oc,hoc,I.freeC x c hc⟩ hs,by simpa using I.len⟩ ⟨c,hs,.inr hc⟩
   ·exact (hs.2 b (Nat.ne_of_lt (Nat.lt_of_lt_of_le (Heap.lt_size e) (I.ok.cab x c hfn hc)))).trans (I.base.keep b o e n hb hx)
   ·obtain ⟨sl,e1⟩:=I.base.slot b o e n hb hx
    exact ⟨sl,(hs.2 b (Nat.ne_of_lt (Nat.lt_of_lt_of_le (Heap.lt_size e) (I.ok.cab x c hfn hc)))).trans e1⟩
   ·obtain ⟨o',e1⟩:=I.base.there b o e hx
    exact ⟨o',(hs.2 b (Nat.ne_of_lt (Nat.lt_of_lt_of_le (Heap.lt_size e) (I.ok.cab x c hfn hc)))).trans e1⟩
   ·by_cases hj:j=i
    ·subst hj
     rw [hi] at e1;cases e1
     rw [List.getElem?_set_self hiσ] at e2
     cases e2
     exact ⟨u,r,.inr ⟨.inl hk,c,hc,hc'⟩⟩
    ·rw [List.getElem?_set_ne (Ne.symm hj)] at e2
     obtain ⟨u',r',q⟩:=hl j y v' e1 e2 e3
     refine ⟨u',r',?_⟩
     rcases q with q|⟨k,c',e,z'⟩
     ·exact .inl q
     ·refine .inr ⟨k,c',e,z'.sameBut hs ?_⟩
      rintro rfl
      exact hj (quu hN e1 (I.ok.inj _ _ _ e hc ▸ hi))
   ·by_cases hcc:c'=c
    ·subst hcc;exact ⟨_,hc'⟩
    ·obtain ⟨w2,z2⟩:=I.cell y c' e
     exact ⟨w2,z2.sameBut hs hcc⟩
   ·obtain ⟨e,n,ne,nf,d⟩:=I.pin p hp
    refine ⟨(hs.2 p.1 ?_).trans e,n,ne,nf,d⟩
    intro q
    rw [q,hoc] at e
    have q':oc=p.2:=Option.some.inj e
    exact d w' (by rw [← q'];exact hocd)
theorem qgc {M:Model}{A:Around}{E:Value→Shared→Prop}{i:Nat}{x:Str}{v:V}{u:Value}{Q:Unit→Shared→Prop} (I:Inv X pins σ H s) (hN:X.N.Nodup) (hi:X.N[i]?=some x) (hx:Loc X.env.scope x) (r:RelV v u)
 (h : ∀ s',Inv X pins (σ.set i (some v)) H s'→Q () s') (hf:X.fn x=true∨X.env.scope.names.lookup x=some .local:=by first|exact .inl rfl|exact .inr rfl|assumption):wpAny M A (storeName X.env x u) Q E s :=
  qzt I hN hi hx r (fun s' I' _=>h s' I') hf
theorem Inv.call' {s':Shared}{ch:List Addr} (I:Inv X pins σ H s) (ho:s'.os=s.os) (u:Un (frs X.stack) ch H H' s.heap s'.heap) (hok:HOk X.prog X.w H' s'.heap) (hg:AllBare s'.gens)
 (hch : ∀ b ∈ ch,(b ∈ X.ex∨X.s₀.heap.objs.size≤b)∧b≠X.env.locals∧(∀ x c,X.env.cells.lookup x=some c→c≠b) ∧ ∀ p ∈ X.pn++pins,p.1≠b):Inv X pins σ H' s':=by
  obtain ⟨h',g',d',t',o'⟩:=s'
  have e:o'=s.os:=ho
  subst e
  exact I.call (g':=g') (t':=t') (d':=d') u hok hg hch
end
abbrev XK:=Value→Option Addr→Hp→Prop
abbrev St:=List (Option V)
abbrev VK:=V→Hp→Prop
abbrev TE:=St→Hp→VK→Prop
abbrev TT:=St→Hp→(Bool→Hp→Prop)→Prop
abbrev TA:=St→Hp→(List V→Hp→Prop)→Prop
structure Ends where
 nx:St→Hp→Prop
 rt:VK
 bk:St→Hp→Prop:=fun _ _=>False
 ct:St→Hp→Prop:=fun _ _=>False
abbrev TS:=Ends→St→Hp→Prop
def EP (X:Cx) (pins:List (Addr×Obj)) (σ:St) (Q:VK) (u:Value) (s':Shared):Prop := ∃ v H',Inv X pins σ H' s'∧RelV v u∧Q v H'
def TP (X:Cx) (pins:List (Addr×Obj)) (σ:St) (Q:Bool→Hp→Prop) (b:Bool) (s':Shared):Prop := ∃ H',Inv X pins σ H' s'∧Q b H'
def AP (X:Cx) (pins:List (Addr×Obj)) (σ:St) (Q:List V→Hp→Prop) (us:List Value) (s':Shared):Prop := ∃ vs H',Inv X pins σ H' s'∧Vals vs us∧Q vs H'
def SP (X:Cx) (pins:List (Addr×Obj)) (D:Ends) (f:Flow) (s':Shared):Prop :=
 match f with
 | .next => ∃ σ' H',Inv X pins σ' H' s'∧D.nx σ' H'
 | .brk => ∃ σ' H',Inv X pins σ' H' s'∧D.bk σ' H'
 | .cont => ∃ σ' H',Inv X pins σ' H' s'∧D.ct σ' H'
 | .ret u => ∃ v σ' H',Inv X pins σ' H' s'∧RelV v u∧D.rt v H'
def PE (X:Cx) (e:Expr) (t:TE):Prop :=
 ∀ (pins:List (Addr×Obj)) (s:Shared) (σ:St) (H:Hp) (Q:VK),Inv X pins σ H s→t σ H Q→wpAny (model X.prog X.w) X.A (eval e X.env) (EP X pins σ Q) X.xe s
def PT (X:Cx) (e:Expr) (t:TT):Prop :=
 ∀ (pins:List (Addr×Obj)) (s:Shared) (σ:St) (H:Hp) (Q:Bool→Hp→Prop),Inv X pins σ H s→t σ H Q→wpAny (model X.prog X.w) X.A (isTrue e X.env (eval e X.env)) (TP X pins σ Q) X.xe s
def PW (X:Cx) (e:Expr) (t:TT):Prop :=
 ∀ (whole:Sem Value) (pins:List (Addr×Obj)) (s:Shared) (σ:St) (H:Hp) (Q:Bool→Hp→Prop),Inv X pins σ H s→t σ H Q→wpAny (model X.prog X.w) X.A (isTrue e X.env whole) (TP X pins σ Q) X.xe s
theorem PW.pt {X:Cx}{e:Expr}{t:TT} (h:PW X e t):PT X e t:=h _
def PA (X:Cx) (es:List Expr) (t:TA):Prop :=
 ∀ (pos:Pos) (pins:List (Addr×Obj)) (s:Shared) (σ:St) (H:Hp) (Q:List V→Hp→Prop),Inv X pins σ H s→t σ H Q→wpAny (model X.prog X.w) X.A (spliced (backTo pos (starEach es X.env))) (AP X pins σ Q) X.xe s
def PS (X:Cx) (st:Stmt) (t:TS):Prop :=
 ∀ (pins:List (Addr×Obj)) (s:Shared) (σ:St) (H:Hp) (D:Ends),Inv X pins σ H s→t D σ H→wpAny (model X.prog X.w) X.A (exec st X.env) (SP X pins D) X.xe s
def PSs (X:Cx) (st:List Stmt) (t:TS):Prop :=
 ∀ (pins:List (Addr×Obj)) (s:Shared) (σ:St) (H:Hp) (D:Ends),Inv X pins σ H s→t D σ H→wpAny (model X.prog X.w) X.A (execs st X.env) (SP X pins D) X.xe s
theorem thn {α:Type}{t:Sem α}{Q Q':α→Shared→Prop}{M:Model}{A:Around}{E:Value→Shared→Prop}{s:Shared} (h:wpAny M A t Q E s) (hQ : ∀ a s,Q a s→Q' a s):wpAny M A t Q' E s:=wpAny_mono h hQ fun _ _ x=>x
end L2
namespace L2
open PySem PySem.Spec PyProof.Rows
section
variable {X:Cx}
def tVar (i:Nat):TE:=fun σ H Q => ∃ v,σ[i]?=some (some v)∧Q v H
def tC (v:V):TE:=fun _ H Q=>Q v H
theorem qG {i:Nat}{x:Str}{pos:Pos} (hN:X.N[i]?=some x) (hv:Vis X.env.scope x) (hd:(x==("__debug__" : Str))=false:=by decide) (hcd:(x==("__classdict__" : Str))=false:=by decide):PE X (.Name x pos) (tVar i):=by
 intro pins s σ H Q I h
 obtain ⟨v,e,h⟩:=h
 obtain ⟨m,hn,hl⟩:=I.loc
 obtain ⟨u,r,l⟩:=hl i x v hN e hv
 have fin:EP X pins σ Q u s:=⟨v,H,I,r,h⟩
 rcases l with ⟨hk,hm⟩|⟨hk,c,hc,hcell⟩
 ·exact wpAny_Name (wpAny_loadName_local I.ok.kind hk hn hm fin) hd
 ·rcases hk with hk|hk
  ·exact wpAny_Name (wpAny_loadName_cell I.ok.kind hk hc hcell fin) hd
  ·exact wpAny_Name (wpAny_loadName_free I.ok.kind hk hc hcell fin hcd) hd
theorem qkg {i j pos}:PE X (.Constant (.int i) j pos) (tC (.int i)):=fun _ _ _ H _ I h=>wpAny_Constant_int ⟨.int i,H,I.tok _,⟨_,rfl⟩,h⟩
theorem zahh {b j pos}:PE X (.Constant (.bool b) j pos) (tC (.bl b)):=fun _ _ _ H _ I h=>Constant_bool ⟨.bl b,H,I,rfl,h⟩
theorem zajz {j pos}:PE X (.Constant .none j pos) (tC .non):=fun _ _ _ H _ I h=>Constant_none ⟨.non,H,I,rfl,h⟩
theorem qwu {x j pos}:PE X (.Constant (.str x) j pos) (tC (.str x)):=fun _ _ _ H _ I h=>Calls.Constant_str ⟨.str x,H,I.tok _,⟨_,rfl⟩,h⟩
def Gl (X:Cx) (x:Str):Prop:=X.env.kindOf x=some .globalImplicit
theorem qrw {E:Value→Shared→Prop}{pins:List (Addr×Obj)}{s:Shared}{σ:St}{H:Hp}{x:Str}{u:Value}{pos:Pos}{Q:Value→Shared→Prop} (I:Inv X pins σ H s) (hg:Gl X x) (hm:X.mg x=some u) (h:Q u s)
 (hd:(x==("__debug__" : Str))=false:=by decide):wpAny (model X.prog X.w) X.A (eval (.Name x pos) X.env) Q E s :=
  Calls.Name_function_global I.ok.kind hg (Calls.loadGlobal_global (by rw [I.ok.glob];exact I.mod.glob.keeps I.bk) hm h) hd
theorem qmn {E:Value→Shared→Prop}{pins:List (Addr×Obj)}{s:Shared}{σ:St}{H:Hp}{x:Str}{u:Value}{pos:Pos}{Q:Value→Shared→Prop} (I:Inv X pins σ H s) (hg:Gl X x) (hm:X.mg x=none) (hv:bootBuiltins x=some u) (h:Q u s)
 (hn:x ≠ "__name__":=by decide) (hd:(x==("__debug__" : Str))=false:=by decide):wpAny (model X.prog X.w) X.A (eval (.Name x pos) X.env) Q E s:=by
  obtain ⟨mb,h1,h2⟩:=I.mod.blt
  exact Calls.Name_function_global I.ok.kind hg (Calls.loadGlobal_builtin (by rw [I.ok.glob];exact I.mod.glob.keeps I.bk) hm (by rw [I.ok.blt];exact h1.keeps I.bk) ((h2 x hn).trans hv) h) hd
theorem zagf {x:Str}{v:V}{u:Value}{pos:Pos} (hg:Gl X x) (hm:X.mg x=some u) (r:RelV v u) (hd:(x==("__debug__" : Str))=false:=by decide):PE X (.Name x pos) (tC v) :=
 fun _ _ _ H _ I h=>qrw I hg hm ⟨v,H,I,r,h⟩ hd
theorem zaff {x:Str}{v:V}{u:Value}{pos:Pos} (hg:Gl X x) (hm:X.mg x=none) (hv:bootBuiltins x=some u) (r:RelV v u) (hn:x ≠ "__name__":=by decide) (hd:(x==("__debug__" : Str))=false:=by decide):PE X (.Name x pos) (tC v) :=
 fun _ _ _ H _ I h=>qmn I hg hm hv ⟨v,H,I,r,h⟩ hn hd
variable {a b:Expr}{ta tb:TE}{pos:Pos}
def tB (t:TE):TT:=fun σ H Q=>t σ H fun x H1 => ∃ c,x = .bl c∧Q c H1
theorem zaib {e:Expr}{t:TE} (h:PE X e t) (he : ∀ whole,isTrue e X.env whole=(do let v ← whole;standAt e.pos;holding [v] (truthy v)):=by intro _;rfl):PT X e (tB t):=by
 intro pins s σ H Q I hw
 refine isTrue_plain (thn (h pins s σ H _ I hw) fun v s1 xx2=>?_) (he _)
 obtain ⟨x,H1,I1,r1,q1⟩:=xx2
 obtain ⟨d,rfl,q⟩:=q1
 cases r1
 exact wpAny_truthy_bool ⟨H1,I1,q⟩
variable {tA tB':TT}{rest:List Expr}
def tAnd (t u:TT):TT:=fun σ H Q=>t σ H fun c H1=>if c=true then u σ H1 Q else Q false H1
def tOr (t u:TT):TT:=fun σ H Q=>t σ H fun c H1=>if c=true then Q true H1 else u σ H1 Q
def tNot (t:TT):TT:=fun σ H Q=>t σ H fun c H1=>Q (!c) H1
theorem zafh (ha:PT X a tA):PW X (.BoolOp .And [a] pos) tA:=by
 intro wh pins s σ H Q I h
 refine isTrue_and (thn (ha pins s σ H Q I h) fun c s1 e=>?_)
 cases c with
 | true=>exact isTrue_and_nil e
 | false=>exact e
theorem zajh (ha:PT X a tA):PW X (.BoolOp .Or [a] pos) tA:=by
 intro wh pins s σ H Q I h
 refine isTrue_or (thn (ha pins s σ H Q I h) fun c s1 e=>?_)
 cases c with
 | false=>exact isTrue_or_nil e
 | true=>exact e
theorem zain (ha:PT X a tA) (hb:PW X (.BoolOp .And (b::rest) pos) tB'):PW X (.BoolOp .And (a::b::rest) pos) (tAnd tA tB'):=by
 intro wh pins s σ H Q I h
 refine isTrue_and (thn (ha pins s σ H _ I h) fun c s1 xx3=>?_)
 obtain ⟨H1,I1,q1⟩:=xx3
 cases c with
 | true=>exact hb wh pins s1 σ H1 Q I1 q1
 | false=>exact ⟨H1,I1,q1⟩
theorem zalq (ha:PT X a tA) (hb:PW X (.BoolOp .Or (b::rest) pos) tB'):PW X (.BoolOp .Or (a::b::rest) pos) (tOr tA tB'):=by
 intro wh pins s σ H Q I h
 refine isTrue_or (thn (ha pins s σ H _ I h) fun c s1 xx4=>?_)
 obtain ⟨H1,I1,q1⟩:=xx4
 cases c with
 | true=>exact ⟨H1,I1,q1⟩
 | false=>exact hb wh pins s1 σ H1 Q I1 q1
theorem zaig (ha:PT X a tA):PT X (.UnaryOp .Not a pos) (tNot tA):=by
 intro pins s σ H Q I h
 exact isTrue_not (ha pins s σ H (fun c H1=>Q (!c) H1) I h)
def zalz (ta tb:TE):TE:=fun σ H Q=>ta σ H fun x H1 => ∃ c,x = .bl c∧if c=true then tb σ H1 Q else Q (.bl false) H1
def tOrV (ta tb:TE):TE:=fun σ H Q=>ta σ H fun x H1 => ∃ c,x = .bl c∧if c=true then Q (.bl true) H1 else tb σ H1 Q
def zakz (ta:TE):TE:=fun σ H Q=>ta σ H fun x H1 => ∃ c,x = .bl c∧Q (.bl (!c)) H1
theorem zajl {op}{t:TE} (h:PE X a t):PE X (.BoolOp op [a] pos) t:=fun pins s σ H Q I hw=>BoolOp_one (h pins s σ H Q I hw)
theorem zahv (ha:PE X a ta) (hb:PE X (.BoolOp .And (b::rest) pos) tb):PE X (.BoolOp .And (a::b::rest) pos) (zalz ta tb):=by
 intro pins s σ H Q I h
 refine BoolOp_and (thn (ha pins s σ H _ I h) fun v s1 xx5=>?_)
 obtain ⟨x,H1,I1,r1,q1⟩:=xx5
 obtain ⟨c,rfl,q1⟩:=q1
 cases r1
 refine wpAny_truthy_bool ?_
 cases c with
 | true=>exact hb pins s1 σ H1 Q I1 q1
 | false=>exact ⟨.bl false,H1,I1,rfl,q1⟩
theorem zalc (ha:PE X a ta) (hb:PE X (.BoolOp .Or (b::rest) pos) tb):PE X (.BoolOp .Or (a::b::rest) pos) (tOrV ta tb):=by
 intro pins s σ H Q I h
 refine BoolOp_or (thn (ha pins s σ H _ I h) fun v s1 xx6=>?_)
 obtain ⟨x,H1,I1,r1,q1⟩:=xx6
 obtain ⟨c,rfl,q1⟩:=q1
 cases r1
 refine wpAny_truthy_bool ?_
 cases c with
 | false=>exact hb pins s1 σ H1 Q I1 q1
 | true=>exact ⟨.bl true,H1,I1,rfl,q1⟩
theorem zajd (ha:PE X a ta):PE X (.UnaryOp .Not a pos) (zakz ta):=by
 intro pins s σ H Q I h
 refine UnaryOp_ (thn (ha pins s σ H _ I h) fun v s1 xx7=>?_)
 obtain ⟨x,H1,I1,r1,q1⟩:=xx7
 obtain ⟨c,rfl,q1⟩:=q1
 cases r1
 exact not_of (wpAny_truthy_bool ⟨.bl (!c),H1,I1,rfl,q1⟩)
def tIf (t:TT) (ta tb:TE):TE:=fun σ H Q=>t σ H fun c H1=>if c=true then ta σ H1 Q else tb σ H1 Q
theorem zacq {c:Expr} (hc:PT X c tA) (ha:PE X a ta) (hb:PE X b tb):PE X (.IfExp c a b pos) (tIf tA ta tb):=by
 intro pins s σ H Q I h
 refine wpAny_IfExp (thn (hc pins s σ H _ I h) fun d s1 xx8=>?_)
 obtain ⟨H1,I1,q1⟩:=xx8
 cases d with
 | true=>exact ha pins s1 σ H1 Q I1 q1
 | false=>exact hb pins s1 σ H1 Q I1 q1
end
end L2
namespace L2
open PySem PySem.Spec PyProof.Rows
def SqL (K:PySem.W.Frag) (H:Hp) (a:Addr) (xs:List V):Prop :=
 Rd H a (.lst xs) ∨
  ∃ (o:Obj) (its:Array Value) (n:Nat),K.lookup a=some o∧o.cls = .type "list" ∧ o.dict=none∧o.data = .seq its n∧its.size≤sizeLine∧Vals xs its.toList
def SqT (K:PySem.W.Frag) (H:Hp) (a:Addr) (xs:List V):Prop :=
 Rd H a (.tup xs) ∨
  ∃ (o:Obj) (its:Array Value) (n:Nat),K.lookup a=some o∧o.cls = .type "tuple" ∧ o.data = .seq its n∧its.size≤sizeLine∧Vals xs its.toList
def absV:Value→Option V
 | .none=>some .non
 | .bool b=>some (.bl b)
 | .int i _=>some (.int i)
 | .str x _=>some (.str x)
 | .bytes b _=>some (.byt b)
 | .float b _=>some (.flt b)
 | .ref a=>some (.ref a)
 | .type n=>some (.ty n)
 | _=>none
theorem RelV.abs {x:V}{u:Value} (r:RelV x u):absV u=some x:=by
 cases x with
 | non=>cases r;rfl
 | bl _=>cases r;rfl
 | int _=>obtain ⟨t,rfl⟩:=r;rfl
 | str _=>obtain ⟨t,rfl⟩:=r;rfl
 | byt _=>obtain ⟨t,rfl⟩:=r;rfl
 | flt _=>obtain ⟨t,rfl⟩:=r;rfl
 | ref _=>cases r;rfl
 | ty _=>cases r;rfl
theorem RelV.inj {x y:V}{u:Value} (r:RelV x u) (q:RelV y u):x=y:=Option.some.inj (r.abs.symm.trans q.abs)
theorem Vals.inj : ∀ {xs ys:List V}{us:List Value},Vals xs us→Vals ys us→xs=ys
 | _,_,_,.nil,.nil=>rfl
 | _,_,_,.cons r t,.cons r' t'=>by rw [r.inj r',Vals.inj t t']
section
variable {X:Cx}{pins:List (Addr×Obj)}{σ:St}{H:Hp}{s:Shared}{a:Addr}{xs ys:List V}
theorem SqL.of {K:PySem.W.Frag} (h:H a=some (.lst xs)):SqL K H a xs :=.inl (.inl h)
theorem SqT.of {K:PySem.W.Frag} (h:H a=some (.tup xs)):SqT K H a xs :=.inl (.inl h)
theorem Inv.list (I:Inv X pins σ H s) (h:SqL X.K H a xs) : ∃ its:List Value,Vals xs its∧PlainL s.heap a its.toArray∧xs.length≤sizeLine:=by
 rcases h with h|⟨o,its,n,hk,hc,hd,hs,hz,r⟩
 ·obtain ⟨z,its,n,r,e⟩:=h.ok I.hok
  exact ⟨its,r,⟨_,n,e,rfl,rfl,rfl⟩,z⟩
 ·refine ⟨its.toList,r,⟨o,n,I.kIn a o hk,hc,hd,by simpa using hs⟩,?_⟩
  have e:=r.length
  simp only [Array.length_toList] at e
  omega
theorem Inv.tuple (I:Inv X pins σ H s) (h:SqT X.K H a xs) : ∃ its:List Value,Vals xs its∧IsTup s.heap a its.toArray∧xs.length≤sizeLine:=by
 rcases h with h|⟨o,its,n,hk,hc,hs,hz,r⟩
 ·obtain ⟨z,its,r,p⟩:=h.ok I.hok
  exact ⟨its,r,p,z⟩
 ·refine ⟨its.toList,r,⟨o,I.kIn a o hk,hc,n,by simpa using hs⟩,?_⟩
  have e:=r.length
  simp only [Array.length_toList] at e
  omega
theorem Inv.list_inj (I:Inv X pins σ H s) (h:SqL X.K H a xs) (h':SqL X.K H a ys):xs=ys:=by
 obtain ⟨its,r,⟨o,n,e,_,_,d⟩,_⟩:=I.list h
 obtain ⟨its',r',⟨o',n',e',_,_,d'⟩,_⟩:=I.list h'
 rw [e] at e';cases e'
 rw [d] at d'
 injection d' with d1 _
 have:its=its':=by simpa using congrArg Array.toList d1
 subst this
 exact r.inj r'
theorem Inv.tuple_inj (I:Inv X pins σ H s) (h:SqT X.K H a xs) (h':SqT X.K H a ys):xs=ys:=by
 obtain ⟨its,r,⟨o,e,_,n,d⟩,_⟩:=I.tuple h
 obtain ⟨its',r',⟨o',e',_,n',d'⟩,_⟩:=I.tuple h'
 rw [e] at e';cases e'
 rw [d] at d'
 injection d' with d1 _
 have:its=its':=by simpa using congrArg Array.toList d1
 subst this
 exact r.inj r'
end
abbrev Cx.wish (X:Cx) (E:Value→Shared→Prop):Cx:={ X with xe:=E }
abbrev Cx.nox (X:Cx):Cx:=X.wish fun _ _=>False
theorem Cx.Ok.wish {X:Cx} (ok:X.Ok) (E:Value→Shared→Prop):(X.wish E).Ok :=
 ⟨ok.mod,ok.kind,ok.glob,ok.blt,ok.above,ok.inj,ok.has,ok.cab,ok.hd,ok.frames,ok.stk,ok.exf,ok.bs,ok.bsz,ok.noex,ok.exfs,ok.funs,ok.frf⟩
theorem Cx.Ok.unwish {X:Cx}{E:Value→Shared→Prop} (ok:(X.wish E).Ok):X.Ok :=
 ⟨ok.mod,ok.kind,ok.glob,ok.blt,ok.above,ok.inj,ok.has,ok.cab,ok.hd,ok.frames,ok.stk,ok.exf,ok.bs,ok.bsz,ok.noex,ok.exfs,ok.funs,ok.frf⟩
section
variable {X:Cx}{pins:List (Addr×Obj)}{σ:St}{H:Hp}{s:Shared}{E:Value→Shared→Prop}
theorem Inv.wish (I:Inv X pins σ H s) (E:Value→Shared→Prop):Inv (X.wish E) pins σ H s:=⟨I.ok.wish E,I.os,I.bare,I.base,I.loc,I.cell,I.free,I.freeC,I.pin,I.hok,I.len⟩
theorem Inv.unwish (I:Inv (X.wish E) pins σ H s):Inv X pins σ H s:=⟨I.ok.unwish,I.os,I.bare,I.base,I.loc,I.cell,I.free,I.freeC,I.pin,I.hok,I.len⟩
theorem SP.unwish {D:Ends}{f:Flow}{s':Shared} (h:SP (X.wish E) pins D f s'):SP X pins D f s':=by
 cases f with
 | next=>obtain ⟨σ',H',I,q⟩:=h;exact ⟨σ',H',I.unwish,q⟩
 | brk=>obtain ⟨σ',H',I,q⟩:=h;exact ⟨σ',H',I.unwish,q⟩
 | cont=>obtain ⟨σ',H',I,q⟩:=h;exact ⟨σ',H',I.unwish,q⟩
 | ret u=>obtain ⟨v,σ',H',I,r,q⟩:=h;exact ⟨v,σ',H',I.unwish,r,q⟩
theorem PSs.nox {st:List Stmt}{t:TS} (h:PSs X.nox st t):PSs X st t:=fun pins s σ H D I hw =>
 wpAny_mono (h pins s σ H D (I.wish _) hw) (fun _ _ q=>q.unwish) fun _ _ z=>False.elim z
end
section
variable {X:Cx}{st:Stmt}{rest:List Stmt}{t u:TS}{e:Expr}{te:TE}{pos:Pos}
def zakt:TS:=fun D σ H=>D.nx σ H
def tSeq (t u:TS):TS:=fun D σ H=>t { D with nx:=u D } σ H
theorem qsd:PSs X [] zakt:=fun _ _ σ H _ I h=>wpAny_execs_nil ⟨σ,H,I,h⟩
theorem qz (h1:PS X st t) (h2:PSs X rest u):PSs X (st::rest) (tSeq t u):=by
 intro pins s σ H D I h
 refine wpAny_execs_cons (thn (h1 pins s σ H { D with nx:=u D } I h) fun f s1 q=>?_)
 cases f with
 | next =>
  obtain ⟨σ',H',I',q⟩:=q
  exact h2 pins s1 σ' H' D I' q
 | ret v=>exact q
 | brk=>exact q
 | cont=>exact q
theorem qfh (h1:PS X st t):PSs X [st] t:=by
 intro pins s σ H D I h
 refine wpAny_execs_cons (thn (h1 pins s σ H D I h) fun f s1 q=>?_)
 cases f with
 | next=>exact wpAny_execs_nil q
 | ret v=>exact q
 | brk=>exact q
 | cont=>exact q
theorem Inv.quiet {pins:List (Addr×Obj)}{σ:St}{H:Hp}{s:Shared} (I:Inv X pins σ H s):interactive X.env=false:=by simp [interactive,I.ok.kind]
def zalw (te:TE):TS:=fun D σ H=>te σ H fun _ H1=>D.nx σ H1
theorem qfv (he:PE X e te) (hs:swapsWith e none pos.line X.env=pure false:=by rfl):PS X (.Expr e pos) (zalw te):=by
 intro pins s σ H D I h
 exact wpAny_Expr_any (thn (he pins s σ H _ I h) fun v s1 xx11=>by obtain ⟨x,H1,I1,r1,q1⟩:=xx11;exact ⟨σ,H1,I1,q1⟩) I.quiet hs
def tRet (te:TE):TS:=fun D σ H=>te σ H D.rt
theorem qke (he:PE X e te):PS X (.Return (some e) pos) (tRet te):=by
 intro pins s σ H D I h
 exact wpAny_Return_some (thn (he pins s σ H _ I h) fun v s1 xx12=>by obtain ⟨x,H1,I1,r1,q1⟩:=xx12;exact ⟨x,σ,H1,I1,r1,q1⟩)
def tIfS (c:TT) (t u:TS):TS:=fun D σ H=>c σ H fun b H1=>if b=true then t D σ H1 else u D σ H1
theorem zaed {c:Expr}{a b:List Stmt}{tc:TT} (hc:PT X c tc) (ha:PSs X a t) (hb:PSs X b u):PS X (.If c a b pos) (tIfS tc t u):=by
 intro pins s σ H D I h
 refine wpAny_If (thn (hc pins s σ H _ I h) fun d s1 xx13=>?_)
 obtain ⟨H1,I1,q1⟩:=xx13
 cases d with
 | true=>exact ha pins s1 σ H1 D I1 q1
 | false=>exact hb pins s1 σ H1 D I1 q1
def zaje:TS:=fun _ _ _=>False
theorem qzd {sts:List Stmt}:PSs X sts zaje:=fun _ _ _ _ _ _ h=>h.elim
end
abbrev TG:=V→St→Hp→(St→Hp→Prop)→Prop
abbrev TGs:=List V→St→Hp→(St→Hp→Prop)→Prop
def PG (X:Cx) (target:Expr) (t:TG):Prop :=
 ∀ (pins:List (Addr×Obj)) (s:Shared) (σ:St) (H:Hp) (v:V) (u:Value) (Q:St→Hp→Prop),Inv X pins σ H s→RelV v u→t v σ H Q →
  wpAny (model X.prog X.w) X.A (assign target X.env u) (fun _ s' => ∃ σ' H',Inv X pins σ' H' s'∧Q σ' H') X.xe s
def PGs (X:Cx) (ts:List Expr) (t:TGs):Prop :=
 ∀ (pins:List (Addr×Obj)) (s:Shared) (σ:St) (H:Hp) (vs:List V) (us:List Value) (Q:St→Hp→Prop),Inv X pins σ H s→Vals vs us→t vs σ H Q →
  wpAny (model X.prog X.w) X.A (assignInOrder ((assignEach ts X.env).map (·.2)) us) (fun _ s' => ∃ σ' H',Inv X pins σ' H' s'∧Q σ' H') X.xe s
abbrev TSet:=V→V→V→Hp→(Hp→Prop)→Prop
def PSet (X:Cx) (t:TSet):Prop :=
 ∀ (pins:List (Addr×Obj)) (s:Shared) (σ:St) (H:Hp) (o i v:V) (ov iv u:Value) (Q:Hp→Prop),Inv X pins σ H s→RelV o ov→RelV i iv→RelV v u→t o i v H Q →
  wpAny (model X.prog X.w) X.A (setItem ov iv u) (fun _ s' => ∃ H',Inv X pins σ H' s'∧Q H') X.xe s
section
variable {X:Cx}{pos:Pos}
def qzz (i:Nat):TG:=fun v σ H Q=>Q (σ.set i (some v)) H
theorem zaen {i:Nat}{x:Str} (hN:X.N.Nodup) (hi:X.N[i]?=some x) (hx:Loc X.env.scope x) (hf:X.fn x=true∨X.env.scope.names.lookup x=some .local:=by first|exact .inl rfl|exact .inr rfl|assumption):PG X (.Name x pos) (qzz i):=by
 intro pins s σ H v u Q I r h
 exact wpAny_assign_Name (qgc I hN hi hx r (fun s' I'=>⟨_,H,I',h⟩) hf)
def gNil:TGs:=fun vs σ H Q=>vs=[]∧Q σ H
def zalm (t:TG) (u:TGs):TGs:=fun vs σ H Q => ∃ v r,vs=v::r∧t v σ H fun σ' H'=>u r σ' H' Q
theorem zaei:PGs X [] gNil:=by
 intro pins s σ H vs us Q I r h
 obtain ⟨e,h⟩:=h
 subst e
 cases r
 exact assignInOrder_nil ⟨σ,H,I,h⟩
theorem zabg {e:Expr}{es:List Expr}{t:TG}{u:TGs} (h1:PG X e t) (h2:PGs X es u)
 (hs:(assignEach (e::es) X.env).map (·.2)=assign e X.env::(assignEach es X.env).map (·.2):=by rfl):PGs X (e::es) (zalm t u):=by
  intro pins s σ H vs us Q I r h
  obtain ⟨v,vr,e1,h⟩:=h
  subst e1
  cases r with
  | cons r rr =>
   rw [hs]
   refine assignInOrder_cons (thn (h1 pins s σ H _ _ _ I r h) fun _ s1 xx14=>?_)
   obtain ⟨σ1,H1,I1,q1⟩:=xx14
   exact h2 pins s1 σ1 H1 _ _ Q I1 rr q1
def gTup (K:PySem.W.Frag) (n:Nat) (t:TGs):TG:=fun v σ H Q => ∃ a xs,v = .ref a∧SqT K H a xs∧xs.length=n∧t xs σ H Q
theorem zajy {es:List Expr}{k:Nat}{t:TGs}{n:Nat} (hc:X.calm=true) (h:PGs X es t)
 (hn:(assignEach es X.env).length=n:=by rfl) (hst:(assignEach es X.env).findIdx? (·.1)=none:=by rfl):PG X (.Tuple es k pos) (gTup X.K n t):=by
  intro pins s σ H v u Q I r hw
  obtain ⟨a,xs,e1,hq,hl,hw⟩:=hw
  subst e1
  cases r
  obtain ⟨its,rv,ht,hz⟩:=I.tuple hq
  refine assign_Tuple_tuple (I.ok.hd hc) ht (by simp [hn,← hl,rv.length]) hst fun h' hx=>?_
  have I1:Inv X pins σ H { s with heap:=h' }:=I.kept (t':=s.toks) fun b o e=>hx b o (Nat.ne_of_lt (Heap.lt_size e)) e
  exact h pins _ σ H xs _ Q I1 (by simpa using rv) hw
def gSub (to ti:TE) (t:TSet):TG:=fun v σ H Q=>to σ H fun o H1=>ti σ H1 fun i H2=>t o i v H2 fun H3=>Q σ H3
theorem zadu {o i:Expr}{to ti:TE}{t:TSet} (ho:PE X o to) (hi:PE X i ti) (hs:PSet X t)
 (ha : ∀ v,assign (.Subscript o i pos) X.env v=(do
 let ov ← holding [v] (eval o X.env)
 let iv ← holding [v,ov] (eval i X.env)
 standAt pos
 holding [v,ov,iv] (setItem ov iv v)
 release [v,ov,iv] []):=by intro _;rfl):PG X (.Subscript o i pos) (gSub to ti t):=by
  intro pins s σ H v u Q I r h
  rw [ha]
  refine wpAny_bind (wpAny_holding (thn (ho pins s σ H _ I h) fun ov s1 xx17=>?_))
  obtain ⟨x,H1,I1,r1,q1⟩:=xx17
  refine wpAny_bind (wpAny_holding (thn (hi pins s1 σ H1 _ I1 q1) fun iv s2 xx16=>?_))
  obtain ⟨y,H2,I2,r2,q2⟩:=xx16
  refine wpAny_bind (wpAny_standAt (wpAny_bind (wpAny_holding (thn (hs pins s2 σ H2 x y v ov iv u _ I2 r1 r2 r q2) fun _ s3 xx15=>?_))))
  obtain ⟨H3,I3,q3⟩:=xx15
  exact wpAny_release ⟨σ,H3,I3,q3⟩
def tAsg (te:TE) (g:TG):TS:=fun D σ H=>te σ H fun x H1=>g x σ H1 D.nx
theorem qwv {tg e:Expr}{te:TE}{g:TG} (he:PE X e te) (hg:PG X tg g) (hs:swapsWithSole [tg] e pos.line X.env=pure false:=by rfl) (hw:swappedStores [tg] e X.env=pure none:=by rfl)
 (h1:(assignEach [tg] X.env).map (·.2)=[assign tg X.env]:=by rfl):PS X (.Assign [tg] e pos) (tAsg te g):=by
 intro pins s σ H D I h
 refine wpAny_Assign_stores (thn (he pins s σ H _ I h) fun v s1 xx18=>?_) hs hw
 obtain ⟨x,H1,I1,r1,q1⟩:=xx18
 rw [h1]
 exact thn (hg pins s1 σ H1 x v _ I1 r1 q1) fun _ s2 q=>q
theorem qgf {i:Nat}{x:Str}{e:Expr}{te:TE}{pos':Pos} (hN:X.N.Nodup) (hi:X.N[i]?=some x) (hx:Loc X.env.scope x) (he:PE X e te) (hs:swapsWith e (some (.Name x pos')) pos.line X.env=pure false:=by rfl) (hf:X.fn x=true∨X.env.scope.names.lookup x=some .local:=by first|exact .inl rfl|exact .inr rfl|assumption) :
 PS X (.Assign [.Name x pos'] e pos) (tAsg te (qzz i)):=by
 intro pins s σ H D I h
 refine wpAny_Assign_Name (thn (he pins s σ H _ I h) fun v s1 xx19=>?_) hs
 obtain ⟨y,H1,I1,r1,q1⟩:=xx19
 exact qgc I1 hN hi hx r1 (fun s2 I2=>⟨_,H1,I2,q1⟩) hf
def tPar (i j:Nat) (ta:TA):TS:=fun D σ H=>ta σ H fun vs H1 => ∃ v w,vs=[v,w]∧D.nx ((σ.set i (some v)).set j (some w)) H1
theorem zaif {i j:Nat}{x y:Str}{a b:Expr}{ta:TA}{px py pt:Pos}{kt k2 pt2} (hc:X.calm=true) (hN:X.N.Nodup) (hi:X.N[i]?=some x) (hj:X.N[j]?=some y) (hij:i≠j)
 (hx:X.env.scope.names.lookup x=some .local) (hy:X.env.scope.names.lookup y=some .local) (ha:PA X [a,b] ta)
 (hw:swappedStores [.Tuple [.Name x px,.Name y py] kt pt] (.Tuple [a,b] k2 pt2) X.env=pure (some [x,y]))
 (hs:swapsWithSole [.Tuple [.Name x px,.Name y py] kt pt] (.Tuple [a,b] k2 pt2) pos.line X.env=pure false:=by rfl) :
  PS X (.Assign [.Tuple [.Name x px,.Name y py] kt pt] (.Tuple [a,b] k2 pt2) pos) (tPar i j ta):=by
  intro pins s σ H D I h
  rw [exec_Assign_arm]
  refine wpAny_bind (wpAny_standAt ?_)
  rw [hs]
  refine wpAny_bind (wpAny_pure ?_)
  rw [if_neg (by decide)]
  refine wpAny_bind (Tuple_ (thn (ha _ pins s σ H _ I h) fun us s1 xx20=>?_))
  obtain ⟨vs,H1,I1,r1,q1⟩:=xx20
  obtain ⟨v,w,e1,q1⟩:=q1
  subst e1
  obtain ⟨u1,u2,rfl,rv,rw'⟩ : ∃ u1 u2,us=[u1,u2]∧RelV v u1∧RelV w u2:=by
   cases r1 with
   | cons p q =>
    cases q with
    | cons p' q' =>
     cases q'
     exact ⟨_,_,rfl,p,p'⟩
  refine wpAny_newObj_type ?_ (by show 2≤sizeLine;decide)
  have I2:Inv X pins σ H1 { s1 with heap:=s1.heap.push { cls :=.type "tuple",data :=.seq [u1,u2].toArray } }:=I1.kept (t':=s1.toks) fun b o e=>Heap.get?_push_of_some _ e
  rw [hw]
  refine wpAny_bind (wpAny_pure ?_)
  show wpAny (model X.prog X.w) X.A (do rule "assign.swapped-stores";let items ← unpackItems (.ref s1.heap.objs.size) 2 none;assignInOrder [fun v=>bindName X.env y v,fun v=>bindName X.env x v] items.reverse;pure Flow.next) _ _ _
  refine wpAny_bind (wpAny_rule (wpAny_bind (unpackItems_tuple (items := #[u1,u2]) (I.ok.hd hc) (IsTup.new s1.heap _) fun h' hx'=>?_)))
  have I3:=I2.kept (h':=h') (t':=s1.toks) fun b o e=>hx' b o (Nat.ne_of_lt (Heap.lt_size e)) e
  show wpAny _ _ (assignInOrder [fun v=>bindName X.env y v,fun v=>bindName X.env x v] [u2,u1] >>= fun _=>pure Flow.next) _ _ _
  refine wpAny_bind (assignInOrder_cons (wpAny_bindName (qgc I3 hN hj (.inl hy) rw' (fun s2 I4=>?_) (.inr hy))))
  refine assignInOrder_cons (wpAny_bindName (qgc I4 hN hi (.inl hx) rv (fun s3 I5=>assignInOrder_nil (wpAny_pure ?_)) (.inr hx)))
  rw [List.set_comm _ _ (Ne.symm hij)] at I5
  exact ⟨_,H1,I5,q1⟩
end
section
variable {X:Cx}{pos:Pos}
def zajt (c:TT) (tb:TS):TS:=fun D σ H => ∃ W:Nat→St→Hp→Prop,(∃ m,W m σ H) ∧ ∀ m σ H,W m σ H →
 c σ H fun b H1=>if b=true then ∃ N:St→Hp→Prop,(∀ σ' H',N σ' H' → ∃ m',m'<m∧W m' σ' H')∧tb { D with nx:=N,ct:=N,bk:=D.nx } σ H1 else D.nx σ H1
theorem qub {c:Expr}{body:List Stmt}{tc:TT}{tb:TS} (hp:PassesOwn (model X.prog X.w) X.A X.env X.xe) (hc:PT X c tc) (hb:PSs X body tb):PS X (.While c body [] pos) (zajt tc tb):=by
 intro pins s σ H D I h
 obtain ⟨W,⟨m0,w0⟩,turn⟩:=h
 refine wpAny_While (codeAny_whileLoop (fun n s' => ∃ σ' H',Inv X pins σ' H' s'∧W n σ' H') ?_ m0 ⟨σ,H,I,w0⟩)
 rintro n s1 ⟨σ1,H1,I1,w1⟩
 refine wpAny_passesOwn hp (thn (hc pins s1 σ1 H1 _ I1 (turn n σ1 H1 w1)) fun b s2 xx21=>?_)
 obtain ⟨H2,I2,q2⟩:=xx21
 cases b with
 | true =>
  obtain ⟨N,hN,q2⟩:=q2
  rw [if_pos rfl]
  refine wpAny_passesOwn hp (thn (hb pins s2 σ1 H2 _ I2 q2) fun f s3 q3=>?_)
  cases f with
  | next =>
   obtain ⟨σ3,H3,I3,n3⟩:=q3
   obtain ⟨m',hm,w3⟩:=hN σ3 H3 n3
   exact ⟨m',hm,σ3,H3,I3,w3⟩
  | cont =>
   obtain ⟨σ3,H3,I3,n3⟩:=q3
   obtain ⟨m',hm,w3⟩:=hN σ3 H3 n3
   exact ⟨m',hm,σ3,H3,I3,w3⟩
  | brk=>exact q3
  | ret v=>exact q3
 | false =>
  rw [if_neg Bool.false_ne_true]
  exact wpAny_execs_nil ⟨σ1,H2,I2,q2⟩
end
structure It where
 go:Nat→Hp→Prop
 yld:Nat→Hp→V→Hp→Prop
 stop:Nat→Hp→Prop
def qyl (X:Cx) (pins:List (Addr×Obj)) (H:Hp) (b:Addr):Prop :=
 H b=none∧b≠X.env.locals∧b ∉ X.fs∧(b ∈ X.ex∨X.s₀.heap.objs.size≤b)∧(∀ x c,X.env.cells.lookup x=some c→c≠b) ∧ ∀ p ∈ X.pn++pins,p.1≠b
theorem Inv.fpOk {X:Cx}{pins:List (Addr×Obj)}{σ:St}{H H':Hp}{s:Shared}{b:Addr} (I:Inv X pins σ H s) (hb:s.heap.objs.size≤b) (hn:H' b=none):qyl X pins H' b:=by
 refine ⟨hn,Nat.ne_of_gt (Nat.lt_of_lt_of_le I.lt hb),I.nofs hb,.inr (Nat.le_trans I.sz hb),fun x c e z=>?_,fun p hp z=>?_⟩
 ·obtain ⟨v,q⟩:=I.cell x c e
  exact absurd (Nat.lt_of_lt_of_le q.lt (by rw [z];exact hb)) (Nat.lt_irrefl _)
 ·exact absurd (Nat.lt_of_lt_of_le (Heap.lt_size (I.pin p hp).1) (by rw [z];exact hb)) (Nat.lt_irrefl _)
structure Turn (P:Program) (w:World) (K:PySem.W.Frag) (tg:Expr) (J:It) (fp:List Addr) (it:Addr) (tn:Nat→Heap→Prop):Prop where
 mem:it ∈ fp
 obj : ∀ i h,tn i h → ∀ b ∈ fp,∃ o,h.get? b=some o ∧ ∀ v,o.data ≠ .cell v
 keep : ∀ i h h',tn i h→(∀ b ∈ fp,∀ o,h.get? b=some o→h'.get? b=some o)→tn i h'
 item : ∀ (X:Cx),X.prog=P→X.w=w→X.K=K→X.calm=true → ∀ (i:Nat) (pins:List (Addr×Obj)) (s:Shared) (σ:St) (H:Hp) (E:Value→Shared→Prop),Inv X pins σ H s→(∀ b ∈ fp,qyl X pins H b)→tn i s.heap→J.go i H →
  wpAny (model P w) X.A (pyNext (.ref it)) (fun r s1 => ∃ u,r=some u ∧
   wpAny (model P w) X.A (letOwnedTupleGo tg (.ref it) u) (fun _ s2 => ∃ x H',Inv X pins σ H' s2∧RelV x u∧J.yld i H x H'∧tn (i+1) s2.heap ∧ ∀ b ∈ fp,H' b=none) E s1) E s
 done : ∀ (X:Cx),X.prog=P→X.w=w→X.K=K→X.calm=true → ∀ (i:Nat) (pins:List (Addr×Obj)) (s:Shared) (σ:St) (H:Hp) (E:Value→Shared→Prop),Inv X pins σ H s→(∀ b ∈ fp,qyl X pins H b)→tn i s.heap→J.stop i H →
  wpAny (model P w) X.A (pyNext (.ref it)) (fun r s1=>r=none∧Inv X pins σ H s1) E s
 self : ∀ (A:Around) (i:Nat) (s:Shared) (Q:Value→Shared→Prop) (E:Value→Shared→Prop),tn i s.heap→Q (.ref it) s→wpAny (model P w) A (pyIter (.ref it)) Q E s
abbrev TI:=St→Hp→(It→Hp→Prop)→Prop
def PIE (X:Cx) (pins:List (Addr×Obj)) (σ:St) (tg:Expr) (R:It→Hp→Prop) (itv:Value) (s2:Shared):Prop :=
 ∃ (it:Addr) (fp:List Addr) (tn:Nat→Heap→Prop) (J:It) (H':Hp),itv = .ref it∧Inv X pins σ H' s2∧Turn X.prog X.w X.K tg J fp it tn∧tn 0 s2.heap∧(∀ b ∈ fp,qyl X pins H' b)∧R J H'
def PI (X:Cx) (tg iter:Expr) (wi:TI):Prop :=
 ∀ (pins:List (Addr×Obj)) (s:Shared) (σ:St) (H:Hp) (R:It→Hp→Prop),Inv X pins σ H s→wi σ H R →
  wpAny (model X.prog X.w) X.A (eval iter X.env) (fun v s1=>wpAny (model X.prog X.w) X.A (pyIter v) (PIE X pins σ tg R) X.xe s1) X.xe s
theorem zaea {M:Model}{A:Around}{E:Value→Shared→Prop}{s:Shared}{tg:Expr}{it:Addr}{u:Value}{o:Obj}{n:String}{vs:Array Value}{Q:Unit→Shared→Prop} (ho:s.heap.get? it=some o) (hc:o.cls = .type n) (hd:o.data = .fields vs)
 (hn:["enumerate","zip","dict_itemiterator","dict_reverseitemiterator","odict_iterator","itertools.zip_longest","itertools.pairwise"].contains n=false) (hQ:Q () s):wpAny M A (letOwnedTupleGo tg (.ref it) u) Q E s:=by
  unfold letOwnedTupleGo
  cases tg <;> first
   | exact wpAny_pure hQ
   | (cases u <;> first
    | exact wpAny_pure hQ
    | (refine wpAny_bind (wpAny_load ho ?_)
       rw [hc,hd]
       show wpAny M A (if (["enumerate","zip","dict_itemiterator","dict_reverseitemiterator","odict_iterator","itertools.zip_longest","itertools.pairwise"].contains n&&vs[0]?==some (rawInt _))=true then _ else _) Q E s
       rw [if_neg (by intro h;rw [hn,Bool.false_and] at h;cases h)]
       exact wpAny_pure hQ))
def Itl (K:PySem.W.Frag) (a:Addr):It :=
 ⟨fun i H => ∃ xs x,SqL K H a xs∧xs[i]?=some x,fun i H x H'=>H'=H ∧ ∀ xs,SqL K H a xs→xs[i]?=some x,fun i H => ∃ xs,SqL K H a xs∧xs.length≤i⟩
def Itt (K:PySem.W.Frag) (a:Addr):It :=
 ⟨fun i H => ∃ xs x,SqT K H a xs∧xs[i]?=some x,fun i H x H'=>H'=H ∧ ∀ xs,SqT K H a xs→xs[i]?=some x,fun i H => ∃ xs,SqT K H a xs∧xs.length≤i⟩
def Itr (lo:Int) (n:Nat):It:=⟨fun i _=>i<n,fun i H x H'=>H'=H∧x = .int (lo+i),fun i _=>n≤i⟩
theorem qzk {P:Program}{w:World}{K:PySem.W.Frag}{tg:Expr} (a it:Addr):Turn P w K tg (Itl K a) [it] it (fun i h=>h.IsListIter it a i) where
 mem:=by simp
 obj:=fun i h st b hb=>by
  have e:b=it:=by simpa using hb
  subst e
  obtain ⟨o,e,c,d⟩:=st
  exact ⟨o,e,fun v z=>by rw [d] at z;cases z⟩
 keep:=fun i h h' st k=>st.at fun o e=>k it (by simp) o e
 item:=by
  intro X hP hw hK hc i pins s σ H E I hf st hg
  subst hP hw hK
  obtain ⟨xs,x,hq,hx⟩:=hg
  obtain ⟨its,rv,p,hz⟩:=I.list hq
  obtain ⟨u,hu,ru⟩:=rv.get hx
  obtain ⟨f0,f1,f2,f3,f4,f5⟩:=hf it (by simp)
  refine wpAny_pyNext_list_item st p.isList (x:=u) (by simpa using hu) fun h' st' sb=>?_
  have I1:Inv X pins σ H { s with heap:=h' }:=I.turned (t':=s.toks) (fun b o hb e=>(sb.2 b hb).trans e) f0 f1 f3 f4 f5
  obtain ⟨o,e,c,d⟩:=id st'
  exact ⟨u,rfl,zaea (s:={ s with heap:=h' }) e c d (by decide) ⟨x,H,I1,ru,⟨rfl,fun ys hy=>by rw [I.list_inj hy hq];exact hx⟩,st',fun b hb=>(hf b hb).1⟩⟩
 done:=by
  intro X hP hw hK hc i pins s σ H E I hf st hg
  subst hP hw hK
  obtain ⟨xs,hq,hx⟩:=hg
  obtain ⟨its,rv,p,hz⟩:=I.list hq
  obtain ⟨f0,f1,f2,f3,f4,f5⟩:=hf it (by simp)
  have hl:=rv.length
  exact wpAny_pyNext_list_end (I.ok.hd hc) st p.isList (by simp;omega) fun h' eb=>⟨rfl,I.turned (t':=s.toks) (fun b o hb e=>eb b o hb e) f0 f1 f3 f4 f5⟩
 self:=fun _ _ _ _ _ st h=>wpAny_pyIter_listiter st h
theorem qvm {P:Program}{w:World}{K:PySem.W.Frag}{tg:Expr} (a it:Addr):Turn P w K tg (Itt K a) [it] it (fun i h=>h.IsTupleIter it a i) where
 mem:=by simp
 obj:=fun i h st b hb=>by
  have e:b=it:=by simpa using hb
  subst e
  obtain ⟨o,e,c,d⟩:=st
  exact ⟨o,e,fun v z=>by rw [d] at z;cases z⟩
 keep:=fun i h h' st k=>st.at fun o e=>k it (by simp) o e
 item:=by
  intro X hP hw hK hc i pins s σ H E I hf st hg
  subst hP hw hK
  obtain ⟨xs,x,hq,hx⟩:=hg
  obtain ⟨its,rv,p,hz⟩:=I.tuple hq
  obtain ⟨u,hu,ru⟩:=rv.get hx
  obtain ⟨f0,f1,f2,f3,f4,f5⟩:=hf it (by simp)
  refine wpAny_pyNext_tuple_item st (show s.heap.IsTuple a its.toArray from p) (x:=u) (by simpa using hu) fun h' st' sb=>?_
  have I1:Inv X pins σ H { s with heap:=h' }:=I.turned (t':=s.toks) (fun b o hb e=>(sb.2 b hb).trans e) f0 f1 f3 f4 f5
  obtain ⟨o,e,c,d⟩:=id st'
  exact ⟨u,rfl,zaea (s:={ s with heap:=h' }) e c d (by decide) ⟨x,H,I1,ru,⟨rfl,fun ys hy=>by rw [I.tuple_inj hy hq];exact hx⟩,st',fun b hb=>(hf b hb).1⟩⟩
 done:=by
  intro X hP hw hK hc i pins s σ H E I hf st hg
  subst hP hw hK
  obtain ⟨xs,hq,hx⟩:=hg
  obtain ⟨its,rv,p,hz⟩:=I.tuple hq
  obtain ⟨f0,f1,f2,f3,f4,f5⟩:=hf it (by simp)
  have hl:=rv.length
  exact wpAny_pyNext_tuple_end (I.ok.hd hc) st (show s.heap.IsTuple a its.toArray from p) (by simp;omega) fun h' eb=>⟨rfl,I.turned (t':=s.toks) (fun b o hb e=>eb b o hb e) f0 f1 f3 f4 f5⟩
 self:=fun _ _ _ _ _ st h=>wpAny_pyIter_tupleiter st h
theorem qwe {P:Program}{w:World}{K:PySem.W.Frag}{tg:Expr} (it:Addr) (lo:Int) (n:Nat):Turn P w K tg (Itr lo n) [it] it (fun i h=>IsRangeIter h it (lo+(i:Nat)*1) ((n:Int)-(i:Nat)) 1) where
 mem:=by simp
 obj:=fun i h st b hb=>by
  have e:b=it:=by simpa using hb
  subst e
  exact ⟨_,st,fun v z=>by
   have z':Data.fields _=Data.cell v:=z
   cases z'⟩
 keep:=fun i h h' st k=>k it (by simp) _ st
 item:=by
  intro X hP hw hK hc i pins s σ H E I hf st hg
  subst hP hw hK
  obtain ⟨f0,f1,f2,f3,f4,f5⟩:=hf it (by simp)
  have W:=Walks.range (prog:=X.prog) (w:=X.w) (I.ok.hd hc) it lo 1 n
  refine W.item i s _ _ hg st fun v h' tk hv st' kk=>?_
  obtain ⟨t,rfl⟩:=hv
  have I1:Inv X pins σ H { s with heap:=h',toks:=tk }:=I.turned (fun b o hb e=>kk b o (by simpa using hb) e) f0 f1 f3 f4 f5
  refine ⟨_,rfl,zaea (s:={ s with heap:=h',toks:=tk }) (n := "range_iterator") st' rfl rfl (by decide) ⟨.int (lo+i),H,I1,⟨t,?_⟩,⟨rfl,rfl⟩,st',fun b hb=>(hf b hb).1⟩⟩
  rw [Int.mul_one]
 done:=by
  intro X hP hw hK hc i pins s σ H E I hf st hg
  subst hP hw hK
  obtain ⟨f0,f1,f2,f3,f4,f5⟩:=hf it (by simp)
  exact wpAny_pyNext_range_end (I.ok.hd hc) st (by have:n≤i:=hg;omega) fun h' eb=>⟨rfl,I.turned (t':=s.toks) (fun b o hb e=>eb b o hb e) f0 f1 f3 f4 f5⟩
 self:=fun _ _ _ _ _ st h=>wpAny_pyIter_rangeiter st h
end L2
namespace L2
open PySem PySem.Spec PyProof.Rows
section
variable {X:Cx}{tg:Expr}
theorem zabl {pins:List (Addr×Obj)}{σ:St}{H:Hp}{s:Shared}{R:It→Hp→Prop}{E:Value→Shared→Prop}{lo hi:Int}{t u v:Tok}{tk:Nat} (I:Inv X pins σ H s) (h1 : -(2^62)≤lo) (h2:lo<2^62) (h3 : -(2^62)≤hi) (h4:hi<2^62)
 (q:R (Itr lo (hi-lo).toNat) H):wpAny (model X.prog X.w) X.A (pyIter (.ref s.heap.objs.size)) (PIE X pins σ tg R) E { s with heap:=s.heap.push { cls :=.type "range",data :=.fields #[.int lo t,.int hi u,.int 1 v] },toks:=tk }:=by
  refine wpAny_pyIter_range (IsRange.new ..) (small_one h1 h2 h3 h4) ?_
  have I1:Inv X pins σ H { s with heap:=s.heap.push { cls :=.type "range",data :=.fields #[.int lo t,.int hi u,.int 1 v] },toks:=tk }:=I.kept fun b o e=>Heap.get?_push_of_some _ e
  refine ⟨(s.heap.push { cls :=.type "range",data :=.fields #[.int lo t,.int hi u,.int 1 v] }).objs.size,[(s.heap.push { cls :=.type "range",data :=.fields #[.int lo t,.int hi u,.int 1 v] }).objs.size],_,_,H,rfl,
   I1.kept (t':=tk) fun b o e=>Heap.get?_push_of_some _ e,qwe _ lo (hi-lo).toNat,?_,fun b hb=>?_,q⟩
  ·have e1:lo+((0:Nat):Int)*1=lo:=by simp
   have e2:(((hi-lo).toNat:Nat):Int)-((0:Nat):Int)=Builtin.Range.rangeSize lo hi 1:=by rw [rangeSize_one];split <;> omega
   show IsRangeIter _ _ (lo+((0:Nat):Int)*1) ((((hi-lo).toNat:Nat):Int)-((0:Nat):Int)) 1
   rw [e1,e2]
   exact Heap.get?_push_size _ rfl
  ·have e:b=(s.heap.push { cls :=.type "range",data :=.fields #[.int lo t,.int hi u,.int 1 v] }).objs.size:=by simpa using hb
   subst e
   exact I1.fpOk (Nat.le_refl _) (I1.hok.fresh (Nat.le_refl _))
def zalb (ta:TA):TI:=fun σ H R=>ta σ H fun vs H1 => ∃ j:Int,vs=[.int j] ∧ -(2^62)≤j∧j<2^62∧R (Itr 0 j.toNat) H1
theorem qzu {a:Expr}{ta:TA}{p pos:Pos} (hg:Gl X "range") (hm:X.mg "range" = none) (ha:PA X [a] ta) (hs:starEach [a] X.env=[(false,eval a X.env)]:=by rfl):PI X tg (.Call (.Name "range" p) [a] [] pos) (zalb ta):=by
 intro pins s σ H R I h
 refine Call_ (qmn I hg hm boot_range (PyProof.Rows.callWith_type1 (thn (ha pos pins s σ H _ I h) fun us s1 xx22=>?_) hs rfl))
 obtain ⟨vs,H1,I1,r1,q1⟩:=xx22
 obtain ⟨j,e,q1,q2,q⟩:=q1
 subst e
 cases r1 with
 | cons r rr =>
  cases rr
  obtain ⟨t,rfl⟩:=r
  exact call_range_1 (zabl I1 (by omega) (by omega) q1 q2 (by simpa using q))
def tFor (wi:TI) (g:TG) (tb:TS):TS:=fun D σ H=>wi σ H fun J H1 => ∃ W:Nat→Nat→St→Hp→Prop,(∃ m,W 0 m σ H1) ∧ ∀ i m σ H,W i m σ H →
 (J.stop i H∧D.nx σ H)∨(J.go i H ∧ ∃ N:St→Hp→Prop,(∀ σ' H',N σ' H' → ∃ m',m'<m∧W (i+1) m' σ' H') ∧ ∀ x H',J.yld i H x H'→g x σ H' fun σ2 H2=>tb { D with nx:=N,ct:=N,bk:=D.nx } σ2 H2)
def qsy (fp:List Addr) (h:Heap):List (Addr×Obj):=fp.filterMap fun b=>(h.get? b).map fun o=>(b,o)
theorem qdh {fp:List Addr}{h:Heap}{b:Addr}{o:Obj} (hb:b ∈ fp) (e:h.get? b=some o):(b,o) ∈ qsy fp h:=List.mem_filterMap.mpr ⟨b,hb,by rw [e];rfl⟩
theorem qyw {fp:List Addr}{h:Heap}{p:Addr×Obj} (hp:p ∈ qsy fp h):p.1 ∈ fp∧h.get? p.1=some p.2:=by
 obtain ⟨b,hb,e⟩:=List.mem_filterMap.mp hp
 cases q:h.get? b with
 | none=>rw [q] at e;cases e
 | some o =>
  rw [q] at e
  have e':(b,o)=p:=Option.some.inj e
  subst e'
  exact ⟨hb,q⟩
theorem Inv.pinned {pins:List (Addr×Obj)}{σ:St}{H:Hp}{s:Shared}{fp:List Addr} (I:Inv X pins σ H s) (hf : ∀ b ∈ fp,qyl X pins H b) (ho : ∀ b ∈ fp,∃ o,s.heap.get? b=some o ∧ ∀ v,o.data ≠ .cell v):Inv X (pins++qsy fp s.heap) σ H s :=
 I.pins_of fun p hp=>(List.mem_append.mp hp).elim (fun z=>I.pin p (List.mem_append_right _ z)) fun z=>by
  obtain ⟨hb,e⟩:=qyw z
  obtain ⟨f0,f1,f2,_⟩:=hf p.1 hb
  obtain ⟨o,e',d⟩:=ho p.1 hb
  rw [e] at e';cases e'
  exact ⟨e,f0,f1,f2,d⟩
theorem Inv.unpinned {pins pl:List (Addr×Obj)}{σ:St}{H:Hp}{s:Shared} (I:Inv X (pins++pl) σ H s):Inv X pins σ H s:=I.pins_of fun p hp=>I.pin p (List.mem_append_right _ (List.mem_append_left _ hp))
theorem zahz {iter:Expr}{body:List Stmt}{wi:TI}{g:TG}{tb:TS}{pos:Pos} (hp:PassesOwn (model X.prog X.w) X.A X.env X.xe) (hc:X.calm=true) (hi:PI X tg iter wi) (hg:PG X tg g) (hb:PSs X body tb)
 (hs : ∀ x,foldedSetIterable iter X.env x=pure x:=by intro _;rfl):PS X (.For tg iter body [] pos) (tFor wi g tb):=by
  intro pins s σ H D I h
  refine wpAny_For (thn (hi pins s σ H _ I h) fun v s1 h1=>thn h1 fun itv s2 h2=>?_) hs
  obtain ⟨it,fp,tn,J,H2,e,I2,T,st2,f2,W,⟨m0,w0⟩,turn⟩:=h2
  subst e
  have stat : ∀ {H':Hp},(∀ b ∈ fp,H' b=none) → ∀ b ∈ fp,qyl X pins H' b:=fun hn b hb=>⟨hn b hb,(f2 b hb).2⟩
  refine codeAny_forLoop_any (fun n s' => ∃ i σ' H',Inv X pins σ' H' s'∧tn i s'.heap∧(∀ b ∈ fp,H' b=none)∧W i n σ' H') ?_ m0 ⟨0,σ,H2,I2,st2,fun b hb=>(f2 b hb).1,w0⟩
  rintro n s3 ⟨i,σ3,H3,I3,st3,fr3,w3⟩
  rcases turn i n σ3 H3 w3 with ⟨stop,qn⟩|⟨go,N,hN,step⟩
  ·refine wpAny_passesOwn hp (thn (T.done X rfl rfl rfl hc i pins s3 σ3 H3 X.xe I3 (stat fr3) st3 stop) fun r s4 xx26=>?_)
   obtain ⟨hr,I4⟩:=xx26
   subst hr
   exact wpAny_execs_nil ⟨σ3,H3,I4,qn⟩
  ·refine wpAny_passesOwn hp (thn (T.item X rfl rfl rfl hc i pins s3 σ3 H3 X.xe I3 (stat fr3) st3 go) fun r s4 xx25=>?_)
   obtain ⟨u,hr,h4⟩:=xx25
   subst hr
   refine wpAny_passesOwn hp (thn h4 fun _ s5 xx24=>?_)
   obtain ⟨x,H5,I5,r5,y5,st5,fr5⟩:=xx24
   have I5':=I5.pinned (stat fr5) (T.obj _ _ st5)
   refine wpAny_passesOwn hp (thn (hg _ s5 σ3 H5 x u _ I5' r5 (step x H5 y5)) fun _ s6 xx23=>?_)
   obtain ⟨σ6,H6,I6,q6⟩:=xx23
   refine wpAny_passesOwn hp (thn (hb _ s6 σ6 H6 _ I6 q6) fun f s7 q7=>?_)
   have again : ∀ {σ7:St}{H7:Hp},Inv X (pins++qsy fp s5.heap) σ7 H7 s7→N σ7 H7 → ∃ m,m<n ∧ ∃ i σ' H',Inv X pins σ' H' s7∧tn i s7.heap∧(∀ b ∈ fp,H' b=none)∧W i m σ' H':=fun {σ7 H7} I7 n7=>by
    obtain ⟨m',hm,w7⟩:=hN σ7 H7 n7
    refine ⟨m',hm,i+1,σ7,H7,I7.unpinned,T.keep _ _ _ st5 fun b hb o e=>(I7.pin (b,o) (List.mem_append_right _ (List.mem_append_right _ (qdh hb e)))).1,fun b hb=>?_,w7⟩
    obtain ⟨o,e,d⟩:=T.obj _ _ st5 b hb
    exact (I7.pin (b,o) (List.mem_append_right _ (List.mem_append_right _ (qdh hb e)))).2.1
   cases f with
   | next=>obtain ⟨σ7,H7,I7,n7⟩:=q7;exact again I7 n7
   | cont=>obtain ⟨σ7,H7,I7,n7⟩:=q7;exact again I7 n7
   | brk=>obtain ⟨σ7,H7,I7,q7⟩:=q7;exact ⟨σ7,H7,I7.unpinned,q7⟩
   | ret v=>obtain ⟨x7,σ7,H7,I7,r7,q7⟩:=q7;exact ⟨x7,σ7,H7,I7.unpinned,r7,q7⟩
end
end L2
namespace L2
open PySem PySem.Spec PyProof.Rows
abbrev R2:=V→V→Hp→VK→Prop
def OpR (X:Cx) (f:Value→Value→Sem Value) (r:R2):Prop :=
 ∀ (pins:List (Addr×Obj)) (s:Shared) (σ:St) (H:Hp) (x y:V) (v u:Value) (Q:VK),Inv X pins σ H s→RelV x v→RelV y u→r x y H Q →
  wpAny (model X.prog X.w) X.A (f v u) (EP X pins σ Q) X.xe s
def UnR (X:Cx) (f:Value→Sem Value) (r:V→Hp→VK→Prop):Prop :=
 ∀ (pins:List (Addr×Obj)) (s:Shared) (σ:St) (H:Hp) (x:V) (v:Value) (Q:VK),Inv X pins σ H s→RelV x v→r x H Q →
  wpAny (model X.prog X.w) X.A (f v) (EP X pins σ Q) X.xe s
def CallR (X:Cx) (f:Value) (r:List V→Hp→VK→Prop):Prop :=
 ∀ (pins:List (Addr×Obj)) (s:Shared) (σ:St) (H:Hp) (xs:List V) (us:List Value) (Q:VK),Inv X pins σ H s→Vals xs us→r xs H Q →
  wpAny (model X.prog X.w) X.A (call f us) (EP X pins σ Q) X.xe s
def TruR (X:Cx) (r:V→Hp→(Bool→Hp→Prop)→Prop):Prop :=
 ∀ (pins:List (Addr×Obj)) (s:Shared) (σ:St) (H:Hp) (x:V) (v:Value) (Q:Bool→Hp→Prop),Inv X pins σ H s→RelV x v→r x H Q →
  wpAny (model X.prog X.w) X.A (truthy v) (TP X pins σ Q) X.xe s
def tOp (r:R2) (ta tb:TE):TE:=fun σ H Q=>ta σ H fun x H1=>tb σ H1 fun y H2=>r x y H2 Q
def tUn (r:V→Hp→VK→Prop) (ta:TE):TE:=fun σ H Q=>ta σ H fun x H1=>r x H1 Q
def rI (C:Int→Int→Prop) (g:Int→Int→V):R2:=fun x y H Q => ∃ i j,x = .int i∧y = .int j∧C i j∧Q (g i j) H
def rI0 (g:Int→Int→V):R2:=fun x y H Q => ∃ i j,x = .int i∧y = .int j∧Q (g i j) H
def rU (g:Int→V):V→Hp→VK→Prop:=fun x H Q => ∃ i,x = .int i∧Q (g i) H
section
variable {X:Cx}{a b c:Expr}{ta tb tc:TE}{pos:Pos}
theorem binT (ha:PE X a ta) (hb:PE X b tb) {pins:List (Addr×Obj)}{s:Shared}{σ:St}{H:Hp}{R:V→V→Hp→Prop} (I:Inv X pins σ H s)
 (h:ta σ H fun x H1=>tb σ H1 fun y H2=>R x y H2) {Q:Value→Shared→Prop}{f:Value→Value→Sem Value}
 (hf : ∀ v u s2 x y H2,Inv X pins σ H2 s2→RelV x v→RelV y u→R x y H2→wpAny (model X.prog X.w) X.A (f v u) Q X.xe s2) :
 wpAny (model X.prog X.w) X.A (eval a X.env) (fun v s₁=>wpAny (model X.prog X.w) X.A (eval b X.env) (fun u s₂=>wpAny (model X.prog X.w) X.A (f v u) Q X.xe s₂) X.xe s₁) X.xe s:=by
  refine thn (ha pins s σ H _ I h) fun v s1 xx28=>?_
  obtain ⟨x,H1,I1,r1,q1⟩:=xx28
  refine thn (hb pins s1 σ H1 _ I1 q1) fun u s2 xx27=>?_
  obtain ⟨y,H2,I2,r2,q2⟩:=xx27
  exact hf v u s2 x y H2 I2 r1 r2 q2
theorem zahd {op:Operator}{r:R2} (ho:OpR X (binaryOp op) r) (ha:PE X a ta) (hb:PE X b tb):PE X (.BinOp a op b pos) (tOp r ta tb):=by
 intro pins s σ H Q I h
 exact wpAny_BinOp (binT ha hb I h fun v u s2 x y H2 I2 rx ry q=>ho pins s2 σ H2 x y v u Q I2 rx ry q)
theorem zahp {op:UnaryOp}{r:V→Hp→VK→Prop} (ho:UnR X (unaryOp op) r) (ha:PE X a ta):PE X (.UnaryOp op a pos) (tUn r ta):=by
 intro pins s σ H Q I h
 exact UnaryOp_ (thn (ha pins s σ H _ I h) fun v s1 xx29=>by obtain ⟨x,H1,I1,r1,q1⟩:=xx29;exact ho pins s1 σ H1 x v Q I1 r1 q1)
theorem opI {f:Value→Value→Sem Value}{C:Int→Int→Prop}{g:Int→Int→Int}
 (rule : ∀ (i j:Int) (t u:Tok) (s:Shared) (Q:Value→Shared→Prop) (E:Value→Shared→Prop),C i j→Q (.int (g i j) s.toks) { s with toks:=s.toks+1 }→wpAny (model X.prog X.w) X.A (f (.int i t) (.int j u)) Q E s) :
  OpR X f (rI C fun i j => .int (g i j)):=by
  intro pins s σ H x y v u Q I rx ry h
  obtain ⟨i,j,rfl,rfl,hc,q⟩:=h
  obtain ⟨t,rfl⟩:=rx
  obtain ⟨t',rfl⟩:=ry
  exact rule i j t t' s _ _ hc ⟨.int (g i j),H,I.tok _,⟨_,rfl⟩,q⟩
theorem opI0 {f:Value→Value→Sem Value}{g:Int→Int→Int}
 (rule : ∀ (i j:Int) (t u:Tok) (s:Shared) (Q:Value→Shared→Prop) (E:Value→Shared→Prop),Q (.int (g i j) s.toks) { s with toks:=s.toks+1 }→wpAny (model X.prog X.w) X.A (f (.int i t) (.int j u)) Q E s) :
  OpR X f (rI0 fun i j => .int (g i j)):=by
  intro pins s σ H x y v u Q I rx ry h
  obtain ⟨i,j,rfl,rfl,q⟩:=h
  obtain ⟨t,rfl⟩:=rx
  obtain ⟨t',rfl⟩:=ry
  exact rule i j t t' s _ _ ⟨.int (g i j),H,I.tok _,⟨_,rfl⟩,q⟩
theorem opB0 {f:Value→Value→Sem Value}{g:Int→Int→Bool}
 (rule : ∀ (i j:Int) (t u:Tok) (s:Shared) (Q:Value→Shared→Prop) (E:Value→Shared→Prop),Q (.bool (g i j)) s→wpAny (model X.prog X.w) X.A (f (.int i t) (.int j u)) Q E s) :
 OpR X f (rI0 fun i j => .bl (g i j)):=by
  intro pins s σ H x y v u Q I rx ry h
  obtain ⟨i,j,rfl,rfl,q⟩:=h
  obtain ⟨t,rfl⟩:=rx
  obtain ⟨t',rfl⟩:=ry
  exact rule i j t t' s _ _ ⟨.bl (g i j),H,I,rfl,q⟩
theorem zaia:OpR X (binaryOp .Add) (rI0 fun i j => .int (i+j)):=opI0 fun _ _ _ _ _ _ _ q=>add_int q
theorem zaju:OpR X (binaryOp .Sub) (rI0 fun i j => .int (i-j)):=opI0 fun _ _ _ _ _ _ _ q=>sub_int q
theorem zair:OpR X (binaryOp .Mod) (rI (fun _ j=>0<j) fun i j => .int (i%j)):=opI fun i j _ _ _ _ _ hc q=>by
 have h1:(0:Int)<j:=hc
 exact mod_int' (by omega) (by rw [Int.fmod_eq_emod_of_nonneg i (by omega)];exact q)
theorem unI {f:Value→Sem Value}{g:Int→Int}
 (rule : ∀ (i:Int) (t:Tok) (s:Shared) (Q:Value→Shared→Prop) (E:Value→Shared→Prop),Q (.int (g i) s.toks) { s with toks:=s.toks+1 }→wpAny (model X.prog X.w) X.A (f (.int i t)) Q E s) :
  UnR X f (rU fun i => .int (g i)):=by
  intro pins s σ H x v Q I rx h
  obtain ⟨i,rfl,q⟩:=h
  obtain ⟨t,rfl⟩:=rx
  exact rule i t s _ _ ⟨.int (g i),H,I.tok _,⟨_,rfl⟩,q⟩
theorem zact:UnR X (unaryOp .USub) (rU fun i => .int (-i)):=unI fun _ _ _ _ _ q=>neg_int q
end
section
variable {X:Cx}{a b c:Expr}{ta tb tc:TE}{pos:Pos}
theorem zaii {pins:List (Addr×Obj)}{σ:St}{H:Hp}{s:Shared}{Q:VK}{k k':Bool} (I:Inv X pins σ H s) (q:Q (.bl k) H) (e:k=k'):EP X pins σ Q (.bool k') s:=by
 subst e
 exact ⟨.bl k,H,I,rfl,q⟩
theorem zakj:OpR X (compareOp .Lt) (rI0 fun i j => .bl (decide (i<j))):=opB0 fun _ _ _ _ _ _ _ q=>lt_int q
theorem zakk:OpR X (compareOp .LtE) (rI0 fun i j => .bl (decide (i≤j))):=opB0 fun _ _ _ _ _ _ _ q=>le_int q
theorem zalx:OpR X (compareOp .Gt) (rI0 fun i j => .bl (decide (j<i))):=opB0 fun _ _ _ _ _ _ _ q=>gt_int q
theorem zakp:OpR X (compareOp .GtE) (rI0 fun i j => .bl (decide (j≤i))):=opB0 fun _ _ _ _ _ _ _ q=>ge_int q
theorem zait:OpR X (compareOp .Is) (fun x y H Q=>y = .non∧Q (.bl (decide (x = .non))) H):=by
 intro pins s σ H x y v u Q I rx ry h
 obtain ⟨rfl,q⟩:=h
 cases ry
 refine is_none_gen (zaii I q ?_)
 cases x <;> first
  | (cases rx;rfl)
  | (obtain ⟨t,rfl⟩:=rx;rfl)
theorem qwq (b:Expr) {op:CmpOp} (h:op ≠ .In:=by decide) (h2:op ≠ .NotIn:=by decide):behindInMarks op b=false:=by
 have e1:(op==CmpOp.In)=false:=by cases op <;> first|rfl|exact absurd rfl h
 have e2:(op==CmpOp.NotIn)=false:=by cases op <;> first|rfl|exact absurd rfl h2
 cases b <;> simp [behindInMarks,e1,e2]
theorem zagk {op:CmpOp}{r:R2} (ho:OpR X (compareOp op) r) (ha:PE X a ta) (hb:PE X b tb) (hm:behindInMarks op b=false):PE X (.Compare a [op] [b] pos) (tOp r ta tb):=by
 intro pins s σ H Q I h
 exact wpAny_Compare1 (binT ha hb I h fun v u s2 x y H2 I2 rx ry q=>ho pins s2 σ H2 x y v u Q I2 rx ry q) hm
def zahl (t:TE):TT:=fun σ H Q=>t σ H fun x H' => ∃ k,x = .bl k∧Q k H'
theorem qxv {op:CmpOp}{r:R2} (ho:OpR X (compareOp op) r) (ha:PE X a ta) (hb:PE X b tb) (hm:behindInMarks op b=false):PT X (.Compare a [op] [b] pos) (zahl (tOp r ta tb)):=by
 intro pins s σ H Q I h
 refine wpAny_isTrue_Compare1 (thn (ha pins s σ H _ I h) fun v s1 ⟨x,H1,I1,r1,q1⟩=>thn (hb pins s1 σ H1 _ I1 q1) fun u s2 ⟨y,H2,I2,r2,q2⟩ =>
  thn (ho pins s2 σ H2 x y v u _ I2 r1 r2 q2) fun c s3 ⟨z,H3,I3,r3,k,e,q3⟩=>?_) hm
 subst e
 cases r3
 exact wpAny_truthy_bool ⟨H3,I3,q3⟩
def zacv (r r':R2) (ta tb tc:TE):TE:=fun σ H Q=>ta σ H fun x H1=>tb σ H1 fun y H2=>r x y H2 fun z H3 => ∃ k,z = .bl k ∧
 (if k=true then tc σ H3 fun w' H4=>r' y w' H4 Q else Q (.bl false) H3)
theorem zaat {op op':CmpOp}{r r':R2} (ho:OpR X (compareOp op) r) (ho':OpR X (compareOp op') r') (ha:PE X a ta) (hb:PE X b tb) (hc:PE X c tc)
 (hm:lastMarks [op,op'] [b,c]=false:=by with_unfolding_all rfl):PT X (.Compare a [op,op'] [b,c] pos) (zahl (zacv r r' ta tb tc)):=by
  intro pins s σ H Q I h
  refine isTrue_chain (thn (ha pins s σ H _ I h) fun v s1 ⟨x,H1,I1,r1,q1⟩=>test_link (thn (hb pins s1 σ H1 _ I1 q1) fun u s2 ⟨y,H2,I2,r2,q2⟩ =>
   thn (ho pins s2 σ H2 x y v u _ I2 r1 r2 q2) fun d s3 ⟨z,H3,I3,r3,k,e,q3⟩=>?_)) hm
  subst e
  cases r3
  refine wpAny_truthy_bool ?_
  cases k with
  | false =>
   obtain ⟨k',e',q'⟩:=q3
   cases e'
   exact ite_ff ⟨H3,I3,q'⟩
  | true =>
   refine ite_tt (test_last (thn (hc pins s3 σ H3 _ I3 q3) fun w' s4 ⟨z',H4,I4,r4,q4⟩=>thn (ho' pins s4 σ H4 y z' u w' _ I4 r2 r4 q4) fun d' s5 xx33=>?_))
   obtain ⟨z2,H5,I5,r5,k2,e2,q5⟩:=xx33
   subst e2
   cases r5
   exact wpAny_truthy_bool ⟨H5,I5,q5⟩
def TruV (K:PySem.W.Frag) (x:V) (H:Hp) (k:Bool):Prop :=
 match x with
 | .non=>k=false
 | .bl b=>k=b
 | .int i=>k=(i != 0)
 | .str y=>y.length≤sizeLine∧k=((y.length:Int) != 0)
 | .byt y=>y.size≤sizeLine∧k=((y.size:Int) != 0)
 | .ref p=>(∃ xs,SqL K H p xs∧k = !xs.isEmpty)∨(∃ xs,SqT K H p xs∧k = !xs.isEmpty) ∨ ∃ kvs,H p=some (.dK kvs)∧k = !kvs.isEmpty
 | _=>False
theorem qwg {κ:Type}{kvs:List (κ×V)}{vs:List (κ×Value)} (r:KV kvs vs):(!vs.isEmpty) = !kvs.isEmpty:=by
 cases r <;> rfl
theorem qnl {xs:List V}{its:List Value} (r:Vals xs its):(!its.toArray.isEmpty) = !xs.isEmpty:=by
 cases r <;> simp
theorem qkh:(sizeLine:Nat)<2^63:=by rw [sizeLine_eq];decide
theorem zahw:TruR X (fun x H Q => ∃ k,TruV X.K x H k∧Q k H):=by
 intro pins s σ H x v Q I rx h
 obtain ⟨k,e,q⟩:=h
 have hl:=qkh
 have hs:sizeLine=16777216:=sizeLine_eq
 cases x with
 | non =>
  cases rx
  have e':k=false:=e
  subst e'
  exact truthy_none ⟨H,I,q⟩
 | bl b =>
  cases rx
  have e':k=b:=e
  subst e'
  exact wpAny_truthy_bool ⟨H,I,q⟩
 | int i =>
  obtain ⟨t,rfl⟩:=rx
  have e':k=(i != 0):=e
  subst e'
  exact PySem.P.truthy_int ⟨H,I,q⟩
 | str y =>
  obtain ⟨t,rfl⟩:=rx
  obtain ⟨hy,e'⟩:y.length≤sizeLine∧k=((y.length:Int) != 0):=e
  subst e'
  exact PySem.P.truthy_str (by omega) ⟨H,I.tok _,q⟩
 | byt y =>
  obtain ⟨t,rfl⟩:=rx
  obtain ⟨hy,e'⟩:y.size≤sizeLine∧k=((y.size:Int) != 0):=e
  subst e'
  exact PySem.W.truthy_bytes (by omega) ⟨H,I.tok _,q⟩
 | ref p =>
  cases rx
  have e':(∃ xs,SqL X.K H p xs∧k = !xs.isEmpty)∨(∃ xs,SqT X.K H p xs∧k = !xs.isEmpty) ∨ ∃ kvs,H p=some (.dK kvs)∧k = !kvs.isEmpty:=e
  rcases e' with ⟨xs,hx,e'⟩|⟨xs,hx,e'⟩|⟨kvs,hx,e'⟩
  ·subst e'
   obtain ⟨its,r,pl,hz⟩:=I.list hx
   have hlen:=r.length
   exact wpAny_truthy_list pl.isList (by simp only [List.size_toArray];omega) ⟨H,I.tok _,by rw [qnl r];exact q⟩
  ·subst e'
   obtain ⟨its,r,pl,hz⟩:=I.tuple hx
   have hlen:=r.length
   exact truthy_tuple pl (by simp only [List.size_toArray];omega) ⟨H,I.tok _,by rw [qnl r];exact q⟩
  ·subst e'
   obtain ⟨hz,hS,vs,r,m⟩:kvs.length≤sizeLine∧(p==sysModules)=false ∧ ∃ vs,KV kvs vs∧s.heap.DictOf (qrz X.prog X.w) p vs:=I.hok p _ hx
   have hlen:kvs.length=vs.length:=Paired.length r
   exact wpAny_truthy_dict hS m (by omega) ⟨H,I.tok _,by rw [qwg r];exact q⟩
 | _=>exact (show False from e).elim
theorem zacn (ha:PE X a ta) (he : ∀ whole,isTrue a X.env whole=(do let v ← whole;standAt a.pos;holding [v] (truthy v))) :
 PT X a (fun σ H Q=>ta σ H fun x H' => ∃ k,TruV X.K x H' k∧Q k H'):=by
  intro pins s σ H Q I h
  exact isTrue_plain (thn (ha pins s σ H _ I h) fun v s1 xx38=>by obtain ⟨x,H1,I1,r1,q1⟩:=xx38;exact zahw pins s1 σ H1 x v Q I1 r1 q1) (he _)
theorem qvs:OpR X (binaryOp .Add) (fun x y H Q => ∃ i j,x = .str i∧y = .str j∧i.length+j.length≤sizeLine∧Q (.str (i++j)) H):=by
 intro pins s σ H x y v u Q I rx ry h
 obtain ⟨i,j,rfl,rfl,hz,q⟩:=h
 obtain ⟨t,rfl⟩:=rx
 obtain ⟨t',rfl⟩:=ry
 exact add_str (fun t' tk=>⟨.str (i++j),H,I.tok _,⟨_,rfl⟩,q⟩) hz
theorem qme {x:V}{us:List Value} (r:Vals [x] us) : ∃ u,us=[u]∧RelV x u:=by
 cases r with
 | cons r1 r2=>cases r2;exact ⟨_,rfl,r1⟩
theorem zahb {x y:V}{us:List Value} (r:Vals [x,y] us) : ∃ u w',us=[u,w']∧RelV x u∧RelV y w':=by
 cases r with
 | cons r1 r2 =>
  cases r2 with
  | cons r3 r4=>cases r4;exact ⟨_,_,rfl,r1,r3⟩
theorem zabd:CallR X (.builtin "abs") (fun xs H Q => ∃ i,xs=[.int i]∧Q (.int (if i<0 then -i else i)) H):=by
 intro pins s σ H xs us Q I r h
 obtain ⟨i,rfl,q⟩:=h
 obtain ⟨u,rfl,t,rfl⟩:=qme r
 exact call_abs_int fun u tk=>⟨.int (if i<0 then -i else i),H,I.tok _,⟨_,rfl⟩,q⟩
end
end L2
namespace L2
open PySem PySem.Spec PyProof.Rows
structure ObjM (h:Heap) (x dx C:Addr) (mA:Str→Option Value):Prop where
 obj:h.get? x=some (PySem.W.instObj C dx)
 ns:h.Ns1 dx mA
 ne:dx≠x
theorem qzs {h:Heap}{dx:Addr}{mA:Str→Option Value} (n:h.Ns1 dx mA) : ∃ od,h.get? dx=some od ∧ ∀ name,PySem.W.lookIn name od=some (mA name):=by
 obtain ⟨o,es,ep,ho,hd,hk,_,hm⟩:=n
 refine ⟨o,ho,fun name=>?_⟩
 have e:=hm name
 unfold nsFind findBy at e
 rw [← Array.find?_toList] at e
 unfold PySem.W.lookIn
 rw [hd]
 dsimp only
 split
 ·rename_i y q
  rw [q] at e
  exact congrArg some e
 ·rename_i q
  rw [q] at e
  have a:es.toList.any (·.refKey)=false:=by
   rw [List.any_eq_false]
   intro y hy
   obtain ⟨z,t,hkey⟩:=hk y (Array.mem_toList_iff.mp hy)
   simp [DictEntry.refKey,hkey]
  have a' : ¬ es.toList.any (·.refKey)=true:=by rw [a];exact Bool.false_ne_true
  rw [if_neg a']
  exact congrArg some e
theorem ObjM.look {h:Heap}{x dx C:Addr}{mA:Str→Option Value} (I:ObjM h x dx C mA) : ∃ od,PySem.W.InstAt h x (PySem.W.instObj C dx) C (some od) ∧ ∀ name,PySem.W.lookIn name od=some (mA name) :=
 let ⟨od,ho,hl⟩:=qzs I.ns
 ⟨od,⟨I.obj,rfl,rfl,ho⟩,hl⟩
section
variable {prog:Program}{w:World}{A:Around}{E:Value→Shared→Prop}{s:Shared}{K:PySem.W.Frag}{x dx C f:Addr}{mA:Str→Option Value}{name:Str}{v:Value}
theorem zaeu {expr:Bool}{Q:Value→Shared→Prop} (X:K.In s.heap) (I:ObjM s.heap x dx C mA) (hg:PySem.W.plainGet K C name=true) (hh:PySem.W.hasDictIn K C=true)
 (ha:PySem.W.findIn K (.ref C) name=some none) (hv:mA name=some v) (hv':PySem.W.handedIn v=true) (h:Q v { s with toks:=s.toks+1 }) :
  wpAny (model prog w) A (getAttr (.ref x) name expr) Q E s:=by
  obtain ⟨od,J,hl⟩:=I.look
  exact PySem.W.get_value X J (PySem.W.plainGet_of hg).1 (PySem.W.findObj_own hh ha rfl (by rw [hl,hv])) hv' h
theorem zaay {pl:Sem Bool}{Q:Value×List Value→Shared→Prop} (X:K.In s.heap) (I:ObjM s.heap x dx C mA) (hg:PySem.W.plainGet K C name=true)
 (hf:PySem.W.findIn K (.ref C) name=some (some (.ref f))) (ht:PySem.W.isFn K (.ref f)=true) (hv:mA name=none) (h:Q (.ref f,[.ref x]) s) :
 wpAny (model prog w) A (getMethod (.ref x) name pl) Q E s:=by
  obtain ⟨od,J,hl⟩:=I.look
  exact PySem.W.method_fn X J (PySem.W.plainGet_of hg).1 (PySem.W.plainGet_of hg).2 hf (beq_iff_eq.mp ht) (by show (PySem.W.lookIn name od).map (·.isSome)=some false;rw [hl,hv];rfl) h
theorem zafv {ns:List Str}{Q:Unit→Shared→Prop} (X:K.In s.heap) (I:ObjM s.heap x dx C mA)
 (hs:PySem.W.findIn K (.ref C) "__setattr__" = some (some (.builtin "object.__setattr__"))) (hp:PySem.W.plainOver K C=true) (ht:PySem.W.takerIn K C name=some none) (hh:PySem.W.hasDictIn K C=true)
 (hw:PySem.Within mA ns) (hsz:ns.length≤sizeLine)
 (h : ∀ h',ObjM h' x dx C (fun y=>if y=name then some v else mA y)→Heap.SameBut dx s.heap h'→Q () { s with heap:=h',toks:=s.toks+2 }) :
  wpAny (model prog w) A (setAttr (.ref x) name v) Q E s:=by
  obtain ⟨od,J,hl⟩:=I.look
  refine PySem.W.set_plain X J hs (PySem.W.osa_open (s:={ s with toks:=s.toks+1 }) (r:=none) X J hp ht fun b=>?_)
  obtain ⟨cd,hc,hd'⟩:=PySem.W.any_some hh
  have hx:s.heap.get? x=some ⟨.ref C,some dx,.plain,#[]⟩:=I.obj
  refine wpAny_bind (wpAny_pure (wpAny_bind (wpAny_bind (wpAny_loadPart hx (wpAny_bind (PySem.W.Looks.here (s:={ s with toks:=s.toks+1 }) (PySem.W.looks_clsIn X hc) ?_))))))
  rw [hd']
  refine wpAny_pure (a:=some dx) (wpAny_bind (wpAny_pure (wpAny_bind ?_)))
  refine wpAny_nsSet1 (s:={ s with toks:=s.toks+1 }) I.ns fun h' hn2 hs2=>?_
  obtain ⟨oD,esD,epD,hoD,hdD,hcD⟩:=hn2.count (PySem.Within.cons name v hw)
  refine wpAny_bind (wpAny_lookBehind hoD (by rw [hdD];exact pastItsLine_dict (Nat.le_trans hcD (by rw [List.length_cons];omega))) ?_)
  exact wpAny_pure (h _ ⟨(hs2.2 _ (Ne.symm I.ne)).trans I.obj,hn2,I.ne⟩ hs2)
theorem zabv {R:Result→Shared→Prop}{vs:List Value}{kw:List (Str×Value)} (X:K.In s.heap) (hm:PySem.W.makesIn K C=true)
 (hi:PySem.W.findIn K (.ref C) "__init__" = some (some (.ref f))) (hf:PySem.W.typeIn K (.ref f)=some (.type "function"))
 (h:codeAny (model prog w) (A.under (.builtin "type.__call__" ⟨.ref C::vs,kw⟩)) (.call (.ref f) ⟨.ref (s.heap.objs.size+1)::vs,kw⟩) (PySem.W.InitBack (s.heap.objs.size+1) R)
 { s with heap:=(s.heap.push PySem.W.emptyDict).push (PySem.W.instObj C s.heap.objs.size) }) :
  codeAny (model prog w) A (.call (.ref C) ⟨vs,kw⟩) R s:=by
  obtain ⟨hh,g,d,t,os⟩:=s
  exact PySem.W.make_core (PySem.W.makes_of X hm) (PySem.W.looks_findIn X hi) (fun self=>PySem.W.bind_fn X self hf) (.inl rfl) h
end
def qlp (f:Str) (v:V):List (Str×V)→List (Str×V)
 | []=>[(f,v)]
 | (g,x)::r=>if g=f then (g,v)::r else (g,x)::qlp f v r
theorem qlr (f g:Str) (v:V) : ∀ fs:List (Str×V),(qlp f v fs).lookup g=if g=f then some v else fs.lookup g
 | []=>by
  show List.lookup g [(f,v)]=_
  by_cases h:g=f
  ·have hb:(g==f)=true:=beq_iff_eq.mpr h
   simp only [List.lookup,hb,if_pos h]
  ·have hb:(g==f)=false:=beq_eq_false_iff_ne.mpr h
   simp only [List.lookup,hb,if_neg h]
 | (k,x)::r=>by
  have ih:=qlr f g v r
  rw [show qlp f v ((k,x)::r)=(if k=f then (k,v)::r else (k,x)::qlp f v r) from rfl]
  by_cases hk:k=f
  ·rw [if_pos hk]
   by_cases h:g=k
   ·have hb:(g==k)=true:=beq_iff_eq.mpr h
    simp only [List.lookup,hb,if_pos (h.trans hk)]
   ·have hb:(g==k)=false:=beq_eq_false_iff_ne.mpr h
    simp only [List.lookup,hb,if_neg (fun e:g=f=>h (e.trans hk.symm))]
  ·rw [if_neg hk]
   by_cases h:g=k
   ·have hb:(g==k)=true:=beq_iff_eq.mpr h
    simp only [List.lookup,hb,if_neg (fun e:g=f=>hk (h.symm.trans e))]
   ·have hb:(g==k)=false:=beq_eq_false_iff_ne.mpr h
    simp only [List.lookup,hb]
    exact ih
theorem qle (f:Str) (v:V) : ∀ fs:List (Str×V),f ∈ (qlp f v fs).map (·.1) ∧ ∀ g,g ∈ fs.map (·.1)→g ∈ (qlp f v fs).map (·.1)
 | []=>⟨by simp [qlp],fun g h=>by simp at h⟩
 | (k,x)::r=>by
  obtain ⟨i1,i2⟩:=qle f v r
  rw [show qlp f v ((k,x)::r)=(if k=f then (k,v)::r else (k,x)::qlp f v r) from rfl]
  by_cases hk:k=f
  ·rw [if_pos hk]
   subst hk
   exact ⟨by simp,fun g h=>by simpa using h⟩
  ·rw [if_neg hk]
   refine ⟨?_,fun g h=>?_⟩
   ·rw [List.map_cons]
    exact List.mem_cons_of_mem _ i1
   ·rw [List.map_cons] at h ⊢
    rcases List.mem_cons.mp h with e|e
    ·exact List.mem_cons.mpr (.inl e)
    ·exact List.mem_cons_of_mem _ (i2 g e)
theorem qlv (f:Str) (v:V) : ∀ fs:List (Str×V),(qlp f v fs).length≤fs.length+1
 | []=>by simp [qlp]
 | (k,x)::r=>by
  have ih:=qlv f v r
  rw [show qlp f v ((k,x)::r)=(if k=f then (k,v)::r else (k,x)::qlp f v r) from rfl]
  by_cases hk:k=f
  ·rw [if_pos hk,List.length_cons,List.length_cons];omega
  ·rw [if_neg hk,List.length_cons,List.length_cons];omega
theorem RelO.some_of {v:V}{o:Option Value} (r:RelO (some v) o) : ∃ u,o=some u∧RelV v u:=by
 cases o with
 | none=>exact (show False from r).elim
 | some u=>exact ⟨u,rfl,r⟩
theorem RelO.none_of {o:Option Value} (r:RelO none o):o=none:=by
 cases o with
 | none=>rfl
 | some u=>exact (show False from r).elim
theorem qzq {v:V}{u:Value} (r:RelV v u):PySem.W.handedIn u=true:=by
 cases v with
 | non=>cases (show u=Value.none from r);rfl
 | bl b=>cases (show u=Value.bool b from r);rfl
 | int i=>obtain ⟨t,e⟩:=(show ∃ t,u=Value.int i t from r);cases e;rfl
 | str x=>obtain ⟨t,e⟩:=(show ∃ t,u=Value.str x t from r);cases e;rfl
 | byt b=>obtain ⟨t,e⟩:=(show ∃ t,u=Value.bytes b t from r);cases e;rfl
 | flt b=>obtain ⟨t,e⟩:=(show ∃ t,u=Value.float b t from r);cases e;rfl
 | ref a=>cases (show u=Value.ref a from r);rfl
 | ty n=>cases (show u=Value.type n from r);rfl
section
variable {P:Program}{w:World}{H H':Hp}{h h':Heap}{a C dx:Addr}{fs fs':List (Str×V)}
theorem qsb (hok:HOk P w H h) (e:H a=some (.ins C dx fs)) : ∃ mA,ObjM h a dx C mA∧(∀ f,RelO (fs.lookup f) (mA f))∧PySem.Within mA (fs.map (·.1))∧fs.length≤1000∧H dx=some (.own a):=by
 obtain ⟨d,z,ne,ob,mA,n,r,q⟩:=(show ObjOk P w H h a (.ins C dx fs) from hok a _ e)
 exact ⟨mA,⟨ob,n,ne⟩,r,q,z,d⟩
end
structure Cls (K:PySem.W.Frag) (C:Addr):Prop where
 pg:PySem.W.plainGet K C Str.empty=true
 hd:PySem.W.hasDictIn K C=true
 po:PySem.W.plainOver K C=true
 sa:PySem.W.findIn K (.ref C) "__setattr__" = some (some (.builtin "object.__setattr__"))
theorem Cls.get {K:PySem.W.Frag}{C:Addr} (c:Cls K C) (f:Str):PySem.W.plainGet K C f=true:=c.pg
def NoAttr (K:PySem.W.Frag) (C:Addr) (f:Str):Prop:=PySem.W.findIn K (.ref C) f=some none
theorem NoAttr.taker {K:PySem.W.Frag}{C:Addr}{f:Str} (n:NoAttr K C f):PySem.W.takerIn K C f=some none:=by
 unfold PySem.W.takerIn
 rw [show PySem.W.findIn K (.ref C) f=some none from n]
 rfl
structure Meth (K:PySem.W.Frag) (C:Addr) (m:Str) (f:Addr):Prop where
 at_:PySem.W.findIn K (.ref C) m=some (some (.ref f))
 fn:PySem.W.isFn K (.ref f)=true
 kp:PySem.W.keepIn K (.ref f)=true
section
variable {X:Cx}{pins:List (Addr×Obj)}{σ:St}{H:Hp}{s:Shared}{a C dx:Addr}{fs:List (Str×V)}{f:Str}{v:V}{A:Around}{E:Value→Shared→Prop}
theorem qvv {b:Bool}{Q:Value→Shared→Prop} (I:Inv X pins σ H s) (e:H a=some (.ins C dx fs)) (c:Cls X.K C) (n:NoAttr X.K C f) (l:fs.lookup f=some v)
 (h : ∀ u s',Inv X pins σ H s'→RelV v u→Q u s'):wpAny (model X.prog X.w) A (getAttr (.ref a) f b) Q E s:=by
  obtain ⟨mA,O,r,_,_,_⟩:=qsb I.hok e
  obtain ⟨u,hu,ru⟩:=RelO.some_of (v:=v) (o:=mA f) (by rw [← l];exact r f)
  exact zaeu I.kIn O (c.get f) c.hd n hu (qzq ru) (h u _ (I.tok _) ru)
theorem qnr {m:Str}{g:Addr}{pl:Sem Bool}{Q:Value×List Value→Shared→Prop} (I:Inv X pins σ H s) (e:H a=some (.ins C dx fs)) (c:Cls X.K C) (k:Meth X.K C m g) (l:fs.lookup m=none)
 (h:Q (.ref g,[.ref a]) s):wpAny (model X.prog X.w) A (getMethod (.ref a) m pl) Q E s:=by
  obtain ⟨mA,O,r,_,_,_⟩:=qsb I.hok e
  have hn:mA m=none:=RelO.none_of (by rw [← l];exact r m)
  exact zaay I.kIn O (c.get m) k.at_ k.fn hn h
theorem qvp {y:V}{u:Value}{Q:Unit→Shared→Prop} (I:Inv X pins σ H s) (e:H a=some (.ins C dx fs)) (c:Cls X.K C) (n:NoAttr X.K C f) (hl:fs.length<1000) (ry:RelV y u)
 (h : ∀ s',Inv X pins σ (upd H a (.ins C dx (qlp f y fs))) s'→Q () s'):wpAny (model X.prog X.w) A (setAttr (.ref a) f u) Q E s:=by
  obtain ⟨mA,O,r,wi,_,ho⟩:=qsb I.hok e
  have hz:(fs.map (·.1)).length≤sizeLine:=by rw [List.length_map,sizeLine_eq];omega
  refine zafv I.kIn O c.sa c.po n.taker c.hd wi hz fun h' O' sb=>h _ ?_
  have hd : ∃ o,h'.get? dx=some o:=let ⟨o,_,_,e',_⟩:=O'.ns; ⟨o,e'⟩
  refine I.write (x:=a) (e:=dx) (by rw [e];exact True.intro) (.inr ho) (fun b q hb z=>(sb.2 b hb).trans z) hd ?_
  refine ⟨by rw [qk O.ne];exact ho,?_,O.ne,O'.obj,_,O'.ns,fun g=>?_,fun g hg=>?_⟩
  ·have:=qlv f y fs;omega
  ·show RelO ((qlp f y fs).lookup g) (if g=f then some u else mA g)
   rw [qlr]
   by_cases q:g=f
   ·rw [if_pos q,if_pos q];exact ry
   ·rw [if_neg q,if_neg q];exact r g
  ·by_cases q:g=f
   ·rw [q];exact (qle f y fs).1
   ·refine (qle f y fs).2 g (wi g fun z=>hg ?_)
    show (if g=f then some u else mA g)=none
    rw [if_neg q];exact z
theorem Inv.made (I:Inv X pins σ H s):Inv X pins σ (upd (upd H s.heap.objs.size (.own (s.heap.objs.size+1))) (s.heap.objs.size+1) (.ins C s.heap.objs.size []))
 { s with heap:=(s.heap.push PySem.W.emptyDict).push (PySem.W.instObj C s.heap.objs.size) }:=by
  have e1:(s.heap.push PySem.W.emptyDict).get? s.heap.objs.size=some PySem.W.emptyDict:=Heap.get?_push_size s.heap rfl
  have e2:((s.heap.push PySem.W.emptyDict).push (PySem.W.instObj C s.heap.objs.size)).get? (s.heap.objs.size+1)=some (PySem.W.instObj C s.heap.objs.size):=by
   have:=Heap.get?_push_size (s.heap.push PySem.W.emptyDict) (o:=PySem.W.instObj C s.heap.objs.size) rfl
   rwa [Heap.size_push] at this
  have e3:(s.heap.push PySem.W.emptyDict).Ns s.heap.objs.size (fun _=>none):=⟨PySem.W.emptyDict,#[],_,e1,rfl,(fun e he=>absurd he (by simp)),fun _=>rfl⟩
  have I1:=I.laid (a:=s.heap.objs.size) (o :=.own (s.heap.objs.size+1)) (h':=s.heap.push PySem.W.emptyDict) (t':=s.toks) (fun b u q=>Heap.get?_push_of_some _ q) (Nat.le_refl _) ⟨_,e1⟩
  refine I1.laid (a:=s.heap.objs.size+1) (o :=.ins C s.heap.objs.size []) (t':=s.toks) (fun b u q=>Heap.get?_push_of_some _ q) (Nat.le_of_eq (Heap.size_push _ _)) ?_
  have ne:s.heap.objs.size≠s.heap.objs.size+1:=Nat.ne_of_lt (Nat.lt_succ_self _)
  refine ⟨by rw [qk ne,qp],Nat.zero_le _,ne,e2,fun _=>none,(Heap.Ns1.of_empty e3).at fun o q=>Heap.get?_push_of_some _ q,fun _=>True.intro,fun y hy=>absurd rfl hy⟩
theorem zaey {prog:Program}{w:World}{env:Env}{e:Expr}{f:Str}{pos:Pos}{s:Shared}{Q:Value→Shared→Prop} (hb:attributeBase e f env (eval e env)=eval e env)
 (h:wpAny (model prog w) A (eval e env) (fun o s₁=>wpAny (model prog w) A (getAttr o f true) Q E s₁) E s):wpAny (model prog w) A (eval (.Attribute e f pos) env) Q E s :=
  Attribute_any_ h (by rw [arm_eval_Attribute,hb])
end
def tFld (K:PySem.W.Frag) (ta:TE) (f:Str):TE:=fun σ H Q=>ta σ H fun x H1 => ∃ a C dx fs v,x = .ref a∧H1 a=some (.ins C dx fs)∧Cls K C∧NoAttr K C f∧fs.lookup f=some v∧Q v H1
def sFld (K:PySem.W.Frag) (ta tv:TE) (f:Str):TS:=fun D σ H=>tv σ H fun y H1=>ta σ H1 fun x H2 => ∃ a C dx fs,x = .ref a∧H2 a=some (.ins C dx fs)∧Cls K C∧NoAttr K C f∧fs.length<1000 ∧
 D.nx σ (upd H2 a (.ins C dx (qlp f y fs)))
section
variable {X:Cx}{o e value:Expr}{f:Str}{pos pos' tpos:Pos}{ta tv:TE}
theorem qto (he:PE X e ta) (hb:attributeBase e f X.env (eval e X.env)=eval e X.env):PE X (.Attribute e f pos) (tFld X.K ta f):=by
 intro pins s σ H Q I h
 refine zaey hb (thn (he pins s σ H _ I h) fun u s1 xx39=>?_)
 obtain ⟨x,H1,I1,rx,a,C,dx,fs,v,ex,ea,c,n,l,q⟩:=xx39
 subst ex
 obtain rfl:u=Value.ref a:=rx
 exact qvv I1 ea c n l fun u' s2 I2 ru=>⟨v,H1,I2,ru,q⟩
theorem qmo (ha:PE X o ta) (hv:PE X value tv) (hs:swapsWith value (some (.Attribute o f pos')) pos.line X.env=pure false):PS X (.Assign [.Attribute o f pos'] value pos) (sFld X.K ta tv f):=by
 intro pins s σ H D I h
 refine plainObj_wpAny_Assign_Attribute (thn (hv pins s σ H _ I h) fun u s1 ⟨y,H1,I1,ry,q⟩=>thn (ha pins s1 σ H1 _ I1 q) fun ov s2 xx40=>?_) hs
 obtain ⟨x,H2,I2,rx,a,C,dx,fs,ex,ea,c,n,l,q2⟩:=xx40
 subst ex
 obtain rfl:ov=Value.ref a:=rx
 exact qvp I2 ea c n l ry fun s3 I3=>⟨σ,_,I3,q2⟩
end
section
variable {X:Cx}{pins:List (Addr×Obj)}{σ:St}{H:Hp}{s:Shared}{A:Around}{E:Value→Shared→Prop}{Q:Value→Shared→Prop}{c:Value}{b:Bool}
end
end L2
namespace L2
open PySem PySem.Spec PyProof.Rows
structure Room (k:Nat) (A:Around):Prop where
 hd:A.handled=none
 dp:A.depth+3*k+5<recursionLimit
 un:A.units+16*k+200<cLine
theorem Room.mono {j k:Nat}{A:Around} (r:Room k A) (h:j≤k):Room j A:=⟨r.hd,by have:=r.dp;omega,by have:=r.un;omega⟩
theorem Room.deeper {k:Nat}{A:Around} (r:Room (k+1) A) (env:Env):Room k (A.deeper env) :=
 ⟨r.hd,by have:=r.dp;show A.depth+1+3*k+5<_;omega,by have:=r.un;show A.units+3+16*k+200<_;omega⟩
theorem qwa {A:Around}{C:Addr}{us:List Value}{kw:List (Str×Value)}:(A.under (.builtin "type.__call__" ⟨.ref C::us,kw⟩)).depth=A.depth+1:=by
 first|rfl|simp [Around.under,Code.weight,Code.isCreation,Code.isGuard,Code.isCaller,Code.frames,Code.isFrame,guardIds]
theorem qvh {A:Around}{C:Addr}{us:List Value}{kw:List (Str×Value)}:(A.under (.builtin "type.__call__" ⟨.ref C::us,kw⟩)).units=A.units+1:=by
 first|rfl|simp [Around.under,Code.cUnits,Code.frames,Code.isFrame]
theorem Room.make {k:Nat}{A:Around} (r:Room (k+1) A) (C:Addr) (us:List Value) (kw:List (Str×Value)):Room k (A.under (.builtin "type.__call__" ⟨.ref C::us,kw⟩)) :=
 ⟨r.hd,by have:=r.dp;rw [qwa];omega,by have:=r.un;rw [qvh];omega⟩
theorem Room.depth {k:Nat}{A:Around} (r:Room k A):A.depth<recursionLimit:=by have:=r.dp;omega
theorem Room.units {k:Nat}{A:Around} (r:Room k A):A.units+64<cLine:=by have:=r.un;omega
def tNil:TA:=fun _ H Q=>Q [] H
def zaah (ta:TE) (tr:TA):TA:=fun σ H Q=>ta σ H fun x H1=>tr σ H1 fun xs H2=>Q (x::xs) H2
section
variable {X:Cx}{e:Expr}{es:List Expr}{te:TE}{t:TA}{pos:Pos}
theorem qbp:PA X [] tNil:=fun _ _ _ _ H Q I h=>Calls.spliced_nil ⟨[],H,I,.nil,h⟩
theorem qL (ha:PE X e te) (hr:PA X es t) (hs:starEach (e::es) X.env=(false,eval e X.env)::starEach es X.env:=by rfl):PA X (e::es) (zaah te t):=by
 intro pos pins s σ H Q I h
 rw [hs]
 show wpAny _ _ (spliced ((false,eval e X.env)::backTo pos (starEach es X.env))) _ _ s
 refine Calls.spliced_cons (thn (ha pins s σ H _ I h) fun u s1 xx43=>?_)
 obtain ⟨x,H1,I1,r1,q1⟩:=xx43
 exact thn (hr pos pins s1 σ H1 _ I1 q1) fun us s2 xx42=>by obtain ⟨xs,H2,I2,r2,q2⟩:=xx42;exact ⟨x::xs,H2,I2,.cons r1 r2,q2⟩
def tTup (t:TA):TE:=fun σ H Q=>t σ H fun xs H1=>xs.length≤sizeLine ∧ ∀ p,H1 p=none→Q (.ref p) (upd H1 p (.tup xs))
def tLst (t:TA):TE:=fun σ H Q=>t σ H fun xs H1=>xs.length≤sizeLine ∧ ∀ p,H1 p=none→Q (.ref p) (upd H1 p (.lst xs))
theorem qtf {x1} (h:PA X es t):PE X (.Tuple es x1 pos) (tTup t):=by
 intro pins s σ H Q I hq
 refine wpAny_Tuple_spliced (thn (h pos pins s σ H _ I hq) fun us s1 ⟨xs,H1,I1,r,z,q⟩=>⟨by rw [← r.length];exact z,?_⟩)
 have hf:H1 s1.heap.objs.size=none:=I1.hok.fresh (Nat.le_refl _)
 refine ⟨.ref s1.heap.objs.size,upd H1 s1.heap.objs.size (.tup xs),I1.laid (t':=s1.toks) (fun b u e=>Heap.get?_push_of_some _ e) (Nat.le_refl _) ?_,rfl,q _ hf⟩
 exact ⟨z,us,r,⟨_,Heap.get?_push_size _ rfl,rfl,_,rfl⟩⟩
theorem zajn (h:PA X es t):PE X (.List es pos) (tLst t):=by
 intro pins s σ H Q I hq
 refine wpAny_List_spliced (thn (h pos pins s σ H _ I hq) fun us s1 ⟨xs,H1,I1,r,z,q⟩=>⟨by rw [← r.length];exact z,?_⟩)
 have hf:H1 s1.heap.objs.size=none:=I1.hok.fresh (Nat.le_refl _)
 refine ⟨.ref s1.heap.objs.size,upd H1 s1.heap.objs.size (.lst xs),I1.laid (t':=s1.toks) (fun b u e=>Heap.get?_push_of_some _ e) (Nat.le_refl _) ?_,rfl,q _ hf⟩
 exact ⟨z,us,0,r,Heap.get?_push_size _ rfl⟩
end
abbrev Sp:=List V→Hp→VK→XK→Prop
abbrev CXT:=List Env→Hp→Shared→XK→Value→Shared→Prop
structure Env0 (P:Program) (w:World) (K:PySem.W.Frag) (mg:Str→Option Value) (base:Heap) (A:Around) (outer:List Env) (s:Shared) (H:Hp):Prop where
 frames:A.frames=some outer
 mod:Mod K mg base
 bs : ∀ b o,base.get? b=some o→s.heap.get? b=some o∧H b=none
 bsz:base.objs.size≤s.heap.objs.size
 funs:s.heap.FunFrames base outer
 frf : ∀ b ∈ frs outer,H b=none
 hok:HOk P w H s.heap
 bare:AllBare s.gens
def CE (outer:List Env) (P:Program) (w:World) (H:Hp) (s:Shared) (Q:VK) (u:Value) (s':Shared):Prop :=
 ∃ v H',s'.os=s.os∧AllBare s'.gens∧Un (frs outer) [] H H' s.heap s'.heap∧HOk P w H' s'.heap∧RelV v u∧Q v H'
def CR (CX:CXT) (outer:List Env) (P:Program) (w:World) (H:Hp) (s:Shared) (Q:VK) (E:XK) (r:Result) (s':Shared):Prop :=
 match r with
 | .ok (.ret u)=>CE outer P w H s Q u s'
 | .ok _=>False
 | .error e=>CX outer H s E e s'
structure FnOk (P:Program) (w:World) (K:PySem.W.Frag) (mg:Str→Option Value) (base:Heap) (CX:CXT) (k:Nat) (f:Addr) (fd:FuncData) (ps:List Str) (sp:Sp):Prop where
 len : ∀ vs H Q E,sp vs H Q E→vs.length=ps.length
 run : ∀ (A:Around) (outer:List Env) (s:Shared) (H:Hp) (args:Args) (us:List Value) (vs:List V) (Q:VK) (E:XK),Room k A→Env0 P w K mg base A outer s H→BindsTo s fd args (ps.zip us)→Vals vs us→sp vs H Q E →
  codeAny (model P w) A (.call (.ref f) args) (CR CX outer P w H s Q E) s
theorem FnOk.imp {P:Program}{w:World}{K:PySem.W.Frag}{mg:Str→Option Value}{base:Heap}{CX:CXT}{k:Nat}{f:Addr}{fd:FuncData}{ps:List Str}{sp sp':Sp} (F:FnOk P w K mg base CX k f fd ps sp)
 (h : ∀ vs H Q E,sp' vs H Q E→sp vs H Q E):FnOk P w K mg base CX k f fd ps sp' :=
  ⟨fun vs H Q E q=>F.len vs H Q E (h _ _ _ _ q),fun A outer s H args us vs Q E hr he hb hv hs=>F.run A outer s H args us vs Q E hr he hb hv (h _ _ _ _ hs)⟩
theorem Env0.make {P:Program}{w:World}{K:PySem.W.Frag}{mg:Str→Option Value}{base:Heap}{A:Around}{outer:List Env}{s:Shared}{H:Hp} (e:Env0 P w K mg base A outer s H) (C:Addr) (us:List Value) (kw:List (Str×Value)) :
 Env0 P w K mg base (A.under (.builtin "type.__call__" ⟨.ref C::us,kw⟩)) outer s H:=⟨by first|exact e.frames|(simpa [Around.under,Code.envs,Code.isFrame,pushEnvs] using e.frames),e.mod,e.bs,e.bsz,e.funs,e.frf,e.hok,e.bare⟩
section
variable {X:Cx}{pins:List (Addr×Obj)}{σ:St}{H:Hp}{s s':Shared}
theorem Inv.env0 (I:Inv X pins σ H s):Env0 X.prog X.w X.K X.mg X.base X.A X.stack s H :=
 ⟨I.ok.frames,I.ok.mod,I.bs,Nat.le_trans I.ok.bsz I.sz,I.stack,I.stkFree,I.hok,I.bare⟩
theorem Inv.after {Q:VK}{u:Value} (I:Inv X pins σ H s) (h:CE X.stack X.prog X.w H s Q u s'):EP X pins σ Q u s':=by
 obtain ⟨v,H',os,bare,un,hok,r,q⟩:=h
 obtain ⟨hh,g,d,t,os'⟩:=s'
 obtain rfl:os'=s.os:=os
 exact ⟨v,H',I.call (h':=hh) (g':=g) (d':=d) (t':=t) (ch:=[]) un hok bare (fun b z=>absurd z (by simp)),r,q⟩
end
def qod (sp:Sp) (dvs:List V) (E:XK) (t:TA):TE:=fun σ H Q=>t σ H fun vs H1=>sp (vs++dvs) H1 Q E
def zaae (C:Addr) (m:Str) (sp:Sp) (dvs:List V) (E:XK) (ta:TE) (t:TA):TE:=fun σ H Q=>ta σ H fun x H1 => ∃ a dx fs,x = .ref a∧H1 a=some (.ins C dx fs)∧fs.lookup m=none ∧
 t σ H1 fun vs H2=>sp (x::(vs++dvs)) H2 Q E
def zalr (C:Addr) (sp:Sp) (dvs:List V) (E:XK) (t:TA):TE:=fun σ H Q=>t σ H fun vs H1 => ∀ x dx,H1 x=none→H1 dx=none→dx≠x →
 sp (.ref x::(vs++dvs)) (upd (upd H1 dx (.own x)) x (.ins C dx [])) (fun v H2=>v = .non∧Q (.ref x) H2) E
def Binds (K:PySem.W.Frag) (fd:FuncData) (ps:List Str) (ds:List Value):Prop :=
 ∀ (s:Shared) (us:List Value),K.In s.heap→(us++ds).length=ps.length→BindsTo s fd ⟨us,[]⟩ (ps.zip (us++ds))
theorem Binds.all {K:PySem.W.Frag}{fd:FuncData}{ps:List Str} (h : ∀ us:List Value,us.length=ps.length→bindArgs fd ⟨us,[]⟩=pure (ps.zip us)):Binds K fd ps []:=fun s us _ hl=>by
 rw [List.append_nil] at hl ⊢
 exact .of_eq (h us hl)
def qkf (CX:CXT) (X:Cx) (E:XK):Prop := ∀ (pins:List (Addr×Obj)) (σ:St) (H:Hp) (s:Shared) (e:Value) (s':Shared),Inv X pins σ H s→CX X.stack H s E e s'→X.xe e s'
section
variable {X:Cx}{CX:CXT}{k:Nat}{f C:Addr}{fd:FuncData}{ps:List Str}{sp:Sp}{dvs:List V}{ds:List Value}{E:XK}{x m:Str}{p pos apos:Pos}{e o:Expr}{es:List Expr}{ta:TE}{t:TA}
theorem qwx {pins:List (Addr×Obj)}{σ:St}{H:Hp}{s:Shared}{Q:VK}{us:List Value}{vs:List V} (F:FnOk X.prog X.w X.K X.mg X.base CX k f fd ps sp) (hr:Room k X.A) (hb:Binds X.K fd ps ds) (hd:Vals dvs ds) (hx:qkf CX X E)
 (I:Inv X pins σ H s) (r:Vals vs us) (h:sp (vs++dvs) H Q E):wpAny (model X.prog X.w) X.A (call (.ref f) us) (EP X pins σ Q) X.xe s:=by
  have r2:Vals (vs++dvs) (us++ds):=r.append hd
  have hl:(us++ds).length=ps.length:=by rw [← r2.length];exact F.len _ _ _ _ h
  refine wpAny_call (codeAny_mono (F.run X.A X.stack s H ⟨us,[]⟩ (us++ds) (vs++dvs) Q E hr I.env0 (hb s us I.kIn hl) r2 h) fun r s' hq=>?_)
  cases r with
  | error e=>exact hx pins σ H s e s' I hq
  | ok fl =>
   cases fl with
   | ret u=>exact I.after hq
   | next=>exact False.elim hq
   | brk=>exact False.elim hq
   | cont=>exact False.elim hq
theorem zagt (F:FnOk X.prog X.w X.K X.mg X.base CX k f fd ps sp) (hr:Room k X.A) (hg:Gl X x) (hm:X.mg x=some (.ref f)) (hk:PySem.W.keepIn X.K (.ref f)=true) (hb:Binds X.K fd ps ds) (hd:Vals dvs ds) (hx:qkf CX X E)
 (ha:PA X (e::es) t) (hdb:(x==("__debug__" : Str))=false:=by decide) (he:starEach (e::es) X.env=(false,eval e X.env)::starEach es X.env:=by rfl) (hpl:(backTo pos (starEach es X.env)).any (·.1)=false:=by rfl) :
  PE X (.Call (.Name x p) (e::es) [] pos) (qod sp dvs E t):=by
  intro pins s σ H Q I h
  refine wpAny_Call_Name_kw (qrw I hg hm ?_ hdb)
  refine PySem.W.callWith_K (h₀:=X.base) I.ok.mod.kin hk (thn (ha pos pins s σ H _ I h) fun us s1 ⟨vs,H1,I1,r,q⟩=>⟨I1.kIn,?_⟩) he hpl
  exact qwx F hr hb hd hx I1 r q
theorem qsg {pl:Sem Bool} (he:PE X o ta) (c:Cls X.K C) (hm:Meth X.K C m f) (F:FnOk X.prog X.w X.K X.mg X.base CX k f fd ps sp) (hr:Room k X.A) (hb:Binds X.K fd ps ds) (hd:Vals dvs ds) (hx:qkf CX X E) (ha:PA X (e::es) t)
 (hst:starEach (e::es) X.env=(false,eval e X.env)::starEach es X.env:=by rfl) (hpl:(backTo pos (starEach es X.env)).any (·.1)=false:=by rfl)
  (ht:eval (.Call (.Attribute o m apos) (e::es) [] pos) X.env=(do
   let ov ← eval o X.env
   standAt apos.atName
   let (f,first) ← holding [ov] (getMethod ov m pl)
   callWith pos f first (backTo pos (starEach (e::es) X.env)) (backToKw pos (keywordEach [] X.env))):=by rfl) :
  PE X (.Call (.Attribute o m apos) (e::es) [] pos) (zaae C m sp dvs E ta t):=by
  intro pins s σ H Q I h
  refine PySem.W.methodCall_KW (pl:=pl) (thn (he pins s σ H _ I h) fun u s1 xx48=>?_) ht
  obtain ⟨x,H1,I1,rx,a,dx,fs,ex,ea,l,q⟩:=xx48
  subst ex
  obtain rfl:u=Value.ref a:=rx
  refine qnr I1 ea c hm l ?_
  refine PySem.W.callWith_K (first:=[.ref a]) (h₀:=X.base) I.ok.mod.kin hm.kp (thn (ha pos pins s1 σ H1 _ I1 q) fun us s2 ⟨vs,H2,I2,r,q2⟩=>⟨I2.kIn,?_⟩) hst hpl
  exact qwx (us :=.ref a::us) (vs :=.ref a::vs) F hr hb hd hx I2 (.cons rfl r) q2
theorem qot {pl:Sem Bool} (he:PE X o ta) (c:Cls X.K C) (hm:Meth X.K C m f) (F:FnOk X.prog X.w X.K X.mg X.base CX k f fd ps sp) (hr:Room k X.A) (hb:Binds X.K fd ps ds) (hd:Vals dvs ds) (hx:qkf CX X E)
 (ht:eval (.Call (.Attribute o m apos) [] [] pos) X.env=(do
 let ov ← eval o X.env
 standAt apos.atName
 let (f,first) ← holding [ov] (getMethod ov m pl)
 callWith pos f first (backTo pos (starEach [] X.env)) (backToKw pos (keywordEach [] X.env))):=by rfl) :
  PE X (.Call (.Attribute o m apos) [] [] pos) (zaae C m sp dvs E ta tNil):=by
  intro pins s σ H Q I h
  refine PySem.W.methodCall_KW (pl:=pl) (thn (he pins s σ H _ I h) fun u s1 xx49=>?_) ht
  obtain ⟨x,H1,I1,rx,a,dx,fs,ex,ea,l,q⟩:=xx49
  subst ex
  obtain rfl:u=Value.ref a:=rx
  refine qnr I1 ea c hm l ?_
  exact PySem.W.callWith_K0 (first:=[.ref a]) I1.kIn hm.kp (qwx (us:=[.ref a]) (vs:=[.ref a]) F hr hb hd hx I1 (.cons rfl .nil) q)
structure Mk (K:PySem.W.Frag) (C f:Addr):Prop where
 makes:PySem.W.makesIn K C=true
 init:PySem.W.findIn K (.ref C) "__init__" = some (some (.ref f))
 fn:PySem.W.isFn K (.ref f)=true
 kp:PySem.W.keepIn K (.ref C)=true
theorem zabp {pins:List (Addr×Obj)}{σ:St}{H:Hp}{s:Shared}{Q:VK}{us:List Value}{vs:List V} (M:Mk X.K C f) (F:FnOk X.prog X.w X.K X.mg X.base CX k f fd ps sp) (hr:Room (k+1) X.A) (hb:Binds X.K fd ps ds) (hd:Vals dvs ds)
 (hx:qkf CX X E) (I:Inv X pins σ H s) (r:Vals vs us)
 (h : ∀ x dx,H x=none→H dx=none→dx≠x→sp (.ref x::(vs++dvs)) (upd (upd H dx (.own x)) x (.ins C dx [])) (fun v H2=>v = .non∧Q (.ref x) H2) E) :
 wpAny (model X.prog X.w) X.A (call (.ref C) us) (EP X pins σ Q) X.xe s:=by
  have hq:=h (s.heap.objs.size+1) s.heap.objs.size (I.hok.fresh (Nat.le_succ _)) (I.hok.fresh (Nat.le_refl _)) (Nat.ne_of_lt (Nat.lt_succ_self _))
  have I2:=Inv.made (C:=C) I
  have r2:Vals (V.ref (s.heap.objs.size+1)::(vs++dvs)) (Value.ref (s.heap.objs.size+1)::(us++ds)) :=.cons rfl (r.append hd)
  have hl:(Value.ref (s.heap.objs.size+1)::us++ds).length=ps.length:=by
   have e:=r2.length
   rw [F.len _ _ _ _ hq] at e
   exact e.symm
  refine wpAny_call (zabv (f:=f) I.kIn M.makes M.init (beq_iff_eq.mp M.fn) (codeAny_mono (F.run _ X.stack _ _ ⟨Value.ref (s.heap.objs.size+1)::us,[]⟩ (Value.ref (s.heap.objs.size+1)::(us++ds)) _ _ E (hr.make C us [])
   (I2.env0.make C us []) (hb _ (Value.ref (s.heap.objs.size+1)::us) I2.kIn hl) r2 hq) fun r s' hq'=>?_))
  cases r with
  | error e=>exact hx pins σ _ _ e s' I2 hq'
  | ok fl =>
   cases fl with
   | ret u =>
    obtain ⟨v,H',I3,rv,ev,q3⟩:=I2.after hq'
    subst ev
    exact ⟨rv,⟨V.ref (s.heap.objs.size+1),H',I3,rfl,q3⟩⟩
   | next=>exact False.elim hq'
   | brk=>exact False.elim hq'
   | cont=>exact False.elim hq'
theorem zafs (M:Mk X.K C f) (F:FnOk X.prog X.w X.K X.mg X.base CX k f fd ps sp) (hr:Room (k+1) X.A) (hg:Gl X x) (hm:X.mg x=some (.ref C)) (hb:Binds X.K fd ps ds) (hd:Vals dvs ds) (hx:qkf CX X E)
 (ha:PA X (e::es) t) (hdb:(x==("__debug__" : Str))=false:=by decide) (he:starEach (e::es) X.env=(false,eval e X.env)::starEach es X.env:=by rfl) (hpl:(backTo pos (starEach es X.env)).any (·.1)=false:=by rfl) :
  PE X (.Call (.Name x p) (e::es) [] pos) (zalr C sp dvs E t):=by
  intro pins s σ H Q I h
  refine wpAny_Call_Name_kw (qrw I hg hm ?_ hdb)
  refine PySem.W.callWith_K (h₀:=X.base) I.ok.mod.kin M.kp (thn (ha pos pins s σ H _ I h) fun us s1 ⟨vs,H1,I1,r,q⟩=>⟨I1.kIn,?_⟩) he hpl
  exact zabp M F hr hb hd hx I1 r q
end
section
variable {X:Cx}{CX:CXT}{k:Nat}{f C:Addr}{fd:FuncData}{ps ks:List Str}{sp:Sp}{E:XK}{x m:Str}{p pos apos kpos:Pos}{e o:Expr}{es:List Expr}{kws:List Keyword}{te ta:TE}{t tk:TA}{nm:Option Str}
variable {g:List Value→List Value→List Value}{gV:List V→List V→List V}
end
structure FnScope (N P:List Str) (sc:Scope):Prop where
 kind:sc.kind = .function
 co:sc.isCoroutine=false
 gen:sc.isGenerator=false
 nd:N.Nodup
 pre:N.take P.length=P
 par : ∀ x ∈ P,sc.names.lookup x=some .local∨sc.names.lookup x=some .cell
 nofree : ∀ y ∈ sc.names,y.2 ≠ .free
theorem qri {kindOf:Str→Option NameKind}{x:Str} : ∀ {binds:List (Str×Value)}{m:Str→Option Value},(∀ v,(x,v) ∉ binds)→bindL kindOf binds m x=m x
 | [],_,_=>rfl
 | (n,v)::r,m,h=>by
  unfold bindL
  rw [qri fun w hw=>h w (List.mem_cons_of_mem _ hw)]
  split
  ·have:x≠n:=by rintro rfl;exact h v List.mem_cons_self
   simp [this]
  ·rfl
theorem qqo {kindOf:Str→Option NameKind}{x:Str} : ∀ {binds:List (Str×Value)}{m:Str→Option Value},(∀ v,(x,v) ∉ binds)→bindC kindOf binds m x=m x
 | [],_,_=>rfl
 | (n,v)::r,m,h=>by
  unfold bindC
  rw [qqo fun w hw=>h w (List.mem_cons_of_mem _ hw)]
  split
  ·rfl
  ·have:x≠n:=by rintro rfl;exact h v List.mem_cons_self
   simp [this]
theorem qre {kindOf:Str→Option NameKind}{x:Str}{v:Value} : ∀ {P:List Str}{vs:List Value}{i:Nat}{m:Str→Option Value},P.Nodup→P[i]?=some x→vs[i]?=some v→kindOf x=some .local →
 bindL kindOf (P.zip vs) m x=some v
  | [],_,_,_,_,h,_,_=>by simp at h
  | _::_,[],_,_,_,_,h,_=>by simp at h
  | p::P,w::vs,0,m,nd,h1,h2,hk=>by
   simp at h1 h2;subst h1;subst h2
   show bindL kindOf ((p,w)::P.zip vs) m p=_
   unfold bindL
   rw [qri fun v hv=>(List.nodup_cons.mp nd).1 (List.of_mem_zip hv).1,if_pos hk]
   simp
  | p::P,w::vs,i+1,m,nd,h1,h2,hk=>by
   show bindL kindOf ((p,w)::P.zip vs) m x=_
   unfold bindL
   exact qre (i:=i) (List.nodup_cons.mp nd).2 (by simpa using h1) (by simpa using h2) hk
theorem qrg {kindOf:Str→Option NameKind}{x:Str}{v:Value} : ∀ {P:List Str}{vs:List Value}{i:Nat}{m:Str→Option Value},P.Nodup→P[i]?=some x→vs[i]?=some v→kindOf x≠some .local →
 bindC kindOf (P.zip vs) m x=some v
  | [],_,_,_,_,h,_,_=>by simp at h
  | _::_,[],_,_,_,_,h,_=>by simp at h
  | p::P,w::vs,0,m,nd,h1,h2,hk=>by
   simp at h1 h2;subst h1;subst h2
   show bindC kindOf ((p,w)::P.zip vs) m p=_
   unfold bindC
   rw [qqo fun v hv=>(List.nodup_cons.mp nd).1 (List.of_mem_zip hv).1,if_neg hk]
   simp
  | p::P,w::vs,i+1,m,nd,h1,h2,hk=>by
   show bindC kindOf ((p,w)::P.zip vs) m x=_
   unfold bindC
   exact qrg (i:=i) (List.nodup_cons.mp nd).2 (by simpa using h1) (by simpa using h2) hk
def start (N:List Str) (vs:List V):St:=vs.map some++List.replicate (N.length-vs.length) none
def qqt (CX:CXT) (P:Program) (w:World) (K:PySem.W.Frag) (mg:Str→Option Value) (base:Heap) (N:List Str) (qual:Str) (scope:Scope) (f:Addr) (cd:Value) (A:Around) (outer:List Env) (s:Shared) (H:Hp) (E:XK):Cx where
 prog:=P
 w:=w
 K:=K
 mg:=mg
 base:=base
 A:=A.deeper (envOfC qual scope s.heap.objs.size f cd)
 N:=N
 s₀:=s
 H₀:=H
 env:=envOfC qual scope s.heap.objs.size f cd
 outer:=outer
 stack:=envOfC qual scope s.heap.objs.size f cd::outer
 ex:=[]
 calm:=true
 fn:=fun _=>true
 pn:=[]
 xe:=fun e s'=>wpAny (model P w) (A.deeper (envOfC qual scope s.heap.objs.size f cd)) (leaving (envOfC qual scope s.heap.objs.size f cd) e) (fun _ s''=>CX outer H s E e s'') (fun e' s''=>CX outer H s E e' s'') s'
theorem qvb {sc:Scope}{n:Nat}{x:Str} (h:sc.names.lookup x=some .cell) : ∃ c,(cellsFrom n sc.names []).lookup x=some c:=by
 have q:=PySem.W.cellsFrom_some sc.names n [] (.inl h)
 exact Option.isSome_iff_exists.mp q
theorem qzc {CX:CXT}{P:Program}{w:World}{K:PySem.W.Frag}{mg:Str→Option Value}{base:Heap}{N ps:List Str}{qual:Str}{scope:Scope}{f:Addr}{cd:Value}{A:Around}{outer:List Env}{s s1:Shared}{H:Hp}{E:XK}{us:List Value}{vs:List V}
 (S:FnScope N ps scope) (hd:A.handled=none) (e0:Env0 P w K mg base A outer s H) (hl:vs.length=ps.length) (r:Vals vs us)
 (x:InCallC s s.heap.objs.size (bindL (envOfC qual scope s.heap.objs.size f cd).kindOf (ps.zip us) fun _=>none) (cellsFrom (s.heap.objs.size+1) scope.names []) (bindC (envOfC qual scope s.heap.objs.size f cd).kindOf (ps.zip us) fun _=>none) s1) :
 Inv (qqt CX P w K mg base N qual scope f cd A outer s H E) [] (start N vs) H s1:=by
  have hpl:ps.length≤N.length:=by have:=congrArg List.length S.pre;rw [List.length_take] at this;omega
  obtain ⟨h1,tk,rfl,hk⟩:=x.done
  have noA : ∀ b:Addr,b ∉ (qqt CX P w K mg base N qual scope f cd A outer s H E).ex:=fun b z=>absurd (show b ∈ ([]:List Addr) from z) (by simp)
  refine ⟨⟨e0.mod,S.kind,rfl,rfl,Nat.le_refl _,fun y z c h1 h2=>?_,fun y hy=>?_,fun y c _ h=>?_,fun _=>hd,Around.frames_deeper e0.frames,.inr ⟨rfl,rfl⟩,fun b z=>absurd z (noA b),e0.bs,e0.bsz,fun b _ _=>noA b,fun b z=>absurd z (noA b),e0.funs,e0.frf⟩,
   rfl,e0.bare,Un.kept hk,⟨_,x.toInCall.ns,fun i y v h1 h2 h3=>?_⟩,fun y c h=>⟨_,x.cell y c h⟩,e0.hok.fresh (Nat.le_refl _),fun y c h=>?_,fun p hp=>absurd (show p ∈ ([]:List (Addr×Obj)) from hp) (by simp),e0.hok.kept hk,?_⟩
  ·exact name_of_addr x.apart (PySem.mem_of_lookup h1) (PySem.mem_of_lookup h2)
  ·have hy:scope.names.lookup y=some .cell∨scope.names.lookup y=some .free:=hy
   rcases hy with hy|hy
   ·exact qvb hy
   ·exact absurd rfl (S.nofree _ (PySem.mem_of_lookup hy))
  ·exact Nat.le_of_lt (x.above y c (PySem.mem_of_lookup h))
  ·have hi:i<vs.length:=by
    unfold start at h2
    by_cases hi:i<vs.length
    ·exact hi
    ·rw [List.getElem?_append_right (by simpa using hi)] at h2
     rw [List.getElem?_replicate] at h2
     split at h2 <;> cases h2
   have ha:vs[i]?=some v:=by
    unfold start at h2
    rw [List.getElem?_append_left (by simpa using hi),List.getElem?_map] at h2
    cases e:vs[i]? with
    | none=>rw [e] at h2;cases h2
    | some a=>rw [e] at h2;cases h2;rfl
   obtain ⟨u,hu,rv⟩:=r.get ha
   have hp:ps[i]?=some y:=by
    rw [← S.pre,List.getElem?_take_of_lt (by omega)];exact h1
   have ndP:ps.Nodup:=by rw [← S.pre];exact S.nd.sublist (List.take_sublist _ _)
   refine ⟨u,rv,?_⟩
   rcases S.par y (List.mem_of_getElem? hp) with k|k
   ·exact .inl ⟨k,qre ndP hp hu k⟩
   ·obtain ⟨c,e⟩:=qvb (n:=s.heap.objs.size+1) k
    refine .inr ⟨.inl k,c,e,?_⟩
    have q:=x.cell y c e
    rw [qrg ndP hp hu (by show scope.names.lookup y≠_;rw [k];decide)] at q
    exact q
  ·exact e0.hok.fresh (Nat.le_of_lt (x.above y c (PySem.mem_of_lookup h)))
  ·unfold start
   show _=N.length
   rw [List.length_append,List.length_map,List.length_replicate]
   omega
theorem zaks {CX:CXT}{P:Program}{w:World}{K:PySem.W.Frag}{mg:Str→Option Value}{base:Heap}{k:Nat}{f:Addr}{name qual:Str}{params:Arguments}{body:List Stmt}{scope:Scope}{dV kV doc pm cdv ct oc:Value}{an od:Option Addr}
 {osl:Array (Option Value)}{N ps:List Str}{sp:Sp} (lk:K.lookup f=some ⟨oc,od,.func (PySem.W.fnOf name qual params body scope dV kV doc pm an cdv ct),osl⟩) (hcd:PySem.W.codeIn K cdv qual=true) (S:FnScope N ps scope)
 (len : ∀ vs H Q E,sp vs H Q E→vs.length=ps.length)
 (hbody : ∀ (A:Around) (outer:List Env) (s:Shared) (H:Hp) (vs:List V) (Q:VK) (E:XK),Room k (A.deeper (envOfC qual scope s.heap.objs.size f cdv))→sp vs H Q E →
 ∃ t,PSs (qqt CX P w K mg base N qual scope f cdv A outer s H E) body t∧t { nx:=fun _ H'=>Q .non H',rt:=Q } (start N vs) H) :
  FnOk P w K mg base CX (k+1) f (PySem.W.fnOf name qual params body scope dV kV doc pm an cdv ct) ps sp:=by
  refine ⟨len,fun A outer s H args us vs Q E hr e0 hb r hsp=>?_⟩
  have hl:=len _ _ _ _ hsp
  have KX:K.In s.heap:=e0.mod.kin.keeps fun b o e=>(e0.bs b o e).1
  have lim:s.heap.NoLimit:=e0.mod.nolimit.keeps fun b o e=>(e0.bs b o e).1
  have hkind : ∀ y ∈ ps.zip us,scope.names.lookup y.1=some .local∨(scope.names.lookup y.1=some .cell∧((cellsFrom (s.heap.objs.size+1) scope.names []).lookup y.1).isSome=true):=fun xx51 hy=>by
   obtain ⟨n,v⟩:=xx51
   rcases S.par n (List.of_mem_zip hy).1 with q|q
   ·exact .inl q
   ·exact .inr ⟨q,PySem.W.cellsFrom_some _ _ _ (.inl q)⟩
  refine codeAny_call_function hr.depth (KX _ _ lk) rfl S.co S.gen rfl (PySem.W.codeRec_of KX hcd) (hb _ _ _ _ ?_)
  refine wpAny_newFunctionEnv_cells S.kind hkind fun env he s1 x=>?_
  subst he
  refine ⟨lim.keeps x.toInCall.keep,codeAny_func ?_⟩
  obtain ⟨t,ht,hq⟩:=hbody A outer s H vs Q E (hr.deeper _) hsp
  have I:Inv (qqt CX P w K mg base N qual scope f cdv A outer s H E) [] (start N vs) H s1:=qzc S hr.hd e0 hl r x
  refine wpAny_mono (ht [] s1 (start N vs) H _ I hq) (fun fl s' hs=>?_) fun e s' hs=>hs
  have fin : ∀ {σ':St}{H':Hp}{v:V}{u:Value},Inv (qqt CX P w K mg base N qual scope f cdv A outer s H E) [] σ' H' s'→RelV v u→Q v H'→CE outer P w H s Q u s' :=
   fun {σ' H' v u} J rv q=>⟨v,H',J.os,J.bare,J.base,J.hok,rv,q⟩
  cases fl with
  | ret u =>
   obtain ⟨v,σ',H',J,rv,q⟩:=hs
   exact fin J rv q
  | next =>
   obtain ⟨σ',H',J,q⟩:=hs
   exact fin (v:=V.non) (u:=Value.none) J rfl q
  | brk =>
   obtain ⟨_,_,_,q⟩:=hs
   exact False.elim q
  | cont =>
   obtain ⟨_,_,_,q⟩:=hs
   exact False.elim q
end L2
namespace L2
open PySem PySem.Spec PyProof.Rows
section
variable {X:Cx}{x:Str}{p pos:Pos}{e:Expr}{es:List Expr}{t:TA}{id T:String}{r:List V→Hp→VK→Prop}
def tCB (r:List V→Hp→VK→Prop) (t:TA):TE:=fun σ H Q=>t σ H fun vs H1=>r vs H1 Q
theorem qhx (hc:CallR X (.builtin id) r) (hg:Gl X x) (hm:X.mg x=none) (hv:bootBuiltins x=some (.builtin id)) (ha:PA X (e::es) t) (hn:x ≠ "__name__":=by decide) (hdb:(x==("__debug__" : Str))=false:=by decide)
 (he:starEach (e::es) X.env=(false,eval e X.env)::starEach es X.env:=by rfl) (hpl:(backTo pos (starEach es X.env)).any (·.1)=false:=by rfl):PE X (.Call (.Name x p) (e::es) [] pos) (tCB r t):=by
 intro pins s σ H Q I h
 refine wpAny_Call_Name_kw (qmn I hg hm hv ?_ hn hdb)
 exact PyProof.Rows.callWith_builtin1 (thn (ha pos pins s σ H _ I h) fun us s1 xx52=>by obtain ⟨vs,H1,I1,r1,q1⟩:=xx52;exact hc pins s1 σ H1 vs us Q I1 r1 q1) he hpl
theorem qie (hc:CallR X (.type T) r) (hg:Gl X x) (hm:X.mg x=none) (hv:bootBuiltins x=some (.type T)) (ha:PA X (e::es) t) (hn:x ≠ "__name__":=by decide) (hdb:(x==("__debug__" : Str))=false:=by decide)
 (he:starEach (e::es) X.env=(false,eval e X.env)::starEach es X.env:=by rfl) (hpl:(backTo pos (starEach es X.env)).any (·.1)=false:=by rfl):PE X (.Call (.Name x p) (e::es) [] pos) (tCB r t):=by
 intro pins s σ H Q I h
 refine wpAny_Call_Name_kw (qmn I hg hm hv ?_ hn hdb)
 exact PyProof.Rows.callWith_type1 (thn (ha pos pins s σ H _ I h) fun us s1 xx53=>by obtain ⟨vs,H1,I1,r1,q1⟩:=xx53;exact hc pins s1 σ H1 vs us Q I1 r1 q1) he hpl
end
end L2
namespace HT
open PySem PyProof.Rows
section
open PySem.SeqAt
open PySem.AutoSeq1 (wpAny_loadPart')
open PySem.MeetsSeq PySem.MeetsSeq2 PySem.MeetsSeq3
end
section
variable {prog:Program}{w:World}{A:Around}{E:Value→Shared→Prop}{s:Shared}
theorem cat_tup {t b:Addr}{vs ws:List Value}{Q:Value→Shared→Prop} (ht:IsTup s.heap t vs.toArray) (hb:IsTup s.heap b ws.toArray) (hv:vs≠[])
 (h1:ws=[]→Q (.ref t) s) (h2:ws≠[]→Q (.ref s.heap.objs.size) { s with heap:=s.heap.push { cls :=.type "tuple",data :=.seq (vs++ws).toArray } })
  (hsz:vs.length+ws.length≤sizeLine):wpAny (model prog w) A (binaryOp .Add (.ref t) (.ref b)) Q E s:=by
  obtain ⟨⟨cls,dd,data,sl⟩,ho,hc,n,hd⟩:=id ht
  obtain ⟨⟨cls2,dd2,data2,sl2⟩,ho2,hc2,n2,hd2⟩:=id hb
  simp only at hc hd hc2 hd2
  subst hc hd hc2 hd2
  have e:vs.toArray++ws.toArray=(vs++ws).toArray:=by simp
  by_cases hw:ws=[]
  ·exact concat_meets ⟨_,ho,rfl⟩ ⟨_,ho2,rfl⟩ noFill_tuple_add seq_tuple_add PySem.F.slot_tuple_add PySem.F.entry_tuple_add (PySem.F.args_tuple_add_2 _ _)
    (tuple_addW1 t b vs.toArray ws.toArray n n2 dd dd2 sl sl2 (by simpa using hv) (by simp [hw])) ⟨ho,ho2,h1 hw⟩
  ·refine concat_meets ⟨_,ho,rfl⟩ ⟨_,ho2,rfl⟩ noFill_tuple_add seq_tuple_add PySem.F.slot_tuple_add PySem.F.entry_tuple_add (PySem.F.args_tuple_add_2 _ _)
    (tuple_addW2 t b vs.toArray ws.toArray n n2 dd dd2 sl sl2 (by simpa using hv) (by simpa using hw) (by rw [List.size_toArray,List.size_toArray];exact hsz)) ⟨ho,ho2,?_⟩
   rw [e]
   exact h2 hw
def sIx (n d:Nat):Option Int→Nat
 | none=>d
 | some v=>if v<0 then (v+(n:Int)).toNat else min v.toNat n
theorem sIx_none (n d:Nat):sIx n d none=d:=rfl
theorem sIx_nat (n d k:Nat):sIx n d (some (k:Int))=min k n:=by
 show (if (k:Int)<0 then ((k:Int)+(n:Int)).toNat else min (k:Int).toNat n)=min k n
 rw [if_neg (by omega),Int.toNat_natCast]
end
end HT
namespace L2
open PySem PySem.Spec PyProof.Rows
abbrev TO:=St→Hp→(Option Int→Hp→Prop)→Prop
def PO (X:Cx) (e:Option Expr) (t:TO):Prop :=
 ∀ (pins:List (Addr×Obj)) (s:Shared) (σ:St) (H:Hp) (Q:Option Int→Hp→Prop),Inv X pins σ H s→t σ H Q →
  wpAny (model X.prog X.w) X.A (evalPart e X.env) (fun u s' => ∃ o H',Inv X pins σ H' s'∧IsPart u o∧Q o H') X.xe s
def zafe:TO:=fun _ H Q=>Q none H
def zakq (t:TE):TO:=fun σ H Q=>t σ H fun x H1 => ∃ i,x = .int i∧Q (some i) H1
theorem qvj {ns:List Int} : ∀ {us:List Value},Vals (ns.map V.int) us→IntsAre us ns:=by
 induction ns with
 | nil=>intro us r;rw [List.map_nil] at r;cases r;exact .nil
 | cons n ns ih =>
  intro us r
  rw [List.map_cons] at r
  cases r with
  | cons r1 r2 =>
   obtain ⟨t,e⟩:=r1
   subst e
   exact .cons n t (ih r2)
section
variable {X:Cx}{e:Expr}{te:TE}{lo hi:Option Expr}{tl th:TO}{pos p2:Pos}
theorem zafo:PO X none zafe:=by
 intro pins s σ H Q I h
 rw [evalPart_none]
 exact wpAny_pure ⟨none,H,I,.none,h⟩
theorem zael (h:PE X e te):PO X (some e) (zakq te):=by
 intro pins s σ H Q I hw
 rw [evalPart_some]
 refine thn (h pins s σ H _ I hw) fun u s1 xx54=>?_
 obtain ⟨x,H1,I1,r1,q1⟩:=xx54
 obtain ⟨i,rfl,q⟩:=q1
 obtain ⟨t,rfl⟩:=r1
 exact ⟨some i,H1,I1,.int i t,q⟩
def SlR (X:Cx) (r:V→Option Int→Option Int→Hp→VK→Prop):Prop :=
 ∀ (pins:List (Addr×Obj)) (s:Shared) (σ:St) (H:Hp) (x:V) (v vl vu:Value) (lo hi:Option Int) (sl:Addr) (Q:VK),Inv X pins σ H s→RelV x v→s.heap.IsSliceOf sl vl vu .none→IsPart vl lo→IsPart vu hi→r x lo hi H Q →
  ∃ T id,typeLookup (.type T) "__getitem__" = pure (some (.builtin id))∧s.TypeIs v T∧wpAny (model X.prog X.w) X.A (getItem v (.ref sl)) (EP X pins σ Q) X.xe s
def tSl (r:V→Option Int→Option Int→Hp→VK→Prop) (te:TE) (tl th:TO):TE:=fun σ H Q=>te σ H fun x H1=>tl σ H1 fun l H2=>th σ H2 fun u H3=>r x l u H3 Q
theorem zacl {r:V→Option Int→Option Int→Hp→VK→Prop} (hr:SlR X r) (he:PE X e te) (hl:PO X lo tl) (hu:PO X hi th):PE X (.Subscript e (.Slice lo hi none p2) pos) (tSl r te tl th):=by
 intro pins s σ H Q I h
 refine Subscript_ (thn (he pins s σ H _ I h) fun v s1 xx57=>?_)
 obtain ⟨x,H1,I1,r1,q1⟩:=xx57
 refine wpAny_Slice (thn (hl pins s1 σ H1 _ I1 q1) fun vl s2 ⟨l,H2,I2,pl,q2⟩=>thn (hu pins s2 σ H2 _ I2 q2) fun vu s3 xx55=>?_)
 obtain ⟨u,H3,I3,pu,q3⟩:=xx55
 rw [evalPart_none]
 refine wpAny_pure ?_
 have I4:Inv X pins σ H3 { s3 with heap:=s3.heap.push { cls :=.type "slice",data :=.fields #[vl,vu,.none] } }:=I3.kept (t':=s3.toks) fun b ob q=>Heap.get?_push_of_some _ q
 obtain ⟨T,id,hT,ht,hg⟩:=hr pins { s3 with heap:=s3.heap.push { cls :=.type "slice",data :=.fields #[vl,vu,.none] } } σ H3 x v vl vu l u s3.heap.objs.size Q I4 r1 (Heap.IsSliceOf.new ..) pl pu q3
 show wpAny (model X.prog X.w) X.A (subscriptTail e (.Slice lo hi none p2) v (.ref s3.heap.objs.size)) (EP X pins σ Q) X.xe { s3 with heap:=s3.heap.push { cls :=.type "slice",data :=.fields #[vl,vu,.none] } }
 exact tail_any (ops:=[.ref s3.heap.objs.size,v]) ht hT hg (by with_unfolding_all rfl)
def qyc (xs:List V) (lo hi:Option Int):List V:=(xs.drop (HT.sIx xs.length 0 lo)).take (HT.sIx xs.length xs.length hi-HT.sIx xs.length 0 lo)
theorem qtw (xs:List V) (lo hi:Option Int):(qyc xs lo hi).length≤xs.length:=by
 unfold qyc
 rw [List.length_take,List.length_drop]
 omega
def zald (K:PySem.W.Frag):R2:=fun x y H Q => ∃ a b xs ys,x = .ref a∧y = .ref b∧SqT K H a xs∧SqT K H b ys∧xs≠[]∧xs.length+ys.length≤sizeLine ∧
 (ys=[]→Q (.ref a) H)∧(ys≠[] → ∀ p,H p=none→Q (.ref p) (upd H p (.tup (xs++ys))))
theorem Vals.nil_iff {xs:List V}{us:List Value} (r:Vals xs us):us=[]↔xs=[]:=by
 cases r with
 | nil=>simp
 | cons _ _=>simp
theorem zafb:OpR X (binaryOp .Add) (zald X.K):=by
 intro pins s σ H x y v u Q I rx ry h
 obtain ⟨a,b,xs,ys,rfl,rfl,ha,hb,hx,hz,q1,q2⟩:=h
 cases rx
 cases ry
 obtain ⟨its,r1,p1,_⟩:=I.tuple ha
 obtain ⟨its2,r2,p2,_⟩:=I.tuple hb
 refine HT.cat_tup p1 p2 (fun z=>hx (r1.nil_iff.mp z)) (fun z=>⟨.ref a,H,I,rfl,q1 (r2.nil_iff.mp z)⟩) (fun z=>?_) (by rw [← r1.length,← r2.length];exact hz)
 refine ⟨.ref s.heap.objs.size,_,I.laid (t':=s.toks) (o :=.tup (xs++ys)) (fun b ob q=>Heap.get?_push_of_some _ q) (Nat.le_refl _) ?_,rfl,q2 (fun w=>z (r2.nil_iff.mpr w)) _ (I.hok.fresh (Nat.le_refl _))⟩
 exact ⟨by rw [List.length_append];exact hz,_,r1.append r2,IsTup.new _ _⟩
end
end L2
namespace L2
open PySem PySem.Spec PyProof.Rows
def ixN (n:Nat) (i:Int):Option Nat:=if 0≤i then (if i<n then some i.toNat else none) else if -(n:Int)≤i then some (i+n).toNat else none
def atI {α:Type} (xs:List α) (i:Int):Option α:=(ixN xs.length i).bind fun j=>xs[j]?
theorem qxt {n:Nat}{i:Int}{j:Nat} (h:ixN n i=some j):seqIndex? i n=some j∧j<n ∧ -(n:Int)≤i∧i<n:=by
 unfold ixN at h
 by_cases h0:0≤i
 ·rw [if_pos h0] at h
  by_cases h1:i<n
  ·rw [if_pos h1] at h
   have e:i.toNat=j:=Option.some.inj h
   exact ⟨by rw [seqIndex_of h0 h1,e],by omega,by omega,h1⟩
  ·rw [if_neg h1] at h;cases h
 ·rw [if_neg h0] at h
  by_cases h1 : -(n:Int)≤i
  ·rw [if_pos h1] at h
   have e:(i+n).toNat=j:=Option.some.inj h
   exact ⟨by rw [seqIndex_neg (by omega) h1,e],by omega,h1,by omega⟩
  ·rw [if_neg h1] at h;cases h
theorem qso {α:Type}{xs:List α}{i:Int}{v:α} (h:atI xs i=some v) : ∃ j,seqIndex? i xs.length=some j∧xs[j]?=some v∧j<xs.length ∧ -(xs.length:Int)≤i∧i<xs.length:=by
 unfold atI at h
 cases e:ixN xs.length i with
 | none=>rw [e] at h;cases h
 | some j =>
  rw [e] at h
  obtain ⟨h1,h2,h3,h4⟩:=qxt e
  exact ⟨j,h1,h,h2,h3,h4⟩
theorem qM {α:Type}{xs:List α}{j:Nat}{v:α} (h:xs[j]?=some v):atI xs (j:Int)=some v:=by
 have hj:j<xs.length:=(List.getElem?_eq_some_iff.mp h).1
 have e:ixN xs.length (j:Int)=some j:=by
  unfold ixN
  rw [if_pos (by omega),if_pos (by omega)];simp
 unfold atI;rw [e];exact h
theorem atI_last {α:Type} (xs:List α) (v:α):atI (xs++[v]) (-1)=some v:=by
 have hl:(xs++[v]).length=xs.length+1:=by simp
 have e:ixN (xs++[v]).length (-1)=some xs.length:=by
  unfold ixN
  rw [hl,if_neg (by decide),if_pos (by omega)]
  congr 1
  omega
 unfold atI
 rw [e]
 show (xs++[v])[xs.length]?=some v
 simp
def qsh (b:Expr):Prop := ∀ o i,subscripted b false o i=operate [o,i] (getItem o i)
def IxR (X:Cx) (r:R2):Prop :=
 ∀ (value slice:Expr) (pins:List (Addr×Obj)) (s:Shared) (σ:St) (H:Hp) (x y:V) (v u:Value) (Q:VK),Inv X pins σ H s→RelV x v→RelV y u→r x y H Q →
  subscripted slice false v u=operate [v,u] (getItem v u)→wpAny (model X.prog X.w) X.A (subscriptTail value slice v u) (EP X pins σ Q) X.xe s
def MtR (X:Cx) (id:String) (r:V→List V→Hp→VK→Prop):Prop :=
 ∀ (pins:List (Addr×Obj)) (s:Shared) (σ:St) (H:Hp) (x:V) (xs:List V) (v:Value) (us:List Value) (Q:VK),Inv X pins σ H s→RelV x v→Vals xs us→r x xs H Q →
  wpAny (model X.prog X.w) X.A (call (.builtin id) (v::us)) (EP X pins σ Q) X.xe s
section
variable {X:Cx}{a b:Expr}{ta tb:TE}{pos:Pos}
theorem IxR.or {r r':R2} (h:IxR X r) (h':IxR X r'):IxR X (fun x y H Q=>r x y H Q∨r' x y H Q):=by
 intro value slice pins s σ H x y v u Q I rx ry q hs
 rcases q with q|q
 ·exact h value slice pins s σ H x y v u Q I rx ry q hs
 ·exact h' value slice pins s σ H x y v u Q I rx ry q hs
theorem qtl {r:R2} (hr:IxR X r) (ha:PE X a ta) (hb:PE X b tb) (hs:qsh b):PE X (.Subscript a b pos) (tOp r ta tb):=by
 intro pins s σ H Q I h
 exact Subscript_ (binT ha hb I h fun v u s2 x y H2 I2 rx ry q=>hr a b pins s2 σ H2 x y v u Q I2 rx ry q (hs _ _))
def rIxL (K:PySem.W.Frag):R2:=fun x y H Q => ∃ p xs i v,x = .ref p∧y = .int i∧SqL K H p xs∧atI xs i=some v∧Q v H
def rIxT (K:PySem.W.Frag):R2:=fun x y H Q => ∃ p xs i v,x = .ref p∧y = .int i∧SqT K H p xs∧atI xs i=some v∧Q v H
def rIxS:R2:=fun x y H Q => ∃ z i c,x = .str z∧y = .int i∧z.length≤sizeLine∧atI z.cps.toList i=some c∧Q (.str ⟨#[c]⟩) H
theorem qnz:IxR X (rIxL X.K):=by
 intro value slice pins s σ H x y v u Q I rx ry h hs
 obtain ⟨p,xs,i,z,rfl,rfl,hq,he,q⟩:=h
 cases rx
 obtain ⟨t,rfl⟩:=ry
 obtain ⟨its,r,pl,hz⟩:=I.list hq
 obtain ⟨j,h1,h2,h3,h4,h5⟩:=qso he
 obtain ⟨w,ew,rw'⟩:=r.get h2
 have hl:=r.length
 have hn:=qkh
 have fin:EP X pins σ Q w s:=⟨z,H,I,rw',q⟩
 by_cases h0:0≤i
 ·have hj:i.toNat=j:=by
   rw [seqIndex_of h0 h5] at h1
   exact Option.some.inj h1
  exact item_listR pl.isList h0 (by omega) (by rw [hj];simpa using ew) fin hs
 ·have hj:(i+(its.toArray.size:Int)).toNat=j:=by
   rw [seqIndex_neg (by omega) h4] at h1
   rw [List.size_toArray,← hl]
   exact Option.some.inj h1
  exact subscriptTail_builtinR (x:=w) pl.isList.typeIs slot_list_getitem.lookup
   (wpAny_getItem_list_neg (Q:=fun r s'=>r=w∧EP X pins σ Q r s') pl.isList (by omega) (by rw [List.size_toArray] <;> omega) (by omega) (by rw [hj];simpa using ew) ⟨rfl,fin⟩) hs
theorem qxa:IxR X (rIxT X.K):=by
 intro value slice pins s σ H x y v u Q I rx ry h hs
 obtain ⟨p,xs,i,z,rfl,rfl,hq,he,q⟩:=h
 cases rx
 obtain ⟨t,rfl⟩:=ry
 obtain ⟨its,r,pl,hz⟩:=I.tuple hq
 obtain ⟨j,h1,h2,h3,h4,h5⟩:=qso he
 obtain ⟨w,ew,rw'⟩:=r.get h2
 have hl:=r.length
 have hn:=qkh
 have fin:EP X pins σ Q w s:=⟨z,H,I,rw',q⟩
 exact subscriptTail_builtinR (x:=w) pl.typeIs slot_tuple_getitem.lookup
  (getItem_tuple (j:=j) (Q:=fun r s'=>r=w∧EP X pins σ Q r s') pl (by omega) (by omega) (by rw [List.size_toArray,← hl];exact h1) (by simpa using ew) ⟨rfl,fin⟩) hs
theorem zaiw:IxR X rIxS:=by
 intro value slice pins s σ H x y v u Q I rx ry h hs
 obtain ⟨z,i,c,rfl,rfl,hz,he,q⟩:=h
 obtain ⟨t,rfl⟩:=rx
 obtain ⟨t',rfl⟩:=ry
 obtain ⟨j,h1,h2,h3,h4,h5⟩:=qso he
 have hl:z.cps.toList.length=z.length:=by simp [Str.length]
 rw [hl] at h1 h4 h5
 have hn:=qkh
 exact tail_any (typeIs_str s z t) slot_str_getitem.lookup (getItem_str (c:=c) (by
  have e1:decide (i < -(2^63:Int))=false:=decide_eq_false (by omega)
  have e2:decide (i≥2^63)=false:=decide_eq_false (by omega)
  rw [e1,e2,Bool.or_false]) (by rw [h1];simpa using h2) ⟨.str ⟨#[c]⟩,H,I.tok _,⟨_,rfl⟩,q⟩) hs
def rIx (K:PySem.W.Frag):R2:=fun x y H Q=>rIxL K x y H Q∨rIxT K x y H Q∨rIxS x y H Q
theorem zajg:IxR X (rIx X.K):=qnz.or (qxa.or zaiw)
theorem qvt (its:List Value) (n j:Nat) (u:Value):Obj.mapSeq (·.setIfInBounds j u) { cls :=.type "list",data :=.seq its.toArray n }={ cls :=.type "list",data :=.seq (its.set j u).toArray n }:=by
 simp [Obj.mapSeq]
theorem Inv.lst {pins:List (Addr×Obj)}{σ:St}{H:Hp}{s:Shared}{p:Addr}{xs:List V} (I:Inv X pins σ H s) (h:H p=some (.lst xs)) :
 ∃ (its:List Value) (n:Nat),Vals xs its∧s.heap.get? p=some { cls :=.type "list",data :=.seq its.toArray n }∧xs.length≤sizeLine:=by
  obtain ⟨z,its,n,r,e⟩:=I.hok p _ h
  exact ⟨its,n,r,e,z⟩
theorem Inv.lstUpd {pins:List (Addr×Obj)}{σ:St}{H:Hp}{s:Shared}{p:Addr}{xs ys:List V}{its its':List Value}{n n':Nat}{f:Obj→Obj} (I:Inv X pins σ H s) (h:H p=some (.lst xs))
 (ho:s.heap.get? p=some { cls :=.type "list",data :=.seq its.toArray n }) (hf:f { cls :=.type "list",data :=.seq its.toArray n }={ cls :=.type "list",data :=.seq its'.toArray n' }) (r:Vals ys its') (hz:ys.length≤sizeLine) (t:Nat) :
  Inv X pins σ (upd H p (.lst ys)) { s with heap:=s.heap.update p f,toks:=t }:=by
  have e:(s.heap.update p f).get? p=some { cls :=.type "list",data :=.seq its'.toArray n' }:=by
   rw [Heap.get?_update_self f ho (by rw [hf] <;> rfl),hf]
  refine I.write (x:=p) (e:=p) (by rw [h];trivial) (.inl rfl) (fun b u hb q=>(Heap.get?_update_other _ _ (Ne.symm hb)).trans q) ⟨_,e⟩ ?_
  exact ⟨hz,its',n',r,e⟩
def zala:V→V→V→Hp→(Hp→Prop)→Prop:=fun o i v H Q => ∃ p xs k j,o = .ref p∧i = .int k∧H p=some (.lst xs)∧ixN xs.length k=some j∧Q (upd H p (.lst (xs.set j v)))
theorem qug:PSet X zala:=by
 intro pins s σ H o i v ov iv u Q I ro ri rv h
 obtain ⟨p,xs,k,j,rfl,rfl,hp,hj,q⟩:=h
 cases ro
 obtain ⟨t,rfl⟩:=ri
 obtain ⟨its,n,r,ho,hz⟩:=I.lst hp
 obtain ⟨h1,h2,h3,h4⟩:=qxt hj
 have hl:=r.length
 have hn:=qkh
 have I':Inv X pins σ (upd H p (.lst (xs.set j v))) { s with heap:=s.heap.update p (Obj.mapSeq (·.setIfInBounds j u)) } :=
  I.lstUpd hp ho (qvt its n j u) (r.set rv j) (by rw [List.length_set];exact hz) s.toks
 by_cases h0:0≤k
 ·have hk:k.toNat=j:=by
   rw [seqIndex_of h0 h4] at h1
   exact Option.some.inj h1
  exact PySem.W.ki_setAt ho h0 (by omega) (by rw [List.size_toArray,← hl];exact h4) (by rw [hk];exact ⟨_,I',q⟩)
 ·have hk:(k+(its.toArray.size:Int)).toNat=j:=by
   rw [seqIndex_neg (by omega) h3] at h1
   rw [List.size_toArray,← hl]
   exact Option.some.inj h1
  exact PySem.W.ki_setBack ho (by omega) (by rw [List.size_toArray,← hl];exact h3) (by omega) (by rw [hk];exact ⟨_,I',q⟩)
theorem qrq (lo hi:Option Int) (n:Nat):(sliceBounds lo hi none n).1=((HT.sIx n 0 lo:Nat):Int)∧(sliceBounds lo hi none n).2.1=((HT.sIx n n hi:Nat):Int)∧(sliceBounds lo hi none n).2.2=1:=by
 refine ⟨?_,?_,rfl⟩
 ·cases lo with
  | none=>simp [sliceBounds,HT.sIx]
  | some i =>
   simp only [sliceBounds,HT.sIx,Option.getD_none,show (1:Int)>0 by decide,if_true]
   by_cases h:i<0
   ·simp only [h,if_true] <;> omega
   ·simp only [h,if_false] <;> omega
 ·cases hi with
  | none=>simp [sliceBounds,HT.sIx]
  | some i =>
   simp only [sliceBounds,HT.sIx,Option.getD_none,show (1:Int)>0 by decide,if_true]
   by_cases h:i<0
   ·simp only [h,if_true] <;> omega
   ·simp only [h,if_false] <;> omega
theorem qpr (its:List Value) (lo hi:Option Int):slicePick its.toArray lo hi none=((its.drop (HT.sIx its.length 0 lo)).take (HT.sIx its.length its.length hi-HT.sIx its.length 0 lo)).toArray:=by
 obtain ⟨h1,h2,h3⟩:=qrq lo hi its.toArray.size
 unfold slicePick
 rw [h1,h2,h3]
 simp only [sliceRange_one,pick_run,List.size_toArray] <;> rfl
def rSlL (K:PySem.W.Frag):V→Option Int→Option Int→Hp→VK→Prop:=fun x lo hi H Q => ∃ a xs,x = .ref a∧SqL K H a xs ∧ ∀ p,H p=none→Q (.ref p) (upd H p (.lst (qyc xs lo hi)))
theorem zafa:SlR X (rSlL X.K):=by
 intro pins s σ H x v vl vu lo hi sl Q I rx hs pl pu h
 obtain ⟨a,xs,rfl,hx,q⟩:=h
 cases rx
 obtain ⟨its,r,ht,hz⟩:=I.list hx
 have hlen:=r.length
 refine ⟨"list",_,slot_list_getitem.lookup,ht.isList.typeIs,?_⟩
 refine wpAny_getItem_list_slice ht.isList hs pl pu .none (by simp) ?_ (by rw [List.size_toArray] <;> omega)
 rw [qpr,← hlen]
 refine ⟨.ref s.heap.objs.size,_,I.laid (t':=s.toks) (o :=.lst (qyc xs lo hi)) (fun b ob q=>Heap.get?_push_of_some _ q) (Nat.le_refl _) ?_,rfl,q _ (I.hok.fresh (Nat.le_refl _))⟩
 exact ⟨Nat.le_trans (qtw xs lo hi) hz,_,0,(r.drop (HT.sIx xs.length 0 lo)).take (HT.sIx xs.length xs.length hi-HT.sIx xs.length 0 lo),Heap.get?_push_size _ rfl⟩
def qmf:V→Bool
 | .non=>true
 | .bl _=>true
 | .int _=>true
 | .str _=>true
 | _=>false
def eqV:V→V→Bool
 | .non,.non=>true
 | .bl a,.bl b=>a==b
 | .bl a,.int b=>(if a then 1 else 0)==b
 | .int a,.bl b=>a==(if b then 1 else 0)
 | .int a,.int b=>a==b
 | .str a,.str b=>a==b
 | _,_=>false
theorem zajk {A:Around}{s:Shared}{y x:V}{u v:Value} (ry:RelV y u) (rx:RelV x v) (fy:qmf y=true) (fx:qmf x=true):SeqAt.EqAt A s u v (eqV y x):=by
 cases y with
 | non =>
  cases ry
  cases x with
  | non=>cases rx;exact SeqAt.EqAt.same _
  | bl b=>cases rx;exact SeqAt.EqAt.none_bool b
  | int b=>obtain ⟨t,rfl⟩:=rx;exact SeqAt.EqAt.none_int b t
  | str b=>obtain ⟨t,rfl⟩:=rx;exact SeqAt.EqAt.none_str b t
  | _=>exact absurd (show false=true from fx) Bool.false_ne_true
 | bl a =>
  cases ry
  cases x with
  | non=>cases rx;exact SeqAt.EqAt.bool_none a
  | bl b=>cases rx;exact SeqAt.EqAt.bool_bool a b
  | int b=>obtain ⟨t,rfl⟩:=rx;exact SeqAt.EqAt.bool_int a b t
  | str b=>obtain ⟨t,rfl⟩:=rx;exact SeqAt.EqAt.bool_str a b t
  | _=>exact absurd (show false=true from fx) Bool.false_ne_true
 | int a =>
  obtain ⟨t',rfl⟩:=ry
  cases x with
  | non=>cases rx;exact SeqAt.EqAt.int_none a t'
  | bl b=>cases rx;exact SeqAt.EqAt.int_bool a t' b
  | int b=>obtain ⟨t,rfl⟩:=rx;exact SeqAt.EqAt.int_int a t' b t
  | str b=>obtain ⟨t,rfl⟩:=rx;exact SeqAt.EqAt.int_str a t' b t
  | _=>exact absurd (show false=true from fx) Bool.false_ne_true
 | str a =>
  obtain ⟨t',rfl⟩:=ry
  cases x with
  | non=>cases rx;exact SeqAt.EqAt.str_none a t'
  | bl b=>cases rx;exact SeqAt.EqAt.str_bool a t' b
  | int b=>obtain ⟨t,rfl⟩:=rx;exact SeqAt.EqAt.str_int a t' b t
  | str b=>obtain ⟨t,rfl⟩:=rx;exact SeqAt.EqAt.str_str a t' b t
  | _=>exact absurd (show false=true from fx) Bool.false_ne_true
 | _=>exact absurd (show false=true from fy) Bool.false_ne_true
def eqU (x:V) (u:Value):Bool:=match u with
 | .none=>eqV .non x
 | .bool b=>eqV (.bl b) x
 | .int i _=>eqV (.int i) x
 | .str z _=>eqV (.str z) x
 | _=>false
theorem zada {x y:V}{u:Value} (r:RelV y u) (f:qmf y=true):eqU x u=eqV y x:=by
 cases y with
 | non=>cases r;rfl
 | bl b=>cases r;rfl
 | int i=>obtain ⟨t,rfl⟩:=r;rfl
 | str z=>obtain ⟨t,rfl⟩:=r;rfl
 | _=>exact absurd (show false=true from f) Bool.false_ne_true
theorem qsq {x:V} : ∀ {xs:List V}{us:List Value},Vals xs us→xs.all qmf=true→us.any (eqU x)=xs.any fun y=>eqV y x
 | _,_,.nil,_=>rfl
 | y::xs,u::us,.cons r t,f=>by
  rw [List.all_cons,Bool.and_eq_true] at f
  rw [List.any_cons,List.any_cons,zada r f.1,qsq t f.2]
theorem qok {A:Around}{s:Shared}{x:V}{v:Value} (rx:RelV x v) (fx:qmf x=true) : ∀ {xs:List V}{us:List Value},Vals xs us→xs.all qmf=true → ∀ u ∈ us,SeqAt.EqAt A s u v (eqU x u)
 | _,_,.nil,_=>fun u hu=>by cases hu
 | y::xs,u::us,.cons r t,f=>fun u' hu=>by
  rw [List.all_cons,Bool.and_eq_true] at f
  rcases List.mem_cons.mp hu with rfl|hu
  ·rw [zada r f.1];exact zajk r rx f.1 fx
  ·exact qok rx fx t f.2 u' hu
def inV (x:V) (xs:List V):Bool:=xs.any fun y=>eqV y x
def rIn (K:PySem.W.Frag) (neg:Bool):R2:=fun x y H Q => ∃ p xs,y = .ref p∧(SqL K H p xs∨SqT K H p xs)∧qmf x=true∧xs.all qmf=true∧Q (.bl (if neg then !inV x xs else inV x xs)) H
theorem qro:OpR X (compareOp .NotIn) (rIn X.K true):=by
 intro pins s σ H x y v u Q I rx ry h
 obtain ⟨p,xs,rfl,hq,fx,fs,q⟩:=h
 cases ry
 rcases hq with hq|hq
 ·obtain ⟨its,r,pl,hz⟩:=I.list hq
  refine SeqAt.notIn_listAt (eqU x) pl.isList (fun w hw=>qok rx fx r fs w (by simpa using hw)) ⟨.bl _,H,I,rfl,?_⟩
  rw [show its.toArray.any (eqU x)=its.any (eqU x) by simp,qsq r fs]
  exact q
 ·obtain ⟨its,r,pl,hz⟩:=I.tuple hq
  refine SeqAt.notIn_tupleAt (eqU x) pl (fun w hw=>qok rx fx r fs w (by simpa using hw)) ⟨.bl _,H,I,rfl,?_⟩
  rw [show its.toArray.any (eqU x)=its.any (eqU x) by simp,qsq r fs]
  exact q
theorem qgh:CallR X (.builtin "len") (fun xs H Q => ∃ p ys,xs=[.ref p]∧(SqL X.K H p ys∨SqT X.K H p ys)∧Q (.int ys.length) H):=by
 intro pins s σ H xs us Q I r h
 obtain ⟨p,ys,rfl,hq,q⟩:=h
 obtain ⟨u,rfl,rx⟩:=qme r
 cases rx
 have hn:=qkh
 rcases hq with hq|hq
 ·obtain ⟨its,r',pl,hz⟩:=I.list hq
  have hlen:=r'.length
  exact Calls.call_len_list pl.isList (by simp only [List.size_toArray] <;> omega) ⟨.int ys.length,H,I.tok _,⟨s.toks+1,by rw [List.size_toArray,hlen]⟩,q⟩
 ·obtain ⟨its,r',pl,hz⟩:=I.tuple hq
  have hlen:=r'.length
  exact len_tuple pl (by simp only [List.size_toArray] <;> omega) ⟨.int ys.length,H,I.tok _,⟨s.toks+1,by rw [List.size_toArray,hlen]⟩,q⟩
theorem qrr:CallR X (.builtin "len") (fun xs H Q => ∃ z,xs=[.str z]∧z.length≤sizeLine∧Q (.int z.length) H):=by
 intro pins s σ H xs us Q I r h
 obtain ⟨z,rfl,hz,q⟩:=h
 obtain ⟨u,rfl,t,rfl⟩:=qme r
 have hn:=qkh
 exact len_str (by omega) ⟨.int z.length,H,I.tok _,⟨_,rfl⟩,q⟩
theorem CallR.or {f:Value}{r r':List V→Hp→VK→Prop} (h:CallR X f r) (h':CallR X f r'):CallR X f (fun xs H Q=>r xs H Q∨r' xs H Q):=by
 intro pins s σ H xs us Q I rs q
 rcases q with q|q
 ·exact h pins s σ H xs us Q I rs q
 ·exact h' pins s σ H xs us Q I rs q
theorem qrt:CallR X (.type "list") (fun xs H Q => ∃ p ys,xs=[.ref p]∧(SqL X.K H p ys∨SqT X.K H p ys) ∧ ∀ l,H l=none→Q (.ref l) (upd H l (.lst ys))):=by
 intro pins s σ H xs us Q I r h
 obtain ⟨p,ys,rfl,hq,q⟩:=h
 obtain ⟨u,rfl,rx⟩:=qme r
 cases rx
 have fin : ∀ (its:List Value),Vals ys its→ys.length≤sizeLine → ∀ (h':Heap) (c':Nat),(∀ b o',s.heap.get? b=some o'→h'.get? b=some o') →
  h'.get? s.heap.objs.size=some { cls :=.type "list",dict:=none,data :=.seq its.toArray c',slots := #[] }→EP X pins σ Q (.ref s.heap.objs.size) { s with heap:=h' }:=fun its r' hz h' c' kp e =>
  ⟨.ref s.heap.objs.size,_,I.laid (t':=s.toks) kp (Nat.le_refl _) (show ObjOk X.prog X.w _ h' _ (.lst ys) from ⟨hz,its,c',r',e⟩),rfl,q _ (I.hok.fresh (Nat.le_refl _))⟩
 rcases hq with hq|hq
 ·obtain ⟨its,r',pl,hz⟩:=I.list hq
  have hlen:=r'.length
  obtain ⟨o,ho,hc,n,hd⟩:=pl.isList
  exact call_list_seq p (.inl rfl) ho hc hd (fun h' c' kp e=>fin its r' hz h' c' kp e) (by simp only [List.size_toArray] <;> omega)
 ·obtain ⟨its,r',pl,hz⟩:=I.tuple hq
  have hlen:=r'.length
  obtain ⟨o,ho,hc,n,hd⟩:=pl
  exact call_list_seq p (.inr rfl) ho hc hd (fun h' c' kp e=>fin its r' hz h' c' kp e) (by simp only [List.size_toArray] <;> omega)
theorem qpo:CallR X (.type "tuple") (fun xs H Q => ∃ p ys,xs=[.ref p]∧((SqL X.K H p ys ∧ ∀ l,H l=none→Q (.ref l) (upd H l (.tup ys)))∨(SqT X.K H p ys∧Q (.ref p) H))):=by
 intro pins s σ H xs us Q I r h
 obtain ⟨p,ys,rfl,h⟩:=h
 obtain ⟨u,rfl,rx⟩:=qme r
 cases rx
 rcases h with ⟨hq,q⟩|⟨hq,q⟩
 ·obtain ⟨its,r',pl,hz⟩:=I.list hq
  have hlen:=r'.length
  refine call_tuple_list pl.isList (fun h' kp=>?_) (by simp only [List.size_toArray] <;> omega)
  have I1:Inv X pins σ H { s with heap:=h' }:=I.kept (t':=s.toks) kp
  have I2:Inv X pins σ (upd H h'.objs.size (.tup ys)) { s with heap:=h'.push { cls :=.type "tuple",data :=.seq its.toArray } } :=
   I1.laid (t':=s.toks) (fun b o e=>Heap.get?_push_of_some _ e) (Nat.le_refl _) (show ObjOk X.prog X.w _ _ _ (.tup ys) from ⟨hz,its,r',IsTup.new _ _⟩)
  exact ⟨.ref h'.objs.size,_,I2,rfl,q _ (I1.hok.fresh (Nat.le_refl _))⟩
 ·obtain ⟨its,r',pl,hz⟩:=I.tuple hq
  exact call_tuple_same pl ⟨.ref p,H,I,rfl,q⟩
def tyV (K:PySem.W.Frag) (T:String) (x:V) (H:Hp):Prop:=match x with
 | .str _=>T = "str"
 | .int _=>T = "int"
 | .ref p=>(T = "list" ∧ ∃ xs,SqL K H p xs)∨(T = "tuple" ∧ ∃ o,K.lookup p=some o∧o.cls = .type "tuple" ∧ o.dict=none) ∨
  (T = "dict" ∧ ((∃ kvs,H p=some (.dK kvs)) ∨ ∃ kvs,H p=some (.dT kvs)))∨(T = "set" ∧ ∃ S n,H p=some (.set S n))
 | _=>False
theorem zahx {pins:List (Addr×Obj)}{σ:St}{H:Hp}{s:Shared}{T:String}{x:V}{v:Value} (I:Inv X pins σ H s) (r:RelV x v) (ty:tyV X.K T x H) :
 s.TypeIs v T ∧ ∀ a,v = .ref a → ∃ ob,s.heap.get? a=some ob∧ob.dict=none:=by
  cases x with
  | str z =>
   obtain ⟨t,rfl⟩:=r
   cases (show T = "str" from ty)
   exact ⟨typeIs_str s z t,fun _ e=>nomatch e⟩
  | int i =>
   obtain ⟨t,rfl⟩:=r
   cases (show T = "int" from ty)
   exact ⟨typeIs_int s i t,fun _ e=>nomatch e⟩
  | ref p =>
   cases r
   rcases ty with ⟨rfl,xs,hq⟩|⟨rfl,o,hk,hc,hd⟩|⟨rfl,hk⟩|⟨rfl,S,n,hk⟩
   ·obtain ⟨its,_,pl,_⟩:=I.list hq
    refine ⟨pl.isList.typeIs,fun a e=>?_⟩
    cases e
    obtain ⟨o,n,e,c,hd,_⟩:=pl
    exact ⟨o,e,hd⟩
   ·refine ⟨⟨o,I.kIn p o hk,hc⟩,fun a e=>?_⟩
    cases e
    exact ⟨o,I.kIn _ o hk,hd⟩
   ·have z : ∃ o,s.heap.get? p=some o∧o.ExactDict:=by
     rcases hk with ⟨kvs,hk⟩|⟨kvs,hk⟩
     ·obtain ⟨_,_,_,_,o,_,_,e,ex,_⟩:=I.hok p _ hk
      exact ⟨o,e,ex⟩
     ·obtain ⟨_,_,_,_,o,_,_,e,ex,_⟩:=I.hok p _ hk
      exact ⟨o,e,ex⟩
    obtain ⟨o,e,ex⟩:=z
    refine ⟨⟨o,e,ex.1⟩,fun a e2=>?_⟩
    cases e2
    exact ⟨o,e,ex.2.1⟩
   ·obtain ⟨o,_,_,_,e,ex,_⟩:=I.hok p _ hk
    refine ⟨⟨o,e,ex.1⟩,fun a e2=>?_⟩
    cases e2
    exact ⟨o,e,ex.2.1⟩
  | _=>exact False.elim ty
def tBM (K:PySem.W.Frag) (T:String) (r:V→List V→Hp→VK→Prop) (to:TE) (t:TA):TE:=fun σ H Q=>to σ H fun x H1=>tyV K T x H1∧t σ H1 fun xs H2=>r x xs H2 Q
variable {o e:Expr}{es:List Expr}{to:TE}{t:TA}{name:Str}{apos cpos:Pos}{T id:String}{r:V→List V→Hp→VK→Prop}
theorem zaag (pa:PlainAttrs T) (slot:Slot T name id) (hty:typeOf (.builtin id)=pure (.type "method_descriptor")) (hm:MtR X id r) (ho:PE X o to) (ha:PA X (e::es) t)
 (hbase:attributeBase o name X.env (eval o X.env)=eval o X.env:=by rfl)
  (hfew:((backTo cpos (starEach (e::es) X.env)).all (fun x => !x.1)&&(backToKw cpos (keywordEach [] X.env)).all (fun x=>x.1.isSome)
   && decide ((e::es).length+([]:List Keyword).length+(if ([]:List Keyword).isEmpty then 0 else 1)<30))=true:=by rfl)
  (hline:(apos.endLine==cpos.line)=true:=by rfl) (hs:starEach (e::es) X.env=(false,eval e X.env)::starEach es X.env:=by rfl) (hplain:(backTo cpos (starEach es X.env)).any (·.1)=false:=by rfl) :
  PE X (.Call (.Attribute o name apos) (e::es) [] cpos) (tBM X.K T r to t):=by
  intro pins s σ H Q I h
  refine wpAny_Call_method_late hbase hfew hline rfl (thn (ho pins s σ H _ I h) fun v s1 xx59=>?_)
  obtain ⟨x,H1,I1,r1,ty,q1⟩:=xx59
  obtain ⟨h1,h2⟩:=zahx I1 r1 ty
  refine ⟨T,id,pa,slot,hty,h1,h2,?_⟩
  have hA:=ha cpos pins s1 σ H1 _ I1 q1
  rw [hs] at hA ⊢
  refine Calls.callWith_builtin (by show (false||(backTo cpos (starEach es X.env)).any (·.1))=false;rw [hplain] <;> rfl) (Calls.evalArgs_plain ?_)
  exact thn hA fun us s2 xx58=>by obtain ⟨vs,H2,I2,r2,q2⟩:=xx58;exact hm pins s2 σ H2 x vs v us Q I2 r1 r2 q2
/- xs.append(e),list.index on a module's tuple .. are MtR facts of 06m -/
end
end L2
namespace L2
open PySem PySem.Spec PyProof.Rows
def MtM (X:Cx) (id:String) (r:V→List V→Hp→VK→Prop):Prop :=
 ∀ (pins:List (Addr×Obj)) (s:Shared) (σ:St) (H:Hp) (x:V) (xs:List V) (v:Value) (us:List Value) (Q:VK),Inv X pins σ H s→RelV x v→Vals xs us→r x xs H Q →
  wpAny (model X.prog X.w) X.A (call (.builtin id) (v::us)) (EP X pins σ Q) X.xe s
theorem Vals.one : ∀ {x:V}{us:List Value},Vals [x] us → ∃ u,us=[u]∧RelV x u
 | _,_,.cons r .nil=>⟨_,rfl,r⟩
theorem Vals.two : ∀ {x y:V}{us:List Value},Vals [x,y] us → ∃ u v,us=[u,v]∧RelV x u∧RelV y v
 | _,_,_,.cons r (.cons q .nil)=>⟨_,_,rfl,r,q⟩
theorem Vals.rep {xs:List V}{us:List Value} (h:Vals xs us) : ∀ k:Nat,Vals (List.replicate k xs).flatten (List.replicate k us).flatten
 | 0 => .nil
 | k+1=>by
  rw [List.replicate_succ,List.replicate_succ,List.flatten_cons,List.flatten_cons]
  exact Vals.append h (Vals.rep h k)
section
variable {X:Cx}{pins:List (Addr×Obj)}{σ:St}{H:Hp}{s:Shared}{l b:Addr}{xs ys zs:List V}
theorem Inv.lset {its its':List Value}{n:Nat}{f:Array Value→Array Value}{t':Nat} (I:Inv X pins σ H s) (hH:H l=some (.lst xs))
 (e:s.heap.get? l=some { cls :=.type "list",data :=.seq its.toArray n }) (hf:f its.toArray=its'.toArray) (hv:Vals ys its') (hz:ys.length≤sizeLine) :
  Inv X pins σ (upd H l (.lst ys)) { s with heap:=s.heap.update l (Obj.mapSeq f),toks:=t' }:=by
  have q:=PySem.IsL.update e f
  rw [hf] at q
  refine I.write (x:=l) (e:=l) (by rw [hH];exact trivial) (.inl rfl) (fun b' u hb hu=>(Heap.get?_update_other s.heap (Obj.mapSeq f) (Ne.symm hb)).trans hu) ⟨_,q⟩ ?_
  exact ⟨hz,its',_,hv,q⟩
theorem Inv.lnew {its:List Value}{t':Nat} (I:Inv X pins σ H s) (hv:Vals ys its) (hz:ys.length≤sizeLine) :
 Inv X pins σ (upd H s.heap.objs.size (.lst ys)) { s with heap:=s.heap.push { cls :=.type "list",data :=.seq its.toArray },toks:=t' } :=
  I.laid (fun _ _ q=>Heap.get?_push_of_some _ q) (Nat.le_refl _) ⟨hz,its,0,hv,Heap.get?_push_size _ rfl⟩
theorem Inv.fresh (I:Inv X pins σ H s):H s.heap.objs.size=none:=I.hok.fresh (Nat.le_refl _)
theorem Inv.lstM (I:Inv X pins σ H s) (hH:H l=some (.lst xs)):xs.length≤sizeLine ∧ ∃ (its:List Value) (n:Nat),Vals xs its∧xs.length=its.length∧s.heap.get? l=some { cls :=.type "list",data :=.seq its.toArray n }:=by
 obtain ⟨z,its,n,r,e⟩:=I.hok l _ hH
 exact ⟨z,its,n,r,r.length,e⟩
theorem qvf {n:Nat} (h:n≤sizeLine):Builtin.List.listTooLong n=false:=by
 unfold Builtin.List.listTooLong
 exact decide_eq_false (by omega)
end
section
variable {X:Cx}
def qxs:V→List V→Hp→VK→Prop:=fun x vs H Q => ∃ l xs y,x = .ref l∧vs=[y]∧H l=some (.lst xs)∧xs.length<sizeLine∧Q .non (upd H l (.lst (xs++[y])))
theorem qyq:MtM X "list.append" qxs:=by
 intro pins s σ H x vs v us Q I rx rv h
 obtain ⟨l,xs,y,rfl,rfl,hH,hz,q⟩:=h
 cases rx
 obtain ⟨u,rfl,ru⟩:=rv.one
 obtain ⟨z,its,n,r,hl,e⟩:=I.lstM hH
 refine call_meets F.slot_list_append ⟨_,e,rfl⟩ F.entry_list_append (F.args_list_append_2 _ _) (PySem.list_append l its.toArray n u (by rw [List.size_toArray];omega)) ⟨e,?_⟩
 refine ⟨.non,_,I.lset (its':=its++[u]) hH e (by simp) (r.append (.cons ru .nil)) ?_,rfl,q⟩
 rw [List.length_append,List.length_singleton]
 omega
def zags:V→List V→Hp→VK→Prop:=fun x vs H Q => ∃ l b xs zs,x = .ref l∧vs=[.ref b]∧H l=some (.lst xs)∧H b=some (.lst zs)∧xs.length+zs.length≤sizeLine∧Q .non (upd H l (.lst (xs++zs)))
theorem qyv:MtM X "list.extend" zags:=by
 intro pins s σ H x vs v us Q I rx rv h
 obtain ⟨l,b,xs,zs,rfl,rfl,hH,hB,hz,q⟩:=h
 cases rx
 obtain ⟨u,rfl,ru⟩:=rv.one
 cases ru
 obtain ⟨z,its,n,r,hl,e⟩:=I.lstM hH
 obtain ⟨z2,its2,n2,r2,hl2,e2⟩:=I.lstM hB
 have hsz:its.toArray.size+its2.toArray.size≤sizeLine:=by rw [List.size_toArray,List.size_toArray];omega
 have hlong : ¬ (!its.toArray.isEmpty&&Builtin.List.listTooLong (its.toArray.size+its2.toArray.size))=true:=by
  rw [qvf hsz,Bool.and_false]
  exact Bool.false_ne_true
 refine call_meets F.slot_list_extend ⟨_,e,rfl⟩ F.entry_list_extend (F.args_list_extend_2 _ _)
  (AutoSeq1.list_extend_list_list_0 l its.toArray n b its2.toArray n2 hlong (by rw [List.size_toArray];omega) (by omega)) ⟨e,e2,?_⟩
 refine ⟨.non,_,I.lset (its':=its++its2) hH e (by simp) (r.append r2) ?_,rfl,q⟩
 rw [List.length_append]
 omega
end
section
variable {prog:Program}{w:World}{A:Around}{E:Value→Shared→Prop}{s:Shared}
set_option maxRecDepth 100000 in
end
section
variable {X:Cx}
end
end L2
namespace Att
open PySem PySem.W PySem.Calls PyProof.Rows
theorem qmm {P:Params}{h:Heap} : ∀ (ns:List Int) (vs:List Value),WellAll P h vs (ns.map WData.int)→IntsAre vs ns:=by
 intro ns
 induction ns with
 | nil =>
  intro vs w
  rw [List.map_nil] at w
  cases w
  exact .nil
 | cons n ns ih =>
  intro vs w
  rw [List.map_cons] at w
  cases w with
  | cons a b =>
   cases a
   exact .cons _ _ (ih _ b)
theorem qzl {l:OpenLaw}{n:Nat} (hn:l.most=some n) {P:Params}{h:Heap}{args:List WData}{vals:List Value}
 (hpre:l.row.toRowW.claim.pre args=true) (hwl:WellAll P h vals args) :
 ∃ a vs ns,vals=[Value.ref a]∧args=[WData.list (ns.map WData.int)]∧h.get? a=some { cls :=.type "list",data :=.seq vs.toArray }∧IntsAre vs ns∧ns.length≤n:=by
  have hsh:WShape.hasAll [] args [.list .int]=true:=(pre_splitW hpre).1
  have hc:l.pre.holds [] { args:=args }=true:=(pre_splitW hpre).2
  obtain ⟨d,r,rfl,h1,h2⟩:=hasAllW_cons hsh
  obtain rfl:=hasAllW_nil h2
  obtain ⟨xs,rfl,h3⟩:=hasW_list h1
  obtain ⟨ns,rfl⟩:=items_int h3
  have hlen:ns.length≤n:=by
   unfold OpenLaw.pre at hc
   have h4:(WTm.not (.lt (.lit (.int (n:Int))) (.len (.arg 0)))).holds [] { args:=[.list (ns.map .int)] }=true:=by
    have h4:=(holds_andW hc).1
    rw [hn] at h4
    exact h4
   have h5:=condW_of h4 (w_not (w_lt w_lit (w_len_list (w_arg rfl))))
   rw [List.length_map] at h5
   refine Nat.le_of_not_lt fun q=>?_
   have q':(n:Int)<((ns.length:Nat):Int):=by omega
   first
    | (rw [decide_eq_true q'] at h5;exact absurd h5 (by decide))
    | (simp at h5;omega)
  cases hwl with
  | cons w1 w2 =>
   cases w2
   cases w1 with
   | list ho hall=>exact ⟨_,_,ns,rfl,rfl,ho,qmm ns _ hall,hlen⟩
theorem qys (l:OpenLaw) (args:List WData):l.row.toRowW.claim.post args (.bool true) args=true :=
 postW_of (r:=l.row.toRowW) (X:=(true==true))
  (show WShape.has [] (.bool true) .bool=true by first|rfl|decide|simp [WShape.has,WShape.arms,WShape.armsAll])
  (show (WTm.eq .res (.lit (.bool true))).value [] { args:=args,res:=some (.bool true),after:=args }=some (.bool (true==true)) from w_eq_bool (w_res rfl) w_lit) rfl
theorem attach_call {l:OpenLaw}{n:Nat}{q:Program}{loose:List Str}{XP:(Str→Option Value)→Heap→Prop}{YP:World→Heap→Prop}{d:DefRec}
 (hn:l.most=some n) (hdf:d.params.defaults=[])
 (call : ∀ (w:World) (s₀ s₁:Shared) (mg mb:Str→Option Value) (fa:Addr) (o:Obj) (pm cd doc:Value) (a:Addr) (vs:List Value) (ns:List Int),
 Ground q loose [] XP w s₀ mg mb s₁.heap→YP w s₁.heap →
 s₁.heap.get? fa=some o→o.data = .func (docDef d.name d.params d.body d.scope pm cd doc)→s₁.heap.CodeRec cd d.name→mg d.name=some (.ref fa) →
 s₁.heap.get? a=some { cls :=.type "list",data :=.seq vs.toArray }→IntsAre vs ns→ns.length≤n→s₁.gens = #[] →
  codeAny (model l.prog w) callerA (.call (.ref fa) ⟨[.ref a],[]⟩) (fun r s'=>r = .ok (.ret (.bool true))∧OldK s₁.heap s'.heap∧s'.os=s₁.os∧AllBare s'.gens) s₁) :
  WalkO q loose XP YP l.row.toRowW d [] (fun f vs=>PySem.call f vs):=by
  intro w s₀ s₁ mg mb G Y fa o pm cd doc dV kV ho hd hcd hD hmg hg args vals as hpre hlay hrd hwl hlo
  obtain rfl:dV = .none:=Dflts.none hD hdf
  obtain rfl:kV = .none:=Dflts.noKw hD
  obtain ⟨a,vs,ns,rfl,rfl,hobj,hints,hlen⟩:=qzl hn hpre hwl
  refine enter_call (codeAny_mono (call w s₀ s₁ mg mb fa o pm cd doc a vs ns G Y ho (fd_plain hd) hcd hmg hobj hints hlen hg) fun r s' hq=>?_)
  obtain ⟨rfl,h2,h3,h4⟩:=hq
  exact ⟨.inl ⟨.bool true,.bool true,[],rfl,fun _=>rfl,.bool true,qys l _,fun _=>⟨List.Pairwise.nil,fun _ hm=>(nomatch hm)⟩⟩,h2,h3,h4⟩
section
variable {prog:Program}{w:World}{A:Around}{E:Value→Shared→Prop}{s:Shared}{K:Frag}
end
end Att
namespace L2
open PySem PySem.Spec PyProof.Rows
theorem qlj : ∀ {vs:List Value}{ns:List Int},IntsAre vs ns→Vals (ns.map V.int) vs
 | _,_,.nil => .nil
 | _,_,.cons n t h => .cons ⟨t,rfl⟩ (qlj h)
def Only (H:Hp):Prop := ∀ b,H b=none ∨ ∃ o xs,H b=some (.frz o (.lst xs))
theorem zabe {P:Program}{w:World}{K:PySem.W.Frag}{mg mb:Str→Option Value}{CX:CXT}{k:Nat}{fa a:Addr}{fd:FuncData}{x:Str}{sp:Sp}{s₁:Shared}{vs:List Value}{ns:List Int}
 (KX:K.In s₁.heap) (hns:s₁.heap.Ns mainGlobals mg) (hb:s₁.heap.Ns builtinsNs mb) (hbb : ∀ x:Str,x ≠ "__name__" → mb x=bootBuiltins x) (hlim:s₁.heap.NoLimit) (hg:s₁.gens = #[])
 (ha:s₁.heap.get? a=some { cls :=.type "list",data :=.seq vs.toArray }) (hi:IntsAre vs ns) (hl:ns.length≤sizeLine) (hr:Room k callerA)
  (F : ∀ base:Heap,K.In base→base.Ns mainGlobals mg→FnOk P w K mg base CX k fa fd [x] sp) (hbind : ∀ (s:Shared) (u:Value),BindsTo s fd ⟨[u],[]⟩ [(x,u)])
  (hsp : ∀ H:Hp,Only H→SqL K H a (ns.map V.int)→sp [.ref a] H (fun v _=>v = .bl true) fun _ _ _=>False)
  (hCX : ∀ H e s',CX [] H s₁ (fun _ _ _=>False) e s'→False) :
  codeAny (model P w) callerA (.call (.ref fa) ⟨[.ref a],[]⟩) (fun r s'=>r = .ok (.ret (.bool true))∧OldK s₁.heap s'.heap∧s'.os=s₁.os∧AllBare s'.gens) s₁:=by
  have rv:=qlj hi
  have lenV:=hi.length
  have core : ∀ H:Hp,Only H→SqL K H a (ns.map V.int)→HOk P w H s₁.heap→(∀ b,H b≠none→b=a)→(H a≠none→K.lookup a=none) →
   codeAny (model P w) callerA (.call (.ref fa) ⟨[.ref a],[]⟩) (fun r s'=>r = .ok (.ret (.bool true))∧OldK s₁.heap s'.heap∧s'.os=s₁.os∧AllBare s'.gens) s₁:=by
   intro H hO hS hok hA hK
   have base_of : ∀ {b:Addr}{o:Obj},s₁.heap.get? b=some o→H b=none→(qwj s₁.heap H).get? b=some o:=fun e n=>zaca e n
   have noA : ∀ {b:Addr}{o:Obj}{es:Array DictEntry}{ep:Nat},s₁.heap.get? b=some o→o.data = .dict es ep→H b=none:=fun {b o es ep} e d=>by
    cases q:H b with
    | none=>rfl
    | some u =>
     have e':b=a:=hA b (by rw [q];simp)
     subst e'
     rw [ha] at e;cases e
     have d':Data.seq vs.toArray _=Data.dict es ep:=d
     cases d'
   have nsK : ∀ {b:Addr}{m:Str→Option Value},s₁.heap.Ns b m→(qwj s₁.heap H).Ns b m:=fun {b m} ⟨o,es,ep,e,d,r⟩=>⟨o,es,ep,base_of e (noA e d),d,r⟩
   have hKb:K.In (qwj s₁.heap H):=fun b o e=>base_of (KX b o e) (by
    cases q:H b with
    | none=>rfl
    | some u =>
     have e':b=a:=hA b (by rw [q];simp)
     subst e'
     rw [hK (by rw [q];simp)] at e;cases e)
   have hM:Mod K mg (qwj s₁.heap H):=⟨hKb,nsK hns,⟨mb,nsK hb,hbb⟩,let ⟨mc,h1,h2⟩:=hlim; ⟨mc,nsK h1,h2⟩⟩
   have e0:Env0 P w K mg (qwj s₁.heap H) callerA [] s₁ H:=⟨rfl,hM,fun b o e=>zaer e,Nat.le_of_eq (qzo _ _),trivial,fun b hb=>absurd (show b ∈ ([]:List Addr) from hb) (by simp),hok,.of_eq hg⟩
   refine codeAny_mono ((F _ hKb (nsK hns)).run callerA [] s₁ H ⟨[.ref a],[]⟩ [.ref a] [.ref a] _ _ hr e0 (hbind s₁ (.ref a)) (.cons rfl .nil) (hsp H hO hS)) fun r s' h=>?_
   cases r with
   | error e=>exact (hCX H e s' h).elim
   | ok fl =>
    cases fl with
    | next=>exact False.elim h
    | brk=>exact False.elim h
    | cont=>exact False.elim h
    | ret u =>
     obtain ⟨v,H',os,bare,un,hok',r',q⟩:=h
     have q':v = .bl true:=q
     subst q'
     obtain rfl:u=Value.bool true:=r'
     refine ⟨rfl,OldK.of_keep fun b o e=>?_,os,bare⟩
     cases q:H b with
     | none=>exact un.keep b o e q (by intro z;exact absurd (show b ∈ ([]:List Addr) from z) (by simp)) (by simp)
     | some u =>
      rcases hO b with z|⟨ob,xs,z⟩
      ·rw [q] at z;cases z
      ·have z2:=un.frzs b ob _ z
       obtain ⟨e1,_⟩:=hok b _ z
       obtain ⟨e2,_⟩:=hok' b _ z2
       rw [e] at e1;cases e1
       exact e2
  cases hk:K.lookup a with
  | some o =>
   have e:=KX a o hk
   rw [ha] at e
   cases e
   refine core (fun _=>none) (fun _ => .inl rfl) (.inr ⟨_,vs.toArray,_,hk,rfl,rfl,rfl,by rw [List.size_toArray,lenV];exact hl,by simpa using rv⟩) (fun b u z=>by have z':(none:Option HO)=some u:=z;cases z') (fun b z=>absurd rfl z) fun z=>absurd rfl z
  | none =>
   refine core (fun b=>if b=a then some (.frz { cls :=.type "list",data :=.seq vs.toArray } (.lst (ns.map V.int))) else none) (fun b=>?_) (.inl (.inr ⟨{ cls :=.type "list",data :=.seq vs.toArray },if_pos rfl⟩)) (fun b u z=>?_) (fun b z=>?_) fun _=>hk
   ·by_cases hb:b=a
    ·exact .inr ⟨_,_,if_pos hb⟩
    ·exact .inl (if_neg hb)
   ·by_cases hb:b=a
    ·have z':=(if_pos hb).symm.trans z
     cases z'
     subst hb
     exact ⟨ha,by rw [List.length_map];exact hl,vs,_,rv,ha⟩
    ·have z':=(if_neg hb).symm.trans z
     cases z'
   ·by_cases hb:b=a
    ·exact hb
    ·exact absurd (if_neg hb) z
end L2
namespace L2
open PySem PySem.Spec PyProof.Rows
theorem walk_of {l:PySem.W.OpenLaw}{n k:Nat}{q:Program}{loose:List Str}{XP:(Str→Option Value)→Heap→Prop}{YP:World→Heap→Prop}{d:DefRec}{K:Params→PySem.W.Frag}{CX:World→CXT}{sp:World→Sp}{x:Str}
 (hn:l.most=some n) (hn2:n≤sizeLine) (hdf:d.params.defaults=[]) (hr:Room k callerA)
 (hY : ∀ (w:World) (h:Heap),YP w h→(K w.params).In h)
 (F : ∀ (w:World) (mg:Str→Option Value) (fa:Addr) (h:Heap),(K w.params).In h→h.Ns mainGlobals mg→mg d.name=some (.ref fa) →
 ∃ fd:FuncData,(∀ (s:Shared) (u:Value),BindsTo s fd ⟨[u],[]⟩ [(x,u)]) ∧
 ∀ base:Heap,(K w.params).In base→base.Ns mainGlobals mg→FnOk l.prog w (K w.params) mg base (CX w) k fa fd [x] (sp w))
 (hsp : ∀ (w:World) (H:Hp) (a:Addr) (ns:List Int),ns.length≤n→Only H→SqL (K w.params) H a (ns.map V.int)→sp w [.ref a] H (fun v _=>v = .bl true) fun _ _ _=>False)
 (hCX : ∀ (w:World) (H:Hp) (s:Shared) (e:Value) (s':Shared),CX w [] H s (fun _ _ _=>False) e s'→False) :
 PySem.W.WalkO q loose XP YP l.row.toRowW d [] (fun f vs=>PySem.call f vs):=by
  refine Att.attach_call hn hdf fun w s₀ s₁ mg mb fa o pm cd doc a vs ns G Y ho hd hcd hmg hobj hints hlen hg=>?_
  have KX:=hY w _ Y
  obtain ⟨fd,hb,hF⟩:=F w mg fa _ KX G.T.g hmg
  exact zabe KX G.T.g G.T.b G.T.builtins G.T.nolimit hg hobj hints (Nat.le_trans hlen hn2) hr hF hb (fun H hO hS=>hsp w H a ns hlen hO hS) fun H e s'=>hCX w H s₁ e s'
end L2
namespace L2
open PySem PySem.Spec PyProof.Rows
def defArgs (s:Stmt):Arguments:=match s with
 | .FunctionDef _ a _ _ _ _ _ _ _ _=>a
 | _=>{ posonlyargs:=[],args:=[],vararg:=none,kwonlyargs:=[],kw_defaults:=[],kwarg:=none,defaults:=[] }
def defBody (s:Stmt):List Stmt:=match s with
 | .FunctionDef _ _ b _ _ _ _ _ _ _=>b
 | _=>[]
def defScope (s:Stmt):Scope:=match s with
 | .FunctionDef _ _ _ _ _ _ sc _ _ _=>sc
 | _=>{ kind :=.function,names:=[],isGenerator:=false,isCoroutine:=false }
abbrev CX0:CXT:=fun _ _ _ _ _ _=>False
abbrev E0:XK:=fun _ _ _=>False
theorem qnx {X:Cx}:qkf CX0 X E0:=fun _ _ _ _ _ _ _ h=>h.elim
structure Fun (K:PySem.W.Frag) (x qual:Str) (st:Stmt) (f:Addr) (fd:FuncData):Prop where
 ex : ∃ (oc:Value) (od:Option Addr) (kV doc pm:Value) (an:Option Addr) (cdv ct:Value) (osl:Array (Option Value)),
  fd=PySem.W.fnOf x qual (defArgs st) (defBody st) (defScope st) .none kV doc pm an cdv ct∧K.lookup f=some ⟨oc,od,.func fd,osl⟩∧PySem.W.codeIn K cdv qual=true
 kp:PySem.W.keepIn K (.ref f)=true
section
variable {P:Program}{w:World}{K:PySem.W.Frag}{mg:Str→Option Value}{base:Heap}
theorem Fun.ok {x qual:Str}{st:Stmt}{f:Addr}{fd:FuncData}{N ps:List Str}{k:Nat}{sp:Sp} (F:Fun K x qual st f fd) (S:FnScope N ps (defScope st)) (len : ∀ vs H Q E,sp vs H Q E→vs.length=ps.length)
 (hbody : ∀ (cdv:Value) (A:Around) (outer:List Env) (s:Shared) (H:Hp) (vs:List V) (Q:VK) (E:XK),Room k (A.deeper (envOfC qual (defScope st) s.heap.objs.size f cdv))→sp vs H Q E →
 ∃ t,PSs (qqt CX0 P w K mg base N qual (defScope st) f cdv A outer s H E).nox (defBody st) t∧t { nx:=fun _ H'=>Q .non H',rt:=Q } (start N vs) H):FnOk P w K mg base CX0 (k+1) f fd ps sp:=by
  obtain ⟨oc,od,kV,doc,pm,an,cdv,ct,osl,rfl,lk,hcd⟩:=F.ex
  refine zaks lk hcd S len fun A outer s H vs Q E hr hsp=>?_
  obtain ⟨t,h,q⟩:=hbody cdv A outer s H vs Q E hr hsp
  exact ⟨t,h.nox,q⟩
theorem Fun.binds {x qual:Str}{st:Stmt}{f:Addr}{fd:FuncData}{ps:List Str} (F:Fun K x qual st f fd)
 (h : ∀ (kV doc pm:Value) (an:Option Addr) (cdv ct:Value) (us:List Value),us.length=ps.length→bindArgs (PySem.W.fnOf x qual (defArgs st) (defBody st) (defScope st) .none kV doc pm an cdv ct) ⟨us,[]⟩=pure (ps.zip us)):Binds K fd ps []:=by
  obtain ⟨oc,od,kV,doc,pm,an,cdv,ct,osl,rfl,lk,hcd⟩:=F.ex
  exact .all (h kV doc pm an cdv ct)
theorem zade {x qual:Str}{st:Stmt}{f:Addr}{oc:Value}{od an:Option Addr}{osl:Array (Option Value)}{kV doc pm cdv ct:Value} (l:K.lookup f=some ⟨oc,od,.func (PySem.W.fnOf x qual (defArgs st) (defBody st) (defScope st) .none kV doc pm an cdv ct),osl⟩)
 (c:PySem.W.codeIn K cdv qual=true) (k:PySem.W.keepIn K (.ref f)=true):Fun K x qual st f (PySem.W.fnOf x qual (defArgs st) (defBody st) (defScope st) .none kV doc pm an cdv ct):=⟨⟨oc,od,kV,doc,pm,an,cdv,ct,osl,rfl,l,c⟩,k⟩
end
theorem qo {n:Nat} (h:n≤1000):n<sizeLine:=Nat.lt_of_le_of_lt h (by decide)
section
variable {X:Cx}
end
theorem qsk {A B:Prop} (h:B):if false=true then A else B:=by
 rw [if_neg Bool.false_ne_true]
 exact h
theorem qur {A B:Prop} (h:A):if true=true then A else B:=by
 rw [if_pos rfl]
 exact h
def Same (H H':Hp):Prop := ∀ b o,H b=some o→H' b=some o
theorem Same.refl (H:Hp):Same H H:=fun _ _ h=>h
theorem Same.trans {H H1 H2:Hp} (a:Same H H1) (b:Same H1 H2):Same H H2:=fun c o h=>b c o (a c o h)
theorem Same.free {H H':Hp} (e:Same H H') {l:Addr} (h:H' l=Option.none):H l=Option.none:=by
 cases q:H l with
 | none=>rfl
 | some o =>
  rw [e l o q] at h
  cases h
theorem Same.seq {K:PySem.W.Frag}{H H':Hp}{a:Addr}{xs:List V} (e:Same H H') (h:SqL K H a xs):SqL K H' a xs:=by
 rcases h with (h|⟨o,h⟩)|h
 ·exact .inl (.inl (e _ _ h))
 ·exact .inl (.inr ⟨o,e _ _ h⟩)
 ·exact .inr h
end L2
namespace L2
open PySem PySem.Spec PyProof.Rows
mutual
def Is (K:PySem.W.Frag) (H:Hp):PyData→V→Prop
 | .none,v=>v = .non
 | .bool b,v=>v = .bl b
 | .int i,v=>v = .int i
 | .str x,v=>v = .str x
 | .list l,v => ∃ a xs,v = .ref a∧SqL K H a xs∧Iss K H l xs
 | .tuple l,v => ∃ a xs,v = .ref a∧SqT K H a xs∧Iss K H l xs
 | .dict l,v => ∃ a kvs,v = .ref a∧H a=some (.dK kvs)∧(!l.isEmpty) = !kvs.isEmpty
def Iss (K:PySem.W.Frag) (H:Hp):List PyData→List V→Prop
 | [],xs=>xs=[]
 | d::l,xs => ∃ x r,xs=x::r∧Is K H d x∧Iss K H l r
end
theorem zafr {H H':Hp}{a:Addr}{u:HO} (s:Same H H') (h:Rd H a u):Rd H' a u:=by
 rcases h with h|⟨o,h⟩
 ·exact .inl (s _ _ h)
 ·exact .inr ⟨o,s _ _ h⟩
theorem qS {K:PySem.W.Frag}{H H':Hp}{a:Addr}{xs:List V} (s:Same H H') (h:SqT K H a xs):SqT K H' a xs:=by
 rcases h with h|h
 ·exact .inl (zafr s h)
 ·exact .inr h
theorem qda {H:Hp}{p:Addr}{o:HO} (h:H p=none):Same H (upd H p o):=fun b u e=>by
 rw [qk (ql e h)];exact e
mutual
theorem Is.mono {K:PySem.W.Frag}{H H':Hp} (s:Same H H') : ∀ {d:PyData}{v:V},Is K H d v→Is K H' d v
 | .none,_,h=>by unfold Is at h ⊢;exact h
 | .bool _,_,h=>by unfold Is at h ⊢;exact h
 | .int _,_,h=>by unfold Is at h ⊢;exact h
 | .str _,_,h=>by unfold Is at h ⊢;exact h
 | .list l,_,h=>by
  unfold Is at h ⊢
  obtain ⟨a,xs,e,q,r⟩:=h
  exact ⟨a,xs,e,s.seq q,Iss.mono s r⟩
 | .tuple l,_,h=>by
  unfold Is at h ⊢
  obtain ⟨a,xs,e,q,r⟩:=h
  exact ⟨a,xs,e,qS s q,Iss.mono s r⟩
 | .dict _,_,h=>by
  unfold Is at h ⊢
  obtain ⟨a,kvs,e,q,m⟩:=h
  exact ⟨a,kvs,e,s _ _ q,m⟩
theorem Iss.mono {K:PySem.W.Frag}{H H':Hp} (s:Same H H') : ∀ {l:List PyData}{xs:List V},Iss K H l xs→Iss K H' l xs
 | [],_,h=>by unfold Iss at h ⊢;exact h
 | d::l,_,h=>by
  unfold Iss at h ⊢
  obtain ⟨x,r,e,p,q⟩:=h
  exact ⟨x,r,e,Is.mono s p,Iss.mono s q⟩
end
section
variable {K:PySem.W.Frag}{H H':Hp}
theorem qpa:Is K H .none .non:=by unfold Is;rfl
theorem qfy (b:Bool):Is K H (.bool b) (.bl b):=by unfold Is;rfl
theorem qZ (i:Int):Is K H (.int i) (.int i):=by unfold Is;rfl
theorem qwy (x:Str):Is K H (.str x) (.str x):=by unfold Is;rfl
theorem qcq {a:Addr}{xs:List V}{l:List PyData} (h:SqL K H a xs) (r:Iss K H l xs):Is K H (.list l) (.ref a):=by unfold Is;exact ⟨a,xs,rfl,h,r⟩
theorem qkc {a:Addr}{xs:List V}{l:List PyData} (h:SqT K H a xs) (r:Iss K H l xs):Is K H (.tuple l) (.ref a):=by unfold Is;exact ⟨a,xs,rfl,h,r⟩
theorem qO:Iss K H [] []:=by unfold Iss;rfl
theorem qy {d:PyData}{l:List PyData}{x:V}{xs:List V} (h:Is K H d x) (r:Iss K H l xs):Iss K H (d::l) (x::xs):=by unfold Iss;exact ⟨x,xs,rfl,h,r⟩
theorem Is.bl_inv {b:Bool}{v:V} (h:Is K H (.bool b) v):v = .bl b:=by unfold Is at h;exact h
theorem Is.int_inv {i:Int}{v:V} (h:Is K H (.int i) v):v = .int i:=by unfold Is at h;exact h
theorem Is.non_inv {v:V} (h:Is K H .none v):v = .non:=by unfold Is at h;exact h
theorem Is.lst_inv {l:List PyData}{v:V} (h:Is K H (.list l) v) : ∃ a xs,v = .ref a∧SqL K H a xs∧Iss K H l xs:=by unfold Is at h;exact h
theorem Is.tup_inv {l:List PyData}{v:V} (h:Is K H (.tuple l) v) : ∃ a xs,v = .ref a∧SqT K H a xs∧Iss K H l xs:=by unfold Is at h;exact h
theorem Is.dct_inv {l:List (PyData×PyData)}{v:V} (h:Is K H (.dict l) v) : ∃ a kvs,v = .ref a∧H a=some (.dK kvs)∧(!l.isEmpty) = !kvs.isEmpty:=by unfold Is at h;exact h
theorem Iss.nil_inv {xs:List V} (h:Iss K H [] xs):xs=[]:=by unfold Iss at h;exact h
theorem Iss.cons_inv {d:PyData}{l:List PyData}{xs:List V} (h:Iss K H (d::l) xs) : ∃ x r,xs=x::r∧Is K H d x∧Iss K H l r:=by unfold Iss at h;exact h
theorem Iss.len : ∀ {l:List PyData}{xs:List V},Iss K H l xs→xs.length=l.length
 | [],_,h=>by rw [h.nil_inv];rfl
 | d::l,_,h=>by
  obtain ⟨x,r,rfl,_,q⟩:=h.cons_inv
  simp [Iss.len q]
theorem Iss.get : ∀ {l:List PyData}{xs:List V}{i:Nat}{d:PyData},Iss K H l xs→l[i]?=some d → ∃ x,xs[i]?=some x∧Is K H d x
 | [],_,i,d,h,e=>by simp at e
 | d'::l,_,0,d,h,e=>by
  obtain ⟨x,r,rfl,p,q⟩:=h.cons_inv
  simp at e;subst e
  exact ⟨x,rfl,p⟩
 | d'::l,_,i+1,d,h,e=>by
  obtain ⟨x,r,rfl,p,q⟩:=h.cons_inv
  obtain ⟨y,e1,e2⟩:=Iss.get q (show l[i]?=some d by simpa using e)
  exact ⟨y,by simpa using e1,e2⟩
theorem Iss.get' : ∀ {l:List PyData}{xs:List V}{i:Nat}{x:V},Iss K H l xs→xs[i]?=some x → ∃ d,l[i]?=some d∧Is K H d x:=fun {l xs i x} h e=>by
 have hl:=h.len
 have hi:i<xs.length:=(List.getElem?_eq_some_iff.mp e).1
 obtain ⟨d,hd⟩ : ∃ d,l[i]?=some d:=⟨l[i]'(by omega),List.getElem?_eq_getElem _⟩
 obtain ⟨y,e1,e2⟩:=h.get hd
 rw [e] at e1;cases e1
 exact ⟨d,hd,e2⟩
theorem qX : ∀ {l m:List PyData}{xs ys:List V},Iss K H l xs→Iss K H m ys→Iss K H (l++m) (xs++ys)
 | [],m,_,ys,h,h'=>by rw [h.nil_inv];exact h'
 | d::l,m,_,ys,h,h'=>by
  obtain ⟨x,r,rfl,p,q⟩:=h.cons_inv
  exact qy p (qX q h')
theorem qov : ∀ {l:List PyData}{xs:List V} (n:Nat),Iss K H l xs→Iss K H (l.take n) (xs.take n)
 | _,_,0,_=>qO
 | [],_,n+1,h=>by rw [h.nil_inv];exact qO
 | d::l,_,n+1,h=>by
  obtain ⟨x,r,rfl,p,q⟩:=h.cons_inv
  exact qy p (qov n q)
theorem qoo : ∀ {l:List PyData}{xs:List V} (n:Nat),Iss K H l xs→Iss K H (l.drop n) (xs.drop n)
 | _,_,0,h=>h
 | [],_,n+1,h=>by rw [h.nil_inv];exact qO
 | d::l,_,n+1,h=>by
  obtain ⟨x,r,rfl,p,q⟩:=h.cons_inv
  exact qoo n q
theorem qhu : ∀ ns:List Int,Iss K H (ns.map .int) (ns.map V.int)
 | []=>qO
 | n::ns=>qy (qZ n) (qhu ns)
theorem Iss.ints_inv : ∀ {ns:List Int}{xs:List V},Iss K H (ns.map .int) xs→xs=ns.map V.int
 | [],_,h=>h.nil_inv
 | n::ns,_,h=>by
  obtain ⟨x,r,rfl,p,q⟩:=h.cons_inv
  rw [p.int_inv,Iss.ints_inv q];rfl
end
section
variable {X:Cx}{pins:List (Addr×Obj)}{σ:St}{H:Hp}{s:Shared}
mutual
theorem Is.reads (I:Inv X pins σ H s) : ∀ {d:PyData}{x:V}{u:Value},d.canLay0=true→Is X.K H d x→RelV x u → ∃ as,Reads s.heap u d as
 | .none,_,u,_,h,r=>by
  rw [h.non_inv] at r;cases r;exact ⟨_,.none⟩
 | .bool b,_,u,_,h,r=>by
  rw [h.bl_inv] at r;cases r;exact ⟨_,.bool b⟩
 | .int i,_,u,_,h,r=>by
  rw [h.int_inv] at r;obtain ⟨t,rfl⟩:=r;exact ⟨_,.int i t⟩
 | .str x,_,u,_,h,r=>by
  unfold Is at h
  subst h
  obtain ⟨t,rfl⟩:=r;exact ⟨_,.str x t⟩
 | .list l,_,u,z,h,r=>by
  obtain ⟨a,xs,rfl,q,p⟩:=h.lst_inv
  cases r
  obtain ⟨its,rv,pl,_⟩:=I.list q
  obtain ⟨o,ho,hc,n,hd⟩:=pl.isList
  obtain ⟨as,ra⟩:=Iss.reads I (by simpa [PyData.canLay0] using z) p rv
  exact ⟨_,.list ho hc hd (by rw [List.toList_toArray];exact ra)⟩
 | .tuple l,_,u,z,h,r=>by
  obtain ⟨a,xs,rfl,q,p⟩:=h.tup_inv
  cases r
  obtain ⟨its,rv,pl,_⟩:=I.tuple q
  obtain ⟨o,ho,hc,n,hd⟩:=pl
  obtain ⟨as,ra⟩:=Iss.reads I (by simpa [PyData.canLay0] using z) p rv
  exact ⟨_,.tuple ho hc hd (by rw [List.toList_toArray];exact ra)⟩
 | .dict _,_,u,z,h,r=>by simp [PyData.canLay0] at z
theorem Iss.reads (I:Inv X pins σ H s) : ∀ {l:List PyData}{xs:List V}{us:List Value},PyData.canLayAll0 l=true→Iss X.K H l xs→Vals xs us → ∃ as,ReadsAll s.heap us l as
 | [],_,us,_,h,r=>by
  rw [h.nil_inv] at r;cases r;exact ⟨_,.nil⟩
 | d::l,_,us,z,h,r=>by
  have z':d.canLay0=true∧PyData.canLayAll0 l=true:=by simpa [PyData.canLayAll0] using z
  obtain ⟨x,y,rfl,p,q⟩:=h.cons_inv
  cases r with
  | cons r1 r2 =>
   obtain ⟨as,ra⟩:=Is.reads I z'.1 p r1
   obtain ⟨bs,rb⟩:=Iss.reads I z'.2 q r2
   exact ⟨_,.cons ra rb⟩
end
end
section
variable {X:Cx}
def rEqD (K:PySem.W.Frag):R2:=fun x y H Q => ∃ d e,Is K H d x∧Is K H e y∧SeqAt.shaped d=true∧SeqAt.shaped e=true∧Q (.bl (PyData.eqv d e)) H
def rNeD (K:PySem.W.Frag):R2:=fun x y H Q => ∃ d e,Is K H d x∧Is K H e y∧SeqAt.shaped d=true∧SeqAt.shaped e=true∧Q (.bl (!PyData.eqv d e)) H
theorem zaij (hu:X.A.units+64<cLine):OpR X (compareOp .Eq) (rEqD X.K):=by
 intro pins s σ H x y v u Q I rx ry h
 obtain ⟨d,e,h1,h2,z1,z2,q⟩:=h
 obtain ⟨as,ra⟩:=Is.reads I (Bool.and_eq_true_iff.mp z1).1 h1 rx
 obtain ⟨bs,rb⟩:=Is.reads I (Bool.and_eq_true_iff.mp z2).1 h2 ry
 exact SeqAt.compareEq_shaped ra rb z1 z2 hu ⟨.bl (PyData.eqv d e),H,I,rfl,q⟩
theorem zaio (hu:X.A.units+64<cLine):OpR X (compareOp .NotEq) (rNeD X.K):=by
 intro pins s σ H x y v u Q I rx ry h
 obtain ⟨d,e,h1,h2,z1,z2,q⟩:=h
 obtain ⟨as,ra⟩:=Is.reads I (Bool.and_eq_true_iff.mp z1).1 h1 rx
 obtain ⟨bs,rb⟩:=Is.reads I (Bool.and_eq_true_iff.mp z2).1 h2 ry
 exact SeqAt.compareNe_shaped ra rb z1 z2 hu ⟨.bl (!PyData.eqv d e),H,I,rfl,q⟩
theorem zafz:OpR X (binaryOp .Mult) (rI IntMulOk fun i j => .int (i*j)):=opI fun _ _ _ _ _ _ _ hc q=>mul_int q hc
def zahj (_ j:Int):Prop:=j≠0∧Builtin.Int.intBits j≤9000
theorem quz:OpR X (binaryOp .FloorDiv) (rI zahj fun i j => .int (i.fdiv j)):=opI fun i j _ _ _ _ _ hc q=>by
 refine floordiv_int hc.1 q (.inl (PyProof.noPylong_of_log2 ?_))
 have h:=hc.2
 unfold Builtin.Int.intBits at h
 rw [if_neg (by simpa using hc.1)] at h
 omega
def zakw (K:PySem.W.Frag):R2:=fun x y H Q => ∃ a b xs zs,x = .ref a∧y = .ref b∧SqL K H a xs∧SqL K H b zs∧xs.length+zs.length≤sizeLine ∧
 ∀ p,H p=none→Q (.ref p) (upd H p (.lst (xs++zs)))
theorem qxm:OpR X (binaryOp .Add) (zakw X.K):=by
 intro pins s σ H x y v u Q I rx ry h
 obtain ⟨a,b,xs,zs,rfl,rfl,hA,hB,hz,q⟩:=h
 cases rx
 cases ry
 obtain ⟨its,r,pl,z1⟩:=I.list hA
 obtain ⟨its2,r2,pl2,z2⟩:=I.list hB
 have l1:=r.length
 have l2:=r2.length
 obtain ⟨⟨cls,dd,data,sl⟩,ho,hc,n,hd⟩:=pl.isList
 obtain ⟨⟨cls2,dd2,data2,sl2⟩,ho2,hc2,n2,hd2⟩:=pl2.isList
 simp only at hc hd hc2 hd2
 subst hc hd hc2 hd2
 have e:its.toArray++its2.toArray=(its++its2).toArray:=by simp
 refine concat_meets ⟨_,ho,rfl⟩ ⟨_,ho2,rfl⟩ noFill_list_add seq_list_add PySem.F.slot_list_add PySem.F.entry_list_add (PySem.F.args_list_add_2 _ _) (list_addW a b its.toArray its2.toArray n n2 dd dd2 sl sl2 (by simp only [List.size_toArray];omega)) ⟨ho,ho2,?_⟩
 rw [e]
 exact ⟨.ref _,_,I.lnew (t':=s.toks) (r.append r2) (by rw [List.length_append];omega),rfl,q _ I.fresh⟩
def tyD:PyData→String
 | .none => "NoneType"
 | .bool _ => "bool"
 | .int _ => "int"
 | .str _ => "str"
 | .list _ => "list"
 | .tuple _ => "tuple"
 | .dict _ => "dict"
theorem zaba {pins:List (Addr×Obj)}{σ:St}{H:Hp}{s:Shared}{A:Around}{E:Value→Shared→Prop}{Q:Value→Shared→Prop}{c:Value}{b:Bool}{d:PyData}{x:V}{u:Value}
 (I:Inv X pins σ H s) (hd:Is X.K H d x) (rx:RelV x u) (e:PySem.W.kitOne X.K (.type (tyD d)) c=some b) (h : ∀ tk,Q (.bool b) { s with toks:=tk }) :
  wpAny (model X.prog X.w) A (call (.builtin "isinstance") [u,c]) Q E s:=by
  cases d with
  | none=>rw [hd.non_inv] at rx;cases rx;exact PySem.W.kia_one PySem.W.kitx_none I.kIn True.intro e (fun z=>nomatch z) h
  | bool y=>rw [hd.bl_inv] at rx;cases rx;exact PySem.W.kia_one PySem.W.kitx_bool I.kIn True.intro e (fun z=>nomatch z) h
  | int i=>rw [hd.int_inv] at rx;obtain ⟨t,rfl⟩:=rx;exact PySem.W.kia_one PySem.W.kitx_int I.kIn True.intro e (fun z=>nomatch z) h
  | str y =>
   unfold Is at hd
   subst hd
   obtain ⟨t,rfl⟩:=rx;exact PySem.W.kia_one PySem.W.kitx_str I.kIn True.intro e (fun z=>nomatch z) h
  | list l =>
   obtain ⟨a,xs,rfl,q,_⟩:=hd.lst_inv
   cases rx
   obtain ⟨its,_,pl,_⟩:=I.list q
   obtain ⟨o,ho,hc,_⟩:=pl.isList
   exact PySem.W.kia_one PySem.W.kitx_list I.kIn ⟨o,ho,hc⟩ e (fun z=>nomatch z) h
  | tuple l =>
   obtain ⟨a,xs,rfl,q,_⟩:=hd.tup_inv
   cases rx
   obtain ⟨its,_,pl,_⟩:=I.tuple q
   obtain ⟨o,ho,hc,_⟩:=pl
   exact PySem.W.kia_one PySem.W.kitx_tuple I.kIn ⟨o,ho,hc⟩ e (fun z=>nomatch z) h
  | dict l =>
   obtain ⟨a,kvs,rfl,q,_⟩:=hd.dct_inv
   cases rx
   obtain ⟨_,_,vs,_,p⟩:=(show ObjOk X.prog X.w H s.heap a (.dK kvs) from I.hok a _ q)
   obtain ⟨o,es,ep,h1,h2,_⟩:=p
   exact PySem.W.kia_one PySem.W.kitx_dict I.kIn ⟨o,h1,h2.1⟩ e (fun z=>nomatch z) h
def rIsD (K:PySem.W.Frag):List V→Hp→VK→Prop:=fun xs H Q => ∃ d x n b,xs=[x,.ty n]∧Is K H d x∧PySem.W.kitOne K (.type (tyD d)) (.type n)=some b∧Q (.bl b) H
theorem zabf:CallR X (.builtin "isinstance") (rIsD X.K):=by
 intro pins s σ H xs us Q I r h
 obtain ⟨d,x,n,b,rfl,hd,e,q⟩:=h
 obtain ⟨u,c,rfl,rx,rc⟩:=zahb r
 cases rc
 exact zaba I hd rx e fun tk=>⟨.bl b,H,I.tok tk,rfl,q⟩
theorem Iss.atI {K:PySem.W.Frag}{H:Hp}{l:List PyData}{xs:List V}{i:Int}{d:PyData} (h:Iss K H l xs) (e:L2.atI l i=some d) : ∃ x,L2.atI xs i=some x∧Is K H d x:=by
 unfold L2.atI at e ⊢
 rw [h.len]
 cases q:ixN l.length i with
 | none=>rw [q] at e;cases e
 | some j =>
  rw [q] at e
  exact h.get e
end
def Ite (K:PySem.W.Frag) (a:Addr):It :=
 ⟨fun i H => ∃ xs x,SqL K H a xs∧xs[i]?=some x,fun i H v H' => ∃ p x,(∀ xs,SqL K H a xs→xs[i]?=some x)∧H p=none∧v = .ref p∧H'=upd H p (.tup [.int i,x]),fun i H => ∃ xs,SqL K H a xs∧xs.length≤i⟩
theorem qyr {P:Program}{w:World}{K:PySem.W.Frag}{elts:List Expr}{x1:Nat}{tpos:Pos} (a e it:Addr) (hne:e≠it) :
 Turn P w K (.Tuple elts x1 tpos) (Ite K a) [e,it] e (fun i h=>(∃ old,IsEnum h e it (i:Nat) old)∧h.IsListIter it a i) where
  mem:=by simp
  obj:=fun i h st b hb=>by
   obtain ⟨⟨old,s1⟩,s2⟩:=st
   have hb':b=e∨b=it:=by simpa using hb
   rcases hb' with rfl|rfl
   ·exact ⟨_,s1,fun v z=>by have z':Data.fields _=Data.cell v:=z;cases z'⟩
   ·obtain ⟨o,q,c,d⟩:=s2
    exact ⟨o,q,fun v z=>by rw [d] at z;cases z⟩
  keep:=fun i h h' st k=>by
   obtain ⟨⟨old,s1⟩,s2⟩:=st
   exact ⟨⟨old,k e (by simp) _ s1⟩,s2.at fun o q=>k it (by simp) o q⟩
  item:=by
   intro X hP hw hK hc i pins s σ H E I hf st hg
   subst hP hw hK
   obtain ⟨xs,x,hq,hx⟩:=hg
   obtain ⟨its,rv,p,hz⟩:=I.list hq
   obtain ⟨u,hu,ru⟩:=rv.get hx
   obtain ⟨⟨old,s1⟩,s2⟩:=st
   obtain ⟨f0,f1,f2,f3,f4,f5⟩:=hf e (by simp)
   obtain ⟨g0,g1,g2,g3,g4,g5⟩:=hf it (by simp)
   have hel:e<s.heap.objs.size:=Heap.lt_size s1
   refine wpAny_pyNext_enum_item s1 s2 p.isList (x:=u) (by simpa using hu) hne fun h₁ ho hi ht hz₁ hk=>⟨_,rfl,?_⟩
   refine wpAny_letOwnedTupleGo_enum (s:={ s with heap:=h₁,toks:=s.toks+1 }) ho fun h₂ he₂ hs₂=>?_
   replace hs₂:Heap.SameBut e h₁ h₂:=hs₂
   have fresh:H s.heap.objs.size=none:=I.hok.fresh (Nat.le_refl _)
   have kk : ∀ b o,b≠e→b≠it→s.heap.get? b=some o→h₂.get? b=some o:=fun b o b1 b2 q=>hs₂.extBut b o b1 (hk b o b1 b2 q)
   have nb : ∀ b v,H b=some v→b≠e∧b≠it:=fun b v q=>⟨fun z=>(by rw [z,f0] at q;cases q),fun z=>(by rw [z,g0] at q;cases q)⟩
   have ht₂:h₂.get? s.heap.objs.size=some { cls :=.type "tuple",data :=.seq #[.int i s.toks,u] }:=(hs₂.2 _ (Nat.ne_of_gt hel)).trans ht
   have I1:Inv X pins σ (upd H s.heap.objs.size (.tup [.int i,x])) { s with heap:=h₂,toks:=s.toks+1 }:=by
    refine I.step (g':=s.gens) (d':=s.drawn) (ch:=[e,it]) (fun b hb=>?_) (fun b o _ _ hc q _=>kk b o (fun z=>hc (by simp [z])) (fun z=>hc (by simp [z])) q)
     (fun b o _ _ hc q _=>⟨o.slots,kk b o (fun z=>hc (by simp [z])) (fun z=>hc (by simp [z])) q⟩) (fun b o _ q n=>by rw [qk (Nat.ne_of_lt (Heap.lt_size q))];exact n)
     (fun b o hc q=>⟨o,kk b o (fun z=>hc (by simp [z])) (fun z=>hc (by simp [z])) q⟩) (fun b ys q=>by rw [qk (ql q fresh)];exact q) (fun b o v q=>by rw [qk (ql q fresh)];exact q)
     (fun b ps q=>⟨#[],by rw [qk (ql q fresh),q];simp⟩) (fun m hm=>?_) (fun b v q=>?_) I.bare
    ·have hb':b=e∨b=it:=by simpa using hb
     rcases hb' with rfl|rfl
     ·exact ⟨f3,f1,f4,f5⟩
     ·exact ⟨g3,g1,g4,g5⟩
    ·obtain ⟨o,es,ep,ho',r⟩:=hm
     exact ⟨o,es,ep,kk _ o (Ne.symm f1) (Ne.symm g1) ho',r⟩
    ·by_cases hb:b=s.heap.objs.size
     ·subst hb
      rw [qp] at q
      cases q
      exact ⟨(by show 2≤sizeLine;decide),[.int i s.toks,u],.cons ⟨s.toks,rfl⟩ (.cons ru .nil),⟨_,ht₂,rfl,_,rfl⟩⟩
     ·rw [qk hb] at q
      refine (I.hok b v q).stay (fun c ob hc z=>?_) (fun c z=>by rw [qk (ql z fresh)];exact z) fun c ys z=>by rw [qk (ql z fresh)];exact z
      rcases hc with hc|hc
      ·subst hc;exact kk _ _ (nb _ _ q).1 (nb _ _ q).2 z
      ·exact kk _ _ (nb _ _ hc).1 (nb _ _ hc).2 z
   refine ⟨.ref s.heap.objs.size,_,I1,rfl,⟨s.heap.objs.size,x,fun ys hy=>by rw [I.list_inj hy hq];exact hx,fresh,rfl,rfl⟩,⟨⟨u,?_⟩,?_⟩,fun b hb=>?_⟩
   ·have e1:((i+1:Nat):Int)=(i:Int)+1:=by push_cast;rfl
    rw [e1];exact he₂
   ·exact hi.extBut hs₂.extBut (Ne.symm hne)
   ·have hb':b=e∨b=it:=by simpa using hb
    have hlt:b<s.heap.objs.size:=by
     rcases hb' with rfl|rfl
     ·exact hel
     ·obtain ⟨o,q,_⟩:=s2;exact Heap.lt_size q
    rw [qk (Nat.ne_of_lt hlt)]
    exact (hf b hb).1
  done:=by
   intro X hP hw hK hc i pins s σ H E I hf st hg
   subst hP hw hK
   obtain ⟨xs,hq,hx⟩:=hg
   obtain ⟨its,rv,p,hz⟩:=I.list hq
   obtain ⟨⟨old,s1⟩,s2⟩:=st
   obtain ⟨g0,g1,g2,g3,g4,g5⟩:=hf it (by simp)
   have hl:=rv.length
   exact wpAny_pyNext_enum_end (I.ok.hd hc) s1 s2 p.isList (by simp;omega) fun h' eb=>⟨rfl,I.turned (t':=s.toks) (fun b o hb q=>eb b o hb q) g0 g1 g3 g4 g5⟩
  self:=fun A i s Q E st h=>by
   obtain ⟨⟨old,s1⟩,s2⟩:=st
   exact wpAny_pyIter_enum s1 h
section
variable {X:Cx}{elts:List Expr}{x1:Nat}{tpos:Pos}
def zakr (K:PySem.W.Frag) (ta:TA):TI:=fun σ H R=>ta σ H fun vs H1 => ∃ a,vs=[.ref a]∧(∃ xs,SqL K H1 a xs)∧R (Ite K a) H1
theorem zafu {a:Expr}{ta:TA}{p pos:Pos} (hg:Gl X "enumerate") (hm:X.mg "enumerate" = none) (ha:PA X [a] ta) (hs:starEach [a] X.env=[(false,eval a X.env)]:=by rfl) :
 PI X (.Tuple elts x1 tpos) (.Call (.Name "enumerate" p) [a] [] pos) (zakr X.K ta):=by
 intro pins s σ H R I h
 refine Call_ (qmn I hg hm boot_enumerate (PyProof.Rows.callWith_type1 (thn (ha pos pins s σ H _ I h) fun us s1 xx60=>?_) hs rfl))
 obtain ⟨vs,H1,I1,r1,q1⟩:=xx60
 obtain ⟨l,e,⟨xs,hq⟩,q⟩:=q1
 subst e
 cases r1 with
 | cons r rr =>
  cases rr
  cases r
  obtain ⟨its,rv,pl,hz⟩:=I1.list hq
  refine call_enumerate_list pl.isList fun h' he hi hz' hk=>?_
  refine wpAny_pyIter_enum he ?_
  have I2:Inv X pins σ H1 { s1 with heap:=h' }:=I1.kept (t':=s1.toks) hk
  refine ⟨s1.heap.objs.size+1,[s1.heap.objs.size+1,s1.heap.objs.size],_,_,H1,rfl,I2,qyr l _ _ (Nat.succ_ne_self _),⟨⟨_,he⟩,hi⟩,fun b hb=>?_,q⟩
  have hb':b=s1.heap.objs.size+1∨b=s1.heap.objs.size:=by simpa using hb
  have hle:s1.heap.objs.size≤b:=by
   rcases hb' with rfl|rfl
   ·exact Nat.le_succ _
   ·exact Nat.le_refl _
  exact I1.fpOk hle (I1.hok.fresh hle)
end
theorem szl {α:Type}{l:List α} (h:decide (l.length≤1000)=true:=by rfl):l.length≤sizeLine:=Nat.le_of_lt (qo (of_decide_eq_true h))
theorem qxr (i j:Int):PyData.eqv (.int i) (.int j)=(i==j):=by simp only [PyData.eqv]
theorem qew {i j:Int}{A B:Prop} (h1:i≠j→A) (h2:i=j→B):if (!PyData.eqv (.int i) (.int j))=true then A else B:=by
 rw [qxr]
 by_cases h:i=j
 ·subst h;simpa using h2 rfl
 ·have e:(i==j)=false:=by simpa using h
  rw [e];simpa using h1 h
theorem qhi {i j:Int}{A B:Prop} (h1:i=j→A) (h2:i≠j→B):if (PyData.eqv (.int i) (.int j))=true then A else B:=by
 rw [qxr]
 by_cases h:i=j
 ·subst h;simpa using h1 rfl
 ·have e:(i==j)=false:=by simpa using h
  rw [e];simpa using h2 h
theorem qix {p A B:Prop} [Decidable p] (h1:p→A) (h2 : ¬ p→B):if decide p=true then A else B:=by
 by_cases h:p
 ·simpa [h] using h1 h
 ·simpa [h] using h2 h
theorem qoh {ns:List Int}{i:Int} (h0:0≤i) (h1:i<ns.length) : ∃ n,L2.atI (ns.map PyData.int) i=some (.int n):=by
 have hi:i.toNat<ns.length:=by omega
 refine ⟨ns[i.toNat],?_⟩
 have e:(ns.map PyData.int)[i.toNat]?=some (.int ns[i.toNat]):=by simp [hi]
 have:=qM e
 rwa [Int.toNat_of_nonneg h0] at this
theorem boot_abs:bootBuiltins "abs" = some (.builtin "abs"):=by decide +kernel
theorem boot_len:bootBuiltins "len" = some (.builtin "len"):=by decide +kernel
theorem qmc:bootBuiltins "isinstance" = some (.builtin "isinstance"):=by decide +kernel
theorem boot_int:bootBuiltins "int" = some (.type "int"):=by decide +kernel
theorem boot_bool:bootBuiltins "bool" = some (.type "bool"):=by decide +kernel
theorem boot_tuple:bootBuiltins "tuple" = some (.type "tuple"):=by decide +kernel
theorem boot_list:bootBuiltins "list" = some (.type "list"):=by decide +kernel
section
variable {K:PySem.W.Frag}
end
structure Def (K:PySem.W.Frag) (mg:Str→Option Value) (x:Str) (st:Stmt) (ps:List Str):Prop where
 ex : ∃ (f:Addr) (fd:FuncData),Fun K x x st f fd∧mg x=some (.ref f)∧Binds K fd ps []
structure Ok (P:Program) (w:World) (K:PySem.W.Frag) (mg:Str→Option Value) (base:Heap) (x:Str) (k:Nat) (ps:List Str) (sp:Sp):Prop where
 ex : ∃ (f:Addr) (fd:FuncData),FnOk P w K mg base CX0 k f fd ps sp∧mg x=some (.ref f)∧PySem.W.keepIn K (.ref f)=true∧Binds K fd ps []
section
variable {P:Program}{w:World}{K:PySem.W.Frag}{mg:Str→Option Value}{base:Heap}
theorem Def.ok {x:Str}{st:Stmt}{N ps:List Str}{k:Nat}{sp:Sp} (F:Def K mg x st ps) (S:FnScope N ps (defScope st)) (len : ∀ vs H Q E,sp vs H Q E→vs.length=ps.length)
 (hbody : ∀ (f:Addr) (cdv:Value) (A:Around) (outer:List Env) (s:Shared) (H:Hp) (vs:List V) (Q:VK) (E:XK),Room k (A.deeper (envOfC x (defScope st) s.heap.objs.size f cdv))→sp vs H Q E →
 ∃ t,PSs (qqt CX0 P w K mg base N x (defScope st) f cdv A outer s H E).nox (defBody st) t∧t { nx:=fun _ H'=>Q .non H',rt:=Q } (start N vs) H):Ok P w K mg base x (k+1) ps sp:=by
  obtain ⟨f,fd,Fn,hm,hb⟩:=F.ex
  exact ⟨f,fd,Fn.ok S len (hbody f),hm,Fn.kp,hb⟩
end
section
variable {X:Cx}{x:Str}{k:Nat}{ps:List Str}{sp:Sp}{p pos:Pos}{e:Expr}{es:List Expr}{t:TA}
theorem zaac (O:Ok X.prog X.w X.K X.mg X.base x k ps sp) (hr:Room k X.A) (ha:PA X (e::es) t) (hg:Gl X x:=by rfl) (hdb:(x==("__debug__" : Str))=false:=by decide)
 (he:starEach (e::es) X.env=(false,eval e X.env)::starEach es X.env:=by rfl) (hpl:(backTo pos (starEach es X.env)).any (·.1)=false:=by rfl):PE X (.Call (.Name x p) (e::es) [] pos) (qod sp [] E0 t):=by
 obtain ⟨f,fd,F,hm,hk,hb⟩:=O.ex
 exact zagt F hr hg hm hk hb .nil qnx ha hdb he hpl
theorem qlk {o:Expr}{to:TE}{te:TE}{apos cpos:Pos} (ho:PE X o to) (he:PE X e te) (hbase:attributeBase o "append" X.env (eval o X.env)=eval o X.env:=by rfl)
 (hfew:((backTo cpos (starEach [e] X.env)).all (fun x => !x.1)&&(backToKw cpos (keywordEach [] X.env)).all (fun x=>x.1.isSome)
  && decide ([e].length+([]:List Keyword).length+(if ([]:List Keyword).isEmpty then 0 else 1)<30))=true:=by rfl)
 (hline:(apos.endLine==cpos.line)=true:=by rfl) (hs:starEach [e] X.env=(false,eval e X.env)::starEach [] X.env:=by rfl) (hplain:(backTo cpos (starEach [] X.env)).any (·.1)=false:=by rfl) :
 PE X (.Call (.Attribute o "append" apos) [e] [] cpos) (tBM X.K "list" qxs to (zaah te tNil)) :=
 zaag PySem.F.plainAttrs_list PySem.F.slot_list_append PySem.F.type_list_append qyq ho (qL he qbp hs) hbase hfew hline hs hplain
end
end L2
namespace L2
open PySem PySem.Spec PyProof.Rows
def qmk (cells:List (Str×Addr)):List (Str×NameKind)→List (Str×Addr)→List (Str×Addr)
 | [],acc=>acc
 | (n,k)::r,acc=>if (k == .free)=true then (match cells.lookup n with|some c=>qmk cells r ((n,c)::acc)|none=>qmk cells r acc) else qmk cells r acc
theorem qim {cells:List (Str×Addr)} : ∀ {names:List (Str×NameKind)}{acc:List (Str×Addr)}{p:Str×Addr},p ∈ qmk cells names acc→p ∈ acc∨cells.lookup p.1=some p.2
 | [],acc,p,h => .inl h
 | (n,k)::r,acc,p,h=>by
  unfold qmk at h
  split at h
  ·split at h
   ·rename_i c hc
    rcases qim h with h|h
    ·rcases List.mem_cons.mp h with h|h
     ·subst h;exact .inr hc
     ·exact .inl h
    ·exact .inr h
   ·exact qim h
  ·exact qim h
theorem qid {cells:List (Str×Addr)} : ∀ {names:List (Str×NameKind)}{acc:List (Str×Addr)}{x:Str},((∃ c,(x,c) ∈ acc)∨((x,NameKind.free) ∈ names ∧ ∃ c,cells.lookup x=some c)) → ∃ c,(x,c) ∈ qmk cells names acc
 | [],acc,x,h=>by
  rcases h with h|h
  ·exact h
  ·exact absurd h.1 (by simp)
 | (n,k)::r,acc,x,h=>by
  unfold qmk
  split
  ·rename_i hk
   split
   ·rename_i c hc
    refine qid ?_
    rcases h with ⟨d,h⟩|⟨h,d,hd⟩
    ·exact .inl ⟨d,List.mem_cons_of_mem _ h⟩
    ·rcases List.mem_cons.mp h with h|h
     ·cases h;exact .inl ⟨c,by simp⟩
     ·exact .inr ⟨h,d,hd⟩
   ·rename_i hc
    refine qid ?_
    rcases h with h|⟨h,d,hd⟩
    ·exact .inl h
    ·rcases List.mem_cons.mp h with h|h
     ·cases h;rw [hd] at hc;cases hc
     ·exact .inr ⟨h,d,hd⟩
  ·rename_i hk
   refine qid ?_
   rcases h with h|⟨h,d,hd⟩
   ·exact .inl h
   ·rcases List.mem_cons.mp h with h|h
    ·cases h;exact absurd rfl hk
    ·exact .inr ⟨h,d,hd⟩
theorem qpb {x:Str}{c:Addr} : ∀ {names:List (Str×NameKind)}{n:Nat}{acc:List (Str×Addr)},(cellsFrom n names acc).lookup x=some c→(n≤c∧(x,NameKind.cell) ∈ names)∨acc.lookup x=some c
 | [],_,_,h => .inr h
 | (y,k)::r,n,acc,h=>by
  unfold cellsFrom at h
  split at h
  ·rename_i hk
   rcases qpb h with ⟨h1,h2⟩|h1
   ·exact .inl ⟨by omega,List.mem_cons_of_mem _ h2⟩
   ·by_cases e:x=y
    ·subst e
     have hb:(x==x)=true:=by simp
     rw [List.lookup_cons,hb] at h1
     have hk':k = .cell:=by simpa using hk
     subst hk'
     cases h1
     exact .inl ⟨Nat.le_refl _,by simp⟩
    ·have hb:(x==y)=false:=by simpa using e
     rw [List.lookup_cons,hb] at h1
     exact .inr h1
  ·rcases qpb h with ⟨h1,h2⟩|h1
   ·exact .inl ⟨h1,List.mem_cons_of_mem _ h2⟩
   ·exact .inr h1
theorem qtm {x:Str} : ∀ {names:List (Str×NameKind)}{n:Nat}{acc:List (Str×Addr)},(x,NameKind.cell) ∉ names→(cellsFrom n names acc).lookup x=acc.lookup x
 | [],_,_,_=>rfl
 | (y,k)::r,n,acc,h=>by
  have hr:(x,NameKind.cell) ∉ r:=fun z=>h (List.mem_cons_of_mem _ z)
  unfold cellsFrom
  split
  ·rename_i hk
   have hk':k = .cell:=by simpa using hk
   subst hk'
   have e:x≠y:=fun z=>h (by rw [z];simp)
   have hb:(x==y)=false:=by simpa using e
   rw [qtm hr,List.lookup_cons,hb]
  ·exact qtm hr
theorem qkx {x:Str}{c lo:Nat} : ∀ {names:List (Str×NameKind)}{n:Nat}{acc:List (Str×Addr)},lo≤n→((x,NameKind.cell) ∈ names ∨ ∃ a,acc.lookup x=some a∧lo≤a)→(cellsFrom n names acc).lookup x=some c→lo≤c
 | [],_,acc,_,h,e=>by
  rcases h with h|⟨a,h1,h2⟩
  ·simp at h
  ·have e:acc.lookup x=some c:=e
   rw [h1] at e
   cases e
   exact h2
 | (y,k)::r,n,acc,hn,h,e=>by
  unfold cellsFrom at e
  split at e
  ·rename_i hk
   refine qkx (lo:=lo) (by omega) ?_ e
   by_cases z:x=y
   ·subst z
    have hb:(x==x)=true:=by simp
    exact .inr ⟨n,by rw [List.lookup_cons,hb],hn⟩
   ·have hb:(x==y)=false:=by simpa using z
    rcases h with h|⟨a,h1,h2⟩
    ·rcases List.mem_cons.mp h with h|h
     ·cases h;exact absurd rfl z
     ·exact .inl h
    ·exact .inr ⟨a,by rw [List.lookup_cons,hb];exact h1,h2⟩
  ·rename_i hk
   refine qkx hn ?_ e
   rcases h with h|h
   ·rcases List.mem_cons.mp h with h|h
    ·cases h;exact absurd rfl hk
    ·exact .inl h
   ·exact .inr h
theorem qtd {x y:Str}{c:Addr} : ∀ {names:List (Str×NameKind)}{n:Nat}{acc:List (Str×Addr)},(∀ z a,acc.lookup z=some a→a<n)→n≤c→(cellsFrom n names acc).lookup x=some c→(cellsFrom n names acc).lookup y=some c→x=y
 | [],n,acc,hA,hn,h,_=>absurd (hA x c h) (Nat.not_lt.mpr hn)
 | (w,k)::r,n,acc,hA,hn,h,h'=>by
  unfold cellsFrom at h h'
  split at h
  ·rename_i hk
   rw [if_pos hk] at h'
   have hA' : ∀ z a,((w,n)::acc).lookup z=some a→a<n+1:=fun z a q=>by
    rw [List.lookup_cons] at q
    split at q
    ·cases q;exact Nat.lt_succ_self _
    ·exact Nat.lt_succ_of_lt (hA z a q)
   have at_n : ∀ z,((w,n)::acc).lookup z=some n→z=w:=fun z q=>by
    rw [List.lookup_cons] at q
    split at q
    ·rename_i hb;exact beq_iff_eq.mp hb
    ·exact absurd (hA z n q) (Nat.lt_irrefl _)
   by_cases e:c=n
   ·subst e
    have a1:x=w:=by
     rcases qpb h with ⟨q,_⟩|q
     ·exact absurd q (Nat.not_succ_le_self _)
     ·exact at_n x q
    have a2:y=w:=by
     rcases qpb h' with ⟨q,_⟩|q
     ·exact absurd q (Nat.not_succ_le_self _)
     ·exact at_n y q
    rw [a1,a2]
   ·exact qtd hA' (Nat.lt_of_le_of_ne hn (Ne.symm e)) h h'
  ·rename_i hk
   rw [if_neg hk] at h'
   exact qtd hA hn h h'
theorem qnf {x:Str}{c:Addr} : ∀ {names:List (Str×NameKind)}{h:Heap}{acc:List (Str×Addr)},(cellsFrom h.objs.size names acc).lookup x=some c→acc.lookup x=some c∨(pushCells h names).IsCell c none
 | [],_,_,e => .inl e
 | (y,k)::r,h,acc,e=>by
  unfold cellsFrom at e
  unfold pushCells
  split at e
  ·rename_i hk
   rw [if_pos hk]
   have e':(cellsFrom (h.push { cls :=.type "cell",data :=.cell none }).objs.size r ((y,h.objs.size)::acc)).lookup x=some c:=by rw [Heap.size_push];exact e
   rcases qnf e' with q|q
   ·rw [List.lookup_cons] at q
    split at q
    ·have q:=Option.some.inj q
     subst q
     exact .inr ⟨_,pushCells_keeps _ _ _ _ (Heap.get?_push_size _ rfl),rfl⟩
    ·exact .inl q
   ·exact .inr q
  ·rename_i hk
   rw [if_neg hk]
   exact qnf e
theorem qrh {M:Model}{A:Around}{E:Value→Shared→Prop}{s:Shared}{scope:Scope}{globals:Addr}{cl:List (Str×Addr)}{qual:Str}{outer:Env}{Q:Env→Shared→Prop}
 (hQ:Q (newEnv scope s.heap.objs.size globals (cellsFrom (s.heap.objs.size+1) scope.names cl) qual none .none (some outer) builtinsNs) { s with heap:=pushCells (s.heap.push { cls :=.type "dict",data :=.dict #[] }) scope.names }) :
  wpAny M A (newFunctionEnv scope globals cl [] qual none .none (some outer)) Q E s:=by
  simp only [newFunctionEnv,Option.isSome_some,if_true]
  refine wpAny_bind (wpAny_alloc ?_)
  refine wpAny_bind (wpAny_layCells _ (fun name kind cells=>by cases hkc:kind==NameKind.cell <;> simp [hkc]) _ _ _ _ ?_)
  rw [show ({ s with heap:=s.heap.push { cls :=.type "dict",data :=.dict #[] } }:Shared).heap.objs.size=s.heap.objs.size+1 from Heap.size_push ..]
  rw [List.forIn_nil]
  exact wpAny_bind (wpAny_pure (wpAny_pure hQ))
structure CompScope (env:Env) (scope:Scope) (caps:List Str):Prop where
 clos:closureFor scope env=pure (qmk env.cells scope.names [])
 kind:scope.kind = .function
 cells:scope.names.all (fun y => !(y.2 == .cell)||scope.names.lookup y.1==some .cell)=true
 names:scope.names.all (fun y => !(y.2 == .local)||scope.names.lookup y.1==some .local)=true
 free:scope.names.all (fun y => !(y.2 == .free)||(env.cells.lookup y.1).isSome)=true
 cap:caps.all (fun x=>scope.names.lookup x==some .free&&(env.scope.names.lookup x==some .cell||env.scope.names.lookup x==some .free))=true
theorem qdp {β:Type} : ∀ {l:List (Str×β)}{x:Str}{c:β},l.lookup x=some c→(x,c) ∈ l:=fun h=>PySem.mem_of_lookup h
theorem qnp : ∀ {l:List (Str×Addr)}{x:Str}{c:Addr},(x,c) ∈ l → ∃ d,l.lookup x=some d
 | [],_,_,h=>by simp at h
 | (y,d)::r,x,c,h=>by
  by_cases e:x=y
  ·subst e;exact ⟨d,by simp⟩
  ·have hb:(x==y)=false:=by simpa using e
   rcases List.mem_cons.mp h with h|h
   ·cases h;exact absurd rfl e
   ·obtain ⟨d',hd⟩:=qnp h
    exact ⟨d',by rw [List.lookup_cons,hb];exact hd⟩
section
variable {env:Env}{scope:Scope}{caps:List Str}
abbrev clOf (scope:Scope) (env:Env):List (Str×Addr):=qmk env.cells scope.names []
theorem CompScope.sub (S:CompScope env scope caps) {x:Str}{c:Addr} (h:(clOf scope env).lookup x=some c):env.cells.lookup x=some c:=by
 rcases qim (qdp h) with h|h
 ·simp at h
 ·exact h
theorem qfm {x:Str}{k:NameKind} (h:(relabel scope env).names.lookup x=some k) : ∃ k',(x,k') ∈ scope.names∧(k'=k∨(k' = .free∧k = .cell)):=by
 have hm:=qdp h
 obtain ⟨⟨n,k0⟩,h1,h2⟩:=List.mem_map.mp hm
 dsimp only at h2
 split at h2
 ·rename_i hc
  cases h2
  have:k0 = .free:=by
   have:=(Bool.and_eq_true_iff.mp (Bool.and_eq_true_iff.mp hc).1).1
   simpa using this
  subst this
  exact ⟨_,h1,.inr ⟨rfl,rfl⟩⟩
 ·cases h2
  exact ⟨_,h1,.inl rfl⟩
abbrev qjm (scope:Scope) (env:Env) (n:Nat):List (Str×Addr):=cellsFrom n scope.names (clOf scope env)
theorem CompScope.hasF (S:CompScope env scope caps) {x:Str} (key:(x,NameKind.free) ∈ scope.names) : ∃ c,(clOf scope env).lookup x=some c:=by
 have:=List.all_eq_true.mp S.free _ key
 have hs:(env.cells.lookup x).isSome=true:=by simpa using this
 obtain ⟨c,hc⟩:=Option.isSome_iff_exists.mp hs
 obtain ⟨d,hd⟩:=qid (cells:=env.cells) (names:=scope.names) (acc:=[]) (.inr ⟨key,c,hc⟩)
 exact qnp hd
theorem CompScope.isC (S:CompScope env scope caps) {x:Str} (h:(x,NameKind.cell) ∈ scope.names):scope.names.lookup x=some .cell:=by
 have:=List.all_eq_true.mp S.cells _ h
 simpa using this
theorem CompScope.has (S:CompScope env scope caps) {x:Str} (n:Nat) (h:(relabel scope env).names.lookup x=some .cell∨(relabel scope env).names.lookup x=some .free) : ∃ c,(qjm scope env n).lookup x=some c:=by
 have key:scope.names.lookup x=some .cell∨(x,NameKind.free) ∈ scope.names:=by
  rcases h with h|h
  ·obtain ⟨k',h1,h2⟩:=qfm h
   rcases h2 with rfl|⟨rfl,_⟩
   ·exact .inl (S.isC h1)
   ·exact .inr h1
  ·obtain ⟨k',h1,h2⟩:=qfm h
   rcases h2 with rfl|⟨_,h2⟩
   ·exact .inr h1
   ·cases h2
 refine Option.isSome_iff_exists.mp (PySem.W.cellsFrom_some scope.names n _ ?_)
 rcases key with k|k
 ·exact .inl k
 ·obtain ⟨c,hc⟩:=S.hasF k
  exact .inr (by rw [hc];rfl)
theorem CompScope.look (S:CompScope env scope caps) {x:Str}{n:Nat}{c:Addr} (h:(qjm scope env n).lookup x=some c):(n≤c∧(x,NameKind.cell) ∈ scope.names)∨env.cells.lookup x=some c:=by
 rcases qpb h with q|q
 ·exact .inl q
 ·exact .inr (S.sub q)
end
def blk (X:Cx) (pins:List (Addr×Obj)) (scope:Scope) (N':List Str) (s3:Shared) (H:Hp) (ex:List Addr):Cx where
 prog:=X.prog
 w:=X.w
 K:=X.K
 mg:=X.mg
 base:=X.base
 A:=X.A
 N:=N'
 s₀:=s3
 H₀:=H
 env:=compEnvC scope (qjm scope X.env (s3.heap.objs.size+1)) s3.heap.objs.size X.env
 outer:=X.stack
 stack:=X.stack
 ex:=ex
 fn:=fun x=>scope.names.lookup x==some .cell
 calm:=X.calm
 pn:=X.pn++pins
 xe:=fun _ _=>False
def qjp (ix:List Nat) (k:Nat) (σ:St):St:=ix.map (fun i=>(σ[i]?).join)++List.replicate k none
def qwk (ix:List Nat) (k:Nat) (wi:TI) (g:TG) (te:TE):TE:=fun σ H Q=>wi σ H fun J H1 => ∃ W:Nat→Nat→List V→St→Hp→Prop,(∃ m,W 0 m [] (qjp ix k σ) H1) ∧ ∀ i m ys σ1 H2,W i m ys σ1 H2 →
 (J.stop i H2∧ys.length≤sizeLine ∧ ∀ p,H2 p=none→Q (.ref p) (upd H2 p (.lst ys))) ∨
 (J.go i H2∧ys.length<sizeLine ∧ ∃ N:V→St→Hp→Prop,(∀ y σ2 H5,N y σ2 H5 → ∃ m',m'<m∧W (i+1) m' (ys++[y]) σ2 H5) ∧ ∀ x H3,J.yld i H2 x H3→g x σ1 H3 fun σ2 H4=>te σ2 H4 fun y H5=>N y σ2 H5)
theorem qhg {prog:Program}{w:World}{A:Around}{R:Result→Shared→Prop}{s:Shared}{elt target iter:Expr}{scope:Scope}{pos:Pos}{it acc:Value}{env:Env} (I:Nat→Shared→Prop)
 (turn : ∀ n s,I n s→wpAny (model prog w) A (pyNext it) (fun r s₁=>match r with
  | none=>R (.ok .next) s₁
  | some v=>wpAny (model prog w) A (letOwnedTupleGo target it v) (fun _ s₁'=>wpAny (model prog w) A (assign target env v) (fun _ s₂=>wpAny (model prog w) A (eval elt env) (fun x s₃ =>
   wpAny (model prog w) A (call (.builtin "list.append") [acc,x]) (fun _ s₄ => ∃ m,m<n∧I m s₄) (notedBy (model prog w) A env fun e s'=>R (.error e) s') s₃)
   (notedBy (model prog w) A env fun e s'=>R (.error e) s') s₂) (notedBy (model prog w) A env fun e s'=>R (.error e) s') s₁') (notedBy (model prog w) A env fun e s'=>R (.error e) s') s₁) (notedBy (model prog w) A env fun e s'=>R (.error e) s') s)
  (n:Nat) (h:I n s):codeAny (model prog w) A (.compLoop (.ListComp elt [⟨target,iter,[],0⟩] scope pos) 0 it acc env) R s:=by
  refine codeAny_loop rfl I (fun n s hI=>?_) n h
  show wpAny _ _ ((compTurn (.ListComp elt [⟨target,iter,[],0⟩] scope pos) 0 it acc env).onRaise (fun x=>do noteFrame x env;theTreesLotGoes x)) _ _ s
  refine wpAny_noted ?_
  rw [compTurn_list1]
  refine wpAny_bind (wpAny_standAt (wpAny_bind (wpAny_mono (turn n s hI) (fun r s₁ h₁=>?_) fun _ _ h'=>h')))
  cases r with
  | none=>exact wpAny_pure h₁
  | some v =>
   exact wpAny_bind (wpAny_mono h₁ (fun _ s₁' h₁'=>wpAny_bind (wpAny_mono h₁' (fun _ s₂ h₂=>wpAny_bind (wpAny_bind (wpAny_mono h₂ (fun x s₃ h₃=>wpAny_bind (wpAny_mono h₃
    (fun _ s₄ h₄=>wpAny_pure (wpAny_pure ⟨rfl,h₄⟩)) fun _ _ h'=>h')) fun _ _ h'=>h'))) fun _ _ h'=>h')) fun _ _ h'=>h')
section
variable {X:Cx}{elt target iter:Expr}{scope:Scope}{pos:Pos}{caps own:List Str}{ix:List Nat}{wi:TI}{g:TG}{te:TE}
def tYes:TT:=fun _ H Q=>Q true H
abbrev TstT:=Env→(Bool→Shared→Prop)→(Value→Shared→Prop)→Shared→Prop
def zals (prog:Program) (w:World) (A:Around) (elt target iter:Expr) (cs:List Expr) (scope:Scope) (pos:Pos) (Tst:TstT):Prop := ∀ {R:Result→Shared→Prop}{s:Shared}{it acc:Value}{env:Env} (I:Nat→Shared→Prop)
 (turn : ∀ n s,I n s→wpAny (model prog w) A (pyNext it) (fun r s₁=>match r with
  | none=>R (.ok .next) s₁
  | some v=>wpAny (model prog w) A (letOwnedTupleGo target it v) (fun _ s₁'=>wpAny (model prog w) A (assign target env v) (fun _ s₂=>Tst env (fun b s₂'=>match b with
   | true=>wpAny (model prog w) A (eval elt env) (fun x s₃ =>
    wpAny (model prog w) A (call (.builtin "list.append") [acc,x]) (fun _ s₄ => ∃ m,m<n∧I m s₄) (notedBy (model prog w) A env fun e s'=>R (.error e) s') s₃)
    (notedBy (model prog w) A env fun e s'=>R (.error e) s') s₂'
   | false => ∃ m,m<n∧I m s₂') (notedBy (model prog w) A env fun e s'=>R (.error e) s') s₂) (notedBy (model prog w) A env fun e s'=>R (.error e) s') s₁') (notedBy (model prog w) A env fun e s'=>R (.error e) s') s₁) (notedBy (model prog w) A env fun e s'=>R (.error e) s') s)
 (n:Nat) (h:I n s),codeAny (model prog w) A (.compLoop (.ListComp elt [⟨target,iter,cs,0⟩] scope pos) 0 it acc env) R s
theorem qrb {cs:List Expr}{tt:TT}{Tst:TstT} (hloop:zals X.prog X.w X.A elt target iter cs scope pos Tst) (hc:X.calm=true) (S:CompScope X.env scope caps) (hi:PI X target iter wi)
 (hg : ∀ pins s3 H ex,PG (blk X pins scope (caps++own) s3 H ex) target g)
 (he : ∀ pins s3 H ex,PE (blk X pins scope (caps++own) s3 H ex) elt te)
 (htst : ∀ pins s3 H ex pins' s σ H' Qb P E,Inv (blk X pins scope (caps++own) s3 H ex) pins' σ H' s→tt σ H' Qb→(∀ b s' H'',Inv (blk X pins scope (caps++own) s3 H ex) pins' σ H'' s'→Qb b H''→P b s')→Tst (blk X pins scope (caps++own) s3 H ex).env P E s)
 (hix:caps.length=ix.length) (hcapB:(caps.zip ix).all (fun p=>X.N[p.2]?==some p.1)=true)
 (hs : ∀ x,foldedSetIterable iter X.env x=pure x) {use:Option (Value→Sem Unit)}{Q0:Value→Shared→Prop}{Qv:VK}{pins:List (Addr×Obj)}{s:Shared}{σ:St}{H:Hp}{pos':Pos} (I:Inv X pins σ H s) {Inner:It→Hp→Prop} (h:wi σ H Inner)
 (hin : ∀ J H1,Inner J H1 → ∃ W:Nat→Nat→List V→St→Hp→Prop,(∃ m,W 0 m [] (qjp ix own.length σ) H1) ∧ ∀ i m ys σ1 H2,W i m ys σ1 H2 →
 (J.stop i H2∧ys.length≤sizeLine ∧ ∀ p,H2 p=none→Qv (.ref p) (upd H2 p (.lst ys))) ∨
 (J.go i H2∧ys.length<sizeLine ∧ ∃ (N:V→St→Hp→Prop) (N0:St→Hp→Prop),(∀ y σ2 H5,N y σ2 H5 → ∃ m',m'<m∧W (i+1) m' (ys++[y]) σ2 H5)∧(∀ σ2 H5,N0 σ2 H5 → ∃ m',m'<m∧W (i+1) m' ys σ2 H5) ∧
 ∀ x H3,J.yld i H2 x H3→g x σ1 H3 fun σ2 H4=>tt σ2 H4 fun b H5=>match b with|true=>te σ2 H5 fun y H6=>N y σ2 H6|false=>N0 σ2 H5))
 (fin : ∀ (D C:Addr) (s6:Shared) (H6:Hp) (m6:Str→Option Value),s6.heap.Ns C m6→Inv X pins σ H6 s6→H6 C=none→C≠X.env.locals→C ∉ X.fs→(C ∈ X.ex∨X.s₀.heap.objs.size≤C)→(∀ x c,X.env.cells.lookup x=some c→c≠C)→(∀ p ∈ X.pn++pins,p.1≠C)→Qv (.ref D) H6 →
 compPost (model X.prog X.w) X.A X.xe use Q0 (.ref D) C (.ok .next) s6) :
 wpAny (model X.prog X.w) X.A (comprehension (.ListComp elt [⟨target,iter,cs,0⟩] scope pos) scope X.env pos' (newList []) false (eval iter X.env) use) Q0 X.xe s:=by
  have hcap : ∀ (j:Nat) (x:Str) (i:Nat),caps[j]?=some x→ix[j]?=some i→X.N[i]?=some x:=fun j x i h1 h2=>by
   have hm:(x,i) ∈ caps.zip ix:=by
    have:(caps.zip ix)[j]?=some (x,i):=by rw [List.getElem?_zip_eq_some];exact ⟨h1,h2⟩
    exact List.mem_of_getElem? this
   have:=List.all_eq_true.mp hcapB _ hm
   simpa using this
  have hnm : ∀ y ∈ scope.names,y.2 = .local→scope.names.lookup y.1=some .local:=fun y hy hl=>by
   have:=List.all_eq_true.mp S.names y hy
   rw [hl] at this
   simpa using this
  refine wpAny_comprehension_free (use:=use) rfl hs S.clos S.kind hnm (thn (hi pins s σ H _ I h) fun v s1 h1=>thn h1 fun itv s2 h2=>?_)
  obtain ⟨it,fp,tn,J,H2,e,I2,T,st2,f2,hJ⟩:=h2
  obtain ⟨W,⟨m0,w0⟩,turn⟩:=hin J H2 hJ
  subst e
  refine wpAny_newObj_type (qrh ?_)
  dsimp only
  generalize eh0:s2.heap.push { cls :=.type "list",data :=.seq #[] }=h3
  have hns₁:(pushCells (h3.push { cls :=.type "dict",data :=.dict #[] }) scope.names).Ns h3.objs.size (fun _=>none):=(Heap.Ns.new h3 (.type "dict")).keeps (pushCells_keeps _ _)
  have hkp : ∀ b o,h3.get? b=some o→(pushCells (h3.push { cls :=.type "dict",data :=.dict #[] }) scope.names).get? b=some o:=fun b o q=>pushCells_keeps _ _ b o (Heap.get?_push_of_some _ q)
  have hcl₁ : ∀ x c,(qjm scope X.env (h3.objs.size+1)).lookup x=some c→(clOf scope X.env).lookup x=some c∨(pushCells (h3.push { cls :=.type "dict",data :=.dict #[] }) scope.names).IsCell c none:=fun x c q=>by
   refine qnf (h:=h3.push { cls :=.type "dict",data :=.dict #[] }) ?_
   rw [Heap.size_push];exact q
  generalize pushCells (h3.push { cls :=.type "dict",data :=.dict #[] }) scope.names=h₁ at hns₁ hkp hcl₁ ⊢
  obtain ⟨s3,hs3⟩ : ∃ s3:Shared,s3={ s2 with heap:=h3 }:=⟨_,rfl⟩
  have e3:h3=s3.heap:=by rw [hs3]
  subst e3
  have eh:s3.heap=s2.heap.push { cls :=.type "list",data :=.seq ([]:List Value).toArray }:=eh0.symm
  have hC:s3.heap.objs.size=s2.heap.objs.size+1:=by rw [eh,Heap.size_push]
  have hDlt:s2.heap.objs.size<s3.heap.objs.size:=by omega
  have k23 : ∀ b o,s2.heap.get? b=some o→s3.heap.get? b=some o:=fun b o q=>by rw [eh];exact Heap.get?_push_of_some _ q
  have hD3:s3.heap.get? s2.heap.objs.size=some { cls :=.type "list",data :=.seq ([]:List Value).toArray }:=by rw [eh];exact Heap.get?_push_size _ rfl
  have I3:Inv X pins σ H2 s3:=by rw [hs3];exact I2.kept (t':=s2.toks) k23
  have k34 : ∀ b o,s3.heap.get? b=some o→h₁.get? b=some o:=hkp
  have fpl : ∀ b ∈ fp,b<s2.heap.objs.size:=fun b hb=>by
   obtain ⟨o,q,_⟩:=T.obj 0 _ st2 b hb
   exact Heap.lt_size q
  have cel : ∀ x c,X.env.cells.lookup x=some c→c<s2.heap.objs.size:=fun x c q=>by
   obtain ⟨v,o,z,_⟩:=I2.cell x c q
   exact Heap.lt_size z
  have ncl : ∀ x c,(qjm scope X.env (s3.heap.objs.size+1)).lookup x=some c→X.env.cells.lookup x=some c∨s3.heap.objs.size<c:=fun x c q=>(S.look q).elim (fun z => .inr z.1) .inl
  have pnl : ∀ p ∈ X.pn++pins,p.1<s2.heap.objs.size:=fun p hp=>Heap.lt_size (I2.pin p hp).1
  have hDn:H2 s2.heap.objs.size=none:=I2.hok.fresh (Nat.le_refl _)
  have ok:(blk X pins scope (caps++own) s3 H2 (s2.heap.objs.size::fp)).Ok:=by
   refine ⟨I2.mod,S.kind,I2.ok.glob,I2.ok.blt,Nat.le_refl _,fun x y c h1 h2=>?_,fun x hx=>S.has _ hx,fun x c hf q=>?_,I2.ok.hd,I2.ok.frames,.inl rfl,fun b hb=>?_,I3.bs,?_,fun b o q hb=>?_,fun b hb=>?_,I3.stack,I3.stkFree⟩
   ·rcases ncl x c h1 with q1|q1
    ·rcases ncl y c h2 with q2|q2
     ·exact I2.ok.inj x y c q1 q2
     ·exact absurd (Nat.lt_trans (cel x c q1) hDlt) (Nat.not_lt.mpr (Nat.le_of_lt q2))
    ·exact qtd (n:=s3.heap.objs.size+1) (acc:=clOf scope X.env) (fun z a q=>Nat.lt_succ_of_lt (Nat.lt_trans (cel z a (S.sub q)) hDlt)) q1 h1 h2
   ·exact Nat.le_trans (Nat.le_succ _) (qkx (lo:=s3.heap.objs.size+1) (Nat.le_refl _) (.inl (qdp (beq_iff_eq.mp hf))) q)
   ·have hb':b=s2.heap.objs.size∨b ∈ fp:=List.mem_cons.mp hb
    rcases hb' with rfl|hb'
    ·exact ⟨Nat.ne_of_lt hDlt,fun x c q=>(ncl x c q).elim (fun z=>Nat.ne_of_lt (cel x c z)) fun z=>Nat.ne_of_gt (Nat.lt_trans hDlt z)⟩
    ·exact ⟨Nat.ne_of_lt (Nat.lt_trans (fpl b hb') hDlt),fun x c q=>(ncl x c q).elim (fun z=>(f2 b hb').2.2.2.2.1 x c z) fun z=>Nat.ne_of_gt (Nat.lt_trans (fpl b hb') (Nat.lt_trans hDlt z))⟩
   ·exact Nat.le_trans I2.ok.bsz I3.sz
   ·have hlt:b<X.base.objs.size:=Heap.lt_size q
    have hb':b=s2.heap.objs.size∨b ∈ fp:=List.mem_cons.mp hb
    have h1:=I2.ok.bsz
    have h2:=I2.sz
    rcases hb' with rfl|hb'
    ·exact absurd hlt (Nat.not_lt.mpr (Nat.le_trans h1 h2))
    ·rcases (f2 b hb').2.2.2.1 with z|z
     ·exact I2.ok.noex b o q z
     ·exact absurd hlt (Nat.not_lt.mpr (Nat.le_trans h1 z))
   ·have hb':b=s2.heap.objs.size∨b ∈ fp:=List.mem_cons.mp hb
    intro z
    have z':=I2.stkSub b z
    rcases hb' with rfl|hb'
    ·rcases List.mem_cons.mp z' with z'|z'
     ·exact Nat.ne_of_gt I2.lt z'
     ·exact I2.nofs (Nat.le_refl _) z'
    ·rcases List.mem_cons.mp z' with z'|z'
     ·exact (f2 b hb').2.1 z'
     ·exact (f2 b hb').2.2.1 z'
  have len0:(qjp ix own.length σ).length=(caps++own).length:=by unfold qjp;simp [hix]
  have I4:Inv (blk X pins scope (caps++own) s3 H2 (s2.heap.objs.size::fp)) [] (qjp ix own.length σ) H2 { s2 with heap:=h₁ }:=by
   obtain ⟨mX,nsX,lkX⟩:=I3.loc
   refine ⟨ok,(by show s2.os=s3.os;rw [hs3]),I2.bare,Un.kept k34,⟨_,hns₁,fun j x v h1 h2 h3=>?_⟩,fun x c q=>?_,I3.hok.fresh (Nat.le_refl _),fun x c q=>(ncl x c q).elim (fun z=>I3.freeC x c z) fun z=>I3.hok.fresh (Nat.le_of_lt z),fun p hp=>?_,I3.hok.kept k34,len0⟩
   ·-- a captured name
    have hj:j<ix.length:=by
     unfold qjp at h2
     by_cases hj:j<ix.length
     ·exact hj
     ·rw [List.getElem?_append_right (by simpa using hj),List.getElem?_replicate] at h2
      split at h2 <;> cases h2
    have h1':caps[j]?=some x:=by
     have:(caps++own)[j]?=some x:=h1
     rwa [List.getElem?_append_left (by omega)] at this
    have hij:ix[j]?=some ix[j]:=List.getElem?_eq_getElem hj
    have hv:σ[ix[j]]?=some (some v):=by
     unfold qjp at h2
     rw [List.getElem?_append_left (by simpa using hj),List.getElem?_map,hij] at h2
     have h2':(σ[ix[j]]?).join=some v:=by simpa using h2
     cases q:σ[ix[j]]? with
     | none=>rw [q] at h2';cases h2'
     | some o=>rw [q] at h2';cases o with
      | none=>cases h2'
      | some y=>have:y=v:=by simpa using h2'
                rw [this]
    have hk:=List.all_eq_true.mp S.cap x (List.mem_of_getElem? h1')
    obtain ⟨k1,k2⟩:=Bool.and_eq_true_iff.mp hk
    have k1':scope.names.lookup x=some .free:=by simpa using k1
    have k2':X.env.scope.names.lookup x=some .cell∨X.env.scope.names.lookup x=some .free:=by simpa using k2
    obtain ⟨u,ru,lk⟩:=lkX ix[j] x v (hcap j x _ h1' hij) hv (k2'.elim (fun z => .inr (.inl z)) (fun z => .inr (.inr z)))
    refine ⟨u,ru,?_⟩
    have hrel:(relabel scope X.env).names.lookup x=some .cell∨(relabel scope X.env).names.lookup x=some .free:=by
     rcases h3 with h3|h3|h3
     ·have h3':(relabel scope X.env).names.lookup x=some NameKind.local:=h3
      obtain ⟨k',m1,m2⟩:=qfm h3'
      rcases m2 with rfl|⟨_,m2⟩
      ·have:=hnm _ m1 rfl
       rw [k1'] at this;cases this
      ·cases m2
     ·exact .inl h3
     ·exact .inr h3
    have hxc:(x,NameKind.cell) ∉ scope.names:=fun z=>by
     have:=S.isC z
     rw [k1'] at this;cases this
    obtain ⟨c,hcl⟩:=S.hasF (qdp k1')
    have hcl':(qjm scope X.env (s3.heap.objs.size+1)).lookup x=some c:=(qtm hxc).trans hcl
    rcases lk with ⟨kl,_⟩|⟨_,c',ec,ic⟩
    ·have kl':X.env.scope.names.lookup x=some .local:=kl
     rcases k2' with z|z <;> (rw [kl'] at z;cases z)
    ·have:=S.sub hcl
     have ee:c'=c:=by rw [ec] at this;exact Option.some.inj this
     exact .inr ⟨hrel,c,hcl',ee ▸ ic.keeps k34⟩
   ·rcases hcl₁ x c q with z|z
    ·obtain ⟨v,ic⟩:=I3.cell x c (S.sub z)
     exact ⟨v,ic.keeps k34⟩
    ·exact ⟨_,z⟩
   ·have hp':p ∈ X.pn++pins:=by simpa [blk] using hp
    obtain ⟨q1,q2,q3,q4,q5⟩:=I3.pin p hp'
    refine ⟨k34 _ _ q1,q2,Nat.ne_of_lt (Nat.lt_trans (pnl p hp') hDlt),fun z=>?_,q5⟩
    rcases List.mem_cons.mp (I3.stkSub p.1 z) with z'|z'
    ·exact q3 z'
    ·exact q4 z'
  have hD4:h₁.get? s2.heap.objs.size=some { cls :=.type "list",data :=.seq ([]:List Value).toArray }:=k34 _ _ hD3
  have st4:tn 0 h₁:=T.keep _ _ _ st2 fun b _ o q=>k34 b o (k23 b o q)
  have fpk : ∀ {H':Hp}{ob:Obj},(∀ b ∈ fp,H' b=none) → ∀ b ∈ fp,qyl (blk X pins scope (caps++own) s3 H2 (s2.heap.objs.size::fp)) [(s2.heap.objs.size,ob)] H' b:=fun {H' ob} hn b hb=>by
   obtain ⟨_,a1,a2,a3,a4,a5⟩:=f2 b hb
   refine ⟨hn b hb,Nat.ne_of_lt (Nat.lt_trans (fpl b hb) hDlt),fun z=>?_,.inl (List.mem_cons_of_mem _ hb),fun x c q=>(ncl x c q).elim (fun z=>a4 x c z) fun z=>Nat.ne_of_gt (Nat.lt_trans (fpl b hb) (Nat.lt_trans hDlt z)),fun p hp=>?_⟩
   ·rcases List.mem_cons.mp (I2.stkSub b z) with z'|z'
    ·exact a1 z'
    ·exact a2 z'
   ·have hp':p ∈ X.pn++pins∨p=(s2.heap.objs.size,ob):=by simpa [blk,or_assoc] using hp
    rcases hp' with hp'|rfl
    ·exact a5 p hp'
    ·exact Nat.ne_of_gt (fpl b hb)
  have loop : ∀ s5:Shared,s5=({ s2 with heap:=h₁ }:Shared) →
   codeAny (model X.prog X.w) X.A (.compLoop (.ListComp elt [⟨target,iter,cs,0⟩] scope pos) 0 (.ref it) (.ref s2.heap.objs.size) (compEnvC scope (qjm scope X.env (s3.heap.objs.size+1)) s3.heap.objs.size X.env))
    (compPost (model X.prog X.w) X.A X.xe use Q0 (.ref s2.heap.objs.size) s3.heap.objs.size) s5:=by
   rintro s5 rfl
   refine hloop (fun n s' => ∃ i ys its cp σ' H',Inv (blk X pins scope (caps++own) s3 H2 (s2.heap.objs.size::fp)) [] σ' H' s'∧tn i s'.heap∧(∀ b ∈ fp,H' b=none)∧H' s2.heap.objs.size=none ∧
    s'.heap.get? s2.heap.objs.size=some { cls :=.type "list",data :=.seq (its:List Value).toArray cp }∧Vals ys its∧W i n ys σ' H') ?_ m0 ⟨0,[],[],_,_,H2,I4,st4,fun b hb=>(f2 b hb).1,hDn,hD4,.nil,w0⟩
   rintro n s5 ⟨i,ys,its,cp,σ5,H5,I5,st5,fr5,hD5,gD5,rv5,w5⟩
   have Dfs:s2.heap.objs.size ∉ (blk X pins scope (caps++own) s3 H2 (s2.heap.objs.size::fp)).fs:=fun z=>by
    rcases List.mem_cons.mp (I2.stkSub _ z) with z'|z'
    ·exact Nat.ne_of_gt I2.lt z'
    ·exact I2.nofs (Nat.le_refl _) z'
   have I5':Inv (blk X pins scope (caps++own) s3 H2 (s2.heap.objs.size::fp)) [(s2.heap.objs.size,{ cls :=.type "list",data :=.seq its.toArray cp })] σ5 H5 s5:=by
    refine I5.pins_of fun p hp=>?_
    have hp':p ∈ (blk X pins scope (caps++own) s3 H2 (s2.heap.objs.size::fp)).pn++[]∨p=(s2.heap.objs.size,{ cls :=.type "list",data :=.seq its.toArray cp }):=by
     first
      | exact .inr (List.mem_singleton.mp hp)
      | (rcases List.mem_append.mp hp with z|z
         ·exact .inl (List.mem_append_left _ z)
         ·exact .inr (List.mem_singleton.mp z))
    rcases hp' with z|rfl
    ·exact I5.pin p z
    ·exact ⟨gD5,hD5,Nat.ne_of_lt hDlt,Dfs,fun v z=>by cases z⟩
   rcases turn i n ys σ5 H5 w5 with ⟨stop,hz,qn⟩|⟨go,hz,N,N0,hN,hN0,step⟩
   ·refine thn (T.done (blk X pins scope (caps++own) s3 H2 (s2.heap.objs.size::fp)) rfl rfl rfl hc i _ s5 σ5 H5 _ I5' (fpk fr5) st5 stop) fun r s6 ⟨hr,I6⟩=>?_
    subst hr
    obtain ⟨m6,ns6,_⟩:=id I6.loc
    have gD6:=(I6.pin _ (List.mem_append_right _ (List.mem_singleton.mpr rfl))).1
    have kC : ∀ b o,b≠s3.heap.objs.size→s6.heap.get? b=some o→s6.heap.get? b=some o:=fun b o _ q=>q
    have bne : ∀ b o,s2.heap.get? b=some o→b≠s3.heap.objs.size:=fun b o q=>Nat.ne_of_lt (Nat.lt_trans (Heap.lt_size q) hDlt)
    have bnD : ∀ b o,s2.heap.get? b=some o→b≠s2.heap.objs.size:=fun b o q=>Nat.ne_of_lt (Heap.lt_size q)
    have nC : ∀ b u,H5 b=some u→b≠s3.heap.objs.size:=fun b u q z=>by
     have z1:H5 s3.heap.objs.size=none:=I6.free
     rw [z,z1] at q;cases q
    have U:=I6.base
    have IX:Inv X pins σ (upd H5 s2.heap.objs.size (.lst ys)) s6:=by
     refine I2.call' (ch:=s2.heap.objs.size::fp) ?_ ?_ ?_ I6.bare ?_
     ·show s6.os=s2.os
      rw [I6.os];show s3.os=s2.os;rw [hs3]
     ·refine ⟨fun b o q n hb hx=>kC b o (bne b o q) (U.keep b o (k23 b o q) n hb hx),fun b o q n hb hx=>?_,fun b o q n hx=>?_,fun b o q hx=>?_,fun b xs q=>?_,fun b o u q=>?_,fun b ps q=>?_⟩
      ·obtain ⟨sl,z⟩:=U.slot b o (k23 b o q) n hb hx
       exact ⟨sl,kC b _ (bne b o q) z⟩
      ·rw [qk (bnD b o q)];exact U.free b o (k23 b o q) n hx
      ·obtain ⟨o',z⟩:=U.there b o (k23 b o q) hx
       exact ⟨o',kC b _ (bne b o q) z⟩
      ·have:=U.tups b xs q
       rw [qk (ql this hD5)];exact this
      ·have:=U.frzs b o u q
       rw [qk (ql this hD5)];exact this
      ·obtain ⟨more,z⟩:=U.tbls b ps q
       exact ⟨more,by rw [qk (ql z hD5)];exact z⟩
     ·intro b u q
      by_cases hb:b=s2.heap.objs.size
      ·subst hb
       rw [qp] at q
       cases q
       exact ⟨hz,its,cp,rv5,kC _ _ (Nat.ne_of_lt hDlt) gD6⟩
      ·rw [qk hb] at q
       refine (I6.hok b u q).stay (fun c ob hc z=>kC c ob ?_ z) (fun c z=>by rw [qk (ql z hD5)];exact z) fun c xs z=>by rw [qk (ql z hD5)];exact z
       rcases hc with hc|hc
       ·rw [hc];exact nC b u q
       ·exact nC c _ hc
     ·intro b hb
      have hb':b=s2.heap.objs.size∨b ∈ fp:=List.mem_cons.mp hb
      rcases hb' with rfl|hb'
      ·exact ⟨.inr I2.sz,Nat.ne_of_gt I2.lt,fun x c q=>Nat.ne_of_lt (cel x c q),fun p hp=>Nat.ne_of_lt (pnl p hp)⟩
      ·obtain ⟨_,a1,_,a3,a4,a5⟩:=f2 b hb'
       exact ⟨a3,a1,a4,a5⟩
    have hCH:(upd H5 s2.heap.objs.size (.lst ys)) s3.heap.objs.size=none:=by
     rw [qk (Nat.ne_of_gt hDlt)];exact I6.free
    exact fin _ _ s6 _ m6 ns6 IX hCH (Nat.ne_of_gt (Nat.lt_trans I2.lt hDlt)) (I2.nofs (Nat.le_of_lt hDlt)) (.inr (Nat.le_trans I2.sz (Nat.le_of_lt hDlt))) (fun x c q=>Nat.ne_of_lt (Nat.lt_trans (cel x c q) hDlt)) (fun p hp=>Nat.ne_of_lt (Nat.lt_trans (pnl p hp) hDlt)) (qn _ hD5)
   ·refine thn (T.item (blk X pins scope (caps++own) s3 H2 (s2.heap.objs.size::fp)) rfl rfl rfl hc i _ s5 σ5 H5 _ I5' (fpk fr5) st5 go) fun r s6 ⟨u,hr,h6⟩=>?_
    subst hr
    refine thn h6 fun _ s7 xx65=>?_
    obtain ⟨x,H7,I7,r7,y7,st7,fr7⟩:=xx65
    have I7':=I7.pinned (fpk fr7) (T.obj _ _ st7)
    refine wpAny_mono (hg pins s3 H2 _ _ s7 σ5 H7 x u _ I7' r7 (step x H7 y7)) (fun _ s8 xx64=>?_) fun _ _ z=>z.elim
    obtain ⟨σ8,H8,I8,q8⟩:=xx64
    refine htst pins s3 H2 _ _ s8 σ8 H8 _ _ _ I8 q8 fun bt s8' H8' I8' q8'=>?_
    cases bt with
    | false =>
     have q9:N0 σ8 H8':=q8'
     obtain ⟨m',hm',w9⟩:=hN0 σ8 H8' q9
     have gD9:=(I8'.pin (s2.heap.objs.size,{ cls :=.type "list",data :=.seq its.toArray cp }) (List.mem_append_right _ (List.mem_append_left _ (List.mem_singleton.mpr rfl))))
     have pin8 : ∀ b ∈ fp,∀ o,s7.heap.get? b=some o→s8'.heap.get? b=some o∧H8' b=none:=fun b hb o q=>by
      have z:=I8'.pin (b,o) (List.mem_append_right _ (List.mem_append_right _ (qdh hb q)))
      exact ⟨z.1,z.2.1⟩
     refine ⟨m',hm',i+1,ys,its,cp,σ8,H8',?_,?_,fun b hb=>?_,gD9.2.1,gD9.1,rv5,w9⟩
     ·exact (I8'.pins_of (pins':=[]) (fun p hp=>by
       first
        | exact absurd hp (by simp)
        | (rw [List.append_nil] at hp;exact I8'.pin p (List.mem_append_left _ hp))))
     ·exact T.keep _ _ _ st7 fun b hb o q=>(pin8 b hb o q).1
     ·obtain ⟨o,q,_⟩:=T.obj _ _ st7 b hb
      exact (pin8 b hb o q).2
    | true =>
     refine wpAny_mono (he pins s3 H2 _ _ s8' σ8 H8' _ I8' q8') (fun uy s9 xx63=>?_) fun _ _ z=>z.elim
     obtain ⟨y,H9,I9,r9,n9⟩:=xx63
     obtain ⟨m',hm',w9⟩:=hN y σ8 H9 n9
     have gD9:=(I9.pin (s2.heap.objs.size,{ cls :=.type "list",data :=.seq its.toArray cp }) (List.mem_append_right _ (List.mem_append_left _ (List.mem_singleton.mpr rfl))))
     have pin9 : ∀ b ∈ fp,∀ o,s7.heap.get? b=some o→s9.heap.get? b=some o∧H9 b=none:=fun b hb o q=>by
      have z:=I9.pin (b,o) (List.mem_append_right _ (List.mem_append_right _ (qdh hb q)))
      exact ⟨z.1,z.2.1⟩
     have hl9:=rv5.length
     refine call_meets PySem.F.slot_list_append ⟨_,gD9.1,rfl⟩ PySem.F.entry_list_append (PySem.F.args_list_append_2 _ _) (PySem.list_append s2.heap.objs.size its.toArray cp uy (by rw [List.size_toArray];omega)) ⟨gD9.1,?_⟩
     have qD:=PySem.IsL.update gD9.1 (fun xs=>xs.push uy)
     have ep:its.toArray.push uy=(its++[uy]).toArray:=by simp
     rw [ep] at qD
     have up : ∀ b o,b≠s2.heap.objs.size→s9.heap.get? b=some o→(s9.heap.update s2.heap.objs.size (Obj.mapSeq fun xs=>xs.push uy)).get? b=some o:=fun b o hb q=>(Heap.get?_update_other s9.heap _ (Ne.symm hb)).trans q
     refine ⟨m',hm',i+1,ys++[y],its++[uy],_,σ8,H9,?_,?_,fun b hb=>?_,gD9.2.1,qD,rv5.append (.cons r9 .nil),w9⟩
     ·refine (I9.pins_of (pins':=[]) (fun p hp=>by
       first
        | exact absurd hp (by simp)
        | (rw [List.append_nil] at hp;exact I9.pin p (List.mem_append_left _ hp)))).turned (it:=s2.heap.objs.size) up gD9.2.1 (Nat.ne_of_lt hDlt) (.inl (List.mem_cons_self ..)) (fun x c q=>(ncl x c q).elim (fun z=>Nat.ne_of_lt (cel x c z)) fun z=>Nat.ne_of_gt (Nat.lt_trans hDlt z)) fun p hp=>?_
      have hp':p ∈ X.pn++pins:=by simpa [blk] using hp
      exact Nat.ne_of_lt (pnl p hp')
     ·exact T.keep _ _ _ st7 fun b hb o q=>up b o (Nat.ne_of_lt (fpl b hb)) (pin9 b hb o q).1
     ·obtain ⟨o,q,_⟩:=T.obj _ _ st7 b hb
      exact (pin9 b hb o q).2
  exact codeAny_compStart_list (loop _ rfl) (T.self _ 0 _ _ _ st4 (loop _ rfl))
theorem qnu (hc:X.calm=true) (S:CompScope X.env scope caps) (hi:PI X target iter wi)
 (hg : ∀ pins s3 H ex,PG (blk X pins scope (caps++own) s3 H ex) target g)
 (he : ∀ pins s3 H ex,PE (blk X pins scope (caps++own) s3 H ex) elt te)
 (hix:caps.length=ix.length) (hcapB:(caps.zip ix).all (fun p=>X.N[p.2]?==some p.1)=true)
 (hs : ∀ x,foldedSetIterable iter X.env x=pure x) {use:Option (Value→Sem Unit)}{Q0:Value→Shared→Prop}{Qv:VK}{pins:List (Addr×Obj)}{s:Shared}{σ:St}{H:Hp}{pos':Pos} (I:Inv X pins σ H s) (h:qwk ix own.length wi g te σ H Qv)
 (fin : ∀ (D C:Addr) (s6:Shared) (H6:Hp) (m6:Str→Option Value),s6.heap.Ns C m6→Inv X pins σ H6 s6→H6 C=none→C≠X.env.locals→C ∉ X.fs→(C ∈ X.ex∨X.s₀.heap.objs.size≤C)→(∀ x c,X.env.cells.lookup x=some c→c≠C)→(∀ p ∈ X.pn++pins,p.1≠C)→Qv (.ref D) H6 →
 compPost (model X.prog X.w) X.A X.xe use Q0 (.ref D) C (.ok .next) s6) :
 wpAny (model X.prog X.w) X.A (comprehension (.ListComp elt [⟨target,iter,[],0⟩] scope pos) scope X.env pos' (newList []) false (eval iter X.env) use) Q0 X.xe s:=by
  refine qrb (cs:=[]) (tt:=tYes) (Tst:=fun _ P _ s=>P true s) (fun J turn n h=>qhg J turn n h) hc S hi hg he (fun _ _ _ _ _ s _ H' _ _ _ I q k=>k true s H' I q) hix hcapB hs I h (fun J H1 z=>?_) fin
  obtain ⟨W,w0,turn⟩:=z
  refine ⟨W,w0,fun i m ys σ1 H2 w=>?_⟩
  rcases turn i m ys σ1 H2 w with z|z
  ·exact .inl z
  ·obtain ⟨go,hz,N,hN,step⟩:=z
   exact .inr ⟨go,hz,N,fun _ _=>False,hN,fun _ _ z=>z.elim,step⟩
theorem qyk (hc:X.calm=true) (S:CompScope X.env scope caps) (hi:PI X target iter wi)
 (hg : ∀ pins s3 H ex,PG (blk X pins scope (caps++own) s3 H ex) target g)
 (he : ∀ pins s3 H ex,PE (blk X pins scope (caps++own) s3 H ex) elt te)
 (hix:caps.length=ix.length:=by rfl) (hcapB:(caps.zip ix).all (fun p=>X.N[p.2]?==some p.1)=true:=by rfl)
  (hs : ∀ x,foldedSetIterable iter X.env x=pure x:=by intro _;rfl):PE X (.ListComp elt [⟨target,iter,[],0⟩] scope pos) (qwk ix own.length wi g te):=by
  intro pins s σ H Q I h
  rw [eval_ListComp]
  exact qnu (use:=none) (Q0:=EP X pins σ Q) hc S hi hg he hix hcapB hs I h fun D C s6 H6 m6 ns6 IX c1 c2 c3 c4 c5 c6 q=>⟨m6,ns6,fun h' sb=>⟨.ref D,H6,IX.turned (t':=s6.toks) (it:=C) (fun b o hb q=>sb.extBut b o hb q) c1 c2 c4 c5 c6,rfl,q⟩⟩
end
end L2
namespace L2
open PySem PySem.Spec PyProof.Rows
inductive Sl where
 | non
 | val (d:PyData)
 | own (ds:List PyData)
 | pen (ds:List PyData)
 | new (d:PyData)
 | exc (C:Addr)
  | obj (a C:Addr) (nm:List Str) (fs:List (Str×PyData))
abbrev Sto:=List Sl
def gS:Sto→Nat→Sl
 | [],_ => .non
 | s::_,0=>s
 | _::r,i+1=>gS r i
def Sl.mut:Sl→Bool
 | .own _=>true
 | .pen _=>true
 | _=>false
def vS (σ:St) (i:Nat):Option V:=(σ[i]?).join
theorem qds : ∀ (e:Sto) (i j:Nat) (s:Sl),gS (e.set i s) j=if i=j∧i<e.length then s else gS e j
 | [],i,j,s=>by simp [gS]
 | x::e,0,0,s=>by simp [gS]
 | x::e,0,j+1,s=>by simp [gS]
 | x::e,i+1,0,s=>by simp [gS]
 | x::e,i+1,j+1,s=>by
  simp only [List.set_cons_succ,gS,qds e i j s,List.length_cons,Nat.add_right_cancel_iff,Nat.add_lt_add_iff_right]
theorem qxb : ∀ {e:Sto}{i:Nat},e.length≤i→gS e i = .non
 | [],_,_=>by simp [gS]
 | x::e,0,h=>by simp at h
 | x::e,i+1,h=>by simp only [gS];exact qxb (by simpa using h)
theorem qmp (σ:St) (i j:Nat) (v:Option V):vS (σ.set i v) j=if i=j∧i<σ.length then v else vS σ j:=by
 unfold vS
 rw [List.getElem?_set]
 by_cases h:i=j
 ·subst h
  by_cases h2:i<σ.length
  ·simp [h2]
  ·simp [h2]
 ·simp [h]
theorem qbu {σ:St}{i:Nat}{v:V} (h:vS σ i=some v):σ[i]?=some (some v):=by
 unfold vS at h
 cases e:σ[i]? with
 | none=>rw [e] at h;cases h
 | some o=>rw [e] at h;cases o with
  | none=>cases h
  | some u=>simpa using h
structure Frm where
 B:Hp
 He:Hp
 F0:Hp
mutual
def IsN (K:PySem.W.Frag) (H:Hp):PyData→V→Prop
 | .none,v=>v = .non
 | .bool b,v=>v = .bl b
 | .int i,v=>v = .int i
 | .str x,v=>v = .str x
 | .list l,v => ∃ a xs,v = .ref a∧H a=some (.lst xs)∧IssN K H l xs
 | .tuple l,v => ∃ a xs,v = .ref a∧H a=some (.tup xs)∧IssN K H l xs
 | .dict _,_=>False
def IssN (K:PySem.W.Frag) (H:Hp):List PyData→List V→Prop
 | [],xs=>xs=[]
 | d::l,xs => ∃ x r,xs=x::r∧IsN K H d x∧IssN K H l r
end
mutual
theorem IsN.is {K:PySem.W.Frag}{H H':Hp} (s:Same H H') : ∀ {d:PyData}{v:V},IsN K H d v→Is K H' d v
 | .none,_,h=>by unfold IsN at h;unfold Is;exact h
 | .bool _,_,h=>by unfold IsN at h;unfold Is;exact h
 | .int _,_,h=>by unfold IsN at h;unfold Is;exact h
 | .str _,_,h=>by unfold IsN at h;unfold Is;exact h
 | .list l,_,h=>by
  unfold IsN at h;unfold Is
  obtain ⟨a,xs,e,q,r⟩:=h
  exact ⟨a,xs,e,SqL.of (s _ _ q),IssN.is s r⟩
 | .tuple l,_,h=>by
  unfold IsN at h;unfold Is
  obtain ⟨a,xs,e,q,r⟩:=h
  exact ⟨a,xs,e,SqT.of (s _ _ q),IssN.is s r⟩
 | .dict _,_,h=>by unfold IsN at h;exact h.elim
theorem IssN.is {K:PySem.W.Frag}{H H':Hp} (s:Same H H') : ∀ {l:List PyData}{xs:List V},IssN K H l xs→Iss K H' l xs
 | [],_,h=>by unfold IssN at h;unfold Iss;exact h
 | d::l,_,h=>by
  unfold IssN at h;unfold Iss
  obtain ⟨x,r,e,p,q⟩:=h
  exact ⟨x,r,e,IsN.is s p,IssN.is s q⟩
end
mutual
theorem IsN.mono {K:PySem.W.Frag}{H H':Hp} (s:Same H H') : ∀ {d:PyData}{v:V},IsN K H d v→IsN K H' d v
 | .none,_,h=>by unfold IsN at h ⊢;exact h
 | .bool _,_,h=>by unfold IsN at h ⊢;exact h
 | .int _,_,h=>by unfold IsN at h ⊢;exact h
 | .str _,_,h=>by unfold IsN at h ⊢;exact h
 | .list l,_,h=>by
  unfold IsN at h ⊢
  obtain ⟨a,xs,e,q,r⟩:=h
  exact ⟨a,xs,e,s _ _ q,IssN.mono s r⟩
 | .tuple l,_,h=>by
  unfold IsN at h ⊢
  obtain ⟨a,xs,e,q,r⟩:=h
  exact ⟨a,xs,e,s _ _ q,IssN.mono s r⟩
 | .dict _,_,h=>by unfold IsN at h;exact h.elim
theorem IssN.mono {K:PySem.W.Frag}{H H':Hp} (s:Same H H') : ∀ {l:List PyData}{xs:List V},IssN K H l xs→IssN K H' l xs
 | [],_,h=>by unfold IssN at h ⊢;exact h
 | d::l,_,h=>by
  unfold IssN at h ⊢
  obtain ⟨x,r,e,p,q⟩:=h
  exact ⟨x,r,e,IsN.mono s p,IssN.mono s q⟩
end
def qwc (M:Frm) (F:Hp):Hp:=fun b=>if (M.He b).isNone=true∧(M.B b).isNone=true then F b else none
theorem qof {M:Frm}{F:Hp}:Same (qwc M F) F:=fun b o e=>by
 unfold qwc at e;split at e
 ·exact e
 ·cases e
theorem qqf {M:Frm}{F F':Hp} (s:Same F F'):Same (qwc M F) (qwc M F'):=fun b o e=>by
 unfold qwc at e ⊢;split at e
 ·rename_i h;rw [if_pos h];exact s b o e
 ·cases e
def excO (C ea:Addr):HO :=.ext fun h => ∃ o,h.get? ea=some o∧o.cls = .ref C
section
variable (K:PySem.W.Frag) (M:Frm) (F H:Hp)
def SlotOk:Sl→Option V→Prop
 | .non,_=>True
 | .val d,x => ∃ v,x=some v∧Is K F d v
 | .own ds,x => ∃ a vs,x=some (.ref a)∧H a=some (.lst vs)∧F a=none∧M.B a=none∧M.He a=none∧Iss K F ds vs
 | .pen ds,x => ∃ a vs,x=some (.ref a)∧H a=some (.lst vs)∧F a=none∧M.B a=none∧(∃ o,M.He a=some o)∧Iss K F ds vs
 | .new d,x => ∃ v,x=some v∧IsN K (qwc M F) d v
 | .exc C,x => ∃ ea,x=some (.ref ea)∧F ea=some (excO C ea)
 | .obj a C nm fs,x => ∃ dx vs,x=some (.ref a)∧M.B a=some (.ins C dx vs)∧vs.map (·.1)=nm ∧ ∀ f d,(f,d) ∈ fs → ∃ v,vs.lookup f=some v∧Is K F d v
structure EnvOk (env:Sto) (σ:St):Prop where
 len:env.length=σ.length
 slot : ∀ i,SlotOk K M F H (gS env i) (vS σ i)
 dis : ∀ i j a,i≠j→(gS env i).mut=true→(gS env j).mut=true→vS σ i=some (.ref a)→vS σ j=some (.ref a)→False
 f0:Same M.F0 F
 fe:Same M.F0 M.He
 fh:Same F H
 bh:Same M.B H
 new : ∀ b o,F b=some o→M.F0 b=some o∨M.He b=none
 dom : ∀ b o,M.He b=some o → ∃ o',H b=some o'
end
structure Go (F H F' H':Hp):Prop where
 f:Same F F'
 h:Same H H'
 fh:Same F' H'
 new : ∀ b o,F' b=some o→F b=some o∨H b=none
theorem qH {H H':Hp} (s:Same H H') {b:Addr} (h:H' b=none):H b=none:=s.free h
theorem Go.refl {F H:Hp} (s:Same F H):Go F H F H:=⟨.refl _,.refl _,s,fun _ _ h => .inl h⟩
theorem Go.trans {F H F1 H1 F2 H2:Hp} (a:Go F H F1 H1) (b:Go F1 H1 F2 H2):Go F H F2 H2 :=
 ⟨a.f.trans b.f,a.h.trans b.h,b.fh,fun c o h=>(b.new c o h).elim (fun q=>a.new c o q) fun q => .inr (qH a.h q)⟩
theorem Go.put {F H:Hp}{p:Addr}{o:HO} (s:Same F H) (h:H p=none):Go F H (upd F p o) (upd H p o):=by
 refine ⟨qda (qH s h),qda h,fun b u e=>?_,fun b u e=>?_⟩
 ·unfold upd at e ⊢
  split at e
  ·rename_i z;rw [if_pos z];exact e
  ·rename_i z;rw [if_neg z];exact s b u e
 ·unfold upd at e
  split at e
  ·rename_i z;subst z;exact .inr h
  ·exact .inl e
theorem Go.side {F H:Hp}{p:Addr}{o:HO} (s:Same F H) (h:H p=none):Go F H F (upd H p o) :=
 ⟨.refl _,qda h,s.trans (qda h),fun _ _ e => .inl e⟩
section
variable {K:PySem.W.Frag}{M:Frm}{F H F' H':Hp}{env:Sto}{σ:St}
theorem SlotOk.go {s:Sl}{x:Option V} (h:SlotOk K M F H s x) (g:Go F H F' H'):SlotOk K M F' H' s x:=by
 have nf : ∀ {a:Addr}{o:HO},H a=some o→F a=none→F' a=none:=fun {a o} h1 h2=>by
  cases e:F' a with
  | none=>rfl
  | some u=>rcases g.new a u e with q|q
            ·rw [h2] at q;cases q
            ·rw [h1] at q;cases q
 cases s with
 | non=>trivial
 | val d=>obtain ⟨v,e,i⟩:=h;exact ⟨v,e,i.mono g.f⟩
 | own ds=>obtain ⟨a,vs,e,h1,h2,h3,h4,h5⟩:=h;exact ⟨a,vs,e,g.h _ _ h1,nf h1 h2,h3,h4,h5.mono g.f⟩
 | pen ds=>obtain ⟨a,vs,e,h1,h2,h3,hx,h5⟩:=h;exact ⟨a,vs,e,g.h _ _ h1,nf h1 h2,h3,hx,h5.mono g.f⟩
 | new d=>obtain ⟨v,e,i⟩:=h;exact ⟨v,e,i.mono (qqf g.f)⟩
 | exc C=>obtain ⟨ea,e,i⟩:=h;exact ⟨ea,e,g.f _ _ i⟩
 | obj a0 C nm fs=>obtain ⟨dx,vs,e,b,hn,i⟩:=h;exact ⟨dx,vs,e,b,hn,fun f d m=>let ⟨v,l,j⟩:=i f d m; ⟨v,l,j.mono g.f⟩⟩
theorem EnvOk.go (I:EnvOk K M F H env σ) (g:Go F H F' H'):EnvOk K M F' H' env σ where
 len:=I.len
 slot:=fun i=>(I.slot i).go g
 dis:=I.dis
 f0:=I.f0.trans g.f
 fe:=I.fe
 fh:=g.fh
 bh:=I.bh.trans g.h
 new:=fun b o e=>(g.new b o e).elim (fun q=>I.new b o q) fun q=>by
  refine .inr ?_
  cases z:M.He b with
  | none=>rfl
  | some u=>obtain ⟨o',q'⟩:=I.dom b u z;rw [q] at q';cases q'
 dom:=fun b o e=>let ⟨o',q⟩:=I.dom b o e; ⟨o',g.h _ _ q⟩
theorem EnvOk.he (I:EnvOk K M F H env σ) {a:Addr} (h:H a=none):M.He a=none:=by
 cases z:M.He a with
 | none=>rfl
 | some u=>obtain ⟨o',q'⟩:=I.dom a u z;rw [h] at q';cases q'
theorem EnvOk.setv (I:EnvOk K M F H env σ) {i:Nat}{d:PyData}{v:V} (h:Is K F d v):EnvOk K M F H (env.set i (.val d)) (σ.set i (some v)) where
 len:=by rw [List.length_set,List.length_set];exact I.len
 slot:=fun j=>by
  rw [qds,qmp,I.len]
  split
  ·exact ⟨v,rfl,h⟩
  ·exact I.slot j
 dis:=fun j k a hjk h1 h2 h3 h4=>by
  rw [qds] at h1 h2
  rw [qmp] at h3 h4
  rw [I.len] at h1 h2
  split at h1
  ·cases h1
  ·rename_i z1
   split at h2
   ·cases h2
   ·rename_i z2
    rw [if_neg z1] at h3
    rw [if_neg z2] at h4
    exact I.dis j k a hjk h1 h2 h3 h4
 f0:=I.f0
 fe:=I.fe
 fh:=I.fh
 bh:=I.bh
 new:=I.new
 dom:=I.dom
theorem EnvOk.seto (I:EnvOk K M F H env σ) {i:Nat}{ds:List PyData}{a:Addr}{vs:List V} (h1:H a=some (.lst vs)) (h2:F a=none) (h3:M.B a=none) (h4:M.He a=none)
 (h5 : ∀ j,(gS env j).mut=true→vS σ j≠some (.ref a)) (h6:Iss K F ds vs):EnvOk K M F H (env.set i (.own ds)) (σ.set i (some (.ref a))) where
  len:=by rw [List.length_set,List.length_set];exact I.len
  slot:=fun j=>by
   rw [qds,qmp,I.len]
   split
   ·exact ⟨a,vs,rfl,h1,h2,h3,h4,h6⟩
   ·exact I.slot j
  dis:=fun j k b hjk m1 m2 e1 e2=>by
   rw [qds] at m1 m2
   rw [qmp] at e1 e2
   rw [I.len] at m1 m2
   by_cases z1:i=j∧i<σ.length
   ·rw [if_pos z1] at m1 e1
    have z2 : ¬ (i=k∧i<σ.length):=fun z=>hjk (z1.1.symm.trans z.1)
    rw [if_neg z2] at m2 e2
    injection e1 with e1;injection e1 with e1;subst e1
    exact h5 k m2 e2
   ·rw [if_neg z1] at m1 e1
    by_cases z2:i=k∧i<σ.length
    ·rw [if_pos z2] at m2 e2
     injection e2 with e2;injection e2 with e2;subst e2
     exact h5 j m1 e1
    ·rw [if_neg z2] at m2 e2
     exact I.dis j k b hjk m1 m2 e1 e2
  f0:=I.f0
  fe:=I.fe
  fh:=I.fh
  bh:=I.bh
  new:=I.new
  dom:=I.dom
def Sl.upd:Sl→List PyData→Sl
 | .own _,ds => .own ds
 | .pen _,ds => .pen ds
 | s,_=>s
def Sl.cnt:Sl→List PyData
 | .own ds=>ds
 | .pen ds=>ds
 | _=>[]
theorem SlotOk.addr {s:Sl}{x:Option V} (h:SlotOk K M F H s x) (m:s.mut=true) : ∃ a vs,x=some (.ref a)∧H a=some (.lst vs)∧F a=none∧M.B a=none∧Iss K F s.cnt vs:=by
 cases s with
 | non=>cases m
 | val d=>cases m
 | own ds=>obtain ⟨a,vs,e,h1,h2,h3,h4,h5⟩:=h;exact ⟨a,vs,e,h1,h2,h3,h5⟩
 | pen ds=>obtain ⟨a,vs,e,h1,h2,h3,hx,h5⟩:=h;exact ⟨a,vs,e,h1,h2,h3,h5⟩
 | new d=>cases m
 | exc C=>cases m
 | obj a0 C nm fs=>cases m
theorem zahr {e:Sto}{i:Nat} (h:(gS e i).mut=true):i<e.length:=by
 by_cases z:i<e.length
 ·exact z
 ·rw [qxb (by omega)] at h;cases h
theorem EnvOk.chg (I:EnvOk K M F H env σ) {i:Nat}{a:Addr}{ds:List PyData}{vs:List V} (m:(gS env i).mut=true) (ea:vS σ i=some (.ref a)) (h:Iss K F ds vs):EnvOk K M F (upd H a (.lst vs)) (env.set i ((gS env i).upd ds)) σ:=by
 obtain ⟨a',vs0,e,h1,h2,h3,h5⟩:=(I.slot i).addr m
 rw [ea] at e;injection e with e;injection e with e;subst e
 have hi:=zahr m
 have mu:((gS env i).upd ds).mut=true:=by
  cases q:gS env i with
  | non=>rw [q] at m;cases m
  | val d=>rw [q] at m;cases m
  | own d=>rfl
  | pen d=>rfl
  | new d=>rw [q] at m;cases m
  | exc C=>rw [q] at m;cases m
  | obj a0 C nm fs=>rw [q] at m;cases m
 have muj : ∀ j,(gS (env.set i ((gS env i).upd ds)) j).mut=(gS env j).mut:=fun j=>by
  rw [qds]
  split
  ·rename_i z;rw [mu,← z.1,m]
  ·rfl
 refine ⟨by rw [List.length_set];exact I.len,fun j=>?_,fun j k b hjk m1 m2 e1 e2=>I.dis j k b hjk (muj j ▸ m1) (muj k ▸ m2) e1 e2,I.f0,I.fe,fun b o e=>?_,fun b o e=>?_,I.new,fun b o e=>?_⟩
 ·rw [qds]
  by_cases z:i=j
  ·subst z
   rw [if_pos ⟨rfl,hi⟩]
   have S:=I.slot i
   cases q:gS env i with
   | non=>rw [q] at m;cases m
   | val d=>rw [q] at m;cases m
   | own ds0 =>
    rw [q] at S
    obtain ⟨a',vs',e,g1,g2,g3,g4,g5⟩:=S
    rw [ea] at e;injection e with e;injection e with e;subst e
    exact ⟨a,vs,ea,qp,g2,g3,g4,h⟩
   | pen ds0 =>
    rw [q] at S
    obtain ⟨a',vs',e,g1,g2,g3,gx,g5⟩:=S
    rw [ea] at e;injection e with e;injection e with e;subst e
    exact ⟨a,vs,ea,qp,g2,g3,gx,h⟩
   | new d=>rw [q] at m;cases m
   | exc C=>rw [q] at m;cases m
   | obj a0 C nm fs=>rw [q] at m;cases m
  ·rw [if_neg (fun y=>z y.1)]
   have S:=I.slot j
   cases q:gS env j with
   | non=>trivial
   | val d=>rw [q] at S;exact S
   | own ds0 =>
    rw [q] at S
    obtain ⟨b,vs',e,g1,g2,g3,g4,g5⟩:=S
    have hb:b≠a:=fun y=>by subst y;exact I.dis i j b z m (by rw [q];rfl) ea e
    exact ⟨b,vs',e,by rw [qk hb];exact g1,g2,g3,g4,g5⟩
   | pen ds0 =>
    rw [q] at S
    obtain ⟨b,vs',e,g1,g2,g3,gx,g5⟩:=S
    have hb:b≠a:=fun y=>by subst y;exact I.dis i j b z m (by rw [q];rfl) ea e
    exact ⟨b,vs',e,by rw [qk hb];exact g1,g2,g3,gx,g5⟩
   | new d=>rw [q] at S;exact S
   | exc C=>rw [q] at S;exact S
   | obj a0 C nm fs=>rw [q] at S;exact S
 ·rw [qk (ql e h2)];exact I.fh b o e
 ·rw [qk (ql e h3)];exact I.bh b o e
 ·obtain ⟨o',q⟩:=I.dom b o e
  by_cases z:b=a
  ·subst z;exact ⟨_,qp⟩
  ·exact ⟨o',by rw [qk z];exact q⟩
theorem EnvOk.frz (I:EnvOk K M F H env σ) {a:Addr}{vs:List V} (h1:H a=some (.lst vs)) (h2:F a=none) (h4:M.He a=none) (h5 : ∀ j,(gS env j).mut=true→vS σ j≠some (.ref a)) :
 EnvOk K M (upd F a (.lst vs)) H env σ∧Same F (upd F a (.lst vs)):=by
  have sF:Same F (upd F a (.lst vs)):=qda h2
  refine ⟨⟨I.len,fun j=>?_,I.dis,I.f0.trans sF,I.fe,fun b o e=>?_,I.bh,fun b o e=>?_,I.dom⟩,sF⟩
  ·have S:=I.slot j
   have n5:=h5 j
   cases q:gS env j with
   | non=>trivial
   | val d=>rw [q] at S;obtain ⟨v,e,i⟩:=S;exact ⟨v,e,i.mono sF⟩
   | own ds0 =>
    rw [q] at S n5
    obtain ⟨b,vs',e,g1,g2,g3,g4,g5⟩:=S
    have hb:b≠a:=fun y=>by subst y;exact n5 rfl e
    exact ⟨b,vs',e,g1,by rw [qk hb];exact g2,g3,g4,g5.mono sF⟩
   | pen ds0 =>
    rw [q] at S n5
    obtain ⟨b,vs',e,g1,g2,g3,gx,g5⟩:=S
    have hb:b≠a:=fun y=>by subst y;exact n5 rfl e
    exact ⟨b,vs',e,g1,by rw [qk hb];exact g2,g3,gx,g5.mono sF⟩
   | new d=>rw [q] at S;obtain ⟨v,e,i⟩:=S;exact ⟨v,e,i.mono (qqf sF)⟩
   | exc C=>rw [q] at S;obtain ⟨ea,e,i⟩:=S;exact ⟨ea,e,sF _ _ i⟩
   | obj a0 C nm fs=>rw [q] at S;obtain ⟨dx,vs',e,b',hn,i⟩:=S;exact ⟨dx,vs',e,b',hn,fun f d m=>let ⟨v,l,j⟩:=i f d m; ⟨v,l,j.mono sF⟩⟩
  ·by_cases z:b=a
   ·subst z;rw [qp] at e;rw [h1];exact e
   ·rw [qk z] at e;exact I.fh b o e
  ·by_cases z:b=a
   ·subst z;exact .inr h4
   ·rw [qk z] at e;exact I.new b o e
theorem EnvOk.drop (I:EnvOk K M F H env σ) (i:Nat):EnvOk K M F H (env.set i .non) σ where
 len:=by rw [List.length_set];exact I.len
 slot:=fun j=>by
  rw [qds]
  split
  ·trivial
  ·exact I.slot j
 dis:=fun j k a hjk h1 h2 h3 h4=>by
  rw [qds] at h1 h2
  split at h1
  ·cases h1
  ·split at h2
   ·cases h2
   ·exact I.dis j k a hjk h1 h2 h3 h4
 f0:=I.f0
 fe:=I.fe
 fh:=I.fh
 bh:=I.bh
 new:=I.new
 dom:=I.dom
theorem EnvOk.tell (I:EnvOk K M F H env σ) {i:Nat}{d:PyData}{v:V} (e:vS σ i=some v) (h:Is K F d v):EnvOk K M F H (env.set i (.val d)) σ where
 len:=by rw [List.length_set];exact I.len
 slot:=fun j=>by
  rw [qds]
  split
  ·rename_i z;rw [← z.1];exact ⟨v,e,h⟩
  ·exact I.slot j
 dis:=fun j k a hjk h1 h2 h3 h4=>by
  rw [qds] at h1 h2
  split at h1
  ·cases h1
  ·split at h2
   ·cases h2
   ·exact I.dis j k a hjk h1 h2 h3 h4
 f0:=I.f0
 fe:=I.fe
 fh:=I.fh
 bh:=I.bh
 new:=I.new
 dom:=I.dom
def Sl.fz:Sl→Sl
 | .own ds => .val (.list ds)
 | s=>s
theorem EnvOk.freeze (I:EnvOk K M F H env σ) (i:Nat) : ∃ F',EnvOk K M F' H (env.set i (gS env i).fz) σ∧Same F F':=by
 have same : ∀ s,gS env i=s→env.set i s=env:=fun s h=>by
  subst h
  apply List.ext_getElem?
  intro j
  rw [List.getElem?_set]
  split
  ·rename_i z
   subst z
   split
   ·rename_i hi
    have : ∀ (e:Sto) (n:Nat) (h:n<e.length),some (gS e n)=e[n]?:=by
     intro e
     induction e with
     | nil=>intro n h;simp at h
     | cons x e ih=>intro n h;cases n with
      | zero=>rfl
      | succ n=>simp only [gS,List.getElem?_cons_succ];exact ih n (by simpa using h)
    exact this env i hi
   ·rename_i hi
    rw [List.getElem?_eq_none (by omega)]
  ·rfl
 cases q:gS env i with
 | non=>exact ⟨F,by rw [show Sl.fz .non = .non from rfl,same _ q];exact I,.refl _⟩
 | val d=>exact ⟨F,by rw [show Sl.fz (.val d) = .val d from rfl,same _ q];exact I,.refl _⟩
 | pen ds=>exact ⟨F,by rw [show Sl.fz (.pen ds) = .pen ds from rfl,same _ q];exact I,.refl _⟩
 | new d=>exact ⟨F,by rw [show Sl.fz (.new d) = .new d from rfl,same _ q];exact I,.refl _⟩
 | exc C=>exact ⟨F,by rw [show Sl.fz (.exc C) = .exc C from rfl,same _ q];exact I,.refl _⟩
 | obj a0 C nm fs=>exact ⟨F,by rw [show Sl.fz (.obj a0 C nm fs) = .obj a0 C nm fs from rfl,same _ q];exact I,.refl _⟩
 | own ds =>
  have S:=I.slot i
  rw [q] at S
  obtain ⟨a,vs,e,h1,h2,h3,h4,h5⟩:=S
  obtain ⟨J,s⟩:=(I.drop i).frz h1 h2 h4 (fun j m z=>by
   rw [qds] at m
   split at m
   ·cases m
   ·rename_i hn
    by_cases hij:i=j
    ·subst hij
     exact hn ⟨rfl,zahr (by rw [q];rfl)⟩
    ·exact I.dis i j a hij (by rw [q];rfl) m e z)
  have T:=J.tell (i:=i) (d :=.list ds) e (qcq (SqL.of qp) (h5.mono s))
  rw [List.set_set] at T
  exact ⟨_,T,s⟩
end
end L2
namespace L2
open PySem PySem.Spec PyProof.Rows
abbrev WE:=Sto→(PyData→Sto→Prop)→Prop
abbrev WF:=Sto→(List PyData→Sto→Prop)→Prop
abbrev WT:=Sto→(Bool→Sto→Prop)→Prop
inductive Ret where
 | val (d:PyData)
 | own (ds:List PyData)
 | new (d:PyData)
def Ret.data:Ret→PyData
 | .val d=>d
 | .own ds => .list ds
 | .new d=>d
structure WEnds where
 nx:Sto→Prop
 rt:Ret→Sto→Prop
 bk:Sto→Prop:=fun _=>False
 ct:Sto→Prop:=fun _=>False
abbrev WS:=WEnds→Sto→Prop
abbrev WG:=PyData→Sto→(Sto→Prop)→Prop
abbrev WGs:=List PyData→Sto→(Sto→Prop)→Prop
abbrev D2:=PyData→PyData→(PyData→Prop)→Prop
abbrev DC:=List PyData→(PyData→Prop)→Prop
section
variable (K:PySem.W.Frag)
def qcc (W:WE):TE:=fun σ H R => ∃ M env F Q,EnvOk K M F H env σ∧W env Q ∧ ∀ d v F' H' env',EnvOk K M F' H' env' σ→Same F F'→Is K F' d v→Q d env'→R v H'
def qqb (W:WF):TE:=fun σ H R => ∃ M env F Q,EnvOk K M F H env σ∧W env Q ∧ ∀ a vs ds F' H' env',EnvOk K M F' H' env' σ→Same F F'→H' a=some (.lst vs)→F' a=none→M.B a=none→M.He a=none →
 (∀ i,(gS env' i).mut=true→vS σ i≠some (.ref a))→Iss K F' ds vs→Q ds env'→R (.ref a) H'
def qib (W:WF):TA:=fun σ H R => ∃ M env F Q,EnvOk K M F H env σ∧W env Q ∧ ∀ ds vs F' H' env',EnvOk K M F' H' env' σ→Same F F'→Iss K F' ds vs→Q ds env'→R vs H'
def qng (W:WT):TT:=fun σ H R => ∃ M env F Q,EnvOk K M F H env σ∧W env Q ∧ ∀ b F' H' env',EnvOk K M F' H' env' σ→Same F F'→Q b env'→R b H'
def RetOk (M:Frm) (F H:Hp):Ret→V→Prop
 | .val d,v=>Is K F d v
 | .own ds,v => ∃ a vs,v = .ref a∧H a=some (.lst vs)∧F a=none∧M.B a=none∧M.He a=none∧Iss K F ds vs
 | .new d,v=>IsN K (qwc M F) d v
structure EndsOk (M:Frm) (F:Hp) (DD:WEnds) (D:Ends):Prop where
 nx : ∀ env' F' H' σ',EnvOk K M F' H' env' σ'→Same F F'→DD.nx env'→D.nx σ' H'
 rt : ∀ r v env' F' H' σ',EnvOk K M F' H' env' σ'→Same F F'→RetOk K M F' H' r v→DD.rt r env'→D.rt v H'
 bk : ∀ env' F' H' σ',EnvOk K M F' H' env' σ'→Same F F'→DD.bk env'→D.bk σ' H'
 ct : ∀ env' F' H' σ',EnvOk K M F' H' env' σ'→Same F F'→DD.ct env'→D.ct σ' H'
def zadz (W:WS):TS:=fun D σ H => ∃ M env F DD,EnvOk K M F H env σ∧W DD env∧EndsOk K M F DD D
def qih (W:WG):TG:=fun v σ H R => ∃ M env F d Q,EnvOk K M F H env σ∧Is K F d v∧W d env Q ∧ ∀ F' H' env' σ',EnvOk K M F' H' env' σ'→Same F F'→Q env'→R σ' H'
def zahy (W:WGs):TGs:=fun vs σ H R => ∃ M env F ds Q,EnvOk K M F H env σ∧Iss K F ds vs∧W ds env Q ∧ ∀ F' H' env' σ',EnvOk K M F' H' env' σ'→Same F F'→Q env'→R σ' H'
def qtg (r:D2):R2:=fun x y H Q => ∃ F dx dy q,Same F H∧Is K F dx x∧Is K F dy y∧r dx dy q ∧ ∀ d v F' H',Go F H F' H'→Is K F' d v→q d→Q v H'
def zaad (r:DC):List V→Hp→VK→Prop:=fun vs H Q => ∃ F ds q,Same F H∧Iss K F ds vs∧r ds q ∧ ∀ d v F' H',Go F H F' H'→Is K F' d v→q d→Q v H'
def qsz (r:List PyData→(List PyData→Prop)→Prop):List V→Hp→VK→Prop:=fun vs H Q => ∃ F ds q,Same F H∧Iss K F ds vs∧r ds q ∧ ∀ l a xs F' H',Go F H F' H'→H a=none→F' a=none→H' a=some (.lst xs)→Iss K F' l xs→q l→Q (.ref a) H'
structure ItD (J:It) (F:Hp) (ds:List PyData):Prop where
 go : ∀ i H,Same F H→i<ds.length→J.go i H
 stop : ∀ H,Same F H→J.stop ds.length H
 yld : ∀ i H x H' F1,Same F F1→Same F1 H→i<ds.length→J.yld i H x H' → ∃ d F2,ds[i]?=some d∧Go F1 H F2 H'∧Is K F2 d x
def qkl (W:WF):TI:=fun σ H R => ∃ M env F Q,EnvOk K M F H env σ∧W env Q ∧ ∀ ds J F' H' env',EnvOk K M F' H' env' σ→Same F F'→ItD K J F' ds→Q ds env'→R J H'
end
section
variable {K:PySem.W.Frag}{M:Frm}{F F':Hp}{DD:WEnds}{D:Ends}
theorem EndsOk.mono (h:EndsOk K M F DD D) (s:Same F F'):EndsOk K M F' DD D :=
 ⟨fun e f g i j k=>h.nx e f g i j (s.trans k),fun r v e f g i j k=>h.rt r v e f g i j (s.trans k),fun e f g i j k=>h.bk e f g i j (s.trans k),fun e f g i j k=>h.ct e f g i j (s.trans k)⟩
end
def VE (X:Cx) (e:Expr) (W:WE):Prop:=PE X e (qcc X.K W)
def VF (X:Cx) (e:Expr) (W:WF):Prop:=PE X e (qqb X.K W)
def VA (X:Cx) (e:List Expr) (W:WF):Prop:=PA X e (qib X.K W)
def VT (X:Cx) (e:Expr) (W:WT):Prop:=PT X e (qng X.K W)
def VW (X:Cx) (e:Expr) (W:WT):Prop:=PW X e (qng X.K W)
theorem VW.pt {X:Cx}{e:Expr}{W:WT} (h:VW X e W):VT X e W:=PW.pt h
def VS (X:Cx) (st:Stmt) (W:WS):Prop:=PS X st (zadz X.K W)
def VSs (X:Cx) (st:List Stmt) (W:WS):Prop:=PSs X st (zadz X.K W)
def VG (X:Cx) (e:Expr) (W:WG):Prop:=PG X e (qih X.K W)
def VGs (X:Cx) (e:List Expr) (W:WGs):Prop:=PGs X e (zahy X.K W)
def VI (X:Cx) (tg e:Expr) (W:WF):Prop:=PI X tg e (qkl X.K W)
def OpV (X:Cx) (f:Value→Value→Sem Value) (r:D2):Prop:=OpR X f (qtg X.K r)
def qnw (X:Cx) (f:Value) (r:DC):Prop:=CallR X f (zaad X.K r)
def qpf (X:Cx) (f:Value) (r:List PyData→(List PyData→Prop)→Prop):Prop:=CallR X f (qsz X.K r)
section
variable {X:Cx}
theorem PE.imp {e:Expr}{t t':TE} (h:PE X e t) (i : ∀ σ H Q,t' σ H Q→t σ H Q):PE X e t':=fun pins s σ H Q I q=>h pins s σ H Q I (i σ H Q q)
theorem PA.imp {e:List Expr}{t t':TA} (h:PA X e t) (i : ∀ σ H Q,t' σ H Q→t σ H Q):PA X e t':=fun pos pins s σ H Q I q=>h pos pins s σ H Q I (i σ H Q q)
theorem PT.imp {e:Expr}{t t':TT} (h:PT X e t) (i : ∀ σ H Q,t' σ H Q→t σ H Q):PT X e t':=fun pins s σ H Q I q=>h pins s σ H Q I (i σ H Q q)
theorem PW.imp {e:Expr}{t t':TT} (h:PW X e t) (i : ∀ σ H Q,t' σ H Q→t σ H Q):PW X e t':=fun wh pins s σ H Q I q=>h wh pins s σ H Q I (i σ H Q q)
theorem PS.imp {e:Stmt}{t t':TS} (h:PS X e t) (i : ∀ D σ H,t' D σ H→t D σ H):PS X e t':=fun pins s σ H D I q=>h pins s σ H D I (i D σ H q)
theorem PSs.imp {e:List Stmt}{t t':TS} (h:PSs X e t) (i : ∀ D σ H,t' D σ H→t D σ H):PSs X e t':=fun pins s σ H D I q=>h pins s σ H D I (i D σ H q)
theorem PG.imp {e:Expr}{t t':TG} (h:PG X e t) (i : ∀ v σ H Q,t' v σ H Q→t v σ H Q):PG X e t':=fun pins s σ H v u Q I r q=>h pins s σ H v u Q I r (i v σ H Q q)
theorem PGs.imp {e:List Expr}{t t':TGs} (h:PGs X e t) (i : ∀ v σ H Q,t' v σ H Q→t v σ H Q):PGs X e t':=fun pins s σ H v u Q I r q=>h pins s σ H v u Q I r (i v σ H Q q)
theorem PI.imp {tg e:Expr}{t t':TI} (h:PI X tg e t) (i : ∀ σ H Q,t' σ H Q→t σ H Q):PI X tg e t':=fun pins s σ H Q I q=>h pins s σ H Q I (i σ H Q q)
theorem OpR.imp {f:Value→Value→Sem Value}{r r':R2} (h:OpR X f r) (i : ∀ x y H Q,r' x y H Q→r x y H Q):OpR X f r':=fun pins s σ H x y v u Q I a b q=>h pins s σ H x y v u Q I a b (i x y H Q q)
theorem CallR.imp {f:Value}{r r':List V→Hp→VK→Prop} (h:CallR X f r) (i : ∀ x H Q,r' x H Q→r x H Q):CallR X f r':=fun pins s σ H x u Q I a q=>h pins s σ H x u Q I a (i x H Q q)
theorem IxR.imp {r r':R2} (h:IxR X r) (i : ∀ x y H Q,r' x y H Q→r x y H Q):IxR X r':=fun value slice pins s σ H x y v u Q I a b q=>h value slice pins s σ H x y v u Q I a b (i x y H Q q)
def wVar (i:Nat):WE:=fun env Q=>match gS env i with | .val d=>Q d env | .new d=>Q d env|_=>False
theorem qb (i:Nat) {x:Str}{pos:Pos} (hN:X.N[i]?=some x:=by rfl) (hv:Vis X.env.scope x:=by first|exact Or.inl rfl|exact Or.inr (Or.inl rfl)|exact Or.inr (Or.inr rfl)) (hd:(x==("__debug__" : Str))=false:=by decide)
 (hcd:(x==("__classdict__" : Str))=false:=by decide):VE X (.Name x pos) (wVar i):=(qG hN hv hd hcd).imp fun σ H R xx68=>by
 obtain ⟨M,env,F,Q,I,h,k⟩:=xx68
 have S:=I.slot i
 unfold wVar at h
 cases q:gS env i with
 | val d =>
  rw [q] at S h
  obtain ⟨v,e,j⟩:=S
  exact ⟨v,qbu e,k d v F H env I (.refl _) j h⟩
 | new d =>
  rw [q] at S h
  obtain ⟨v,e,j⟩:=S
  exact ⟨v,qbu e,k d v F H env I (.refl _) (j.is qof) h⟩
 | non=>rw [q] at h;exact h.elim
 | own ds=>rw [q] at h;exact h.elim
 | pen ds=>rw [q] at h;exact h.elim
 | exc C=>rw [q] at h;exact h.elim
 | obj a0 C nm fs=>rw [q] at h;exact h.elim
def wC (d:PyData):WE:=fun env Q=>Q d env
theorem ve_c {e:Expr}{v:V}{d:PyData} (h:PE X e (tC v)) (i : ∀ F,Is X.K F d v):VE X e (wC d):=h.imp fun σ H R xx69=>by obtain ⟨M,env,F,Q,I,h,k⟩:=xx69;exact k d v F H env I (.refl _) (i F) h
theorem qe {i j pos}:VE X (.Constant (.int i) j pos) (wC (.int i)):=ve_c qkg fun _=>qZ i
theorem qfz {b j pos}:VE X (.Constant (.bool b) j pos) (wC (.bool b)):=ve_c zahh fun _=>qfy b
theorem qti {j pos}:VE X (.Constant .none j pos) (wC .none):=ve_c zajz fun _=>qpa
theorem qps {x j pos}:VE X (.Constant (.str x) j pos) (wC (.str x)):=ve_c qwu fun _=>qwy x
theorem qkt {x:Str}{i:Int}{pos:Pos} (h : ∃ t,X.mg x=some (.int i t)) (hg:Gl X x:=by rfl) (hd:(x==("__debug__" : Str))=false:=by decide):VE X (.Name x pos) (wC (.int i)):=by
 obtain ⟨t,hm⟩:=h
 exact ve_c (zagf (v :=.int i) hg hm ⟨t,rfl⟩ hd) fun _=>qZ i
def wOp (r:D2) (Wa Wb:WE):WE:=fun env Q=>Wa env fun x e1=>Wb e1 fun y e2=>r x y fun d=>Q d e2
theorem qni {r:D2}{Wa Wb:WE}{σ:St}{H:Hp}{R:VK} (h:qcc X.K (wOp r Wa Wb) σ H R):tOp (qtg X.K r) (qcc X.K Wa) (qcc X.K Wb) σ H R:=by
 obtain ⟨M,env,F,Q,I,h,k⟩:=h
 exact ⟨M,env,F,_,I,h,fun d v F1 H1 e1 I1 s1 i1 h1=>⟨M,e1,F1,_,I1,h1,fun d2 v2 F2 H2 e2 I2 s2 i2 h2 =>
  ⟨F2,d,d2,_,I2.fh,i1.mono s2,i2,h2,fun d3 v3 F3 H3 g i3 q=>k d3 v3 F3 H3 e2 (I2.go g) (s1.trans (s2.trans g.f)) i3 q⟩⟩⟩
section
variable {a b c:Expr}{Wa Wb Wc:WE}{pos:Pos}
theorem qw {op:Operator}{r:D2} (ho:OpV X (binaryOp op) r) (ha:VE X a Wa) (hb:VE X b Wb):VE X (.BinOp a op b pos) (wOp r Wa Wb) :=
 (zahd ho ha hb).imp fun _ _ _ h=>qni h
theorem qhj {op:CmpOp}{r:D2} (ho:OpV X (compareOp op) r) (ha:VE X a Wa) (hb:VE X b Wb) (hm:behindInMarks op b=false:=by first|exact qwq _|with_unfolding_all rfl):VE X (.Compare a [op] [b] pos) (wOp r Wa Wb) :=
 (zagk ho ha hb hm).imp fun _ _ _ h=>qni h
def qwi (W:WE):WT:=fun env Q=>W env fun d e=>match d with | .bool b=>Q b e|_=>False
theorem qig {W:WE}{σ:St}{H:Hp}{R:Bool→Hp→Prop} (h:qng X.K (qwi W) σ H R):qcc X.K W σ H fun x H' => ∃ k,x = .bl k∧R k H':=by
 obtain ⟨M,env,F,Q,I,h,k⟩:=h
 refine ⟨M,env,F,_,I,h,fun d v F1 H1 e1 I1 s1 i1 h1=>?_⟩
 cases d with
 | bool b=>exact ⟨b,i1.bl_inv,k b F1 H1 e1 I1 s1 h1⟩
 | _=>exact False.elim h1
theorem qA {op:CmpOp}{r:D2} (ho:OpV X (compareOp op) r) (ha:VE X a Wa) (hb:VE X b Wb) (hm:behindInMarks op b=false:=by first|exact qwq _|with_unfolding_all rfl):VT X (.Compare a [op] [b] pos) (qwi (wOp r Wa Wb)) :=
 (qxv ho ha hb hm).imp fun σ H R h=>qni (qig h)
theorem qY {e:Expr}{W:WE} (h:VE X e W) (he : ∀ whole,isTrue e X.env whole=(do let v ← whole;standAt e.pos;holding [v] (truthy v)):=by intro _;rfl):VT X e (qwi W) :=
 (zaib h he).imp fun σ H R h=>qig h
def truD:PyData→Bool
 | .none=>false
 | .bool b=>b
 | .int i=>i != 0
 | .str x=>(x.length:Int) != 0
 | .list l => !l.isEmpty
 | .tuple l => !l.isEmpty
 | .dict l => !l.isEmpty
def wTru (W:WE):WT:=fun env Q=>W env fun d e=>(∀ x,d = .str x→x.length≤sizeLine)∧Q (truD d) e
theorem Iss.emp {K:PySem.W.Frag}{H:Hp}{l:List PyData}{xs:List V} (h:Iss K H l xs):(!l.isEmpty) = !xs.isEmpty:=by
 cases l with
 | nil=>rw [h.nil_inv];rfl
 | cons d l=>obtain ⟨x,r,rfl,_⟩:=h.cons_inv;rfl
theorem zajs {e:Expr}{W:WE} (h:VE X e W) (he : ∀ whole,isTrue e X.env whole=(do let v ← whole;standAt e.pos;holding [v] (truthy v)):=by intro _;rfl):VT X e (wTru W) :=
 (zacn h he).imp fun σ H R xx70=>by
  obtain ⟨M,env,F,Q,I,h,k⟩:=xx70
  refine ⟨M,env,F,_,I,h,fun d v F1 H1 e1 I1 s1 i1 h1=>⟨truD d,?_,k _ F1 H1 e1 I1 s1 h1.2⟩⟩
  replace i1:=i1.mono I1.fh
  cases d with
  | none=>rw [i1.non_inv];rfl
  | bool b=>rw [i1.bl_inv];rfl
  | int i=>rw [i1.int_inv];rfl
  | str x=>unfold Is at i1;subst i1;exact ⟨h1.1 x rfl,rfl⟩
  | list l=>obtain ⟨a,xs,rfl,q,r⟩:=i1.lst_inv;exact .inl ⟨xs,q,r.emp⟩
  | tuple l=>obtain ⟨a,xs,rfl,q,r⟩:=i1.tup_inv;exact .inr (.inl ⟨xs,q,r.emp⟩)
  | dict l=>obtain ⟨a,kvs,rfl,q,m⟩:=i1.dct_inv;exact .inr (.inr ⟨kvs,q,m⟩)
def zado (r r':D2) (Wa Wb Wc:WE):WE:=fun env Q=>Wa env fun x e1=>Wb e1 fun y e2=>r x y fun z=>match z with
 | .bool k=>if k=true then Wc e2 fun w e3=>r' y w fun d=>Q d e3 else Q (.bool false) e2
 | _=>False
theorem qwm {r r':D2}{σ:St}{H:Hp}{R:VK} (h:qcc X.K (zado r r' Wa Wb Wc) σ H R):zacv (qtg X.K r) (qtg X.K r') (qcc X.K Wa) (qcc X.K Wb) (qcc X.K Wc) σ H R:=by
 obtain ⟨M,env,F,Q,I,h,k⟩:=h
 refine ⟨M,env,F,_,I,h,fun d v F1 H1 e1 I1 s1 i1 h1=>⟨M,e1,F1,_,I1,h1,fun d2 v2 F2 H2 e2 I2 s2 i2 h2=>⟨F2,d,d2,_,I2.fh,i1.mono s2,i2,h2,fun d3 v3 F3 H3 g i3 q=>?_⟩⟩⟩
 have I3:=I2.go g
 have s3:=s1.trans (s2.trans g.f)
 cases d3 with
 | bool b =>
  refine ⟨b,i3.bl_inv,?_⟩
  cases b with
  | false=>exact qsk (k _ _ F3 H3 e2 I3 s3 (qfy false) q)
  | true=>exact qur ⟨M,e2,F3,_,I3,q,fun d4 v4 F4 H4 e4 I4 s4 i4 h4=>⟨F4,d2,d4,_,I4.fh,(i2.mono g.f).mono s4,i4,h4,fun d5 v5 F5 H5 g5 i5 q5=>k d5 v5 F5 H5 e4 (I4.go g5) (s3.trans (s4.trans g5.f)) i5 q5⟩⟩
 | _=>exact False.elim q
theorem zacg {op op':CmpOp}{r r':D2} (ho:OpV X (compareOp op) r) (ho':OpV X (compareOp op') r') (ha:VE X a Wa) (hb:VE X b Wb) (hc:VE X c Wc)
 (hm:lastMarks [op,op'] [b,c]=false:=by with_unfolding_all rfl):VT X (.Compare a [op,op'] [b,c] pos) (qwi (zado r r' Wa Wb Wc)):=(zaat ho ho' ha hb hc hm).imp fun _ _ _ h=>qwm (qig h)
end
section
variable {a b c:Expr}{Wa Wb Wc:WE}{Ta Tb Tc:WT}{pos:Pos}{rest:List Expr}
def wAnd (t u:WT):WT:=fun env Q=>t env fun k e=>if k=true then u e Q else Q false e
def wOr (t u:WT):WT:=fun env Q=>t env fun k e=>if k=true then Q true e else u e Q
def wNot (t:WT):WT:=fun env Q=>t env fun k e=>Q (!k) e
theorem qxq (ha:VT X a Ta):VW X (.BoolOp .And [a] pos) Ta:=zafh ha
theorem qbi (ha:VT X a Ta):VW X (.BoolOp .Or [a] pos) Ta:=zajh ha
theorem zadr (ha:VT X a Ta) (hb:VW X (.BoolOp .And (b::rest) pos) Tb):VW X (.BoolOp .And (a::b::rest) pos) (wAnd Ta Tb):=(zain ha hb).imp fun σ H R xx71=>by
 obtain ⟨M,env,F,Q,I,h,k⟩:=xx71
 refine ⟨M,env,F,_,I,h,fun x F1 H1 e1 I1 s1 h1=>?_⟩
 cases x with
 | true=>exact qur ⟨M,e1,F1,Q,I1,h1,fun y F2 H2 e2 I2 s2 h2=>k y F2 H2 e2 I2 (s1.trans s2) h2⟩
 | false=>exact qsk (k false F1 H1 e1 I1 s1 h1)
theorem qbs (ha:VT X a Ta) (hb:VW X (.BoolOp .Or (b::rest) pos) Tb):VW X (.BoolOp .Or (a::b::rest) pos) (wOr Ta Tb):=(zalq ha hb).imp fun σ H R xx72=>by
 obtain ⟨M,env,F,Q,I,h,k⟩:=xx72
 refine ⟨M,env,F,_,I,h,fun x F1 H1 e1 I1 s1 h1=>?_⟩
 cases x with
 | true=>exact qur (k true F1 H1 e1 I1 s1 h1)
 | false=>exact qsk ⟨M,e1,F1,Q,I1,h1,fun y F2 H2 e2 I2 s2 h2=>k y F2 H2 e2 I2 (s1.trans s2) h2⟩
theorem qah (ha:VT X a Ta):VT X (.UnaryOp .Not a pos) (wNot Ta):=(zaig ha).imp fun σ H R xx73=>by
 obtain ⟨M,env,F,Q,I,h,k⟩:=xx73
 exact ⟨M,env,F,_,I,h,fun x F1 H1 e1 I1 s1 h1=>k (!x) F1 H1 e1 I1 s1 h1⟩
def zalg (Wa Wb:WE):WE:=fun env Q=>Wa env fun d e=>match d with | .bool k=>if k=true then Wb e Q else Q (.bool false) e|_=>False
def wOrV (Wa Wb:WE):WE:=fun env Q=>Wa env fun d e=>match d with | .bool k=>if k=true then Q (.bool true) e else Wb e Q|_=>False
def zakf (Wa:WE):WE:=fun env Q=>Wa env fun d e=>match d with | .bool k=>Q (.bool (!k)) e|_=>False
theorem qkb {op} (h:VE X a Wa):VE X (.BoolOp op [a] pos) Wa:=zajl h
theorem qpj (ha:VE X a Wa) (hb:VE X (.BoolOp .And (b::rest) pos) Wb):VE X (.BoolOp .And (a::b::rest) pos) (zalg Wa Wb):=(zahv ha hb).imp fun σ H R xx74=>by
 obtain ⟨M,env,F,Q,I,h,k⟩:=xx74
 refine ⟨M,env,F,_,I,h,fun d v F1 H1 e1 I1 s1 i1 h1=>?_⟩
 cases d with
 | bool x =>
  refine ⟨x,i1.bl_inv,?_⟩
  cases x with
  | true=>exact qur ⟨M,e1,F1,Q,I1,h1,fun d2 v2 F2 H2 e2 I2 s2 i2 h2=>k d2 v2 F2 H2 e2 I2 (s1.trans s2) i2 h2⟩
  | false=>exact qsk (k _ _ F1 H1 e1 I1 s1 (qfy false) h1)
 | _=>exact False.elim h1
theorem zahu (ha:VE X a Wa) (hb:VE X (.BoolOp .Or (b::rest) pos) Wb):VE X (.BoolOp .Or (a::b::rest) pos) (wOrV Wa Wb):=(zalc ha hb).imp fun σ H R xx75=>by
 obtain ⟨M,env,F,Q,I,h,k⟩:=xx75
 refine ⟨M,env,F,_,I,h,fun d v F1 H1 e1 I1 s1 i1 h1=>?_⟩
 cases d with
 | bool x =>
  refine ⟨x,i1.bl_inv,?_⟩
  cases x with
  | false=>exact qsk ⟨M,e1,F1,Q,I1,h1,fun d2 v2 F2 H2 e2 I2 s2 i2 h2=>k d2 v2 F2 H2 e2 I2 (s1.trans s2) i2 h2⟩
  | true=>exact qur (k _ _ F1 H1 e1 I1 s1 (qfy true) h1)
 | _=>exact False.elim h1
theorem qwr (ha:VE X a Wa):VE X (.UnaryOp .Not a pos) (zakf Wa):=(zajd ha).imp fun σ H R xx76=>by
 obtain ⟨M,env,F,Q,I,h,k⟩:=xx76
 refine ⟨M,env,F,_,I,h,fun d v F1 H1 e1 I1 s1 i1 h1=>?_⟩
 cases d with
 | bool x=>exact ⟨x,i1.bl_inv,k _ _ F1 H1 e1 I1 s1 (qfy _) h1⟩
 | _=>exact False.elim h1
def wIfE (t:WT) (Wa Wb:WE):WE:=fun env Q=>t env fun k e=>if k=true then Wa e Q else Wb e Q
theorem qgb (hc:VT X c Tc) (ha:VE X a Wa) (hb:VE X b Wb):VE X (.IfExp c a b pos) (wIfE Tc Wa Wb):=(zacq hc ha hb).imp fun σ H R xx77=>by
 obtain ⟨M,env,F,Q,I,h,k⟩:=xx77
 refine ⟨M,env,F,_,I,h,fun x F1 H1 e1 I1 s1 h1=>?_⟩
 cases x with
 | true=>exact qur ⟨M,e1,F1,Q,I1,h1,fun d2 v2 F2 H2 e2 I2 s2 i2 h2=>k d2 v2 F2 H2 e2 I2 (s1.trans s2) i2 h2⟩
 | false=>exact qsk ⟨M,e1,F1,Q,I1,h1,fun d2 v2 F2 H2 e2 I2 s2 i2 h2=>k d2 v2 F2 H2 e2 I2 (s1.trans s2) i2 h2⟩
end
section
variable {a b:Expr}{Wa Wb:WE}{pos p2:Pos}
def wUn (r:PyData→(PyData→Prop)→Prop) (W:WE):WE:=fun env Q=>W env fun d e=>r d fun y=>Q y e
def dNeg:PyData→(PyData→Prop)→Prop
 | .int i,q=>q (.int (-i))
 | _,_=>False
theorem qkd (ha:VE X a Wa):VE X (.UnaryOp .USub a pos) (wUn dNeg Wa):=(zahp zact ha).imp fun σ H R xx78=>by
 obtain ⟨M,env,F,Q,I,h,k⟩:=xx78
 refine ⟨M,env,F,_,I,h,fun d v F1 H1 e1 I1 s1 i1 h1=>?_⟩
 cases d with
 | int i=>exact ⟨i,i1.int_inv,k _ _ F1 H1 e1 I1 s1 (qZ _) h1⟩
 | _=>exact False.elim h1
def dIx:D2
 | .list l,.int i,q => ∃ d,atI l i=some d∧q d
 | .tuple l,.int i,q => ∃ d,atI l i=some d∧q d
 | _,_,_=>False
theorem ix_V:IxR X (qtg X.K dIx):=zajg.imp fun x y H Q xx79=>by
 obtain ⟨F,dx,dy,q,s,i1,i2,h,k⟩:=xx79
 cases dx with
 | list l=>cases dy with
  | int i =>
   obtain ⟨d,e,hq⟩:=h
   obtain ⟨a,xs,rfl,hs,hr⟩:=i1.lst_inv
   obtain ⟨z,ez,hz⟩:=hr.atI e
   exact .inl ⟨a,xs,i,z,rfl,i2.int_inv,s.seq hs,ez,k d z F H (.refl s) hz hq⟩
  | _=>exact False.elim h
 | tuple l=>cases dy with
  | int i =>
   obtain ⟨d,e,hq⟩:=h
   obtain ⟨a,xs,rfl,hs,hr⟩:=i1.tup_inv
   obtain ⟨z,ez,hz⟩:=hr.atI e
   exact .inr (.inl ⟨a,xs,i,z,rfl,i2.int_inv,qS s hs,ez,k d z F H (.refl s) hz hq⟩)
  | _=>exact False.elim h
 | _=>exact False.elim h
theorem qq (ha:VE X a Wa) (hb:VE X b Wb) (hs:qsh b:=by exact (fun _ _=>rfl)):VE X (.Subscript a b pos) (wOp dIx Wa Wb):=(qtl ix_V ha hb hs).imp fun _ _ _ h=>qni h
abbrev WO:=Sto→(Option Int→Sto→Prop)→Prop
def zalt (K:PySem.W.Frag) (W:WO):TO:=fun σ H R => ∃ M env F Q,EnvOk K M F H env σ∧W env Q ∧ ∀ o F' H' env',EnvOk K M F' H' env' σ→Same F F'→Q o env'→R o H'
def zafw:WO:=fun env Q=>Q none env
def zalj (W:WE):WO:=fun env Q=>W env fun d e=>match d with | .int i=>Q (some i) e|_=>False
def VO (X:Cx) (e:Option Expr) (W:WO):Prop:=PO X e (zalt X.K W)
theorem PO.imp {e:Option Expr}{t t':TO} (h:PO X e t) (i : ∀ σ H Q,t' σ H Q→t σ H Q):PO X e t':=fun pins s σ H Q I q=>h pins s σ H Q I (i σ H Q q)
theorem zagl:VO X none zafw:=zafo.imp fun σ H R xx80=>by obtain ⟨M,env,F,Q,I,h,k⟩:=xx80;exact k none F H env I (.refl _) h
theorem qld (ha:VE X a Wa):VO X (some a) (zalj Wa):=(zael ha).imp fun σ H R xx81=>by
 obtain ⟨M,env,F,Q,I,h,k⟩:=xx81
 refine ⟨M,env,F,_,I,h,fun d v F1 H1 e1 I1 s1 i1 h1=>?_⟩
 cases d with
 | int i=>exact ⟨i,i1.int_inv,k (some i) F1 H1 e1 I1 s1 h1⟩
 | _=>exact False.elim h1
def qul {α:Type} (ds:List α) (lo hi:Option Int):List α:=(ds.drop (HT.sIx ds.length 0 lo)).take (HT.sIx ds.length ds.length hi-HT.sIx ds.length 0 lo)
theorem zaeq {K:PySem.W.Frag}{H:Hp}{l:List PyData}{xs:List V} (h:Iss K H l xs) (lo hi:Option Int):Iss K H (qul l lo hi) (qyc xs lo hi):=by
 have e:qyc xs lo hi=(xs.drop (HT.sIx l.length 0 lo)).take (HT.sIx l.length l.length hi-HT.sIx l.length 0 lo):=by unfold qyc;rw [h.len]
 rw [e]
 exact qov _ (qoo _ h)
def wSlL (Wa:WE) (Wl Wh:WO):WF:=fun env Q=>Wa env fun d e1=>Wl e1 fun lo e2=>Wh e2 fun hi e3=>match d with | .list l => ∀ r,r=qul l lo hi→Q r e3|_=>False
theorem qol {lo hi:Option Expr}{Wl Wh:WO} (he:VE X a Wa) (hl:VO X lo Wl) (hu:VO X hi Wh):VF X (.Subscript a (.Slice lo hi none p2) pos) (wSlL Wa Wl Wh) :=
 (zacl zafa he hl hu).imp fun σ H R xx82=>by
  obtain ⟨M,env,F,Q,I,h,k⟩:=xx82
  refine ⟨M,env,F,_,I,h,fun d v F1 H1 e1 I1 s1 i1 h1=>⟨M,e1,F1,_,I1,h1,fun lo F2 H2 e2 I2 s2 h2=>⟨M,e2,F2,_,I2,h2,fun hi F3 H3 e3 I3 s3 h3=>?_⟩⟩⟩
  cases d with
  | list l =>
   obtain ⟨a,xs,rfl,hs,hr⟩:=(i1.mono (s2.trans s3)).lst_inv
   refine ⟨a,xs,rfl,I3.fh.seq hs,fun p hp=>?_⟩
   have g:=Go.side (o:=HO.lst (qyc xs lo hi)) I3.fh hp
   refine k p _ _ F3 _ e3 (I3.go g) (s1.trans (s2.trans s3)) qp (qH I3.fh hp) (qH I3.bh hp) (I3.he hp) (fun i m z=>?_) (zaeq hr lo hi) (h3 _ rfl)
   obtain ⟨b,vs,e,q,_⟩:=(I3.slot i).addr m
   rw [z] at e;injection e with e;injection e with e;subst e
   rw [hp] at q;cases q
  | _=>exact False.elim h3
end
def wL (W:WF):WE:=fun env Q=>W env fun ds e=>Q (.list ds) e
theorem qT {e:Expr}{W:WF} (h:VF X e W):VE X e (wL W):=h.imp fun σ H R xx83=>by
 obtain ⟨M,env,F,Q,I,h,k⟩:=xx83
 refine ⟨M,env,F,_,I,h,fun a vs ds F1 H1 e1 I1 s1 h1 h2 h3 h4 h5 h6 h7=>?_⟩
 obtain ⟨J,s⟩:=I1.frz h1 h2 h4 h5
 exact k _ _ _ H1 e1 J (s1.trans s) (qcq (SqL.of qp) (h6.mono s)) h7
theorem qlz {K:PySem.W.Frag}{M:Frm}{F H:Hp}{env:Sto}{σ:St} (I:EnvOk K M F H env σ) {p:Addr} (hp:H p=none) : ∀ i,(gS env i).mut=true→vS σ i≠some (.ref p):=fun i m z=>by
 obtain ⟨b,vs,e,q,_⟩:=(I.slot i).addr m
 rw [z] at e;injection e with e;injection e with e;subst e
 rw [hp] at q;cases q
theorem qhb {K:PySem.W.Frag}{M:Frm}{F H:Hp}{env:Sto}{σ:St}{R:VK}{Q:List PyData→Sto→Prop}{F0:Hp}{l:List PyData}{xs:List V} (I:EnvOk K M F H env σ) (s:Same F0 F) (hi:Iss K F l xs) (h:Q l env)
 (k : ∀ a vs ds F' H' env',EnvOk K M F' H' env' σ→Same F0 F'→H' a=some (.lst vs)→F' a=none→M.B a=none→M.He a=none→(∀ i,(gS env' i).mut=true→vS σ i≠some (.ref a))→Iss K F' ds vs→Q ds env'→R (.ref a) H') :
 ∀ p,H p=none→R (.ref p) (upd H p (.lst xs)):=fun p hp =>
  k p xs l F _ env (I.go (.side I.fh hp)) s qp (qH I.fh hp) (qH I.bh hp) (I.he hp) (qlz I hp) hi h
section
variable {e:Expr}{es:List Expr}{W:WE}{Wr:WF}{pos:Pos}
def wNil:WF:=fun env Q=>Q [] env
def zale (W:WE) (Wr:WF):WF:=fun env Q=>W env fun d e1=>Wr e1 fun ds e2=>Q (d::ds) e2
theorem qf:VA X [] wNil:=qbp.imp fun σ H R xx84=>by obtain ⟨M,env,F,Q,I,h,k⟩:=xx84;exact k [] [] F H env I (.refl _) qO h
theorem qc (ha:VE X e W) (hr:VA X es Wr) (hs:starEach (e::es) X.env=(false,eval e X.env)::starEach es X.env:=by rfl):VA X (e::es) (zale W Wr) :=
 (qL ha hr hs).imp fun σ H R xx85=>by obtain ⟨M,env,F,Q,I,h,k⟩:=xx85;exact ⟨M,env,F,_,I,h,fun d v F1 H1 e1 I1 s1 i1 h1=>⟨M,e1,F1,_,I1,h1,fun ds vs F2 H2 e2 I2 s2 i2 h2=>k (d::ds) (v::vs) F2 H2 e2 I2 (s1.trans s2) (qy (i1.mono s2) i2) h2⟩⟩
def wTup (Wr:WF):WE:=fun env Q=>Wr env fun ds e=>ds.length≤sizeLine∧Q (.tuple ds) e
theorem qfe {x1} (h:VA X es Wr):VE X (.Tuple es x1 pos) (wTup Wr):=(qtf h).imp fun σ H R xx86=>by
 obtain ⟨M,env,F,Q,I,h,k⟩:=xx86
 refine ⟨M,env,F,_,I,h,fun ds vs F1 H1 e1 I1 s1 i1 h1=>⟨by rw [i1.len];exact h1.1,fun p hp=>?_⟩⟩
 have g:=Go.put (o:=HO.tup vs) I1.fh hp
 exact k _ _ _ _ e1 (I1.go g) (s1.trans g.f) (qkc (SqT.of qp) (i1.mono g.f)) h1.2
def wLst (Wr:WF):WF:=fun env Q=>Wr env fun ds e=>ds.length≤sizeLine∧Q ds e
theorem qcd (h:VA X es Wr):VF X (.List es pos) (wLst Wr):=(zajn h).imp fun σ H R xx87=>by
 obtain ⟨M,env,F,Q,I,h,k⟩:=xx87
 exact ⟨M,env,F,_,I,h,fun ds vs F1 H1 e1 I1 s1 i1 h1=>⟨by rw [i1.len];exact h1.1,qhb I1 s1 i1 h1.2 k⟩⟩
end
end
end L2
namespace L2
open PySem PySem.Spec PyProof.Rows
section
variable {X:Cx}
def dI2 (g:Int→Int→(PyData→Prop)→Prop):D2
 | .int i,.int j,q=>g i j q
 | _,_,_=>False
theorem zahn {g:Int→Int→(PyData→Prop)→Prop}{x y:PyData}{q:PyData→Prop} (h:dI2 g x y q) : ∃ i j,x = .int i∧y = .int j∧g i j q:=by
 cases x with
 | int i=>cases y with
  | int j=>exact ⟨i,j,rfl,rfl,h⟩
  | _=>exact False.elim h
 | _=>exact False.elim h
theorem zaaa {f:Value→Value→Sem Value}{C:Int→Int→Prop}{g:Int→Int→PyData}{gv:Int→Int→V} (h:OpR X f (rI C gv)) (hg : ∀ i j F,Is X.K F (g i j) (gv i j)):OpV X f (dI2 fun i j q=>C i j∧q (g i j)):=h.imp fun x y H Q xx88=>by
 obtain ⟨F,dx,dy,q,s,i1,i2,h,k⟩:=xx88
 obtain ⟨i,j,rfl,rfl,c,hq⟩:=zahn h
 exact ⟨i,j,i1.int_inv,i2.int_inv,c,k _ _ F H (.refl s) (hg i j F) hq⟩
theorem qpz {f:Value→Value→Sem Value}{g:Int→Int→PyData}{gv:Int→Int→V} (h:OpR X f (rI0 gv)) (hg : ∀ i j F,Is X.K F (g i j) (gv i j)):OpV X f (dI2 fun i j q=>q (g i j)):=h.imp fun x y H Q xx89=>by
 obtain ⟨F,dx,dy,q,s,i1,i2,h,k⟩:=xx89
 obtain ⟨i,j,rfl,rfl,hq⟩:=zahn h
 exact ⟨i,j,i1.int_inv,i2.int_inv,k _ _ F H (.refl s) (hg i j F) hq⟩
abbrev dSub:D2:=dI2 fun i j q=>q (.int (i-j))
abbrev zakx:D2:=dI2 fun i j q=>IntMulOk i j∧q (.int (i*j))
abbrev zalp:D2:=dI2 fun i j q=>zahj i j∧q (.int (i.fdiv j))
abbrev dDiv:D2:=dI2 fun i j q=>(0<j∧Builtin.Int.intBits j≤9000)∧q (.int (i/j))
abbrev dMod:D2:=dI2 fun i j q=>0<j∧q (.int (i%j))
abbrev dLt:D2:=dI2 fun i j q=>q (.bool (decide (i<j)))
abbrev dLe:D2:=dI2 fun i j q=>q (.bool (decide (i≤j)))
abbrev dGt:D2:=dI2 fun i j q=>q (.bool (decide (j<i)))
abbrev dGe:D2:=dI2 fun i j q=>q (.bool (decide (j≤i)))
theorem qvz:OpV X (binaryOp .Sub) dSub:=qpz zaju fun _ _ _=>qZ _
theorem qaw:OpV X (binaryOp .Mult) zakx:=zaaa zafz fun _ _ _=>qZ _
theorem zacu:OpV X (binaryOp .FloorDiv) zalp:=zaaa quz fun _ _ _=>qZ _
theorem zagv:OpR X (binaryOp .FloorDiv) (rI (fun _ j=>0<j∧Builtin.Int.intBits j≤9000) fun i j => .int (i/j)):=quz.imp fun x y H Q xx90=>by
 obtain ⟨i,j,e1,e2,c,q⟩:=xx90
 exact ⟨i,j,e1,e2,⟨by have:=c.1;omega,c.2⟩,by show Q (V.int (i.fdiv j)) H;rw [Int.fdiv_eq_ediv_of_nonneg _ (Int.le_of_lt c.1)];exact q⟩
theorem qhz:OpV X (binaryOp .FloorDiv) dDiv:=zaaa zagv fun _ _ _=>qZ _
theorem qij:OpV X (binaryOp .Mod) dMod:=zaaa zair fun _ _ _=>qZ _
theorem qql:OpV X (compareOp .Lt) dLt:=qpz zakj fun _ _ _=>qfy _
theorem o_le:OpV X (compareOp .LtE) dLe:=qpz zakk fun _ _ _=>qfy _
theorem qxc:OpV X (compareOp .Gt) dGt:=qpz zalx fun _ _ _=>qfy _
theorem o_ge:OpV X (compareOp .GtE) dGe:=qpz zakp fun _ _ _=>qfy _
def dEq:D2:=fun d e q=>SeqAt.shaped d=true∧SeqAt.shaped e=true∧q (.bool (PyData.eqv d e))
def dNe:D2:=fun d e q=>SeqAt.shaped d=true∧SeqAt.shaped e=true∧q (.bool (!PyData.eqv d e))
theorem qms (hu:X.A.units+64<cLine):OpV X (compareOp .Eq) dEq:=(zaij hu).imp fun x y H Q xx91=>by
 obtain ⟨F,dx,dy,q,s,i1,i2,h,k⟩:=xx91
 exact ⟨dx,dy,i1.mono s,i2.mono s,h.1,h.2.1,k _ _ F H (.refl s) (qfy _) h.2.2⟩
theorem qlc (hu:X.A.units+64<cLine):OpV X (compareOp .NotEq) dNe:=(zaio hu).imp fun x y H Q xx92=>by
 obtain ⟨F,dx,dy,q,s,i1,i2,h,k⟩:=xx92
 exact ⟨dx,dy,i1.mono s,i2.mono s,h.1,h.2.1,k _ _ F H (.refl s) (qfy _) h.2.2⟩
def qsr:PyData→Bool
 | .none=>true
 | _=>false
def dIsN:D2:=fun d e q=>e = .none∧q (.bool (qsr d))
theorem qtq {K:PySem.W.Frag}{F:Hp}{d:PyData}{x:V} (h:Is K F d x):decide (x = .non)=qsr d:=by
 cases d with
 | none=>rw [h.non_inv];rfl
 | bool b=>rw [h.bl_inv];rfl
 | int b=>rw [h.int_inv];rfl
 | str b=>unfold Is at h;rw [h];rfl
 | list l=>obtain ⟨a,xs,rfl,_⟩:=h.lst_inv;rfl
 | tuple l=>obtain ⟨a,xs,rfl,_⟩:=h.tup_inv;rfl
 | dict l=>obtain ⟨a,xs,rfl,_⟩:=h.dct_inv;rfl
theorem zahk:OpV X (compareOp .Is) dIsN:=zait.imp fun x y H Q xx93=>by
 obtain ⟨F,dx,dy,q,s,i1,i2,h,k⟩:=xx93
 obtain ⟨rfl,hq⟩:=h
 exact ⟨i2.non_inv,by rw [qtq i1];exact k _ _ F H (.refl s) (qfy _) hq⟩
def dAdd:D2
 | .int i,.int j,q=>q (.int (i+j))
 | .list l,.list m,q=>l.length+m.length≤sizeLine∧q (.list (l++m))
 | .tuple l,.tuple m,q=>l≠[]∧l.length+m.length≤sizeLine∧q (.tuple (l++m))
 | .str x,.str y,q=>x.length+y.length≤sizeLine∧q (.str (x++y))
 | _,_,_=>False
theorem qdu:OpV X (binaryOp .Add) dAdd:=by
 rintro pins s σ H x y v u Q I rx ry ⟨F,dx,dy,q,sm,i1,i2,h,k⟩
 cases dx with
 | int i=>cases dy with
  | int j=>exact zaia pins s σ H x y v u Q I rx ry ⟨i,j,i1.int_inv,i2.int_inv,k _ _ F H (.refl sm) (qZ _) h⟩
  | _=>exact False.elim h
 | list l=>cases dy with
  | list m =>
   obtain ⟨a,xs,rfl,hs,hr⟩:=i1.lst_inv
   obtain ⟨b,ys,rfl,ht,hq⟩:=i2.lst_inv
   refine qxm pins s σ H _ _ v u Q I rx ry ⟨a,b,xs,ys,rfl,rfl,sm.seq hs,sm.seq ht,by rw [hr.len,hq.len];exact h.1,fun p hp=>?_⟩
   have g:=Go.put (o:=HO.lst (xs++ys)) sm hp
   exact k _ _ _ _ g (qcq (SqL.of qp) ((qX hr hq).mono g.f)) h.2
  | _=>exact False.elim h
 | tuple l=>cases dy with
  | tuple m =>
   obtain ⟨a,xs,rfl,hs,hr⟩:=i1.tup_inv
   obtain ⟨b,ys,rfl,ht,hq⟩:=i2.tup_inv
   refine zafb pins s σ H _ _ v u Q I rx ry ⟨a,b,xs,ys,rfl,rfl,qS sm hs,qS sm ht,fun z=>h.1 (List.length_eq_zero_iff.mp (by rw [← hr.len,z];rfl)),by rw [hr.len,hq.len];exact h.2.1,fun z=>?_,fun _ p hp=>?_⟩
   ·have hm:m=[]:=List.length_eq_zero_iff.mp (by rw [← hq.len,z];rfl)
    subst hm
    refine k _ _ F H (.refl sm) i1 ?_
    have:=h.2.2;rw [List.append_nil] at this;exact this
   ·have g:=Go.put (o:=HO.tup (xs++ys)) sm hp
    exact k _ _ _ _ g (qkc (SqT.of qp) ((qX hr hq).mono g.f)) h.2.2
  | _=>exact False.elim h
 | str x0=>cases dy with
  | str y0 =>
   unfold Is at i1 i2
   exact qvs pins s σ H x y v u Q I rx ry ⟨x0,y0,i1,i2,h.1,k _ _ F H (.refl sm) (qwy _) h.2⟩
  | _=>exact False.elim h
 | _=>exact False.elim h
def wCat (Wa Wb:WE):WF:=fun env Q=>Wa env fun x e1=>Wb e1 fun y e2=>match x,y with
 | .list l,.list m=>l.length+m.length≤sizeLine∧Q (l++m) e2
 | _,_=>False
theorem qpy {a b:Expr}{Wa Wb:WE}{pos:Pos} (ha:VE X a Wa) (hb:VE X b Wb):VF X (.BinOp a .Add b pos) (wCat Wa Wb):=(zahd qxm ha hb).imp fun σ H R xx94=>by
 obtain ⟨M,env,F,Q,I,h,k⟩:=xx94
 refine ⟨M,env,F,_,I,h,fun d v F1 H1 e1 I1 s1 i1 h1=>⟨M,e1,F1,_,I1,h1,fun d2 v2 F2 H2 e2 I2 s2 i2 h2=>?_⟩⟩
 cases d with
 | list l=>cases d2 with
  | list m =>
   obtain ⟨a,xs,rfl,hs,hr⟩:=(i1.mono s2).lst_inv
   obtain ⟨b,ys,rfl,ht,hq⟩:=i2.lst_inv
   exact ⟨a,b,xs,ys,rfl,rfl,I2.fh.seq hs,I2.fh.seq ht,by rw [hr.len,hq.len];exact h2.1,qhb I2 (s1.trans s2) (qX hr hq) h2.2 k⟩
  | _=>exact False.elim h2
 | _=>exact False.elim h2
section
variable {x:Str}{p pos:Pos}{e:Expr}{es:List Expr}{Wr:WF}{id T:String}{r:DC}{rf:List PyData→(List PyData→Prop)→Prop}
def qzy (r:DC) (Wr:WF):WE:=fun env Q=>Wr env fun ds e=>r ds fun d=>Q d e
def qtn (r:List PyData→(List PyData→Prop)→Prop) (Wr:WF):WF:=fun env Q=>Wr env fun ds e=>r ds fun l=>Q l e
theorem qlh {σ:St}{H:Hp}{R:VK} (h:qcc X.K (qzy r Wr) σ H R):qib X.K Wr σ H fun vs H1=>zaad X.K r vs H1 R:=by
 obtain ⟨M,env,F,Q,I,h,k⟩:=h
 exact ⟨M,env,F,_,I,h,fun ds vs F1 H1 e1 I1 s1 i1 h1=>⟨F1,ds,_,I1.fh,i1,h1,fun d v F2 H2 g i2 q=>k d v F2 H2 e1 (I1.go g) (s1.trans g.f) i2 q⟩⟩
theorem qjo {σ:St}{H:Hp}{R:VK} (h:qqb X.K (qtn rf Wr) σ H R):qib X.K Wr σ H fun vs H1=>qsz X.K rf vs H1 R:=by
 obtain ⟨M,env,F,Q,I,h,k⟩:=h
 refine ⟨M,env,F,_,I,h,fun ds vs F1 H1 e1 I1 s1 i1 h1=>⟨F1,ds,_,I1.fh,i1,h1,fun l a xs F2 H2 g ha hf hh hi q=>?_⟩⟩
 exact k a xs l F2 H2 e1 (I1.go g) (s1.trans g.f) hh hf (qH I1.bh ha) (I1.he ha) (qlz I1 ha) hi q
theorem qr (hc:qnw X (.builtin id) r) (hm:X.mg x=none) (hv:bootBuiltins x=some (.builtin id)) (ha:VA X (e::es) Wr) (hg:Gl X x:=by rfl) (hn:x ≠ "__name__":=by decide) (hdb:(x==("__debug__" : Str))=false:=by decide)
 (he:starEach (e::es) X.env=(false,eval e X.env)::starEach es X.env:=by rfl) (hpl:(backTo pos (starEach es X.env)).any (·.1)=false:=by rfl):VE X (.Call (.Name x p) (e::es) [] pos) (qzy r Wr) :=
 (qhx hc hg hm hv ha hn hdb he hpl).imp fun _ _ _ h=>qlh h
theorem qff (hc:qnw X (.type T) r) (hm:X.mg x=none) (hv:bootBuiltins x=some (.type T)) (ha:VA X (e::es) Wr) (hg:Gl X x:=by rfl) (hn:x ≠ "__name__":=by decide) (hdb:(x==("__debug__" : Str))=false:=by decide)
 (he:starEach (e::es) X.env=(false,eval e X.env)::starEach es X.env:=by rfl) (hpl:(backTo pos (starEach es X.env)).any (·.1)=false:=by rfl):VE X (.Call (.Name x p) (e::es) [] pos) (qzy r Wr) :=
 (qie hc hg hm hv ha hn hdb he hpl).imp fun _ _ _ h=>qlh h
theorem zabz (hc:qpf X (.builtin id) rf) (hm:X.mg x=none) (hv:bootBuiltins x=some (.builtin id)) (ha:VA X (e::es) Wr) (hg:Gl X x:=by rfl) (hn:x ≠ "__name__":=by decide) (hdb:(x==("__debug__" : Str))=false:=by decide)
 (he:starEach (e::es) X.env=(false,eval e X.env)::starEach es X.env:=by rfl) (hpl:(backTo pos (starEach es X.env)).any (·.1)=false:=by rfl):VF X (.Call (.Name x p) (e::es) [] pos) (qtn rf Wr) :=
 (qhx hc hg hm hv ha hn hdb he hpl).imp fun _ _ _ h=>qjo h
theorem qrf (hc:qpf X (.type T) rf) (hm:X.mg x=none) (hv:bootBuiltins x=some (.type T)) (ha:VA X (e::es) Wr) (hg:Gl X x:=by rfl) (hn:x ≠ "__name__":=by decide) (hdb:(x==("__debug__" : Str))=false:=by decide)
 (he:starEach (e::es) X.env=(false,eval e X.env)::starEach es X.env:=by rfl) (hpl:(backTo pos (starEach es X.env)).any (·.1)=false:=by rfl):VF X (.Call (.Name x p) (e::es) [] pos) (qtn rf Wr) :=
 (qie hc hg hm hv ha hn hdb he hpl).imp fun _ _ _ h=>qjo h
def PSp (K:PySem.W.Frag) (sp:DC):Sp:=fun vs H Q _=>zaad K sp vs H Q
def FSp (K:PySem.W.Frag) (sp:List PyData→(List PyData→Prop)→Prop):Sp:=fun vs H Q _=>qsz K sp vs H Q
theorem qx {k:Nat}{ps:List Str}{sp:DC} (O:Ok X.prog X.w X.K X.mg X.base x k ps (PSp X.K sp)) (hr:Room k X.A) (ha:VA X (e::es) Wr) (hg:Gl X x:=by rfl) (hdb:(x==("__debug__" : Str))=false:=by decide)
 (he:starEach (e::es) X.env=(false,eval e X.env)::starEach es X.env:=by rfl) (hpl:(backTo pos (starEach es X.env)).any (·.1)=false:=by rfl):VE X (.Call (.Name x p) (e::es) [] pos) (qzy sp Wr) :=
 (zaac O hr ha hg hdb he hpl).imp fun σ H R h=>by
  have e:qod (PSp X.K sp) [] E0 (qib X.K Wr) σ H R=qib X.K Wr σ H fun vs H1=>zaad X.K sp vs H1 R:=by unfold qod PSp;simp only [List.append_nil]
  rw [e]
  exact qlh h
theorem qnk {k:Nat}{ps:List Str}{sp:List PyData→(List PyData→Prop)→Prop} (O:Ok X.prog X.w X.K X.mg X.base x k ps (FSp X.K sp)) (hr:Room k X.A) (ha:VA X (e::es) Wr) (hg:Gl X x:=by rfl) (hdb:(x==("__debug__" : Str))=false:=by decide)
 (he:starEach (e::es) X.env=(false,eval e X.env)::starEach es X.env:=by rfl) (hpl:(backTo pos (starEach es X.env)).any (·.1)=false:=by rfl):VF X (.Call (.Name x p) (e::es) [] pos) (qtn sp Wr) :=
 (zaac O hr ha hg hdb he hpl).imp fun σ H R h=>by
  have e:qod (FSp X.K sp) [] E0 (qib X.K Wr) σ H R=qib X.K Wr σ H fun vs H1=>qsz X.K sp vs H1 R:=by unfold qod FSp;simp only [List.append_nil]
  rw [e]
  exact qjo h
end
def dAbs:DC
 | [.int i],q=>q (.int (if i<0 then -i else i))
 | _,_=>False
def dLen:DC
 | [.list l],q=>q (.int l.length)
 | [.tuple l],q=>q (.int l.length)
 | [.str x],q=>x.length≤sizeLine∧q (.int x.length)
 | _,_=>False
theorem qpm {K:PySem.W.Frag}{H:Hp}{d:PyData}{vs:List V} (h:Iss K H [d] vs) : ∃ v,vs=[v]∧Is K H d v:=by
 obtain ⟨x,r,rfl,p,q⟩:=h.cons_inv
 rw [q.nil_inv];exact ⟨x,rfl,p⟩
theorem iss2 {K:PySem.W.Frag}{H:Hp}{d e:PyData}{vs:List V} (h:Iss K H [d,e] vs) : ∃ v u,vs=[v,u]∧Is K H d v∧Is K H e u:=by
 obtain ⟨x,r,rfl,p,q⟩:=h.cons_inv
 obtain ⟨y,rfl,q'⟩:=qpm q
 exact ⟨x,y,rfl,p,q'⟩
theorem zady:qnw X (.builtin "abs") dAbs:=zabd.imp fun xs H Q xx95=>by
 obtain ⟨F,ds,q,s,i,h,k⟩:=xx95
 match ds,h,i with
 | [.int n],h,i =>
  obtain ⟨v,rfl,j⟩:=qpm i
  exact ⟨n,by rw [j.int_inv],k _ _ F H (.refl s) (qZ _) h⟩
theorem qag:qnw X (.builtin "len") dLen:=(qgh.or qrr).imp fun xs H Q xx96=>by
 obtain ⟨F,ds,q,s,i,h,k⟩:=xx96
 match ds,h,i with
 | [.list l],h,i =>
  obtain ⟨v,rfl,j⟩:=qpm i
  obtain ⟨a,xs,rfl,hs,hr⟩:=j.lst_inv
  exact .inl ⟨a,xs,rfl,.inl (s.seq hs),k _ _ F H (.refl s) (by rw [hr.len];exact qZ _) h⟩
 | [.tuple l],h,i =>
  obtain ⟨v,rfl,j⟩:=qpm i
  obtain ⟨a,xs,rfl,hs,hr⟩:=j.tup_inv
  exact .inl ⟨a,xs,rfl,.inr (qS s hs),k _ _ F H (.refl s) (by rw [hr.len];exact qZ _) h⟩
 | [.str z],h,i =>
  obtain ⟨v,rfl,j⟩:=qpm i
  unfold Is at j
  subst j
  exact .inr ⟨z,rfl,h.1,k _ _ F H (.refl s) (qZ _) h.2⟩
def zajp:List PyData→(List PyData→Prop)→Prop
 | [.list l],q=>q l
 | [.tuple l],q=>q l
 | _,_=>False
theorem zadg:qpf X (.type "list") zajp:=qrt.imp fun xs H Q xx97=>by
 obtain ⟨F,ds,q,s,i,h,k⟩:=xx97
 match ds,h,i with
 | [.list l],h,i =>
  obtain ⟨v,rfl,j⟩:=qpm i
  obtain ⟨a,xs,rfl,hs,hr⟩:=j.lst_inv
  exact ⟨a,xs,rfl,.inl (s.seq hs),fun p hp=>k l p xs F _ (.side s hp) hp (qH s hp) qp hr h⟩
 | [.tuple l],h,i =>
  obtain ⟨v,rfl,j⟩:=qpm i
  obtain ⟨a,xs,rfl,hs,hr⟩:=j.tup_inv
  exact ⟨a,xs,rfl,.inr (qS s hs),fun p hp=>k l p xs F _ (.side s hp) hp (qH s hp) qp hr h⟩
def zaid:DC
 | [.list l],q=>q (.tuple l)
 | [.tuple l],q=>q (.tuple l)
 | _,_=>False
theorem qjf:qnw X (.type "tuple") zaid:=qpo.imp fun xs H Q xx98=>by
 obtain ⟨F,ds,q,s,i,h,k⟩:=xx98
 match ds,h,i with
 | [.list l],h,i =>
  obtain ⟨v,rfl,j⟩:=qpm i
  obtain ⟨a,xs,rfl,hs,hr⟩:=j.lst_inv
  refine ⟨a,xs,rfl,.inl ⟨s.seq hs,fun p hp=>?_⟩⟩
  have g:=Go.put (o:=HO.tup xs) s hp
  exact k _ _ _ _ g (qkc (SqT.of qp) (hr.mono g.f)) h
 | [.tuple l],h,i =>
  obtain ⟨v,rfl,j⟩:=qpm i
  obtain ⟨a,xs,rfl,hs,hr⟩:=j.tup_inv
  exact ⟨a,xs,rfl,.inr ⟨qS s hs,k _ _ F H (.refl s) j h⟩⟩
end
end L2
namespace L2
open PySem PySem.Spec PyProof.Rows
section
variable {X:Cx}
section
variable {a b c e o:Expr}{W Wa Wb:WE}{Tc:WT}{pos pos':Pos}{st:Stmt}{sts rest:List Stmt}{Wt Wu:WS}{WfF:WF}
def zaln:WS:=fun D env=>D.nx env
def wSeq (t u:WS):WS:=fun D env=>t { D with nx:=u D } env
def wMid (t u:WS):WS:=fun D env => ∃ Md:Sto→Prop,t { D with nx:=Md } env ∧ ∀ e,Md e→u D e
def zaiy:WS:=fun _ _=>False
theorem qI:VSs X [] zaln:=qsd.imp fun D σ H xx99=>by obtain ⟨M,env,F,DD,I,h,k⟩:=xx99;exact k.nx env F H σ I (.refl _) h
theorem qh (h:VS X st Wt):VSs X [st] Wt:=qfh h
theorem qg (h1:VS X st Wt) (h2:VSs X rest Wu):VSs X (st::rest) (wSeq Wt Wu):=(qz h1 h2).imp fun D σ H xx100=>by
 obtain ⟨M,env,F,DD,I,h,k⟩:=xx100
 exact ⟨M,env,F,{ DD with nx:=Wu DD },I,h,fun e' F' H' σ' I' s' h'=>⟨M,e',F',DD,I',h',k.mono s'⟩,k.rt,k.bk,k.ct⟩
theorem qfg (h1:VS X st Wt) (h2:VSs X rest Wu):VSs X (st::rest) (wMid Wt Wu):=(qz h1 h2).imp fun D σ H xx101=>by
 obtain ⟨M,env,F,DD,I,⟨Md,h,hm⟩,k⟩:=xx101
 exact ⟨M,env,F,{ DD with nx:=Md },I,h,fun e' F' H' σ' I' s' h'=>⟨M,e',F',DD,I',hm e' h',k.mono s'⟩,k.rt,k.bk,k.ct⟩
theorem qey:VSs X sts zaiy:=qzd.imp fun D σ H xx102=>by obtain ⟨M,env,F,DD,I,h,k⟩:=xx102;exact h.elim
def wFz (i:Nat) (t:WS):WS:=fun D env=>t D (env.set i (gS env i).fz)
theorem qgd (i:Nat) (h:VSs X sts Wt):VSs X sts (wFz i Wt):=h.imp fun D σ H xx103=>by
 obtain ⟨M,env,F,DD,I,h,k⟩:=xx103
 obtain ⟨F',J,s⟩:=I.freeze i
 exact ⟨M,_,F',DD,J,h,k.mono s⟩
def zaly (W:WE):WS:=fun D env=>W env fun _ e=>D.nx e
theorem qgz (he:VE X e W) (hs:swapsWith e none pos.line X.env=pure false:=by rfl):VS X (.Expr e pos) (zaly W):=(qfv he hs).imp fun D σ H xx104=>by
 obtain ⟨M,env,F,DD,I,h,k⟩:=xx104
 exact ⟨M,env,F,_,I,h,fun d v F1 H1 e1 I1 s1 i1 h1=>k.nx e1 F1 H1 σ I1 s1 h1⟩
def wRet (W:WE):WS:=fun D env=>W env fun d e=>D.rt (.val d) e
theorem qv (he:VE X e W):VS X (.Return (some e) pos) (wRet W):=(qke he).imp fun D σ H xx105=>by
 obtain ⟨M,env,F,DD,I,h,k⟩:=xx105
 exact ⟨M,env,F,_,I,h,fun d v F1 H1 e1 I1 s1 i1 h1=>k.rt (.val d) v e1 F1 H1 σ I1 s1 i1 h1⟩
def zaky (W:WF):WS:=fun D env=>W env fun l e=>D.rt (.own l) e
theorem qhc (he:VF X e WfF):VS X (.Return (some e) pos) (zaky WfF):=(qke he).imp fun D σ H xx106=>by
 obtain ⟨M,env,F,DD,I,h,k⟩:=xx106
 exact ⟨M,env,F,_,I,h,fun p vs l F1 H1 e1 I1 s1 g1 g2 g3 g4 g5 g6 h1=>k.rt (.own l) _ e1 F1 H1 σ I1 s1 ⟨p,vs,rfl,g1,g2,g3,g4,g6⟩ h1⟩
def zaht (i:Nat):WS:=fun D env=>match gS env i with | .own ds=>D.rt (.own ds) env|_=>False
theorem qry (i:Nat) {x:Str}{px:Pos} (hN:X.N[i]?=some x:=by rfl) (hv:Vis X.env.scope x:=by first|exact Or.inl rfl|exact Or.inr (Or.inl rfl)|exact Or.inr (Or.inr rfl)) (hd:(x==("__debug__" : Str))=false:=by decide)
 (hcd:(x==("__classdict__" : Str))=false:=by decide):VS X (.Return (some (.Name x px)) pos) (zaht i):=(qke (qG hN hv hd hcd)).imp fun D σ H xx107=>by
 obtain ⟨M,env,F,DD,I,h,k⟩:=xx107
 have S:=I.slot i
 unfold zaht at h
 cases q:gS env i with
 | own ds =>
  rw [q] at S h
  obtain ⟨p,vs,e,g1,g2,g3,g4,g5⟩:=S
  exact ⟨_,qbu e,k.rt (.own ds) _ env F H σ I (.refl _) ⟨p,vs,rfl,g1,g2,g3,g4,g5⟩ h⟩
 | non=>rw [q] at h;exact h.elim
 | val d=>rw [q] at h;exact h.elim
 | pen ds=>rw [q] at h;exact h.elim
 | new d=>rw [q] at h;exact h.elim
 | exc C=>rw [q] at h;exact h.elim
 | obj a0 C nm fs=>rw [q] at h;exact h.elim
def wIf (Tc:WT) (t u:WS):WS:=fun D env=>Tc env fun k e=>if k=true then t D e else u D e
theorem qam {A B:List Stmt} (hc:VT X c Tc) (ha:VSs X A Wt) (hb:VSs X B Wu):VS X (.If c A B pos) (wIf Tc Wt Wu):=(zaed hc ha hb).imp fun D σ H xx108=>by
 obtain ⟨M,env,F,DD,I,h,k⟩:=xx108
 refine ⟨M,env,F,_,I,h,fun x F1 H1 e1 I1 s1 h1=>?_⟩
 cases x with
 | true=>exact qur ⟨M,e1,F1,DD,I1,h1,k.mono s1⟩
 | false=>exact qsk ⟨M,e1,F1,DD,I1,h1,k.mono s1⟩
def wSet (i:Nat) (W:WE):WS:=fun D env=>W env fun d e=>D.nx (e.set i (.val d))
theorem qC {i:Nat}{x:Str} (hN:X.N.Nodup) (he:VE X e W) (hi:X.N[i]?=some x:=by rfl) (hx:Loc X.env.scope x:=by first|exact Or.inl rfl|exact Or.inr rfl) (hs:swapsWith e (some (.Name x pos')) pos.line X.env=pure false:=by rfl)
 (hf:X.fn x=true∨X.env.scope.names.lookup x=some .local:=by first|exact .inl rfl|exact .inr rfl):VS X (.Assign [.Name x pos'] e pos) (wSet i W):=(qgf hN hi hx he hs hf).imp fun D σ H xx109=>by
 obtain ⟨M,env,F,DD,I,h,k⟩:=xx109
 exact ⟨M,env,F,_,I,h,fun d v F1 H1 e1 I1 s1 i1 h1=>k.nx _ F1 H1 _ (I1.setv i1) s1 h1⟩
def zahi (i:Nat) (W:WF):WS:=fun D env=>W env fun l e=>D.nx (e.set i (.own l))
theorem qdc {i:Nat}{x:Str} (hN:X.N.Nodup) (he:VF X e WfF) (hi:X.N[i]?=some x:=by rfl) (hx:Loc X.env.scope x:=by first|exact Or.inl rfl|exact Or.inr rfl) (hs:swapsWith e (some (.Name x pos')) pos.line X.env=pure false:=by rfl)
 (hf:X.fn x=true∨X.env.scope.names.lookup x=some .local:=by first|exact .inl rfl|exact .inr rfl):VS X (.Assign [.Name x pos'] e pos) (zahi i WfF):=(qgf hN hi hx he hs hf).imp fun D σ H xx110=>by
 obtain ⟨M,env,F,DD,I,h,k⟩:=xx110
 exact ⟨M,env,F,_,I,h,fun p vs l F1 H1 e1 I1 s1 g1 g2 g3 g4 g5 g6 h1=>k.nx _ F1 H1 _ (I1.seto g1 g2 g3 g4 g5 g6) s1 h1⟩
def zaja (i:Nat):WG:=fun d env Q=>Q (env.set i (.val d))
theorem qm {i:Nat}{x:Str} (hN:X.N.Nodup) (hi:X.N[i]?=some x:=by rfl) (hx:Loc X.env.scope x:=by first|exact Or.inl rfl|exact Or.inr rfl) (hf:X.fn x=true∨X.env.scope.names.lookup x=some .local:=by first|exact .inl rfl|exact .inr rfl):VG X (.Name x pos) (zaja i) :=
 (zaen hN hi hx hf).imp fun v σ H R xx111=>by obtain ⟨M,env,F,d,Q,I,j,h,k⟩:=xx111;exact k F H _ _ (I.setv j) (.refl _) h
def zalh:WGs:=fun ds env Q=>ds=[]∧Q env
def zajq (G:WG) (Gs:WGs):WGs:=fun ds env Q=>match ds with|[]=>False|d::r=>G d env fun e=>Gs r e Q
theorem qdd:VGs X [] zalh:=zaei.imp fun v σ H R xx112=>by
 obtain ⟨M,env,F,ds,Q,I,j,h,k⟩:=xx112
 obtain ⟨rfl,h⟩:=h
 exact ⟨j.nil_inv,k F H env σ I (.refl _) h⟩
theorem qK {es:List Expr}{G:WG}{Gs:WGs} (h1:VG X e G) (h2:VGs X es Gs) (hs:(assignEach (e::es) X.env).map (·.2)=assign e X.env::(assignEach es X.env).map (·.2):=by rfl):VGs X (e::es) (zajq G Gs) :=
 (zabg h1 h2 hs).imp fun v σ H R xx113=>by
  obtain ⟨M,env,F,ds,Q,I,j,h,k⟩:=xx113
  cases ds with
  | nil=>exact False.elim h
  | cons d r =>
   obtain ⟨x,xs,rfl,j1,j2⟩:=j.cons_inv
   exact ⟨x,xs,rfl,M,env,F,d,_,I,j1,h,fun F1 H1 e1 σ1 I1 s1 q1=>⟨M,e1,F1,r,Q,I1,j2.mono s1,q1,fun F2 H2 e2 σ2 I2 s2 q2=>k F2 H2 e2 σ2 I2 (s1.trans s2) q2⟩⟩
def zalo (n:Nat) (Gs:WGs):WG:=fun d env Q=>match d with | .tuple l=>l.length=n∧Gs l env Q|_=>False
theorem qft {es:List Expr}{kk n:Nat}{Gs:WGs} (hc:X.calm=true) (h:VGs X es Gs) (hn:(assignEach es X.env).length=n:=by rfl) (hst:(assignEach es X.env).findIdx? (·.1)=none:=by rfl):VG X (.Tuple es kk pos) (zalo n Gs) :=
 (zajy hc h hn hst).imp fun v σ H R xx114=>by
  obtain ⟨M,env,F,d,Q,I,j,h,k⟩:=xx114
  cases d with
  | tuple l =>
   obtain ⟨a,xs,rfl,hs,hr⟩:=j.tup_inv
   exact ⟨a,xs,rfl,qS I.fh hs,by rw [hr.len];exact h.1,M,env,F,l,Q,I,hr,h.2,k⟩
  | _=>exact False.elim h
def wAsg (W:WE) (G:WG):WS:=fun D env=>W env fun d e=>G d e D.nx
theorem zadp {tg:Expr}{G:WG} (he:VE X e W) (hg:VG X tg G) (hs:swapsWithSole [tg] e pos.line X.env=pure false:=by rfl) (hw:swappedStores [tg] e X.env=pure none:=by rfl)
 (h1:(assignEach [tg] X.env).map (·.2)=[assign tg X.env]:=by rfl):VS X (.Assign [tg] e pos) (wAsg W G):=(qwv he hg hs hw h1).imp fun D σ H xx115=>by
 obtain ⟨M,env,F,DD,I,h,k⟩:=xx115
 exact ⟨M,env,F,_,I,h,fun d v F1 H1 e1 I1 s1 i1 h1=>⟨M,e1,F1,d,_,I1,i1,h1,fun F2 H2 e2 σ2 I2 s2 q2=>k.nx e2 F2 H2 σ2 I2 (s1.trans s2) q2⟩⟩
def wApp (i:Nat) (W:WE):WS:=fun D env=>(gS env i).mut=true∧W env fun d e=>(gS e i).mut=true∧(gS e i).cnt.length<sizeLine∧D.nx (e.set i ((gS e i).upd ((gS e i).cnt++[d])))
theorem qcb (i:Nat) {x:Str}{px apos cpos:Pos} (he:VE X e W) (hN:X.N[i]?=some x:=by rfl) (hv:Vis X.env.scope x:=by first|exact Or.inl rfl|exact Or.inr (Or.inl rfl)|exact Or.inr (Or.inr rfl)) (hd:(x==("__debug__" : Str))=false:=by decide)
 (hcd:(x==("__classdict__" : Str))=false:=by decide)
 (hbase:attributeBase (.Name x px) "append" X.env (eval (.Name x px) X.env)=eval (.Name x px) X.env:=by rfl)
 (hfew:((backTo cpos (starEach [e] X.env)).all (fun x => !x.1)&&(backToKw cpos (keywordEach [] X.env)).all (fun x=>x.1.isSome)
  && decide ([e].length+([]:List Keyword).length+(if ([]:List Keyword).isEmpty then 0 else 1)<30))=true:=by rfl)
 (hline:(apos.endLine==cpos.line)=true:=by rfl) (hst:starEach [e] X.env=(false,eval e X.env)::starEach [] X.env:=by rfl) (hplain:(backTo cpos (starEach [] X.env)).any (·.1)=false:=by rfl)
 (hs:swapsWith (.Call (.Attribute (.Name x px) "append" apos) [e] [] cpos) none pos.line X.env=pure false:=by rfl):VS X (.Expr (.Call (.Attribute (.Name x px) "append" apos) [e] [] cpos) pos) (wApp i W) :=
 (qfv (qlk (qG hN hv hd hcd) he hbase hfew hline hst hplain) hs).imp fun D σ H xx116=>by
  obtain ⟨M,env,F,DD,I,⟨hm,h⟩,k⟩:=xx116
  obtain ⟨p,vs,ep,g1,g2,g3,g4⟩:=(I.slot i).addr hm
  refine ⟨_,qbu ep,.inl ⟨rfl,_,SqL.of g1⟩,M,env,F,_,I,h,fun d v F1 H1 e1 I1 s1 i1 h1=>?_⟩
  obtain ⟨m1,z1,q1⟩:=h1
  obtain ⟨p',vs1,ep',f1,f2,f3,f4⟩:=(I1.slot i).addr m1
  rw [ep] at ep';injection ep' with ep';injection ep' with ep';subst ep'
  exact ⟨p,vs1,v,rfl,rfl,f1,by rw [f4.len];exact z1,k.nx _ F1 _ σ (I1.chg m1 ep (qX f4 (qy i1 qO))) s1 q1⟩
def wPut (i:Nat) (W Wj:WE):WS:=fun D env=>W env fun d e1=>(gS e1 i).mut=true∧Wj e1 fun y e2=>match y with
 | .int n=>(gS e2 i).mut=true ∧ ∃ j,ixN (gS e2 i).cnt.length n=some j∧D.nx (e2.set i ((gS e2 i).upd ((gS e2 i).cnt.set j d)))
 | _=>False
theorem qya {K:PySem.W.Frag}{H:Hp}{d:PyData}{v:V} (h:Is K H d v) : ∀ {l:List PyData}{xs:List V} (j:Nat),Iss K H l xs→Iss K H (l.set j d) (xs.set j v)
 | [],_,j,r=>by rw [r.nil_inv];simpa using qO
 | x::l,_,0,r=>by obtain ⟨y,ys,rfl,p,q⟩:=r.cons_inv;exact qy h q
 | x::l,_,j+1,r=>by obtain ⟨y,ys,rfl,p,q⟩:=r.cons_inv;exact qy p (qya h j q)
theorem qhf (i:Nat) {x:Str}{px:Pos} (he:VE X e W) (hj:VE X b Wb) (hN:X.N[i]?=some x:=by rfl) (hv:Vis X.env.scope x:=by first|exact Or.inl rfl|exact Or.inr (Or.inl rfl)|exact Or.inr (Or.inr rfl)) (hd:(x==("__debug__" : Str))=false:=by decide)
 (hcd:(x==("__classdict__" : Str))=false:=by decide)
 (ha : ∀ v,assign (.Subscript (.Name x px) b pos') X.env v=(do
  let ov ← holding [v] (eval (.Name x px) X.env)
  let iv ← holding [v,ov] (eval b X.env)
  standAt pos'
  holding [v,ov,iv] (setItem ov iv v)
  release [v,ov,iv] []):=by intro _;rfl)
 (hs:swapsWithSole [.Subscript (.Name x px) b pos'] e pos.line X.env=pure false:=by rfl) (hw:swappedStores [.Subscript (.Name x px) b pos'] e X.env=pure none:=by rfl)
 (h1:(assignEach [.Subscript (.Name x px) b pos'] X.env).map (·.2)=[assign (.Subscript (.Name x px) b pos') X.env]:=by rfl):VS X (.Assign [.Subscript (.Name x px) b pos'] e pos) (wPut i W Wb) :=
 (qwv he (zadu (qG hN hv hd hcd) hj qug ha) hs hw h1).imp fun D σ H xx117=>by
  obtain ⟨M,env,F,DD,I,h,k⟩:=xx117
  refine ⟨M,env,F,_,I,h,fun d v F1 H1 e1 I1 s1 i1 h1=>?_⟩
  obtain ⟨m1,h1⟩:=h1
  obtain ⟨p,vs,ep,g1,g2,g3,g4⟩:=(I1.slot i).addr m1
  refine ⟨_,qbu ep,M,e1,F1,_,I1,h1,fun d2 v2 F2 H2 e2 I2 s2 i2 h2=>?_⟩
  cases d2 with
  | int n =>
   obtain ⟨m2,j,hj,q⟩:=h2
   obtain ⟨p',vs1,ep',f1,f2,f3,f4⟩:=(I2.slot i).addr m2
   rw [ep] at ep';injection ep' with ep';injection ep' with ep';subst ep'
   exact ⟨p,vs1,n,j,rfl,i2.int_inv,f1,by rw [f4.len];exact hj,k.nx _ F2 _ σ (I2.chg m2 ep (qya (i1.mono s2) j f4)) (s1.trans s2) q⟩
  | _=>exact False.elim h2
def wIxO (i:Nat) (Wj:WE):WE:=fun env Q=>(gS env i).mut=true∧Wj env fun y e=>match y with
 | .int n=>(gS e i).mut=true ∧ ∃ d,atI (gS e i).cnt n=some d∧Q d e
 | _=>False
theorem qcf (i:Nat) {x:Str}{px:Pos} (hj:VE X b Wb) (hN:X.N[i]?=some x:=by rfl) (hv:Vis X.env.scope x:=by first|exact Or.inl rfl|exact Or.inr (Or.inl rfl)|exact Or.inr (Or.inr rfl)) (hd:(x==("__debug__" : Str))=false:=by decide)
 (hcd:(x==("__classdict__" : Str))=false:=by decide) (hs:qsh b:=by exact (fun _ _=>rfl)):VE X (.Subscript (.Name x px) b pos) (wIxO i Wb) :=
 (qtl qnz (qG hN hv hd hcd) hj hs).imp fun σ H R xx118=>by
  obtain ⟨M,env,F,Q,I,⟨m,h⟩,k⟩:=xx118
  obtain ⟨p,vs,ep,g1,g2,g3,g4⟩:=(I.slot i).addr m
  refine ⟨_,qbu ep,M,env,F,_,I,h,fun d2 v2 F2 H2 e2 I2 s2 i2 h2=>?_⟩
  cases d2 with
  | int n =>
   obtain ⟨m2,d,hd,q⟩:=h2
   obtain ⟨p',vs1,ep',f1,f2,f3,f4⟩:=(I2.slot i).addr m2
   rw [ep] at ep';injection ep' with ep';injection ep' with ep';subst ep'
   obtain ⟨z,ez,hz⟩:=f4.atI hd
   exact ⟨p,vs1,n,z,rfl,i2.int_inv,SqL.of f1,ez,k d z F2 H2 e2 I2 s2 hz q⟩
  | _=>exact False.elim h2
def zali (i:Nat):WE:=fun env Q=>(gS env i).mut=true∧Q (.int (gS env i).cnt.length) env
theorem qyn (i:Nat) {x:Str}{px p:Pos} (hm:X.mg "len" = none) (hN:X.N[i]?=some x:=by rfl) (hv:Vis X.env.scope x:=by first|exact Or.inl rfl|exact Or.inr (Or.inl rfl)|exact Or.inr (Or.inr rfl)) (hd:(x==("__debug__" : Str))=false:=by decide)
 (hcd:(x==("__classdict__" : Str))=false:=by decide) (hg:Gl X "len":=by rfl) (hs:starEach [.Name x px] X.env=(false,eval (.Name x px) X.env)::starEach [] X.env:=by rfl) (hpl:(backTo pos (starEach [] X.env)).any (·.1)=false:=by rfl) :
 VE X (.Call (.Name "len" p) [.Name x px] [] pos) (zali i) :=
 (qhx qgh hg hm boot_len (qL (qG hN hv hd hcd) qbp hs) (by decide) (by decide) hs hpl).imp fun σ H R xx119=>by
  obtain ⟨M,env,F,Q,I,⟨m,h⟩,k⟩:=xx119
  obtain ⟨a,vs,ep,g1,g2,g3,g4⟩:=(I.slot i).addr m
  exact ⟨_,qbu ep,a,vs,rfl,.inl (SqL.of g1),k _ _ F H env I (.refl _) (by rw [g4.len];exact qZ _) h⟩
def zaip (Tc:WT) (t:WS):WS:=fun D env => ∃ P:Nat→Sto→Prop,(∃ m,P m env) ∧ ∀ m e,P m e→Tc e fun k e1=>if k=true then t { D with nx:=fun e2 => ∃ m',m'<m∧P m' e2,ct:=fun e2 => ∃ m',m'<m∧P m' e2,bk:=D.nx } e1 else D.nx e1
theorem qus {body:List Stmt} (hc:VT X c Tc) (hb:VSs X body Wt) (hp:PassesOwn (model X.prog X.w) X.A X.env X.xe:=by exact PassesOwn.never):VS X (.While c body [] pos) (zaip Tc Wt) :=
 (qub hp hc hb).imp fun D σ H xx123=>by
  obtain ⟨M,env,F,DD,I,⟨P,⟨m0,p0⟩,turn⟩,k⟩:=xx123
  refine ⟨fun m σ' H' => ∃ e' F',EnvOk X.K M F' H' e' σ'∧Same F F'∧P m e',⟨m0,env,F,I,.refl _,p0⟩,fun m σ1 H1 xx122=>?_⟩
  obtain ⟨e1,F1,I1,s1,p1⟩:=xx122
  refine ⟨M,e1,F1,_,I1,turn m e1 p1,fun x F2 H2 e2 I2 s2 h2=>?_⟩
  cases x with
  | true =>
   refine qur ⟨fun σ' H' => ∃ m',m'<m ∧ ∃ e' F',EnvOk X.K M F' H' e' σ'∧Same F F'∧P m' e',fun σ' H' z=>z,M,e2,F2,_,I2,h2,?_⟩
   have s02:=s1.trans s2
   exact ⟨fun e3 F3 H3 σ3 I3 s3 xx121=>by obtain ⟨m',l,p3⟩:=xx121;exact ⟨m',l,e3,F3,I3,s02.trans s3,p3⟩,fun r v e3 F3 H3 σ3 I3 s3=>k.rt r v e3 F3 H3 σ3 I3 (s02.trans s3),
    fun e3 F3 H3 σ3 I3 s3=>k.nx e3 F3 H3 σ3 I3 (s02.trans s3),fun e3 F3 H3 σ3 I3 s3 xx120=>by obtain ⟨m',l,p3⟩:=xx120;exact ⟨m',l,e3,F3,I3,s02.trans s3,p3⟩⟩
  | false=>exact qsk (k.nx e2 F2 H2 σ1 I2 (s1.trans s2) h2)
def wFor (Wi:WF) (G:WG) (t:WS):WS:=fun D env=>Wi env fun ds e0 => ∃ P:Nat→Sto→Prop,P 0 e0 ∧
 (∀ i d e,ds[i]?=some d→P i e→G d e fun e1=>t { D with nx:=P (i+1),ct:=P (i+1),bk:=D.nx } e1) ∧ ∀ e,P ds.length e→D.nx e
theorem qai {tg iter:Expr}{body:List Stmt}{Wi:WF}{G:WG} (hc:X.calm=true) (hi:VI X tg iter Wi) (hg:VG X tg G) (hb:VSs X body Wt)
 (hs : ∀ x,foldedSetIterable iter X.env x=pure x:=by intro _;rfl) (hp:PassesOwn (model X.prog X.w) X.A X.env X.xe:=by exact PassesOwn.never):VS X (.For tg iter body [] pos) (wFor Wi G Wt) :=
  (zahz hp hc hi hg hb hs).imp fun D σ H xx126=>by
   obtain ⟨M,env,F,DD,I,h,k⟩:=xx126
   refine ⟨M,env,F,_,I,h,fun ds J F1 H1 e1 I1 s1 jt xx125=>?_⟩
   obtain ⟨P,p0,turn,fin⟩:=xx125
   refine ⟨fun i m σ' H'=>m=ds.length-i∧i≤ds.length ∧ ∃ e' F',EnvOk X.K M F' H' e' σ'∧Same F1 F'∧P i e',⟨ds.length,by simp,Nat.zero_le _,e1,F1,I1,.refl _,p0⟩,fun i m σ2 H2 xx124=>?_⟩
   obtain ⟨hm,hi,e2,F2,I2,s2,p2⟩:=xx124
   by_cases hl:i=ds.length
   ·subst hl
    exact .inl ⟨jt.stop H2 (s2.trans I2.fh),k.nx e2 F2 H2 σ2 I2 (s1.trans s2) (fin e2 p2)⟩
   ·have hlt:i<ds.length:=by omega
    refine .inr ⟨jt.go i H2 (s2.trans I2.fh) hlt,fun σ' H' => ∃ e' F',EnvOk X.K M F' H' e' σ'∧Same F1 F'∧P (i+1) e',fun σ' H' z=>⟨ds.length-(i+1),by omega,rfl,hlt,z⟩,fun x H3 hy=>?_⟩
    obtain ⟨d,F3,hd,g,j⟩:=jt.yld i H2 x H3 F2 s2 I2.fh hlt hy
    refine ⟨M,e2,F3,d,_,I2.go g,j,turn i d e2 hd p2,fun F4 H4 e4 σ4 I4 s4 h4=>⟨M,e4,F4,_,I4,h4,?_⟩⟩
    have s14:=s2.trans (g.f.trans s4)
    exact ⟨fun e5 F5 H5 σ5 I5 s5 p5=>⟨e5,F5,I5,s14.trans s5,p5⟩,fun r v e5 F5 H5 σ5 I5 s5=>k.rt r v e5 F5 H5 σ5 I5 ((s1.trans s14).trans s5),
     fun e5 F5 H5 σ5 I5 s5=>k.nx e5 F5 H5 σ5 I5 ((s1.trans s14).trans s5),fun e5 F5 H5 σ5 I5 s5 p5=>⟨e5,F5,I5,s14.trans s5,p5⟩⟩
end
end
end L2
namespace L2
open PySem PySem.Spec PyProof.Rows
section
variable {X:Cx}
theorem qnm : ∀ {bs:List Bool}{us:List Value},Vals (bs.map V.bl) us→LSm.BoolsAre us bs
 | [],_,h=>by cases h;exact .nil
 | b::bs,_,h=>by
  cases h with
  | cons r t=>cases r;exact .cons b (qnm t)
theorem qlm : ∀ (ns:List Int) (n:Nat),n≤ns.length→preSum (fun i=>(ns[i]?).getD 0) n=(ns.take n).sum
 | ns,0,_=>by simp [preSum]
 | ns,n+1,h=>by
  have hn:n<ns.length:=h
  have e:(ns[n]?).getD 0=ns[n]:=by rw [List.getElem?_eq_getElem hn];rfl
  have e2:(ns.take n++[ns[n]]).sum=(ns.take n).sum+ns[n]:=by rw [List.sum_append];simp
  rw [preSum,qlm ns n (Nat.le_of_lt hn),e,List.take_add_one,List.getElem?_eq_getElem hn]
  exact e2.symm
theorem qon : ∀ {ns:List Int}{us:List Value},Vals (ns.map V.int) us → ∀ (i:Nat) (v:Value),us[i]?=some v → ∃ t,v = .int ((ns[i]?).getD 0) t
 | [],_,h,i,v,e=>by cases h;simp at e
 | n::ns,_,h,i,v,e=>by
  cases h with
  | cons r t =>
   cases i with
   | zero =>
    obtain ⟨k,rfl⟩:=r
    have:Value.int n k=v:=by simpa using e
    exact ⟨k,by rw [← this];rfl⟩
   | succ i =>
    obtain ⟨k,hk⟩:=qon t i v (by simpa using e)
    exact ⟨k,by simpa using hk⟩
def rSum (K:PySem.W.Frag):List V→Hp→VK→Prop:=fun xs H Q => ∃ (a:Addr) (ns:List Int),xs=[.ref a]∧(SqL K H a (ns.map V.int)∨SqT K H a (ns.map V.int))∧Q (.int ns.sum) H
theorem zabi (hc:X.calm=true):CallR X (.builtin "sum") (rSum X.K):=by
 intro pins s σ H xs us Q I r h
 obtain ⟨a,ns,rfl,ha,q⟩:=h
 obtain ⟨u,rfl,rx⟩:=qme r
 cases rx
 have fin : ∀ (its:List Value) (h':Heap) (tk t':Nat),its.length=ns.length→(∀ b o,s.heap.get? b=some o→h'.get? b=some o)→EP X pins σ Q (.int (preSum (fun i=>(ns[i]?).getD 0) its.toArray.size) t') { s with heap:=h',toks:=tk }:=fun its h' tk t' hl hk=>by
  have e:preSum (fun i=>(ns[i]?).getD 0) its.toArray.size=ns.sum:=by
   rw [List.size_toArray,hl,qlm ns _ (Nat.le_refl _),List.take_length]
  rw [e]
  exact ⟨.int ns.sum,H,I.kept (t':=tk) hk,⟨t',rfl⟩,q⟩
 have old : ∀ {h':Heap}{ob:Obj},(∀ b o,b ∉ [s.heap.objs.size]→(s.heap.push ob).get? b=some o→h'.get? b=some o) → ∀ b o,s.heap.get? b=some o→h'.get? b=some o:=fun hk b o z =>
  hk b o (fun hm=>by rw [List.mem_singleton.mp hm] at z;exact Nat.lt_irrefl _ (Heap.lt_size z)) (Heap.get?_push_of_some _ z)
 rcases ha with ha|ha
 ·obtain ⟨its,rv,pl,_⟩:=I.list ha
  have hl:=pl.isList
  have hlt:a<s.heap.objs.size:=pl.lt
  have hlen:its.length=ns.length:=by rw [← rv.length,List.length_map]
  refine call_sum_walkG (wpAny_pyIter_list hl ?_)
  refine ⟨s.heap.objs.size,[s.heap.objs.size,a],[s.heap.objs.size],its.toArray.size,_,_,fun i=>(ns[i]?).getD 0,rfl,Walks.list (A:=X.A.in1) (I.ok.hd hc) _ a (Nat.ne_of_lt hlt) its.toArray,
   ⟨⟨_,Heap.get?_push_size _ rfl,rfl,rfl⟩,hl.push _⟩,fun b hb=>?_,fun i v hP=>qon rv i v (by simpa using hP),fun h' tk t' hk=>fin its h' tk t' hlen (old hk)⟩
  have hb':b=s.heap.objs.size∨b=a:=by simpa using hb
  rw [Heap.size_push]
  rcases hb' with rfl|rfl
  ·exact Nat.lt_succ_self _
  ·exact Nat.lt_succ_of_lt hlt
 ·obtain ⟨its,rv,pl,_⟩:=I.tuple ha
  have hl:s.heap.IsTuple a its.toArray:=pl
  have hlt:a<s.heap.objs.size:=IsTup.lt pl
  have hlen:its.length=ns.length:=by rw [← rv.length,List.length_map]
  refine call_sum_walkG (wpAny_pyIter_tuple hl ?_)
  refine ⟨s.heap.objs.size,[s.heap.objs.size,a],[s.heap.objs.size],its.toArray.size,_,_,fun i=>(ns[i]?).getD 0,rfl,Walks.tuple (A:=X.A.in1) (I.ok.hd hc) _ a (Nat.ne_of_lt hlt) its.toArray,
   ⟨⟨_,Heap.get?_push_size _ rfl,rfl,rfl⟩,pl.push _⟩,fun b hb=>?_,fun i v hP=>qon rv i v (by simpa using hP),fun h' tk t' hk=>fin its h' tk t' hlen (old hk)⟩
  have hb':b=s.heap.objs.size∨b=a:=by simpa using hb
  rw [Heap.size_push]
  rcases hb' with rfl|rfl
  ·exact Nat.lt_succ_self _
  ·exact Nat.lt_succ_of_lt hlt
def zaez (K:PySem.W.Frag):List V→Hp→VK→Prop:=fun xs H Q => ∃ (a:Addr) (ns:List Int),xs=[.ref a]∧SqL K H a (ns.map V.int)∧ns.length<64 ∧ ∀ (p:Addr) (ns':List Int),H p=none→ns'.Perm ns→ns'.Pairwise (· ≤ ·)→Q (.ref p) (upd H p (.lst (ns'.map V.int)))
theorem qty:CallR X (.builtin "sorted") (zaez X.K):=by
 intro pins s σ H xs us Q I r h
 obtain ⟨a,ns,rfl,ha,h64,q⟩:=h
 obtain ⟨u,rfl,rx⟩:=qme r
 cases rx
 obtain ⟨its,rv,pl,_⟩:=I.list ha
 have hlen:its.length=ns.length:=by rw [← rv.length,List.length_map]
 refine sorted_ints pl.isList (qvj rv) (by omega) fun out ns' a1 a2 a3=>?_
 obtain ⟨e,he⟩:=sortedAll_at s.heap its out
 have hl':ns'.length=ns.length:=a2.length_eq
 refine ⟨.ref (s.heap.objs.size+1),_,I.laid (t':=s.toks) (a:=s.heap.objs.size+1) (o :=.lst (ns'.map V.int)) (fun b o z=>sortedAll_old z) (Nat.le_succ _) ?_,rfl,q _ ns' (I.hok.fresh (Nat.le_succ _)) a2 a3⟩
 exact ⟨Nat.le_of_lt (qo (by rw [List.length_map];omega)),out.toList,e,qlj a1,by rw [Array.toArray_toList];exact he⟩
def iAny (K:PySem.W.Frag) (tl:TE):TI:=fun σ H R=>tl σ H fun x H1 => ∃ a,x = .ref a∧(((∃ xs,SqL K H1 a xs)∧R (Itl K a) H1)∨((∃ xs,SqT K H1 a xs)∧R (Itt K a) H1))
theorem zaji {tg l:Expr}{tl:TE} (hl:PE X l tl):PI X tg l (iAny X.K tl):=by
 intro pins s σ H R I h
 refine thn (hl pins s σ H _ I h) fun v s1 xx127=>?_
 obtain ⟨x,H1,I1,r1,q1⟩:=xx127
 obtain ⟨a,e,q1⟩:=q1
 subst e
 cases r1
 rcases q1 with ⟨⟨xs,hq⟩,q⟩|⟨⟨xs,hq⟩,q⟩
 ·obtain ⟨its,rv,p,hz⟩:=I1.list hq
  refine wpAny_pyIter_list p.isList ?_
  refine ⟨s1.heap.objs.size,[s1.heap.objs.size],_,_,H1,rfl,I1.kept (t':=s1.toks) fun b o e=>Heap.get?_push_of_some _ e,qzk a _,⟨_,Heap.get?_push_size _ rfl,rfl,rfl⟩,fun b hb=>?_,q⟩
  have e:b=s1.heap.objs.size:=by simpa using hb
  subst e
  exact I1.fpOk (Nat.le_refl _) (I1.hok.fresh (Nat.le_refl _))
 ·obtain ⟨its,rv,p,hz⟩:=I1.tuple hq
  refine wpAny_pyIter_tuple (show s1.heap.IsTuple a its.toArray from p) ?_
  refine ⟨s1.heap.objs.size,[s1.heap.objs.size],_,_,H1,rfl,I1.kept (t':=s1.toks) fun b o e=>Heap.get?_push_of_some _ e,qvm a _,⟨_,Heap.get?_push_size _ rfl,rfl,rfl⟩,fun b hb=>?_,q⟩
  have e:b=s1.heap.objs.size:=by simpa using hb
  subst e
  exact I1.fpOk (Nat.le_refl _) (I1.hok.fresh (Nat.le_refl _))
end
theorem boot_sum:bootBuiltins "sum" = some (.builtin "sum"):=by decide +kernel
theorem boot_sorted:bootBuiltins "sorted" = some (.builtin "sorted"):=by decide +kernel
end L2
namespace L2
open PySem PySem.Spec PyProof.Rows
section
variable {X:Cx}
theorem zaee {K:PySem.W.Frag}{F:Hp}{a:Addr}{xs:List V}{l:List PyData} (hs:SqL K F a xs) (hr:Iss K F l xs):ItD K (Itl K a) F l where
 go:=fun i H s hi=>⟨xs,xs[i]'(by rw [hr.len];exact hi),s.seq hs,List.getElem?_eq_getElem _⟩
 stop:=fun H s=>⟨xs,s.seq hs,by rw [hr.len];exact Nat.le_refl _⟩
 yld:=fun i H x H' F1 s1 s2 hi hy=>by
  obtain ⟨rfl,hy⟩:=hy
  obtain ⟨d,e1,e2⟩:=hr.get' (hy xs ((s1.trans s2).seq hs))
  exact ⟨d,F1,e1,.refl s2,e2.mono s1⟩
theorem zafg {K:PySem.W.Frag}{F:Hp}{a:Addr}{xs:List V}{l:List PyData} (hs:SqT K F a xs) (hr:Iss K F l xs):ItD K (Itt K a) F l where
 go:=fun i H s hi=>⟨xs,xs[i]'(by rw [hr.len];exact hi),qS s hs,List.getElem?_eq_getElem _⟩
 stop:=fun H s=>⟨xs,qS s hs,by rw [hr.len];exact Nat.le_refl _⟩
 yld:=fun i H x H' F1 s1 s2 hi hy=>by
  obtain ⟨rfl,hy⟩:=hy
  obtain ⟨d,e1,e2⟩:=hr.get' (hy xs (qS (s1.trans s2) hs))
  exact ⟨d,F1,e1,.refl s2,e2.mono s1⟩
def qrx (lo:Int) (n:Nat):List PyData:=(List.range n).map fun (k:Nat) => .int (lo+(k:Int))
theorem qs (lo:Int) (n:Nat):(qrx lo n).length=n:=by simp [qrx]
theorem qva {lo:Int}{n i:Nat} (h:i<n):(qrx lo n)[i]?=some (.int (lo+i)):=by simp [qrx,h]
theorem qP {lo:Int}{n i:Nat}{d:PyData} (h:(qrx lo n)[i]?=some d):i<n∧d = .int (lo+i):=by
 have hi:i<n:=by
  have:=(List.getElem?_eq_some_iff.mp h).1
  rwa [qs] at this
 rw [qva hi] at h
 exact ⟨hi,(Option.some.inj h).symm⟩
theorem zaex {K:PySem.W.Frag}{F:Hp}{lo:Int}{n:Nat}:ItD K (Itr lo n) F (qrx lo n) where
 go:=fun i H s hi=>by rw [qs] at hi;exact hi
 stop:=fun H s=>by rw [qs];exact Nat.le_refl _
 yld:=fun i H x H' F1 s1 s2 hi hy=>by
  obtain ⟨rfl,rfl⟩:=hy
  rw [qs] at hi
  exact ⟨_,F1,qva hi,.refl s2,qZ _⟩
def qqd (l:List PyData):List PyData:=(List.range l.length).map fun (k:Nat) => .tuple [.int k,(l[k]?).getD .none]
theorem qex (l:List PyData):(qqd l).length=l.length:=by simp [qqd]
theorem qqi {l:List PyData}{i:Nat}{d:PyData} (h:l[i]?=some d):(qqd l)[i]?=some (.tuple [.int i,d]):=by
 have hi:=(List.getElem?_eq_some_iff.mp h).1
 have e:l[i]=d:=by rw [List.getElem?_eq_getElem hi] at h;exact Option.some.inj h
 simp [qqd,hi,e]
theorem qli {l:List PyData}{i:Nat}{d:PyData} (h:(qqd l)[i]?=some d) : ∃ x,l[i]?=some x∧d = .tuple [.int i,x]:=by
 have hi:i<l.length:=by
  have:=(List.getElem?_eq_some_iff.mp h).1
  rwa [qex] at this
 have e:=qqi (List.getElem?_eq_getElem hi)
 rw [h] at e
 exact ⟨_,List.getElem?_eq_getElem hi,Option.some.inj e⟩
theorem zace {K:PySem.W.Frag}{F:Hp}{a:Addr}{xs:List V}{l:List PyData} (hs:SqL K F a xs) (hr:Iss K F l xs):ItD K (Ite K a) F (qqd l) where
 go:=fun i H s hi=>by rw [qex] at hi;exact ⟨xs,xs[i]'(by rw [hr.len];exact hi),s.seq hs,List.getElem?_eq_getElem _⟩
 stop:=fun H s=>by rw [qex];exact ⟨xs,s.seq hs,by rw [hr.len];exact Nat.le_refl _⟩
 yld:=fun i H x H' F1 s1 s2 hi hy=>by
  obtain ⟨p,y,hy,hp,rfl,rfl⟩:=hy
  obtain ⟨d,e1,e2⟩:=hr.get' (hy xs ((s1.trans s2).seq hs))
  have g:=Go.put (o:=HO.tup [.int i,y]) s2 hp
  exact ⟨_,_,qqi e1,g,qkc (SqT.of qp) (qy (qZ _) (qy ((e2.mono s1).mono g.f) qO))⟩
section
variable {tg a b c:Expr}{W:WE}{Wr:WF}{p pos:Pos}
def isTy (T:String):PyData→Bool
 | .none=>false
 | .bool _=>T == "bool" || T == "int"
 | .int _=>T == "int"
 | .str _=>T == "str"
 | .list _=>T == "list"
 | .tuple _=>T == "tuple"
 | .dict _=>T == "dict"
def dSum:DC
 | [.list l],q => ∃ ns:List Int,l=ns.map .int∧q (.int ns.sum)
 | [.tuple l],q => ∃ ns:List Int,l=ns.map .int∧q (.int ns.sum)
 | _,_=>False
def qlu:PyData→Option (List PyData)
 | .list l=>some l
 | .tuple l=>some l
 | _=>none
theorem qhw {d:PyData}{l:List PyData}{Q:List PyData→Prop} (h:qlu d=some l) (q:Q l):(qlu d).elim False Q:=by rw [h];exact q
def zalk (W:WE):WF:=fun env Q=>W env fun d e=>(qlu d).elim False fun l=>Q l e
theorem qQ (h:VE X a W):VI X tg a (zalk W):=(zaji h).imp fun σ H R xx128=>by
 obtain ⟨M,env,F,Q,I,h,k⟩:=xx128
 refine ⟨M,env,F,_,I,h,fun d v F1 H1 e1 I1 s1 i1 h1=>?_⟩
 cases d with
 | list l =>
  obtain ⟨b,xs,rfl,hs,hr⟩:=i1.lst_inv
  exact ⟨b,rfl,.inl ⟨⟨xs,I1.fh.seq hs⟩,k l _ F1 H1 e1 I1 s1 (zaee hs hr) h1⟩⟩
 | tuple l =>
  obtain ⟨b,xs,rfl,hs,hr⟩:=i1.tup_inv
  exact ⟨b,rfl,.inr ⟨⟨xs,qS I1.fh hs⟩,k l _ F1 H1 e1 I1 s1 (zafg hs hr) h1⟩⟩
 | _=>exact False.elim h1
def wiR1 (W:WE):WF:=fun env Q=>W env fun d e=>match d with
 | .int j=>(-(2^62)≤j∧j<2^62)∧Q (qrx 0 j.toNat) e
 | _=>False
theorem qE (hm:X.mg "range" = none) (ha:VE X a W) (hg:Gl X "range":=by rfl) (hs:starEach [a] X.env=[(false,eval a X.env)]:=by rfl) (hs':starEach [a] X.env=(false,eval a X.env)::starEach [] X.env:=by rfl):VI X tg (.Call (.Name "range" p) [a] [] pos) (wiR1 W) :=
 (qzu hg hm (qL ha qbp hs') hs).imp fun σ H R xx129=>by
  obtain ⟨M,env,F,Q,I,h,k⟩:=xx129
  refine ⟨M,env,F,_,I,h,fun d v F1 H1 e1 I1 s1 i1 h1=>?_⟩
  cases d with
  | int j=>exact ⟨j,by rw [i1.int_inv],h1.1.1,h1.1.2,k _ _ F1 H1 e1 I1 s1 zaex h1.2⟩
  | _=>exact False.elim h1
def wiEn (W:WE):WF:=fun env Q=>W env fun d e=>match d with
 | .list l=>Q (qqd l) e
 | _=>False
theorem qru {elts:List Expr}{x1:Nat}{tpos:Pos} (hm:X.mg "enumerate" = none) (ha:VE X a W) (hg:Gl X "enumerate":=by rfl) (hs:starEach [a] X.env=[(false,eval a X.env)]:=by rfl) (hs':starEach [a] X.env=(false,eval a X.env)::starEach [] X.env:=by rfl) :
 VI X (.Tuple elts x1 tpos) (.Call (.Name "enumerate" p) [a] [] pos) (wiEn W) :=
 (zafu hg hm (qL ha qbp hs') hs).imp fun σ H R xx130=>by
  obtain ⟨M,env,F,Q,I,h,k⟩:=xx130
  refine ⟨M,env,F,_,I,h,fun d v F1 H1 e1 I1 s1 i1 h1=>?_⟩
  cases d with
  | list l =>
   obtain ⟨b,xs,rfl,hs,hr⟩:=i1.lst_inv
   exact ⟨b,rfl,⟨xs,I1.fh.seq hs⟩,k _ _ F1 H1 e1 I1 s1 (zace hs hr) h1⟩
  | _=>exact False.elim h1
end
def Sl.seen:Sl→Sl
 | .val d => .val d
 | .new d => .val d
 | _ => .non
def qqs (ix:List Nat) (k:Nat) (env:Sto):Sto:=ix.map (fun i=>(gS env i).seen)++List.replicate k .non
def zaab (ix:List Nat) (k:Nat) (Wi:WF) (G:WG) (We:WE):WF:=fun env Q=>Wi env fun ds e0=>ds.length<sizeLine ∧ ∃ P:Nat→List PyData→Sto→Prop,P 0 [] (qqs ix k e0) ∧
 (∀ i d ys e,ds[i]?=some d→P i ys e→G d e fun e1=>We e1 fun y e2=>P (i+1) (ys++[y]) e2) ∧ ∀ ys e,P ds.length ys e→Q ys e0
theorem qpg : ∀ (ix:List Nat) (f:Nat→Sl) (r:Sto) (j:Nat),gS (ix.map f++r) j=match ix[j]? with|some i=>f i|none=>gS r (j-ix.length)
 | [],f,r,j=>by simp
 | i::ix,f,r,0=>by simp [gS]
 | i::ix,f,r,j+1=>by simp only [List.map_cons,List.cons_append,gS,List.getElem?_cons_succ,List.length_cons,Nat.add_sub_add_right];exact qpg ix f r j
theorem qjg (k j:Nat):gS (List.replicate k .non) j = .non:=by
 induction k generalizing j with
 | zero=>simp [gS]
 | succ k ih=>cases j with
  | zero=>simp [List.replicate_succ,gS]
  | succ j=>simp only [List.replicate_succ,gS];exact ih j
theorem zadv (ix:List Nat) (k:Nat) (σ:St) (j i:Nat) (h:ix[j]?=some i):vS (qjp ix k σ) j=vS σ i:=by
 have hj:=(List.getElem?_eq_some_iff.mp h).1
 unfold vS qjp
 rw [List.getElem?_append_left (by simpa using hj),List.getElem?_map,h]
 rfl
theorem EnvOk.cap {K:PySem.W.Frag}{M:Frm}{F H:Hp}{env:Sto}{σ:St} (I:EnvOk K M F H env σ) (ix:List Nat) (k:Nat):EnvOk K ⟨H,H,F⟩ F H (qqs ix k env) (qjp ix k σ) where
 len:=by simp [qqs,qjp]
 slot:=fun j=>by
  unfold qqs
  rw [qpg]
  cases h:ix[j]? with
  | none=>rw [qjg];trivial
  | some i =>
   show SlotOk K _ F H (gS env i).seen _
   rw [zadv ix k σ j i h]
   have S:=I.slot i
   cases q:gS env i with
   | val d=>rw [q] at S;exact S
   | non=>trivial
   | own ds=>trivial
   | pen ds=>trivial
   | new d=>rw [q] at S;obtain ⟨v,e,j⟩:=S;exact ⟨v,e,j.is qof⟩
   | exc C=>trivial
   | obj a0 C nm fs=>trivial
 dis:=fun i j a _ h1=>by
  unfold qqs at h1
  rw [qpg] at h1
  cases h:ix[i]? with
  | none=>rw [h,qjg] at h1;cases h1
  | some n =>
   rw [h] at h1
   replace h1:(gS env n).seen.mut=true:=h1
   cases q:gS env n <;> rw [q] at h1 <;> cases h1
 f0 :=.refl _
 fe:=I.fh
 fh:=I.fh
 bh :=.refl _
 new:=fun b o e => .inl e
 dom:=fun b o e=>⟨o,e⟩
theorem EnvOk.goOf {K:PySem.W.Frag}{F H F' H':Hp}{env:Sto}{σ:St} (I:EnvOk K ⟨H,H,F⟩ F' H' env σ):Go F H F' H':=⟨I.f0,I.bh,I.fh,I.new⟩
theorem qR {elt target iter:Expr}{scope:Scope}{pos:Pos}{caps own:List Str}{ix:List Nat}{Wi:WF}{G:WG}{We:WE} (hc:X.calm=true) (S:CompScope X.env scope caps) (hi:VI X target iter Wi)
 (hg : ∀ pins s3 H ex,VG (blk X pins scope (caps++own) s3 H ex) target G)
 (he : ∀ pins s3 H ex,VE (blk X pins scope (caps++own) s3 H ex) elt We)
 (hix:caps.length=ix.length:=by rfl) (hcapB:(caps.zip ix).all (fun p=>X.N[p.2]?==some p.1)=true:=by rfl)
  (hs : ∀ x,foldedSetIterable iter X.env x=pure x:=by intro _;rfl):VF X (.ListComp elt [⟨target,iter,[],0⟩] scope pos) (zaab ix own.length Wi G We) :=
  (qyk (g:=qih X.K G) (te:=qcc X.K We) hc S hi hg he hix hcapB hs).imp fun σ H R xx133=>by
   obtain ⟨M,env,F,Q,I,h,k⟩:=xx133
   refine ⟨M,env,F,_,I,h,fun ds J F1 H1 e1 I1 s1 jt xx132=>?_⟩
   obtain ⟨hz,P,p0,turn,fin⟩:=xx132
   refine ⟨fun i m ys σ1 H'=>m=ds.length-i∧i≤ds.length ∧ ∃ e' F' l,EnvOk X.K ⟨H1,H1,F1⟩ F' H' e' σ1∧Iss X.K F' l ys∧ys.length=i∧P i l e',⟨ds.length,by simp,Nat.zero_le _,qqs ix own.length e1,F1,[],I1.cap ix own.length,qO,rfl,p0⟩,?_⟩
   rintro i m ys σ1 H2 ⟨hm,hi,e2,F2,l,I2,i2,hl,p2⟩
   have g2:=I2.goOf
   by_cases he:i=ds.length
   ·subst he
    exact .inl ⟨jt.stop H2 (g2.f.trans g2.fh),by omega,qhb (I1.go g2) (s1.trans g2.f) i2 (fin l e2 p2) k⟩
   ·have hlt:i<ds.length:=by omega
    refine .inr ⟨jt.go i H2 (g2.f.trans g2.fh) hlt,by omega,fun y σ' H' => ∃ e' F' l',EnvOk X.K ⟨H1,H1,F1⟩ F' H' e' σ'∧Iss X.K F' l' (ys++[y])∧P (i+1) l' e',
     fun y σ' H' xx131=>by obtain ⟨e',F',l',I',i',p'⟩:=xx131;exact ⟨ds.length-(i+1),by omega,rfl,hlt,e',F',l',I',i',by simp [hl],p'⟩,fun x H3 hy=>?_⟩
    obtain ⟨d,F3,hd,g,j⟩:=jt.yld i H2 x H3 F2 g2.f g2.fh hlt hy
    refine ⟨_,e2,F3,d,_,I2.go g,j,turn i d l e2 hd p2,fun F4 H4 e4 σ4 I4 s4 h4=>⟨_,e4,F4,_,I4,h4,fun d5 v5 F5 H5 e5 I5 s5 i5 h5=>?_⟩⟩
    exact ⟨e5,F5,l++[d5],I5,qX ((i2.mono (g.f.trans s4)).mono s5) (qy i5 qO),h5⟩
theorem qbc {ix:List Nat}{k:Nat}{G:WG}{We:WE}{Q:List PyData→Sto→Prop}{ds:List PyData}{e0:Sto} (L:List PyData) (hl:L.length=ds.length) (hz:L.length<sizeLine) (Iv:Sto→Prop) (h0:Iv (qqs ix k e0))
 (h : ∀ (i:Nat) d ys e,ds[i]?=some d→ys=L.take i→Iv e→G d e fun e1=>We e1 fun y e2=>ys++[y]=L.take (i+1)∧Iv e2) (q:Q L e0) :
 ds.length<sizeLine ∧ ∃ P:Nat→List PyData→Sto→Prop,P 0 [] (qqs ix k e0)∧(∀ i d ys e,ds[i]?=some d→P i ys e→G d e fun e1=>We e1 fun y e2=>P (i+1) (ys++[y]) e2) ∧ ∀ ys e,P ds.length ys e→Q ys e0 :=
  ⟨by omega,fun i ys e=>ys=L.take i∧Iv e,⟨by simp,h0⟩,fun i d ys e hd hp=>h i d ys e hd hp.1 hp.2,fun ys e hp=>by rw [hp.1,← hl,List.take_length];exact q⟩
theorem qt {α:Type}{L ys:List α}{y:α}{i:Nat} (e:L[i]?=some y) (h:ys=L.take i):ys++[y]=L.take (i+1):=by
 rw [h,List.take_add_one,e];rfl
def wIsi (T:String) (W:WE):WE:=fun env Q=>W env fun d e=>Q (.bool (isTy T d)) e
section
variable {a:Expr}{W:WE}{p pos pT:Pos}{T:String}{t:Str}
theorem qec (hm:X.mg "isinstance" = none) (ht:X.mg t=none) (hv:bootBuiltins t=some (.type T)) (ha:VE X a W) (hk : ∀ d,PySem.W.kitOne X.K (.type (tyD d)) (.type T)=some (isTy T d):=by intro d;cases d <;> rfl)
 (hg:Gl X "isinstance":=by rfl) (hgt:Gl X t:=by rfl) (hn:t ≠ "__name__":=by decide) (hdt:(t==("__debug__" : Str))=false:=by decide)
 (hs:starEach [a,.Name t pT] X.env=(false,eval a X.env)::starEach [.Name t pT] X.env:=by rfl) (hs2:starEach [.Name t pT] X.env=(false,eval (.Name t pT) X.env)::starEach [] X.env:=by rfl) (hpl:(backTo pos (starEach [.Name t pT] X.env)).any (·.1)=false:=by rfl) :
 VE X (.Call (.Name "isinstance" p) [a,.Name t pT] [] pos) (wIsi T W) :=
 (qhx zabf hg hm qmc (qL ha (qL (zaff (v :=.ty T) hgt ht hv rfl hn hdt) qbp hs2) hs) (by decide) (by decide) hs hpl).imp fun σ H R xx134=>by
  obtain ⟨M,env,F,Q,I,h,k⟩:=xx134
  exact ⟨M,env,F,_,I,h,fun d v F1 H1 e1 I1 s1 i1 h1=>⟨d,v,T,isTy T d,rfl,i1.mono I1.fh,hk d,k _ _ F1 H1 e1 I1 s1 (qfy _) h1⟩⟩
end
theorem qzw (hc:X.calm=true):qnw X (.builtin "sum") dSum:=(zabi hc).imp fun xs H Q xx135=>by
 obtain ⟨F,ds,q,s,i,h,k⟩:=xx135
 match ds,h,i with
 | [.list l],h,i =>
  obtain ⟨v,rfl,j⟩:=qpm i
  obtain ⟨a,xs,rfl,hs,hr⟩:=j.lst_inv
  obtain ⟨ns,rfl,hq⟩:=h
  rw [hr.ints_inv] at hs
  exact ⟨a,ns,rfl,.inl (s.seq hs),k _ _ F H (.refl s) (qZ _) hq⟩
 | [.tuple l],h,i =>
  obtain ⟨v,rfl,j⟩:=qpm i
  obtain ⟨a,xs,rfl,hs,hr⟩:=j.tup_inv
  obtain ⟨ns,rfl,hq⟩:=h
  rw [hr.ints_inv] at hs
  exact ⟨a,ns,rfl,.inr (qS s hs),k _ _ F H (.refl s) (qZ _) hq⟩
def zaix:List PyData→(List PyData→Prop)→Prop
 | [.list l],q => ∃ ns:List Int,l=ns.map .int∧ns.length<64 ∧ ∀ ns':List Int,ns'.Perm ns→ns'.Pairwise (· ≤ ·)→q (ns'.map .int)
 | _,_=>False
theorem zaao:qpf X (.builtin "sorted") zaix:=qty.imp fun xs H Q xx136=>by
 obtain ⟨F,ds,q,s,i,h,k⟩:=xx136
 match ds,h,i with
 | [.list l],h,i =>
  obtain ⟨v,rfl,j⟩:=qpm i
  obtain ⟨a,xs,rfl,hs,hr⟩:=j.lst_inv
  obtain ⟨ns,rfl,hz,hq⟩:=h
  rw [hr.ints_inv] at hs
  exact ⟨a,ns,rfl,s.seq hs,hz,fun p ns' hp h1 h2=>k _ p _ F _ (.side s hp) hp (qH s hp) qp (qhu ns') (hq ns' h1 h2)⟩
theorem Iss.bools_inv {K:PySem.W.Frag}{H:Hp} : ∀ {bs:List Bool}{xs:List V},Iss K H (bs.map .bool) xs→xs=bs.map V.bl
 | [],_,h=>h.nil_inv
 | n::ns,_,h=>by
  obtain ⟨x,r,rfl,p,q⟩:=h.cons_inv
  rw [p.bl_inv,Iss.bools_inv q];rfl
end
def qbh (N:List Str) (ds:List PyData):Sto:=ds.map .val++List.replicate (N.length-ds.length) .non
theorem qqa : ∀ (ds:List PyData) (r:Sto) (j:Nat),gS (ds.map .val++r) j=match ds[j]? with|some d => .val d|none=>gS r (j-ds.length)
 | [],r,j=>by simp
 | i::ix,r,0=>by simp [gS]
 | i::ix,r,j+1=>by simp only [List.map_cons,List.cons_append,gS,List.getElem?_cons_succ,List.length_cons,Nat.add_sub_add_right];exact qqa ix r j
theorem qou {N:List Str}{vs:List V}{j:Nat}{v:V} (h:vs[j]?=some v):vS (start N vs) j=some v:=by
 have hj:=(List.getElem?_eq_some_iff.mp h).1
 unfold vS start
 rw [List.getElem?_append_left (by simpa using hj),List.getElem?_map,h]
 rfl
theorem qfd {K:PySem.W.Frag}{F H:Hp}{N:List Str}{ds:List PyData}{vs:List V} (s:Same F H) (i:Iss K F ds vs):EnvOk K ⟨H,H,F⟩ F H (qbh N ds) (start N vs) where
 len:=by simp [qbh,start,i.len]
 slot:=fun j=>by
  unfold qbh
  rw [qqa]
  cases h:ds[j]? with
  | none=>rw [qjg];trivial
  | some d =>
   obtain ⟨x,e1,e2⟩:=i.get h
   exact ⟨x,qou e1,e2⟩
 dis:=fun i j a _ h1=>by
  unfold qbh at h1
  rw [qqa] at h1
  cases h:ds[i]? with
  | none=>rw [h,qjg] at h1;cases h1
  | some d=>rw [h] at h1;cases h1
 f0 :=.refl _
 fe:=s
 fh:=s
 bh :=.refl _
 new:=fun b o e => .inl e
 dom:=fun b o e=>⟨o,e⟩
section
variable {P:Program}{w:World}{K:PySem.W.Frag}{mg:Str→Option Value}{base:Heap}
theorem RetOk.is {F H F' H':Hp}{env:Sto}{σ:St}{r:Ret}{v:V} (I:EnvOk K ⟨H,H,F⟩ F' H' env σ) (h:RetOk K ⟨H,H,F⟩ F' H' r v) : ∃ F'',Go F H F'' H'∧Is K F'' r.data v:=by
 have g:=I.goOf
 cases r with
 | val d=>exact ⟨F',g,h⟩
 | new d=>exact ⟨F',g,IsN.is qof h⟩
 | own ds =>
  obtain ⟨a,vs,rfl,h1,h2,h3,h4,h5⟩:=h
  have s:Same F' (upd F' a (.lst vs)):=qda h2
  refine ⟨upd F' a (.lst vs),⟨g.f.trans s,g.h,fun b o e=>?_,fun b o e=>?_⟩,qcq (SqL.of qp) (h5.mono s)⟩
  ·by_cases z:b=a
   ·subst z;rw [qp] at e;rw [h1];exact e
   ·rw [qk z] at e;exact g.fh b o e
  ·by_cases z:b=a
   ·subst z;exact .inr h4
   ·rw [qk z] at e;exact g.new b o e
theorem Def.vok {x:Str}{st:Stmt}{N ps:List Str}{k:Nat}{sp:DC} (F:Def K mg x st ps) (S:FnScope N ps (defScope st)) (len : ∀ ds q,sp ds q→ds.length=ps.length)
 (hbody : ∀ (f:Addr) (cdv:Value) (A:Around) (outer:List Env) (s:Shared) (H:Hp) (E:XK),Room k (A.deeper (envOfC x (defScope st) s.heap.objs.size f cdv)) → ∀ ds q,sp ds q →
 ∃ W,VSs (qqt CX0 P w K mg base N x (defScope st) f cdv A outer s H E).nox (defBody st) W∧W { nx:=fun _=>q .none,rt:=fun r _=>q r.data } (qbh N ds)):Ok P w K mg base x (k+1) ps (PSp K sp) :=
  F.ok S (fun vs H Q E xx138=>by obtain ⟨F,ds,q,_,i,h,_⟩:=xx138;rw [i.len];exact len ds q h) fun f cdv A outer s H vs Q E hr xx137=>by
   obtain ⟨F,ds,q,sm,i,h,kk⟩:=xx137
   obtain ⟨W,hW,hq⟩:=hbody f cdv A outer s H E hr ds q h
   refine ⟨_,hW,⟨H,H,F⟩,qbh N ds,F,_,qfd sm i,hq,⟨fun e1 F1 H1 σ1 I1 s1 q1=>kk _ _ F1 H1 I1.goOf qpa q1,fun r v e1 F1 H1 σ1 I1 s1 r1 q1=>?_,fun _ _ _ _ _ _ h=>h.elim,fun _ _ _ _ _ _ h=>h.elim⟩⟩
   obtain ⟨F2,g,j⟩:=r1.is I1
   exact kk _ _ F2 H1 g j q1
theorem Def.vokF {x:Str}{st:Stmt}{N ps:List Str}{k:Nat}{sp:List PyData→(List PyData→Prop)→Prop} (F:Def K mg x st ps) (S:FnScope N ps (defScope st)) (len : ∀ ds q,sp ds q→ds.length=ps.length)
 (hbody : ∀ (f:Addr) (cdv:Value) (A:Around) (outer:List Env) (s:Shared) (H:Hp) (E:XK),Room k (A.deeper (envOfC x (defScope st) s.heap.objs.size f cdv)) → ∀ ds q,sp ds q →
 ∃ W,VSs (qqt CX0 P w K mg base N x (defScope st) f cdv A outer s H E).nox (defBody st) W∧W { nx:=fun _=>False,rt:=fun r _ => ∃ l,r = .own l∧q l } (qbh N ds)):Ok P w K mg base x (k+1) ps (FSp K sp) :=
  F.ok S (fun vs H Q E xx140=>by obtain ⟨F,ds,q,_,i,h,_⟩:=xx140;rw [i.len];exact len ds q h) fun f cdv A outer s H vs Q E hr xx139=>by
   obtain ⟨F,ds,q,sm,i,h,kk⟩:=xx139
   obtain ⟨W,hW,hq⟩:=hbody f cdv A outer s H E hr ds q h
   refine ⟨_,hW,⟨H,H,F⟩,qbh N ds,F,_,qfd sm i,hq,⟨fun e1 F1 H1 σ1 I1 s1 q1=>q1.elim,fun r v e1 F1 H1 σ1 I1 s1 r1 q1=>?_,fun _ _ _ _ _ _ h=>h.elim,fun _ _ _ _ _ _ h=>h.elim⟩⟩
   obtain ⟨l,rfl,q1⟩:=q1
   obtain ⟨a,vs,rfl,h1,h2,h3,h4,h5⟩:=r1
   exact kk l a vs F1 H1 I1.goOf h4 h2 h1 h5 q1
def zaaf (K:PySem.W.Frag):Sp:=fun vs H Q _ => ∃ (a:Addr) (ns:List Int),vs=[.ref a]∧SqL K H a (ns.map V.int)∧ns.length≤63 ∧ ∀ H',Q (.bl true) H'
end
end L2
namespace L2
open PySem PySem.Spec PyProof.Rows
section
variable (K:PySem.W.Frag)
def zall (W:WE):TE:=fun σ H R => ∃ M env F Q,EnvOk K M F H env σ∧W env Q ∧ ∀ d v F' H' env',EnvOk K M F' H' env' σ→Same F F'→IsN K (qwc M F') d v→Q d env'→R v H'
def zaih (W:WF):TE:=fun σ H R => ∃ M env F Q,EnvOk K M F H env σ∧W env Q ∧ ∀ a vs ds F' H' env',EnvOk K M F' H' env' σ→Same F F'→H' a=some (.lst vs)→F' a=none→M.B a=none→M.He a=none →
 (∀ i,(gS env' i).mut=true→vS σ i≠some (.ref a))→IssN K (qwc M F') ds vs→Q ds env'→R (.ref a) H'
structure EndsT (M:Frm) (DD:WEnds) (D:Ends):Prop where
 nx : ∀ env' F' H' σ',EnvOk K M F' H' env' σ'→DD.nx env'→D.nx σ' H'
 rt : ∀ r v env' F' H' σ',EnvOk K M F' H' env' σ'→RetOk K M F' H' r v→DD.rt r env'→D.rt v H'
 bk : ∀ env' F' H' σ',EnvOk K M F' H' env' σ'→DD.bk env'→D.bk σ' H'
 ct : ∀ env' F' H' σ',EnvOk K M F' H' env' σ'→DD.ct env'→D.ct σ' H'
def zacw (W:WS):TS:=fun D σ H => ∃ M env F DD,EnvOk K M F H env σ∧W DD env∧EndsT K M DD D
end
def VN (X:Cx) (e:Expr) (W:WE):Prop:=PE X e (zall X.K W)
def VFN (X:Cx) (e:Expr) (W:WF):Prop:=PE X e (zaih X.K W)
def VST (X:Cx) (st:Stmt) (W:WS):Prop:=PS X st (zacw X.K W)
def VSsT (X:Cx) (st:List Stmt) (W:WS):Prop:=PSs X st (zacw X.K W)
section
variable {X:Cx}{a b e:Expr}{W:WE}{Wf:WF}{pos p:Pos}
end
section
variable {P:Program}{w:World}{K:PySem.W.Frag}{mg:Str→Option Value}{base:Heap}
end
section
variable {X:Cx}{c e:Expr}{Tc:WT}{W:WE}{Wt Wu:WS}{st:Stmt}{sts rest:List Stmt}{pos pos':Pos}
mutual
def immD:PyData→Bool
 | .list _=>false
 | .tuple l=>qtb l
 | .dict _=>false
 | _=>true
def qtb:List PyData→Bool
 | []=>true
 | d::l=>immD d&&qtb l
end
mutual
theorem Is.imm {K:PySem.W.Frag}{F F':Hp} (s : ∀ b o,F b=some o→(∀ xs,o ≠ .lst xs)→F' b=some o) : ∀ {d:PyData}{v:V},immD d=true→Is K F d v→Is K F' d v
 | .none,_,_,h=>by unfold Is at h ⊢;exact h
 | .bool _,_,_,h=>by unfold Is at h ⊢;exact h
 | .int _,_,_,h=>by unfold Is at h ⊢;exact h
 | .str _,_,_,h=>by unfold Is at h ⊢;exact h
 | .list l,_,m,h=>by unfold immD at m;cases m
 | .dict l,_,m,h=>by unfold immD at m;cases m
 | .tuple l,_,m,h=>by
  unfold immD at m
  unfold Is at h ⊢
  obtain ⟨a,xs,e,q,r⟩:=h
  refine ⟨a,xs,e,?_,Iss.imm s m r⟩
  rcases q with (q|⟨o,q⟩)|q
  ·exact .inl (.inl (s _ _ q (fun _ z=>nomatch z)))
  ·exact .inl (.inr ⟨o,s _ _ q (fun _ z=>nomatch z)⟩)
  ·exact .inr q
theorem Iss.imm {K:PySem.W.Frag}{F F':Hp} (s : ∀ b o,F b=some o→(∀ xs,o ≠ .lst xs)→F' b=some o) : ∀ {l:List PyData}{xs:List V},qtb l=true→Iss K F l xs→Iss K F' l xs
 | [],_,_,h=>by unfold Iss at h ⊢;exact h
 | d::l,_,m,h=>by
  unfold qtb at m
  rw [Bool.and_eq_true] at m
  unfold Iss at h ⊢
  obtain ⟨x,r,e,p,q⟩:=h
  exact ⟨x,r,e,Is.imm s m.1 p,Iss.imm s m.2 q⟩
end
end
section
variable {X:Cx}
def zagh:D2:=fun x y q => ∃ (i:Int) (ns:List Int),x = .int i∧qlu y=some (ns.map .int)∧q (.bool (!ns.any (· == i)))
theorem qop (i:Int) : ∀ ns:List Int,inV (.int i) (ns.map V.int)=ns.any (· == i)
 | []=>rfl
 | n::ns=>by
  have:=qop i ns
  unfold inV at this ⊢
  rw [List.map_cons,List.any_cons,List.any_cons,this]
  rfl
theorem qrl (ns:List Int):(ns.map V.int).all qmf=true:=by
 rw [List.all_eq_true]
 intro x hx
 obtain ⟨i,_,rfl⟩:=List.mem_map.mp hx
 rfl
theorem zagm {neg:Bool}{x y:V}{H:Hp}{Q:VK}{F:Hp}{dy:PyData}{i:Int}{ns:List Int} (s:Same F H) (i1:Is X.K F (.int i) x) (i2:Is X.K F dy y) (e:qlu dy=some (ns.map .int)) (q:Q (.bl (if neg then !ns.any (· == i) else ns.any (· == i))) H):rIn X.K neg x y H Q:=by
 rw [i1.int_inv]
 cases dy with
 | list l =>
  cases e
  obtain ⟨a,xs,rfl,hs,hr⟩:=i2.lst_inv
  rw [hr.ints_inv] at hs
  exact ⟨a,_,rfl,.inl (s.seq hs),rfl,qrl ns,by rw [qop];exact q⟩
 | tuple l =>
  cases e
  obtain ⟨a,xs,rfl,hs,hr⟩:=i2.tup_inv
  rw [hr.ints_inv] at hs
  exact ⟨a,_,rfl,.inr (qS s hs),rfl,qrl ns,by rw [qop];exact q⟩
 | _=>cases e
theorem qve:OpV X (compareOp .NotIn) zagh:=OpR.imp qro fun x y H Q xx141=>by
 obtain ⟨F,dx,dy,q,s,i1,i2,⟨i,ns,e1,e2,hq⟩,k⟩:=xx141
 subst e1
 exact zagm s i1 i2 e2 (k _ _ F H (.refl s) (qfy _) hq)
end
end L2
namespace L2
open PySem PySem.Spec PyProof.Rows
section
variable {X:Cx}{elt target iter:Expr}{scope:Scope}{pos:Pos}{caps own:List Str}{ix:List Nat}{wi:TI}{g:TG}{te:TE}
theorem qsf {i:Nat}{y:Str}{py spos:Pos} (hN:X.N.Nodup) (hiy:X.N[i]?=some y) (hy:X.env.scope.names.lookup y=some .local) (hsw:swapsWith (.ListComp elt [⟨target,iter,[],0⟩] scope pos) (some (.Name y py)) spos.line X.env=pure true) (hc:X.calm=true) (S:CompScope X.env scope caps) (hi:PI X target iter wi)
 (hg : ∀ pins s3 H ex,PG (blk X pins scope (caps++own) s3 H ex) target g)
 (he : ∀ pins s3 H ex,PE (blk X pins scope (caps++own) s3 H ex) elt te)
 (hix:caps.length=ix.length:=by rfl) (hcapB:(caps.zip ix).all (fun p=>X.N[p.2]?==some p.1)=true:=by rfl)
  (hs : ∀ x,foldedSetIterable iter X.env x=pure x:=by intro _;rfl):PS X (.Assign [.Name y py] (.ListComp elt [⟨target,iter,[],0⟩] scope pos) spos) (tAsg (qwk ix own.length wi g te) (qzz i)):=by
  intro pins s σ H D I h
  rw [exec_Assign_Name_used _ _ _ _ hsw]
  refine wpAny_bind (wpAny_standAt (wpAny_bind ?_))
  show wpAny _ _ (do let _ ← comprehension (.ListComp elt [⟨target,iter,[],0⟩] scope pos) scope X.env _ (newList []) false (eval iter X.env) (some (assign (.Name y py) X.env))) _ _ s
  refine wpAny_bind (thn (qnu (use:=some (assign (.Name y py) X.env)) (Q0:=fun _ s'=>SP X pins D .next s') hc S hi hg he hix hcapB hs I h fun D' C s6 H6 m6 ns6 IX c1 c2 c3 c4 c5 c6 q=>?_) (fun _ s' hq=>wpAny_pure (wpAny_pure hq)))
  obtain ⟨oC,esC,epC,hoC,hdC,rC⟩:=id ns6
  have IX':Inv X (pins++[(C,oC)]) σ H6 s6:=IX.pins_of fun p hp=>by
   rcases List.mem_append.mp hp with z|z
   ·exact IX.pin p (List.mem_append_right _ z)
   ·rw [List.mem_singleton.mp z]
    exact ⟨hoC,c1,c2,c3,fun v q=>by rw [hdC] at q;cases q⟩
  show wpAny _ _ (assign (.Name y py) X.env (.ref D')) _ _ _
  refine wpAny_assign_Name (qgc IX' hN hiy (Or.inl hy) (v :=.ref D') rfl (fun s7 I7=>?_) (.inr hy))
  have gC:s7.heap.get? C=some oC:=(I7.pin (C,oC) (List.mem_append_right _ (List.mem_append_right _ (List.mem_singleton.mpr rfl)))).1
  refine ⟨m6,⟨oC,esC,epC,gC,hdC,rC⟩,fun h' sb=>?_⟩
  exact ⟨_,_,I7.unpinned.turned (t':=s7.toks) (it:=C) (fun b o hb q=>sb.extBut b o hb q) c1 c2 c4 c5 c6,q⟩
end
section
variable {K:PySem.W.Frag}{ix:List Nat}{n:Nat}{Wi:WF}{G:WG}{We:WE}{σ:St}{H:Hp}{R:VK}
theorem qqn (h:qqb K (zaab ix n Wi G We) σ H R):qwk ix n (qkl K Wi) (qih K G) (qcc K We) σ H R:=by
 obtain ⟨M,env,F,Q,I,h,k⟩:=h
 refine ⟨M,env,F,_,I,h,fun ds J F1 H1 e1 I1 s1 jt xx143=>?_⟩
 obtain ⟨hz,P,p0,turn,fin⟩:=xx143
 refine ⟨fun i m ys σ1 H'=>m=ds.length-i∧i≤ds.length ∧ ∃ e' F' l,EnvOk K ⟨H1,H1,F1⟩ F' H' e' σ1∧Iss K F' l ys∧ys.length=i∧P i l e',⟨ds.length,by simp,Nat.zero_le _,qqs ix n e1,F1,[],I1.cap ix n,qO,rfl,p0⟩,?_⟩
 rintro i m ys σ1 H2 ⟨hm,hi,e2,F2,l,I2,i2,hl,p2⟩
 have g2:=I2.goOf
 by_cases he:i=ds.length
 ·subst he
  exact .inl ⟨jt.stop H2 (g2.f.trans g2.fh),by omega,qhb (I1.go g2) (s1.trans g2.f) i2 (fin l e2 p2) k⟩
 ·have hlt:i<ds.length:=by omega
  refine .inr ⟨jt.go i H2 (g2.f.trans g2.fh) hlt,by omega,fun y σ' H' => ∃ e' F' l',EnvOk K ⟨H1,H1,F1⟩ F' H' e' σ'∧Iss K F' l' (ys++[y])∧P (i+1) l' e',
   fun y σ' H' xx142=>by obtain ⟨e',F',l',I',i',p'⟩:=xx142;exact ⟨ds.length-(i+1),by omega,rfl,hlt,e',F',l',I',i',by simp [hl],p'⟩,fun x H3 hy=>?_⟩
  obtain ⟨d,F3,hd,g,j⟩:=jt.yld i H2 x H3 F2 g2.f g2.fh hlt hy
  refine ⟨_,e2,F3,d,_,I2.go g,j,turn i d l e2 hd p2,fun F4 H4 e4 σ4 I4 s4 h4=>⟨_,e4,F4,_,I4,h4,fun d5 v5 F5 H5 e5 I5 s5 i5 h5=>?_⟩⟩
  exact ⟨e5,F5,l++[d5],I5,qX ((i2.mono (g.f.trans s4)).mono s5) (qy i5 qO),h5⟩
end
section
variable {X:Cx}{elt target iter:Expr}{scope:Scope}{pos py spos:Pos}{caps own:List Str}{ix:List Nat}{Wi:WF}{G:WG}{We:WE}{i:Nat}{y:Str}
theorem qxf (hN:X.N.Nodup) (hc:X.calm=true) (S:CompScope X.env scope caps) (hi:VI X target iter Wi) (hg : ∀ pins s3 H ex,VG (blk X pins scope (caps++own) s3 H ex) target G) (he : ∀ pins s3 H ex,VE (blk X pins scope (caps++own) s3 H ex) elt We)
 (hiy:X.N[i]?=some y:=by rfl) (hy:X.env.scope.names.lookup y=some .local:=by rfl) (hsw:swapsWith (.ListComp elt [⟨target,iter,[],0⟩] scope pos) (some (.Name y py)) spos.line X.env=pure true:=by rfl)
  (hix:caps.length=ix.length:=by rfl) (hcapB:(caps.zip ix).all (fun p=>X.N[p.2]?==some p.1)=true:=by rfl) (hs : ∀ x,foldedSetIterable iter X.env x=pure x:=by intro _;rfl) :
  VS X (.Assign [.Name y py] (.ListComp elt [⟨target,iter,[],0⟩] scope pos) spos) (wSet i (wL (zaab ix own.length Wi G We))) :=
  (qsf (wi:=qkl X.K Wi) (g:=qih X.K G) (te:=qcc X.K We) hN hiy hy hsw hc S hi hg he hix hcapB hs).imp fun D σ H ⟨M,env,F,DD,I,h,k⟩=>qqn ⟨M,env,F,_,I,h,fun a vs ds F1 H1 e1 I1 s1 h1 h2 h3 h4 h5 h6 h7=>by
   obtain ⟨J,s⟩:=I1.frz h1 h2 h4 h5
   exact k.nx _ _ H1 _ (J.setv (qcq (SqL.of qp) (h6.mono s))) (s1.trans s) h7⟩
theorem qkn (hN:X.N.Nodup) (hc:X.calm=true) (S:CompScope X.env scope caps) (hi:VI X target iter Wi) (hg : ∀ pins s3 H ex,VG (blk X pins scope (caps++own) s3 H ex) target G) (he : ∀ pins s3 H ex,VE (blk X pins scope (caps++own) s3 H ex) elt We)
 (hiy:X.N[i]?=some y:=by rfl) (hy:X.env.scope.names.lookup y=some .local:=by rfl) (hsw:swapsWith (.ListComp elt [⟨target,iter,[],0⟩] scope pos) (some (.Name y py)) spos.line X.env=pure true:=by rfl)
  (hix:caps.length=ix.length:=by rfl) (hcapB:(caps.zip ix).all (fun p=>X.N[p.2]?==some p.1)=true:=by rfl) (hs : ∀ x,foldedSetIterable iter X.env x=pure x:=by intro _;rfl) :
  VS X (.Assign [.Name y py] (.ListComp elt [⟨target,iter,[],0⟩] scope pos) spos) (zahi i (zaab ix own.length Wi G We)) :=
  (qsf (wi:=qkl X.K Wi) (g:=qih X.K G) (te:=qcc X.K We) hN hiy hy hsw hc S hi hg he hix hcapB hs).imp fun D σ H ⟨M,env,F,DD,I,h,k⟩=>qqn ⟨M,env,F,_,I,h,fun a vs ds F1 H1 e1 I1 s1 h1 h2 h3 h4 h5 h6 h7 =>
   k.nx _ F1 H1 _ (I1.seto h1 h2 h3 h4 h5 h6) s1 h7⟩
end
end L2
namespace L2
open PySem PySem.Spec PyProof.Rows
section
variable {X:Cx}{tg:Expr}
end
def qcz (H:Hp) (a:Addr):Hp:=fun b=>if b=a then none else H b
structure GoP (a:Addr) (F H F' H':Hp):Prop where
 f:Same F F'
 h:Same (qcz H a) H'
 fh:Same F' H'
 new : ∀ b o,F' b=some o→F b=some o∨H b=none
 fa:F' a=none
theorem EnvOk.goP {K:PySem.W.Frag}{M:Frm}{F H F' H':Hp}{env:Sto}{σ:St}{i:Nat}{a:Addr}{ps ps':List V}{ds':List PyData} (I:EnvOk K M F H env σ) (m:(gS env i).mut=true) (ea:vS σ i=some (.ref a)) (ha:H a=some (.lst ps))
 (g:GoP a F H F' H') (h':H' a=some (.lst ps')) (hi:Iss K F' ds' ps'):EnvOk K M F' H' (env.set i ((gS env i).upd ds')) σ:=by
  have g1:Go F H F' (upd H' a (.lst ps)):=by
   refine ⟨g.f,fun b o e=>?_,fun b o e=>?_,g.new⟩
   ·by_cases z:b=a
    ·subst z;rw [qp,← e,ha]
    ·rw [qk z]
     exact g.h b o (by unfold qcz;rw [if_neg z];exact e)
   ·rw [qk (ql e g.fa)];exact g.fh b o e
  have J:=(I.go g1).chg m ea hi
  have e:upd (upd H' a (.lst ps)) a (.lst ps')=H':=by
   rw [qxx]
   funext b
   by_cases z:b=a
   ·subst z;rw [qp,h']
   ·rw [qk z]
  rw [e] at J
  exact J
abbrev DP:=List PyData→List PyData→(PyData→List PyData→Prop)→Prop
def zadj (K:PySem.W.Frag) (r:DP):List V→Hp→VK→Prop:=fun vs H Q => ∃ F a ps rest ds0 ds q,vs = .ref a::rest∧Same F H∧F a=none∧H a=some (.lst ps)∧Iss K F ds0 ps∧Iss K F ds rest∧r ds0 ds q ∧
 ∀ d v F' H' ps' ds',GoP a F H F' H'→H' a=some (.lst ps')→Iss K F' ds' ps'→Is K F' d v→q d ds'→Q v H'
def NSp (K:PySem.W.Frag) (sp:DP):Sp:=fun vs H Q _=>zadj K sp vs H Q
section
variable {X:Cx}
def zaim (i:Nat) (r:DP) (Wr:WF):WE:=fun env Q=>(gS env i).mut=true∧Wr env fun ds e=>(gS e i).mut=true∧r (gS e i).cnt ds fun d ds'=>Q d (e.set i ((gS e i).upd ds'))
theorem qap (i:Nat) {x y:Str}{p py pos:Pos}{es:List Expr}{Wr:WF}{k:Nat}{ps:List Str}{sp:DP} (O:Ok X.prog X.w X.K X.mg X.base x k ps (NSp X.K sp)) (hr:Room k X.A) (ha:VA X es Wr)
 (hN:X.N[i]?=some y:=by rfl) (hv:Vis X.env.scope y:=by first|exact Or.inl rfl|exact Or.inr (Or.inl rfl)|exact Or.inr (Or.inr rfl)) (hd:(y==("__debug__" : Str))=false:=by decide) (hcd:(y==("__classdict__" : Str))=false:=by decide)
  (hg:Gl X x:=by rfl) (hdb:(x==("__debug__" : Str))=false:=by decide)
  (he:starEach (.Name y py::es) X.env=(false,eval (.Name y py) X.env)::starEach es X.env:=by rfl) (hpl:(backTo pos (starEach es X.env)).any (·.1)=false:=by rfl):VE X (.Call (.Name x p) (.Name y py::es) [] pos) (zaim i sp Wr) :=
  (zaac O hr (qL (t:=qib X.K Wr) (qG hN hv hd hcd) ha he) hg hdb he hpl).imp fun σ H R xx146=>by
   obtain ⟨M,env,F,Q,I,⟨m,h⟩,k⟩:=xx146
   obtain ⟨a,vs,ea,g1,g2,g3,g4⟩:=(I.slot i).addr m
   have e:qod (NSp X.K sp) [] E0 (zaah (tVar i) (qib X.K Wr)) σ H R=zaah (tVar i) (qib X.K Wr) σ H fun vs H1=>zadj X.K sp vs H1 R:=by unfold qod NSp;simp only [List.append_nil]
   rw [e]
   refine ⟨_,qbu ea,M,env,F,_,I,h,fun ds us F1 H1 e1 I1 s1 i1 h1=>?_⟩
   obtain ⟨m1,h1⟩:=h1
   obtain ⟨a',vs1,ea',f1,f2,f3,f4⟩:=(I1.slot i).addr m1
   rw [ea] at ea';injection ea' with ea';injection ea' with ea';subst ea'
   exact ⟨F1,a,vs1,us,_,ds,_,rfl,I1.fh,f2,f1,f4,i1,h1,fun d v F2 H2 ps2 ds2 g e2 i2 j2 q=>k d v F2 H2 _ (I1.goP m1 ea f1 g e2 i2) (s1.trans g.f) j2 q⟩
end
theorem qwb {K:PySem.W.Frag}{F H:Hp}{N:List Str}{a:Addr}{ps:List V}{ds0 ds:List PyData}{vs:List V} (s:Same F H) (fa:F a=none) (ha:H a=some (.lst ps)) (i0:Iss K F ds0 ps) (i:Iss K F ds vs) :
 EnvOk K ⟨qcz H a,H,F⟩ F H (.pen ds0::qbh N.tail ds) (start N (.ref a::vs))↔(qbh N.tail ds).length+1=(start N (.ref a::vs)).length:=by
  constructor
  ·intro I;exact I.len
  intro hl
  refine ⟨by simpa using hl,fun j=>?_,fun i j b hij h1 h2=>?_,.refl _,s,s,fun b o e=>?_,fun b o e => .inl e,fun b o e=>⟨o,e⟩⟩
  ·cases j with
   | zero =>
    exact ⟨a,ps,qou (N:=N) (vs :=.ref a::vs) (j:=0) rfl,ha,fa,by show qcz H a a=none;unfold qcz;rw [if_pos rfl],⟨_,ha⟩,i0⟩
   | succ j =>
    show SlotOk K _ F H (gS (qbh N.tail ds) j) _
    unfold qbh
    rw [qqa]
    cases h:ds[j]? with
    | none=>rw [qjg];trivial
    | some d =>
     obtain ⟨x,e1,e2⟩:=i.get h
     exact ⟨x,qou (N:=N) (vs :=.ref a::vs) (j:=j+1) (by simpa using e1),e2⟩
  ·have no : ∀ k,(gS (qbh N.tail ds) k).mut=false:=fun k=>by
    unfold qbh
    rw [qqa]
    cases h:ds[k]? with
    | none=>rw [qjg];rfl
    | some d=>rfl
   cases i with
   | zero=>cases j with
    | zero=>exact absurd rfl hij
    | succ j=>have h2':(gS (qbh N.tail ds) j).mut=true:=h2
              rw [no] at h2';cases h2'
   | succ i=>have h1':(gS (qbh N.tail ds) i).mut=true:=h1
             rw [no] at h1';cases h1'
  ·have e:qcz H a b=some o:=e
   unfold qcz at e
   split at e
   ·cases e
   ·exact e
section
variable {P:Program}{w:World}{K:PySem.W.Frag}{mg:Str→Option Value}{base:Heap}
theorem Def.vokP {x:Str}{st:Stmt}{N ps:List Str}{k:Nat}{sp:DP} (F:Def K mg x st ps) (S:FnScope N ps (defScope st)) (len : ∀ ds0 ds q,sp ds0 ds q→ds.length+1=ps.length) (hNp:ps.length≤N.length)
 (hbody : ∀ (f:Addr) (cdv:Value) (A:Around) (outer:List Env) (s:Shared) (H:Hp) (E:XK),Room k (A.deeper (envOfC x (defScope st) s.heap.objs.size f cdv)) → ∀ ds0 ds q,sp ds0 ds q →
 ∃ W,VSs (qqt CX0 P w K mg base N x (defScope st) f cdv A outer s H E).nox (defBody st) W ∧
 W { nx:=fun e => ∃ ds',gS e 0 = .pen ds'∧q .none ds',rt:=fun r e => ∃ d ds',r = .val d∧gS e 0 = .pen ds'∧q d ds' } (.pen ds0::qbh N.tail ds)):Ok P w K mg base x (k+1) ps (NSp K sp) :=
  F.ok S (fun vs H Q E xx148=>by obtain ⟨F,a,ps',rest,ds0,ds,q,e,_,_,_,_,i,h,_⟩:=xx148;rw [e,List.length_cons,i.len];exact len ds0 ds q h) fun f cdv A outer s H vs Q E hr xx147=>by
   obtain ⟨F,a,ps',rest,ds0,ds,q,e,sm,fa,ha,i0,i,h,kk⟩:=xx147
   subst e
   obtain ⟨W,hW,hq⟩:=hbody f cdv A outer s H E hr ds0 ds q h
   have hl:=len ds0 ds q h
   have hlen:(qbh N.tail ds).length+1=(start N (.ref a::rest)).length:=by
    simp only [qbh,start,List.length_append,List.length_map,List.length_replicate,List.length_tail,List.length_cons,i.len]
    omega
   have same : ∀ {e1:Sto}{F1 H1:Hp}{σ1:St}{ds':List PyData},EnvOk K ⟨qcz H a,H,F⟩ F1 H1 e1 σ1→gS e1 0 = .pen ds'→GoP a F H F1 H1 ∧ ∃ ps2,H1 a=some (.lst ps2)∧Iss K F1 ds' ps2:=fun {e1 F1 H1 σ1 ds'} I1 e0=>by
    have T:=I1.slot 0
    rw [e0] at T
    obtain ⟨b,vs2,eb,h1,h2,h3,⟨o,h4⟩,h5⟩:=T
    have hb:b=a:=by
     rcases Nat.decEq b a with z|z
     ·have h3':qcz H a b=none:=h3
      unfold qcz at h3'
      rw [if_neg z] at h3'
      have h4':H b=some o:=h4
      rw [h4'] at h3';cases h3'
     ·exact z
    subst hb
    exact ⟨⟨I1.f0,I1.bh,I1.fh,I1.new,h2⟩,vs2,h1,h5⟩
   refine ⟨_,hW,⟨qcz H a,H,F⟩,_,F,_,(qwb sm fa ha i0 i).mpr hlen,hq,⟨fun e1 F1 H1 σ1 I1 s1 q1=>?_,fun r v e1 F1 H1 σ1 I1 s1 r1 q1=>?_,fun _ _ _ _ _ _ h=>h.elim,fun _ _ _ _ _ _ h=>h.elim⟩⟩
   ·obtain ⟨ds',e0,q1⟩:=q1
    obtain ⟨g,ps2,h1,h5⟩:=same I1 e0
    exact kk _ _ F1 H1 ps2 ds' g h1 h5 qpa q1
   ·obtain ⟨d,ds',rfl,e0,q1⟩:=q1
    obtain ⟨g,ps2,h1,h5⟩:=same I1 e0
    exact kk _ _ F1 H1 ps2 ds' g h1 h5 r1 q1
end
end L2
namespace L2
open PySem PySem.Spec PyProof.Rows
def capP (i0:Nat) (ix:List Nat) (k:Nat) (env:Sto):Sto:=ix.map (fun i=>if i=i0 then .pen (gS env i0).cnt else (gS env i).seen)++List.replicate k .non
def qwp (i0 j0:Nat) (ix:List Nat) (k:Nat) (Wi:WF) (G:WG) (We:WE):WF:=fun env Q=>Wi env fun ds e0=>ds.length<sizeLine∧(gS e0 i0).mut=true ∧ ∃ P:Nat→List PyData→Sto→Prop,P 0 [] (capP i0 ix k e0) ∧
 (∀ i d ys e,ds[i]?=some d→P i ys e→G d e fun e1=>We e1 fun y e2=>P (i+1) (ys++[y]) e2) ∧ ∀ ys e,P ds.length ys e → ∃ ds',gS e j0 = .pen ds'∧Q ys (e0.set i0 ((gS e0 i0).upd ds'))
theorem EnvOk.capP {K:PySem.W.Frag}{M:Frm}{F H:Hp}{env:Sto}{σ:St}{i0:Nat}{a:Addr} (I:EnvOk K M F H env σ) (m:(gS env i0).mut=true) (ea:vS σ i0=some (.ref a)) (ix:List Nat) (k:Nat) (nd : ∀ j j':Nat,ix[j]?=some i0→ix[j']?=some i0→j=j') :
 EnvOk K ⟨qcz H a,H,F⟩ F H (L2.capP i0 ix k env) (qjp ix k σ) where
  len:=by simp [L2.capP,qjp]
  slot:=fun j=>by
   unfold L2.capP
   rw [qpg]
   cases h:ix[j]? with
   | none=>rw [qjg];trivial
   | some i =>
    show SlotOk K _ F H (if i=i0 then .pen (gS env i0).cnt else (gS env i).seen) _
    rw [zadv ix k σ j i h]
    by_cases z:i=i0
    ·subst z
     rw [if_pos rfl]
     obtain ⟨a',vs,e,h1,h2,h3,h5⟩:=(I.slot i).addr m
     rw [ea] at e;injection e with e;injection e with e;subst e
     exact ⟨a,vs,ea,h1,h2,by show qcz H a a=none;unfold qcz;rw [if_pos rfl],⟨_,h1⟩,h5⟩
    ·rw [if_neg z]
     have S:=I.slot i
     cases q:gS env i with
     | val d=>rw [q] at S;exact S
     | non=>trivial
     | own ds=>trivial
     | pen ds=>trivial
     | new d=>rw [q] at S;obtain ⟨v,e,j⟩:=S;exact ⟨v,e,j.is qof⟩
     | exc C=>trivial
     | obj a0 C nm fs=>trivial
  dis:=fun i j b hij h1 h2=>by
   have key : ∀ n,(gS (L2.capP i0 ix k env) n).mut=true→ix[n]?=some i0:=fun n hn=>by
    unfold L2.capP at hn
    rw [qpg] at hn
    cases h:ix[n]? with
    | none=>rw [h,qjg] at hn;cases hn
    | some c =>
     rw [h] at hn
     replace hn:(if c=i0 then Sl.pen (gS env i0).cnt else (gS env c).seen).mut=true:=hn
     by_cases z:c=i0
     ·rw [z]
     ·rw [if_neg z] at hn
      cases q:gS env c <;> rw [q] at hn <;> cases hn
   exact absurd (nd i j (key i h1) (key j h2)) hij
  f0 :=.refl _
  fe:=I.fh
  fh:=I.fh
  bh:=fun b o e=>by
   have e:qcz H a b=some o:=e
   unfold qcz at e
   split at e
   ·cases e
   ·exact e
  new:=fun b o e => .inl e
  dom:=fun b o e=>⟨o,e⟩
theorem EnvOk.penGo {K:PySem.W.Frag}{F H F1 H1:Hp}{a:Addr}{e1:Sto}{σ1:St}{j:Nat}{ds':List PyData} (I1:EnvOk K ⟨qcz H a,H,F⟩ F1 H1 e1 σ1) (e0:gS e1 j = .pen ds'):GoP a F H F1 H1 ∧ ∃ ps2,H1 a=some (.lst ps2)∧Iss K F1 ds' ps2:=by
 have T:=I1.slot j
 rw [e0] at T
 obtain ⟨b,vs2,eb,h1,h2,h3,⟨o,h4⟩,h5⟩:=T
 have hb:b=a:=by
  rcases Nat.decEq b a with z|z
  ·have h3':qcz H a b=none:=h3
   unfold qcz at h3'
   rw [if_neg z] at h3'
   have h4':H b=some o:=h4
   rw [h4'] at h3';cases h3'
  ·exact z
 subst hb
 exact ⟨⟨I1.f0,I1.bh,I1.fh,I1.new,h2⟩,vs2,h1,h5⟩
theorem qnt {K:PySem.W.Frag}{ix:List Nat}{n i0 j0:Nat}{Wi:WF}{G:WG}{We:WE}{σ:St}{H:Hp}{R:VK} (nd : ∀ j j':Nat,ix[j]?=some i0→ix[j']?=some i0→j=j') (h:qqb K (qwp i0 j0 ix n Wi G We) σ H R):qwk ix n (qkl K Wi) (qih K G) (qcc K We) σ H R:=by
 obtain ⟨M,env,F,Q,I,h,k⟩:=h
 refine ⟨M,env,F,_,I,h,fun ds J F1 H1 e1 I1 s1 jt xx150=>?_⟩
 obtain ⟨hz,hm,P,p0,turn,fin⟩:=xx150
 obtain ⟨a,vs,ea,a1,a2,a3,a4⟩:=(I1.slot i0).addr hm
 refine ⟨fun i m ys σ1 H'=>m=ds.length-i∧i≤ds.length ∧ ∃ e' F' l,EnvOk K ⟨qcz H1 a,H1,F1⟩ F' H' e' σ1∧Iss K F' l ys∧ys.length=i∧P i l e',⟨ds.length,by simp,Nat.zero_le _,capP i0 ix n e1,F1,[],I1.capP hm ea ix n nd,qO,rfl,p0⟩,?_⟩
 rintro i m ys σ1 H2 ⟨hm',hi,e2,F2,l,I2,i2,hl,p2⟩
 by_cases he:i=ds.length
 ·subst he
  obtain ⟨ds',e0,q⟩:=fin l e2 p2
  obtain ⟨g,ps2,h1,h5⟩:=I2.penGo e0
  exact .inl ⟨jt.stop H2 (I2.f0.trans I2.fh),by omega,qhb (I1.goP hm ea a1 g h1 h5) (s1.trans g.f) i2 q k⟩
 ·have hlt:i<ds.length:=by omega
  refine .inr ⟨jt.go i H2 (I2.f0.trans I2.fh) hlt,by omega,fun y σ' H' => ∃ e' F' l',EnvOk K ⟨qcz H1 a,H1,F1⟩ F' H' e' σ'∧Iss K F' l' (ys++[y])∧P (i+1) l' e',
   fun y σ' H' xx149=>by obtain ⟨e',F',l',I',i',p'⟩:=xx149;exact ⟨ds.length-(i+1),by omega,rfl,hlt,e',F',l',I',i',by simp [hl],p'⟩,fun x H3 hy=>?_⟩
  obtain ⟨d,F3,hd,g,j⟩:=jt.yld i H2 x H3 F2 I2.f0 I2.fh hlt hy
  refine ⟨_,e2,F3,d,_,I2.go g,j,turn i d l e2 hd p2,fun F4 H4 e4 σ4 I4 s4 h4=>⟨_,e4,F4,_,I4,h4,fun d5 v5 F5 H5 e5 I5 s5 i5 h5=>?_⟩⟩
  exact ⟨e5,F5,l++[d5],I5,qX ((i2.mono (g.f.trans s4)).mono s5) (qy i5 qO),h5⟩
section
variable {X:Cx}{elt target iter:Expr}{scope:Scope}{pos py spos:Pos}{caps own:List Str}{ix:List Nat}{Wi:WF}{G:WG}{We:WE}{i i0 j0:Nat}{y:Str}
theorem qui (hc:X.calm=true) (S:CompScope X.env scope caps) (hi:VI X target iter Wi) (hg : ∀ pins s3 H ex,VG (blk X pins scope (caps++own) s3 H ex) target G) (he : ∀ pins s3 H ex,VE (blk X pins scope (caps++own) s3 H ex) elt We)
 (nd : ∀ j j':Nat,ix[j]?=some i0→ix[j']?=some i0→j=j')
 (hix:caps.length=ix.length:=by rfl) (hcapB:(caps.zip ix).all (fun p=>X.N[p.2]?==some p.1)=true:=by rfl) (hs : ∀ x,foldedSetIterable iter X.env x=pure x:=by intro _;rfl):VF X (.ListComp elt [⟨target,iter,[],0⟩] scope pos) (qwp i0 j0 ix own.length Wi G We) :=
  (qyk (wi:=qkl X.K Wi) (g:=qih X.K G) (te:=qcc X.K We) hc S hi hg he hix hcapB hs).imp fun σ H R h=>qnt nd h
theorem zaas (hN:X.N.Nodup) (hc:X.calm=true) (S:CompScope X.env scope caps) (hi:VI X target iter Wi) (hg : ∀ pins s3 H ex,VG (blk X pins scope (caps++own) s3 H ex) target G) (he : ∀ pins s3 H ex,VE (blk X pins scope (caps++own) s3 H ex) elt We)
 (nd : ∀ j j':Nat,ix[j]?=some i0→ix[j']?=some i0→j=j')
 (hiy:X.N[i]?=some y:=by rfl) (hy:X.env.scope.names.lookup y=some .local:=by rfl) (hsw:swapsWith (.ListComp elt [⟨target,iter,[],0⟩] scope pos) (some (.Name y py)) spos.line X.env=pure true:=by rfl)
  (hix:caps.length=ix.length:=by rfl) (hcapB:(caps.zip ix).all (fun p=>X.N[p.2]?==some p.1)=true:=by rfl) (hs : ∀ x,foldedSetIterable iter X.env x=pure x:=by intro _;rfl) :
  VS X (.Assign [.Name y py] (.ListComp elt [⟨target,iter,[],0⟩] scope pos) spos) (wSet i (wL (qwp i0 j0 ix own.length Wi G We))) :=
  (qsf (wi:=qkl X.K Wi) (g:=qih X.K G) (te:=qcc X.K We) hN hiy hy hsw hc S hi hg he hix hcapB hs).imp fun D σ H ⟨M,env,F,DD,I,h,k⟩=>qnt nd ⟨M,env,F,_,I,h,fun a vs ds F1 H1 e1 I1 s1 h1 h2 h3 h4 h5 h6 h7=>by
   obtain ⟨J,s⟩:=I1.frz h1 h2 h4 h5
   exact k.nx _ _ H1 _ (J.setv (qcq (SqL.of qp) (h6.mono s))) (s1.trans s) h7⟩
end
theorem qor {ix:List Nat}{i0:Nat} (h:(List.range ix.length).all (fun j=>(List.range ix.length).all fun j' => !(ix[j]?==some i0&&ix[j']?==some i0)||j==j')=true) : ∀ j j':Nat,ix[j]?=some i0→ix[j']?=some i0→j=j':=fun j j' h1 h2=>by
 have a:=(List.getElem?_eq_some_iff.mp h1).1
 have b:=(List.getElem?_eq_some_iff.mp h2).1
 have q:=List.all_eq_true.mp (List.all_eq_true.mp h j (List.mem_range.mpr a)) j' (List.mem_range.mpr b)
 simpa [h1,h2] using q
end L2
namespace L2
open PySem PySem.Spec PyProof.Rows
section
variable {X:Cx}{pins:List (Addr×Obj)}{σ:St}{H:Hp}{s:Shared}
end
section
variable {P:Program}{w:World}{K:PySem.W.Frag}{mg:Str→Option Value}{base:Heap}{N:List Str}{qual:Str}{scope:Scope}{f:Addr}{cd:Value}{A:Around}{outer:List Env}{s:Shared}{H:Hp}{E:XK}
end
end L2
namespace L2
open PySem PySem.Spec PyProof.Rows
section
variable {X:Cx}{x:Str}{C:Addr}{E:XK}{e:Expr}{es:List Expr}{t:TA}{np cpos pos:Pos}
end
end L2
namespace L2
open PySem PySem.Spec PyProof.Rows
section
variable {M:Model}{A:Around}{E:Value→Shared→Prop}{C N C' N':Addr}{nm nm' q q':Str}{bs bm bs' bm':List Value}
end
section
variable {X:Cx}{pins:List (Addr×Obj)}{σ:St}{H1 H2:Hp}{s1 s':Shared}{B h5:Heap}
end
section
variable {X:Cx}{pins:List (Addr×Obj)}{σ:St}{H:Hp}{s:Shared}
end
end L2
namespace L2
open PySem PySem.Spec PyProof.Rows
section
variable {X:Cx}{pins pins0:List (Addr×Obj)}{σ:St}{H:Hp}{s:Shared}
end
section
variable {X:Cx}{body suite:List Stmt}{b₀:Stmt}{x n:Str}{np hpos pos:Pos}{C':Addr}{i:Nat}{tb:(St→XK)→TS}{ts:TS}
end
end L2
namespace L2
open PySem PySem.Spec PyProof.Rows
section
variable {K:PySem.W.Frag}{M:Frm}{F H:Hp}{env:Sto}{σ:St}
theorem EnvOk.sets (I:EnvOk K M F H env σ) {i:Nat}{s:Sl}{v:Option V} (m:s.mut=false) (h:SlotOk K M F H s v):EnvOk K M F H (env.set i s) (σ.set i v) where
 len:=by rw [List.length_set,List.length_set];exact I.len
 slot:=fun j=>by
  rw [qds,qmp,I.len]
  split
  ·exact h
  ·exact I.slot j
 dis:=fun j k a hjk h1 h2 h3 h4=>by
  rw [qds] at h1 h2
  rw [qmp] at h3 h4
  rw [I.len] at h1 h2
  split at h1
  ·rw [m] at h1;cases h1
  ·rename_i z1
   split at h2
   ·rw [m] at h2;cases h2
   ·rename_i z2
    rw [if_neg z1] at h3
    rw [if_neg z2] at h4
    exact I.dis j k a hjk h1 h2 h3 h4
 f0:=I.f0
 fe:=I.fe
 fh:=I.fh
 bh:=I.bh
 new:=I.new
 dom:=I.dom
end
abbrev WX:=Addr→Sto→Prop
def ExOk (K:PySem.W.Frag) (M:Frm) (F:Hp) (Wx:WX) (Ex:St→XK):Prop := ∀ C env' F' H' σ',EnvOk K M F' H' env' σ'→Same F F'→Wx C env'→Ex σ' (.ref C) none H'
def zajf (K:PySem.W.Frag) (Ex:St→XK) (W:WX→WE):TE:=fun σ H R => ∃ M env F Wx Q,EnvOk K M F H env σ∧W Wx env Q∧ExOk K M F Wx Ex ∧ ∀ d v F' H' env',EnvOk K M F' H' env' σ→Same F F'→Is K F' d v→Q d env'→R v H'
def zadf (K:PySem.W.Frag) (Ex:St→XK) (W:WX→WS):TS:=fun D σ H => ∃ M env F Wx DD,EnvOk K M F H env σ∧W Wx DD env∧ExOk K M F Wx Ex∧EndsOk K M F DD D
def VEX (X:Cx) (Ex:St→XK) (e:Expr) (W:WX→WE):Prop:=PE X e (zajf X.K Ex W)
def VSX (X:Cx) (Ex:St→XK) (st:Stmt) (W:WX→WS):Prop:=PS X st (zadf X.K Ex W)
def VSsX (X:Cx) (Ex:St→XK) (st:List Stmt) (W:WX→WS):Prop:=PSs X st (zadf X.K Ex W)
abbrev DE:=List PyData→(PyData→Prop)→(Addr→Prop)→Prop
section
variable {X:Cx}{Ex:St→XK}{x:Str}{k:Nat}{ps:List Str}{sp:DE}{e c:Expr}{es:List Expr}{p pos:Pos}{Wr:WF}{st:Stmt}{rest A B:List Stmt}{Tc:WT}{W:WX→WE}{Wt Wu:WX→WS}{W0:WS}
end
end L2
namespace L2
open PySem PySem.Spec PyProof.Rows
section
variable {X:Cx}{Ex:St→XK}{E:XK}{x y n:Str}{k i j:Nat}{ps:List Str}{sp:DE}{e:Expr}{es:List Expr}{p np cpos hpos pos pos':Pos}{Wr:WF}{st b₀:Stmt}{body suite:List Stmt}{C C':Addr}{Wb:WX→WS}{Ws:WS}
end
section
variable {P:Program}{w:World}{K:PySem.W.Frag}{mg:Str→Option Value}{base:Heap}
end
end L2
namespace L2
open PySem PySem.Spec PyProof.Rows
section
variable {prog:Program}{w:World}{A:Around}{E:Value→Shared→Prop}{h:Heap}{g:Array GenState}{d:Drawn}{t:Nat}{os:OsState}{a:Addr}{o:Obj}{K:PySem.W.Frag}
 {nm q:Str}{C N:Addr}{bs bm:List Value}{hdct:Bool}{sn:List Str}{sub:List Value}{ab:Bool}{col:Option Bool}{dd:Option Addr}{k0 k1 k2 k3 k5:Option Value}{newId:String}
end
end L2
namespace L2
open PySem PySem.Spec PyProof.Rows
section
variable {X:Cx}
section
variable {y:Str}{c:Expr}{cs:List Expr}{v:V}{vs:List V}{u:Value}{us:List Value}{p py pt pos:Pos}{x1:Nat}
end
end
end L2
namespace L2
open PySem PySem.Spec PyProof.Rows
section
variable {prog:Program}{w:World}{A:Around}{E:Value→Shared→Prop}{s:Shared}
def SqIt (b:Bool) (h:Heap) (j l:Addr) (i:Nat):Prop:=match b with
 | true=>h.IsTupleIter j l i
 | false=>h.IsListIter j l i
def SqOf (b:Bool) (h:Heap) (l:Addr) (us:Array Value):Prop:=match b with
 | true=>h.IsTuple l us
 | false=>h.IsList l us
def itTy:Bool→String
 | true => "tuple_iterator"
 | false => "list_iterator"
abbrev itO (b:Bool) (l:Addr):Obj:={ cls :=.type (itTy b),data :=.fields #[.ref l,.int 0 0] }
theorem SqIt.at' {b:Bool}{h h':Heap}{j l:Addr}{i:Nat} (x:SqIt b h j l i) (e : ∀ o,h.get? j=some o→h'.get? j=some o):SqIt b h' j l i:=by
 cases b with
 | true=>exact Heap.IsTupleIter.at x e
 | false=>exact Heap.IsListIter.at x e
theorem SqIt.but {b:Bool}{h h':Heap}{j l c:Addr}{i:Nat} (x:SqIt b h j l i) (e:Heap.SameBut c h h') (n:j≠c):SqIt b h' j l i:=x.at' fun o q=>e.extBut j o n q
theorem SqIt.obj {b:Bool}{h:Heap}{j l:Addr}{i:Nat} (x:SqIt b h j l i) : ∃ o,h.get? j=some o ∧ ∀ v,o.data ≠ .cell v:=by
 cases b with
 | true=>obtain ⟨o,q,_,d⟩:=x;exact ⟨o,q,fun v z=>by rw [d] at z;cases z⟩
 | false=>obtain ⟨o,q,_,d⟩:=x;exact ⟨o,q,fun v z=>by rw [d] at z;cases z⟩
theorem SqOf.at' {b:Bool}{h h':Heap}{l:Addr}{us:Array Value} (x:SqOf b h l us) (e : ∀ o,h.get? l=some o→h'.get? l=some o):SqOf b h' l us:=by
 cases b with
 | true=>obtain ⟨o,q,r⟩:=x;exact ⟨o,e o q,r⟩
 | false=>exact Heap.IsList.at x e
theorem SqOf.but {b:Bool}{h h':Heap}{l c:Addr}{us:Array Value} (x:SqOf b h l us) (e:Heap.SameBut c h h') (n:l≠c):SqOf b h' l us:=x.at' fun o q=>e.extBut l o n q
theorem SqOf.lt {b:Bool}{h:Heap}{l:Addr}{us:Array Value} (x:SqOf b h l us):l<h.objs.size:=by
 cases b with
 | true=>obtain ⟨o,q,_⟩:=x;exact Heap.lt_size q
 | false=>obtain ⟨o,q,_⟩:=x;exact Heap.lt_size q
theorem zabw {j t:Addr}{k:Nat}{us:Array Value}{u:Value}{Q:Value→Shared→Prop} (hj:s.heap.IsTupleIter j t k) (ht:s.heap.IsTuple t us) (hu:us[k]?=some u)
 (q : ∀ h',h'.IsTupleIter j t (k+1)→Heap.SameBut j s.heap h'→Q u { s with heap:=h' }):wpAny (model prog w) A (Builtin.SmallTypes.nextOf (.ref j)) Q E s:=by
  obtain ⟨ob,e1,e2,e3⟩:=id hj
  obtain ⟨ot,f1,_,nt,f3⟩:=ht
  unfold Builtin.SmallTypes.nextOf
  refine wpAny_bind (wpAny_callSpecial?_slot (name:=Str.ofString "__next__") hj.typeIs F.slot_tuple_iterator_next (wpAny_call_entry F.slot_tuple_iterator_next hj.typeIs F.entry_tuple_iterator_next ?_ (F.args_tuple_iterator_next_1 _)))
  show wpAny _ _ (field (.ref j) 0 >>= _) _ _ s
  refine wpAny_bind (wpAny_field e1 e3 (x :=.ref t) rfl ?_)
  show wpAny _ _ (if (Value.ref t==Value.none)=true then _ else _) _ _ s
  rw [if_neg (fun z:(Value.ref t==Value.none)=true=>Bool.false_ne_true z)]
  show wpAny _ _ (field (.ref j) 1 >>= _) _ _ s
  refine wpAny_bind (wpAny_field e1 e3 (x :=.int k 0) rfl ?_)
  show wpAny _ _ (seqItems? (.ref t) >>= _) _ _ s
  refine wpAny_bind (wpAny_seqItems f1 f3 ?_)
  simp only [Int.toNat_natCast,hu]
  refine wpAny_bind (wpAny_setField e1 e3 (by simp) (wpAny_pure ⟨u,rfl,wpAny_pure (q _ ?_ (Heap.SameBut.update ..))⟩))
  exact ⟨_,Heap.get?_update_self _ e1 (Obj.isFreed_of_fields (Obj.data_mapFields e3 _)),(Obj.cls_mapFields ..).trans e2,by rw [Obj.data_mapFields e3];simp [rawInt]⟩
theorem zago {j t:Addr}{k:Nat}{us:Array Value}{Q:Value→Shared→Prop} (hh:A.handled=none) (hj:s.heap.IsTupleIter j t k) (ht:s.heap.IsTuple t us) (hu:us[k]?=none)
 (q : ∀ h' e,Heap.ExtBut j s.heap h'→(∃ o,h'.get? e=some o∧o.cls = .type "StopIteration")→E (.ref e) { s with heap:=h' }):wpAny (model prog w) A (Builtin.SmallTypes.nextOf (.ref j)) Q E s:=by
  obtain ⟨ob,e1,e2,e3⟩:=id hj
  obtain ⟨ot,f1,_,nt,f3⟩:=ht
  unfold Builtin.SmallTypes.nextOf
  refine wpAny_bind (wpAny_callSpecial?_slot (name:=Str.ofString "__next__") hj.typeIs F.slot_tuple_iterator_next (wpAny_call_entry F.slot_tuple_iterator_next hj.typeIs F.entry_tuple_iterator_next ?_ (F.args_tuple_iterator_next_1 _)))
  show wpAny _ _ (field (.ref j) 0 >>= _) _ _ s
  refine wpAny_bind (wpAny_field e1 e3 (x :=.ref t) rfl ?_)
  show wpAny _ _ (if (Value.ref t==Value.none)=true then _ else _) _ _ s
  rw [if_neg (fun z:(Value.ref t==Value.none)=true=>Bool.false_ne_true z)]
  show wpAny _ _ (field (.ref j) 1 >>= _) _ _ s
  refine wpAny_bind (wpAny_field e1 e3 (x :=.int k 0) rfl ?_)
  show wpAny _ _ (seqItems? (.ref t) >>= _) _ _ s
  refine wpAny_bind (wpAny_seqItems f1 f3 ?_)
  simp only [Int.toNat_natCast,hu]
  refine wpAny_bind (wpAny_rule (wpAny_bind (wpAny_setField e1 e3 (by simp) ?_)))
  show wpAny _ _ (newExc (.type "StopIteration") [] >>= _) _ _ _
  refine wpAny_bind (?_:wpAny _ _ (newExc (.type "StopIteration") []) _ _ _)
  simp only [newExc,newTuple]
  refine wpAny_bind (wpAny_newObj_type (?_:_) (by size_fits))
  refine wpAny_bind (m:=firstArgMember _ _) (wpAny_of_eq (a:=Value.none) (by first|rfl|(simp only [firstArgMember];rfl)|skip) ?_)
  refine wpAny_newObj_type (?_:_) (by size_fits)
  simp only [raiseNew]
  refine wpAny_bind (wpAny_handled (?_:_))
  first|rw [hh]|rw [show A.in1.handled=none from hh]
  refine wpAny_bind (wpAny_pure (wpAny_throw (?_:_)))
  exact q _ _ (((Heap.SameBut.update ..).extBut.push _).push _) ⟨_,Heap.get?_push_size _ rfl,rfl⟩
theorem qoj {b:Bool}{j l:Addr}{k:Nat}{us:Array Value}{u:Value}{Q:Value→Shared→Prop} (hj:SqIt b s.heap j l k) (hl:SqOf b s.heap l us) (hu:us[k]?=some u)
 (q : ∀ h',SqIt b h' j l (k+1)→Heap.SameBut j s.heap h'→Q u { s with heap:=h' }):wpAny (model prog w) A (Builtin.SmallTypes.nextOf (.ref j)) Q E s:=by
  cases b with
  | true=>exact zabw hj hl hu q
  | false=>exact wpAny_nextOf_list_item hj hl hu q
theorem qyd {b:Bool}{j l:Addr}{k:Nat}{us:Array Value}{Q:Value→Shared→Prop} (hh:A.handled=none) (hj:SqIt b s.heap j l k) (hl:SqOf b s.heap l us) (hu:us[k]?=none)
 (q : ∀ h' e,Heap.ExtBut j s.heap h'→(∃ o,h'.get? e=some o∧o.cls = .type "StopIteration")→E (.ref e) { s with heap:=h' }):wpAny (model prog w) A (Builtin.SmallTypes.nextOf (.ref j)) Q E s:=by
  cases b with
  | true=>exact zago hh hj hl hu q
  | false=>exact wpAny_nextOf_list_end hh hj hl hu q
theorem qyg {b:Bool}{l:Addr}{us:Array Value}{Q:Value→Shared→Prop} (hl:SqOf b s.heap l us) (q:Q (.ref s.heap.objs.size) { s with heap:=s.heap.push (itO b l) }):wpAny (model prog w) A (pyIter (.ref l)) Q E s:=by
 cases b with
 | true=>exact wpAny_pyIter_tuple hl q
 | false=>exact wpAny_pyIter_list hl q
theorem zabq {b c:Bool}{z TI TO j1 j2 l1 l2:Addr}{k1 k2:Nat}{us vs:Array Value}{u v x0 y0:Value}{Q:Value→Shared→Prop} (D:ZipApart z TI TO j1 j2 l1 l2)
 (a0:IsZip s.heap z TI TO .none) (a1:IsPair s.heap TI (.ref j1) (.ref j2)) (a2:IsPair s.heap TO x0 y0)
 (e1:SqIt b s.heap j1 l1 k1) (e2:SqIt c s.heap j2 l2 k2) (g1:SqOf b s.heap l1 us) (g2:SqOf c s.heap l2 vs) (hu:us[k1]?=some u) (hv:vs[k2]?=some v)
 (q : ∀ h',IsZip h' z TI TO (rawInt s.heap.objs.size)→IsPair h' TO u v→SqIt b h' j1 l1 (k1+1)→SqIt c h' j2 l2 (k2+1)→IsPair h' s.heap.objs.size u v→h'.objs.size=s.heap.objs.size+1 →
 (∀ a o,a≠z→a≠TO→a≠j1→a≠j2→s.heap.get? a=some o→h'.get? a=some o)→Q (.ref s.heap.objs.size) { s with heap:=h' }) :
  wpAny (model prog w) A (Builtin.«zip.__next__» ⟨[.ref z],[]⟩) (fun r s' => ∃ y,r = .done (.ret y)∧Q y s') E s:=by
  show wpAny _ _ (field (.ref z) 2 >>= _) _ _ _
  refine wpAny_bind (wpAny_field a0 rfl (x :=.bool false) rfl ?_)
  show wpAny _ _ (field (.ref z) 3 >>= _) _ _ _
  refine wpAny_bind (wpAny_field a0 rfl (x :=.ref TI) rfl ?_)
  refine wpAny_bind (wpAny_seqItems a1 rfl ?_)
  show wpAny _ _ (Builtin.SmallTypes.ownedTupleIsFree (.ref z) >>= _) _ _ _
  refine wpAny_bind (?_:wpAny _ _ (Builtin.SmallTypes.ownedTupleIsFree (.ref z)) _ _ _)
  unfold Builtin.SmallTypes.ownedTupleIsFree
  refine wpAny_bind (wpAny_field a0 rfl (x :=.none) rfl (wpAny_pure ?_))
  simp only [if_true]
  refine wpAny_bind (wpAny_rule (?_:_))
  refine wpAny_bind (wpAny_field a0 rfl (x :=.ref TO) rfl ?_)
  refine wpAny_bind (wpAny_setField_rec a0 (by simp) fun p1 b0 m1=>?_)
  replace b0:IsZip p1 z TI TO .ellipsis:=b0
  refine wpAny_bind (?_:_)
  simp only [List.zipIdx_cons,List.zipIdx_nil,List.forIn_cons,List.forIn_nil]
  refine wpAny_bind (wpAny_bind (wpAny_onRaise (?_:_)))
  show wpAny _ _ (Builtin.SmallTypes.nextOf (.ref j1) >>= _) _ _ _
  refine wpAny_bind (qoj (e1.but m1 D.i1z) (g1.but m1 D.l1z) hu fun p2 f1 m2=>wpAny_pure ?_)
  have c2:IsPair p2 TO x0 y0:=m2.extBut _ _ D.TOi1 (m1.extBut _ _ D.TOz a2)
  refine wpAny_bind (wpAny_seqItems c2 rfl ?_)
  refine wpAny_bind (wpAny_updateSeq_pair c2 fun p3 c3 m3=>?_)
  replace c3:IsPair p3 TO u y0:=c3
  refine wpAny_bind (wpAny_letGo (wpAny_pure (?_:_)))
  refine wpAny_bind (wpAny_bind (wpAny_onRaise (?_:_)))
  show wpAny _ _ (Builtin.SmallTypes.nextOf (.ref j2) >>= _) _ _ _
  refine wpAny_bind (qoj (((e2.but m1 D.i2z).but m2 D.i12.symm).but m3 D.TOi2.symm) (((g2.but m1 D.l2z).but m2 D.l2i1).but m3 D.l2TO) hv fun p4 f2 m4=>wpAny_pure ?_)
  have c4:IsPair p4 TO u y0:=m4.extBut _ _ D.TOi2 c3
  refine wpAny_bind (wpAny_seqItems c4 rfl ?_)
  refine wpAny_bind (wpAny_updateSeq_pair c4 fun p5 c5 m5=>?_)
  replace c5:IsPair p5 TO u v:=c5
  refine wpAny_bind (wpAny_letGo (wpAny_pure (wpAny_pure (?_:_))))
  refine wpAny_bind (wpAny_seqItems c5 rfl ?_)
  refine wpAny_bind (wpAny_newTuple (?_:_))
  have sz:p5.objs.size=s.heap.objs.size:=by rw [m5.1,m4.1,m3.1,m2.1,m1.1]
  have b5:IsZip p5 z TI TO .ellipsis:=m5.extBut _ _ D.TOz.symm (m4.extBut _ _ D.i2z.symm (m3.extBut _ _ D.TOz.symm (m2.extBut _ _ D.i1z.symm b0)))
  have k5 : ∀ a o,a≠z→a≠TO→a≠j1→a≠j2→s.heap.get? a=some o→p5.get? a=some o:=fun a o n1 n2 n3 n4 e =>
   m5.extBut _ _ n2 (m4.extBut _ _ n4 (m3.extBut _ _ n2 (m2.extBut _ _ n3 (m1.extBut _ _ n1 e))))
  have f5:SqIt b p5 j1 l1 (k1+1):=((f1.but m3 D.TOi1.symm).but m4 D.i12).but m5 D.TOi1.symm
  have f6:SqIt c p5 j2 l2 (k2+1):=f2.but m5 D.TOi2.symm
  have zlt:z<p5.objs.size:=Heap.lt_size b5
  show wpAny _ _ (Builtin.SmallTypes.ownedTupleHandOut (.ref z) (.ref p5.objs.size) >>= _) _ _ _
  refine wpAny_bind (?_:wpAny _ _ (Builtin.SmallTypes.ownedTupleHandOut (.ref z) (.ref p5.objs.size)) _ _ _)
  unfold Builtin.SmallTypes.ownedTupleHandOut
  have b6:IsZip (p5.push { cls :=.type "tuple",data :=.seq #[u,v] }) z TI TO .ellipsis:=Heap.get?_push_of_some _ b5
  refine wpAny_bind (wpAny_setField_rec b6 (by simp) fun p7 b7 m7=>?_)
  replace b7:IsZip p7 z TI TO (rawInt p5.objs.size):=b7
  refine wpAny_setField_rec b7 (by simp) fun p8 b8 m8=>?_
  replace b8:IsZip p8 z TI TO (rawInt p5.objs.size):=b8
  have up : ∀ a o,a≠z→p5.get? a=some o→p8.get? a=some o:=fun a o n e=>m8.extBut _ _ n (m7.extBut _ _ n (Heap.get?_push_of_some _ e))
  have t8:IsPair p8 p5.objs.size u v:=m8.extBut _ _ (Nat.ne_of_gt zlt) (m7.extBut _ _ (Nat.ne_of_gt zlt) (Heap.get?_push_size _ rfl))
  have z8:p8.objs.size=p5.objs.size+1:=by rw [m8.1,m7.1,Heap.size_push]
  rw [sz] at b8 t8 z8
  refine wpAny_pure ⟨_,rfl,(?_:Q (.ref p5.objs.size) _)⟩
  rw [sz]
  exact q p8 b8 (up _ _ D.TOz c5) (f5.at' fun o e=>up _ o D.i1z e) (f6.at' fun o e=>up _ o D.i2z e) t8 z8 fun a o n1 n2 n3 n4 e=>up a o n1 (k5 a o n1 n2 n3 n4 e)
theorem zafm {b c:Bool}{z TI TO j1 j2 l1 l2:Addr}{k1 k2:Nat}{us vs:Array Value}{x0 y0:Value}{Q:Fin→Shared→Prop} (hh:A.handled=none) (D:ZipApart z TI TO j1 j2 l1 l2)
 (a0:IsZip s.heap z TI TO .none) (a1:IsPair s.heap TI (.ref j1) (.ref j2)) (a2:IsPair s.heap TO x0 y0)
 (e1:SqIt b s.heap j1 l1 k1) (e2:SqIt c s.heap j2 l2 k2) (g1:SqOf b s.heap l1 us) (g2:SqOf c s.heap l2 vs) (hend:us[k1]?=none∨vs[k2]?=none)
 (q : ∀ h' e,(∀ a o,a≠z→a≠TO→a≠j1→a≠j2→s.heap.get? a=some o→h'.get? a=some o)→(∃ o,h'.get? e=some o∧o.cls = .type "StopIteration")→E (.ref e) { s with heap:=h' }) :
  wpAny (model prog w) A (Builtin.«zip.__next__» ⟨[.ref z],[]⟩) Q E s:=by
  show wpAny _ _ (field (.ref z) 2 >>= _) _ _ _
  refine wpAny_bind (wpAny_field a0 rfl (x :=.bool false) rfl ?_)
  show wpAny _ _ (field (.ref z) 3 >>= _) _ _ _
  refine wpAny_bind (wpAny_field a0 rfl (x :=.ref TI) rfl ?_)
  refine wpAny_bind (wpAny_seqItems a1 rfl ?_)
  show wpAny _ _ (Builtin.SmallTypes.ownedTupleIsFree (.ref z) >>= _) _ _ _
  refine wpAny_bind (?_:wpAny _ _ (Builtin.SmallTypes.ownedTupleIsFree (.ref z)) _ _ _)
  unfold Builtin.SmallTypes.ownedTupleIsFree
  refine wpAny_bind (wpAny_field a0 rfl (x :=.none) rfl (wpAny_pure ?_))
  simp only [if_true]
  refine wpAny_bind (wpAny_rule (?_:_))
  refine wpAny_bind (wpAny_field a0 rfl (x :=.ref TO) rfl ?_)
  refine wpAny_bind (wpAny_setField_rec a0 (by simp) fun p1 b0 m1=>?_)
  replace b0:IsZip p1 z TI TO .ellipsis:=b0
  refine wpAny_bind (?_:_)
  simp only [List.zipIdx_cons,List.zipIdx_nil,List.forIn_cons,List.forIn_nil]
  refine wpAny_bind (wpAny_bind (wpAny_onRaise (?_:_)))
  show wpAny _ _ (Builtin.SmallTypes.nextOf (.ref j1) >>= _) _ _ _
  cases hu:us[k1]? with
  | none =>
   refine wpAny_bind (qyd hh (e1.but m1 D.i1z) (g1.but m1 D.l1z) hu fun p2 e m2 he=>?_)
   obtain ⟨oe,h3,h4⟩:=he
   have b2:IsZip p2 z TI TO .ellipsis:=m2 _ _ D.i1z.symm b0
   have nz:e≠z:=fun x=>by subst x;rw [b2] at h3;cases h3;simp at h4
   exact wpAny_setField_rec b2 (by simp) fun p3 _ m3=>q p3 e (fun a o n1 _ n3 _ x=>m3.extBut _ _ n1 (m2 _ _ n3 (m1.extBut _ _ n1 x))) ⟨oe,m3.extBut _ _ nz h3,h4⟩
  | some u =>
   have hv:vs[k2]?=none:=by
    rcases hend with h|h
    ·rw [hu] at h;cases h
    ·exact h
   refine wpAny_bind (qoj (e1.but m1 D.i1z) (g1.but m1 D.l1z) hu fun p2 f1 m2=>wpAny_pure ?_)
   have c2:IsPair p2 TO x0 y0:=m2.extBut _ _ D.TOi1 (m1.extBut _ _ D.TOz a2)
   refine wpAny_bind (wpAny_seqItems c2 rfl ?_)
   refine wpAny_bind (wpAny_updateSeq_pair c2 fun p3 c3 m3=>?_)
   refine wpAny_bind (wpAny_letGo (wpAny_pure (?_:_)))
   refine wpAny_bind (wpAny_bind (wpAny_onRaise (?_:_)))
   show wpAny _ _ (Builtin.SmallTypes.nextOf (.ref j2) >>= _) _ _ _
   refine wpAny_bind (qyd hh (((e2.but m1 D.i2z).but m2 D.i12.symm).but m3 D.TOi2.symm) (((g2.but m1 D.l2z).but m2 D.l2i1).but m3 D.l2TO) hv fun p4 e m4 he=>?_)
   obtain ⟨oe,h3,h4⟩:=he
   have b4:IsZip p4 z TI TO .ellipsis:=m4 _ _ D.i2z.symm (m3.extBut _ _ D.TOz.symm (m2.extBut _ _ D.i1z.symm b0))
   have nz:e≠z:=fun x=>by subst x;rw [b4] at h3;cases h3;simp at h4
   exact wpAny_setField_rec b4 (by simp) fun p5 _ m5=>q p5 e (fun a o n1 n2 n3 n4 x=>m5.extBut _ _ n1 (m4 _ _ n4 (m3.extBut _ _ n2 (m2.extBut _ _ n3 (m1.extBut _ _ n1 x))))) ⟨oe,m5.extBut _ _ nz h3,h4⟩
theorem zaaz {b c:Bool}{z TI TO j1 j2 l1 l2:Addr}{k1 k2:Nat}{us vs:Array Value}{u v x0 y0:Value}{Q:Option Value→Shared→Prop} (D:ZipApart z TI TO j1 j2 l1 l2)
 (a0:IsZip s.heap z TI TO .none) (a1:IsPair s.heap TI (.ref j1) (.ref j2)) (a2:IsPair s.heap TO x0 y0)
 (e1:SqIt b s.heap j1 l1 k1) (e2:SqIt c s.heap j2 l2 k2) (g1:SqOf b s.heap l1 us) (g2:SqOf c s.heap l2 vs) (hu:us[k1]?=some u) (hv:vs[k2]?=some v)
 (q : ∀ h',IsZip h' z TI TO (rawInt s.heap.objs.size)→IsPair h' TO u v→SqIt b h' j1 l1 (k1+1)→SqIt c h' j2 l2 (k2+1)→IsPair h' s.heap.objs.size u v→h'.objs.size=s.heap.objs.size+1 →
 (∀ a o,a≠z→a≠TO→a≠j1→a≠j2→s.heap.get? a=some o→h'.get? a=some o)→Q (some (.ref s.heap.objs.size)) { s with heap:=h' }) :
  wpAny (model prog w) A (pyNext (.ref z)) Q E s:=by
  have ty:s.TypeIs (.ref z) "zip":=⟨_,a0,rfl⟩
  unfold pyNext
  exact wpAny_bind (wpAny_attempt (wpAny_callSpecial?_slot (name:=Str.ofString "__next__") ty F.slot_zip_next (wpAny_call_entry F.slot_zip_next ty F.entry_zip_next
   (zabq D a0 a1 a2 e1 e2 g1 g2 hu hv fun h' r1 r2 r3 r4 r5 r6 r7=>wpAny_pure (q h' r1 r2 r3 r4 r5 r6 r7)) (F.args_zip_next_1 _))))
theorem zagu {b c:Bool}{z TI TO j1 j2 l1 l2:Addr}{k1 k2:Nat}{us vs:Array Value}{x0 y0:Value}{Q:Option Value→Shared→Prop} (hh:A.handled=none) (D:ZipApart z TI TO j1 j2 l1 l2)
 (a0:IsZip s.heap z TI TO .none) (a1:IsPair s.heap TI (.ref j1) (.ref j2)) (a2:IsPair s.heap TO x0 y0)
 (e1:SqIt b s.heap j1 l1 k1) (e2:SqIt c s.heap j2 l2 k2) (g1:SqOf b s.heap l1 us) (g2:SqOf c s.heap l2 vs) (hend:us[k1]?=none∨vs[k2]?=none)
 (q : ∀ h',(∀ a o,a≠z→a≠TO→a≠j1→a≠j2→s.heap.get? a=some o→h'.get? a=some o)→Q none { s with heap:=h' }):wpAny (model prog w) A (pyNext (.ref z)) Q E s:=by
  have ty:s.TypeIs (.ref z) "zip":=⟨_,a0,rfl⟩
  unfold pyNext
  refine wpAny_bind (wpAny_attempt (wpAny_callSpecial?_slot (name:=Str.ofString "__next__") ty F.slot_zip_next (wpAny_call_entry F.slot_zip_next ty F.entry_zip_next (zafm hh D a0 a1 a2 e1 e2 g1 g2 hend fun h' e hk he=>?_) (F.args_zip_next_1 _))))
  obtain ⟨o,ho,hc⟩:=he
  exact wpAny_bind (wpAny_isInstance (T := "StopIteration") (b:=true) ⟨o,ho,hc⟩ isSubtype_stop (wpAny_pure (q _ hk)))
abbrev zh1 (b:Bool) (h:Heap) (l:Addr):Heap:=h.push (itO b l)
abbrev zh2 (b c:Bool) (h:Heap) (l1 l2:Addr):Heap:=(zh1 b h l1).push (itO c l2)
abbrev zh3 (b c:Bool) (h:Heap) (l1 l2:Addr):Heap:=(zh2 b c h l1 l2).push { cls :=.type "tuple",data :=.seq #[.ref h.objs.size,.ref (zh1 b h l1).objs.size] }
abbrev zh4 (b c:Bool) (h:Heap) (l1 l2:Addr):Heap:=(zh3 b c h l1 l2).push { cls :=.type "tuple",data :=.seq #[.none,.none] }
abbrev zh5 (b c:Bool) (h:Heap) (l1 l2:Addr):Heap:=(zh4 b c h l1 l2).push { cls :=.type "zip",data :=.fields #[.none,.bool false,.bool false,.ref (zh2 b c h l1 l2).objs.size,.ref (zh3 b c h l1 l2).objs.size] }
theorem zaiz (b c:Bool) (l1 l2:Addr) (us vs:Array Value):Meets (Builtin.«zip.__new__» ⟨[.type "zip",.ref l1,.ref l2],[]⟩)
 (fun _ R s=>SqOf b s.heap l1 us∧SqOf c s.heap l2 vs∧R (.ok (.ret (.ref (zh4 b c s.heap l1 l2).objs.size))) { s with heap:=zh5 b c s.heap l1 l2 }) :=
  .of_wp fun prog w A R s h=>by
   obtain ⟨hp,g,d,tk,os⟩:=s
   obtain ⟨g1,g2,h⟩:=h
   have hsub:=sub_zip
   have y1:SqOf b (Shared.heap ⟨hp,g,d,tk,os⟩) l1 us:=g1
   have y2:SqOf c (Shared.heap ⟨hp.push (itO b l1),g,d,tk,os⟩) l2 vs:=SqOf.at' g2 fun o e=>Heap.get?_push_of_some _ e
   wp_walk using qyg y1,qyg y2
   exact ⟨_,rfl,h⟩
theorem zagd {b c:Bool}{l1 l2:Addr}{us vs:Array Value}{Q:Value→Shared→Prop} (g1:SqOf b s.heap l1 us) (g2:SqOf c s.heap l2 vs)
 (q : ∀ h',IsZip h' (s.heap.objs.size+4) (s.heap.objs.size+2) (s.heap.objs.size+3) .none→IsPair h' (s.heap.objs.size+2) (.ref s.heap.objs.size) (.ref (s.heap.objs.size+1)) →
 IsPair h' (s.heap.objs.size+3) .none .none→SqIt b h' s.heap.objs.size l1 0→SqIt c h' (s.heap.objs.size+1) l2 0→(∀ a o,s.heap.get? a=some o→h'.get? a=some o)→Q (.ref (s.heap.objs.size+4)) { s with heap:=h' }) :
  wpAny (model prog w) A (call (.type "zip") [.ref l1,.ref l2]) Q E s:=by
  refine callType_new F.called_zip (by decide) (F.typeCall_zip_2 _ _) (F.newCall_zip_2 _ _) (fun ob=>F.args_object_init_3 ob _ _) F.entry_zip_new (zaiz b c l1 l2 us vs) ⟨g1,g2,?_⟩
  have n1:(zh1 b s.heap l1).objs.size=s.heap.objs.size+1:=Heap.size_push ..
  have n2:(zh2 b c s.heap l1 l2).objs.size=s.heap.objs.size+2:=by rw [Heap.size_push,n1]
  have n3:(zh3 b c s.heap l1 l2).objs.size=s.heap.objs.size+3:=by rw [Heap.size_push,n2]
  have n4:(zh4 b c s.heap l1 l2).objs.size=s.heap.objs.size+4:=by rw [Heap.size_push,n3]
  have r5:(zh5 b c s.heap l1 l2).get? (zh4 b c s.heap l1 l2).objs.size=some _:=Heap.get?_push_size _ rfl
  have r4:(zh5 b c s.heap l1 l2).get? (zh3 b c s.heap l1 l2).objs.size=some _:=Heap.get?_push_of_some _ (Heap.get?_push_size _ rfl)
  have r3:(zh5 b c s.heap l1 l2).get? (zh2 b c s.heap l1 l2).objs.size=some _:=Heap.get?_push_of_some _ (Heap.get?_push_of_some _ (Heap.get?_push_size _ rfl))
  have r2:(zh5 b c s.heap l1 l2).get? (zh1 b s.heap l1).objs.size=some (itO c l2):=Heap.get?_push_of_some _ (Heap.get?_push_of_some _ (Heap.get?_push_of_some _ (Heap.get?_push_size _ rfl)))
  have r1:(zh5 b c s.heap l1 l2).get? s.heap.objs.size=some (itO b l1):=Heap.get?_push_of_some _ (Heap.get?_push_of_some _ (Heap.get?_push_of_some _ (Heap.get?_push_of_some _ (Heap.get?_push_size _ rfl))))
  show _∧_
  rw [n2,n3,n4] at r5
  rw [n1,n2] at r3
  rw [n3] at r4
  rw [n1] at r2
  rw [n4]
  have si : ∀ {b:Bool}{h:Heap}{a l:Addr},h.get? a=some (itO b l)→SqIt b h a l 0:=fun {b}{h}{a}{l} e=>by
   cases b with
   | true=>exact ⟨_,e,rfl,rfl⟩
   | false=>exact ⟨_,e,rfl,rfl⟩
  exact ⟨⟨_,r5,rfl⟩,q _ r5 r3 r4 (si r1) (si r2) fun a o x=>Heap.get?_push_of_some _ (Heap.get?_push_of_some _ (Heap.get?_push_of_some _ (Heap.get?_push_of_some _ (Heap.get?_push_of_some _ x))))⟩
end
end L2
namespace L2
open PySem PySem.Spec PyProof.Rows
def SqX (b:Bool) (K:PySem.W.Frag) (H:Hp) (a:Addr) (xs:List V):Prop:=match b with
 | true=>SqT K H a xs
 | false=>SqL K H a xs
section
variable {X:Cx}{pins:List (Addr×Obj)}{σ:St}{H:Hp}{s:Shared}{b:Bool}{a:Addr}{xs ys:List V}
theorem Inv.sqx (I:Inv X pins σ H s) (h:SqX b X.K H a xs) : ∃ its:List Value,Vals xs its∧SqOf b s.heap a its.toArray:=by
 cases b with
 | true =>
  obtain ⟨its,r,p,_⟩:=I.tuple h
  obtain ⟨o,ho,hc,n,hd⟩:=p
  exact ⟨its,r,o,ho,hc,n,hd⟩
 | false =>
  obtain ⟨its,r,p,_⟩:=I.list h
  exact ⟨its,r,p.isList⟩
theorem Inv.sqx_inj (I:Inv X pins σ H s) (h:SqX b X.K H a xs) (h':SqX b X.K H a ys):xs=ys:=by
 cases b with
 | true=>exact I.tuple_inj h h'
 | false=>exact I.list_inj h h'
end
def Itz (K:PySem.W.Frag) (b c:Bool) (l m:Addr):It :=
 ⟨fun i H => ∃ xs ys x y,SqX b K H l xs∧SqX c K H m ys∧xs[i]?=some x∧ys[i]?=some y,fun i H v H' => ∃ p x y,(∀ xs,SqX b K H l xs→xs[i]?=some x)∧(∀ ys,SqX c K H m ys→ys[i]?=some y)∧H p=none∧v = .ref p∧H'=upd H p (.tup [x,y]),
  fun i H => ∃ xs ys,SqX b K H l xs∧SqX c K H m ys∧(xs.length≤i∨ys.length≤i)⟩
theorem zacb {P:Program}{w:World}{K:PySem.W.Frag}{elts:List Expr}{x1:Nat}{tpos:Pos}{b c:Bool} (z TI TO j1 j2 l m:Addr) (D:ZipApart z TI TO j1 j2 l m) :
 Turn P w K (.Tuple elts x1 tpos) (Itz K b c l m) [z,TI,TO,j1,j2] z (fun i h=>IsZip h z TI TO .none∧IsPair h TI (.ref j1) (.ref j2)∧(∃ x0 y0,IsPair h TO x0 y0)∧SqIt b h j1 l i∧SqIt c h j2 m i) where
  mem:=by simp
  obj:=fun i h st a ha=>by
   obtain ⟨s0,s1,⟨x0,y0,s2⟩,s3,s4⟩:=st
   simp only [List.mem_cons,List.not_mem_nil,or_false] at ha
   rcases ha with rfl|rfl|rfl|rfl|rfl
   ·exact ⟨_,s0,fun v z=>by have z':Data.fields _=Data.cell v:=z;cases z'⟩
   ·exact ⟨_,s1,fun v z=>by have z':Data.seq _ _=Data.cell v:=z;cases z'⟩
   ·exact ⟨_,s2,fun v z=>by have z':Data.seq _ _=Data.cell v:=z;cases z'⟩
   ·exact s3.obj
   ·exact s4.obj
  keep:=fun i h h' st k=>by
   obtain ⟨s0,s1,⟨x0,y0,s2⟩,s3,s4⟩:=st
   exact ⟨k z (by simp) _ s0,k TI (by simp) _ s1,⟨x0,y0,k TO (by simp) _ s2⟩,s3.at' fun o q=>k j1 (by simp) o q,s4.at' fun o q=>k j2 (by simp) o q⟩
  item:=by
   intro X hP hw hK hc i pins s σ H E I hf st hg
   subst hP hw hK
   obtain ⟨xs,ys,x,y,hq,hq',hx,hy⟩:=hg
   obtain ⟨us,rv,p1⟩:=I.sqx hq
   obtain ⟨vs,rw',p2⟩:=I.sqx hq'
   obtain ⟨u,hu,ru⟩:=rv.get hx
   obtain ⟨v,hv,rv'⟩:=rw'.get hy
   obtain ⟨s0,s1,⟨x0,y0,s2⟩,s3,s4⟩:=st
   obtain ⟨z0,z1,z2,z3,z4,z5⟩:=hf z (by simp)
   obtain ⟨o0,o1,o2,o3,o4,o5⟩:=hf TO (by simp)
   obtain ⟨f0,f1,f2,f3,f4,f5⟩:=hf j1 (by simp)
   obtain ⟨g0,g1,g2,g3,g4,g5⟩:=hf j2 (by simp)
   have zlt:z<s.heap.objs.size:=Heap.lt_size s0
   refine zaaz D s0 s1 s2 s3 s4 p1 p2 (u:=u) (v:=v) (by simpa using hu) (by simpa using hv) fun h₁ a0 a2 a3 a4 ht hz₁ hk=>⟨_,rfl,?_⟩
   refine wpAny_letOwnedTupleGo_zip (s:={ s with heap:=h₁ }) a0 fun h₂ he₂ hs₂=>?_
   replace hs₂:Heap.SameBut z h₁ h₂:=hs₂
   have fresh:H s.heap.objs.size=none:=I.hok.fresh (Nat.le_refl _)
   have kk : ∀ a o,a≠z→a≠TO→a≠j1→a≠j2→s.heap.get? a=some o→h₂.get? a=some o:=fun a o b1 b2 b3 b4 q=>hs₂.extBut a o b1 (hk a o b1 b2 b3 b4 q)
   have kc : ∀ a o,a ∉ [z,TO,j1,j2]→s.heap.get? a=some o→h₂.get? a=some o:=fun a o hc q=>kk a o (fun z=>hc (by simp [z])) (fun z=>hc (by simp [z])) (fun z=>hc (by simp [z])) (fun z=>hc (by simp [z])) q
   have nb : ∀ a o v,s.heap.get? a=some o→H a=some v→h₂.get? a=some o:=fun a o v e q=>kk a o (fun n=>by rw [n,z0] at q;cases q) (fun n=>by rw [n,o0] at q;cases q) (fun n=>by rw [n,f0] at q;cases q) (fun n=>by rw [n,g0] at q;cases q) e
   have ht₂:h₂.get? s.heap.objs.size=some { cls :=.type "tuple",data :=.seq #[u,v] }:=(hs₂.2 _ (Nat.ne_of_gt zlt)).trans ht
   have I1:Inv X pins σ (upd H s.heap.objs.size (.tup [x,y])) { s with heap:=h₂ }:=by
    refine I.step (t':=s.toks) (g':=s.gens) (d':=s.drawn) (ch:=[z,TO,j1,j2]) (fun a ha=>?_) (fun a o _ _ hc q _=>kc a o hc q)
     (fun a o _ _ hc q _=>⟨o.slots,kc a o hc q⟩) (fun a o _ q n=>by rw [qk (Nat.ne_of_lt (Heap.lt_size q))];exact n)
     (fun a o hc q=>⟨o,kc a o hc q⟩) (fun a ys q=>by rw [qk (ql q fresh)];exact q) (fun a o v q=>by rw [qk (ql q fresh)];exact q)
     (fun a ps q=>⟨#[],by rw [qk (ql q fresh),q];simp⟩) (fun m hm=>?_) (fun a v' q=>?_) I.bare
    ·simp only [List.mem_cons,List.not_mem_nil,or_false] at ha
     rcases ha with rfl|rfl|rfl|rfl
     ·exact ⟨z3,z1,z4,z5⟩
     ·exact ⟨o3,o1,o4,o5⟩
     ·exact ⟨f3,f1,f4,f5⟩
     ·exact ⟨g3,g1,g4,g5⟩
    ·obtain ⟨o,es,ep,ho',r⟩:=hm
     exact ⟨o,es,ep,kk _ o (Ne.symm z1) (Ne.symm o1) (Ne.symm f1) (Ne.symm g1) ho',r⟩
    ·by_cases hb:a=s.heap.objs.size
     ·subst hb
      rw [qp] at q
      cases q
      exact ⟨(by show 2≤sizeLine;decide),[u,v],.cons ru (.cons rv' .nil),⟨_,ht₂,rfl,_,rfl⟩⟩
     ·rw [qk hb] at q
      refine (I.hok a v' q).stay (fun d ob hd e=>?_) (fun d e=>by rw [qk (ql e fresh)];exact e) fun d ws e=>by rw [qk (ql e fresh)];exact e
      rcases hd with hd|hd
      ·subst hd;exact nb _ _ _ e q
      ·exact nb _ _ _ e hd
   refine ⟨.ref s.heap.objs.size,_,I1,rfl,⟨s.heap.objs.size,x,y,fun ws hw=>by rw [I.sqx_inj hw hq];exact hx,fun ws hw=>by rw [I.sqx_inj hw hq'];exact hy,fresh,rfl,rfl⟩,⟨he₂,?_,⟨u,v,?_⟩,?_,?_⟩,fun a ha=>?_⟩
   ·exact hs₂.extBut _ _ D.TIz (hk _ _ D.TIz D.TITO D.TIi1 D.TIi2 s1)
   ·exact hs₂.extBut _ _ D.TOz a2
   ·exact a3.but hs₂ D.i1z
   ·exact a4.but hs₂ D.i2z
   ·have hlt:a<s.heap.objs.size:=by
     simp only [List.mem_cons,List.not_mem_nil,or_false] at ha
     rcases ha with rfl|rfl|rfl|rfl|rfl
     ·exact zlt
     ·exact Heap.lt_size s1
     ·exact Heap.lt_size s2
     ·obtain ⟨o,q,_⟩:=s3.obj;exact Heap.lt_size q
     ·obtain ⟨o,q,_⟩:=s4.obj;exact Heap.lt_size q
    rw [qk (Nat.ne_of_lt hlt)]
    exact (hf a ha).1
  done:=by
   intro X hP hw hK hc i pins s σ H E I hf st hg
   subst hP hw hK
   obtain ⟨xs,ys,hq,hq',hx⟩:=hg
   obtain ⟨us,rv,p1⟩:=I.sqx hq
   obtain ⟨vs,rw',p2⟩:=I.sqx hq'
   obtain ⟨s0,s1,⟨x0,y0,s2⟩,s3,s4⟩:=st
   obtain ⟨z0,z1,z2,z3,z4,z5⟩:=hf z (by simp)
   obtain ⟨o0,o1,o2,o3,o4,o5⟩:=hf TO (by simp)
   obtain ⟨f0,f1,f2,f3,f4,f5⟩:=hf j1 (by simp)
   obtain ⟨g0,g1,g2,g3,g4,g5⟩:=hf j2 (by simp)
   have l1:=rv.length
   have l2:=rw'.length
   refine zagu (I.ok.hd hc) D s0 s1 s2 s3 s4 p1 p2 (by rcases hx with hx|hx;exact .inl (by simp;omega);exact .inr (by simp;omega)) fun h' hk=>⟨rfl,?_⟩
   have kc : ∀ a o,a ∉ [z,TO,j1,j2]→s.heap.get? a=some o→h'.get? a=some o:=fun a o hc q=>hk a o (fun z=>hc (by simp [z])) (fun z=>hc (by simp [z])) (fun z=>hc (by simp [z])) (fun z=>hc (by simp [z])) q
   have nb : ∀ a o v,s.heap.get? a=some o→H a=some v→h'.get? a=some o:=fun a o v e q=>hk a o (fun n=>by rw [n,z0] at q;cases q) (fun n=>by rw [n,o0] at q;cases q) (fun n=>by rw [n,f0] at q;cases q) (fun n=>by rw [n,g0] at q;cases q) e
   refine I.step (t':=s.toks) (g':=s.gens) (d':=s.drawn) (ch:=[z,TO,j1,j2]) (fun a ha=>?_) (fun a o _ _ hc q _=>kc a o hc q)
    (fun a o _ _ hc q _=>⟨o.slots,kc a o hc q⟩) (fun a o _ q n=>n) (fun a o hc q=>⟨o,kc a o hc q⟩) (fun a ys q=>q) (fun a o v q=>q) (fun a ps q=>⟨#[],by rw [q];simp⟩) (fun m hm=>?_) (fun a v' q=>?_) I.bare
   ·simp only [List.mem_cons,List.not_mem_nil,or_false] at ha
    rcases ha with rfl|rfl|rfl|rfl
    ·exact ⟨z3,z1,z4,z5⟩
    ·exact ⟨o3,o1,o4,o5⟩
    ·exact ⟨f3,f1,f4,f5⟩
    ·exact ⟨g3,g1,g4,g5⟩
   ·obtain ⟨o,es,ep,ho',r⟩:=hm
    exact ⟨o,es,ep,hk _ o (Ne.symm z1) (Ne.symm o1) (Ne.symm f1) (Ne.symm g1) ho',r⟩
   ·refine (I.hok a v' q).stay (fun d ob hd e=>?_) (fun d e=>e) fun d ws e=>e
    rcases hd with hd|hd
    ·subst hd;exact nb _ _ _ e q
    ·exact nb _ _ _ e hd
  self:=fun A i s Q E st h=>wpAny_pyIter_zip st.1 h
theorem zaam:bootBuiltins "zip" = some (.type "zip"):=by decide +kernel
section
variable {X:Cx}{elts:List Expr}{x1:Nat}{tpos:Pos}
def iZip (K:PySem.W.Frag) (ta:TA):TI:=fun σ H R=>ta σ H fun vs H1 => ∃ b c l m,vs=[.ref l,.ref m]∧(∃ xs,SqX b K H1 l xs)∧(∃ ys,SqX c K H1 m ys)∧R (Itz K b c l m) H1
theorem zajo {a b:Expr}{ta:TA}{p pos:Pos} (hg:Gl X "zip") (hm:X.mg "zip" = none) (ha:PA X [a,b] ta) (hs:starEach [a,b] X.env=[(false,eval a X.env),(false,eval b X.env)]:=by rfl) (hs2:starEach [b] X.env=[(false,eval b X.env)]:=by rfl) :
 PI X (.Tuple elts x1 tpos) (.Call (.Name "zip" p) [a,b] [] pos) (iZip X.K ta):=by
 intro pins s σ H R I h
 refine Call_ (qmn I hg hm zaam (PyProof.Rows.callWith_type1 (thn (ha pos pins s σ H _ I h) fun us s1 xx153=>?_) (by rw [hs,hs2]) (by rw [hs2];rfl)))
 obtain ⟨vs,H1,I1,r1,q1⟩:=xx153
 obtain ⟨kb,kc,l,m,e,⟨xs,hq⟩,⟨ys,hq'⟩,q⟩:=q1
 subst e
 cases r1 with
 | cons r rr =>
  cases rr with
  | cons r' rr =>
   cases rr
   cases r
   cases r'
   obtain ⟨its,rv,pl⟩:=I1.sqx hq
   obtain ⟨its',rv',pl'⟩:=I1.sqx hq'
   refine zagd pl pl' fun h' a0 a1 a2 a3 a4 hk=>?_
   refine wpAny_pyIter_zip a0 ?_
   have I2:Inv X pins σ H1 { s1 with heap:=h' }:=I1.kept (t':=s1.toks) hk
   refine ⟨s1.heap.objs.size+4,[s1.heap.objs.size+4,s1.heap.objs.size+2,s1.heap.objs.size+3,s1.heap.objs.size,s1.heap.objs.size+1],_,_,H1,rfl,I2,zacb (b:=kb) (c:=kc) _ _ _ _ _ l m (zipApart_new pl.lt pl'.lt),⟨a0,a1,⟨_,_,a2⟩,a3,a4⟩,fun b hb=>?_,q⟩
   have hle:s1.heap.objs.size≤b:=by
    simp only [List.mem_cons,List.not_mem_nil,or_false] at hb
    rcases hb with rfl|rfl|rfl|rfl|rfl
    ·exact Nat.le_add_right _ 4
    ·exact Nat.le_add_right _ 2
    ·exact Nat.le_add_right _ 3
    ·exact Nat.le_refl _
    ·exact Nat.le_add_right _ 1
   exact I1.fpOk hle (I1.hok.fresh hle)
end
def qxu (l m:List PyData):List PyData:=(l.zip m).map fun p => .tuple [p.1,p.2]
theorem qcl (l m:List PyData):(qxu l m).length=min l.length m.length:=by simp [qxu]
theorem quf {l m:List PyData}{i:Nat}{x y:PyData} (h1:l[i]?=some x) (h2:m[i]?=some y):(qxu l m)[i]?=some (.tuple [x,y]):=by
 unfold qxu
 rw [List.getElem?_map,List.getElem?_zip_eq_some (z:=(x,y)) |>.mpr ⟨h1,h2⟩];rfl
theorem qge {l m:List PyData}{i:Nat}{d:PyData} (h:(qxu l m)[i]?=some d) : ∃ x y,l[i]?=some x∧m[i]?=some y∧d = .tuple [x,y]:=by
 have hi:=(List.getElem?_eq_some_iff.mp h).1
 rw [qcl] at hi
 have h1:i<l.length:=by omega
 have h2:i<m.length:=by omega
 have e:=quf (List.getElem?_eq_getElem h1) (List.getElem?_eq_getElem h2)
 rw [h] at e
 exact ⟨_,_,List.getElem?_eq_getElem h1,List.getElem?_eq_getElem h2,Option.some.inj e⟩
theorem qct {b:Bool}{K:PySem.W.Frag}{F H:Hp}{a:Addr}{xs:List V} (s:Same F H) (h:SqX b K F a xs):SqX b K H a xs:=by
 cases b with
 | true=>exact qS s h
 | false=>exact s.seq h
theorem zaek {b c:Bool}{K:PySem.W.Frag}{F:Hp}{a a':Addr}{xs ys:List V}{l m:List PyData} (hs:SqX b K F a xs) (hr:Iss K F l xs) (hs':SqX c K F a' ys) (hr':Iss K F m ys):ItD K (Itz K b c a a') F (qxu l m) where
 go:=fun i H s hi=>by
  rw [qcl] at hi
  exact ⟨xs,ys,xs[i]'(by rw [hr.len];omega),ys[i]'(by rw [hr'.len];omega),qct s hs,qct s hs',List.getElem?_eq_getElem _,List.getElem?_eq_getElem _⟩
 stop:=fun H s=>by
  rw [qcl]
  refine ⟨xs,ys,qct s hs,qct s hs',?_⟩
  rw [hr.len,hr'.len];omega
 yld:=fun i H x H' F1 s1 s2 hi hy=>by
  obtain ⟨p,y,y',hy,hy',hp,rfl,rfl⟩:=hy
  obtain ⟨d,e1,e2⟩:=hr.get' (hy xs (qct (s1.trans s2) hs))
  obtain ⟨d',e1',e2'⟩:=hr'.get' (hy' ys (qct (s1.trans s2) hs'))
  have g:=Go.put (o:=HO.tup [y,y']) s2 hp
  exact ⟨_,_,quf e1 e1',g,qkc (SqT.of qp) (qy ((e2.mono s1).mono g.f) (qy ((e2'.mono s1).mono g.f) qO))⟩
theorem zadl {K:PySem.W.Frag}{F:Hp}{d:PyData}{l:List PyData}{v:V} (e:qlu d=some l) (i:Is K F d v) : ∃ b a xs,v = .ref a∧SqX b K F a xs∧Iss K F l xs:=by
 cases d with
 | list m=>cases e;obtain ⟨a,xs,rfl,hs,hr⟩:=i.lst_inv;exact ⟨false,a,xs,rfl,hs,hr⟩
 | tuple m=>cases e;obtain ⟨a,xs,rfl,hs,hr⟩:=i.tup_inv;exact ⟨true,a,xs,rfl,hs,hr⟩
 | _=>cases e
section
variable {X:Cx}{a b:Expr}{p pos:Pos}{elts:List Expr}{x1:Nat}{tpos:Pos}
def zakh (Wa Wb:WE):WF:=fun env Q=>Wa env fun x e1=>Wb e1 fun y e=>(qlu x).elim False fun l=>(qlu y).elim False fun m=>Q (qxu l m) e
theorem qje {Wa Wb:WE} (hm:X.mg "zip" = none) (ha:VE X a Wa) (hb:VE X b Wb) (hg:Gl X "zip":=by rfl) (hs:starEach [a,b] X.env=[(false,eval a X.env),(false,eval b X.env)]:=by rfl) (hs2:starEach [b] X.env=[(false,eval b X.env)]:=by rfl)
 (hs3:starEach [a,b] X.env=(false,eval a X.env)::starEach [b] X.env:=by rfl) (hs4:starEach [b] X.env=(false,eval b X.env)::starEach [] X.env:=by rfl):VI X (.Tuple elts x1 tpos) (.Call (.Name "zip" p) [a,b] [] pos) (zakh Wa Wb) :=
 (zajo hg hm (qL ha (qL hb qbp hs4) hs3) hs hs2).imp fun σ H R xx154=>by
  obtain ⟨M,env,F,Q,I,h,k⟩:=xx154
  refine ⟨M,env,F,_,I,h,fun d v F1 H1 e1 I1 s1 i1 h1=>⟨M,e1,F1,_,I1,h1,fun d2 v2 F2 H2 e2 I2 s2 i2 h2=>?_⟩⟩
  cases q1:qlu d with
  | none=>rw [q1] at h2;exact h2.elim
  | some l =>
   cases q2:qlu d2 with
   | none=>rw [q1,q2] at h2;exact h2.elim
   | some m =>
    rw [q1,q2] at h2
    obtain ⟨kb,a1,xs,rfl,z1,z2⟩:=zadl q1 (i1.mono s2)
    obtain ⟨kc,a2,ys,rfl,z3,z4⟩:=zadl q2 i2
    exact ⟨kb,kc,a1,a2,rfl,⟨xs,qct I2.fh z1⟩,⟨ys,qct I2.fh z3⟩,k _ _ F2 H2 e2 I2 (s1.trans s2) (zaek z1 z2 z3 z4) h2⟩
end
end L2
namespace L2
open PySem PySem.Spec PyProof.Rows
section
variable {X:Cx}
end
end L2
namespace L2
open PySem PySem.Spec PyProof.Rows
section
variable {X:Cx}{e:Expr}{W:WF}{We:WE}{pos:Pos}
def wExt (i:Nat) (W:WF):WS:=fun D env=>(gS env i).mut=true∧W env fun l e=>(gS e i).mut=true∧(gS e i).cnt.length+l.length≤sizeLine∧D.nx (e.set i ((gS e i).upd ((gS e i).cnt++l)))
theorem qrd (i:Nat) {x:Str}{px apos cpos:Pos} (he:VF X e W) (hN:X.N[i]?=some x:=by rfl) (hv:Vis X.env.scope x:=by first|exact Or.inl rfl|exact Or.inr (Or.inl rfl)|exact Or.inr (Or.inr rfl)) (hd:(x==("__debug__" : Str))=false:=by decide)
 (hcd:(x==("__classdict__" : Str))=false:=by decide)
 (hbase:attributeBase (.Name x px) "extend" X.env (eval (.Name x px) X.env)=eval (.Name x px) X.env:=by rfl)
 (hfew:((backTo cpos (starEach [e] X.env)).all (fun x => !x.1)&&(backToKw cpos (keywordEach [] X.env)).all (fun x=>x.1.isSome)
  && decide ([e].length+([]:List Keyword).length+(if ([]:List Keyword).isEmpty then 0 else 1)<30))=true:=by rfl)
 (hline:(apos.endLine==cpos.line)=true:=by rfl) (hst:starEach [e] X.env=(false,eval e X.env)::starEach [] X.env:=by rfl) (hplain:(backTo cpos (starEach [] X.env)).any (·.1)=false:=by rfl)
 (hs:swapsWith (.Call (.Attribute (.Name x px) "extend" apos) [e] [] cpos) none pos.line X.env=pure false:=by rfl):VS X (.Expr (.Call (.Attribute (.Name x px) "extend" apos) [e] [] cpos) pos) (wExt i W) :=
 (qfv (zaag PySem.F.plainAttrs_list PySem.F.slot_list_extend PySem.F.type_list_extend qyv (qG hN hv hd hcd) (qL he qbp hst) hbase hfew hline hst hplain) hs).imp fun D σ H xx155=>by
  obtain ⟨M,env,F,DD,I,⟨hm,h⟩,k⟩:=xx155
  obtain ⟨p,vs,ep,g1,g2,g3,g4⟩:=(I.slot i).addr hm
  refine ⟨_,qbu ep,.inl ⟨rfl,_,SqL.of g1⟩,M,env,F,_,I,h,fun a us ds F1 H1 e1 I1 s1 hH hF _ _ _ i1 h1=>?_⟩
  obtain ⟨m1,z1,q1⟩:=h1
  obtain ⟨p',vs1,ep',f1,f2,f3,f4⟩:=(I1.slot i).addr m1
  rw [ep] at ep';injection ep' with ep';injection ep' with ep';subst ep'
  exact ⟨p,a,vs1,us,rfl,rfl,f1,hH,by rw [f4.len,i1.len];exact z1,k.nx _ F1 _ σ (I1.chg m1 ep (qX f4 i1)) s1 q1⟩
end
end L2
namespace L2
open PySem PySem.Spec PyProof.Rows
section
variable {prog:Program}{w:World}{A:Around}{E:Value→Shared→Prop}{s:Shared}
end
section
variable {X:Cx}
end
end L2
namespace L2
open PySem PySem.Spec PyProof.Rows
section
variable {X:Cx}{a b c d:Expr}{pos:Pos}{ta tb tc td:TE}
variable {Wa Wb Wc Wd:WE}
end
end L2
namespace L2
open PySem PySem.Spec PyProof.Rows
def qse (ix:List Nat) (k:Nat) (wi:TI) (g:TG) (tt:TT) (te:TE):TE:=fun σ H Q=>wi σ H fun J H1 => ∃ W:Nat→Nat→List V→St→Hp→Prop,(∃ m,W 0 m [] (qjp ix k σ) H1) ∧ ∀ i m ys σ1 H2,W i m ys σ1 H2 →
 (J.stop i H2∧ys.length≤sizeLine ∧ ∀ p,H2 p=none→Q (.ref p) (upd H2 p (.lst ys))) ∨
 (J.go i H2∧ys.length<sizeLine ∧ ∃ (N:V→St→Hp→Prop) (N0:St→Hp→Prop),(∀ y σ2 H5,N y σ2 H5 → ∃ m',m'<m∧W (i+1) m' (ys++[y]) σ2 H5)∧(∀ σ2 H5,N0 σ2 H5 → ∃ m',m'<m∧W (i+1) m' ys σ2 H5) ∧
  ∀ x H3,J.yld i H2 x H3→g x σ1 H3 fun σ2 H4=>tt σ2 H4 fun b H5=>match b with|true=>te σ2 H5 fun y H6=>N y σ2 H6|false=>N0 σ2 H5)
theorem qea {prog:Program}{w:World}{A:Around}{R:Result→Shared→Prop}{s:Shared}{elt target iter cnd:Expr}{scope:Scope}{pos:Pos}{it acc:Value}{env:Env} (I:Nat→Shared→Prop)
 (turn : ∀ n s,I n s→wpAny (model prog w) A (pyNext it) (fun r s₁=>match r with
  | none=>R (.ok .next) s₁
  | some v=>wpAny (model prog w) A (letOwnedTupleGo target it v) (fun _ s₁'=>wpAny (model prog w) A (assign target env v) (fun _ s₂=>wpAny (model prog w) A (isTrue cnd env (eval cnd env)) (fun b s₂'=>match b with
   | true=>wpAny (model prog w) A (eval elt env) (fun x s₃ =>
    wpAny (model prog w) A (call (.builtin "list.append") [acc,x]) (fun _ s₄ => ∃ m,m<n∧I m s₄) (notedBy (model prog w) A env fun e s'=>R (.error e) s') s₃)
    (notedBy (model prog w) A env fun e s'=>R (.error e) s') s₂'
   | false => ∃ m,m<n∧I m s₂') (notedBy (model prog w) A env fun e s'=>R (.error e) s') s₂) (notedBy (model prog w) A env fun e s'=>R (.error e) s') s₁') (notedBy (model prog w) A env fun e s'=>R (.error e) s') s₁) (notedBy (model prog w) A env fun e s'=>R (.error e) s') s)
  (n:Nat) (h:I n s):codeAny (model prog w) A (.compLoop (.ListComp elt [⟨target,iter,[cnd],0⟩] scope pos) 0 it acc env) R s:=by
  refine codeAny_loop rfl I (fun n s hI=>?_) n h
  show wpAny _ _ ((compTurn (.ListComp elt [⟨target,iter,[cnd],0⟩] scope pos) 0 it acc env).onRaise (fun x=>do noteFrame x env;theTreesLotGoes x)) _ _ s
  refine wpAny_noted (?_:_)
  rw [compTurn_list]
  refine wpAny_bind (wpAny_standAt (wpAny_bind (wpAny_mono (turn n s hI) (fun r s₁ h₁=>?_) fun _ _ z=>z)))
  cases r with
  | none=>exact wpAny_pure h₁
  | some v =>
   refine wpAny_bind (wpAny_mono h₁ (fun _ s₁' h₁'=>wpAny_bind (wpAny_mono h₁' (fun _ s₂ h₂=>?_) fun _ _ z=>z)) fun _ _ z=>z)
   refine wpAny_bind (wpAny_tests_one (wpAny_mono h₂ (fun b s₂' hb=>?_) fun _ _ z=>z))
   cases b with
   | true =>
    refine wpAny_bind (wpAny_bind (wpAny_mono hb (fun x s₃ h₃=>wpAny_bind (wpAny_mono h₃ (fun _ s₄ h₄=>wpAny_pure (wpAny_pure ⟨rfl,h₄⟩)) fun _ _ z=>z)) fun _ _ z=>z))
   | false=>exact wpAny_bind (wpAny_pure (wpAny_pure ⟨rfl,hb⟩))
section
variable {X:Cx}{elt target iter cnd:Expr}{scope:Scope}{pos:Pos}{caps own:List Str}{ix:List Nat}{wi:TI}{g:TG}{te:TE}{tt:TT}
theorem qzg (hc:X.calm=true) (S:CompScope X.env scope caps) (hi:PI X target iter wi)
 (hg : ∀ pins s3 H ex,PG (blk X pins scope (caps++own) s3 H ex) target g)
 (he : ∀ pins s3 H ex,PE (blk X pins scope (caps++own) s3 H ex) elt te)
 (ht : ∀ pins s3 H ex,PT (blk X pins scope (caps++own) s3 H ex) cnd tt)
 (hix:caps.length=ix.length:=by rfl) (hcapB:(caps.zip ix).all (fun p=>X.N[p.2]?==some p.1)=true:=by rfl)
  (hs : ∀ x,foldedSetIterable iter X.env x=pure x:=by intro _;rfl):PE X (.ListComp elt [⟨target,iter,[cnd],0⟩] scope pos) (qse ix own.length wi g tt te):=by
  intro pins s σ H Q I h
  rw [eval_ListComp]
  refine qrb (cs:=[cnd]) (tt:=tt) (Tst:=fun env P E s=>wpAny (model X.prog X.w) X.A (isTrue cnd env (eval cnd env)) P E s) (fun J turn n h=>qea J turn n h) (use:=none) (Q0:=EP X pins σ Q) hc S hi hg he (fun pins s3 H ex pins' s σ H' Qb P E I q k=>wpAny_mono (ht pins s3 H ex pins' s σ H' Qb I q) (fun b s' z=>?_) fun _ _ z=>z.elim) hix hcapB hs I h (fun J H1 z=>z) fun D C s6 H6 m6 ns6 IX c1 c2 c3 c4 c5 c6 q=>⟨m6,ns6,fun h' sb=>⟨.ref D,H6,IX.turned (t':=s6.toks) (it:=C) (fun b o hb q=>sb.extBut b o hb q) c1 c2 c4 c5 c6,rfl,q⟩⟩
  obtain ⟨H'',I'',q''⟩:=z
  exact k b s' H'' I'' q''
def qnq (ix:List Nat) (k:Nat) (Wi:WF) (G:WG) (Wt:WT) (We:WE):WF:=fun env Q=>Wi env fun ds e0=>ds.length<sizeLine ∧ ∃ P:Nat→List PyData→Sto→Prop,P 0 [] (qqs ix k e0) ∧
 (∀ i d ys e,ds[i]?=some d→P i ys e→G d e fun e1=>Wt e1 fun b e2=>if b=true then We e2 fun y e3=>P (i+1) (ys++[y]) e3 else P (i+1) ys e2) ∧ ∀ ys e,P ds.length ys e→Q ys e0
theorem qic {elt target iter cnd:Expr}{scope:Scope}{pos:Pos}{caps own:List Str}{ix:List Nat}{Wi:WF}{G:WG}{Wt:WT}{We:WE} (hc:X.calm=true) (S:CompScope X.env scope caps) (hi:VI X target iter Wi)
 (hg : ∀ pins s3 H ex,VG (blk X pins scope (caps++own) s3 H ex) target G) (ht : ∀ pins s3 H ex,VT (blk X pins scope (caps++own) s3 H ex) cnd Wt)
 (he : ∀ pins s3 H ex,VE (blk X pins scope (caps++own) s3 H ex) elt We)
 (hix:caps.length=ix.length:=by rfl) (hcapB:(caps.zip ix).all (fun p=>X.N[p.2]?==some p.1)=true:=by rfl)
  (hs : ∀ x,foldedSetIterable iter X.env x=pure x:=by intro _;rfl):VF X (.ListComp elt [⟨target,iter,[cnd],0⟩] scope pos) (qnq ix own.length Wi G Wt We) :=
  (qzg (g:=qih X.K G) (tt:=qng X.K Wt) (te:=qcc X.K We) hc S hi hg he ht hix hcapB hs).imp fun σ H R xx159=>by
   obtain ⟨M,env,F,Q,I,h,k⟩:=xx159
   refine ⟨M,env,F,_,I,h,fun ds J F1 H1 e1 I1 s1 jt xx158=>?_⟩
   obtain ⟨hz,P,p0,turn,fin⟩:=xx158
   refine ⟨fun i m ys σ1 H'=>m=ds.length-i∧i≤ds.length ∧ ∃ e' F' l,EnvOk X.K ⟨H1,H1,F1⟩ F' H' e' σ1∧Iss X.K F' l ys∧ys.length≤i∧P i l e',⟨ds.length,by simp,Nat.zero_le _,qqs ix own.length e1,F1,[],I1.cap ix own.length,qO,Nat.le_refl _,p0⟩,?_⟩
   rintro i m ys σ1 H2 ⟨hm,hi,e2,F2,l,I2,i2,hl,p2⟩
   have g2:=I2.goOf
   by_cases he:i=ds.length
   ·subst he
    exact .inl ⟨jt.stop H2 (g2.f.trans g2.fh),by omega,qhb (I1.go g2) (s1.trans g2.f) i2 (fin l e2 p2) k⟩
   ·have hlt:i<ds.length:=by omega
    refine .inr ⟨jt.go i H2 (g2.f.trans g2.fh) hlt,by omega,fun y σ' H' => ∃ e' F' l',EnvOk X.K ⟨H1,H1,F1⟩ F' H' e' σ'∧Iss X.K F' l' (ys++[y])∧P (i+1) l' e',fun σ' H' => ∃ e' F' l',EnvOk X.K ⟨H1,H1,F1⟩ F' H' e' σ'∧Iss X.K F' l' ys∧P (i+1) l' e',
     fun y σ' H' xx157=>by obtain ⟨e',F',l',I',i',p'⟩:=xx157;exact ⟨ds.length-(i+1),by omega,rfl,hlt,e',F',l',I',i',by simp;omega,p'⟩,fun σ' H' xx156=>by obtain ⟨e',F',l',I',i',p'⟩:=xx156;exact ⟨ds.length-(i+1),by omega,rfl,hlt,e',F',l',I',i',by omega,p'⟩,fun x H3 hy=>?_⟩
    obtain ⟨d,F3,hd,g,j⟩:=jt.yld i H2 x H3 F2 g2.f g2.fh hlt hy
    refine ⟨_,e2,F3,d,_,I2.go g,j,turn i d l e2 hd p2,fun F4 H4 e4 σ4 I4 s4 h4=>⟨_,e4,F4,_,I4,h4,fun b F5 H5 e5 I5 s5 h5=>?_⟩⟩
    cases b with
    | true =>
     rw [if_pos rfl] at h5
     refine ⟨_,e5,F5,_,I5,h5,fun d6 v6 F6 H6 e6 I6 s6 i6 h6=>?_⟩
     exact ⟨e6,F6,l++[d6],I6,qX (((i2.mono (g.f.trans s4)).mono s5).mono s6) (qy i6 qO),h6⟩
    | false =>
     rw [if_neg Bool.false_ne_true] at h5
     exact ⟨e5,F5,l,I5,(i2.mono (g.f.trans s4)).mono s5,h5⟩
end
end L2
namespace L2
open PySem PySem.Spec PyProof.Rows
section
variable {X:Cx}
end
section
variable {X:Cx}{e:Expr}{We:WE}{pos:Pos}
variable {x:Str}{px apos cpos:Pos}
end
end L2
namespace L2
open PySem PySem.Spec PyProof.Rows
section
variable {prog:Program}{w:World}{A:Around}{E:Value→Shared→Prop}{s:Shared}
end
section
variable {X:Cx}{elts:List Expr}{x1:Nat}{tpos:Pos}
end
section
variable {X:Cx}{a:Expr}{W:WE}{p pos:Pos}
def qgp {α:Type} (l:List α) (k:Nat) (y:α):List α:=l.take k++y::l.drop k
theorem Vals.ins {xs:List V}{us:List Value}{y:V}{u:Value} (k:Nat) (r:Vals xs us) (ry:RelV y u):Vals (qgp xs k y) (qgp us k u):=(r.take k).append (.cons ry (r.drop k))
def zafj:V→List V→Hp→VK→Prop:=fun x vs H Q => ∃ l xs i y,x = .ref l∧vs=[.int i,y]∧H l=some (.lst xs)∧0≤i∧i≤xs.length∧xs.length<sizeLine∧Q .non (upd H l (.lst (qgp xs i.toNat y)))
theorem qyp:MtM X "list.insert" zafj:=by
 intro pins s σ H x vs v us Q I rx rv h
 obtain ⟨l,xs,i,y,rfl,rfl,hH,i0,i1,hz,q⟩:=h
 cases rx
 obtain ⟨u,w',rfl,ru,rw'⟩:=rv.two
 obtain ⟨t,rfl⟩:=ru
 obtain ⟨z,its,n,r,hl,e⟩:=I.lstM hH
 have hsl:sizeLine<2^62:=by decide
 refine call_meets F.slot_list_insert ⟨_,e,rfl⟩ F.entry_list_insert (F.args_list_insert_3 _ _ _) (AutoSeq1.list_insert_list_int_val_1 l its.toArray n i t w' (by rw [fitsIndex_both (by omega) (by omega)];decide) (by rw [List.size_toArray];omega)) ⟨e,?_⟩
 refine ⟨.non,_,I.lset (its':=qgp its i.toNat w') hH e ?_ (Vals.ins i.toNat r rw') ?_,rfl,q⟩
 ·have hk:(if i<0 then (i+(its.toArray.size:Int)).toNat else min i.toNat its.toArray.size)=i.toNat:=by
   rw [if_neg (by omega),List.size_toArray,Nat.min_eq_left (by omega)]
  simp only [hk]
  unfold qgp
  apply Array.toList_inj.mp
  simp
  exact List.take_of_length_le (by simp)
 ·unfold qgp
  simp only [List.length_append,List.length_cons,List.length_take,List.length_drop]
  omega
theorem zafy {K:PySem.W.Frag}{H:Hp}{l:List PyData}{xs:List V}{d:PyData}{y:V} (k:Nat) (r:Iss K H l xs) (h:Is K H d y):Iss K H (qgp l k d) (qgp xs k y):=qX (qov k r) (qy h (qoo k r))
variable {e1 e2:Expr}{W1 W2:WE}
def wIns (i:Nat) (W1 W2:WE):WS:=fun D env=>(gS env i).mut=true∧W1 env fun d e=>W2 e fun y e'=>match d with
 | .int n=>(gS e' i).mut=true∧(0≤n∧n≤(gS e' i).cnt.length∧(gS e' i).cnt.length<sizeLine)∧D.nx (e'.set i ((gS e' i).upd (qgp (gS e' i).cnt n.toNat y)))
 | _=>False
theorem qqe (i:Nat) {x:Str}{px apos cpos:Pos} (h1:VE X e1 W1) (h2:VE X e2 W2) (hN:X.N[i]?=some x:=by rfl) (hv:Vis X.env.scope x:=by first|exact Or.inl rfl|exact Or.inr (Or.inl rfl)|exact Or.inr (Or.inr rfl)) (hd:(x==("__debug__" : Str))=false:=by decide)
 (hcd:(x==("__classdict__" : Str))=false:=by decide)
 (hbase:attributeBase (.Name x px) "insert" X.env (eval (.Name x px) X.env)=eval (.Name x px) X.env:=by rfl)
 (hfew:((backTo cpos (starEach [e1,e2] X.env)).all (fun x => !x.1)&&(backToKw cpos (keywordEach [] X.env)).all (fun x=>x.1.isSome)
  && decide ([e1,e2].length+([]:List Keyword).length+(if ([]:List Keyword).isEmpty then 0 else 1)<30))=true:=by rfl)
 (hline:(apos.endLine==cpos.line)=true:=by rfl) (hst:starEach [e1,e2] X.env=(false,eval e1 X.env)::starEach [e2] X.env:=by rfl) (hst2:starEach [e2] X.env=(false,eval e2 X.env)::starEach [] X.env:=by rfl) (hplain:(backTo cpos (starEach [e2] X.env)).any (·.1)=false:=by rfl)
 (hs:swapsWith (.Call (.Attribute (.Name x px) "insert" apos) [e1,e2] [] cpos) none pos.line X.env=pure false:=by rfl):VS X (.Expr (.Call (.Attribute (.Name x px) "insert" apos) [e1,e2] [] cpos) pos) (wIns i W1 W2) :=
 (qfv (zaag PySem.F.plainAttrs_list PySem.F.slot_list_insert PySem.F.type_list_insert qyp (qG hN hv hd hcd) (qL h1 (qL h2 qbp hst2) hst) hbase hfew hline hst hplain) hs).imp fun D σ H xx160=>by
  obtain ⟨M,env,F,DD,I,⟨hm,h⟩,k⟩:=xx160
  obtain ⟨p,vs,ep,g1,g2,g3,g4⟩:=(I.slot i).addr hm
  refine ⟨_,qbu ep,.inl ⟨rfl,_,SqL.of g1⟩,M,env,F,_,I,h,fun d v F1 H1 e1 I1 s1 i1 h1=>⟨M,e1,F1,_,I1,h1,fun d2 v2 F2 H2 e2 I2 s2 i2 h2=>?_⟩⟩
  cases d with
  | int n =>
   obtain ⟨m1,⟨n0,n1,z1⟩,q1⟩:=h2
   obtain ⟨p',vs1,ep',f1,f2,f3,f4⟩:=(I2.slot i).addr m1
   rw [ep] at ep';injection ep' with ep';injection ep' with ep';subst ep'
   have fl:=f4.len
   exact ⟨p,vs1,n,v2,rfl,by rw [i1.int_inv],f1,n0,by omega,by omega,k.nx _ F2 _ σ (I2.chg m1 ep (zafy n.toNat f4 i2)) (s1.trans s2) q1⟩
  | _=>exact False.elim h2
def wPar (i j:Nat) (Wr:WF):WS:=fun D env=>Wr env fun ds e=>match ds with
 | [d,d']=>D.nx ((e.set i (.val d)).set j (.val d'))
 | _=>False
theorem zaie {i j:Nat}{x y:Str}{a b:Expr}{Wr:WF}{px py pt pos:Pos}{kt k2 pt2} (hc:X.calm=true) (hN:X.N.Nodup) (ha:VA X [a,b] Wr) (hi:X.N[i]?=some x:=by rfl) (hj:X.N[j]?=some y:=by rfl) (hij:i≠j:=by decide)
 (hx:X.env.scope.names.lookup x=some .local:=by rfl) (hy:X.env.scope.names.lookup y=some .local:=by rfl)
 (hw:swappedStores [.Tuple [.Name x px,.Name y py] kt pt] (.Tuple [a,b] k2 pt2) X.env=pure (some [x,y]):=by rfl)
 (hs:swapsWithSole [.Tuple [.Name x px,.Name y py] kt pt] (.Tuple [a,b] k2 pt2) pos.line X.env=pure false:=by rfl) :
 VS X (.Assign [.Tuple [.Name x px,.Name y py] kt pt] (.Tuple [a,b] k2 pt2) pos) (wPar i j Wr) :=
 (zaif hc hN hi hj hij hx hy ha hw hs).imp fun D σ H xx161=>by
  obtain ⟨M,env,F,DD,I,h,k⟩:=xx161
  refine ⟨M,env,F,_,I,h,fun ds vs F1 H1 e1 I1 s1 i1 h1=>?_⟩
  cases ds with
  | nil=>exact h1.elim
  | cons d r=>cases r with
   | nil=>exact h1.elim
   | cons d' r=>cases r with
    | cons _ _=>exact h1.elim
    | nil =>
     obtain ⟨v,w',rfl,j1,j2⟩:=iss2 i1
     exact ⟨v,w',rfl,k.nx _ F1 H1 _ ((I1.setv j1).setv j2) s1 h1⟩
end
end L2
namespace L2
open PySem PySem.Spec PyProof.Rows
section
variable {X:Cx}
end
end L2
namespace L2
open PySem PySem.Spec PyProof.Rows
section
variable {X:Cx}
end
end L2
namespace L2
open PySem PySem.Spec PyProof.Rows
section
variable {X:Cx}
end
section
variable {P:Program}{w:World}{K:PySem.W.Frag}{mg:Str→Option Value}{base:Heap}
end
end L2
namespace L2
open PySem PySem.Spec PyProof.Rows
section
variable {X:Cx}{elt target iter cnd:Expr}{scope:Scope}{pos:Pos}{caps own:List Str}{ix:List Nat}{wi:TI}{g:TG}{te:TE}{tt:TT}
theorem qrk {i:Nat}{y:Str}{py spos:Pos} (hN:X.N.Nodup) (hiy:X.N[i]?=some y) (hy:X.env.scope.names.lookup y=some .local) (hsw:swapsWith (.ListComp elt [⟨target,iter,[cnd],0⟩] scope pos) (some (.Name y py)) spos.line X.env=pure true) (hc:X.calm=true) (S:CompScope X.env scope caps) (hi:PI X target iter wi)
 (hg : ∀ pins s3 H ex,PG (blk X pins scope (caps++own) s3 H ex) target g)
 (he : ∀ pins s3 H ex,PE (blk X pins scope (caps++own) s3 H ex) elt te)
 (ht : ∀ pins s3 H ex,PT (blk X pins scope (caps++own) s3 H ex) cnd tt)
 (hix:caps.length=ix.length:=by rfl) (hcapB:(caps.zip ix).all (fun p=>X.N[p.2]?==some p.1)=true:=by rfl)
  (hs : ∀ x,foldedSetIterable iter X.env x=pure x:=by intro _;rfl):PS X (.Assign [.Name y py] (.ListComp elt [⟨target,iter,[cnd],0⟩] scope pos) spos) (tAsg (qse ix own.length wi g tt te) (qzz i)):=by
  have hcap : ∀ (j:Nat) (x:Str) (i:Nat),caps[j]?=some x→ix[j]?=some i→X.N[i]?=some x:=fun j x i h1 h2=>by
   have hm:(x,i) ∈ caps.zip ix:=by
    have:(caps.zip ix)[j]?=some (x,i):=by rw [List.getElem?_zip_eq_some];exact ⟨h1,h2⟩
    exact List.mem_of_getElem? this
   have:=List.all_eq_true.mp hcapB _ hm
   simpa using this
  intro pins s σ H D I h
  rw [exec_Assign_Name_used _ _ _ _ hsw]
  refine wpAny_bind (wpAny_standAt (wpAny_bind ?_))
  show wpAny _ _ (do let _ ← comprehension (.ListComp elt [⟨target,iter,[cnd],0⟩] scope pos) scope X.env _ (newList []) false (eval iter X.env) (some (assign (.Name y py) X.env))) _ _ s
  have hnm : ∀ y ∈ scope.names,y.2 = .local→scope.names.lookup y.1=some .local:=fun z hz hl=>by
   have:=List.all_eq_true.mp S.names z hz
   rw [hl] at this
   simpa using this
  refine wpAny_bind (thn (wpAny_comprehension_free (use:=some (assign (.Name y py) X.env)) (Q:=fun _ s'=>SP X pins D .next s') rfl hs S.clos S.kind hnm (thn (hi pins s σ H _ I h) fun v s1 h1=>thn h1 fun itv s2 h2=>?_)) (fun _ s' hq=>wpAny_pure (wpAny_pure hq)))
  obtain ⟨it,fp,tn,J,H2,e,I2,T,st2,f2,W,⟨m0,w0⟩,turn⟩:=h2
  subst e
  refine wpAny_newObj_type (qrh ?_)
  dsimp only
  generalize eh0:s2.heap.push { cls :=.type "list",data :=.seq #[] }=h3
  have hns₁:(pushCells (h3.push { cls :=.type "dict",data :=.dict #[] }) scope.names).Ns h3.objs.size (fun _=>none):=(Heap.Ns.new h3 (.type "dict")).keeps (pushCells_keeps _ _)
  have hkp : ∀ b o,h3.get? b=some o→(pushCells (h3.push { cls :=.type "dict",data :=.dict #[] }) scope.names).get? b=some o:=fun b o q=>pushCells_keeps _ _ b o (Heap.get?_push_of_some _ q)
  have hcl₁ : ∀ x c,(qjm scope X.env (h3.objs.size+1)).lookup x=some c→(clOf scope X.env).lookup x=some c∨(pushCells (h3.push { cls :=.type "dict",data :=.dict #[] }) scope.names).IsCell c none:=fun x c q=>by
   refine qnf (h:=h3.push { cls :=.type "dict",data :=.dict #[] }) ?_
   rw [Heap.size_push];exact q
  generalize pushCells (h3.push { cls :=.type "dict",data :=.dict #[] }) scope.names=h₁ at hns₁ hkp hcl₁ ⊢
  obtain ⟨s3,hs3⟩ : ∃ s3:Shared,s3={ s2 with heap:=h3 }:=⟨_,rfl⟩
  have e3:h3=s3.heap:=by rw [hs3]
  subst e3
  have eh:s3.heap=s2.heap.push { cls :=.type "list",data :=.seq ([]:List Value).toArray }:=eh0.symm
  have hC:s3.heap.objs.size=s2.heap.objs.size+1:=by rw [eh,Heap.size_push]
  have hDlt:s2.heap.objs.size<s3.heap.objs.size:=by omega
  have k23 : ∀ b o,s2.heap.get? b=some o→s3.heap.get? b=some o:=fun b o q=>by rw [eh];exact Heap.get?_push_of_some _ q
  have hD3:s3.heap.get? s2.heap.objs.size=some { cls :=.type "list",data :=.seq ([]:List Value).toArray }:=by rw [eh];exact Heap.get?_push_size _ rfl
  have I3:Inv X pins σ H2 s3:=by rw [hs3];exact I2.kept (t':=s2.toks) k23
  have k34 : ∀ b o,s3.heap.get? b=some o→h₁.get? b=some o:=hkp
  have fpl : ∀ b ∈ fp,b<s2.heap.objs.size:=fun b hb=>by
   obtain ⟨o,q,_⟩:=T.obj 0 _ st2 b hb
   exact Heap.lt_size q
  have cel : ∀ x c,X.env.cells.lookup x=some c→c<s2.heap.objs.size:=fun x c q=>by
   obtain ⟨v,o,z,_⟩:=I2.cell x c q
   exact Heap.lt_size z
  have ncl : ∀ x c,(qjm scope X.env (s3.heap.objs.size+1)).lookup x=some c→X.env.cells.lookup x=some c∨s3.heap.objs.size<c:=fun x c q=>(S.look q).elim (fun z => .inr z.1) .inl
  have pnl : ∀ p ∈ X.pn++pins,p.1<s2.heap.objs.size:=fun p hp=>Heap.lt_size (I2.pin p hp).1
  have hDn:H2 s2.heap.objs.size=none:=I2.hok.fresh (Nat.le_refl _)
  have ok:(blk X pins scope (caps++own) s3 H2 (s2.heap.objs.size::fp)).Ok:=by
   refine ⟨I2.mod,S.kind,I2.ok.glob,I2.ok.blt,Nat.le_refl _,fun x y c h1 h2=>?_,fun x hx=>S.has _ hx,fun x c hf q=>?_,I2.ok.hd,I2.ok.frames,.inl rfl,fun b hb=>?_,I3.bs,?_,fun b o q hb=>?_,fun b hb=>?_,I3.stack,I3.stkFree⟩
   ·rcases ncl x c h1 with q1|q1
    ·rcases ncl y c h2 with q2|q2
     ·exact I2.ok.inj x y c q1 q2
     ·exact absurd (Nat.lt_trans (cel x c q1) hDlt) (Nat.not_lt.mpr (Nat.le_of_lt q2))
    ·exact qtd (n:=s3.heap.objs.size+1) (acc:=clOf scope X.env) (fun z a q=>Nat.lt_succ_of_lt (Nat.lt_trans (cel z a (S.sub q)) hDlt)) q1 h1 h2
   ·exact Nat.le_trans (Nat.le_succ _) (qkx (lo:=s3.heap.objs.size+1) (Nat.le_refl _) (.inl (qdp (beq_iff_eq.mp hf))) q)
   ·have hb':b=s2.heap.objs.size∨b ∈ fp:=List.mem_cons.mp hb
    rcases hb' with rfl|hb'
    ·exact ⟨Nat.ne_of_lt hDlt,fun x c q=>(ncl x c q).elim (fun z=>Nat.ne_of_lt (cel x c z)) fun z=>Nat.ne_of_gt (Nat.lt_trans hDlt z)⟩
    ·exact ⟨Nat.ne_of_lt (Nat.lt_trans (fpl b hb') hDlt),fun x c q=>(ncl x c q).elim (fun z=>(f2 b hb').2.2.2.2.1 x c z) fun z=>Nat.ne_of_gt (Nat.lt_trans (fpl b hb') (Nat.lt_trans hDlt z))⟩
   ·exact Nat.le_trans I2.ok.bsz I3.sz
   ·have hlt:b<X.base.objs.size:=Heap.lt_size q
    have hb':b=s2.heap.objs.size∨b ∈ fp:=List.mem_cons.mp hb
    have h1:=I2.ok.bsz
    have h2:=I2.sz
    rcases hb' with rfl|hb'
    ·exact absurd hlt (Nat.not_lt.mpr (Nat.le_trans h1 h2))
    ·rcases (f2 b hb').2.2.2.1 with z|z
     ·exact I2.ok.noex b o q z
     ·exact absurd hlt (Nat.not_lt.mpr (Nat.le_trans h1 z))
   ·have hb':b=s2.heap.objs.size∨b ∈ fp:=List.mem_cons.mp hb
    intro z
    have z':=I2.stkSub b z
    rcases hb' with rfl|hb'
    ·rcases List.mem_cons.mp z' with z'|z'
     ·exact Nat.ne_of_gt I2.lt z'
     ·exact I2.nofs (Nat.le_refl _) z'
    ·rcases List.mem_cons.mp z' with z'|z'
     ·exact (f2 b hb').2.1 z'
     ·exact (f2 b hb').2.2.1 z'
  have len0:(qjp ix own.length σ).length=(caps++own).length:=by unfold qjp;simp [hix]
  have I4:Inv (blk X pins scope (caps++own) s3 H2 (s2.heap.objs.size::fp)) [] (qjp ix own.length σ) H2 { s2 with heap:=h₁ }:=by
   obtain ⟨mX,nsX,lkX⟩:=I3.loc
   refine ⟨ok,(by show s2.os=s3.os;rw [hs3]),I2.bare,Un.kept k34,⟨_,hns₁,fun j x v h1 h2 h3=>?_⟩,fun x c q=>?_,I3.hok.fresh (Nat.le_refl _),fun x c q=>(ncl x c q).elim (fun z=>I3.freeC x c z) fun z=>I3.hok.fresh (Nat.le_of_lt z),fun p hp=>?_,I3.hok.kept k34,len0⟩
   ·-- a captured name
    have hj:j<ix.length:=by
     unfold qjp at h2
     by_cases hj:j<ix.length
     ·exact hj
     ·rw [List.getElem?_append_right (by simpa using hj),List.getElem?_replicate] at h2
      split at h2 <;> cases h2
    have h1':caps[j]?=some x:=by
     have:(caps++own)[j]?=some x:=h1
     rwa [List.getElem?_append_left (by omega)] at this
    have hij:ix[j]?=some ix[j]:=List.getElem?_eq_getElem hj
    have hv:σ[ix[j]]?=some (some v):=by
     unfold qjp at h2
     rw [List.getElem?_append_left (by simpa using hj),List.getElem?_map,hij] at h2
     have h2':(σ[ix[j]]?).join=some v:=by simpa using h2
     cases q:σ[ix[j]]? with
     | none=>rw [q] at h2';cases h2'
     | some o=>rw [q] at h2';cases o with
      | none=>cases h2'
      | some y=>have:y=v:=by simpa using h2'
                rw [this]
    have hk:=List.all_eq_true.mp S.cap x (List.mem_of_getElem? h1')
    obtain ⟨k1,k2⟩:=Bool.and_eq_true_iff.mp hk
    have k1':scope.names.lookup x=some .free:=by simpa using k1
    have k2':X.env.scope.names.lookup x=some .cell∨X.env.scope.names.lookup x=some .free:=by simpa using k2
    obtain ⟨u,ru,lk⟩:=lkX ix[j] x v (hcap j x _ h1' hij) hv (k2'.elim (fun z => .inr (.inl z)) (fun z => .inr (.inr z)))
    refine ⟨u,ru,?_⟩
    have hrel:(relabel scope X.env).names.lookup x=some .cell∨(relabel scope X.env).names.lookup x=some .free:=by
     rcases h3 with h3|h3|h3
     ·have h3':(relabel scope X.env).names.lookup x=some NameKind.local:=h3
      obtain ⟨k',m1,m2⟩:=qfm h3'
      rcases m2 with rfl|⟨_,m2⟩
      ·have:=hnm _ m1 rfl
       rw [k1'] at this;cases this
      ·cases m2
     ·exact .inl h3
     ·exact .inr h3
    have hxc:(x,NameKind.cell) ∉ scope.names:=fun z=>by
     have:=S.isC z
     rw [k1'] at this;cases this
    obtain ⟨c,hcl⟩:=S.hasF (qdp k1')
    have hcl':(qjm scope X.env (s3.heap.objs.size+1)).lookup x=some c:=(qtm hxc).trans hcl
    rcases lk with ⟨kl,_⟩|⟨_,c',ec,ic⟩
    ·have kl':X.env.scope.names.lookup x=some .local:=kl
     rcases k2' with z|z <;> (rw [kl'] at z;cases z)
    ·have:=S.sub hcl
     have ee:c'=c:=by rw [ec] at this;exact Option.some.inj this
     exact .inr ⟨hrel,c,hcl',ee ▸ ic.keeps k34⟩
   ·rcases hcl₁ x c q with z|z
    ·obtain ⟨v,ic⟩:=I3.cell x c (S.sub z)
     exact ⟨v,ic.keeps k34⟩
    ·exact ⟨_,z⟩
   ·have hp':p ∈ X.pn++pins:=by simpa [blk] using hp
    obtain ⟨q1,q2,q3,q4,q5⟩:=I3.pin p hp'
    refine ⟨k34 _ _ q1,q2,Nat.ne_of_lt (Nat.lt_trans (pnl p hp') hDlt),fun z=>?_,q5⟩
    rcases List.mem_cons.mp (I3.stkSub p.1 z) with z'|z'
    ·exact q3 z'
    ·exact q4 z'
  have hD4:h₁.get? s2.heap.objs.size=some { cls :=.type "list",data :=.seq ([]:List Value).toArray }:=k34 _ _ hD3
  have st4:tn 0 h₁:=T.keep _ _ _ st2 fun b _ o q=>k34 b o (k23 b o q)
  have fpk : ∀ {H':Hp}{ob:Obj},(∀ b ∈ fp,H' b=none) → ∀ b ∈ fp,qyl (blk X pins scope (caps++own) s3 H2 (s2.heap.objs.size::fp)) [(s2.heap.objs.size,ob)] H' b:=fun {H' ob} hn b hb=>by
   obtain ⟨_,a1,a2,a3,a4,a5⟩:=f2 b hb
   refine ⟨hn b hb,Nat.ne_of_lt (Nat.lt_trans (fpl b hb) hDlt),fun z=>?_,.inl (List.mem_cons_of_mem _ hb),fun x c q=>(ncl x c q).elim (fun z=>a4 x c z) fun z=>Nat.ne_of_gt (Nat.lt_trans (fpl b hb) (Nat.lt_trans hDlt z)),fun p hp=>?_⟩
   ·rcases List.mem_cons.mp (I2.stkSub b z) with z'|z'
    ·exact a1 z'
    ·exact a2 z'
   ·have hp':p ∈ X.pn++pins∨p=(s2.heap.objs.size,ob):=by simpa [blk,or_assoc] using hp
    rcases hp' with hp'|rfl
    ·exact a5 p hp'
    ·exact Nat.ne_of_gt (fpl b hb)
  have loop : ∀ s5:Shared,s5=({ s2 with heap:=h₁ }:Shared) →
   codeAny (model X.prog X.w) X.A (.compLoop (.ListComp elt [⟨target,iter,[cnd],0⟩] scope pos) 0 (.ref it) (.ref s2.heap.objs.size) (compEnvC scope (qjm scope X.env (s3.heap.objs.size+1)) s3.heap.objs.size X.env))
    (compPost (model X.prog X.w) X.A X.xe (some (assign (.Name y py) X.env)) (fun _ s'=>SP X pins D .next s') (.ref s2.heap.objs.size) s3.heap.objs.size) s5:=by
   rintro s5 rfl
   refine qea (fun n s' => ∃ i ys its cp σ' H',Inv (blk X pins scope (caps++own) s3 H2 (s2.heap.objs.size::fp)) [] σ' H' s'∧tn i s'.heap∧(∀ b ∈ fp,H' b=none)∧H' s2.heap.objs.size=none ∧
    s'.heap.get? s2.heap.objs.size=some { cls :=.type "list",data :=.seq (its:List Value).toArray cp }∧Vals ys its∧W i n ys σ' H') ?_ m0 ⟨0,[],[],_,_,H2,I4,st4,fun b hb=>(f2 b hb).1,hDn,hD4,.nil,w0⟩
   rintro n s5 ⟨i,ys,its,cp,σ5,H5,I5,st5,fr5,hD5,gD5,rv5,w5⟩
   have Dfs:s2.heap.objs.size ∉ (blk X pins scope (caps++own) s3 H2 (s2.heap.objs.size::fp)).fs:=fun z=>by
    rcases List.mem_cons.mp (I2.stkSub _ z) with z'|z'
    ·exact Nat.ne_of_gt I2.lt z'
    ·exact I2.nofs (Nat.le_refl _) z'
   have I5':Inv (blk X pins scope (caps++own) s3 H2 (s2.heap.objs.size::fp)) [(s2.heap.objs.size,{ cls :=.type "list",data :=.seq its.toArray cp })] σ5 H5 s5:=by
    refine I5.pins_of fun p hp=>?_
    have hp':p ∈ (blk X pins scope (caps++own) s3 H2 (s2.heap.objs.size::fp)).pn++[]∨p=(s2.heap.objs.size,{ cls :=.type "list",data :=.seq its.toArray cp }):=by
     first
      | exact .inr (List.mem_singleton.mp hp)
      | (rcases List.mem_append.mp hp with z|z
         ·exact .inl (List.mem_append_left _ z)
         ·exact .inr (List.mem_singleton.mp z))
    rcases hp' with z|rfl
    ·exact I5.pin p z
    ·exact ⟨gD5,hD5,Nat.ne_of_lt hDlt,Dfs,fun v z=>by cases z⟩
   rcases turn i n ys σ5 H5 w5 with ⟨stop,hz,qn⟩|⟨go,hz,N,N0,hN,hN0,step⟩
   ·refine thn (T.done (blk X pins scope (caps++own) s3 H2 (s2.heap.objs.size::fp)) rfl rfl rfl hc i _ s5 σ5 H5 _ I5' (fpk fr5) st5 stop) fun r s6 ⟨hr,I6⟩=>?_
    subst hr
    obtain ⟨m6,ns6,_⟩:=id I6.loc
    have gD6:=(I6.pin _ (List.mem_append_right _ (List.mem_singleton.mpr rfl))).1
    have kC : ∀ b o,b≠s3.heap.objs.size→s6.heap.get? b=some o→s6.heap.get? b=some o:=fun b o _ q=>q
    have bne : ∀ b o,s2.heap.get? b=some o→b≠s3.heap.objs.size:=fun b o q=>Nat.ne_of_lt (Nat.lt_trans (Heap.lt_size q) hDlt)
    have bnD : ∀ b o,s2.heap.get? b=some o→b≠s2.heap.objs.size:=fun b o q=>Nat.ne_of_lt (Heap.lt_size q)
    have nC : ∀ b u,H5 b=some u→b≠s3.heap.objs.size:=fun b u q z=>by
     have z1:H5 s3.heap.objs.size=none:=I6.free
     rw [z,z1] at q;cases q
    have U:=I6.base
    have IX:Inv X pins σ (upd H5 s2.heap.objs.size (.lst ys)) s6:=by
     refine I2.call' (ch:=s2.heap.objs.size::fp) ?_ ?_ ?_ I6.bare ?_
     ·show s6.os=s2.os
      rw [I6.os];show s3.os=s2.os;rw [hs3]
     ·refine ⟨fun b o q n hb hx=>kC b o (bne b o q) (U.keep b o (k23 b o q) n hb hx),fun b o q n hb hx=>?_,fun b o q n hx=>?_,fun b o q hx=>?_,fun b xs q=>?_,fun b o u q=>?_,fun b ps q=>?_⟩
      ·obtain ⟨sl,z⟩:=U.slot b o (k23 b o q) n hb hx
       exact ⟨sl,kC b _ (bne b o q) z⟩
      ·rw [qk (bnD b o q)];exact U.free b o (k23 b o q) n hx
      ·obtain ⟨o',z⟩:=U.there b o (k23 b o q) hx
       exact ⟨o',kC b _ (bne b o q) z⟩
      ·have:=U.tups b xs q
       rw [qk (ql this hD5)];exact this
      ·have:=U.frzs b o u q
       rw [qk (ql this hD5)];exact this
      ·obtain ⟨more,z⟩:=U.tbls b ps q
       exact ⟨more,by rw [qk (ql z hD5)];exact z⟩
     ·intro b u q
      by_cases hb:b=s2.heap.objs.size
      ·subst hb
       rw [qp] at q
       cases q
       exact ⟨hz,its,cp,rv5,kC _ _ (Nat.ne_of_lt hDlt) gD6⟩
      ·rw [qk hb] at q
       refine (I6.hok b u q).stay (fun c ob hc z=>kC c ob ?_ z) (fun c z=>by rw [qk (ql z hD5)];exact z) fun c xs z=>by rw [qk (ql z hD5)];exact z
       rcases hc with hc|hc
       ·rw [hc];exact nC b u q
       ·exact nC c _ hc
     ·intro b hb
      have hb':b=s2.heap.objs.size∨b ∈ fp:=List.mem_cons.mp hb
      rcases hb' with rfl|hb'
      ·exact ⟨.inr I2.sz,Nat.ne_of_gt I2.lt,fun x c q=>Nat.ne_of_lt (cel x c q),fun p hp=>Nat.ne_of_lt (pnl p hp)⟩
      ·obtain ⟨_,a1,_,a3,a4,a5⟩:=f2 b hb'
       exact ⟨a3,a1,a4,a5⟩
    obtain ⟨oC,esC,epC,hoC,hdC,rC⟩:=id ns6
    have hCH:(upd H5 s2.heap.objs.size (.lst ys)) s3.heap.objs.size=none:=by
     rw [qk (Nat.ne_of_gt hDlt)];exact I6.free
    have hCl:s3.heap.objs.size≠X.env.locals:=Nat.ne_of_gt (Nat.lt_trans I2.lt hDlt)
    have hCf:s3.heap.objs.size ∉ X.fs:=I2.nofs (Nat.le_of_lt hDlt)
    have IX':Inv X (pins++[(s3.heap.objs.size,oC)]) σ (upd H5 s2.heap.objs.size (.lst ys)) s6:=IX.pins_of fun p hp=>by
     rcases List.mem_append.mp hp with z|z
     ·exact IX.pin p (List.mem_append_right _ z)
     ·rw [List.mem_singleton.mp z]
      exact ⟨hoC,hCH,hCl,hCf,fun v q=>by rw [hdC] at q;cases q⟩
    show wpAny _ _ (assign (.Name y py) X.env (.ref s2.heap.objs.size)) _ _ _
    refine wpAny_assign_Name (qgc IX' hN hiy (Or.inl hy) (v :=.ref s2.heap.objs.size) rfl (fun s7 I7=>?_) (.inr hy))
    have gC:s7.heap.get? s3.heap.objs.size=some oC:=(I7.pin (s3.heap.objs.size,oC) (List.mem_append_right _ (List.mem_append_right _ (List.mem_singleton.mpr rfl)))).1
    refine ⟨m6,⟨oC,esC,epC,gC,hdC,rC⟩,fun h' sb=>?_⟩
    have I8:=I7.unpinned
    refine ⟨_,_,I8.turned (t':=s7.toks) (it:=s3.heap.objs.size) (fun b o hb q=>sb.extBut b o hb q) hCH hCl (.inr (Nat.le_trans I2.sz (Nat.le_of_lt hDlt))) (fun x c q=>Nat.ne_of_lt (Nat.lt_trans (cel x c q) hDlt)) (fun p hp=>Nat.ne_of_lt (Nat.lt_trans (pnl p hp) hDlt)),qn _ hD5⟩
   ·refine thn (T.item (blk X pins scope (caps++own) s3 H2 (s2.heap.objs.size::fp)) rfl rfl rfl hc i _ s5 σ5 H5 _ I5' (fpk fr5) st5 go) fun r s6 ⟨u,hr,h6⟩=>?_
    subst hr
    refine thn h6 fun _ s7 xx165=>?_
    obtain ⟨x,H7,I7,r7,y7,st7,fr7⟩:=xx165
    have I7':=I7.pinned (fpk fr7) (T.obj _ _ st7)
    refine wpAny_mono (hg pins s3 H2 _ _ s7 σ5 H7 x u _ I7' r7 (step x H7 y7)) (fun _ s8 xx164=>?_) fun _ _ z=>z.elim
    obtain ⟨σ8,H8,I8,q8⟩:=xx164
    refine wpAny_mono (ht pins s3 H2 _ _ s8 σ8 H8 _ I8 q8) (fun bt s8' xx163=>?_) fun _ _ z=>z.elim
    obtain ⟨H8',I8',q8'⟩:=xx163
    cases bt with
    | false =>
     have q9:N0 σ8 H8':=q8'
     obtain ⟨m',hm',w9⟩:=hN0 σ8 H8' q9
     have gD9:=(I8'.pin (s2.heap.objs.size,{ cls :=.type "list",data :=.seq its.toArray cp }) (List.mem_append_right _ (List.mem_append_left _ (List.mem_singleton.mpr rfl))))
     have pin8 : ∀ b ∈ fp,∀ o,s7.heap.get? b=some o→s8'.heap.get? b=some o∧H8' b=none:=fun b hb o q=>by
      have z:=I8'.pin (b,o) (List.mem_append_right _ (List.mem_append_right _ (qdh hb q)))
      exact ⟨z.1,z.2.1⟩
     refine ⟨m',hm',i+1,ys,its,cp,σ8,H8',?_,?_,fun b hb=>?_,gD9.2.1,gD9.1,rv5,w9⟩
     ·exact (I8'.pins_of (pins':=[]) (fun p hp=>by
       first
        | exact absurd hp (by simp)
        | (rw [List.append_nil] at hp;exact I8'.pin p (List.mem_append_left _ hp))))
     ·exact T.keep _ _ _ st7 fun b hb o q=>(pin8 b hb o q).1
     ·obtain ⟨o,q,_⟩:=T.obj _ _ st7 b hb
      exact (pin8 b hb o q).2
    | true =>
     refine wpAny_mono (he pins s3 H2 _ _ s8' σ8 H8' _ I8' q8') (fun uy s9 xx162=>?_) fun _ _ z=>z.elim
     obtain ⟨y,H9,I9,r9,n9⟩:=xx162
     obtain ⟨m',hm',w9⟩:=hN y σ8 H9 n9
     have gD9:=(I9.pin (s2.heap.objs.size,{ cls :=.type "list",data :=.seq its.toArray cp }) (List.mem_append_right _ (List.mem_append_left _ (List.mem_singleton.mpr rfl))))
     have pin9 : ∀ b ∈ fp,∀ o,s7.heap.get? b=some o→s9.heap.get? b=some o∧H9 b=none:=fun b hb o q=>by
      have z:=I9.pin (b,o) (List.mem_append_right _ (List.mem_append_right _ (qdh hb q)))
      exact ⟨z.1,z.2.1⟩
     have hl9:=rv5.length
     refine call_meets PySem.F.slot_list_append ⟨_,gD9.1,rfl⟩ PySem.F.entry_list_append (PySem.F.args_list_append_2 _ _) (PySem.list_append s2.heap.objs.size its.toArray cp uy (by rw [List.size_toArray];omega)) ⟨gD9.1,?_⟩
     have qD:=PySem.IsL.update gD9.1 (fun xs=>xs.push uy)
     have ep:its.toArray.push uy=(its++[uy]).toArray:=by simp
     rw [ep] at qD
     have up : ∀ b o,b≠s2.heap.objs.size→s9.heap.get? b=some o→(s9.heap.update s2.heap.objs.size (Obj.mapSeq fun xs=>xs.push uy)).get? b=some o:=fun b o hb q=>(Heap.get?_update_other s9.heap _ (Ne.symm hb)).trans q
     refine ⟨m',hm',i+1,ys++[y],its++[uy],_,σ8,H9,?_,?_,fun b hb=>?_,gD9.2.1,qD,rv5.append (.cons r9 .nil),w9⟩
     ·refine (I9.pins_of (pins':=[]) (fun p hp=>by
       first
        | exact absurd hp (by simp)
        | (rw [List.append_nil] at hp;exact I9.pin p (List.mem_append_left _ hp)))).turned (it:=s2.heap.objs.size) up gD9.2.1 (Nat.ne_of_lt hDlt) (.inl (List.mem_cons_self ..)) (fun x c q=>(ncl x c q).elim (fun z=>Nat.ne_of_lt (cel x c z)) fun z=>Nat.ne_of_gt (Nat.lt_trans hDlt z)) fun p hp=>?_
      have hp':p ∈ X.pn++pins:=by simpa [blk] using hp
      exact Nat.ne_of_lt (pnl p hp')
     ·exact T.keep _ _ _ st7 fun b hb o q=>up b o (Nat.ne_of_lt (fpl b hb)) (pin9 b hb o q).1
     ·obtain ⟨o,q,_⟩:=T.obj _ _ st7 b hb
      exact (pin9 b hb o q).2
  exact codeAny_compStart_list (loop _ rfl) (T.self _ 0 _ _ _ st4 (loop _ rfl))
end
section
variable {K:PySem.W.Frag}{ix:List Nat}{n:Nat}{Wi:WF}{G:WG}{Wt:WT}{We:WE}{σ:St}{H:Hp}{R:VK}
theorem qlo (h:qqb K (qnq ix n Wi G Wt We) σ H R):qse ix n (qkl K Wi) (qih K G) (qng K Wt) (qcc K We) σ H R:=by
 obtain ⟨M,env,F,Q,I,h,k⟩:=h
 refine ⟨M,env,F,_,I,h,fun ds J F1 H1 e1 I1 s1 jt xx170=>?_⟩
 obtain ⟨hz,P,p0,turn,fin⟩:=xx170
 refine ⟨fun i m ys σ1 H'=>m=ds.length-i∧i≤ds.length ∧ ∃ e' F' l,EnvOk K ⟨H1,H1,F1⟩ F' H' e' σ1∧Iss K F' l ys∧ys.length≤i∧P i l e',⟨ds.length,by simp,Nat.zero_le _,qqs ix n e1,F1,[],I1.cap ix n,qO,Nat.le_refl _,p0⟩,?_⟩
 rintro i m ys σ1 H2 ⟨hm,hi,e2,F2,l,I2,i2,hl,p2⟩
 have g2:=I2.goOf
 by_cases he:i=ds.length
 ·subst he
  exact .inl ⟨jt.stop H2 (g2.f.trans g2.fh),by omega,qhb (I1.go g2) (s1.trans g2.f) i2 (fin l e2 p2) k⟩
 ·have hlt:i<ds.length:=by omega
  refine .inr ⟨jt.go i H2 (g2.f.trans g2.fh) hlt,by omega,fun y σ' H' => ∃ e' F' l',EnvOk K ⟨H1,H1,F1⟩ F' H' e' σ'∧Iss K F' l' (ys++[y])∧P (i+1) l' e',fun σ' H' => ∃ e' F' l',EnvOk K ⟨H1,H1,F1⟩ F' H' e' σ'∧Iss K F' l' ys∧P (i+1) l' e',
   fun y σ' H' xx169=>by obtain ⟨e',F',l',I',i',p'⟩:=xx169;exact ⟨ds.length-(i+1),by omega,rfl,hlt,e',F',l',I',i',by simp;omega,p'⟩,fun σ' H' xx168=>by obtain ⟨e',F',l',I',i',p'⟩:=xx168;exact ⟨ds.length-(i+1),by omega,rfl,hlt,e',F',l',I',i',by omega,p'⟩,fun x H3 hy=>?_⟩
  obtain ⟨d,F3,hd,g,j⟩:=jt.yld i H2 x H3 F2 g2.f g2.fh hlt hy
  refine ⟨_,e2,F3,d,_,I2.go g,j,turn i d l e2 hd p2,fun F4 H4 e4 σ4 I4 s4 h4=>⟨_,e4,F4,_,I4,h4,fun b F5 H5 e5 I5 s5 h5=>?_⟩⟩
  cases b with
  | true =>
   rw [if_pos rfl] at h5
   refine ⟨_,e5,F5,_,I5,h5,fun d6 v6 F6 H6 e6 I6 s6 i6 h6=>?_⟩
   exact ⟨e6,F6,l++[d6],I6,qX (((i2.mono (g.f.trans s4)).mono s5).mono s6) (qy i6 qO),h6⟩
  | false =>
   rw [if_neg Bool.false_ne_true] at h5
   exact ⟨e5,F5,l,I5,(i2.mono (g.f.trans s4)).mono s5,h5⟩
end
section
variable {X:Cx}{elt target iter cnd:Expr}{scope:Scope}{pos py spos:Pos}{caps own:List Str}{ix:List Nat}{Wi:WF}{G:WG}{Wt:WT}{We:WE}{i:Nat}{y:Str}
theorem qqw (hN:X.N.Nodup) (hc:X.calm=true) (S:CompScope X.env scope caps) (hi:VI X target iter Wi) (hg : ∀ pins s3 H ex,VG (blk X pins scope (caps++own) s3 H ex) target G) (ht : ∀ pins s3 H ex,VT (blk X pins scope (caps++own) s3 H ex) cnd Wt) (he : ∀ pins s3 H ex,VE (blk X pins scope (caps++own) s3 H ex) elt We)
 (hiy:X.N[i]?=some y:=by rfl) (hy:X.env.scope.names.lookup y=some .local:=by rfl) (hsw:swapsWith (.ListComp elt [⟨target,iter,[cnd],0⟩] scope pos) (some (.Name y py)) spos.line X.env=pure true:=by rfl)
  (hix:caps.length=ix.length:=by rfl) (hcapB:(caps.zip ix).all (fun p=>X.N[p.2]?==some p.1)=true:=by rfl) (hs : ∀ x,foldedSetIterable iter X.env x=pure x:=by intro _;rfl) :
  VS X (.Assign [.Name y py] (.ListComp elt [⟨target,iter,[cnd],0⟩] scope pos) spos) (wSet i (wL (qnq ix own.length Wi G Wt We))) :=
  (qrk (wi:=qkl X.K Wi) (g:=qih X.K G) (tt:=qng X.K Wt) (te:=qcc X.K We) hN hiy hy hsw hc S hi hg he ht hix hcapB hs).imp fun D σ H ⟨M,env,F,DD,I,h,k⟩=>qlo ⟨M,env,F,_,I,h,fun a vs ds F1 H1 e1 I1 s1 h1 h2 h3 h4 h5 h6 h7=>by
   obtain ⟨J,s⟩:=I1.frz h1 h2 h4 h5
   exact k.nx _ _ H1 _ (J.setv (qcq (SqL.of qp) (h6.mono s))) (s1.trans s) h7⟩
end
end L2
namespace L2
open PySem PySem.Spec PyProof.Rows
section
variable {κ:Type} [DecidableEq κ]
end
section
variable {P:Program}{w:World}{H:Hp}{h:Heap}{a:Addr}
end
section
variable {X:Cx}{pins:List (Addr×Obj)}{σ:St}{H:Hp}{s:Shared}{a:Addr}{y v:V}{u r:Value}{o:Option V}{A:Around}{E:Value→Shared→Prop}
end
section
variable {X:Cx}{pins:List (Addr×Obj)}{σ:St}{H:Hp}{s:Shared}{a:Addr}{kvs:List (Key×V)}{k:Key}{u:Value}{A:Around}{E:Value→Shared→Prop}
end
section
variable {X:Cx}{o i e value:Expr}{pos pos' tpos:Pos}{td ty tv:TE}
end
section
variable {X:Cx}{pos:Pos}
end
end L2
namespace L2
open PySem PySem.Spec PyProof.Rows
section
variable {X:Cx}
end
end L2
namespace L2
open PySem PySem.Spec PyProof.Rows
abbrev DO:=List Str→List (Str×PyData)→List PyData→(PyData→Prop)→Prop
abbrev DOF:=List Str→List (Str×PyData)→List PyData→(List PyData→Prop)→Prop
def Flds (K:PySem.W.Frag) (F:Hp) (us:List (Str×V)) (nm:List Str) (fs:List (Str×PyData)):Prop:=us.map (·.1)=nm ∧ ∀ f d,(f,d) ∈ fs → ∃ v,us.lookup f=some v∧Is K F d v
def OSp (K:PySem.W.Frag) (C:Addr) (sp:DO):Sp:=fun vs H Q _ => ∃ a dx us rest F nm fs ds q,vs = .ref a::rest∧H a=some (.ins C dx us)∧Same F H∧Flds K F us nm fs∧Iss K F ds rest∧sp nm fs ds q ∧
 ∀ d v F' H',Go F H F' H'→Is K F' d v→q d→Q v H'
def OFSp (K:PySem.W.Frag) (C:Addr) (sp:DOF):Sp:=fun vs H Q _ => ∃ a dx us rest F nm fs ds q,vs = .ref a::rest∧H a=some (.ins C dx us)∧Same F H∧Flds K F us nm fs∧Iss K F ds rest∧sp nm fs ds q ∧
 ∀ l b xs F' H',Go F H F' H'→H b=none→F' b=none→H' b=some (.lst xs)→Iss K F' l xs→q l→Q (.ref b) H'
structure OkM (P:Program) (w:World) (K:PySem.W.Frag) (mg:Str→Option Value) (base:Heap) (C:Addr) (m:Str) (k:Nat) (ps:List Str) (sp:Sp):Prop where
 ex : ∃ (f:Addr) (fd:FuncData),FnOk P w K mg base CX0 k f fd ps sp∧Meth K C m f∧Binds K fd ps []
structure MDef (K:PySem.W.Frag) (C:Addr) (m qual:Str) (st:Stmt) (ps:List Str):Prop where
 ex : ∃ (f:Addr) (fd:FuncData),Fun K m qual st f fd∧Meth K C m f∧Binds K fd ps []
theorem qae {α:Type} : ∀ {l:List (Str×α)}{f:Str}{d:α},l.lookup f=some d→(f,d) ∈ l
 | (g,e)::l,f,d,h=>by
  rw [List.lookup_cons] at h
  cases q:f==g with
  | true =>
   rw [q] at h
   have e1:f=g:=beq_iff_eq.mp q
   have e2:e=d:=Option.some.inj h
   subst e1 e2;simp
  | false =>
   rw [q] at h
   exact List.mem_cons_of_mem _ (qae h)
theorem qjv {α:Type} : ∀ {l:List (Str×α)}{nm:List Str}{f:Str},l.map (·.1)=nm→nm.contains f=false→l.lookup f=none
 | [],_,f,_,_=>rfl
 | (g,e)::l,nm,f,h,q=>by
  subst h
  rw [List.map_cons,List.contains_cons,Bool.or_eq_false_iff] at q
  rw [List.lookup_cons]
  have q1:(f==g)=false:=q.1
  rw [q1]
  exact qjv rfl q.2
section
variable {P:Program}{w:World}{K:PySem.W.Frag}{mg:Str→Option Value}{base:Heap}
def qpq (N:List Str) (a C:Addr) (nm:List Str) (fs:List (Str×PyData)) (ds:List PyData):Sto:=(qbh N (.none::ds)).set 0 (.obj a C nm fs)
theorem qgl {F H:Hp}{N:List Str}{C:Addr}{nm:List Str}{fs:List (Str×PyData)}{us:List (Str×V)}{a dx:Addr}{ds:List PyData}{rest:List V} (s:Same F H) (ha:H a=some (.ins C dx us)) (hf:Flds K F us nm fs) (i:Iss K F ds rest) :
 EnvOk K ⟨H,H,F⟩ F H (qpq N a C nm fs ds) (start N (.ref a::rest)):=by
  have I:=qfd (K:=K) (N:=N) s (qy qpa i)
  have e:start N (.ref a::rest)=(start N (.non::rest)).set 0 (some (.ref a)):=rfl
  rw [e]
  exact I.sets (i:=0) (s :=.obj a C nm fs) rfl ⟨dx,us,rfl,ha,hf.1,hf.2⟩
theorem MDef.vok {C:Addr}{m qual:Str}{st:Stmt}{N ps:List Str}{k:Nat}{sp:DO} (F:MDef K C m qual st ps) (S:FnScope N ps (defScope st)) (len : ∀ nm fs ds q,sp nm fs ds q→ds.length+1=ps.length)
 (hbody : ∀ (f:Addr) (cdv:Value) (A:Around) (outer:List Env) (s:Shared) (H:Hp) (E:XK),Room k (A.deeper (envOfC qual (defScope st) s.heap.objs.size f cdv)) → ∀ a nm fs ds q,sp nm fs ds q →
 ∃ W,VSs (qqt CX0 P w K mg base N qual (defScope st) f cdv A outer s H E).nox (defBody st) W∧W { nx:=fun _=>q .none,rt:=fun r _=>q r.data } (qpq N a C nm fs ds)):OkM P w K mg base C m (k+1) ps (OSp K C sp):=by
  obtain ⟨f,fd,Fn,hm,hb⟩:=F.ex
  refine ⟨f,fd,Fn.ok S (fun vs H Q E xx173=>by obtain ⟨a,dx,us,rest,F,nm,fs,ds,q,e,_,_,_,i,h,_⟩:=xx173;rw [e,List.length_cons,i.len];exact len nm fs ds q h) fun cdv A outer s H vs Q E hr xx172=>?_,hm,hb⟩
  obtain ⟨a,dx,us,rest,F,nm,fs,ds,q,e,ha,sm,hf,i,h,kk⟩:=xx172
  subst e
  obtain ⟨W,hW,hq⟩:=hbody f cdv A outer s H E hr a nm fs ds q h
  refine ⟨_,hW,⟨H,H,F⟩,qpq N a C nm fs ds,F,_,qgl sm ha hf i,hq,⟨fun e1 F1 H1 σ1 I1 s1 q1=>kk _ _ F1 H1 I1.goOf qpa q1,fun r v e1 F1 H1 σ1 I1 s1 r1 q1=>?_,fun _ _ _ _ _ _ h=>h.elim,fun _ _ _ _ _ _ h=>h.elim⟩⟩
  obtain ⟨F2,g,j⟩:=r1.is I1
  exact kk _ _ F2 H1 g j q1
theorem MDef.vokF {C:Addr}{m qual:Str}{st:Stmt}{N ps:List Str}{k:Nat}{sp:DOF} (F:MDef K C m qual st ps) (S:FnScope N ps (defScope st)) (len : ∀ nm fs ds q,sp nm fs ds q→ds.length+1=ps.length)
 (hbody : ∀ (f:Addr) (cdv:Value) (A:Around) (outer:List Env) (s:Shared) (H:Hp) (E:XK),Room k (A.deeper (envOfC qual (defScope st) s.heap.objs.size f cdv)) → ∀ a nm fs ds q,sp nm fs ds q →
 ∃ W,VSs (qqt CX0 P w K mg base N qual (defScope st) f cdv A outer s H E).nox (defBody st) W∧W { nx:=fun _=>False,rt:=fun r _ => ∃ l,r = .own l∧q l } (qpq N a C nm fs ds)):OkM P w K mg base C m (k+1) ps (OFSp K C sp):=by
  obtain ⟨f,fd,Fn,hm,hb⟩:=F.ex
  refine ⟨f,fd,Fn.ok S (fun vs H Q E xx175=>by obtain ⟨a,dx,us,rest,F,nm,fs,ds,q,e,_,_,_,i,h,_⟩:=xx175;rw [e,List.length_cons,i.len];exact len nm fs ds q h) fun cdv A outer s H vs Q E hr xx174=>?_,hm,hb⟩
  obtain ⟨a,dx,us,rest,F,nm,fs,ds,q,e,ha,sm,hf,i,h,kk⟩:=xx174
  subst e
  obtain ⟨W,hW,hq⟩:=hbody f cdv A outer s H E hr a nm fs ds q h
  refine ⟨_,hW,⟨H,H,F⟩,qpq N a C nm fs ds,F,_,qgl sm ha hf i,hq,⟨fun e1 F1 H1 σ1 I1 s1 q1=>q1.elim,fun r v e1 F1 H1 σ1 I1 s1 r1 q1=>?_,fun _ _ _ _ _ _ h=>h.elim,fun _ _ _ _ _ _ h=>h.elim⟩⟩
  obtain ⟨l,rfl,q1⟩:=q1
  obtain ⟨b,xs,rfl,h1,h2,h3,h4,h5⟩:=r1
  exact kk l b xs F1 H1 I1.goOf h4 h2 h1 h5 q1
end
section
variable {X:Cx}
def wFld (C:Addr) (i:Nat) (f:Str):WE:=fun env Q=>match gS env i with | .obj _ C' _ fs=>C'=C ∧ ∃ d,fs.lookup f=some d∧Q d env|_=>False
theorem qcp (i:Nat) {C:Addr}{x f:Str}{px pos:Pos} (c:Cls X.K C) (n:NoAttr X.K C f) (hN:X.N[i]?=some x:=by rfl) (hv:Vis X.env.scope x:=by first|exact Or.inl rfl|exact Or.inr (Or.inl rfl)|exact Or.inr (Or.inr rfl)) (hd:(x==("__debug__" : Str))=false:=by decide)
 (hcd:(x==("__classdict__" : Str))=false:=by decide) (hb:attributeBase (.Name x px) f X.env (eval (.Name x px) X.env)=eval (.Name x px) X.env:=by rfl):VE X (.Attribute (.Name x px) f pos) (wFld C i f) :=
 (qto (qG hN hv hd hcd) hb).imp fun σ H R xx176=>by
  obtain ⟨M,env,F,Q,I,h,k⟩:=xx176
  have S:=I.slot i
  unfold wFld at h
  cases q:gS env i with
  | obj a C' nm0 fs =>
   rw [q] at S h
   obtain ⟨rfl,d,hl,h⟩:=h
   obtain ⟨dx,vs,e,hB,nm,hfs⟩:=S
   obtain ⟨v,l,j⟩:=hfs f d (qae hl)
   exact ⟨_,qbu e,a,C',dx,vs,v,rfl,I.bh _ _ hB,c,n,l,k d v F H env I (.refl _) j h⟩
  | non=>rw [q] at h;exact h.elim
  | val d=>rw [q] at h;exact h.elim
  | own ds=>rw [q] at h;exact h.elim
  | pen ds=>rw [q] at h;exact h.elim
  | new d=>rw [q] at h;exact h.elim
  | exc C=>rw [q] at h;exact h.elim
def zaeb (C:Addr) (i:Nat) (m:Str) (sp:DO) (Wr:WF):WE:=fun env Q=>match gS env i with
 | .obj _ C' nm fs=>C'=C∧nm.contains m=false∧Wr env fun ds e=>match gS e i with | .obj _ C2 nm2 fs2=>C2=C∧sp nm2 fs2 ds fun d=>Q d e|_=>False
 | _=>False
theorem qzi {C:Addr}{i:Nat}{m:Str}{sp:DO}{Wr:WF}{σ:St}{H:Hp}{R:VK} (h:qcc X.K (zaeb C i m sp Wr) σ H R):zaae C m (OSp X.K C sp) [] E0 (tVar i) (qib X.K Wr) σ H R:=by
 obtain ⟨M,env,F,Q,I,h,k⟩:=h
 have S:=I.slot i
 unfold zaeb at h
 cases q:gS env i with
 | obj a C' nm0 fs =>
  rw [q] at S h
  obtain ⟨rfl,hl,h⟩:=h
  obtain ⟨dx,vs,e,hB,nm,hfs⟩:=S
  refine ⟨_,qbu e,a,dx,vs,rfl,I.bh _ _ hB,qjv nm hl,M,env,F,_,I,h,fun ds us F1 H1 e1 I1 s1 i1 h1=>?_⟩
  have S1:=I1.slot i
  cases q1:gS e1 i with
  | obj a2 C2 nm3 fs2 =>
   rw [q1] at S1 h1
   obtain ⟨rfl,h1⟩:=h1
   obtain ⟨dx2,vs2,e2,hB2,nm2,hfs2⟩:=S1
   rw [e] at e2
   injection e2 with e2;injection e2 with e2;subst e2
   show OSp X.K C2 sp (V.ref a::(us++[])) H1 R E0
   rw [List.append_nil]
   exact ⟨a,dx2,vs2,us,F1,nm3,fs2,ds,_,rfl,I1.bh _ _ hB2,I1.fh,⟨nm2,hfs2⟩,i1,h1,fun d v F2 H2 g i2 q=>k d v F2 H2 e1 (I1.go g) (s1.trans g.f) i2 q⟩
  | non=>rw [q1] at h1;exact h1.elim
  | val d=>rw [q1] at h1;exact h1.elim
  | own ds=>rw [q1] at h1;exact h1.elim
  | pen ds=>rw [q1] at h1;exact h1.elim
  | new d=>rw [q1] at h1;exact h1.elim
  | exc C=>rw [q1] at h1;exact h1.elim
 | non=>rw [q] at h;exact h.elim
 | val d=>rw [q] at h;exact h.elim
 | own ds=>rw [q] at h;exact h.elim
 | pen ds=>rw [q] at h;exact h.elim
 | new d=>rw [q] at h;exact h.elim
 | exc C=>rw [q] at h;exact h.elim
theorem zaep (i:Nat) {C:Addr}{x m:Str}{px apos pos:Pos}{pl:Sem Bool}{e:Expr}{es:List Expr}{Wr:WF}{k:Nat}{ps:List Str}{sp:DO} (O:OkM X.prog X.w X.K X.mg X.base C m k ps (OSp X.K C sp)) (c:Cls X.K C) (hr:Room k X.A) (ha:VA X (e::es) Wr)
 (hN:X.N[i]?=some x:=by rfl) (hv:Vis X.env.scope x:=by first|exact Or.inl rfl|exact Or.inr (Or.inl rfl)|exact Or.inr (Or.inr rfl)) (hd:(x==("__debug__" : Str))=false:=by decide) (hcd:(x==("__classdict__" : Str))=false:=by decide)
  (hst:starEach (e::es) X.env=(false,eval e X.env)::starEach es X.env:=by rfl) (hpl:(backTo pos (starEach es X.env)).any (·.1)=false:=by rfl)
  (ht:eval (.Call (.Attribute (.Name x px) m apos) (e::es) [] pos) X.env=(do
   let ov ← eval (.Name x px) X.env
   standAt apos.atName
   let (f,first) ← holding [ov] (getMethod ov m pl)
   callWith pos f first (backTo pos (starEach (e::es) X.env)) (backToKw pos (keywordEach [] X.env))):=by rfl) :
  VE X (.Call (.Attribute (.Name x px) m apos) (e::es) [] pos) (zaeb C i m sp Wr):=by
  obtain ⟨f,fd,F,hm,hb⟩:=O.ex
  exact (qsg (pl:=pl) (qG hN hv hd hcd) c hm F hr hb .nil qnx ha hst hpl ht).imp fun σ H R h=>qzi h
end
end L2
namespace L2
open PySem PySem.Spec PyProof.Rows
section
variable {X:Cx}
theorem VE.pe {e:Expr}{W:WE} (h:VE X e W):PE X e (qcc X.K W):=h
theorem VF.pe {e:Expr}{W:WF} (h:VF X e W):PE X e (qqb X.K W):=h
theorem VT.pt {e:Expr}{W:WT} (h:VT X e W):PT X e (qng X.K W):=h
theorem VS.ps {st:Stmt}{W:WS} (h:VS X st W):PS X st (zadz X.K W):=h
end
structure GoX (a b:Addr) (F H F' H':Hp):Prop where
 f:Same F F'
 h : ∀ c o,c≠a→c≠b→H c=some o→H' c=some o
 fh:Same F' H'
 new : ∀ c o,F' c=some o→F c=some o∨H c=none
theorem zacy {a:Addr}{o:HO}{F H F' H':Hp} (hF:F a=none) (hH:H a=some o) (g:Go (upd F a o) H F' H'):Go F H (qcz F' a) H':=by
 refine ⟨fun b u e=>?_,g.h,fun b u e=>?_,fun b u e=>?_⟩
 ·have hb:b≠a:=ql e hF
  unfold qcz;rw [if_neg hb]
  exact g.f b u (by rw [qk hb];exact e)
 ·unfold qcz at e
  split at e
  ·cases e
  ·exact g.fh b u e
 ·unfold qcz at e
  split at e
  ·cases e
  ·rename_i hb
   rcases g.new b u e with q|q
   ·rw [qk hb] at q;exact .inl q
   ·exact .inr q
mutual
def qqc:PyData→Bool
 | .list _=>false
 | .dict _=>false
 | .tuple l=>qiq l
 | _=>true
def qiq:List PyData→Bool
 | []=>true
 | d::l=>qqc d&&qiq l
end
mutual
theorem Is.off {K:PySem.W.Frag}{F:Hp}{a:Addr}{xs:List V} (hF:F a=some (.lst xs)) : ∀ {d:PyData}{v:V},qqc d=true→Is K F d v→Is K (qcz F a) d v
 | .none,_,_,h=>by unfold Is at h ⊢;exact h
 | .bool _,_,_,h=>by unfold Is at h ⊢;exact h
 | .int _,_,_,h=>by unfold Is at h ⊢;exact h
 | .str _,_,_,h=>by unfold Is at h ⊢;exact h
 | .list l,_,z,h=>by simp [qqc] at z
 | .dict l,_,z,h=>by simp [qqc] at z
 | .tuple l,_,z,h=>by
  unfold Is at h ⊢
  obtain ⟨b,ys,e,q,r⟩:=h
  refine ⟨b,ys,e,?_,Iss.off hF (by simpa [qqc] using z) r⟩
  rcases q with q|q
  ·refine .inl ?_
   rcases q with q|⟨o,q⟩
   ·refine .inl ?_
    unfold qcz
    rw [if_neg (fun y=>by subst y;rw [hF] at q;cases q)];exact q
   ·refine .inr ⟨o,?_⟩
    unfold qcz
    rw [if_neg (fun y=>by subst y;rw [hF] at q;cases q)];exact q
  ·exact .inr q
theorem Iss.off {K:PySem.W.Frag}{F:Hp}{a:Addr}{xs:List V} (hF:F a=some (.lst xs)) : ∀ {l:List PyData}{vs:List V},qiq l=true→Iss K F l vs→Iss K (qcz F a) l vs
 | [],_,_,h=>by unfold Iss at h ⊢;exact h
 | d::l,_,z,h=>by
  unfold Iss at h ⊢
  obtain ⟨x,r,e,p,q⟩:=h
  have z':qqc d=true∧qiq l=true:=by simpa [qiq] using z
  exact ⟨x,r,e,Is.off hF z'.1 p,Iss.off hF z'.2 q⟩
end
section
variable {X:Cx}
theorem boot_rng:bootBuiltins "range" = some (.type "range"):=by decide +kernel
theorem qzf:CallR X (.type "range") (fun xs H Q => ∃ i j,xs=[.int i,.int j] ∧ ∀ l,H l=none→Q (.ref l) (upd H l (.rng i j))):=by
 intro pins s σ H xs us Q I r h
 obtain ⟨i,j,rfl,q⟩:=h
 obtain ⟨u,c,rfl,⟨t,rfl⟩,⟨t',rfl⟩⟩:=zahb r
 refine call_range_2 ⟨.ref s.heap.objs.size,_,I.laid (a:=s.heap.objs.size) (o :=.rng i j) (t':=s.toks+1) (fun _ _ q=>Heap.get?_push_of_some _ q) (Nat.le_refl _) ?_,rfl,q _ (I.hok.fresh (Nat.le_refl _))⟩
 exact ⟨t,t',s.toks,Heap.get?_push_size _ rfl⟩
def rngV (i:Int) (n:Nat):List V:=(List.range n).map fun (k:Nat)=>V.int (i+k)
theorem zaaq {i:Int}{n:Nat}{acc:Array Value} (h:ItemsOf (fun (k:Nat) (v:Value) => ∃ t,v=Value.int (i+(k:Int)*1) t) acc n):Vals (rngV i n) acc.toList:=by
 have key : ∀ (m:Nat) (l:List Value),l.length=m → ∀ o:Nat,(∀ k v,l[k]?=some v → ∃ t,v=Value.int (i+((o+k:Nat):Int)) t)→Vals ((List.range' o m).map fun (k:Nat)=>V.int (i+k)) l:=by
  intro m
  induction m with
  | zero =>
   intro l hl o _
   cases l with
   | nil=>exact .nil
   | cons _ _=>cases hl
  | succ m ih =>
   intro l hl o hk
   cases l with
   | nil=>cases hl
   | cons v l =>
    rw [List.range'_succ,List.map_cons]
    refine .cons (hk 0 v rfl) (ih l (Nat.succ.inj hl) (o+1) fun k w hw=>?_)
    obtain ⟨t,e⟩:=hk (k+1) w (by simpa using hw)
    exact ⟨t,by rw [e];congr 2 <;> omega⟩
 unfold rngV
 rw [List.range_eq_range']
 refine key n acc.toList (by rw [Array.length_toList];exact h.1) 0 fun k v hv=>?_
 obtain ⟨t,e⟩:=h.2 k v (by rw [← Array.getElem?_toList];exact hv)
 exact ⟨t,by rw [e];congr 2 <;> omega⟩
theorem qzm (hc:X.calm=true):CallR X (.type "list") (fun xs H Q => ∃ r i j,xs=[.ref r]∧H r=some (.rng i j)∧(-(2^62)≤i∧i<2^62 ∧ -(2^62)≤j∧j<2^62)∧(j-i).toNat≤1000 ∧ ∀ l,H l=none→Q (.ref l) (upd H l (.lst (rngV i (j-i).toNat)))):=by
 intro pins s σ H xs us Q I r h
 obtain ⟨p,i,j,rfl,hp,⟨h1,h2,h3,h4⟩,hl,q⟩:=h
 obtain ⟨u,rfl,rx⟩:=qme r
 cases rx
 obtain ⟨t,t',v,ho⟩:=(show ObjOk X.prog X.w H s.heap p (.rng i j) from I.hok p _ hp)
 refine call_list_range (I.ok.hd hc) (a:=i) (b:=j) (c:=1) (t:=t) (u:=t') (v:=v) (n:=(j-i).toNat) ho (small_one h1 h2 h3 h4) (by rw [rangeSize_one];split <;> omega) (by omega) fun h' tk acc' c' kp hS hacc=>?_
 refine ⟨.ref s.heap.objs.size,_,I.laid (t':=tk) kp (Nat.le_refl _) (show ObjOk X.prog X.w _ h' _ (.lst (rngV i (j-i).toNat)) from ⟨?_,acc'.toList,c',zaaq hacc,?_⟩),rfl,q _ (I.hok.fresh (Nat.le_refl _))⟩
 ·unfold rngV;rw [List.length_map,List.length_range];exact Nat.le_of_lt (qo hl)
 ·rw [hS]
end
end L2
namespace L2
open PySem PySem.Spec PyProof.Rows
theorem qkk {F H:Hp}{a:Addr}{o:HO} (s:Same F H) (h:H a=some o):Same (upd F a o) H:=fun b u e=>by
 by_cases z:b=a
 ·subst z;rw [qp] at e;rw [← e];exact h
 ·rw [qk z] at e;exact s b u e
theorem qjc {F H:Hp}{a:Addr}{o:HO} (s:Same F H) (h:H a=some o):Same F (upd F a o):=fun b u e=>by
 by_cases z:b=a
 ·subst z
  rw [qp]
  have:=s _ _ e
  rw [h] at this;exact this
 ·rw [qk z];exact e
theorem qyo {F H F' H':Hp}{a:Addr}{o:HO} (g:Go F H F' H') (h:H a=some o) (f:F a=none):F' a=none:=by
 cases e:F' a with
 | none=>rfl
 | some u =>
  rcases g.new a u e with q|q
  ·rw [f] at q;cases q
  ·rw [h] at q;cases q
theorem qta {F H F' H':Hp}{b:Addr}{o:HO} (g:Go F H F' H') (hb:H b=none) (h':H' b=some o):Go F H (upd F' b o) H' where
 f:=g.f.trans (qjc g.fh h')
 h:=g.h
 fh:=qkk g.fh h'
 new:=fun c u e=>by
  by_cases z:c=b
  ·subst z;exact .inr hb
  ·rw [qk z] at e;exact g.new c u e
theorem GoX.go {F H F1 H1 F2 H2:Hp}{a b:Addr} (g:Go F H F1 H1) (x:GoX a b F1 H1 F2 H2) (na:H a=none) (nb:H b=none):Go F H F2 H2 where
 f:=g.f.trans x.f
 h:=fun c o e=>x.h c o (ql e na) (ql e nb) (g.h c o e)
 fh:=x.fh
 new:=fun c o e=>(x.new c o e).elim (fun q=>g.new c o q) fun q => .inr (qH g.h q)
section
variable {K:PySem.W.Frag}{M:Frm}{F H:Hp}
def Slots (K:PySem.W.Frag) (M:Frm) (F H:Hp):Sto→St→Prop
 | [],σ=>σ=[]
 | s::e,σ => ∃ x r,σ=x::r∧(SlotOk K M F H s x∧s.mut=false)∧Slots K M F H e r
def qww (K:PySem.W.Frag) (M:Frm) (F H:Hp):Sto→St→Prop
 | [],σ=>σ=[]
 | s::e,σ => ∃ x r,σ=x::r∧SlotOk K M F H s x∧qww K M F H e r
theorem Slots.len : ∀ {e:Sto}{σ:St},Slots K M F H e σ→e.length=σ.length
 | [],σ,h=>by
  have h:σ=[]:=h
  subst h;rfl
 | s::e,σ,h=>by
  obtain ⟨x,r,rfl,_,h⟩:=h
  rw [List.length_cons,List.length_cons,Slots.len h]
theorem Slots.at : ∀ {e:Sto}{σ:St},Slots K M F H e σ → ∀ i,SlotOk K M F H (gS e i) (vS σ i)∧(gS e i).mut=false
 | [],σ,h,i=>by
  rw [qxb (Nat.zero_le _)]
  exact ⟨trivial,rfl⟩
 | s::e,σ,h,0=>by
  obtain ⟨x,r,rfl,q,h⟩:=h
  exact q
 | s::e,σ,h,i+1=>by
  obtain ⟨x,r,rfl,q,h⟩:=h
  have e1:vS (x::r) (i+1)=vS r i:=by unfold vS;rw [List.getElem?_cons_succ]
  rw [e1]
  exact Slots.at h i
theorem qtc {env:Sto}{σ:St} (s:Same F H) (h:Slots K ⟨H,H,F⟩ F H env σ):EnvOk K ⟨H,H,F⟩ F H env σ where
 len:=h.len
 slot:=fun i=>(h.at i).1
 dis:=fun i j a _ m _ _ _=>by rw [(h.at i).2] at m;cases m
 f0 :=.refl _
 fe:=s
 fh:=s
 bh :=.refl _
 new:=fun b o e => .inl e
 dom:=fun b o e=>⟨o,e⟩
theorem qqu : ∀ {env:Sto}{σ:St},env.length=σ.length→(∀ i,SlotOk K M F H (gS env i) (vS σ i))→qww K M F H env σ
 | [],[],_,_=>rfl
 | [],_::_,h,_=>by cases h
 | _::_,[],h,_=>by cases h
 | s::e,x::σ,h,k=>⟨x,σ,rfl,k 0,qqu (Nat.succ.inj h) fun i=>by
  have q:=k (i+1)
  have e1:vS (x::σ) (i+1)=vS σ i:=by unfold vS;rw [List.getElem?_cons_succ]
  rw [e1] at q
  exact q⟩
theorem EnvOk.all {env:Sto}{σ:St} (I:EnvOk K M F H env σ):qww K M F H env σ:=qqu I.len I.slot
end
def SolSp (K:PySem.W.Frag) (sp:DC):Sp:=fun vs H Q _ => ∃ F ds q,Same F H∧Iss K F ds vs∧sp ds q ∧
 ∀ d t p lb xs F' H',Go F H F' H'→Is K F' d (.ref p)→H' p=some (.tup [t,.ref lb])→H lb=none→H' lb=some (.lst xs)→xs.length≤900→q d→Q (.ref p) H'
theorem SolSp.psp {K:PySem.W.Frag}{sp:DC}{vs:List V}{H:Hp}{Q:VK}{E:XK} (h:PSp K sp vs H Q E):SolSp K sp vs H Q E:=by
 obtain ⟨F,ds,q,s,i,h,k⟩:=h
 exact ⟨F,ds,q,s,i,h,fun d t p lb xs F' H' g j _ _ _ _ z=>k d (.ref p) F' H' g j z⟩
theorem qxl {K:PySem.W.Frag}{F H F1 H1:Hp}{p a:Addr}{xs:List V}{ds:List PyData}{w:Str} (g:Go F H F1 H1) (ha:H a=none) (h1:H1 a=some (.lst xs)) (i:Iss K F1 ds xs) (hp:H1 p=none) :
 ∃ F2,Go F H F2 (upd H1 p (.tup [.str w,.ref a]))∧Is K F2 (.tuple [.str w,.list ds]) (.ref p)∧upd H1 p (.tup [.str w,.ref a]) p=some (.tup [.str w,.ref a])∧upd H1 p (.tup [.str w,.ref a]) a=some (.lst xs):=by
  have g2:=qta g ha h1
  have g3:=Go.put (o:=HO.tup [.str w,.ref a]) g2.fh hp
  have ne:a≠p:=ql h1 hp
  refine ⟨_,g2.trans g3,qkc (SqT.of qp) (qy (qwy w) (qy (qcq (SqL.of ?_) (i.mono ((qjc g.fh h1).trans g3.f))) qO)),qp,by rw [qk ne];exact h1⟩
  rw [qk ne];exact qp
theorem Ok.imp' {P:Program}{w:World}{K:PySem.W.Frag}{mg:Str→Option Value}{base:Heap}{x:Str}{k:Nat}{ps:List Str}{sp sp':Sp} (O:Ok P w K mg base x k ps sp) (h : ∀ vs H Q E,sp' vs H Q E→sp vs H Q E):Ok P w K mg base x k ps sp':=by
 obtain ⟨f,fd,F,a,b,c⟩:=O.ex
 exact ⟨f,fd,F.imp h,a,b,c⟩
theorem zaki {P:Program}{w:World}{K:PySem.W.Frag}{mg:Str→Option Value}{base:Heap}{x:Str}{k:Nat}{ps:List Str}{sp:DC} (O:Ok P w K mg base x k ps (SolSp K sp)):Ok P w K mg base x k ps (PSp K sp):=O.imp' fun _ _ _ _ z=>SolSp.psp z
section
variable {X:Cx}
theorem VA.pa {es:List Expr}{W:WF} (h:VA X es W):PA X es (qib X.K W):=h
end
section
variable {X:Cx}
end
end L2
namespace L2
open PySem PySem.Spec PyProof.Rows
section
variable {X:Cx}
end
end L2
namespace L2
open PySem PySem.Spec PyProof.Rows
section
variable {X:Cx}
end
end L2
namespace L2
open PySem PySem.Spec PyProof.Rows
theorem zagn (l:Addr) (its:Array Value) (n:Nat) (b:Addr) (dc:Option Addr) (its2:Array Value) (n2:Nat) (sl:Array (Option Value)) (h0 : ¬(!its.isEmpty&&Builtin.List.listTooLong (its.size+its2.size))=true) (h1:its.size≤sizeLine) (h2:its.size+its2.size≤sizeLine+1) :
 Meets (Builtin.«list.extend» ⟨[.ref l,.ref b],[]⟩) (fun _ Rr s=>s.heap.get? l=some { cls :=.type "list",dict:=none,data :=.seq its n,slots := #[] }∧s.heap.get? b=some ⟨.type "tuple",dc,.seq its2 n2,sl⟩∧Rr (.ok (.ret Value.none)) { s with heap:=s.heap.update l (Obj.mapSeq fun x=>x++its2),toks:=s.toks }) :=
  .of_wp fun prog w A Rr s h=>by
   obtain ⟨hp,g,d,tk,os⟩:=s
   obtain ⟨hl,hb,h⟩:=h
   have f2:=sub_tuple_tuple
   have f3:=sub_list_list
   have f4:=sub_tuple_list
   have f5:=sub_list_tuple
   have hz':(its++its2).size≤sizeLine+1:=by rw [Array.size_append];exact h2
   wp_walk using (wpAny_updateSeq hl rfl (hz:=h1) (_hz':=hz')),wpAny_loadPart' hl,wpAny_loadPart' hb
   exact ⟨_,rfl,h⟩
def zalv (K:PySem.W.Frag):V→List V→Hp→VK→Prop:=fun x vs H Q => ∃ l b xs zs,x = .ref l∧vs=[.ref b]∧H l=some (.lst xs)∧SqT K H b zs∧xs.length+zs.length≤sizeLine∧Q .non (upd H l (.lst (xs++zs)))
section
variable {X:Cx}{e:Expr}{We:WE}{pos:Pos}
theorem zagj:MtM X "list.extend" (zalv X.K):=by
 intro pins s σ H x vs v us Q I rx rv h
 obtain ⟨l,b,xs,zs,rfl,rfl,hH,hB,hz,q⟩:=h
 cases rx
 obtain ⟨u,rfl,ru⟩:=rv.one
 cases ru
 obtain ⟨z,its,n,r,hl,e⟩:=I.lstM hH
 obtain ⟨its2,r2,⟨o,e2,oc,n2,od⟩,z2⟩:=I.tuple hB
 obtain ⟨c,dc,dd,sl⟩:=o
 dsimp only at oc od
 subst oc od
 have hl2:=r2.length
 have hsz:its.toArray.size+its2.toArray.size≤sizeLine:=by rw [List.size_toArray,List.size_toArray];omega
 have hlong : ¬ (!its.toArray.isEmpty&&Builtin.List.listTooLong (its.toArray.size+its2.toArray.size))=true:=by
  rw [qvf hsz,Bool.and_false]
  exact Bool.false_ne_true
 refine call_meets F.slot_list_extend ⟨_,e,rfl⟩ F.entry_list_extend (F.args_list_extend_2 _ _) (zagn l its.toArray n b dc its2.toArray n2 sl hlong (by rw [List.size_toArray];omega) (by omega)) ⟨e,e2,?_⟩
 refine ⟨.non,_,I.lset (its':=its++its2) hH e (by simp) (r.append r2) ?_,rfl,q⟩
 rw [List.length_append]
 omega
def zamd (i:Nat) (We:WE):WS:=fun D env=>(gS env i).mut=true∧We env fun d e=>match d with
 | .tuple l=>(gS e i).mut=true∧(gS e i).cnt.length+l.length≤sizeLine∧D.nx (e.set i ((gS e i).upd ((gS e i).cnt++l)))
 | _=>False
theorem qvo (i:Nat) {x:Str}{px apos cpos:Pos} (he:VE X e We) (hN:X.N[i]?=some x:=by rfl) (hv:Vis X.env.scope x:=by first|exact Or.inl rfl|exact Or.inr (Or.inl rfl)|exact Or.inr (Or.inr rfl)) (hd:(x==("__debug__" : Str))=false:=by decide)
 (hcd:(x==("__classdict__" : Str))=false:=by decide)
 (hbase:attributeBase (.Name x px) "extend" X.env (eval (.Name x px) X.env)=eval (.Name x px) X.env:=by rfl)
 (hfew:((backTo cpos (starEach [e] X.env)).all (fun x => !x.1)&&(backToKw cpos (keywordEach [] X.env)).all (fun x=>x.1.isSome)
  && decide ([e].length+([]:List Keyword).length+(if ([]:List Keyword).isEmpty then 0 else 1)<30))=true:=by rfl)
 (hline:(apos.endLine==cpos.line)=true:=by rfl) (hst:starEach [e] X.env=(false,eval e X.env)::starEach [] X.env:=by rfl) (hplain:(backTo cpos (starEach [] X.env)).any (·.1)=false:=by rfl)
 (hs:swapsWith (.Call (.Attribute (.Name x px) "extend" apos) [e] [] cpos) none pos.line X.env=pure false:=by rfl):VS X (.Expr (.Call (.Attribute (.Name x px) "extend" apos) [e] [] cpos) pos) (zamd i We) :=
 (qfv (zaag PySem.F.plainAttrs_list PySem.F.slot_list_extend PySem.F.type_list_extend zagj (qG hN hv hd hcd) (qL he qbp hst) hbase hfew hline hst hplain) hs).imp fun D σ H xx177=>by
  obtain ⟨M,env,F,DD,I,⟨hm,h⟩,k⟩:=xx177
  obtain ⟨p,vs,ep,g1,g2,g3,g4⟩:=(I.slot i).addr hm
  refine ⟨_,qbu ep,.inl ⟨rfl,_,SqL.of g1⟩,M,env,F,_,I,h,fun d2 v2 F1 H1 e1 I1 s1 i1 h1=>?_⟩
  cases d2 with
  | tuple l =>
   obtain ⟨m1,z1,q1⟩:=h1
   obtain ⟨p',vs1,ep',f1,f2,f3,f4⟩:=(I1.slot i).addr m1
   rw [ep] at ep';injection ep' with ep';injection ep' with ep';subst ep'
   obtain ⟨a,xs,rfl,hs',hr⟩:=i1.tup_inv
   exact ⟨p,a,vs1,xs,rfl,rfl,f1,qS I1.fh hs',by rw [f4.len,hr.len];exact z1,k.nx _ F1 _ σ (I1.chg m1 ep (qX f4 hr)) s1 q1⟩
  | _=>exact False.elim h1
end
end L2
namespace L2
open PySem PySem.Spec PyProof.Rows
section
variable {X:Cx}
end
end L2
namespace L2
open PySem PySem.Spec PyProof.Rows
section
variable {X:Cx}{pos:Pos}
end
end L2
namespace L2
open PySem PySem.Spec PyProof.Rows
mutual
def qte:PyData→Bool
 | .list _=>false
 | .dict _=>false
 | .tuple l=>qth l
 | _=>true
def qth:List PyData→Bool
 | []=>true
 | d::l=>qte d&&qth l
end
mutual
theorem zadc {K:PySem.W.Frag}{F:Hp}{a:Addr}{vs:List V} (h:F a=some (.lst vs)) : ∀ {d:PyData}{v:V},qte d=true→Is K F d v→Is K (qcz F a) d v
 | .none,_,_,i=>by unfold Is at i ⊢;exact i
 | .bool _,_,_,i=>by unfold Is at i ⊢;exact i
 | .int _,_,_,i=>by unfold Is at i ⊢;exact i
 | .str _,_,_,i=>by unfold Is at i ⊢;exact i
 | .list l,_,z,_=>by unfold qte at z;cases z
 | .dict l,_,z,_=>by unfold qte at z;cases z
 | .tuple l,_,z,i=>by
  unfold qte at z
  unfold Is at i ⊢
  obtain ⟨b,xs,e,q,r⟩:=i
  refine ⟨b,xs,e,?_,qyj h z r⟩
  rcases q with (q|⟨o,q⟩)|q
  ·exact .inl (.inl (by unfold qcz;rw [if_neg (fun c=>by rw [c,h] at q;cases q)];exact q))
  ·exact .inl (.inr ⟨o,by unfold qcz;rw [if_neg (fun c=>by rw [c,h] at q;cases q)];exact q⟩)
  ·exact .inr q
theorem qyj {K:PySem.W.Frag}{F:Hp}{a:Addr}{vs:List V} (h:F a=some (.lst vs)) : ∀ {l:List PyData}{xs:List V},qth l=true→Iss K F l xs→Iss K (qcz F a) l xs
 | [],_,_,i=>by unfold Iss at i ⊢;exact i
 | d::l,_,z,i=>by
  unfold qth at z
  rw [Bool.and_eq_true] at z
  unfold Iss at i ⊢
  obtain ⟨x,r,e,p,q⟩:=i
  exact ⟨x,r,e,zadc h z.1 p,qyj h z.2 q⟩
end
section
variable {X:Cx}
end
end L2
namespace L2
open PySem PySem.Spec PyProof.Rows
section
variable {X:Cx}{Ex:St→XK}{a b:Expr}{rest:List Expr}{pos:Pos}{Wa Wx2:WX→WE}{Wb:WE}
end
end L2
namespace L2
open PySem PySem.Spec PyProof.Rows
section
variable {X:Cx}
def rAny (K:PySem.W.Frag):List V→Hp→VK→Prop:=fun xs H Q => ∃ (a:Addr) (bs:List Bool),xs=[.ref a]∧SqL K H a (bs.map V.bl)∧Q (.bl (bs.any id)) H
theorem zaap (hc:X.calm=true):CallR X (.builtin "any") (rAny X.K):=by
 intro pins s σ H xs us Q I r h
 obtain ⟨a,bs,rfl,ha,q⟩:=h
 obtain ⟨u,rfl,rx⟩:=qme r
 cases rx
 obtain ⟨its,rv,pl,_⟩:=I.list ha
 have hl:=pl.isList
 have hb:=qnm rv
 have hlt:a<s.heap.objs.size:=pl.lt
 refine call_any_walk (wpAny_pyIter_list hl ?_)
 refine ⟨s.heap.objs.size,[s.heap.objs.size,a],[s.heap.objs.size],its.toArray.size,_,_,fun i=>(bs[i]?).getD true,rfl,Walks.list (A:=X.A.in1) (I.ok.hd hc) _ a (Nat.ne_of_lt hlt) its.toArray,
  ⟨⟨_,Heap.get?_push_size _ rfl,rfl,rfl⟩,hl.push _⟩,fun i v s' Q' E' hP hQ=>?_,fun h' tk hk=>?_⟩
 ·obtain ⟨b,e,rfl⟩:=hb.get i v (by simpa using hP)
  simp only [e,Option.getD_some] at hQ
  exact wpAny_truthy_bool hQ
 ·have hlen:its.toArray.size=bs.length:=by rw [List.size_toArray];exact hb.length
  have e:((List.range its.toArray.size).any fun i=>(bs[i]?).getD true)=bs.any id:=by
   rw [hlen,Bool.eq_iff_iff,List.any_eq_true,List.any_eq_true]
   constructor
   ·rintro ⟨i,hi,z⟩
    have hi':=List.mem_range.mp hi
    refine ⟨bs[i],List.getElem_mem hi',?_⟩
    simpa [hi'] using z
   ·rintro ⟨b,hb',z⟩
    obtain ⟨i,hi,rfl⟩:=List.getElem_of_mem hb'
    exact ⟨i,List.mem_range.mpr hi,by simpa [hi] using z⟩
  rw [e]
  refine ⟨.bl (bs.any id),H,I.kept (t':=tk) (fun b o z=>hk b o (fun hm=>?_) (Heap.get?_push_of_some _ z)),rfl,q⟩
  rw [List.mem_singleton.mp hm] at z
  exact Nat.lt_irrefl _ (Heap.lt_size z)
theorem boot_any:bootBuiltins "any" = some (.builtin "any"):=by decide +kernel
def dAny:DC
 | [.list l],q => ∃ bs:List Bool,l=bs.map .bool∧q (.bool (bs.any id))
 | _,_=>False
theorem zamb (hc:X.calm=true):qnw X (.builtin "any") dAny:=(zaap hc).imp fun xs H Q xx178=>by
 obtain ⟨F,ds,q,s,i,h,k⟩:=xx178
 match ds,h,i with
 | [.list l],h,i =>
  obtain ⟨v,rfl,j⟩:=qpm i
  obtain ⟨a,xs,rfl,hs,hr⟩:=j.lst_inv
  obtain ⟨bs,rfl,hq⟩:=h
  rw [hr.bools_inv] at hs
  exact ⟨a,bs,rfl,s.seq hs,k _ _ F H (.refl s) (qfy _) hq⟩
end
section
variable {X:Cx}{elt target iter cnd:Expr}{scope:Scope}{pos py spos:Pos}{caps own:List Str}{ix:List Nat}{Wi:WF}{G:WG}{Wt:WT}{We:WE}{i:Nat}{y:Str}
theorem qza (hN:X.N.Nodup) (hc:X.calm=true) (S:CompScope X.env scope caps) (hi:VI X target iter Wi) (hg : ∀ pins s3 H ex,VG (blk X pins scope (caps++own) s3 H ex) target G) (ht : ∀ pins s3 H ex,VT (blk X pins scope (caps++own) s3 H ex) cnd Wt) (he : ∀ pins s3 H ex,VE (blk X pins scope (caps++own) s3 H ex) elt We)
 (hiy:X.N[i]?=some y:=by rfl) (hy:X.env.scope.names.lookup y=some .local:=by rfl) (hsw:swapsWith (.ListComp elt [⟨target,iter,[cnd],0⟩] scope pos) (some (.Name y py)) spos.line X.env=pure true:=by rfl)
  (hix:caps.length=ix.length:=by rfl) (hcapB:(caps.zip ix).all (fun p=>X.N[p.2]?==some p.1)=true:=by rfl) (hs : ∀ x,foldedSetIterable iter X.env x=pure x:=by intro _;rfl) :
  PS X (.Assign [.Name y py] (.ListComp elt [⟨target,iter,[cnd],0⟩] scope pos) spos) (fun D σ H=>qqb X.K (qnq ix own.length Wi G Wt We) σ H fun v H'=>D.nx (σ.set i (some v)) H') :=
  (qrk (wi:=qkl X.K Wi) (g:=qih X.K G) (tt:=qng X.K Wt) (te:=qcc X.K We) hN hiy hy hsw hc S hi hg he ht hix hcapB hs).imp fun D σ H h=>qlo h
end
end L2
namespace L2
open PySem PySem.Spec PyProof.Rows
section
variable {X:Cx}{b:Expr}{Wb:WE}{pos px:Pos}
def wOpO (i:Nat) (r:D2) (Wb:WE):WE:=fun env Q=>(gS env i).mut=true∧Wb env fun y e=>(gS e i).mut=true∧r (.list (gS e i).cnt) y fun d=>qte d=true∧Q d e
theorem zaan {i:Nat}{r:D2}{σ:St}{H:Hp}{R:VK} (h:qcc X.K (wOpO i r Wb) σ H R):tOp (qtg X.K r) (tVar i) (qcc X.K Wb) σ H R:=by
 obtain ⟨M,env,F,Q,I,⟨m,h⟩,k⟩:=h
 obtain ⟨a,vs,ea,g1,g2,g3,g4⟩:=(I.slot i).addr m
 refine ⟨_,qbu ea,M,env,F,_,I,h,fun d v F1 H1 e1 I1 s1 i1 h1=>?_⟩
 obtain ⟨m1,h1⟩:=h1
 obtain ⟨a',vs1,ea',f1,f2,f3,f4⟩:=(I1.slot i).addr m1
 rw [ea] at ea';injection ea' with ea';injection ea' with ea';subst ea'
 have sn:Same F1 (upd F1 a (.lst vs1)):=qda f2
 refine ⟨upd F1 a (.lst vs1),_,d,_,fun b o eb=>?_,qcq (SqL.of qp) (f4.mono sn),i1.mono sn,h1,fun d2 v2 F2 H2 g j ⟨fd,q⟩=>?_⟩
 ·by_cases z:b=a
  ·subst z;rw [qp] at eb;rw [f1];exact eb
  ·rw [qk z] at eb;exact I1.fh b o eb
 ·have fa:F2 a=some (.lst vs1):=g.f a _ qp
  have G:Go F1 H1 (qcz F2 a) H2:=by
   refine ⟨fun b o eb=>?_,g.h,fun b o eb=>?_,fun b o eb=>?_⟩
   ·unfold qcz;rw [if_neg (ql eb f2)]
    exact g.f b o (sn b o eb)
   ·unfold qcz at eb;split at eb
    ·cases eb
    ·exact g.fh b o eb
   ·unfold qcz at eb;split at eb
    ·cases eb
    ·rename_i z
     rcases g.new b o eb with q|q
     ·rw [qk z] at q;exact .inl q
     ·exact .inr q
  exact k d2 v2 _ H2 e1 (I1.go G) (s1.trans G.f) (zadc fa fd j) q
theorem zagg (i:Nat) {op:CmpOp}{r:D2}{x:Str} (ho:OpV X (compareOp op) r) (hb:VE X b Wb) (hN:X.N[i]?=some x:=by rfl) (hv:Vis X.env.scope x:=by first|exact Or.inl rfl|exact Or.inr (Or.inl rfl)|exact Or.inr (Or.inr rfl)) (hd:(x==("__debug__" : Str))=false:=by decide)
 (hcd:(x==("__classdict__" : Str))=false:=by decide) (hm:behindInMarks op b=false:=by first|exact qwq _|with_unfolding_all rfl):VT X (.Compare (.Name x px) [op] [b] pos) (qwi (wOpO i r Wb)) :=
 (qxv ho (qG hN hv hd hcd) hb hm).imp fun σ H R h=>zaan (qig h)
end
end L2
namespace My
open PySem L2
seal VE VF VA VT VW VS VSs VG VGs VI VO OpV qnw qpf VN VFN VST VSsT VEX VSX VSsX
def top (i:Nat):Stmt:=PySem.Challenge.pw_dullglass_k48_tops_of_a_shelf.main.body.getD i (.Pass ⟨0,0,0,0⟩)
def qbz (s:Stmt) (j:Nat):Stmt:=match s with | .ClassDef _ _ _ body _ _ _ _ _ _ _=>body.getD j (.Pass ⟨0,0,0,0⟩)|s=>s
abbrev qkm:Stmt:=top 16
abbrev qno:Stmt:=top 17
abbrev qal:Stmt:=top 19
abbrev qdt:Stmt:=top 24
abbrev qii:Stmt:=top 7
abbrev qki:Stmt:=top 25
abbrev qeg:Stmt:=top 27
abbrev qbw:Stmt:=qbz (top 26) 0
abbrev qeh:Stmt:=qbz (top 26) 1
abbrev qaz:Stmt:=qbz (top 26) 4
abbrev qby:Stmt:=qbz (top 26) 3
abbrev qif:Stmt:=top 28
abbrev qbv:Stmt:=qbz (top 26) 2
abbrev qgt:Stmt:=top 6
abbrev qin:Stmt:=top 9
abbrev qoa:Stmt:=top 8
abbrev qel:Stmt:=qbz (top 26) 5
abbrev qkr:Stmt:=top 23
abbrev qbm:Stmt:=top 32
abbrev qil:Stmt:=top 34
abbrev qcu:Stmt:=top 35
abbrev qfp:Stmt:=top 33
abbrev qdj:Stmt:=top 36
abbrev qgs:Stmt:=top 10
abbrev qcx:Stmt:=top 11
abbrev qoe:Stmt:=top 12
abbrev qdo:Stmt:=top 15
abbrev qbl:Stmt:=top 14
abbrev qik:Stmt:=top 38
abbrev qeo:Stmt:=top 37
abbrev qgj:Stmt:=top 31
abbrev qdm:Stmt:=top 42
abbrev qar:Stmt:=top 43
abbrev qgv:Stmt:=top 46
abbrev qip:Stmt:=top 45
abbrev qef:Stmt:=top 44
abbrev qko:Stmt:=top 47
abbrev qtj:Stmt:=top 41
abbrev qgu:Stmt:=top 49
abbrev qej:Stmt:=top 50
abbrev qfo:Stmt:=top 51
abbrev qcw:Stmt:=top 52
abbrev qcy:Stmt:=top 54
abbrev qgq:Stmt:=top 55
abbrev qee:Stmt:=top 56
abbrev qem:Stmt:=top 57
abbrev qdk:Stmt:=top 58
abbrev qdf:Stmt:=top 59
abbrev qcv:Stmt:=top 60
abbrev qen:Stmt:=top 61
abbrev qek:Stmt:=top 62
abbrev qfq:Stmt:=top 63
abbrev qbo:Stmt:=top 64
abbrev qbk:Stmt:=top 65
abbrev qei:Stmt:=top 66
abbrev qmb:Stmt:=top 67
structure Cs where
 Board:Addr
structure Txt (K:PySem.W.Frag) (mg:Str→Option Value) (cs:Cs):Prop where
 Board_:mg "Board" = some (.ref cs.Board)
 Board_c:Cls K cs.Board
 Board_mk:PySem.W.makesIn K cs.Board=true
 Board_kp:PySem.W.keepIn K (.ref cs.Board)=true
 Board_n_bottom:NoAttr K cs.Board "bottom"
 Board_n_lines:NoAttr K cs.Board "lines"
 Board_n_stands_for:NoAttr K cs.Board "stands_for"
 Board_n_unknowns:NoAttr K cs.Board "unknowns"
 abs_:mg "abs" = none
 any_:mg "any" = none
 bool_:mg "bool" = none
 enumerate_:mg "enumerate" = none
 int_:mg "int" = none
 isinstance_:mg "isinstance" = none
 len_:mg "len" = none
 list_:mg "list" = none
 range_:mg "range" = none
 sorted_:mg "sorted" = none
 sum_:mg "sum" = none
 tuple_:mg "tuple" = none
 zip_:mg "zip" = none
 MOST_COMPARED_ : ∃ t,mg "MOST_COMPARED" = some (.int 4 t)
 MOST_GLASSES_ : ∃ t,mg "MOST_GLASSES" = some (.int 5 t)
 MOST_ROWS_ : ∃ t,mg "MOST_ROWS" = some (.int 24 t)
 MOST_UNKNOWNS_ : ∃ t,mg "MOST_UNKNOWNS" = some (.int 20 t)
section
variable {P:Program}{w:World}{K:PySem.W.Frag}{mg:Str→Option Value}{base:Heap}{cs:Cs}
theorem qux {a b:Int}{g:Nat} (h0:0≤a) (hb:0≤b) (h1:b≠0) (h:Nat.gcd a.toNat b.toNat=g) :
 0≤a%b∧a%b<b∧Nat.gcd b.toNat (a%b).toNat=g:=by
  have hp:0<b:=by omega
  have e1:=Int.emod_nonneg a h1
  have e2:=Int.emod_lt_of_pos a hp
  refine ⟨e1,e2,?_⟩
  have e3:(a%b).toNat=a.toNat%b.toNat:=by
   have:((a.toNat%b.toNat:Nat):Int)=a%b:=by
    rw [Int.natCast_emod,Int.toNat_of_nonneg h0,Int.toNat_of_nonneg hb]
   rw [← this];rfl
  rw [e3,← h,Nat.gcd_comm b.toNat,Nat.gcd_comm a.toNat]
  exact (Nat.gcd_rec _ _).symm
theorem qxy {a:Int}{b:Int}{g:Nat} (h0:0≤a) (h1:b=0) (h:Nat.gcd a.toNat b.toNat=g):a=(g:Int):=by
 subst h1
 rw [← h]
 have:Nat.gcd a.toNat (Int.toNat 0)=a.toNat:=Nat.gcd_zero_right _
 rw [this];omega
theorem qzj (a b:Int):Nat.gcd (if a<0 then -a else a).toNat (if b<0 then -b else b).toNat=Int.gcd a b:=by
 have e : ∀ x:Int,(if x<0 then -x else x).toNat=x.natAbs:=fun x=>by split <;> omega
 rw [e,e];rfl
structure Shr (p q:Int):Prop where
 pos:1≤q
 gcd:Int.gcd p q=1
def cm (t b:Int):Int:=if b<0 then -(Int.gcd t b:Int) else (Int.gcd t b:Int)
def shT (t b:Int):Int:=t.fdiv (cm t b)
def shB (t b:Int):Int:=b.fdiv (cm t b)
theorem qxn {t b:Int} (hb:b≠0):0<Int.gcd t b:=Int.gcd_pos_of_ne_zero_right t hb
theorem zagz {t b:Int} (hb:b≠0):cm t b≠0:=by
 have:=qxn (t:=t) hb
 unfold cm;split <;> omega
theorem zacr (t b:Int):cm t b∣t:=by
 have h:(Int.gcd t b:Int)∣t:=Int.gcd_dvd_left ..
 unfold cm;split
 ·exact Int.neg_dvd.mpr h
 ·exact h
theorem zach (t b:Int):cm t b∣b:=by
 have h:(Int.gcd t b:Int)∣b:=Int.gcd_dvd_right ..
 unfold cm;split
 ·exact Int.neg_dvd.mpr h
 ·exact h
theorem qln {c t:Int} (h:c∣t):c*(t.fdiv c)=t:=Int.mul_fdiv_cancel' h
theorem zaev (t b:Int):cm t b*shT t b=t:=qln (zacr t b)
theorem qoc (t b:Int):cm t b*shB t b=b:=qln (zach t b)
theorem qrc (t b:Int):(cm t b).natAbs=Int.gcd t b:=by unfold cm;split <;> omega
theorem qzx {t b:Int} (hb:b≠0):Shr (shT t b) (shB t b)∧shT t b*b=t*shB t b:=by
 have h1:=zaev t b
 have h2:=qoc t b
 have hc:=zagz (t:=t) hb
 have hg:=qxn (t:=t) hb
 refine ⟨⟨?_,?_⟩,?_⟩
 ·by_cases hn:b<0
  ·have hcn:cm t b<0:=by unfold cm;rw [if_pos hn];omega
   have:0<shB t b:=by
    rcases Int.lt_or_le 0 (shB t b) with h|h
    ·exact h
    ·have:=Int.mul_nonneg_of_nonpos_of_nonpos (Int.le_of_lt hcn) h
     omega
   omega
  ·have hcn:0<cm t b:=by unfold cm;rw [if_neg hn];omega
   have hbp:0<b:=by omega
   have:0<shB t b:=by
    rcases Int.lt_or_le 0 (shB t b) with h|h
    ·exact h
    ·have:=Int.mul_nonpos_of_nonneg_of_nonpos (Int.le_of_lt hcn) h
     omega
   omega
 ·have e:Int.gcd (cm t b*shT t b) (cm t b*shB t b)=(cm t b).natAbs*Int.gcd (shT t b) (shB t b):=Int.gcd_mul_left ..
  rw [h1,h2,qrc] at e
  have e2:Int.gcd t b*1=Int.gcd t b*Int.gcd (shT t b) (shB t b):=by omega
  exact (Nat.eq_of_mul_eq_mul_left hg e2).symm
 ·have e:shT t b*(cm t b*shB t b)=(cm t b*shT t b)*shB t b:=by
   rw [← Int.mul_assoc,Int.mul_comm (shT t b)]
  rw [h2,h1] at e
  exact e
theorem zaej {k m n:Int} (h:Int.gcd m k=1) (e:k∣m*n):k∣n:=by
 have e':k.natAbs∣m.natAbs*n.natAbs:=by rw [← Int.natAbs_mul];exact Int.natAbs_dvd_natAbs.mpr e
 have c:Nat.Coprime k.natAbs m.natAbs:=by
  show Nat.gcd k.natAbs m.natAbs=1
  rw [Nat.gcd_comm];exact h
 exact Int.natAbs_dvd_natAbs.mp (c.dvd_of_dvd_mul_left e')
open Builtin.Int (intBits)
theorem zaes {t b:Int}{m:Nat} (hb:b≠0) (h:intBits b≤m):intBits (cm t b)≤m:=by
 refine intBits_le_of_natAbs ?_ h
 rw [qrc]
 exact Nat.le_of_dvd (by omega) (Nat.gcd_dvd_right t.natAbs b.natAbs)
theorem qks {t b:Int}{m:Nat} (h:intBits t≤m):intBits (shT t b)≤m:=intBits_fdiv_le h
theorem zabt {t b:Int}{m:Nat} (h:intBits b≤m):intBits (shB t b)≤m:=intBits_fdiv_le h
theorem qob {a b:Int} (ha:intBits a≤4000) (hb:intBits b≤4000):IntMulOk a b :=.of_le ha hb (by decide)
theorem qB {x:Int}{m n:Nat} (h:intBits x≤m) (e:m≤n):intBits x≤n:=Nat.le_trans h e
theorem qax {x:Int} (h1 : -(2^64)<x) (h2:x<2^64):intBits x≤64:=intBits_le_64 h1 h2
theorem qra {zs:List Int}{i:Nat}{z:Int} (h:zs[i]?=some z):zs.take (i+1)=zs.take i++[z]:=by
 rw [List.take_add_one,h];rfl
theorem qbb {zs:List Int}{i:Nat}{x:PyData} (h:(zs.map PyData.int)[i]?=some x) : ∃ z,x = .int z∧zs[i]?=some z∧z ∈ zs:=by
 rw [List.getElem?_map] at h
 cases e:zs[i]? with
 | none=>rw [e] at h;cases h
 | some z =>
  rw [e] at h
  exact ⟨z,(Option.some.inj h).symm,rfl,List.mem_of_getElem? e⟩
structure Tab (b:Int) (R:List (List Int)) (n:Nat):Prop where
 pos:1≤b
 len : ∀ r ∈ R,r.length=n
 nn : ∀ r ∈ R,∀ x ∈ r,0≤x
 sum : ∀ r ∈ R,r.sum=b
def qak (r:List Int):PyData :=.list (r.map .int)
def qdy (r:List Int):PyData :=.tuple (r.map .int)
theorem qyf {α:Type}{l:List α}{i:Nat}{x:α} (h:l[i]?=some x):x ∈ l:=List.mem_of_getElem? h
theorem qeb {n:Nat} (h:n≤1000):n≤sizeLine:=Nat.le_of_lt (qo h)
theorem qas {α:Type} (y:α) (l:List α):atI (y::l) 0=some y:=qM (j:=0) rfl
theorem qxh {α:Type}{l:List α}{i:Int}{x:α} (h0:0≤i) (h:l[i.toNat]?=some x):atI l i=some x:=by
 have:=qM h
 rwa [Int.toNat_of_nonneg h0] at this
theorem iteB {c:Bool}{A B:Prop} (h1:c=true→A) (h2:c=false→B):if c=true then A else B:=by
 cases c with
 | true=>exact qur (h1 rfl)
 | false=>exact qsk (h2 rfl)
def qdb (R:List (List Int)):PyData :=.list (R.map qak)
theorem zadt : ∀ {r:List Int},(∀ n ∈ r,0≤n)→0≤r.sum
 | [],_=>by simp
 | n::r,h=>by
  rw [List.sum_cons]
  have a:=h n (by simp)
  have b:=zadt fun m hm=>h m (List.mem_cons_of_mem _ hm)
  omega
theorem qnn : ∀ {r:List Int}{x:Int},(∀ n ∈ r,0≤n)→x ∈ r→x≤r.sum
 | n::r,x,h,hx=>by
  rw [List.sum_cons]
  have a:=h n (by simp)
  have b:=zadt fun m hm=>h m (List.mem_cons_of_mem _ hm)
  rcases List.mem_cons.mp hx with rfl|hx
  ·omega
  ·have:=qnn (fun m hm=>h m (List.mem_cons_of_mem _ hm)) hx
   omega
theorem Tab.le {b:Int}{R:List (List Int)}{n:Nat}{r:List Int}{x:Int} (h:Tab b R n) (hr:r ∈ R) (hx:x ∈ r):0≤x∧x≤b :=
 ⟨h.nn r hr x hx,h.sum r hr ▸ qnn (h.nn r hr) hx⟩
theorem iteN {b:Bool}{A B:Prop} (h:b=true) (k:B):if (!b)=true then A else B:=by rw [h];exact qsk k
theorem iteY {b:Bool}{A B:Prop} (h:b=true) (k:A):if b=true then A else B:=by rw [h];exact qur k
theorem iteZ {b:Bool}{A B:Prop} (h:b=false) (k:B):if b=true then A else B:=by rw [h];exact qsk k
def qaq (g:Nat) (r:List Int):Nat:=r.foldl (fun (g:Nat) (n:Int)=>Int.gcd g n) g
def qbx (R:List (List Int)):Nat:=R.foldl qaq 0
theorem qgg : ∀ (r:List Int) (g:Nat),qaq g r∣g
 | [],g=>Nat.dvd_refl _
 | n::r,g=>Nat.dvd_trans (qgg r (Int.gcd g n)) (by have:=Int.gcd_dvd_natAbs_left (g:Int) n;simpa using this)
theorem qkj : ∀ (r:List Int) (g:Nat),∀ n ∈ r,(qaq g r:Int)∣n
 | m::r,g,n,h=>by
  rcases List.mem_cons.mp h with rfl|h
  ·exact Int.dvd_trans (Int.natCast_dvd_natCast.mpr (qgg r (Int.gcd g n))) (Int.gcd_dvd_right ..)
  ·exact qkj r (Int.gcd g m) n h
theorem qjd : ∀ (R:List (List Int)) (g:Nat),R.foldl qaq g∣g
 | [],g=>Nat.dvd_refl _
 | r::R,g=>Nat.dvd_trans (qjd R (qaq g r)) (qgg r g)
theorem qqj : ∀ (R:List (List Int)) (g:Nat),∀ r ∈ R,∀ n ∈ r,((R.foldl qaq g:Nat):Int)∣n
 | s::R,g,r,h,n,hn=>by
  rcases List.mem_cons.mp h with rfl|h
  ·exact Int.dvd_trans (Int.natCast_dvd_natCast.mpr (qjd R (qaq g r))) (qkj r g n hn)
  ·exact qqj R (qaq g s) r h n hn
theorem qhv {R:List (List Int)}{r:List Int}{n:Int} (h:r ∈ R) (hn:n ∈ r):(qbx R:Int)∣n:=qqj R 0 r h n hn
theorem quv (k:Nat) : ∀ (r:List Int) (g:Nat),qaq (k*g) (r.map fun n=>(k:Int)*n)=k*qaq g r
 | [],g=>rfl
 | n::r,g=>by
  have e:Int.gcd ((k*g:Nat):Int) ((k:Int)*n)=k*Int.gcd g n:=by
   rw [Int.natCast_mul,Int.gcd_mul_left];rfl
  show qaq (Int.gcd ((k*g:Nat):Int) ((k:Int)*n)) (r.map fun n=>(k:Int)*n)=_
  rw [e]
  exact quv k r (Int.gcd g n)
theorem qqz (k:Nat) : ∀ (R:List (List Int)) (g:Nat),(R.map fun r=>r.map fun n=>(k:Int)*n).foldl qaq (k*g)=k*R.foldl qaq g
 | [],g=>rfl
 | r::R,g=>by
  show (R.map fun r=>r.map fun n=>(k:Int)*n).foldl qaq (qaq (k*g) (r.map fun n=>(k:Int)*n))=_
  rw [quv]
  exact qqz k R (qaq g r)
theorem quh (k:Nat) (R:List (List Int)):qbx (R.map fun r=>r.map fun n=>(k:Int)*n)=k*qbx R:=qqz k R 0
def qfx (R:List (List Int)) (g:Int):List (List Int):=R.map fun r=>r.map fun n=>n/g
theorem qdx {α:Type}{f:α→α} : ∀ {l:List α},(∀ x ∈ l,f x=x)→l.map f=l
 | [],_=>rfl
 | x::l,h=>by rw [List.map_cons,h x (by simp),qdx fun y hy=>h y (List.mem_cons_of_mem _ hy)]
theorem zacm {R:List (List Int)}:(qfx R (qbx R)).map (fun r=>r.map fun n=>(qbx R:Int)*n)=R:=by
 unfold qfx
 rw [List.map_map]
 refine qdx fun r hr=>?_
 show (r.map fun n=>n/(qbx R:Int)).map (fun n=>(qbx R:Int)*n)=r
 rw [List.map_map]
 exact qdx fun n hn=>Int.mul_ediv_cancel' (qhv hr hn)
theorem zack {R:List (List Int)} (h:0<qbx R):qbx (qfx R (qbx R))=1:=by
 have e:=quh (qbx R) (qfx R (qbx R))
 rw [zacm] at e
 have e2:qbx R*1=qbx R*qbx (qfx R (qbx R)):=by omega
 exact (Nat.eq_of_mul_eq_mul_left h e2).symm
theorem que : ∀ {r:List Int},(∀ n ∈ r,n=0)→r.sum=0
 | [],_=>rfl
 | n::r,h=>by rw [List.sum_cons,h n (by simp),que fun m hm=>h m (List.mem_cons_of_mem _ hm)];rfl
theorem Tab.gpos {b:Int}{R:List (List Int)}{n:Nat} (h:Tab b R n) (hR:R≠[]):0<qbx R:=by
 rcases Nat.eq_zero_or_pos (qbx R) with e|e
 ·exfalso
  obtain ⟨r,R',rfl⟩:=List.exists_cons_of_ne_nil hR
  have h1:=h.sum r (by simp)
  have h2 : ∀ m ∈ r,m=0:=fun m hm=>by
   have:=qhv (R:=r::R') (by simp) hm
   rw [e] at this
   exact Int.zero_dvd.mp this
  rw [que h2] at h1
  have:=h.pos
  omega
 ·exact e
theorem qyb {g:Int} : ∀ {r:List Int},(∀ n ∈ r,g∣n)→g∣r.sum
 | [],_=>by simp
 | n::r,h=>by rw [List.sum_cons];exact Int.dvd_add (h n (by simp)) (qyb fun m hm=>h m (List.mem_cons_of_mem _ hm))
theorem Tab.gdvd {b:Int}{R:List (List Int)}{n:Nat} (h:Tab b R n) (hR:R≠[]):(qbx R:Int)∣b:=by
 obtain ⟨r,R',rfl⟩:=List.exists_cons_of_ne_nil hR
 rw [← h.sum r (by simp)]
 exact qyb fun m hm=>qhv (by simp) hm
theorem qyh {g:Int} : ∀ {r:List Int},(∀ n ∈ r,g∣n)→(r.map fun n=>n/g).sum=r.sum/g
 | [],_=>by simp
 | n::r,h=>by
  rw [List.map_cons,List.sum_cons,List.sum_cons,qyh fun m hm=>h m (List.mem_cons_of_mem _ hm)]
  exact (Int.add_ediv_of_dvd_left (h n (by simp))).symm
theorem Tab.low {b:Int}{R:List (List Int)}{n:Nat} (h:Tab b R n) (hR:R≠[]):Tab (b/qbx R) (qfx R (qbx R)) n:=by
 have hp:=h.gpos hR
 have hd:=h.gdvd hR
 have hb:=h.pos
 have hgb:(qbx R:Int)≤b:=Int.le_of_dvd (by omega) hd
 refine ⟨?_,?_,?_,?_⟩
 ·exact (Int.le_ediv_iff_mul_le (by omega)).mpr (by omega)
 ·intro r hr
  obtain ⟨s,hs,rfl⟩:=List.mem_map.mp hr
  rw [List.length_map];exact h.len s hs
 ·intro r hr x hx
  obtain ⟨s,hs,rfl⟩:=List.mem_map.mp hr
  obtain ⟨y,hy,rfl⟩:=List.mem_map.mp hx
  exact Int.ediv_nonneg (h.nn s hs y hy) (by omega)
 ·intro r hr
  obtain ⟨s,hs,rfl⟩:=List.mem_map.mp hr
  rw [qyh fun m hm=>qhv hs hm,h.sum s hs]
theorem qqk (g:Nat) (r:List Int) (n:Int):qaq g (r++[n])=Int.gcd (qaq g r) n:=by unfold qaq;rw [List.foldl_append];rfl
def qat (b:Int) (R:List (List Int)):PyData :=.tuple [.int b,.tuple (R.map qdy)]
def qlg (ds:List PyData) (q:PyData→Prop):Prop := ∃ b R,ds=[qat b R]∧q (.int (R.length:Nat))
theorem qzv:FnScope ["glass"] ["glass"] (defScope qkm):=⟨rfl,rfl,rfl,by decide +kernel,rfl,by decide +kernel,by decide +kernel⟩
theorem qzn (F:Def K mg "stands" qkm ["glass"]) (T:Txt K mg cs)
 : Ok P w K mg base "stands" 1 ["glass"] (PSp K qlg):=by
  refine F.vok qzv (by rintro ds q ⟨_,_,h,_⟩;rw [h];rfl) fun f cdv A outer s H E hr ds q h=>?_
  obtain ⟨b,R,rfl,h⟩:=h
  refine ⟨_,(qh (qv (qr qag T.len_ L2.boot_len (qc (qq (qb 0) qe) qf)))),?_⟩
  refine ⟨_,rfl,?_⟩
  have e:(R.map qdy).length=R.length:=by simp
  show q (.int ((R.map qdy).length:Nat))
  rw [e];exact h
def qfk (ds:List PyData) (q:PyData→Prop):Prop := ∃ b r R,ds=[qat b (r::R)]∧q (.int (r.length:Nat))
theorem zaau:FnScope ["glass"] ["glass"] (defScope qno):=⟨rfl,rfl,rfl,by decide +kernel,rfl,by decide +kernel,by decide +kernel⟩
theorem zaaw (F:Def K mg "signs" qno ["glass"]) (T:Txt K mg cs)
 : Ok P w K mg base "signs" 1 ["glass"] (PSp K qfk):=by
  refine F.vok zaau (by rintro ds q ⟨_,_,_,h,_⟩;rw [h];rfl) fun f cdv A outer s H E hr ds q h=>?_
  obtain ⟨b,r,R,rfl,h⟩:=h
  refine ⟨_,(qh (qv (qr qag T.len_ L2.boot_len (qc (qq (qq (qb 0) qe) qe) qf)))),?_⟩
  refine ⟨_,rfl,_,qas _ _,?_⟩
  have e:(r.map PyData.int).length=r.length:=by simp
  show q (.int ((r.map PyData.int).length:Nat))
  rw [e];exact h
def qbg (ds:List PyData) (q:PyData→Prop):Prop := ∃ b R c S,ds=[qat b R,qat c S]∧R.length=S.length∧q .none
theorem qgy:FnScope ["one","other"] ["one","other"] (defScope qal):=⟨rfl,rfl,rfl,by decide +kernel,rfl,by decide +kernel,by decide +kernel⟩
theorem qgx (F:Def K mg "check_alike_stands" qal ["one","other"]) (T:Txt K mg cs)
 (O_stands:Ok P w K mg base "stands" 1 ["glass"] (PSp K qlg))
 : Ok P w K mg base "check_alike_stands" 2 ["one","other"] (PSp K qbg):=by
  refine F.vok qgy (by rintro ds q ⟨_,_,_,_,h,_⟩;rw [h];rfl) fun f cdv A outer s H E hr ds q h=>?_
  obtain ⟨b,R,c,S,rfl,hl,h⟩:=h
  refine ⟨_,(qh (qam (qA (qlc hr.units) (qx O_stands (hr.mono (by decide)) (qc (qb 0) qf)) (qx O_stands (hr.mono (by decide)) (qc (qb 1) qf))) qey qI)),?_⟩
  refine ⟨b,R,rfl,c,S,rfl,rfl,rfl,qew (fun z=>?_) (fun _=>h)⟩
  exfalso;apply z;rw [hl]
def qhm (ds:List PyData) (q:PyData→Prop):Prop := ∃ ns:List Int,ds=[.list (ns.map .int)]∧((∀ n ∈ ns,n≤0)→q .none) ∧ ∀ (c:Nat) (x:Int),ns[c]?=some x→0<x→(∀ j y,j<c→ns[j]?=some y→y≤0)→q (.int c)
theorem qes:FnScope ["numbers","place","number"] ["numbers"] (defScope qdt):=⟨rfl,rfl,rfl,by decide +kernel,rfl,by decide +kernel,by decide +kernel⟩
theorem qmx (F:Def K mg "first_above" qdt ["numbers"]) (T:Txt K mg cs)
 : Ok P w K mg base "first_above" 1 ["numbers"] (PSp K qhm):=by
  refine F.vok qes (by rintro ds q ⟨_,h,_⟩;rw [h];rfl) fun f cdv A outer s H E hr ds q h=>?_
  obtain ⟨ns,rfl,h1,h2⟩:=h
  refine ⟨_,(qg (qai rfl (qru T.enumerate_ (qb 0)) (qft (n:=2) rfl (qK (qm (i:=1) qes.nd) (qK (qm (i:=2) qes.nd) qdd))) (qh (qam (qA qxc (qb 2) qe) (qh (qv (qb 1))) qI)))
   (qh (qv qti))),?_⟩
  refine ⟨fun i e => ∃ t1 t2,e=[.val (.list (ns.map .int)),t1,t2] ∧ ∀ j y,j<i→ns[j]?=some y→y≤0,⟨_,_,rfl,fun j y hj=>by omega⟩,?_,?_⟩
  ·rintro i x e hx ⟨t1,t2,rfl,hI⟩
   obtain ⟨x,hx',rfl⟩:=qli hx
   obtain ⟨x,rfl,hx',_⟩:=qbb hx'
   refine ⟨rfl,rfl,qix (fun a=>h2 i x hx' a hI) (fun a=>⟨_,_,rfl,fun j y hj hy=>?_⟩)⟩
   by_cases e:j=i
   ·subst e;rw [hx'] at hy;cases hy;omega
   ·exact hI j y (by omega) hy
  ·rintro e ⟨t1,t2,rfl,hI⟩
   rw [qex,List.length_map] at hI
   refine h1 fun n hn=>?_
   obtain ⟨j,hj,rfl⟩:=List.mem_iff_getElem.mp hn
   exact hI j _ hj (List.getElem?_eq_getElem hj)
def qdn:DC
 | [.int a,.int b],q=>q (.int (Int.gcd a b))
 | _,_=>False
theorem zads (x:Int):0≤(if x<0 then -x else x):=by split <;> omega
theorem qde:FnScope ["one","other","rest"] ["one","other"] (defScope qii):=⟨rfl,rfl,rfl,by decide +kernel,rfl,by decide +kernel,by decide +kernel⟩
theorem qvu (F:Def K mg "divisor" qii ["one","other"]) (T:Txt K mg cs)
 : Ok P w K mg base "divisor" 1 ["one","other"] (PSp K qdn):=by
  refine F.vok qde (fun ds q h=>by unfold qdn at h;split at h;all_goals first|rfl|exact h.elim) fun f cdv A outer s H E hr ds q h=>?_
  match ds,h with
  | [.int a,.int b],h =>
  refine ⟨_,(qg (qC (i:=0) qde.nd (qr zady T.abs_ L2.boot_abs (qc (qb 0) qf)))
   (qg (qC (i:=1) qde.nd (qr zady T.abs_ L2.boot_abs (qc (qb 1) qf)))
   (qg (qus (qA (qlc hr.units) (qb 1) qe) (qg (qC (i:=2) qde.nd (qw qij (qb 0) (qb 1)))
   (qg (qC (i:=0) qde.nd (qb 1))
   (qh (qC (i:=1) qde.nd (qb 2))))))
   (qh (qv (qb 0)))))),?_⟩
  refine ⟨fun m e => ∃ x y r,e=[.val (.int x),.val (.int y),r]∧0≤x∧0≤y∧Nat.gcd x.toNat y.toNat=Int.gcd a b∧m=y.toNat,⟨_,_,_,_,rfl,zads a,zads b,qzj a b,rfl⟩,?_⟩
  rintro m e ⟨x,y,r,rfl,hx,hy,hg,rfl⟩
  refine ⟨rfl,rfl,qew (fun hne=>?_) (fun he=>?_)⟩
  ·obtain ⟨t1,t2,t3⟩:=qux hx hy hne hg
   exact ⟨by omega,(x%y).toNat,by omega,y,x%y,_,rfl,hy,t1,t3,rfl⟩
  ·subst he
   have:=qxy hx rfl hg
   rw [this];exact h
def qqh (ds:List PyData) (q:List PyData→Prop):Prop := ∃ ws:List Int,ds=[.list (ws.map .int)]∧(ws.length≤400∧0<qaq 0 ws∧intBits (qaq 0 ws:Int)≤9000)∧q ((ws.map fun x=>x/(qaq 0 ws:Int)).map .int)
theorem qio:FnScope ["weights","common","weight"] ["weights"] (defScope qki):=⟨rfl,rfl,rfl,by decide +kernel,rfl,by decide +kernel,by decide +kernel⟩
theorem qyu (F:Def K mg "lowest" qki ["weights"]) (T:Txt K mg cs)
 (O_divisor:Ok P w K mg base "divisor" 1 ["one","other"] (PSp K qdn))
 : Ok P w K mg base "lowest" 2 ["weights"] (FSp K qqh):=by
  refine F.vokF qio (by rintro ds q ⟨_,h,_⟩;rw [h];rfl) fun f cdv A outer s H E hr ds q h=>?_
  obtain ⟨ws,rfl,⟨hl,g0,g1⟩,h⟩:=h
  refine ⟨_,(qg (qC (i:=1) qio.nd qe)
   (qg (qai rfl (qQ (qb 0)) (qm (i:=2) qio.nd) (qh (qC (i:=1) qio.nd (qx O_divisor (hr.mono (by decide)) (qc (qb 1) (qc (qb 2) qf))))))
   (qh (qhc (qR (caps:=["common"]) (own:=["weight"]) (ix:=[1]) rfl ⟨rfl,rfl,rfl,rfl,rfl,rfl⟩ (qQ (qb 0)) (fun _ _ _ _=>(qm (i:=1) (show List.Nodup (["common","weight"]:List Str) by decide))) (fun _ _ _ _=>(qw qhz (qb 1) (qb 0)))))))),?_⟩
  refine ⟨fun i e => ∃ t c,e=[.val (.list (ws.map .int)),.val (.int c),t]∧c=(qaq 0 (ws.take i):Int),⟨_,_,rfl,rfl⟩,?_,?_⟩
  ·rintro i x e hx ⟨t,_,rfl,rfl⟩
   obtain ⟨x,rfl,hx,_⟩:=qbb hx
   refine ⟨_,_,rfl,?_⟩
   rw [qra hx,qqk]
  ·rintro e ⟨t,_,rfl,rfl⟩
   rw [List.length_map,List.take_length]
   refine qbc ((ws.map fun x=>x/(qaq 0 ws:Int)).map .int) (by simp) (qo (by simp;omega)) (fun e => ∃ s,e=[.val (.int (qaq 0 ws)),s]) ⟨_,rfl⟩ ?_ ⟨_,rfl,h⟩
   rintro i x ys e hx hys ⟨s,rfl⟩
   obtain ⟨x,rfl,hx,_⟩:=qbb hx
   refine ⟨⟨by omega,g1⟩,qt ?_ hys,_,rfl⟩
   rw [List.getElem?_map,List.getElem?_map,hx];rfl
def bFs (n d:Int) (Ls:List (List Int)) (ss:List Int):List (Str×PyData):=[("unknowns",.int n),("bottom",.int d),("lines",.list (Ls.map qak)),("stands_for",.list (ss.map .int))]
def bNm:List Str:=["unknowns","bottom","lines","stands_for"]
def at2 (Ls:List (List Int)) (k j:Nat):Int:=(((Ls[k]?).getD [])[j]?).getD 0
structure Bd (m w:Nat) (Ls:List (List Int)) (ss:List Int):Prop where
 l:Ls.length=m
 s:ss.length=m
 w : ∀ r ∈ Ls,r.length=w
 z : ∀ r ∈ Ls,∀ x ∈ r,intBits x≤2000
theorem Bd.row {m w:Nat}{Ls:List (List Int)}{ss:List Int} (h:Bd m w Ls ss) {k:Int} (h0:0≤k) (h1:k<m) : ∃ r,Ls[k.toNat]?=some r∧atI (Ls.map qak) k=some (qak r)∧r.length=w:=by
 have hl:=h.l
 have e:Ls[k.toNat]?=some (Ls[k.toNat]'(by omega)):=List.getElem?_eq_getElem _
 exact ⟨_,e,qxh h0 (by rw [List.getElem?_map,e];rfl),h.w _ (List.mem_of_getElem? e)⟩
theorem Bd.at {m w:Nat}{Ls:List (List Int)}{ss:List Int} (h:Bd m w Ls ss) {k j:Nat}{r:List Int} (hr:Ls[k]?=some r) (hj:j<w):r[j]?=some (at2 Ls k j)∧intBits (at2 Ls k j)≤2000:=by
 have hl:=h.w r (List.mem_of_getElem? hr)
 have e:r[j]?=some (r[j]'(by omega)):=List.getElem?_eq_getElem _
 have e2:at2 Ls k j=r[j]'(by omega):=by unfold at2;rw [hr];show (r[j]?).getD 0=_;rw [e];rfl
 rw [e2]
 exact ⟨e,h.z r (List.mem_of_getElem? hr) _ (List.getElem_mem _)⟩
theorem zadh {l:Nat}{j:Int} (h0:0≤j) (h:j<l):ixN l j=some j.toNat:=by
 unfold ixN
 rw [if_pos h0,if_pos h]
theorem atI_last {α:Type}{l:List α}{x:α} (h:l[l.length-1]?=some x):atI l (-1)=some x:=by
 have h0:0<l.length:=by
  rcases Nat.eq_zero_or_pos l.length with e|e
  ·rw [List.getElem?_eq_none (by omega)] at h;cases h
  ·exact e
 unfold atI ixN
 rw [if_neg (by decide),if_pos (by omega)]
 show l[(-1+(l.length:Int)).toNat]?=some x
 rw [show (-1+(l.length:Int)).toNat=l.length-1 by omega];exact h
def qhd (Ls:List (List Int)) (ss:List Int) (w k c p:Nat):Bool :=
 decide (at2 Ls k (w-1)*at2 Ls c p<at2 Ls c (w-1)*at2 Ls k p)||(decide (at2 Ls k (w-1)*at2 Ls c p=at2 Ls c (w-1)*at2 Ls k p)&&decide ((ss[k]?).getD 0<(ss[c]?).getD 0))
def Tg (Ls:List (List Int)) (ss:List Int) (w p i r:Nat):Prop:=0<at2 Ls r p ∧ ∀ k,k<i→0<at2 Ls k p →
 at2 Ls r (w-1)*at2 Ls k p≤at2 Ls k (w-1)*at2 Ls r p∧(at2 Ls r (w-1)*at2 Ls k p=at2 Ls k (w-1)*at2 Ls r p→(ss[r]?).getD 0≤(ss[k]?).getD 0)
section
variable {Ls:List (List Int)}{ss:List Int}{w p i r:Nat}
theorem Tg.skip (h:Tg Ls ss w p i r) (hn : ¬ 0<at2 Ls i p):Tg Ls ss w p (i+1) r:=⟨h.1,fun k hk hp=>by
 by_cases e:k=i
 ·subst e;exact (hn hp).elim
 ·exact h.2 k (by omega) hp⟩
theorem Tg.stay (h:Tg Ls ss w p i r) (ht:qhd Ls ss w i r p=false):Tg Ls ss w p (i+1) r:=⟨h.1,fun k hk hp=>by
 by_cases e:k=i
 ·subst e
  unfold qhd at ht
  rw [Bool.or_eq_false_iff,Bool.and_eq_false_iff,decide_eq_false_iff_not,decide_eq_false_iff_not,decide_eq_false_iff_not] at ht
  refine ⟨by omega,fun e=>?_⟩
  rcases ht.2 with z|z
  ·exact (z e.symm).elim
  ·omega
 ·exact h.2 k (by omega) hp⟩
theorem Tg.first (hn : ∀ k,k<i → ¬ 0<at2 Ls k p) (hp:0<at2 Ls i p):Tg Ls ss w p (i+1) i:=⟨hp,fun k hk hp'=>by
 by_cases e:k=i
 ·subst e;exact ⟨Int.le_refl _,fun _=>Int.le_refl _⟩
 ·exact (hn k (by omega) hp').elim⟩
theorem Tg.take (h:Tg Ls ss w p i r) (hp:0<at2 Ls i p) (ht:qhd Ls ss w i r p=true):Tg Ls ss w p (i+1) i:=⟨hp,fun k hk hk'=>by
 by_cases e:k=i
 ·subst e;exact ⟨Int.le_refl _,fun _=>Int.le_refl _⟩
 ·obtain ⟨a,b⟩:=h.2 k (by omega) hk'
  have hr:=h.1
  unfold qhd at ht
  rw [Bool.or_eq_true,Bool.and_eq_true,decide_eq_true_eq,decide_eq_true_eq,decide_eq_true_eq] at ht
  generalize at2 Ls k p=ak at *
  generalize at2 Ls i p=ai at *
  generalize at2 Ls r p=ar at *
  generalize at2 Ls k (w-1)=sk at *
  generalize at2 Ls i (w-1)=si at *
  generalize at2 Ls r (w-1)=sr at *
  have c1:si*ar≤sr*ai:=by omega
  have d1:(si*ar)*ak≤(sr*ai)*ak:=Int.mul_le_mul_of_nonneg_right c1 (by omega)
  have d2:(sr*ak)*ai≤(sk*ar)*ai:=Int.mul_le_mul_of_nonneg_right a (by omega)
  have e1:(sr*ai)*ak=(sr*ak)*ai:=by grind
  have e2:(si*ar)*ak=ar*(si*ak):=by grind
  have e3:(sk*ar)*ai=ar*(sk*ai):=by grind
  refine ⟨Int.le_of_mul_le_mul_left (a:=ar) (by omega) hr,fun e=>?_⟩
  rw [e] at e2
  have g1:(si*ar)*ak=(sr*ai)*ak:=by omega
  have g2:(sr*ak)*ai=(sk*ar)*ai:=by omega
  have g1:=Int.eq_of_mul_eq_mul_right (by omega) g1
  have g2:=Int.eq_of_mul_eq_mul_right (by omega) g2
  have:=b g2
  omega⟩
end
def tn (s:Int):Int:=if s<0 then -1 else 1
def qmr (row:List Int) (s:Int) (k m:Nat):List Int:=(row++(List.range m).map (fun j=>if j=k then 1 else 0)++[s]).map fun x=>tn s*x
def qja (ds:List PyData) (q:List PyData→Prop):Prop := ∃ (row:List Int) (s:Int) (k m:Nat),ds=[.list (row.map .int),.int s,.int k,.int m]∧(row.length≤400∧m≤400)∧q ((qmr row s k m).map .int)
theorem qfr:FnScope ["row","total","k","many","turned","marks"] ["row","total","k","many"] (defScope qeg):=⟨rfl,rfl,rfl,by decide +kernel,rfl,by decide +kernel,by decide +kernel⟩
theorem qpd (F:Def K mg "first_line" qeg ["row","total","k","many"]) (T:Txt K mg cs)
 : Ok P w K mg base "first_line" 1 ["row","total","k","many"] (FSp K qja):=by
  refine F.vokF qfr (by rintro ds q ⟨_,_,_,_,h,_⟩;rw [h];rfl) fun f cdv A outer s H E hr ds q h=>?_
  obtain ⟨row,s,k,m,rfl,⟨hl,hm⟩,h⟩:=h
  refine ⟨_,(qfg (qC (i:=4) qfr.nd (qgb (qA qql (qb 1) qe) (qkd qe) qe))
   (qg (qxf (caps:=["k"]) (own:=["place"]) (ix:=[2]) (i:=5) qfr.nd rfl ⟨rfl,rfl,rfl,rfl,rfl,rfl⟩ (qE T.range_ (qb 3)) (fun _ _ _ _=>(qm (i:=1) (show List.Nodup (["k","place"]:List Str) by decide))) (fun _ _ _ _=>(qgb (qA (qms hr.units) (qb 1) (qb 0)) qe qe)))
   (qh (qhc (qR (caps:=["turned"]) (own:=["number"]) (ix:=[4]) rfl ⟨rfl,rfl,rfl,rfl,rfl,rfl⟩ (qQ (qT (qpy (qT (qpy (qT (qrf zadg T.list_ L2.boot_list (qc (qb 0) qf))) (qb 5))) (qT (qcd (qc (qb 1) qf)))))) (fun _ _ _ _=>(qm (i:=1) (show List.Nodup (["turned","number"]:List Str) by decide))) (fun _ _ _ _=>(qw qaw (qb 0) (qb 1)))))))),?_⟩
  refine ⟨fun e=>e=[.val (.list (row.map .int)),.val (.int s),.val (.int k),.val (.int m),.val (.int (tn s)),.non],?_,?_⟩
  ·refine qix (fun a=>?_) (fun a=>?_)
   ·show _=_;unfold tn;rw [if_pos a];rfl
   ·show _=_;unfold tn;rw [if_neg a];rfl
  rintro e rfl
  have hrl:(qrx 0 (m:Int).toNat).length=m:=by rw [qs];omega
  refine ⟨⟨by omega,by omega⟩,qo (by rw [hrl];omega),fun j ys e=>ys=(((List.range m).map fun j=>if j=k then (1:Int) else 0).map PyData.int).take j ∧ ∃ u,e=[.val (.int k),u],⟨by simp,_,rfl⟩,?_,?_⟩
  ·rintro i x ys e hx ⟨hys,u,rfl⟩
   obtain ⟨hi,rfl⟩:=qP hx
   have hi':i<m:=by omega
   have ge:(((List.range m).map fun j=>if j=k then (1:Int) else 0).map PyData.int)[i]?=some (.int (if i=k then 1 else 0)):=by
    rw [List.getElem?_map,List.getElem?_map,List.getElem?_range hi'];rfl
   refine ⟨rfl,rfl,qhi (fun a=>⟨qt (ge.trans ?_) hys,_,rfl⟩) (fun a=>⟨qt (ge.trans ?_) hys,_,rfl⟩)⟩
   ·rw [if_pos (by omega)]
   ·rw [if_neg (by omega)]
  rintro ys e ⟨hys,u,rfl⟩
  rw [hrl,List.take_of_length_le (by simp)] at hys
  subst hys
  have hall:row.map PyData.int++((List.range m).map fun j=>if j=k then (1:Int) else 0).map PyData.int++[PyData.int s]=(row++((List.range m).map fun j=>if j=k then (1:Int) else 0)++[s]).map PyData.int:=by
   rw [List.map_append,List.map_append];rfl
  refine ⟨qeb (by simp;omega),szl,qeb (by simp;omega),?_⟩
  refine qbc ((qmr row s k m).map .int) (by simp [qmr]) (qo (by simp [qmr];omega)) (fun e => ∃ u,e=[.val (.int (tn s)),u]) ⟨_,rfl⟩ ?_ ⟨_,rfl,h⟩
  rintro i x ys e hx hys ⟨u,rfl⟩
  rw [hall] at hx
  obtain ⟨x,rfl,hx,_⟩:=qbb hx
  refine ⟨IntMulOk.of_left (by unfold tn;split <;> decide),qt ?_ hys,_,rfl⟩
  unfold qmr
  rw [List.getElem?_map,List.getElem?_map,hx];rfl
structure BAt (K:PySem.W.Frag) (C:Addr) (H F:Hp) (a dx qa:Addr) (n:Nat) (d:Int) (Ls:List (List Int)) (ss:List Int) (vl:V):Prop where
 ha:H a=some (.ins C dx [("unknowns",.int n),("bottom",.int d),("lines",vl),("stands_for",.ref qa)])
 hl:Is K F (.list (Ls.map qak)) vl
 hq:H qa=some (.lst (ss.map V.int))
 fa:F a=none
 fq:F qa=none
theorem BAt.flds {K:PySem.W.Frag}{C:Addr}{H F:Hp}{a dx qa:Addr}{n:Nat}{d:Int}{Ls:List (List Int)}{ss:List Int}{vl:V} (h:BAt K C H F a dx qa n d Ls ss vl) :
 Flds K (upd F qa (.lst (ss.map V.int))) [("unknowns",.int n),("bottom",.int d),("lines",vl),("stands_for",.ref qa)] bNm (bFs n d Ls ss):=by
  have s:Same F (upd F qa (.lst (ss.map V.int))):=qda h.fq
  refine ⟨rfl,fun f e hm=>?_⟩
  unfold bFs at hm
  simp only [List.mem_cons,List.not_mem_nil,or_false,Prod.mk.injEq] at hm
  rcases hm with ⟨rfl,rfl⟩|⟨rfl,rfl⟩|⟨rfl,rfl⟩|⟨rfl,rfl⟩
  ·exact ⟨_,rfl,qZ _⟩
  ·exact ⟨_,rfl,qZ _⟩
  ·exact ⟨_,rfl,h.hl.mono s⟩
  ·exact ⟨_,rfl,qcq (SqL.of qp) (qhu ss)⟩
def bFs3 (n d:Int) (Ls:List (List Int)):List (Str×PyData):=[("unknowns",.int n),("bottom",.int d),("lines",.list (Ls.map qak))]
theorem BAt.flds3 {K:PySem.W.Frag}{C:Addr}{H F:Hp}{a dx qa:Addr}{n:Nat}{d:Int}{Ls:List (List Int)}{ss:List Int}{vl:V} (h:BAt K C H F a dx qa n d Ls ss vl) :
 Flds K F [("unknowns",.int n),("bottom",.int d),("lines",vl),("stands_for",.ref qa)] bNm (bFs3 n d Ls):=by
  refine ⟨rfl,fun f e hm=>?_⟩
  unfold bFs3 at hm
  simp only [List.mem_cons,List.not_mem_nil,or_false,Prod.mk.injEq] at hm
  rcases hm with ⟨rfl,rfl⟩|⟨rfl,rfl⟩|⟨rfl,rfl⟩
  ·exact ⟨_,rfl,qZ _⟩
  ·exact ⟨_,rfl,qZ _⟩
  ·exact ⟨_,rfl,h.hl⟩
def sgn (i:Nat):Int:=if i%2=0 then 1 else -1
theorem zabb (i:Nat):sgn (i+1) = - sgn i:=by
 unfold sgn
 split <;> split <;> omega
def qj:Nat→(Nat→Int)→Int
 | 0,_=>0
 | n+1,f=>qj n f+f n
theorem qi {f g:Nat→Int} : ∀ {n:Nat},(∀ i,i<n→f i=g i)→qj n f=qj n g
 | 0,_=>rfl
 | n+1,h=>by
  show qj n f+f n=qj n g+g n
  rw [qi fun i hi=>h i (by omega),h n (by omega)]
theorem qaj {f:Nat→Int}{n:Nat} (h : ∀ i,i<n→f i=0):qj n f=0:=by
 induction n with
 | zero=>rfl
 | succ n ih =>
  show qj n f+f n=0
  rw [ih fun i hi=>h i (by omega),h n (by omega)];rfl
theorem qfj (k l:Int) (f g:Nat→Int) : ∀ n:Nat,qj n (fun i=>k*f i+l*g i)=k*qj n f+l*qj n g
 | 0=>by show (0:Int)=k*0+l*0;omega
 | n+1=>by
  show qj n (fun i=>k*f i+l*g i)+(k*f n+l*g n)=k*(qj n f+f n)+l*(qj n g+g n)
  rw [qfj k l f g n];grind
theorem qu (k:Int) (f:Nat→Int) (n:Nat):qj n (fun i=>k*f i)=k*qj n f:=by
 have:=qfj k 0 f (fun _=>0) n
 simpa using this
theorem qcn (f g:Nat→Int) (n:Nat):qj n (fun i=>f i+g i)=qj n f+qj n g:=by
 have:=qfj 1 1 f g n
 simpa using this
theorem qU {f:Nat→Int}{n r:Nat} (hr:r<n) (h : ∀ i,i<n→i≠r→f i=0):qj n f=f r:=by
 induction n with
 | zero=>omega
 | succ n ih =>
  show qj n f+f n=f r
  by_cases e:r=n
  ·subst e
   rw [qaj fun i hi=>h i (by omega) (by omega)];omega
  ·rw [ih (by omega) fun i hi=>h i (by omega),h n (by omega) (by omega)];omega
theorem zacp {f:Nat→Int}{n r s:Nat} (hr:r<n) (hs:s<n) (hrs:r≠s) (h : ∀ i,i<n→i≠r→i≠s→f i=0):qj n f=f r+f s:=by
 have e:qj n f=qj n (fun i=>(if i=r then f r else 0)+(if i=s then f s else 0)):=qi fun i hi=>by
  by_cases e1:i=r
  ·subst e1;rw [if_pos rfl,if_neg hrs];omega
  ·by_cases e2:i=s
   ·subst e2;rw [if_neg e1,if_pos rfl];omega
   ·rw [if_neg e1,if_neg e2,h i hi e1 e2];rfl
 rw [e,qcn,qU hr fun i _ z=>if_neg z,qU hs fun i _ z=>if_neg z,if_pos rfl,if_pos rfl]
theorem quk {f:Nat→Nat→Int} : ∀ n:Nat,(∀ i j,i≤j→j<n→f (j+1) i = - f i j)→qj (n+1) (fun i=>qj n (f i))=0
 | 0,_=>rfl
 | n+1,h=>by
  have ih:=quk n fun i j hi hj=>h i j hi (by omega)
  have e:qj (n+1) (fun i=>qj (n+1) (f i))=qj (n+1) (fun i=>qj n (f i))+qj (n+1) (fun i=>f i n):=by
   rw [← qcn];rfl
  have e2:qj (n+1) (f (n+1)) = - qj (n+1) (fun i=>f i n):=by
   rw [qi (g:=fun i => -1*f i n) fun i hi=>by rw [h i n (by omega) (by omega)];omega,qu];omega
  show qj (n+1) (fun i=>qj (n+1) (f i))+qj (n+1) (f (n+1))=0
  rw [e,e2,ih];omega
def skip (i x:Nat):Nat:=if x<i then x else x+1
theorem qsv {i x m:Nat} (h:x<m):skip i x<m+1:=by unfold skip;split <;> omega
theorem qyz {i j x:Nat} (h:i≤j):skip (j+1) (skip i x)=skip i (skip j x):=by
 unfold skip
 split <;> split <;> split <;> (try split) <;> omega
def det:Nat→(Nat→Nat→Int)→Int
 | 0,_=>1
 | m+1,a=>qj (m+1) fun i=>sgn i*a i 0*det m (fun x y=>a (skip i x) (y+1))
theorem qfb : ∀ {m:Nat}{a b:Nat→Nat→Int},(∀ x y,x<m→y<m→a x y=b x y)→det m a=det m b
 | 0,_,_,_=>rfl
 | m+1,a,b,h=>qi fun i hi=>by
  rw [h i 0 hi (by omega),qfb fun x y hx hy=>h (skip i x) (y+1) (qsv hx) (by omega)]
def qaa (a:Nat→Nat→Int) (y:Nat) (v:Nat→Int):Nat→Nat→Int:=fun x z=>if z=y then v x else a x z
theorem qab {a:Nat→Nat→Int}{y:Nat}{v:Nat→Int}{x:Nat}:qaa a y v x y=v x:=if_pos rfl
theorem qau {a:Nat→Nat→Int}{y z:Nat}{v:Nat→Int}{x:Nat} (h:z≠y):qaa a y v x z=a x z:=if_neg h
theorem qfw (k l:Int) (u v:Nat→Int) : ∀ {m:Nat} (a:Nat→Nat→Int) {y:Nat},y<m → ∀ (u v:Nat→Int),
 det m (qaa a y fun x=>k*u x+l*v x)=k*det m (qaa a y u)+l*det m (qaa a y v)
  | m+1,a,0,_,u,v=>by
   unfold det
   rw [← qfj]
   refine qi fun i _=>?_
   have e : ∀ w,(fun x y=>qaa a 0 w (skip i x) (y+1))=fun x y=>a (skip i x) (y+1):=fun w=>by
    funext x y;exact qau (by omega)
   rw [e,e,e,qab,qab,qab];grind
  | m+1,a,y+1,hy,u,v=>by
   unfold det
   rw [← qfj]
   refine qi fun i _=>?_
   have e : ∀ w:Nat→Int,(fun x z=>qaa a (y+1) w (skip i x) (z+1))=qaa (fun x z=>a (skip i x) (z+1)) y fun x=>w (skip i x):=fun w=>by
    funext x z
    unfold qaa
    by_cases h:z=y
    ·subst h;rw [if_pos rfl,if_pos rfl]
    ·rw [if_neg (by omega),if_neg h]
   rw [e,e,e,qau (by omega),qau (by omega),qau (by omega)]
   rw [qfw k l u v (fun x z=>a (skip i x) (z+1)) (show y<m by omega) (fun x=>u (skip i x)) (fun x=>v (skip i x))];grind
theorem qsp : ∀ {m:Nat}{a:Nat→Nat→Int}{y:Nat},y+1<m→(∀ x,x<m→a x y=a x (y+1))→det m a=0
 | m+2,a,0,_,h=>by
  have e:det (m+2) a=qj (m+2) (fun i=>qj (m+1) (fun j=>sgn i*a i 0*(sgn j*a (skip i j) 1*det m (fun x y=>a (skip i (skip j x)) (y+2))))):=by
   show qj (m+2) _=_
   refine qi fun i _=>?_
   rw [qu];rfl
  rw [e]
  refine quk (m+1) fun i j hi hj=>?_
  have s1:skip (j+1) i=i:=by unfold skip;rw [if_pos (by omega)]
  have s2:skip i j=j+1:=by unfold skip;rw [if_neg (by omega)]
  rw [s1,s2,zabb,← h i (by omega),← h (j+1) (by omega)]
  have e3:(fun x y=>a (skip (j+1) (skip i x)) (y+2))=fun x y=>a (skip i (skip j x)) (y+2):=by
   funext x y;rw [qyz hi]
  rw [e3];grind
 | m+1,a,y+1,hy,h=>by
  show qj (m+1) _=0
  refine qaj fun i _=>?_
  rw [qsp (m:=m) (a:=fun x z=>a (skip i x) (z+1)) (y:=y) (by omega) fun x hx=>h (skip i x) (qsv hx)]
  omega
theorem qfa {a:Nat→Nat→Int}{y z:Nat}{u v:Nat→Int} (h:y≠z):qaa (qaa a y u) z v=qaa (qaa a z v) y u:=by
 funext x t
 unfold qaa
 by_cases h1:t=z
 ·by_cases h2:t=y
  ·omega
  ·simp [h1,Ne.symm h]
 ·simp [h1]
theorem qdw {a:Nat→Nat→Int}{y:Nat}:qaa a y (fun x=>a x y)=a:=by
 funext x t
 unfold qaa
 by_cases h:t=y
 ·subst h;rw [if_pos rfl]
 ·rw [if_neg h]
theorem qye {m:Nat}{a:Nat→Nat→Int}{y z:Nat} (hy:y<m) (hz:z<m) (hyz:y≠z) (h0 : ∀ w:Nat→Int,det m (qaa (qaa a y w) z w)=0) (u v:Nat→Int) :
 det m (qaa (qaa a y u) z v) = - det m (qaa (qaa a y v) z u):=by
  have e:=h0 fun x=>1*u x+1*v x
  rw [qfw 1 1 u v _ hz] at e
  rw [qfa hyz,qfa hyz,qfw 1 1 u v _ hy,qfw 1 1 u v _ hy,← qfa hyz,← qfa hyz,← qfa hyz,← qfa hyz,h0 u,h0 v] at e
  omega
theorem qsx : ∀ (d:Nat) {m:Nat}{a:Nat→Nat→Int}{y:Nat},y+d+1<m→(∀ x,x<m→a x y=a x (y+d+1))→det m a=0
 | 0,m,a,y,hm,h=>qsp hm h
 | d+1,m,a,y,hm,h=>by
  have h0 : ∀ w:Nat→Int,det m (qaa (qaa a (y+d+1) w) (y+d+2) w)=0:=fun w=>qsp (y:=y+d+1) (by omega) fun x _=>by
   rw [qau (by omega),qab,qab]
  have e:=qye (by omega) (by omega) (by omega) h0 (fun x=>a x (y+d+1)) (fun x=>a x (y+d+2))
  rw [qdw,show qaa a (y+d+2) (fun x=>a x (y+d+2))=a from qdw] at e
  rw [e,qsx d (y:=y) (by omega) fun x hx=>?_]
  ·rfl
  ·rw [qau (by omega),qau (by omega),qau (by omega),qab]
   exact h x hx
theorem qht {m:Nat}{a:Nat→Nat→Int}{y z:Nat} (hy:y<m) (hz:z<m) (hyz:y≠z) (h : ∀ x,x<m→a x y=a x z):det m a=0:=by
 rcases Nat.lt_or_gt_of_ne hyz with g|g
 ·obtain ⟨d,rfl⟩ : ∃ d,z=y+d+1:=⟨z-y-1,by omega⟩
  exact qsx d hz h
 ·obtain ⟨d,rfl⟩ : ∃ d,y=z+d+1:=⟨y-z-1,by omega⟩
  exact qsx d hy fun x hx=>(h x hx).symm
theorem zaav {m:Nat}{a:Nat→Nat→Int}{y z:Nat} (hy:y<m) (hz:z<m) (hyz:y≠z) (u v:Nat→Int) :
 det m (qaa (qaa a y u) z v) = - det m (qaa (qaa a y v) z u) :=
  qye hy hz hyz (fun w=>qht hy hz hyz fun x _=>by rw [qau hyz,qab,qab]) u v
theorem qsc : ∀ m:Nat,det m (fun x y=>if x=y then 1 else 0)=1
 | 0=>rfl
 | m+1=>by
  show qj (m+1) _=1
  rw [qU (r:=0) (by omega) fun i _ hi=>by show sgn i*(if i=0 then 1 else 0)*_=0;rw [if_neg hi,Int.mul_zero,Int.zero_mul]]
  have e:(fun x y=>if skip 0 x=y+1 then (1:Int) else 0)=fun x y=>if x=y then 1 else 0:=by
   funext x y
   have:skip 0 x=x+1:=by unfold skip;rw [if_neg (by omega)]
   rw [this];simp
  rw [e,qsc m];rfl
theorem qkz {m:Nat} (a:Nat→Nat→Int) {y:Nat} (hy:y<m) (c:Nat→Int) (w:Nat→Nat→Int) : ∀ n:Nat,
 det m (qaa a y fun x=>qj n fun i=>c i*w i x)=qj n fun i=>c i*det m (qaa a y (w i))
  | 0=>by
   have e:=qfw 0 0 (fun _=>0) (fun _=>0) a hy (fun _=>0) (fun _=>0)
   simp at e
   exact e
  | n+1=>by
   have e:(fun x=>qj (n+1) fun i=>c i*w i x)=fun x=>1*(qj n fun i=>c i*w i x)+c n*w n x:=by
    funext x;show (qj n fun i=>c i*w i x)+c n*w n x=_;omega
   rw [e,qfw 1 (c n) (w n) (w n) a hy,qkz a hy c w n]
   show _=(qj n fun i=>c i*det m (qaa a y (w i)))+c n*det m (qaa a y (w n))
   omega
structure InPre (n:Nat) (R:List (List Int)) (b:List Int):Prop where
 l:b.length=R.length
 w : ∀ r ∈ R,r.length=n
 hn:n≤20
 hm:R.length≤24
structure SvPre (n:Nat) (R:List (List Int)) (b:List Int):Prop where
 i:InPre n R b
 n1:1≤n
 m1:1≤R.length
 z : ∀ r ∈ R,∀ x ∈ r,x.natAbs≤20000000
 zb : ∀ x ∈ b,x.natAbs≤20000000
def FitV (n:Nat) (R:List (List Int)) (b:List Int) (vs:List (Int×Int)):Prop:=vs.length=n ∧ ∃ d:Int,0<d∧intBits d≤2000∧(∀ x ∈ vs,Shr x.1 x.2∧0≤x.1∧x.2∣d∧intBits x.1≤2000) ∧
 ∀ k,k<R.length→d*(b[k]?).getD 0=qj n fun u=>at2 R k u*(((vs[u]?).getD (0,1)).1*(d/((vs[u]?).getD (0,1)).2))
def zaec (n:Nat) (R:List (List Int)) (b:List Int) (ws:List Int):Prop:=ws.length=R.length∧(∀ j,j<n→(qj R.length fun l=>at2 R l j*(ws[l]?).getD 0)≤0)∧0<qj R.length fun l=>(b[l]?).getD 0*(ws[l]?).getD 0
def qJ (R:List (List Int)) (b:List Int):List (List Int):=(List.range R.length).map fun k=>qmr ((R[k]?).getD []) ((b[k]?).getD 0) k R.length
def qfc (m:Nat):List Int:=(List.range m).map fun (k:Nat) => -(m:Int)+k
def zadw (K:PySem.W.Frag) (C:Addr):Sp:=fun vs H Q _ => ∃ (a dx:Addr) (F:Hp) (vr vb:V) (n:Nat) (R:List (List Int)) (b:List Int),vs=[.ref a,.int n,vr,vb]∧H a=some (.ins C dx [])∧F a=none∧Same F H∧Is K F (qdb R) vr∧Is K F (.list (b.map .int)) vb∧InPre n R b ∧
 ∀ F' H' vl qa,H qa=none→GoX a qa F H F' H'→BAt K C H' F' a dx qa n 1 (qJ R b) (qfc R.length) vl→Q .non H'
theorem qjt:FnScope ["self","unknowns","rows","sums"] ["self","unknowns","rows","sums"] (defScope qbw):=⟨rfl,rfl,rfl,by decide +kernel,rfl,by decide +kernel,by decide +kernel⟩
theorem qju (F:MDef K cs.Board "__init__" "Board.__init__" qbw ["self","unknowns","rows","sums"]) (T:Txt K mg cs)
 (O_first_line:Ok P w K mg base "first_line" 1 ["row","total","k","many"] (FSp K qja))
 : OkM P w K mg base cs.Board "__init__" 2 ["self","unknowns","rows","sums"] (zadw K cs.Board):=by
  obtain ⟨f,fd,Fn,hm,hb⟩:=F.ex
  refine ⟨f,fd,Fn.ok qjt (by rintro vs H Q E ⟨_,_,_,_,_,_,_,_,h,_⟩;rw [h];rfl) fun cdv A outer s H vs Q E hr h=>?_,hm,hb⟩
  obtain ⟨a,dx,F0,vr,vb,n,R,b,rfl,ha,fa,sm,hR,hbs,hp,kk⟩:=h
  refine ⟨_,qz (qmo (qG (i:=0) rfl (by first|exact Or.inl rfl|exact Or.inr (Or.inl rfl)|exact Or.inr (Or.inr rfl)) (by decide) (by decide)) (qG (i:=1) rfl (by first|exact Or.inl rfl|exact Or.inr (Or.inl rfl)|exact Or.inr (Or.inr rfl)) (by decide) (by decide)) rfl) (qz (qmo (qG (i:=0) rfl (by first|exact Or.inl rfl|exact Or.inr (Or.inl rfl)|exact Or.inr (Or.inr rfl)) (by decide) (by decide)) qkg rfl) (qz (qmo (qG (i:=0) rfl (by first|exact Or.inl rfl|exact Or.inr (Or.inl rfl)|exact Or.inr (Or.inr rfl)) (by decide) (by decide)) (VE.pe (qT (qR (caps:=["rows","sums"]) (own:=["k"]) (ix:=[2,3]) rfl ⟨rfl,rfl,rfl,rfl,rfl,rfl⟩ (qE T.range_ (qr qag T.len_ L2.boot_len (qc (qb 2) qf))) (fun _ _ _ _=>(qm (i:=2) (show List.Nodup (["rows","sums","k"]:List Str) by decide))) (fun _ _ _ _=>(qT (qnk O_first_line (hr.mono (by decide)) (qc (qq (qb 0) (qb 2)) (qc (qq (qb 1) (qb 2)) (qc (qb 2) (qc (qr qag T.len_ L2.boot_len (qc (qb 0) qf)) qf)))))))))) rfl)
   (qfh (qmo (qG (i:=0) rfl (by first|exact Or.inl rfl|exact Or.inr (Or.inl rfl)|exact Or.inr (Or.inr rfl)) (by decide) (by decide)) (qie (qzm rfl) rfl T.list_ L2.boot_list (qL (qie qzf rfl T.range_ L2.boot_rng (qL (zahp zact (qhx qgh rfl T.len_ L2.boot_len (qL (qG (i:=2) rfl (by first|exact Or.inl rfl|exact Or.inr (Or.inl rfl)|exact Or.inr (Or.inr rfl)) (by decide) (by decide)) qbp))) (qL qkg qbp))) qbp)) rfl)))),?_⟩
  refine ⟨.int n,rfl,.ref a,rfl,a,cs.Board,dx,[],rfl,ha,T.Board_c,T.Board_n_unknowns,(show 0<1000 by decide),?_⟩
  refine ⟨.ref a,rfl,a,cs.Board,dx,[("unknowns",.int n)],rfl,qp,T.Board_c,T.Board_n_bottom,(show 1<1000 by decide),?_⟩
  rw [qxx]
  have hm24:=hp.hm
  have sF2 : ∀ o,Same F0 (upd H a o):=fun o c u e=>by rw [qk (ql e fa)];exact sm c u e
  have I3:=qgl (K:=K) (N:=["self","unknowns","rows","sums"]) (nm:=["unknowns","bottom"]) (fs:=[]) (C:=cs.Board) (a:=a) (dx:=dx) (us:=[("unknowns",.int n),("bottom",.int 1)]) (sF2 (.ins cs.Board dx [("unknowns",.int n),("bottom",.int 1)])) qp ⟨rfl,fun f d z=>by cases z⟩ (qy (qZ (n:Int)) (qy hR (qy hbs qO)))
  refine ⟨_,_,F0,fun dd e=>dd = .list ((qJ R b).map qak),I3,?_,fun dd v F5 H5 e5 I5 s5 i5 q5=>?_⟩
  ·have hlen:(R.map qak).length=R.length:=List.length_map _
   have hrl:(qrx 0 (((R.map qak).length:Nat):Int).toNat).length=R.length:=by rw [qs,hlen];omega
   refine ⟨⟨by rw [hlen];omega,by rw [hlen];omega⟩,?_⟩
   refine qbc ((qJ R b).map qak) (by rw [hrl];simp [qJ]) (qo (by simp [qJ];omega)) (fun e => ∃ u,e=[.val (qdb R),.val (.list (b.map .int)),u]) ⟨_,rfl⟩ ?_ rfl
   rintro i x ys e hx hys ⟨u,rfl⟩
   obtain ⟨hi,rfl⟩:=qP hx
   have hi':i<R.length:=by rw [hlen] at hi;omega
   have eR:R[i]?=some ((R[i]?).getD []):=by rw [List.getElem?_eq_getElem hi'];rfl
   have eb:b[i]?=some ((b[i]?).getD 0):=by rw [List.getElem?_eq_getElem (by rw [hp.l];exact hi')];rfl
   have lr:=hp.w _ (List.mem_of_getElem? eR)
   have hn20:=hp.hn
   rw [Int.zero_add]
   refine ⟨_,qM (by rw [List.getElem?_map,eR];rfl),_,qM (by rw [List.getElem?_map,eb];rfl),(R[i]?).getD [],(b[i]?).getD 0,i,(R.map qak).length,rfl,⟨by omega,by rw [hlen];omega⟩,qt ?_ hys,_,rfl⟩
   unfold qJ
   rw [List.getElem?_map,List.getElem?_map,List.getElem?_range hi',hlen];rfl
  subst q5
  have fa5:F5 a=none:=by
   cases e:F5 a with
   | none=>rfl
   | some o=>rcases I5.new a o e with q|q
             ·have q:F0 a=some o:=q
              rw [fa] at q;cases q
             ·have q:upd H a (.ins cs.Board dx [("unknowns",.int n),("bottom",.int 1)]) a=none:=q
              rw [qp] at q;cases q
  have Ha5:=I5.bh a _ qp
  refine ⟨.ref a,rfl,a,cs.Board,dx,[("unknowns",.int n),("bottom",.int 1)],rfl,Ha5,T.Board_c,T.Board_n_lines,(show 2<1000 by decide),?_⟩
  obtain ⟨lr,xs,rfl,hsq,hxs⟩:=hR.lst_inv
  have lx:xs.length=R.length:=by rw [hxs.len,List.length_map]
  have s6 : ∀ o,Same F5 (upd H5 a o):=fun o c u e=>by rw [qk (ql e fa5)];exact I5.fh c u e
  refine ⟨.ref lr,rfl,lr,xs,rfl,.inl ((s5.trans (s6 _)).seq hsq),xs.length,rfl,_,_,rfl,fun l hl=>?_⟩
  refine ⟨l,-(xs.length:Int),0,rfl,qp,⟨by omega,by omega,by decide,by decide⟩,by omega,fun l2 hl2=>?_⟩
  have la:l≠a:=fun z=>by rw [z,qp] at hl;cases hl
  have l2l:l2≠l:=fun z=>by rw [z,qp] at hl2;cases hl2
  rw [qk l2l] at hl2
  have l2a:l2≠a:=fun z=>by rw [z,qp] at hl2;cases hl2
  rw [qk l2a] at hl2
  rw [qk la] at hl
  have hH:H l2=none:=by
   have:=qH I5.bh hl2
   have this:upd H a _ l2=none:=this
   rw [qk l2a] at this;exact this
  have fl:=qH I5.fh hl
  have fl2:=qH I5.fh hl2
  refine ⟨.ref a,rfl,a,cs.Board,dx,[("unknowns",.int n),("bottom",.int 1),("lines",v)],rfl,by rw [qk (Ne.symm l2a),qk (Ne.symm la)];exact qp,T.Board_c,T.Board_n_stands_for,(show 3<1000 by decide),?_⟩
  refine kk F5 _ v l2 hH ⟨s5,fun c o c1 c2 e=>?_,fun c o e=>?_,fun c o e=>?_⟩ ⟨qp,i5,?_,fa5,fl2⟩
  ·have h5:H5 c=some o:=I5.bh c o (by show upd H a _ c=_;rw [qk c1];exact e)
   rw [qk c1,qk c2,qk (ql h5 hl),qk c1];exact h5
  ·rw [qk (ql e fa5),qk (ql e fl2),qk (ql e fl),qk (ql e fa5)]
   exact I5.fh c o e
  ·rcases I5.new c o e with q|q
   ·exact .inl q
   ·have q:upd H a _ c=none:=q
    rw [qk (ql e fa5)] at q
    exact .inr q
  ·rw [qk l2a,qp]
   have e:(0 - -(xs.length:Int)).toNat=R.length:=by omega
   rw [e,lx]
   unfold rngV qfc
   rw [List.map_map];rfl
theorem qwh {a:Nat→Nat→Int}{y:Nat}{u v:Nat→Int}:qaa (qaa a y u) y v=qaa a y v:=by
 funext x t
 unfold qaa
 by_cases h:t=y
 ·rw [if_pos h,if_pos h]
 ·rw [if_neg h,if_neg h,if_neg h]
theorem qdq {m:Nat}{a:Nat→Nat→Int}{y:Nat}{u v:Nat→Int} (h : ∀ x,x<m→u x=v x):det m (qaa a y u)=det m (qaa a y v) :=
 qfb fun x z hx _=>by
  unfold qaa
  by_cases e:z=y
  ·rw [if_pos e,if_pos e,h x hx]
  ·rw [if_neg e,if_neg e]
structure Brd (m:Nat) (col:Nat→Nat→Int) (B:Nat→Nat→Int) (L:Nat→Nat→Int) (d:Int):Prop where
 pos:0<d
 hd:d=det m B
 hL : ∀ k,k<m → ∀ j,L k j=det m (qaa B k (col j))
 hI : ∀ j x,x<m→d*col j x=qj m fun k=>L k j*B x k
theorem qzp (m:Nat) (col:Nat→Nat→Int):Brd m col (fun x y=>if x=y then 1 else 0) (fun k j=>col j k) 1 where
 pos:=by omega
 hd:=(qsc m).symm
 hL:=fun k hk j=>by
  have e:det m (qaa (fun x y=>if x=y then 1 else 0) k (col j))=det m (qaa (fun x y=>if x=y then 1 else 0) k fun x=>qj m fun i=>col j i*(if x=i then 1 else 0)) :=
   qdq fun x hx=>by
    rw [qU hx fun i _ hi=>by rw [if_neg (Ne.symm hi)];omega,if_pos rfl];omega
  rw [e,qkz _ hk (fun i=>col j i) (fun i x=>if x=i then 1 else 0)]
  rw [qU hk fun i hi hik=>?_]
  ·rw [show qaa (fun x y=>if x=y then (1:Int) else 0) k (fun x=>if x=k then 1 else 0)=fun x y=>if x=y then 1 else 0 from qdw (a:=fun x y=>if x=y then (1:Int) else 0),qsc];omega
  ·rw [qht hk hi (Ne.symm hik) fun x _=>by rw [qab,qau hik]];omega
 hI:=fun j x hx=>by
  show 1*col j x=qj m fun k=>col j k*(if x=k then 1 else 0)
  rw [qU hx fun i _ hi=>by rw [if_neg (Ne.symm hi)];omega,if_pos rfl];omega
def piv (L:Nat→Nat→Int) (d:Int) (r c:Nat):Nat→Nat→Int:=fun k j=>if k=r then L r j else (L k j*L r c-L k c*L r j)/d
theorem Brd.exact {m:Nat}{col B L:Nat→Nat→Int}{d:Int} (h:Brd m col B L d) {r c:Nat} (hr:r<m) {k j:Nat} (hk:k<m) (hkr:k≠r) :
 d*det m (qaa (qaa B r (col c)) k (col j))=L k j*L r c-L k c*L r j:=by
  have e1:d*det m (qaa (qaa B r (col c)) k (col j))=det m (qaa (qaa B r (col c)) k fun x=>d*col j x):=by
   have:=qfw d 0 (col j) (col j) (qaa B r (col c)) hk (col j) (col j)
   simp at this
   exact this.symm
  rw [e1,qdq (v:=fun x=>qj m fun i=>L i j*B x i) fun x hx=>h.hI j x hx,qkz _ hk (fun i=>L i j) (fun i x=>B x i)]
  rw [zacp hk hr hkr fun i hi hik hir=>?_]
  ·have t1:det m (qaa (qaa B r (col c)) k fun x=>B x k)=L r c:=by
    rw [h.hL r hr c]
    congr 1
    have:(fun x=>B x k)=fun x=>qaa B r (col c) x k:=by funext x;exact (qau hkr).symm
    rw [this,qdw]
   have t2:det m (qaa (qaa B r (col c)) k fun x=>B x r) = - L k c:=by
    rw [zaav hr hk (Ne.symm hkr),qdw,← h.hL k hk c]
   rw [t1,t2];grind
  ·rw [qht hk hi (Ne.symm hik) fun x _=>by rw [qab,qau hik,qau hir]];omega
theorem Brd.next {m:Nat}{col B L:Nat→Nat→Int}{d:Int} (h:Brd m col B L d) {r c:Nat} (hr:r<m) (hp:0<L r c) :
 Brd m col (qaa B r (col c)) (piv L d r c) (L r c) ∧ ∀ k,k<m→k≠r → ∀ j,d*piv L d r c k j=L k j*L r c-L k c*L r j:=by
  have hd0:d≠0:=by have:=h.pos;omega
  have ex : ∀ k,k<m→k≠r → ∀ j,piv L d r c k j=det m (qaa (qaa B r (col c)) k (col j)):=fun k hk hkr j=>by
   unfold piv
   rw [if_neg hkr,← h.exact hr hk hkr,Int.mul_ediv_cancel_left _ hd0]
  have ex2 : ∀ k,k<m→k≠r → ∀ j,d*piv L d r c k j=L k j*L r c-L k c*L r j:=fun k hk hkr j=>by
   rw [ex k hk hkr j,h.exact hr hk hkr]
  refine ⟨⟨hp,h.hL r hr c,fun k hk j=>?_,fun j x hx=>?_⟩,ex2⟩
  ·by_cases e:k=r
   ·subst e
    rw [qwh,← h.hL k hk j]
    unfold piv;rw [if_pos rfl]
   ·exact ex k hk e j
  ·refine Int.eq_of_mul_eq_mul_left hd0 ?_
   rw [← qu]
   have t : ∀ k,k<m→d*(piv L d r c k j*qaa B r (col c) x k)=(L r c*(L k j*B x k)+(- L r j)*(L k c*B x k))+(if k=r then L r j*(d*col c x) else 0):=fun k hk=>by
    by_cases e:k=r
    ·subst e
     rw [qab,if_pos rfl]
     unfold piv
     rw [if_pos rfl];grind
    ·rw [qau e,if_neg e,← Int.mul_assoc,ex2 k hk e j];grind
   rw [qi t,qcn,qfj,← h.hI j x hx,← h.hI c x hx,qU hr fun i _ hi=>if_neg hi,if_pos rfl]
   grind
theorem Brd.basic {m:Nat}{col B L:Nat→Nat→Int}{d:Int} (h:Brd m col B L d) {i j:Nat} (hi:i<m) (e : ∀ x,x<m→B x i=col j x) {k:Nat} (hk:k<m) :
 L k j=if k=i then d else 0:=by
  rw [h.hL k hk j,qdq (v:=fun x=>B x i) fun x hx=>(e x hx).symm]
  by_cases q:k=i
  ·subst q;rw [if_pos rfl,qdw,← h.hd]
  ·rw [if_neg q]
   exact qht hk hi q fun x _=>by rw [qab,qau (Ne.symm q)]
theorem Brd.comb {m:Nat}{col B L:Nat→Nat→Int}{d:Int} (h:Brd m col B L d) {j n:Nat} (f:Nat→Int) (at':Nat→Nat) (e : ∀ x,x<m→col j x=qj n fun l=>f l*col (at' l) x) {k:Nat} (hk:k<m) :
 L k j=qj n fun l=>f l*L k (at' l):=by
  rw [h.hL k hk j,qdq e,qkz _ hk f (fun l=>col (at' l))]
  exact qi fun l _=>by rw [h.hL k hk]
theorem qia (f:Nat→Nat→Int) (n:Nat) : ∀ m:Nat,qj m (fun i=>qj n (f i))=qj n (fun k=>qj m fun i=>f i k)
 | 0=>(qaj fun _ _=>rfl).symm
 | m+1=>by
  show qj m (fun i=>qj n (f i))+qj n (f m)=qj n (fun k=>(qj m fun i=>f i k)+f m k)
  rw [qia f n m,qcn]
theorem qvg {f:Nat→Int} : ∀ {n:Nat},qj n f<0 → ∃ k,k<n∧f k<0
 | 0,h=>absurd h (by show ¬ (0:Int)<0;omega)
 | n+1,h=>by
  have h':qj n f+f n<0:=h
  by_cases q:f n<0
  ·exact ⟨n,by omega,q⟩
  ·obtain ⟨k,hk,z⟩:=qvg (f:=f) (n:=n) (by omega)
   exact ⟨k,by omega,z⟩
theorem qkv {f:Nat→Int} : ∀ {n:Nat},0<qj n f → ∃ k,k<n∧0<f k
 | 0,h=>absurd h (by show ¬ (0:Int)<0;omega)
 | n+1,h=>by
  have h':0<qj n f+f n:=h
  by_cases q:0<f n
  ·exact ⟨n,by omega,q⟩
  ·obtain ⟨k,hk,z⟩:=qkv (f:=f) (n:=n) (by omega)
   exact ⟨k,by omega,z⟩
theorem qcr {f:Nat→Int} : ∀ {n:Nat},(∀ k,k<n→0≤f k)→0≤qj n f
 | 0,_=>by show (0:Int)≤0;omega
 | n+1,h=>by
  have a:=qcr (f:=f) (n:=n) fun k hk=>h k (by omega)
  have b:=h n (by omega)
  show 0≤qj n f+f n
  omega
structure Sta where
 st:Nat→Int
 L:Nat→Nat→Int
 d:Int
def Bas (col:Nat→Nat→Int) (st:Nat→Int):Nat→Nat→Int:=fun x k=>if st k<0 then (if x=k then 1 else 0) else col (st k).toNat x
structure Good (m n:Nat) (col:Nat→Nat→Int) (b:Sta):Prop where
 brd:Brd m col (Bas col b.st) b.L b.d
 sum : ∀ k,k<m→0≤b.L k (n+m)
 top : ∀ k,k<m→b.st k<n
def lack (m:Nat) (b:Sta) (j:Nat):Int:=qj m fun k=>if b.st k<0 then b.L k j else 0
structure Stp (m n:Nat) (b:Sta) (c r:Nat) (b':Sta):Prop where
 c1:c<n
 c2:0<lack m b c
 c3 : ∀ j,j<c→lack m b j≤0
 r1:r<m
 r2:0<b.L r c
 r3 : ∀ k,k<m→0<b.L k c→b.L r (n+m)*b.L k c≤b.L k (n+m)*b.L r c
 r4 : ∀ k,k<m→0<b.L k c→b.L r (n+m)*b.L k c=b.L k (n+m)*b.L r c→b.st r≤b.st k
 st:b'.st=fun k=>if k=r then (c:Int) else b.st k
 L:b'.L=piv b.L b.d r c
 d:b'.d=b.L r c
theorem zacs {col:Nat→Nat→Int}{st:Nat→Int}{r c:Nat}:Bas col (fun k=>if k=r then (c:Int) else st k)=qaa (Bas col st) r (col c):=by
 funext x k
 have e1 : ∀ v:Int,(fun k=>if k=r then (c:Int) else st k) k=v→Bas col (fun k=>if k=r then (c:Int) else st k) x k=if v<0 then (if x=k then 1 else 0) else col v.toNat x:=fun v hv=>by
  unfold Bas;rw [hv]
 by_cases e:k=r
 ·rw [e1 c (if_pos e),if_neg (by omega),e,qab];rfl
 ·rw [e1 (st k) (if_neg e),qau e];rfl
theorem Good.basic {m n:Nat}{col:Nat→Nat→Int}{b:Sta} (h:Good m n col b) {i j:Nat} (hi:i<m) (e:b.st i=(j:Int)) {k:Nat} (hk:k<m):b.L k j=if k=i then b.d else 0 :=
 h.brd.basic hi (fun x _=>by unfold Bas;rw [e,if_neg (by omega)];rfl) hk
theorem Good.lack0 {m n:Nat}{col:Nat→Nat→Int}{b:Sta} (h:Good m n col b) {i j:Nat} (hi:i<m) (e:b.st i=(j:Int)):lack m b j=0 :=
 qaj fun k hk=>by
  by_cases q:b.st k<0
  ·rw [if_pos q,h.basic hi e hk,if_neg (fun z=>by subst z;omega)]
  ·rw [if_neg q]
theorem Good.next {m n:Nat}{col:Nat→Nat→Int}{b b':Sta}{c r:Nat} (h:Good m n col b) (s:Stp m n b c r b') :
 Good m n col b' ∧ ∀ k,k<m→k≠r → ∀ j,b.d*b'.L k j=b.L k j*b.L r c-b.L k c*b.L r j:=by
  obtain ⟨h1,h2⟩:=h.brd.next s.r1 s.r2
  have e:=zacs (col:=col) (st:=b.st) (r:=r) (c:=c)
  rw [← s.L] at h2
  refine ⟨⟨?_,fun k hk=>?_,fun k hk=>?_⟩,h2⟩
  ·rw [s.st,e,s.L,s.d];exact h1
  ·by_cases q:k=r
   ·subst q
    rw [s.L];unfold piv;rw [if_pos rfl];exact h.sum k hk
   ·have z:=h2 k hk q (n+m)
    have dp:=h.brd.pos
    have s0:=h.sum k hk
    have s1:=h.sum r s.r1
    have p0:=s.r2
    have:0≤b.d*b'.L k (n+m):=by
     rw [z]
     by_cases g:0<b.L k c
     ·have:=s.r3 k hk g
      have e2:b.L k c*b.L r (n+m)=b.L r (n+m)*b.L k c:=Int.mul_comm ..
      omega
     ·have a1:0≤b.L k (n+m)*b.L r c:=Int.mul_nonneg s0 (by omega)
      have a2:b.L k c*b.L r (n+m)≤0:=Int.mul_nonpos_of_nonpos_of_nonneg (by omega) s1
      omega
    exact Int.nonneg_of_mul_nonneg_right this dp
  ·rw [s.st]
   show (if k=r then (c:Int) else b.st k)<n
   by_cases q:k=r
   ·rw [if_pos q];have:=s.c1;omega
   ·rw [if_neg q];exact h.top k hk
theorem zagx {m n:Nat}{col:Nat→Nat→Int}{a b:Sta} (ha:Good m n col a) (hb:Good m n col b) (same : ∀ k,k<m→(a.st k<0↔b.st k<0)) (e:Nat) :
 a.d*lack m b e=b.d*lack m a e+qj m fun k=>if a.st k<0 then 0 else a.L k e*lack m b (a.st k).toNat:=by
  have one : ∀ i,i<m→a.d*b.L i e=qj m fun k=>a.L k e*det m (qaa (Bas col b.st) i fun x=>Bas col a.st x k):=fun i hi=>by
   have e1:a.d*b.L i e=det m (qaa (Bas col b.st) i fun x=>a.d*col e x):=by
    rw [hb.brd.hL i hi e]
    have:=qfw a.d 0 (col e) (col e) (Bas col b.st) hi (col e) (col e)
    simp at this
    exact this.symm
   rw [e1,qdq (v:=fun x=>qj m fun k=>a.L k e*Bas col a.st x k) fun x hx=>ha.brd.hI e x hx,qkz _ hi (fun k=>a.L k e) (fun k x=>Bas col a.st x k)]
  have phi : ∀ i k,i<m→k<m→det m (qaa (Bas col b.st) i fun x=>Bas col a.st x k)=if a.st k<0 then (if i=k then b.d else 0) else b.L i (a.st k).toNat:=fun i k hi hk=>by
   by_cases q:a.st k<0
   ·rw [if_pos q]
    have q2:=(same k hk).mp q
    have e2:(fun x=>Bas col a.st x k)=fun x=>Bas col b.st x k:=by
     funext x;unfold Bas;rw [if_pos q,if_pos q2]
    rw [e2]
    by_cases g:i=k
    ·subst g;rw [if_pos rfl,qdw,← hb.brd.hd]
    ·rw [if_neg g]
     exact qht hi hk g fun x _=>by rw [qab,qau (Ne.symm g)]
   ·rw [if_neg q,hb.brd.hL i hi]
    exact qdq fun x _=>by unfold Bas;rw [if_neg q]
  have l1:a.d*lack m b e=qj m fun i=>qj m fun k=>if b.st i<0 then a.L k e*(if a.st k<0 then (if i=k then b.d else 0) else b.L i (a.st k).toNat) else 0:=by
   unfold lack
   rw [← qu]
   refine qi fun i hi=>?_
   by_cases q:b.st i<0
   ·rw [if_pos q,one i hi]
    exact qi fun k hk=>by rw [if_pos q,phi i k hi hk]
   ·rw [if_neg q,qaj fun k _=>if_neg q];omega
  rw [l1,qia]
  have l2 : ∀ k,k<m→(qj m fun i=>if b.st i<0 then a.L k e*(if a.st k<0 then (if i=k then b.d else 0) else b.L i (a.st k).toNat) else 0)
   = b.d*(if a.st k<0 then a.L k e else 0)+(if a.st k<0 then 0 else a.L k e*lack m b (a.st k).toNat):=fun k hk=>by
   by_cases q:a.st k<0
   ·rw [if_pos q,if_pos q,qU hk fun i hi hik=>by
     by_cases g:b.st i<0
     ·rw [if_pos g,if_pos q,if_neg hik];omega
     ·rw [if_neg g],if_pos ((same k hk).mp q),if_pos q,if_pos rfl,Int.mul_comm];omega
   ·rw [if_neg q,if_neg q]
    unfold lack
    rw [← qu,Int.mul_zero,Int.zero_add]
    exact qi fun i _=>by
     by_cases g:b.st i<0
     ·rw [if_pos g,if_pos g,if_neg q]
     ·rw [if_neg g,if_neg g];omega
  rw [qi l2,qcn,qu]
  rfl
theorem qsl {Q:Nat→Prop}{a b:Nat} (hab:a≤b) (ha : ¬ Q a) (hb:Q b) : ∃ τ,a≤τ∧τ<b ∧ ¬ Q τ∧Q (τ+1):=by
 induction b with
 | zero =>
  have:a=0:=by omega
  subst this;exact (ha hb).elim
 | succ b ih =>
  by_cases e:a=b+1
  ·subst e;exact (ha hb).elim
  ·by_cases q:Q b
   ·obtain ⟨τ,h1,h2,h3,h4⟩:=ih (by omega) q
    exact ⟨τ,h1,by omega,h3,h4⟩
   ·exact ⟨b,by omega,by omega,q,hb⟩
theorem quw {Q:Nat→Prop}{T a b:Nat} (hT:Q T↔Q 0) (ha:a≤T) (hb:b≤T) (h1 : ¬ Q a) (h2:Q b) : ∃ τ,τ<T ∧ ¬ Q τ∧Q (τ+1):=by
 by_cases q:a≤b
 ·obtain ⟨τ,_,h,h3,h4⟩:=qsl q h1 h2
  exact ⟨τ,by omega,h3,h4⟩
 ·by_cases q0:Q T
  ·obtain ⟨τ,_,h,h3,h4⟩:=qsl ha h1 q0
   exact ⟨τ,h,h3,h4⟩
  ·have z : ¬ Q 0:=fun z=>q0 (hT.mpr z)
   obtain ⟨τ,_,h,h3,h4⟩:=qsl (Nat.zero_le b) z h2
   exact ⟨τ,by omega,h3,h4⟩
theorem zadd (f:Nat→Nat) : ∀ {T:Nat},0<T → ∃ β,β<T ∧ ∀ τ,τ<T→f τ≤f β
 | 1,_=>⟨0,by omega,fun τ h=>by have:τ=0:=by omega
                                subst this;exact Nat.le_refl _⟩
 | T+2,_=>by
  obtain ⟨β,h1,h2⟩:=zadd f (T:=T+1) (by omega)
  by_cases q:f β≤f (T+1)
  ·refine ⟨T+1,by omega,fun τ h=>?_⟩
   by_cases e:τ=T+1
   ·subst e;exact Nat.le_refl _
   ·exact Nat.le_trans (h2 τ (by omega)) q
  ·refine ⟨β,by omega,fun τ h=>?_⟩
   by_cases e:τ=T+1
   ·subst e;omega
   ·exact h2 τ (by omega)
theorem zakv {m n:Nat}{col:Nat→Nat→Int}{b:Nat→Sta}{cs rs:Nat→Nat}{T:Nat} (hT:0<T) (h0:Good m n col (b 0)) (hs : ∀ τ,τ<T→Stp m n (b τ) (cs τ) (rs τ) (b (τ+1)))
 (he : ∀ k,k<m→(b T).st k=(b 0).st k):False:=by
  have G : ∀ τ,τ≤T→Good m n col (b τ):=fun τ=>by
   induction τ with
   | zero=>exact fun _=>h0
   | succ τ ih=>exact fun h=>((ih (by omega)).next (hs τ (by omega))).1
  have bs : ∀ x k,k<m→Bas col (b T).st x k=Bas col (b 0).st x k:=fun x k hk=>by unfold Bas;rw [he k hk]
  have eL : ∀ k,k<m → ∀ j,(b T).L k j=(b 0).L k j:=fun k hk j=>by
   rw [(G T (Nat.le_refl _)).brd.hL k hk,h0.brd.hL k hk]
   exact qfb fun x y _ hy=>by
    unfold qaa
    by_cases e:y=k
    ·rw [if_pos e,if_pos e]
    ·rw [if_neg e,if_neg e,bs x y hy]
  have ed:(b T).d=(b 0).d:=by
   rw [(G T (Nat.le_refl _)).brd.hd,h0.brd.hd]
   exact qfb fun x y _ hy=>bs x y hy
  have a1 : ∀ τ,τ<T → ∀ k,(b (τ+1)).st k<0→(b τ).st k<0:=fun τ h k z=>by
   rw [(hs τ h).st] at z
   by_cases e:k=rs τ
   ·have z':(if k=rs τ then (cs τ:Int) else (b τ).st k)<0:=z
    rw [if_pos e] at z';omega
   ·have z':(if k=rs τ then (cs τ:Int) else (b τ).st k)<0:=z
    rw [if_neg e] at z';exact z'
  have a2 : ∀ i τ,τ+i≤T → ∀ k,(b (τ+i)).st k<0→(b τ).st k<0:=fun i=>by
   induction i with
   | zero=>exact fun τ _ k z=>z
   | succ i ih=>exact fun τ h k z=>ih τ (by omega) k (a1 (τ+i) (by omega) k z)
  have art : ∀ τ,τ≤T → ∀ k,k<m→((b τ).st k<0↔(b 0).st k<0):=fun τ h k hk=>by
   constructor
   ·intro z
    have:=a2 τ 0 (by omega) k (by rw [Nat.zero_add];exact z)
    exact this
   ·intro z
    rw [← he k hk] at z
    exact a2 (T-τ) τ (by omega) k (by rw [show τ+(T-τ)=T by omega];exact z)
  have rn : ∀ τ,τ<T → ¬ (b τ).st (rs τ)<0:=fun τ h z=>by
   have z1:=(art τ (by omega) _ (hs τ h).r1).mp z
   have z2:=(art (τ+1) (by omega) _ (hs τ h).r1).mpr z1
   rw [(hs τ h).st] at z2
   have z3:(if rs τ=rs τ then (cs τ:Int) else (b τ).st (rs τ))<0:=z2
   rw [if_pos rfl] at z3;omega
  have lk : ∀ τ,τ<T → ∀ j,(b τ).d*lack m (b (τ+1)) j=lack m (b τ) j*(b τ).L (rs τ) (cs τ)-lack m (b τ) (cs τ)*(b τ).L (rs τ) j:=fun τ h j=>by
   have nx:=((G τ (by omega)).next (hs τ h)).2
   have e1:(b τ).d*lack m (b (τ+1)) j=qj m fun k=>(b τ).L (rs τ) (cs τ)*(if (b τ).st k<0 then (b τ).L k j else 0)+(- (b τ).L (rs τ) j)*(if (b τ).st k<0 then (b τ).L k (cs τ) else 0):=by
    unfold lack
    rw [← qu]
    refine qi fun k hk=>?_
    by_cases q:(b τ).st k<0
    ·have q2:(b (τ+1)).st k<0:=(art (τ+1) (by omega) k hk).mpr ((art τ (by omega) k hk).mp q)
     rw [if_pos q2,if_pos q,if_pos q,nx k hk (fun z=>rn τ h (z ▸ q)) j];grind
    ·have q2 : ¬ (b (τ+1)).st k<0:=fun z=>q (a1 τ h k z)
     rw [if_neg q2,if_neg q,if_neg q];grind
   rw [e1,qfj]
   unfold lack
   grind
  have dp : ∀ τ,τ≤T→0<(b τ).d:=fun τ h=>(G τ h).brd.pos
  have mono : ∀ τ,τ≤T→lack m (b τ) (n+m)*(b 0).d≤lack m (b 0) (n+m)*(b τ).d∧((∃ σ,σ<τ∧0<(b σ).L (rs σ) (n+m))→lack m (b τ) (n+m)*(b 0).d<lack m (b 0) (n+m)*(b τ).d):=fun τ=>by
   induction τ with
   | zero=>exact fun _=>⟨Int.le_refl _,fun xx185=>by obtain ⟨σ,h,_⟩:=xx185;exact absurd h (by omega)⟩
   | succ τ ih =>
    intro h
    obtain ⟨i1,i2⟩:=ih (by omega)
    have s:=hs τ (by omega)
    have e:=lk τ (by omega) (n+m)
    rw [← s.d] at e
    have d0:=dp 0 (by omega)
    have d1:=dp τ (by omega)
    have d2:=dp (τ+1) h
    have r0:=(G τ (by omega)).sum (rs τ) s.r1
    have w0:0≤lack m (b τ) (cs τ)*(b τ).L (rs τ) (n+m):=Int.mul_nonneg (by have:=s.c2;omega) r0
    have key:(b τ).d*(lack m (b (τ+1)) (n+m)*(b 0).d)=(lack m (b τ) (n+m)*(b 0).d)*(b (τ+1)).d-(lack m (b τ) (cs τ)*(b τ).L (rs τ) (n+m))*(b 0).d:=by
     rw [← Int.mul_assoc,e];grind
    have up:(lack m (b τ) (n+m)*(b 0).d)*(b (τ+1)).d≤(lack m (b 0) (n+m)*(b τ).d)*(b (τ+1)).d:=Int.mul_le_mul_of_nonneg_right i1 (by omega)
    have re:(lack m (b 0) (n+m)*(b τ).d)*(b (τ+1)).d=(b τ).d*(lack m (b 0) (n+m)*(b (τ+1)).d):=by grind
    have w1:0≤(lack m (b τ) (cs τ)*(b τ).L (rs τ) (n+m))*(b 0).d:=Int.mul_nonneg w0 (by omega)
    refine ⟨Int.le_of_mul_le_mul_left (a:=(b τ).d) (by omega) d1,fun ⟨σ,h1,h2⟩=>Int.lt_of_mul_lt_mul_left (a:=(b τ).d) ?_ (by omega)⟩
    by_cases q:σ=τ
    ·subst q
     have:0<(lack m (b σ) (cs σ)*(b σ).L (rs σ) (n+m))*(b 0).d:=Int.mul_pos (Int.mul_pos s.c2 h2) d0
     omega
    ·have:=Int.mul_lt_mul_of_pos_right (i2 ⟨σ,by omega,h2⟩) d2
     omega
  have deg : ∀ τ,τ<T→(b τ).L (rs τ) (n+m)=0:=fun τ h=>by
   have r0:=(G τ (by omega)).sum (rs τ) (hs τ h).r1
   by_cases q:0<(b τ).L (rs τ) (n+m)
   ·have z:=(mono T (Nat.le_refl _)).2 ⟨τ,h,q⟩
    have e1:lack m (b T) (n+m)=lack m (b 0) (n+m):=qi fun k hk=>by rw [he k hk,eL k hk]
    rw [e1,ed] at z
    exact (Int.lt_irrefl _ z).elim
   ·omega
  have zr : ∀ (j:Int) τ,τ<T→(∀ k,k<m→(b τ).st k=j→(b τ).L k (n+m)=0) → ∀ k,k<m→(b (τ+1)).st k=j→(b (τ+1)).L k (n+m)=0:=fun j τ h z k hk e=>by
   have nx:=((G τ (by omega)).next (hs τ h)).2
   by_cases q:k=rs τ
   ·rw [(hs τ h).L]
    unfold piv
    rw [if_pos q];exact deg τ h
   ·have e':(b τ).st k=j:=by
     rw [(hs τ h).st] at e
     have e2:(if k=rs τ then (cs τ:Int) else (b τ).st k)=j:=e
     rw [if_neg q] at e2;exact e2
    have w:=nx k hk q (n+m)
    rw [z k hk e',deg τ h,Int.zero_mul,Int.mul_zero] at w
    have d1:=dp τ (by omega)
    rcases Int.mul_eq_zero.mp (show (b τ).d*(b (τ+1)).L k (n+m)=0 by omega) with g|g
    ·omega
    ·exact g
  have zr2 : ∀ (j:Int) i τ,τ+i≤T→(∀ k,k<m→(b τ).st k=j→(b τ).L k (n+m)=0) → ∀ k,k<m→(b (τ+i)).st k=j→(b (τ+i)).L k (n+m)=0:=fun j i=>by
   induction i with
   | zero=>exact fun τ _ z=>z
   | succ i ih=>exact fun τ h z=>zr j (τ+i) (by omega) (ih τ (by omega) z)
  have zero : ∀ (j:Int) α β,α≤T→β≤T→(∀ k,k<m→(b β).st k≠j) → ∀ k,k<m→(b α).st k=j→(b α).L k (n+m)=0:=fun j α β ha hb z k hk e=>by
   have z0 : ∀ k,k<m→(b β).st k=j→(b β).L k (n+m)=0:=fun k hk e=>(z k hk e).elim
   have zT : ∀ k,k<m→(b T).st k=j→(b T).L k (n+m)=0:=by
    have:=zr2 j (T-β) β (by omega) z0
    rw [show β+(T-β)=T by omega] at this;exact this
   have zs : ∀ k,k<m→(b 0).st k=j→(b 0).L k (n+m)=0:=fun k hk e=>by rw [← eL k hk];exact zT k hk (by rw [he k hk];exact e)
   have:=zr2 j α 0 (by omega) zs
   rw [Nat.zero_add] at this
   exact this k hk e
  obtain ⟨β,hβ,hmax⟩:=zadd cs hT
  let Q:Nat→Nat→Prop:=fun j τ => ∃ k,k<m∧(b τ).st k=(j:Int)
  have QT : ∀ j,Q j T↔Q j 0:=fun j=>⟨fun xx183=>by obtain ⟨k,hk,e⟩:=xx183;exact ⟨k,hk,by rw [← he k hk];exact e⟩,fun xx182=>by obtain ⟨k,hk,e⟩:=xx182;exact ⟨k,hk,by rw [he k hk];exact e⟩⟩
  have inn : ∀ j τ,τ<T → ¬ Q j τ→Q j (τ+1)→cs τ=j:=fun j τ h h1 xx181=>by
   obtain ⟨k,hk,e⟩:=xx181
   rw [(hs τ h).st] at e
   have e2:(if k=rs τ then (cs τ:Int) else (b τ).st k)=j:=e
   by_cases q:k=rs τ
   ·rw [if_pos q] at e2;omega
   ·rw [if_neg q] at e2;exact (h1 ⟨k,hk,e2⟩).elim
  have nb : ∀ τ,τ≤T → ∀ j,lack m (b τ) j≠0 → ¬ Q j τ:=fun τ h j z xx180=>by obtain ⟨k,hk,e⟩:=xx180;exact z ((G τ h).lack0 hk e)
  have tn : ¬ Q (cs β) β:=nb β (by omega) _ (by have:=(hs β hβ).c2;omega)
  have tb:Q (cs β) (β+1):=⟨rs β,(hs β hβ).r1,by rw [(hs β hβ).st];exact if_pos rfl⟩
  obtain ⟨α,hα,o1,o2⟩:=quw (Q:=fun τ => ¬ Q (cs β) τ) (T:=T) (a:=β+1) (b:=β) (by rw [QT]) (by omega) (by omega) (fun z=>z tb) tn
  have o1:Q (cs β) α:=Classical.byContradiction o1
  obtain ⟨k0,hk0,ek0⟩:=o1
  have er:k0=rs α:=by
   by_cases q:k0=rs α
   ·exact q
   ·refine (o2 ⟨k0,hk0,?_⟩).elim
    rw [(hs α hα).st]
    show (if k0=rs α then (cs α:Int) else (b α).st k0)=_
    rw [if_neg q];exact ek0
  subst er
  have e1:cs α≤cs β:=hmax α hα
  have e2:cs α≠cs β:=fun z=>nb α (by omega) (cs α) (by have:=(hs α hα).c2;omega) ⟨rs α,hk0,by rw [ek0,z]⟩
  have id:=zagx (G α (by omega)) (G β (by omega)) (fun k hk=>(art α (by omega) k hk).trans (art β (by omega) k hk).symm) (cs α)
  have p1:0<(b β).d*lack m (b α) (cs α):=Int.mul_pos (dp β (by omega)) (hs α hα).c2
  have p2:(b α).d*lack m (b β) (cs α)≤0:=Int.mul_nonpos_of_nonneg_of_nonpos (by have:=dp α (by omega);omega) ((hs β hβ).c3 (cs α) (by omega))
  obtain ⟨k,hk,hneg⟩:=qvg (show (qj m fun k=>if (b α).st k<0 then 0 else (b α).L k (cs α)*lack m (b β) ((b α).st k).toNat)<0 by omega)
  by_cases q:(b α).st k<0
  ·rw [if_pos q] at hneg;omega
  ·rw [if_neg q] at hneg
   obtain ⟨j,ej⟩ : ∃ j:Nat,(b α).st k=(j:Int):=⟨((b α).st k).toNat,by omega⟩
   rw [ej] at hneg
   have hneg:(b α).L k (cs α)*lack m (b β) j<0:=hneg
   have jl:lack m (b β) j≠0:=fun z=>by rw [z,Int.mul_zero] at hneg;omega
   have jn:=nb β (by omega) j jl
   obtain ⟨τ,hτ,u1,u2⟩:=quw (Q:=Q j) (T:=T) (a:=β) (b:=α) (QT j) (by omega) (by omega) jn ⟨k,hk,ej⟩
   have jle:j≤cs β:=by rw [← inn j τ hτ u1 u2];exact hmax τ hτ
   by_cases jt:j=cs β
   ·subst jt
    have ek:k=rs α:=by
     by_cases g:k=rs α
     ·exact g
     ·have w:=(G α (by omega)).basic hk ej hk
      have w2:=(G α (by omega)).basic hk0 ek0 hk
      rw [if_pos rfl] at w
      rw [if_neg g,w] at w2
      have:=dp α (by omega);omega
    subst ek
    have:=Int.mul_pos (hs α hα).r2 (hs β hβ).c2
    omega
   ·have c3:=(hs β hβ).c3 j (by omega)
    have lp:0<(b α).L k (cs α):=by
     rcases Int.lt_trichotomy 0 ((b α).L k (cs α)) with g|g|g
     ·exact g
     ·rw [← g,Int.zero_mul] at hneg;omega
     ·have:=Int.mul_nonneg_of_nonpos_of_nonpos (Int.le_of_lt g) c3
      omega
    have z1:(b α).L k (n+m)=0:=zero j α β (by omega) (by omega) (fun k' hk' e=>jn ⟨k',hk',e⟩) k hk ej
    have z2:=deg α hα
    have tie:=(hs α hα).r4 k hk lp (by rw [z1,z2,Int.zero_mul,Int.zero_mul])
    rw [ek0,ej] at tie
    omega
theorem zaci {α β γ:Type}{g:α→β→γ}{a:List α}{b:List β}{i:Nat}{x:α}{y:β} (h1:a[i]?=some x) (h2:b[i]?=some y):(List.zipWith g a b)[i]?=some (g x y):=by
 rw [List.getElem?_zipWith,h1,h2]
def qN (Ls:List (List Int)) (ss:List Int) (i j:Nat):Int:=qj i fun k=>if (ss[k]?).getD 0<0 then at2 Ls k j else 0
def qst (nm:List Str) (fs:List (Str×PyData)) (ds:List PyData) (q:List PyData→Prop):Prop := ∃ (n:Nat) (d:Int) (Ls:List (List Int)) (ss:List Int) (m:Nat),nm=bNm∧fs=bFs n d Ls ss∧ds=[]∧(Bd m (n+m+1) Ls ss∧n≤20∧m≤24)∧q (((List.range (n+m+1)).map (qN Ls ss m)).map .int)
theorem qce:FnScope ["self","total","line","unknown"] ["self"] (defScope qeh):=⟨rfl,rfl,rfl,by decide +kernel,rfl,by decide +kernel,by decide +kernel⟩
theorem qpt (F:MDef K cs.Board "lack" "Board.lack" qeh ["self"]) (T:Txt K mg cs)
 : OkM P w K mg base cs.Board "lack" 1 ["self"] (OFSp K cs.Board qst):=by
  refine F.vokF qce (by rintro nm fs ds q ⟨_,_,_,_,_,_,_,h,_⟩;rw [h];rfl) fun f cdv A outer s H E hr a0 nm fs ds q h=>?_
  obtain ⟨n,d,Ls,ss,m,rfl,rfl,rfl,⟨hB,hn,hm⟩,h⟩:=h
  refine ⟨_,(qg (qkn (caps:=[]) (own:=["number"]) (ix:=[]) (i:=1) qce.nd rfl ⟨rfl,rfl,rfl,rfl,rfl,rfl⟩ (qE T.range_ (qw qdu (qw qdu (qcp 0 T.Board_c T.Board_n_unknowns) (qr qag T.len_ L2.boot_len (qc (qcp 0 T.Board_c T.Board_n_lines) qf))) qe)) (fun _ _ _ _=>(qm (i:=0) (show List.Nodup (["number"]:List Str) by decide))) (fun _ _ _ _=>qe))
   (qg (qai rfl (qje T.zip_ (qcp 0 T.Board_c T.Board_n_lines) (qcp 0 T.Board_c T.Board_n_stands_for)) (qft (n:=2) rfl (qK (qm (i:=2) qce.nd) (qK (qm (i:=3) qce.nd) qdd))) (qh (qam (qA qql (qb 3) qe) (qgd 1 (qh (qkn (caps:=[]) (own:=["one","other"]) (ix:=[]) (i:=1) qce.nd rfl ⟨rfl,rfl,rfl,rfl,rfl,rfl⟩ (qje T.zip_ (qb 1) (qb 2)) (fun _ _ _ _=>(qft (n:=2) rfl (qK (qm (i:=0) (show List.Nodup (["one","other"]:List Str) by decide)) (qK (qm (i:=1) (show List.Nodup (["one","other"]:List Str) by decide)) qdd)))) (fun _ _ _ _=>(qw qdu (qb 0) (qb 1)))))) qI)))
   (qh (qry 1)))),?_⟩
  have hlen:(Ls.map qak).length=m:=by rw [List.length_map,hB.l]
  refine ⟨rfl,_,rfl,rfl,_,rfl,⟨by rw [hlen];omega,by rw [hlen];omega⟩,?_⟩
  have hrl:(qrx 0 ((n:Int)+((Ls.map qak).length:Nat)+1).toNat).length=n+m+1:=by rw [qs,hlen];omega
  refine ⟨qo (by rw [hrl];omega),fun k ys e=>ys=(List.replicate (n+m+1) (.int 0)).take k ∧ ∃ u,e=[u],⟨by simp,_,rfl⟩,?_,?_⟩
  ·rintro i x ys e hx ⟨hys,s,rfl⟩
   obtain ⟨hi,rfl⟩:=qP hx
   rw [hlen] at hi
   exact ⟨qt (by rw [List.getElem?_replicate,if_pos (by omega)]) hys,_,rfl⟩
  rintro ys e ⟨hys,u,rfl⟩
  rw [hrl,List.take_of_length_le (by rw [List.length_replicate];omega)] at hys
  subst hys
  have nx1 : ∀ i,(ss[i]?).getD 0<0 → ∀ j,qN Ls ss (i+1) j=qN Ls ss i j+at2 Ls i j:=fun i a j=>by
   show qN Ls ss i j+(if _ then _ else _)=_
   rw [if_pos a]
  have nx2 : ∀ i,¬ (ss[i]?).getD 0<0→qN Ls ss (i+1)=qN Ls ss i:=fun i a=>by
   funext j
   show qN Ls ss i j+(if _ then _ else _)=_
   rw [if_neg a];omega
  refine ⟨rfl,_,rfl,rfl,_,rfl,fun i e => ∃ t1 t2 l,e=[.obj a0 cs.Board bNm (bFs n d Ls ss),.own l,t1,t2]∧l=((List.range (n+m+1)).map (qN Ls ss i)).map .int,⟨_,_,_,rfl,?_⟩,?_,?_⟩
  ·refine (List.eq_replicate_iff.mpr ⟨by simp,fun x hx=>?_⟩).symm
   obtain ⟨y,hy,rfl⟩:=List.mem_map.mp hx
   obtain ⟨j,_,rfl⟩:=List.mem_map.mp hy
   rfl
  ·rintro i x e hx ⟨t1,t2,l,rfl,rfl⟩
   obtain ⟨x,y,h3,h4,rfl⟩:=qge hx
   obtain ⟨u,rfl,hu,_⟩:=qbb h4
   obtain ⟨r,er,rfl⟩ : ∃ r,Ls[i]?=some r∧qak r=x:=by
    rw [List.getElem?_map] at h3
    cases q:Ls[i]? with
    | none=>rw [q] at h3;cases h3
    | some r=>rw [q] at h3;exact ⟨r,rfl,Option.some.inj h3⟩
   have es:(ss[i]?).getD 0=u:=by rw [hu];rfl
   have lr:r.length=n+m+1:=hB.w r (List.mem_of_getElem? er)
   refine ⟨rfl,rfl,qix (fun a=>?_) (fun a=>?_)⟩
   ·have hzl:(qxu (((List.range (n+m+1)).map (qN Ls ss i)).map .int) (r.map .int)).length=n+m+1:=by rw [qcl];simp;omega
    refine ⟨qo (by rw [hzl];omega),fun k ys e=>ys=((((List.range (n+m+1)).map (qN Ls ss (i+1))).map PyData.int)).take k ∧ ∃ s t,e=[s,t],⟨by simp,_,_,rfl⟩,?_,?_⟩
    rotate_left
    ·rintro ys e ⟨hys,s,t,rfl⟩
     rw [hzl,List.take_of_length_le (by simp)] at hys
     exact ⟨_,_,_,rfl,hys⟩
    rintro j z ys e hz ⟨hys,s,t,rfl⟩
    obtain ⟨x,y,h5,h6,rfl⟩:=qge hz
    obtain ⟨x,rfl,h5,_⟩:=qbb h5
    obtain ⟨y,rfl,h6,_⟩:=qbb h6
    have hj:j<n+m+1:=by rw [← lr];exact (List.getElem?_eq_some_iff.mp h6).1
    have e1:x=qN Ls ss i j:=by
     rw [List.getElem?_map,List.getElem?_range hj] at h5
     exact (Option.some.inj h5).symm
    have e2:y=at2 Ls i j:=by
     have:=(hB.at er hj).1
     rw [h6] at this
     exact Option.some.inj this
    refine ⟨rfl,rfl,qt ?_ hys,_,_,rfl⟩
    rw [List.getElem?_map,List.getElem?_map,List.getElem?_range hj,e1,e2]
    show some (PyData.int (qN Ls ss (i+1) j))=_
    rw [nx1 i (by rw [es];exact a) j]
   ·exact ⟨_,_,_,rfl,by rw [nx2 i (by rw [es];exact a)]⟩
  ·rintro e ⟨t1,t2,l,rfl,rfl⟩
   rw [qcl,hlen,List.length_map,hB.s,Nat.min_self]
   exact ⟨_,rfl,h⟩
def qiz (nm:List Str) (fs:List (Str×PyData)) (ds:List PyData) (q:PyData→Prop):Prop := ∃ (n d:Int) (Ls:List (List Int)) (ss:List Int) (m w k c p:Nat),nm=bNm∧fs=bFs n d Ls ss∧ds=[.int k,.int c,.int p]∧(Bd m w Ls ss∧k<m∧c<m∧p<w)∧q (.bool (qhd Ls ss w k c p))
theorem qca:FnScope ["self","k","chosen","place","one","other"] ["self","k","chosen","place"] (defScope qaz):=⟨rfl,rfl,rfl,by decide +kernel,rfl,by decide +kernel,by decide +kernel⟩
theorem qhy (F:MDef K cs.Board "is_tighter" "Board.is_tighter" qaz ["self","k","chosen","place"]) (T:Txt K mg cs)
 : OkM P w K mg base cs.Board "is_tighter" 1 ["self","k","chosen","place"] (OSp K cs.Board qiz):=by
  refine F.vok qca (by rintro nm fs ds q ⟨_,_,_,_,_,_,_,_,_,_,_,h,_⟩;rw [h];rfl) fun f cdv A outer s H E hr a0 nm fs ds q h=>?_
  obtain ⟨n,d,Ls,ss,m,w,k,c,p,rfl,rfl,rfl,⟨hB,hk,hc,hp⟩,h⟩:=h
  refine ⟨_,(qg (qC (i:=4) qca.nd (qw qaw (qq (qq (qcp 0 T.Board_c T.Board_n_lines) (qb 1)) (qkd qe)) (qq (qq (qcp 0 T.Board_c T.Board_n_lines) (qb 2)) (qb 3))))
   (qg (qC (i:=5) qca.nd (qw qaw (qq (qq (qcp 0 T.Board_c T.Board_n_lines) (qb 2)) (qkd qe)) (qq (qq (qcp 0 T.Board_c T.Board_n_lines) (qb 1)) (qb 3))))
   (qh (qv (zahu (qhj qql (qb 4) (qb 5)) (qkb (qpj (qhj (qms hr.units) (qb 4) (qb 5)) (qkb (qhj qql (qq (qcp 0 T.Board_c T.Board_n_stands_for) (qb 1)) (qq (qcp 0 T.Board_c T.Board_n_stands_for) (qb 2))))))))))),?_⟩
  obtain ⟨r,er,ar,lr⟩:=hB.row (k:=(k:Int)) (by omega) (by omega)
  obtain ⟨t,et,at',lt⟩:=hB.row (k:=(c:Int)) (by omega) (by omega)
  have er:Ls[k]?=some r:=er
  have et:Ls[c]?=some t:=et
  obtain ⟨r1,r2⟩:=hB.at er (j:=w-1) (by omega)
  obtain ⟨r3,r4⟩:=hB.at er hp
  obtain ⟨t1,t2⟩:=hB.at et (j:=w-1) (by omega)
  obtain ⟨t3,t4⟩:=hB.at et hp
  have gi : ∀ {l:List Int}{j:Nat}{x:Int},l[j]?=some x→(l.map PyData.int)[j]?=some (.int x):=fun e=>by rw [List.getElem?_map,e];rfl
  have hs:=hB.s
  have sk:ss[k]?=some ((ss[k]?).getD 0):=by rw [List.getElem?_eq_getElem (by omega)];rfl
  have sc:ss[c]?=some ((ss[c]?).getD 0):=by rw [List.getElem?_eq_getElem (by omega)];rfl
  refine ⟨rfl,_,rfl,_,ar,.int (at2 Ls k (w-1)),atI_last (by rw [List.length_map,lr];exact gi r1),rfl,_,rfl,_,at',_,qM (gi t3),qob (qB r2 (by decide)) (qB t4 (by decide)),?_⟩
  refine ⟨rfl,_,rfl,_,at',.int (at2 Ls c (w-1)),atI_last (by rw [List.length_map,lt];exact gi t1),rfl,_,rfl,_,ar,_,qM (gi r3),qob (qB t2 (by decide)) (qB r4 (by decide)),?_⟩
  have hq : ∀ b:Bool,b=qhd Ls ss w k c p→q (.bool b):=fun b e=>by rw [e];exact h
  refine qix (fun a=>hq _ ?_) (fun a=>?_)
  ·unfold qhd;rw [decide_eq_true a];rfl
  ·have af:decide (at2 Ls k (w-1)*at2 Ls c p<at2 Ls c (w-1)*at2 Ls k p)=false:=decide_eq_false a
   refine ⟨rfl,rfl,qhi (fun e=>?_) (fun e=>hq _ ?_)⟩
   ·refine ⟨rfl,_,rfl,_,qM (gi sk),rfl,_,rfl,_,qM (gi sc),hq _ ?_⟩
    unfold qhd;rw [af,decide_eq_true e];rfl
   ·unfold qhd;rw [af,decide_eq_false e];rfl
def qlt (nm:List Str) (fs:List (Str×PyData)) (ds:List PyData) (q:PyData→Prop):Prop := ∃ (n d:Int) (Ls:List (List Int)) (ss:List Int) (m w p:Nat),nm=bNm∧fs=bFs n d Ls ss∧ds=[.int p]∧(Bd m w Ls ss∧p<w∧m≤900 ∧ ∃ k,k<m∧0<at2 Ls k p) ∧ ∀ r,r<m→Tg Ls ss w p m r→q (.int r)
def TgI (Ls:List (List Int)) (ss:List Int) (w p i:Nat) (c:PyData):Prop:=(c = .none ∧ ∀ k,k<i → ¬ 0<at2 Ls k p) ∨ ∃ r:Nat,c = .int r∧r<i∧Tg Ls ss w p i r
theorem qan:FnScope ["self","place","chosen","k","line"] ["self","place"] (defScope qby):=⟨rfl,rfl,rfl,by decide +kernel,rfl,by decide +kernel,by decide +kernel⟩
theorem qjs (F:MDef K cs.Board "tightest" "Board.tightest" qby ["self","place"]) (T:Txt K mg cs)
 (O_Board_is_tighter:OkM P w K mg base cs.Board "is_tighter" 1 ["self","k","chosen","place"] (OSp K cs.Board qiz))
 : OkM P w K mg base cs.Board "tightest" 2 ["self","place"] (OSp K cs.Board qlt):=by
  refine F.vok qan (by rintro nm fs ds q ⟨_,_,_,_,_,_,_,_,_,h,_⟩;rw [h];rfl) fun f cdv A outer s H E hr a0 nm fs ds q h=>?_
  obtain ⟨n,d,Ls,ss,m,w,p,rfl,rfl,rfl,⟨hB,hp,hm,k0,hk0,z0⟩,h⟩:=h
  refine ⟨_,(qg (qC (i:=2) qan.nd qti)
   (qg (qai rfl (qru T.enumerate_ (qcp 0 T.Board_c T.Board_n_lines)) (qft (n:=2) rfl (qK (qm (i:=3) qan.nd) (qK (qm (i:=4) qan.nd) qdd))) (qh (qam (VW.pt (zadr (qA qxc (qq (qb 4) (qb 1)) qe) (qxq (VW.pt (qbs (qA zahk (qb 2) qti) (qbi (qY (zaep 0 O_Board_is_tighter T.Board_c (hr.mono (by decide)) (qc (qb 3) (qc (qb 2) (qc (qb 1) qf))))))))))) (qh (qC (i:=2) qan.nd (qb 3))) qI)))
   (qh (qv (qb 2))))),?_⟩
  refine ⟨rfl,_,rfl,fun i e => ∃ t1 t2 c,e=[.obj a0 cs.Board bNm (bFs n d Ls ss),.val (.int p),.val c,t1,t2]∧TgI Ls ss w p i c,⟨_,_,_,rfl,.inl ⟨rfl,fun k hk=>by omega⟩⟩,?_,?_⟩
  ·rintro i x e hx ⟨t1,t2,c,rfl,hI⟩
   obtain ⟨x,hx',rfl⟩:=qli hx
   clear hx
   obtain ⟨r,er,rfl⟩ : ∃ r,Ls[i]?=some r∧qak r=x:=by
    rw [List.getElem?_map] at hx'
    cases q:Ls[i]? with
    | none=>rw [q] at hx';cases hx'
    | some r=>rw [q] at hx';exact ⟨r,rfl,Option.some.inj hx'⟩
   have him:i<m:=by rw [← hB.l];exact (List.getElem?_eq_some_iff.mp er).1
   obtain ⟨r3,_⟩:=hB.at er hp
   refine ⟨rfl,rfl,_,qM (by rw [List.getElem?_map,r3];rfl),?_⟩
   refine qix (fun a=>?_) (fun a=>?_)
   ·rcases hI with ⟨rfl,z⟩|⟨r',rfl,hr',ht⟩
    ·exact ⟨rfl,_,_,_,rfl,.inr ⟨i,rfl,by omega,Tg.first z a⟩⟩
    ·refine ⟨rfl,rfl,rfl,rfl,n,d,Ls,ss,m,w,i,r',p,rfl,rfl,rfl,⟨hB,him,by omega,hp⟩,iteB (fun t=>?_) (fun t=>?_)⟩
     ·exact ⟨_,_,_,rfl,.inr ⟨i,rfl,by omega,ht.take a t⟩⟩
     ·exact ⟨_,_,_,rfl,.inr ⟨r',rfl,by omega,ht.stay t⟩⟩
   ·refine ⟨_,_,_,rfl,?_⟩
    rcases hI with ⟨rfl,z⟩|⟨r',rfl,hr',ht⟩
    ·exact .inl ⟨rfl,fun k hk=>by
      by_cases e:k=i
      ·subst e;exact a
      ·exact z k (by omega)⟩
    ·exact .inr ⟨r',rfl,by omega,ht.skip a⟩
  ·rintro e ⟨t1,t2,c,rfl,hI⟩
   rw [qex,List.length_map,hB.l] at hI
   rcases hI with ⟨_,z⟩|⟨r,rfl,hr',ht⟩
   ·exact (z k0 hk0 z0).elim
   ·exact h r hr' ht
def qum (r t:List Int) (p:Nat) (d:Int):List Int:=List.zipWith (fun x y=>(x*(t[p]?).getD 0-(r[p]?).getD 0*y)/d) r t
def qnd (ds:List PyData) (q:List PyData→Prop):Prop := ∃ (r t:List Int) (p:Nat) (d:Int),ds=[.list (r.map .int),.list (t.map .int),.int p,.int d]∧(r.length=t.length∧p<r.length∧r.length≤900∧0<d∧intBits d≤2000∧(∀ x ∈ r,intBits x≤2000) ∧ ∀ x ∈ t,intBits x≤2000)∧q ((qum r t p d).map .int)
theorem qvr:FnScope ["line","pivot","place","bottom"] ["line","pivot","place","bottom"] (defScope qif):=⟨rfl,rfl,rfl,by decide +kernel,rfl,by decide +kernel,by decide +kernel⟩
theorem qwd (F:Def K mg "cleared" qif ["line","pivot","place","bottom"]) (T:Txt K mg cs)
 : Ok P w K mg base "cleared" 1 ["line","pivot","place","bottom"] (FSp K qnd):=by
  refine F.vokF qvr (by rintro ds q ⟨_,_,_,_,h,_⟩;rw [h];rfl) fun f cdv A outer s H E hr ds q h=>?_
  obtain ⟨r,t,p,d,rfl,⟨hl,hp,hz,d0,d1,zr,zt⟩,h⟩:=h
  refine ⟨_,(qh (qhc (qR (caps:=["line","pivot","place","bottom"]) (own:=["one","other"]) (ix:=[0,1,2,3]) rfl ⟨rfl,rfl,rfl,rfl,rfl,rfl⟩ (qje T.zip_ (qb 0) (qb 1)) (fun _ _ _ _=>(qft (n:=2) rfl (qK (qm (i:=4) (show List.Nodup (["line","pivot","place","bottom","one","other"]:List Str) by decide)) (qK (qm (i:=5) (show List.Nodup (["line","pivot","place","bottom","one","other"]:List Str) by decide)) qdd)))) (fun _ _ _ _=>(qw qhz (qw qvz (qw qaw (qb 4) (qq (qb 1) (qb 2))) (qw qaw (qq (qb 0) (qb 2)) (qb 5))) (qb 3)))))),?_⟩
  have er:r[p]?=some ((r[p]?).getD 0):=by rw [List.getElem?_eq_getElem hp];rfl
  have et:t[p]?=some ((t[p]?).getD 0):=by rw [List.getElem?_eq_getElem (by omega)];rfl
  have z1:=zr _ (List.mem_of_getElem? er)
  have z2:=zt _ (List.mem_of_getElem? et)
  refine qbc ((qum r t p d).map .int) (by rw [qcl];simp [qum]) (qo (by simp [qum];omega)) (fun e => ∃ s u,e=[.val (.list (r.map .int)),.val (.list (t.map .int)),.val (.int p),.val (.int d),s,u]) ⟨_,_,rfl⟩ ?_ ⟨_,rfl,h⟩
  rintro i x ys e hx hys ⟨s,u,rfl⟩
  obtain ⟨x,y,h3,h4,rfl⟩:=qge hx
  obtain ⟨x,rfl,h3,m3⟩:=qbb h3
  obtain ⟨y,rfl,h4,m4⟩:=qbb h4
  refine ⟨rfl,rfl,.int ((t[p]?).getD 0),qM (by rw [List.getElem?_map,et];rfl),qob (qB (zr x m3) (by decide)) (qB z2 (by decide)),.int ((r[p]?).getD 0),qM (by rw [List.getElem?_map,er];rfl),qob (qB z1 (by decide)) (qB (zt y m4) (by decide)),⟨d0,qB d1 (by decide)⟩,qt ?_ hys,_,_,rfl⟩
  unfold qum
  rw [List.getElem?_map,zaci h3 h4];rfl
def qmq (Ls:List (List Int)) (r p:Nat) (d:Int):List (List Int):=Ls.mapIdx fun k line=>if k=r then line else qum line ((Ls[r]?).getD []) p d
structure BrPre (n:Nat) (d:Int) (Ls:List (List Int)) (ss:List Int) (m p:Nat):Prop where
 b:Bd m (n+m+1) Ls ss
 hp:p<n
 hm:m≤24
 hn:n≤20
 d0:0<d
 d1:intBits d≤2000
 hk : ∃ k,k<m∧0<at2 Ls k p
def qxd (K:PySem.W.Frag) (C:Addr):Sp:=fun vs H Q _ => ∃ (a dx qa:Addr) (F:Hp) (vl:V) (n:Nat) (d:Int) (Ls:List (List Int)) (ss:List Int) (m p:Nat),vs=[.ref a,.int p]∧BAt K C H F a dx qa n d Ls ss vl∧Same F H∧BrPre n d Ls ss m p ∧
 ∀ F' H' vl' r,r<m→Tg Ls ss (n+m+1) p m r→GoX a qa F H F' H'→BAt K C H' F' a dx qa n (at2 Ls r p) (qmq Ls r p d) (ss.set r p) vl'→Q .non H'
theorem qbn:FnScope ["self","place","turn","pivot","bottom"] ["self","place"] (defScope qbv):=⟨rfl,rfl,rfl,by decide +kernel,rfl,by decide +kernel,by decide +kernel⟩
theorem qjr (F:MDef K cs.Board "bring_in" "Board.bring_in" qbv ["self","place"]) (T:Txt K mg cs)
 (O_Board_tightest:OkM P w K mg base cs.Board "tightest" 2 ["self","place"] (OSp K cs.Board qlt))
 (O_cleared:Ok P w K mg base "cleared" 1 ["line","pivot","place","bottom"] (FSp K qnd))
 : OkM P w K mg base cs.Board "bring_in" 3 ["self","place"] (qxd K cs.Board):=by
  obtain ⟨f,fd,Fn,hm,hb⟩:=F.ex
  refine ⟨f,fd,Fn.ok qbn (by rintro vs H Q E ⟨_,_,_,_,_,_,_,_,_,_,_,h,_⟩;rw [h];rfl) fun cdv A outer s H vs Q E hr h=>?_,hm,hb⟩
  obtain ⟨a,dx,qa,F0,vl,n,d,Ls,ss,m,p,rfl,hA,sm,hp,kk⟩:=h
  obtain ⟨f1,fd1,F1,hm1,hb1⟩:=O_Board_tightest.ex
  refine ⟨_,qz (qgf (i:=2) qbn.nd rfl (by first|exact Or.inl rfl|exact Or.inr rfl) (qsg (qG (i:=0) rfl (by first|exact Or.inl rfl|exact Or.inr (Or.inl rfl)|exact Or.inr (Or.inr rfl)) (by decide) (by decide)) T.Board_c hm1 F1 (hr.mono (by decide)) hb1 .nil qnx (qL (qG (i:=1) rfl (by first|exact Or.inl rfl|exact Or.inr (Or.inl rfl)|exact Or.inr (Or.inr rfl)) (by decide) (by decide)) qbp)) rfl (by first|exact .inl rfl|exact .inr rfl))
   (qz (qgf (i:=3) qbn.nd rfl (by first|exact Or.inl rfl|exact Or.inr rfl) (qtl qnz (qto (qG (i:=0) rfl (by first|exact Or.inl rfl|exact Or.inr (Or.inl rfl)|exact Or.inr (Or.inr rfl)) (by decide) (by decide)) rfl) (qG (i:=2) rfl (by first|exact Or.inl rfl|exact Or.inr (Or.inl rfl)|exact Or.inr (Or.inr rfl)) (by decide) (by decide)) (fun _ _=>rfl)) rfl (by first|exact .inl rfl|exact .inr rfl))
   (qz (qgf (i:=4) qbn.nd rfl (by first|exact Or.inl rfl|exact Or.inr rfl) (qto (qG (i:=0) rfl (by first|exact Or.inl rfl|exact Or.inr (Or.inl rfl)|exact Or.inr (Or.inr rfl)) (by decide) (by decide)) rfl) rfl (by first|exact .inl rfl|exact .inr rfl))
   (qz (qmo (qG (i:=0) rfl (by first|exact Or.inl rfl|exact Or.inr (Or.inl rfl)|exact Or.inr (Or.inr rfl)) (by decide) (by decide)) (VE.pe (qT (qR (caps:=["place","turn","pivot","bottom"]) (own:=["k","line"]) (ix:=[1,2,3,4]) rfl ⟨rfl,rfl,rfl,rfl,rfl,rfl⟩ (qru T.enumerate_ (qcp 0 T.Board_c T.Board_n_lines)) (fun _ _ _ _=>(qft (n:=2) rfl (qK (qm (i:=4) (show List.Nodup (["place","turn","pivot","bottom","k","line"]:List Str) by decide)) (qK (qm (i:=5) (show List.Nodup (["place","turn","pivot","bottom","k","line"]:List Str) by decide)) qdd)))) (fun _ _ _ _=>(qgb (qA (qms hr.units) (qb 4) (qb 1)) (qb 5) (qT (qnk O_cleared (hr.mono (by decide)) (qc (qb 5) (qc (qb 2) (qc (qb 0) (qc (qb 3) qf))))))))))) rfl)
   (qz (qwv (qG (i:=1) rfl (by first|exact Or.inl rfl|exact Or.inr (Or.inl rfl)|exact Or.inr (Or.inr rfl)) (by decide) (by decide)) (zadu (qto (qG (i:=0) rfl (by first|exact Or.inl rfl|exact Or.inr (Or.inl rfl)|exact Or.inr (Or.inr rfl)) (by decide) (by decide)) rfl) (qG (i:=2) rfl (by first|exact Or.inl rfl|exact Or.inr (Or.inl rfl)|exact Or.inr (Or.inr rfl)) (by decide) (by decide)) qug (by intro _;rfl)) rfl rfl rfl)
   (qfh (qmo (qG (i:=0) rfl (by first|exact Or.inl rfl|exact Or.inr (Or.inl rfl)|exact Or.inr (Or.inr rfl)) (by decide) (by decide)) (qtl qnz (qG (i:=3) rfl (by first|exact Or.inl rfl|exact Or.inr (Or.inl rfl)|exact Or.inr (Or.inr rfl)) (by decide) (by decide)) (qG (i:=1) rfl (by first|exact Or.inl rfl|exact Or.inr (Or.inl rfl)|exact Or.inr (Or.inr rfl)) (by decide) (by decide)) (fun _ _=>rfl)) rfl)))))),?_⟩
  have hB:=hp.b
  have p0:=hp.hp
  have sF1:Same (upd F0 qa (.lst (ss.map V.int))) H:=qkk sm hA.hq
  refine ⟨.ref a,rfl,a,dx,_,rfl,hA.ha,rfl,.int p,rfl,a,dx,_,[.int p],_,bNm,bFs n d Ls ss,[.int p],fun dd => ∃ r:Nat,r<m∧Tg Ls ss (n+m+1) p m r∧dd = .int r,rfl,hA.ha,sF1,hA.flds,qy (qZ _) qO,
   ⟨n,d,Ls,ss,m,n+m+1,p,rfl,rfl,rfl,⟨hB,by omega,by have:=hp.hm;omega,hp.hk⟩,fun r h1 h2=>⟨r,h1,h2,rfl⟩⟩,fun dd v F2 H2 g i2 q2=>?_⟩
  obtain ⟨r,hr',ht,rfl⟩:=q2
  have ev:=i2.int_inv
  subst ev
  have sH:Same H H2:=g.h
  have sF0:Same F0 H2:=sm.trans sH
  obtain ⟨la,xs,rfl,hsq,hxs⟩:=hA.hl.lst_inv
  obtain ⟨t,et,_,lt⟩:=hB.row (k:=(r:Int)) (by omega) (by omega)
  have et:Ls[r]?=some t:=et
  obtain ⟨xr,exr,ixr⟩:=hxs.get (i:=r) (d:=qak t) (by rw [List.getElem?_map,et];rfl)
  refine ⟨.ref a,rfl,a,cs.Board,dx,_,.ref la,rfl,sH _ _ hA.ha,T.Board_c,T.Board_n_lines,rfl,.int r,rfl,la,xs,r,xr,rfl,rfl,sF0.seq hsq,qM exr,?_⟩
  refine ⟨.ref a,rfl,a,cs.Board,dx,_,.int d,rfl,sH _ _ hA.ha,T.Board_c,T.Board_n_bottom,rfl,?_⟩
  have A2:BAt K cs.Board H2 F0 a dx qa n d Ls ss (.ref la):=⟨sH _ _ hA.ha,hA.hl,sH _ _ hA.hq,hA.fa,hA.fq⟩
  have I4:=qgl (K:=K) (N:=["self","place","turn","pivot","bottom"]) sF0 A2.ha A2.flds3 (qy (qZ (p:Int)) (qy (qZ (r:Int)) (qy ixr (qy (qZ d) qO))))
  refine ⟨⟨H2,H2,F0⟩,_,F0,fun dd e=>dd = .list ((qmq Ls r p d).map qak),I4,?_,fun dd v F5 H5 e5 I5 s5 i5 q5=>?_⟩
  ·refine ⟨rfl,_,rfl,?_⟩
   have hlen:Ls.length=m:=hB.l
   have hm24:=hp.hm
   refine qbc ((qmq Ls r p d).map qak) (by rw [qex];simp [qmq]) (qo (by simp [qmq];omega)) (fun e => ∃ s u,e=[.val (.int p),.val (.int r),.val (qak t),.val (.int d),s,u]) ⟨_,_,rfl⟩ ?_ rfl
   rintro i x ys e hx hys ⟨s,u,rfl⟩
   obtain ⟨x,hx',rfl⟩:=qli hx
   obtain ⟨l,el,rfl⟩ : ∃ l,Ls[i]?=some l∧qak l=x:=by
    rw [List.getElem?_map] at hx'
    cases q:Ls[i]? with
    | none=>rw [q] at hx';cases hx'
    | some l=>rw [q] at hx';exact ⟨l,rfl,Option.some.inj hx'⟩
   have ll:=hB.w l (List.mem_of_getElem? el)
   have hn20:=hp.hn
   have ge:((qmq Ls r p d).map qak)[i]?=some (qak (if i=r then l else qum l t p d)):=by
    unfold qmq
    rw [List.getElem?_map,List.getElem?_mapIdx,el,et];rfl
   refine ⟨rfl,rfl,rfl,rfl,qhi (fun e=>⟨qt ?_ hys,_,_,rfl⟩) (fun e=>⟨l,t,p,d,rfl,⟨by omega,by omega,by omega,hp.d0,hp.d1,hB.z l (List.mem_of_getElem? el),hB.z t (List.mem_of_getElem? et)⟩,qt ?_ hys,_,_,rfl⟩)⟩
   ·rw [ge,if_pos (by omega)]
   ·rw [ge,if_neg (by omega)];rfl
  subst q5
  have qne:qa≠a:=fun z=>by have:=hA.hq;rw [z,hA.ha] at this;cases this
  have Ha5:=I5.bh _ _ A2.ha
  have Hq5:=I5.bh _ _ A2.hq
  have fa5:F5 a=none:=by
   cases e:F5 a with
   | none=>rfl
   | some o=>rcases I5.new a o e with q|q
             ·have q:F0 a=some o:=q
              rw [hA.fa] at q;cases q
             ·have q:H2 a=none:=q
              rw [A2.ha] at q;cases q
  have fq5:F5 qa=none:=by
   cases e:F5 qa with
   | none=>rfl
   | some o=>rcases I5.new qa o e with q|q
             ·have q:F0 qa=some o:=q
              rw [hA.fq] at q;cases q
             ·have q:H2 qa=none:=q
              rw [A2.hq] at q;cases q
  obtain ⟨lb,ys,rfl,hsq2,hys⟩:=ixr.lst_inv
  have eys:=hys.ints_inv
  subst eys
  obtain ⟨t3,_⟩:=hB.at et (j:=p) (by omega)
  refine ⟨.ref a,rfl,a,cs.Board,dx,_,rfl,Ha5,T.Board_c,T.Board_n_lines,(show 4<1000 by decide),?_⟩
  refine ⟨.int p,rfl,.ref a,rfl,a,cs.Board,dx,_,.ref qa,rfl,qp,T.Board_c,T.Board_n_stands_for,rfl,.int r,rfl,qa,ss.map V.int,r,r,rfl,rfl,?_,?_,?_⟩
  ·rw [qk qne];exact Hq5
  ·rw [List.length_map,hB.s];exact zadh (by omega) (by omega)
  have sF7 : ∀ o1 o2,Same F5 (upd (upd H5 a o1) qa o2):=fun o1 o2 b u e=>by
   rw [qk (ql e fq5),qk (ql e fa5)];exact I5.fh b u e
  refine ⟨.ref lb,rfl,.int p,rfl,lb,t.map V.int,p,.int (at2 Ls r p),rfl,rfl,((s5.trans (sF7 _ _)).seq hsq2),qM (by rw [List.getElem?_map,t3];rfl),?_⟩
  refine ⟨.ref a,rfl,a,cs.Board,dx,[("unknowns",.int n),("bottom",.int d),("lines",v),("stands_for",.ref qa)],rfl,by rw [qk (Ne.symm qne)];exact qp,T.Board_c,T.Board_n_bottom,(show 4<1000 by decide),?_⟩
  refine kk F5 _ v r hr' ht ⟨s5,fun c o c1 c2 e=>?_,fun c o e=>?_,fun c o e=>?_⟩ ⟨qp,i5,?_,fa5,fq5⟩
  ·rw [qk c1,qk c2,qk c1]
   exact I5.bh c o (sH c o e)
  ·rw [qk (ql e fa5)]
   exact sF7 _ _ c o e
  ·rcases I5.new c o e with q|q
   ·exact .inl q
   ·exact .inr (qH sH q)
  ·rw [qk qne,qp,List.map_set]
def zaiv:PyData→Bool
 | .int _=>true
 | _=>false
def qfn:DC
 | [d],q=>q (.bool (zaiv d))
 | _,_=>False
theorem qtz:FnScope ["thing"] ["thing"] (defScope qgt):=⟨rfl,rfl,rfl,by decide +kernel,rfl,by decide +kernel,by decide +kernel⟩
theorem qtt (F:Def K mg "is_whole" qgt ["thing"]) (T:Txt K mg cs)
 : Ok P w K mg base "is_whole" 1 ["thing"] (PSp K qfn):=by
  refine F.vok qtz (fun ds q h=>by unfold qfn at h;split at h;all_goals first|rfl|exact h.elim) fun f cdv A outer s H E hr ds q h=>?_
  match ds,h with
  | [d],h =>
  refine ⟨_,(qh (qv (qpj (qec T.isinstance_ T.int_ L2.boot_int (qb 0)) (qkb (qwr (qec T.isinstance_ T.bool_ L2.boot_bool (qb 0))))))),?_⟩
  cases d <;> exact h
def dSh (p q:Int):PyData :=.tuple [.int p,.int q]
def qgi:DC
 | [.int t,.int b],q=>(b≠0∧intBits b≤9000)∧q (dSh (shT t b) (shB t b))
 | _,_=>False
theorem qjq:FnScope ["top","bottom","common"] ["top","bottom"] (defScope qin):=⟨rfl,rfl,rfl,by decide +kernel,rfl,by decide +kernel,by decide +kernel⟩
theorem qvw (F:Def K mg "reduced" qin ["top","bottom"]) (T:Txt K mg cs)
 (O_divisor:Ok P w K mg base "divisor" 1 ["one","other"] (PSp K qdn))
 : Ok P w K mg base "reduced" 2 ["top","bottom"] (PSp K qgi):=by
  refine F.vok qjq (fun ds q h=>by unfold qgi at h;split at h;all_goals first|rfl|exact h.elim) fun f cdv A outer s H E hr ds q h=>?_
  match ds,h with
  | [.int t,.int b],⟨⟨hb,hz⟩,h⟩ =>
  refine ⟨_,(qg (qC (i:=2) qjq.nd (qx O_divisor (hr.mono (by decide)) (qc (qb 0) (qc (qb 1) qf))))
   (qfg (qam (qA qql (qb 1) qe) (qh (qC (i:=2) qjq.nd (qkd (qb 2)))) qI)
   (qh (qv (qfe (qc (qw zacu (qb 0) (qb 2)) (qc (qw zacu (qb 1) (qb 2)) qf))))))),?_⟩
  have hc:=zagz (t:=t) hb
  have hcz:=zaes (t:=t) hb hz
  refine ⟨fun e=>e=[.val (.int t),.val (.int b),.val (.int (cm t b))],?_,?_⟩
  ·refine qix (fun hn=>?_) (fun hn=>?_)
   ·show _=_
    unfold cm;rw [if_pos hn];rfl
   ·show _=_
    unfold cm;rw [if_neg hn];rfl
  ·rintro e rfl
   exact ⟨⟨hc,hcz⟩,⟨hc,hcz⟩,szl,h⟩
def qkw:DC
 | [.int t,.int b],q=>(b≠0∧intBits b≤9000)∧q (dSh (shT t b) (shB t b))
 | _,_=>False
theorem zabj:FnScope ["top","bottom"] ["top","bottom"] (defScope qoa):=⟨rfl,rfl,rfl,by decide +kernel,rfl,by decide +kernel,by decide +kernel⟩
theorem zabx (F:Def K mg "share" qoa ["top","bottom"]) (T:Txt K mg cs)
 (O_is_whole:Ok P w K mg base "is_whole" 1 ["thing"] (PSp K qfn))
 (O_reduced:Ok P w K mg base "reduced" 2 ["top","bottom"] (PSp K qgi))
 : Ok P w K mg base "share" 3 ["top","bottom"] (PSp K qkw):=by
  refine F.vok zabj (fun ds q h=>by unfold qkw at h;split at h;all_goals first|rfl|exact h.elim) fun f cdv A outer s H E hr ds q h=>?_
  match ds,h with
  | [.int t,.int b],h =>
  refine ⟨_,(qg (qam (VW.pt (qbs (qah (qY (qx O_is_whole (hr.mono (by decide)) (qc (qb 0) qf)))) (qbs (qah (qY (qx O_is_whole (hr.mono (by decide)) (qc (qb 1) qf)))) (qbi (qA (qms hr.units) (qb 1) qe))))) qey qI)
   (qh (qv (qx O_reduced (hr.mono (by decide)) (qc (qb 0) (qc (qb 1) qf)))))),?_⟩
  exact ⟨rfl,rfl,qhi (fun z=>(h.1.1 z).elim) (fun _=>h)⟩
def qpv (d:Int) (Ls:List (List Int)) (ss:List Int) (m w i u:Nat) (x:Int×Int):Prop :=
 (∃ k,k<i∧ss[k]?=some (u:Int)∧x=(shT (at2 Ls k (w-1)) d,shB (at2 Ls k (w-1)) d))∨((∀ k,k<i→ss[k]?≠some (u:Int))∧x=(shT 0 1,shB 0 1))
def qsm (nm:List Str) (fs:List (Str×PyData)) (ds:List PyData) (q:List PyData→Prop):Prop := ∃ (n:Nat) (d:Int) (Ls:List (List Int)) (ss:List Int) (m w:Nat),nm=bNm∧fs=bFs n d Ls ss∧ds=[]∧(Bd m w Ls ss∧0<d∧intBits d≤2000∧1≤w∧n≤900 ∧ ∀ x ∈ ss,x<n) ∧
 ∀ vs:List (Int×Int),vs.length=n→(∀ u x,vs[u]?=some x→qpv d Ls ss m w m u x)→q (vs.map fun x=>dSh x.1 x.2)
theorem qdg:FnScope ["self","found","line","unknown"] ["self"] (defScope qel):=⟨rfl,rfl,rfl,by decide +kernel,rfl,by decide +kernel,by decide +kernel⟩
theorem qpn (F:MDef K cs.Board "told" "Board.told" qel ["self"]) (T:Txt K mg cs)
 (O_share:Ok P w K mg base "share" 3 ["top","bottom"] (PSp K qkw))
 : OkM P w K mg base cs.Board "told" 4 ["self"] (OFSp K cs.Board qsm):=by
  refine F.vokF qdg (by rintro nm fs ds q ⟨_,_,_,_,_,_,_,_,h,_⟩;rw [h];rfl) fun f cdv A outer s H E hr a0 nm fs ds q h=>?_
  obtain ⟨n,d,Ls,ss,m,w,rfl,rfl,rfl,⟨hB,d0,d1,w1,hn,hs⟩,h⟩:=h
  refine ⟨_,(qg (qkn (caps:=[]) (own:=["place"]) (ix:=[]) (i:=1) qdg.nd rfl ⟨rfl,rfl,rfl,rfl,rfl,rfl⟩ (qE T.range_ (qcp 0 T.Board_c T.Board_n_unknowns)) (fun _ _ _ _=>(qm (i:=0) (show List.Nodup (["place"]:List Str) by decide))) (fun _ _ _ _=>(qx O_share (hr.mono (by decide)) (qc qe (qc qe qf)))))
   (qg (qai rfl (qje T.zip_ (qcp 0 T.Board_c T.Board_n_lines) (qcp 0 T.Board_c T.Board_n_stands_for)) (qft (n:=2) rfl (qK (qm (i:=2) qdg.nd) (qK (qm (i:=3) qdg.nd) qdd))) (qh (qam (qA o_ge (qb 3) qe) (qh (qhf 1 (qx O_share (hr.mono (by decide)) (qc (qq (qb 2) (qkd qe)) (qc (qcp 0 T.Board_c T.Board_n_bottom) qf))) (qb 3))) qI)))
   (qh (qry 1)))),?_⟩
  have hlen:(Ls.map qak).length=m:=by rw [List.length_map,hB.l]
  have hrl:(qrx 0 (n:Int).toNat).length=n:=by rw [qs];omega
  refine ⟨rfl,_,rfl,⟨by omega,by omega⟩,qo (by rw [hrl];omega),fun k ys e=>ys=(List.replicate n (dSh (shT 0 1) (shB 0 1))).take k ∧ ∃ u,e=[u],⟨by simp,_,rfl⟩,?_,?_⟩
  ·rintro i x ys e hx ⟨hys,s,rfl⟩
   obtain ⟨hi,rfl⟩:=qP hx
   exact ⟨⟨by decide,by decide⟩,qt (by rw [List.getElem?_replicate,if_pos (by omega)]) hys,_,rfl⟩
  rintro ys e ⟨hys,u,rfl⟩
  rw [hrl,List.take_of_length_le (by rw [List.length_replicate];omega)] at hys
  subst hys
  refine ⟨rfl,_,rfl,rfl,_,rfl,fun i e => ∃ t1 t2 l,e=[.obj a0 cs.Board bNm (bFs n d Ls ss),.own l,t1,t2] ∧ ∃ vs:List (Int×Int),l=vs.map (fun x=>dSh x.1 x.2)∧vs.length=n ∧ ∀ u x,vs[u]?=some x→qpv d Ls ss m w i u x,⟨_,_,_,rfl,List.replicate n (shT 0 1,shB 0 1),by rw [List.map_replicate],by simp,fun u x hx => .inr ⟨fun k hk=>by omega,?_⟩⟩,?_,?_⟩
  ·rw [List.getElem?_replicate] at hx
   split at hx
   ·exact (Option.some.inj hx).symm
   ·cases hx
  ·rintro i x e hx ⟨t1,t2,l,rfl,vs,rfl,hv,hI⟩
   obtain ⟨x,y,h3,h4,rfl⟩:=qge hx
   obtain ⟨u,rfl,hu,hum⟩:=qbb h4
   obtain ⟨r,er,rfl⟩ : ∃ r,Ls[i]?=some r∧qak r=x:=by
    rw [List.getElem?_map] at h3
    cases q:Ls[i]? with
    | none=>rw [q] at h3;cases h3
    | some r=>rw [q] at h3;exact ⟨r,rfl,Option.some.inj h3⟩
   have lr:r.length=w:=hB.w r (List.mem_of_getElem? er)
   obtain ⟨r1,r2⟩:=hB.at er (j:=w-1) (by omega)
   refine ⟨rfl,rfl,qix (fun a=>?_) (fun a=>?_)⟩
   ·have un:=hs u hum
    refine ⟨.int (at2 Ls i (w-1)),atI_last (by rw [List.length_map,lr,List.getElem?_map,r1];rfl),rfl,_,rfl,⟨by omega,qB d1 (by decide)⟩,rfl,rfl,u.toNat,?_,_,_,_,rfl,vs.set u.toNat (shT (at2 Ls i (w-1)) d,shB (at2 Ls i (w-1)) d),?_,by rw [List.length_set];exact hv,fun v x hx=>?_⟩
    ·exact zadh a (by show u<(((vs.map _).length:Nat):Int);rw [List.length_map,hv];exact un)
    ·rw [List.map_set];rfl
    ·rw [List.getElem?_set] at hx
     by_cases e:u.toNat=v
     ·rw [if_pos e] at hx
      split at hx
      ·exact .inl ⟨i,by omega,by rw [hu];congr 1;omega,(Option.some.inj hx).symm⟩
      ·cases hx
     ·rw [if_neg e] at hx
      rcases hI v x hx with ⟨k,hk,h1,h2⟩|⟨h1,h2⟩
      ·exact .inl ⟨k,by omega,h1,h2⟩
      ·refine .inr ⟨fun k hk z=>?_,h2⟩
       by_cases q:k=i
       ·subst q;rw [hu] at z;have:=Option.some.inj z;omega
       ·exact h1 k (by omega) z
   ·refine ⟨_,_,_,rfl,vs,rfl,hv,fun v x hx=>?_⟩
    rcases hI v x hx with ⟨k,hk,h1,h2⟩|⟨h1,h2⟩
    ·exact .inl ⟨k,by omega,h1,h2⟩
    ·refine .inr ⟨fun k hk z=>?_,h2⟩
     by_cases q:k=i
     ·subst q;rw [hu] at z;have:=Option.some.inj z;omega
     ·exact h1 k (by omega) z
  ·rintro e ⟨t1,t2,l,rfl,vs,rfl,hv,hI⟩
   rw [qcl,hlen,List.length_map,hB.s,Nat.min_self] at hI
   exact ⟨_,rfl,h vs hv hI⟩
theorem pig : ∀ (N T:Nat) (f:Nat→Nat),(∀ i,i≤T→f i<N)→(∀ i j,i<j→j≤T→f i≠f j)→T<N
 | 0,T,f,h,_=>absurd (h 0 (Nat.zero_le _)) (by omega)
 | N+1,T,f,h,hd=>by
  by_cases q : ∃ i,i≤T∧f i=N
  ·obtain ⟨i0,hi0,e0⟩:=q
   cases T with
   | zero=>omega
   | succ T =>
    have sl : ∀ i,i≤T→skip i0 i≤T+1:=fun i hi=>by unfold skip;split <;> omega
    have sn : ∀ i,skip i0 i≠i0:=fun i=>by unfold skip;split <;> omega
    have sm : ∀ i j,i<j→skip i0 i<skip i0 j:=fun i j hij=>by unfold skip;split <;> split <;> omega
    have:=pig N T (fun i=>f (skip i0 i)) (fun i hi=>by
     have a:=h (skip i0 i) (sl i hi)
     have b:f (skip i0 i)≠N:=fun z=>by
      rcases Nat.lt_or_gt_of_ne (sn i) with g|g
      ·exact hd _ _ g hi0 (by rw [z,e0])
      ·exact hd _ _ g (sl i hi) (by rw [z,e0])
     show f (skip i0 i)<N
     omega) fun i j hij hj=>hd _ _ (sm i j hij) (sl j hj)
    omega
  ·have:=pig N T f (fun i hi=>by
    have a:=h i hi
    have b:f i≠N:=fun z=>q ⟨i,hi,z⟩
    omega) hd
   omega
def enc (B:Nat) (st:Nat→Nat):Nat→Nat
 | 0=>0
 | k+1=>enc B st k+st k*B^k
theorem qtk {B:Nat}{st:Nat→Nat} : ∀ {m:Nat},(∀ k,k<m→st k<B)→enc B st m<B^m
 | 0,_=>by simp [enc]
 | m+1,h=>by
  have a:=qtk (B:=B) (st:=st) (m:=m) fun k hk=>h k (by omega)
  have b:=h m (by omega)
  show enc B st m+st m*B^m<B^(m+1)
  rw [Nat.pow_succ,Nat.mul_comm (B^m) B]
  have:(st m+1)*B^m≤B*B^m:=Nat.mul_le_mul_right _ (by omega)
  rw [Nat.add_mul,Nat.one_mul] at this
  omega
theorem qxo {B:Nat}{st st':Nat→Nat} : ∀ {m:Nat},(∀ k,k<m→st k<B)→(∀ k,k<m→st' k<B)→enc B st m=enc B st' m → ∀ k,k<m→st k=st' k
 | 0,_,_,_,k,hk=>by omega
 | m+1,h,h',e,k,hk=>by
  have a:=qtk (B:=B) (st:=st) (m:=m) fun k hk=>h k (by omega)
  have a':=qtk (B:=B) (st:=st') (m:=m) fun k hk=>h' k (by omega)
  have e:enc B st m+st m*B^m=enc B st' m+st' m*B^m:=e
  have top:st m=st' m:=by
   have p:0<B^m:=by omega
   have e1:(enc B st m+st m*B^m)/B^m=st m:=by
    rw [Nat.mul_comm (st m),Nat.add_mul_div_left _ _ p,Nat.div_eq_of_lt a];omega
   have e2:(enc B st' m+st' m*B^m)/B^m=st' m:=by
    rw [Nat.mul_comm (st' m),Nat.add_mul_div_left _ _ p,Nat.div_eq_of_lt a'];omega
   rw [← e1,← e2,e]
  by_cases q:k=m
  ·subst q;exact top
  ·rw [top] at e
   exact qxo (m:=m) (fun k hk=>h k (by omega)) (fun k hk=>h' k (by omega)) (by omega) k (by omega)
structure Run (m n:Nat) (col:Nat→Nat→Int) (T:Nat) (b:Nat→Sta) (cs rs:Nat→Nat):Prop where
 good:Good m n col (b 0)
 low : ∀ k,k<m → -(m:Int)≤(b 0).st k
 step : ∀ τ,τ<T→Stp m n (b τ) (cs τ) (rs τ) (b (τ+1))
theorem Run.at {m n:Nat}{col:Nat→Nat→Int}{T:Nat}{b:Nat→Sta}{cs rs:Nat→Nat} (h:Run m n col T b cs rs) : ∀ τ,τ≤T→Good m n col (b τ) ∧ ∀ k,k<m → -(m:Int)≤(b τ).st k
 | 0,_=>⟨h.good,h.low⟩
 | τ+1,hτ=>by
  obtain ⟨g,l⟩:=h.at τ (by omega)
  have s:=h.step τ (by omega)
  refine ⟨(g.next s).1,fun k hk=>?_⟩
  rw [s.st]
  show _≤if k=rs τ then (cs τ:Int) else (b τ).st k
  by_cases q:k=rs τ
  ·rw [if_pos q];omega
  ·rw [if_neg q];exact l k hk
theorem Run.short {m n:Nat}{col:Nat→Nat→Int}{T:Nat}{b:Nat→Sta}{cs rs:Nat→Nat} (h:Run m n col T b cs rs):T<(n+m)^m:=by
 refine pig ((n+m)^m) T (fun τ=>enc (n+m) (fun k=>((b τ).st k+m).toNat) m) (fun i hi=>?_) fun i j hij hj e=>?_
 ·obtain ⟨g,l⟩:=h.at i hi
  exact qtk fun k hk=>by have:=g.top k hk;have:=l k hk;omega
 ·obtain ⟨g,l⟩:=h.at i (by omega)
  obtain ⟨g',l'⟩:=h.at j hj
  have e2:=qxo (fun k hk=>by have:=g.top k hk;have:=l k hk;omega) (fun k hk=>by have:=g'.top k hk;have:=l' k hk;omega) e
  refine zakv (b:=fun τ=>b (i+τ)) (cs:=fun τ=>cs (i+τ)) (rs:=fun τ=>rs (i+τ)) (T:=j-i) (by omega) g (fun τ hτ=>h.step (i+τ) (by omega)) fun k hk=>?_
  show (b (i+(j-i))).st k=(b i).st k
  rw [show i+(j-i)=j by omega]
  have a:=e2 k hk
  have:=l k hk
  have:=l' k hk
  have a:((b i).st k+m).toNat=((b j).st k+m).toNat:=a
  omega
theorem Run.snoc {m n:Nat}{col:Nat→Nat→Int}{T:Nat}{b:Nat→Sta}{cs rs:Nat→Nat} (h:Run m n col T b cs rs) {c r:Nat}{b':Sta} (s:Stp m n (b T) c r b') :
 Run m n col (T+1) (fun τ=>if τ≤T then b τ else b') (fun τ=>if τ<T then cs τ else c) (fun τ=>if τ<T then rs τ else r) where
  good:=by rw [if_pos (Nat.zero_le _)];exact h.good
  low:=by rw [if_pos (Nat.zero_le _)];exact h.low
  step:=fun τ hτ=>by
   by_cases q:τ<T
   ·rw [if_pos (by omega),if_pos q,if_pos q,if_pos (by omega)];exact h.step τ q
   ·have:τ=T:=by omega
    subst this
    rw [if_pos (Nat.le_refl _),if_neg q,if_neg q,if_neg (by omega)];exact s
theorem Good.fits {m n:Nat}{col:Nat→Nat→Int}{b:Sta} (h:Good m n col b) (h0:lack m b (n+m)=0) {x:Nat} (hx:x<m) :
 b.d*col (n+m) x=qj m fun k=>if b.st k<0 then 0 else b.L k (n+m)*col (b.st k).toNat x:=by
  rw [h.brd.hI (n+m) x hx]
  refine qi fun k hk=>?_
  by_cases q:b.st k<0
  ·rw [if_pos q]
   have:b.L k (n+m)=0:=by
    have s0:=h.sum k hk
    by_cases g:b.L k (n+m)=0
    ·exact g
    ·exfalso
     have:0<lack m b (n+m):=by
      unfold lack
      have e:(qj m fun i=>if b.st i<0 then b.L i (n+m) else 0)=(qj m fun i=>if i=k then b.L k (n+m) else 0)+qj m fun i=>if i=k then 0 else if b.st i<0 then b.L i (n+m) else 0:=by
       rw [← qcn]
       refine qi fun i _=>?_
       by_cases z:i=k
       ·subst z;rw [if_pos rfl,if_pos rfl,if_pos q];omega
       ·rw [if_neg z,if_neg z];omega
      rw [e,qU hk fun i _ z=>if_neg z,if_pos rfl]
      have:0≤qj m fun i=>if i=k then 0 else if b.st i<0 then b.L i (n+m) else 0:=qcr fun i hi=>by
       by_cases z:i=k
       ·rw [if_pos z];omega
       ·rw [if_neg z]
        by_cases y:b.st i<0
        ·rw [if_pos y];exact h.sum i hi
        ·rw [if_neg y];omega
      omega
     omega
   rw [this];omega
  ·rw [if_neg q];unfold Bas;rw [if_neg q]
theorem zaal {m:Nat}{b:Sta}{c:Nat} (h:0<lack m b c) : ∃ k,k<m∧0<b.L k c:=by
 obtain ⟨k,hk,z⟩:=qkv h
 by_cases q:b.st k<0
 ·rw [if_pos q] at z;exact ⟨k,hk,z⟩
 ·rw [if_neg q] at z;omega
theorem qoq {f:Nat→Int}{C:Nat} : ∀ {n:Nat},(∀ i,i<n→(f i).natAbs≤C)→(qj n f).natAbs≤n*C
 | 0,_=>by simp [qj]
 | n+1,h=>by
  have a:=qoq (f:=f) (C:=C) (n:=n) fun i hi=>h i (by omega)
  have b:=h n (by omega)
  show (qj n f+f n).natAbs≤_
  rw [Nat.add_mul,Nat.one_mul]
  have:=Int.natAbs_add_le (qj n f) (f n)
  omega
def fct:Nat→Nat
 | 0=>1
 | n+1=>(n+1)*fct n
theorem qsw {M:Nat} : ∀ {m:Nat}{a:Nat→Nat→Int},(∀ x y,x<m→y<m→(a x y).natAbs≤M)→(det m a).natAbs≤fct m*M^m
 | 0,_,_=>by simp [det,fct]
 | m+1,a,h=>by
  show (qj (m+1) _).natAbs≤(m+1)*fct m*M^(m+1)
  have e:(m+1)*fct m*M^(m+1)=(m+1)*(M*(fct m*M^m)):=by rw [Nat.pow_succ];grind
  rw [e]
  refine qoq fun i hi=>?_
  have d:=qsw (M:=M) (m:=m) (a:=fun x y=>a (skip i x) (y+1)) fun x y hx hy=>h _ _ (qsv hx) (by omega)
  have s:(sgn i).natAbs=1:=by unfold sgn;split <;> rfl
  rw [Int.natAbs_mul,Int.natAbs_mul,s,Nat.one_mul]
  exact Nat.mul_le_mul (h i 0 hi (by omega)) d
def qgo (Ls:List (List Int)) (ss:List Int) (d:Int):Sta:=⟨fun k=>(ss[k]?).getD 0,at2 Ls,d⟩
def qgk (Ls0:List (List Int)):Nat→Nat→Int:=fun j x=>at2 Ls0 x j
theorem Brd.congr {m:Nat}{col B B' L:Nat→Nat→Int}{d:Int} (h:Brd m col B L d) (e : ∀ x k,k<m→B x k=B' x k):Brd m col B' L d where
 pos:=h.pos
 hd:=by rw [h.hd];exact qfb fun x y _ hy=>e x y hy
 hL:=fun k hk j=>by
  rw [h.hL k hk j]
  exact qfb fun x y _ hy=>by
   unfold qaa
   by_cases z:y=k
   ·rw [if_pos z,if_pos z]
   ·rw [if_neg z,if_neg z,e x y hy]
 hI:=fun j x hx=>by
  rw [h.hI j x hx]
  exact qi fun k hk=>by rw [e x k hk]
theorem qha {f:Nat→List Int}{m k j:Nat} (hk:k<m):at2 ((List.range m).map f) k j=((f k)[j]?).getD 0:=by
 unfold at2
 rw [List.getElem?_map,List.getElem?_range hk];rfl
theorem qll {m k:Nat} (hk:k<m):((qfc m)[k]?).getD 0 = -(m:Int)+k:=by
 unfold qfc
 rw [List.getElem?_map,List.getElem?_range hk];rfl
theorem zabk (row:List Int) (s:Int) (k m:Nat):(qmr row s k m).length=row.length+m+1:=by
 unfold qmr;simp;omega
theorem qut {row:List Int}{s:Int}{k m j:Nat} (h:j<row.length):((qmr row s k m)[j]?).getD 0=tn s*(row[j]?).getD 0:=by
 unfold qmr
 rw [List.getElem?_map,List.getElem?_append_left (by simp;omega),List.getElem?_append_left h,List.getElem?_eq_getElem h];rfl
theorem qze {row:List Int}{s:Int}{k m j:Nat} (h:j<m):((qmr row s k m)[row.length+j]?).getD 0=tn s*(if j=k then 1 else 0):=by
 unfold qmr
 rw [List.getElem?_map,List.getElem?_append_left (by simp;omega),List.getElem?_append_right (by omega),Nat.add_sub_cancel_left,List.getElem?_map,List.getElem?_range h];rfl
theorem qom {row:List Int}{s:Int}{k m:Nat}:((qmr row s k m)[row.length+m]?).getD 0=tn s*s:=by
 unfold qmr
 rw [List.getElem?_map,List.getElem?_append_right (by simp)]
 simp
theorem zajx (s:Int):0≤tn s*s:=by unfold tn;split <;> omega
theorem qvq {n:Nat}{R:List (List Int)}{b:List Int} (hw : ∀ r ∈ R,r.length=n):Good R.length n (qgk (qJ R b)) (qgo (qJ R b) (qfc R.length) 1) where
 brd:=(qzp R.length (qgk (qJ R b))).congr fun x k hk=>by
  unfold Bas
  rw [if_pos (show (qgo (qJ R b) (qfc R.length) 1).st k<0 by show ((qfc R.length)[k]?).getD 0<0;rw [qll hk];omega)]
 sum:=fun k hk=>by
  show 0≤at2 (qJ R b) k (n+R.length)
  unfold qJ
  rw [qha hk]
  have e:((R[k]?).getD []).length=n:=by
   rw [List.getElem?_eq_getElem hk]
   exact hw _ (List.getElem_mem _)
  rw [← e,qom];exact zajx _
 top:=fun k hk=>by
  show ((qfc R.length)[k]?).getD 0<n
  rw [qll hk];omega
theorem qyi {Ls:List (List Int)}{k j:Nat} (h:Ls.length≤k):at2 Ls k j=0:=by
 unfold at2;rw [List.getElem?_eq_none h];rfl
theorem zaar {Ls:List (List Int)}{w r p:Nat}{d:Int} (hw : ∀ l ∈ Ls,l.length=w) (hr:r<Ls.length):at2 (qmq Ls r p d)=piv (at2 Ls) d r p:=by
 funext k j
 obtain ⟨t,et⟩ : ∃ t,Ls[r]?=some t:=⟨_,List.getElem?_eq_getElem hr⟩
 have lt:=hw t (List.mem_of_getElem? et)
 unfold piv
 by_cases hk:k<Ls.length
 ·obtain ⟨l,el⟩ : ∃ l,Ls[k]?=some l:=⟨_,List.getElem?_eq_getElem hk⟩
  have ll:=hw l (List.mem_of_getElem? el)
  have e:at2 (qmq Ls r p d) k j=((if k=r then l else qum l t p d)[j]?).getD 0:=by
   unfold at2 qmq
   rw [List.getElem?_mapIdx,el,et];rfl
  rw [e]
  by_cases z:k=r
  ·subst z
   rw [if_pos rfl,if_pos rfl]
   unfold at2;rw [el];rfl
  ·rw [if_neg z,if_neg z]
   have a1 : ∀ i,at2 Ls k i=(l[i]?).getD 0:=fun i=>by unfold at2;rw [el];rfl
   have a2 : ∀ i,at2 Ls r i=(t[i]?).getD 0:=fun i=>by unfold at2;rw [et];rfl
   rw [a1,a1,a2,a2]
   unfold qum
   by_cases hj:j<w
   ·rw [List.getElem?_zipWith,List.getElem?_eq_getElem (show j<l.length by omega),List.getElem?_eq_getElem (show j<t.length by omega)];rfl
   ·rw [List.getElem?_eq_none (by simp;omega),List.getElem?_eq_none (show l.length≤j by omega),List.getElem?_eq_none (show t.length≤j by omega)]
    simp
 ·have z1 : ∀ i,at2 Ls k i=0:=fun i=>qyi (by omega)
  rw [qyi (by unfold qmq;simp;omega),if_neg (by omega),z1,z1]
  simp
theorem zail {Ls:List (List Int)}{ss:List Int}{d:Int}{m n c r:Nat} (hl:Ls.length=m) (hs:ss.length=m) (hw : ∀ l ∈ Ls,l.length=n+m+1) (c1:c<n) (c2:0<lack m (qgo Ls ss d) c) (c3 : ∀ j,j<c→lack m (qgo Ls ss d) j≤0)
 (hr:r<m) (ht:Tg Ls ss (n+m+1) c m r):Stp m n (qgo Ls ss d) c r (qgo (qmq Ls r c d) (ss.set r c) (at2 Ls r c)) where
  c1:=c1
  c2:=c2
  c3:=c3
  r1:=hr
  r2:=ht.1
  r3:=fun k hk hp=>(ht.2 k hk hp).1
  r4:=fun k hk hp e=>(ht.2 k hk hp).2 e
  st:=by
   funext k
   show ((ss.set r (c:Int))[k]?).getD 0=if k=r then (c:Int) else (ss[k]?).getD 0
   rw [List.getElem?_set]
   by_cases z:r=k
   ·subst z;rw [if_pos rfl,if_pos rfl,if_pos (by omega)];rfl
   ·rw [if_neg z,if_neg (Ne.symm z)]
  L:=zaar hw (by omega)
  d:=rfl
theorem qxe {m M:Nat}{col:Nat→Nat→Int}{st:Nat→Int} (hM : ∀ j x,x<m→(col j x).natAbs≤M) (h1:1≤M) {x k:Nat} (hx:x<m):(Bas col st x k).natAbs≤M:=by
 unfold Bas
 split
 ·split
  ·exact h1
  ·exact Nat.zero_le _
 ·exact hM _ _ hx
theorem Good.abs {m n M:Nat}{col:Nat→Nat→Int}{b:Sta} (h:Good m n col b) (hM : ∀ j x,x<m→(col j x).natAbs≤M) (h1:1≤M):(∀ k,k<m → ∀ j,(b.L k j).natAbs≤fct m*M^m)∧b.d.natAbs≤fct m*M^m:=by
 refine ⟨fun k hk j=>?_,?_⟩
 ·rw [h.brd.hL k hk j]
  refine qsw fun x y hx _=>?_
  unfold qaa
  split
  ·exact hM _ _ hx
  ·exact qxe hM h1 hx
 ·rw [h.brd.hd]
  exact qsw fun x y hx _=>qxe hM h1 hx
def qvd (m n:Nat) (b:Sta) (u:Nat):Int:=qj m fun k=>if b.st k=(u:Int) then b.L k (n+m) else 0
theorem Good.val {m n:Nat}{col:Nat→Nat→Int}{b:Sta} (h:Good m n col b) {k u:Nat} (hk:k<m) (e:b.st k=(u:Int)):qvd m n b u=b.L k (n+m):=by
 unfold qvd
 rw [qU hk fun i hi hik=>if_neg fun z=>?_,if_pos e]
 have a:=h.basic hk e hk
 have c:=h.basic hi z hk
 rw [if_pos rfl] at a
 rw [if_neg (Ne.symm hik),a] at c
 have:=h.brd.pos
 omega
theorem zacf {m n:Nat}{b:Sta}{u:Nat} (h : ∀ k,k<m→b.st k≠(u:Int)):qvd m n b u=0:=qaj fun k hk=>if_neg (h k hk)
theorem Good.fits' {m n:Nat}{col:Nat→Nat→Int}{b:Sta} (h:Good m n col b) (h0:lack m b (n+m)=0) {x:Nat} (hx:x<m) :
 b.d*col (n+m) x=qj n fun u=>col u x*qvd m n b u:=by
  rw [h.fits h0 hx]
  have e:(qj n fun u=>col u x*qvd m n b u)=qj n fun u=>qj m fun k=>if b.st k=(u:Int) then col u x*b.L k (n+m) else 0:=qi fun u _=>by
   unfold qvd
   rw [← qu]
   exact qi fun k _=>by
    split
    ·rfl
    ·omega
  rw [e,qia]
  refine qi fun k hk=>?_
  by_cases q:b.st k<0
  ·rw [if_pos q,qaj fun u _=>if_neg (by omega)]
  ·rw [if_neg q]
   have t:=h.top k hk
   rw [qU (r:=(b.st k).toNat) (by omega) fun u _ hu=>if_neg (by omega),if_pos (by omega),Int.mul_comm]
theorem qqp {m n:Nat}{col:Nat→Nat→Int}{b:Sta} (h:Good m n col b) {j N:Nat} (f:Nat→Int) (at':Nat→Nat) (e : ∀ x,x<m→col j x=qj N fun l=>f l*col (at' l) x) :
 lack m b j=qj N fun l=>f l*lack m b (at' l):=by
  unfold lack
  have e2:(qj N fun l=>f l*qj m fun k=>if b.st k<0 then b.L k (at' l) else 0)=qj N fun l=>qj m fun k=>if b.st k<0 then f l*b.L k (at' l) else 0:=qi fun l _=>by
   rw [← qu]
   exact qi fun k _=>by
    split
    ·rfl
    ·omega
  rw [e2,qia]
  refine qi fun k hk=>?_
  by_cases q:b.st k<0
  ·rw [if_pos q,h.brd.comb f at' e hk]
   exact qi fun l _=>by rw [if_pos q]
  ·rw [if_neg q]
   exact (qaj fun l _=>if_neg q).symm
theorem qqq {n:Nat}{R:List (List Int)}{b:List Int} (hw : ∀ r ∈ R,r.length=n) {x:Nat} (hx:x<R.length) :
 (∀ j,j<n→qgk (qJ R b) j x=qj R.length fun l=>at2 R l j*qgk (qJ R b) (n+l) x)∧qgk (qJ R b) (n+R.length) x=qj R.length fun l=>(b[l]?).getD 0*qgk (qJ R b) (n+l) x:=by
  have e:((R[x]?).getD []).length=n:=by
   rw [List.getElem?_eq_getElem hx]
   exact hw _ (List.getElem_mem _)
  have mk : ∀ l,l<R.length→qgk (qJ R b) (n+l) x=tn ((b[x]?).getD 0)*(if l=x then 1 else 0):=fun l hl=>by
   show at2 (qJ R b) x (n+l)=_
   unfold qJ
   rw [qha hx,← e,qze hl]
  refine ⟨fun j hj=>?_,?_⟩
  ·rw [qU hx fun l hl z=>by rw [mk l hl,if_neg z];omega,mk x hx,if_pos rfl]
   show at2 (qJ R b) x j=_
   unfold qJ
   rw [qha hx,qut (by omega)]
   unfold at2
   grind
  ·rw [qU hx fun l hl z=>by rw [mk l hl,if_neg z];omega,mk x hx,if_pos rfl]
   show at2 (qJ R b) x (n+R.length)=_
   unfold qJ
   rw [qha hx,← e,qom]
   grind
theorem Good.none' {n:Nat}{R:List (List Int)}{b:List Int}{s:Sta} (hw : ∀ r ∈ R,r.length=n) (h:Good R.length n (qgk (qJ R b)) s) :
 (∀ j,j<n→(qj R.length fun l=>at2 R l j*lack R.length s (n+l))=lack R.length s j)∧(qj R.length fun l=>(b[l]?).getD 0*lack R.length s (n+l))=lack R.length s (n+R.length) :=
  ⟨fun j hj=>(qqp h (fun l=>at2 R l j) (fun l=>n+l) fun x hx=>(qqq hw hx).1 j hj).symm,(qqp h (fun l=>(b[l]?).getD 0) (fun l=>n+l) fun x hx=>(qqq hw hx).2).symm⟩
theorem Good.told' {n:Nat}{R:List (List Int)}{b:List Int}{s:Sta} (hw : ∀ r ∈ R,r.length=n) (h:Good R.length n (qgk (qJ R b)) s) (h0:lack R.length s (n+R.length)=0) {x:Nat} (hx:x<R.length) :
 s.d*(b[x]?).getD 0=qj n fun u=>at2 R x u*qvd R.length n s u:=by
  have e:((R[x]?).getD []).length=n:=by
   rw [List.getElem?_eq_getElem hx]
   exact hw _ (List.getElem_mem _)
  have f:=h.fits' h0 hx
  have c1:qgk (qJ R b) (n+R.length) x=tn ((b[x]?).getD 0)*(b[x]?).getD 0:=by
   show at2 (qJ R b) x (n+R.length)=_
   unfold qJ
   rw [qha hx,← e,qom]
  have c2 : ∀ u,u<n→qgk (qJ R b) u x=tn ((b[x]?).getD 0)*at2 R x u:=fun u hu=>by
   show at2 (qJ R b) x u=_
   unfold qJ
   rw [qha hx,qut (by omega)];rfl
  rw [c1,qi fun u hu=>by rw [c2 u hu,Int.mul_assoc],qu] at f
  have t0:tn ((b[x]?).getD 0)≠0:=by unfold tn;split <;> decide
  refine Int.eq_of_mul_eq_mul_left t0 ?_
  rw [← f];grind
theorem quj : ∀ {m n:Nat},m≤n→fct m≤fct n
 | m,0,h=>by have:m=0:=by omega
             subst this;exact Nat.le_refl _
 | m,n+1,h=>by
  by_cases e:m=n+1
  ·subst e;exact Nat.le_refl _
  ·exact Nat.le_trans (quj (m:=m) (n:=n) (by omega)) (Nat.le_mul_of_pos_left _ (by omega))
theorem qsa {m x:Nat} (hm:m≤24) (h:x≤fct m*20000000^m):x<2^700:=by
 have a:fct m*20000000^m≤fct 24*20000000^24:=Nat.mul_le_mul (quj hm) (Nat.pow_le_pow_right (by decide) hm)
 have b:fct 24*20000000^24<2^700:=by decide +kernel
 omega
theorem qvy (s x:Int):(tn s*x).natAbs=x.natAbs:=by unfold tn;split <;> omega
theorem quc {l:List Int}{M:Nat} (h : ∀ x ∈ l,x.natAbs≤M) (j:Nat):((l[j]?).getD 0).natAbs≤M:=by
 cases e:l[j]? with
 | none=>simp
 | some x=>exact h x (List.mem_of_getElem? e)
theorem qxw {R:List (List Int)}{b:List Int} (z : ∀ r ∈ R,∀ x ∈ r,x.natAbs≤20000000) (zb : ∀ x ∈ b,x.natAbs≤20000000) (j x:Nat) (hx:x<R.length):(qgk (qJ R b) j x).natAbs≤20000000:=by
 show (at2 (qJ R b) x j).natAbs≤_
 unfold qJ
 rw [qha hx]
 refine quc (fun y hy=>?_) j
 unfold qmr at hy
 obtain ⟨w,hw,rfl⟩:=List.mem_map.mp hy
 rw [qvy]
 simp only [List.mem_append,List.mem_map,List.mem_singleton] at hw
 rcases hw with (hw|⟨i,_,rfl⟩)|rfl
 ·rw [List.getElem?_eq_getElem hx] at hw
  exact z _ (List.getElem_mem _) w hw
 ·split <;> decide
 ·exact quc zb x
structure Rn (n:Nat) (R:List (List Int)) (b:List Int) (T:Nat) (d:Int) (Ls:List (List Int)) (ss:List Int):Prop where
 l:Ls.length=R.length
 s:ss.length=R.length
 w : ∀ r ∈ Ls,r.length=n+R.length+1
 run : ∃ st cs rs,Run R.length n (qgk (qJ R b)) T st cs rs∧st T=qgo Ls ss d
theorem Rn.good {n:Nat}{R:List (List Int)}{b:List Int}{T:Nat}{d:Int}{Ls:List (List Int)}{ss:List Int} (h:Rn n R b T d Ls ss):Good R.length n (qgk (qJ R b)) (qgo Ls ss d):=by
 obtain ⟨st,cs,rs,r,e⟩:=h.run
 rw [← e];exact (r.at T (Nat.le_refl _)).1
theorem Rn.short {n:Nat}{R:List (List Int)}{b:List Int}{T:Nat}{d:Int}{Ls:List (List Int)}{ss:List Int} (h:Rn n R b T d Ls ss):T<(n+R.length)^R.length:=by
 obtain ⟨st,cs,rs,r,e⟩:=h.run
 exact r.short
theorem Rn.first {n:Nat}{R:List (List Int)}{b:List Int} (h:SvPre n R b):Rn n R b 0 1 (qJ R b) (qfc R.length) where
 l:=by simp [qJ]
 s:=by simp [qfc]
 w:=fun r hr=>by
  unfold qJ at hr
  obtain ⟨k,hk,rfl⟩:=List.mem_map.mp hr
  have hk:=List.mem_range.mp hk
  rw [zabk,List.getElem?_eq_getElem hk]
  show (R[k]).length+_+_=_
  rw [h.i.w _ (List.getElem_mem _)]
 run:=⟨fun _=>qgo (qJ R b) (qfc R.length) 1,fun _=>0,fun _=>0,⟨qvq h.i.w,fun k hk=>by
  show _≤((qfc R.length)[k]?).getD 0
  rw [qll hk];omega,fun τ hτ=>by omega⟩,rfl⟩
theorem Rn.next {n:Nat}{R:List (List Int)}{b:List Int}{T:Nat}{d:Int}{Ls:List (List Int)}{ss:List Int}{c r:Nat} (h:Rn n R b T d Ls ss) (c1:c<n) (c2:0<qN Ls ss R.length c) (c3 : ∀ j,j<c→qN Ls ss R.length j≤0)
 (hr:r<R.length) (ht:Tg Ls ss (n+R.length+1) c R.length r):Rn n R b (T+1) (at2 Ls r c) (qmq Ls r c d) (ss.set r c) where
  l:=by unfold qmq;rw [List.length_mapIdx];exact h.l
  s:=by rw [List.length_set];exact h.s
  w:=fun l hl=>by
   unfold qmq at hl
   obtain ⟨k,hk,rfl⟩:=List.mem_mapIdx.mp hl
   have a:=h.w _ (List.getElem_mem hk)
   split
   ·exact a
   ·have e:Ls[r]?=some (Ls[r]'(by rw [h.l];exact hr)):=List.getElem?_eq_getElem _
    have a2:=h.w _ (List.mem_of_getElem? e)
    unfold qum
    rw [List.length_zipWith,e]
    show min _ (Ls[r]'_).length=_
    omega
  run:=by
   obtain ⟨st,cs,rs,rr,e⟩:=h.run
   have s:=zail (n:=n) (d:=d) h.l h.s h.w c1 c2 c3 hr ht
   rw [← e] at s
   exact ⟨_,_,_,rr.snoc s,by show (if T+1≤T then _ else _)=_;rw [if_neg (by omega)]⟩
theorem Rn.bd {n:Nat}{R:List (List Int)}{b:List Int}{T:Nat}{d:Int}{Ls:List (List Int)}{ss:List Int} (h:Rn n R b T d Ls ss) (p:SvPre n R b):Bd R.length (n+R.length+1) Ls ss∧0<d∧intBits d≤2000:=by
 have g:=h.good
 obtain ⟨a1,a2⟩:=g.abs (M:=20000000) (fun j x hx=>qxw p.z p.zb j x hx) (by decide)
 have hm:=p.i.hm
 refine ⟨⟨h.l,h.s,h.w,fun r hr x hx=>?_⟩,g.brd.pos,qB (intBits_le_iff.mpr (qsa hm a2)) (by decide)⟩
 obtain ⟨k,hk,rfl⟩:=List.mem_iff_getElem.mp hr
 obtain ⟨j,hj,rfl⟩:=List.mem_iff_getElem.mp hx
 have hk':k<R.length:=by rw [← h.l];exact hk
 have e:at2 Ls k j=Ls[k][j]:=by
  unfold at2
  rw [List.getElem?_eq_getElem hk]
  show (Ls[k][j]?).getD 0=_
  rw [List.getElem?_eq_getElem hj];rfl
 rw [← e]
 exact qB (intBits_le_iff.mpr (qsa hm (a1 k hk' j))) (by decide)
theorem Rn.top {n:Nat}{R:List (List Int)}{b:List Int}{T:Nat}{d:Int}{Ls:List (List Int)}{ss:List Int} (h:Rn n R b T d Ls ss) : ∀ x ∈ ss,x<(n:Int):=fun x hx=>by
 obtain ⟨k,hk,rfl⟩:=List.mem_iff_getElem.mp hx
 have t:=h.good.top k (by rw [← h.s];exact hk)
 have t:(ss[k]?).getD 0<(n:Int):=t
 rw [List.getElem?_eq_getElem hk] at t
 exact t
theorem Rn.nn {n:Nat}{R:List (List Int)}{b:List Int}{T:Nat}{d:Int}{Ls:List (List Int)}{ss:List Int} (h:Rn n R b T d Ls ss):0≤qN Ls ss R.length (n+R.length):=qcr fun k hk=>by
 have a:0≤at2 Ls k (n+R.length):=h.good.sum k hk
 by_cases q:(ss[k]?).getD 0<0
 ·rw [if_pos q];exact a
 ·rw [if_neg q];omega
theorem zakm:shB 0 1=1∧shT 0 1=0:=by decide
theorem Rn.fit {n:Nat}{R:List (List Int)}{b:List Int}{T:Nat}{d:Int}{Ls:List (List Int)}{ss:List Int} (h:Rn n R b T d Ls ss) (p:SvPre n R b) (h0 : ¬ 0<qN Ls ss R.length (n+R.length))
 {vs:List (Int×Int)} (hl:vs.length=n) (hv : ∀ u x,vs[u]?=some x→qpv d Ls ss R.length (n+R.length+1) R.length u x):FitV n R b vs:=by
  have g:=h.good
  obtain ⟨hB,d0,d1⟩:=h.bd p
  have nn:=h.nn
  have z:lack R.length (qgo Ls ss d) (n+R.length)=0:=by
   have:qN Ls ss R.length (n+R.length)=0:=by omega
   exact this
  have hd:d≠0:=by omega
  have key : ∀ u x,vs[u]?=some x→(Shr x.1 x.2∧0≤x.1∧x.2∣d∧intBits x.1≤2000)∧qvd R.length n (qgo Ls ss d) u=x.1*(d/x.2):=fun u x hx=>by
   rcases hv u x hx with ⟨k,hk,e,rfl⟩|⟨e,rfl⟩
   ·have ev:qvd R.length n (qgo Ls ss d) u=at2 Ls k (n+R.length):=g.val hk (by show (ss[k]?).getD 0=_;rw [e];rfl)
    have hN:0≤at2 Ls k (n+R.length):=g.sum k hk
    obtain ⟨row,er⟩ : ∃ row,Ls[k]?=some row:=⟨_,List.getElem?_eq_getElem (by rw [h.l];exact hk)⟩
    have hbits:intBits (at2 Ls k (n+R.length))≤2000:=(hB.at er (by omega)).2
    rw [ev,show n+R.length+1-1=n+R.length from rfl]
    generalize at2 Ls k (n+R.length)=N at *
    obtain ⟨s1,s2⟩:=qzx (t:=N) hd
    have s3:=qoc N d
    have q1:=s1.pos
    have dv:shB N d∣d:=⟨cm N d,by rw [Int.mul_comm];exact s3.symm⟩
    refine ⟨⟨s1,?_,dv,qks hbits⟩,?_⟩
    ·have:0≤shT N d*d:=by rw [s2];exact Int.mul_nonneg hN (by omega)
     exact Int.nonneg_of_mul_nonneg_left this d0
    ·show N=shT N d*(d/shB N d)
     refine Int.eq_of_mul_eq_mul_right (a:=shB N d) (by omega) ?_
     rw [Int.mul_assoc,Int.ediv_mul_cancel dv,s2]
   ·have ev:qvd R.length n (qgo Ls ss d) u=0:=zacf fun k hk y=>e k hk (by
     have y:(ss[k]?).getD 0=(u:Int):=y
     rw [List.getElem?_eq_getElem (by rw [h.s];exact hk)] at y ⊢
     exact congrArg some y)
    obtain ⟨b1,b2⟩:=zakm
    rw [ev,b1,b2]
    exact ⟨⟨⟨by decide,by decide⟩,by decide,⟨d,by omega⟩,intBits_le_iff.mpr (by decide +kernel)⟩,by omega⟩
  refine ⟨hl,d,d0,d1,fun x hx=>?_,fun k hk=>?_⟩
  ·obtain ⟨u,hu⟩:=List.getElem?_of_mem hx
   exact (key u x hu).1
  ·have t:=g.told' p.i.w z hk
   have t:d*(b[k]?).getD 0=_:=t
   rw [t]
   refine qi fun u hu=>?_
   have hu':vs[u]?=some (vs[u]'(by omega)):=List.getElem?_eq_getElem _
   rw [(key u _ hu').2,hu'];rfl
theorem qrm : ∀ {ws:List Int}{g:Nat},qaq g ws=0→g=0 ∧ ∀ x ∈ ws,x=0
 | [],g,h=>⟨h,fun x hx=>by cases hx⟩
 | w::ws,g,h=>by
  obtain ⟨a,b⟩:=qrm (ws:=ws) (g:=Int.gcd g w) h
  have c:=Int.gcd_eq_zero_iff.mp a
  refine ⟨by omega,fun x hx=>?_⟩
  rcases List.mem_cons.mp hx with rfl|hx
  ·exact c.2
  ·exact b x hx
def wts (Ls:List (List Int)) (ss:List Int) (n m:Nat):List Int:=(List.range m).map fun l=>qN Ls ss m (n+l)
theorem Rn.none {n:Nat}{R:List (List Int)}{b:List Int}{T:Nat}{d:Int}{Ls:List (List Int)}{ss:List Int} (h:Rn n R b T d Ls ss) (p:SvPre n R b) (h0:0<qN Ls ss R.length (n+R.length)) (hc : ∀ j,j<n→qN Ls ss R.length j≤0) :
 0<qaq 0 (wts Ls ss n R.length)∧zaec n R b ((wts Ls ss n R.length).map fun x=>x/(qaq 0 (wts Ls ss n R.length):Int)):=by
  obtain ⟨e1,e2⟩:=h.good.none' p.i.w
  have wl:(wts Ls ss n R.length).length=R.length:=by simp [wts]
  have wa : ∀ l,l<R.length→((wts Ls ss n R.length)[l]?).getD 0=qN Ls ss R.length (n+l):=fun l hl=>by
   unfold wts;rw [List.getElem?_map,List.getElem?_range hl];rfl
  have e1 : ∀ j,j<n→(qj R.length fun l=>at2 R l j*qN Ls ss R.length (n+l))=qN Ls ss R.length j:=e1
  have e2:(qj R.length fun l=>(b[l]?).getD 0*qN Ls ss R.length (n+l))=qN Ls ss R.length (n+R.length):=e2
  have gp:0<qaq 0 (wts Ls ss n R.length):=by
   rcases Nat.eq_zero_or_pos (qaq 0 (wts Ls ss n R.length)) with z|z
   ·have a:=(qrm z).2
    rw [qaj fun l hl=>by
     have:qN Ls ss R.length (n+l)=0:=a _ (List.mem_map.mpr ⟨l,List.mem_range.mpr hl,rfl⟩)
     rw [this,Int.mul_zero]] at e2
    omega
   ·exact z
  have dv:=qkj (wts Ls ss n R.length) 0
  refine ⟨gp,?_⟩
  generalize qaq 0 (wts Ls ss n R.length)=g at *
  have at' : ∀ l,l<R.length→(g:Int)*((((wts Ls ss n R.length).map fun x=>x/(g:Int))[l]?).getD 0)=qN Ls ss R.length (n+l):=fun l hl=>by
   have e:(wts Ls ss n R.length)[l]?=some (qN Ls ss R.length (n+l)):=by unfold wts;rw [List.getElem?_map,List.getElem?_range hl];rfl
   rw [List.getElem?_map,e]
   show (g:Int)*(qN Ls ss R.length (n+l)/(g:Int))=_
   exact Int.mul_ediv_cancel' (dv _ (List.mem_of_getElem? e))
  have gi:(0:Int)<g:=by omega
  refine ⟨by rw [List.length_map,wl],fun j hj=>?_,?_⟩
  ·have q:(g:Int)*(qj R.length fun l=>at2 R l j*((((wts Ls ss n R.length).map fun x=>x/(g:Int))[l]?).getD 0))=qN Ls ss R.length j:=by
    rw [← e1 j hj,← qu]
    exact qi fun l hl=>by rw [← at' l hl];grind
   have c:=hc j hj
   rcases Int.lt_or_le 0 (qj R.length fun l=>at2 R l j*((((wts Ls ss n R.length).map fun x=>x/(g:Int))[l]?).getD 0)) with y|y
   ·have:=Int.mul_pos gi y
    omega
   ·exact y
  ·have q:(g:Int)*(qj R.length fun l=>(b[l]?).getD 0*((((wts Ls ss n R.length).map fun x=>x/(g:Int))[l]?).getD 0))=qN Ls ss R.length (n+R.length):=by
    rw [← e2,← qu]
    exact qi fun l hl=>by rw [← at' l hl];grind
   rw [← q] at h0
   rw [Int.mul_comm] at h0
   exact Int.pos_of_mul_pos_left h0 gi
theorem Rn.gbits {n:Nat}{R:List (List Int)}{b:List Int}{T:Nat}{d:Int}{Ls:List (List Int)}{ss:List Int} (h:Rn n R b T d Ls ss) (p:SvPre n R b) (h0:0<qN Ls ss R.length (n+R.length)):intBits (qaq 0 (wts Ls ss n R.length):Int)≤9000:=by
 have g:=h.good
 obtain ⟨a1,_⟩:=g.abs (M:=20000000) (fun j x hx=>qxw p.z p.zb j x hx) (by decide)
 have hm:=p.i.hm
 have e2:(qj R.length fun l=>(b[l]?).getD 0*qN Ls ss R.length (n+l))=qN Ls ss R.length (n+R.length):=(g.none' p.i.w).2
 rw [← e2] at h0
 obtain ⟨l,hl,q⟩:=qkv h0
 have nz:qN Ls ss R.length (n+l)≠0:=fun z=>by rw [z,Int.mul_zero] at q;omega
 have dv:=qkj (wts Ls ss n R.length) 0 (qN Ls ss R.length (n+l)) (List.mem_map.mpr ⟨l,List.mem_range.mpr hl,rfl⟩)
 have le:qaq 0 (wts Ls ss n R.length)≤(qN Ls ss R.length (n+l)).natAbs:=Nat.le_of_dvd (by omega) (Int.ofNat_dvd_left.mp dv)
 have ab:(qN Ls ss R.length (n+l)).natAbs≤R.length*2^700:=qoq fun k hk=>by
  by_cases q:(ss[k]?).getD 0<0
  ·rw [if_pos q]
   exact Nat.le_of_lt (qsa hm (a1 k hk (n+l)))
  ·rw [if_neg q];exact Nat.zero_le _
 refine qB (intBits_le_iff (m:=710).mpr ?_) (by decide)
 have:R.length*2^700≤24*2^700:=Nat.mul_le_mul_right _ hm
 have t:24*2^700<2^710:=by decide +kernel
 rw [Int.natAbs_natCast]
 omega
theorem qsn {n d:Nat}{v:Int} (h:0≤v):HT.sIx n d (some v)=min v.toNat n:=by
 show (if v<0 then _ else _)=_
 rw [if_neg (by omega)]
theorem zajb {α:Type} (l:List α) {j:Int} (h:0≤j):qul l none (some j)=l.take j.toNat:=by
 unfold qul
 rw [qsn h,HT.sIx_none,List.drop_zero,Nat.sub_zero]
 by_cases h1:j.toNat≤l.length
 ·rw [Nat.min_eq_left h1]
 ·rw [Nat.min_eq_right (by omega),List.take_of_length_le (Nat.le_refl _),List.take_of_length_le (by omega)]
theorem zagy {α:Type} (l:List α) {i j:Int} (h:0≤i) (h2:i≤j):qul l (some i) (some j)=(l.drop i.toNat).take (j-i).toNat:=by
 unfold qul
 rw [qsn h,qsn (by omega)]
 by_cases h1:i.toNat≤l.length
 ·rw [Nat.min_eq_left h1]
  by_cases h3:j.toNat≤l.length
  ·rw [Nat.min_eq_left h3];congr 1;omega
  ·rw [Nat.min_eq_right (by omega),List.take_of_length_le (by simp),List.take_of_length_le (by simp;omega)]
 ·rw [Nat.min_eq_right (by omega),Nat.min_eq_right (by omega),List.drop_of_length_le (Nat.le_refl _),List.drop_of_length_le (by omega)];simp
def qqr (ds:List PyData) (q:PyData→Prop):Prop := ∃ (n:Nat) (R:List (List Int)) (b:List Int),ds=[qdb R,.list (b.map .int)]∧SvPre n R b∧(∀ vs,FitV n R b vs→q (.tuple [.str "fits",.list (vs.map fun x=>dSh x.1 x.2)])) ∧ ∀ ws,zaec n R b ws→q (.tuple [.str "none",.list (ws.map .int)])
theorem BAt.go {K:PySem.W.Frag}{C:Addr}{H F H' F':Hp}{a dx qa:Addr}{n:Nat}{d:Int}{Ls:List (List Int)}{ss:List Int}{vl:V} (h:BAt K C H F a dx qa n d Ls ss vl) (g:Go F H F' H'):BAt K C H' F' a dx qa n d Ls ss vl :=
 ⟨g.h _ _ h.ha,h.hl.mono g.f,g.h _ _ h.hq,qyo g h.ha h.fa,qyo g h.hq h.fq⟩
def lkD (n m:Nat) (Ls:List (List Int)) (ss:List Int):PyData :=.list (((List.range (n+m+1)).map (qN Ls ss m)).map .int)
theorem qxg {K:PySem.W.Frag}{C:Addr}{H F:Hp}{a dx qa:Addr}{n m:Nat}{d:Int}{Ls:List (List Int)}{ss:List Int}{vl:V} (hA:BAt K C H F a dx qa n d Ls ss vl) (sm:Same F H) (hB:Bd m (n+m+1) Ls ss) (hn:n≤20) (hm:m≤24) {Q:VK}{E:XK}
 (k : ∀ F' H' vk,Go F H F' H'→Is K F' (lkD n m Ls ss) vk→Q vk H'):OFSp K C qst [.ref a] H Q E:=by
  refine ⟨a,dx,_,[],upd F qa (.lst (ss.map V.int)),bNm,bFs n d Ls ss,[],fun l=>l=((List.range (n+m+1)).map (qN Ls ss m)).map .int,rfl,hA.ha,qkk sm hA.hq,hA.flds,qO,⟨n,d,Ls,ss,m,rfl,rfl,rfl,⟨hB,hn,hm⟩,rfl⟩,fun l lb xs F' H' g hb1 hb2 hb3 hi q=>?_⟩
  subst q
  have ex:=hi.ints_inv
  subst ex
  exact k _ H' (.ref lb) (qta (zacy hA.fq hA.hq g) hb1 hb3) (qcq (SqL.of qp) (qhu _))
theorem qxz : ∀ vs:List (Int×Int),qiq (vs.map fun x=>dSh x.1 x.2)=true
 | []=>rfl
 | x::r=>by
  rw [List.map_cons]
  unfold qiq
  rw [qxz r]
  simp [dSh,qqc,qiq]
theorem zafi {K:PySem.W.Frag}{C:Addr}{H F:Hp}{a dx qa:Addr}{n m w:Nat}{d:Int}{Ls:List (List Int)}{ss:List Int}{vl:V} (hA:BAt K C H F a dx qa n d Ls ss vl) (sm:Same F H) (hB:Bd m w Ls ss∧0<d∧intBits d≤2000∧1≤w∧n≤900 ∧ ∀ x ∈ ss,x<(n:Int)) {Q:VK}{E:XK}
 (k : ∀ (vs:List (Int×Int)) lb xs F' H',Go F H F' H'→vs.length=n→(∀ u x,vs[u]?=some x→qpv d Ls ss m w m u x)→H lb=none→H' lb=some (.lst xs)→Iss K F' (vs.map fun x=>dSh x.1 x.2) xs→Q (.ref lb) H'):OFSp K C qsm [.ref a] H Q E:=by
  refine ⟨a,dx,_,[],upd F qa (.lst (ss.map V.int)),bNm,bFs n d Ls ss,[],fun l => ∃ vs:List (Int×Int),l=(vs.map fun x=>dSh x.1 x.2)∧vs.length=n ∧ ∀ u x,vs[u]?=some x→qpv d Ls ss m w m u x,rfl,hA.ha,qkk sm hA.hq,hA.flds,qO,⟨n,d,Ls,ss,m,w,rfl,rfl,rfl,hB,fun vs h1 h2=>⟨vs,rfl,h1,h2⟩⟩,fun l lb xs F' H' g hb1 hb2 hb3 hi q=>?_⟩
  obtain ⟨vs,rfl,h1,h2⟩:=q
  exact k vs lb xs _ H' (zacy hA.fq hA.hq g) h1 h2 hb1 hb3 (Iss.off (g.f _ _ qp) (qxz vs) hi)
theorem zabn {α:Type} (l:List α) {i:Nat} (h:i+1≤l.length):qul l (some (i:Int)) (some (-1))=(l.drop i).take (l.length-1-i):=by
 have e:HT.sIx l.length l.length (some (-1))=l.length-1:=by
  show (if (-1:Int)<0 then ((-1:Int)+(l.length:Int)).toNat else min (-1:Int).toNat l.length)=l.length-1
  rw [if_pos (by decide)]
  omega
 unfold qul
 rw [HT.sIx_nat,e,Nat.min_eq_left (by omega)]
theorem zaeg {n m:Nat}{Ls:List (List Int)}{ss:List Int}:qul (((List.range (n+m+1)).map (qN Ls ss m)).map PyData.int) none (some (n:Int))=((List.range n).map (qN Ls ss m)).map .int:=by
 rw [zajb _ (by omega),← List.map_take,← List.map_take,List.take_range,Int.toNat_natCast,Nat.min_eq_left (by omega)]
theorem zajv {n m:Nat}{Ls:List (List Int)}{ss:List Int}:qul (((List.range (n+m+1)).map (qN Ls ss m)).map PyData.int) (some (n:Int)) (some (-1))=(wts Ls ss n m).map .int:=by
 rw [zabn _ (by simp)]
 refine List.ext_getElem? fun k=>?_
 by_cases hk:k<m
 ·rw [List.getElem?_take_of_lt (by simp;omega),List.getElem?_drop,List.getElem?_map,List.getElem?_map,List.getElem?_range (by omega)]
  unfold wts
  rw [List.getElem?_map,List.getElem?_map,List.getElem?_range hk];rfl
 ·rw [List.getElem?_eq_none (by simp;omega),List.getElem?_eq_none (by simp [wts];omega)]
theorem qox {C:Addr}{m:Str}{sp:Sp}{σ:St}{H:Hp}{Q:VK}{i:Nat}{a dx:Addr}{fs:List (Str×V)} (e:σ[i]?=some (some (.ref a))) (h:H a=some (.ins C dx fs)) (l:fs.lookup m=none) (k:sp [.ref a] H Q E0):zaae C m sp [] E0 (tVar i) tNil σ H Q:=⟨_,e,a,dx,fs,rfl,h,l,k⟩
theorem len6 {α:Type}{l:List α} (h:l.length=6) : ∃ a0 a1 a2 a3 a4 a5,l=[a0,a1,a2,a3,a4,a5]:=by
 match l,h with
 | [a0,a1,a2,a3,a4,a5],_=>exact ⟨a0,a1,a2,a3,a4,a5,rfl⟩
def SvW (K:PySem.W.Frag) (C:Addr) (F H:Hp) (n:Nat) (R:List (List Int)) (b:List Int) (mm:Nat) (σ:St) (H1:Hp):Prop := ∃ T d Ls ss F1 a dx qa vl vr vb vk o5,
 mm+T=(n+R.length)^R.length∧σ=[some vr,some vb,some (.int n),some (.ref a),some vk,o5]∧Go F H F1 H1∧BAt K C H1 F1 a dx qa n d Ls ss vl∧H a=none∧H qa=none ∧
 Is K F1 (qdb R) vr∧Is K F1 (.list (b.map .int)) vb∧Is K F1 (lkD n R.length Ls ss) vk∧Rn n R b T d Ls ss
theorem qez:FnScope ["rows","sums","unknowns","board","lack","place"] ["rows","sums"] (defScope qkr):=⟨rfl,rfl,rfl,by decide +kernel,rfl,by decide +kernel,by decide +kernel⟩
theorem qyx (F:Def K mg "solved" qkr ["rows","sums"]) (T:Txt K mg cs)
 (O_first_above:Ok P w K mg base "first_above" 1 ["numbers"] (PSp K qhm))
 (O_lowest:Ok P w K mg base "lowest" 2 ["weights"] (FSp K qqh))
 (O_Board___init__:OkM P w K mg base cs.Board "__init__" 2 ["self","unknowns","rows","sums"] (zadw K cs.Board))
 (O_Board_lack:OkM P w K mg base cs.Board "lack" 1 ["self"] (OFSp K cs.Board qst))
 (O_Board_bring_in:OkM P w K mg base cs.Board "bring_in" 3 ["self","place"] (qxd K cs.Board))
 (O_Board_told:OkM P w K mg base cs.Board "told" 4 ["self"] (OFSp K cs.Board qsm))
 : Ok P w K mg base "solved" 5 ["rows","sums"] (SolSp K qqr):=by
  refine F.ok qez (by rintro vs H Q E ⟨F,ds,q,_,i,⟨_,_,_,h,_⟩,_⟩;rw [i.len,h];rfl) fun f cdv A outer s H vs Q E hr h=>?_
  obtain ⟨F0,ds,q,sm,hi,⟨n,R,b,rfl,hp,k1,k2⟩,kk⟩:=h
  obtain ⟨f1,fd1,F1,hm1,hb1⟩:=O_Board_lack.ex
  obtain ⟨f2,fd2,F2,hm2,hb2⟩:=O_Board_bring_in.ex
  obtain ⟨f3,fd3,F3,hm3,hb3⟩:=O_Board_told.ex
  obtain ⟨f4,fd4,F4,hm4,hb4⟩:=O_Board___init__.ex
  refine ⟨_,qz (VS.ps (qC (i:=2) qez.nd (qgb (zajs (qb 0)) (qr qag T.len_ L2.boot_len (qc (qq (qb 0) qe) qf)) qe))) (qz (VS.ps (qam (VW.pt (qbs (qA qxc (qb 2) (qkt T.MOST_UNKNOWNS_)) (qbi (qA qxc (qr qag T.len_ L2.boot_len (qc (qb 0) qf)) (qkt T.MOST_ROWS_))))) qey qI)) (qz (qgf (i:=3) qez.nd rfl (by first|exact Or.inl rfl|exact Or.inr rfl) (zafs ⟨T.Board_mk,hm4.at_,hm4.fn,T.Board_kp⟩ F4 (hr.mono (by decide)) rfl T.Board_ hb4 .nil qnx (qL (qG (i:=2) rfl (by first|exact Or.inl rfl|exact Or.inr (Or.inl rfl)|exact Or.inr (Or.inr rfl)) (by decide) (by decide)) (qL (qG (i:=0) rfl (by first|exact Or.inl rfl|exact Or.inr (Or.inl rfl)|exact Or.inr (Or.inr rfl)) (by decide) (by decide)) (qL (qG (i:=1) rfl (by first|exact Or.inl rfl|exact Or.inr (Or.inl rfl)|exact Or.inr (Or.inr rfl)) (by decide) (by decide)) qbp)))) rfl (by first|exact .inl rfl|exact .inr rfl))
   (qz (qgf (i:=4) qez.nd rfl (by first|exact Or.inl rfl|exact Or.inr rfl) (qot (qG (i:=3) rfl (by first|exact Or.inl rfl|exact Or.inr (Or.inl rfl)|exact Or.inr (Or.inr rfl)) (by decide) (by decide)) T.Board_c hm1 F1 (hr.mono (by decide)) hb1 .nil qnx) rfl (by first|exact .inl rfl|exact .inr rfl))
   (qz (qub PassesOwn.never (VT.pt (qA qxc (qq (qb 4) (qkd qe)) qe)) (qz (VS.ps (qC (i:=5) qez.nd (qx O_first_above (hr.mono (by decide)) (qc (qT (qol (qb 4) zagl (qld (qb 2)))) qf)))) (qz (zaed (VT.pt (qA zahk (qb 5) qti)) (qfh (qke (qtf (qL qwu (qL (VF.pe (qnk O_lowest (hr.mono (by decide)) (qc (qT (qol (qb 4) (qld (qb 2)) (qld (qkd qe)))) qf))) qbp))))) qsd) (qz (qfv (qsg (qG (i:=3) rfl (by first|exact Or.inl rfl|exact Or.inr (Or.inl rfl)|exact Or.inr (Or.inr rfl)) (by decide) (by decide)) T.Board_c hm2 F2 (hr.mono (by decide)) hb2 .nil qnx (qL (qG (i:=5) rfl (by first|exact Or.inl rfl|exact Or.inr (Or.inl rfl)|exact Or.inr (Or.inr rfl)) (by decide) (by decide)) qbp))) (qfh (qgf (i:=4) qez.nd rfl (by first|exact Or.inl rfl|exact Or.inr rfl) (qot (qG (i:=3) rfl (by first|exact Or.inl rfl|exact Or.inr (Or.inl rfl)|exact Or.inr (Or.inr rfl)) (by decide) (by decide)) T.Board_c hm1 F1 (hr.mono (by decide)) hb1 .nil qnx) rfl (by first|exact .inl rfl|exact .inr rfl)))))))
   (qfh (qke (qtf (qL qwu (qL (qot (qG (i:=3) rfl (by first|exact Or.inl rfl|exact Or.inr (Or.inl rfl)|exact Or.inr (Or.inr rfl)) (by decide) (by decide)) T.Board_c hm3 F3 (hr.mono (by decide)) hb3 .nil qnx) qbp))))))))),?_⟩
  have hn20:=hp.i.hn
  have hm24:=hp.i.hm
  refine ⟨⟨H,H,F0⟩,_,F0,{ nx:=fun e=>e=[.val (qdb R),.val (.list (b.map .int)),.val (.int n),.non,.non,.non],rt:=fun _ _=>False },qfd sm hi,?_,⟨fun e1 F1 H1 σ1 I1 s1 q1=>?_,fun _ _ _ _ _ _ _ _ _ q=>q.elim,fun _ _ _ _ _ _ q=>q.elim,fun _ _ _ _ _ _ q=>q.elim⟩⟩
  ·have hR0:R≠[]:=fun z=>by have:=hp.m1;rw [z] at this;simp at this
   obtain ⟨r0,R0,eR⟩:=List.exists_cons_of_ne_nil hR0
   have l0:r0.length=n:=hp.i.w r0 (by rw [eR];simp)
   have aR:atI (R.map qak) 0=some (qak r0):=by rw [eR];exact qas _ _
   have eT:truD (qdb R)=true:=by rw [eR];rfl
   refine ⟨fun x z=>(by cases z),?_⟩
   show if truD (qdb R)=true then _ else _
   rw [if_pos eT]
   refine ⟨qak r0,aR,?_⟩
   show (_:Sto)=_
   rw [show ((r0.map PyData.int).length:Int)=n by rw [List.length_map,l0]]
   rfl
  have q1:e1=_:=q1
  subst q1
  refine ⟨⟨H,H,F0⟩,_,F1,{ nx:=fun e=>e=[.val (qdb R),.val (.list (b.map .int)),.val (.int n),.non,.non,.non],rt:=fun _ _=>False },I1,?_,⟨fun e2 F2 H2 σ2 I2 s2 q2=>?_,fun _ _ _ _ _ _ _ _ _ q=>q.elim,fun _ _ _ _ _ _ q=>q.elim,fun _ _ _ _ _ _ q=>q.elim⟩⟩
  ·refine qix (fun z=>by exfalso;omega) (fun _=>?_)
   refine qix (fun z=>by exfalso;rw [List.length_map] at z;omega) (fun _=>?_)
   rfl
  have q2:e2=_:=q2
  subst q2
  have g2:=I2.goOf
  obtain ⟨x0,x1,x2,x3,x4,x5,eσ⟩:=len6 I2.len.symm
  obtain ⟨vr,e0,ir⟩:=(show ∃ v,x0=some v∧Is K F2 (qdb R) v by have:=I2.slot 0;rw [eσ] at this;exact this)
  obtain ⟨vb,e1,ib⟩:=(show ∃ v,x1=some v∧Is K F2 (.list (b.map .int)) v by have:=I2.slot 1;rw [eσ] at this;exact this)
  obtain ⟨v2,e2,i2⟩:=(show ∃ v,x2=some v∧Is K F2 (.int n) v by have:=I2.slot 2;rw [eσ] at this;exact this)
  rw [i2.int_inv] at e2
  rw [e0,e1,e2] at eσ
  subst eσ
  refine ⟨.int n,rfl,vr,rfl,vb,rfl,fun x dx hx hdx hne=>?_⟩
  have h2x:upd H2 dx (.own x) x=none:=by rw [qk (Ne.symm hne)];exact hx
  have gm:Go F0 H F2 (upd (upd H2 dx (.own x)) x (.ins cs.Board dx [])):=g2.trans ((Go.side g2.fh hdx).trans (Go.side (g2.fh.trans (qda hdx)) h2x))
  refine ⟨x,dx,F2,vr,vb,n,R,b,rfl,qp,qH g2.fh hx,gm.fh,ir,ib,hp.i,fun F3 H3 vl qa hqa gx hA=>⟨rfl,?_⟩⟩
  have na:H x=none:=qH g2.h hx
  have nq:H qa=none:=qH gm.h hqa
  have g3:=GoX.go gm gx na nq
  have rn0:=Rn.first hp
  refine qox rfl hA.ha rfl (qxg hA g3.fh (rn0.bd hp).1 hn20 hm24 fun F4 H4 vk g4 ik=>?_)
  refine ⟨SvW K cs.Board F0 H n R b,⟨(n+R.length)^R.length,0,_,_,_,F4,x,dx,qa,vl,vr,vb,vk,_,rfl,rfl,g3.trans g4,hA.go g4,na,nq,(ir.mono gx.f).mono g4.f,(ib.mono gx.f).mono g4.f,ik,rn0⟩,?_⟩
  clear rn0 ik g4 hA gx g3 nq na hqa gm h2x hne hdx hx ir ib g2 I2 s2 I1 s1
  rintro mm σ H1 ⟨T',d,Ls,ss,F1,a,dx,qa,vl,vr,vb,vk,o5,hT,rfl,g,hA,na,nq,ir,ib,ik,rn⟩
  obtain ⟨hB,d0,d1⟩:=rn.bd hp
  have hE:EnvOk K ⟨H1,H1,F1⟩ F1 H1 [.val (qdb R),.val (.list (b.map .int)),.val (.int n),.obj a cs.Board bNm [],.val (lkD n R.length Ls ss),.non] [some vr,some vb,some (.int n),some (.ref a),some vk,o5] :=
   qtc g.fh ⟨_,_,rfl,⟨⟨vr,rfl,ir⟩,rfl⟩,_,_,rfl,⟨⟨vb,rfl,ib⟩,rfl⟩,_,_,rfl,⟨⟨_,rfl,qZ _⟩,rfl⟩,_,_,rfl,⟨⟨dx,_,rfl,hA.ha,rfl,fun f d z=>by cases z⟩,rfl⟩,_,_,rfl,⟨⟨vk,rfl,ik⟩,rfl⟩,_,_,rfl,⟨trivial,rfl⟩,rfl⟩
  refine ⟨⟨H1,H1,F1⟩,_,F1,fun bb e=>bb=decide (0<qN Ls ss R.length (n+R.length))∧e=[.val (qdb R),.val (.list (b.map .int)),.val (.int n),.obj a cs.Board bNm [],.val (lkD n R.length Ls ss),.non],hE,?_,fun bb F2 H2 e2 I2 s2 q2=>?_⟩
  ·refine ⟨.int (qN Ls ss R.length (n+R.length)),atI_last ?_,?_⟩
   ·rw [List.length_map,List.length_map,List.length_range,Nat.add_sub_cancel,List.getElem?_map,List.getElem?_map,List.getElem?_range (by omega)];rfl
   ·exact ⟨rfl,rfl⟩
  obtain ⟨rfl,rfl⟩:=q2
  by_cases h0:0<qN Ls ss R.length (n+R.length)
  ·rw [decide_eq_true h0,if_pos rfl]
   refine ⟨fun σ' H' => ∃ m',m'<mm∧SvW K cs.Board F0 H n R b m' σ' H',fun σ' H' z=>z,?_⟩
   refine ⟨⟨H1,H1,F1⟩,_,F2,{ nx:=fun e => ∃ dd,((dd = .none ∧ ∀ j,j<n→qN Ls ss R.length j≤0) ∨ ∃ c:Nat,dd = .int c∧c<n∧0<qN Ls ss R.length c ∧ ∀ j,j<c→qN Ls ss R.length j≤0)∧e=[.val (qdb R),.val (.list (b.map .int)),.val (.int n),.obj a cs.Board bNm [],.val (lkD n R.length Ls ss),.val dd],rt:=fun _ _=>False },I2,?_,⟨fun e3 F3 H3 σ3 I3 s3 q3=>?_,fun _ _ _ _ _ _ _ _ _ q=>q.elim,fun _ _ _ _ _ _ q=>q.elim,fun _ _ _ _ _ _ q=>q.elim⟩⟩
   ·rintro r rfl
    rw [zaeg]
    refine ⟨(List.range n).map (qN Ls ss R.length),rfl,fun z=>⟨.none,.inl ⟨rfl,fun j hj=>z _ (List.mem_map.mpr ⟨j,List.mem_range.mpr hj,rfl⟩)⟩,rfl⟩,fun c x z x0 zj=>?_⟩
    have hc:c<n:=by
     have:=(List.getElem?_eq_some_iff.mp z).1
     simpa using this
    rw [List.getElem?_map,List.getElem?_range hc] at z
    have z:=Option.some.inj z
    refine ⟨.int c,.inr ⟨c,rfl,hc,by rw [z];exact x0,fun j hj=>zj j _ hj ?_⟩,rfl⟩
    rw [List.getElem?_map,List.getElem?_range (by omega)];rfl
   obtain ⟨dd,hdd,rfl⟩:=q3
   refine ⟨⟨H1,H1,F1⟩,_,F3,fun bb e=>bb=qsr dd∧e=[.val (qdb R),.val (.list (b.map .int)),.val (.int n),.obj a cs.Board bNm [],.val (lkD n R.length Ls ss),.val dd],I3,?_,fun bb F4 H4 e4 I4 s4 q4=>?_⟩
   ·exact ⟨rfl,rfl,rfl⟩
   obtain ⟨rfl,rfl⟩:=q4
   rcases hdd with ⟨rfl,hc⟩|⟨c,rfl,c1,c2,c3⟩
   ·show if true=true then _ else _
    rw [if_pos rfl]
    obtain ⟨gp,hW⟩:=rn.none hp h0 hc
    refine ⟨⟨H1,H1,F1⟩,_,F4,fun ds e=>ds=((wts Ls ss n R.length).map fun x=>x/(qaq 0 (wts Ls ss n R.length):Int)).map .int,I4,?_,fun la xs ds F5 H5 e5 I5 s5 h1 h2 h3 h4 h5 h6 h7=>⟨szl,fun p hpp=>?_⟩⟩
    ·rintro r rfl
     rw [zajv]
     exact ⟨wts Ls ss n R.length,rfl,⟨by simp [wts];omega,gp,rn.gbits hp h0⟩,rfl⟩
    subst h7
    obtain ⟨F6,g6,i6,p1,p2⟩:=qxl (w := "none") (g.trans I5.goOf) (qH g.h h4) h1 h6 hpp
    exact kk _ _ p la xs F6 _ g6 i6 p1 (qH g.h h4) p2 (by rw [h6.len];simp [wts];omega) (k2 _ hW)
   ·show if false=true then _ else _
    rw [if_neg (by decide)]
    have g4:=I4.goOf
    have A4:=hA.go g4
    obtain ⟨x0,x1,x2,x3,x4,x5,eσ⟩:=len6 I4.len.symm
    obtain ⟨vr',e0,ir'⟩:=(show ∃ v,x0=some v∧Is K F4 (qdb R) v by have:=I4.slot 0;rw [eσ] at this;exact this)
    obtain ⟨vb',e1,ib'⟩:=(show ∃ v,x1=some v∧Is K F4 (.list (b.map .int)) v by have:=I4.slot 1;rw [eσ] at this;exact this)
    obtain ⟨v2,e2,i2⟩:=(show ∃ v,x2=some v∧Is K F4 (.int n) v by have:=I4.slot 2;rw [eσ] at this;exact this)
    have e3:x3=some (.ref a):=by
     have:=I4.slot 3
     rw [eσ] at this
     obtain ⟨_,_,z,_⟩:=this
     exact z
    obtain ⟨v5,e5,i5⟩:=(show ∃ v,x5=some v∧Is K F4 (.int c) v by have:=I4.slot 5;rw [eσ] at this;exact this)
    obtain ⟨vk',e4,_⟩:=(show ∃ v,x4=some v∧Is K F4 (lkD n R.length Ls ss) v by have:=I4.slot 4;rw [eσ] at this;exact this)
    rw [i2.int_inv] at e2
    rw [i5.int_inv] at e5
    rw [e0,e1,e2,e3,e4,e5] at eσ
    subst eσ
    refine ⟨.ref a,rfl,a,dx,_,rfl,A4.ha,rfl,.int c,rfl,a,dx,qa,F4,vl,n,d,Ls,ss,R.length,c,rfl,A4,I4.fh,⟨hB,c1,hm24,hn20,d0,d1,zaal (b:=qgo Ls ss d) c2⟩,fun F5 H5 vl' r hr' ht gx A5=>?_⟩
    have rn':=rn.next c1 c2 c3 hr' ht
    have gg:=GoX.go (g.trans g4) gx na nq
    have hS:=rn'.short
    refine qox rfl A5.ha rfl (qxg A5 gx.fh (rn'.bd hp).1 hn20 hm24 fun F6 H6 vk6 g6 ik6=>?_)
    exact ⟨(n+R.length)^R.length-(T'+1),by omega,T'+1,_,_,_,F6,a,dx,qa,vl',vr',vb',vk6,_,by omega,rfl,gg.trans g6,A5.go g6,na,nq,(ir'.mono gx.f).mono g6.f,(ib'.mono gx.f).mono g6.f,ik6,rn'⟩
  ·rw [decide_eq_false h0,if_neg (by decide)]
   have g2:=I2.goOf
   have A2:=hA.go g2
   refine qox rfl A2.ha rfl (zafi A2 I2.fh ⟨hB,d0,d1,by omega,by omega,rn.top⟩ fun vs lb xs F3 H3 g3 hv1 hv2 hlb hH3 iss=>⟨szl,fun p hpp=>?_⟩)
   have nl:H lb=none:=qH (g.trans g2).h hlb
   obtain ⟨F6,g6,i6,p1,p2⟩:=qxl (w := "fits") ((g.trans g2).trans g3) nl hH3 iss hpp
   exact kk _ _ p lb xs F6 _ g6 i6 p1 nl p2 (by rw [iss.len,List.length_map];omega) (k1 vs (rn.fit hp h0 hv1 hv2))
def qcj (ds:List PyData) (q:PyData→Prop):Prop := ∃ b r R,ds=[qat b (r::R)]∧r.length≤4∧q .none
theorem qjl:FnScope ["glass"] ["glass"] (defScope qbm):=⟨rfl,rfl,rfl,by decide +kernel,rfl,by decide +kernel,by decide +kernel⟩
theorem qjh (F:Def K mg "check_few_signs" qbm ["glass"]) (T:Txt K mg cs)
 (O_signs:Ok P w K mg base "signs" 1 ["glass"] (PSp K qfk))
 : Ok P w K mg base "check_few_signs" 2 ["glass"] (PSp K qcj):=by
  refine F.vok qjl (by rintro ds q ⟨_,_,_,h,_⟩;rw [h];rfl) fun f cdv A outer s H E hr ds q h=>?_
  obtain ⟨b,r,R,rfl,hl,h⟩:=h
  refine ⟨_,(qh (qam (qA qxc (qx O_signs (hr.mono (by decide)) (qc (qb 0) qf)) (qkt T.MOST_COMPARED_)) qey qI)),?_⟩
  exact ⟨b,r,R,rfl,qix (fun z=>by omega) (fun _=>h)⟩
theorem qdv (f:Nat→Int) : ∀ n:Nat,((List.range n).map f).sum=qj n f
 | 0=>rfl
 | n+1=>by rw [List.range_succ,List.map_append,List.sum_append,qdv f n];simp [qj]
theorem qud {f:Nat→Int}{n:Nat} (h : ∀ k,k<n→f k≤0):qj n f≤0:=by
 rcases Int.lt_or_le 0 (qj n f) with z|z
 ·obtain ⟨k,hk,p⟩:=qkv z
  have:=h k hk
  omega
 ·exact z
theorem qos {B q d:Int} (hB:0<B) (hq:0<q) (h1:B∣d) (h2:q∣d):0<B*q/(Int.gcd B q:Int)∧B*q/(Int.gcd B q:Int)∣d∧B∣B*q/(Int.gcd B q:Int)∧q∣B*q/(Int.gcd B q:Int):=by
 obtain ⟨x,rfl⟩:=Int.eq_ofNat_of_zero_le (Int.le_of_lt hB)
 obtain ⟨y,rfl⟩:=Int.eq_ofNat_of_zero_le (Int.le_of_lt hq)
 have e:(x:Int)*(y:Int)/(Int.gcd x y:Int)=((Nat.lcm x y:Nat):Int):=by
  unfold Nat.lcm
  rw [Int.gcd_natCast_natCast,Int.natCast_ediv,Int.natCast_mul]
 rw [e]
 have p:0<Nat.lcm x y:=Nat.lcm_pos (by omega) (by omega)
 refine ⟨by omega,?_,Int.natCast_dvd_natCast.mpr (Nat.dvd_lcm_left x y),Int.natCast_dvd_natCast.mpr (Nat.dvd_lcm_right x y)⟩
 rw [Int.ofNat_dvd_left] at h1 h2 ⊢
 exact Nat.lcm_dvd h1 h2
structure ShW (p q:Int):Prop where
 s:Shr p q
 b1:intBits p≤4000
 b2:intBits q≤4000
theorem ShW.bot {p q r s:Int} (h:ShW p q) (k:ShW r s):q*s≠0∧intBits (q*s)≤9000:=by
 have h1:=h.s.pos
 have h2:=k.s.pos
 have:=Int.mul_pos (show 0<q by omega) (show 0<s by omega)
 exact ⟨by omega,qB (intBits_mul_le h.b2 k.b2) (by decide)⟩
theorem zaic {t b:Int} (hb:b≠0) (h1:intBits t≤4000) (h2:intBits b≤4000):ShW (shT t b) (shB t b):=⟨(qzx hb).1,qks h1,zabt h2⟩
structure CmpPre (b:Int) (R:List (List Int)) (m:Nat) (c:Int) (S:List (List Int)) (n:Nat):Prop where
 r:Tab b R m
 s:Tab c S n
 l:R.length=S.length
 w1:1≤R.length
 w2:R.length≤4
 m1:1≤m
 m2:m≤4
 n1:1≤n
 n2:n≤4
 zb:b≤20000000
 zc:c≤20000000
def qci (r:List Int) (j n:Nat):List Int:=(List.range (r.length*n)).map fun p=>if p%n=j then (r[p/n]?).getD 0 else 0
def qlb (b:Int) (i m n:Nat):List Int:=(List.range (m*n)).map fun p=>if p/n=i then b else 0
def eqL (b:Int) (R:List (List Int)) (m n:Nat):List (List Int):=(R.map fun r=>(List.range n).map fun j=>qci r j n).flatten++(List.range m).map fun i=>qlb b i m n
def qfl (S:List (List Int)) (c:Int) (m:Nat):List Int:=S.flatten++(List.range m).map fun _=>c
theorem qay {α:Type}{n:Nat} : ∀ {L:List (List α)},(∀ l ∈ L,l.length=n)→L.flatten.length=L.length*n
 | [],_=>by simp
 | l::L,h=>by
  rw [List.flatten_cons,List.length_append,qay fun x hx=>h x (List.mem_cons_of_mem _ hx),h l (by simp),List.length_cons,Nat.succ_mul]
  omega
theorem qow {α:Type}{n:Nat} : ∀ {L:List (List α)}{s j:Nat},(∀ l ∈ L,l.length=n)→j<n→L.flatten[s*n+j]?=(L[s]?).bind fun l=>l[j]?
 | [],s,j,_,_=>by simp
 | l::L,0,j,h,hj=>by
  have e:=h l (by simp)
  rw [List.flatten_cons,Nat.zero_mul,Nat.zero_add,List.getElem?_append_left (by omega)];rfl
 | l::L,s+1,j,h,hj=>by
  have e:=h l (by simp)
  rw [List.flatten_cons,List.getElem?_append_right (by rw [e,Nat.succ_mul];omega),e,show (s+1)*n+j-n=s*n+j by rw [Nat.succ_mul];omega,qow (fun x hx=>h x (List.mem_cons_of_mem _ hx)) hj];rfl
theorem qkp (f:Nat→Int) (a:Nat) : ∀ b:Nat,qj (a+b) f=qj a f+qj b fun j=>f (a+j)
 | 0=>by show qj a f=qj a f+0;omega
 | b+1=>by
  show qj (a+b) f+f (a+b)=qj a f+(qj b (fun j=>f (a+j))+f (a+b))
  rw [qkp f a b];omega
theorem qga (f:Nat→Int) (n:Nat) : ∀ m:Nat,qj (m*n) f=qj m fun i=>qj n fun j=>f (i*n+j)
 | 0=>by rw [Nat.zero_mul];rfl
 | m+1=>by
  rw [Nat.succ_mul,qkp,qga f n m];rfl
theorem qoi {i j n:Nat} (hj:j<n):(i*n+j)/n=i∧(i*n+j)%n=j:=by
 refine ⟨?_,?_⟩
 ·rw [Nat.mul_comm,Nat.mul_add_div (by omega),Nat.div_eq_of_lt hj,Nat.add_zero]
 ·rw [Nat.mul_comm,Nat.mul_add_mod,Nat.mod_eq_of_lt hj]
theorem qfi {i j m n:Nat} (hi:i<m) (hj:j<n):i*n+j<m*n:=by
 have:(i+1)*n≤m*n:=Nat.mul_le_mul_right n hi
 rw [Nat.succ_mul] at this
 omega
theorem qkq {r:List Int}{j n i j':Nat} (hi:i<r.length) (hj:j'<n):((qci r j n)[i*n+j']?).getD 0=if j'=j then (r[i]?).getD 0 else 0:=by
 unfold qci
 rw [List.getElem?_map,List.getElem?_range (qfi hi hj)]
 show (if (i*n+j')%n=j then _ else _)=_
 rw [(qoi hj).1,(qoi hj).2]
theorem qny {b:Int}{i m n i' j':Nat} (hi:i'<m) (hj:j'<n):((qlb b i m n)[i'*n+j']?).getD 0=if i'=i then b else 0:=by
 unfold qlb
 rw [List.getElem?_map,List.getElem?_range (qfi hi hj)]
 show (if (i'*n+j')/n=i then _ else _)=_
 rw [(qoi hj).1]
section
variable {b:Int}{R:List (List Int)}{m:Nat}{c:Int}{S:List (List Int)}{n:Nat}
theorem qcs (R:List (List Int)) (n:Nat) : ∀ l ∈ R.map fun r=>(List.range n).map fun j=>qci r j n,l.length=n:=fun l hl=>by
 obtain ⟨r,_,rfl⟩:=List.mem_map.mp hl
 simp
theorem qiw (b:Int) (R:List (List Int)) (m n:Nat):(eqL b R m n).length=R.length*n+m:=by
 unfold eqL
 rw [List.length_append,qay (qcs R n),List.length_map,List.length_map,List.length_range]
theorem qzh (h:CmpPre b R m c S n):(qfl S c m).length=R.length*n+m:=by
 unfold qfl
 rw [List.length_append,qay h.s.len,List.length_map,List.length_range,h.l]
theorem qku {s j:Nat} (hs:s<R.length) (hj:j<n):(eqL b R m n)[s*n+j]?=some (qci ((R[s]?).getD []) j n):=by
 unfold eqL
 rw [List.getElem?_append_left (by rw [qay (qcs R n),List.length_map];exact qfi hs hj),qow (qcs R n) hj,List.getElem?_map,List.getElem?_eq_getElem hs]
 show ((List.range n).map fun j=>qci R[s] j n)[j]?=_
 rw [List.getElem?_map,List.getElem?_range hj];rfl
theorem qnb {i:Nat} (hi:i<m):(eqL b R m n)[R.length*n+i]?=some (qlb b i m n):=by
 unfold eqL
 rw [List.getElem?_append_right (by rw [qay (qcs R n),List.length_map];omega),qay (qcs R n),List.length_map,show R.length*n+i-R.length*n=i by omega,List.getElem?_map,List.getElem?_range hi];rfl
theorem qns (h:CmpPre b R m c S n) {s j:Nat} (hs:s<R.length) (hj:j<n):((qfl S c m)[s*n+j]?).getD 0=at2 S s j:=by
 have hs':s<S.length:=by rw [← h.l];exact hs
 unfold qfl at2
 rw [List.getElem?_append_left (by rw [qay h.s.len];exact qfi hs' hj),qow h.s.len hj,List.getElem?_eq_getElem hs'];rfl
theorem qqg (h:CmpPre b R m c S n) {i:Nat} (hi:i<m):((qfl S c m)[R.length*n+i]?).getD 0=c:=by
 unfold qfl
 rw [List.getElem?_append_right (by rw [qay h.s.len,h.l];omega),qay h.s.len,h.l,show S.length*n+i-S.length*n=i by omega,List.getElem?_map,List.getElem?_range hi];rfl
theorem qna (h:CmpPre b R m c S n) {s:Nat} (hs:s<R.length):((R[s]?).getD []).length=m:=by
 rw [List.getElem?_eq_getElem hs];exact h.r.len _ (List.getElem_mem hs)
theorem zabm (h:CmpPre b R m c S n) {s j:Nat} (hs:s<R.length) (hj:j<n) (X:Nat→Int):(qj (m*n) fun u=>at2 (eqL b R m n) (s*n+j) u*X u)=qj m fun i=>at2 R s i*X (i*n+j):=by
 rw [qga]
 refine qi fun i hi=>?_
 rw [qU hj fun j' hj' ne=>?_]
 ·show ((((eqL b R m n)[s*n+j]?).getD [])[i*n+j]?).getD 0*_=_
  rw [qku hs hj]
  show ((qci ((R[s]?).getD []) j n)[i*n+j]?).getD 0*_=_
  rw [qkq (by rw [qna h hs];exact hi) hj,if_pos rfl];rfl
 ·show ((((eqL b R m n)[s*n+j]?).getD [])[i*n+j']?).getD 0*_=_
  rw [qku hs hj]
  show ((qci ((R[s]?).getD []) j n)[i*n+j']?).getD 0*_=_
  rw [qkq (by rw [qna h hs];exact hi) hj',if_neg ne,Int.zero_mul]
theorem zafd {i:Nat} (hi:i<m) (X:Nat→Int):(qj (m*n) fun u=>at2 (eqL b R m n) (R.length*n+i) u*X u)=b*qj n fun j=>X (i*n+j):=by
 rw [qga,qU hi fun i' hi' ne=>?_,← qu]
 ·refine qi fun j hj=>?_
  show ((((eqL b R m n)[R.length*n+i]?).getD [])[i*n+j]?).getD 0*_=_
  rw [qnb hi]
  show ((qlb b i m n)[i*n+j]?).getD 0*_=_
  rw [qny hi hj,if_pos rfl]
 ·refine qaj fun j hj=>?_
  show ((((eqL b R m n)[R.length*n+i]?).getD [])[i'*n+j]?).getD 0*_=_
  rw [qnb hi]
  show ((qlb b i m n)[i'*n+j]?).getD 0*_=_
  rw [qny hi' hj,if_neg ne,Int.zero_mul]
theorem qyt {r:List Int}{j n:Nat}{x:Int} (h:x ∈ qci r j n):x=0∨x ∈ r:=by
 obtain ⟨p,_,rfl⟩:=List.mem_map.mp h
 split
 ·cases e:r[p/n]? with
  | none=>exact .inl rfl
  | some y=>exact .inr (List.mem_of_getElem? e)
 ·exact .inl rfl
theorem zafc (h:CmpPre b R m c S n):SvPre (m*n) (eqL b R m n) (qfl S c m):=by
 have hb:=h.r.pos
 have hc:=h.s.pos
 have mn:m*n≤4*4:=Nat.mul_le_mul h.m2 h.n2
 have wn:R.length*n≤4*4:=Nat.mul_le_mul h.w2 h.n2
 have m1:=h.m1
 have m2:=h.m2
 have mn1:1*1≤m*n:=Nat.mul_le_mul h.m1 h.n1
 have zb:=h.zb
 have zc:=h.zc
 refine ⟨⟨by rw [qzh h,qiw],fun r hr=>?_,by omega,by rw [qiw];omega⟩,by omega,by rw [qiw];omega,fun r hr x hx=>?_,fun x hx=>?_⟩
 ·unfold eqL at hr
  rcases List.mem_append.mp hr with q|q
  ·obtain ⟨l,hl,q⟩:=List.mem_flatten.mp q
   obtain ⟨r0,h0,rfl⟩:=List.mem_map.mp hl
   obtain ⟨j,_,rfl⟩:=List.mem_map.mp q
   simp [qci,h.r.len r0 h0]
  ·obtain ⟨i,_,rfl⟩:=List.mem_map.mp q
   simp [qlb]
 ·unfold eqL at hr
  rcases List.mem_append.mp hr with q|q
  ·obtain ⟨l,hl,q⟩:=List.mem_flatten.mp q
   obtain ⟨r0,h0,rfl⟩:=List.mem_map.mp hl
   obtain ⟨j,_,rfl⟩:=List.mem_map.mp q
   rcases qyt hx with rfl|hx
   ·decide
   ·have:=h.r.le h0 hx
    omega
  ·obtain ⟨i,_,rfl⟩:=List.mem_map.mp q
   obtain ⟨p,_,rfl⟩:=List.mem_map.mp hx
   split <;> omega
 ·unfold qfl at hx
  rcases List.mem_append.mp hx with q|q
  ·obtain ⟨l,hl,q⟩:=List.mem_flatten.mp q
   have:=h.s.le hl q
   omega
  ·obtain ⟨_,_,rfl⟩:=List.mem_map.mp q
   omega
structure Dul (b:Int) (R:List (List Int)) (m:Nat) (c:Int) (S:List (List Int)) (n:Nat) (B:Int) (D:List (List Int)):Prop where
 t:Tab B D n
 l:D.length=m
 e : ∀ s j,s<R.length→j<n→c*(qj m fun i=>at2 R s i*at2 D i j)=at2 S s j*b*B
structure Dls (b:Int) (R:List (List Int)) (m:Nat) (c:Int) (S:List (List Int)) (n:Nat) (B:Int) (D:List (List Int)):Prop where
 u:Dul b R m c S n B D
 g:qbx D=1
 z:intBits B≤3000
structure Dcs (b:Int) (R:List (List Int)) (m:Nat) (c:Int) (S:List (List Int)) (n:Nat) (W:List (List Int)):Prop where
 l:W.length=R.length
 w : ∀ r ∈ W,r.length=n
 v : ∃ v:Nat→Int,(∀ i j,i<m→j<n→(qj R.length fun s=>at2 R s i*at2 W s j)+b*v i≤0)∧0<(qj R.length fun s=>qj n fun j=>at2 S s j*at2 W s j)+c*qj m v
def qF {α:Type} (l:List α) (n w:Nat):List (List α):=(List.range w).map fun k=>(l.drop (k*n)).take n
theorem qdi {α:Type}{l:List α}{n w k:Nat} (hk:k<w):(qF l n w)[k]?=some ((l.drop (k*n)).take n):=by
 unfold qF
 rw [List.getElem?_map,List.getElem?_range hk];rfl
theorem qxp {α:Type}{l:List α}{n k j:Nat} (hj:j<n):((l.drop (k*n)).take n)[j]?=l[k*n+j]?:=by
 rw [List.getElem?_take_of_lt hj,List.getElem?_drop]
theorem qrj {l:List Int}{n w k j:Nat} (hk:k<w) (hj:j<n):at2 (qF l n w) k j=(l[k*n+j]?).getD 0:=by
 unfold at2
 rw [qdi hk]
 show (((l.drop (k*n)).take n)[j]?).getD 0=_
 rw [qxp hj]
theorem zaax (h:CmpPre b R m c S n) {ws:List Int} (hw:zaec (m*n) (eqL b R m n) (qfl S c m) ws):Dcs b R m c S n (qF ws n R.length):=by
 obtain ⟨h1,h2,h3⟩:=hw
 rw [qiw] at h1 h2 h3
 have hcut : ∀ k,k<R.length→((ws.drop (k*n)).take n).length=n:=fun k hk=>by
  rw [List.length_take,List.length_drop,h1]
  have n1:=h.n1
  have a:=qfi (i:=k) (j:=n-1) (m:=R.length) (n:=n) hk (by omega)
  omega
 refine ⟨by simp [qF],fun r hr=>?_,fun i=>(ws[R.length*n+i]?).getD 0,fun i j hi hj=>?_,?_⟩
 ·obtain ⟨k,hk,rfl⟩:=List.mem_map.mp hr
  exact hcut k (List.mem_range.mp hk)
 ·have:=h2 (i*n+j) (qfi hi hj)
  rw [qkp,qga] at this
  have e1:(qj R.length fun s=>qj n fun j'=>at2 (eqL b R m n) (s*n+j') (i*n+j)*(ws[s*n+j']?).getD 0)=qj R.length fun s=>at2 R s i*at2 (qF ws n R.length) s j:=qi fun s hs=>by
   rw [qU hj fun j' hj' ne=>?_]
   ·rw [qrj hs hj]
    show ((((eqL b R m n)[s*n+j]?).getD [])[i*n+j]?).getD 0*_=_
    rw [qku hs hj]
    show ((qci ((R[s]?).getD []) j n)[i*n+j]?).getD 0*_=_
    rw [qkq (by rw [qna h hs];exact hi) hj,if_pos rfl];rfl
   ·show ((((eqL b R m n)[s*n+j']?).getD [])[i*n+j]?).getD 0*_=_
    rw [qku hs hj']
    show ((qci ((R[s]?).getD []) j' n)[i*n+j]?).getD 0*_=_
    rw [qkq (by rw [qna h hs];exact hi) hj,if_neg (Ne.symm ne),Int.zero_mul]
  have e2:(qj m fun j'=>at2 (eqL b R m n) (R.length*n+j') (i*n+j)*(ws[R.length*n+j']?).getD 0)=b*(ws[R.length*n+i]?).getD 0:=by
   rw [qU hi fun i' hi' ne=>?_]
   ·show ((((eqL b R m n)[R.length*n+i]?).getD [])[i*n+j]?).getD 0*_=_
    rw [qnb hi]
    show ((qlb b i m n)[i*n+j]?).getD 0*_=_
    rw [qny hi hj,if_pos rfl]
   ·show ((((eqL b R m n)[R.length*n+i']?).getD [])[i*n+j]?).getD 0*_=_
    rw [qnb hi']
    show ((qlb b i' m n)[i*n+j]?).getD 0*_=_
    rw [qny hi hj,if_neg (Ne.symm ne),Int.zero_mul]
  rw [e1,e2] at this
  exact this
 ·rw [qkp,qga] at h3
  have e1:(qj R.length fun s=>qj n fun j=>((qfl S c m)[s*n+j]?).getD 0*(ws[s*n+j]?).getD 0)=qj R.length fun s=>qj n fun j=>at2 S s j*at2 (qF ws n R.length) s j:=qi fun s hs=>qi fun j hj=>by
   rw [qns h hs hj,qrj hs hj]
  have e2:(qj m fun i=>((qfl S c m)[R.length*n+i]?).getD 0*(ws[R.length*n+i]?).getD 0)=c*qj m fun i=>(ws[R.length*n+i]?).getD 0:=by
   rw [← qu]
   exact qi fun i hi=>by rw [qqg h hi]
  rw [e1,e2] at h3
  exact h3
structure LcmB (V:List (List (Int×Int))) (B:Int):Prop where
 pos:0<B
 dv : ∀ r ∈ V,∀ x ∈ r,x.2∣B
 un : ∀ d:Int,(∀ r ∈ V,∀ x ∈ r,x.2∣d)→B∣d
def qbt (B:Int) (r:List (Int×Int)):List Int:=r.map fun x=>x.1*(B/x.2)
theorem zaef {V:List (List (Int×Int))}{B g:Int} (h:LcmB V B) (hs : ∀ r ∈ V,∀ x ∈ r,Shr x.1 x.2) (g0:0<g) (gB:g∣B) (hg : ∀ r ∈ V,∀ y ∈ qbt B r,g∣y):g=1:=by
 obtain ⟨t,e⟩:=gB
 have hB:=h.pos
 have t0:0<t:=by
  rcases Int.lt_or_le 0 t with q|q
  ·exact q
  ·have:=Int.mul_nonneg (Int.le_of_lt g0) (show 0 ≤ -t by omega)
   rw [Int.mul_neg] at this
   omega
 have hd:B∣t:=h.un t fun r hr x hx=>by
  have s:=hs r hr x hx
  obtain ⟨k,hk⟩:=hg r hr _ (List.mem_map.mpr ⟨x,hx,rfl⟩)
  obtain ⟨u,hu⟩:=h.dv r hr x hx
  have q0:x.2≠0:=by have:=s.pos;omega
  rw [hu,Int.mul_ediv_cancel_left _ q0] at hk
  refine zaej s.gcd ⟨k,?_⟩
  have:g*(x.1*t)=g*(x.2*k):=by
   have e':x.2*u=g*t:=by rw [← hu,e]
   calc g*(x.1*t)=x.1*(g*t):=by grind
    _=x.1*(x.2*u):=by rw [e']
    _=x.2*(x.1*u):=by grind
    _=x.2*(g*k):=by rw [hk]
    _=g*(x.2*k):=by grind
  exact Int.eq_of_mul_eq_mul_left (by omega) this
 have le1:=Int.le_of_dvd t0 hd
 rw [e] at le1
 rcases Int.lt_or_le 1 g with q|q
 ·have:=Int.mul_lt_mul_of_pos_right q t0
  omega
 ·omega
def qW (b c:Int) (x:Int×Int):Int×Int:=(shT (x.1*shT b c) (x.2*shB b c),shB (x.1*shT b c) (x.2*shB b c))
theorem qnh {b c:Int}{x:Int×Int} (hb:0<b) (hc:0<c) (hx:Shr x.1 x.2):Shr (qW b c x).1 (qW b c x).2∧(qW b c x).1*(x.2*c)=x.1*b*(qW b c x).2∧(qW b c x).2∣x.2*c:=by
 obtain ⟨s1,e1⟩:=qzx (t:=b) (b:=c) (by omega)
 have hx0:=hx.pos
 have q0:x.2*shB b c≠0:=by
  have:=Int.mul_pos (show 0<x.2 by omega) (show 0<shB b c by have:=s1.pos;omega)
  omega
 obtain ⟨s2,e2⟩:=qzx (t:=x.1*shT b c) (b:=x.2*shB b c) q0
 refine ⟨s2,?_,?_⟩
 ·have hbb:shT b c≠0:=by
   intro z
   rw [z,Int.zero_mul] at e1
   have:=Int.mul_pos hb (show 0<shB b c by have:=s1.pos;omega)
   omega
  have s0:shB b c≠0:=by have:=s1.pos;omega
  show shT (x.1*shT b c) (x.2*shB b c)*(x.2*c)=x.1*b*shB (x.1*shT b c) (x.2*shB b c)
  generalize shT (x.1*shT b c) (x.2*shB b c)=P at e2
  generalize shB (x.1*shT b c) (x.2*shB b c)=Q at e2
  generalize shT b c=t at *
  generalize shB b c=u at *
  have:u*(P*(x.2*c))=u*(x.1*b*Q):=by
   calc u*(P*(x.2*c))=(P*(x.2*u))*c:=by grind
    _=(x.1*t*Q)*c:=by rw [e2]
    _=x.1*Q*(t*c):=by grind
    _=x.1*Q*(b*u):=by rw [e1]
    _=u*(x.1*b*Q):=by grind
  exact Int.eq_of_mul_eq_mul_left s0 this
 ·refine Int.dvd_trans (b:=x.2*shB b c) ⟨cm (x.1*shT b c) (x.2*shB b c),?_⟩ ?_
  ·exact (qoc _ _).symm.trans (Int.mul_comm _ _)
  ·exact Int.mul_dvd_mul (Int.dvd_refl _) ⟨cm b c,(qoc _ _).symm.trans (Int.mul_comm _ _)⟩
theorem zabh {f:List (Int×Int)→List Int}{V:List (List (Int×Int))}{i j:Nat}{r:List (Int×Int)} (h:V[i]?=some r):at2 (V.map f) i j=((f r)[j]?).getD 0:=by
 unfold at2
 rw [List.getElem?_map,h];rfl
theorem zaeo (h:CmpPre b R m c S n) {vs:List (Int×Int)} (hv:FitV (m*n) (eqL b R m n) (qfl S c m) vs) {B:Int} (hB:LcmB (qF (vs.map (qW b c)) n m) B) :
 Dls b R m c S n B ((qF (vs.map (qW b c)) n m).map (qbt B)):=by
  obtain ⟨vl,d,d0,zd,hx,he⟩:=hv
  have hb:=h.r.pos
  have hc:=h.s.pos
  have n1:=h.n1
  have hget : ∀ i j,i<m→j<n → ∃ x,vs[i*n+j]?=some x∧x ∈ vs:=fun i j hi hj=>by
   have e:vs[i*n+j]?=some (vs[i*n+j]'(by rw [vl];exact qfi hi hj)):=List.getElem?_eq_getElem _
   exact ⟨_,e,List.mem_of_getElem? e⟩
  have hrow : ∀ r ∈ qF (vs.map (qW b c)) n m,r.length=n ∧ ∀ y ∈ r,∃ x ∈ vs,y=qW b c x:=fun r hr=>by
   obtain ⟨k,hk,rfl⟩:=List.mem_map.mp hr
   have hk:=List.mem_range.mp hk
   refine ⟨?_,fun y hy=>?_⟩
   ·rw [List.length_take,List.length_drop,List.length_map,vl]
    have a:=qfi (i:=k) (j:=n-1) (m:=m) (n:=n) hk (by omega)
    omega
   ·obtain ⟨x,hx,rfl⟩:=List.mem_map.mp (List.mem_of_mem_drop (List.mem_of_mem_take hy))
    exact ⟨x,hx,rfl⟩
  have hsh : ∀ r ∈ qF (vs.map (qW b c)) n m,∀ y ∈ r,Shr y.1 y.2∧0≤y.1:=fun r hr y hy=>by
   obtain ⟨x,hxm,rfl⟩:=(hrow r hr).2 y hy
   obtain ⟨q1,q2,_,_⟩:=hx x hxm
   obtain ⟨g1,g2,_⟩:=qnh (show 0<b by omega) (show 0<c by omega) q1
   refine ⟨g1,?_⟩
   have e0:0≤x.1*b*(qW b c x).2:=Int.mul_nonneg (Int.mul_nonneg q2 (by omega)) (by have:=g1.pos;omega)
   rw [← g2] at e0
   have p0:0<x.2*c:=Int.mul_pos (by have:=q1.pos;omega) (by omega)
   rcases Int.lt_or_le (qW b c x).1 0 with z|z
   ·have:=Int.mul_neg_of_neg_of_pos z p0
    omega
   ·exact z
  have Bd:B∣d*c:=hB.un _ fun r hr y hy=>by
   obtain ⟨x,hxm,rfl⟩:=(hrow r hr).2 y hy
   obtain ⟨q1,_,q3,_⟩:=hx x hxm
   exact Int.dvd_trans (qnh (show 0<b by omega) (show 0<c by omega) q1).2.2 (Int.mul_dvd_mul q3 (Int.dvd_refl _))
  have B0:=hB.pos
  have key : ∀ i j,i<m→j<n→at2 ((qF (vs.map (qW b c)) n m).map (qbt B)) i j*(d*c)=B*b*(((vs[i*n+j]?).getD (0,1)).1*(d/((vs[i*n+j]?).getD (0,1)).2)):=fun i j hi hj=>by
   obtain ⟨x,ex,hxm⟩:=hget i j hi hj
   obtain ⟨q1,q2,⟨e,he'⟩,_⟩:=hx x hxm
   obtain ⟨g1,g2,_⟩:=qnh (show 0<b by omega) (show 0<c by omega) q1
   have hy:((vs.map (qW b c)).drop (i*n)).take n ∈ qF (vs.map (qW b c)) n m:=List.mem_of_getElem? (qdi hi)
   have ey:(((vs.map (qW b c)).drop (i*n)).take n)[j]?=some (qW b c x):=by rw [qxp hj,List.getElem?_map,ex];rfl
   obtain ⟨t,ht⟩:=hB.dv _ hy _ (List.mem_of_getElem? ey)
   rw [zabh (qdi hi),ex]
   unfold qbt
   rw [List.getElem?_map,ey]
   show (qW b c x).1*(B/(qW b c x).2)*(d*c)=B*b*(x.1*(d/x.2))
   have y0:(qW b c x).2≠0:=by have:=g1.pos;omega
   have x0:x.2≠0:=by have:=q1.pos;omega
   have e1:B/(qW b c x).2=t:=by rw [ht,Int.mul_ediv_cancel_left _ y0]
   have e2:d/x.2=e:=by rw [he',Int.mul_ediv_cancel_left _ x0]
   rw [e1,e2,ht,he']
   generalize (qW b c x).1=P at *
   generalize (qW b c x).2=Q at *
   calc P*t*(x.2*e*c)=(P*(x.2*c))*(t*e):=by grind
    _=(x.1*b*Q)*(t*e):=by rw [g2]
    _=Q*t*b*(x.1*e):=by grind
  have dc0:d*c≠0:=by have:=Int.mul_pos d0 (show 0<c by omega);omega
  have hlen : ∀ r ∈ (qF (vs.map (qW b c)) n m).map (qbt B),r.length=n:=fun r hr=>by
   obtain ⟨r0,h0,rfl⟩:=List.mem_map.mp hr
   unfold qbt
   rw [List.length_map];exact (hrow r0 h0).1
  have hnn : ∀ r ∈ (qF (vs.map (qW b c)) n m).map (qbt B),∀ x ∈ r,0≤x:=fun r hr x hx'=>by
   obtain ⟨r0,h0,rfl⟩:=List.mem_map.mp hr
   obtain ⟨y,hy,rfl⟩:=List.mem_map.mp hx'
   obtain ⟨s1,s2⟩:=hsh r0 h0 y hy
   exact Int.mul_nonneg s2 (Int.ediv_nonneg (by omega) (by have:=s1.pos;omega))
  have hsum : ∀ r ∈ (qF (vs.map (qW b c)) n m).map (qbt B),r.sum=B:=fun r hr=>by
   obtain ⟨i,hi⟩:=List.getElem?_of_mem hr
   have hi':i<m:=by
    have:=(List.getElem?_eq_some_iff.mp hi).1
    simpa [qF] using this
   have er:r.sum=qj n fun j=>at2 ((qF (vs.map (qW b c)) n m).map (qbt B)) i j:=by
    have e1:r=(List.range n).map fun j=>at2 ((qF (vs.map (qW b c)) n m).map (qbt B)) i j:=by
     refine List.ext_getElem? fun j=>?_
     rw [List.getElem?_map]
     by_cases hj:j<n
     ·rw [List.getElem?_range hj,List.getElem?_eq_getElem (by rw [hlen r hr];exact hj)]
      unfold at2
      rw [hi]
      simp [hlen r hr,hj]
     ·rw [List.getElem?_eq_none (by rw [hlen r hr];omega),List.getElem?_eq_none (by simp;omega)];rfl
    have e2:=qdv (fun j=>at2 ((qF (vs.map (qW b c)) n m).map (qbt B)) i j) n
    rw [← e1] at e2
    exact e2
   have e3:=he (R.length*n+i) (by rw [qiw];omega)
   rw [zafd hi',qqg h hi'] at e3
   have e4:(d*c)*r.sum=(d*c)*B:=by
    rw [er,← qu]
    have:(qj n fun j=>d*c*at2 ((qF (vs.map (qW b c)) n m).map (qbt B)) i j)=qj n fun j=>(B*b)*(((vs[i*n+j]?).getD (0,1)).1*(d/((vs[i*n+j]?).getD (0,1)).2)):=qi fun j hj=>by
     rw [Int.mul_comm (d*c),key i j hi' hj]
    rw [this,qu,Int.mul_assoc B b,← e3,Int.mul_comm]
   exact Int.eq_of_mul_eq_mul_left dc0 e4
  refine ⟨⟨⟨by omega,hlen,hnn,hsum⟩,by simp [qF],fun s j hs hj=>?_⟩,?_,?_⟩
  rotate_left
  ·have hT:Tab B ((qF (vs.map (qW b c)) n m).map (qbt B)) n:=⟨by omega,hlen,hnn,hsum⟩
   have hne:(qF (vs.map (qW b c)) n m).map (qbt B)≠[]:=fun z=>by
    have:=congrArg List.length z
    simp [qF] at this
    have:=h.m1
    omega
   have g0:=hT.gpos hne
   have:=zaef hB (fun r hr x hx=>(hsh r hr x hx).1) (show (0:Int)<qbx ((qF (vs.map (qW b c)) n m).map (qbt B)) by omega) (hT.gdvd hne) fun r hr y hy=>qhv (List.mem_map.mpr ⟨r,hr,rfl⟩) hy
   omega
  ·refine intBits_le_of_natAbs (Nat.le_of_dvd ?_ (Int.natAbs_dvd_natAbs.mpr Bd)) (qB (intBits_mul_le zd (qax (x:=c) (by omega) (by have:=h.zc;omega))) (by decide))
   omega
  ·have e3:=he (s*n+j) (by rw [qiw];have:=qfi (m:=R.length) hs hj;omega)
   rw [zabm h hs hj,qns h hs hj] at e3
   have:d*(c*qj m fun i=>at2 R s i*at2 ((qF (vs.map (qW b c)) n m).map (qbt B)) i j)=d*(at2 S s j*b*B):=by
    have e4:(qj m fun i=>(d*c)*(at2 R s i*at2 ((qF (vs.map (qW b c)) n m).map (qbt B)) i j))=qj m fun i=>(B*b)*(at2 R s i*(((vs[i*n+j]?).getD (0,1)).1*(d/((vs[i*n+j]?).getD (0,1)).2))):=qi fun i hi=>by
     have k:=key i j hi hj
     calc (d*c)*(at2 R s i*at2 ((qF (vs.map (qW b c)) n m).map (qbt B)) i j)=at2 R s i*(at2 ((qF (vs.map (qW b c)) n m).map (qbt B)) i j*(d*c)):=by grind
      _=_:=by rw [k];grind
    rw [qu,qu,← e3] at e4
    rw [← Int.mul_assoc,e4];grind
   exact Int.eq_of_mul_eq_mul_left (by omega) this
theorem qsu {b:Int}{R:List (List Int)}{m:Nat}{c:Int}{S:List (List Int)}{n:Nat}{B:Int}{D W:List (List Int)} (hb:0<b) (hc:0<c) (h:Dul b R m c S n B D) (w:Dcs b R m c S n W):False:=by
 obtain ⟨v,h1,h2⟩:=w.v
 have hB:=h.t.pos
 have s1:(qj m fun i=>qj n fun j=>at2 D i j*((qj R.length fun s=>at2 R s i*at2 W s j)+b*v i))≤0:=qud fun i hi=>qud fun j hj=>by
  have d0:0≤at2 D i j:=by
   unfold at2
   cases e:D[i]? with
   | none=>exact Int.le_refl _
   | some r =>
    show 0≤(r[j]?).getD 0
    cases e':r[j]? with
    | none=>exact Int.le_refl _
    | some x=>exact h.t.nn r (List.mem_of_getElem? e) x (List.mem_of_getElem? e')
  have:=Int.mul_nonneg d0 (show 0 ≤ -((qj R.length fun s=>at2 R s i*at2 W s j)+b*v i) by have:=h1 i j hi hj;omega)
  rw [Int.mul_neg] at this
  omega
 have rs : ∀ i,i<m→(qj n fun j=>at2 D i j)=B:=fun i hi=>by
  have hi':i<D.length:=by rw [h.l];exact hi
  have er:D[i]?=some D[i]:=List.getElem?_eq_getElem hi'
  have hl:=h.t.len _ (List.getElem_mem hi')
  rw [← h.t.sum _ (List.getElem_mem hi')]
  have e1:(List.range n).map (fun j=>at2 D i j)=D[i]:=by
   refine List.ext_getElem? fun j=>?_
   rw [List.getElem?_map]
   by_cases hj:j<n
   ·rw [List.getElem?_range hj,List.getElem?_eq_getElem (by rw [hl];exact hj)]
    unfold at2
    rw [er]
    simp [hl,hj]
   ·rw [List.getElem?_eq_none (l:=D[i]) (by rw [hl];omega),List.getElem?_eq_none (by simp;omega)];rfl
  have e2:=qdv (fun j=>at2 D i j) n
  rw [e1] at e2
  exact e2.symm
 have s2:(qj m fun i=>qj n fun j=>at2 D i j*((qj R.length fun s=>at2 R s i*at2 W s j)+b*v i))=(qj R.length fun s=>qj n fun j=>at2 W s j*qj m fun i=>at2 R s i*at2 D i j)+b*B*qj m v:=by
  have a1 : ∀ i,i<m→(qj n fun j=>at2 D i j*((qj R.length fun s=>at2 R s i*at2 W s j)+b*v i))=(qj n fun j=>qj R.length fun s=>at2 D i j*(at2 R s i*at2 W s j))+b*B*v i:=fun i hi=>by
   have:(qj n fun j=>at2 D i j*((qj R.length fun s=>at2 R s i*at2 W s j)+b*v i))=qj n fun j=>(qj R.length fun s=>at2 D i j*(at2 R s i*at2 W s j))+(b*v i)*at2 D i j:=qi fun j hj=>by
    rw [qu,Int.mul_add,Int.mul_comm (at2 D i j) (b*v i)]
   rw [this,qcn,qu,rs i hi];grind
  rw [qi a1,qcn,qu]
  congr 1
  have sw : ∀ (p q:Nat) (f:Nat→Nat→Int),(qj p fun i=>qj q fun j=>f i j)=qj q fun j=>qj p fun i=>f i j:=fun p q f=>by
   induction p with
   | zero=>exact (qaj fun j _=>rfl).symm
   | succ p ih =>
    show (qj p fun i=>qj q fun j=>f i j)+qj q (fun j=>f p j)=qj q fun j=>(qj p fun i=>f i j)+f p j
    rw [ih,qcn]
  rw [qi fun i _=>sw n R.length fun j s=>at2 D i j*(at2 R s i*at2 W s j),sw]
  refine qi fun s hs=>?_
  rw [sw]
  refine qi fun j hj=>?_
  rw [← qu]
  exact qi fun i _=>by grind
 have s3:c*(qj R.length fun s=>qj n fun j=>at2 W s j*qj m fun i=>at2 R s i*at2 D i j)=b*B*qj R.length fun s=>qj n fun j=>at2 S s j*at2 W s j:=by
  rw [← qu,← qu]
  refine qi fun s hs=>?_
  rw [← qu,← qu]
  refine qi fun j hj=>?_
  have:=h.e s j hs hj
  calc c*(at2 W s j*qj m fun i=>at2 R s i*at2 D i j)=at2 W s j*(c*qj m fun i=>at2 R s i*at2 D i j):=by grind
   _=at2 W s j*(at2 S s j*b*B):=by rw [this]
   _=_:=by grind
 rw [s2] at s1
 have bB:=Int.mul_pos hb (show 0<B by omega)
 have s4:=Int.mul_pos bB h2
 have s5:=Int.mul_nonneg (Int.le_of_lt hc) (show 0 ≤ -((qj R.length fun s=>qj n fun j=>at2 W s j*qj m fun i=>at2 R s i*at2 D i j)+b*B*qj m v) by omega)
 rw [Int.mul_neg,Int.mul_add,s3] at s5
 rw [Int.mul_add] at s4
 have e:c*(b*B*qj m v)=b*B*(c*qj m v):=by grind
 omega
end
def dS (x:Int×Int):PyData:=dSh x.1 x.2
theorem shG {vs:List (Int×Int)}{i:Nat}{x:PyData} (h:(vs.map dS)[i]?=some x) : ∃ y,vs[i]?=some y∧x=dSh y.1 y.2:=by
 rw [List.getElem?_map] at h
 cases q:vs[i]? with
 | none=>rw [q] at h;cases h
 | some y=>rw [q] at h;exact ⟨y,rfl,(Option.some.inj h).symm⟩
theorem dvdB {x d:Int}{m:Nat} (h:x∣d) (d0:0<d) (z:intBits d≤m):intBits x≤m :=
 intBits_le_of_natAbs (Nat.le_of_dvd (by omega) (Int.natAbs_dvd_natAbs.mpr h)) z
def zalu (d:PyData) (V:List (List (Int×Int))):Prop := ∃ l,qlu d=some l∧l.length=V.length ∧ ∀ (i:Nat) (x:PyData),l[i]?=some x → ∃ r:List (Int×Int),V[i]?=some r∧qlu x=some (r.map dS)
structure LcmL (xs:List (Int×Int)) (B:Int):Prop where
 pos:0<B
 dv : ∀ x ∈ xs,x.2∣B
 un : ∀ d:Int,(∀ x ∈ xs,x.2∣d)→B∣d
theorem LcmL.nil:LcmL [] 1:=⟨by decide,fun x hx=>by simp at hx,fun d _=>⟨d,by omega⟩⟩
theorem LcmL.snoc {xs:List (Int×Int)}{B:Int}{y:Int×Int} (h:LcmL xs B) (hy:0<y.2):LcmL (xs++[y]) (B*y.2/(Int.gcd B y.2:Int)):=by
 have k:=qos (d:=B*y.2) h.pos hy ⟨_,rfl⟩ ⟨B,Int.mul_comm _ _⟩
 refine ⟨k.1,fun x hx=>?_,fun d hd=>(qos h.pos hy (h.un d fun x hx=>hd x (List.mem_append.mpr (.inl hx))) (hd y (by simp))).2.1⟩
 rcases List.mem_append.mp hx with q|q
 ·exact Int.dvd_trans (h.dv x q) k.2.2.1
 ·rw [List.mem_singleton.mp q];exact k.2.2.2
theorem LcmL.b {V:List (List (Int×Int))}{B:Int} (h:LcmL V.flatten B):LcmB V B :=
 ⟨h.pos,fun r hr x hx=>h.dv x (List.mem_flatten.mpr ⟨r,hr,hx⟩),fun d hd=>h.un d fun x hx=>by
  obtain ⟨r,hr,hx⟩:=List.mem_flatten.mp hx
  exact hd r hr x hx⟩
theorem zaku {V:List (List (Int×Int))}{i:Nat}{r:List (Int×Int)} (h:V[i]?=some r):(V.take (i+1)).flatten=(V.take i).flatten++r:=by
 rw [List.take_add_one,h];simp
theorem zakn {α:Type}{zs:List α}{i:Nat}{z:α} (h:zs[i]?=some z):zs.take (i+1)=zs.take i++[z]:=by
 rw [List.take_add_one,h];rfl
def zagw (b:Int) (R:List (List Int)) (m:Nat) (c:Int) (S:List (List Int)) (n:Nat) (q:PyData→Prop):Prop :=
 (∀ B D,Dls b R m c S n B D→q (.tuple [.str "dulls",qat B D])) ∧ ∀ W,Dcs b R m c S n W→q (.tuple [.str "decision",.tuple (W.map qdy)])
def qnj (ds:List PyData) (q:List PyData→Prop):Prop := ∃ (r:List Int) (j n:Nat),ds=[qdy r,.int j,.int n]∧(r.length≤12∧1≤n∧n≤12)∧q ((qci r j n).map .int)
theorem qwn:FnScope ["row","new","many"] ["row","new","many"] (defScope qil):=⟨rfl,rfl,rfl,by decide +kernel,rfl,by decide +kernel,by decide +kernel⟩
theorem qvl (F:Def K mg "seen_as" qil ["row","new","many"]) (T:Txt K mg cs)
 : Ok P w K mg base "seen_as" 1 ["row","new","many"] (FSp K qnj):=by
  refine F.vokF qwn (by rintro ds q ⟨_,_,_,h,_⟩;rw [h];rfl) fun f cdv A outer s H E hr ds q h=>?_
  obtain ⟨r,j,n,rfl,⟨hl,n1,n2⟩,h⟩:=h
  refine ⟨_,(qh (qhc (qR (caps:=["row","new","many"]) (own:=["place"]) (ix:=[0,1,2]) rfl ⟨rfl,rfl,rfl,rfl,rfl,rfl⟩ (qE T.range_ (qw qaw (qr qag T.len_ L2.boot_len (qc (qb 0) qf)) (qb 2))) (fun _ _ _ _=>(qm (i:=3) (show List.Nodup (["row","new","many","place"]:List Str) by decide))) (fun _ _ _ _=>(qgb (qA (qms hr.units) (qw qij (qb 3) (qb 2)) (qb 1)) (qq (qb 0) (qw qhz (qb 3) (qb 2))) qe))))),?_⟩
  have lr:(((r.map PyData.int).length:Nat):Int)=r.length:=by rw [List.length_map]
  have mn:r.length*n≤12*12:=Nat.mul_le_mul hl n2
  have e0:((r.length:Nat):Int)*((n:Nat):Int)=((r.length*n:Nat):Int):=by rw [Int.natCast_mul]
  refine ⟨IntMulOk.of_right (qax (by omega) (by omega)),?_⟩
  show _∧_
  rw [lr,e0]
  refine ⟨⟨by omega,by omega⟩,qbc ((qci r j n).map .int) (by rw [qs,Int.toNat_natCast];simp [qci]) (qo (by simp [qci];omega)) (fun e => ∃ s,e=[.val (qdy r),.val (.int j),.val (.int n),s]) ⟨_,rfl⟩ ?_ ⟨_,rfl,h⟩⟩
  rintro i x ys e hx hys ⟨s,rfl⟩
  obtain ⟨hi,rfl⟩:=qP hx
  rw [Int.zero_add]
  have hi':i<r.length*n:=by omega
  have e1:((i:Nat):Int)%((n:Nat):Int)=((i%n:Nat):Int):=by rw [Int.natCast_emod]
  have e2:((i:Nat):Int)/((n:Nat):Int)=((i/n:Nat):Int):=by rw [Int.natCast_ediv]
  have hd:i/n<r.length:=Nat.div_lt_of_lt_mul (by rw [Nat.mul_comm];exact hi')
  have g:((qci r j n).map PyData.int)[i]?=some (.int (if i%n=j then (r[i/n]?).getD 0 else 0)):=by
   unfold qci
   rw [List.getElem?_map,List.getElem?_map,List.getElem?_range hi'];rfl
  have er:r[i/n]?=some ((r[i/n]?).getD 0):=by rw [List.getElem?_eq_getElem hd];rfl
  refine ⟨by omega,rfl,rfl,qhi (fun z=>?_) (fun z=>?_)⟩
  ·rw [e1] at z
   refine ⟨⟨by omega,qB (qax (by omega) (by omega)) (by decide)⟩,?_⟩
   rw [e2]
   refine ⟨.int ((r[i/n]?).getD 0),qM (by rw [List.getElem?_map,er];rfl),qt (g.trans ?_) hys,_,rfl⟩
   rw [if_pos (by omega)]
  ·rw [e1] at z
   refine ⟨qt (g.trans ?_) hys,_,rfl⟩
   rw [if_neg (by omega)]
def qgn (ds:List PyData) (q:List PyData→Prop):Prop := ∃ (b:Int) (r:List Int) (R:List (List Int)) (i n:Nat),ds=[qat b (r::R),.int i,.int n]∧(r.length≤12∧1≤n∧n≤12)∧q ((qlb b i r.length n).map .int)
theorem qmi:FnScope ["one","old","many"] ["one","old","many"] (defScope qcu):=⟨rfl,rfl,rfl,by decide +kernel,rfl,by decide +kernel,by decide +kernel⟩
theorem qma (F:Def K mg "shown_in_all" qcu ["one","old","many"]) (T:Txt K mg cs)
 (O_signs:Ok P w K mg base "signs" 1 ["glass"] (PSp K qfk))
 : Ok P w K mg base "shown_in_all" 2 ["one","old","many"] (FSp K qgn):=by
  refine F.vokF qmi (by rintro ds q ⟨_,_,_,_,_,h,_⟩;rw [h];rfl) fun f cdv A outer s H E hr ds q h=>?_
  obtain ⟨b,r,R,i,n,rfl,⟨hl,n1,n2⟩,h⟩:=h
  refine ⟨_,(qh (qhc (qR (caps:=["one","old","many"]) (own:=["place"]) (ix:=[0,1,2]) rfl ⟨rfl,rfl,rfl,rfl,rfl,rfl⟩ (qE T.range_ (qw qaw (qx O_signs (hr.mono (by decide)) (qc (qb 0) qf)) (qb 2))) (fun _ _ _ _=>(qm (i:=3) (show List.Nodup (["one","old","many","place"]:List Str) by decide))) (fun _ _ _ _=>(qgb (qA (qms hr.units) (qw qhz (qb 3) (qb 2)) (qb 1)) (qq (qb 0) qe) qe))))),?_⟩
  have mn:r.length*n≤12*12:=Nat.mul_le_mul hl n2
  have e0:((r.length:Nat):Int)*((n:Nat):Int)=((r.length*n:Nat):Int):=by rw [Int.natCast_mul]
  refine ⟨b,r,R,rfl,IntMulOk.of_right (qax (by omega) (by omega)),?_⟩
  show _∧_
  rw [e0]
  refine ⟨⟨by omega,by omega⟩,qbc ((qlb b i r.length n).map .int) (by rw [qs,Int.toNat_natCast];simp [qlb]) (qo (by simp [qlb];omega)) (fun e => ∃ s,e=[.val (qat b (r::R)),.val (.int i),.val (.int n),s]) ⟨_,rfl⟩ ?_ ⟨_,rfl,h⟩⟩
  rintro k x ys e hx hys ⟨s,rfl⟩
  obtain ⟨hk,rfl⟩:=qP hx
  rw [Int.zero_add]
  have hk':k<r.length*n:=by omega
  have e2:((k:Nat):Int)/((n:Nat):Int)=((k/n:Nat):Int):=by rw [Int.natCast_ediv]
  have g:((qlb b i r.length n).map PyData.int)[k]?=some (.int (if k/n=i then b else 0)):=by
   unfold qlb
   rw [List.getElem?_map,List.getElem?_map,List.getElem?_range hk'];rfl
  refine ⟨⟨by omega,qB (qax (by omega) (by omega)) (by decide)⟩,rfl,rfl,qhi (fun z=>?_) (fun z=>?_)⟩
  ·rw [e2] at z
   refine ⟨_,rfl,qt (g.trans ?_) hys,_,rfl⟩
   rw [if_pos (by omega)]
  ·rw [e2] at z
   refine ⟨qt (g.trans ?_) hys,_,rfl⟩
   rw [if_neg (by omega)]
theorem qcm {R:List (List Int)}{i:Nat}{x:PyData}{f:List Int→PyData} (h:(R.map f)[i]?=some x) : ∃ r,R[i]?=some r∧x=f r:=by
 rw [List.getElem?_map] at h
 cases hr:R[i]? with
 | none=>rw [hr] at h;cases h
 | some r=>rw [hr] at h;exact ⟨r,rfl,(Option.some.inj h).symm⟩
def qjy (ds:List PyData) (q:List PyData→Prop):Prop := ∃ (b:Int) (R:List (List Int)) (m:Nat) (c:Int) (S:List (List Int)) (n:Nat),ds=[qat b R,qat c S]∧CmpPre b R m c S n∧q ((eqL b R m n).map qak)
theorem qed:FnScope ["one","other","many","rows","row"] ["one","other"] (defScope qfp):=⟨rfl,rfl,rfl,by decide +kernel,rfl,by decide +kernel,by decide +kernel⟩
theorem qrn (F:Def K mg "equations" qfp ["one","other"]) (T:Txt K mg cs)
 (O_signs:Ok P w K mg base "signs" 1 ["glass"] (PSp K qfk))
 (O_seen_as:Ok P w K mg base "seen_as" 1 ["row","new","many"] (FSp K qnj))
 (O_shown_in_all:Ok P w K mg base "shown_in_all" 2 ["one","old","many"] (FSp K qgn))
 : Ok P w K mg base "equations" 3 ["one","other"] (FSp K qjy):=by
  refine F.vokF qed (by rintro ds q ⟨_,_,_,_,_,_,h,_⟩;rw [h];rfl) fun f cdv A outer s H E hr ds q h=>?_
  obtain ⟨b,R,m,c,S,n,rfl,hp,h⟩:=h
  refine ⟨_,(qg (qC (i:=2) qed.nd (qx O_signs (hr.mono (by decide)) (qc (qb 1) qf)))
   (qg (qdc (i:=3) qed.nd (qcd qf))
   (qg (qai rfl (qQ (qq (qb 0) qe)) (qm (i:=4) qed.nd) (qh (qrd 3 (qR (caps:=["many","row"]) (own:=["sign"]) (ix:=[2,4]) rfl ⟨rfl,rfl,rfl,rfl,rfl,rfl⟩ (qE T.range_ (qb 2)) (fun _ _ _ _=>(qm (i:=2) (show List.Nodup (["many","row","sign"]:List Str) by decide))) (fun _ _ _ _=>(qT (qnk O_seen_as (hr.mono (by decide)) (qc (qb 1) (qc (qb 2) (qc (qb 0) qf))))))))))
   (qg (qrd 3 (qR (caps:=["one","many"]) (own:=["sign"]) (ix:=[0,2]) rfl ⟨rfl,rfl,rfl,rfl,rfl,rfl⟩ (qE T.range_ (qx O_signs (hr.mono (by decide)) (qc (qb 0) qf))) (fun _ _ _ _=>(qm (i:=2) (show List.Nodup (["one","many","sign"]:List Str) by decide))) (fun _ _ _ _=>(qT (qnk O_shown_in_all (hr.mono (by decide)) (qc (qb 0) (qc (qb 2) (qc (qb 1) qf))))))))
   (qh (qry 3)))))),?_⟩
  have w1:=hp.w1
  have w2:=hp.w2
  have m1:=hp.m1
  have m2:=hp.m2
  have n1:=hp.n1
  have n2:=hp.n2
  have hl:=hp.l
  obtain ⟨r0,R0,eR⟩:=List.exists_cons_of_ne_nil (show R≠[] from fun z=>by rw [z] at w1;simp at w1)
  obtain ⟨s0,S0,eS⟩:=List.exists_cons_of_ne_nil (show S≠[] from fun z=>by rw [z] at hl;rw [hl] at w1;simp at w1)
  have l1:r0.length=m:=hp.r.len r0 (by rw [eR];simp)
  have l2:s0.length=n:=hp.s.len s0 (by rw [eS];simp)
  have fl : ∀ i,i≤R.length→(((R.take i).map fun r=>(List.range n).map fun j=>qci r j n).flatten).length=i*n:=fun i hi=>by
   rw [qay (qcs _ n),List.length_map,List.length_take,Nat.min_eq_left hi]
  refine ⟨c,s0,S0,by rw [eS],szl,_,rfl,fun i e => ∃ t4,e=[.val (qat b R),.val (qat c S),.val (.int n),.own ((((R.take i).map fun r=>(List.range n).map fun j=>qci r j n).flatten).map qak),t4],⟨_,by rw [l2];rfl⟩,?_,?_⟩
  ·rintro i x e hx ⟨t4,rfl⟩
   obtain ⟨r,hr,rfl⟩:=qcm hx
   have hi:i<R.length:=(List.getElem?_eq_some_iff.mp hr).1
   have lr:=hp.r.len r (List.mem_of_getElem? hr)
   refine ⟨rfl,⟨by omega,by omega⟩,?_⟩
   refine ⟨qo (by rw [qs];omega),fun k ys e=>ys=(((List.range n).map fun j=>qci r j n).map qak).take k ∧ ∃ u,e=[.val (.int n),.val (qdy r),u],⟨by simp,_,rfl⟩,?_,?_⟩
   ·rintro j y ys e hy ⟨hys,s,rfl⟩
    obtain ⟨hj,rfl⟩:=qP hy
    rw [Int.zero_add]
    have hj':j<n:=by omega
    refine ⟨r,j,n,rfl,⟨by omega,by omega,by omega⟩,qt ?_ hys,_,rfl⟩
    rw [List.getElem?_map,List.getElem?_map,List.getElem?_range hj'];rfl
   ·rintro ys e ⟨hys,u,rfl⟩
    rw [qs,Int.toNat_natCast,List.take_of_length_le (by simp)] at hys
    subst hys
    have hf:=fl i (by omega)
    have hin:i*n≤4*4:=Nat.mul_le_mul (by omega) n2
    refine ⟨rfl,qeb ?_,.val (qdy r),?_⟩
    ·show (((((R.take i).map fun r=>(List.range n).map fun j=>qci r j n).flatten).map qak)).length+(((List.range n).map fun j=>qci r j n).map qak).length≤1000
     rw [List.length_map,List.length_map,List.length_map,List.length_range,hf];omega
    ·rw [List.take_add_one,hr]
     show _=[_,_,_,Sl.own _,_]
     simp
     rfl
  rintro e ⟨t4,rfl⟩
  rw [List.length_map,List.take_length]
  have hf:=fl R.length (Nat.le_refl _)
  rw [List.take_length] at hf
  have hin:R.length*n≤4*4:=Nat.mul_le_mul w2 n2
  refine ⟨rfl,b,r0,R0,by rw [eR],⟨by omega,by omega⟩,?_⟩
  refine ⟨qo (by rw [qs];omega),fun k ys e=>ys=(((List.range m).map fun i=>qlb b i m n).map qak).take k ∧ ∃ u,e=[.val (qat b R),.val (.int n),u],⟨by simp,_,rfl⟩,?_,?_⟩
  ·rintro j y ys e hy ⟨hys,s,rfl⟩
   obtain ⟨hj,rfl⟩:=qP hy
   rw [Int.zero_add]
   have hj':j<m:=by omega
   refine ⟨b,r0,R0,j,n,by rw [eR],⟨by omega,by omega,by omega⟩,qt ?_ hys,_,rfl⟩
   rw [List.getElem?_map,List.getElem?_map,List.getElem?_range hj',l1];rfl
  ·rintro ys e ⟨hys,u,rfl⟩
   rw [qs,Int.toNat_natCast,l1,List.take_of_length_le (by simp)] at hys
   subst hys
   refine ⟨rfl,qeb ?_,?_⟩
   ·show (((R.map fun r=>(List.range n).map fun j=>qci r j n).flatten).map qak).length+(((List.range m).map fun i=>qlb b i m n).map qak).length≤1000
    rw [List.length_map,List.length_map,List.length_map,List.length_range,hf];omega
   ·rw [eqL,List.map_append] at h
    exact ⟨_,rfl,h⟩
def qhl (ds:List PyData) (q:List PyData→Prop):Prop := ∃ (b:Int) (R:List (List Int)) (m:Nat) (c:Int) (S:List (List Int)) (n:Nat),ds=[qat b R,qat c S]∧CmpPre b R m c S n∧q ((qfl S c m).map .int)
theorem qev:FnScope ["one","other","sums","row"] ["one","other"] (defScope qdj):=⟨rfl,rfl,rfl,by decide +kernel,rfl,by decide +kernel,by decide +kernel⟩
theorem qmz (F:Def K mg "wanted_sums" qdj ["one","other"]) (T:Txt K mg cs)
 (O_signs:Ok P w K mg base "signs" 1 ["glass"] (PSp K qfk))
 : Ok P w K mg base "wanted_sums" 2 ["one","other"] (FSp K qhl):=by
  refine F.vokF qev (by rintro ds q ⟨_,_,_,_,_,_,h,_⟩;rw [h];rfl) fun f cdv A outer s H E hr ds q h=>?_
  obtain ⟨b,R,m,c,S,n,rfl,hp,h⟩:=h
  refine ⟨_,(qg (qdc (i:=2) qev.nd (qcd qf))
   (qg (qai rfl (qQ (qq (qb 1) qe)) (qm (i:=3) qev.nd) (qh (qvo 2 (qb 3))))
   (qgd 2 (qh (qhc (qpy (qb 2) (qT (qR (caps:=["other"]) (own:=["sign"]) (ix:=[1]) rfl ⟨rfl,rfl,rfl,rfl,rfl,rfl⟩ (qE T.range_ (qx O_signs (hr.mono (by decide)) (qc (qb 0) qf))) (fun _ _ _ _=>(qm (i:=1) (show List.Nodup (["other","sign"]:List Str) by decide))) (fun _ _ _ _=>(qq (qb 0) qe)))))))))),?_⟩
  have w1:=hp.w1
  have w2:=hp.w2
  have m2:=hp.m2
  have n2:=hp.n2
  have hl:=hp.l
  obtain ⟨r0,R0,eR⟩:=List.exists_cons_of_ne_nil (show R≠[] from fun z=>by rw [z] at w1;simp at w1)
  have l1:r0.length=m:=hp.r.len r0 (by rw [eR];simp)
  have fl : ∀ i,i≤S.length→((S.take i).flatten).length=i*n:=fun i hi=>by
   rw [qay (fun l hl=>hp.s.len l (List.mem_of_mem_take hl)),List.length_take,Nat.min_eq_left hi]
  refine ⟨szl,_,rfl,fun i e => ∃ t3,e=[.val (qat b R),.val (qat c S),.own (((S.take i).flatten).map .int),t3],⟨_,rfl⟩,?_,?_⟩
  ·rintro i x e hx ⟨t3,rfl⟩
   obtain ⟨r,hr,rfl⟩:=qcm hx
   have hi:i<S.length:=(List.getElem?_eq_some_iff.mp hr).1
   have lr:=hp.s.len r (List.mem_of_getElem? hr)
   have hf:=fl i (by omega)
   have hin:i*n≤4*4:=Nat.mul_le_mul (by omega) n2
   refine ⟨rfl,rfl,qeb ?_,.val (qdy r),?_⟩
   ·show (((S.take i).flatten).map PyData.int).length+(r.map PyData.int).length≤1000
    rw [List.length_map,List.length_map,hf];omega
   ·rw [List.take_add_one,hr]
    show _=[_,_,Sl.own _,_]
    simp
    rfl
  rintro e ⟨t3,rfl⟩
  rw [List.length_map,List.take_length]
  have hf:=fl S.length (Nat.le_refl _)
  rw [List.take_length] at hf
  have hin:S.length*n≤4*4:=Nat.mul_le_mul (by omega) n2
  refine ⟨b,r0,R0,by rw [eR],⟨by omega,by omega⟩,?_⟩
  show _∧_
  refine qbc (((List.range m).map fun _=>c).map .int) (by simp [qs,l1]) (qo (by simp;omega)) (fun e => ∃ s,e=[.val (qat c S),s]) ⟨_,rfl⟩ ?_ ?_
  ·rintro j y ys e hy hys ⟨s,rfl⟩
   obtain ⟨hj,rfl⟩:=qP hy
   have hj':j<m:=by omega
   refine ⟨_,rfl,qt ?_ hys,_,rfl⟩
   rw [List.getElem?_map,List.getElem?_map,List.getElem?_range hj'];rfl
  ·refine ⟨qeb ?_,?_⟩
   ·rw [List.length_map,List.length_map,List.length_map,List.length_range,hf];omega
   ·rw [qfl,List.map_append] at h
    exact ⟨_,rfl,h⟩
def qly (ds:List PyData) (k:PyData→Prop):Prop := ∃ p q,ds=[dSh p q]∧Shr p q∧k (.bool true)
theorem qtp:FnScope ["thing"] ["thing"] (defScope qgs):=⟨rfl,rfl,rfl,by decide +kernel,rfl,by decide +kernel,by decide +kernel⟩
theorem qts (F:Def K mg "is_share" qgs ["thing"]) (T:Txt K mg cs)
 (O_divisor:Ok P w K mg base "divisor" 1 ["one","other"] (PSp K qdn))
 (O_is_whole:Ok P w K mg base "is_whole" 1 ["thing"] (PSp K qfn))
 : Ok P w K mg base "is_share" 2 ["thing"] (PSp K qly):=by
  refine F.vok qtp (by rintro ds q ⟨_,_,h,_⟩;rw [h];rfl) fun f cdv A outer s H E hr ds k h=>?_
  obtain ⟨p,q,rfl,hp,h⟩:=h
  refine ⟨_,(qg (qam (VW.pt (qbs (qah (qY (qec T.isinstance_ T.tuple_ L2.boot_tuple (qb 0)))) (qbi (qA (qlc hr.units) (qr qag T.len_ L2.boot_len (qc (qb 0) qf)) qe)))) (qh (qv qfz)) qI)
   (qg (qam (VW.pt (qbs (qah (qY (qx O_is_whole (hr.mono (by decide)) (qc (qq (qb 0) qe) qf)))) (qbi (qah (qY (qx O_is_whole (hr.mono (by decide)) (qc (qq (qb 0) qe) qf))))))) (qh (qv qfz)) qI)
   (qh (qv (qpj (qhj o_ge (qq (qb 0) qe) qe) (qkb (qhj (qms hr.units) (qx O_divisor (hr.mono (by decide)) (qc (qq (qb 0) qe) (qc (qq (qb 0) qe) qf))) qe))))))),?_⟩
  have hq:=hp.pos
  refine ⟨rfl,rfl,_,rfl,_,rfl,_,rfl,?_⟩
  refine qix (fun _=>⟨_,rfl,_,rfl,rfl,rfl,?_⟩) (fun z=>(z hq).elim)
  rw [hp.gcd]
  exact h
def qgw (ds:List PyData) (k:PyData→Prop):Prop := ∃ p q r s,ds=[dSh p q,dSh r s]∧(Shr p q∧Shr r s)∧k .none
theorem qmj:FnScope ["one","other"] ["one","other"] (defScope qcx):=⟨rfl,rfl,rfl,by decide +kernel,rfl,by decide +kernel,by decide +kernel⟩
theorem qmh (F:Def K mg "check_shares" qcx ["one","other"]) (T:Txt K mg cs)
 (O_is_share:Ok P w K mg base "is_share" 2 ["thing"] (PSp K qly))
 : Ok P w K mg base "check_shares" 3 ["one","other"] (PSp K qgw):=by
  refine F.vok qmj (by rintro ds q ⟨_,_,_,_,h,_⟩;rw [h];rfl) fun f cdv A outer s H E hr ds k h=>?_
  obtain ⟨p,q,r,s,rfl,⟨hp,hr'⟩,h⟩:=h
  refine ⟨_,(qh (qam (VW.pt (qbs (qah (qY (qx O_is_share (hr.mono (by decide)) (qc (qb 0) qf)))) (qbi (qah (qY (qx O_is_share (hr.mono (by decide)) (qc (qb 1) qf))))))) qey qI)),?_⟩
  exact ⟨p,q,rfl,hp,r,s,rfl,hr',h⟩
def qvc (ds:List PyData) (k:PyData→Prop):Prop := ∃ p q r s,ds=[dSh p q,dSh r s]∧(ShW p q∧ShW r s)∧k (dSh (shT (p*r) (q*s)) (shB (p*r) (q*s)))
theorem zabu:FnScope ["one","other"] ["one","other"] (defScope qoe):=⟨rfl,rfl,rfl,by decide +kernel,rfl,by decide +kernel,by decide +kernel⟩
theorem zabr (F:Def K mg "times" qoe ["one","other"]) (T:Txt K mg cs)
 (O_reduced:Ok P w K mg base "reduced" 2 ["top","bottom"] (PSp K qgi))
 (O_check_shares:Ok P w K mg base "check_shares" 3 ["one","other"] (PSp K qgw))
 : Ok P w K mg base "times" 4 ["one","other"] (PSp K qvc):=by
  refine F.vok zabu (by rintro ds q ⟨_,_,_,_,h,_⟩;rw [h];rfl) fun f cdv A outer s H E hr ds k h=>?_
  obtain ⟨p,q,r,s,rfl,⟨hp,hr'⟩,h⟩:=h
  refine ⟨_,(qg (qgz (qx O_check_shares (hr.mono (by decide)) (qc (qb 0) (qc (qb 1) qf))))
   (qh (qv (qx O_reduced (hr.mono (by decide)) (qc (qw qaw (qq (qb 0) qe) (qq (qb 1) qe)) (qc (qw qaw (qq (qb 0) qe) (qq (qb 1) qe)) qf)))))),?_⟩
  exact ⟨p,q,r,s,rfl,⟨hp.s,hr'.s⟩,_,rfl,_,rfl,qob hp.b1 hr'.b1,_,rfl,_,rfl,qob hp.b2 hr'.b2,hp.bot hr',h⟩
def qho (ds:List PyData) (q:PyData→Prop):Prop := ∃ (d:PyData) (r:List (Int×Int)) (B:Int),ds=[d,.int B]∧(qlu d=some (r.map dS)∧r.length≤900∧(∀ x ∈ r,Shr x.1 x.2∧intBits x.1≤4000∧x.2∣B)∧0<B∧intBits B≤4000)∧q (qdy (qbt B r))
theorem qmu:FnScope ["row","bottom"] ["row","bottom"] (defScope qdo):=⟨rfl,rfl,rfl,by decide +kernel,rfl,by decide +kernel,by decide +kernel⟩
theorem qmw (F:Def K mg "over_bottom" qdo ["row","bottom"]) (T:Txt K mg cs)
 : Ok P w K mg base "over_bottom" 1 ["row","bottom"] (PSp K qho):=by
  refine F.vok qmu (by rintro ds q ⟨_,_,_,h,_⟩;rw [h];rfl) fun f cdv A outer s H E hr ds q h=>?_
  obtain ⟨d,r,B,rfl,⟨e,hl,hx,B0,zB⟩,h⟩:=h
  refine ⟨_,(qh (qv (qff qjf T.tuple_ L2.boot_tuple (qc (qT (qR (caps:=["bottom"]) (own:=["part"]) (ix:=[1]) rfl ⟨rfl,rfl,rfl,rfl,rfl,rfl⟩ (qQ (qb 0)) (fun _ _ _ _=>(qm (i:=1) (show List.Nodup (["bottom","part"]:List Str) by decide))) (fun _ _ _ _=>(qw qaw (qq (qb 1) qe) (qw qhz (qb 0) (qq (qb 1) qe)))))) qf)))),?_⟩
  refine qhw e (qbc ((qbt B r).map .int) (by simp [qbt]) (qo (by simp [qbt];omega)) (fun e => ∃ s,e=[.val (.int B),s]) ⟨_,rfl⟩ ?_ h)
  rintro i x ys e hx' hys ⟨s,rfl⟩
  obtain ⟨y,hy,rfl⟩:=shG hx'
  obtain ⟨s1,s2,s3⟩:=hx y (List.mem_of_getElem? hy)
  have q0:=s1.pos
  refine ⟨.int y.1,rfl,.int y.2,rfl,⟨by omega,qB (dvdB s3 B0 zB) (by decide)⟩,qob s2 (dvdB (x:=B/y.2) ⟨y.2,(Int.ediv_mul_cancel s3).symm⟩ B0 zB),qt ?_ hys,_,rfl⟩
  unfold qbt
  rw [List.getElem?_map,List.getElem?_map,hy];rfl
def qer (ds:List PyData) (q:PyData→Prop):Prop := ∃ (d:PyData) (V:List (List (Int×Int))) (D0:Int),ds=[d]∧(zalu d V∧V.length≤900∧(∀ r ∈ V,r.length≤900 ∧ ∀ x ∈ r,Shr x.1 x.2∧intBits x.1≤4000∧x.2∣D0)∧0<D0∧intBits D0≤4000) ∧ ∀ B,LcmB V B→q (qat B (V.map (qbt B)))
theorem qaf:FnScope ["rows","bottom","row","part"] ["rows"] (defScope qbl):=⟨rfl,rfl,rfl,by decide +kernel,rfl,by decide +kernel,by decide +kernel⟩
theorem qjk (F:Def K mg "table_of_shares" qbl ["rows"]) (T:Txt K mg cs)
 (O_divisor:Ok P w K mg base "divisor" 1 ["one","other"] (PSp K qdn))
 (O_over_bottom:Ok P w K mg base "over_bottom" 1 ["row","bottom"] (PSp K qho))
 : Ok P w K mg base "table_of_shares" 2 ["rows"] (PSp K qer):=by
  refine F.vok qaf (by rintro ds q ⟨_,_,_,h,_⟩;rw [h];rfl) fun f cdv A outer s H E hr ds q h=>?_
  obtain ⟨d,V,D0,rfl,⟨⟨l,e,el,hV⟩,hl,hx,d0,zd⟩,h⟩:=h
  refine ⟨_,(qg (qC (i:=1) qaf.nd qe)
   (qg (qai rfl (qQ (qb 0)) (qm (i:=2) qaf.nd) (qh (qai rfl (qQ (qb 2)) (qm (i:=3) qaf.nd) (qh (qC (i:=1) qaf.nd (qw qhz (qw qaw (qb 1) (qq (qb 3) qe)) (qx O_divisor (hr.mono (by decide)) (qc (qb 1) (qc (qq (qb 3) qe) qf)))))))))
   (qh (qv (qfe (qc (qb 1) (qc (qff qjf T.tuple_ L2.boot_tuple (qc (qT (qR (caps:=["bottom"]) (own:=["row"]) (ix:=[1]) rfl ⟨rfl,rfl,rfl,rfl,rfl,rfl⟩ (qQ (qb 0)) (fun _ _ _ _=>(qm (i:=1) (show List.Nodup (["bottom","row"]:List Str) by decide))) (fun _ _ _ _=>(qx O_over_bottom (hr.mono (by decide)) (qc (qb 1) (qc (qb 0) qf)))))) qf)) qf))))))),?_⟩
  refine qhw e ⟨fun i e => ∃ t1 t2 B,e=[.val d,.val (.int B),t1,t2]∧LcmL (V.take i).flatten B∧B∣D0,⟨_,_,_,rfl,by simpa using LcmL.nil,⟨D0,by omega⟩⟩,?_,?_⟩
  ·rintro i x e' hxi ⟨t1,t2,B,rfl,hB,Bd⟩
   obtain ⟨r,hr,er⟩:=hV i x hxi
   refine qhw er ⟨fun j e => ∃ t2 B,e=[.val d,.val (.int B),.val x,t2]∧LcmL ((V.take i).flatten++r.take j) B∧B∣D0,⟨_,_,rfl,by simpa using hB,Bd⟩,?_,?_⟩
   ·rintro j y e hy ⟨t2,B,rfl,hB,Bd⟩
    obtain ⟨z,hz,rfl⟩:=shG hy
    obtain ⟨s1,s2,s3⟩:=(hx r (List.mem_of_getElem? hr)).2 z (List.mem_of_getElem? hz)
    have q0:=s1.pos
    have B0:=hB.pos
    have gp:(0:Int)<(Int.gcd B z.2:Nat):=by have:=Int.gcd_pos_of_ne_zero_right B (show z.2≠0 by omega);omega
    refine ⟨.int z.2,rfl,qob (dvdB Bd d0 zd) (dvdB s3 d0 zd),.int z.2,rfl,⟨gp,qB (dvdB (Int.dvd_trans (Int.gcd_dvd_left ..) Bd) d0 zd) (by decide)⟩,_,_,rfl,?_,(qos B0 (show 0<z.2 by omega) Bd s3).2.1⟩
    rw [zakn hz,← List.append_assoc]
    exact hB.snoc (by omega)
   ·rintro e ⟨t2,B,rfl,hB,Bd⟩
    refine ⟨_,_,_,rfl,?_,Bd⟩
    rw [List.length_map,List.take_length] at hB
    rw [zaku hr];exact hB
  rintro e' ⟨t1,t2,B,rfl,hB,Bd⟩
  rw [el,List.take_length] at hB
  have hB':=hB.b
  have B0:=hB.pos
  have zB:=dvdB Bd d0 zd
  refine qhw e (qbc ((V.map (qbt B)).map qdy) (by simp [el]) (qo (by simp;omega)) (fun e => ∃ s,e=[.val (.int B),s]) ⟨_,rfl⟩ ?_ ⟨szl,h B hB'⟩)
  rintro i x ys e' hxi hys ⟨s,rfl⟩
  obtain ⟨r,hr,er⟩:=hV i x hxi
  obtain ⟨rl,rx⟩:=hx r (List.mem_of_getElem? hr)
  refine ⟨x,r,B,rfl,⟨er,rl,fun y hy=>⟨(rx y hy).1,(rx y hy).2.1,hB'.dv r (List.mem_of_getElem? hr) y hy⟩,B0,zB⟩,qt ?_ hys,_,rfl⟩
  rw [List.getElem?_map,List.getElem?_map,hr];rfl
def qjn (ds:List PyData) (q:PyData→Prop):Prop := ∃ (l:List PyData) (n w:Nat),ds=[.list l,.int n,.int w]∧(n≤100∧w≤100)∧q (.list ((qF l n w).map .tuple))
theorem qwl:FnScope ["flat","wide","many"] ["flat","wide","many"] (defScope qik):=⟨rfl,rfl,rfl,by decide +kernel,rfl,by decide +kernel,by decide +kernel⟩
theorem qvk (F:Def K mg "in_rows" qik ["flat","wide","many"]) (T:Txt K mg cs)
 : Ok P w K mg base "in_rows" 1 ["flat","wide","many"] (PSp K qjn):=by
  refine F.vok qwl (by rintro ds q ⟨_,_,_,h,_⟩;rw [h];rfl) fun f cdv A outer s H E hr ds q h=>?_
  obtain ⟨l,n,w,rfl,⟨hn,hw⟩,h⟩:=h
  refine ⟨_,(qh (qv (qT (qR (caps:=["flat","wide"]) (own:=["k"]) (ix:=[0,1]) rfl ⟨rfl,rfl,rfl,rfl,rfl,rfl⟩ (qE T.range_ (qb 2)) (fun _ _ _ _=>(qm (i:=2) (show List.Nodup (["flat","wide","k"]:List Str) by decide))) (fun _ _ _ _=>(qff qjf T.tuple_ L2.boot_tuple (qc (qT (qol (qb 0) (qld (qw qaw (qb 2) (qb 1))) (qld (qw qaw (qw qdu (qb 2) qe) (qb 1))))) qf))))))),?_⟩
  refine ⟨⟨by omega,by omega⟩,qbc ((qF l n w).map .tuple) (by simp [qF,qs]) (qo (by simp [qF];omega)) (fun e => ∃ s,e=[.val (.list l),.val (.int n),s]) ⟨_,rfl⟩ ?_ h⟩
  rintro i x ys e hx hys ⟨s,rfl⟩
  obtain ⟨hi,rfl⟩:=qP hx
  rw [Int.zero_add]
  have hi':i<w:=by omega
  have e1:((i:Nat):Int)*((n:Nat):Int)=((i*n:Nat):Int):=by rw [Int.natCast_mul]
  have e2:(((i:Nat):Int)+1)*((n:Nat):Int)=((i*n+n:Nat):Int):=by rw [Int.add_mul,e1];omega
  refine ⟨IntMulOk.of_right (qax (by omega) (by omega)),IntMulOk.of_right (qax (by omega) (by omega)),?_⟩
  rintro z rfl
  refine ⟨qt ?_ hys,_,rfl⟩
  rw [List.getElem?_map,qdi hi',e1,e2,zagy _ (by omega) (by omega)]
  show some (PyData.tuple _)=some (PyData.tuple _)
  congr 3
  omega
def qiv (ds:List PyData) (q:PyData→Prop):Prop := ∃ (b:Int) (R:List (List Int)) (m:Nat) (c:Int) (S:List (List Int)) (n:Nat) (vs:List (Int×Int)),ds=[qat b R,qat c S,.list (vs.map dS)]∧(CmpPre b R m c S n∧FitV (m*n) (eqL b R m n) (qfl S c m) vs) ∧ ∀ B D,Dls b R m c S n B D→q (qat B D)
theorem qfu:FnScope ["one","other","values","back","shares"] ["one","other","values"] (defScope qeo):=⟨rfl,rfl,rfl,by decide +kernel,rfl,by decide +kernel,by decide +kernel⟩
theorem qpw (F:Def K mg "dulling_by" qeo ["one","other","values"]) (T:Txt K mg cs)
 (O_signs:Ok P w K mg base "signs" 1 ["glass"] (PSp K qfk))
 (O_share:Ok P w K mg base "share" 3 ["top","bottom"] (PSp K qkw))
 (O_times:Ok P w K mg base "times" 4 ["one","other"] (PSp K qvc))
 (O_table_of_shares:Ok P w K mg base "table_of_shares" 2 ["rows"] (PSp K qer))
 (O_in_rows:Ok P w K mg base "in_rows" 1 ["flat","wide","many"] (PSp K qjn))
 : Ok P w K mg base "dulling_by" 5 ["one","other","values"] (PSp K qiv):=by
  refine F.vok qfu (by rintro ds q ⟨_,_,_,_,_,_,_,h,_⟩;rw [h];rfl) fun f cdv A outer s H E hr ds q h=>?_
  obtain ⟨b,R,m,c,S,n,vs,rfl,⟨hp,hv⟩,h⟩:=h
  refine ⟨_,(qg (qC (i:=3) qfu.nd (qx O_share (hr.mono (by decide)) (qc (qq (qb 0) qe) (qc (qq (qb 1) qe) qf))))
   (qg (qxf (caps:=["back"]) (own:=["value"]) (ix:=[3]) (i:=4) qfu.nd rfl ⟨rfl,rfl,rfl,rfl,rfl,rfl⟩ (qQ (qb 2)) (fun _ _ _ _=>(qm (i:=1) (show List.Nodup (["back","value"]:List Str) by decide))) (fun _ _ _ _=>(qx O_times (hr.mono (by decide)) (qc (qb 1) (qc (qb 0) qf)))))
   (qh (qv (qx O_table_of_shares (hr.mono (by decide)) (qc (qx O_in_rows (hr.mono (by decide)) (qc (qb 4) (qc (qx O_signs (hr.mono (by decide)) (qc (qb 1) qf)) (qc (qx O_signs (hr.mono (by decide)) (qc (qb 0) qf)) qf)))) qf)))))),?_⟩
  have w1:=hp.w1
  have m1:=hp.m1
  have m2:=hp.m2
  have n1:=hp.n1
  have n2:=hp.n2
  have hl:=hp.l
  have b1:=hp.r.pos
  have c1:=hp.s.pos
  have zb:=hp.zb
  have zc:=hp.zc
  obtain ⟨r0,R0,eR⟩:=List.exists_cons_of_ne_nil (show R≠[] from fun z=>by rw [z] at w1;simp at w1)
  obtain ⟨s0,S0,eS⟩:=List.exists_cons_of_ne_nil (show S≠[] from fun z=>by rw [z] at hl;rw [hl] at w1;simp at w1)
  have l1:r0.length=m:=hp.r.len r0 (by rw [eR];simp)
  have l2:s0.length=n:=hp.s.len s0 (by rw [eS];simp)
  obtain ⟨vl,d,d0,zd,hx,_⟩:=id hv
  have mn:m*n≤4*4:=Nat.mul_le_mul m2 n2
  have bb:intBits b≤64:=qax (by omega) (by omega)
  have cb:intBits c≤64:=qax (by omega) (by omega)
  have hbk:ShW (shT b c) (shB b c):=zaic (by omega) (qB bb (by decide)) (qB cb (by decide))
  have hvw : ∀ x ∈ vs,ShW x.1 x.2:=fun x hm=>by
   obtain ⟨q1,q2,q3,q4⟩:=hx x hm
   exact ⟨q1,qB q4 (by decide),qB (dvdB q3 d0 zd) (by decide)⟩
  refine ⟨_,rfl,_,rfl,⟨by omega,qB cb (by decide)⟩,?_⟩
  show _∧_
  refine qbc (ds:=vs.map dS) ((vs.map (qW b c)).map dS) (by simp) (qo (by rw [List.length_map,List.length_map,vl];omega)) (fun e => ∃ s,e=[.val (dSh (shT b c) (shB b c)),s]) ⟨_,rfl⟩ ?_ ?_
  ·rintro i x ys e hx' hys ⟨s,rfl⟩
   obtain ⟨y,hy,rfl⟩:=shG hx'
   refine ⟨y.1,y.2,_,_,rfl,⟨hvw y (List.mem_of_getElem? hy),hbk⟩,qt ?_ hys,_,rfl⟩
   rw [List.getElem?_map,List.getElem?_map,hy];rfl
  refine ⟨c,s0,S0,by rw [eS],b,r0,R0,by rw [eR],_,n,m,by rw [l1,l2],⟨by omega,by omega⟩,?_⟩
  have dc0:0<d*c:=Int.mul_pos d0 (by omega)
  have hrow : ∀ r ∈ qF (vs.map (qW b c)) n m,∀ y ∈ r,∃ x ∈ vs,y=qW b c x:=fun r hr y hy=>by
   obtain ⟨k,hk,rfl⟩:=List.mem_map.mp hr
   obtain ⟨x,hx,rfl⟩:=List.mem_map.mp (List.mem_of_mem_drop (List.mem_of_mem_take hy))
   exact ⟨x,hx,rfl⟩
  refine ⟨_,qF (vs.map (qW b c)) n m,d*c,rfl,⟨⟨_,rfl,by simp [qF],fun i x hxi=>?_⟩,by simp [qF];omega,fun r hr=>⟨?_,fun y hy=>?_⟩,dc0,qB (intBits_mul_le zd cb) (by decide)⟩,fun B hB=>h B _ (zaeo hp hv hB)⟩
  ·rw [List.getElem?_map] at hxi
   cases e:(qF ((vs.map (qW b c)).map dS) n m)[i]? with
   | none=>rw [e] at hxi;cases hxi
   | some z =>
    rw [e] at hxi
    have ez:=(Option.some.inj hxi).symm
    subst ez
    have hi:i<m:=by
     have:=(List.getElem?_eq_some_iff.mp e).1
     simpa [qF] using this
    rw [qdi hi] at e
    have e':=(Option.some.inj e).symm
    subst e'
    refine ⟨_,qdi hi,?_⟩
    show some _=some _
    rw [List.map_take,List.map_drop]
  ·obtain ⟨k,hk,rfl⟩:=List.mem_map.mp hr
   rw [List.length_take];omega
  ·obtain ⟨x,hxm,rfl⟩:=hrow r hr y hy
   obtain ⟨q1,q2,q3,q4⟩:=hx x hxm
   obtain ⟨g1,g2,g3⟩:=qnh (show 0<b by omega) (show 0<c by omega) q1
   exact ⟨g1,qks (qB (intBits_mul_le q4 (qks (qB bb (Nat.le_refl _)))) (by decide)),Int.dvd_trans g3 (Int.mul_dvd_mul q3 (Int.dvd_refl _))⟩
def Shp (n:Nat) (d:PyData):Prop:=d.canLay0=true∧d.depth≤n
theorem qsi {n:Nat} : ∀ {l:List PyData},(∀ x ∈ l,Shp n x)→PyData.canLayAll0 l=true∧PyData.depthAll l≤n
 | [],_=>by simp [PyData.canLayAll0,PyData.depthAll]
 | x::l,h=>by
  obtain ⟨a,b⟩:=qsi fun y hy=>h y (List.mem_cons_of_mem _ hy)
  obtain ⟨c,d⟩:=h x (by simp)
  rw [PyData.canLayAll0,PyData.depthAll,a,c]
  exact ⟨rfl,by omega⟩
theorem qss (i:Int) (n:Nat):Shp n (.int i):=by simp [Shp,PyData.canLay0,PyData.depth]
theorem qla {n:Nat}{l:List PyData} (h : ∀ x ∈ l,Shp n x):Shp (n+1) (.list l):=by
 obtain ⟨a,b⟩:=qsi h
 rw [Shp,PyData.canLay0,PyData.depth]
 exact ⟨a,by omega⟩
theorem qrv {n:Nat}{l:List PyData} (h : ∀ x ∈ l,Shp n x):Shp (n+1) (.tuple l):=by
 obtain ⟨a,b⟩:=qsi h
 rw [Shp,PyData.canLay0,PyData.depth]
 exact ⟨a,by omega⟩
theorem zabo (ns:List Int) (n:Nat) : ∀ x ∈ ns.map PyData.int,Shp n x:=fun x hx=>by
 obtain ⟨i,_,rfl⟩:=List.mem_map.mp hx
 exact qss i n
theorem Shp.ok {n:Nat}{d:PyData} (h:Shp n d) (hn:n≤64:=by decide):SeqAt.shaped d=true:=by
 unfold SeqAt.shaped
 rw [h.1,decide_eq_true (Nat.le_trans h.2 hn)];rfl
theorem Shp.refl {n:Nat}{d:PyData} (h:Shp n d):PyData.eqv d d=true:=SeqAt.eqv_refl d h.1
theorem zagi (r:List Int):Shp 1 (qdy r):=qrv (zabo r 0)
theorem qky (b:Int) (R:List (List Int)):Shp 3 (qat b R):=qrv fun x hx=>by
 simp only [List.mem_cons,List.not_mem_nil,or_false] at hx
 rcases hx with rfl|rfl
 ·exact qss b 2
 ·exact qrv fun y hy=>by
   obtain ⟨r,_,rfl⟩:=List.mem_map.mp hy
   exact zagi r
theorem shpS {x:Str} (n:Nat) (h:PyData.strOk x=true):Shp n (.str x):=by simp [Shp,PyData.canLay0,PyData.depth,h]
def qhq (ds:List PyData) (q:PyData→Prop):Prop := ∃ (b:Int) (R:List (List Int)) (m:Nat) (c:Int) (S:List (List Int)) (n:Nat),ds=[qat b R,qat c S]∧CmpPre b R m c S n∧zagw b R m c S n q
theorem qlw:FnScope ["one","other","answer"] ["one","other"] (defScope qgj):=⟨rfl,rfl,rfl,by decide +kernel,rfl,by decide +kernel,by decide +kernel⟩
theorem qtr (F:Def K mg "compared" qgj ["one","other"]) (T:Txt K mg cs)
 (O_stands:Ok P w K mg base "stands" 1 ["glass"] (PSp K qlg))
 (O_signs:Ok P w K mg base "signs" 1 ["glass"] (PSp K qfk))
 (O_check_alike_stands:Ok P w K mg base "check_alike_stands" 2 ["one","other"] (PSp K qbg))
 (O_solved:Ok P w K mg base "solved" 5 ["rows","sums"] (SolSp K qqr))
 (O_check_few_signs:Ok P w K mg base "check_few_signs" 2 ["glass"] (PSp K qcj))
 (O_equations:Ok P w K mg base "equations" 3 ["one","other"] (FSp K qjy))
 (O_wanted_sums:Ok P w K mg base "wanted_sums" 2 ["one","other"] (FSp K qhl))
 (O_in_rows:Ok P w K mg base "in_rows" 1 ["flat","wide","many"] (PSp K qjn))
 (O_dulling_by:Ok P w K mg base "dulling_by" 5 ["one","other","values"] (PSp K qiv))
 : Ok P w K mg base "compared" 6 ["one","other"] (PSp K qhq):=by
  refine F.vok qlw (by rintro ds q ⟨_,_,_,_,_,_,h,_⟩;rw [h];rfl) fun f cdv A outer s H E hr ds q h=>?_
  obtain ⟨b,R,m,c,S,n,rfl,hp,h1,h2⟩:=h
  refine ⟨_,(qg (qgz (qx O_check_alike_stands (hr.mono (by decide)) (qc (qb 0) (qc (qb 1) qf))))
   (qg (qgz (qx O_check_few_signs (hr.mono (by decide)) (qc (qb 0) qf)))
   (qg (qgz (qx O_check_few_signs (hr.mono (by decide)) (qc (qb 1) qf)))
   (qg (qC (i:=2) qlw.nd (qx (zaki O_solved) (hr.mono (by decide)) (qc (qT (qnk O_equations (hr.mono (by decide)) (qc (qb 0) (qc (qb 1) qf)))) (qc (qT (qnk O_wanted_sums (hr.mono (by decide)) (qc (qb 0) (qc (qb 1) qf)))) qf))))
   (qg (qam (qA (qms hr.units) (qq (qb 2) qe) qps) (qh (qv (qfe (qc qps (qc (qx O_dulling_by (hr.mono (by decide)) (qc (qb 0) (qc (qb 1) (qc (qq (qb 2) qe) qf)))) qf))))) qI)
   (qh (qv (qfe (qc qps (qc (qff qjf T.tuple_ L2.boot_tuple (qc (qx O_in_rows (hr.mono (by decide)) (qc (qq (qb 2) qe) (qc (qx O_signs (hr.mono (by decide)) (qc (qb 1) qf)) (qc (qx O_stands (hr.mono (by decide)) (qc (qb 1) qf)) qf)))) qf)) qf)))))))))),?_⟩
  have w1:=hp.w1
  have w2:=hp.w2
  have m2:=hp.m2
  have n2:=hp.n2
  have hl:=hp.l
  obtain ⟨r0,R0,eR⟩:=List.exists_cons_of_ne_nil (show R≠[] from fun z=>by rw [z] at w1;simp at w1)
  obtain ⟨s0,S0,eS⟩:=List.exists_cons_of_ne_nil (show S≠[] from fun z=>by rw [z] at hl;rw [hl] at w1;simp at w1)
  have l1:r0.length=m:=hp.r.len r0 (by rw [eR];simp)
  have l2:s0.length=n:=hp.s.len s0 (by rw [eS];simp)
  have shF:=shpS (x := "fits") 0 (by decide +kernel)
  have shN:=shpS (x := "none") 0 (by decide +kernel)
  refine ⟨b,R,c,S,rfl,hl,b,r0,R0,by rw [eR],by omega,c,s0,S0,by rw [eS],by omega,b,R,m,c,S,n,rfl,hp,b,R,m,c,S,n,rfl,hp,m*n,eqL b R m n,qfl S c m,rfl,zafc hp,fun vs hv=>?_,fun ws hw=>?_⟩
  ·refine ⟨.str "fits",rfl,shF.ok,shF.ok,iteY shF.refl ⟨_,rfl,b,R,m,c,S,n,vs,rfl,⟨hp,hv⟩,fun B D hD=>⟨szl,h1 B D hD⟩⟩⟩
  ·refine ⟨.str "none",rfl,shN.ok,shF.ok,iteZ (by decide +kernel) ⟨_,rfl,c,s0,S0,by rw [eS],c,S,rfl,_,n,R.length,by rw [l2,hl],⟨by omega,by omega⟩,?_⟩⟩
   have e:(qF (ws.map PyData.int) n R.length).map PyData.tuple=(qF ws n R.length).map qdy:=by
    unfold qF qdy
    rw [List.map_map,List.map_map]
    refine List.map_congr_left fun k _=>?_
    show PyData.tuple _=PyData.tuple _
    rw [List.map_take,List.map_drop]
   show _∧_
   rw [e]
   exact ⟨szl,h2 _ (zaax hp hw)⟩
section
variable {b:Int}{R:List (List Int)}{m:Nat}{c:Int}{S:List (List Int)}{n:Nat}{B:Int}{D:List (List Int)}
theorem qoz {T:List (List Int)}{i j:Nat}{r:List Int}{x:Int} (h:T[i]?=some r) (k:r[j]?=some x):at2 T i j=x:=by
 unfold at2
 rw [h]
 show (r[j]?).getD 0=x
 rw [k];rfl
theorem qwt {T:List (List Int)} (h : ∀ r ∈ T,∀ x ∈ r,0≤x) (i j:Nat):0≤at2 T i j:=by
 unfold at2
 cases e:T[i]? with
 | none=>exact Int.le_refl _
 | some r =>
  show 0≤(r[j]?).getD 0
  cases e':r[j]? with
  | none=>exact Int.le_refl _
  | some x=>exact h r (List.mem_of_getElem? e) x (List.mem_of_getElem? e')
theorem quq {r:List Int}{T:List (List Int)}{i:Nat} (h:T[i]?=some r):(qj r.length fun j=>at2 T i j)=r.sum:=by
 have e1:(List.range r.length).map (fun j=>at2 T i j)=r:=by
  refine List.ext_getElem? fun j=>?_
  rw [List.getElem?_map]
  by_cases hj:j<r.length
  ·rw [List.getElem?_range hj,List.getElem?_eq_getElem hj]
   show some (at2 T i j)=_
   rw [qoz h (List.getElem?_eq_getElem hj)]
  ·rw [List.getElem?_eq_none (l:=r) (by omega),List.getElem?_eq_none (by simp;omega)];rfl
 have e2:=qdv (fun j=>at2 T i j) r.length
 rw [e1] at e2
 exact e2.symm
theorem Tab.rs {T:List (List Int)} (h:Tab B T n) {i:Nat} (hi:i<T.length):(qj n fun j=>at2 T i j)=B:=by
 have e:T[i]?=some T[i]:=List.getElem?_eq_getElem hi
 rw [← h.len _ (List.getElem_mem hi),quq e,h.sum _ (List.getElem_mem hi)]
def mkT (m n:Nat) (f:Nat→Nat→Int):List (List Int):=(List.range m).map fun i=>(List.range n).map fun j=>f i j
theorem zadk {m n:Nat}{f:Nat→Nat→Int}{i j:Nat} (hi:i<m) (hj:j<n):at2 (mkT m n f) i j=f i j:=by
 refine qoz (r:=(List.range n).map fun j=>f i j) ?_ ?_
 ·unfold mkT
  rw [List.getElem?_map,List.getElem?_range hi];rfl
 ·rw [List.getElem?_map,List.getElem?_range hj];rfl
theorem qxi (m n:Nat) (f:Nat→Nat→Int):(mkT m n f).length=m:=by simp [mkT]
theorem qym {m n:Nat}{f:Nat→Nat→Int}{B:Int} (hB:1≤B) (h0 : ∀ i j,i<m→j<n→0≤f i j) (hs : ∀ i,i<m→qj n (f i)=B):Tab B (mkT m n f) n where
 pos:=hB
 len:=fun r hr=>by
  obtain ⟨i,_,rfl⟩:=List.mem_map.mp hr
  simp
 nn:=fun r hr x hx=>by
  obtain ⟨i,hi,rfl⟩:=List.mem_map.mp hr
  obtain ⟨j,hj,rfl⟩:=List.mem_map.mp hx
  exact h0 i j (List.mem_range.mp hi) (List.mem_range.mp hj)
 sum:=fun r hr=>by
  obtain ⟨i,hi,rfl⟩:=List.mem_map.mp hr
  rw [qdv]
  exact hs i (List.mem_range.mp hi)
theorem qsj (p q:Nat) (f:Nat→Nat→Int):(qj p fun i=>qj q fun j=>f i j)=qj q fun j=>qj p fun i=>f i j:=by
 induction p with
 | zero=>exact (qaj fun j _=>rfl).symm
 | succ p ih =>
  show (qj p fun i=>qj q fun j=>f i j)+qj q (fun j=>f p j)=qj q fun j=>(qj p fun i=>f i j)+f p j
  rw [ih,qcn]
theorem qqx {f g:Nat→Int} : ∀ {n:Nat},(∀ i,i<n→f i≤g i)→qj n f≤qj n g
 | 0,_=>Int.le_refl _
 | n+1,h=>by
  show qj n f+f n≤qj n g+g n
  have a:=qqx (f:=f) (g:=g) (n:=n) fun i hi=>h i (by omega)
  have b:=h n (by omega)
  omega
theorem Dul.trans {d:Int}{T:List (List Int)}{p:Nat}{C:Int}{E:List (List Int)} (hc:0<c) (hSR:S.length=R.length) (h:Dul b R m c S n B D) (k:Dul c S n d T p C E) :
 Dul b R m d T p (B*C) (mkT m p fun i l=>qj n fun j=>at2 D i j*at2 E j l):=by
  have hB:=h.t.pos
  have hC:=k.t.pos
  have hBC:0<B*C:=Int.mul_pos (by omega) (by omega)
  refine ⟨qym (by omega) (fun i l hi hl=>qcr fun j hj=>Int.mul_nonneg (qwt h.t.nn i j) (qwt k.t.nn j l)) (fun i hi=>?_),qxi ..,fun s l hs hl=>?_⟩
  ·rw [qsj,qi (g:=fun j=>C*at2 D i j) fun j hj=>?_,qu,h.t.rs (by rw [h.l];exact hi),Int.mul_comm]
   rw [qu,k.t.rs (by rw [k.l];exact hj),Int.mul_comm]
  ·have e1:(qj m fun i=>at2 R s i*at2 (mkT m p fun i l=>qj n fun j=>at2 D i j*at2 E j l) i l)=qj n fun j=>at2 E j l*qj m fun i=>at2 R s i*at2 D i j:=by
    have a:(qj m fun i=>at2 R s i*at2 (mkT m p fun i l=>qj n fun j=>at2 D i j*at2 E j l) i l)=qj m fun i=>qj n fun j=>at2 E j l*(at2 R s i*at2 D i j):=qi fun i hi=>by
     rw [zadk hi hl,← qu]
     exact qi fun j _=>by grind
    rw [a,qsj]
    exact qi fun j _=>by rw [qu]
   rw [e1]
   have e2:c*(qj n fun j=>at2 E j l*qj m fun i=>at2 R s i*at2 D i j)=b*B*qj n fun j=>at2 S s j*at2 E j l:=by
    rw [← qu,← qu]
    refine qi fun j hj=>?_
    have:=h.e s j hs hj
    calc c*(at2 E j l*qj m fun i=>at2 R s i*at2 D i j)=at2 E j l*(c*qj m fun i=>at2 R s i*at2 D i j):=by grind
     _=at2 E j l*(at2 S s j*b*B):=by rw [this]
     _=_:=by grind
   have e3:=k.e s l (by rw [hSR];exact hs) hl
   have:c*(d*qj n fun j=>at2 E j l*qj m fun i=>at2 R s i*at2 D i j)=c*(at2 T s l*b*(B*C)):=by
    calc c*(d*qj n fun j=>at2 E j l*qj m fun i=>at2 R s i*at2 D i j)=d*(c*qj n fun j=>at2 E j l*qj m fun i=>at2 R s i*at2 D i j):=by grind
     _=b*B*(d*qj n fun j=>at2 S s j*at2 E j l):=by rw [e2];grind
     _=b*B*(at2 T s l*c*C):=by rw [e3]
     _=_:=by grind
   exact Int.eq_of_mul_eq_mul_left (by omega) this
theorem Dul.pick {f:Nat→Nat} (hf : ∀ i,i<m→f i<n) (h : ∀ s j,s<R.length→j<n→c*(qj m fun i=>at2 R s i*if f i=j then 1 else 0)=at2 S s j*b):Dul b R m c S n 1 (mkT m n fun i j=>if f i=j then 1 else 0):=by
 refine ⟨qym (by decide) (fun i j _ _=>by split <;> decide) (fun i hi=>?_),qxi ..,fun s j hs hj=>?_⟩
 ·rw [qU (hf i hi) fun j _ ne=>if_neg (Ne.symm ne),if_pos rfl]
 ·rw [Int.mul_one,← h s j hs hj]
  congr 1
  exact qi fun i hi=>by rw [zadk hi hj]
theorem Dul.self (b:Int) (R:List (List Int)) (m:Nat):Dul b R m b R m 1 (mkT m m fun i j=>if i=j then 1 else 0) :=
 Dul.pick (f:=id) (fun i hi=>hi) fun s j hs hj=>by
  rw [qU hj fun i _ ne=>by rw [if_neg (show ¬ id i=j from ne),Int.mul_zero],if_pos (show id j=j from rfl),Int.mul_one,Int.mul_comm]
end
theorem zafn {x b:Int}{m:Nat} (h0:0≤x) (h:x≤b) (hz:intBits b≤m):intBits x≤m:=intBits_le_of_natAbs (by omega) hz
theorem Tab.bits {b:Int}{R:List (List Int)}{n m:Nat}{r:List Int}{x:Int} (h:Tab b R n) (hz:intBits b≤m) (hr:r ∈ R) (hx:x ∈ r):intBits x≤m:=zafn (h.le hr hx).1 (h.le hr hx).2 hz
structure Gls (b:Int) (R:List (List Int)) (n:Nat):Prop where
 t:Tab b R n
 g:qbx R=1
theorem Tab.gls {b:Int}{R:List (List Int)}{n:Nat} (h:Tab b R n) (hR:R≠[]):Gls (b/qbx R) (qfx R (qbx R)) n:=⟨h.low hR,zack (h.gpos hR)⟩
theorem zafq (R:List (List Int)):qfx R 1=R:=by
 unfold qfx
 refine qdx fun r _=>qdx fun n _=>?_
 exact Int.ediv_one n
theorem zacj {b:Int}{R:List (List Int)}{n:Nat} (h:Gls b R n):qat (b/qbx R) (qfx R (qbx R))=qat b R:=by
 rw [h.g]
 show qat (b/1) (qfx R 1)=_
 rw [Int.ediv_one,zafq]
abbrev qvi (b:Int) (P:List (List Int)):PyData:=qat (b/qbx P) (qfx P (qbx P))
def qog (a:Int) (cs:List Int) (b:Int):List Int:=List.zipWith (fun lo hi=>hi-lo) (a::cs) (cs++[b])
theorem quo : ∀ (cs:List Int) (a b:Int),cs.Pairwise (· ≤ ·)→(∀ c ∈ cs,a≤c∧c≤b)→a≤b→(qog a cs b).length=cs.length+1∧(∀ x ∈ qog a cs b,0≤x)∧(qog a cs b).sum=b-a
 | [],a,b,_,_,hab=>by simp [qog];omega
 | c::cs,a,b,hp,h,hab=>by
  have e:qog a (c::cs) b=(c-a)::qog c cs b:=rfl
  obtain ⟨h1,h2⟩:=List.pairwise_cons.mp hp
  obtain ⟨q1,q2⟩:=h c (by simp)
  obtain ⟨i1,i2,i3⟩:=quo cs c b h2 (fun x hx=>⟨h1 x hx,(h x (List.mem_cons_of_mem _ hx)).2⟩) q2
  rw [e]
  refine ⟨by simp [i1],fun x hx=>?_,by rw [List.sum_cons,i3];omega⟩
  rcases List.mem_cons.mp hx with rfl|hx
  ·omega
  ·exact i2 x hx
def qdr (r:List Int) (k s:Int) (at' to:Nat):List Int:=qgp ((r.map fun n=>n*k).set at' ((r[at']?).getD 0*s)) to ((r[at']?).getD 0*(k-s))
theorem zage {α:Type}{l:List α}{k:Nat}{y:α} (h:k≤l.length):(qgp l k y).length=l.length+1:=by
 unfold qgp
 simp;omega
theorem zafk {l:List Int}{k:Nat}{y:Int}:(qgp l k y).sum=l.sum+y:=by
 unfold qgp
 have:=congrArg List.sum (List.take_append_drop k l)
 rw [List.sum_append] at this
 rw [List.sum_append,List.sum_cons];omega
theorem zaga {l:List Int}{k:Nat}{x y:Int} (h:x ∈ qgp l k y):x ∈ l∨x=y:=by
 unfold qgp at h
 rcases List.mem_append.mp h with h|h
 ·exact .inl (List.mem_of_mem_take h)
 ·rcases List.mem_cons.mp h with h|h
  ·exact .inr h
  ·exact .inl (List.mem_of_mem_drop h)
theorem set_sum' : ∀ {r:List Int}{i:Nat}{y:Int},i<r.length→(r.set i y).sum=r.sum-(r[i]?).getD 0+y
 | x::r,0,y,h=>by simp;omega
 | x::r,i+1,y,h=>by
  have h':i<r.length:=by simpa using h
  rw [List.set_cons_succ,List.sum_cons,List.sum_cons,set_sum' h',List.getElem?_cons_succ];omega
theorem quy (k:Int) : ∀ (r:List Int),(r.map fun x=>x*k).sum=r.sum*k
 | []=>by simp
 | x::r=>by rw [List.map_cons,List.sum_cons,List.sum_cons,quy k r,Int.add_mul]
theorem zaby {r:List Int}{k s:Int}{a t:Nat} (ha:a<r.length) (ht:t≤r.length) (hr : ∀ x ∈ r,0≤x) (s0:0≤s) (sk:s≤k):(qdr r k s a t).length=r.length+1∧(∀ x ∈ qdr r k s a t,0≤x)∧(qdr r k s a t).sum=r.sum*k:=by
 unfold qdr
 have hl:((r.map fun n=>n*k).set a ((r[a]?).getD 0*s)).length=r.length:=by simp
 have hra:0≤(r[a]?).getD 0:=by rw [List.getElem?_eq_getElem ha];exact hr _ (List.getElem_mem ha)
 refine ⟨by rw [zage (by omega),hl],fun x hx=>?_,?_⟩
 ·rcases zaga hx with hx|rfl
  ·rcases List.mem_or_eq_of_mem_set hx with hx|rfl
   ·obtain ⟨y,hy,rfl⟩:=List.mem_map.mp hx
    exact Int.mul_nonneg (hr y hy) (by omega)
   ·exact Int.mul_nonneg hra s0
  ·exact Int.mul_nonneg hra (by omega)
 ·rw [zafk,set_sum' (by simpa using ha),quy,List.getElem?_map,List.getElem?_eq_getElem ha]
  simp only [Option.map_some,Option.getD_some]
  grind
def qco (R T:List (List Int)) (m n:Nat):List (List Int):=R.map fun r=>(List.range n).map fun j=>qj m fun i=>(r[i]?).getD 0*at2 T i j
theorem zacd {R T:List (List Int)}{m n s j:Nat} (hs:s<R.length) (hj:j<n):at2 (qco R T m n) s j=qj m fun i=>at2 R s i*at2 T i j:=by
 have e:R[s]?=some R[s]:=List.getElem?_eq_getElem hs
 rw [qoz (r:=(List.range n).map fun j=>qj m fun i=>(R[s][i]?).getD 0*at2 T i j) (x:=qj m fun i=>(R[s][i]?).getD 0*at2 T i j)]
 ·refine qi fun i _=>?_
  unfold at2
  rw [e];rfl
 ·unfold qco
  rw [List.getElem?_map,e];rfl
 ·rw [List.getElem?_map,List.getElem?_range hj];rfl
theorem zaem {r:List Int} (h : ∀ x ∈ r,0≤x) (i:Nat):0≤(r[i]?).getD 0:=by
 cases e:r[i]? with
 | none=>exact Int.le_refl _
 | some x=>exact h x (List.mem_of_getElem? e)
theorem zacc {r:List Int}{m:Nat} (h:r.length=m):(qj m fun i=>(r[i]?).getD 0)=r.sum:=by
 have:=quq (T:=[r]) (i:=0) (r:=r) rfl
 rw [← this,h]
 exact qi fun i _=>rfl
theorem qoy {b u:Int}{R T:List (List Int)}{m n:Nat} (hR:Tab b R m) (hT:Tab u T n) (hl:T.length=m):Tab (b*u) (qco R T m n) n where
 pos:=by have:=Int.mul_pos (show 0<b by have:=hR.pos;omega) (show 0<u by have:=hT.pos;omega);omega
 len:=fun r hr=>by
  obtain ⟨r0,_,rfl⟩:=List.mem_map.mp hr
  simp
 nn:=fun r hr x hx=>by
  obtain ⟨r0,h0,rfl⟩:=List.mem_map.mp hr
  obtain ⟨j,_,rfl⟩:=List.mem_map.mp hx
  exact qcr fun i _=>Int.mul_nonneg (zaem (hR.nn r0 h0) i) (qwt hT.nn i j)
 sum:=fun r hr=>by
  obtain ⟨r0,h0,rfl⟩:=List.mem_map.mp hr
  rw [qdv,qsj,qi (g:=fun i=>u*(r0[i]?).getD 0) fun i hi=>?_,qu,zacc (hR.len r0 h0),hR.sum r0 h0,Int.mul_comm]
  rw [qu,hT.rs (by rw [hl];exact hi),Int.mul_comm]
def wd (g:Int×List (List Int)):Nat:=(g.2.headD []).length
theorem qwf {b:Int}{R:List (List Int)}{m:Nat} (h:Tab b R m) (n:1≤R.length):wd (b,R)=m:=by
 unfold wd
 cases R with
 | nil=>simp at n
 | cons r R=>exact h.len r (by simp)
structure G30 (W:Nat) (B:Int) (g:Int×List (List Int)):Prop where
 h:Gls g.1 g.2 (wd g)
 m1:1≤wd g
 m2:wd g≤3
 l:g.2.length=W
 b:g.1≤B
theorem G30.of {W m:Nat}{B b:Int}{R:List (List Int)} (h:Gls b R m) (w:1≤W) (l:R.length=W) (m1:1≤m) (m2:m≤3) (hb:b≤B):G30 W B (b,R):=by
 have e:=qwf h.t (by omega)
 exact ⟨by rw [e];exact h,by omega,by omega,l,hb⟩
def dG (g:Int×List (List Int)):PyData:=qat g.1 g.2
structure GS (W:Nat) (B:Int) (g:Int×List (List Int)):Prop where
 h:Gls g.1 g.2 (wd g)
 m1:1≤wd g
 m2:wd g≤4
 l:g.2.length=W
 b:g.1≤B
theorem GS.of {W m:Nat}{B b:Int}{R:List (List Int)} (h:Gls b R m) (w:1≤W) (l:R.length=W) (m1:1≤m) (m2:m≤4) (hb:b≤B):GS W B (b,R):=by
 have e:=qwf h.t (by omega)
 exact ⟨by rw [e];exact h,by omega,by omega,l,hb⟩
theorem GS.pre {W:Nat}{g h:Int×List (List Int)} (w1:1≤W) (w2:W≤4) (a:GS W 2000000 g) (b:GS W 2000000 h):CmpPre g.1 g.2 (wd g) h.1 h.2 (wd h):=by
 have:=a.b
 have:=b.b
 have:=a.l
 have:=b.l
 have:=a.m1
 have:=b.m1
 have:=a.m2
 have:=b.m2
 exact ⟨a.h.t,b.h.t,by omega,by omega,by omega,by omega,by omega,by omega,by omega,by omega,by omega⟩
theorem GS.head {W:Nat}{B:Int}{g:Int×List (List Int)} (a:GS W B g) (w:1≤W) : ∃ r0 R0,g.2=r0::R0∧r0.length=wd g:=by
 obtain ⟨r0,R0,e⟩:=List.exists_cons_of_ne_nil (show g.2≠[] from fun z=>by have:=a.l;rw [z] at this;simp at this;omega)
 exact ⟨r0,R0,e,a.h.t.len r0 (by rw [e];simp)⟩
theorem trow_get' {L:List (Int×List (List Int))}{i:Nat}{x:PyData} (h:(L.map dG)[i]?=some x) : ∃ g,L[i]?=some g∧x=dG g:=by
 rw [List.getElem?_map] at h
 cases hr:L[i]? with
 | none=>rw [hr] at h;cases h
 | some r=>rw [hr] at h;exact ⟨r,rfl,(Option.some.inj h).symm⟩
structure Shf (L:List (Int×List (List Int))) (W:Nat):Prop where
 g : ∀ g ∈ L,GS W 2000000 g
 w1:2≤W
 w2:W≤4
 n1:1≤L.length
 n2:L.length≤5
def DL (g h:Int×List (List Int)):Prop := ∃ B D,Dul g.1 g.2 (wd g) h.1 h.2 (wd h) B D
def DLi (L:List (Int×List (List Int))) (i j:Nat):Prop := ∃ g h,L[i]?=some g∧L[j]?=some h∧DL g h
def Ans (g h:Int×List (List Int)) (d:PyData):Prop:=(∃ B D,Dls g.1 g.2 (wd g) h.1 h.2 (wd h) B D∧d = .tuple [.str "dulls",qat B D])∨(∃ Y,Dcs g.1 g.2 (wd g) h.1 h.2 (wd h) Y∧d = .tuple [.str "decision",.tuple (Y.map qdy)])
structure AnsL (g:Int×List (List Int)) (L:List (Int×List (List Int))) (as:List PyData):Prop where
 l:as.length=L.length
 a : ∀ (j:Nat) h d,L[j]?=some h→as[j]?=some d→Ans g h d
structure AnsM (L:List (Int×List (List Int))) (As:List (List PyData)):Prop where
 l:As.length=L.length
 a : ∀ (i:Nat) g as,L[i]?=some g→As[i]?=some as→AnsL g L as
theorem AnsM.at {L:List (Int×List (List Int))}{As:List (List PyData)} (h:AnsM L As) {i j:Nat} (hi:i<L.length) (hj:j<L.length) : ∃ g k as d,L[i]?=some g∧L[j]?=some k∧As[i]?=some as∧as[j]?=some d∧Ans g k d:=by
 have e1:L[i]?=some L[i]:=List.getElem?_eq_getElem hi
 have e2:L[j]?=some L[j]:=List.getElem?_eq_getElem hj
 have e3:As[i]?=some (As[i]'(by rw [h.l];exact hi)):=List.getElem?_eq_getElem _
 have a:=h.a i _ _ e1 e3
 have e4:(As[i]'(by rw [h.l];exact hi))[j]?=some ((As[i]'(by rw [h.l];exact hi))[j]'(by rw [a.l];exact hj)):=List.getElem?_eq_getElem _
 exact ⟨_,_,_,_,e1,e2,e3,e4,a.a j _ _ e2 e4⟩
def qls (L:List (Int×List (List Int))) (i j:Nat):Prop:=DLi L i j∧(i<j ∨ ¬ DLi L j i)
def qvx (L:List (Int×List (List Int))) (j:Nat):Prop := ∃ i,i<L.length∧qls L i j
section
variable {L:List (Int×List (List Int))}{W:Nat}
theorem Shf.self (s:Shf L W) {i:Nat} (hi:i<L.length):DLi L i i:=⟨L[i],L[i],List.getElem?_eq_getElem hi,List.getElem?_eq_getElem hi,_,_,Dul.self _ _ _⟩
theorem Shf.trans (s:Shf L W) {i j k:Nat} (x:DLi L i j) (y:DLi L j k):DLi L i k:=by
 obtain ⟨g,h,e1,e2,B,D,x⟩:=x
 obtain ⟨h',k',e3,e4,C,E,y⟩:=y
 rw [e2] at e3
 injection e3 with e3
 subst e3
 have a:=s.g g (List.mem_of_getElem? e1)
 have b:=s.g h (List.mem_of_getElem? e2)
 have:=b.h.t.pos
 exact ⟨g,k',e1,e4,_,_,Dul.trans (by omega) (by rw [a.l,b.l]) x y⟩
theorem Shf.otrans (s:Shf L W) {i j k:Nat} (x:qls L i j) (y:qls L j k):qls L i k:=by
 refine ⟨s.trans x.1 y.1,?_⟩
 by_cases z:DLi L k i
 ·left
  have y1:j<k:=by
   rcases y.2 with q|q
   ·exact q
   ·exact (q (s.trans z x.1)).elim
  have x1:i<j:=by
   rcases x.2 with q|q
   ·exact q
   ·exact (q (s.trans y.1 z)).elim
  omega
 ·exact .inr z
theorem Shf.oirr (s:Shf L W) {i:Nat} (hi:i<L.length) : ¬ qls L i i:=fun x=>by
 rcases x.2 with q|q
 ·omega
 ·exact q (s.self hi)
theorem qwz (p q:Nat→Prop) (h : ∀ i,p i→q i) : ∀ n,(∃ i,i<n∧q i ∧ ¬ p i)→(qj n fun i => @ite Int (p i) (Classical.propDecidable _) 1 0)<qj n fun i => @ite Int (q i) (Classical.propDecidable _) 1 0
 | 0,⟨i,hi,_⟩=>by omega
 | n+1,⟨i,hi,hq,hp⟩=>by
  have le : ∀ m,(qj m fun i => @ite Int (p i) (Classical.propDecidable _) 1 0)≤qj m fun i => @ite Int (q i) (Classical.propDecidable _) 1 0:=fun m=>qqx fun k _=>by
   by_cases a:p k
   ·rw [if_pos a,if_pos (h k a)];exact Int.le_refl _
   ·rw [if_neg a];by_cases b:q k
    ·rw [if_pos b];decide
    ·rw [if_neg b];exact Int.le_refl _
  show (qj n _)+(@ite Int (p n) (Classical.propDecidable _) 1 0)<(qj n _)+(@ite Int (q n) (Classical.propDecidable _) 1 0)
  by_cases e:i=n
  ·subst e
   have:=le i
   rw [if_neg hp,if_pos hq]
   omega
  ·have ih:=qwz p q h n ⟨i,by omega,hq,hp⟩
   by_cases a:p n
   ·rw [if_pos a,if_pos (h n a)];omega
   ·rw [if_neg a];by_cases b:q n
    ·rw [if_pos b];omega
    ·rw [if_neg b];omega
theorem Shf.top (s:Shf L W) : ∀ (c:Nat) (j:Nat),j<L.length→(qj L.length fun i => @ite Int (qls L i j) (Classical.propDecidable _) 1 0)≤c → ∃ t,t<L.length ∧ ¬ qvx L t∧DLi L t j
 | 0,j,hj,hc=>by
  refine ⟨j,hj,fun xx186=>?_,s.self hj⟩
  obtain ⟨i,hi,o⟩:=xx186
  have:=qwz (fun _=>False) (fun i=>qls L i j) (fun _ z=>z.elim) L.length ⟨i,hi,o,id⟩
  have z:(qj L.length fun i => @ite Int False (Classical.propDecidable _) 1 0)=0:=qaj fun _ _=>if_neg id
  omega
 | c+1,j,hj,hc=>by
  by_cases o:qvx L j
  ·obtain ⟨i,hi,o⟩:=o
   have lt:=qwz (fun k=>qls L k i) (fun k=>qls L k j) (fun k z=>s.otrans z o) L.length ⟨i,hi,o,s.oirr hi⟩
   obtain ⟨t,ht,nt,d⟩:=s.top c i hi (by omega)
   exact ⟨t,ht,nt,s.trans d o.1⟩
  ·exact ⟨j,hj,o,s.self hj⟩
theorem Shf.ex (s:Shf L W) {j:Nat} (hj:j<L.length) : ∃ t,t<L.length ∧ ¬ qvx L t∧DLi L t j:=by
 obtain ⟨c,hc⟩:=Int.eq_ofNat_of_zero_le (show 0≤qj L.length fun i => @ite Int (qls L i j) (Classical.propDecidable _) 1 0 from qcr fun k _=>by
  by_cases a:qls L k j
  ·rw [if_pos a];decide
  ·rw [if_neg a];decide)
 exact s.top c j hj (by omega)
end
def qhk (ds:List PyData) (q:PyData→Prop):Prop := ∃ (L:List (Int×List (List Int))) (W:Nat),ds=[.list (L.map dG)]∧Shf L W∧q .none
theorem qet:FnScope ["shelf","glass"] ["shelf"] (defScope qdm):=⟨rfl,rfl,rfl,by decide +kernel,rfl,by decide +kernel,by decide +kernel⟩
theorem qmv (F:Def K mg "check_shelf" qdm ["shelf"]) (T:Txt K mg cs)
 (O_check_alike_stands:Ok P w K mg base "check_alike_stands" 2 ["one","other"] (PSp K qbg))
 (O_check_few_signs:Ok P w K mg base "check_few_signs" 2 ["glass"] (PSp K qcj))
 : Ok P w K mg base "check_shelf" 3 ["shelf"] (PSp K qhk):=by
  refine F.vok qet (by rintro ds q ⟨_,_,h,_⟩;rw [h];rfl) fun f cdv A outer s H E hr ds q h=>?_
  obtain ⟨L,W,rfl,hS,h⟩:=h
  refine ⟨_,(qg (qam (VW.pt (qbs (qah (qY (qec T.isinstance_ T.list_ L2.boot_list (qb 0)))) (qbi (qah (zacg o_le o_le qe (qr qag T.len_ L2.boot_len (qc (qb 0) qf)) (qkt T.MOST_GLASSES_)))))) qey qI)
   (qg (qai rfl (qQ (qb 0)) (qm (i:=1) qet.nd) (qh (qgz (qx O_check_alike_stands (hr.mono (by decide)) (qc (qq (qb 0) qe) (qc (qb 1) qf))))))
   (qh (qai rfl (qQ (qb 0)) (qm (i:=1) qet.nd) (qh (qgz (qx O_check_few_signs (hr.mono (by decide)) (qc (qb 1) qf)))))))),?_⟩
  have n1:=hS.n1
  have n2:=hS.n2
  have w1:=hS.w1
  have lL:(((L.map dG).length:Nat):Int)=L.length:=by rw [List.length_map]
  obtain ⟨g0,L0,eL⟩:=List.exists_cons_of_ne_nil (show L≠[] from fun z=>by rw [z] at n1;simp at n1)
  have a0:atI (L.map dG) 0=some (dG g0):=by rw [eL];exact qas _ _
  have G0:=hS.g g0 (by rw [eL];simp)
  refine iteY (decide_eq_true (by rw [lL];omega)) (iteN (decide_eq_true (by rw [lL];omega)) ?_)
  refine ⟨fun i e => ∃ t,e=[.val (.list (L.map dG)),t],⟨_,rfl⟩,?_,?_⟩
  ·rintro i x e hx ⟨t,rfl⟩
   obtain ⟨g,hg,rfl⟩:=trow_get' hx
   have G:=hS.g g (List.mem_of_getElem? hg)
   exact ⟨_,a0,g0.1,g0.2,g.1,g.2,rfl,by rw [G0.l,G.l],_,rfl⟩
  rintro e ⟨t,rfl⟩
  refine ⟨fun i e => ∃ t,e=[.val (.list (L.map dG)),t],⟨_,rfl⟩,?_,?_⟩
  ·rintro i x e hx ⟨t,rfl⟩
   obtain ⟨g,hg,rfl⟩:=trow_get' hx
   have G:=hS.g g (List.mem_of_getElem? hg)
   obtain ⟨r0,R0,e0,l0⟩:=G.head (by omega)
   have:=G.m2
   exact ⟨g.1,r0,R0,by rw [← e0];rfl,by omega,_,rfl⟩
  rintro e ⟨t,rfl⟩
  exact h
def zacz (ds:List PyData) (q:PyData→Prop):Prop := ∃ (L:List (Int×List (List Int))) (W:Nat) (g:Int×List (List Int)),ds=[dG g,.list (L.map dG)]∧(Shf L W∧GS W 2000000 g) ∧ ∀ as,AnsL g L as→q (.list as)
theorem qhe:FnScope ["glass","shelf"] ["glass","shelf"] (defScope qar):=⟨rfl,rfl,rfl,by decide +kernel,rfl,by decide +kernel,by decide +kernel⟩
theorem qhh (F:Def K mg "compared_with_all" qar ["glass","shelf"]) (T:Txt K mg cs)
 (O_compared:Ok P w K mg base "compared" 6 ["one","other"] (PSp K qhq))
 : Ok P w K mg base "compared_with_all" 7 ["glass","shelf"] (PSp K zacz):=by
  refine F.vok qhe (by rintro ds q ⟨_,_,_,h,_⟩;rw [h];rfl) fun f cdv A outer s H E hr ds q h=>?_
  obtain ⟨L,W,g,rfl,⟨hS,hg⟩,h⟩:=h
  refine ⟨_,(qh (qv (qT (qR (caps:=["glass"]) (own:=["other"]) (ix:=[0]) rfl ⟨rfl,rfl,rfl,rfl,rfl,rfl⟩ (qQ (qb 1)) (fun _ _ _ _=>(qm (i:=1) (show List.Nodup (["glass","other"]:List Str) by decide))) (fun _ _ _ _=>(qx O_compared (hr.mono (by decide)) (qc (qb 0) (qc (qb 1) qf)))))))),?_⟩
  have n2:=hS.n2
  have w1:=hS.w1
  refine ⟨qo (by rw [List.length_map];omega),fun k ys e=>(ys.length=k ∧ ∀ (j:Nat) k' d,L[j]?=some k'→ys[j]?=some d→Ans g k' d) ∧ ∃ v,e=[.val (dG g),v],⟨⟨rfl,by simp⟩,_,rfl⟩,?_,?_⟩
  ·rintro i x ys e hx ⟨⟨hl,ha⟩,v,rfl⟩
   obtain ⟨k',hk,rfl⟩:=trow_get' hx
   have G:=hS.g k' (List.mem_of_getElem? hk)
   have snoc : ∀ d,Ans g k' d→((ys++[d]).length=i+1 ∧ ∀ (j:Nat) k' d',L[j]?=some k'→(ys++[d])[j]?=some d'→Ans g k' d'):=fun d hd=>by
    refine ⟨by simp [hl],fun j k2 d2 h1 h2=>?_⟩
    by_cases q:j<ys.length
    ·rw [List.getElem?_append_left q] at h2;exact ha j k2 d2 h1 h2
    ·rw [List.getElem?_append_right (by omega)] at h2
     have:j-ys.length=0:=by
      rcases Nat.eq_zero_or_pos (j-ys.length) with z|z
      ·exact z
      ·rw [List.getElem?_eq_none (by simp;omega)] at h2;cases h2
     rw [this] at h2
     have e1:d=d2:=Option.some.inj h2
     have e2:j=i:=by omega
     rw [e2,hk] at h1
     injection h1 with h1
     rw [← e1,← h1];exact hd
   exact ⟨g.1,g.2,wd g,k'.1,k'.2,wd k',rfl,GS.pre (by omega) hS.w2 hg G,fun B D hD=>⟨snoc _ (.inl ⟨B,D,hD,rfl⟩),_,rfl⟩,fun Y hY=>⟨snoc _ (.inr ⟨Y,hY,rfl⟩),_,rfl⟩⟩
  ·rintro ys e ⟨⟨hl,ha⟩,v,rfl⟩
   rw [List.length_map] at hl
   exact h ys ⟨hl,ha⟩
def qhr (ds:List PyData) (q:PyData→Prop):Prop := ∃ (L:List (Int×List (List Int))) (W:Nat) (As:List (List PyData)) (i j:Nat),ds=[.int i,.int j,.list (As.map .list)]∧(Shf L W∧AnsM L As∧i<L.length∧j<L.length) ∧ ∀ t,(t=true↔DLi L i j)→q (.bool t)
theorem qua:FnScope ["one","other","answers"] ["one","other","answers"] (defScope qgv):=⟨rfl,rfl,rfl,by decide +kernel,rfl,by decide +kernel,by decide +kernel⟩
theorem qtu (F:Def K mg "dulls_so" qgv ["one","other","answers"]) (T:Txt K mg cs)
 : Ok P w K mg base "dulls_so" 1 ["one","other","answers"] (PSp K qhr):=by
  refine F.vok qua (by rintro ds q ⟨_,_,_,_,_,h,_⟩;rw [h];rfl) fun f cdv A outer s H E hr ds q h=>?_
  obtain ⟨L,W,As,i,j,rfl,⟨hS,hA,hi,hj⟩,h⟩:=h
  refine ⟨_,(qh (qv (qhj (qms hr.units) (qq (qq (qq (qb 2) (qb 0)) (qb 1)) qe) qps))),?_⟩
  have shD:=shpS (x := "dulls") 0 (by decide +kernel)
  have shC:=shpS (x := "decision") 0 (by decide +kernel)
  have cd':PyData.eqv (.str "decision") (.str "dulls")=false:=by decide +kernel
  obtain ⟨g,k,as,d,e1,e2,e3,e4,hd⟩:=hA.at hi hj
  have b1:=(hS.g g (List.mem_of_getElem? e1)).h.t.pos
  have b2:=(hS.g k (List.mem_of_getElem? e2)).h.t.pos
  have a1:atI (As.map PyData.list) (i:Int)=some (.list as):=qM (by rw [List.getElem?_map,e3];rfl)
  have a2:atI as (j:Int)=some d:=qM e4
  rcases hd with ⟨B,D,hD,rfl⟩|⟨Y,hY,rfl⟩
  ·refine ⟨_,a1,_,a2,_,rfl,shD.ok,shD.ok,?_⟩
   show q (.bool (PyData.eqv (.str "dulls") (.str "dulls")))
   rw [shD.refl]
   exact h true ⟨fun _=>⟨g,k,e1,e2,B,D,hD.u⟩,fun _=>rfl⟩
  ·refine ⟨_,a1,_,a2,_,rfl,shC.ok,shD.ok,?_⟩
   show q (.bool (PyData.eqv (.str "decision") (.str "dulls")))
   rw [cd']
   refine h false ⟨fun z=>(by cases z),fun xx187=>?_⟩
   obtain ⟨g',k',x1,x2,B,D,hD⟩:=xx187
   rw [e1] at x1
   rw [e2] at x2
   injection x1 with x1
   injection x2 with x2
   subst x1 x2
   exact (qsu (by omega) (by omega) hD hY).elim
def qnc (ds:List PyData) (q:PyData→Prop):Prop := ∃ (L:List (Int×List (List Int))) (W:Nat) (As:List (List PyData)) (i j:Nat),ds=[.int i,.int j,.list (As.map .list)]∧(Shf L W∧AnsM L As∧i<L.length∧j<L.length) ∧ ∀ t,(t=true↔qls L i j)→q (.bool t)
theorem qvn:FnScope ["one","other","answers"] ["one","other","answers"] (defScope qip):=⟨rfl,rfl,rfl,by decide +kernel,rfl,by decide +kernel,by decide +kernel⟩
theorem qwo (F:Def K mg "outdoes" qip ["one","other","answers"]) (T:Txt K mg cs)
 (O_dulls_so:Ok P w K mg base "dulls_so" 1 ["one","other","answers"] (PSp K qhr))
 : Ok P w K mg base "outdoes" 2 ["one","other","answers"] (PSp K qnc):=by
  refine F.vok qvn (by rintro ds q ⟨_,_,_,_,_,h,_⟩;rw [h];rfl) fun f cdv A outer s H E hr ds q h=>?_
  obtain ⟨L,W,As,i,j,rfl,⟨hS,hA,hi,hj⟩,h⟩:=h
  refine ⟨_,(qh (qv (qpj (qx O_dulls_so (hr.mono (by decide)) (qc (qb 0) (qc (qb 1) (qc (qb 2) qf)))) (qkb (zahu (qhj qql (qb 0) (qb 1)) (qkb (qwr (qx O_dulls_so (hr.mono (by decide)) (qc (qb 1) (qc (qb 0) (qc (qb 2) qf))))))))))),?_⟩
  refine ⟨L,W,As,i,j,rfl,⟨hS,hA,hi,hj⟩,fun t ht=>iteB (fun e1=>?_) (fun e1=>?_)⟩
  ·refine qix (fun e2=>?_) (fun e2=>?_)
   ·exact h true ⟨fun _=>⟨ht.mp e1,.inl (by omega)⟩,fun _=>rfl⟩
   ·refine ⟨L,W,As,j,i,rfl,⟨hS,hA,hj,hi⟩,fun u hu=>h (!u) ⟨fun z=>⟨ht.mp e1,.inr fun y=>?_⟩,fun ⟨_,z⟩=>?_⟩⟩
    ·rw [hu.mpr y] at z;cases z
    ·rcases z with z|z
     ·omega
     ·cases u with
      | false=>rfl
      | true=>exact (z (hu.mp rfl)).elim
  ·refine h false ⟨fun z=>(by cases z),fun z=>?_⟩
   rw [ht.mpr z.1] at e1;cases e1
def qis (ds:List PyData) (q:PyData→Prop):Prop := ∃ (L:List (Int×List (List Int))) (W:Nat) (As:List (List PyData)) (j:Nat),ds=[.int j,.list (As.map .list)]∧(Shf L W∧AnsM L As∧j<L.length) ∧ ∀ t,(t=true↔qvx L j)→q (.bool t)
theorem qpi:FnScope ["number","answers"] ["number","answers"] (defScope qef):=⟨rfl,rfl,rfl,by decide +kernel,rfl,by decide +kernel,by decide +kernel⟩
theorem qpe (F:Def K mg "is_outdone" qef ["number","answers"]) (T:Txt K mg cs)
 (O_outdoes:Ok P w K mg base "outdoes" 2 ["one","other","answers"] (PSp K qnc))
 : Ok P w K mg base "is_outdone" 3 ["number","answers"] (PSp K qis):=by
  refine F.vok qpi (by rintro ds q ⟨_,_,_,_,h,_⟩;rw [h];rfl) fun f cdv A outer s H E hr ds q h=>?_
  obtain ⟨L,W,As,j,rfl,⟨hS,hA,hj⟩,h⟩:=h
  refine ⟨_,(qh (qv (qr (zamb rfl) T.any_ L2.boot_any (qc (qT (qR (caps:=["number","answers"]) (own:=["other"]) (ix:=[0,1]) rfl ⟨rfl,rfl,rfl,rfl,rfl,rfl⟩ (qE T.range_ (qr qag T.len_ L2.boot_len (qc (qb 1) qf))) (fun _ _ _ _=>(qm (i:=2) (show List.Nodup (["number","answers","other"]:List Str) by decide))) (fun _ _ _ _=>(qx O_outdoes (hr.mono (by decide)) (qc (qb 2) (qc (qb 0) (qc (qb 1) qf))))))) qf)))),?_⟩
  have n2:=hS.n2
  have lA:(((As.map PyData.list).length:Nat):Int)=L.length:=by rw [List.length_map,hA.l]
  refine ⟨⟨by rw [lA];omega,by rw [lA];omega⟩,qo (by rw [qs,lA];omega),fun k ys e=>(∃ bs:List Bool,ys=bs.map .bool∧(bs.any id=true ↔ ∃ i,i<k∧qls L i j)) ∧ ∃ v,e=[.val (.int j),.val (.list (As.map .list)),v],⟨⟨[],rfl,by simp⟩,_,rfl⟩,?_,?_⟩
  ·rintro i x ys e hx ⟨⟨bs,rfl,hb⟩,v,rfl⟩
   obtain ⟨hi,rfl⟩:=qP hx
   rw [Int.zero_add]
   have hi':i<L.length:=by rw [lA] at hi;omega
   refine ⟨L,W,As,i,j,rfl,⟨hS,hA,hi',hj⟩,fun t ht=>⟨⟨bs++[t],by simp,?_⟩,_,rfl⟩⟩
   rw [List.any_append,Bool.or_eq_true,hb]
   constructor
   ·rintro (⟨k,hk,o⟩|z)
    ·exact ⟨k,by omega,o⟩
    ·exact ⟨i,by omega,ht.mp (by simpa using z)⟩
   ·rintro ⟨k,hk,o⟩
    by_cases e:k=i
    ·subst e;right;simpa using ht.mpr o
    ·exact .inl ⟨k,by omega,o⟩
  ·rintro ys e ⟨⟨bs,rfl,hb⟩,v,rfl⟩
   rw [qs,lA,Int.toNat_natCast] at hb
   refine ⟨bs,rfl,?_⟩
   exact h _ hb
structure ByOf (L:List (Int×List (List Int))) (fs:List Nat) (j t:Nat):Prop where
 k : ∃ k:Nat,fs[k]?=some t ∧ ∀ k' t',k'<k→fs[k']?=some t' → ¬ DLi L t' j
 d:DLi L t j
def dNs (fs:List Nat):PyData :=.list (fs.map fun (k:Nat) => .int k)
def TRow (L:List (Int×List (List Int))) (fs:List Nat) (j:Nat) (d:PyData):Prop := ∃ (t:Nat) (B:Int) (D:List (List Int)),ByOf L fs j t∧(∀ g h,L[t]?=some g→L[j]?=some h→Dls g.1 g.2 (wd g) h.1 h.2 (wd h) B D)∧d = .tuple [.int j,.int t,qat B D]
structure TopsOk (L:List (Int×List (List Int))) (ou:Nat→Bool) (fs:List Nat) (rs:List PyData):Prop where
 o : ∀ i,ou i=true↔qvx L i
 f:fs=(List.range L.length).filter fun i => !ou i
 l:rs.length=((List.range L.length).filter ou).length
 r : ∀ (k j:Nat) d,((List.range L.length).filter ou)[k]?=some j→rs[k]?=some d→TRow L fs j d
theorem qba {α:Type}{p:α→Bool}{l:List α}{i:Nat}{x:α} (h:l[i]?=some x):(l.take (i+1)).filter p=(l.take i).filter p++if p x then [x] else []:=by
 rw [List.take_add_one,h,List.filter_append]
 congr 1
 show [x].filter p=_
 by_cases q:p x=true
 ·rw [if_pos q,List.filter_cons_of_pos q];rfl
 ·rw [if_neg q,List.filter_cons_of_neg q];rfl
theorem zadq {n i:Nat}{ou:Nat→Bool} (hi:i<n):(((List.range n).filter fun i => !ou i).map fun (k:Nat)=>(k:Int)).any (· == (i:Int)) = !ou i:=by
 rw [Bool.eq_iff_iff,List.any_eq_true]
 constructor
 ·rintro ⟨x,hx,e⟩
  obtain ⟨k,hk,rfl⟩:=List.mem_map.mp hx
  have e:(k:Int)=i:=by simpa using e
  have:k=i:=by omega
  subst this
  exact (List.mem_filter.mp hk).2
 ·intro h
  exact ⟨(i:Int),List.mem_map.mpr ⟨i,List.mem_filter.mpr ⟨List.mem_range.mpr hi,h⟩,rfl⟩,by simp⟩
def qqm (ds:List PyData) (q:PyData→Prop):Prop := ∃ (L:List (Int×List (List Int))) (W:Nat) (As:List (List PyData)) (fs:List Nat) (j:Nat),ds=[.int j,dNs fs,.list (As.map .list)]∧(Shf L W∧AnsM L As∧j<L.length∧fs.length≤5∧(∀ t ∈ fs,t<L.length) ∧ ∃ t ∈ fs,DLi L t j) ∧
 ∀ (t:Nat) (B:Int) (D:List (List Int)),ByOf L fs j t→(∀ g h,L[t]?=some g→L[j]?=some h→Dls g.1 g.2 (wd g) h.1 h.2 (wd h) B D)→q (.tuple [.int j,.int t,qat B D])
theorem qqy:FnScope ["number","found","answers","by"] ["number","found","answers"] (defScope qko):=⟨rfl,rfl,rfl,by decide +kernel,rfl,by decide +kernel,by decide +kernel⟩
theorem qyy (F:Def K mg "row_of" qko ["number","found","answers"]) (T:Txt K mg cs)
 (O_dulls_so:Ok P w K mg base "dulls_so" 1 ["one","other","answers"] (PSp K qhr))
 : Ok P w K mg base "row_of" 2 ["number","found","answers"] (PSp K qqm):=by
  refine F.vok qqy (by rintro ds q ⟨_,_,_,_,_,h,_⟩;rw [h];rfl) fun f cdv A outer s H E hr ds q h=>?_
  obtain ⟨L,W,As,fs,j,rfl,⟨hS,hA,hj,hf,hfL,hex⟩,h⟩:=h
  refine ⟨_,(qg (qC (i:=3) qqy.nd (qq (qT (qic (caps:=["number","answers"]) (own:=["top"]) (ix:=[0,2]) rfl ⟨rfl,rfl,rfl,rfl,rfl,rfl⟩ (qQ (qb 1)) (fun _ _ _ _=>(qm (i:=2) (show List.Nodup (["number","answers","top"]:List Str) by decide))) (fun _ _ _ _=>(qY (qx O_dulls_so (hr.mono (by decide)) (qc (qb 2) (qc (qb 0) (qc (qb 1) qf)))))) (fun _ _ _ _=>(qb 2)))) qe))
   (qh (qv (qfe (qc (qb 0) (qc (qb 3) (qc (qq (qq (qq (qb 2) (qb 3)) (qb 0)) qe) qf))))))),?_⟩
  have n2:=hS.n2
  refine ⟨qo (by rw [List.length_map];omega),fun k ys e=>((ys=[] ∧ ∀ k' t',k'<k→fs[k']?=some t' → ¬ DLi L t' j) ∨ ∃ (t:Nat) (rest:List PyData),ys = .int t::rest∧ByOf L fs j t) ∧ ∃ v,e=[.val (.int j),.val (.list (As.map .list)),v],⟨.inl ⟨rfl,fun k' t' z=>by omega⟩,_,rfl⟩,?_,?_⟩
  ·rintro i x ys e hx ⟨hy,v,rfl⟩
   rw [List.getElem?_map] at hx
   cases ei:fs[i]? with
   | none=>rw [ei] at hx;cases hx
   | some t =>
   rw [ei] at hx
   have hx:some (PyData.int t)=some x:=hx
   injection hx with hx
   subst hx
   refine ⟨L,W,As,t,j,rfl,⟨hS,hA,hfL t (List.mem_of_getElem? ei),hj⟩,fun b hb=>iteB (fun e1=>⟨?_,_,rfl⟩) (fun e1=>⟨?_,_,rfl⟩)⟩
   ·right
    rcases hy with ⟨rfl,hn⟩|⟨t0,rest,rfl,h0⟩
    ·exact ⟨t,[],rfl,⟨i,ei,hn⟩,hb.mp e1⟩
    ·exact ⟨t0,rest++[.int t],rfl,h0⟩
   ·rcases hy with ⟨rfl,hn⟩|hy
    ·refine .inl ⟨rfl,fun k' t' z et=>?_⟩
     by_cases e:k'=i
     ·subst e
      rw [ei] at et
      injection et with et
      subst et
      intro y
      rw [hb.mpr y] at e1;cases e1
     ·exact hn k' t' (by omega) et
    ·exact .inr hy
  rintro ys e ⟨hy,v,rfl⟩
  rw [List.length_map] at hy
  rcases hy with ⟨rfl,hn⟩|⟨t,rest,rfl,ht⟩
  ·exfalso
   obtain ⟨t,tm,td⟩:=hex
   obtain ⟨k,hk⟩:=List.getElem?_of_mem tm
   exact hn k t (List.getElem?_eq_some_iff.mp hk).1 hk td
  obtain ⟨k,ek,_⟩:=ht.k
  have htL:=hfL t (List.mem_of_getElem? ek)
  obtain ⟨g,k',as,d,e1,e2,e3,e4,hd⟩:=hA.at htL hj
  have b1:=(hS.g g (List.mem_of_getElem? e1)).h.t.pos
  have b2:=(hS.g k' (List.mem_of_getElem? e2)).h.t.pos
  have a1:atI (As.map PyData.list) (t:Int)=some (.list as):=qM (by rw [List.getElem?_map,e3];rfl)
  have a2:atI as (j:Int)=some d:=qM e4
  rcases hd with ⟨B,D,hD,rfl⟩|⟨Y,hY,rfl⟩
  ·refine ⟨_,qas _ _,_,a1,_,a2,_,rfl,szl,h t B D ht fun g2 h2 x1 x2=>?_⟩
   rw [e1] at x1
   rw [e2] at x2
   injection x1 with x1
   injection x2 with x2
   subst x1 x2
   exact hD
  ·exfalso
   obtain ⟨g2,k2,x1,x2,B,D,hD⟩:=ht.d
   rw [e1] at x1
   rw [e2] at x2
   injection x1 with x1
   injection x2 with x2
   subst x1 x2
   exact qsu (by omega) (by omega) hD hY
def qxj (ds:List PyData) (q:PyData→Prop):Prop := ∃ (L:List (Int×List (List Int))) (W:Nat),ds=[.list (L.map dG)]∧Shf L W ∧ ∀ ou fs rs,TopsOk L ou fs rs→q (.tuple [dNs fs,.list rs])
def TopSp (K:PySem.W.Frag) (sp:DC):Sp:=fun vs H Q _ => ∃ F ds q,Same F H∧Iss K F ds vs∧sp ds q ∧
 ∀ d p l1 l2 xs1 xs2 F' H',Go F H F' H'→Is K F' d (.ref p)→H' p=some (.tup [.ref l1,.ref l2])→H l1=none→H l2=none→H' l1=some (.lst xs1)→H' l2=some (.lst xs2)→l1≠l2→xs1.length≤900→xs2.length≤900→q d→Q (.ref p) H'
theorem TopSp.psp {K:PySem.W.Frag}{sp:DC}{vs:List V}{H:Hp}{Q:VK}{E:XK} (h:PSp K sp vs H Q E):TopSp K sp vs H Q E:=by
 obtain ⟨F,ds,q,s,i,h,k⟩:=h
 exact ⟨F,ds,q,s,i,h,fun d p l1 l2 xs1 xs2 F' H' g j _ _ _ _ _ _ _ _ z=>k d (.ref p) F' H' g j z⟩
theorem zake {P:Program}{w:World}{K:PySem.W.Frag}{mg:Str→Option Value}{base:Heap}{x:Str}{k:Nat}{ps:List Str}{sp:DC} (O:Ok P w K mg base x k ps (TopSp K sp)):Ok P w K mg base x k ps (PSp K sp):=O.imp' fun _ _ _ _ z=>TopSp.psp z
theorem zakl (L:List (Int×List (List Int))) : ∃ ou:Nat→Bool,∀ i,ou i=true↔qvx L i:=⟨fun i => @decide (qvx L i) (Classical.propDecidable _),fun i => @decide_eq_true_iff (qvx L i) (Classical.propDecidable _)⟩
theorem qnv:FnScope ["shelf","answers","found","rest"] ["shelf"] (defScope qtj):=⟨rfl,rfl,rfl,by decide +kernel,rfl,by decide +kernel,by decide +kernel⟩
theorem zaet (F:Def K mg "tops" qtj ["shelf"]) (T:Txt K mg cs)
 (O_check_shelf:Ok P w K mg base "check_shelf" 3 ["shelf"] (PSp K qhk))
 (O_compared_with_all:Ok P w K mg base "compared_with_all" 7 ["glass","shelf"] (PSp K zacz))
 (O_is_outdone:Ok P w K mg base "is_outdone" 3 ["number","answers"] (PSp K qis))
 (O_row_of:Ok P w K mg base "row_of" 2 ["number","found","answers"] (PSp K qqm))
 : Ok P w K mg base "tops" 8 ["shelf"] (TopSp K qxj):=by
  refine F.ok qnv (by rintro vs H Q E ⟨F,ds,q,_,i,⟨_,_,h,_⟩,_⟩;rw [i.len,h];rfl) fun f cdv A outer s H vs Q E hr h=>?_
  obtain ⟨F0,ds,q,sm,hi,⟨L,W,rfl,hS,k1⟩,kk⟩:=h
  obtain ⟨ou,hou⟩:=zakl L
  refine ⟨_,qz (VS.ps (qgz (qx O_check_shelf (hr.mono (by decide)) (qc (qb 0) qf)))) (qz (VS.ps (qC (i:=1) qnv.nd (qT (qR (caps:=["shelf"]) (own:=["glass"]) (ix:=[0]) rfl ⟨rfl,rfl,rfl,rfl,rfl,rfl⟩ (qQ (qb 0)) (fun _ _ _ _=>(qm (i:=1) (show List.Nodup (["shelf","glass"]:List Str) by decide))) (fun _ _ _ _=>(qx O_compared_with_all (hr.mono (by decide)) (qc (qb 1) (qc (qb 0) qf))))))))
   (qz (qgf (i:=2) qnv.nd rfl (by first|exact Or.inl rfl|exact Or.inr rfl) (VF.pe (qic (caps:=["answers"]) (own:=["number"]) (ix:=[1]) rfl ⟨rfl,rfl,rfl,rfl,rfl,rfl⟩ (qE T.range_ (qr qag T.len_ L2.boot_len (qc (qb 0) qf))) (fun _ _ _ _=>(qm (i:=1) (show List.Nodup (["answers","number"]:List Str) by decide))) (fun _ _ _ _=>(qah (qY (qx O_is_outdone (hr.mono (by decide)) (qc (qb 1) (qc (qb 0) qf)))))) (fun _ _ _ _=>(qb 1)))) rfl (by first|exact .inl rfl|exact .inr rfl))
   (qz (qza (i:=3) (caps:=["found"]) (own:=["number"]) (ix:=[2]) qnv.nd rfl ⟨rfl,rfl,rfl,rfl,rfl,rfl⟩ (qE T.range_ (qr qag T.len_ L2.boot_len (qc (qb 0) qf))) (fun _ _ _ _=>(qm (i:=1) (show List.Nodup (["found","number"]:List Str) by decide))) (fun _ _ _ _=>(qA qve (qb 1) (qb 0))) (fun _ _ _ _=>(qb 1)))
   (qfh (qke (qtf (qL (qG (i:=2) rfl (by first|exact Or.inl rfl|exact Or.inr (Or.inl rfl)|exact Or.inr (Or.inr rfl)) (by decide) (by decide)) (qL (VF.pe (qR (caps:=["answers","found"]) (own:=["number"]) (ix:=[1,2]) rfl ⟨rfl,rfl,rfl,rfl,rfl,rfl⟩ (qQ (qb 3)) (fun _ _ _ _=>(qm (i:=2) (show List.Nodup (["answers","found","number"]:List Str) by decide))) (fun _ _ _ _=>(qx O_row_of (hr.mono (by decide)) (qc (qb 2) (qc (qb 1) (qc (qb 0) qf))))))) qbp)))))))),?_⟩
  refine ⟨⟨H,H,F0⟩,_,F0,{ nx:=fun e=>e=[.val (.list (L.map dG)),.non,.non,.non],rt:=fun _ _=>False },qfd sm hi,?_,⟨fun e1 F1 H1 σ1 I1 s1 q1=>?_,fun _ _ _ _ _ _ _ _ _ q=>q.elim,fun _ _ _ _ _ _ q=>q.elim,fun _ _ _ _ _ _ q=>q.elim⟩⟩
  ·exact ⟨L,W,rfl,hS,rfl⟩
  have q1:e1=_:=q1
  subst q1
  refine ⟨⟨H,H,F0⟩,_,F1,{ nx:=fun e => ∃ As,AnsM L As∧e=[.val (.list (L.map dG)),.val (.list (As.map .list)),.non,.non],rt:=fun _ _=>False },I1,?_,⟨fun e2 F2 H2 σ2 I2 s2 q2=>?_,fun _ _ _ _ _ _ _ _ _ q=>q.elim,fun _ _ _ _ _ _ q=>q.elim,fun _ _ _ _ _ _ q=>q.elim⟩⟩
  ·have n2:=hS.n2
   refine ⟨qo (by rw [List.length_map];omega),fun k ys e=>(∃ Bs:List (List PyData),ys=Bs.map .list∧Bs.length=k ∧ ∀ (i:Nat) g as,L[i]?=some g→Bs[i]?=some as→AnsL g L as) ∧ ∃ v,e=[.val (.list (L.map dG)),v],⟨⟨[],rfl,rfl,by simp⟩,_,rfl⟩,?_,?_⟩
   ·rintro i x ys e hx ⟨⟨Bs,rfl,hl,ha⟩,v,rfl⟩
    obtain ⟨g,hg,rfl⟩:=trow_get' hx
    refine ⟨L,W,g,rfl,⟨hS,hS.g g (List.mem_of_getElem? hg)⟩,fun as has=>⟨⟨Bs++[as],by simp,by simp [hl],fun j k2 d2 h1 h2=>?_⟩,_,rfl⟩⟩
    by_cases q:j<Bs.length
    ·rw [List.getElem?_append_left q] at h2;exact ha j k2 d2 h1 h2
    ·rw [List.getElem?_append_right (by omega)] at h2
     have:j-Bs.length=0:=by
      rcases Nat.eq_zero_or_pos (j-Bs.length) with z|z
      ·exact z
      ·rw [List.getElem?_eq_none (by simp;omega)] at h2;cases h2
     rw [this] at h2
     have e1:as=d2:=Option.some.inj h2
     have e2:j=i:=by omega
     rw [e2,hg] at h1
     injection h1 with h1
     rw [← e1,← h1];exact has
   ·rintro ys e ⟨⟨Bs,rfl,hl,ha⟩,v,rfl⟩
    rw [List.length_map] at hl
    exact ⟨Bs,⟨hl,ha⟩,rfl⟩
  obtain ⟨As,hA,rfl⟩:=q2
  have n2:=hS.n2
  obtain ⟨x0,_,rfl,⟨v0,rfl,i0⟩,x1,_,rfl,⟨v1,rfl,i1⟩,x2,_,rfl,_,x3,_,rfl,_,rfl⟩:=I2.all
  have lL:(((L.map dG).length:Nat):Int)=L.length:=by rw [List.length_map]
  obtain ⟨fs,efs⟩ : ∃ fs,fs=(List.range L.length).filter fun i => !ou i:=⟨_,rfl⟩
  have fsl:fs.length≤5:=by
   have:=List.length_filter_le (fun i => !ou i) (List.range L.length)
   rw [← efs,List.length_range] at this
   omega
  refine ⟨⟨H,H,F0⟩,_,F2,fun ds e=>ds=fs.map fun (k:Nat)=>PyData.int k,I2,?_,fun a xs1 ds F3 H3 e3 I3 s3 h1 h2 h3 h4 h5 h6 h7=>?_⟩
  ·refine ⟨⟨by rw [lL];omega,by rw [lL];omega⟩,qo (by rw [qs,lL];omega),fun k ys e=>ys=(((List.range L.length).take k).filter fun i => !ou i).map (fun (k:Nat)=>PyData.int k) ∧ ∃ v,e=[.val (.list (As.map .list)),v],⟨by simp,_,rfl⟩,?_,?_⟩
   ·rintro i x ys e hx ⟨rfl,v,rfl⟩
    obtain ⟨hi,rfl⟩:=qP hx
    rw [Int.zero_add]
    have hi':i<L.length:=by rw [lL] at hi;omega
    have er:=List.getElem?_range hi'
    refine ⟨L,W,As,i,rfl,⟨hS,hA,hi'⟩,fun t ht=>?_⟩
    have et:t=ou i:=by
     rw [Bool.eq_iff_iff,ht,hou]
    cases t with
    | false =>
     refine ⟨?_,_,rfl⟩
     rw [qba er,List.map_append,if_pos (by rw [← et];rfl)];rfl
    | true =>
     refine ⟨?_,_,rfl⟩
     rw [qba er,List.map_append,if_neg (by rw [← et];simp)];simp
   ·rintro ys e ⟨rfl,v,rfl⟩
    rw [qs,lL,Int.toNat_natCast,List.take_of_length_le (by simp),← efs]
  have h7:ds=_:=h7
  subst h7
  have h4:H a=none:=h4
  have g3:=qta I3.goOf h4 h1
  have sn:Same F3 (upd F3 a (.lst xs1)):=qjc I3.fh h1
  have ia:Is K (upd F3 a (.lst xs1)) (dNs fs) (.ref a):=qcq (SqL.of qp) (h6.mono sn)
  obtain ⟨rest,erest⟩ : ∃ rest,rest=(List.range L.length).filter ou:=⟨_,rfl⟩
  have rl:rest.length≤5:=by
   have:=List.length_filter_le ou (List.range L.length)
   rw [← erest,List.length_range] at this
   omega
  have J0:=(i0.mono s3).mono sn
  have J1:=(i1.mono s3).mono sn
  refine ⟨⟨H3,H3,upd F3 a (.lst xs1)⟩,[.val (.list (L.map dG)),.val (.list (As.map .list)),.val (dNs fs),.non],_,fun ds e=>ds=rest.map fun (k:Nat)=>PyData.int k,qtc g3.fh ⟨_,_,rfl,⟨⟨v0,rfl,J0⟩,rfl⟩,_,_,rfl,⟨⟨v1,rfl,J1⟩,rfl⟩,_,_,rfl,⟨⟨_,rfl,ia⟩,rfl⟩,_,_,rfl,⟨trivial,rfl⟩,rfl⟩,?_,fun a2 xs3 ds F5 H5 e5 I5 s5 k1' k2' k3' k4' k5' k6' k7'=>?_⟩
  ·refine ⟨⟨by rw [lL];omega,by rw [lL];omega⟩,qo (by rw [qs,lL];omega),fun k ys e=>ys=(((List.range L.length).take k).filter ou).map (fun (k:Nat)=>PyData.int k) ∧ ∃ v,e=[.val (dNs fs),v],⟨by simp,_,rfl⟩,?_,?_⟩
   ·rintro i x ys e hx ⟨rfl,v,rfl⟩
    obtain ⟨hi,rfl⟩:=qP hx
    rw [Int.zero_add]
    have hi':i<L.length:=by rw [lL] at hi;omega
    have er:=List.getElem?_range hi'
    refine ⟨i,fs.map fun (k:Nat)=>(k:Int),rfl,by unfold dNs qlu;rw [List.map_map];rfl,?_⟩
    rw [efs,zadq hi',Bool.not_not]
    cases et:ou i with
    | true =>
     refine ⟨?_,_,rfl⟩
     rw [qba er,List.map_append,if_pos et];rfl
    | false =>
     refine ⟨?_,_,rfl⟩
     rw [qba er,List.map_append,if_neg (by rw [et];simp)];simp
   ·rintro ys e ⟨rfl,v,rfl⟩
    rw [qs,lL,Int.toNat_natCast,List.take_of_length_le (by simp),erest]
  have k7':ds=_:=k7'
  subst k7'
  have k4':H3 a2=none:=k4'
  have g5:=qta I5.goOf k4' k1'
  have sn5:Same F5 (upd F5 a2 (.lst xs3)):=qjc I5.fh k1'
  have ia2:Is K (upd F5 a2 (.lst xs3)) (dNs rest) (.ref a2):=qcq (SqL.of qp) (k6'.mono sn5)
  have H5a:H5 a=some (.lst xs1):=g5.h _ _ h1
  have g35:=g3.trans g5
  refine ⟨.ref a,rfl,⟨H5,H5,upd F5 a2 (.lst xs3)⟩,[.val (.list (L.map dG)),.val (.list (As.map .list)),.val (dNs fs),.val (dNs rest)],_,fun ds e=>ds.length=rest.length ∧ ∀ (k j:Nat) d,rest[k]?=some j→ds[k]?=some d→TRow L fs j d,qtc g5.fh ⟨_,_,rfl,⟨⟨v0,rfl,J0.mono g5.f⟩,rfl⟩,_,_,rfl,⟨⟨v1,rfl,J1.mono g5.f⟩,rfl⟩,_,_,rfl,⟨⟨_,rfl,ia.mono g5.f⟩,rfl⟩,_,_,rfl,⟨⟨_,rfl,ia2⟩,rfl⟩,rfl⟩,?_,fun b xs2 ds F6 H6 e6 I6 s6 b1 b2 b3 b4 b5 b6 b7=>?_⟩
  ·refine ⟨qo (by rw [List.length_map];omega),fun k ys e=>(ys.length=k ∧ ∀ (k j:Nat) d,rest[k]?=some j→ys[k]?=some d→TRow L fs j d) ∧ ∃ v,e=[.val (.list (As.map .list)),.val (dNs fs),v],⟨⟨rfl,by simp⟩,_,rfl⟩,?_,?_⟩
   ·rintro i x ys e hx ⟨⟨hl,ha⟩,v,rfl⟩
    rw [List.getElem?_map] at hx
    cases ei:rest[i]? with
    | none=>rw [ei] at hx;cases hx
    | some j =>
    rw [ei] at hx
    have hx:some (PyData.int j)=some x:=hx
    injection hx with hx
    subst hx
    have jm:=List.mem_of_getElem? ei
    rw [erest] at jm
    have hj:=List.mem_range.mp (List.mem_filter.mp jm).1
    have fL : ∀ t ∈ fs,t<L.length:=fun t ht=>by
     rw [efs] at ht
     exact List.mem_range.mp (List.mem_filter.mp ht).1
    have ex : ∃ t ∈ fs,DLi L t j:=by
     obtain ⟨t,tl,tn,td⟩:=hS.ex hj
     refine ⟨t,?_,td⟩
     rw [efs]
     refine List.mem_filter.mpr ⟨List.mem_range.mpr tl,?_⟩
     cases eo:ou t with
     | false=>rfl
     | true=>exact (tn ((hou t).mp eo)).elim
    refine ⟨L,W,As,fs,j,rfl,⟨hS,hA,hj,fsl,fL,ex⟩,fun t B D hb hd=>⟨⟨by simp [hl],fun k2 j2 d2 z1 z2=>?_⟩,_,rfl⟩⟩
    by_cases q:k2<ys.length
    ·rw [List.getElem?_append_left q] at z2;exact ha k2 j2 d2 z1 z2
    ·rw [List.getElem?_append_right (by omega)] at z2
     have:k2-ys.length=0:=by
      rcases Nat.eq_zero_or_pos (k2-ys.length) with z|z
      ·exact z
      ·rw [List.getElem?_eq_none (by simp;omega)] at z2;cases z2
     rw [this] at z2
     have e1:=Option.some.inj z2
     have e2:k2=i:=by omega
     rw [e2,ei] at z1
     injection z1 with z1
     subst z1
     exact ⟨t,B,D,hb,hd,e1.symm⟩
   ·rintro ys e ⟨⟨hl,ha⟩,v,rfl⟩
    rw [List.length_map] at hl
    exact ⟨hl,ha⟩
  obtain ⟨bl,br⟩:=(show ds.length=rest.length ∧ ∀ (k j:Nat) d,rest[k]?=some j→ds[k]?=some d→TRow L fs j d from b7)
  have b4:H5 b=none:=b4
  have g6:=qta I6.goOf b4 b1
  have g36:=g35.trans g6
  have sn6:Same F6 (upd F6 b (.lst xs2)):=qjc I6.fh b1
  have ib:Is K (upd F6 b (.lst xs2)) (.list ds) (.ref b):=qcq (SqL.of qp) (b6.mono sn6)
  refine ⟨szl,fun p hp=>?_⟩
  have g7:=Go.put (o:=HO.tup [.ref a,.ref b]) g36.fh hp
  have g37:=g36.trans g7
  have H6a:H6 a=some (.lst xs1):=g6.h _ _ H5a
  have na:a≠b:=ql H5a b4
  exact kk (.tuple [dNs fs,.list ds]) p a b xs1 xs2 _ _ g37 (qkc (SqT.of qp) (qy (((ia.mono g5.f).mono g6.f).mono g7.f) (qy (ib.mono g7.f) qO))) qp h4 (qH g35.h b4) (g7.h _ _ H6a) (g7.h _ _ b1) na (by rw [h6.len,List.length_map];omega) (by rw [b6.len,bl];omega) (k1 ou fs ds ⟨hou,efs,by rw [bl,erest],by rw [← erest];exact br⟩)
def penD (h:Int) (ns:List Int) (pos rest cnt:Int):List PyData:=[.int h,.list (ns.map .int),.int pos,.int rest,.int cnt]
def qbq (p:List PyData):Prop := ∃ (h:Int) (ns:List Int) (pos rest cnt:Int),p=penD h ns pos rest cnt∧(h=0∨(h=1∧ns≠[]))∧ns.length≤63∧0≤pos
def qlx (ds:List PyData) (q:List PyData→Prop):Prop := ∃ ns:List Int,ds=[.list (ns.map .int)]∧ns.length≤63 ∧ ∀ p,qbq p→q p
theorem qhp:FnScope ["_law_script","_law_head"] ["_law_script"] (defScope qgu):=⟨rfl,rfl,rfl,by decide +kernel,rfl,by decide +kernel,by decide +kernel⟩
theorem qtx (F:Def K mg "_law_pen" qgu ["_law_script"]) (T:Txt K mg cs)
 : Ok P w K mg base "_law_pen" 1 ["_law_script"] (FSp K qlx):=by
  refine F.vokF qhp (by rintro ds q ⟨_,h,_⟩;rw [h];rfl) fun f cdv A outer s H E hr ds q h=>?_
  obtain ⟨ns,rfl,hl,h⟩:=h
  refine ⟨_,(qg (qC (i:=1) qhp.nd qe)
   (qfg (qam (qA qxc (qr qag T.len_ L2.boot_len (qc (qb 0) qf)) qe) (qh (qC (i:=1) qhp.nd (qq (qb 0) qe))) qI)
   (qh (qhc (qcd (qc (qw qij (qb 1) qe) (qc (qb 0) (qc qe (qc (qw qhz (qb 1) qe) (qc qe qf)))))))))),?_⟩
  refine ⟨fun e => ∃ c:Int,e=[.val (.list (ns.map .int)),.val (.int c)]∧(ns=[]→c=0),?_,?_⟩
  ·refine qix (fun z=>?_) (fun z=>⟨0,rfl,fun _=>rfl⟩)
   have hn:0<ns.length:=by simpa using z
   obtain ⟨n,en⟩:=qoh (ns:=ns) (i:=0) (by decide) (by omega)
   refine ⟨_,en,n,rfl,fun z=>?_⟩
   rw [z] at hn;simp at hn
  ·rintro e ⟨c,rfl,hc⟩
   refine ⟨by decide,⟨by decide,by decide⟩,szl,_,rfl,h _ ⟨c%2,ns,0,c/2,0,rfl,?_,hl,by decide⟩⟩
   by_cases hn:ns=[]
   ·left;rw [hc hn];rfl
   ·have:c%2=0∨c%2=1:=by omega
    rcases this with z|z
    ·exact .inl z
    ·exact .inr ⟨z,hn⟩
def qir (ds0 ds:List PyData) (q:PyData→List PyData→Prop):Prop := ∃ (h:Int) (ns:List Int) (pos rest cnt:Int),ds0=penD h ns pos rest cnt∧ds=[]∧(ns≠[]∧ns.length≤63∧0≤pos) ∧ ∀ x:Int,q (.int x) (penD h ns (pos+1) rest cnt)
theorem qdl:FnScope ["_law_pen_here","_law_cell","_law_number"] ["_law_pen_here"] (defScope qej):=⟨rfl,rfl,rfl,by decide +kernel,rfl,by decide +kernel,by decide +kernel⟩
theorem qpu (F:Def K mg "_law_mixed" qej ["_law_pen_here"]) (T:Txt K mg cs)
 : Ok P w K mg base "_law_mixed" 1 ["_law_pen_here"] (NSp K qir):=by
  refine F.vokP qdl (by rintro ds0 ds q ⟨_,_,_,_,_,_,h,_⟩;rw [h];rfl) (by decide) fun f cdv A outer s H E hr ds0 ds q h=>?_
  obtain ⟨hh,ns,pos,rest,cnt,rfl,rfl,⟨hn,hl,hp⟩,h⟩:=h
  refine ⟨_,(qg (qhf 0 (qw qdu (qcf 0 qe) qe) qe)
   (qg (qC (i:=1) qdl.nd (qq (qcf 0 qe) (qw qij (qcf 0 qe) (qr qag T.len_ L2.boot_len (qc (qcf 0 qe) qf)))))
   (qg (qC (i:=2) qdl.nd (qw qij (qw qaw (qw qdu (qw qdu (qw qij (qb 1) qe) (qw qaw qe (qcf 0 qe))) qe) qe) qe))
   (qg (qC (i:=2) qdl.nd (qw qij (qw qaw (qb 2) (qw qdu (qw qdu (qw qij (qb 2) qe) (qcf 0 qe)) qe)) qe))
   (qh (qv (qw qhz (qw qij (qw qaw (qb 2) qe) qe) qe))))))),?_⟩
  have hn0:0<(((ns.map PyData.int).length:Nat):Int):=by
   have:=List.length_pos_iff.mpr hn
   simp;omega
  have hm0:=Int.emod_nonneg (pos+1) (show (((ns.map PyData.int).length:Nat):Int)≠0 by omega)
  have hm1:=Int.emod_lt_of_pos (pos+1) hn0
  obtain ⟨c,ec⟩:=qoh (ns:=ns) (i:=(pos+1)%(((ns.map PyData.int).length:Nat):Int)) hm0 (by simpa using hm1)
  refine ⟨rfl,rfl,_,rfl,rfl,rfl,2,rfl,?_⟩
  refine ⟨rfl,rfl,_,rfl,rfl,rfl,_,rfl,rfl,rfl,_,rfl,hn0,_,ec,?_⟩
  refine ⟨by decide,rfl,rfl,_,rfl,IntMulOk.of_left (by decide),IntMulOk.of_right (by decide),by decide,?_⟩
  have b0:0≤(c%2147483629+40503*(pos+1)+1)*48271%2147483647∧(c%2147483629+40503*(pos+1)+1)*48271%2147483647<2147483647:=⟨Int.emod_nonneg _ (by decide),Int.emod_lt_of_pos _ (by decide)⟩
  refine ⟨by decide,rfl,rfl,_,rfl,IntMulOk.of_left (qax (by omega) (by omega)),by decide,?_⟩
  exact ⟨IntMulOk.of_right (by decide),by decide,⟨by decide,by decide⟩,_,_,rfl,rfl,h _⟩
def qbd (ds0 ds:List PyData) (q:PyData→List PyData→Prop):Prop := ∃ m:Int,ds=[.int m]∧qbq ds0∧(0<m∧intBits m≤9000) ∧ ∀ (x:Int) (p:List PyData),0≤x→x<m→qbq p→q (.int x) p
theorem qjx:FnScope ["_law_pen_here","_law_many","_law_found"] ["_law_pen_here","_law_many"] (defScope qfo):=⟨rfl,rfl,rfl,by decide +kernel,rfl,by decide +kernel,by decide +kernel⟩
theorem qrp (F:Def K mg "_law_next" qfo ["_law_pen_here","_law_many"]) (T:Txt K mg cs)
 (O__law_mixed:Ok P w K mg base "_law_mixed" 1 ["_law_pen_here"] (NSp K qir))
 : Ok P w K mg base "_law_next" 2 ["_law_pen_here","_law_many"] (NSp K qbd):=by
  refine F.vokP qjx (by rintro ds0 ds q ⟨_,h,_⟩;rw [h];rfl) (by decide) fun f cdv A outer s H E hr ds0 ds q h=>?_
  obtain ⟨m,rfl,⟨hh,ns,pos,rest,cnt,rfl,h01,hl,hp⟩,⟨m0,mz⟩,h⟩:=h
  refine ⟨_,(qg (qam (qA (qms hr.units) (qcf 0 qe) qe) (qh (qv (qw qij (qap 0 O__law_mixed (hr.mono (by decide)) qf) (qb 1)))) qI)
   (qfg (qam (qA (qms hr.units) (qcf 0 qe) qe) (qg (qhf 0 (qw qdu (qcf 0 qe) qe) qe)
   (qg (qhf 0 qe qe)
   (qfg (qam (qA qql (qcf 0 qe) (qr qag T.len_ L2.boot_len (qc (qcf 0 qe) qf))) (qh (qhf 0 (qq (qcf 0 qe) (qcf 0 qe)) qe)) qI)
   (qh (qhf 0 qe qe))))) qI)
   (qg (qhf 0 (qw qdu (qcf 0 qe) qe) qe)
   (qg (qC (i:=2) qjx.nd (qw qij (qcf 0 qe) (qb 1)))
   (qg (qhf 0 (qw qhz (qcf 0 qe) (qb 1)) qe)
   (qh (qv (qb 2)))))))),?_⟩
  refine ⟨rfl,rfl,_,rfl,rfl,rfl,qhi (fun z=>?_) (fun z=>?_)⟩
  ·have hn:ns≠[]:=by
    rcases h01 with q|⟨_,q⟩
    ·omega
    ·exact q
   refine ⟨rfl,rfl,hh,ns,pos,rest,cnt,rfl,rfl,⟨hn,hl,hp⟩,fun x=>⟨m0,_,_,rfl,rfl,h _ _ (Int.emod_nonneg _ (by omega)) (Int.emod_lt_of_pos _ m0) ⟨hh,ns,pos+1,rest,cnt,rfl,h01,hl,by omega⟩⟩⟩
  ·refine ⟨fun e => ∃ pos rest cnt t,e=[.pen (penD hh ns pos rest cnt),.val (.int m),t]∧0≤pos,?_,?_⟩
   ·refine ⟨rfl,rfl,_,rfl,rfl,rfl,qhi (fun _=>?_) (fun _=>⟨pos,rest,cnt,_,rfl,hp⟩)⟩
    refine ⟨rfl,rfl,_,rfl,rfl,rfl,2,rfl,rfl,rfl,3,rfl,?_⟩
    refine ⟨fun e => ∃ rest t,e=[.pen (penD hh ns (pos+1) rest cnt),.val (.int m),t],?_,?_⟩
    ·refine ⟨rfl,rfl,_,rfl,rfl,rfl,_,rfl,qix (fun hlt=>?_) (fun _=>⟨_,_,rfl⟩)⟩
     obtain ⟨c,ec⟩:=qoh (ns:=ns) (i:=pos+1) (by omega) (by simpa using hlt)
     exact ⟨rfl,rfl,_,rfl,rfl,rfl,_,rfl,_,ec,rfl,rfl,3,rfl,_,_,rfl⟩
    ·rintro e ⟨rest,t,rfl⟩
     exact ⟨rfl,rfl,4,rfl,_,_,_,_,rfl,by omega⟩
   ·rintro e ⟨pos,rest,cnt,t,rfl,hp⟩
    refine ⟨rfl,rfl,_,rfl,rfl,rfl,4,rfl,?_⟩
    refine ⟨rfl,rfl,_,rfl,m0,?_⟩
    refine ⟨rfl,rfl,_,rfl,⟨m0,mz⟩,rfl,rfl,3,rfl,?_⟩
    exact ⟨_,_,rfl,rfl,h _ _ (Int.emod_nonneg _ (by omega)) (Int.emod_lt_of_pos _ m0) ⟨hh,ns,pos,_,_,rfl,h01,hl,hp⟩⟩
theorem qup (g:Nat) : ∀ (r:List Int) (h:Nat),qaq (Nat.gcd g h) r=Nat.gcd g (qaq h r)
 | [],h=>rfl
 | n::r,h=>by
  have e:Int.gcd ((Nat.gcd g h:Nat):Int) n=Nat.gcd g (Int.gcd (h:Int) n):=by
   show Nat.gcd (Nat.gcd g h) n.natAbs=Nat.gcd g (Nat.gcd h n.natAbs)
   exact Nat.gcd_assoc g h n.natAbs
  show qaq (Int.gcd ((Nat.gcd g h:Nat):Int) n) r=Nat.gcd g (qaq (Int.gcd (h:Int) n) r)
  rw [e,qup g r]
theorem zabc (g:Nat) (r:List Int):qaq g r=Nat.gcd g (qaq 0 r):=by
 have:=qup g r 0
 rwa [Nat.gcd_zero_right] at this
theorem qlf : ∀ (R:List (List Int)) (g:Nat),qaq g (R.map fun r=>((qaq 0 r:Nat):Int))=R.foldl qaq g
 | [],g=>rfl
 | r::R,g=>by
  show qaq (Int.gcd (g:Int) ((qaq 0 r:Nat):Int)) (R.map fun r=>((qaq 0 r:Nat):Int))=R.foldl qaq (qaq g r)
  rw [zabc g r]
  exact qlf R _
def qdz (ds:List PyData) (q:PyData→Prop):Prop := ∃ (d:PyData) (ns:List Int),ds=[d]∧qlu d=some (ns.map .int)∧q (.int (qaq 0 ns:Nat))
theorem qbe:FnScope ["_law_numbers","_law_found","_law_number","_law_other"] ["_law_numbers"] (defScope qcw):=⟨rfl,rfl,rfl,by decide +kernel,rfl,by decide +kernel,by decide +kernel⟩
theorem qmg (F:Def K mg "_law_divisor" qcw ["_law_numbers"]) (T:Txt K mg cs)
 : Ok P w K mg base "_law_divisor" 1 ["_law_numbers"] (PSp K qdz):=by
  refine F.vok qbe (by rintro ds q ⟨_,_,h,_⟩;rw [h];rfl) fun f cdv A outer s H E hr ds q h=>?_
  obtain ⟨d,ns,rfl,hd,h⟩:=h
  refine ⟨_,(qg (qC (i:=1) qbe.nd qe)
   (qg (qai rfl (qQ (qb 0)) (qm (i:=2) qbe.nd) (qg (qC (i:=3) qbe.nd (qr zady T.abs_ L2.boot_abs (qc (qb 2) qf)))
   (qh (qus (qA qxc (qb 3) qe) (qh (zaie (i:=1) (j:=3) rfl qbe.nd (qc (qb 3) (qc (qw qij (qb 1) (qb 3)) qf))))))))
   (qh (qv (qb 1))))),?_⟩
  refine qhw hd ⟨fun i e => ∃ t2 t3,e=[.val d,.val (.int (qaq 0 (ns.take i):Nat)),t2,t3],⟨_,_,rfl⟩,?_,?_⟩
  ·rintro i x e hx ⟨t2,t3,rfl⟩
   obtain ⟨n,rfl,h5,_⟩:=qbb hx
   refine ⟨fun m e => ∃ x y:Int,e=[.val d,.val (.int x),.val (.int n),.val (.int y)]∧0≤x∧0≤y∧Nat.gcd x.toNat y.toNat=qaq 0 (ns.take (i+1))∧m=y.toNat,⟨_,_,_,rfl,by omega,by split <;> omega,?_,rfl⟩,?_⟩
   ·rw [qra h5,qqk]
    have e1:(if n<0 then -n else n).toNat=n.natAbs:=by split <;> omega
    rw [e1];rfl
   ·rintro m e ⟨x,y,rfl,hx0,hy0,hg,rfl⟩
    refine qix (fun hgt=>?_) (fun hle=>?_)
    ·obtain ⟨t1,t2,t3⟩:=qux hx0 hy0 (by omega) hg
     exact ⟨by omega,(x%y).toNat,by omega,y,x%y,rfl,hy0,t1,t3,rfl⟩
    ·have hy:y=0:=by omega
     have:=qxy hx0 hy hg
     exact ⟨_,_,by rw [this]⟩
  ·rintro e ⟨t2,t3,rfl⟩
   rw [List.length_map,List.take_length]
   exact h
def qbf (ds:List PyData) (q:PyData→Prop):Prop := ∃ (b:Int) (R:List (List Int)) (n:Nat),ds=[.int b,qdb R]∧(Tab b R n∧R≠[]∧R.length≤900∧n≤900∧intBits b≤9000)∧q (qvi b R)
theorem qch:FnScope ["_law_bottom","_law_rows","_law_both","_law_found","_law_row_here"] ["_law_bottom","_law_rows"] (defScope qcy):=⟨rfl,rfl,rfl,by decide +kernel,rfl,by decide +kernel,by decide +kernel⟩
theorem qmd (F:Def K mg "_law_reduced" qcy ["_law_bottom","_law_rows"]) (T:Txt K mg cs)
 (O__law_divisor:Ok P w K mg base "_law_divisor" 1 ["_law_numbers"] (PSp K qdz))
 : Ok P w K mg base "_law_reduced" 2 ["_law_bottom","_law_rows"] (PSp K qbf):=by
  refine F.vok qch (by rintro ds q ⟨_,_,_,h,_⟩;rw [h];rfl) fun f cdv A outer s H E hr ds q h=>?_
  obtain ⟨b,R,n,rfl,⟨hT,hR,hl,hn,zb⟩,h⟩:=h
  refine ⟨_,(qg (qC (i:=2) qch.nd (qx O__law_divisor (hr.mono (by decide)) (qc (qT (qR (caps:=[]) (own:=["_law_row_here"]) (ix:=[]) rfl ⟨rfl,rfl,rfl,rfl,rfl,rfl⟩ (qQ (qb 1)) (fun _ _ _ _=>(qm (i:=0) (show List.Nodup (["_law_row_here"]:List Str) by decide))) (fun _ _ _ _=>(qx O__law_divisor (hr.mono (by decide)) (qc (qb 0) qf))))) qf)))
   (qg (qdc (i:=3) qch.nd (qcd qf))
   (qg (qai rfl (qQ (qb 1)) (qm (i:=4) qch.nd) (qh (qcb 3 (qff qjf T.tuple_ L2.boot_tuple (qc (qT (qR (caps:=["_law_both"]) (own:=["_law_number"]) (ix:=[2]) rfl ⟨rfl,rfl,rfl,rfl,rfl,rfl⟩ (qQ (qb 4)) (fun _ _ _ _=>(qm (i:=1) (show List.Nodup (["_law_both","_law_number"]:List Str) by decide))) (fun _ _ _ _=>(qw qhz (qb 1) (qb 0))))) qf)))))
   (qgd 3 (qh (qv (qfe (qc (qw qhz (qb 0) (qb 2)) (qc (qff qjf T.tuple_ L2.boot_tuple (qc (qb 3) qf)) qf))))))))),?_⟩
  have g0:=hT.gpos hR
  have zg:intBits (qbx R:Int)≤9000:=by
   refine intBits_le_of_natAbs ?_ zb
   have:=hT.pos
   exact Nat.le_of_dvd (by omega) (Int.natAbs_dvd_natAbs.mpr (hT.gdvd hR))
  show _∧_
  refine qbc (ds:=R.map qak) ((R.map fun r=>((qaq 0 r:Nat):Int)).map .int) (by simp) (qo (by simp;omega)) (fun e => ∃ s,e=[s]) ⟨_,rfl⟩ ?_ ?_
  ·rintro i x ys e hx hys ⟨s,rfl⟩
   obtain ⟨r,hr',rfl⟩:=qcm hx
   refine ⟨_,r,rfl,rfl,qt ?_ hys,_,rfl⟩
   rw [List.getElem?_map,List.getElem?_map,hr'];rfl
  ·refine ⟨_,_,rfl,rfl,?_⟩
   rw [qlf R 0]
   show (fun z=>z) _
   refine ⟨szl,⟨fun i e => ∃ t4 l,e=[.val (.int b),.val (qdb R),.val (.int (qbx R)),.own l,t4]∧l=((qfx R (qbx R)).take i).map qdy,⟨_,_,rfl,rfl⟩,?_,?_⟩⟩
   ·rintro i x e hx ⟨t4,l,rfl,rfl⟩
    obtain ⟨r,hr',rfl⟩:=qcm hx
    have hrl:=hT.len r (qyf hr')
    refine ⟨rfl,?_⟩
    show _∧_
    refine qbc ((r.map fun n=>n/(qbx R:Int)).map .int) (by simp) (qo (by simp;omega)) (fun e => ∃ s,e=[.val (.int (qbx R)),s]) ⟨_,rfl⟩ ?_ ⟨rfl,?_,?_⟩
    ·rintro j y ys e hy hys ⟨s,rfl⟩
     obtain ⟨z,rfl,hz,_⟩:=qbb hy
     refine ⟨⟨by omega,zg⟩,qt ?_ hys,_,rfl⟩
     rw [List.getElem?_map,List.getElem?_map,hz];rfl
    ·show (List.map qdy _).length<_
     rw [List.length_map]
     refine qo (Nat.le_trans (List.length_take_le' _ _) ?_)
     unfold qfx;rw [List.length_map];omega
    ·refine ⟨_,_,rfl,?_⟩
     have e2:(qfx R (qbx R))[i]?=some (r.map fun n=>n/(qbx R:Int)):=by unfold qfx;rw [List.getElem?_map,hr'];rfl
     rw [List.take_add_one,e2]
     simp only [Option.toList_some,List.map_append,List.map_cons,List.map_nil]
     rfl
   ·rintro e ⟨t4,l,rfl,rfl⟩
    have e3:(R.map qak).length=(qfx R (qbx R)).length:=by simp [qfx]
    rw [e3,List.take_length]
    exact ⟨⟨by omega,zg⟩,szl,h⟩
def qhs (ds0 ds:List PyData) (q:PyData→List PyData→Prop):Prop := ∃ (wd:Nat) (b:Int),ds=[.int wd,.int b]∧qbq ds0∧(1≤wd∧wd≤60∧1≤b∧b≤999999) ∧ ∀ (r:List Int) (p:List PyData),r.length=wd→(∀ x ∈ r,0≤x)→r.sum=b→qbq p→q (qak r) p
theorem qlq:FnScope ["_law_pen_here","_law_width","_law_bottom","_law_cuts"] ["_law_pen_here","_law_width","_law_bottom"] (defScope qgq):=⟨rfl,rfl,rfl,by decide +kernel,rfl,by decide +kernel,by decide +kernel⟩
theorem qtv (F:Def K mg "_law_row" qgq ["_law_pen_here","_law_width","_law_bottom"]) (T:Txt K mg cs)
 (O__law_next:Ok P w K mg base "_law_next" 2 ["_law_pen_here","_law_many"] (NSp K qbd))
 : Ok P w K mg base "_law_row" 3 ["_law_pen_here","_law_width","_law_bottom"] (NSp K qhs):=by
  refine F.vokP qlq (by rintro ds0 ds q ⟨_,_,h,_⟩;rw [h];rfl) (by decide) fun f cdv A outer s H E hr ds0 ds q h=>?_
  obtain ⟨wd,b,rfl,hP,⟨w1,w2,b1,b2⟩,h⟩:=h
  refine ⟨_,(qg (qC (i:=3) qlq.nd (qT (zabz zaao T.sorted_ L2.boot_sorted (qc (qT (qui (caps:=["_law_pen_here","_law_bottom"]) (own:=["_law_k"]) (ix:=[0,2]) (i0:=0) (j0:=0) rfl ⟨rfl,rfl,rfl,rfl,rfl,rfl⟩ (qE T.range_ (qw qvz (qb 1) qe)) (fun _ _ _ _=>(qm (i:=2) (show List.Nodup (["_law_pen_here","_law_bottom","_law_k"]:List Str) by decide))) (fun _ _ _ _=>(qap 0 O__law_next (hr.mono (by decide)) (qc (qw qdu (qb 1) qe) qf))) (qor rfl))) qf))))
   (qh (qv (qT (qR (caps:=[]) (own:=["_law_low","_law_high_here"]) (ix:=[]) rfl ⟨rfl,rfl,rfl,rfl,rfl,rfl⟩ (qje T.zip_ (qT (qpy (qT (qcd (qc qe qf))) (qb 3))) (qT (qpy (qb 3) (qT (qcd (qc (qb 2) qf)))))) (fun _ _ _ _=>(qft (n:=2) rfl (qK (qm (i:=0) (show List.Nodup (["_law_low","_law_high_here"]:List Str) by decide)) (qK (qm (i:=1) (show List.Nodup (["_law_low","_law_high_here"]:List Str) by decide)) qdd)))) (fun _ _ _ _=>(qw qvz (qb 1) (qb 0)))))))),?_⟩
  refine ⟨⟨by omega,by omega⟩,?_⟩
  refine ⟨qo (by rw [qs];omega),rfl,fun i ys e => ∃ cs:List Int,ys=cs.map .int∧cs.length=i∧(∀ c ∈ cs,0≤c∧c≤b) ∧ ∃ p t,qbq p∧e=[.pen p,.val (.int b),t],⟨[],rfl,rfl,by simp,_,_,hP,rfl⟩,?_,?_⟩
  ·rintro i d ys e hd ⟨cs,rfl,hc1,hc2,p,t,hp,rfl⟩
   refine ⟨rfl,rfl,b+1,rfl,hp,⟨by omega,qB (qax (by omega) (by omega)) (by decide)⟩,fun x p' x0 x1 hp'=>?_⟩
   refine ⟨cs++[x],by simp,by simp [hc1],fun c hc=>?_,p',_,hp',rfl⟩
   rcases List.mem_append.mp hc with hc|hc
   ·exact hc2 c hc
   ·rw [List.mem_singleton.mp hc];omega
  ·rintro ys e ⟨cs,rfl,hc1,hc2,p,t,hp,rfl⟩
   rw [qs] at hc1
   refine ⟨p,rfl,cs,rfl,by omega,fun ns hperm hsort=>?_⟩
   have hn : ∀ c ∈ ns,0≤c∧c≤b:=fun c hc=>hc2 c (hperm.mem_iff.mp hc)
   have hl:=hperm.length_eq
   obtain ⟨d1,d2,d3⟩:=quo ns 0 b hsort hn (by omega)
   refine ⟨szl,?_,szl,?_,?_⟩
   ·simp only [List.length_map,List.length_cons,List.length_nil];exact qeb (by omega)
   ·simp only [List.length_map,List.length_cons,List.length_nil];exact qeb (by omega)
   show _∧_
   have ea:[PyData.int 0]++ns.map PyData.int=(0::ns).map PyData.int:=rfl
   have eb:ns.map PyData.int++[PyData.int b]=(ns++[b]).map PyData.int:=by simp
   rw [ea,eb]
   refine qbc ((qog 0 ns b).map .int) (by simp [qcl,d1]) (qo (by rw [List.length_map,d1];omega)) (fun e => ∃ s t,e=[s,t]) ⟨_,_,rfl⟩ ?_ ⟨_,_,rfl,rfl,h _ p (by omega) d2 (by omega) hp⟩
   rintro i x ys e hx hys ⟨s,t,rfl⟩
   obtain ⟨x,y,h3,h4,rfl⟩:=qge hx
   obtain ⟨x,rfl,h5,_⟩:=qbb h3
   obtain ⟨y,rfl,h6,_⟩:=qbb h4
   refine ⟨rfl,rfl,qt ?_ hys,_,_,rfl⟩
   unfold qog
   rw [List.getElem?_map,List.getElem?_zipWith,h5,h6];rfl
def qfs (ds0 ds:List PyData) (q:PyData→List PyData→Prop):Prop := ∃ (b:Int) (R:List (List Int)) (n:Nat),ds=[qdb R]∧qbq ds0∧(Tab b R n∧1≤R.length∧R.length≤60∧1≤n∧n≤60∧b≤999999) ∧ ∀ (k:Int) (R':List (List Int)) (p:List PyData),2≤k→k≤4→Tab (b*k) R' (n+1)→R'.length=R.length→qbq p→q (qdb R') p
theorem qad:FnScope ["_law_pen_here","_law_rows","_law_at","_law_parts","_law_some","_law_to","_law_found","_law_row_here","_law_wide"] ["_law_pen_here","_law_rows"] (defScope qee):=⟨rfl,rfl,rfl,by decide +kernel,rfl,by decide +kernel,by decide +kernel⟩
theorem qpx (F:Def K mg "_law_split" qee ["_law_pen_here","_law_rows"]) (T:Txt K mg cs)
 (O__law_next:Ok P w K mg base "_law_next" 2 ["_law_pen_here","_law_many"] (NSp K qbd))
 : Ok P w K mg base "_law_split" 3 ["_law_pen_here","_law_rows"] (NSp K qfs):=by
  refine F.vokP qad (by rintro ds0 ds q ⟨_,_,_,h,_⟩;rw [h];rfl) (by decide) fun f cdv A outer s H E hr ds0 ds q h=>?_
  obtain ⟨b,R,n,rfl,hP,⟨hT,r1,r2,n1,n2,hb⟩,h⟩:=h
  refine ⟨_,(qg (qC (i:=2) qad.nd (qap 0 O__law_next (hr.mono (by decide)) (qc (qr qag T.len_ L2.boot_len (qc (qq (qb 1) qe) qf)) qf)))
   (qg (qC (i:=3) qad.nd (qw qdu qe (qap 0 O__law_next (hr.mono (by decide)) (qc qe qf))))
   (qg (qC (i:=4) qad.nd (qw qdu qe (qap 0 O__law_next (hr.mono (by decide)) (qc (qw qvz (qb 3) qe) qf))))
   (qg (qC (i:=5) qad.nd (qap 0 O__law_next (hr.mono (by decide)) (qc (qw qdu (qr qag T.len_ L2.boot_len (qc (qq (qb 1) qe) qf)) qe) qf)))
   (qg (qdc (i:=6) qad.nd (qcd qf))
   (qg (qai rfl (qQ (qb 1)) (qm (i:=7) qad.nd) (qg (qkn (caps:=["_law_parts"]) (own:=["_law_number"]) (ix:=[3]) (i:=8) qad.nd rfl ⟨rfl,rfl,rfl,rfl,rfl,rfl⟩ (qQ (qb 7)) (fun _ _ _ _=>(qm (i:=1) (show List.Nodup (["_law_parts","_law_number"]:List Str) by decide))) (fun _ _ _ _=>(qw qaw (qb 1) (qb 0))))
   (qg (qhf 8 (qw qaw (qq (qb 7) (qb 2)) (qb 4)) (qb 2))
   (qg (qqe 8 (qb 5) (qw qaw (qq (qb 7) (qb 2)) (qw qvz (qb 3) (qb 4))))
   (qgd 8 (qh (qcb 6 (qb 8))))))))
   (qgd 6 (qh (qv (qb 6)))))))))),?_⟩
  have hRn:R≠[]:=fun z=>by rw [z] at r1;simp at r1
  obtain ⟨r0,R0,eR⟩:=List.exists_cons_of_ne_nil hRn
  have l0:r0.length=n:=hT.len r0 (by rw [eR];simp)
  have aR:atI (R.map qak) 0=some (qak r0):=by rw [eR];exact qas _ _
  have eN:(((r0.map PyData.int).length:Nat):Int)=(n:Int):=by simp [l0]
  have sm : ∀ {z:Int},0<z→z≤1000000→intBits z≤9000:=fun h1 h2=>qB (qax (by omega) (by omega)) (by decide)
  refine ⟨rfl,_,aR,rfl,_,rfl,hP,⟨by omega,sm (by omega) (by omega)⟩,fun xa p1 xa0 xa1 hp1=>?_⟩
  refine ⟨rfl,rfl,3,rfl,hp1,⟨by decide,by decide⟩,fun xk p2 xk0 xk1 hp2=>?_⟩
  refine ⟨rfl,rfl,_,rfl,hp2,⟨by omega,sm (by omega) (by omega)⟩,fun xs p3 xs0 xs1 hp3=>?_⟩
  refine ⟨rfl,_,aR,rfl,_,rfl,hp3,⟨by omega,sm (by omega) (by omega)⟩,fun xt p4 xt0 xt1 hp4=>?_⟩
  obtain ⟨a,rfl⟩:=Int.eq_ofNat_of_zero_le xa0
  obtain ⟨to,rfl⟩:=Int.eq_ofNat_of_zero_le xt0
  have ha:a<n:=by omega
  have hto:to≤n:=by omega
  have hsp : ∀ r ∈ R,(qdr r (2+xk) (1+xs) a to).length=n+1∧(∀ x ∈ qdr r (2+xk) (1+xs) a to,0≤x)∧(qdr r (2+xk) (1+xs) a to).sum=b*(2+xk):=fun r hr=>by
   have e1:=hT.len r hr
   obtain ⟨q1,q2,q3⟩:=zaby (r:=r) (k:=2+xk) (s:=1+xs) (a:=a) (t:=to) (by omega) (by omega) (hT.nn r hr) (by omega) (by omega)
   exact ⟨by omega,q2,by rw [q3,hT.sum r hr]⟩
  have hT':Tab (b*(2+xk)) (R.map fun r=>qdr r (2+xk) (1+xs) a to) (n+1):=by
   have bp:=hT.pos
   refine ⟨?_,fun r hr=>?_,fun r hr=>?_,fun r hr=>?_⟩
   ·have:=Int.mul_pos (show 0<b by omega) (show 0<2+xk by omega);omega
   all_goals (obtain ⟨s',hs',rfl⟩:=List.mem_map.mp hr)
   ·exact (hsp s' hs').1
   ·exact (hsp s' hs').2.1
   ·exact (hsp s' hs').2.2
  refine ⟨szl,⟨fun i e => ∃ t7 t8 l,e=[.pen p4,.val (qdb R),.val (.int a),.val (.int (2+xk)),.val (.int (1+xs)),.val (.int to),.own l,t7,t8]∧l=((R.map fun r=>qdr r (2+xk) (1+xs) a to).take i).map qak,⟨_,_,_,rfl,rfl⟩,?_,?_⟩⟩
  ·rintro i x e hx ⟨t7,t8,l,rfl,rfl⟩
   obtain ⟨r,hr',rfl⟩:=qcm hx
   have hrm:=qyf hr'
   have hrl:=hT.len r hrm
   have bz : ∀ x ∈ r,intBits x≤64:=fun x hx=>by
    have:=hT.le hrm hx
    exact qax (by omega) (by omega)
   show _∧_
   refine ⟨qo (by simp;omega),fun j ys e=>ys=(((r.map fun n=>n*(2+xk)).map PyData.int).take j) ∧ ∃ s,e=[.val (.int (2+xk)),s],⟨by simp,_,rfl⟩,?_,?_⟩
   ·rintro j y ys e hy ⟨hys,s,rfl⟩
    obtain ⟨z,rfl,hz,hzm⟩:=qbb hy
    refine ⟨IntMulOk.of_left (bz z hzm),qt ?_ hys,_,rfl⟩
    rw [List.getElem?_map,List.getElem?_map,hz];rfl
   rintro ys0 e0 ⟨hys0,s0,rfl⟩
   rw [show (r.map PyData.int).length=((r.map fun n=>n*(2+xk)).map PyData.int).length by simp,List.take_length] at hys0
   subst hys0
   have har:a<r.length:=by omega
   have era:=List.getElem?_eq_getElem har
   have zra:=bz _ (List.getElem_mem har)
   have aa:atI (r.map PyData.int) (a:Int)=some (.int r[a]):=qM (by rw [List.getElem?_map,era];rfl)
   have ix:ixN (((r.map fun n=>n*(2+xk)).map PyData.int)).length (a:Int)=some a:=by
    unfold ixN
    rw [List.length_map,List.length_map,if_pos (by omega),if_pos (by omega)];rfl
   refine ⟨_,aa,IntMulOk.of_left zra,rfl,rfl,a,ix,?_⟩
   refine ⟨rfl,_,aa,IntMulOk.of_left zra,rfl,⟨by omega,?_,?_⟩,?_⟩
   ·show (to:Int)≤(((((r.map fun n=>n*(2+xk)).map PyData.int).set a (.int (r[a]*(1+xs))))).length:Nat)
    simp;omega
   ·show (((r.map fun n=>n*(2+xk)).map PyData.int).set a (.int (r[a]*(1+xs)))).length<_
    exact qo (by simp;omega)
   have es:qgp (((r.map fun n=>n*(2+xk)).map PyData.int).set a (.int (r[a]*(1+xs)))) (Int.toNat (to:Int)) (.int (r[a]*(2+xk-(1+xs))))=(qdr r (2+xk) (1+xs) a to).map .int:=by
    unfold qdr qgp
    rw [era]
    simp only [Option.getD_some,Int.toNat_natCast,List.map_append,List.map_cons,List.map_take,List.map_drop,List.map_set]
   refine ⟨rfl,rfl,?_,_,_,_,rfl,?_⟩
   ·show (List.map qak _).length<_
    rw [List.length_map]
    exact qo (Nat.le_trans (List.length_take_le' _ _) (by simp;omega))
   ·have e3:(R.map fun r=>qdr r (2+xk) (1+xs) a to)[i]?=some (qdr r (2+xk) (1+xs) a to):=by rw [List.getElem?_map,hr'];rfl
    rw [List.take_add_one,e3]
    simp only [Option.toList_some,List.map_append,List.map_cons,List.map_nil]
    show List.map qak _++[PyData.list (qgp (((r.map fun n=>n*(2+xk)).map PyData.int).set a (.int (r[a]*(1+xs)))) (Int.toNat (to:Int)) (.int (r[a]*(2+xk-(1+xs)))))]=_
    rw [es];rfl
  ·rintro e ⟨t7,t8,l,rfl,rfl⟩
   have e3:(R.map qak).length=(R.map fun r=>qdr r (2+xk) (1+xs) a to).length:=by simp
   rw [e3,List.take_length]
   exact ⟨_,_,rfl,rfl,h _ _ p4 (by omega) (by omega) hT' (by simp) hp4⟩
def qiu (ds0 ds:List PyData) (q:PyData→List PyData→Prop):Prop := ∃ (many most far:Int),ds=[.int many,.int most,.int far]∧qbq ds0∧(2≤many∧many≤4∧1≤most∧most≤12∧1≤far∧far≤60) ∧
 ∀ (b:Int) (R:List (List Int)) (n:Nat) (p:List PyData),Gls b R n→b≤1000→R.length=many→1≤n→n≤most→qbq p→q (qat b R) p
theorem qbj:FnScope ["_law_pen_here","_law_many","_law_most","_law_far","_law_width","_law_bottom","_law_rows","_law_time"] ["_law_pen_here","_law_many","_law_most","_law_far"] (defScope qem):=⟨rfl,rfl,rfl,by decide +kernel,rfl,by decide +kernel,by decide +kernel⟩
theorem qpp (F:Def K mg "_law_table" qem ["_law_pen_here","_law_many","_law_most","_law_far"]) (T:Txt K mg cs)
 (O__law_next:Ok P w K mg base "_law_next" 2 ["_law_pen_here","_law_many"] (NSp K qbd))
 (O__law_reduced:Ok P w K mg base "_law_reduced" 2 ["_law_bottom","_law_rows"] (PSp K qbf))
 (O__law_row:Ok P w K mg base "_law_row" 3 ["_law_pen_here","_law_width","_law_bottom"] (NSp K qhs))
 (O__law_split:Ok P w K mg base "_law_split" 3 ["_law_pen_here","_law_rows"] (NSp K qfs))
 : Ok P w K mg base "_law_table" 4 ["_law_pen_here","_law_many","_law_most","_law_far"] (NSp K qiu):=by
  refine F.vokP qbj (by rintro ds0 ds q ⟨_,_,_,h,_⟩;rw [h];rfl) (by decide) fun f cdv A outer s H E hr ds0 ds q h=>?_
  obtain ⟨many,most,far,rfl,hP,⟨m1,m2,o1,o2,f1,f2⟩,h⟩:=h
  refine ⟨_,(qg (qC (i:=4) qbj.nd (qw qdu qe (qap 0 O__law_next (hr.mono (by decide)) (qc (qb 2) qf))))
   (qg (qC (i:=5) qbj.nd (qw qdu qe (qap 0 O__law_next (hr.mono (by decide)) (qc (qb 3) qf))))
   (qg (zaas (caps:=["_law_pen_here","_law_width","_law_bottom"]) (own:=["_law_k"]) (ix:=[0,4,5]) (i0:=0) (j0:=0) (i:=6) qbj.nd rfl ⟨rfl,rfl,rfl,rfl,rfl,rfl⟩ (qE T.range_ (qb 1)) (fun _ _ _ _=>(qm (i:=3) (show List.Nodup (["_law_pen_here","_law_width","_law_bottom","_law_k"]:List Str) by decide))) (fun _ _ _ _=>(qap 0 O__law_row (hr.mono (by decide)) (qc (qb 1) (qc (qb 2) qf)))) (qor rfl))
   (qg (qai rfl (qE T.range_ (qw qhz (qap 0 O__law_next (hr.mono (by decide)) (qc qe qf)) qe)) (qm (i:=7) qbj.nd) (qh (qam (qA qql (qr qag T.len_ L2.boot_len (qc (qq (qb 6) qe) qf)) (qb 2)) (qh (qC (i:=6) qbj.nd (qap 0 O__law_split (hr.mono (by decide)) (qc (qb 6) qf)))) qI)))
   (qh (qv (qx O__law_reduced (hr.mono (by decide)) (qc (qr (qzw rfl) T.sum_ L2.boot_sum (qc (qq (qb 6) qe) qf)) (qc (qb 6) qf))))))))),?_⟩
  have sm : ∀ {z:Int},0<z→z≤1000000→intBits z≤9000:=fun h1 h2=>qB (qax (by omega) (by omega)) (by decide)
  refine ⟨rfl,rfl,most,rfl,hP,⟨by omega,sm (by omega) (by omega)⟩,fun xw p1 w0 w1 hp1=>?_⟩
  refine ⟨rfl,rfl,far,rfl,hp1,⟨by omega,sm (by omega) (by omega)⟩,fun xb p2 b0 b1 hp2=>?_⟩
  obtain ⟨wd,ew⟩:=Int.eq_ofNat_of_zero_le (show 0≤1+xw by omega)
  refine ⟨⟨by omega,by omega⟩,qo (by rw [qs];omega),rfl,fun i ys e => ∃ R:List (List Int),ys=R.map qak∧R.length=i∧Tab (1+xb) R wd ∧ ∃ p t,qbq p∧e=[.pen p,.val (.int (1+xw)),.val (.int (1+xb)),t],⟨[],rfl,rfl,⟨by omega,by simp,by simp,by simp⟩,_,_,hp2,rfl⟩,?_,?_⟩
  ·rintro i d ys e hd ⟨R,rfl,hR,hT,p,t,hp,rfl⟩
   refine ⟨rfl,rfl,wd,1+xb,by rw [← ew],hp,⟨by omega,by omega,by omega,by omega⟩,fun r p' r1 r2 r3 hp'=>?_⟩
   refine ⟨R++[r],by simp,by simp [hR],⟨by omega,?_,?_,?_⟩,p',_,hp',rfl⟩
   ·intro r' hr'
    rcases List.mem_append.mp hr' with h|h
    ·exact hT.len r' h
    ·rw [List.mem_singleton.mp h];exact r1
   ·intro r' hr'
    rcases List.mem_append.mp hr' with h|h
    ·exact hT.nn r' h
    ·rw [List.mem_singleton.mp h];exact r2
   ·intro r' hr'
    rcases List.mem_append.mp hr' with h|h
    ·exact hT.sum r' h
    ·rw [List.mem_singleton.mp h];exact r3
  ·rintro ys e ⟨R,rfl,hR,hT,p3,t,hp3,rfl⟩
   rw [qs] at hR
   refine ⟨p3,rfl,rfl,rfl,6,rfl,hp3,⟨by decide,by decide⟩,fun xt p4 t0 t1 hp4=>?_⟩
   refine ⟨⟨by decide,by decide⟩,⟨by omega,by omega⟩,?_⟩
   refine ⟨fun i e => ∃ (b:Int) (R':List (List Int)) (n:Nat) (p:List PyData) (t:Sl),e=[.pen p,.val (.int many),.val (.int most),.val (.int far),.val (.int (1+xw)),.val (.int (1+xb)),.val (qdb R'),t]∧qbq p∧Tab b R' n∧R'.length=R.length∧1≤n∧n≤most∧b≤60*4^i,⟨_,R,wd,_,_,rfl,hp4,hT,rfl,by omega,by omega,by omega⟩,?_,?_⟩
   ·rintro i d e hd ⟨b,R',n,p,t,rfl,hp,hT',hl,n1,n2,hb⟩
    obtain ⟨hi,rfl⟩:=qP hd
    have hRn:R'≠[]:=fun z=>by rw [z] at hl;simp at hl;omega
    obtain ⟨r0,R0,eR⟩:=List.exists_cons_of_ne_nil hRn
    have l0:r0.length=n:=hT'.len r0 (by rw [eR];simp)
    have aR:atI (R'.map qak) 0=some (qak r0):=by rw [eR];exact qas _ _
    have eN:(((r0.map PyData.int).length:Nat):Int)=(n:Int):=by simp [l0]
    have hi3:i<3:=by omega
    have hb3:b≤999999:=by
     have:i=0∨i=1∨i=2:=by omega
     rcases this with rfl|rfl|rfl <;> omega
    refine ⟨_,aR,qix (fun hlt=>?_) (fun hge=>?_)⟩
    ·refine ⟨rfl,rfl,b,R',n,rfl,hp,⟨hT',by omega,by omega,n1,by omega,hb3⟩,fun k R2 p' k1 k2 hT2 hl2 hp'=>?_⟩
     refine ⟨b*k,R2,n+1,p',_,rfl,hp',hT2,by omega,by omega,by omega,?_⟩
     have bp:=hT'.pos
     have e1:b*k≤b*4:=Int.mul_le_mul_of_nonneg_left k2 (by omega)
     have:i=0∨i=1∨i=2:=by omega
     rcases this with rfl|rfl|rfl <;> omega
    ·refine ⟨b,R',n,p,_,rfl,hp,hT',hl,n1,n2,?_⟩
     have:i=0∨i=1∨i=2:=by omega
     rcases this with rfl|rfl|rfl <;> omega
   ·rintro e ⟨b,R',n,p,t,rfl,hp,hT',hl,n1,n2,hb⟩
    rw [qs] at hb
    have hRn:R'≠[]:=fun z=>by rw [z] at hl;simp at hl;omega
    obtain ⟨r0,R0,eR⟩:=List.exists_cons_of_ne_nil hRn
    have aR:atI (R'.map qak) 0=some (qak r0):=by rw [eR];exact qas _ _
    have hs0:r0.sum=b:=hT'.sum r0 (by rw [eR];simp)
    have hb3:b≤1000:=by
     have:(xt/2).toNat=0∨(xt/2).toNat=1∨(xt/2).toNat=2:=by omega
     rcases this with z|z|z <;> rw [z] at hb <;> omega
    have bp:=hT'.pos
    have hL:=hT'.gls hRn
    refine ⟨_,aR,r0,rfl,r0.sum,R',n,rfl,⟨by rw [hs0];exact hT',hRn,by omega,by omega,by rw [hs0];exact sm (by omega) (by omega)⟩,?_⟩
    rw [hs0]
    refine ⟨_,_,rfl,rfl,h _ _ n p hL (Int.le_trans (Int.ediv_le_self _ (by omega)) hb3) ?_ n1 n2 hp⟩
    unfold qfx
    rw [List.length_map];omega
theorem zajc {T:List (List Int)}{i j n:Nat} (hw : ∀ r ∈ T,r.length=n) (hi:i<T.length) (hj:j<n) : ∃ r,T[i]?=some r∧r ∈ T∧r[j]?=some (at2 T i j)∧at2 T i j ∈ r:=by
 have e:T[i]?=some T[i]:=List.getElem?_eq_getElem hi
 have l:=hw _ (List.getElem_mem hi)
 have e2:(T[i])[j]?=some ((T[i])[j]'(by omega)):=List.getElem?_eq_getElem _
 have e3:at2 T i j=(T[i])[j]'(by omega):=by
  unfold at2
  rw [e]
  show ((T[i])[j]?).getD 0=_
  rw [e2];rfl
 rw [e3]
 exact ⟨_,e,List.getElem_mem hi,e2,List.getElem_mem _⟩
def sc (k:Int) (R:List (List Int)):List (List Int):=R.map fun r=>r.map fun n=>k*n
theorem zajj {k:Int} (hk:0<k) (R:List (List Int)) (g:Int):qfx (sc k R) (k*g)=qfx R g:=by
 unfold qfx sc
 rw [List.map_map]
 refine List.map_congr_left fun r _=>?_
 simp only [Function.comp,List.map_map]
 refine List.map_congr_left fun n _=>?_
 simp only [Function.comp]
 exact Int.mul_ediv_mul_of_pos _ _ hk
theorem sc_g {k:Int} (hk:0<k) (R:List (List Int)):(qbx (sc k R):Int)=k*qbx R:=by
 obtain ⟨n,rfl⟩:=Int.eq_ofNat_of_zero_le (Int.le_of_lt hk)
 unfold sc
 rw [quh n R,Int.natCast_mul]
theorem zadn {k b:Int} (hk:0<k) (R:List (List Int)):qvi (k*b) (sc k R)=qvi b R:=by
 unfold qvi
 rw [sc_g hk,zajj hk,Int.mul_ediv_mul_of_pos _ _ hk]
theorem qzb {k l b c:Int}{R S:List (List Int)} (hk:0<k) (hl:0<l) (h1:k*b=l*c) (h2:sc k R=sc l S):qvi b R=qvi c S:=by
 have e1:=zadn (b:=b) hk R
 have e2:=zadn (b:=c) hl S
 rw [h1,h2] at e1
 exact e1.symm.trans e2
theorem zaeh {b:Int}{R:List (List Int)}{n:Nat} (h:Gls b R n):qvi b R=qat b R:=zacj h
section
variable {b:Int}{R:List (List Int)}{m:Nat}{c:Int}{S:List (List Int)}{n:Nat}{B:Int}{D:List (List Int)}{d:Int}{T:List (List Int)}{p:Nat}
theorem qxk {s j:Nat}{r:List Int} (h:T[s]?=some r):at2 T s j=(r[j]?).getD 0:=by
 unfold at2
 rw [h];rfl
end
structure LowOf (b:Int) (R:List (List Int)) (b':Int) (R':List (List Int)):Prop where
 b:b'=b/qbx R
 r:R'=qfx R (qbx R)
section
variable {b:Int}{R:List (List Int)}{m:Nat}{c:Int}{S:List (List Int)}{n:Nat}{B:Int}{D:List (List Int)}{b' c':Int}{R' S':List (List Int)}
theorem LowOf.gls (h:LowOf b R b' R') (t:Tab b R m) (ne:1≤R.length):Gls b' R' m:=by
 rw [h.b,h.r]
 exact t.gls fun z=>by rw [z] at ne;simp at ne
theorem LowOf.len (h:LowOf b R b' R'):R'.length=R.length:=by rw [h.r];simp [qfx]
theorem LowOf.le (h:LowOf b R b' R') (t:Tab b R m):b'≤b:=by
 rw [h.b]
 exact Int.ediv_le_self _ (by have:=t.pos;omega)
end
def qeu (ds:List PyData) (q:PyData→Prop):Prop := ∃ (b:Int) (R:List (List Int)) (m:Nat) (B:Int) (D:List (List Int)) (n:Nat),ds=[qat b R,qat B D]∧(Tab b R m∧Tab B D n∧D.length=m∧1≤R.length∧R.length≤4∧1≤m∧m≤12∧n≤12∧intBits b≤64∧intBits B≤3000) ∧ ∀ c S,LowOf (b*B) (qco R D m n) c S→q (qat c S)
theorem qbr:FnScope ["_law_glass","_law_dulling_here","_law_rows","_law_row_here","_law_line","_law_sign"] ["_law_glass","_law_dulling_here"] (defScope qdk):=⟨rfl,rfl,rfl,by decide +kernel,rfl,by decide +kernel,by decide +kernel⟩
theorem qmt (F:Def K mg "_law_dulled" qdk ["_law_glass","_law_dulling_here"]) (T:Txt K mg cs)
 (O__law_reduced:Ok P w K mg base "_law_reduced" 2 ["_law_bottom","_law_rows"] (PSp K qbf))
 : Ok P w K mg base "_law_dulled" 3 ["_law_glass","_law_dulling_here"] (PSp K qeu):=by
  refine F.vok qbr (by rintro ds q ⟨_,_,_,_,_,_,h,_⟩;rw [h];rfl) fun f cdv A outer s H E hr ds q h=>?_
  obtain ⟨b,R,m,B,D,n,rfl,⟨hR,hD,hl,r1,r2,m1,m2,n2,zb,zB⟩,h⟩:=h
  refine ⟨_,(qg (qdc (i:=2) qbr.nd (qcd qf))
   (qg (qai rfl (qQ (qq (qb 0) qe)) (qm (i:=3) qbr.nd) (qg (qdc (i:=4) qbr.nd (qcd qf))
   (qg (qai rfl (qE T.range_ (qr qag T.len_ L2.boot_len (qc (qq (qq (qb 1) qe) qe) qf))) (qm (i:=5) qbr.nd) (qh (qcb 4 (qr (qzw rfl) T.sum_ L2.boot_sum (qc (qT (qR (caps:=["_law_sign"]) (own:=["_law_number","_law_some"]) (ix:=[5]) rfl ⟨rfl,rfl,rfl,rfl,rfl,rfl⟩ (qje T.zip_ (qb 3) (qq (qb 1) qe)) (fun _ _ _ _=>(qft (n:=2) rfl (qK (qm (i:=1) (show List.Nodup (["_law_sign","_law_number","_law_some"]:List Str) by decide)) (qK (qm (i:=2) (show List.Nodup (["_law_sign","_law_number","_law_some"]:List Str) by decide)) qdd)))) (fun _ _ _ _=>(qw qaw (qb 1) (qq (qb 2) (qb 0)))))) qf)))))
   (qgd 4 (qh (qcb 2 (qb 4)))))))
   (qgd 2 (qh (qv (qx O__law_reduced (hr.mono (by decide)) (qc (qw qaw (qq (qb 0) qe) (qq (qb 1) qe)) (qc (qb 2) qf)))))))),?_⟩
  have h:q (qvi (b*B) (qco R D m n)):=h _ _ ⟨rfl,rfl⟩
  have hM:=qoy hR hD hl
  obtain ⟨d0,D0,eD⟩:=List.exists_cons_of_ne_nil (show D≠[] from fun z=>by rw [z] at hl;simp at hl;omega)
  have l0:d0.length=n:=hD.len d0 (by rw [eD];simp)
  have aD:atI (D.map qdy) 0=some (qdy d0):=by rw [eD];exact qas _ _
  have lD:(((d0.map PyData.int).length:Nat):Int)=n:=by rw [List.length_map,l0]
  refine ⟨szl,_,rfl,fun i e => ∃ (t3 t4 t5:Sl),e=[.val (qat b R),.val (qat B D),.own ((qco (R.take i) D m n).map qak),t3,t4,t5],⟨_,_,_,rfl⟩,?_,?_⟩
  ·rintro i x e hx ⟨t3,t4,t5,rfl⟩
   obtain ⟨r,hr',rfl⟩:=qcm hx
   have hi:i<R.length:=(List.getElem?_eq_some_iff.mp hr').1
   have rm:=List.mem_of_getElem? hr'
   have lr:=hR.len r rm
   obtain ⟨row,erow⟩ : ∃ row:List Int,row=(List.range n).map fun j=>qj m fun i=>(r[i]?).getD 0*at2 D i j:=⟨_,rfl⟩
   have rowl:row.length=n:=by rw [erow];simp
   refine ⟨szl,_,rfl,_,aD,⟨by rw [lD];omega,by rw [lD];omega⟩,fun j e => ∃ t5,e=[.val (qat b R),.val (qat B D),.own ((qco (R.take i) D m n).map qak),.val (qdy r),.own ((row.map PyData.int).take j),t5],⟨_,rfl⟩,?_,?_⟩
   ·rintro j d e hd ⟨t5',rfl⟩
    obtain ⟨hj,rfl⟩:=qP hd
    rw [Int.zero_add]
    have hj':j<n:=by rw [lD] at hj;omega
    refine ⟨rfl,_,rfl,?_⟩
    refine ⟨qo (by rw [qcl,List.length_map,List.length_map];omega),fun k ys e=>ys=(((List.range m).map fun k=>(r[k]?).getD 0*at2 D k j).map PyData.int).take k ∧ ∃ t u,e=[.val (.int j),t,u],⟨by simp,_,_,rfl⟩,?_,?_⟩
    ·rintro k d us e hd ⟨hus,t,u,rfl⟩
     obtain ⟨x,y,h3,h4,rfl⟩:=qge hd
     obtain ⟨rD,h6,rfl⟩:=qcm h4
     rw [List.getElem?_map] at h3
     cases ek:r[k]? with
     | none=>rw [ek] at h3;cases h3
     | some v =>
     rw [ek] at h3
     have h3:some (PyData.int v)=some x:=h3
     injection h3 with h3
     subst h3
     have hk':k<m:=by rw [← hl];exact (List.getElem?_eq_some_iff.mp h6).1
     obtain ⟨rD',gD1,gD2,gD3,gD4⟩:=zajc hD.len (show k<D.length by omega) hj'
     rw [h6] at gD1
     injection gD1 with gD1
     subst gD1
     have zR:=hR.bits zb rm (List.mem_of_getElem? ek)
     refine ⟨rfl,rfl,.int (at2 D k j),qM (by rw [List.getElem?_map,gD3];rfl),IntMulOk.of_left zR,qt ?_ hus,_,_,rfl⟩
     rw [List.getElem?_map,List.getElem?_map,List.getElem?_range hk']
     show some (PyData.int ((r[k]?).getD 0*at2 D k j))=_
     rw [ek];rfl
    ·rintro us e ⟨hus,t,u,rfl⟩
     rw [qcl,List.length_map,List.length_map,lr,hl,Nat.min_self,List.take_of_length_le (by simp)] at hus
     subst hus
     have ej:(row.map PyData.int).take (j+1)=(row.map PyData.int).take j++[.int ((List.range m).map fun k=>(r[k]?).getD 0*at2 D k j).sum]:=by
      rw [List.take_add_one,List.getElem?_map,erow,List.getElem?_map,List.getElem?_range hj',qdv];rfl
     refine ⟨_,rfl,rfl,qo (by show ((row.map PyData.int).take j).length≤1000;rw [List.length_take,List.length_map];omega),.val (.int j),?_⟩
     rw [ej];rfl
   rintro e ⟨t5',rfl⟩
   rw [qs,lD,Int.toNat_natCast,List.take_of_length_le (l:=row.map PyData.int) (by rw [List.length_map];omega)]
   refine ⟨rfl,rfl,qo (by show ((qco (R.take i) D m n).map qak).length≤1000;simp [qco];omega),.val (qdy r),.val (qak row),t5',?_⟩
   have em:qco (R.take (i+1)) D m n=qco (R.take i) D m n++[row]:=by
    unfold qco
    rw [List.take_add_one,hr',List.map_append,erow];rfl
   rw [em,List.map_append (f:=qak)];rfl
  rintro e ⟨t3,t4,t5,rfl⟩
  rw [List.length_map,List.take_length]
  have lM:(qco R D m n).length=R.length:=by simp [qco]
  exact ⟨_,rfl,_,rfl,IntMulOk.of_left zb,b*B,qco R D m n,n,rfl,⟨hM,fun z=>by rw [z] at lM;simp at lM;omega,by omega,by omega,qB (intBits_mul_le zb zB) (by decide)⟩,h⟩
theorem zabs {l l':List Int} (h:l.Perm l'):l.sum=l'.sum:=by
 induction h with
 | nil=>rfl
 | cons x _ ih=>rw [List.sum_cons,List.sum_cons,ih]
 | swap x y l=>simp only [List.sum_cons];omega
 | trans _ _ a b=>rw [a,b]
theorem zaco {r:List Int}{m:Nat} (h:r.length=m):(List.range m).map (fun k=>(r[k]?).getD 0)=r:=by
 refine List.ext_getElem? fun j=>?_
 rw [List.getElem?_map]
 by_cases hj:j<m
 ·rw [List.getElem?_range hj]
  show some ((r[j]?).getD 0)=_
  rw [List.getElem?_eq_getElem (show j<r.length by omega)];rfl
 ·rw [List.getElem?_eq_none (l:=r) (by omega),List.getElem?_eq_none (by simp;omega)];rfl
theorem qzr {b:Int}{R:List (List Int)}{m:Nat}{o:List Nat} (h:Tab b R m) (p:o.Perm (List.range m)):Tab b (R.map fun r=>o.map fun k=>(r[k]?).getD 0) m where
 pos:=h.pos
 len:=fun r hr=>by
  obtain ⟨r',_,rfl⟩:=List.mem_map.mp hr
  rw [List.length_map,p.length_eq,List.length_range]
 nn:=fun r hr x hx=>by
  obtain ⟨r',hr',rfl⟩:=List.mem_map.mp hr
  obtain ⟨k,_,rfl⟩:=List.mem_map.mp hx
  cases e:r'[k]? with
  | none=>exact Int.le_refl _
  | some y=>exact h.nn r' hr' y (List.mem_of_getElem? e)
 sum:=fun r hr=>by
  obtain ⟨r',hr',rfl⟩:=List.mem_map.mp hr
  rw [zabs (p.map _),zaco (h.len r' hr'),h.sum r' hr']
def qhn (ds0 ds:List PyData) (q:PyData→List PyData→Prop):Prop := ∃ (b:Int) (R:List (List Int)) (m most:Nat),ds=[qat b R,.int most]∧qbq ds0∧(Gls b R m∧2≤R.length∧R.length≤4∧1≤m∧m≤most∧most≤4∧b≤999999) ∧
 ∀ (c:Int) (S:List (List Int)) (n:Nat) (p:List PyData),Gls c S n→c≤4*b→S.length=R.length→1≤n→n≤most→qbq p→q (qat c S) p
theorem qav:FnScope ["_law_pen_here","_law_glass","_law_most","_law_order","_law_sign","_law_found","_law_row_here"] ["_law_pen_here","_law_glass","_law_most"] (defScope qdf):=⟨rfl,rfl,rfl,by decide +kernel,rfl,by decide +kernel,by decide +kernel⟩
theorem qmy (F:Def K mg "_law_turned" qdf ["_law_pen_here","_law_glass","_law_most"]) (T:Txt K mg cs)
 (O__law_next:Ok P w K mg base "_law_next" 2 ["_law_pen_here","_law_many"] (NSp K qbd))
 (O__law_reduced:Ok P w K mg base "_law_reduced" 2 ["_law_bottom","_law_rows"] (PSp K qbf))
 (O__law_split:Ok P w K mg base "_law_split" 3 ["_law_pen_here","_law_rows"] (NSp K qfs))
 : Ok P w K mg base "_law_turned" 4 ["_law_pen_here","_law_glass","_law_most"] (NSp K qhn):=by
  refine F.vokP qav (by rintro ds0 ds q ⟨_,_,_,_,h,_⟩;rw [h];rfl) (by decide) fun f cdv A outer s H E hr ds0 ds q h=>?_
  obtain ⟨b,R,m,most,rfl,hP,⟨hG,r1,r2,m1,m2,o2,hb⟩,h⟩:=h
  refine ⟨_,(qg (qdc (i:=3) qav.nd (qcd qf))
   (qg (qai rfl (qE T.range_ (qr qag T.len_ L2.boot_len (qc (qq (qq (qb 1) qe) qe) qf))) (qm (i:=4) qav.nd) (qh (qqe 3 (qap 0 O__law_next (hr.mono (by decide)) (qc (qw qdu (qyn 3 T.len_) qe) qf)) (qb 4))))
   (qg (qdc (i:=5) qav.nd (qcd qf))
   (qgd 3 (qg (qai rfl (qQ (qq (qb 1) qe)) (qm (i:=6) qav.nd) (qh (qcb 5 (qT (qR (caps:=["_law_row_here"]) (own:=["_law_sign"]) (ix:=[6]) rfl ⟨rfl,rfl,rfl,rfl,rfl,rfl⟩ (qQ (qb 3)) (fun _ _ _ _=>(qm (i:=1) (show List.Nodup (["_law_row_here","_law_sign"]:List Str) by decide))) (fun _ _ _ _=>(qq (qb 0) (qb 1))))))))
   (qgd 5 (qfg (qam (qA qql (qr qag T.len_ L2.boot_len (qc (qb 3) qf)) (qb 2)) (qh (qC (i:=5) qav.nd (qap 0 O__law_split (hr.mono (by decide)) (qc (qb 5) qf)))) qI)
   (qh (qv (qx O__law_reduced (hr.mono (by decide)) (qc (qr (qzw rfl) T.sum_ L2.boot_sum (qc (qq (qb 5) qe) qf)) (qc (qb 5) qf)))))))))))),?_⟩
  have hT:=hG.t
  obtain ⟨r0,R1,eR⟩:=List.exists_cons_of_ne_nil (show R≠[] from fun z=>by rw [z] at r1;simp at r1)
  have l0:r0.length=m:=hT.len r0 (by rw [eR];simp)
  have aR:atI (R.map qdy) 0=some (qdy r0):=by rw [eR];exact qas _ _
  have lr:(((r0.map PyData.int).length:Nat):Int)=m:=by rw [List.length_map,l0]
  refine ⟨szl,_,rfl,_,aR,⟨by rw [lr];omega,by rw [lr];omega⟩,fun i e => ∃ (p:List PyData) (o:List Nat) (t4:Sl),e=[.pen p,.val (qat b R),.val (.int most),.own (o.map fun (k:Nat)=>PyData.int k),t4,.non,.non]∧qbq p∧o.Perm (List.range i),⟨_,[],_,rfl,hP,by simp⟩,?_,?_⟩
  ·rintro i d e hd ⟨p,o,t4,rfl,hp,ho⟩
   obtain ⟨hi,rfl⟩:=qP hd
   rw [Int.zero_add]
   have hi':i<m:=by rw [lr] at hi;omega
   have ol:o.length=i:=by rw [ho.length_eq,List.length_range]
   have lo:(((o.map fun (k:Nat)=>PyData.int k).length:Nat):Int)=i:=by rw [List.length_map,ol]
   refine ⟨rfl,rfl,rfl,rfl,(((o.map fun (k:Nat)=>PyData.int k).length:Nat):Int)+1,rfl,hp,⟨by omega,qB (qax (by omega) (by omega)) (by decide)⟩,fun x p' x0 x1 hp'=>?_⟩
   have x1:x<(((o.map fun (k:Nat)=>PyData.int k).length:Nat):Int)+1:=x1
   refine ⟨rfl,⟨x0,by show x≤(((o.map fun (k:Nat)=>PyData.int k).length:Nat):Int);omega,qo (by show (o.map fun (k:Nat)=>PyData.int k).length≤1000;rw [List.length_map];omega)⟩,p',qgp o x.toNat i,.val (.int i),?_,hp',?_⟩
   ·have ei:(qgp o x.toNat i).map (fun (k:Nat)=>PyData.int k)=qgp (o.map fun (k:Nat)=>PyData.int k) x.toNat (.int i):=by
     unfold qgp
     rw [List.map_append,List.map_cons,List.map_take,List.map_drop]
    rw [ei];rfl
   ·unfold qgp
    rw [List.range_succ]
    refine List.Perm.trans List.perm_middle ?_
    rw [List.take_append_drop]
    exact List.Perm.trans (List.Perm.cons _ ho) (List.perm_append_singleton _ _).symm
  rintro e ⟨p,o,t4,rfl,hp,ho⟩
  rw [qs,lr,Int.toNat_natCast] at ho
  have ol:o.length=m:=by rw [ho.length_eq,List.length_range]
  refine ⟨szl,_,rfl,fun i e => ∃ (t6:Sl),e=[.pen p,.val (qat b R),.val (.int most),.val (.list (o.map fun (k:Nat)=>PyData.int k)),t4,.own (((R.take i).map fun r=>o.map fun k=>(r[k]?).getD 0).map qak),t6],⟨_,rfl⟩,?_,?_⟩
  ·rintro i x e hx ⟨t6,rfl⟩
   obtain ⟨r,hr',rfl⟩:=qcm hx
   have hi:i<R.length:=(List.getElem?_eq_some_iff.mp hr').1
   have rm:=List.mem_of_getElem? hr'
   have lr':=hT.len r rm
   refine ⟨rfl,qo (by rw [List.length_map];omega),fun k ys e=>ys=((o.map fun k=>(r[k]?).getD 0).map PyData.int).take k ∧ ∃ v,e=[.val (qdy r),v],⟨by simp,_,rfl⟩,?_,?_⟩
   ·rintro j d ys e hd ⟨hys,v,rfl⟩
    rw [List.getElem?_map] at hd
    cases ej:o[j]? with
    | none=>rw [ej] at hd;cases hd
    | some k =>
    rw [ej] at hd
    have hd:some (PyData.int k)=some d:=hd
    injection hd with hd
    subst hd
    have hk:k<m:=List.mem_range.mp (ho.mem_iff.mp (List.mem_of_getElem? ej))
    have er:r[k]?=some ((r[k]?).getD 0):=by rw [List.getElem?_eq_getElem (by omega)];rfl
    refine ⟨.int ((r[k]?).getD 0),qM (by rw [List.getElem?_map,er];rfl),qt ?_ hys,_,rfl⟩
    rw [List.getElem?_map,List.getElem?_map,ej];rfl
   rintro ys e ⟨hys,v,rfl⟩
   rw [List.length_map,List.take_of_length_le (by simp)] at hys
   subst hys
   refine ⟨rfl,qo (by show (((R.take i).map fun r=>o.map fun k=>(r[k]?).getD 0).map qak).length≤1000;simp;omega),.val (qdy r),?_⟩
   rw [List.take_add_one,hr',List.map_append,List.map_append];rfl
  rintro e ⟨t6,rfl⟩
  rw [List.length_map,List.take_length]
  have hT2:=qzr hT ho
  have lT:(R.map fun r=>o.map fun k=>(r[k]?).getD 0).length=R.length:=by simp
  generalize (R.map fun r=>o.map fun k=>(r[k]?).getD 0)=Q at hT2 lT
  have b1:=hT.pos
  refine ⟨fun e => ∃ (p:List PyData) (c:Int) (S:List (List Int)) (n:Nat),(qbq p∧Tab c S n∧c≤4*b∧S.length=R.length∧1≤n∧n≤most)∧e=[.pen p,.val (qat b R),.val (.int most),.val (.list (o.map fun (k:Nat)=>PyData.int k)),t4,.val (qdb S),t6],?_,?_⟩
  ·refine qix (fun z=>?_) (fun z=>⟨p,b,Q,m,⟨hp,hT2,by omega,lT,m1,m2⟩,rfl⟩)
   rw [List.length_map,ol] at z
   refine ⟨rfl,rfl,b,Q,m,rfl,hp,⟨hT2,by omega,by omega,m1,by omega,hb⟩,fun k S p' k1 k2 hS lS hp'=>⟨p',b*k,S,m+1,⟨hp',hS,?_,by omega,by omega,by omega⟩,rfl⟩⟩
   have:=Int.mul_le_mul_of_nonneg_left k2 (show 0≤b by omega)
   omega
  rintro e ⟨p',c,S,n,⟨hp',hS,c1,lS,n1,n2⟩,rfl⟩
  have ne:S≠[]:=fun z=>by rw [z] at lS;simp at lS;omega
  obtain ⟨s0,S1,eS⟩:=List.exists_cons_of_ne_nil ne
  have aS:atI (S.map qak) 0=some (qak s0):=by rw [eS];exact qas _ _
  have ss:s0.sum=c:=hS.sum s0 (by rw [eS];simp)
  have c0:=hS.pos
  refine ⟨_,aS,s0,rfl,?_⟩
  rw [ss]
  refine ⟨c,S,n,rfl,⟨hS,ne,by omega,by omega,qB (qax (by omega) (by omega)) (by decide)⟩,_,p',rfl,rfl,?_⟩
  exact h _ _ n p' (hS.gls ne) (Int.le_trans (Int.ediv_le_self _ (by omega)) c1) (by simp [qfx];omega) n1 n2 hp'
def qgr (ds0 ds:List PyData) (q:PyData→List PyData→Prop):Prop := ∃ (old most:Nat),ds=[.int old,.int most]∧qbq ds0∧(1≤old∧old≤12∧1≤most∧most≤12) ∧
 ∀ (B:Int) (D:List (List Int)) (n:Nat) (p:List PyData),Gls B D n→B≤2→D.length=old→1≤n→n≤most→qbq p→q (qat B D) p
theorem qgm:FnScope ["_law_pen_here","_law_old","_law_most","_law_width"] ["_law_pen_here","_law_old","_law_most"] (defScope qcv):=⟨rfl,rfl,rfl,by decide +kernel,rfl,by decide +kernel,by decide +kernel⟩
theorem qml (F:Def K mg "_law_dulling" qcv ["_law_pen_here","_law_old","_law_most"]) (T:Txt K mg cs)
 (O__law_next:Ok P w K mg base "_law_next" 2 ["_law_pen_here","_law_many"] (NSp K qbd))
 (O__law_reduced:Ok P w K mg base "_law_reduced" 2 ["_law_bottom","_law_rows"] (PSp K qbf))
 (O__law_row:Ok P w K mg base "_law_row" 3 ["_law_pen_here","_law_width","_law_bottom"] (NSp K qhs))
 : Ok P w K mg base "_law_dulling" 4 ["_law_pen_here","_law_old","_law_most"] (NSp K qgr):=by
  refine F.vokP qgm (by rintro ds0 ds q ⟨_,_,h,_⟩;rw [h];rfl) (by decide) fun f cdv A outer s H E hr ds0 ds q h=>?_
  obtain ⟨old,most,rfl,hP,⟨o1,o2,m1,m2⟩,h⟩:=h
  refine ⟨_,(qg (qC (i:=3) qgm.nd (qw qdu qe (qap 0 O__law_next (hr.mono (by decide)) (qc (qb 2) qf))))
   (qh (qv (qx O__law_reduced (hr.mono (by decide)) (qc qe (qc (qT (qui (caps:=["_law_pen_here","_law_width"]) (own:=["_law_sign"]) (ix:=[0,3]) (i0:=0) (j0:=0) rfl ⟨rfl,rfl,rfl,rfl,rfl,rfl⟩ (qE T.range_ (qb 1)) (fun _ _ _ _=>(qm (i:=2) (show List.Nodup (["_law_pen_here","_law_width","_law_sign"]:List Str) by decide))) (fun _ _ _ _=>(qap 0 O__law_row (hr.mono (by decide)) (qc (qb 1) (qc qe qf)))) (qor rfl))) qf)))))),?_⟩
  refine ⟨rfl,rfl,most,rfl,hP,⟨by omega,qB (qax (by omega) (by omega)) (by decide)⟩,fun xw p1 w0 w1 hp1=>?_⟩
  obtain ⟨wd,ew⟩:=Int.eq_ofNat_of_zero_le (show 0≤1+xw by omega)
  refine ⟨⟨by omega,by omega⟩,qo (by rw [qs];omega),rfl,fun i ys e => ∃ R:List (List Int),ys=R.map qak∧R.length=i∧Tab 2 R wd ∧ ∃ p t,qbq p∧e=[.pen p,.val (.int (1+xw)),t],⟨[],rfl,rfl,⟨by omega,by simp,by simp,by simp⟩,_,_,hp1,rfl⟩,?_,?_⟩
  ·rintro i d ys e hd ⟨R,rfl,hR,hT,p,t,hp,rfl⟩
   refine ⟨rfl,rfl,wd,2,by rw [← ew],hp,⟨by omega,by omega,by omega,by omega⟩,fun r p' r1 r2 r3 hp'=>?_⟩
   refine ⟨R++[r],by simp,by simp [hR],⟨by omega,?_,?_,?_⟩,p',_,hp',rfl⟩
   ·intro r' hr'
    rcases List.mem_append.mp hr' with h|h
    ·exact hT.len r' h
    ·rw [List.mem_singleton.mp h];exact r1
   ·intro r' hr'
    rcases List.mem_append.mp hr' with h|h
    ·exact hT.nn r' h
    ·rw [List.mem_singleton.mp h];exact r2
   ·intro r' hr'
    rcases List.mem_append.mp hr' with h|h
    ·exact hT.sum r' h
    ·rw [List.mem_singleton.mp h];exact r3
  ·rintro ys e ⟨R,rfl,hR,hT,p3,t,hp3,rfl⟩
   rw [qs] at hR
   have ne:R≠[]:=fun z=>by rw [z] at hR;simp at hR;omega
   refine ⟨p3,rfl,2,R,wd,rfl,⟨hT,ne,by omega,by omega,by decide⟩,_,p3,rfl,rfl,?_⟩
   exact h _ _ wd p3 (hT.gls ne) (Int.ediv_le_self _ (by decide)) (by simp [qfx];omega) (by omega) (by omega) hp3
def qit (ds0 ds:List PyData) (q:PyData→List PyData→Prop):Prop:=ds=[]∧qbq ds0 ∧ ∀ (L:List (Int×List (List Int))) (W:Nat) (p:List PyData),Shf L W→qbq p→q (.list (L.map dG)) p
theorem pk6 {x:Int} (h0:0≤x) (h1:x<6) : ∃ (W m z:Nat),atI [PyData.tuple [.int 2,.int 3,.int 5],.tuple [.int 2,.int 4,.int 3],.tuple [.int 3,.int 3,.int 3],.tuple [.int 2,.int 3,.int 5],.tuple [.int 2,.int 4,.int 3],.tuple [.int 4,.int 2,.int 2]] x=some (.tuple [.int W,.int m,.int z])∧(2≤W∧W≤4)∧(1≤m∧m≤4)∧1≤z∧z≤5:=by
 have:x=0∨x=1∨x=2∨x=3∨x=4∨x=5:=by omega
 rcases this with rfl|rfl|rfl|rfl|rfl|rfl
 ·exact ⟨2,3,5,rfl,by decide,by decide,by decide⟩
 ·exact ⟨2,4,3,rfl,by decide,by decide,by decide⟩
 ·exact ⟨3,3,3,rfl,by decide,by decide,by decide⟩
 ·exact ⟨2,3,5,rfl,by decide,by decide,by decide⟩
 ·exact ⟨2,4,3,rfl,by decide,by decide,by decide⟩
 ·exact ⟨4,2,2,rfl,by decide,by decide,by decide⟩
theorem GS.up {W:Nat}{B C:Int}{g:Int×List (List Int)} (h:GS W B g) (e:B≤C):GS W C g:=⟨h.h,h.m1,h.m2,h.l,by have:=h.b;omega⟩
theorem qac:FnScope ["_law_pen_here","_law_many","_law_most","_law_size","_law_found","_law_k","_law_way","_law_old"] ["_law_pen_here"] (defScope qen):=⟨rfl,rfl,rfl,by decide +kernel,rfl,by decide +kernel,by decide +kernel⟩
theorem qph (F:Def K mg "_law_shelf" qen ["_law_pen_here"]) (T:Txt K mg cs)
 (O__law_next:Ok P w K mg base "_law_next" 2 ["_law_pen_here","_law_many"] (NSp K qbd))
 (O__law_table:Ok P w K mg base "_law_table" 4 ["_law_pen_here","_law_many","_law_most","_law_far"] (NSp K qiu))
 (O__law_dulled:Ok P w K mg base "_law_dulled" 3 ["_law_glass","_law_dulling_here"] (PSp K qeu))
 (O__law_turned:Ok P w K mg base "_law_turned" 4 ["_law_pen_here","_law_glass","_law_most"] (NSp K qhn))
 (O__law_dulling:Ok P w K mg base "_law_dulling" 4 ["_law_pen_here","_law_old","_law_most"] (NSp K qgr))
 : Ok P w K mg base "_law_shelf" 5 ["_law_pen_here"] (NSp K qit):=by
  refine F.vokP qac (by rintro ds0 ds q ⟨h,_⟩;rw [h];rfl) (by decide) fun f cdv A outer s H E hr ds0 ds q h=>?_
  obtain ⟨rfl,hP,h⟩:=h
  refine ⟨_,(qfg (zadp (qq (qT (qcd (qc (qfe (qc qe (qc qe (qc qe qf)))) (qc (qfe (qc qe (qc qe (qc qe qf)))) (qc (qfe (qc qe (qc qe (qc qe qf)))) (qc (qfe (qc qe (qc qe (qc qe qf)))) (qc (qfe (qc qe (qc qe (qc qe qf)))) (qc (qfe (qc qe (qc qe (qc qe qf)))) qf)))))))) (qap 0 O__law_next (hr.mono (by decide)) (qc qe qf))) (qft (n:=3) rfl (qK (qm (i:=1) qac.nd) (qK (qm (i:=2) qac.nd) (qK (qm (i:=3) qac.nd) qdd)))))
   (qg (qdc (i:=4) qac.nd (qcd qf))
   (qg (qai rfl (qE T.range_ (qw qdu qe (qap 0 O__law_next (hr.mono (by decide)) (qc (qb 3) qf)))) (qm (i:=5) qac.nd) (qfg (qC (i:=6) qac.nd (qap 0 O__law_next (hr.mono (by decide)) (qc qe qf)))
   (qh (qam (VW.pt (qbs (qA qql (qb 6) qe) (qbi (zagg 4 (qms hr.units) (qT (qcd qf)))))) (qh (qcb 4 (qap 0 O__law_table (hr.mono (by decide)) (qc (qb 1) (qc (qb 2) (qc qe qf)))))) (qfg (qC (i:=7) qac.nd (qcf 4 (qap 0 O__law_next (hr.mono (by decide)) (qc (qyn 4 T.len_) qf))))
   (qh (qam (qA (qms hr.units) (qb 6) qe) (qh (qcb 4 (qap 0 O__law_turned (hr.mono (by decide)) (qc (qb 7) (qc (qb 2) qf))))) (qh (qcb 4 (qx O__law_dulled (hr.mono (by decide)) (qc (qb 7) (qc (qap 0 O__law_dulling (hr.mono (by decide)) (qc (qr qag T.len_ L2.boot_len (qc (qq (qq (qb 7) qe) qe) qf)) (qc (qb 2) qf))) qf))))))))))))
   (qgd 4 (qh (qv (qb 4))))))),?_⟩
  refine ⟨fun e => ∃ (p:List PyData) (W m z:Nat),(qbq p∧(2≤W∧W≤4)∧(1≤m∧m≤4)∧1≤z∧z≤5)∧e=[.pen p,.val (.int W),.val (.int m),.val (.int z),.non,.non,.non,.non],?_,?_⟩
  ·refine ⟨szl,szl,szl,szl,szl,szl,szl,rfl,rfl,6,rfl,hP,⟨by decide,by decide⟩,fun x p x0 x1 hp=>?_⟩
   obtain ⟨W,m,z,e,hW,hm,hz⟩:=pk6 x0 x1
   exact ⟨_,e,rfl,rfl,p,W,m,z,⟨hp,hW,hm,hz⟩,rfl⟩
  rintro e ⟨p,W,m,z,⟨hp,⟨W1,W2⟩,⟨m1,m2⟩,z1,z2⟩,rfl⟩
  refine ⟨szl,rfl,rfl,z,rfl,hp,⟨by omega,qB (qax (by omega) (by omega)) (by decide)⟩,fun x p1 x0 x1 hp1=>⟨⟨by omega,by omega⟩,fun i e => ∃ (p:List PyData) (L:List (Int×List (List Int))) (t5 t6 t7:Sl),e=[.pen p,.val (.int W),.val (.int m),.val (.int z),.own (L.map dG),t5,t6,t7]∧qbq p∧L.length=i ∧ ∀ g ∈ L,GS W (1000*4^i) g∧wd g≤m,⟨_,[],_,_,_,rfl,hp1,rfl,by simp⟩,?_,?_⟩⟩
  ·rintro i d e hd ⟨p2,L,t5,t6,t7,rfl,hp2,hL,hA⟩
   obtain ⟨hi,rfl⟩:=qP hd
   have hi5:i<5:=by omega
   have bd:(1000:Int)*4^(i+1)=4*(1000*4^i)∧(1000:Int)≤1000*4^i∧(1000:Int)*4^i≤256000:=by
    have:i=0∨i=1∨i=2∨i=3∨i=4:=by omega
    rcases this with rfl|rfl|rfl|rfl|rfl <;> decide
   obtain ⟨B',eB'⟩ : ∃ B',B'=(1000:Int)*4^(i+1):=⟨_,rfl⟩
   rw [← eB'] at bd
   generalize (1000:Int)*4^i=B at bd hA
   have sm:((L.map dG).length:Nat)<sizeLine:=qo (by rw [List.length_map];omega)
   have snoc : ∀ g,GS W B' g→wd g≤m → ∀ g' ∈ L++[g],GS W B' g'∧wd g'≤m:=fun g hg hw g' hm=>by
    rcases List.mem_append.mp hm with h|h
    ·exact ⟨(hA g' h).1.up (by omega),(hA g' h).2⟩
    ·rw [List.mem_singleton.mp h];exact ⟨hg,hw⟩
   refine ⟨fun e => ∃ (p:List PyData) (y:Int),qbq p∧e=[.pen p,.val (.int W),.val (.int m),.val (.int z),.own (L.map dG),.val (.int (0+i)),.val (.int y),t7],?_,?_⟩
   ·exact ⟨rfl,rfl,4,rfl,hp2,⟨by decide,by decide⟩,fun y p3 y0 y1 hp3=>⟨p3,y,hp3,rfl⟩⟩
   rintro e ⟨p3,y,hp3,rfl⟩
   have sh:Shp 4 (.list (L.map dG)):=qla fun x hx=>by
    obtain ⟨g,_,rfl⟩:=List.mem_map.mp hx
    exact qky _ _
   have sh0:Shp 1 (.list []):=qla (by simp)
   refine qix (fun _=>?_) (fun _=>⟨rfl,szl,rfl,sh.ok,sh0.ok,rfl,iteB (fun _=>?_) (fun ne=>?_)⟩)
   rotate_left 2
   ·have ne:PyData.eqv (.list (L.map dG)) (.list [])=false:=ne
    have L1:1≤L.length:=by
     rcases Nat.eq_zero_or_pos L.length with q|q
     ·rw [List.eq_nil_of_length_eq_zero q] at ne
      have ne:PyData.eqv (.list []) (.list [])=false:=ne
      rw [sh0.refl] at ne;cases ne
     ·exact q
    have lL:(((L.map dG).length:Nat):Int)=L.length:=by rw [List.length_map]
    refine ⟨fun e => ∃ (p:List PyData) (g:Int×List (List Int)),(qbq p∧g ∈ L)∧e=[.pen p,.val (.int W),.val (.int m),.val (.int z),.own (L.map dG),.val (.int (0+i)),.val (.int y),.val (dG g)],?_,?_⟩
    ·refine ⟨rfl,rfl,rfl,rfl,(((L.map dG).length:Nat):Int),rfl,hp3,⟨by omega,qB (qax (by omega) (by omega)) (by decide)⟩,fun u p4 u0 u1 hp4=>?_⟩
     have eu:L[u.toNat]?=some (L[u.toNat]'(by omega)):=List.getElem?_eq_getElem _
     have au:atI (L.map dG) u=some (dG (L[u.toNat]'(by omega))):=qxh u0 (by rw [List.getElem?_map,eu];rfl)
     exact ⟨rfl,_,au,p4,_,⟨hp4,List.mem_of_getElem? eu⟩,rfl⟩
    rintro e ⟨p4,g,⟨hp4,gm⟩,rfl⟩
    obtain ⟨Gg,gw⟩:=hA g gm
    have gb:=Gg.b
    have gl:=Gg.l
    have g1:=Gg.m1
    have gp:=Gg.h.t.pos
    refine ⟨rfl,rfl,qhi (fun _=>?_) (fun _=>?_)⟩
    ·refine ⟨rfl,rfl,rfl,g.1,g.2,wd g,m,rfl,hp4,⟨Gg.h,by omega,by omega,g1,gw,m2,by omega⟩,fun c S n p5 G c4 lS n1 n2 hp5=>⟨rfl,sm,p5,L++[(c,S)],_,_,_,by rw [List.map_append];rfl,hp5,by simp [hL],?_⟩⟩
     rw [← eB']
     refine snoc _ (GS.of G (by omega) (by omega) n1 (by omega) (by omega)) ?_
     rw [qwf G.t (by omega)];exact n2
    ·obtain ⟨r0,R0,e0,l0⟩:=Gg.head (by omega)
     have a0:atI (g.2.map qdy) 0=some (qdy r0):=by rw [e0];exact qas _ _
     refine ⟨rfl,rfl,_,rfl,_,a0,rfl,wd g,m,by rw [List.length_map,l0],hp4,⟨g1,by omega,m1,by omega⟩,fun B D n p5 GD B2 lD n1 n2 hp5=>?_⟩
     have Bp:=GD.t.pos
     have hM:=qoy Gg.h.t GD.t lD
     refine ⟨g.1,g.2,wd g,B,D,n,rfl,⟨Gg.h.t,GD.t,lD,by omega,by omega,g1,by omega,by omega,qax (by omega) (by omega),qB (qax (by omega) (by omega)) (by decide)⟩,fun c S low=>⟨rfl,sm,p5,L++[(c,S)],_,_,_,by rw [List.map_append];rfl,hp5,by simp [hL],?_⟩⟩
     rw [← eB']
     have lM:(qco g.2 D (wd g) n).length=W:=by simp [qco];exact gl
     have GG:=low.gls hM (by omega)
     have cl:=low.le hM
     have le:=low.len
     have bb:g.1*B≤g.1*2:=Int.mul_le_mul_of_nonneg_left B2 (by omega)
     refine snoc _ (GS.of GG (by omega) (by omega) n1 (by omega) (by omega)) ?_
     rw [qwf GG.t (by omega)];exact n2
   all_goals
    refine ⟨rfl,rfl,rfl,W,m,8,rfl,hp3,⟨by omega,by omega,by omega,by omega,by decide,by decide⟩,fun b R n p4 G hb lR n1 n2 hp4=>⟨rfl,sm,p4,L++[(b,R)],_,_,_,by rw [List.map_append];rfl,hp4,by simp [hL],?_⟩⟩
    rw [← eB']
    refine snoc _ (GS.of G (by omega) (by omega) n1 (by omega) (by omega)) ?_
    rw [qwf G.t (by omega)];omega
  rintro e ⟨p2,L,t5,t6,t7,rfl,hp2,hL,hA⟩
  rw [qs] at hL hA
  have hi5:(1+x).toNat≤5:=by omega
  have bd:(1000:Int)*4^(1+x).toNat≤2000000:=by
   have:(1+x).toNat=0∨(1+x).toNat=1∨(1+x).toNat=2∨(1+x).toNat=3∨(1+x).toNat=4∨(1+x).toNat=5:=by omega
   rcases this with e|e|e|e|e|e <;> rw [e] <;> decide
  exact ⟨_,p2,rfl,rfl,h L W p2 ⟨fun g hg=>(hA g hg).1.up bd,W1,W2,by omega,by omega⟩ hp2⟩
def qcg:DC
 | [d],q=>q (.bool (match d with | .int _=>true|_=>false))
 | _,_=>False
theorem qpc:FnScope ["_law_thing"] ["_law_thing"] (defScope qek):=⟨rfl,rfl,rfl,by decide +kernel,rfl,by decide +kernel,by decide +kernel⟩
theorem qpl (F:Def K mg "_law_whole" qek ["_law_thing"]) (T:Txt K mg cs)
 : Ok P w K mg base "_law_whole" 1 ["_law_thing"] (PSp K qcg):=by
  refine F.vok qpc (fun ds q h=>by unfold qcg at h;split at h;all_goals first|rfl|exact h.elim) fun f cdv A outer s H E hr ds q h=>?_
  match ds,h with
  | [d],h =>
  refine ⟨_,(qh (qv (qpj (qec T.isinstance_ T.int_ L2.boot_int (qb 0)) (qkb (qwr (qec T.isinstance_ T.bool_ L2.boot_bool (qb 0))))))),?_⟩
  cases d <;> exact h
def ldD (n:Nat) (ld:Nat→Nat→Bool):PyData :=.list ((List.range n).map fun i => .list ((List.range n).map fun j => .bool (ld i j)))
structure Lds (L:List (Int×List (List Int))) (ld:Nat→Nat→Bool):Prop where
 d : ∀ i j,i<L.length→j<L.length→(ld i j=true↔DLi L i j)
theorem zadx {n:Nat}{ld:Nat→Nat→Bool}{i:Nat} (hi:i<n):atI ((List.range n).map fun i=>PyData.list ((List.range n).map fun j => .bool (ld i j))) (i:Int)=some (.list ((List.range n).map fun j => .bool (ld i j))):=qM (by rw [List.getElem?_map,List.getElem?_range hi];rfl)
theorem qws {n:Nat}{ld:Nat→Nat→Bool}{i j:Nat} (hj:j<n):atI ((List.range n).map fun j=>PyData.bool (ld i j)) (j:Int)=some (.bool (ld i j)):=qM (by rw [List.getElem?_map,List.getElem?_range hj];rfl)
def qjw (ds:List PyData) (q:PyData→Prop):Prop := ∃ (L:List (Int×List (List Int))) (W:Nat) (ld:Nat→Nat→Bool) (j:Nat),ds=[ldD L.length ld,.int j]∧(Shf L W∧Lds L ld∧j<L.length) ∧ ∀ t,(t=true ↔ ¬ qvx L j)→q (.bool t)
theorem qjz:FnScope ["_law_leads","_law_number","_law_other"] ["_law_leads","_law_number"] (defScope qfq):=⟨rfl,rfl,rfl,by decide +kernel,rfl,by decide +kernel,by decide +kernel⟩
theorem qrs (F:Def K mg "_law_high" qfq ["_law_leads","_law_number"]) (T:Txt K mg cs)
 : Ok P w K mg base "_law_high" 1 ["_law_leads","_law_number"] (PSp K qjw):=by
  refine F.vok qjz (by rintro ds q ⟨_,_,_,_,h,_⟩;rw [h];rfl) fun f cdv A outer s H E hr ds q h=>?_
  obtain ⟨L,W,ld,j,rfl,⟨hS,hd,hj⟩,h⟩:=h
  refine ⟨_,(qg (qai rfl (qE T.range_ (qr qag T.len_ L2.boot_len (qc (qb 0) qf))) (qm (i:=2) qjz.nd) (qh (qam (VW.pt (zadr (qA (qlc hr.units) (qb 2) (qb 1)) (qxq (qY (qq (qq (qb 0) (qb 2)) (qb 1)))))) (qh (qam (VW.pt (qbs (qah (qY (qq (qq (qb 0) (qb 1)) (qb 2)))) (qbi (qA qql (qb 2) (qb 1))))) (qh (qv qfz)) qI)) qI)))
   (qh (qv qfz))),?_⟩
  have n2:=hS.n2
  have lL:((((List.range L.length).map fun i=>PyData.list ((List.range L.length).map fun j => .bool (ld i j))).length:Nat):Int)=L.length:=by rw [List.length_map,List.length_range]
  refine ⟨⟨by rw [lL];omega,by rw [lL];omega⟩,fun i e => ∃ t2,e=[.val (ldD L.length ld),.val (.int j),t2] ∧ ∀ k,k<i → ¬ qls L k j,⟨_,rfl,fun k hk=>by omega⟩,?_,?_⟩
  ·rintro i x e hx ⟨t2,rfl,hn⟩
   obtain ⟨hi,rfl⟩:=qP hx
   rw [Int.zero_add]
   have hi':i<L.length:=by rw [lL] at hi;omega
   have step : ¬ qls L i j → ∀ k,k<i+1 → ¬ qls L k j:=fun z k hk=>by
    by_cases e:k=i
    ·subst e;exact z
    ·exact hn k (by omega)
   refine ⟨rfl,rfl,qew (fun ne=>?_) (fun ee=>?_)⟩
   ·refine ⟨_,zadx hi',_,qws hj,iteB (fun e1=>?_) (fun e1=>?_)⟩
    ·have d1:=(hd.d i j hi' hj).mp e1
     refine ⟨_,zadx hj,_,qws hi',?_⟩
     cases e2:ld j i with
     | false =>
      refine h false ⟨fun z=>(by cases z),fun z=>(z ⟨i,hi',d1,.inr fun y=>?_⟩).elim⟩
      rw [(hd.d j i hj hi').mpr y] at e2;cases e2
     | true =>
      refine qix (fun lt=>?_) (fun ge=>?_)
      ·exact h false ⟨fun z=>(by cases z),fun z=>(z ⟨i,hi',d1,.inl (by omega)⟩).elim⟩
      ·refine ⟨_,rfl,step fun o=>?_⟩
       rcases o.2 with q|q
       ·omega
       ·exact q ((hd.d j i hj hi').mp e2)
    ·refine ⟨_,rfl,step fun o=>?_⟩
     rw [(hd.d i j hi' hj).mpr o.1] at e1;cases e1
   ·have:i=j:=by omega
    subst this
    exact ⟨_,rfl,step (hS.oirr hi')⟩
  ·rintro e ⟨t2,rfl,hn⟩
   rw [qs,lL,Int.toNat_natCast] at hn
   exact h true ⟨fun _ xx189=>by obtain ⟨i,hi,o⟩:=xx189;exact hn i hi o,fun _=>rfl⟩
def qeq (ds:List PyData) (q:PyData→Prop):Prop := ∃ (B:Int) (D:List (List Int)) (m n:Nat),ds=[qat B D,.int m]∧(Tab B D n∧D.length=m∧1≤m∧m≤12∧n≤12∧qbx D=1)∧q (.bool true)
theorem qck:FnScope ["_law_dulling_here","_law_old","_law_row_here","_law_number"] ["_law_dulling_here","_law_old"] (defScope qbo):=⟨rfl,rfl,rfl,by decide +kernel,rfl,by decide +kernel,by decide +kernel⟩
theorem qji (F:Def K mg "_law_is_dulling" qbo ["_law_dulling_here","_law_old"]) (T:Txt K mg cs)
 (O__law_divisor:Ok P w K mg base "_law_divisor" 1 ["_law_numbers"] (PSp K qdz))
 (O__law_whole:Ok P w K mg base "_law_whole" 1 ["_law_thing"] (PSp K qcg))
 : Ok P w K mg base "_law_is_dulling" 2 ["_law_dulling_here","_law_old"] (PSp K qeq):=by
  refine F.vok qck (by rintro ds q ⟨_,_,_,_,h,_⟩;rw [h];rfl) fun f cdv A outer s H E hr ds q h=>?_
  obtain ⟨B,D,m,n,rfl,⟨hT,hl,m1,m2,n2,hg⟩,h⟩:=h
  refine ⟨_,(qg (qam (VW.pt (qbs (qah (qY (qec T.isinstance_ T.tuple_ L2.boot_tuple (qb 0)))) (qbs (qA (qlc hr.units) (qr qag T.len_ L2.boot_len (qc (qb 0) qf)) qe) (qbi (qah (qY (qx O__law_whole (hr.mono (by decide)) (qc (qq (qb 0) qe) qf)))))))) (qh (qv qfz)) qI)
   (qg (qam (VW.pt (qbs (qah (qY (qec T.isinstance_ T.tuple_ L2.boot_tuple (qq (qb 0) qe)))) (qbi (qA (qlc hr.units) (qr qag T.len_ L2.boot_len (qc (qq (qb 0) qe) qf)) (qb 1))))) (qh (qv qfz)) qI)
   (qg (qai rfl (qQ (qq (qb 0) qe)) (qm (i:=2) qck.nd) (qg (qam (VW.pt (qbs (qah (qY (qec T.isinstance_ T.tuple_ L2.boot_tuple (qb 2)))) (qbs (qA (qlc hr.units) (qr qag T.len_ L2.boot_len (qc (qb 2) qf)) (qr qag T.len_ L2.boot_len (qc (qq (qq (qb 0) qe) qe) qf))) (qbi (qA (qlc hr.units) (qr (qzw rfl) T.sum_ L2.boot_sum (qc (qb 2) qf)) (qq (qb 0) qe)))))) (qh (qv qfz)) qI)
   (qh (qai rfl (qQ (qb 2)) (qm (i:=3) qck.nd) (qh (qam (VW.pt (qbs (qah (qY (qx O__law_whole (hr.mono (by decide)) (qc (qb 3) qf)))) (qbi (qA qql (qb 3) qe)))) (qh (qv qfz)) qI))))))
   (qh (qv (qhj (qms hr.units) (qx O__law_divisor (hr.mono (by decide)) (qc (qT (qR (caps:=[]) (own:=["_law_row_here"]) (ix:=[]) rfl ⟨rfl,rfl,rfl,rfl,rfl,rfl⟩ (qQ (qq (qb 0) qe)) (fun _ _ _ _=>(qm (i:=0) (show List.Nodup (["_law_row_here"]:List Str) by decide))) (fun _ _ _ _=>(qx O__law_divisor (hr.mono (by decide)) (qc (qb 0) qf))))) qf)) qe)))))),?_⟩
  have lD:(((D.map qdy).length:Nat):Int)=m:=by rw [List.length_map,hl]
  obtain ⟨d0,D0,eD⟩:=List.exists_cons_of_ne_nil (show D≠[] from fun z=>by rw [z] at hl;simp at hl;omega)
  have l0:d0.length=n:=hT.len d0 (by rw [eD];simp)
  have aD:atI (D.map qdy) 0=some (qdy d0):=by rw [eD];exact qas _ _
  have ld0:(((d0.map PyData.int).length:Nat):Int)=n:=by rw [List.length_map,l0]
  refine ⟨rfl,rfl,qew (fun z=>absurd rfl z) (fun _=>⟨_,rfl,?_⟩)⟩
  refine ⟨_,rfl,_,rfl,rfl,rfl,qew (fun z=>absurd (by rw [lD]) z) (fun _=>?_)⟩
  refine ⟨_,rfl,fun i e => ∃ t2 t3,e=[.val (qat B D),.val (.int m),t2,t3],⟨_,_,rfl⟩,?_,?_⟩
  ·rintro i x e hx ⟨t2,t3,rfl⟩
   obtain ⟨r,hr',rfl⟩:=qcm hx
   have rm:=List.mem_of_getElem? hr'
   have lr:=hT.len r rm
   have lr':(((r.map PyData.int).length:Nat):Int)=n:=by rw [List.length_map,lr]
   refine ⟨_,rfl,_,aD,rfl,rfl,qew (fun z=>absurd (by rw [lr',ld0]) z) (fun _=>?_)⟩
   refine ⟨r,rfl,_,rfl,rfl,rfl,qew (fun z=>absurd (hT.sum r rm) z) (fun _=>?_)⟩
   refine ⟨fun j e => ∃ t3,e=[.val (qat B D),.val (.int m),.val (qdy r),t3],⟨_,rfl⟩,?_,?_⟩
   ·rintro j d e hd ⟨t3,rfl⟩
    obtain ⟨z,rfl,hz',zm⟩:=qbb hd
    have z0:=hT.le rm zm
    exact qix (fun y=>absurd y (by omega)) (fun _=>⟨_,rfl⟩)
   ·rintro e ⟨t3,rfl⟩
    exact ⟨_,_,rfl⟩
  rintro e ⟨t2,t3,rfl⟩
  refine ⟨_,rfl,?_⟩
  refine ⟨qo (by rw [List.length_map];omega),fun k ys e=>ys=((D.map fun r=>((qaq 0 r:Nat):Int)).map PyData.int).take k ∧ ∃ v,e=[v],⟨by simp,_,rfl⟩,?_,?_⟩
  ·rintro i x ys e hx ⟨hys,v,rfl⟩
   obtain ⟨r,hr',rfl⟩:=qcm hx
   refine ⟨_,r,rfl,rfl,qt ?_ hys,_,rfl⟩
   rw [List.getElem?_map,List.getElem?_map,hr'];rfl
  ·rintro ys e ⟨hys,v,rfl⟩
   rw [List.length_map,List.take_of_length_le (by simp)] at hys
   subst hys
   refine ⟨_,_,rfl,rfl,rfl,rfl,?_⟩
   have:qaq 0 (D.map fun r=>((qaq 0 r:Nat):Int))=1:=by rw [qlf];exact hg
   rw [this]
   exact h
theorem zaew {A B:List (List Int)}{n:Nat} (l:A.length=B.length) (ha : ∀ r ∈ A,r.length=n) (hb : ∀ r ∈ B,r.length=n) (h : ∀ s j,s<A.length→j<n→at2 A s j=at2 B s j):A=B:=by
 refine List.ext_getElem l fun s h1 h2=>?_
 have l1:=ha _ (List.getElem_mem h1)
 have l2:=hb _ (List.getElem_mem h2)
 refine List.ext_getElem (by rw [l1,l2]) fun j k1 k2=>?_
 have:=h s j h1 (by omega)
 rw [qxk (List.getElem?_eq_getElem h1),qxk (List.getElem?_eq_getElem h2),List.getElem?_eq_getElem k1,List.getElem?_eq_getElem k2] at this
 exact this
theorem zaft {g h:Int×List (List Int)}{W:Nat}{X:Int}{B:Int}{D:List (List Int)} (w:1≤W) (hg:GS W X g) (hh:GS W X h) (d:Dul g.1 g.2 (wd g) h.1 h.2 (wd h) B D):qvi (g.1*B) (qco g.2 D (wd g) (wd h))=dG h:=by
 have gp:=hg.h.t.pos
 have hp:=hh.h.t.pos
 have Bp:=d.t.pos
 have hM:=qoy hg.h.t d.t d.l
 have lM:(qco g.2 D (wd g) (wd h)).length=g.2.length:=by simp [qco]
 have e:sc h.1 (qco g.2 D (wd g) (wd h))=sc (g.1*B) h.2:=by
  refine zaew (n:=wd h) ?_ ?_ ?_ fun s j hs hj=>?_
  ·simp [sc,qco,hg.l,hh.l]
  ·intro r hr
   obtain ⟨r',hr',rfl⟩:=List.mem_map.mp hr
   rw [List.length_map];exact hM.len r' hr'
  ·intro r hr
   obtain ⟨r',hr',rfl⟩:=List.mem_map.mp hr
   rw [List.length_map];exact hh.h.t.len r' hr'
  ·have hs':s<g.2.length:=by simpa [sc,qco] using hs
   have sc_at : ∀ (k:Int) (T:List (List Int)),at2 (sc k T) s j=k*at2 T s j:=fun k T=>by
    unfold at2 sc
    rw [List.getElem?_map]
    cases e:T[s]? with
    | none=>simp
    | some r =>
     show ((r.map fun n=>k*n)[j]?).getD 0=k*(r[j]?).getD 0
     rw [List.getElem?_map]
     cases r[j]? <;> simp
   rw [sc_at,sc_at,zacd hs' hj,d.e s j hs' hj];grind
 rw [qzb (k:=h.1) (l:=g.1*B) (c:=h.1) (S:=h.2) (by omega) (Int.mul_pos (by omega) (by omega)) (Int.mul_comm _ _) e]
 exact zaeh hh.h
def qep (ds:List PyData) (q:PyData→Prop):Prop := ∃ (L:List (Int×List (List Int))) (W:Nat) (ld:Nat→Nat→Bool) (ou:Nat→Bool) (fs:List Nat) (rs:List PyData),ds=[.list (L.map dG),ldD L.length ld,dNs fs,.list rs]∧(Shf L W∧Lds L ld∧TopsOk L ou fs rs)∧q (.bool true)
theorem qV:FnScope ["_law_shelf_here","_law_leads","_law_high_here","_law_rows","_law_left","_law_k","_law_number","_law_by","_law_dulling_here"] ["_law_shelf_here","_law_leads","_law_high_here","_law_rows"] (defScope qbk):=⟨rfl,rfl,rfl,by decide +kernel,rfl,by decide +kernel,by decide +kernel⟩
theorem qjj (F:Def K mg "_law_rows_right" qbk ["_law_shelf_here","_law_leads","_law_high_here","_law_rows"]) (T:Txt K mg cs)
 (O__law_dulled:Ok P w K mg base "_law_dulled" 3 ["_law_glass","_law_dulling_here"] (PSp K qeu))
 (O__law_whole:Ok P w K mg base "_law_whole" 1 ["_law_thing"] (PSp K qcg))
 (O__law_is_dulling:Ok P w K mg base "_law_is_dulling" 2 ["_law_dulling_here","_law_old"] (PSp K qeq))
 : Ok P w K mg base "_law_rows_right" 4 ["_law_shelf_here","_law_leads","_law_high_here","_law_rows"] (PSp K qep):=by
  refine F.vok qV (by rintro ds q ⟨_,_,_,_,_,_,h,_⟩;rw [h];rfl) fun f cdv A outer s H E hr ds q h=>?_
  obtain ⟨L,W,ld,ou,fs,rs,rfl,⟨hS,hd,hK⟩,h⟩:=h
  refine ⟨_,(qg (qqw (i:=4) (caps:=["_law_high_here"]) (own:=["_law_number"]) (ix:=[2]) qV.nd rfl ⟨rfl,rfl,rfl,rfl,rfl,rfl⟩ (qE T.range_ (qr qag T.len_ L2.boot_len (qc (qb 0) qf))) (fun _ _ _ _=>(qm (i:=1) (show List.Nodup (["_law_high_here","_law_number"]:List Str) by decide))) (fun _ _ _ _=>(qA qve (qb 1) (qb 0))) (fun _ _ _ _=>(qb 1)))
   (qg (qam (VW.pt (qbs (qah (qY (qec T.isinstance_ T.list_ L2.boot_list (qb 3)))) (qbi (qA (qlc hr.units) (qr qag T.len_ L2.boot_len (qc (qb 3) qf)) (qr qag T.len_ L2.boot_len (qc (qb 4) qf)))))) (qh (qv qfz)) qI)
   (qg (qai rfl (qE T.range_ (qr qag T.len_ L2.boot_len (qc (qb 4) qf))) (qm (i:=5) qV.nd) (qg (qam (VW.pt (qbs (qah (qY (qec T.isinstance_ T.tuple_ L2.boot_tuple (qq (qb 3) (qb 5))))) (qbs (qA (qlc hr.units) (qr qag T.len_ L2.boot_len (qc (qq (qb 3) (qb 5)) qf)) qe) (qbi (qah (qY (qx O__law_whole (hr.mono (by decide)) (qc (qq (qq (qb 3) (qb 5)) qe) qf)))))))) (qh (qv qfz)) qI)
   (qg (zadp (qq (qb 3) (qb 5)) (qft (n:=3) rfl (qK (qm (i:=6) qV.nd) (qK (qm (i:=7) qV.nd) (qK (qm (i:=8) qV.nd) qdd)))))
   (qg (qam (VW.pt (qbs (qA (qlc hr.units) (qb 6) (qq (qb 4) (qb 5))) (qbs (qah (qY (qx O__law_whole (hr.mono (by decide)) (qc (qb 7) qf)))) (qbi (qA (qlc hr.units) (qb 7) (qq (qT (qic (caps:=["_law_leads","_law_number"]) (own:=["_law_top"]) (ix:=[1,6]) rfl ⟨rfl,rfl,rfl,rfl,rfl,rfl⟩ (qQ (qb 2)) (fun _ _ _ _=>(qm (i:=2) (show List.Nodup (["_law_leads","_law_number","_law_top"]:List Str) by decide))) (fun _ _ _ _=>(qY (qq (qq (qb 0) (qb 2)) (qb 1)))) (fun _ _ _ _=>(qb 2)))) qe)))))) (qh (qv qfz)) qI)
   (qh (qam (VW.pt (qbs (qah (qY (qx O__law_is_dulling (hr.mono (by decide)) (qc (qb 8) (qc (qr qag T.len_ L2.boot_len (qc (qq (qq (qq (qb 0) (qb 7)) qe) qe) qf)) qf))))) (qbi (qA (qlc hr.units) (qx O__law_dulled (hr.mono (by decide)) (qc (qq (qb 0) (qb 7)) (qc (qb 8) qf))) (qq (qb 0) (qb 6)))))) (qh (qv qfz)) qI))))))
   (qh (qv qfz))))),?_⟩
  have n2:=hS.n2
  have w1:=hS.w1
  have w2:=hS.w2
  have lL:(((L.map dG).length:Nat):Int)=L.length:=by rw [List.length_map]
  obtain ⟨rest,erest⟩ : ∃ rest,rest=(List.range L.length).filter ou:=⟨_,rfl⟩
  have hKl:=hK.l
  have hKr:=hK.r
  rw [← erest] at hKl hKr
  have rl:rest.length≤5:=by
   have:=List.length_filter_le ou (List.range L.length)
   rw [← erest,List.length_range] at this
   omega
  have fL : ∀ t ∈ fs,t<L.length:=fun t ht=>by
   rw [hK.f] at ht
   exact List.mem_range.mp (List.mem_filter.mp ht).1
  have fl:fs.length≤5:=by
   have:=List.length_filter_le (fun i => !ou i) (List.range L.length)
   rw [← hK.f,List.length_range] at this
   omega
  refine ⟨⟨by rw [lL];omega,by rw [lL];omega⟩,qo (by rw [qs,lL];omega),fun k ys e=>ys=(((List.range L.length).take k).filter ou).map (fun (k:Nat)=>PyData.int k) ∧ ∃ v,e=[.val (dNs fs),v],⟨by simp,_,rfl⟩,?_,?_⟩
  ·rintro i x ys e hx ⟨rfl,v,rfl⟩
   obtain ⟨hi,rfl⟩:=qP hx
   rw [Int.zero_add]
   have hi':i<L.length:=by rw [lL] at hi;omega
   have er:=List.getElem?_range hi'
   refine ⟨i,fs.map fun (k:Nat)=>(k:Int),rfl,by unfold dNs qlu;rw [List.map_map];rfl,?_⟩
   rw [hK.f,zadq hi',Bool.not_not]
   cases et:ou i with
   | true =>
    refine ⟨?_,_,rfl⟩
    rw [qba er,List.map_append,if_pos et];rfl
   | false =>
    refine ⟨?_,_,rfl⟩
    rw [qba er,List.map_append,if_neg (by rw [et];simp)];simp
  rintro ys e ⟨rfl,v,rfl⟩
  rw [qs,lL,Int.toNat_natCast,List.take_of_length_le (l:=List.range L.length) (by simp),← erest]
  have lR:((rs.length:Nat):Int)=(((rest.map fun (k:Nat)=>PyData.int k).length:Nat):Int):=by rw [hKl,List.length_map]
  have lR2:(((rest.map fun (k:Nat)=>PyData.int k).length:Nat):Int)=rest.length:=by rw [List.length_map]
  refine ⟨rfl,rfl,qew (fun z=>absurd lR z) (fun _=>?_)⟩
  refine ⟨⟨by rw [lR2];omega,by rw [lR2];omega⟩,fun i e => ∃ t5 t6 t7 t8,e=[.val (.list (L.map dG)),.val (ldD L.length ld),.val (dNs fs),.val (.list rs),.val (.list (rest.map fun (k:Nat)=>PyData.int k)),t5,t6,t7,t8],⟨_,_,_,_,rfl⟩,?_,?_⟩
  ·rintro k x e hx ⟨t5,t6,t7,t8,rfl⟩
   obtain ⟨hk,rfl⟩:=qP hx
   rw [Int.zero_add]
   have hk':k<rest.length:=by rw [lR2] at hk;omega
   have ek:rest[k]?=some rest[k]:=List.getElem?_eq_getElem hk'
   have er:rs[k]?=some (rs[k]'(by omega)):=List.getElem?_eq_getElem _
   have row:=hKr k _ _ ek er
   have jm:=List.mem_of_getElem? ek
   generalize rest[k]=j at ek row jm
   generalize rs[k]'(by omega)=d at er row
   obtain ⟨t,B,D,hb,hD,rfl⟩:=row
   rw [erest] at jm
   have hj:=List.mem_range.mp (List.mem_filter.mp jm).1
   obtain ⟨k0,ek0,_⟩:=hb.k
   have ht:=fL t (List.mem_of_getElem? ek0)
   have eg:L[t]?=some L[t]:=List.getElem?_eq_getElem ht
   have eh:L[j]?=some L[j]:=List.getElem?_eq_getElem hj
   have dls:=hD _ _ eg eh
   have Gg:=hS.g _ (List.mem_of_getElem? eg)
   have Gh:=hS.g _ (List.mem_of_getElem? eh)
   generalize L[t]=g at eg dls Gg
   generalize L[j]=h' at eh dls Gh
   have ar:atI rs (k:Int)=some (.tuple [.int j,.int t,qat B D]):=qM er
   have al:atI (rest.map fun (k:Nat)=>PyData.int k) (k:Int)=some (.int j):=qM (by rw [List.getElem?_map,ek];rfl)
   have ag:atI (L.map dG) (t:Int)=some (dG g):=qM (by rw [List.getElem?_map,eg];rfl)
   have ah:atI (L.map dG) (j:Int)=some (dG h'):=qM (by rw [List.getElem?_map,eh];rfl)
   refine ⟨_,ar,_,ar,rfl,rfl,qew (fun z=>absurd rfl z) (fun _=>⟨_,ar,_,rfl,?_⟩)⟩
   refine ⟨_,ar,rfl,rfl,?_⟩
   refine ⟨_,al,rfl,rfl,qew (fun z=>absurd rfl z) (fun _=>?_)⟩
   refine ⟨qo (by rw [List.length_map];omega),fun k ys e=>((ys=[] ∧ ∀ k' t',k'<k→fs[k']?=some t' → ¬ DLi L t' j) ∨ ∃ (t:Nat) (rest:List PyData),ys = .int t::rest∧ByOf L fs j t) ∧ ∃ v,e=[.val (ldD L.length ld),.val (.int j),v],⟨.inl ⟨rfl,fun k' t' z=>by omega⟩,_,rfl⟩,?_,?_⟩
   ·rintro i x ys e hx ⟨hy,v,rfl⟩
    rw [List.getElem?_map] at hx
    cases ei:fs[i]? with
    | none=>rw [ei] at hx;cases hx
    | some u =>
    rw [ei] at hx
    have hx:some (PyData.int u)=some x:=hx
    injection hx with hx
    subst hx
    have hu:=fL u (List.mem_of_getElem? ei)
    have hb':=hd.d u j hu hj
    refine ⟨_,zadx hu,_,qws hj,iteB (fun e1=>⟨?_,_,rfl⟩) (fun e1=>⟨?_,_,rfl⟩)⟩
    ·right
     rcases hy with ⟨rfl,hn⟩|⟨t0,rest,rfl,h0⟩
     ·exact ⟨u,[],rfl,⟨i,ei,hn⟩,hb'.mp e1⟩
     ·exact ⟨t0,rest++[.int u],rfl,h0⟩
    ·rcases hy with ⟨rfl,hn⟩|hy
     ·refine .inl ⟨rfl,fun k' t' z et=>?_⟩
      by_cases e:k'=i
      ·subst e
       rw [ei] at et
       injection et with et
       subst et
       intro y
       rw [hb'.mpr y] at e1;cases e1
      ·exact hn k' t' (by omega) et
     ·exact .inr hy
   rintro ys e ⟨hy,v,rfl⟩
   rw [List.length_map] at hy
   rcases hy with ⟨rfl,hn⟩|⟨t0,rest',rfl,h0⟩
   ·exact (hn k0 t (List.getElem?_eq_some_iff.mp ek0).1 ek0 hb.d).elim
   have et:t0=t:=by
    obtain ⟨a,ea,na⟩:=h0.k
    obtain ⟨b,eb,nb⟩:=hb.k
    rcases Nat.lt_trichotomy a b with q|q|q
    ·exact (nb a t0 q ea h0.d).elim
    ·subst q
     rw [ea] at eb
     exact Option.some.inj eb
    ·exact (na b t q eb hb.d).elim
   subst et
   refine ⟨_,qas _ _,rfl,rfl,qew (fun z=>absurd rfl z) (fun _=>?_)⟩
   obtain ⟨r0,R0,e0,l0⟩:=Gg.head (by omega)
   have a0:atI (g.2.map qdy) 0=some (qdy r0):=by rw [e0];exact qas _ _
   have gm1:=Gg.m1
   have gm2:=Gg.m2
   have hm2:=Gh.m2
   have gb:=Gg.b
   have gp:=Gg.h.t.pos
   have gl:=Gg.l
   refine ⟨_,ag,_,rfl,_,a0,B,D,wd g,wd h',by rw [List.length_map,l0],⟨dls.u.t,dls.u.l,gm1,by omega,by omega,dls.g⟩,?_⟩
   refine ⟨_,ag,g.1,g.2,wd g,B,D,wd h',rfl,⟨Gg.h.t,dls.u.t,dls.u.l,by omega,by omega,gm1,by omega,by omega,qax (by omega) (by omega),dls.z⟩,fun c S low=>?_⟩
   have eS:qat c S=dG h':=by
    rw [low.b,low.r]
    exact zaft (by omega) Gg Gh dls.u
   refine ⟨_,ah,(qky c S).ok,(qky _ _).ok,iteN ?_ ⟨_,_,_,_,rfl⟩⟩
   rw [eS]
   exact (qky h'.1 h'.2).refl
  rintro e ⟨t5,t6,t7,t8,rfl⟩
  exact h
def qiy (ds:List PyData) (q:PyData→Prop):Prop := ∃ (L:List (Int×List (List Int))) (W:Nat) (ld:Nat→Nat→Bool) (ou:Nat→Bool) (fs:List Nat) (rs:List PyData),ds=[.list (L.map dG),ldD L.length ld,.tuple [dNs fs,.list rs]]∧(Shf L W∧Lds L ld∧TopsOk L ou fs rs)∧q (.bool true)
theorem qjb:FnScope ["_law_shelf_here","_law_leads","_law_found","_law_high_here"] ["_law_shelf_here","_law_leads","_law_found"] (defScope qei):=⟨rfl,rfl,rfl,by decide +kernel,rfl,by decide +kernel,by decide +kernel⟩
theorem qpk (F:Def K mg "_law_right" qei ["_law_shelf_here","_law_leads","_law_found"]) (T:Txt K mg cs)
 (O__law_whole:Ok P w K mg base "_law_whole" 1 ["_law_thing"] (PSp K qcg))
 (O__law_high:Ok P w K mg base "_law_high" 1 ["_law_leads","_law_number"] (PSp K qjw))
 (O__law_rows_right:Ok P w K mg base "_law_rows_right" 4 ["_law_shelf_here","_law_leads","_law_high_here","_law_rows"] (PSp K qep))
 : Ok P w K mg base "_law_right" 5 ["_law_shelf_here","_law_leads","_law_found"] (PSp K qiy):=by
  refine F.vok qjb (by rintro ds q ⟨_,_,_,_,_,_,h,_⟩;rw [h];rfl) fun f cdv A outer s H E hr ds q h=>?_
  obtain ⟨L,W,ld,ou,fs,rs,rfl,⟨hS,hd,hK⟩,h⟩:=h
  refine ⟨_,(qg (qam (VW.pt (qbs (qah (qY (qec T.isinstance_ T.tuple_ L2.boot_tuple (qb 2)))) (qbs (qA (qlc hr.units) (qr qag T.len_ L2.boot_len (qc (qb 2) qf)) qe) (qbi (qah (qY (qec T.isinstance_ T.list_ L2.boot_list (qq (qb 2) qe)))))))) (qh (qv qfz)) qI)
   (qg (qqw (i:=3) (caps:=["_law_leads"]) (own:=["_law_number"]) (ix:=[1]) qjb.nd rfl ⟨rfl,rfl,rfl,rfl,rfl,rfl⟩ (qE T.range_ (qr qag T.len_ L2.boot_len (qc (qb 0) qf))) (fun _ _ _ _=>(qm (i:=1) (show List.Nodup (["_law_leads","_law_number"]:List Str) by decide))) (fun _ _ _ _=>(qY (qx O__law_high (hr.mono (by decide)) (qc (qb 0) (qc (qb 1) qf))))) (fun _ _ _ _=>(qb 1)))
   (qg (qam (VW.pt (qbs (qA (qlc hr.units) (qq (qb 2) qe) (qb 3)) (qbi (qA (qlc hr.units) (qT (qic (caps:=[]) (own:=["_law_number"]) (ix:=[]) rfl ⟨rfl,rfl,rfl,rfl,rfl,rfl⟩ (qQ (qq (qb 2) qe)) (fun _ _ _ _=>(qm (i:=0) (show List.Nodup (["_law_number"]:List Str) by decide))) (fun _ _ _ _=>(qah (qY (qx O__law_whole (hr.mono (by decide)) (qc (qb 0) qf))))) (fun _ _ _ _=>(qb 0)))) (qT (qcd qf)))))) (qh (qv qfz)) qI)
   (qh (qv (qx O__law_rows_right (hr.mono (by decide)) (qc (qb 0) (qc (qb 1) (qc (qb 3) (qc (qq (qb 2) qe) qf)))))))))),?_⟩
  have n2:=hS.n2
  have lL:(((L.map dG).length:Nat):Int)=L.length:=by rw [List.length_map]
  have fl:fs.length≤5:=by
   have:=List.length_filter_le (fun i => !ou i) (List.range L.length)
   rw [← hK.f,List.length_range] at this
   omega
  have shf:Shp 1 (dNs fs):=qla fun x hx=>by
   obtain ⟨k,_,rfl⟩:=List.mem_map.mp hx
   exact qss _ _
  have sh0:Shp 1 (.list []):=qla (by simp)
  refine ⟨rfl,rfl,qew (fun z=>absurd rfl z) (fun _=>⟨_,rfl,?_⟩)⟩
  refine ⟨⟨by rw [lL];omega,by rw [lL];omega⟩,qo (by rw [qs,lL];omega),fun k ys e=>ys=(((List.range L.length).take k).filter fun i => !ou i).map (fun (k:Nat)=>PyData.int k) ∧ ∃ v,e=[.val (ldD L.length ld),v],⟨by simp,_,rfl⟩,?_,?_⟩
  ·rintro i x ys e hx ⟨rfl,v,rfl⟩
   obtain ⟨hi,rfl⟩:=qP hx
   rw [Int.zero_add]
   have hi':i<L.length:=by rw [lL] at hi;omega
   have er:=List.getElem?_range hi'
   refine ⟨L,W,ld,i,rfl,⟨hS,hd,hi'⟩,fun t ht=>?_⟩
   have et:t = !ou i:=by
    rw [Bool.eq_iff_iff,ht,← hK.o i]
    cases ou i <;> simp
   cases t with
   | true =>
    refine ⟨?_,_,rfl⟩
    rw [qba er,List.map_append,if_pos et.symm];rfl
   | false =>
    refine ⟨?_,_,rfl⟩
    rw [qba er,List.map_append,if_neg (by rw [← et];simp)];simp
  rintro ys e ⟨rfl,v,rfl⟩
  rw [qs,lL,Int.toNat_natCast,List.take_of_length_le (l:=List.range L.length) (by simp),← hK.f]
  refine ⟨_,rfl,shf.ok,shf.ok,iteN shf.refl ?_⟩
  refine ⟨_,rfl,qo (by rw [List.length_map];omega),fun k ys e=>ys=[] ∧ ∃ v,e=[v],⟨rfl,_,rfl⟩,?_,?_⟩
  ·rintro i x ys e hx ⟨rfl,v,rfl⟩
   rw [List.getElem?_map] at hx
   cases ei:fs[i]? with
   | none=>rw [ei] at hx;cases hx
   | some u =>
   rw [ei] at hx
   have hx:some (PyData.int u)=some x:=hx
   injection hx with hx
   subst hx
   exact ⟨rfl,_,rfl⟩
  rintro ys e ⟨rfl,v,rfl⟩
  refine ⟨szl,sh0.ok,sh0.ok,iteN sh0.refl ?_⟩
  exact ⟨_,rfl,L,W,ld,ou,fs,rs,rfl,⟨hS,hd,hK⟩,h⟩
theorem zamc (L:List (Int×List (List Int))) : ∃ dl:(Int×List (List Int))→(Int×List (List Int))→Bool,∀ g h,dl g h=true↔DL g h :=
 ⟨fun g h => @decide (DL g h) (Classical.propDecidable _),fun g h => @decide_eq_true_iff (DL g h) (Classical.propDecidable _)⟩
theorem qqv {α β:Type} (l:List α) (d:α) (f:α→β):l.map f=(List.range l.length).map fun i=>f ((l[i]?).getD d):=by
 refine List.ext_getElem? fun i=>?_
 rw [List.getElem?_map,List.getElem?_map]
 by_cases hi:i<l.length
 ·rw [List.getElem?_range hi]
  show _=some (f ((l[i]?).getD d))
  rw [List.getElem?_eq_getElem hi];rfl
 ·rw [List.getElem?_eq_none (l:=l) (by omega),List.getElem?_eq_none (by simp;omega)];rfl
theorem qka:FnScope ["_law_script","_law_pen_here","_law_shelf_here","_law_leads","_law_one","_law_handed","_law_found"] ["_law_script"] (defScope qmb):=⟨rfl,rfl,rfl,by decide +kernel,rfl,by decide +kernel,by decide +kernel⟩
theorem zais {f:Addr}{fd:FuncData} (F:Fun K "law" "law" qmb f fd) (T:Txt K mg cs)
 (O_compared:Ok P w K mg base "compared" 6 ["one","other"] (PSp K qhq))
 (O_tops:Ok P w K mg base "tops" 8 ["shelf"] (TopSp K qxj))
 (O__law_pen:Ok P w K mg base "_law_pen" 1 ["_law_script"] (FSp K qlx))
 (O__law_shelf:Ok P w K mg base "_law_shelf" 5 ["_law_pen_here"] (NSp K qit))
 (O__law_right:Ok P w K mg base "_law_right" 5 ["_law_shelf_here","_law_leads","_law_found"] (PSp K qiy))
 : FnOk P w K mg base CX0 9 f fd ["_law_script"] (zaaf K):=by
  refine F.ok qka (fun vs H Q E h=>by obtain ⟨a,ns,rfl,_⟩:=h;rfl) fun cdv A outer s H vs Q E hr h=>?_
  obtain ⟨a,ns,rfl,hS0,hlen,kk⟩:=h
  have hi:Iss K H [.list (ns.map .int)] [.ref a]:=qy (qcq hS0 (qhu ns)) qO
  refine ⟨_,qz (VS.ps (qdc (i:=1) qka.nd (qnk O__law_pen (hr.mono (by decide)) (qc (qb 0) qf)))) (qz (VS.ps (qC (i:=2) qka.nd (qap 1 O__law_shelf (hr.mono (by decide)) qf))) (qz (VS.ps (qdc (i:=3) qka.nd (qcd qf))) (qz (VS.ps (qai rfl (qQ (qb 2)) (qm (i:=4) qka.nd) (qh (qcb 3 (qT (qR (caps:=["_law_one"]) (own:=["_law_other"]) (ix:=[4]) rfl ⟨rfl,rfl,rfl,rfl,rfl,rfl⟩ (qQ (qb 2)) (fun _ _ _ _=>(qm (i:=1) (show List.Nodup (["_law_one","_law_other"]:List Str) by decide))) (fun _ _ _ _=>(qhj (qms hr.units) (qq (qx O_compared (hr.mono (by decide)) (qc (qb 0) (qc (qb 1) qf))) qe) qps)))))))) (qz (VS.ps (qC (i:=5) qka.nd (qT (qrf zadg T.list_ L2.boot_list (qc (qb 2) qf)))))
   (qz (qgf (i:=6) qka.nd rfl (by first|exact Or.inl rfl|exact Or.inr rfl) (zaac O_tops (hr.mono (by decide)) (VA.pa (qc (qb 5) qf))) rfl (by first|exact .inl rfl|exact .inr rfl))
   (qz (zaed (VT.pt (VW.pt (qbs (qah (qY (qx O__law_right (hr.mono (by decide)) (qc (qb 2) (qc (qb 3) (qc (qb 6) qf)))))) (qbi (qA (qlc hr.units) (qb 5) (qb 2)))))) (qfh (qke zahh)) qsd)
   (qz (qfv (qlk (qtl qxa (qG (i:=6) rfl (by first|exact Or.inl rfl|exact Or.inr (Or.inl rfl)|exact Or.inr (Or.inr rfl)) (by decide) (by decide)) qkg (fun _ _=>rfl)) qkg))
   (qz (qfv (qlk (qtl qxa (qG (i:=6) rfl (by first|exact Or.inl rfl|exact Or.inr (Or.inl rfl)|exact Or.inr (Or.inr rfl)) (by decide) (by decide)) qkg (fun _ _=>rfl)) qkg))
   (qfh (VS.ps (qv (qx O__law_right (hr.mono (by decide)) (qc (qb 2) (qc (qb 3) (qc (qx (zake O_tops) (hr.mono (by decide)) (qc (qb 5) qf)) qf))))))))))))))),?_⟩
  refine ⟨⟨H,H,H⟩,_,H,{ nx:=fun e => ∃ p,qbq p∧e=[.val (.list (ns.map .int)),.own p,.non,.non,.non,.non,.non],rt:=fun _ _=>False },qfd (.refl _) hi,?_,⟨fun e1 F1 H1 σ1 I1 s1 q1=>?_,fun _ _ _ _ _ _ _ _ _ q=>q.elim,fun _ _ _ _ _ _ q=>q.elim,fun _ _ _ _ _ _ q=>q.elim⟩⟩
  ·exact ⟨ns,rfl,hlen,fun p hp=>⟨p,hp,rfl⟩⟩
  obtain ⟨p,hp,rfl⟩:=q1
  refine ⟨⟨H,H,H⟩,_,F1,{ nx:=fun e => ∃ p L W,(qbq p∧Shf L W)∧e=[.val (.list (ns.map .int)),.own p,.val (.list (L.map dG)),.non,.non,.non,.non],rt:=fun _ _=>False },I1,?_,⟨fun e2 F2 H2 σ2 I2 s2 q2=>?_,fun _ _ _ _ _ _ _ _ _ q=>q.elim,fun _ _ _ _ _ _ q=>q.elim,fun _ _ _ _ _ _ q=>q.elim⟩⟩
  ·exact ⟨rfl,rfl,rfl,hp,fun L W p' hS hp'=>⟨p',L,W,⟨hp',hS⟩,rfl⟩⟩
  obtain ⟨p',L,W,⟨hp',hS⟩,rfl⟩:=q2
  obtain ⟨dl,hdl⟩:=zamc L
  have n2:=hS.n2
  refine ⟨⟨H,H,H⟩,_,F2,{ nx:=fun e=>e=[.val (.list (ns.map .int)),.own p',.val (.list (L.map dG)),.own [],.non,.non,.non],rt:=fun _ _=>False },I2,?_,⟨fun e3 F3 H3 σ3 I3 s3 q3=>?_,fun _ _ _ _ _ _ _ _ _ q=>q.elim,fun _ _ _ _ _ _ q=>q.elim,fun _ _ _ _ _ _ q=>q.elim⟩⟩
  ·exact ⟨szl,rfl⟩
  have q3:e3=_:=q3
  subst q3
  refine ⟨⟨H,H,H⟩,_,F3,{ nx:=fun e => ∃ t4,e=[.val (.list (ns.map .int)),.own p',.val (.list (L.map dG)),.own (L.map fun g=>PyData.list (L.map fun h => .bool (dl g h))),t4,.non,.non],rt:=fun _ _=>False },I3,?_,⟨fun e4 F4 H4 σ4 I4 s4 q4=>?_,fun _ _ _ _ _ _ _ _ _ q=>q.elim,fun _ _ _ _ _ _ q=>q.elim,fun _ _ _ _ _ _ q=>q.elim⟩⟩
  ·have shD:=shpS (x := "dulls") 0 (by decide +kernel)
   have shC:=shpS (x := "decision") 0 (by decide +kernel)
   have cd':PyData.eqv (.str "decision") (.str "dulls")=false:=by decide +kernel
   have w1:=hS.w1
   refine ⟨fun i e => ∃ t4,e=[.val (.list (ns.map .int)),.own p',.val (.list (L.map dG)),.own ((L.take i).map fun g=>PyData.list (L.map fun h => .bool (dl g h))),t4,.non,.non],⟨_,rfl⟩,?_,?_⟩
   ·rintro i x e hx ⟨t4,rfl⟩
    obtain ⟨g,ei,rfl⟩:=trow_get' hx
    have hg:=hS.g g (List.mem_of_getElem? ei)
    have hi:i<L.length:=(List.getElem?_eq_some_iff.mp ei).1
    refine ⟨rfl,?_⟩
    refine qbc (L.map fun h => .bool (dl g h)) (by simp) (qo (by rw [List.length_map];omega)) (fun e => ∃ t,e=[.val (dG g),t]) ⟨_,rfl⟩ ?_ ?_
    ·rintro j d ys e hd hys ⟨t,rfl⟩
     obtain ⟨h,ej,rfl⟩:=trow_get' hd
     have hh:=hS.g h (List.mem_of_getElem? ej)
     have gp:=hg.h.t.pos
     have hp:=hh.h.t.pos
     refine ⟨g.1,g.2,wd g,h.1,h.2,wd h,rfl,GS.pre (by omega) hS.w2 hg hh,fun B D hD=>⟨_,rfl,shD.ok,shD.ok,qt ?_ hys,_,rfl⟩,fun Wt hW=>⟨_,rfl,shC.ok,shD.ok,qt ?_ hys,_,rfl⟩⟩
     ·rw [List.getElem?_map,ej,shD.refl]
      show some (PyData.bool (dl g h))=_
      rw [(hdl g h).mpr ⟨B,D,hD.u⟩]
     ·rw [List.getElem?_map,ej,cd']
      show some (PyData.bool (dl g h))=_
      cases e:dl g h with
      | false=>rfl
      | true =>
       obtain ⟨B,D,hD⟩:=(hdl g h).mp e
       exact (qsu (by omega) (by omega) hD hW).elim
    ·refine ⟨rfl,qo (by show (List.map _ (L.take i)).length≤1000;rw [List.length_map,List.length_take];omega),.val (dG g),?_⟩
     rw [List.take_add_one,ei,List.map_append];rfl
   ·rintro e ⟨t4,rfl⟩
    exact ⟨t4,by rw [List.length_map,List.take_length]⟩
  obtain ⟨t4,rfl⟩:=q4
  refine ⟨⟨H,H,H⟩,_,F4,{ nx:=fun e=>e=[.val (.list (ns.map .int)),.own p',.val (.list (L.map dG)),.own (L.map fun g=>PyData.list (L.map fun h => .bool (dl g h))),t4,.val (.list (L.map dG)),.non],rt:=fun _ _=>False },I4,?_,⟨fun e5 F5 H5 σ5 I5 s5 q5=>?_,fun _ _ _ _ _ _ _ _ _ q=>q.elim,fun _ _ _ _ _ _ q=>q.elim,fun _ _ _ _ _ _ q=>q.elim⟩⟩
  ·rfl
  have q5:e5=_:=q5
  subst q5
  obtain ⟨ld,eld⟩ : ∃ ld:Nat→Nat→Bool,ld=fun i j=>dl ((L[i]?).getD (0,[])) ((L[j]?).getD (0,[])):=⟨_,rfl⟩
  have eLD:PyData.list (L.map fun g=>PyData.list (L.map fun h => .bool (dl g h)))=ldD L.length ld:=by
   unfold ldD
   rw [qqv L (0,[]) (fun g=>PyData.list (L.map fun h => .bool (dl g h)))]
   refine congrArg _ (List.map_congr_left fun i hi=>?_)
   rw [qqv L (0,[]) (fun h=>PyData.bool (dl ((L[i]?).getD (0,[])) h)),eld]
  have hLds:Lds L ld:=⟨fun i j hi hj=>by
   have e1:L[i]?=some L[i]:=List.getElem?_eq_getElem hi
   have e2:L[j]?=some L[j]:=List.getElem?_eq_getElem hj
   rw [eld]
   show dl ((L[i]?).getD (0,[])) ((L[j]?).getD (0,[]))=true↔_
   rw [e1,e2]
   show dl L[i] L[j]=true↔_
   rw [hdl]
   constructor
   ·intro d;exact ⟨_,_,e1,e2,d⟩
   ·rintro ⟨g,h,x1,x2,d⟩
    rw [e1] at x1
    rw [e2] at x2
    injection x1 with x1
    injection x2 with x2
    rw [x1,x2];exact d⟩
  obtain ⟨x0,_,rfl,_,x1,_,rfl,_,x2,_,rfl,⟨v2,rfl,i2⟩,x3,_,rfl,⟨a3,vs3,rfl,l1',l2',l3',l4',l5'⟩,x4,_,rfl,_,x5,_,rfl,⟨v5,rfl,i5⟩,x6,_,rfl,_,rfl⟩:=I5.all
  have l4':H a3=none:=l4'
  have g5:=qta I5.goOf l4' l1'
  have sn5:Same F5 (upd F5 a3 (.lst vs3)):=qjc I5.fh l1'
  have i3:Is K (upd F5 a3 (.lst vs3)) (ldD L.length ld) (.ref a3):=by
   rw [← eLD]
   exact qcq (SqL.of qp) (l5'.mono sn5)
  have mk : ∀ {F' H':Hp} (s6:Sl) (y6:Option V),Same (upd F5 a3 (.lst vs3)) F'→Same F' H'→(SlotOk K ⟨H',H',F'⟩ F' H' s6 y6∧s6.mut=false)→EnvOk K ⟨H',H',F'⟩ F' H' [.non,.non,.val (.list (L.map dG)),.val (ldD L.length ld),.non,.val (.list (L.map dG)),s6] [x0,x1,some v2,some (.ref a3),x4,some v5,y6]:=fun s6 y6 f f' z6 =>
   qtc f' ⟨_,_,rfl,⟨trivial,rfl⟩,_,_,rfl,⟨trivial,rfl⟩,_,_,rfl,⟨⟨v2,rfl,(i2.mono sn5).mono f⟩,rfl⟩,_,_,rfl,⟨⟨_,rfl,i3.mono f⟩,rfl⟩,_,_,rfl,⟨trivial,rfl⟩,_,_,rfl,⟨⟨v5,rfl,(i5.mono sn5).mono f⟩,rfl⟩,_,_,rfl,z6,rfl⟩
  refine ⟨⟨_,_,_⟩,_,_,fun ds e=>ds=[.list (L.map dG)],mk .non x6 (.refl _) g5.fh ⟨trivial,rfl⟩,?_,fun ds vs F6 H6 e6 I6 s6 i6 q6=>?_⟩
  ·rfl
  have q6:ds=_:=q6
  subst q6
  have g6:=I6.goOf
  refine ⟨F6,_,fun d => ∃ ou fs rs,TopsOk L ou fs rs∧d = .tuple [dNs fs,.list rs],I6.fh,by rw [List.append_nil];exact i6,⟨L,W,rfl,hS,fun ou fs rs z=>⟨ou,fs,rs,z,rfl⟩⟩,fun d p l1 l2 xs1 xs2 F7 H7 g7 i7 p1 m1 m2 h1 h2 nl z1 z2 qd=>?_⟩
  obtain ⟨ou,fs,rs,hK,rfl⟩:=qd
  have g67:=g6.trans g7
  refine ⟨⟨H7,H7,F7⟩,_,F7,fun bb e=>bb=false,mk (.val (.tuple [dNs fs,.list rs])) (some (.ref p)) g67.f g67.fh ⟨⟨_,rfl,i7⟩,rfl⟩,?_,fun bb F8 H8 e8 I8 s8 q8=>?_⟩
  ·have sh:Shp 4 (.list (L.map dG)):=qla fun x hx=>by
    obtain ⟨g,_,rfl⟩:=List.mem_map.mp hx
    exact qky _ _
   refine ⟨L,W,ld,ou,fs,rs,rfl,⟨hS,hLds,hK⟩,sh.ok,sh.ok,?_⟩
   show (!PyData.eqv _ _)=false
   rw [sh.refl];rfl
  have q8:bb=_:=q8
  subst q8
  show if false=true then _ else _
  rw [if_neg (by decide)]
  have g8:=I8.goOf
  have tp:H8 p=some (.tup [.ref l1,.ref l2]):=g8.h _ _ p1
  have t1:H8 l1=some (.lst xs1):=g8.h _ _ h1
  have t2:H8 l2=some (.lst xs2):=g8.h _ _ h2
  have n1:p≠l1:=fun z=>by rw [z,t1] at tp;cases tp
  have n2':p≠l2:=fun z=>by rw [z,t2] at tp;cases tp
  refine ⟨.ref p,rfl,p,_,0,.ref l1,rfl,rfl,SqT.of tp,rfl,.inl ⟨rfl,_,SqL.of t1⟩,l1,xs1,.int 0,rfl,rfl,t1,qo (by omega),?_⟩
  have u2:upd H8 l1 (.lst (xs1++[.int 0])) l2=some (.lst xs2):=by rw [qk (Ne.symm nl)];exact t2
  refine ⟨.ref p,rfl,p,_,1,.ref l2,rfl,rfl,SqT.of (by rw [qk n1];exact tp),rfl,.inl ⟨rfl,_,SqL.of u2⟩,l2,xs2,.int 0,rfl,rfl,u2,qo (by omega),?_⟩
  have key:Same (upd F5 a3 (.lst vs3)) (upd (upd H8 l1 (.lst (xs1++[.int 0]))) l2 (.lst (xs2++[.int 0]))):=fun c u e=>by
   have e6:H6 c=some u:=g6.fh _ _ (g6.f _ _ e)
   have k1:c≠l1:=ql e6 m1
   have k2:c≠l2:=ql e6 m2
   rw [qk k2,qk k1]
   exact (g7.trans g8).h _ _ e6
  refine ⟨⟨_,_,upd F5 a3 (.lst vs3)⟩,_,upd F5 a3 (.lst vs3),{ nx:=fun _=>False,rt:=fun r _=>r.data = .bool true },mk .non _ (.refl _) key ⟨trivial,rfl⟩,?_,⟨fun _ _ _ _ _ _ q=>q.elim,fun r v e9 F9 H9 σ9 I9 s9 r9 q9=>?_,fun _ _ _ _ _ _ q=>q.elim,fun _ _ _ _ _ _ q=>q.elim⟩⟩
  ·exact ⟨L,W,rfl,hS,fun ou fs rs z=>⟨L,W,ld,ou,fs,rs,rfl,⟨hS,hLds,z⟩,rfl⟩⟩
  obtain ⟨F10,g10,j10⟩:=r9.is I9
  have q9:r.data = .bool true:=q9
  rw [q9] at j10
  rw [j10.bl_inv]
  exact kk H9
end
theorem qun {α:Type}{n:Nat}{us:List α} (h:us.length=n+1) : ∃ a r,us=a::r∧r.length=n:=by
 cases us with
 | nil=>cases h
 | cons a r=>exact ⟨a,r,rfl,Nat.succ.inj h⟩
theorem us1 {α:Type}{us:List α} (h:us.length=1) : ∃ a0:α,us=[a0]:=by
 obtain ⟨a0,u0,rfl,h0⟩:=qun h
 cases u0 with
 | nil=>exact ⟨a0,rfl⟩
 | cons _ _=>cases h0
theorem us2 {α:Type}{us:List α} (h:us.length=2) : ∃ a0 a1:α,us=[a0,a1]:=by
 obtain ⟨a0,u0,rfl,h0⟩:=qun h
 obtain ⟨a1,u1,rfl,h1⟩:=qun h0
 cases u1 with
 | nil=>exact ⟨a0,a1,rfl⟩
 | cons _ _=>cases h1
theorem us3 {α:Type}{us:List α} (h:us.length=3) : ∃ a0 a1 a2:α,us=[a0,a1,a2]:=by
 obtain ⟨a0,u0,rfl,h0⟩:=qun h
 obtain ⟨a1,u1,rfl,h1⟩:=qun h0
 obtain ⟨a2,u2,rfl,h2⟩:=qun h1
 cases u2 with
 | nil=>exact ⟨a0,a1,a2,rfl⟩
 | cons _ _=>cases h2
theorem us4 {α:Type}{us:List α} (h:us.length=4) : ∃ a0 a1 a2 a3:α,us=[a0,a1,a2,a3]:=by
 obtain ⟨a0,u0,rfl,h0⟩:=qun h
 obtain ⟨a1,u1,rfl,h1⟩:=qun h0
 obtain ⟨a2,u2,rfl,h2⟩:=qun h1
 obtain ⟨a3,u3,rfl,h3⟩:=qun h2
 cases u3 with
 | nil=>exact ⟨a0,a1,a2,a3,rfl⟩
 | cons _ _=>cases h3
inductive LK (K:PySem.W.Frag) (x q:Str) (st:Stmt) (f:Addr):Prop
 | mk {oc kV dc pm cd ct:Value}{od an:Option Addr}{sl:Array (Option Value)} (l:K.lookup f=some ⟨oc,od,.func (PySem.W.fnOf x q (defArgs st) (defBody st) (defScope st) .none kV dc pm an cd ct),sl⟩) (c:PySem.W.codeIn K cd q=true) (k:PySem.W.keepIn K (.ref f)=true):LK K x q st f
theorem LK.fn {K:PySem.W.Frag}{x q:Str}{st:Stmt}{f:Addr} (h:LK K x q st f):(∃ fd,Fun K x q st f fd)∧PySem.W.keepIn K (.ref f)=true:=by
 cases h with
 | mk l c k=>exact ⟨⟨_,zade l c k⟩,k⟩
theorem all_mk {l:PySem.W.OpenLaw}{w:World}{K:PySem.W.Frag}{h:Heap}{mg:Str→Option Value}{fa:Addr} (X:K.In h) (G:h.Ns mainGlobals mg) (hfa:mg "law" = some (.ref fa))
 {f0:Addr} (a0:PySem.W.nsIn K mainGlobals "stands" = some (some (.ref f0))) (l0:LK K "stands" "stands" qkm f0)
 {f1:Addr} (a1:PySem.W.nsIn K mainGlobals "signs" = some (some (.ref f1))) (l1:LK K "signs" "signs" qno f1)
 {f2:Addr} (a2:PySem.W.nsIn K mainGlobals "check_alike_stands" = some (some (.ref f2))) (l2:LK K "check_alike_stands" "check_alike_stands" qal f2)
 {f3:Addr} (a3:PySem.W.nsIn K mainGlobals "first_above" = some (some (.ref f3))) (l3:LK K "first_above" "first_above" qdt f3)
 {f4:Addr} (a4:PySem.W.nsIn K mainGlobals "divisor" = some (some (.ref f4))) (l4:LK K "divisor" "divisor" qii f4)
 {f5:Addr} (a5:PySem.W.nsIn K mainGlobals "lowest" = some (some (.ref f5))) (l5:LK K "lowest" "lowest" qki f5)
 {f6:Addr} (a6:PySem.W.nsIn K mainGlobals "first_line" = some (some (.ref f6))) (l6:LK K "first_line" "first_line" qeg f6)
 {c_Board:Addr} (b_Board:PySem.W.nsIn K mainGlobals "Board" = some (some (.ref c_Board)))
 {f7:Addr} (a7:PySem.W.findIn K (.ref c_Board) "__init__" = some (some (.ref f7))) (l7:LK K "__init__" "Board.__init__" qbw f7) (n7:PySem.W.isFn K (.ref f7)=true)
 {f8:Addr} (a8:PySem.W.findIn K (.ref c_Board) "lack" = some (some (.ref f8))) (l8:LK K "lack" "Board.lack" qeh f8) (n8:PySem.W.isFn K (.ref f8)=true)
 {f9:Addr} (a9:PySem.W.findIn K (.ref c_Board) "is_tighter" = some (some (.ref f9))) (l9:LK K "is_tighter" "Board.is_tighter" qaz f9) (n9:PySem.W.isFn K (.ref f9)=true)
 {f10:Addr} (a10:PySem.W.findIn K (.ref c_Board) "tightest" = some (some (.ref f10))) (l10:LK K "tightest" "Board.tightest" qby f10) (n10:PySem.W.isFn K (.ref f10)=true)
 {f11:Addr} (a11:PySem.W.nsIn K mainGlobals "cleared" = some (some (.ref f11))) (l11:LK K "cleared" "cleared" qif f11)
 {f12:Addr} (a12:PySem.W.findIn K (.ref c_Board) "bring_in" = some (some (.ref f12))) (l12:LK K "bring_in" "Board.bring_in" qbv f12) (n12:PySem.W.isFn K (.ref f12)=true)
 {f13:Addr} (a13:PySem.W.nsIn K mainGlobals "is_whole" = some (some (.ref f13))) (l13:LK K "is_whole" "is_whole" qgt f13)
 {f14:Addr} (a14:PySem.W.nsIn K mainGlobals "reduced" = some (some (.ref f14))) (l14:LK K "reduced" "reduced" qin f14)
 {f15:Addr} (a15:PySem.W.nsIn K mainGlobals "share" = some (some (.ref f15))) (l15:LK K "share" "share" qoa f15)
 {f16:Addr} (a16:PySem.W.findIn K (.ref c_Board) "told" = some (some (.ref f16))) (l16:LK K "told" "Board.told" qel f16) (n16:PySem.W.isFn K (.ref f16)=true)
 {f17:Addr} (a17:PySem.W.nsIn K mainGlobals "solved" = some (some (.ref f17))) (l17:LK K "solved" "solved" qkr f17)
 {f18:Addr} (a18:PySem.W.nsIn K mainGlobals "check_few_signs" = some (some (.ref f18))) (l18:LK K "check_few_signs" "check_few_signs" qbm f18)
 {f19:Addr} (a19:PySem.W.nsIn K mainGlobals "seen_as" = some (some (.ref f19))) (l19:LK K "seen_as" "seen_as" qil f19)
 {f20:Addr} (a20:PySem.W.nsIn K mainGlobals "shown_in_all" = some (some (.ref f20))) (l20:LK K "shown_in_all" "shown_in_all" qcu f20)
 {f21:Addr} (a21:PySem.W.nsIn K mainGlobals "equations" = some (some (.ref f21))) (l21:LK K "equations" "equations" qfp f21)
 {f22:Addr} (a22:PySem.W.nsIn K mainGlobals "wanted_sums" = some (some (.ref f22))) (l22:LK K "wanted_sums" "wanted_sums" qdj f22)
 {f23:Addr} (a23:PySem.W.nsIn K mainGlobals "is_share" = some (some (.ref f23))) (l23:LK K "is_share" "is_share" qgs f23)
 {f24:Addr} (a24:PySem.W.nsIn K mainGlobals "check_shares" = some (some (.ref f24))) (l24:LK K "check_shares" "check_shares" qcx f24)
 {f25:Addr} (a25:PySem.W.nsIn K mainGlobals "times" = some (some (.ref f25))) (l25:LK K "times" "times" qoe f25)
 {f26:Addr} (a26:PySem.W.nsIn K mainGlobals "over_bottom" = some (some (.ref f26))) (l26:LK K "over_bottom" "over_bottom" qdo f26)
 {f27:Addr} (a27:PySem.W.nsIn K mainGlobals "table_of_shares" = some (some (.ref f27))) (l27:LK K "table_of_shares" "table_of_shares" qbl f27)
 {f28:Addr} (a28:PySem.W.nsIn K mainGlobals "in_rows" = some (some (.ref f28))) (l28:LK K "in_rows" "in_rows" qik f28)
 {f29:Addr} (a29:PySem.W.nsIn K mainGlobals "dulling_by" = some (some (.ref f29))) (l29:LK K "dulling_by" "dulling_by" qeo f29)
 {f30:Addr} (a30:PySem.W.nsIn K mainGlobals "compared" = some (some (.ref f30))) (l30:LK K "compared" "compared" qgj f30)
 {f31:Addr} (a31:PySem.W.nsIn K mainGlobals "check_shelf" = some (some (.ref f31))) (l31:LK K "check_shelf" "check_shelf" qdm f31)
 {f32:Addr} (a32:PySem.W.nsIn K mainGlobals "compared_with_all" = some (some (.ref f32))) (l32:LK K "compared_with_all" "compared_with_all" qar f32)
 {f33:Addr} (a33:PySem.W.nsIn K mainGlobals "dulls_so" = some (some (.ref f33))) (l33:LK K "dulls_so" "dulls_so" qgv f33)
 {f34:Addr} (a34:PySem.W.nsIn K mainGlobals "outdoes" = some (some (.ref f34))) (l34:LK K "outdoes" "outdoes" qip f34)
 {f35:Addr} (a35:PySem.W.nsIn K mainGlobals "is_outdone" = some (some (.ref f35))) (l35:LK K "is_outdone" "is_outdone" qef f35)
 {f36:Addr} (a36:PySem.W.nsIn K mainGlobals "row_of" = some (some (.ref f36))) (l36:LK K "row_of" "row_of" qko f36)
 {f37:Addr} (a37:PySem.W.nsIn K mainGlobals "tops" = some (some (.ref f37))) (l37:LK K "tops" "tops" qtj f37)
 {f38:Addr} (a38:PySem.W.nsIn K mainGlobals "_law_pen" = some (some (.ref f38))) (l38:LK K "_law_pen" "_law_pen" qgu f38)
 {f39:Addr} (a39:PySem.W.nsIn K mainGlobals "_law_mixed" = some (some (.ref f39))) (l39:LK K "_law_mixed" "_law_mixed" qej f39)
 {f40:Addr} (a40:PySem.W.nsIn K mainGlobals "_law_next" = some (some (.ref f40))) (l40:LK K "_law_next" "_law_next" qfo f40)
 {f41:Addr} (a41:PySem.W.nsIn K mainGlobals "_law_divisor" = some (some (.ref f41))) (l41:LK K "_law_divisor" "_law_divisor" qcw f41)
 {f42:Addr} (a42:PySem.W.nsIn K mainGlobals "_law_reduced" = some (some (.ref f42))) (l42:LK K "_law_reduced" "_law_reduced" qcy f42)
 {f43:Addr} (a43:PySem.W.nsIn K mainGlobals "_law_row" = some (some (.ref f43))) (l43:LK K "_law_row" "_law_row" qgq f43)
 {f44:Addr} (a44:PySem.W.nsIn K mainGlobals "_law_split" = some (some (.ref f44))) (l44:LK K "_law_split" "_law_split" qee f44)
 {f45:Addr} (a45:PySem.W.nsIn K mainGlobals "_law_table" = some (some (.ref f45))) (l45:LK K "_law_table" "_law_table" qem f45)
 {f46:Addr} (a46:PySem.W.nsIn K mainGlobals "_law_dulled" = some (some (.ref f46))) (l46:LK K "_law_dulled" "_law_dulled" qdk f46)
 {f47:Addr} (a47:PySem.W.nsIn K mainGlobals "_law_turned" = some (some (.ref f47))) (l47:LK K "_law_turned" "_law_turned" qdf f47)
 {f48:Addr} (a48:PySem.W.nsIn K mainGlobals "_law_dulling" = some (some (.ref f48))) (l48:LK K "_law_dulling" "_law_dulling" qcv f48)
 {f49:Addr} (a49:PySem.W.nsIn K mainGlobals "_law_shelf" = some (some (.ref f49))) (l49:LK K "_law_shelf" "_law_shelf" qen f49)
 {f50:Addr} (a50:PySem.W.nsIn K mainGlobals "_law_whole" = some (some (.ref f50))) (l50:LK K "_law_whole" "_law_whole" qek f50)
 {f51:Addr} (a51:PySem.W.nsIn K mainGlobals "_law_high" = some (some (.ref f51))) (l51:LK K "_law_high" "_law_high" qfq f51)
 {f52:Addr} (a52:PySem.W.nsIn K mainGlobals "_law_is_dulling" = some (some (.ref f52))) (l52:LK K "_law_is_dulling" "_law_is_dulling" qbo f52)
 {f53:Addr} (a53:PySem.W.nsIn K mainGlobals "_law_rows_right" = some (some (.ref f53))) (l53:LK K "_law_rows_right" "_law_rows_right" qbk f53)
 {f54:Addr} (a54:PySem.W.nsIn K mainGlobals "_law_right" = some (some (.ref f54))) (l54:LK K "_law_right" "_law_right" qei f54)
 {f55:Addr}{od55 an55:Option Addr}{sl55:Array (Option Value)}{oc55 kV55 dc55 pm55 cd55 ct55:Value}
 (a55:PySem.W.nsIn K mainGlobals "law" = some (some (.ref f55))) (l55:K.lookup f55=some ⟨oc55,od55,.func (PySem.W.fnOf "law" "law" (defArgs qmb) (defBody qmb) (defScope qmb) .none kV55 dc55 pm55 an55 cd55 ct55),sl55⟩) (c55:PySem.W.codeIn K cd55 "law" = true) (k55:PySem.W.keepIn K (.ref f55)=true)
 (z_abs:PySem.W.nsIn K mainGlobals "abs" = some none)
 (z_any:PySem.W.nsIn K mainGlobals "any" = some none)
 (z_bool:PySem.W.nsIn K mainGlobals "bool" = some none)
 (z_enumerate:PySem.W.nsIn K mainGlobals "enumerate" = some none)
 (z_int:PySem.W.nsIn K mainGlobals "int" = some none)
 (z_isinstance:PySem.W.nsIn K mainGlobals "isinstance" = some none)
 (z_len:PySem.W.nsIn K mainGlobals "len" = some none)
 (z_list:PySem.W.nsIn K mainGlobals "list" = some none)
 (z_range:PySem.W.nsIn K mainGlobals "range" = some none)
 (z_sorted:PySem.W.nsIn K mainGlobals "sorted" = some none)
 (z_sum:PySem.W.nsIn K mainGlobals "sum" = some none)
 (z_tuple:PySem.W.nsIn K mainGlobals "tuple" = some none)
 (z_zip:PySem.W.nsIn K mainGlobals "zip" = some none)
 {t_MOST_COMPARED:Tok} (y_MOST_COMPARED:PySem.W.nsIn K mainGlobals "MOST_COMPARED" = some (some (.int 4 t_MOST_COMPARED)))
 {t_MOST_GLASSES:Tok} (y_MOST_GLASSES:PySem.W.nsIn K mainGlobals "MOST_GLASSES" = some (some (.int 5 t_MOST_GLASSES)))
 {t_MOST_ROWS:Tok} (y_MOST_ROWS:PySem.W.nsIn K mainGlobals "MOST_ROWS" = some (some (.int 24 t_MOST_ROWS)))
 {t_MOST_UNKNOWNS:Tok} (y_MOST_UNKNOWNS:PySem.W.nsIn K mainGlobals "MOST_UNKNOWNS" = some (some (.int 20 t_MOST_UNKNOWNS)))
 (f_Board_c_pg:PySem.W.plainGet K c_Board Str.empty=true)
 (f_Board_c_hd:PySem.W.hasDictIn K c_Board=true)
 (f_Board_c_po:PySem.W.plainOver K c_Board=true)
 (f_Board_c_sa:PySem.W.findIn K (.ref c_Board) "__setattr__" = some (some (.builtin "object.__setattr__")))
 (f_Board_mk:PySem.W.makesIn K c_Board=true)
 (f_Board_kp:PySem.W.keepIn K (.ref c_Board)=true)
 (f_Board_n_bottom:PySem.W.findIn K (.ref c_Board) "bottom" = some none)
 (f_Board_n_lines:PySem.W.findIn K (.ref c_Board) "lines" = some none)
 (f_Board_n_stands_for:PySem.W.findIn K (.ref c_Board) "stands_for" = some none)
 (f_Board_n_unknowns:PySem.W.findIn K (.ref c_Board) "unknowns" = some none)
 : ∃ fd:FuncData,(∀ (s:Shared) (v:Value),BindsTo s fd ⟨[v],[]⟩ [("_law_script",v)]) ∧ ∀ base:Heap,K.In base→base.Ns mainGlobals mg→FnOk l.prog w K mg base CX0 9 fa fd ["_law_script"] (zaaf K):=by
  have e:=hfa.symm.trans (PySem.W.mg_of X G a55)
  cases e
  have T:Txt K mg ⟨c_Board⟩:=⟨PySem.W.mg_of X G b_Board,⟨f_Board_c_pg,f_Board_c_hd,f_Board_c_po,f_Board_c_sa⟩,f_Board_mk,f_Board_kp,f_Board_n_bottom,f_Board_n_lines,f_Board_n_stands_for,f_Board_n_unknowns,PySem.W.mg_none_of X G z_abs,PySem.W.mg_none_of X G z_any,PySem.W.mg_none_of X G z_bool,PySem.W.mg_none_of X G z_enumerate,PySem.W.mg_none_of X G z_int,PySem.W.mg_none_of X G z_isinstance,PySem.W.mg_none_of X G z_len,PySem.W.mg_none_of X G z_list,PySem.W.mg_none_of X G z_range,PySem.W.mg_none_of X G z_sorted,PySem.W.mg_none_of X G z_sum,PySem.W.mg_none_of X G z_tuple,PySem.W.mg_none_of X G z_zip,⟨_,PySem.W.mg_of X G y_MOST_COMPARED⟩,⟨_,PySem.W.mg_of X G y_MOST_GLASSES⟩,⟨_,PySem.W.mg_of X G y_MOST_ROWS⟩,⟨_,PySem.W.mg_of X G y_MOST_UNKNOWNS⟩⟩
  obtain ⟨⟨_,F0⟩,k0⟩:=l0.fn
  have D0:Def K mg "stands" qkm ["glass"]:=⟨_,_,F0,PySem.W.mg_of X G a0,F0.binds (ps:=["glass"]) fun _ _ _ _ _ _ us hl=>by obtain ⟨_,rfl⟩:=us1 hl;rfl⟩
  obtain ⟨⟨_,F1⟩,k1⟩:=l1.fn
  have D1:Def K mg "signs" qno ["glass"]:=⟨_,_,F1,PySem.W.mg_of X G a1,F1.binds (ps:=["glass"]) fun _ _ _ _ _ _ us hl=>by obtain ⟨_,rfl⟩:=us1 hl;rfl⟩
  obtain ⟨⟨_,F2⟩,k2⟩:=l2.fn
  have D2:Def K mg "check_alike_stands" qal ["one","other"]:=⟨_,_,F2,PySem.W.mg_of X G a2,F2.binds (ps:=["one","other"]) fun _ _ _ _ _ _ us hl=>by obtain ⟨_,_,rfl⟩:=us2 hl;rfl⟩
  obtain ⟨⟨_,F3⟩,k3⟩:=l3.fn
  have D3:Def K mg "first_above" qdt ["numbers"]:=⟨_,_,F3,PySem.W.mg_of X G a3,F3.binds (ps:=["numbers"]) fun _ _ _ _ _ _ us hl=>by obtain ⟨_,rfl⟩:=us1 hl;rfl⟩
  obtain ⟨⟨_,F4⟩,k4⟩:=l4.fn
  have D4:Def K mg "divisor" qii ["one","other"]:=⟨_,_,F4,PySem.W.mg_of X G a4,F4.binds (ps:=["one","other"]) fun _ _ _ _ _ _ us hl=>by obtain ⟨_,_,rfl⟩:=us2 hl;rfl⟩
  obtain ⟨⟨_,F5⟩,k5⟩:=l5.fn
  have D5:Def K mg "lowest" qki ["weights"]:=⟨_,_,F5,PySem.W.mg_of X G a5,F5.binds (ps:=["weights"]) fun _ _ _ _ _ _ us hl=>by obtain ⟨_,rfl⟩:=us1 hl;rfl⟩
  obtain ⟨⟨_,F6⟩,k6⟩:=l6.fn
  have D6:Def K mg "first_line" qeg ["row","total","k","many"]:=⟨_,_,F6,PySem.W.mg_of X G a6,F6.binds (ps:=["row","total","k","many"]) fun _ _ _ _ _ _ us hl=>by obtain ⟨_,_,_,_,rfl⟩:=us4 hl;rfl⟩
  obtain ⟨⟨_,F7⟩,k7⟩:=l7.fn
  have D7:MDef K c_Board "__init__" "Board.__init__" qbw ["self","unknowns","rows","sums"]:=⟨_,_,F7,⟨a7,n7,k7⟩,F7.binds (ps:=["self","unknowns","rows","sums"]) fun _ _ _ _ _ _ us hl=>by obtain ⟨_,_,_,_,rfl⟩:=us4 hl;rfl⟩
  obtain ⟨⟨_,F8⟩,k8⟩:=l8.fn
  have D8:MDef K c_Board "lack" "Board.lack" qeh ["self"]:=⟨_,_,F8,⟨a8,n8,k8⟩,F8.binds (ps:=["self"]) fun _ _ _ _ _ _ us hl=>by obtain ⟨_,rfl⟩:=us1 hl;rfl⟩
  obtain ⟨⟨_,F9⟩,k9⟩:=l9.fn
  have D9:MDef K c_Board "is_tighter" "Board.is_tighter" qaz ["self","k","chosen","place"]:=⟨_,_,F9,⟨a9,n9,k9⟩,F9.binds (ps:=["self","k","chosen","place"]) fun _ _ _ _ _ _ us hl=>by obtain ⟨_,_,_,_,rfl⟩:=us4 hl;rfl⟩
  obtain ⟨⟨_,F10⟩,k10⟩:=l10.fn
  have D10:MDef K c_Board "tightest" "Board.tightest" qby ["self","place"]:=⟨_,_,F10,⟨a10,n10,k10⟩,F10.binds (ps:=["self","place"]) fun _ _ _ _ _ _ us hl=>by obtain ⟨_,_,rfl⟩:=us2 hl;rfl⟩
  obtain ⟨⟨_,F11⟩,k11⟩:=l11.fn
  have D11:Def K mg "cleared" qif ["line","pivot","place","bottom"]:=⟨_,_,F11,PySem.W.mg_of X G a11,F11.binds (ps:=["line","pivot","place","bottom"]) fun _ _ _ _ _ _ us hl=>by obtain ⟨_,_,_,_,rfl⟩:=us4 hl;rfl⟩
  obtain ⟨⟨_,F12⟩,k12⟩:=l12.fn
  have D12:MDef K c_Board "bring_in" "Board.bring_in" qbv ["self","place"]:=⟨_,_,F12,⟨a12,n12,k12⟩,F12.binds (ps:=["self","place"]) fun _ _ _ _ _ _ us hl=>by obtain ⟨_,_,rfl⟩:=us2 hl;rfl⟩
  obtain ⟨⟨_,F13⟩,k13⟩:=l13.fn
  have D13:Def K mg "is_whole" qgt ["thing"]:=⟨_,_,F13,PySem.W.mg_of X G a13,F13.binds (ps:=["thing"]) fun _ _ _ _ _ _ us hl=>by obtain ⟨_,rfl⟩:=us1 hl;rfl⟩
  obtain ⟨⟨_,F14⟩,k14⟩:=l14.fn
  have D14:Def K mg "reduced" qin ["top","bottom"]:=⟨_,_,F14,PySem.W.mg_of X G a14,F14.binds (ps:=["top","bottom"]) fun _ _ _ _ _ _ us hl=>by obtain ⟨_,_,rfl⟩:=us2 hl;rfl⟩
  obtain ⟨⟨_,F15⟩,k15⟩:=l15.fn
  have D15:Def K mg "share" qoa ["top","bottom"]:=⟨_,_,F15,PySem.W.mg_of X G a15,F15.binds (ps:=["top","bottom"]) fun _ _ _ _ _ _ us hl=>by obtain ⟨_,_,rfl⟩:=us2 hl;rfl⟩
  obtain ⟨⟨_,F16⟩,k16⟩:=l16.fn
  have D16:MDef K c_Board "told" "Board.told" qel ["self"]:=⟨_,_,F16,⟨a16,n16,k16⟩,F16.binds (ps:=["self"]) fun _ _ _ _ _ _ us hl=>by obtain ⟨_,rfl⟩:=us1 hl;rfl⟩
  obtain ⟨⟨_,F17⟩,k17⟩:=l17.fn
  have D17:Def K mg "solved" qkr ["rows","sums"]:=⟨_,_,F17,PySem.W.mg_of X G a17,F17.binds (ps:=["rows","sums"]) fun _ _ _ _ _ _ us hl=>by obtain ⟨_,_,rfl⟩:=us2 hl;rfl⟩
  obtain ⟨⟨_,F18⟩,k18⟩:=l18.fn
  have D18:Def K mg "check_few_signs" qbm ["glass"]:=⟨_,_,F18,PySem.W.mg_of X G a18,F18.binds (ps:=["glass"]) fun _ _ _ _ _ _ us hl=>by obtain ⟨_,rfl⟩:=us1 hl;rfl⟩
  obtain ⟨⟨_,F19⟩,k19⟩:=l19.fn
  have D19:Def K mg "seen_as" qil ["row","new","many"]:=⟨_,_,F19,PySem.W.mg_of X G a19,F19.binds (ps:=["row","new","many"]) fun _ _ _ _ _ _ us hl=>by obtain ⟨_,_,_,rfl⟩:=us3 hl;rfl⟩
  obtain ⟨⟨_,F20⟩,k20⟩:=l20.fn
  have D20:Def K mg "shown_in_all" qcu ["one","old","many"]:=⟨_,_,F20,PySem.W.mg_of X G a20,F20.binds (ps:=["one","old","many"]) fun _ _ _ _ _ _ us hl=>by obtain ⟨_,_,_,rfl⟩:=us3 hl;rfl⟩
  obtain ⟨⟨_,F21⟩,k21⟩:=l21.fn
  have D21:Def K mg "equations" qfp ["one","other"]:=⟨_,_,F21,PySem.W.mg_of X G a21,F21.binds (ps:=["one","other"]) fun _ _ _ _ _ _ us hl=>by obtain ⟨_,_,rfl⟩:=us2 hl;rfl⟩
  obtain ⟨⟨_,F22⟩,k22⟩:=l22.fn
  have D22:Def K mg "wanted_sums" qdj ["one","other"]:=⟨_,_,F22,PySem.W.mg_of X G a22,F22.binds (ps:=["one","other"]) fun _ _ _ _ _ _ us hl=>by obtain ⟨_,_,rfl⟩:=us2 hl;rfl⟩
  obtain ⟨⟨_,F23⟩,k23⟩:=l23.fn
  have D23:Def K mg "is_share" qgs ["thing"]:=⟨_,_,F23,PySem.W.mg_of X G a23,F23.binds (ps:=["thing"]) fun _ _ _ _ _ _ us hl=>by obtain ⟨_,rfl⟩:=us1 hl;rfl⟩
  obtain ⟨⟨_,F24⟩,k24⟩:=l24.fn
  have D24:Def K mg "check_shares" qcx ["one","other"]:=⟨_,_,F24,PySem.W.mg_of X G a24,F24.binds (ps:=["one","other"]) fun _ _ _ _ _ _ us hl=>by obtain ⟨_,_,rfl⟩:=us2 hl;rfl⟩
  obtain ⟨⟨_,F25⟩,k25⟩:=l25.fn
  have D25:Def K mg "times" qoe ["one","other"]:=⟨_,_,F25,PySem.W.mg_of X G a25,F25.binds (ps:=["one","other"]) fun _ _ _ _ _ _ us hl=>by obtain ⟨_,_,rfl⟩:=us2 hl;rfl⟩
  obtain ⟨⟨_,F26⟩,k26⟩:=l26.fn
  have D26:Def K mg "over_bottom" qdo ["row","bottom"]:=⟨_,_,F26,PySem.W.mg_of X G a26,F26.binds (ps:=["row","bottom"]) fun _ _ _ _ _ _ us hl=>by obtain ⟨_,_,rfl⟩:=us2 hl;rfl⟩
  obtain ⟨⟨_,F27⟩,k27⟩:=l27.fn
  have D27:Def K mg "table_of_shares" qbl ["rows"]:=⟨_,_,F27,PySem.W.mg_of X G a27,F27.binds (ps:=["rows"]) fun _ _ _ _ _ _ us hl=>by obtain ⟨_,rfl⟩:=us1 hl;rfl⟩
  obtain ⟨⟨_,F28⟩,k28⟩:=l28.fn
  have D28:Def K mg "in_rows" qik ["flat","wide","many"]:=⟨_,_,F28,PySem.W.mg_of X G a28,F28.binds (ps:=["flat","wide","many"]) fun _ _ _ _ _ _ us hl=>by obtain ⟨_,_,_,rfl⟩:=us3 hl;rfl⟩
  obtain ⟨⟨_,F29⟩,k29⟩:=l29.fn
  have D29:Def K mg "dulling_by" qeo ["one","other","values"]:=⟨_,_,F29,PySem.W.mg_of X G a29,F29.binds (ps:=["one","other","values"]) fun _ _ _ _ _ _ us hl=>by obtain ⟨_,_,_,rfl⟩:=us3 hl;rfl⟩
  obtain ⟨⟨_,F30⟩,k30⟩:=l30.fn
  have D30:Def K mg "compared" qgj ["one","other"]:=⟨_,_,F30,PySem.W.mg_of X G a30,F30.binds (ps:=["one","other"]) fun _ _ _ _ _ _ us hl=>by obtain ⟨_,_,rfl⟩:=us2 hl;rfl⟩
  obtain ⟨⟨_,F31⟩,k31⟩:=l31.fn
  have D31:Def K mg "check_shelf" qdm ["shelf"]:=⟨_,_,F31,PySem.W.mg_of X G a31,F31.binds (ps:=["shelf"]) fun _ _ _ _ _ _ us hl=>by obtain ⟨_,rfl⟩:=us1 hl;rfl⟩
  obtain ⟨⟨_,F32⟩,k32⟩:=l32.fn
  have D32:Def K mg "compared_with_all" qar ["glass","shelf"]:=⟨_,_,F32,PySem.W.mg_of X G a32,F32.binds (ps:=["glass","shelf"]) fun _ _ _ _ _ _ us hl=>by obtain ⟨_,_,rfl⟩:=us2 hl;rfl⟩
  obtain ⟨⟨_,F33⟩,k33⟩:=l33.fn
  have D33:Def K mg "dulls_so" qgv ["one","other","answers"]:=⟨_,_,F33,PySem.W.mg_of X G a33,F33.binds (ps:=["one","other","answers"]) fun _ _ _ _ _ _ us hl=>by obtain ⟨_,_,_,rfl⟩:=us3 hl;rfl⟩
  obtain ⟨⟨_,F34⟩,k34⟩:=l34.fn
  have D34:Def K mg "outdoes" qip ["one","other","answers"]:=⟨_,_,F34,PySem.W.mg_of X G a34,F34.binds (ps:=["one","other","answers"]) fun _ _ _ _ _ _ us hl=>by obtain ⟨_,_,_,rfl⟩:=us3 hl;rfl⟩
  obtain ⟨⟨_,F35⟩,k35⟩:=l35.fn
  have D35:Def K mg "is_outdone" qef ["number","answers"]:=⟨_,_,F35,PySem.W.mg_of X G a35,F35.binds (ps:=["number","answers"]) fun _ _ _ _ _ _ us hl=>by obtain ⟨_,_,rfl⟩:=us2 hl;rfl⟩
  obtain ⟨⟨_,F36⟩,k36⟩:=l36.fn
  have D36:Def K mg "row_of" qko ["number","found","answers"]:=⟨_,_,F36,PySem.W.mg_of X G a36,F36.binds (ps:=["number","found","answers"]) fun _ _ _ _ _ _ us hl=>by obtain ⟨_,_,_,rfl⟩:=us3 hl;rfl⟩
  obtain ⟨⟨_,F37⟩,k37⟩:=l37.fn
  have D37:Def K mg "tops" qtj ["shelf"]:=⟨_,_,F37,PySem.W.mg_of X G a37,F37.binds (ps:=["shelf"]) fun _ _ _ _ _ _ us hl=>by obtain ⟨_,rfl⟩:=us1 hl;rfl⟩
  obtain ⟨⟨_,F38⟩,k38⟩:=l38.fn
  have D38:Def K mg "_law_pen" qgu ["_law_script"]:=⟨_,_,F38,PySem.W.mg_of X G a38,F38.binds (ps:=["_law_script"]) fun _ _ _ _ _ _ us hl=>by obtain ⟨_,rfl⟩:=us1 hl;rfl⟩
  obtain ⟨⟨_,F39⟩,k39⟩:=l39.fn
  have D39:Def K mg "_law_mixed" qej ["_law_pen_here"]:=⟨_,_,F39,PySem.W.mg_of X G a39,F39.binds (ps:=["_law_pen_here"]) fun _ _ _ _ _ _ us hl=>by obtain ⟨_,rfl⟩:=us1 hl;rfl⟩
  obtain ⟨⟨_,F40⟩,k40⟩:=l40.fn
  have D40:Def K mg "_law_next" qfo ["_law_pen_here","_law_many"]:=⟨_,_,F40,PySem.W.mg_of X G a40,F40.binds (ps:=["_law_pen_here","_law_many"]) fun _ _ _ _ _ _ us hl=>by obtain ⟨_,_,rfl⟩:=us2 hl;rfl⟩
  obtain ⟨⟨_,F41⟩,k41⟩:=l41.fn
  have D41:Def K mg "_law_divisor" qcw ["_law_numbers"]:=⟨_,_,F41,PySem.W.mg_of X G a41,F41.binds (ps:=["_law_numbers"]) fun _ _ _ _ _ _ us hl=>by obtain ⟨_,rfl⟩:=us1 hl;rfl⟩
  obtain ⟨⟨_,F42⟩,k42⟩:=l42.fn
  have D42:Def K mg "_law_reduced" qcy ["_law_bottom","_law_rows"]:=⟨_,_,F42,PySem.W.mg_of X G a42,F42.binds (ps:=["_law_bottom","_law_rows"]) fun _ _ _ _ _ _ us hl=>by obtain ⟨_,_,rfl⟩:=us2 hl;rfl⟩
  obtain ⟨⟨_,F43⟩,k43⟩:=l43.fn
  have D43:Def K mg "_law_row" qgq ["_law_pen_here","_law_width","_law_bottom"]:=⟨_,_,F43,PySem.W.mg_of X G a43,F43.binds (ps:=["_law_pen_here","_law_width","_law_bottom"]) fun _ _ _ _ _ _ us hl=>by obtain ⟨_,_,_,rfl⟩:=us3 hl;rfl⟩
  obtain ⟨⟨_,F44⟩,k44⟩:=l44.fn
  have D44:Def K mg "_law_split" qee ["_law_pen_here","_law_rows"]:=⟨_,_,F44,PySem.W.mg_of X G a44,F44.binds (ps:=["_law_pen_here","_law_rows"]) fun _ _ _ _ _ _ us hl=>by obtain ⟨_,_,rfl⟩:=us2 hl;rfl⟩
  obtain ⟨⟨_,F45⟩,k45⟩:=l45.fn
  have D45:Def K mg "_law_table" qem ["_law_pen_here","_law_many","_law_most","_law_far"]:=⟨_,_,F45,PySem.W.mg_of X G a45,F45.binds (ps:=["_law_pen_here","_law_many","_law_most","_law_far"]) fun _ _ _ _ _ _ us hl=>by obtain ⟨_,_,_,_,rfl⟩:=us4 hl;rfl⟩
  obtain ⟨⟨_,F46⟩,k46⟩:=l46.fn
  have D46:Def K mg "_law_dulled" qdk ["_law_glass","_law_dulling_here"]:=⟨_,_,F46,PySem.W.mg_of X G a46,F46.binds (ps:=["_law_glass","_law_dulling_here"]) fun _ _ _ _ _ _ us hl=>by obtain ⟨_,_,rfl⟩:=us2 hl;rfl⟩
  obtain ⟨⟨_,F47⟩,k47⟩:=l47.fn
  have D47:Def K mg "_law_turned" qdf ["_law_pen_here","_law_glass","_law_most"]:=⟨_,_,F47,PySem.W.mg_of X G a47,F47.binds (ps:=["_law_pen_here","_law_glass","_law_most"]) fun _ _ _ _ _ _ us hl=>by obtain ⟨_,_,_,rfl⟩:=us3 hl;rfl⟩
  obtain ⟨⟨_,F48⟩,k48⟩:=l48.fn
  have D48:Def K mg "_law_dulling" qcv ["_law_pen_here","_law_old","_law_most"]:=⟨_,_,F48,PySem.W.mg_of X G a48,F48.binds (ps:=["_law_pen_here","_law_old","_law_most"]) fun _ _ _ _ _ _ us hl=>by obtain ⟨_,_,_,rfl⟩:=us3 hl;rfl⟩
  obtain ⟨⟨_,F49⟩,k49⟩:=l49.fn
  have D49:Def K mg "_law_shelf" qen ["_law_pen_here"]:=⟨_,_,F49,PySem.W.mg_of X G a49,F49.binds (ps:=["_law_pen_here"]) fun _ _ _ _ _ _ us hl=>by obtain ⟨_,rfl⟩:=us1 hl;rfl⟩
  obtain ⟨⟨_,F50⟩,k50⟩:=l50.fn
  have D50:Def K mg "_law_whole" qek ["_law_thing"]:=⟨_,_,F50,PySem.W.mg_of X G a50,F50.binds (ps:=["_law_thing"]) fun _ _ _ _ _ _ us hl=>by obtain ⟨_,rfl⟩:=us1 hl;rfl⟩
  obtain ⟨⟨_,F51⟩,k51⟩:=l51.fn
  have D51:Def K mg "_law_high" qfq ["_law_leads","_law_number"]:=⟨_,_,F51,PySem.W.mg_of X G a51,F51.binds (ps:=["_law_leads","_law_number"]) fun _ _ _ _ _ _ us hl=>by obtain ⟨_,_,rfl⟩:=us2 hl;rfl⟩
  obtain ⟨⟨_,F52⟩,k52⟩:=l52.fn
  have D52:Def K mg "_law_is_dulling" qbo ["_law_dulling_here","_law_old"]:=⟨_,_,F52,PySem.W.mg_of X G a52,F52.binds (ps:=["_law_dulling_here","_law_old"]) fun _ _ _ _ _ _ us hl=>by obtain ⟨_,_,rfl⟩:=us2 hl;rfl⟩
  obtain ⟨⟨_,F53⟩,k53⟩:=l53.fn
  have D53:Def K mg "_law_rows_right" qbk ["_law_shelf_here","_law_leads","_law_high_here","_law_rows"]:=⟨_,_,F53,PySem.W.mg_of X G a53,F53.binds (ps:=["_law_shelf_here","_law_leads","_law_high_here","_law_rows"]) fun _ _ _ _ _ _ us hl=>by obtain ⟨_,_,_,_,rfl⟩:=us4 hl;rfl⟩
  obtain ⟨⟨_,F54⟩,k54⟩:=l54.fn
  have D54:Def K mg "_law_right" qei ["_law_shelf_here","_law_leads","_law_found"]:=⟨_,_,F54,PySem.W.mg_of X G a54,F54.binds (ps:=["_law_shelf_here","_law_leads","_law_found"]) fun _ _ _ _ _ _ us hl=>by obtain ⟨_,_,_,rfl⟩:=us3 hl;rfl⟩
  have F55:=zade (st:=qmb) l55 c55 k55
  refine ⟨PySem.W.fnOf "law" "law" (defArgs qmb) (defBody qmb) (defScope qmb) .none kV55 dc55 pm55 an55 cd55 ct55,fun s v => .of_eq rfl,fun base _ _=>?_⟩
  have O0:=qzn (P:=l.prog) (w:=w) (base:=base) D0 T
  have O1:=zaaw (P:=l.prog) (w:=w) (base:=base) D1 T
  have O2:=qgx D2 T O0
  have O3:=qmx (P:=l.prog) (w:=w) (base:=base) D3 T
  have O4:=qvu (P:=l.prog) (w:=w) (base:=base) D4 T
  have O5:=qyu D5 T O4
  have O6:=qpd (P:=l.prog) (w:=w) (base:=base) D6 T
  have O7:=qju D7 T O6
  have O8:=qpt (P:=l.prog) (w:=w) (base:=base) D8 T
  have O9:=qhy (P:=l.prog) (w:=w) (base:=base) D9 T
  have O10:=qjs D10 T O9
  have O11:=qwd (P:=l.prog) (w:=w) (base:=base) D11 T
  have O12:=qjr D12 T O10 O11
  have O13:=qtt (P:=l.prog) (w:=w) (base:=base) D13 T
  have O14:=qvw D14 T O4
  have O15:=zabx D15 T O13 O14
  have O16:=qpn D16 T O15
  have O17:=qyx D17 T O3 O5 O7 O8 O12 O16
  have O18:=qjh D18 T O1
  have O19:=qvl (P:=l.prog) (w:=w) (base:=base) D19 T
  have O20:=qma D20 T O1
  have O21:=qrn D21 T O1 O19 O20
  have O22:=qmz D22 T O1
  have O23:=qts D23 T O4 O13
  have O24:=qmh D24 T O23
  have O25:=zabr D25 T O14 O24
  have O26:=qmw (P:=l.prog) (w:=w) (base:=base) D26 T
  have O27:=qjk D27 T O4 O26
  have O28:=qvk (P:=l.prog) (w:=w) (base:=base) D28 T
  have O29:=qpw D29 T O1 O15 O25 O27 O28
  have O30:=qtr D30 T O0 O1 O2 O17 O18 O21 O22 O28 O29
  have O31:=qmv D31 T O2 O18
  have O32:=qhh D32 T O30
  have O33:=qtu (P:=l.prog) (w:=w) (base:=base) D33 T
  have O34:=qwo D34 T O33
  have O35:=qpe D35 T O34
  have O36:=qyy D36 T O33
  have O37:=zaet D37 T O31 O32 O35 O36
  have O38:=qtx (P:=l.prog) (w:=w) (base:=base) D38 T
  have O39:=qpu (P:=l.prog) (w:=w) (base:=base) D39 T
  have O40:=qrp D40 T O39
  have O41:=qmg (P:=l.prog) (w:=w) (base:=base) D41 T
  have O42:=qmd D42 T O41
  have O43:=qtv D43 T O40
  have O44:=qpx D44 T O40
  have O45:=qpp D45 T O40 O42 O43 O44
  have O46:=qmt D46 T O42
  have O47:=qmy D47 T O40 O42 O44
  have O48:=qml D48 T O40 O42 O43
  have O49:=qph D49 T O40 O45 O46 O47 O48
  have O50:=qpl (P:=l.prog) (w:=w) (base:=base) D50 T
  have O51:=qrs (P:=l.prog) (w:=w) (base:=base) D51 T
  have O52:=qji D52 T O41 O50
  have O53:=qjj D53 T O46 O50 O52
  have O54:=qpk D54 T O50 O51 O53
  exact zais (P:=l.prog) (w:=w) (K:=K) (mg:=mg) (base:=base) F55 T O30 O37 O38 O49 O54
theorem walk {l:PySem.W.OpenLaw}{q:Program}{loose:List Str}{XP:(Str→Option Value)→Heap→Prop}{YP:World→Heap→Prop}{d:DefRec}{K:Params→PySem.W.Frag} (hn:l.most=some 63) (hdf:d.params.defaults=[])
 (hY : ∀ (w:World) (h:Heap),YP w h→(K w.params).In h)
 (F : ∀ (w:World) (mg:Str→Option Value) (fa:Addr) (h:Heap),(K w.params).In h→h.Ns mainGlobals mg→mg d.name=some (.ref fa) →
 ∃ fd:FuncData,(∀ (s:Shared) (u:Value),BindsTo s fd ⟨[u],[]⟩ [("_law_script",u)]) ∧ ∀ base:Heap,(K w.params).In base→base.Ns mainGlobals mg→FnOk l.prog w (K w.params) mg base CX0 9 fa fd ["_law_script"] (zaaf (K w.params))) :
 PySem.W.WalkO q loose XP YP l.row.toRowW d [] (fun f vs=>PySem.call f vs) :=
  L2.walk_of (n:=63) (k:=9) (x := "_law_script") (CX:=fun _=>CX0) (sp:=fun w=>zaaf (K w.params)) hn (by decide) hdf ⟨rfl,by decide,by decide⟩ hY F (fun _ _ a ns hl _ hS=>⟨a,ns,rfl,hS,hl,fun _=>rfl⟩) fun _ _ _ _ _ z=>z
noncomputable section
open PySem PySem.W PySem.Calls PyProof.Rows
abbrev N0:=BT.node
abbrev nl0:=BT.nil
def en0 (P:Params) (x:Str) (t:Nat) (v:Value):DictEntry:=⟨PyData.keyHash P x,.str x t,v⟩
def tu0 (vs:List Value):Obj:=⟨.type "tuple",none,.seq vs.toArray 0,#[]⟩
def em0:Obj:=⟨.none,none,.fields #[],#[]⟩
def fo0 (n q:Str) (s:Stmt) (pm:Value) (c:Nat):Obj:=⟨.type "function",none,.func (PySem.W.fnOf n q (L2.defArgs s) (L2.defBody s) (L2.defScope s) .none .none .none pm none (.ref c) .none),#[]⟩
def pr0 (n q:Str) (s:Stmt):Obj:=⟨.none,none,.func ⟨n,q,L2.defArgs s,.stmts (L2.defBody s),L2.defScope s,0,[],.none,.none,.none,.none,none,.none,.none,0⟩,#[]⟩
def co0 (n q:Str) (t:Nat) (l ac fl:Int) (a:Nat) (b:Bool) (x y z:Value) (u:Nat):Obj:=⟨.type "code",none,.fields #[.str n t,.str q (t+1),.str "/claim/cut.py" (t+2),.int l 0,.int ac 0,.int 0 0,.int 0 0,.int fl 0,.ref a,.bool b,.int 181 0,.ref (a+1),.none,x,y,z,.int u 0,.int l 0,.str "/claim/cut.py" (u+1)],#[]⟩
lay_quick PySem.Challenge.pw_dullglass_k48_tops_of_a_shelf
def env0:Env:={ scope:=PySem.Challenge.pw_dullglass_k48_tops_of_a_shelf.main.scope,locals:=mainNs,globals:=mainNs,cells:=[],code:=(.ref 13),frame:=some 14 }
def cE0:Code :=.body (behindTheImports PySem.Challenge.pw_dullglass_k48_tops_of_a_shelf) env0
def ls0:List Str:=[Str.ofString "GlassError",Str.ofString "NoShare",Str.ofString "NoFit",Str.ofString "TooMany",Str.ofString "is_whole",Str.ofString "divisor",Str.ofString "share",Str.ofString "reduced",Str.ofString "is_share",Str.ofString "check_shares",Str.ofString "times",Str.ofString "table_of_shares",Str.ofString "over_bottom",Str.ofString "stands",Str.ofString "signs",Str.ofString "check_alike_stands",Str.ofString "MOST_UNKNOWNS",Str.ofString "MOST_ROWS",Str.ofString "solved",Str.ofString "first_above",Str.ofString "lowest",Str.ofString "Board",Str.ofString "first_line",Str.ofString "cleared",Str.ofString "MOST_COMPARED",Str.ofString "compared",Str.ofString "check_few_signs",Str.ofString "equations",Str.ofString "seen_as",Str.ofString "shown_in_all",Str.ofString "wanted_sums",Str.ofString "dulling_by",Str.ofString "in_rows",Str.ofString "MOST_GLASSES",Str.ofString "tops",Str.ofString "check_shelf",Str.ofString "compared_with_all",Str.ofString "is_outdone",Str.ofString "outdoes",Str.ofString "dulls_so",Str.ofString "row_of",Str.ofString "_law_pen",Str.ofString "_law_mixed",Str.ofString "_law_next",Str.ofString "_law_divisor",Str.ofString "_law_share",Str.ofString "_law_reduced",Str.ofString "_law_row",Str.ofString "_law_split",Str.ofString "_law_table",Str.ofString "_law_dulled",Str.ofString "_law_turned",Str.ofString "_law_dulling",Str.ofString "_law_shelf",Str.ofString "_law_whole",Str.ofString "_law_high",Str.ofString "_law_is_dulling",Str.ofString "_law_rows_right",Str.ofString "_law_right"]
def lf0:Life:=⟨[],[],[],0,[],[],false,#[],[],0,false,false,false,0,[2000,10,10],false,0,true,[],[],0,false⟩
def o13a:Obj:=co0 "<module>" "<module>" 182 1 0 0 11 false .none .none .none 185
def o14a:Obj:=⟨(.type "frame"),none,.plain,#[(some (.ref 13)),(some (.ref 3)),(some (.ref 3)),none,(some (.str "__main__" 164)),none,(some (.ref 0))]⟩
def o3 (P:Params):Obj:=⟨(.type "dict"),none,(.dict #[en0 P "__name__" 165 (.str "law_dullglass_k48_tops_of_a_shelf" 577),en0 P "__doc__" 166 .none,en0 P "__package__" 167 .none,en0 P "__loader__" 168 (.builtin "__main__.__loader__#opaque"),en0 P "__spec__" 169 .none,en0 P "__annotations__" 170 (.ref 6),en0 P "__builtins__" 171 (.ref 4),en0 P "__file__" 173 (.str "/claim/cut.py" 172),en0 P "__cached__" 174 .none,en0 P "GlassError" 206 (.ref 24),en0 P "NoShare" 222 (.ref 37),en0 P "NoFit" 238 (.ref 49),en0 P "TooMany" 254 (.ref 61),en0 P "is_whole" 263 (.ref 70),en0 P "divisor" 272 (.ref 77),en0 P "share" 280 (.ref 84),en0 P "reduced" 289 (.ref 91),en0 P "is_share" 296 (.ref 98),en0 P "check_shares" 304 (.ref 105),en0 P "times" 312 (.ref 112),en0 P "table_of_shares" 320 (.ref 117),en0 P "over_bottom" 326 (.ref 122),en0 P "stands" 333 (.ref 129),en0 P "signs" 340 (.ref 136),en0 P "check_alike_stands" 350 (.ref 143),en0 P "MOST_UNKNOWNS" 354 (.int (20) 353),en0 P "MOST_ROWS" 356 (.int (24) 355),en0 P "solved" 368 (.ref 150),en0 P "first_above" 377 (.ref 157),en0 P "lowest" 383 (.ref 162),en0 P "Board" 454 (.ref 206),en0 P "first_line" 460 (.ref 215),en0 P "cleared" 466 (.ref 220),en0 P "MOST_COMPARED" 470 (.int (4) 469),en0 P "compared" 479 (.ref 227),en0 P "check_few_signs" 486 (.ref 234),en0 P "equations" 492 (.ref 239),en0 P "seen_as" 498 (.ref 244),en0 P "shown_in_all" 504 (.ref 249),en0 P "wanted_sums" 510 (.ref 254),en0 P "dulling_by" 516 (.ref 259),en0 P "in_rows" 522 (.ref 264),en0 P "MOST_GLASSES" 526 (.int (5) 525),en0 P "tops" 532 (.ref 269),en0 P "check_shelf" 540 (.ref 276),en0 P "compared_with_all" 546 (.ref 281),en0 P "is_outdone" 552 (.ref 286),en0 P "outdoes" 561 (.ref 293),en0 P "dulls_so" 570 (.ref 300),en0 P "row_of" 576 (.ref 305),en0 P "_law_pen" 586 (.ref 312),en0 P "_law_mixed" 595 (.ref 319),en0 P "_law_next" 604 (.ref 326),en0 P "_law_divisor" 614 (.ref 333),en0 P "_law_share" 623 (.ref 340),en0 P "_law_reduced" 629 (.ref 345),en0 P "_law_row" 635 (.ref 350),en0 P "_law_split" 641 (.ref 355),en0 P "_law_table" 647 (.ref 360),en0 P "_law_dulled" 653 (.ref 365),en0 P "_law_turned" 659 (.ref 370),en0 P "_law_dulling" 665 (.ref 375),en0 P "_law_shelf" 679 (.ref 382),en0 P "_law_whole" 686 (.ref 389),en0 P "_law_high" 695 (.ref 396),en0 P "_law_is_dulling" 701 (.ref 401),en0 P "_law_rows_right" 707 (.ref 406),en0 P "_law_right" 713 (.ref 411),en0 P "law" 719 (.ref 416)] 69),#[]⟩
def o12:Obj:=⟨.none,none,(.fields #[(.int (2) 0),(.int (0) 0),(.ref 20),(.int (4) 0),(.int (0) 0),(.ref 33),(.int (6) 0),(.int (0) 0),(.ref 45),(.int (8) 0),(.int (0) 0),(.ref 57),(.int (11) 0),(.int (0) 0),(.ref 69),(.int (13) 0),(.int (0) 0),(.ref 76),(.int (21) 0),(.int (0) 0),(.ref 83),(.int (25) 0),(.int (0) 0),(.ref 90),(.int (30) 0),(.int (0) 0),(.ref 97),(.int (36) 0),(.int (0) 0),(.ref 104),(.int (39) 0),(.int (0) 0),(.ref 111),(.int (43) 0),(.int (0) 0),(.ref 116),(.int (49) 0),(.int (0) 0),(.ref 121),(.int (51) 0),(.int (0) 0),(.ref 128),(.int (53) 0),(.int (0) 0),(.ref 135),(.int (56) 0),(.int (0) 0),(.ref 142),(.int (62) 0),(.int (0) 0),(.ref 149),(.int (75) 0),(.int (0) 0),(.ref 156),(.int (80) 0),(.int (0) 0),(.ref 161),(.int (85) 0),(.int (0) 0),(.ref 168),(.int (126) 0),(.int (0) 0),(.ref 214),(.int (130) 0),(.int (0) 0),(.ref 219),(.int (134) 0),(.int (0) 0),(.ref 226),(.int (142) 0),(.int (0) 0),(.ref 233),(.int (145) 0),(.int (0) 0),(.ref 238),(.int (152) 0),(.int (0) 0),(.ref 243),(.int (154) 0),(.int (0) 0),(.ref 248),(.int (156) 0),(.int (0) 0),(.ref 253),(.int (161) 0),(.int (0) 0),(.ref 258),(.int (165) 0),(.int (0) 0),(.ref 263),(.int (169) 0),(.int (0) 0),(.ref 268),(.int (175) 0),(.int (0) 0),(.ref 275),(.int (182) 0),(.int (0) 0),(.ref 280),(.int (184) 0),(.int (0) 0),(.ref 285),(.int (186) 0),(.int (0) 0),(.ref 292),(.int (188) 0),(.int (0) 0),(.ref 299),(.int (190) 0),(.int (0) 0),(.ref 304),(.int (194) 0),(.int (0) 0),(.ref 311),(.int (199) 0),(.int (0) 0),(.ref 318),(.int (205) 0),(.int (0) 0),(.ref 325),(.int (218) 0),(.int (0) 0),(.ref 332),(.int (225) 0),(.int (0) 0),(.ref 339),(.int (228) 0),(.int (0) 0),(.ref 344),(.int (234) 0),(.int (0) 0),(.ref 349),(.int (237) 0),(.int (0) 0),(.ref 354),(.int (249) 0),(.int (0) 0),(.ref 359),(.int (257) 0),(.int (0) 0),(.ref 364),(.int (265) 0),(.int (0) 0),(.ref 369),(.int (275) 0),(.int (0) 0),(.ref 374),(.int (278) 0),(.int (0) 0),(.ref 381),(.int (292) 0),(.int (0) 0),(.ref 388),(.int (294) 0),(.int (0) 0),(.ref 395),(.int (300) 0),(.int (0) 0),(.ref 400),(.int (312) 0),(.int (0) 0),(.ref 405),(.int (325) 0),(.int (0) 0),(.ref 410),(.int (332) 0),(.int (0) 0),(.ref 415)]),#[]⟩
def o16:Obj:=⟨(.type "builtin_function_or_method"),none,(.fields #[(.builtin "type.__prepare__"),(.type "type")]),#[]⟩
def o17 (P:Params):Obj:=⟨(.type "dict"),none,(.dict #[en0 P "__module__" 196 (.str "dullglass.errors" 187),en0 P "__qualname__" 198 (.str "GlassError" 197),en0 P "__firstlineno__" 200 (.int (2) 199),en0 P "__static_attributes__" 201 (.ref 22)] 4),#[]⟩
def o20:Obj:=co0 "GlassError" "GlassError" 191 2 0 0 18 false .none .none .none 194
def o21:Obj:=⟨(.type "frame"),none,.plain,#[(some (.ref 20)),(some (.ref 3)),(some (.ref 17)),none,(some (.str "dullglass.errors" 187)),none,(some (.ref 0))]⟩
def o23 (P:Params):Obj:=⟨(.type "dict"),none,(.dict #[en0 P "__module__" 196 (.str "dullglass.errors" 187),en0 P "__firstlineno__" 200 (.int (2) 199),en0 P "__static_attributes__" 201 (.ref 22),en0 P "__weakref__" 203 (.ref 25),en0 P "__doc__" 204 .none] 3),#[]⟩
def o24:Obj:=⟨(.type "type"),none,(.cls ⟨"GlassError",[(.type "ValueError")],[(.ref 24),(.type "ValueError"),(.type "Exception"),(.type "BaseException"),(.type "object")],23,"GlassError",true,[],[(.ref 37),(.ref 49),(.ref 61)],false,none,false⟩),#[(some (.ref 15)),none,(some (.str "GlassError" 189)),(some (.str "GlassError" 197)),(some (.builtin "ValueError.__new__")),(some (.bool true))]⟩
def o25:Obj:=⟨(.type "getset_descriptor"),none,(.fields #[(.str "__weakref__" 202),(.ref 24),(.builtin "ExceptionGroup.__weakref__"),.none]),#[]⟩
def o26:Obj:=⟨(.type "super"),none,(.fields #[(.ref 24),(.ref 24),(.ref 24)]),#[]⟩
def o27:Obj:=⟨(.type "builtin_function_or_method"),none,(.fields #[(.builtin "object.__init_subclass__"),(.ref 24)]),#[]⟩
def o29:Obj:=⟨(.type "builtin_function_or_method"),none,(.fields #[(.builtin "type.__prepare__"),(.type "type")]),#[]⟩
def o30 (P:Params):Obj:=⟨(.type "dict"),none,(.dict #[en0 P "__module__" 214 (.str "dullglass.errors" 187),en0 P "__qualname__" 216 (.str "NoShare" 215),en0 P "__firstlineno__" 218 (.int (4) 217),en0 P "__static_attributes__" 219 (.ref 35)] 4),#[]⟩
def o33:Obj:=co0 "NoShare" "NoShare" 209 4 0 0 31 false .none .none .none 212
def o34:Obj:=⟨(.type "frame"),none,.plain,#[(some (.ref 33)),(some (.ref 3)),(some (.ref 30)),none,(some (.str "dullglass.errors" 187)),none,(some (.ref 0))]⟩
def o36 (P:Params):Obj:=⟨(.type "dict"),none,(.dict #[en0 P "__module__" 214 (.str "dullglass.errors" 187),en0 P "__firstlineno__" 218 (.int (4) 217),en0 P "__static_attributes__" 219 (.ref 35),en0 P "__doc__" 220 .none] 2),#[]⟩
def o37:Obj:=⟨(.type "type"),none,(.cls ⟨"NoShare",[(.ref 24)],[(.ref 37),(.ref 24),(.type "ValueError"),(.type "Exception"),(.type "BaseException"),(.type "object")],36,"NoShare",true,[],[],false,none,false⟩),#[(some (.ref 28)),none,(some (.str "NoShare" 207)),(some (.str "NoShare" 215)),(some (.builtin "ValueError.__new__")),(some (.bool true))]⟩
def o38:Obj:=⟨(.type "super"),none,(.fields #[(.ref 37),(.ref 37),(.ref 37)]),#[]⟩
def o39:Obj:=⟨(.type "builtin_function_or_method"),none,(.fields #[(.builtin "object.__init_subclass__"),(.ref 37)]),#[]⟩
def o41:Obj:=⟨(.type "builtin_function_or_method"),none,(.fields #[(.builtin "type.__prepare__"),(.type "type")]),#[]⟩
def o42 (P:Params):Obj:=⟨(.type "dict"),none,(.dict #[en0 P "__module__" 230 (.str "dullglass.errors" 187),en0 P "__qualname__" 232 (.str "NoFit" 231),en0 P "__firstlineno__" 234 (.int (6) 233),en0 P "__static_attributes__" 235 (.ref 47)] 4),#[]⟩
def o45:Obj:=co0 "NoFit" "NoFit" 225 6 0 0 43 false .none .none .none 228
def o46:Obj:=⟨(.type "frame"),none,.plain,#[(some (.ref 45)),(some (.ref 3)),(some (.ref 42)),none,(some (.str "dullglass.errors" 187)),none,(some (.ref 0))]⟩
def o48 (P:Params):Obj:=⟨(.type "dict"),none,(.dict #[en0 P "__module__" 230 (.str "dullglass.errors" 187),en0 P "__firstlineno__" 234 (.int (6) 233),en0 P "__static_attributes__" 235 (.ref 47),en0 P "__doc__" 236 .none] 2),#[]⟩
def o49:Obj:=⟨(.type "type"),none,(.cls ⟨"NoFit",[(.ref 24)],[(.ref 49),(.ref 24),(.type "ValueError"),(.type "Exception"),(.type "BaseException"),(.type "object")],48,"NoFit",true,[],[],false,none,false⟩),#[(some (.ref 40)),none,(some (.str "NoFit" 223)),(some (.str "NoFit" 231)),(some (.builtin "ValueError.__new__")),(some (.bool true))]⟩
def o50:Obj:=⟨(.type "super"),none,(.fields #[(.ref 49),(.ref 49),(.ref 49)]),#[]⟩
def o51:Obj:=⟨(.type "builtin_function_or_method"),none,(.fields #[(.builtin "object.__init_subclass__"),(.ref 49)]),#[]⟩
def o53:Obj:=⟨(.type "builtin_function_or_method"),none,(.fields #[(.builtin "type.__prepare__"),(.type "type")]),#[]⟩
def o54 (P:Params):Obj:=⟨(.type "dict"),none,(.dict #[en0 P "__module__" 246 (.str "dullglass.errors" 187),en0 P "__qualname__" 248 (.str "TooMany" 247),en0 P "__firstlineno__" 250 (.int (8) 249),en0 P "__static_attributes__" 251 (.ref 59)] 4),#[]⟩
def o57:Obj:=co0 "TooMany" "TooMany" 241 8 0 0 55 false .none .none .none 244
def o58:Obj:=⟨(.type "frame"),none,.plain,#[(some (.ref 57)),(some (.ref 3)),(some (.ref 54)),none,(some (.str "dullglass.errors" 187)),none,(some (.ref 0))]⟩
def o60 (P:Params):Obj:=⟨(.type "dict"),none,(.dict #[en0 P "__module__" 246 (.str "dullglass.errors" 187),en0 P "__firstlineno__" 250 (.int (8) 249),en0 P "__static_attributes__" 251 (.ref 59),en0 P "__doc__" 252 .none] 2),#[]⟩
def o61:Obj:=⟨(.type "type"),none,(.cls ⟨"TooMany",[(.ref 24)],[(.ref 61),(.ref 24),(.type "ValueError"),(.type "Exception"),(.type "BaseException"),(.type "object")],60,"TooMany",true,[],[],false,none,false⟩),#[(some (.ref 52)),none,(some (.str "TooMany" 239)),(some (.str "TooMany" 247)),(some (.builtin "ValueError.__new__")),(some (.bool true))]⟩
def o62:Obj:=⟨(.type "super"),none,(.fields #[(.ref 61),(.ref 61),(.ref 61)]),#[]⟩
def o63:Obj:=⟨(.type "builtin_function_or_method"),none,(.fields #[(.builtin "object.__init_subclass__"),(.ref 61)]),#[]⟩
def o69:Obj:=co0 "is_whole" "is_whole" 257 11 1 3 64 true (.ref 66) (.ref 67) (.ref 68) 261
def o70:Obj:=fo0 "is_whole" "is_whole" (top 6) (.str "dullglass.shares" 255) 69
def o76:Obj:=co0 "divisor" "divisor" 264 13 2 3 71 true (.ref 73) (.ref 74) (.ref 75) 270
def o77:Obj:=fo0 "divisor" "divisor" (top 7) (.str "dullglass.shares" 255) 76
def o83:Obj:=co0 "share" "share" 273 21 2 3 78 true (.ref 80) (.ref 81) (.ref 82) 278
def o84:Obj:=fo0 "share" "share" (top 8) (.str "dullglass.shares" 255) 83
def o90:Obj:=co0 "reduced" "reduced" 281 25 2 3 85 true (.ref 87) (.ref 88) (.ref 89) 287
def o91:Obj:=fo0 "reduced" "reduced" (top 9) (.str "dullglass.shares" 255) 90
def o97:Obj:=co0 "is_share" "is_share" 290 30 1 3 92 true (.ref 94) (.ref 95) (.ref 96) 294
def o98:Obj:=fo0 "is_share" "is_share" (top 10) (.str "dullglass.shares" 255) 97
def o104:Obj:=co0 "check_shares" "check_shares" 297 36 2 3 99 true (.ref 101) (.ref 102) (.ref 103) 302
def o105:Obj:=fo0 "check_shares" "check_shares" (top 11) (.str "dullglass.shares" 255) 104
def o111:Obj:=co0 "times" "times" 305 39 2 3 106 true (.ref 108) (.ref 109) (.ref 110) 310
def o112:Obj:=fo0 "times" "times" (top 12) (.str "dullglass.shares" 255) 111
def o116:Obj:=co0 "table_of_shares" "table_of_shares" 315 43 1 3 113 true .none .none (.ref 115) 318
def o117:Obj:=fo0 "table_of_shares" "table_of_shares" (top 14) (.str "dullglass.glasses" 313) 116
def o121:Obj:=co0 "over_bottom" "over_bottom" 321 49 2 3 118 true .none .none (.ref 120) 324
def o122:Obj:=fo0 "over_bottom" "over_bottom" (top 15) (.str "dullglass.glasses" 313) 121
def o128:Obj:=co0 "stands" "stands" 327 51 1 3 123 true (.ref 125) (.ref 126) (.ref 127) 331
def o129:Obj:=fo0 "stands" "stands" (top 16) (.str "dullglass.glasses" 313) 128
def o135:Obj:=co0 "signs" "signs" 334 53 1 3 130 true (.ref 132) (.ref 133) (.ref 134) 338
def o136:Obj:=fo0 "signs" "signs" (top 17) (.str "dullglass.glasses" 313) 135
def o142:Obj:=co0 "check_alike_stands" "check_alike_stands" 343 56 2 3 137 true (.ref 139) (.ref 140) (.ref 141) 348
def o143:Obj:=fo0 "check_alike_stands" "check_alike_stands" (top 19) (.str "dullglass.dulls" 341) 142
def o149:Obj:=co0 "solved" "solved" 357 62 2 3 144 true (.ref 146) (.ref 147) (.ref 148) 366
def o150:Obj:=fo0 "solved" "solved" (top 23) (.str "dullglass.solver" 351) 149
def o156:Obj:=co0 "first_above" "first_above" 369 75 1 3 151 true (.ref 153) (.ref 154) (.ref 155) 375
def o157:Obj:=fo0 "first_above" "first_above" (top 24) (.str "dullglass.solver" 351) 156
def o161:Obj:=co0 "lowest" "lowest" 378 80 1 3 158 true .none .none (.ref 160) 381
def o162:Obj:=fo0 "lowest" "lowest" (top 25) (.str "dullglass.solver" 351) 161
def o164:Obj:=⟨(.type "builtin_function_or_method"),none,(.fields #[(.builtin "type.__prepare__"),(.type "type")]),#[]⟩
def o165 (P:Params):Obj:=⟨(.type "dict"),none,(.dict #[en0 P "__module__" 391 (.str "dullglass.solver" 351),en0 P "__qualname__" 393 (.str "Board" 392),en0 P "__firstlineno__" 395 (.int (85) 394),en0 P "__init__" 401 (.ref 174),en0 P "lack" 407 (.ref 179),en0 P "bring_in" 413 (.ref 184),en0 P "tightest" 424 (.ref 191),en0 P "is_tighter" 436 (.ref 198),en0 P "told" 442 (.ref 203),en0 P "__static_attributes__" 447 (.ref 204)] 10),#[]⟩
def o167:Obj:=⟨.none,none,(.fields #[(.int (87) 0),(.int (4) 0),(.ref 173),(.int (93) 0),(.int (4) 0),(.ref 178),(.int (100) 0),(.int (4) 0),(.ref 183),(.int (108) 0),(.int (4) 0),(.ref 190),(.int (115) 0),(.int (4) 0),(.ref 197),(.int (120) 0),(.int (4) 0),(.ref 202)]),#[]⟩
def o168:Obj:=co0 "Board" "Board" 386 85 0 0 166 false .none .none .none 389
def o169:Obj:=⟨(.type "frame"),none,.plain,#[(some (.ref 168)),(some (.ref 3)),(some (.ref 165)),none,(some (.str "dullglass.solver" 351)),none,(some (.ref 0))]⟩
def o173:Obj:=co0 "__init__" "Board.__init__" 396 87 4 3 170 true .none .none (.ref 172) 399
def o174:Obj:=fo0 "__init__" "Board.__init__" (qbz (top 26) 0) (.str "dullglass.solver" 351) 173
def o178:Obj:=co0 "lack" "Board.lack" 402 93 1 3 175 true .none .none (.ref 177) 405
def o179:Obj:=fo0 "lack" "Board.lack" (qbz (top 26) 1) (.str "dullglass.solver" 351) 178
def o183:Obj:=co0 "bring_in" "Board.bring_in" 408 100 2 3 180 true .none .none (.ref 182) 411
def o184:Obj:=fo0 "bring_in" "Board.bring_in" (qbz (top 26) 2) (.str "dullglass.solver" 351) 183
def o190:Obj:=co0 "tightest" "Board.tightest" 414 108 2 3 185 true (.ref 187) (.ref 188) (.ref 189) 422
def o191:Obj:=fo0 "tightest" "Board.tightest" (qbz (top 26) 3) (.str "dullglass.solver" 351) 190
def o197:Obj:=co0 "is_tighter" "Board.is_tighter" 425 115 4 3 192 true (.ref 194) (.ref 195) (.ref 196) 434
def o198:Obj:=fo0 "is_tighter" "Board.is_tighter" (qbz (top 26) 4) (.str "dullglass.solver" 351) 197
def o202:Obj:=co0 "told" "Board.told" 437 120 1 3 199 true .none .none (.ref 201) 440
def o203:Obj:=fo0 "told" "Board.told" (qbz (top 26) 5) (.str "dullglass.solver" 351) 202
def o205 (P:Params):Obj:=⟨(.type "dict"),none,(.dict #[en0 P "__module__" 391 (.str "dullglass.solver" 351),en0 P "__firstlineno__" 395 (.int (85) 394),en0 P "__init__" 401 (.ref 174),en0 P "lack" 407 (.ref 179),en0 P "bring_in" 413 (.ref 184),en0 P "tightest" 424 (.ref 191),en0 P "is_tighter" 436 (.ref 198),en0 P "told" 442 (.ref 203),en0 P "__static_attributes__" 447 (.ref 204),en0 P "__dict__" 449 (.ref 207),en0 P "__weakref__" 451 (.ref 208),en0 P "__doc__" 452 .none] 4),#[]⟩
def o206:Obj:=⟨(.type "type"),none,(.cls ⟨"Board",[(.type "object")],[(.ref 206),(.type "object")],205,"Board",true,[],[],false,none,false⟩),#[none,none,(some (.str "Board" 384)),(some (.str "Board" 392)),(some (.builtin "object.__new__")),(some (.bool true))]⟩
def o207:Obj:=⟨(.type "getset_descriptor"),none,(.fields #[(.str "__dict__" 448),(.ref 206),(.builtin "function.__dict__"),(.builtin "function.__dict__#set")]),#[]⟩
def o208:Obj:=⟨(.type "getset_descriptor"),none,(.fields #[(.str "__weakref__" 450),(.ref 206),(.builtin "ExceptionGroup.__weakref__"),.none]),#[]⟩
def o209:Obj:=⟨(.type "super"),none,(.fields #[(.ref 206),(.ref 206),(.ref 206)]),#[]⟩
def o210:Obj:=⟨(.type "builtin_function_or_method"),none,(.fields #[(.builtin "object.__init_subclass__"),(.ref 206)]),#[]⟩
def o214:Obj:=co0 "first_line" "first_line" 455 126 4 3 211 true .none .none (.ref 213) 458
def o215:Obj:=fo0 "first_line" "first_line" (top 27) (.str "dullglass.solver" 351) 214
def o219:Obj:=co0 "cleared" "cleared" 461 130 4 3 216 true .none .none (.ref 218) 464
def o220:Obj:=fo0 "cleared" "cleared" (top 28) (.str "dullglass.solver" 351) 219
def o226:Obj:=co0 "compared" "compared" 471 134 2 3 221 true (.ref 223) (.ref 224) (.ref 225) 477
def o227:Obj:=fo0 "compared" "compared" (top 31) (.str "dullglass.compare" 467) 226
def o233:Obj:=co0 "check_few_signs" "check_few_signs" 480 142 1 3 228 true (.ref 230) (.ref 231) (.ref 232) 484
def o234:Obj:=fo0 "check_few_signs" "check_few_signs" (top 32) (.str "dullglass.compare" 467) 233
def o238:Obj:=co0 "equations" "equations" 487 145 2 3 235 true .none .none (.ref 237) 490
def o239:Obj:=fo0 "equations" "equations" (top 33) (.str "dullglass.compare" 467) 238
def o243:Obj:=co0 "seen_as" "seen_as" 493 152 3 3 240 true .none .none (.ref 242) 496
def o244:Obj:=fo0 "seen_as" "seen_as" (top 34) (.str "dullglass.compare" 467) 243
def o248:Obj:=co0 "shown_in_all" "shown_in_all" 499 154 3 3 245 true .none .none (.ref 247) 502
def o249:Obj:=fo0 "shown_in_all" "shown_in_all" (top 35) (.str "dullglass.compare" 467) 248
def o253:Obj:=co0 "wanted_sums" "wanted_sums" 505 156 2 3 250 true .none .none (.ref 252) 508
def o254:Obj:=fo0 "wanted_sums" "wanted_sums" (top 36) (.str "dullglass.compare" 467) 253
def o258:Obj:=co0 "dulling_by" "dulling_by" 511 161 3 3 255 true .none .none (.ref 257) 514
def o259:Obj:=fo0 "dulling_by" "dulling_by" (top 37) (.str "dullglass.compare" 467) 258
def o263:Obj:=co0 "in_rows" "in_rows" 517 165 3 3 260 true .none .none (.ref 262) 520
def o264:Obj:=fo0 "in_rows" "in_rows" (top 38) (.str "dullglass.compare" 467) 263
def o268:Obj:=co0 "tops" "tops" 527 169 1 3 265 true .none .none (.ref 267) 530
def o269:Obj:=fo0 "tops" "tops" (top 41) (.str "dullglass.shelves" 523) 268
def o275:Obj:=co0 "check_shelf" "check_shelf" 533 175 1 3 270 true (.ref 272) (.ref 273) (.ref 274) 538
def o276:Obj:=fo0 "check_shelf" "check_shelf" (top 42) (.str "dullglass.shelves" 523) 275
def o280:Obj:=co0 "compared_with_all" "compared_with_all" 541 182 2 3 277 true .none .none (.ref 279) 544
def o281:Obj:=fo0 "compared_with_all" "compared_with_all" (top 43) (.str "dullglass.shelves" 523) 280
def o285:Obj:=co0 "is_outdone" "is_outdone" 547 184 2 3 282 true .none .none (.ref 284) 550
def o286:Obj:=fo0 "is_outdone" "is_outdone" (top 44) (.str "dullglass.shelves" 523) 285
def o292:Obj:=co0 "outdoes" "outdoes" 553 186 3 3 287 true (.ref 289) (.ref 290) (.ref 291) 559
def o293:Obj:=fo0 "outdoes" "outdoes" (top 45) (.str "dullglass.shelves" 523) 292
def o299:Obj:=co0 "dulls_so" "dulls_so" 562 188 3 3 294 true (.ref 296) (.ref 297) (.ref 298) 568
def o300:Obj:=fo0 "dulls_so" "dulls_so" (top 46) (.str "dullglass.shelves" 523) 299
def o304:Obj:=co0 "row_of" "row_of" 571 190 3 3 301 true .none .none (.ref 303) 574
def o305:Obj:=fo0 "row_of" "row_of" (top 47) (.str "dullglass.shelves" 523) 304
def o311:Obj:=co0 "_law_pen" "_law_pen" 579 194 1 3 306 true (.ref 308) (.ref 309) (.ref 310) 584
def o312:Obj:=fo0 "_law_pen" "_law_pen" (top 49) (.str "law_dullglass_k48_tops_of_a_shelf" 577) 311
def o318:Obj:=co0 "_law_mixed" "_law_mixed" 587 199 1 3 313 true (.ref 315) (.ref 316) (.ref 317) 593
def o319:Obj:=fo0 "_law_mixed" "_law_mixed" (top 50) (.str "law_dullglass_k48_tops_of_a_shelf" 577) 318
def o325:Obj:=co0 "_law_next" "_law_next" 596 205 2 3 320 true (.ref 322) (.ref 323) (.ref 324) 602
def o326:Obj:=fo0 "_law_next" "_law_next" (top 51) (.str "law_dullglass_k48_tops_of_a_shelf" 577) 325
def o332:Obj:=co0 "_law_divisor" "_law_divisor" 605 218 1 3 327 true (.ref 329) (.ref 330) (.ref 331) 612
def o333:Obj:=fo0 "_law_divisor" "_law_divisor" (top 52) (.str "law_dullglass_k48_tops_of_a_shelf" 577) 332
def o339:Obj:=co0 "_law_share" "_law_share" 615 225 2 3 334 true (.ref 336) (.ref 337) (.ref 338) 621
def o340:Obj:=fo0 "_law_share" "_law_share" (top 53) (.str "law_dullglass_k48_tops_of_a_shelf" 577) 339
def o344:Obj:=co0 "_law_reduced" "_law_reduced" 624 228 2 3 341 true .none .none (.ref 343) 627
def o345:Obj:=fo0 "_law_reduced" "_law_reduced" (top 54) (.str "law_dullglass_k48_tops_of_a_shelf" 577) 344
def o349:Obj:=co0 "_law_row" "_law_row" 630 234 3 3 346 true .none .none (.ref 348) 633
def o350:Obj:=fo0 "_law_row" "_law_row" (top 55) (.str "law_dullglass_k48_tops_of_a_shelf" 577) 349
def o354:Obj:=co0 "_law_split" "_law_split" 636 237 2 3 351 true .none .none (.ref 353) 639
def o355:Obj:=fo0 "_law_split" "_law_split" (top 56) (.str "law_dullglass_k48_tops_of_a_shelf" 577) 354
def o359:Obj:=co0 "_law_table" "_law_table" 642 249 4 3 356 true .none .none (.ref 358) 645
def o360:Obj:=fo0 "_law_table" "_law_table" (top 57) (.str "law_dullglass_k48_tops_of_a_shelf" 577) 359
def o364:Obj:=co0 "_law_dulled" "_law_dulled" 648 257 2 3 361 true .none .none (.ref 363) 651
def o365:Obj:=fo0 "_law_dulled" "_law_dulled" (top 58) (.str "law_dullglass_k48_tops_of_a_shelf" 577) 364
def o369:Obj:=co0 "_law_turned" "_law_turned" 654 265 3 3 366 true .none .none (.ref 368) 657
def o370:Obj:=fo0 "_law_turned" "_law_turned" (top 59) (.str "law_dullglass_k48_tops_of_a_shelf" 577) 369
def o374:Obj:=co0 "_law_dulling" "_law_dulling" 660 275 3 3 371 true .none .none (.ref 373) 663
def o375:Obj:=fo0 "_law_dulling" "_law_dulling" (top 60) (.str "law_dullglass_k48_tops_of_a_shelf" 577) 374
def o381:Obj:=co0 "_law_shelf" "_law_shelf" 666 278 1 3 376 true (.ref 378) (.ref 379) (.ref 380) 677
def o382:Obj:=fo0 "_law_shelf" "_law_shelf" (top 61) (.str "law_dullglass_k48_tops_of_a_shelf" 577) 381
def o388:Obj:=co0 "_law_whole" "_law_whole" 680 292 1 3 383 true (.ref 385) (.ref 386) (.ref 387) 684
def o389:Obj:=fo0 "_law_whole" "_law_whole" (top 62) (.str "law_dullglass_k48_tops_of_a_shelf" 577) 388
def o395:Obj:=co0 "_law_high" "_law_high" 687 294 2 3 390 true (.ref 392) (.ref 393) (.ref 394) 693
def o396:Obj:=fo0 "_law_high" "_law_high" (top 63) (.str "law_dullglass_k48_tops_of_a_shelf" 577) 395
def o400:Obj:=co0 "_law_is_dulling" "_law_is_dulling" 696 300 2 3 397 true .none .none (.ref 399) 699
def o401:Obj:=fo0 "_law_is_dulling" "_law_is_dulling" (top 64) (.str "law_dullglass_k48_tops_of_a_shelf" 577) 400
def o405:Obj:=co0 "_law_rows_right" "_law_rows_right" 702 312 4 3 402 true .none .none (.ref 404) 705
def o406:Obj:=fo0 "_law_rows_right" "_law_rows_right" (top 65) (.str "law_dullglass_k48_tops_of_a_shelf" 577) 405
def o410:Obj:=co0 "_law_right" "_law_right" 708 325 3 3 407 true .none .none (.ref 409) 711
def o411:Obj:=fo0 "_law_right" "_law_right" (top 66) (.str "law_dullglass_k48_tops_of_a_shelf" 577) 410
def o415:Obj:=co0 "law" "law" 714 332 1 3 412 true .none .none (.ref 414) 717
def o416:Obj:=fo0 "law" "law" (top 67) (.str "law_dullglass_k48_tops_of_a_shelf" 577) 415
def tA0 (P:Params):BT:=(N0 (boot_o_0 P) (N0 (boot_o_1 P) (N0 (boot_o_3 P) (N0 (boot_o_7 P) nl0 nl0) (N0 (tu0 []) nl0 nl0)) (N0 (boot_o_5 P) (N0 (boot_o_9 P) nl0 nl0) (N0 o13a nl0 nl0))) (N0 (boot_o_2 P) (N0 (boot_o_4 P) (N0 (boot_o_8 P) nl0 nl0) (N0 em0 nl0 nl0)) (N0 (boot_o_6 P) (N0 (boot_o_10 P) nl0 nl0) (N0 o14a nl0 nl0))))
def tE0 (P:Params):BT:=(N0 (boot_o_0 P) (N0 (boot_o_1 P) (N0 (o3 P) (N0 (boot_o_7 P) (N0 (tu0 [(.type "ValueError")]) (N0 (tu0 []) (N0 o63 (N0 (pr0 "stands" "stands" (top 16)) (N0 (tu0 []) nl0 nl0) (N0 (tu0 []) nl0 nl0)) (N0 o191 (N0 o319 nl0 nl0) nl0)) (N0 (tu0 []) (N0 em0 (N0 (tu0 []) nl0 nl0) (N0 o415 nl0 nl0)) (N0 (tu0 [(.str "one" 474),(.str "other" 475),(.str "answer" 476)]) (N0 (tu0 []) nl0 nl0) nl0))) (N0 (tu0 []) (N0 em0 (N0 o143 (N0 em0 nl0 nl0) (N0 (pr0 "_law_is_dulling" "_law_is_dulling" (top 64)) nl0 nl0)) (N0 o207 (N0 em0 nl0 nl0) nl0)) (N0 o111 (N0 (tu0 []) (N0 (pr0 "row_of" "row_of" (top 47)) nl0 nl0) nl0) (N0 o239 (N0 em0 nl0 nl0) nl0)))) (N0 (o23 P) (N0 o39 (N0 (tu0 []) (N0 o135 (N0 o263 nl0 nl0) (N0 em0 nl0 nl0)) (N0 (tu0 []) (N0 (tu0 []) nl0 nl0) nl0)) (N0 (pr0 "check_shares" "check_shares" (top 11)) (N0 o167 (N0 em0 nl0 nl0) nl0) (N0 (tu0 []) (N0 o359 nl0 nl0) nl0))) (N0 (tu0 []) (N0 (tu0 [(.str "top" 284),(.str "bottom" 285),(.str "common" 286)]) (N0 (tu0 []) (N0 (pr0 "compared_with_all" "compared_with_all" (top 43)) nl0 nl0) (N0 (tu0 []) nl0 nl0)) (N0 o215 (N0 (pr0 "_law_reduced" "_law_reduced" (top 54)) nl0 nl0) nl0)) (N0 em0 (N0 o183 (N0 o311 nl0 nl0) nl0) (N0 (pr0 "shown_in_all" "shown_in_all" (top 35)) (N0 o375 nl0 nl0) nl0))))) (N0 (tu0 []) (N0 em0 (N0 (tu0 []) (N0 (tu0 []) (N0 em0 (N0 o259 nl0 nl0) (N0 (pr0 "_law_whole" "_law_whole" (top 62)) nl0 nl0)) (N0 (tu0 []) (N0 (tu0 []) nl0 nl0) nl0)) (N0 (tu0 []) (N0 (tu0 []) (N0 (pr0 "outdoes" "outdoes" (top 45)) nl0 nl0) nl0) (N0 o227 (N0 o355 nl0 nl0) nl0))) (N0 o51 (N0 o83 (N0 (tu0 []) (N0 o275 nl0 nl0) (N0 em0 nl0 nl0)) (N0 (tu0 []) (N0 o339 nl0 nl0) nl0)) (N0 (pr0 "table_of_shares" "table_of_shares" (top 14)) (N0 o179 (N0 em0 nl0 nl0) nl0) (N0 o243 (N0 (tu0 []) nl0 nl0) nl0)))) (N0 o27 (N0 (tu0 []) (N0 (pr0 "divisor" "divisor" (top 7)) (N0 (tu0 [(.str "one" 346),(.str "other" 347)]) (N0 (pr0 "tops" "tops" (top 41)) nl0 nl0) (N0 o395 nl0 nl0)) (N0 o203 (N0 (pr0 "_law_divisor" "_law_divisor" (top 52)) nl0 nl0) nl0)) (N0 em0 (N0 em0 (N0 o299 nl0 nl0) nl0) (N0 (tu0 []) (N0 (pr0 "_law_dulled" "_law_dulled" (top 58)) nl0 nl0) nl0))) (N0 (tu0 []) (N0 o91 (N0 (pr0 "first_above" "first_above" (top 24)) (N0 em0 nl0 nl0) (N0 o411 nl0 nl0)) (N0 o219 (N0 em0 nl0 nl0) nl0)) (N0 (tu0 []) (N0 (tu0 [(.str "self" 417),(.str "place" 418),(.str "chosen" 419),(.str "k" 420),(.str "line" 421)]) (N0 (tu0 [(.str "_law_pen_here" 590),(.str "_law_cell" 591),(.str "_law_number" 592)]) nl0 nl0) nl0) (N0 em0 (N0 (tu0 []) nl0 nl0) nl0)))))) (N0 (boot_o_5 P) (N0 (boot_o_9 P) (N0 (o17 P) (N0 o33 (N0 em0 (N0 o129 (N0 (pr0 "dulling_by" "dulling_by" (top 37)) nl0 nl0) (N0 (tu0 [(.str "_law_thing" 683)]) nl0 nl0)) (N0 em0 (N0 em0 nl0 nl0) nl0)) (N0 o97 (N0 o161 (N0 (tu0 [(.str "one" 556),(.str "other" 557),(.str "answers" 558)]) nl0 nl0) nl0) (N0 (pr0 "compared" "compared" (top 31)) (N0 (pr0 "_law_split" "_law_split" (top 56)) nl0 nl0) nl0))) (N0 o49 (N0 (tu0 []) (N0 em0 (N0 (tu0 []) nl0 nl0) (N0 o401 nl0 nl0)) (N0 o209 (N0 (tu0 []) nl0 nl0) nl0)) (N0 (tu0 []) (N0 (pr0 "lack" "Board.lack" (qbz (top 26) 1)) (N0 o305 nl0 nl0) nl0) (N0 em0 (N0 o369 nl0 nl0) nl0)))) (N0 o25 (N0 o41 (N0 (tu0 [(.str "one" 267),(.str "other" 268),(.str "rest" 269)]) (N0 (tu0 []) (N0 (tu0 []) nl0 nl0) (N0 (tu0 []) nl0 nl0)) (N0 (pr0 "told" "Board.told" (qbz (top 26) 5)) (N0 (tu0 [(.str "_law_numbers" 608),(.str "_law_found" 609),(.str "_law_number" 610),(.str "_law_other" 611)]) nl0 nl0) nl0)) (N0 o105 (N0 o169 (N0 (tu0 []) nl0 nl0) nl0) (N0 o233 (N0 (tu0 []) nl0 nl0) nl0))) (N0 o57 (N0 (pr0 "reduced" "reduced" (top 9)) (N0 (tu0 [(.str "numbers" 372),(.str "place" 373),(.str "number" 374)]) (N0 o281 nl0 nl0) (N0 (pr0 "_law_right" "_law_right" (top 66)) nl0 nl0)) (N0 em0 (N0 o345 nl0 nl0) nl0)) (N0 o121 (N0 (tu0 []) (N0 (tu0 []) nl0 nl0) nl0) (N0 o249 (N0 em0 nl0 nl0) nl0))))) (N0 o13a (N0 o21 (N0 o37 (N0 o69 (N0 (tu0 []) (N0 em0 nl0 nl0) (N0 o389 nl0 nl0)) (N0 o197 (N0 o325 nl0 nl0) nl0)) (N0 (tu0 [(.str "one" 300),(.str "other" 301)]) (N0 (o165 P) (N0 o293 nl0 nl0) nl0) (N0 em0 (N0 em0 nl0 nl0) nl0))) (N0 o53 (N0 (tu0 []) (N0 o149 (N0 (tu0 []) nl0 nl0) (N0 o405 nl0 nl0)) (N0 (pr0 "first_line" "first_line" (top 27)) (N0 (tu0 []) nl0 nl0) nl0)) (N0 o117 (N0 em0 (N0 (tu0 []) nl0 nl0) nl0) (N0 (tu0 []) (N0 (pr0 "_law_dulling" "_law_dulling" (top 60)) nl0 nl0) nl0)))) (N0 o29 (N0 o45 (N0 o77 (N0 (pr0 "check_alike_stands" "check_alike_stands" (top 19)) (N0 o269 nl0 nl0) (N0 (tu0 []) nl0 nl0)) (N0 (o205 P) (N0 o333 nl0 nl0) nl0)) (N0 (tu0 []) (N0 o173 (N0 (tu0 []) nl0 nl0) nl0) (N0 (pr0 "equations" "equations" (top 33)) (N0 o365 nl0 nl0) nl0))) (N0 o61 (N0 em0 (N0 o157 (N0 o285 nl0 nl0) (N0 em0 nl0 nl0)) (N0 (tu0 []) (N0 o349 nl0 nl0) nl0)) (N0 (tu0 [(.str "glass" 330)]) (N0 (pr0 "tightest" "Board.tightest" (qbz (top 26) 3)) (N0 (pr0 "_law_mixed" "_law_mixed" (top 50)) nl0 nl0) nl0) (N0 o253 (N0 o381 nl0 nl0) nl0))))))) (N0 (boot_o_2 P) (N0 (boot_o_4 P) (N0 (boot_o_8 P) (N0 o16 (N0 em0 (N0 (tu0 []) (N0 o128 (N0 em0 nl0 nl0) (N0 em0 nl0 nl0)) (N0 (tu0 []) (N0 (tu0 []) nl0 nl0) nl0)) (N0 (pr0 "is_share" "is_share" (top 10)) (N0 (pr0 "lowest" "lowest" (top 25)) (N0 em0 nl0 nl0) (N0 o416 nl0 nl0)) (N0 (tu0 []) (N0 em0 nl0 nl0) nl0))) (N0 (o48 P) (N0 (tu0 [(.str "top" 276),(.str "bottom" 277)]) (N0 (tu0 []) (N0 (tu0 [(.str "shelf" 536),(.str "glass" 537)]) nl0 nl0) (N0 o400 nl0 nl0)) (N0 o208 (N0 (tu0 [(.str "_law_top" 618),(.str "_law_bottom" 619),(.str "_law_both" 620)]) nl0 nl0) nl0)) (N0 o112 (N0 em0 (N0 o304 nl0 nl0) nl0) (N0 (tu0 []) (N0 (pr0 "_law_turned" "_law_turned" (top 59)) nl0 nl0) nl0)))) (N0 o24 (N0 (tu0 [(.ref 24)]) (N0 em0 (N0 o136 (N0 o264 nl0 nl0) (N0 (tu0 [(.str "_law_leads" 690),(.str "_law_number" 691),(.str "_law_other" 692)]) nl0 nl0)) (N0 em0 (N0 em0 nl0 nl0) nl0)) (N0 o104 (N0 o168 (N0 (tu0 [(.str "one" 565),(.str "other" 566),(.str "answers" 567)]) nl0 nl0) nl0) (N0 (pr0 "check_few_signs" "check_few_signs" (top 32)) (N0 o360 nl0 nl0) nl0))) (N0 em0 (N0 (tu0 []) (N0 em0 (N0 o280 nl0 nl0) (N0 em0 nl0 nl0)) (N0 (tu0 []) (N0 o344 nl0 nl0) nl0)) (N0 (pr0 "over_bottom" "over_bottom" (top 15)) (N0 o184 (N0 o312 nl0 nl0) nl0) (N0 o248 (N0 (tu0 []) nl0 nl0) nl0))))) (N0 o12 (N0 o20 (N0 (o36 P) (N0 (pr0 "is_whole" "is_whole" (top 6)) (N0 (tu0 [(.str "glass" 337)]) (N0 (tu0 []) nl0 nl0) (N0 o388 nl0 nl0)) (N0 (pr0 "is_tighter" "Board.is_tighter" (qbz (top 26) 4)) (N0 (pr0 "_law_next" "_law_next" (top 51)) nl0 nl0) nl0)) (N0 em0 (N0 o164 (N0 o292 nl0 nl0) nl0) (N0 (tu0 []) (N0 (tu0 []) nl0 nl0) nl0))) (N0 (tu0 [(.ref 24)]) (N0 o84 (N0 (pr0 "solved" "solved" (top 23)) (N0 o276 nl0 nl0) (N0 (pr0 "_law_rows_right" "_law_rows_right" (top 65)) nl0 nl0)) (N0 em0 (N0 o340 nl0 nl0) nl0)) (N0 o116 (N0 (tu0 []) (N0 (tu0 [(.str "_law_script" 582),(.str "_law_head" 583)]) nl0 nl0) nl0) (N0 o244 (N0 em0 nl0 nl0) nl0)))) (N0 (tu0 [(.ref 24)]) (N0 em0 (N0 o76 (N0 (tu0 []) (N0 o268 nl0 nl0) (N0 o396 nl0 nl0)) (N0 (tu0 [(.str "bottom" 443),(.str "lines" 444),(.str "stands_for" 445),(.str "unknowns" 446)]) (N0 o332 nl0 nl0) nl0)) (N0 (tu0 [(.str "one" 308),(.str "other" 309)]) (N0 (pr0 "__init__" "Board.__init__" (qbz (top 26) 0)) (N0 o300 nl0 nl0) nl0) (N0 em0 (N0 o364 nl0 nl0) nl0))) (N0 (o60 P) (N0 (tu0 []) (N0 o156 (N0 (pr0 "is_outdone" "is_outdone" (top 44)) nl0 nl0) (N0 (tu0 []) nl0 nl0)) (N0 o220 (N0 (pr0 "_law_row" "_law_row" (top 55)) nl0 nl0) nl0)) (N0 em0 (N0 (tu0 []) (N0 (tu0 []) nl0 nl0) nl0) (N0 (pr0 "wanted_sums" "wanted_sums" (top 36)) (N0 (pr0 "_law_shelf" "_law_shelf" (top 61)) nl0 nl0) nl0)))))) (N0 (boot_o_6 P) (N0 (boot_o_10 P) (N0 (tu0 []) (N0 o34 (N0 (tu0 [(.str "thing" 260)]) (N0 (tu0 []) (N0 o258 nl0 nl0) (N0 (tu0 []) nl0 nl0)) (N0 (tu0 [(.str "self" 428),(.str "k" 429),(.str "chosen" 430),(.str "place" 431),(.str "one" 432),(.str "other" 433)]) (N0 (tu0 [(.str "_law_pen_here" 599),(.str "_law_many" 600),(.str "_law_found" 601)]) nl0 nl0) nl0)) (N0 o98 (N0 o162 (N0 (tu0 []) nl0 nl0) nl0) (N0 o226 (N0 o354 nl0 nl0) nl0))) (N0 o50 (N0 (pr0 "share" "share" (top 8)) (N0 (tu0 [(.str "rows" 360),(.str "sums" 361),(.str "unknowns" 362),(.str "board" 363),(.str "lack" 364),(.str "place" 365)]) (N0 (pr0 "check_shelf" "check_shelf" (top 42)) nl0 nl0) (N0 (tu0 []) nl0 nl0)) (N0 o210 (N0 (pr0 "_law_share" "_law_share" (top 53)) nl0 nl0) nl0)) (N0 em0 (N0 o178 (N0 (tu0 []) nl0 nl0) nl0) (N0 (pr0 "seen_as" "seen_as" (top 34)) (N0 o370 nl0 nl0) nl0)))) (N0 o26 (N0 (o42 P) (N0 (tu0 []) (N0 em0 (N0 em0 nl0 nl0) (N0 (pr0 "_law_high" "_law_high" (top 63)) nl0 nl0)) (N0 o202 (N0 (tu0 []) nl0 nl0) nl0)) (N0 (tu0 []) (N0 (tu0 []) (N0 (pr0 "dulls_so" "dulls_so" (top 46)) nl0 nl0) nl0) (N0 o234 (N0 em0 nl0 nl0) nl0))) (N0 o58 (N0 o90 (N0 (tu0 []) (N0 (tu0 []) nl0 nl0) (N0 o410 nl0 nl0)) (N0 (pr0 "cleared" "cleared" (top 28)) (N0 (tu0 []) nl0 nl0) nl0)) (N0 o122 (N0 em0 (N0 em0 nl0 nl0) nl0) (N0 (tu0 []) (N0 (tu0 [(.str "_law_pen_here" 669),(.str "_law_many" 670),(.str "_law_most" 671),(.str "_law_size" 672),(.str "_law_found" 673),(.str "_law_k" 674),(.str "_law_way" 675),(.str "_law_old" 676)]) nl0 nl0) nl0))))) (N0 o14a (N0 (tu0 []) (N0 o38 (N0 o70 (N0 (pr0 "signs" "signs" (top 17)) (N0 (pr0 "in_rows" "in_rows" (top 38)) nl0 nl0) (N0 (tu0 []) nl0 nl0)) (N0 o198 (N0 o326 nl0 nl0) nl0)) (N0 (tu0 []) (N0 (tu0 []) (N0 (tu0 []) nl0 nl0) nl0) (N0 (tu0 [(.str "glass" 483)]) (N0 (pr0 "_law_table" "_law_table" (top 57)) nl0 nl0) nl0))) (N0 (o54 P) (N0 em0 (N0 o150 (N0 em0 nl0 nl0) (N0 o406 nl0 nl0)) (N0 o214 (N0 em0 nl0 nl0) nl0)) (N0 (tu0 []) (N0 (pr0 "bring_in" "Board.bring_in" (qbz (top 26) 2)) (N0 (pr0 "_law_pen" "_law_pen" (top 49)) nl0 nl0) nl0) (N0 em0 (N0 o374 nl0 nl0) nl0)))) (N0 (o30 P) (N0 o46 (N0 (tu0 []) (N0 o142 (N0 (tu0 []) nl0 nl0) (N0 em0 nl0 nl0)) (N0 o206 (N0 (tu0 []) nl0 nl0) nl0)) (N0 (pr0 "times" "times" (top 12)) (N0 o174 (N0 em0 nl0 nl0) nl0) (N0 o238 (N0 (tu0 []) nl0 nl0) nl0))) (N0 o62 (N0 (tu0 [(.str "thing" 293)]) (N0 (tu0 []) (N0 o286 nl0 nl0) (N0 (pr0 "law" "law" (top 67)) nl0 nl0)) (N0 em0 (N0 o350 nl0 nl0) nl0)) (N0 (tu0 []) (N0 o190 (N0 o318 nl0 nl0) nl0) (N0 o254 (N0 o382 nl0 nl0) nl0))))))))
lay_quick My.cE0 My.env0 My.ls0
theorem zalf (w:World):(fun os=>topGo treeTable PySem.Challenge.pw_dullglass_k48_tops_of_a_shelf w 11 (some (.ref 6)) 12 (Shared.mk (boot_heap w.params) (Array.mk []) boot_drawn boot_toks os) (topStub PySem.Challenge.pw_dullglass_k48_tops_of_a_shelf))=fun os=>some ((SharedT.mk (tA0 w.params) 15 lf0 (Array.mk []) boot_drawn 187 os).abs,Thread.mk (denote treeTable cE0) cE0 ⟨0,0,0,0⟩ [topFrame ⟨0,0,0,0⟩]):=by
 rewrite [PySem.W.Fast.te15667345088766844465,PySem.W.Fast.te14364793385576792824,PySem.W.Fast.te17397600839745712043,PySem.W.Fast.te11892475500146522536,PySem.W.Fast.te2665708160071446767]
 kernel_rfl
theorem zagr (w:World):(fun os=>segRun treeTable PySem.Challenge.pw_dullglass_k48_tops_of_a_shelf w 11 (some (.ref 6)) 1 1 (SharedT.mk (tA0 w.params) 15 lf0 (Array.mk []) boot_drawn 187 os).abs (blockOf (behindTheImports PySem.Challenge.pw_dullglass_k48_tops_of_a_shelf) env0 cE0 ⟨0,0,0,0⟩ [topFrame ⟨0,0,0,0⟩]))=fun os=>some (.next,(SharedT.mk (tA0 w.params) 15 lf0 (Array.mk []) boot_drawn 187 os).abs,cE0,⟨0,0,0,0⟩):=by
 rewrite [PySem.W.Fast.te14374325043358763698,PySem.W.Fast.te14364793385576792824,PySem.W.Fast.te17397600839745712043,PySem.W.Fast.te2665708160071446767,PySem.W.Fast.te13849342267361746138]
 kernel_rfl
theorem zakg (w:World):(fun os=>segRunT treeTable PySem.Challenge.pw_dullglass_k48_tops_of_a_shelf w 11 (some (.ref 6)) 1 2752 (SharedT.mk (tA0 w.params) 15 lf0 (Array.mk []) boot_drawn 187 os) (piecesOf (behindTheImports PySem.Challenge.pw_dullglass_k48_tops_of_a_shelf) env0 cE0 ⟨0,0,0,0⟩ [topFrame ⟨0,0,0,0⟩]))=fun os=>some (.next,(SharedT.mk (tE0 w.params) 417 lf0 (Array.mk []) boot_drawn 720 os),cE0,⟨332,0,344,69⟩):=by
 rewrite [PySem.W.Fast.te10110043849684766642,PySem.W.Fast.te14364793385576792824,PySem.W.Fast.te17397600839745712043,PySem.W.Fast.te2665708160071446767,PySem.W.Fast.te13849342267361746138]
 kernel_rfl
theorem zama (w:World):(fun os=>topRun treeTable PySem.Challenge.pw_dullglass_k48_tops_of_a_shelf w 11 (some (.ref 6)) 2 (SharedT.mk (tE0 w.params) 417 lf0 (Array.mk []) boot_drawn 720 os).abs ⟨doneF .next,cE0,⟨332,0,344,69⟩,[topFrame ⟨0,0,0,0⟩]⟩)=fun os=>some (SharedT.mk (tE0 w.params) 417 lf0 (Array.mk []) boot_drawn 720 os).abs:=by
 rewrite [PySem.W.Fast.te14082659384304107361,PySem.W.Fast.te14364793385576792824,PySem.W.Fast.te17397600839745712043,PySem.W.Fast.te2665708160071446767]
 kernel_rfl
theorem zamf (w:World) (os:OsState):topRun treeTable PySem.Challenge.pw_dullglass_k48_tops_of_a_shelf w 11 (some (.ref 6)) (12+(1+(2752+2))) (Shared.mk (boot_heap w.params) (Array.mk []) boot_drawn boot_toks os) (topStub PySem.Challenge.pw_dullglass_k48_tops_of_a_shelf)=some (SharedT.mk (tE0 w.params) 417 lf0 (Array.mk []) boot_drawn 720 os).abs :=
 go_top (congrFun (zalf w) os) (piece_block (congrFun (zagr w) os) (by
  have q:=piece_app (rest:=[]) (segRun_of (congrFun (zakg w) os)) (piece_nil (congrFun (zama w) os))
  rwa [List.append_nil] at q))
theorem zaiq:opening PySem.Challenge.pw_dullglass_k48_tops_of_a_shelf=plainProg PySem.Challenge.pw_dullglass_k48_tops_of_a_shelf.main.scope.names:=by kernel_rfl
theorem zagb (s:Shared):fenceModules? PySem.Challenge.pw_dullglass_k48_tops_of_a_shelf s=some s:=by kernel_rfl
theorem zajw (w:World):((boot_heap w.params).isNs mainGlobals&&(Array.mk []:Array GenState).size==0,(boot_heap w.params).objs.size,(boot_heap w.params).nsMap mainGlobals "__annotations__")=(true,11,(some (.ref 6))):=by kernel_rfl
theorem zako (w:World):(fun os=>(staticsOk (importedModules PySem.Challenge.pw_dullglass_k48_tops_of_a_shelf.main.body) (boot_heap w.params) (absHeap (tE0 w.params) 417 lf0)&&namesBound PySem.Challenge.pw_dullglass_k48_tops_of_a_shelf (absHeap (tE0 w.params) 417 lf0)&&gensDone (Shared.mk (absHeap (tE0 w.params) 417 lf0) (Array.mk []) boot_drawn 720 os)&&laidKept (boot_heap w.params) (absHeap (tE0 w.params) 417 lf0)))=fun _=>true:=by
 rewrite [PySem.W.Fast.te5923862056798008813,PySem.W.Fast.te17397600839745712043]
 kernel_rfl
theorem zame (w:World):(fun os=>openSeen (view PySem.Challenge.pw_dullglass_k48_tops_of_a_shelf [67]) ls0 (importedModules PySem.Challenge.pw_dullglass_k48_tops_of_a_shelf.main.body) (fun _=>true) true (Shared.mk (absHeap (tE0 w.params) 417 lf0) (Array.mk []) boot_drawn 720 os))=fun _=>openGood (view PySem.Challenge.pw_dullglass_k48_tops_of_a_shelf [67]) ls0:=by
 rewrite [PySem.W.Fast.te4187177175401517315,PySem.W.Fast.te5923862056798008813,PySem.W.Fast.te17397600839745712043,PySem.W.Fast.te4294247251607483543]
 kernel_rfl
def K0 (P:Params):Frag:=(nat_lit 2,(boot_o_2 P))::(nat_lit 3,(o3 P))::(nat_lit 23,(o23 P))::(nat_lit 24,o24)::(nat_lit 25,o25)::(nat_lit 36,(o36 P))::(nat_lit 37,o37)::(nat_lit 48,(o48 P))::(nat_lit 49,o49)::(nat_lit 60,(o60 P))::(nat_lit 61,o61)::(nat_lit 69,o69)::(nat_lit 70,o70)::(nat_lit 76,o76)::(nat_lit 77,o77)::(nat_lit 83,o83)::(nat_lit 84,o84)::(nat_lit 90,o90)::(nat_lit 91,o91)::(nat_lit 97,o97)::(nat_lit 98,o98)::(nat_lit 104,o104)::(nat_lit 105,o105)::(nat_lit 111,o111)::(nat_lit 112,o112)::(nat_lit 116,o116)::(nat_lit 117,o117)::(nat_lit 121,o121)::(nat_lit 122,o122)::(nat_lit 128,o128)::(nat_lit 129,o129)::(nat_lit 135,o135)::(nat_lit 136,o136)::(nat_lit 142,o142)::(nat_lit 143,o143)::(nat_lit 149,o149)::(nat_lit 150,o150)::(nat_lit 156,o156)::(nat_lit 157,o157)::(nat_lit 161,o161)::(nat_lit 162,o162)::(nat_lit 173,o173)::(nat_lit 174,o174)::(nat_lit 178,o178)::(nat_lit 179,o179)::(nat_lit 183,o183)::(nat_lit 184,o184)::(nat_lit 190,o190)::(nat_lit 191,o191)::(nat_lit 197,o197)::(nat_lit 198,o198)::(nat_lit 202,o202)::(nat_lit 203,o203)::(nat_lit 205,(o205 P))::(nat_lit 206,o206)::(nat_lit 207,o207)::(nat_lit 208,o208)::(nat_lit 214,o214)::(nat_lit 215,o215)::(nat_lit 219,o219)::(nat_lit 220,o220)::(nat_lit 226,o226)::(nat_lit 227,o227)::(nat_lit 233,o233)::(nat_lit 234,o234)::(nat_lit 238,o238)::(nat_lit 239,o239)::(nat_lit 243,o243)::(nat_lit 244,o244)::(nat_lit 248,o248)::(nat_lit 249,o249)::(nat_lit 253,o253)::(nat_lit 254,o254)::(nat_lit 258,o258)::(nat_lit 259,o259)::(nat_lit 263,o263)::(nat_lit 264,o264)::(nat_lit 268,o268)::(nat_lit 269,o269)::(nat_lit 275,o275)::(nat_lit 276,o276)::(nat_lit 280,o280)::(nat_lit 281,o281)::(nat_lit 285,o285)::(nat_lit 286,o286)::(nat_lit 292,o292)::(nat_lit 293,o293)::(nat_lit 299,o299)::(nat_lit 300,o300)::(nat_lit 304,o304)::(nat_lit 305,o305)::(nat_lit 311,o311)::(nat_lit 312,o312)::(nat_lit 318,o318)::(nat_lit 319,o319)::(nat_lit 325,o325)::(nat_lit 326,o326)::(nat_lit 332,o332)::(nat_lit 333,o333)::(nat_lit 344,o344)::(nat_lit 345,o345)::(nat_lit 349,o349)::(nat_lit 350,o350)::(nat_lit 354,o354)::(nat_lit 355,o355)::(nat_lit 359,o359)::(nat_lit 360,o360)::(nat_lit 364,o364)::(nat_lit 365,o365)::(nat_lit 369,o369)::(nat_lit 370,o370)::(nat_lit 374,o374)::(nat_lit 375,o375)::(nat_lit 381,o381)::(nat_lit 382,o382)::(nat_lit 388,o388)::(nat_lit 389,o389)::(nat_lit 395,o395)::(nat_lit 396,o396)::(nat_lit 400,o400)::(nat_lit 401,o401)::(nat_lit 405,o405)::(nat_lit 406,o406)::(nat_lit 410,o410)::(nat_lit 411,o411)::(nat_lit 415,o415)::(nat_lit 416,o416)::[]
def as0:List Addr:=[2,3,23,24,25,36,37,48,49,60,61,69,70,76,77,83,84,90,91,97,98,104,105,111,112,116,117,121,122,128,129,135,136,142,143,149,150,156,157,161,162,173,174,178,179,183,184,190,191,197,198,202,203,205,206,207,208,214,215,219,220,226,227,233,234,238,239,243,244,248,249,253,254,258,259,263,264,268,269,275,276,280,281,285,286,292,293,299,300,304,305,311,312,318,319,325,326,332,333,344,345,349,350,354,355,359,360,364,365,369,370,374,375,381,382,388,389,395,396,400,401,405,406,410,411,415,416]
theorem zagq (w:World):(fun (os:OsState)=>as0.map (absHeap (tE0 w.params) 417 lf0).get?)=fun _=>(K0 w.params).map fun p=>some p.2:=by kernel_rfl
theorem left0:LeftO PySem.Challenge.pw_dullglass_k48_tops_of_a_shelf (view PySem.Challenge.pw_dullglass_k48_tops_of_a_shelf [67]) ls0 (fun _=>true) (fun s=>as0.map s.heap.get?) (fun w=>(K0 w.params).map fun p=>some p.2) 100000 :=
 LeftO.of_pieces (H₀:=boot_heap) (H₁:=fun P=>absHeap (tE0 P) 417 lf0) (gs₁:=Array.mk []) (d₁:=boot_drawn) (k₁:=720) (boot_open zaiq rfl zagb) zajw zamf rfl fun w=>by
  funext os
  exact congr (congrArg Prod.mk (congrFun (zako w) os)) (congr (congrArg Prod.mk (congrFun (zame w) os)) (congrFun (zagq w) os))
end
end My
open PySem PySem.W PyProof.Rows
set_option maxRecDepth 100000 in
set_option maxHeartbeats 0 in
theorem PySem.Challenge.cw_dullglass_k48_tops_of_a_shelf_holds : PySem.Challenge.rw_dullglass_k48_tops_of_a_shelf.Holds := by
 w_on;o_law
 refine holds_open (q:=view PySem.Challenge.pw_dullglass_k48_tops_of_a_shelf [67]) (XP:=fun _ _=>True) (YP:=InK My.K0) My.left0 (InK.of fun _=>by kernel_rfl) InK.keeps (fun _ _=>True.intro) (fun _ _ _ _ _=>True.intro) (by rfl) (by rfl) (by rfl) (fun s _=>recFacts_nil rfl) (by rfl) (by assumption) (by decide +kernel) ⟨rfl,rfl,rfl,rfl,rfl,by decide +kernel⟩ ?hw ?hc
 case hw=>w_witness2
 k_fill
 refine My.walk (l:=PySem.Challenge.rw_dullglass_k48_tops_of_a_shelf) rfl rfl (fun w h Y=>Y) ?F
 case F =>
  intro w mg fa h KX G hmg
  refine' My.all_mk KX G hmg ?a0 ?l0 ?a1 ?l1 ?a2 ?l2 ?a3 ?l3 ?a4 ?l4 ?a5 ?l5 ?a6 ?l6 ?b_Board ?a7 ?l7 ?n7 ?a8 ?l8 ?n8 ?a9 ?l9 ?n9 ?a10 ?l10 ?n10 ?a11 ?l11 ?a12 ?l12 ?n12 ?a13 ?l13 ?a14 ?l14 ?a15 ?l15 ?a16 ?l16 ?n16 ?a17 ?l17 ?a18 ?l18 ?a19 ?l19 ?a20 ?l20 ?a21 ?l21 ?a22 ?l22 ?a23 ?l23 ?a24 ?l24 ?a25 ?l25 ?a26 ?l26 ?a27 ?l27 ?a28 ?l28 ?a29 ?l29 ?a30 ?l30 ?a31 ?l31 ?a32 ?l32 ?a33 ?l33 ?a34 ?l34 ?a35 ?l35 ?a36 ?l36 ?a37 ?l37 ?a38 ?l38 ?a39 ?l39 ?a40 ?l40 ?a41 ?l41 ?a42 ?l42 ?a43 ?l43 ?a44 ?l44 ?a45 ?l45 ?a46 ?l46 ?a47 ?l47 ?a48 ?l48 ?a49 ?l49 ?a50 ?l50 ?a51 ?l51 ?a52 ?l52 ?a53 ?l53 ?a54 ?l54 ?a55 ?l55 ?c55 ?k55 ?z_abs ?z_any ?z_bool ?z_enumerate ?z_int ?z_isinstance ?z_len ?z_list ?z_range ?z_sorted ?z_sum ?z_tuple ?z_zip ?y_MOST_COMPARED ?y_MOST_GLASSES ?y_MOST_ROWS ?y_MOST_UNKNOWNS ?f_Board_c_pg ?f_Board_c_hd ?f_Board_c_po ?f_Board_c_sa ?f_Board_mk ?f_Board_kp ?f_Board_n_bottom ?f_Board_n_lines ?f_Board_n_stands_for ?f_Board_n_unknowns
  (case a0=>k_is)
  (case l0=>refine' My.LK.mk ?l ?c ?k; (case l=>k_is); (case c=>k_is); (case k=>k_is))
  (case a1=>k_is)
  (case l1=>refine' My.LK.mk ?l ?c ?k; (case l=>k_is); (case c=>k_is); (case k=>k_is))
  (case a2=>k_is)
  (case l2=>refine' My.LK.mk ?l ?c ?k; (case l=>k_is); (case c=>k_is); (case k=>k_is))
  (case a3=>k_is)
  (case l3=>refine' My.LK.mk ?l ?c ?k; (case l=>k_is); (case c=>k_is); (case k=>k_is))
  (case a4=>k_is)
  (case l4=>refine' My.LK.mk ?l ?c ?k; (case l=>k_is); (case c=>k_is); (case k=>k_is))
  (case a5=>k_is)
  (case l5=>refine' My.LK.mk ?l ?c ?k; (case l=>k_is); (case c=>k_is); (case k=>k_is))
  (case a6=>k_is)
  (case l6=>refine' My.LK.mk ?l ?c ?k; (case l=>k_is); (case c=>k_is); (case k=>k_is))
  (case b_Board=>k_is)
  (case a7=>k_is)
  (case l7=>refine' My.LK.mk ?l ?c ?k; (case l=>k_is); (case c=>k_is); (case k=>k_is))
  (case n7=>k_is)
  (case a8=>k_is)
  (case l8=>refine' My.LK.mk ?l ?c ?k; (case l=>k_is); (case c=>k_is); (case k=>k_is))
  (case n8=>k_is)
  (case a9=>k_is)
  (case l9=>refine' My.LK.mk ?l ?c ?k; (case l=>k_is); (case c=>k_is); (case k=>k_is))
  (case n9=>k_is)
  (case a10=>k_is)
  (case l10=>refine' My.LK.mk ?l ?c ?k; (case l=>k_is); (case c=>k_is); (case k=>k_is))
  (case n10=>k_is)
  (case a11=>k_is)
  (case l11=>refine' My.LK.mk ?l ?c ?k; (case l=>k_is); (case c=>k_is); (case k=>k_is))
  (case a12=>k_is)
  (case l12=>refine' My.LK.mk ?l ?c ?k; (case l=>k_is); (case c=>k_is); (case k=>k_is))
  (case n12=>k_is)
  (case a13=>k_is)
  (case l13=>refine' My.LK.mk ?l ?c ?k; (case l=>k_is); (case c=>k_is); (case k=>k_is))
  (case a14=>k_is)
  (case l14=>refine' My.LK.mk ?l ?c ?k; (case l=>k_is); (case c=>k_is); (case k=>k_is))
  (case a15=>k_is)
  (case l15=>refine' My.LK.mk ?l ?c ?k; (case l=>k_is); (case c=>k_is); (case k=>k_is))
  (case a16=>k_is)
  (case l16=>refine' My.LK.mk ?l ?c ?k; (case l=>k_is); (case c=>k_is); (case k=>k_is))
  (case n16=>k_is)
  (case a17=>k_is)
  (case l17=>refine' My.LK.mk ?l ?c ?k; (case l=>k_is); (case c=>k_is); (case k=>k_is))
  (case a18=>k_is)
  (case l18=>refine' My.LK.mk ?l ?c ?k; (case l=>k_is); (case c=>k_is); (case k=>k_is))
  (case a19=>k_is)
  (case l19=>refine' My.LK.mk ?l ?c ?k; (case l=>k_is); (case c=>k_is); (case k=>k_is))
  (case a20=>k_is)
  (case l20=>refine' My.LK.mk ?l ?c ?k; (case l=>k_is); (case c=>k_is); (case k=>k_is))
  (case a21=>k_is)
  (case l21=>refine' My.LK.mk ?l ?c ?k; (case l=>k_is); (case c=>k_is); (case k=>k_is))
  (case a22=>k_is)
  (case l22=>refine' My.LK.mk ?l ?c ?k; (case l=>k_is); (case c=>k_is); (case k=>k_is))
  (case a23=>k_is)
  (case l23=>refine' My.LK.mk ?l ?c ?k; (case l=>k_is); (case c=>k_is); (case k=>k_is))
  (case a24=>k_is)
  (case l24=>refine' My.LK.mk ?l ?c ?k; (case l=>k_is); (case c=>k_is); (case k=>k_is))
  (case a25=>k_is)
  (case l25=>refine' My.LK.mk ?l ?c ?k; (case l=>k_is); (case c=>k_is); (case k=>k_is))
  (case a26=>k_is)
  (case l26=>refine' My.LK.mk ?l ?c ?k; (case l=>k_is); (case c=>k_is); (case k=>k_is))
  (case a27=>k_is)
  (case l27=>refine' My.LK.mk ?l ?c ?k; (case l=>k_is); (case c=>k_is); (case k=>k_is))
  (case a28=>k_is)
  (case l28=>refine' My.LK.mk ?l ?c ?k; (case l=>k_is); (case c=>k_is); (case k=>k_is))
  (case a29=>k_is)
  (case l29=>refine' My.LK.mk ?l ?c ?k; (case l=>k_is); (case c=>k_is); (case k=>k_is))
  (case a30=>k_is)
  (case l30=>refine' My.LK.mk ?l ?c ?k; (case l=>k_is); (case c=>k_is); (case k=>k_is))
  (case a31=>k_is)
  (case l31=>refine' My.LK.mk ?l ?c ?k; (case l=>k_is); (case c=>k_is); (case k=>k_is))
  (case a32=>k_is)
  (case l32=>refine' My.LK.mk ?l ?c ?k; (case l=>k_is); (case c=>k_is); (case k=>k_is))
  (case a33=>k_is)
  (case l33=>refine' My.LK.mk ?l ?c ?k; (case l=>k_is); (case c=>k_is); (case k=>k_is))
  (case a34=>k_is)
  (case l34=>refine' My.LK.mk ?l ?c ?k; (case l=>k_is); (case c=>k_is); (case k=>k_is))
  (case a35=>k_is)
  (case l35=>refine' My.LK.mk ?l ?c ?k; (case l=>k_is); (case c=>k_is); (case k=>k_is))
  (case a36=>k_is)
  (case l36=>refine' My.LK.mk ?l ?c ?k; (case l=>k_is); (case c=>k_is); (case k=>k_is))
  (case a37=>k_is)
  (case l37=>refine' My.LK.mk ?l ?c ?k; (case l=>k_is); (case c=>k_is); (case k=>k_is))
  (case a38=>k_is)
  (case l38=>refine' My.LK.mk ?l ?c ?k; (case l=>k_is); (case c=>k_is); (case k=>k_is))
  (case a39=>k_is)
  (case l39=>refine' My.LK.mk ?l ?c ?k; (case l=>k_is); (case c=>k_is); (case k=>k_is))
  (case a40=>k_is)
  (case l40=>refine' My.LK.mk ?l ?c ?k; (case l=>k_is); (case c=>k_is); (case k=>k_is))
  (case a41=>k_is)
  (case l41=>refine' My.LK.mk ?l ?c ?k; (case l=>k_is); (case c=>k_is); (case k=>k_is))
  (case a42=>k_is)
  (case l42=>refine' My.LK.mk ?l ?c ?k; (case l=>k_is); (case c=>k_is); (case k=>k_is))
  (case a43=>k_is)
  (case l43=>refine' My.LK.mk ?l ?c ?k; (case l=>k_is); (case c=>k_is); (case k=>k_is))
  (case a44=>k_is)
  (case l44=>refine' My.LK.mk ?l ?c ?k; (case l=>k_is); (case c=>k_is); (case k=>k_is))
  (case a45=>k_is)
  (case l45=>refine' My.LK.mk ?l ?c ?k; (case l=>k_is); (case c=>k_is); (case k=>k_is))
  (case a46=>k_is)
  (case l46=>refine' My.LK.mk ?l ?c ?k; (case l=>k_is); (case c=>k_is); (case k=>k_is))
  (case a47=>k_is)
  (case l47=>refine' My.LK.mk ?l ?c ?k; (case l=>k_is); (case c=>k_is); (case k=>k_is))
  (case a48=>k_is)
  (case l48=>refine' My.LK.mk ?l ?c ?k; (case l=>k_is); (case c=>k_is); (case k=>k_is))
  (case a49=>k_is)
  (case l49=>refine' My.LK.mk ?l ?c ?k; (case l=>k_is); (case c=>k_is); (case k=>k_is))
  (case a50=>k_is)
  (case l50=>refine' My.LK.mk ?l ?c ?k; (case l=>k_is); (case c=>k_is); (case k=>k_is))
  (case a51=>k_is)
  (case l51=>refine' My.LK.mk ?l ?c ?k; (case l=>k_is); (case c=>k_is); (case k=>k_is))
  (case a52=>k_is)
  (case l52=>refine' My.LK.mk ?l ?c ?k; (case l=>k_is); (case c=>k_is); (case k=>k_is))
  (case a53=>k_is)
  (case l53=>refine' My.LK.mk ?l ?c ?k; (case l=>k_is); (case c=>k_is); (case k=>k_is))
  (case a54=>k_is)
  (case l54=>refine' My.LK.mk ?l ?c ?k; (case l=>k_is); (case c=>k_is); (case k=>k_is))
  (case a55=>k_is)
  (case l55=>k_is)
  (case c55=>k_is)
  (case k55=>k_is)
  (case z_abs=>k_is)
  (case z_any=>k_is)
  (case z_bool=>k_is)
  (case z_enumerate=>k_is)
  (case z_int=>k_is)
  (case z_isinstance=>k_is)
  (case z_len=>k_is)
  (case z_list=>k_is)
  (case z_range=>k_is)
  (case z_sorted=>k_is)
  (case z_sum=>k_is)
  (case z_tuple=>k_is)
  (case z_zip=>k_is)
  (case y_MOST_COMPARED=>k_is)
  (case y_MOST_GLASSES=>k_is)
  (case y_MOST_ROWS=>k_is)
  (case y_MOST_UNKNOWNS=>k_is)
  (case f_Board_c_pg=>first|k_exc|k_is|rfl)
  (case f_Board_c_hd=>first|k_exc|k_is|rfl)
  (case f_Board_c_po=>first|k_exc|k_is|rfl)
  (case f_Board_c_sa=>first|k_exc|k_is|rfl)
  (case f_Board_mk=>first|k_exc|k_is|rfl)
  (case f_Board_kp=>first|k_exc|k_is|rfl)
  (case f_Board_n_bottom=>first|k_exc|k_is|rfl)
  (case f_Board_n_lines=>first|k_exc|k_is|rfl)
  (case f_Board_n_stands_for=>first|k_exc|k_is|rfl)
  (case f_Board_n_unknowns=>first|k_exc|k_is|rfl)
