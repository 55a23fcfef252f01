import PyProof.Rows.All
import Wide.All
import OpenK.AllK
import Wide.FinOn
import Lean
import PyProof.EqAt
import PyProof.EqKinds
import PyProof.TupleCall
import PySem.Challenge.RW_dullglass_k52_texts_of_no_glasses
set_option Elab.async false
set_option linter.all false
set_option maxRecDepth 100000
set_option maxHeartbeats 4000000
set_option genSizeOf false
set_option genInjectivity false
namespace L2
open PySem PySem.Spec PyProof.Rows
abbrev Key:=Sum Int Str
def keyIs:Key→Value→Bool
 | .inl k,v=>Value.isInt k v
 | .inr x,v=>Value.isStrOf x v
def keyH (w:World):Key→Int
 | .inl k=>hashInt k
 | .inr x=>hashStr w x
theorem keyIs_shape : ∀ {k:Key}{v:Value},keyIs k v=true→(∃ i t,k=Sum.inl i∧v=Value.int i t)∨(∃ x t,k=Sum.inr x∧v=Value.str x t)
 | .inl i,v,h=>by
  obtain ⟨t,e⟩:=Value.isInt_shape (k:=i) (v:=v) h
  exact .inl ⟨i,t,rfl,e⟩
 | .inr x,v,h=>by
  obtain ⟨t,e⟩:=Value.isStrOf_shape (x:=x) (v:=v) h
  exact .inr ⟨x,t,rfl,e⟩
theorem key_ll (a b:Int):decide ((Sum.inl a:Key)=Sum.inl b)=(a==b):=by
 by_cases e:a=b
 ·subst e;simp
 ·have h : ¬ (Sum.inl a:Key)=Sum.inl b:=fun q=>e (Sum.inl.inj q)
  rw [decide_eq_false h]
  exact (beq_eq_false_iff_ne.mpr e).symm
theorem key_rr (a b:Str):decide ((Sum.inr a:Key)=Sum.inr b)=decide (a=b):=by
 by_cases e:a=b
 ·subst e;simp
 ·have h : ¬ (Sum.inr a:Key)=Sum.inr b:=fun q=>e (Sum.inr.inj q)
  rw [decide_eq_false h,decide_eq_false e]
theorem key_lr (a:Int) (b:Str):decide ((Sum.inl a:Key)=Sum.inr b)=false:=decide_eq_false (fun q=>nomatch q)
theorem key_rl (a:Str) (b:Int):decide ((Sum.inr a:Key)=Sum.inl b)=false:=decide_eq_false (fun q=>nomatch q)
def mixKind (prog:Program) (w:World):PySem.KeyKind prog w Key where
 is:=keyIs
 hash:=keyH w
 inj:=fun v a b ha hb=>by
  rcases keyIs_shape ha with ⟨i,t,rfl,rfl⟩|⟨x,t,rfl,rfl⟩
  ·rcases keyIs_shape hb with ⟨j,u,rfl,e⟩|⟨y,u,rfl,e⟩
   ·injection e with e1 _;rw [e1]
   ·exact nomatch e
  ·rcases keyIs_shape hb with ⟨j,u,rfl,e⟩|⟨y,u,rfl,e⟩
   ·exact nomatch e
   ·injection e with e1 _;rw [e1]
 byValue:=fun k v h=>by
  rcases keyIs_shape h with ⟨i,t,rfl,rfl⟩|⟨x,t,rfl,rfl⟩ <;> rfl
 pyHash:=fun hv h=>by
  rcases keyIs_shape hv with ⟨i,t,rfl,rfl⟩|⟨x,t,rfl,rfl⟩
  ·exact wpAny_pyHash_int h
  ·exact wpAny_pyHash_str h
 eqBool:=fun hu hv h=>by
  rcases keyIs_shape hu with ⟨i,t,rfl,rfl⟩|⟨x,t,rfl,rfl⟩
  ·rcases keyIs_shape hv with ⟨j,u,rfl,rfl⟩|⟨y,u,rfl,rfl⟩
   ·rw [key_ll] at h;exact wpAny_eqBool_int h
   ·rw [key_lr] at h;exact SeqAt.EqAt.int_str i t y u _ _ _ _ h
  ·rcases keyIs_shape hv with ⟨j,u,rfl,rfl⟩|⟨y,u,rfl,rfl⟩
   ·rw [key_rl] at h;exact SeqAt.EqAt.str_int x t j u _ _ _ _ h
   ·rw [key_rr] at h;exact wpAny_eqBool_str h
 «strs»:=fun k x t v h=>by
  rcases keyIs_shape h with ⟨i,u,rfl,e⟩|⟨y,u,rfl,e⟩
  ·exact nomatch e
  ·injection e with e1 _
   subst e1
   cases v <;> rfl
end L2
namespace L2
open PySem PySem.Spec PyProof.Rows
inductive V where
 | non|bl (b:Bool)|int (i:Int)|str (x:Str)|byt (b:Array UInt8)|flt (b:UInt64)|ref (a:Addr)|ty (n:String)
 deriving DecidableEq
def RelV:V→Value→Prop
 | .non,u=>u=Value.none
 | .bl b,u=>u=Value.bool b
 | .int i,u => ∃ t,u=Value.int i t
 | .str x,u => ∃ t,u=Value.str x t
 | .byt b,u => ∃ t,u=Value.bytes b t
 | .flt b,u => ∃ t,u=Value.float b t
 | .ref a,u=>u=Value.ref a
 | .ty n,u=>u=Value.type n
abbrev Vals:List V→List Value→Prop:=Paired RelV
theorem Vals.length {xs:List V}{us:List Value} (r:Vals xs us):xs.length=us.length:=Paired.length r
theorem Vals.get : ∀ {xs:List V}{us:List Value}{i:Nat}{x:V},Vals xs us→xs[i]?=some x → ∃ u,us[i]?=some u∧RelV x u
 | _,_,_,_,.nil,e=>by simp at e
 | _,_,0,_,.cons r _,e=>by simp at e;subst e;exact ⟨_,rfl,r⟩
 | _,_,i+1,x,.cons _ t,e=>by
  obtain ⟨u,h1,h2⟩:=Vals.get (i:=i) (x:=x) t (by simpa using e)
  exact ⟨u,by simpa using h1,h2⟩
theorem Vals.set {x:V}{u:Value} (r:RelV x u) : ∀ {xs:List V}{us:List Value} (i:Nat),Vals xs us→Vals (xs.set i x) (us.set i u)
 | _,_,_,.nil => .nil
 | _,_,0,.cons _ t => .cons r t
 | _,_,i+1,.cons q t => .cons q (Vals.set r i t)
theorem Vals.append : ∀ {xs ys:List V}{us ws:List Value},Vals xs us→Vals ys ws→Vals (xs++ys) (us++ws)
 | _,_,_,_,.nil,s=>s
 | _,_,_,_,.cons r t,s => .cons r (Vals.append t s)
def RelO:Option V→Option Value→Prop
 | some v,some u=>RelV v u
 | none,none=>True
 | _,_=>False
def KV {κ:Type}:List (κ×V)→List (κ×Value)→Prop:=Paired fun (p:κ×V) (q:κ×Value)=>p.1=q.1∧RelV p.2 q.2
def kV:Key→V
 | .inl i => .int i
 | .inr x => .str x
inductive HO where
 | lst (xs:List V)
 | tup (xs:List V)
 | dK (kvs:List (Key×V))|dT (kvs:List (List Key×V))
 | set (S:Int→Bool) (n:Nat)
 | ins (C dx:Addr) (fs:List (Str×V))
 | own (x:Addr)
 | xd (fs:List (Str×V))
 | met (f x:Addr)
 | rng (lo hi:Int)
 | frz (o:Obj) (u:HO)
 | tbl (ps:Array Value)
 | ext (φ:Heap→Prop)
abbrev Hp:=Addr→Option HO
def upd (H:Hp) (a:Addr) (o:HO):Hp:=fun b=>if b=a then some o else H b
theorem upd_same {H:Hp}{a:Addr}{o:HO}:upd H a o a=some o:=by unfold upd;rw [if_pos rfl]
theorem upd_ne {H:Hp}{a b:Addr}{o:HO} (h:b≠a):upd H a o b=H b:=by unfold upd;rw [if_neg h]
theorem ne_of_none {H:Hp}{a b:Addr}{o:HO} (h:H a=some o) (h':H b=none):a≠b:=by
 intro e;subst e;rw [h] at h';cases h'
section
variable (P:Program) (w:World)
def ObjOk (H:Hp) (h:Heap) (a:Addr):HO→Prop
 | .lst xs=>xs.length≤sizeLine ∧ ∃ (its:List Value) (n:Nat),Vals xs its∧h.get? a=some { cls :=.type "list",data :=.seq its.toArray n }
 | .tup xs=>xs.length≤sizeLine ∧ ∃ its:List Value,Vals xs its∧IsTup h a its.toArray
 | .dK kvs=>kvs.length≤sizeLine∧(a==sysModules)=false ∧ ∃ vs,KV kvs vs∧h.DictOf (mixKind P w) a vs
 | .dT kvs=>kvs.length≤sizeLine∧(a==sysModules)=false ∧ ∃ xs:List (List Key×Addr×Value),
  Paired (fun (p:List Key×V) (q:List Key×Addr×Value)=>p.1=q.1∧H q.2.1=some (.tup (p.1.map kV))∧RelV p.2 q.2.2) kvs xs ∧
  ∃ o es ep,h.get? a=some o∧o.ExactDict∧o.data = .dict es ep∧es.toList=xs.map (entryOfKey (tupleKind (mixKind P w)))∧(xs.map (·.1)).Nodup
 | .set S n=>h.SetOf (intKind P w) a S n
 | .ins C dx fs=>H dx=some (.own a)∧fs.length≤1000∧dx≠a∧h.get? a=some (PySem.W.instObj C dx) ∧
  ∃ mA,h.Ns1 dx mA∧(∀ f,RelO (fs.lookup f) (mA f))∧PySem.Within mA (fs.map (·.1))
 | .own _ => ∃ o,h.get? a=some o
 | .xd fs => ∃ mA,h.Ns1 a mA ∧ ∀ f,RelO (fs.lookup f) (mA f)
 | .rng lo hi => ∃ t u v,h.get? a=some { cls :=.type "range",data :=.fields #[.int lo t,.int hi u,.int 1 v] }
 | .frz o u=>h.get? a=some o∧ObjOk H h a u
 | .tbl ps=>h.get? a=some { cls :=.none,data :=.fields ps }
 | .met f x=>h.get? a=some (PySem.W.methodObj (.ref f) (.ref x))
 | .ext φ=>φ h∧(∃ o,h.get? a=some o) ∧ ∀ h1 h2:Heap,φ h1→(∀ o,h1.get? a=some o→h2.get? a=some o)→φ h2
def HOk (H:Hp) (h:Heap):Prop := ∀ a o,H a=some o→ObjOk P w H h a o
end
section
variable {P:Program}{w:World}{H H':Hp}{h h':Heap}{a:Addr}{o:HO}
theorem ObjOk.lt (x:ObjOk P w H h a o):a<h.objs.size:=by
 cases o with
 | lst xs=>obtain ⟨_,_,_,_,e⟩:=x;exact Heap.lt_size e
 | tup xs=>obtain ⟨_,_,_,p⟩:=x;exact p.lt
 | dK kvs=>obtain ⟨_,_,_,_,o,_,_,e,_⟩:=x;exact Heap.lt_size e
 | dT kvs=>obtain ⟨_,_,_,_,o,_,_,e,_⟩:=x;exact Heap.lt_size e
 | set S n=>obtain ⟨o,_,_,_,e,_⟩:=x;exact Heap.lt_size e
 | ins C dx fs=>obtain ⟨_,_,_,e,_⟩:=x;exact Heap.lt_size e
 | own y=>obtain ⟨_,e⟩:=x;exact Heap.lt_size e
 | xd fs=>obtain ⟨_,⟨_,_,_,e,_⟩,_⟩:=x;exact Heap.lt_size e
 | rng lo hi=>obtain ⟨_,_,_,e⟩:=x;exact Heap.lt_size e
 | frz ob u=>obtain ⟨e,_⟩:=x;exact Heap.lt_size e
 | tbl ps=>exact Heap.lt_size (show h.get? a=some _ from x)
 | met f y=>exact Heap.lt_size (show h.get? a=some _ from x)
 | ext φ=>obtain ⟨_,⟨_,e⟩,_⟩:=x;exact Heap.lt_size e
theorem Paired.mapP {α β:Type}{F G:α→β→Prop} : ∀ {l₁:List α}{l₂:List β},Paired F l₁ l₂→(∀ a b,F a b→G a b)→Paired G l₁ l₂
 | _,_,.nil,_ => .nil
 | _,_,.cons r t,f => .cons (f _ _ r) (Paired.mapP t f)
theorem ObjOk.stay (x:ObjOk P w H h a o) (k : ∀ b u,(b=a∨H b=some (.own a))→h.get? b=some u→h'.get? b=some u)
 (ho : ∀ b,H b=some (.own a)→H' b=some (.own a)) (ht : ∀ b xs,H b=some (.tup xs)→H' b=some (.tup xs)):ObjOk P w H' h' a o:=by
  induction o with
  | lst xs=>obtain ⟨z,its,n,r,e⟩:=x;exact ⟨z,its,n,r,k _ _ (.inl rfl) e⟩
  | tup xs=>obtain ⟨z,its,r,ob,e,c⟩:=x;exact ⟨z,its,r,ob,k _ _ (.inl rfl) e,c⟩
  | dK kvs=>obtain ⟨z,y,vs,r,ob,es,ep,e,c⟩:=x;exact ⟨z,y,vs,r,ob,es,ep,k _ _ (.inl rfl) e,c⟩
  | dT kvs =>
   obtain ⟨z,y,xs,r,ob,es,ep,e,c⟩:=x
   exact ⟨z,y,xs,Paired.mapP r fun p q z=>⟨z.1,ht _ _ z.2.1,z.2.2⟩,ob,es,ep,k _ _ (.inl rfl) e,c⟩
  | set S n=>obtain ⟨ob,es,ep,t,e,c⟩:=x;exact ⟨ob,es,ep,t,k _ _ (.inl rfl) e,c⟩
  | ins C dx fs =>
   obtain ⟨d,z,ne,e,mA,⟨od,es,ep,e2,c⟩,r⟩:=x
   exact ⟨ho _ d,z,ne,k _ _ (.inl rfl) e,mA,⟨od,es,ep,k _ _ (.inr d) e2,c⟩,r⟩
  | own y=>obtain ⟨ob,e⟩:=x;exact ⟨ob,k _ _ (.inl rfl) e⟩
  | xd fs=>obtain ⟨mA,⟨od,es,ep,e,c⟩,r⟩:=x;exact ⟨mA,⟨od,es,ep,k _ _ (.inl rfl) e,c⟩,r⟩
  | rng lo hi=>obtain ⟨t,u,v,e⟩:=x;exact ⟨t,u,v,k _ _ (.inl rfl) e⟩
  | frz ob u ih=>obtain ⟨e,q⟩:=x;exact ⟨k _ _ (.inl rfl) e,ih q⟩
  | tbl ps =>
   have e:h.get? a=some { cls :=.none,data :=.fields ps }:=x
   show h'.get? a=some { cls :=.none,data :=.fields ps }
   exact k a _ (.inl rfl) e
  | met f y =>
   have e:h.get? a=some (PySem.W.methodObj (.ref f) (.ref y)):=x
   show h'.get? a=some (PySem.W.methodObj (.ref f) (.ref y))
   exact k a _ (.inl rfl) e
  | ext φ=>obtain ⟨p,⟨o,e⟩,st⟩:=x;exact ⟨st _ _ p fun o q=>k _ _ (.inl rfl) q,⟨o,k _ _ (.inl rfl) e⟩,st⟩
theorem HOk.lt (x:HOk P w H h) (e:H a=some o):a<h.objs.size:=(x a o e).lt
theorem HOk.fresh (x:HOk P w H h) (e:h.objs.size≤a):H a=none:=by
 cases q:H a with
 | none=>rfl
 | some u=>exact absurd (Nat.lt_of_lt_of_le (x.lt q) e) (Nat.lt_irrefl _)
theorem HOk.kept (x:HOk P w H h) (k : ∀ b u,h.get? b=some u→h'.get? b=some u):HOk P w H h':=fun a o e =>
 (x a o e).stay (fun b u _ q=>k b u q) (fun _ q=>q) fun _ _ q=>q
theorem HOk.laid (x:HOk P w H h) (k : ∀ b u,h.get? b=some u→h'.get? b=some u) (hp:h.objs.size≤a) (new:ObjOk P w (upd H a o) h' a o):HOk P w (upd H a o) h':=fun b u e=>by
 have hn:=x.fresh hp
 by_cases hb:b=a
 ·subst hb;rw [upd_same] at e;cases e;exact new
 ·rw [upd_ne hb] at e
  exact (x b u e).stay (fun c v _ q=>k c v q) (fun c q=>by rw [upd_ne (ne_of_none q hn)];exact q) fun c xs q=>by rw [upd_ne (ne_of_none q hn)];exact q
end
def Rd (H:Hp) (a:Addr) (u:HO):Prop:=H a=some u ∨ ∃ o,H a=some (.frz o u)
theorem Rd.ok {P:Program}{w:World}{H:Hp}{h:Heap}{a:Addr}{u:HO} (r:Rd H a u) (x:HOk P w H h):ObjOk P w H h a u:=by
 rcases r with r|⟨o,r⟩
 ·exact x a u r
 ·obtain ⟨_,q⟩:=x a _ r
  exact q
def Mut:Option HO→Prop
 | some (.lst _)=>True
 | some (.dK _)=>True
 | some (.dT _)=>True
 | some (.set _ _)=>True
 | some (.ins _ _ _)=>True
 | some (.ext _)=>True
 | _=>False
section
variable {P:Program}{w:World}{H:Hp}{h h':Heap}{x e:Addr}{o':HO}
theorem HOk.write (ok:HOk P w H h) (mu:Mut (H x)) (he:e=x∨H e=some (.own x)) (k : ∀ b u,b≠e→h.get? b=some u→h'.get? b=some u) (heo : ∃ u,h'.get? e=some u)
 (new:ObjOk P w (upd H x o') h' x o'):HOk P w (upd H x o') h':=fun b u q=>by
  have nown : ∀ c y,H c=some (.own y)→c≠x:=fun c y r z=>by subst z;rw [r] at mu;exact mu
  have ntup : ∀ c xs,H c=some (.tup xs)→c≠x:=fun c xs r z=>by subst z;rw [r] at mu;exact mu
  by_cases hb:b=x
  ·subst hb;rw [upd_same] at q;cases q;exact new
  ·rw [upd_ne hb] at q
   by_cases hbe:b=e
   ·have q':H b=some (.own x):=by
     rcases he with z|z
     ·exact absurd (hbe.trans z) hb
     ·rw [hbe];exact z
    rw [q] at q';cases q'
    obtain ⟨v,hv⟩:=heo
    exact ⟨v,by rw [hbe];exact hv⟩
   ·refine (ok b u q).stay (fun c v hc r=>k c v ?_ r) (fun c r=>by rw [upd_ne (nown c b r)];exact r) fun c xs r=>by rw [upd_ne (ntup c xs r)];exact r
    rcases hc with rfl|hc
    ·exact hbe
    ·rintro rfl
     rcases he with z|z
     ·exact nown c b hc z
     ·rw [hc] at z;cases z;exact hb rfl
end
def CodeO (o:Obj):Prop := ∃ vs q t,o.data = .fields vs∧vs[1]?=some (.str q t)
structure GoodT (H:Hp) (ps:Array Value):Prop where
 tr:TriplesOk ps.toList
 co : ∀ (pos:Pos) (v:Value),codeAmong pos ps.toList=some v → ∃ c o u,v = .ref c∧H c=some (.frz o u)∧CodeO o
theorem GoodT.nil {H:Hp}:GoodT H #[]:=⟨trivial,fun pos v h=>by simp [codeAmong] at h⟩
theorem GoodT.mono {H H':Hp}{ps:Array Value} (g:GoodT H ps) (f : ∀ b o u,H b=some (.frz o u)→H' b=some (.frz o u)):GoodT H' ps:=⟨g.tr,fun pos v h=>by
 obtain ⟨c,o,u,z,e,k⟩:=g.co pos v h
 exact ⟨c,o,u,z,f _ _ _ e,k⟩⟩
theorem triples_app : ∀ {a b:List Value},TriplesOk a→TriplesOk b→TriplesOk (a++b)
 | [],_,_,h=>h
 | .int _ _ :: .int _ _::_::r,_,g,h=>triples_app (a:=r) g h
theorem among_app {pos:Pos}{v:Value} : ∀ {a b:List Value},TriplesOk a→codeAmong pos (a++b)=some v→codeAmong pos a=some v∨codeAmong pos b=some v
 | [],_,_,h => .inr h
 | .int i _ :: .int j _::x::r,b,g,h=>by
  have h:(if i==pos.line&&j==pos.col then some x else codeAmong pos (r++b))=some v:=h
  show (if i==pos.line&&j==pos.col then some x else codeAmong pos r)=some v∨_
  split at h
  ·left;rw [if_pos (by assumption)];exact h
  ·rw [if_neg (by assumption)];exact among_app (a:=r) g h
theorem GoodT.app {H:Hp}{a b:Array Value} (g:GoodT H a) (k:GoodT H b):GoodT H (a++b):=⟨by rw [Array.toList_append];exact triples_app g.tr k.tr,fun pos v h=>by
 rw [Array.toList_append] at h
 rcases among_app g.tr h with h|h
 ·exact g.co pos v h
 ·exact k.co pos v h⟩
structure Un (fs ex:List Addr) (H H':Hp) (h h':Heap):Prop where
 keep : ∀ b o,h.get? b=some o→H b=none→b ∉ fs→b ∉ ex→h'.get? b=some o
 slot : ∀ b o,h.get? b=some o→H b=none→b ∈ fs→b ∉ ex → ∃ sl,h'.get? b=some { o with slots:=sl }
 free : ∀ b o,h.get? b=some o→H b=none→b ∉ ex→H' b=none
 there : ∀ b o,h.get? b=some o→b ∉ ex → ∃ o',h'.get? b=some o'
 tups : ∀ b xs,H b=some (.tup xs)→H' b=some (.tup xs)
 frzs : ∀ b o u,H b=some (.frz o u)→H' b=some (.frz o u)
 tbls : ∀ b ps,H b=some (.tbl ps) → ∃ more,H' b=some (.tbl (ps++more))∧GoodT H' more
section
variable {fs fs' ex ex':List Addr}{H H1 H2:Hp}{h h1 h2 h':Heap}{a x e:Addr}{o:HO}
theorem Un.any (u:Un fs ex H H1 h h1) {b:Addr}{ob:Obj} (q:h.get? b=some ob) (n:H b=none) (hx:b ∉ ex) : ∃ sl,h1.get? b=some { ob with slots:=sl }:=by
 by_cases hb:b ∈ fs
 ·exact u.slot b ob q n hb hx
 ·exact ⟨ob.slots,u.keep b ob q n hb hx⟩
theorem Un.kept (k : ∀ b u,h.get? b=some u→h'.get? b=some u):Un fs ex H H h h' :=
 ⟨fun b ob q _ _ _=>k b ob q,fun b ob q _ _ _=>⟨ob.slots,k b ob q⟩,fun _ _ _ n _=>n,fun b ob q _=>⟨ob,k b ob q⟩,fun _ _ q=>q,fun _ _ _ q=>q,fun _ ps q=>⟨#[],by rw [q];simp,.nil⟩⟩
theorem Un.refl:Un fs ex H H h h:=Un.kept fun _ _ q=>q
theorem Un.laid (k : ∀ b u,h.get? b=some u→h'.get? b=some u) (hp:h.objs.size≤a) (hn:H a=none):Un fs ex H (upd H a o) h h' where
 keep:=fun b u q _ _ _=>k b u q
 slot:=fun b u q _ _ _=>⟨u.slots,k b u q⟩
 free:=fun b u q n _=>by rw [upd_ne (Nat.ne_of_lt (Nat.lt_of_lt_of_le (Heap.lt_size q) hp))];exact n
 there:=fun b u q _=>⟨u,k b u q⟩
 tups:=fun b xs q=>by rw [upd_ne (ne_of_none q hn)];exact q
 frzs:=fun b u xs q=>by rw [upd_ne (ne_of_none q hn)];exact q
 tbls:=fun b ps q=>⟨#[],by rw [upd_ne (ne_of_none q hn),q];simp,.nil⟩
theorem Un.write (mu:Mut (H x)) (he:e=x∨H e=some (.own x)) (k : ∀ b u,b≠e→h.get? b=some u→h'.get? b=some u) (heo : ∃ u,h'.get? e=some u):Un fs ex H (upd H x o) h h':=by
 have hx : ∀ b,H b=none→b≠x:=fun b n z=>by subst z;rw [n] at mu;exact mu
 have hb : ∀ b,H b=none→b≠e:=fun b n z=>by
  subst z
  rcases he with r|r
  ·exact hx b n r
  ·rw [n] at r;cases r
 have hm : ∀ b u,H b=some u → ¬ Mut (some u)→b≠x:=fun b u q nm z=>by subst z;rw [q] at mu;exact nm mu
 refine ⟨fun b u q n _ _=>k b u (hb b n) q,fun b u q n _ _=>⟨u.slots,k b u (hb b n) q⟩,fun b u q n _=>by rw [upd_ne (hx b n)];exact n,fun b u q _=>?_,
  fun b xs q=>by rw [upd_ne (hm b _ q fun z=>z)];exact q,fun b u xs q=>by rw [upd_ne (hm b _ q fun z=>z)];exact q,fun b ps q=>⟨#[],by rw [upd_ne (hm b _ q fun z=>z),q];simp,.nil⟩⟩
 by_cases hbe:b=e
 ·subst hbe;exact heo
 ·exact ⟨u,k b u hbe q⟩
end
def trk (h:Heap) (H:Hp):List Addr:=(List.range h.objs.size).filter fun a=>(H a).isSome
def hidT (h:Heap) (H:Hp):Heap:=PySem.W.hideAll h (trk h H)
theorem hidT_size (h:Heap) (H:Hp):(hidT h H).objs.size=h.objs.size:=PySem.W.hideAll_size _ _
theorem hidT_get {h:Heap}{H:Hp}{b:Addr}{o:Obj} (e:h.get? b=some o) (n:H b=none):(hidT h H).get? b=some o :=
 PySem.W.hideAll_get _ e fun hm=>by
  have q:(H b).isSome=true:=(List.mem_filter.mp hm).2
  rw [n] at q;simp at q
theorem of_hidT {h:Heap}{H:Hp}{b:Addr}{o:Obj} (e:(hidT h H).get? b=some o):h.get? b=some o∧H b=none:=by
 have e':h.get? b=some o:=PySem.W.of_hideAll (trk h H) e
 refine ⟨e',?_⟩
 cases q:H b with
 | none=>rfl
 | some x =>
  have hm:b ∈ trk h H:=List.mem_filter.mpr ⟨List.mem_range.mpr (Heap.lt_size e'),by simp [q]⟩
  have z:(hidT h H).get? b=none:=PySem.W.hideAll_none (trk h H) hm
  rw [z] at e;cases e
def allNews (g h:Heap) (L:Addr):List (Addr×Obj):=(List.range h.objs.size).filterMap fun a=>if a=L∨(g.get? a).isSome=true then none else (h.get? a).map fun o=>(a,o)
def rest (g h:Heap) (L d:Addr):List (Addr×Obj):=(allNews g h L).filter fun p=>decide (p.1≠d)
end L2
namespace L2
open PySem PySem.Spec PyProof.Rows
structure Mod (K:PySem.W.Frag) (mg:Str→Option Value) (base:Heap):Prop where
 kin:K.In base
 glob:base.Ns mainGlobals mg
 blt : ∃ mb,base.Ns builtinsNs mb ∧ ∀ x:Str,x ≠ "__name__" → mb x=bootBuiltins x
 nolimit:base.NoLimit
structure Cx where
 prog:Program
 w:World
 K:PySem.W.Frag
 mg:Str→Option Value
 base:Heap
 A:Around
 N:List Str
 s₀:Shared
 H₀:Hp
 env:Env
 outer:List Env
 stack:List Env
 ex:List Addr
 fn:Str→Bool
 calm:Bool
 pn:List (Addr×Obj)
 xe:Value→Shared→Prop
def frs (l:List Env):List Addr:=l.filterMap (·.frame)
abbrev Cx.fs (X:Cx):List Addr:=frs X.outer
def Vis (sc:Scope) (x:Str):Prop:=sc.names.lookup x=some .local∨sc.names.lookup x=some .cell∨sc.names.lookup x=some .free
def Loc (sc:Scope) (x:Str):Prop:=sc.names.lookup x=some .local∨sc.names.lookup x=some .cell
def Look (env:Env) (h:Heap) (m:Str→Option Value) (x:Str) (u:Value):Prop :=
 (env.kindOf x=some .local∧m x=some u)∨((env.kindOf x=some .cell∨env.kindOf x=some .free) ∧ ∃ c,env.cells.lookup x=some c∧h.IsCell c (some u))
structure Cx.Ok (X:Cx):Prop where
 mod:Mod X.K X.mg X.base
 kind:X.env.scope.kind = .function
 glob:X.env.globals=mainGlobals
 blt:X.env.builtins=builtinsNs
 above:X.s₀.heap.objs.size≤X.env.locals
 inj : ∀ x y c,X.env.cells.lookup x=some c→X.env.cells.lookup y=some c→x=y
 has : ∀ x,(X.env.kindOf x=some .cell∨X.env.kindOf x=some .free) → ∃ c,X.env.cells.lookup x=some c
 cab : ∀ x c,X.fn x=true→X.env.cells.lookup x=some c→X.s₀.heap.objs.size≤c
 hd:X.calm=true→X.A.handled=none
 frames:X.A.frames=some X.stack
 stk:X.stack=X.outer∨(X.stack=X.env::X.outer∧X.env.frame=some X.env.locals)
 exf : ∀ b ∈ X.ex,b≠X.env.locals ∧ ∀ x c,X.env.cells.lookup x=some c→c≠b
 bs : ∀ b o,X.base.get? b=some o→X.s₀.heap.get? b=some o∧X.H₀ b=none
 bsz:X.base.objs.size≤X.s₀.heap.objs.size
 noex : ∀ b o,X.base.get? b=some o→b ∉ X.ex
 exfs : ∀ b ∈ X.ex,b ∉ X.fs
 funs:X.s₀.heap.FunFrames X.base X.outer
 frf : ∀ b ∈ X.fs,X.H₀ b=none
structure Inv (X:Cx) (pins:List (Addr×Obj)) (σ:List (Option V)) (H:Hp) (s:Shared):Prop where
 ok:X.Ok
 os:s.os=X.s₀.os
 bare:AllBare s.gens
 base:Un X.fs X.ex X.H₀ H X.s₀.heap s.heap
 loc : ∃ m,s.heap.Ns X.env.locals m ∧ ∀ (i:Nat) (x:Str) (v:V),X.N[i]?=some x→σ[i]?=some (some v)→Vis X.env.scope x → ∃ u,RelV v u∧Look X.env s.heap m x u
 cell : ∀ x c,X.env.cells.lookup x=some c → ∃ v,s.heap.IsCell c v
 free:H X.env.locals=none
 freeC : ∀ x c,X.env.cells.lookup x=some c→H c=none
 pin : ∀ p ∈ X.pn++pins,s.heap.get? p.1=some p.2∧H p.1=none∧p.1≠X.env.locals∧p.1 ∉ X.fs ∧ ∀ v,p.2.data ≠ .cell v
 hok:HOk X.prog X.w H s.heap
 len:σ.length=X.N.length
section
variable {X:Cx}{pins:List (Addr×Obj)}{σ:List (Option V)}{H H':Hp}{s:Shared}{h':Heap}
theorem Cx.Ok.nofr (ok:X.Ok) {b:Addr}{o:Obj} (e:X.base.get? b=some o):b ∉ X.fs:=fun hb=>by
 have:=(ok.funs.mem hb).1
 rw [e] at this;cases this
theorem Inv.bs (I:Inv X pins σ H s) : ∀ b o,X.base.get? b=some o→s.heap.get? b=some o∧H b=none:=fun b o e =>
 ⟨I.base.keep b o (I.ok.bs b o e).1 (I.ok.bs b o e).2 (I.ok.nofr e) (I.ok.noex b o e),I.base.free b o (I.ok.bs b o e).1 (I.ok.bs b o e).2 (I.ok.noex b o e)⟩
theorem Inv.bk (I:Inv X pins σ H s) : ∀ b o,X.base.get? b=some o→s.heap.get? b=some o:=fun b o e=>(I.bs b o e).1
theorem Inv.mod (I:Inv X pins σ H s):Mod X.K X.mg X.base:=I.ok.mod
theorem Inv.kIn (I:Inv X pins σ H s):X.K.In s.heap:=I.ok.mod.kin.keeps I.bk
theorem Inv.lt (I:Inv X pins σ H s):X.env.locals<s.heap.objs.size:=let ⟨_,hn,_⟩:=I.loc;hn.lt
theorem Inv.sz (I:Inv X pins σ H s):X.s₀.heap.objs.size≤s.heap.objs.size:=Nat.le_trans I.ok.above (Nat.le_of_lt I.lt)
theorem Inv.nofs (I:Inv X pins σ H s) {a:Addr} (h:s.heap.objs.size≤a):a ∉ X.fs:=fun hb=>by
 obtain ⟨_,o,ho,_⟩:=I.ok.funs.mem hb
 exact absurd (Nat.lt_of_lt_of_le (Heap.lt_size ho) (Nat.le_trans I.sz h)) (Nat.lt_irrefl _)
theorem Inv.cne (I:Inv X pins σ H s) : ∀ x c,X.env.cells.lookup x=some c→c≠X.env.locals:=fun x c e z=>by
 obtain ⟨v,o,ho,hd⟩:=I.cell x c e
 obtain ⟨m,⟨o',es,ep,ho',hd',_⟩,_⟩:=I.loc
 rw [z,ho'] at ho;cases ho;rw [hd'] at hd;cases hd
theorem Inv.funs (I:Inv X pins σ H s):s.heap.FunFrames X.base X.outer:=by
 have all : ∀ (l:List Env),(∀ b ∈ frs l,b ∈ X.fs)→X.s₀.heap.FunFrames X.base l→s.heap.FunFrames X.base l:=by
  intro l
  induction l with
  | nil=>intro _ _;trivial
  | cons env r ih =>
   intro hs hl
   obtain ⟨hk,⟨L,o,hf,hn,ho,hd⟩,hr⟩:=hl
   have hL:L ∈ X.fs:=hs L (by unfold frs;rw [List.filterMap_cons,hf];exact List.mem_cons_self)
   obtain ⟨sl,e⟩:=I.base.slot L o ho (I.ok.frf L hL) hL fun z=>I.ok.exfs L z hL
   exact ⟨hk,⟨L,_,hf,hn,e,hd⟩,ih (fun b hb=>hs b (by unfold frs;rw [List.filterMap_cons,hf];exact List.mem_cons_of_mem _ hb)) hr⟩
 exact all X.outer (fun _ hb=>hb) I.ok.funs
theorem Inv.stack (I:Inv X pins σ H s):s.heap.FunFrames X.base X.stack:=by
 rcases I.ok.stk with e|⟨e,hf⟩
 ·rw [e];exact I.funs
 ·rw [e]
  obtain ⟨m,hn,_⟩:=I.loc
  refine .cons (by rw [I.ok.kind];decide) hf hn ?_ I.funs
  exact Heap.get?_none_of_le (Nat.le_trans I.ok.bsz I.ok.above)
theorem Inv.stkSub (I:Inv X pins σ H s) : ∀ b ∈ frs X.stack,b ∈ X.env.locals::X.fs:=fun b hb=>by
 rcases I.ok.stk with e|⟨e,hf⟩
 ·rw [e] at hb;exact List.mem_cons_of_mem _ hb
 ·rw [e] at hb
  unfold frs at hb
  rw [List.filterMap_cons,hf] at hb
  exact hb
theorem Inv.stkFree (I:Inv X pins σ H s) : ∀ b ∈ frs X.stack,H b=none:=fun b hb=>by
 rcases List.mem_cons.mp (I.stkSub b hb) with e|hb
 ·rw [e];exact I.free
 ·obtain ⟨_,o,ho,_⟩:=I.ok.funs.mem hb
  exact I.base.free b o ho (I.ok.frf b hb) fun z=>I.ok.exfs b z hb
theorem Inv.step {g':Array GenState}{t':Nat}{d':Drawn}{ch:List Addr} (I:Inv X pins σ H s)
 (hch : ∀ b ∈ ch,(b ∈ X.ex∨X.s₀.heap.objs.size≤b)∧b≠X.env.locals∧(∀ x c,X.env.cells.lookup x=some c→c≠b) ∧ ∀ p ∈ X.pn++pins,p.1≠b)
 (keep : ∀ b o,b≠X.env.locals→b ∉ X.fs→b ∉ ch→s.heap.get? b=some o→H b=none→h'.get? b=some o)
 (slot : ∀ b o,b≠X.env.locals→b ∈ X.fs→b ∉ ch→s.heap.get? b=some o→H b=none → ∃ sl,h'.get? b=some { o with slots:=sl }) (free : ∀ b o,b ∉ ch→s.heap.get? b=some o→H b=none→H' b=none)
  (there : ∀ b o,b ∉ ch→s.heap.get? b=some o → ∃ o',h'.get? b=some o')
  (tups : ∀ b xs,H b=some (.tup xs)→H' b=some (.tup xs)) (frzs : ∀ b o u,H b=some (.frz o u)→H' b=some (.frz o u)) (tbls : ∀ b ps,H b=some (.tbl ps) → ∃ more,H' b=some (.tbl (ps++more))∧GoodT H' more)
  (ns : ∀ m,s.heap.Ns X.env.locals m→h'.Ns X.env.locals m) (hok:HOk X.prog X.w H' h') (hg:AllBare g') :
  Inv X pins σ H' { s with heap:=h',gens:=g',drawn:=d',toks:=t' }:=by
  have neL : ∀ b o,X.s₀.heap.get? b=some o→b≠X.env.locals:=fun b o e=>Nat.ne_of_lt (Nat.lt_of_lt_of_le (Heap.lt_size e) I.ok.above)
  have neC : ∀ b o,X.s₀.heap.get? b=some o→b ∉ X.ex→b ∉ ch:=fun b o e hx hb=>by
   rcases (hch b hb).1 with z|z
   ·exact hx z
   ·exact absurd (Nat.lt_of_lt_of_le (Heap.lt_size e) z) (Nat.lt_irrefl _)
  have cellK : ∀ x c,X.env.cells.lookup x=some c → ∀ v,s.heap.IsCell c v→h'.IsCell c v:=fun x c e v xx1=>by
   obtain ⟨o,ho,hd⟩:=xx1
   have nch:c ∉ ch:=fun z=>(hch c z).2.2.1 x c e rfl
   by_cases hc:c ∈ X.fs
   ·obtain ⟨sl,q⟩:=slot c o (I.cne x c e) hc nch ho (I.freeC x c e)
    exact ⟨_,q,hd⟩
   ·exact ⟨o,keep c o (I.cne x c e) hc nch ho (I.freeC x c e),hd⟩
  refine ⟨I.ok,I.os,hg,⟨fun b o e n hb hx=>?_,fun b o e n hb hx=>?_,fun b o e n hx=>?_,fun b o e hx=>?_,fun b xs e=>tups b xs (I.base.tups b xs e),fun b o xs e=>frzs b o xs (I.base.frzs b o xs e),fun b ps e=>?_⟩,?_,fun x c e=>?_,?_,fun x c e=>?_,fun p hp=>?_,hok,I.len⟩
  ·exact keep b o (neL b o e) hb (neC b o e hx) (I.base.keep b o e n hb hx) (I.base.free b o e n hx)
  ·obtain ⟨sl,e1⟩:=I.base.slot b o e n hb hx
   obtain ⟨sl',e2⟩:=slot b _ (neL b o e) hb (neC b o e hx) e1 (I.base.free b o e n hx)
   exact ⟨sl',e2⟩
  ·obtain ⟨o',e1⟩:=I.base.there b o e hx
   exact free b o' (neC b o e hx) e1 (I.base.free b o e n hx)
  ·obtain ⟨o',e1⟩:=I.base.there b o e hx
   exact there b o' (neC b o e hx) e1
  ·obtain ⟨m1,e1,g1⟩:=I.base.tbls b ps e
   obtain ⟨m2,e2,g2⟩:=tbls b _ e1
   exact ⟨m1++m2,by rw [e2,Array.append_assoc],(g1.mono frzs).app g2⟩
  ·obtain ⟨m,hn,hl⟩:=I.loc
   refine ⟨m,ns m hn,fun i x v e1 e2 e3=>?_⟩
   obtain ⟨u,r,l⟩:=hl i x v e1 e2 e3
   refine ⟨u,r,?_⟩
   rcases l with l|⟨k,c,e,z⟩
   ·exact .inl l
   ·exact .inr ⟨k,c,e,cellK x c e _ z⟩
  ·obtain ⟨v,z⟩:=I.cell x c e
   exact ⟨v,cellK x c e v z⟩
  ·obtain ⟨m,⟨o,_,_,ho,_⟩,_⟩:=I.loc
   exact free _ o (fun z=>(hch _ z).2.1 rfl) ho I.free
  ·obtain ⟨v,o,ho,hd⟩:=I.cell x c e
   exact free c o (fun z=>(hch c z).2.2.1 x c e rfl) ho (I.freeC x c e)
  ·obtain ⟨e,n,ne,nf,d⟩:=I.pin p hp
   have nch:p.1 ∉ ch:=fun z=>(hch p.1 z).2.2.2 p hp rfl
   exact ⟨keep p.1 p.2 ne nf nch e n,free p.1 p.2 nch e n,ne,nf,d⟩
theorem Inv.un {t':Nat} (I:Inv X pins σ H s) (u:Un X.fs [] H H' s.heap h') (hok:HOk X.prog X.w H' h'):Inv X pins σ H' { s with heap:=h',toks:=t' }:=by
 obtain ⟨m,⟨o,es,ep,ho,r⟩,_⟩:=id I.loc
 obtain ⟨sl,hL⟩:=u.any ho I.free (by simp)
 exact I.step (g':=s.gens) (d':=s.drawn) (ch:=[]) (fun _ z=>nomatch z) (fun b o _ hb _ e n=>u.keep b o e n hb (by simp)) (fun b o _ hb _ e n=>u.slot b o e n hb (by simp)) (fun b o _ e n=>u.free b o e n (by simp)) (fun b o _ e=>u.there b o e (by simp)) u.tups u.frzs u.tbls (fun m' hm=>by
  obtain ⟨o',es',ep',ho',r'⟩:=hm
  rw [ho] at ho';cases ho'
  exact ⟨_,es',ep',hL,r'⟩) hok I.bare
theorem Inv.call {g':Array GenState}{t':Nat}{d':Drawn}{ch:List Addr} (I:Inv X pins σ H s) (u:Un (frs X.stack) ch H H' s.heap h') (hok:HOk X.prog X.w H' h') (hg:AllBare g')
 (hch : ∀ b ∈ ch,(b ∈ X.ex∨X.s₀.heap.objs.size≤b)∧b≠X.env.locals∧(∀ x c,X.env.cells.lookup x=some c→c≠b) ∧ ∀ p ∈ X.pn++pins,p.1≠b) :
 Inv X pins σ H' { s with heap:=h',gens:=g',drawn:=d',toks:=t' }:=by
  obtain ⟨m,⟨o,es,ep,ho,r⟩,_⟩:=id I.loc
  obtain ⟨sl,hL⟩:=u.any ho I.free fun z=>(hch _ z).2.1 rfl
  exact I.step (ch:=ch) hch (fun b o hL hb hc e n=>u.keep b o e n (fun z=>(List.mem_cons.mp (I.stkSub b z)).elim hL hb) hc) (fun b o _ _ hc e n=>u.any e n hc) (fun b o hc e n=>u.free b o e n hc) (fun b o hc e=>u.there b o e hc) u.tups u.frzs u.tbls (fun m' hm=>by
   obtain ⟨o',es',ep',ho',r'⟩:=hm
   rw [ho] at ho';cases ho'
   exact ⟨_,es',ep',hL,r'⟩) hok hg
theorem Inv.turned {t':Nat}{it:Addr} (I:Inv X pins σ H s) (k : ∀ b o,b≠it→s.heap.get? b=some o→h'.get? b=some o) (hn:H it=none) (hL:it≠X.env.locals)
 (h1:it ∈ X.ex∨X.s₀.heap.objs.size≤it) (h2 : ∀ x c,X.env.cells.lookup x=some c→c≠it) (h3 : ∀ p ∈ X.pn++pins,p.1≠it):Inv X pins σ H { s with heap:=h',toks:=t' }:=by
  have nit : ∀ b u,H b=some u→b≠it:=fun b u e z=>by rw [z,hn] at e;cases e
  refine I.step (g':=s.gens) (d':=s.drawn) (ch:=[it]) (fun b hb=>?_) (fun b o _ _ hc e _=>k b o (fun z=>hc (by simp [z])) e) (fun b o _ _ hc e _=>⟨o.slots,k b o (fun z=>hc (by simp [z])) e⟩) (fun _ _ _ _ n=>n)
   (fun b o hc e=>⟨o,k b o (fun z=>hc (by simp [z])) e⟩) (fun _ _ e=>e) (fun _ _ _ e=>e) (fun b ps e=>⟨#[],by rw [e];simp,.nil⟩) (fun m hm=>?_) (fun b u e=>?_) I.bare
  ·have e:b=it:=by simpa using hb
   subst e
   exact ⟨h1,hL,h2,h3⟩
  ·obtain ⟨o,es,ep,ho,r⟩:=hm
   exact ⟨o,es,ep,k _ o (Ne.symm hL) ho,r⟩
  ·refine (I.hok b u e).stay (fun c v hc q=>k c v ?_ q) (fun _ q=>q) fun _ _ q=>q
   rcases hc with z|z
   ·rw [z];exact nit b u e
   ·exact nit c _ z
theorem Inv.tok (I:Inv X pins σ H s) (t:Nat):Inv X pins σ H { s with toks:=t }:=I.un (h':=s.heap) (t':=t) Un.refl I.hok
theorem Inv.kept {t':Nat} (I:Inv X pins σ H s) (k : ∀ b u,s.heap.get? b=some u→h'.get? b=some u):Inv X pins σ H { s with heap:=h',toks:=t' }:=I.un (Un.kept k) (I.hok.kept k)
theorem Inv.laid {a:Addr}{o:HO}{t':Nat} (I:Inv X pins σ H s) (k : ∀ b u,s.heap.get? b=some u→h'.get? b=some u) (hp:s.heap.objs.size≤a) (new:ObjOk X.prog X.w (upd H a o) h' a o) :
 Inv X pins σ (upd H a o) { s with heap:=h',toks:=t' }:=I.un (Un.laid k hp (I.hok.fresh hp)) (I.hok.laid k hp new)
theorem Inv.write {x e:Addr}{o:HO}{t':Nat} (I:Inv X pins σ H s) (mu:Mut (H x)) (he:e=x∨H e=some (.own x)) (k : ∀ b u,b≠e→s.heap.get? b=some u→h'.get? b=some u) (heo : ∃ u,h'.get? e=some u)
 (new:ObjOk X.prog X.w (upd H x o) h' x o):Inv X pins σ (upd H x o) { s with heap:=h',toks:=t' }:=I.un (Un.write mu he k heo) (I.hok.write mu he k heo new)
theorem Inv.pins_of {pins':List (Addr×Obj)} (I:Inv X pins σ H s) (h : ∀ p ∈ pins',s.heap.get? p.1=some p.2∧H p.1=none∧p.1≠X.env.locals∧p.1 ∉ X.fs ∧ ∀ v,p.2.data ≠ .cell v):Inv X pins' σ H s :=
 ⟨I.ok,I.os,I.bare,I.base,I.loc,I.cell,I.free,I.freeC,fun p hp=>(List.mem_append.mp hp).elim (fun z=>I.pin p (List.mem_append_left _ z)) (h p),I.hok,I.len⟩
theorem nodup_ix {N:List Str} (hN:N.Nodup) {i j:Nat}{x:Str} (a:N[i]?=some x) (b:N[j]?=some x):i=j:=by
 obtain ⟨h1,e1⟩:=List.getElem?_eq_some_iff.mp a
 obtain ⟨h2,e2⟩:=List.getElem?_eq_some_iff.mp b
 exact (List.getElem_inj hN).mp (e1.trans e2.symm)
theorem store_ok2 {M:Model}{A:Around}{E:Value→Shared→Prop}{i:Nat}{x:Str}{v:V}{u:Value}{Q:Unit→Shared→Prop} (I:Inv X pins σ H s) (hN:X.N.Nodup) (hi:X.N[i]?=some x) (hx:Loc X.env.scope x) (r:RelV v u)
 (h : ∀ s',Inv X pins (σ.set i (some v)) H s'→(∃ a,Heap.SameBut a s.heap s'.heap∧(a=X.env.locals∨X.env.cells.lookup x=some a))→Q () s') (hf:X.fn x=true∨X.env.scope.names.lookup x=some .local:=by first|exact .inl rfl|exact .inr rfl|assumption):wpAny M A (storeName X.env x u) Q E s:=by
  obtain ⟨m,hn,hl⟩:=id I.loc
  have hcls:(X.env.scope.kind == .class||(X.env.scope.kind == .module&&X.env.locals != X.env.globals))=false:=by rw [I.ok.kind];rfl
  have hiσ:i<σ.length:=by rw [I.len];exact (List.getElem?_eq_some_iff.mp hi).1
  have cne:=I.cne
  have tracked : ∀ {a:Addr}{h':Heap},(∃ o,s.heap.get? a=some o∧H a=none)→Heap.SameBut a s.heap h'→HOk X.prog X.w H h':=fun {a h'} ha hs b ob e=>by
   obtain ⟨_,_,hfree⟩:=ha
   refine (I.hok b ob e).stay (fun c w' hc q=>(hs.2 c ?_).trans q) (fun _ q=>q) fun _ _ q=>q
   rintro rfl
   rcases hc with rfl|hc
   ·rw [hfree] at e;cases e
   ·rw [hfree] at hc;cases hc
  rcases hx with hk|hk
  ·refine wpAny_storeName_local hk hn (fun h' hn' hs=>?_) hcls
   obtain ⟨oL,_,_,hoL,_⟩:=id hn
   refine h _ ⟨I.ok,I.os,I.bare,⟨fun b o e n hb hx=>?_,fun b o e n hb hx=>?_,I.base.free,fun b o e hx=>?_,I.base.tups,I.base.frzs,I.base.tbls⟩,⟨_,hn',fun j y v' e1 e2 e3=>?_⟩,fun y c e=>?_,I.free,I.freeC,fun p hp=>?_,tracked ⟨oL,hoL,I.free⟩ hs,by simpa using I.len⟩ ⟨_,hs,.inl rfl⟩
   ·exact (hs.2 b (Nat.ne_of_lt (Nat.lt_of_lt_of_le (Heap.lt_size e) I.ok.above))).trans (I.base.keep b o e n hb hx)
   ·obtain ⟨sl,e1⟩:=I.base.slot b o e n hb hx
    exact ⟨sl,(hs.2 b (Nat.ne_of_lt (Nat.lt_of_lt_of_le (Heap.lt_size e) I.ok.above))).trans e1⟩
   ·obtain ⟨o',e1⟩:=I.base.there b o e hx
    exact ⟨o',(hs.2 b (Nat.ne_of_lt (Nat.lt_of_lt_of_le (Heap.lt_size e) I.ok.above))).trans e1⟩
   ·by_cases hj:j=i
    ·subst hj
     rw [hi] at e1;cases e1
     rw [List.getElem?_set_self hiσ] at e2
     cases e2
     exact ⟨u,r,.inl ⟨hk,by simp⟩⟩
    ·rw [List.getElem?_set_ne (Ne.symm hj)] at e2
     obtain ⟨u',r',q⟩:=hl j y v' e1 e2 e3
     refine ⟨u',r',?_⟩
     rcases q with ⟨k,e⟩|⟨k,c,e,z⟩
     ·refine .inl ⟨k,?_⟩
      have:y≠x:=fun e=>hj (nodup_ix hN e1 (e ▸ hi))
      simp [this,e]
     ·exact .inr ⟨k,c,e,z.sameBut hs (cne y c e)⟩
   ·obtain ⟨w',z⟩:=I.cell y c e
    exact ⟨w',z.sameBut hs (cne y c e)⟩
   ·obtain ⟨e,n,ne,nf,d⟩:=I.pin p hp
    exact ⟨(hs.2 p.1 ne).trans e,n,ne,nf,d⟩
  ·have hfn:X.fn x=true:=by
    rcases hf with z|z
    ·exact z
    ·rw [z] at hk;cases hk
   obtain ⟨c,hc⟩:=I.ok.has x (.inl hk)
   obtain ⟨w',z⟩:=I.cell x c hc
   refine wpAny_storeName_cell I.ok.kind hk hc z (fun h' hc' hs=>?_)
   obtain ⟨oc,hoc,hocd⟩:=id z
   refine h { s with heap:=h' } ⟨I.ok,I.os,I.bare,⟨fun b o e n hb hx=>?_,fun b o e n hb hx=>?_,I.base.free,fun b o e hx=>?_,I.base.tups,I.base.frzs,I.base.tbls⟩,⟨m,hn.sameBut hs (Ne.symm (cne x c hc)),fun j y v' e1 e2 e3=>?_⟩,fun y c' e=>?_,I.free,I.freeC,fun p hp=>?_,tracked ⟨oc,hoc,I.freeC x c hc⟩ hs,by simpa using I.len⟩ ⟨c,hs,.inr hc⟩
   ·exact (hs.2 b (Nat.ne_of_lt (Nat.lt_of_lt_of_le (Heap.lt_size e) (I.ok.cab x c hfn hc)))).trans (I.base.keep b o e n hb hx)
   ·obtain ⟨sl,e1⟩:=I.base.slot b o e n hb hx
    exact ⟨sl,(hs.2 b (Nat.ne_of_lt (Nat.lt_of_lt_of_le (Heap.lt_size e) (I.ok.cab x c hfn hc)))).trans e1⟩
   ·obtain ⟨o',e1⟩:=I.base.there b o e hx
    exact ⟨o',(hs.2 b (Nat.ne_of_lt (Nat.lt_of_lt_of_le (Heap.lt_size e) (I.ok.cab x c hfn hc)))).trans e1⟩
   ·by_cases hj:j=i
    ·subst hj
     rw [hi] at e1;cases e1
     rw [List.getElem?_set_self hiσ] at e2
     cases e2
     exact ⟨u,r,.inr ⟨.inl hk,c,hc,hc'⟩⟩
    ·rw [List.getElem?_set_ne (Ne.symm hj)] at e2
     obtain ⟨u',r',q⟩:=hl j y v' e1 e2 e3
     refine ⟨u',r',?_⟩
     rcases q with q|⟨k,c',e,z'⟩
     ·exact .inl q
     ·refine .inr ⟨k,c',e,z'.sameBut hs ?_⟩
      rintro rfl
      exact hj (nodup_ix hN e1 (I.ok.inj _ _ _ e hc ▸ hi))
   ·by_cases hcc:c'=c
    ·subst hcc;exact ⟨_,hc'⟩
    ·obtain ⟨w2,z2⟩:=I.cell y c' e
     exact ⟨w2,z2.sameBut hs hcc⟩
   ·obtain ⟨e,n,ne,nf,d⟩:=I.pin p hp
    refine ⟨(hs.2 p.1 ?_).trans e,n,ne,nf,d⟩
    intro q
    rw [q,hoc] at e
    have q':oc=p.2:=Option.some.inj e
    exact d w' (by rw [← q'];exact hocd)
theorem store_ok {M:Model}{A:Around}{E:Value→Shared→Prop}{i:Nat}{x:Str}{v:V}{u:Value}{Q:Unit→Shared→Prop} (I:Inv X pins σ H s) (hN:X.N.Nodup) (hi:X.N[i]?=some x) (hx:Loc X.env.scope x) (r:RelV v u)
 (h : ∀ s',Inv X pins (σ.set i (some v)) H s'→Q () s') (hf:X.fn x=true∨X.env.scope.names.lookup x=some .local:=by first|exact .inl rfl|exact .inr rfl|assumption):wpAny M A (storeName X.env x u) Q E s :=
  store_ok2 I hN hi hx r (fun s' I' _=>h s' I') hf
theorem Inv.call' {s':Shared}{ch:List Addr} (I:Inv X pins σ H s) (ho:s'.os=s.os) (u:Un (frs X.stack) ch H H' s.heap s'.heap) (hok:HOk X.prog X.w H' s'.heap) (hg:AllBare s'.gens)
 (hch : ∀ b ∈ ch,(b ∈ X.ex∨X.s₀.heap.objs.size≤b)∧b≠X.env.locals∧(∀ x c,X.env.cells.lookup x=some c→c≠b) ∧ ∀ p ∈ X.pn++pins,p.1≠b):Inv X pins σ H' s':=by
  obtain ⟨h',g',d',t',o'⟩:=s'
  have e:o'=s.os:=ho
  subst e
  exact I.call (g':=g') (t':=t') (d':=d') u hok hg hch
end
abbrev XK:=Value→Option Addr→Hp→Prop
abbrev St:=List (Option V)
abbrev VK:=V→Hp→Prop
abbrev TE:=St→Hp→VK→Prop
abbrev TT:=St→Hp→(Bool→Hp→Prop)→Prop
abbrev TA:=St→Hp→(List V→Hp→Prop)→Prop
structure Ends where
 nx:St→Hp→Prop
 rt:VK
 bk:St→Hp→Prop:=fun _ _=>False
 ct:St→Hp→Prop:=fun _ _=>False
abbrev TS:=Ends→St→Hp→Prop
def EP (X:Cx) (pins:List (Addr×Obj)) (σ:St) (Q:VK) (u:Value) (s':Shared):Prop := ∃ v H',Inv X pins σ H' s'∧RelV v u∧Q v H'
def TP (X:Cx) (pins:List (Addr×Obj)) (σ:St) (Q:Bool→Hp→Prop) (b:Bool) (s':Shared):Prop := ∃ H',Inv X pins σ H' s'∧Q b H'
def AP (X:Cx) (pins:List (Addr×Obj)) (σ:St) (Q:List V→Hp→Prop) (us:List Value) (s':Shared):Prop := ∃ vs H',Inv X pins σ H' s'∧Vals vs us∧Q vs H'
def SP (X:Cx) (pins:List (Addr×Obj)) (D:Ends) (f:Flow) (s':Shared):Prop :=
 match f with
 | .next => ∃ σ' H',Inv X pins σ' H' s'∧D.nx σ' H'
 | .brk => ∃ σ' H',Inv X pins σ' H' s'∧D.bk σ' H'
 | .cont => ∃ σ' H',Inv X pins σ' H' s'∧D.ct σ' H'
 | .ret u => ∃ v σ' H',Inv X pins σ' H' s'∧RelV v u∧D.rt v H'
def PE (X:Cx) (e:Expr) (t:TE):Prop :=
 ∀ (pins:List (Addr×Obj)) (s:Shared) (σ:St) (H:Hp) (Q:VK),Inv X pins σ H s→t σ H Q→wpAny (model X.prog X.w) X.A (eval e X.env) (EP X pins σ Q) X.xe s
def PT (X:Cx) (e:Expr) (t:TT):Prop :=
 ∀ (pins:List (Addr×Obj)) (s:Shared) (σ:St) (H:Hp) (Q:Bool→Hp→Prop),Inv X pins σ H s→t σ H Q→wpAny (model X.prog X.w) X.A (isTrue e X.env (eval e X.env)) (TP X pins σ Q) X.xe s
def PW (X:Cx) (e:Expr) (t:TT):Prop :=
 ∀ (whole:Sem Value) (pins:List (Addr×Obj)) (s:Shared) (σ:St) (H:Hp) (Q:Bool→Hp→Prop),Inv X pins σ H s→t σ H Q→wpAny (model X.prog X.w) X.A (isTrue e X.env whole) (TP X pins σ Q) X.xe s
theorem PW.pt {X:Cx}{e:Expr}{t:TT} (h:PW X e t):PT X e t:=h _
def PA (X:Cx) (es:List Expr) (t:TA):Prop :=
 ∀ (pos:Pos) (pins:List (Addr×Obj)) (s:Shared) (σ:St) (H:Hp) (Q:List V→Hp→Prop),Inv X pins σ H s→t σ H Q→wpAny (model X.prog X.w) X.A (spliced (backTo pos (starEach es X.env))) (AP X pins σ Q) X.xe s
def PS (X:Cx) (st:Stmt) (t:TS):Prop :=
 ∀ (pins:List (Addr×Obj)) (s:Shared) (σ:St) (H:Hp) (D:Ends),Inv X pins σ H s→t D σ H→wpAny (model X.prog X.w) X.A (exec st X.env) (SP X pins D) X.xe s
def PSs (X:Cx) (st:List Stmt) (t:TS):Prop :=
 ∀ (pins:List (Addr×Obj)) (s:Shared) (σ:St) (H:Hp) (D:Ends),Inv X pins σ H s→t D σ H→wpAny (model X.prog X.w) X.A (execs st X.env) (SP X pins D) X.xe s
theorem thn {α:Type}{t:Sem α}{Q Q':α→Shared→Prop}{M:Model}{A:Around}{E:Value→Shared→Prop}{s:Shared} (h:wpAny M A t Q E s) (hQ : ∀ a s,Q a s→Q' a s):wpAny M A t Q' E s:=wpAny_mono h hQ fun _ _ x=>x
end L2
namespace L2
open PySem PySem.Spec PyProof.Rows
section
variable {X:Cx}
def tVar (i:Nat):TE:=fun σ H Q => ∃ v,σ[i]?=some (some v)∧Q v H
def tC (v:V):TE:=fun _ H Q=>Q v H
theorem pe_var {i:Nat}{x:Str}{pos:Pos} (hN:X.N[i]?=some x) (hv:Vis X.env.scope x) (hd:(x==("__debug__" : Str))=false:=by decide) (hcd:(x==("__classdict__" : Str))=false:=by decide):PE X (.Name x pos) (tVar i):=by
 intro pins s σ H Q I h
 obtain ⟨v,e,h⟩:=h
 obtain ⟨m,hn,hl⟩:=I.loc
 obtain ⟨u,r,l⟩:=hl i x v hN e hv
 have fin:EP X pins σ Q u s:=⟨v,H,I,r,h⟩
 rcases l with ⟨hk,hm⟩|⟨hk,c,hc,hcell⟩
 ·exact wpAny_Name (wpAny_loadName_local I.ok.kind hk hn hm fin) hd
 ·rcases hk with hk|hk
  ·exact wpAny_Name (wpAny_loadName_cell I.ok.kind hk hc hcell fin) hd
  ·exact wpAny_Name (wpAny_loadName_free I.ok.kind hk hc hcell fin hcd) hd
theorem pe_int {i j pos}:PE X (.Constant (.int i) j pos) (tC (.int i)):=fun _ _ _ H _ I h=>wpAny_Constant_int ⟨.int i,H,I.tok _,⟨_,rfl⟩,h⟩
theorem pe_bl {b j pos}:PE X (.Constant (.bool b) j pos) (tC (.bl b)):=fun _ _ _ H _ I h=>Constant_bool ⟨.bl b,H,I,rfl,h⟩
theorem pe_non {j pos}:PE X (.Constant .none j pos) (tC .non):=fun _ _ _ H _ I h=>Constant_none ⟨.non,H,I,rfl,h⟩
theorem pe_str {x j pos}:PE X (.Constant (.str x) j pos) (tC (.str x)):=fun _ _ _ H _ I h=>Calls.Constant_str ⟨.str x,H,I.tok _,⟨_,rfl⟩,h⟩
def Gl (X:Cx) (x:Str):Prop:=X.env.kindOf x=some .globalImplicit
theorem ld_glob {E:Value→Shared→Prop}{pins:List (Addr×Obj)}{s:Shared}{σ:St}{H:Hp}{x:Str}{u:Value}{pos:Pos}{Q:Value→Shared→Prop} (I:Inv X pins σ H s) (hg:Gl X x) (hm:X.mg x=some u) (h:Q u s)
 (hd:(x==("__debug__" : Str))=false:=by decide):wpAny (model X.prog X.w) X.A (eval (.Name x pos) X.env) Q E s :=
  Calls.Name_function_global I.ok.kind hg (Calls.loadGlobal_global (by rw [I.ok.glob];exact I.mod.glob.keeps I.bk) hm h) hd
theorem ld_blt {E:Value→Shared→Prop}{pins:List (Addr×Obj)}{s:Shared}{σ:St}{H:Hp}{x:Str}{u:Value}{pos:Pos}{Q:Value→Shared→Prop} (I:Inv X pins σ H s) (hg:Gl X x) (hm:X.mg x=none) (hv:bootBuiltins x=some u) (h:Q u s)
 (hn:x ≠ "__name__":=by decide) (hd:(x==("__debug__" : Str))=false:=by decide):wpAny (model X.prog X.w) X.A (eval (.Name x pos) X.env) Q E s:=by
  obtain ⟨mb,h1,h2⟩:=I.mod.blt
  exact Calls.Name_function_global I.ok.kind hg (Calls.loadGlobal_builtin (by rw [I.ok.glob];exact I.mod.glob.keeps I.bk) hm (by rw [I.ok.blt];exact h1.keeps I.bk) ((h2 x hn).trans hv) h) hd
theorem pe_glob {x:Str}{v:V}{u:Value}{pos:Pos} (hg:Gl X x) (hm:X.mg x=some u) (r:RelV v u) (hd:(x==("__debug__" : Str))=false:=by decide):PE X (.Name x pos) (tC v) :=
 fun _ _ _ H _ I h=>ld_glob I hg hm ⟨v,H,I,r,h⟩ hd
theorem pe_bltn {x:Str}{v:V}{u:Value}{pos:Pos} (hg:Gl X x) (hm:X.mg x=none) (hv:bootBuiltins x=some u) (r:RelV v u) (hn:x ≠ "__name__":=by decide) (hd:(x==("__debug__" : Str))=false:=by decide):PE X (.Name x pos) (tC v) :=
 fun _ _ _ H _ I h=>ld_blt I hg hm hv ⟨v,H,I,r,h⟩ hn hd
variable {a b:Expr}{ta tb:TE}{pos:Pos}
theorem nobehind (b:Expr) {op:CmpOp} (h:op ≠ .In) (h2:op ≠ .NotIn):behindInMarks op b=false:=by
 have e1:(op==CmpOp.In)=false:=by cases op <;> first|rfl|exact absurd rfl h
 have e2:(op==CmpOp.NotIn)=false:=by cases op <;> first|rfl|exact absurd rfl h2
 cases b <;> simp [behindInMarks,e1,e2]
def tB (t:TE):TT:=fun σ H Q=>t σ H fun x H1 => ∃ c,x = .bl c∧Q c H1
theorem pt_val {e:Expr}{t:TE} (h:PE X e t) (he : ∀ whole,isTrue e X.env whole=(do let v ← whole;standAt e.pos;holding [v] (truthy v)):=by intro _;rfl):PT X e (tB t):=by
 intro pins s σ H Q I hw
 refine isTrue_plain (thn (h pins s σ H _ I hw) fun v s1 xx2=>?_) (he _)
 obtain ⟨x,H1,I1,r1,q1⟩:=xx2
 obtain ⟨d,rfl,q⟩:=q1
 cases r1
 exact wpAny_truthy_bool ⟨H1,I1,q⟩
variable {tA tB':TT}{rest:List Expr}
def tOr (t u:TT):TT:=fun σ H Q=>t σ H fun c H1=>if c=true then Q true H1 else u σ H1 Q
def tNot (t:TT):TT:=fun σ H Q=>t σ H fun c H1=>Q (!c) H1
theorem pw_or1 (ha:PT X a tA):PW X (.BoolOp .Or [a] pos) tA:=by
 intro wh pins s σ H Q I h
 refine isTrue_or (thn (ha pins s σ H Q I h) fun c s1 e=>?_)
 cases c with
 | false=>exact isTrue_or_nil e
 | true=>exact e
theorem pw_or (ha:PT X a tA) (hb:PW X (.BoolOp .Or (b::rest) pos) tB'):PW X (.BoolOp .Or (a::b::rest) pos) (tOr tA tB'):=by
 intro wh pins s σ H Q I h
 refine isTrue_or (thn (ha pins s σ H _ I h) fun c s1 xx3=>?_)
 obtain ⟨H1,I1,q1⟩:=xx3
 cases c with
 | true=>exact ⟨H1,I1,q1⟩
 | false=>exact hb wh pins s1 σ H1 Q I1 q1
theorem pt_not (ha:PT X a tA):PT X (.UnaryOp .Not a pos) (tNot tA):=by
 intro pins s σ H Q I h
 exact isTrue_not (ha pins s σ H (fun c H1=>Q (!c) H1) I h)
def tAndV (ta tb:TE):TE:=fun σ H Q=>ta σ H fun x H1 => ∃ c,x = .bl c∧if c=true then tb σ H1 Q else Q (.bl false) H1
def tOrV (ta tb:TE):TE:=fun σ H Q=>ta σ H fun x H1 => ∃ c,x = .bl c∧if c=true then Q (.bl true) H1 else tb σ H1 Q
def tNotV (ta:TE):TE:=fun σ H Q=>ta σ H fun x H1 => ∃ c,x = .bl c∧Q (.bl (!c)) H1
theorem pe_one {op}{t:TE} (h:PE X a t):PE X (.BoolOp op [a] pos) t:=fun pins s σ H Q I hw=>BoolOp_one (h pins s σ H Q I hw)
theorem pe_and (ha:PE X a ta) (hb:PE X (.BoolOp .And (b::rest) pos) tb):PE X (.BoolOp .And (a::b::rest) pos) (tAndV ta tb):=by
 intro pins s σ H Q I h
 refine BoolOp_and (thn (ha pins s σ H _ I h) fun v s1 xx4=>?_)
 obtain ⟨x,H1,I1,r1,q1⟩:=xx4
 obtain ⟨c,rfl,q1⟩:=q1
 cases r1
 refine wpAny_truthy_bool ?_
 cases c with
 | true=>exact hb pins s1 σ H1 Q I1 q1
 | false=>exact ⟨.bl false,H1,I1,rfl,q1⟩
theorem pe_or (ha:PE X a ta) (hb:PE X (.BoolOp .Or (b::rest) pos) tb):PE X (.BoolOp .Or (a::b::rest) pos) (tOrV ta tb):=by
 intro pins s σ H Q I h
 refine BoolOp_or (thn (ha pins s σ H _ I h) fun v s1 xx5=>?_)
 obtain ⟨x,H1,I1,r1,q1⟩:=xx5
 obtain ⟨c,rfl,q1⟩:=q1
 cases r1
 refine wpAny_truthy_bool ?_
 cases c with
 | false=>exact hb pins s1 σ H1 Q I1 q1
 | true=>exact ⟨.bl true,H1,I1,rfl,q1⟩
theorem pe_not (ha:PE X a ta):PE X (.UnaryOp .Not a pos) (tNotV ta):=by
 intro pins s σ H Q I h
 refine UnaryOp_ (thn (ha pins s σ H _ I h) fun v s1 xx6=>?_)
 obtain ⟨x,H1,I1,r1,q1⟩:=xx6
 obtain ⟨c,rfl,q1⟩:=q1
 cases r1
 exact not_of (wpAny_truthy_bool ⟨.bl (!c),H1,I1,rfl,q1⟩)
def tIf (t:TT) (ta tb:TE):TE:=fun σ H Q=>t σ H fun c H1=>if c=true then ta σ H1 Q else tb σ H1 Q
theorem pe_ifExp {c:Expr} (hc:PT X c tA) (ha:PE X a ta) (hb:PE X b tb):PE X (.IfExp c a b pos) (tIf tA ta tb):=by
 intro pins s σ H Q I h
 refine wpAny_IfExp (thn (hc pins s σ H _ I h) fun d s1 xx7=>?_)
 obtain ⟨H1,I1,q1⟩:=xx7
 cases d with
 | true=>exact ha pins s1 σ H1 Q I1 q1
 | false=>exact hb pins s1 σ H1 Q I1 q1
end
end L2
namespace L2
open PySem PySem.Spec PyProof.Rows
def SqL (K:PySem.W.Frag) (H:Hp) (a:Addr) (xs:List V):Prop :=
 Rd H a (.lst xs) ∨
  ∃ (o:Obj) (its:Array Value) (n:Nat),K.lookup a=some o∧o.cls = .type "list" ∧ o.dict=none∧o.data = .seq its n∧its.size≤sizeLine∧Vals xs its.toList
def SqT (K:PySem.W.Frag) (H:Hp) (a:Addr) (xs:List V):Prop :=
 Rd H a (.tup xs) ∨
  ∃ (o:Obj) (its:Array Value) (n:Nat),K.lookup a=some o∧o.cls = .type "tuple" ∧ o.data = .seq its n∧its.size≤sizeLine∧Vals xs its.toList
def absV:Value→Option V
 | .none=>some .non
 | .bool b=>some (.bl b)
 | .int i _=>some (.int i)
 | .str x _=>some (.str x)
 | .bytes b _=>some (.byt b)
 | .float b _=>some (.flt b)
 | .ref a=>some (.ref a)
 | .type n=>some (.ty n)
 | _=>none
theorem RelV.abs {x:V}{u:Value} (r:RelV x u):absV u=some x:=by
 cases x with
 | non=>cases r;rfl
 | bl _=>cases r;rfl
 | int _=>obtain ⟨t,rfl⟩:=r;rfl
 | str _=>obtain ⟨t,rfl⟩:=r;rfl
 | byt _=>obtain ⟨t,rfl⟩:=r;rfl
 | flt _=>obtain ⟨t,rfl⟩:=r;rfl
 | ref _=>cases r;rfl
 | ty _=>cases r;rfl
theorem RelV.inj {x y:V}{u:Value} (r:RelV x u) (q:RelV y u):x=y:=Option.some.inj (r.abs.symm.trans q.abs)
theorem Vals.inj : ∀ {xs ys:List V}{us:List Value},Vals xs us→Vals ys us→xs=ys
 | _,_,_,.nil,.nil=>rfl
 | _,_,_,.cons r t,.cons r' t'=>by rw [r.inj r',Vals.inj t t']
section
variable {X:Cx}{pins:List (Addr×Obj)}{σ:St}{H:Hp}{s:Shared}{a:Addr}{xs ys:List V}
theorem SqL.of {K:PySem.W.Frag} (h:H a=some (.lst xs)):SqL K H a xs :=.inl (.inl h)
theorem SqT.of {K:PySem.W.Frag} (h:H a=some (.tup xs)):SqT K H a xs :=.inl (.inl h)
theorem Inv.list (I:Inv X pins σ H s) (h:SqL X.K H a xs) : ∃ its:List Value,Vals xs its∧PlainL s.heap a its.toArray∧xs.length≤sizeLine:=by
 rcases h with h|⟨o,its,n,hk,hc,hd,hs,hz,r⟩
 ·obtain ⟨z,its,n,r,e⟩:=h.ok I.hok
  exact ⟨its,r,⟨_,n,e,rfl,rfl,rfl⟩,z⟩
 ·refine ⟨its.toList,r,⟨o,n,I.kIn a o hk,hc,hd,by simpa using hs⟩,?_⟩
  have e:=r.length
  simp only [Array.length_toList] at e
  omega
theorem Inv.tuple (I:Inv X pins σ H s) (h:SqT X.K H a xs) : ∃ its:List Value,Vals xs its∧IsTup s.heap a its.toArray∧xs.length≤sizeLine:=by
 rcases h with h|⟨o,its,n,hk,hc,hs,hz,r⟩
 ·obtain ⟨z,its,r,p⟩:=h.ok I.hok
  exact ⟨its,r,p,z⟩
 ·refine ⟨its.toList,r,⟨o,I.kIn a o hk,hc,n,by simpa using hs⟩,?_⟩
  have e:=r.length
  simp only [Array.length_toList] at e
  omega
theorem Inv.list_inj (I:Inv X pins σ H s) (h:SqL X.K H a xs) (h':SqL X.K H a ys):xs=ys:=by
 obtain ⟨its,r,⟨o,n,e,_,_,d⟩,_⟩:=I.list h
 obtain ⟨its',r',⟨o',n',e',_,_,d'⟩,_⟩:=I.list h'
 rw [e] at e';cases e'
 rw [d] at d'
 injection d' with d1 _
 have:its=its':=by simpa using congrArg Array.toList d1
 subst this
 exact r.inj r'
theorem Inv.tuple_inj (I:Inv X pins σ H s) (h:SqT X.K H a xs) (h':SqT X.K H a ys):xs=ys:=by
 obtain ⟨its,r,⟨o,e,_,n,d⟩,_⟩:=I.tuple h
 obtain ⟨its',r',⟨o',e',_,n',d'⟩,_⟩:=I.tuple h'
 rw [e] at e';cases e'
 rw [d] at d'
 injection d' with d1 _
 have:its=its':=by simpa using congrArg Array.toList d1
 subst this
 exact r.inj r'
end
abbrev Cx.wish (X:Cx) (E:Value→Shared→Prop):Cx:={ X with xe:=E }
abbrev Cx.nox (X:Cx):Cx:=X.wish fun _ _=>False
theorem Cx.Ok.wish {X:Cx} (ok:X.Ok) (E:Value→Shared→Prop):(X.wish E).Ok :=
 ⟨ok.mod,ok.kind,ok.glob,ok.blt,ok.above,ok.inj,ok.has,ok.cab,ok.hd,ok.frames,ok.stk,ok.exf,ok.bs,ok.bsz,ok.noex,ok.exfs,ok.funs,ok.frf⟩
theorem Cx.Ok.unwish {X:Cx}{E:Value→Shared→Prop} (ok:(X.wish E).Ok):X.Ok :=
 ⟨ok.mod,ok.kind,ok.glob,ok.blt,ok.above,ok.inj,ok.has,ok.cab,ok.hd,ok.frames,ok.stk,ok.exf,ok.bs,ok.bsz,ok.noex,ok.exfs,ok.funs,ok.frf⟩
section
variable {X:Cx}{pins:List (Addr×Obj)}{σ:St}{H:Hp}{s:Shared}{E:Value→Shared→Prop}
theorem Inv.wish (I:Inv X pins σ H s) (E:Value→Shared→Prop):Inv (X.wish E) pins σ H s:=⟨I.ok.wish E,I.os,I.bare,I.base,I.loc,I.cell,I.free,I.freeC,I.pin,I.hok,I.len⟩
theorem Inv.unwish (I:Inv (X.wish E) pins σ H s):Inv X pins σ H s:=⟨I.ok.unwish,I.os,I.bare,I.base,I.loc,I.cell,I.free,I.freeC,I.pin,I.hok,I.len⟩
theorem SP.unwish {D:Ends}{f:Flow}{s':Shared} (h:SP (X.wish E) pins D f s'):SP X pins D f s':=by
 cases f with
 | next=>obtain ⟨σ',H',I,q⟩:=h;exact ⟨σ',H',I.unwish,q⟩
 | brk=>obtain ⟨σ',H',I,q⟩:=h;exact ⟨σ',H',I.unwish,q⟩
 | cont=>obtain ⟨σ',H',I,q⟩:=h;exact ⟨σ',H',I.unwish,q⟩
 | ret u=>obtain ⟨v,σ',H',I,r,q⟩:=h;exact ⟨v,σ',H',I.unwish,r,q⟩
theorem PSs.nox {st:List Stmt}{t:TS} (h:PSs X.nox st t):PSs X st t:=fun pins s σ H D I hw =>
 wpAny_mono (h pins s σ H D (I.wish _) hw) (fun _ _ q=>q.unwish) fun _ _ z=>False.elim z
end
section
variable {X:Cx}{st:Stmt}{rest:List Stmt}{t u:TS}{e:Expr}{te:TE}{pos:Pos}
def tNext:TS:=fun D σ H=>D.nx σ H
def tSeq (t u:TS):TS:=fun D σ H=>t { D with nx:=u D } σ H
theorem pss_nil:PSs X [] tNext:=fun _ _ σ H _ I h=>wpAny_execs_nil ⟨σ,H,I,h⟩
theorem pss_cons (h1:PS X st t) (h2:PSs X rest u):PSs X (st::rest) (tSeq t u):=by
 intro pins s σ H D I h
 refine wpAny_execs_cons (thn (h1 pins s σ H { D with nx:=u D } I h) fun f s1 q=>?_)
 cases f with
 | next =>
  obtain ⟨σ',H',I',q⟩:=q
  exact h2 pins s1 σ' H' D I' q
 | ret v=>exact q
 | brk=>exact q
 | cont=>exact q
theorem pss_one (h1:PS X st t):PSs X [st] t:=by
 intro pins s σ H D I h
 refine wpAny_execs_cons (thn (h1 pins s σ H D I h) fun f s1 q=>?_)
 cases f with
 | next=>exact wpAny_execs_nil q
 | ret v=>exact q
 | brk=>exact q
 | cont=>exact q
theorem Inv.quiet {pins:List (Addr×Obj)}{σ:St}{H:Hp}{s:Shared} (I:Inv X pins σ H s):interactive X.env=false:=by simp [interactive,I.ok.kind]
def tDrop (te:TE):TS:=fun D σ H=>te σ H fun _ H1=>D.nx σ H1
theorem ps_expr (he:PE X e te) (hs:swapsWith e none pos.line X.env=pure false:=by rfl):PS X (.Expr e pos) (tDrop te):=by
 intro pins s σ H D I h
 exact wpAny_Expr_any (thn (he pins s σ H _ I h) fun v s1 xx10=>by obtain ⟨x,H1,I1,r1,q1⟩:=xx10;exact ⟨σ,H1,I1,q1⟩) I.quiet hs
def tRet (te:TE):TS:=fun D σ H=>te σ H D.rt
theorem ps_ret (he:PE X e te):PS X (.Return (some e) pos) (tRet te):=by
 intro pins s σ H D I h
 exact wpAny_Return_some (thn (he pins s σ H _ I h) fun v s1 xx11=>by obtain ⟨x,H1,I1,r1,q1⟩:=xx11;exact ⟨x,σ,H1,I1,r1,q1⟩)
def tIfS (c:TT) (t u:TS):TS:=fun D σ H=>c σ H fun b H1=>if b=true then t D σ H1 else u D σ H1
theorem ps_if {c:Expr}{a b:List Stmt}{tc:TT} (hc:PT X c tc) (ha:PSs X a t) (hb:PSs X b u):PS X (.If c a b pos) (tIfS tc t u):=by
 intro pins s σ H D I h
 refine wpAny_If (thn (hc pins s σ H _ I h) fun d s1 xx12=>?_)
 obtain ⟨H1,I1,q1⟩:=xx12
 cases d with
 | true=>exact ha pins s1 σ H1 D I1 q1
 | false=>exact hb pins s1 σ H1 D I1 q1
def tNever:TS:=fun _ _ _=>False
theorem pss_never {sts:List Stmt}:PSs X sts tNever:=fun _ _ _ _ _ _ h=>h.elim
end
abbrev TG:=V→St→Hp→(St→Hp→Prop)→Prop
abbrev TGs:=List V→St→Hp→(St→Hp→Prop)→Prop
def PG (X:Cx) (target:Expr) (t:TG):Prop :=
 ∀ (pins:List (Addr×Obj)) (s:Shared) (σ:St) (H:Hp) (v:V) (u:Value) (Q:St→Hp→Prop),Inv X pins σ H s→RelV v u→t v σ H Q →
  wpAny (model X.prog X.w) X.A (assign target X.env u) (fun _ s' => ∃ σ' H',Inv X pins σ' H' s'∧Q σ' H') X.xe s
def PGs (X:Cx) (ts:List Expr) (t:TGs):Prop :=
 ∀ (pins:List (Addr×Obj)) (s:Shared) (σ:St) (H:Hp) (vs:List V) (us:List Value) (Q:St→Hp→Prop),Inv X pins σ H s→Vals vs us→t vs σ H Q →
  wpAny (model X.prog X.w) X.A (assignInOrder ((assignEach ts X.env).map (·.2)) us) (fun _ s' => ∃ σ' H',Inv X pins σ' H' s'∧Q σ' H') X.xe s
abbrev TSet:=V→V→V→Hp→(Hp→Prop)→Prop
def PSet (X:Cx) (t:TSet):Prop :=
 ∀ (pins:List (Addr×Obj)) (s:Shared) (σ:St) (H:Hp) (o i v:V) (ov iv u:Value) (Q:Hp→Prop),Inv X pins σ H s→RelV o ov→RelV i iv→RelV v u→t o i v H Q →
  wpAny (model X.prog X.w) X.A (setItem ov iv u) (fun _ s' => ∃ H',Inv X pins σ H' s'∧Q H') X.xe s
section
variable {X:Cx}{pos:Pos}
def gName (i:Nat):TG:=fun v σ H Q=>Q (σ.set i (some v)) H
theorem pg_name {i:Nat}{x:Str} (hN:X.N.Nodup) (hi:X.N[i]?=some x) (hx:Loc X.env.scope x) (hf:X.fn x=true∨X.env.scope.names.lookup x=some .local:=by first|exact .inl rfl|exact .inr rfl|assumption):PG X (.Name x pos) (gName i):=by
 intro pins s σ H v u Q I r h
 exact wpAny_assign_Name (store_ok I hN hi hx r (fun s' I'=>⟨_,H,I',h⟩) hf)
def gNil:TGs:=fun vs σ H Q=>vs=[]∧Q σ H
def gCons (t:TG) (u:TGs):TGs:=fun vs σ H Q => ∃ v r,vs=v::r∧t v σ H fun σ' H'=>u r σ' H' Q
theorem pgs_nil:PGs X [] gNil:=by
 intro pins s σ H vs us Q I r h
 obtain ⟨e,h⟩:=h
 subst e
 cases r
 exact assignInOrder_nil ⟨σ,H,I,h⟩
theorem pgs_cons {e:Expr}{es:List Expr}{t:TG}{u:TGs} (h1:PG X e t) (h2:PGs X es u)
 (hs:(assignEach (e::es) X.env).map (·.2)=assign e X.env::(assignEach es X.env).map (·.2):=by rfl):PGs X (e::es) (gCons t u):=by
  intro pins s σ H vs us Q I r h
  obtain ⟨v,vr,e1,h⟩:=h
  subst e1
  cases r with
  | cons r rr =>
   rw [hs]
   refine assignInOrder_cons (thn (h1 pins s σ H _ _ _ I r h) fun _ s1 xx13=>?_)
   obtain ⟨σ1,H1,I1,q1⟩:=xx13
   exact h2 pins s1 σ1 H1 _ _ Q I1 rr q1
def gTup (K:PySem.W.Frag) (n:Nat) (t:TGs):TG:=fun v σ H Q => ∃ a xs,v = .ref a∧SqT K H a xs∧xs.length=n∧t xs σ H Q
theorem pg_tup {es:List Expr}{k:Nat}{t:TGs}{n:Nat} (hc:X.calm=true) (h:PGs X es t)
 (hn:(assignEach es X.env).length=n:=by rfl) (hst:(assignEach es X.env).findIdx? (·.1)=none:=by rfl):PG X (.Tuple es k pos) (gTup X.K n t):=by
  intro pins s σ H v u Q I r hw
  obtain ⟨a,xs,e1,hq,hl,hw⟩:=hw
  subst e1
  cases r
  obtain ⟨its,rv,ht,hz⟩:=I.tuple hq
  refine assign_Tuple_tuple (I.ok.hd hc) ht (by simp [hn,← hl,rv.length]) hst fun h' hx=>?_
  have I1:Inv X pins σ H { s with heap:=h' }:=I.kept (t':=s.toks) fun b o e=>hx b o (Nat.ne_of_lt (Heap.lt_size e)) e
  exact h pins _ σ H xs _ Q I1 (by simpa using rv) hw
def gSub (to ti:TE) (t:TSet):TG:=fun v σ H Q=>to σ H fun o H1=>ti σ H1 fun i H2=>t o i v H2 fun H3=>Q σ H3
theorem pg_sub {o i:Expr}{to ti:TE}{t:TSet} (ho:PE X o to) (hi:PE X i ti) (hs:PSet X t)
 (ha : ∀ v,assign (.Subscript o i pos) X.env v=(do
 let ov ← holding [v] (eval o X.env)
 let iv ← holding [v,ov] (eval i X.env)
 standAt pos
 holding [v,ov,iv] (setItem ov iv v)
 release [v,ov,iv] []):=by intro _;rfl):PG X (.Subscript o i pos) (gSub to ti t):=by
  intro pins s σ H v u Q I r h
  rw [ha]
  refine wpAny_bind (wpAny_holding (thn (ho pins s σ H _ I h) fun ov s1 xx16=>?_))
  obtain ⟨x,H1,I1,r1,q1⟩:=xx16
  refine wpAny_bind (wpAny_holding (thn (hi pins s1 σ H1 _ I1 q1) fun iv s2 xx15=>?_))
  obtain ⟨y,H2,I2,r2,q2⟩:=xx15
  refine wpAny_bind (wpAny_standAt (wpAny_bind (wpAny_holding (thn (hs pins s2 σ H2 x y v ov iv u _ I2 r1 r2 r q2) fun _ s3 xx14=>?_))))
  obtain ⟨H3,I3,q3⟩:=xx14
  exact wpAny_release ⟨σ,H3,I3,q3⟩
def tAsg (te:TE) (g:TG):TS:=fun D σ H=>te σ H fun x H1=>g x σ H1 D.nx
theorem ps_asg {tg e:Expr}{te:TE}{g:TG} (he:PE X e te) (hg:PG X tg g) (hs:swapsWithSole [tg] e pos.line X.env=pure false:=by rfl) (hw:swappedStores [tg] e X.env=pure none:=by rfl)
 (h1:(assignEach [tg] X.env).map (·.2)=[assign tg X.env]:=by rfl):PS X (.Assign [tg] e pos) (tAsg te g):=by
 intro pins s σ H D I h
 refine wpAny_Assign_stores (thn (he pins s σ H _ I h) fun v s1 xx17=>?_) hs hw
 obtain ⟨x,H1,I1,r1,q1⟩:=xx17
 rw [h1]
 exact thn (hg pins s1 σ H1 x v _ I1 r1 q1) fun _ s2 q=>q
theorem ps_set {i:Nat}{x:Str}{e:Expr}{te:TE}{pos':Pos} (hN:X.N.Nodup) (hi:X.N[i]?=some x) (hx:Loc X.env.scope x) (he:PE X e te) (hs:swapsWith e (some (.Name x pos')) pos.line X.env=pure false:=by rfl) (hf:X.fn x=true∨X.env.scope.names.lookup x=some .local:=by first|exact .inl rfl|exact .inr rfl|assumption) :
 PS X (.Assign [.Name x pos'] e pos) (tAsg te (gName i)):=by
 intro pins s σ H D I h
 refine wpAny_Assign_Name (thn (he pins s σ H _ I h) fun v s1 xx18=>?_) hs
 obtain ⟨y,H1,I1,r1,q1⟩:=xx18
 exact store_ok I1 hN hi hx r1 (fun s2 I2=>⟨_,H1,I2,q1⟩) hf
def tPar (i j:Nat) (ta:TA):TS:=fun D σ H=>ta σ H fun vs H1 => ∃ v w,vs=[v,w]∧D.nx ((σ.set i (some v)).set j (some w)) H1
theorem ps_par {i j:Nat}{x y:Str}{a b:Expr}{ta:TA}{px py pt:Pos}{kt k2 pt2} (hc:X.calm=true) (hN:X.N.Nodup) (hi:X.N[i]?=some x) (hj:X.N[j]?=some y) (hij:i≠j)
 (hx:X.env.scope.names.lookup x=some .local) (hy:X.env.scope.names.lookup y=some .local) (ha:PA X [a,b] ta)
 (hw:swappedStores [.Tuple [.Name x px,.Name y py] kt pt] (.Tuple [a,b] k2 pt2) X.env=pure (some [x,y]))
 (hs:swapsWithSole [.Tuple [.Name x px,.Name y py] kt pt] (.Tuple [a,b] k2 pt2) pos.line X.env=pure false:=by rfl) :
  PS X (.Assign [.Tuple [.Name x px,.Name y py] kt pt] (.Tuple [a,b] k2 pt2) pos) (tPar i j ta):=by
  intro pins s σ H D I h
  rw [exec_Assign_arm]
  refine wpAny_bind (wpAny_standAt ?_)
  rw [hs]
  refine wpAny_bind (wpAny_pure ?_)
  rw [if_neg (by decide)]
  refine wpAny_bind (Tuple_ (thn (ha _ pins s σ H _ I h) fun us s1 xx19=>?_))
  obtain ⟨vs,H1,I1,r1,q1⟩:=xx19
  obtain ⟨v,w,e1,q1⟩:=q1
  subst e1
  obtain ⟨u1,u2,rfl,rv,rw'⟩ : ∃ u1 u2,us=[u1,u2]∧RelV v u1∧RelV w u2:=by
   cases r1 with
   | cons p q =>
    cases q with
    | cons p' q' =>
     cases q'
     exact ⟨_,_,rfl,p,p'⟩
  refine wpAny_newObj_type ?_ (by show 2≤sizeLine;decide)
  have I2:Inv X pins σ H1 { s1 with heap:=s1.heap.push { cls :=.type "tuple",data :=.seq [u1,u2].toArray } }:=I1.kept (t':=s1.toks) fun b o e=>Heap.get?_push_of_some _ e
  rw [hw]
  refine wpAny_bind (wpAny_pure ?_)
  show wpAny (model X.prog X.w) X.A (do rule "assign.swapped-stores";let items ← unpackItems (.ref s1.heap.objs.size) 2 none;assignInOrder [fun v=>bindName X.env y v,fun v=>bindName X.env x v] items.reverse;pure Flow.next) _ _ _
  refine wpAny_bind (wpAny_rule (wpAny_bind (unpackItems_tuple (items := #[u1,u2]) (I.ok.hd hc) (IsTup.new s1.heap _) fun h' hx'=>?_)))
  have I3:=I2.kept (h':=h') (t':=s1.toks) fun b o e=>hx' b o (Nat.ne_of_lt (Heap.lt_size e)) e
  show wpAny _ _ (assignInOrder [fun v=>bindName X.env y v,fun v=>bindName X.env x v] [u2,u1] >>= fun _=>pure Flow.next) _ _ _
  refine wpAny_bind (assignInOrder_cons (wpAny_bindName (store_ok I3 hN hj (.inl hy) rw' (fun s2 I4=>?_) (.inr hy))))
  refine assignInOrder_cons (wpAny_bindName (store_ok I4 hN hi (.inl hx) rv (fun s3 I5=>assignInOrder_nil (wpAny_pure ?_)) (.inr hx)))
  rw [List.set_comm _ _ (Ne.symm hij)] at I5
  exact ⟨_,H1,I5,q1⟩
end
section
variable {X:Cx}{pos:Pos}
def tWhile (c:TT) (tb:TS):TS:=fun D σ H => ∃ W:Nat→St→Hp→Prop,(∃ m,W m σ H) ∧ ∀ m σ H,W m σ H →
 c σ H fun b H1=>if b=true then ∃ N:St→Hp→Prop,(∀ σ' H',N σ' H' → ∃ m',m'<m∧W m' σ' H')∧tb { D with nx:=N,ct:=N,bk:=D.nx } σ H1 else D.nx σ H1
theorem ps_while {c:Expr}{body:List Stmt}{tc:TT}{tb:TS} (hp:PassesOwn (model X.prog X.w) X.A X.env X.xe) (hc:PT X c tc) (hb:PSs X body tb):PS X (.While c body [] pos) (tWhile tc tb):=by
 intro pins s σ H D I h
 obtain ⟨W,⟨m0,w0⟩,turn⟩:=h
 refine wpAny_While (codeAny_whileLoop (fun n s' => ∃ σ' H',Inv X pins σ' H' s'∧W n σ' H') ?_ m0 ⟨σ,H,I,w0⟩)
 rintro n s1 ⟨σ1,H1,I1,w1⟩
 refine wpAny_passesOwn hp (thn (hc pins s1 σ1 H1 _ I1 (turn n σ1 H1 w1)) fun b s2 xx20=>?_)
 obtain ⟨H2,I2,q2⟩:=xx20
 cases b with
 | true =>
  obtain ⟨N,hN,q2⟩:=q2
  rw [if_pos rfl]
  refine wpAny_passesOwn hp (thn (hb pins s2 σ1 H2 _ I2 q2) fun f s3 q3=>?_)
  cases f with
  | next =>
   obtain ⟨σ3,H3,I3,n3⟩:=q3
   obtain ⟨m',hm,w3⟩:=hN σ3 H3 n3
   exact ⟨m',hm,σ3,H3,I3,w3⟩
  | cont =>
   obtain ⟨σ3,H3,I3,n3⟩:=q3
   obtain ⟨m',hm,w3⟩:=hN σ3 H3 n3
   exact ⟨m',hm,σ3,H3,I3,w3⟩
  | brk=>exact q3
  | ret v=>exact q3
 | false =>
  rw [if_neg Bool.false_ne_true]
  exact wpAny_execs_nil ⟨σ1,H2,I2,q2⟩
end
structure It where
 go:Nat→Hp→Prop
 yld:Nat→Hp→V→Hp→Prop
 stop:Nat→Hp→Prop
def FpOk (X:Cx) (pins:List (Addr×Obj)) (H:Hp) (b:Addr):Prop :=
 H b=none∧b≠X.env.locals∧b ∉ X.fs∧(b ∈ X.ex∨X.s₀.heap.objs.size≤b)∧(∀ x c,X.env.cells.lookup x=some c→c≠b) ∧ ∀ p ∈ X.pn++pins,p.1≠b
theorem Inv.fpOk {X:Cx}{pins:List (Addr×Obj)}{σ:St}{H H':Hp}{s:Shared}{b:Addr} (I:Inv X pins σ H s) (hb:s.heap.objs.size≤b) (hn:H' b=none):FpOk X pins H' b:=by
 refine ⟨hn,Nat.ne_of_gt (Nat.lt_of_lt_of_le I.lt hb),I.nofs hb,.inr (Nat.le_trans I.sz hb),fun x c e z=>?_,fun p hp z=>?_⟩
 ·obtain ⟨v,q⟩:=I.cell x c e
  exact absurd (Nat.lt_of_lt_of_le q.lt (by rw [z];exact hb)) (Nat.lt_irrefl _)
 ·exact absurd (Nat.lt_of_lt_of_le (Heap.lt_size (I.pin p hp).1) (by rw [z];exact hb)) (Nat.lt_irrefl _)
structure Turn (P:Program) (w:World) (K:PySem.W.Frag) (tg:Expr) (J:It) (fp:List Addr) (it:Addr) (tn:Nat→Heap→Prop):Prop where
 mem:it ∈ fp
 obj : ∀ i h,tn i h → ∀ b ∈ fp,∃ o,h.get? b=some o ∧ ∀ v,o.data ≠ .cell v
 keep : ∀ i h h',tn i h→(∀ b ∈ fp,∀ o,h.get? b=some o→h'.get? b=some o)→tn i h'
 item : ∀ (X:Cx),X.prog=P→X.w=w→X.K=K→X.calm=true → ∀ (i:Nat) (pins:List (Addr×Obj)) (s:Shared) (σ:St) (H:Hp) (E:Value→Shared→Prop),Inv X pins σ H s→(∀ b ∈ fp,FpOk X pins H b)→tn i s.heap→J.go i H →
  wpAny (model P w) X.A (pyNext (.ref it)) (fun r s1 => ∃ u,r=some u ∧
   wpAny (model P w) X.A (letOwnedTupleGo tg (.ref it) u) (fun _ s2 => ∃ x H',Inv X pins σ H' s2∧RelV x u∧J.yld i H x H'∧tn (i+1) s2.heap ∧ ∀ b ∈ fp,H' b=none) E s1) E s
 done : ∀ (X:Cx),X.prog=P→X.w=w→X.K=K→X.calm=true → ∀ (i:Nat) (pins:List (Addr×Obj)) (s:Shared) (σ:St) (H:Hp) (E:Value→Shared→Prop),Inv X pins σ H s→(∀ b ∈ fp,FpOk X pins H b)→tn i s.heap→J.stop i H →
  wpAny (model P w) X.A (pyNext (.ref it)) (fun r s1=>r=none∧Inv X pins σ H s1) E s
 self : ∀ (A:Around) (i:Nat) (s:Shared) (Q:Value→Shared→Prop) (E:Value→Shared→Prop),tn i s.heap→Q (.ref it) s→wpAny (model P w) A (pyIter (.ref it)) Q E s
abbrev TI:=St→Hp→(It→Hp→Prop)→Prop
def PIE (X:Cx) (pins:List (Addr×Obj)) (σ:St) (tg:Expr) (R:It→Hp→Prop) (itv:Value) (s2:Shared):Prop :=
 ∃ (it:Addr) (fp:List Addr) (tn:Nat→Heap→Prop) (J:It) (H':Hp),itv = .ref it∧Inv X pins σ H' s2∧Turn X.prog X.w X.K tg J fp it tn∧tn 0 s2.heap∧(∀ b ∈ fp,FpOk X pins H' b)∧R J H'
def PI (X:Cx) (tg iter:Expr) (wi:TI):Prop :=
 ∀ (pins:List (Addr×Obj)) (s:Shared) (σ:St) (H:Hp) (R:It→Hp→Prop),Inv X pins σ H s→wi σ H R →
  wpAny (model X.prog X.w) X.A (eval iter X.env) (fun v s1=>wpAny (model X.prog X.w) X.A (pyIter v) (PIE X pins σ tg R) X.xe s1) X.xe s
theorem go_of {M:Model}{A:Around}{E:Value→Shared→Prop}{s:Shared}{tg:Expr}{it:Addr}{u:Value}{o:Obj}{n:String}{vs:Array Value}{Q:Unit→Shared→Prop} (ho:s.heap.get? it=some o) (hc:o.cls = .type n) (hd:o.data = .fields vs)
 (hn:["enumerate","zip","dict_itemiterator","dict_reverseitemiterator","odict_iterator","itertools.zip_longest","itertools.pairwise"].contains n=false) (hQ:Q () s):wpAny M A (letOwnedTupleGo tg (.ref it) u) Q E s:=by
  unfold letOwnedTupleGo
  cases tg <;> first
   | exact wpAny_pure hQ
   | (cases u <;> first
    | exact wpAny_pure hQ
    | (refine wpAny_bind (wpAny_load ho ?_)
       rw [hc,hd]
       show wpAny M A (if (["enumerate","zip","dict_itemiterator","dict_reverseitemiterator","odict_iterator","itertools.zip_longest","itertools.pairwise"].contains n&&vs[0]?==some (rawInt _))=true then _ else _) Q E s
       rw [if_neg (by intro h;rw [hn,Bool.false_and] at h;cases h)]
       exact wpAny_pure hQ))
def Itl (K:PySem.W.Frag) (a:Addr):It :=
 ⟨fun i H => ∃ xs x,SqL K H a xs∧xs[i]?=some x,fun i H x H'=>H'=H ∧ ∀ xs,SqL K H a xs→xs[i]?=some x,fun i H => ∃ xs,SqL K H a xs∧xs.length≤i⟩
def Itt (K:PySem.W.Frag) (a:Addr):It :=
 ⟨fun i H => ∃ xs x,SqT K H a xs∧xs[i]?=some x,fun i H x H'=>H'=H ∧ ∀ xs,SqT K H a xs→xs[i]?=some x,fun i H => ∃ xs,SqT K H a xs∧xs.length≤i⟩
def Itr (lo:Int) (n:Nat):It:=⟨fun i _=>i<n,fun i H x H'=>H'=H∧x = .int (lo+i),fun i _=>n≤i⟩
theorem turn_list {P:Program}{w:World}{K:PySem.W.Frag}{tg:Expr} (a it:Addr):Turn P w K tg (Itl K a) [it] it (fun i h=>h.IsListIter it a i) where
 mem:=by simp
 obj:=fun i h st b hb=>by
  have e:b=it:=by simpa using hb
  subst e
  obtain ⟨o,e,c,d⟩:=st
  exact ⟨o,e,fun v z=>by rw [d] at z;cases z⟩
 keep:=fun i h h' st k=>st.at fun o e=>k it (by simp) o e
 item:=by
  intro X hP hw hK hc i pins s σ H E I hf st hg
  subst hP hw hK
  obtain ⟨xs,x,hq,hx⟩:=hg
  obtain ⟨its,rv,p,hz⟩:=I.list hq
  obtain ⟨u,hu,ru⟩:=rv.get hx
  obtain ⟨f0,f1,f2,f3,f4,f5⟩:=hf it (by simp)
  refine wpAny_pyNext_list_item st p.isList (x:=u) (by simpa using hu) fun h' st' sb=>?_
  have I1:Inv X pins σ H { s with heap:=h' }:=I.turned (t':=s.toks) (fun b o hb e=>(sb.2 b hb).trans e) f0 f1 f3 f4 f5
  obtain ⟨o,e,c,d⟩:=id st'
  exact ⟨u,rfl,go_of (s:={ s with heap:=h' }) e c d (by decide) ⟨x,H,I1,ru,⟨rfl,fun ys hy=>by rw [I.list_inj hy hq];exact hx⟩,st',fun b hb=>(hf b hb).1⟩⟩
 done:=by
  intro X hP hw hK hc i pins s σ H E I hf st hg
  subst hP hw hK
  obtain ⟨xs,hq,hx⟩:=hg
  obtain ⟨its,rv,p,hz⟩:=I.list hq
  obtain ⟨f0,f1,f2,f3,f4,f5⟩:=hf it (by simp)
  have hl:=rv.length
  exact wpAny_pyNext_list_end (I.ok.hd hc) st p.isList (by simp;omega) fun h' eb=>⟨rfl,I.turned (t':=s.toks) (fun b o hb e=>eb b o hb e) f0 f1 f3 f4 f5⟩
 self:=fun _ _ _ _ _ st h=>wpAny_pyIter_listiter st h
theorem turn_tuple {P:Program}{w:World}{K:PySem.W.Frag}{tg:Expr} (a it:Addr):Turn P w K tg (Itt K a) [it] it (fun i h=>h.IsTupleIter it a i) where
 mem:=by simp
 obj:=fun i h st b hb=>by
  have e:b=it:=by simpa using hb
  subst e
  obtain ⟨o,e,c,d⟩:=st
  exact ⟨o,e,fun v z=>by rw [d] at z;cases z⟩
 keep:=fun i h h' st k=>st.at fun o e=>k it (by simp) o e
 item:=by
  intro X hP hw hK hc i pins s σ H E I hf st hg
  subst hP hw hK
  obtain ⟨xs,x,hq,hx⟩:=hg
  obtain ⟨its,rv,p,hz⟩:=I.tuple hq
  obtain ⟨u,hu,ru⟩:=rv.get hx
  obtain ⟨f0,f1,f2,f3,f4,f5⟩:=hf it (by simp)
  refine wpAny_pyNext_tuple_item st (show s.heap.IsTuple a its.toArray from p) (x:=u) (by simpa using hu) fun h' st' sb=>?_
  have I1:Inv X pins σ H { s with heap:=h' }:=I.turned (t':=s.toks) (fun b o hb e=>(sb.2 b hb).trans e) f0 f1 f3 f4 f5
  obtain ⟨o,e,c,d⟩:=id st'
  exact ⟨u,rfl,go_of (s:={ s with heap:=h' }) e c d (by decide) ⟨x,H,I1,ru,⟨rfl,fun ys hy=>by rw [I.tuple_inj hy hq];exact hx⟩,st',fun b hb=>(hf b hb).1⟩⟩
 done:=by
  intro X hP hw hK hc i pins s σ H E I hf st hg
  subst hP hw hK
  obtain ⟨xs,hq,hx⟩:=hg
  obtain ⟨its,rv,p,hz⟩:=I.tuple hq
  obtain ⟨f0,f1,f2,f3,f4,f5⟩:=hf it (by simp)
  have hl:=rv.length
  exact wpAny_pyNext_tuple_end (I.ok.hd hc) st (show s.heap.IsTuple a its.toArray from p) (by simp;omega) fun h' eb=>⟨rfl,I.turned (t':=s.toks) (fun b o hb e=>eb b o hb e) f0 f1 f3 f4 f5⟩
 self:=fun _ _ _ _ _ st h=>wpAny_pyIter_tupleiter st h
theorem turn_range {P:Program}{w:World}{K:PySem.W.Frag}{tg:Expr} (it:Addr) (lo:Int) (n:Nat):Turn P w K tg (Itr lo n) [it] it (fun i h=>IsRangeIter h it (lo+(i:Nat)*1) ((n:Int)-(i:Nat)) 1) where
 mem:=by simp
 obj:=fun i h st b hb=>by
  have e:b=it:=by simpa using hb
  subst e
  exact ⟨_,st,fun v z=>by
   have z':Data.fields _=Data.cell v:=z
   cases z'⟩
 keep:=fun i h h' st k=>k it (by simp) _ st
 item:=by
  intro X hP hw hK hc i pins s σ H E I hf st hg
  subst hP hw hK
  obtain ⟨f0,f1,f2,f3,f4,f5⟩:=hf it (by simp)
  have W:=Walks.range (prog:=X.prog) (w:=X.w) (I.ok.hd hc) it lo 1 n
  refine W.item i s _ _ hg st fun v h' tk hv st' kk=>?_
  obtain ⟨t,rfl⟩:=hv
  have I1:Inv X pins σ H { s with heap:=h',toks:=tk }:=I.turned (fun b o hb e=>kk b o (by simpa using hb) e) f0 f1 f3 f4 f5
  refine ⟨_,rfl,go_of (s:={ s with heap:=h',toks:=tk }) (n := "range_iterator") st' rfl rfl (by decide) ⟨.int (lo+i),H,I1,⟨t,?_⟩,⟨rfl,rfl⟩,st',fun b hb=>(hf b hb).1⟩⟩
  rw [Int.mul_one]
 done:=by
  intro X hP hw hK hc i pins s σ H E I hf st hg
  subst hP hw hK
  obtain ⟨f0,f1,f2,f3,f4,f5⟩:=hf it (by simp)
  exact wpAny_pyNext_range_end (I.ok.hd hc) st (by have:n≤i:=hg;omega) fun h' eb=>⟨rfl,I.turned (t':=s.toks) (fun b o hb e=>eb b o hb e) f0 f1 f3 f4 f5⟩
 self:=fun _ _ _ _ _ st h=>wpAny_pyIter_rangeiter st h
end L2
namespace L2
open PySem PySem.Spec PyProof.Rows
section
variable {X:Cx}{tg:Expr}
theorem range_it {pins:List (Addr×Obj)}{σ:St}{H:Hp}{s:Shared}{R:It→Hp→Prop}{E:Value→Shared→Prop}{lo hi:Int}{t u v:Tok}{tk:Nat} (I:Inv X pins σ H s) (h1 : -(2^62)≤lo) (h2:lo<2^62) (h3 : -(2^62)≤hi) (h4:hi<2^62)
 (q:R (Itr lo (hi-lo).toNat) H):wpAny (model X.prog X.w) X.A (pyIter (.ref s.heap.objs.size)) (PIE X pins σ tg R) E { s with heap:=s.heap.push { cls :=.type "range",data :=.fields #[.int lo t,.int hi u,.int 1 v] },toks:=tk }:=by
  refine wpAny_pyIter_range (IsRange.new ..) (small_one h1 h2 h3 h4) ?_
  have I1:Inv X pins σ H { s with heap:=s.heap.push { cls :=.type "range",data :=.fields #[.int lo t,.int hi u,.int 1 v] },toks:=tk }:=I.kept fun b o e=>Heap.get?_push_of_some _ e
  refine ⟨(s.heap.push { cls :=.type "range",data :=.fields #[.int lo t,.int hi u,.int 1 v] }).objs.size,[(s.heap.push { cls :=.type "range",data :=.fields #[.int lo t,.int hi u,.int 1 v] }).objs.size],_,_,H,rfl,
   I1.kept (t':=tk) fun b o e=>Heap.get?_push_of_some _ e,turn_range _ lo (hi-lo).toNat,?_,fun b hb=>?_,q⟩
  ·have e1:lo+((0:Nat):Int)*1=lo:=by simp
   have e2:(((hi-lo).toNat:Nat):Int)-((0:Nat):Int)=Builtin.Range.rangeSize lo hi 1:=by rw [rangeSize_one];split <;> omega
   show IsRangeIter _ _ (lo+((0:Nat):Int)*1) ((((hi-lo).toNat:Nat):Int)-((0:Nat):Int)) 1
   rw [e1,e2]
   exact Heap.get?_push_size _ rfl
  ·have e:b=(s.heap.push { cls :=.type "range",data :=.fields #[.int lo t,.int hi u,.int 1 v] }).objs.size:=by simpa using hb
   subst e
   exact I1.fpOk (Nat.le_refl _) (I1.hok.fresh (Nat.le_refl _))
def iRng1 (ta:TA):TI:=fun σ H R=>ta σ H fun vs H1 => ∃ j:Int,vs=[.int j] ∧ -(2^62)≤j∧j<2^62∧R (Itr 0 j.toNat) H1
theorem pi_range1 {a:Expr}{ta:TA}{p pos:Pos} (hg:Gl X "range") (hm:X.mg "range" = none) (ha:PA X [a] ta) (hs:starEach [a] X.env=[(false,eval a X.env)]:=by rfl):PI X tg (.Call (.Name "range" p) [a] [] pos) (iRng1 ta):=by
 intro pins s σ H R I h
 refine Call_ (ld_blt I hg hm boot_range (PyProof.Rows.callWith_type1 (thn (ha pos pins s σ H _ I h) fun us s1 xx21=>?_) hs rfl))
 obtain ⟨vs,H1,I1,r1,q1⟩:=xx21
 obtain ⟨j,e,q1,q2,q⟩:=q1
 subst e
 cases r1 with
 | cons r rr =>
  cases rr
  obtain ⟨t,rfl⟩:=r
  exact call_range_1 (range_it I1 (by omega) (by omega) q1 q2 (by simpa using q))
def tFor (wi:TI) (g:TG) (tb:TS):TS:=fun D σ H=>wi σ H fun J H1 => ∃ W:Nat→Nat→St→Hp→Prop,(∃ m,W 0 m σ H1) ∧ ∀ i m σ H,W i m σ H →
 (J.stop i H∧D.nx σ H)∨(J.go i H ∧ ∃ N:St→Hp→Prop,(∀ σ' H',N σ' H' → ∃ m',m'<m∧W (i+1) m' σ' H') ∧ ∀ x H',J.yld i H x H'→g x σ H' fun σ2 H2=>tb { D with nx:=N,ct:=N,bk:=D.nx } σ2 H2)
def pinsAt (fp:List Addr) (h:Heap):List (Addr×Obj):=fp.filterMap fun b=>(h.get? b).map fun o=>(b,o)
theorem mem_pinsAt {fp:List Addr}{h:Heap}{b:Addr}{o:Obj} (hb:b ∈ fp) (e:h.get? b=some o):(b,o) ∈ pinsAt fp h:=List.mem_filterMap.mpr ⟨b,hb,by rw [e];rfl⟩
theorem of_pinsAt {fp:List Addr}{h:Heap}{p:Addr×Obj} (hp:p ∈ pinsAt fp h):p.1 ∈ fp∧h.get? p.1=some p.2:=by
 obtain ⟨b,hb,e⟩:=List.mem_filterMap.mp hp
 cases q:h.get? b with
 | none=>rw [q] at e;cases e
 | some o =>
  rw [q] at e
  have e':(b,o)=p:=Option.some.inj e
  subst e'
  exact ⟨hb,q⟩
theorem Inv.pinned {pins:List (Addr×Obj)}{σ:St}{H:Hp}{s:Shared}{fp:List Addr} (I:Inv X pins σ H s) (hf : ∀ b ∈ fp,FpOk X pins H b) (ho : ∀ b ∈ fp,∃ o,s.heap.get? b=some o ∧ ∀ v,o.data ≠ .cell v):Inv X (pins++pinsAt fp s.heap) σ H s :=
 I.pins_of fun p hp=>(List.mem_append.mp hp).elim (fun z=>I.pin p (List.mem_append_right _ z)) fun z=>by
  obtain ⟨hb,e⟩:=of_pinsAt z
  obtain ⟨f0,f1,f2,_⟩:=hf p.1 hb
  obtain ⟨o,e',d⟩:=ho p.1 hb
  rw [e] at e';cases e'
  exact ⟨e,f0,f1,f2,d⟩
theorem Inv.unpinned {pins pl:List (Addr×Obj)}{σ:St}{H:Hp}{s:Shared} (I:Inv X (pins++pl) σ H s):Inv X pins σ H s:=I.pins_of fun p hp=>I.pin p (List.mem_append_right _ (List.mem_append_left _ hp))
theorem ps_for {iter:Expr}{body:List Stmt}{wi:TI}{g:TG}{tb:TS}{pos:Pos} (hp:PassesOwn (model X.prog X.w) X.A X.env X.xe) (hc:X.calm=true) (hi:PI X tg iter wi) (hg:PG X tg g) (hb:PSs X body tb)
 (hs : ∀ x,foldedSetIterable iter X.env x=pure x:=by intro _;rfl):PS X (.For tg iter body [] pos) (tFor wi g tb):=by
  intro pins s σ H D I h
  refine wpAny_For (thn (hi pins s σ H _ I h) fun v s1 h1=>thn h1 fun itv s2 h2=>?_) hs
  obtain ⟨it,fp,tn,J,H2,e,I2,T,st2,f2,W,⟨m0,w0⟩,turn⟩:=h2
  subst e
  have stat : ∀ {H':Hp},(∀ b ∈ fp,H' b=none) → ∀ b ∈ fp,FpOk X pins H' b:=fun hn b hb=>⟨hn b hb,(f2 b hb).2⟩
  refine codeAny_forLoop_any (fun n s' => ∃ i σ' H',Inv X pins σ' H' s'∧tn i s'.heap∧(∀ b ∈ fp,H' b=none)∧W i n σ' H') ?_ m0 ⟨0,σ,H2,I2,st2,fun b hb=>(f2 b hb).1,w0⟩
  rintro n s3 ⟨i,σ3,H3,I3,st3,fr3,w3⟩
  rcases turn i n σ3 H3 w3 with ⟨stop,qn⟩|⟨go,N,hN,step⟩
  ·refine wpAny_passesOwn hp (thn (T.done X rfl rfl rfl hc i pins s3 σ3 H3 X.xe I3 (stat fr3) st3 stop) fun r s4 xx25=>?_)
   obtain ⟨hr,I4⟩:=xx25
   subst hr
   exact wpAny_execs_nil ⟨σ3,H3,I4,qn⟩
  ·refine wpAny_passesOwn hp (thn (T.item X rfl rfl rfl hc i pins s3 σ3 H3 X.xe I3 (stat fr3) st3 go) fun r s4 xx24=>?_)
   obtain ⟨u,hr,h4⟩:=xx24
   subst hr
   refine wpAny_passesOwn hp (thn h4 fun _ s5 xx23=>?_)
   obtain ⟨x,H5,I5,r5,y5,st5,fr5⟩:=xx23
   have I5':=I5.pinned (stat fr5) (T.obj _ _ st5)
   refine wpAny_passesOwn hp (thn (hg _ s5 σ3 H5 x u _ I5' r5 (step x H5 y5)) fun _ s6 xx22=>?_)
   obtain ⟨σ6,H6,I6,q6⟩:=xx22
   refine wpAny_passesOwn hp (thn (hb _ s6 σ6 H6 _ I6 q6) fun f s7 q7=>?_)
   have again : ∀ {σ7:St}{H7:Hp},Inv X (pins++pinsAt fp s5.heap) σ7 H7 s7→N σ7 H7 → ∃ m,m<n ∧ ∃ i σ' H',Inv X pins σ' H' s7∧tn i s7.heap∧(∀ b ∈ fp,H' b=none)∧W i m σ' H':=fun {σ7 H7} I7 n7=>by
    obtain ⟨m',hm,w7⟩:=hN σ7 H7 n7
    refine ⟨m',hm,i+1,σ7,H7,I7.unpinned,T.keep _ _ _ st5 fun b hb o e=>(I7.pin (b,o) (List.mem_append_right _ (List.mem_append_right _ (mem_pinsAt hb e)))).1,fun b hb=>?_,w7⟩
    obtain ⟨o,e,d⟩:=T.obj _ _ st5 b hb
    exact (I7.pin (b,o) (List.mem_append_right _ (List.mem_append_right _ (mem_pinsAt hb e)))).2.1
   cases f with
   | next=>obtain ⟨σ7,H7,I7,n7⟩:=q7;exact again I7 n7
   | cont=>obtain ⟨σ7,H7,I7,n7⟩:=q7;exact again I7 n7
   | brk=>obtain ⟨σ7,H7,I7,q7⟩:=q7;exact ⟨σ7,H7,I7.unpinned,q7⟩
   | ret v=>obtain ⟨x7,σ7,H7,I7,r7,q7⟩:=q7;exact ⟨x7,σ7,H7,I7.unpinned,r7,q7⟩
end
end L2
namespace L2
open PySem PySem.Spec PyProof.Rows
abbrev R2:=V→V→Hp→VK→Prop
def OpR (X:Cx) (f:Value→Value→Sem Value) (r:R2):Prop :=
 ∀ (pins:List (Addr×Obj)) (s:Shared) (σ:St) (H:Hp) (x y:V) (v u:Value) (Q:VK),Inv X pins σ H s→RelV x v→RelV y u→r x y H Q →
  wpAny (model X.prog X.w) X.A (f v u) (EP X pins σ Q) X.xe s
def UnR (X:Cx) (f:Value→Sem Value) (r:V→Hp→VK→Prop):Prop :=
 ∀ (pins:List (Addr×Obj)) (s:Shared) (σ:St) (H:Hp) (x:V) (v:Value) (Q:VK),Inv X pins σ H s→RelV x v→r x H Q →
  wpAny (model X.prog X.w) X.A (f v) (EP X pins σ Q) X.xe s
def CallR (X:Cx) (f:Value) (r:List V→Hp→VK→Prop):Prop :=
 ∀ (pins:List (Addr×Obj)) (s:Shared) (σ:St) (H:Hp) (xs:List V) (us:List Value) (Q:VK),Inv X pins σ H s→Vals xs us→r xs H Q →
  wpAny (model X.prog X.w) X.A (call f us) (EP X pins σ Q) X.xe s
def tOp (r:R2) (ta tb:TE):TE:=fun σ H Q=>ta σ H fun x H1=>tb σ H1 fun y H2=>r x y H2 Q
def tUn (r:V→Hp→VK→Prop) (ta:TE):TE:=fun σ H Q=>ta σ H fun x H1=>r x H1 Q
def rI (C:Int→Int→Prop) (g:Int→Int→V):R2:=fun x y H Q => ∃ i j,x = .int i∧y = .int j∧C i j∧Q (g i j) H
def rI0 (g:Int→Int→V):R2:=fun x y H Q => ∃ i j,x = .int i∧y = .int j∧Q (g i j) H
def rU (g:Int→V):V→Hp→VK→Prop:=fun x H Q => ∃ i,x = .int i∧Q (g i) H
section
variable {X:Cx}{a b c:Expr}{ta tb tc:TE}{pos:Pos}
theorem binT (ha:PE X a ta) (hb:PE X b tb) {pins:List (Addr×Obj)}{s:Shared}{σ:St}{H:Hp}{R:V→V→Hp→Prop} (I:Inv X pins σ H s)
 (h:ta σ H fun x H1=>tb σ H1 fun y H2=>R x y H2) {Q:Value→Shared→Prop}{f:Value→Value→Sem Value}
 (hf : ∀ v u s2 x y H2,Inv X pins σ H2 s2→RelV x v→RelV y u→R x y H2→wpAny (model X.prog X.w) X.A (f v u) Q X.xe s2) :
 wpAny (model X.prog X.w) X.A (eval a X.env) (fun v s₁=>wpAny (model X.prog X.w) X.A (eval b X.env) (fun u s₂=>wpAny (model X.prog X.w) X.A (f v u) Q X.xe s₂) X.xe s₁) X.xe s:=by
  refine thn (ha pins s σ H _ I h) fun v s1 xx27=>?_
  obtain ⟨x,H1,I1,r1,q1⟩:=xx27
  refine thn (hb pins s1 σ H1 _ I1 q1) fun u s2 xx26=>?_
  obtain ⟨y,H2,I2,r2,q2⟩:=xx26
  exact hf v u s2 x y H2 I2 r1 r2 q2
theorem pe_op {op:Operator}{r:R2} (ho:OpR X (binaryOp op) r) (ha:PE X a ta) (hb:PE X b tb):PE X (.BinOp a op b pos) (tOp r ta tb):=by
 intro pins s σ H Q I h
 exact wpAny_BinOp (binT ha hb I h fun v u s2 x y H2 I2 rx ry q=>ho pins s2 σ H2 x y v u Q I2 rx ry q)
theorem pe_un {op:UnaryOp}{r:V→Hp→VK→Prop} (ho:UnR X (unaryOp op) r) (ha:PE X a ta):PE X (.UnaryOp op a pos) (tUn r ta):=by
 intro pins s σ H Q I h
 exact UnaryOp_ (thn (ha pins s σ H _ I h) fun v s1 xx28=>by obtain ⟨x,H1,I1,r1,q1⟩:=xx28;exact ho pins s1 σ H1 x v Q I1 r1 q1)
theorem opI {f:Value→Value→Sem Value}{C:Int→Int→Prop}{g:Int→Int→Int}
 (rule : ∀ (i j:Int) (t u:Tok) (s:Shared) (Q:Value→Shared→Prop) (E:Value→Shared→Prop),C i j→Q (.int (g i j) s.toks) { s with toks:=s.toks+1 }→wpAny (model X.prog X.w) X.A (f (.int i t) (.int j u)) Q E s) :
  OpR X f (rI C fun i j => .int (g i j)):=by
  intro pins s σ H x y v u Q I rx ry h
  obtain ⟨i,j,rfl,rfl,hc,q⟩:=h
  obtain ⟨t,rfl⟩:=rx
  obtain ⟨t',rfl⟩:=ry
  exact rule i j t t' s _ _ hc ⟨.int (g i j),H,I.tok _,⟨_,rfl⟩,q⟩
theorem opI0 {f:Value→Value→Sem Value}{g:Int→Int→Int}
 (rule : ∀ (i j:Int) (t u:Tok) (s:Shared) (Q:Value→Shared→Prop) (E:Value→Shared→Prop),Q (.int (g i j) s.toks) { s with toks:=s.toks+1 }→wpAny (model X.prog X.w) X.A (f (.int i t) (.int j u)) Q E s) :
  OpR X f (rI0 fun i j => .int (g i j)):=by
  intro pins s σ H x y v u Q I rx ry h
  obtain ⟨i,j,rfl,rfl,q⟩:=h
  obtain ⟨t,rfl⟩:=rx
  obtain ⟨t',rfl⟩:=ry
  exact rule i j t t' s _ _ ⟨.int (g i j),H,I.tok _,⟨_,rfl⟩,q⟩
theorem opB0 {f:Value→Value→Sem Value}{g:Int→Int→Bool}
 (rule : ∀ (i j:Int) (t u:Tok) (s:Shared) (Q:Value→Shared→Prop) (E:Value→Shared→Prop),Q (.bool (g i j)) s→wpAny (model X.prog X.w) X.A (f (.int i t) (.int j u)) Q E s) :
 OpR X f (rI0 fun i j => .bl (g i j)):=by
  intro pins s σ H x y v u Q I rx ry h
  obtain ⟨i,j,rfl,rfl,q⟩:=h
  obtain ⟨t,rfl⟩:=rx
  obtain ⟨t',rfl⟩:=ry
  exact rule i j t t' s _ _ ⟨.bl (g i j),H,I,rfl,q⟩
def CDiv (i j:Int):Prop:=0<j∧j<1073741824
theorem op_add:OpR X (binaryOp .Add) (rI0 fun i j => .int (i+j)):=opI0 fun _ _ _ _ _ _ _ q=>add_int q
theorem op_sub:OpR X (binaryOp .Sub) (rI0 fun i j => .int (i-j)):=opI0 fun _ _ _ _ _ _ _ q=>sub_int q
theorem op_fdiv:OpR X (binaryOp .FloorDiv) (rI CDiv fun i j => .int (i/j)):=opI fun i j _ _ _ _ _ hc q=>by
 have h1:(0:Int)<j:=hc.1
 have h2:j<1073741824:=hc.2
 exact floordiv_int (by omega) (by rw [Int.fdiv_eq_ediv_of_nonneg i (by omega)];exact q) (.inl (PyProof.noPylong_small (by omega)))
theorem op_mod:OpR X (binaryOp .Mod) (rI (fun _ j=>0<j) fun i j => .int (i%j)):=opI fun i j _ _ _ _ _ hc q=>by
 have h1:(0:Int)<j:=hc
 exact mod_int' (by omega) (by rw [Int.fmod_eq_emod_of_nonneg i (by omega)];exact q)
theorem unI {f:Value→Sem Value}{g:Int→Int}
 (rule : ∀ (i:Int) (t:Tok) (s:Shared) (Q:Value→Shared→Prop) (E:Value→Shared→Prop),Q (.int (g i) s.toks) { s with toks:=s.toks+1 }→wpAny (model X.prog X.w) X.A (f (.int i t)) Q E s) :
  UnR X f (rU fun i => .int (g i)):=by
  intro pins s σ H x v Q I rx h
  obtain ⟨i,rfl,q⟩:=h
  obtain ⟨t,rfl⟩:=rx
  exact rule i t s _ _ ⟨.int (g i),H,I.tok _,⟨_,rfl⟩,q⟩
theorem un_neg:UnR X (unaryOp .USub) (rU fun i => .int (-i)):=unI fun _ _ _ _ _ q=>neg_int q
end
section
variable {X:Cx}{a b c:Expr}{ta tb tc:TE}{pos:Pos}
theorem fin_bl {pins:List (Addr×Obj)}{σ:St}{H:Hp}{s:Shared}{Q:VK}{k k':Bool} (I:Inv X pins σ H s) (q:Q (.bl k) H) (e:k=k'):EP X pins σ Q (.bool k') s:=by
 subst e
 exact ⟨.bl k,H,I,rfl,q⟩
theorem op_lt:OpR X (compareOp .Lt) (rI0 fun i j => .bl (decide (i<j))):=opB0 fun _ _ _ _ _ _ _ q=>lt_int q
theorem op_le:OpR X (compareOp .LtE) (rI0 fun i j => .bl (decide (i≤j))):=opB0 fun _ _ _ _ _ _ _ q=>le_int q
theorem op_gt:OpR X (compareOp .Gt) (rI0 fun i j => .bl (decide (j<i))):=opB0 fun _ _ _ _ _ _ _ q=>gt_int q
theorem op_ge:OpR X (compareOp .GtE) (rI0 fun i j => .bl (decide (j≤i))):=opB0 fun _ _ _ _ _ _ _ q=>ge_int q
theorem op_isN:OpR X (compareOp .Is) (fun x y H Q=>y = .non∧Q (.bl (decide (x = .non))) H):=by
 intro pins s σ H x y v u Q I rx ry h
 obtain ⟨rfl,q⟩:=h
 cases ry
 refine is_none_gen (fin_bl I q ?_)
 cases x <;> first
  | (cases rx;rfl)
  | (obtain ⟨t,rfl⟩:=rx;rfl)
theorem nomark (b:Expr) {op:CmpOp} (h:op ≠ .In:=by decide) (h2:op ≠ .NotIn:=by decide):behindInMarks op b=false:=by
 have e1:(op==CmpOp.In)=false:=by cases op <;> first|rfl|exact absurd rfl h
 have e2:(op==CmpOp.NotIn)=false:=by cases op <;> first|rfl|exact absurd rfl h2
 cases b <;> simp [behindInMarks,e1,e2]
theorem pe_cmpR {op:CmpOp}{r:R2} (ho:OpR X (compareOp op) r) (ha:PE X a ta) (hb:PE X b tb) (hm:behindInMarks op b=false):PE X (.Compare a [op] [b] pos) (tOp r ta tb):=by
 intro pins s σ H Q I h
 exact wpAny_Compare1 (binT ha hb I h fun v u s2 x y H2 I2 rx ry q=>ho pins s2 σ H2 x y v u Q I2 rx ry q) hm
def tTest (t:TE):TT:=fun σ H Q=>t σ H fun x H' => ∃ k,x = .bl k∧Q k H'
theorem pt_cmpR {op:CmpOp}{r:R2} (ho:OpR X (compareOp op) r) (ha:PE X a ta) (hb:PE X b tb) (hm:behindInMarks op b=false):PT X (.Compare a [op] [b] pos) (tTest (tOp r ta tb)):=by
 intro pins s σ H Q I h
 refine wpAny_isTrue_Compare1 (thn (ha pins s σ H _ I h) fun v s1 ⟨x,H1,I1,r1,q1⟩=>thn (hb pins s1 σ H1 _ I1 q1) fun u s2 ⟨y,H2,I2,r2,q2⟩ =>
  thn (ho pins s2 σ H2 x y v u _ I2 r1 r2 q2) fun c s3 ⟨z,H3,I3,r3,k,e,q3⟩=>?_) hm
 subst e
 cases r3
 exact wpAny_truthy_bool ⟨H3,I3,q3⟩
def tChain (r r':R2) (ta tb tc:TE):TE:=fun σ H Q=>ta σ H fun x H1=>tb σ H1 fun y H2=>r x y H2 fun z H3 => ∃ k,z = .bl k ∧
 (if k=true then tc σ H3 fun w' H4=>r' y w' H4 Q else Q (.bl false) H3)
theorem pt_chain {op op':CmpOp}{r r':R2} (ho:OpR X (compareOp op) r) (ho':OpR X (compareOp op') r') (ha:PE X a ta) (hb:PE X b tb) (hc:PE X c tc)
 (hm:lastMarks [op,op'] [b,c]=false:=by with_unfolding_all rfl):PT X (.Compare a [op,op'] [b,c] pos) (tTest (tChain r r' ta tb tc)):=by
  intro pins s σ H Q I h
  refine isTrue_chain (thn (ha pins s σ H _ I h) fun v s1 ⟨x,H1,I1,r1,q1⟩=>test_link (thn (hb pins s1 σ H1 _ I1 q1) fun u s2 ⟨y,H2,I2,r2,q2⟩ =>
   thn (ho pins s2 σ H2 x y v u _ I2 r1 r2 q2) fun d s3 ⟨z,H3,I3,r3,k,e,q3⟩=>?_)) hm
  subst e
  cases r3
  refine wpAny_truthy_bool ?_
  cases k with
  | false =>
   obtain ⟨k',e',q'⟩:=q3
   cases e'
   exact ite_ff ⟨H3,I3,q'⟩
  | true =>
   refine ite_tt (test_last (thn (hc pins s3 σ H3 _ I3 q3) fun w' s4 ⟨z',H4,I4,r4,q4⟩=>thn (ho' pins s4 σ H4 y z' u w' _ I4 r2 r4 q4) fun d' s5 xx32=>?_))
   obtain ⟨z2,H5,I5,r5,k2,e2,q5⟩:=xx32
   subst e2
   cases r5
   exact wpAny_truthy_bool ⟨H5,I5,q5⟩
theorem line63:(sizeLine:Nat)<2^63:=by rw [sizeLine_eq];decide
theorem op_add_str:OpR X (binaryOp .Add) (fun x y H Q => ∃ i j,x = .str i∧y = .str j∧i.length+j.length≤sizeLine∧Q (.str (i++j)) H):=by
 intro pins s σ H x y v u Q I rx ry h
 obtain ⟨i,j,rfl,rfl,hz,q⟩:=h
 obtain ⟨t,rfl⟩:=rx
 obtain ⟨t',rfl⟩:=ry
 exact add_str (fun t' tk=>⟨.str (i++j),H,I.tok _,⟨_,rfl⟩,q⟩) hz
theorem vals1 {x:V}{us:List Value} (r:Vals [x] us) : ∃ u,us=[u]∧RelV x u:=by
 cases r with
 | cons r1 r2=>cases r2;exact ⟨_,rfl,r1⟩
theorem vals2 {x y:V}{us:List Value} (r:Vals [x,y] us) : ∃ u w',us=[u,w']∧RelV x u∧RelV y w':=by
 cases r with
 | cons r1 r2 =>
  cases r2 with
  | cons r3 r4=>cases r4;exact ⟨_,_,rfl,r1,r3⟩
theorem call_abs:CallR X (.builtin "abs") (fun xs H Q => ∃ i,xs=[.int i]∧Q (.int (if i<0 then -i else i)) H):=by
 intro pins s σ H xs us Q I r h
 obtain ⟨i,rfl,q⟩:=h
 obtain ⟨u,rfl,t,rfl⟩:=vals1 r
 exact call_abs_int fun u tk=>⟨.int (if i<0 then -i else i),H,I.tok _,⟨_,rfl⟩,q⟩
theorem call_int1:CallR X (.type "int") (fun xs H Q=>(∃ i,xs=[.int i]∧Q (.int i) H) ∨ ∃ k,xs=[.bl k]∧Q (.int (if k then 1 else 0)) H):=by
 intro pins s σ H xs us Q I r h
 rcases h with ⟨i,rfl,q⟩|⟨k,rfl,q⟩
 ·obtain ⟨u,rfl,t,rfl⟩:=vals1 r
  exact call_int_int ⟨.int i,H,I,⟨_,rfl⟩,q⟩
 ·obtain ⟨u,rfl,r1⟩:=vals1 r
  cases r1
  exact call_int_bool ⟨.int (if k then 1 else 0),H,I.tok _,⟨_,rfl⟩,q⟩
theorem call_str_int:CallR X (.type "str") (fun xs H Q => ∃ i,xs=[.int i]∧i.natAbs.log2<1920∧Q (.str (toString i)) H):=by
 intro pins s σ H xs us Q I r h
 obtain ⟨i,rfl,hz,q⟩:=h
 obtain ⟨u,rfl,t,rfl⟩:=vals1 r
 exact PySem.P.str_of_int hz ⟨.str _,H,I.tok _,⟨_,rfl⟩,q⟩
end
end L2
namespace L2
open PySem PySem.Spec PyProof.Rows
section
variable {prog:Program}{w:World}{A:Around}{E:Value→Shared→Prop}{s:Shared}{K:PySem.W.Frag}{x dx C f:Addr}{mA:Str→Option Value}{name:Str}{v:Value}
end
section
variable {P:Program}{w:World}{H H':Hp}{h h':Heap}{a C dx:Addr}{fs fs':List (Str×V)}
end
section
variable {X:Cx}{pins:List (Addr×Obj)}{σ:St}{H:Hp}{s:Shared}{a C dx:Addr}{fs:List (Str×V)}{f:Str}{v:V}{A:Around}{E:Value→Shared→Prop}
end
section
variable {X:Cx}{o e value:Expr}{f:Str}{pos pos' tpos:Pos}{ta tv:TE}
end
section
variable {X:Cx}{pins:List (Addr×Obj)}{σ:St}{H:Hp}{s:Shared}{A:Around}{E:Value→Shared→Prop}{Q:Value→Shared→Prop}{c:Value}{b:Bool}
end
end L2
namespace L2
open PySem PySem.Spec PyProof.Rows
structure Room (k:Nat) (A:Around):Prop where
 hd:A.handled=none
 dp:A.depth+3*k+5<recursionLimit
 un:A.units+16*k+200<cLine
theorem Room.mono {j k:Nat}{A:Around} (r:Room k A) (h:j≤k):Room j A:=⟨r.hd,by have:=r.dp;omega,by have:=r.un;omega⟩
theorem Room.deeper {k:Nat}{A:Around} (r:Room (k+1) A) (env:Env):Room k (A.deeper env) :=
 ⟨r.hd,by have:=r.dp;show A.depth+1+3*k+5<_;omega,by have:=r.un;show A.units+3+16*k+200<_;omega⟩
theorem Room.depth {k:Nat}{A:Around} (r:Room k A):A.depth<recursionLimit:=by have:=r.dp;omega
theorem Room.units {k:Nat}{A:Around} (r:Room k A):A.units+64<cLine:=by have:=r.un;omega
def tNil:TA:=fun _ H Q=>Q [] H
def tCons (ta:TE) (tr:TA):TA:=fun σ H Q=>ta σ H fun x H1=>tr σ H1 fun xs H2=>Q (x::xs) H2
section
variable {X:Cx}{e:Expr}{es:List Expr}{te:TE}{t:TA}{pos:Pos}
theorem pa_nil:PA X [] tNil:=fun _ _ _ _ H Q I h=>Calls.spliced_nil ⟨[],H,I,.nil,h⟩
theorem pa_cons (ha:PE X e te) (hr:PA X es t) (hs:starEach (e::es) X.env=(false,eval e X.env)::starEach es X.env:=by rfl):PA X (e::es) (tCons te t):=by
 intro pos pins s σ H Q I h
 rw [hs]
 show wpAny _ _ (spliced ((false,eval e X.env)::backTo pos (starEach es X.env))) _ _ s
 refine Calls.spliced_cons (thn (ha pins s σ H _ I h) fun u s1 xx38=>?_)
 obtain ⟨x,H1,I1,r1,q1⟩:=xx38
 exact thn (hr pos pins s1 σ H1 _ I1 q1) fun us s2 xx37=>by obtain ⟨xs,H2,I2,r2,q2⟩:=xx37;exact ⟨x::xs,H2,I2,.cons r1 r2,q2⟩
def tTup (t:TA):TE:=fun σ H Q=>t σ H fun xs H1=>xs.length≤sizeLine ∧ ∀ p,H1 p=none→Q (.ref p) (upd H1 p (.tup xs))
def tLst (t:TA):TE:=fun σ H Q=>t σ H fun xs H1=>xs.length≤sizeLine ∧ ∀ p,H1 p=none→Q (.ref p) (upd H1 p (.lst xs))
theorem pe_tup {x1} (h:PA X es t):PE X (.Tuple es x1 pos) (tTup t):=by
 intro pins s σ H Q I hq
 refine wpAny_Tuple_spliced (thn (h pos pins s σ H _ I hq) fun us s1 ⟨xs,H1,I1,r,z,q⟩=>⟨by rw [← r.length];exact z,?_⟩)
 have hf:H1 s1.heap.objs.size=none:=I1.hok.fresh (Nat.le_refl _)
 refine ⟨.ref s1.heap.objs.size,upd H1 s1.heap.objs.size (.tup xs),I1.laid (t':=s1.toks) (fun b u e=>Heap.get?_push_of_some _ e) (Nat.le_refl _) ?_,rfl,q _ hf⟩
 exact ⟨z,us,r,⟨_,Heap.get?_push_size _ rfl,rfl,_,rfl⟩⟩
theorem pe_lst (h:PA X es t):PE X (.List es pos) (tLst t):=by
 intro pins s σ H Q I hq
 refine wpAny_List_spliced (thn (h pos pins s σ H _ I hq) fun us s1 ⟨xs,H1,I1,r,z,q⟩=>⟨by rw [← r.length];exact z,?_⟩)
 have hf:H1 s1.heap.objs.size=none:=I1.hok.fresh (Nat.le_refl _)
 refine ⟨.ref s1.heap.objs.size,upd H1 s1.heap.objs.size (.lst xs),I1.laid (t':=s1.toks) (fun b u e=>Heap.get?_push_of_some _ e) (Nat.le_refl _) ?_,rfl,q _ hf⟩
 exact ⟨z,us,0,r,Heap.get?_push_size _ rfl⟩
end
abbrev Sp:=List V→Hp→VK→XK→Prop
abbrev CXT:=List Env→Hp→Shared→XK→Value→Shared→Prop
structure Env0 (P:Program) (w:World) (K:PySem.W.Frag) (mg:Str→Option Value) (base:Heap) (A:Around) (outer:List Env) (s:Shared) (H:Hp):Prop where
 frames:A.frames=some outer
 mod:Mod K mg base
 bs : ∀ b o,base.get? b=some o→s.heap.get? b=some o∧H b=none
 bsz:base.objs.size≤s.heap.objs.size
 funs:s.heap.FunFrames base outer
 frf : ∀ b ∈ frs outer,H b=none
 hok:HOk P w H s.heap
 bare:AllBare s.gens
def CE (outer:List Env) (P:Program) (w:World) (H:Hp) (s:Shared) (Q:VK) (u:Value) (s':Shared):Prop :=
 ∃ v H',s'.os=s.os∧AllBare s'.gens∧Un (frs outer) [] H H' s.heap s'.heap∧HOk P w H' s'.heap∧RelV v u∧Q v H'
def CR (CX:CXT) (outer:List Env) (P:Program) (w:World) (H:Hp) (s:Shared) (Q:VK) (E:XK) (r:Result) (s':Shared):Prop :=
 match r with
 | .ok (.ret u)=>CE outer P w H s Q u s'
 | .ok _=>False
 | .error e=>CX outer H s E e s'
structure FnOk (P:Program) (w:World) (K:PySem.W.Frag) (mg:Str→Option Value) (base:Heap) (CX:CXT) (k:Nat) (f:Addr) (fd:FuncData) (ps:List Str) (sp:Sp):Prop where
 len : ∀ vs H Q E,sp vs H Q E→vs.length=ps.length
 run : ∀ (A:Around) (outer:List Env) (s:Shared) (H:Hp) (args:Args) (us:List Value) (vs:List V) (Q:VK) (E:XK),Room k A→Env0 P w K mg base A outer s H→BindsTo s fd args (ps.zip us)→Vals vs us→sp vs H Q E →
  codeAny (model P w) A (.call (.ref f) args) (CR CX outer P w H s Q E) s
section
variable {X:Cx}{pins:List (Addr×Obj)}{σ:St}{H:Hp}{s s':Shared}
theorem Inv.env0 (I:Inv X pins σ H s):Env0 X.prog X.w X.K X.mg X.base X.A X.stack s H :=
 ⟨I.ok.frames,I.ok.mod,I.bs,Nat.le_trans I.ok.bsz I.sz,I.stack,I.stkFree,I.hok,I.bare⟩
theorem Inv.after {Q:VK}{u:Value} (I:Inv X pins σ H s) (h:CE X.stack X.prog X.w H s Q u s'):EP X pins σ Q u s':=by
 obtain ⟨v,H',os,bare,un,hok,r,q⟩:=h
 obtain ⟨hh,g,d,t,os'⟩:=s'
 obtain rfl:os'=s.os:=os
 exact ⟨v,H',I.call (h':=hh) (g':=g) (d':=d) (t':=t) (ch:=[]) un hok bare (fun b z=>absurd z (by simp)),r,q⟩
end
def tCall (sp:Sp) (dvs:List V) (E:XK) (t:TA):TE:=fun σ H Q=>t σ H fun vs H1=>sp (vs++dvs) H1 Q E
def Binds (K:PySem.W.Frag) (fd:FuncData) (ps:List Str) (ds:List Value):Prop :=
 ∀ (s:Shared) (us:List Value),K.In s.heap→(us++ds).length=ps.length→BindsTo s fd ⟨us,[]⟩ (ps.zip (us++ds))
theorem Binds.all {K:PySem.W.Frag}{fd:FuncData}{ps:List Str} (h : ∀ us:List Value,us.length=ps.length→bindArgs fd ⟨us,[]⟩=pure (ps.zip us)):Binds K fd ps []:=fun s us _ hl=>by
 rw [List.append_nil] at hl ⊢
 exact .of_eq (h us hl)
def Passes (CX:CXT) (X:Cx) (E:XK):Prop := ∀ (pins:List (Addr×Obj)) (σ:St) (H:Hp) (s:Shared) (e:Value) (s':Shared),Inv X pins σ H s→CX X.stack H s E e s'→X.xe e s'
section
variable {X:Cx}{CX:CXT}{k:Nat}{f C:Addr}{fd:FuncData}{ps:List Str}{sp:Sp}{dvs:List V}{ds:List Value}{E:XK}{x m:Str}{p pos apos:Pos}{e o:Expr}{es:List Expr}{ta:TE}{t:TA}
theorem run_fn {pins:List (Addr×Obj)}{σ:St}{H:Hp}{s:Shared}{Q:VK}{us:List Value}{vs:List V} (F:FnOk X.prog X.w X.K X.mg X.base CX k f fd ps sp) (hr:Room k X.A) (hb:Binds X.K fd ps ds) (hd:Vals dvs ds) (hx:Passes CX X E)
 (I:Inv X pins σ H s) (r:Vals vs us) (h:sp (vs++dvs) H Q E):wpAny (model X.prog X.w) X.A (call (.ref f) us) (EP X pins σ Q) X.xe s:=by
  have r2:Vals (vs++dvs) (us++ds):=r.append hd
  have hl:(us++ds).length=ps.length:=by rw [← r2.length];exact F.len _ _ _ _ h
  refine wpAny_call (codeAny_mono (F.run X.A X.stack s H ⟨us,[]⟩ (us++ds) (vs++dvs) Q E hr I.env0 (hb s us I.kIn hl) r2 h) fun r s' hq=>?_)
  cases r with
  | error e=>exact hx pins σ H s e s' I hq
  | ok fl =>
   cases fl with
   | ret u=>exact I.after hq
   | next=>exact False.elim hq
   | brk=>exact False.elim hq
   | cont=>exact False.elim hq
end
section
variable {X:Cx}{CX:CXT}{k:Nat}{f C:Addr}{fd:FuncData}{ps ks:List Str}{sp:Sp}{E:XK}{x m:Str}{p pos apos kpos:Pos}{e o:Expr}{es:List Expr}{kws:List Keyword}{te ta:TE}{t tk:TA}{nm:Option Str}
variable {g:List Value→List Value→List Value}{gV:List V→List V→List V}
end
structure FnScope (N P:List Str) (sc:Scope):Prop where
 kind:sc.kind = .function
 co:sc.isCoroutine=false
 gen:sc.isGenerator=false
 nd:N.Nodup
 pre:N.take P.length=P
 par : ∀ x ∈ P,sc.names.lookup x=some .local∨sc.names.lookup x=some .cell
 nofree : ∀ y ∈ sc.names,y.2 ≠ .free
theorem bindL_out {kindOf:Str→Option NameKind}{x:Str} : ∀ {binds:List (Str×Value)}{m:Str→Option Value},(∀ v,(x,v) ∉ binds)→bindL kindOf binds m x=m x
 | [],_,_=>rfl
 | (n,v)::r,m,h=>by
  unfold bindL
  rw [bindL_out fun w hw=>h w (List.mem_cons_of_mem _ hw)]
  split
  ·have:x≠n:=by rintro rfl;exact h v List.mem_cons_self
   simp [this]
  ·rfl
theorem bindC_out {kindOf:Str→Option NameKind}{x:Str} : ∀ {binds:List (Str×Value)}{m:Str→Option Value},(∀ v,(x,v) ∉ binds)→bindC kindOf binds m x=m x
 | [],_,_=>rfl
 | (n,v)::r,m,h=>by
  unfold bindC
  rw [bindC_out fun w hw=>h w (List.mem_cons_of_mem _ hw)]
  split
  ·rfl
  ·have:x≠n:=by rintro rfl;exact h v List.mem_cons_self
   simp [this]
theorem bindL_get {kindOf:Str→Option NameKind}{x:Str}{v:Value} : ∀ {P:List Str}{vs:List Value}{i:Nat}{m:Str→Option Value},P.Nodup→P[i]?=some x→vs[i]?=some v→kindOf x=some .local →
 bindL kindOf (P.zip vs) m x=some v
  | [],_,_,_,_,h,_,_=>by simp at h
  | _::_,[],_,_,_,_,h,_=>by simp at h
  | p::P,w::vs,0,m,nd,h1,h2,hk=>by
   simp at h1 h2;subst h1;subst h2
   show bindL kindOf ((p,w)::P.zip vs) m p=_
   unfold bindL
   rw [bindL_out fun v hv=>(List.nodup_cons.mp nd).1 (List.of_mem_zip hv).1,if_pos hk]
   simp
  | p::P,w::vs,i+1,m,nd,h1,h2,hk=>by
   show bindL kindOf ((p,w)::P.zip vs) m x=_
   unfold bindL
   exact bindL_get (i:=i) (List.nodup_cons.mp nd).2 (by simpa using h1) (by simpa using h2) hk
theorem bindC_get {kindOf:Str→Option NameKind}{x:Str}{v:Value} : ∀ {P:List Str}{vs:List Value}{i:Nat}{m:Str→Option Value},P.Nodup→P[i]?=some x→vs[i]?=some v→kindOf x≠some .local →
 bindC kindOf (P.zip vs) m x=some v
  | [],_,_,_,_,h,_,_=>by simp at h
  | _::_,[],_,_,_,_,h,_=>by simp at h
  | p::P,w::vs,0,m,nd,h1,h2,hk=>by
   simp at h1 h2;subst h1;subst h2
   show bindC kindOf ((p,w)::P.zip vs) m p=_
   unfold bindC
   rw [bindC_out fun v hv=>(List.nodup_cons.mp nd).1 (List.of_mem_zip hv).1,if_neg hk]
   simp
  | p::P,w::vs,i+1,m,nd,h1,h2,hk=>by
   show bindC kindOf ((p,w)::P.zip vs) m x=_
   unfold bindC
   exact bindC_get (i:=i) (List.nodup_cons.mp nd).2 (by simpa using h1) (by simpa using h2) hk
def start (N:List Str) (vs:List V):St:=vs.map some++List.replicate (N.length-vs.length) none
def cxOf (CX:CXT) (P:Program) (w:World) (K:PySem.W.Frag) (mg:Str→Option Value) (base:Heap) (N:List Str) (qual:Str) (scope:Scope) (f:Addr) (cd:Value) (A:Around) (outer:List Env) (s:Shared) (H:Hp) (E:XK):Cx where
 prog:=P
 w:=w
 K:=K
 mg:=mg
 base:=base
 A:=A.deeper (envOfC qual scope s.heap.objs.size f cd)
 N:=N
 s₀:=s
 H₀:=H
 env:=envOfC qual scope s.heap.objs.size f cd
 outer:=outer
 stack:=envOfC qual scope s.heap.objs.size f cd::outer
 ex:=[]
 calm:=true
 fn:=fun _=>true
 pn:=[]
 xe:=fun e s'=>wpAny (model P w) (A.deeper (envOfC qual scope s.heap.objs.size f cd)) (leaving (envOfC qual scope s.heap.objs.size f cd) e) (fun _ s''=>CX outer H s E e s'') (fun e' s''=>CX outer H s E e' s'') s'
theorem cell_has {sc:Scope}{n:Nat}{x:Str} (h:sc.names.lookup x=some .cell) : ∃ c,(cellsFrom n sc.names []).lookup x=some c:=by
 have q:=PySem.W.cellsFrom_some sc.names n [] (.inl h)
 exact Option.isSome_iff_exists.mp q
theorem inv_start {CX:CXT}{P:Program}{w:World}{K:PySem.W.Frag}{mg:Str→Option Value}{base:Heap}{N ps:List Str}{qual:Str}{scope:Scope}{f:Addr}{cd:Value}{A:Around}{outer:List Env}{s s1:Shared}{H:Hp}{E:XK}{us:List Value}{vs:List V}
 (S:FnScope N ps scope) (hd:A.handled=none) (e0:Env0 P w K mg base A outer s H) (hl:vs.length=ps.length) (r:Vals vs us)
 (x:InCallC s s.heap.objs.size (bindL (envOfC qual scope s.heap.objs.size f cd).kindOf (ps.zip us) fun _=>none) (cellsFrom (s.heap.objs.size+1) scope.names []) (bindC (envOfC qual scope s.heap.objs.size f cd).kindOf (ps.zip us) fun _=>none) s1) :
 Inv (cxOf CX P w K mg base N qual scope f cd A outer s H E) [] (start N vs) H s1:=by
  have hpl:ps.length≤N.length:=by have:=congrArg List.length S.pre;rw [List.length_take] at this;omega
  obtain ⟨h1,tk,rfl,hk⟩:=x.done
  have noA : ∀ b:Addr,b ∉ (cxOf CX P w K mg base N qual scope f cd A outer s H E).ex:=fun b z=>absurd (show b ∈ ([]:List Addr) from z) (by simp)
  refine ⟨⟨e0.mod,S.kind,rfl,rfl,Nat.le_refl _,fun y z c h1 h2=>?_,fun y hy=>?_,fun y c _ h=>?_,fun _=>hd,Around.frames_deeper e0.frames,.inr ⟨rfl,rfl⟩,fun b z=>absurd z (noA b),e0.bs,e0.bsz,fun b _ _=>noA b,fun b z=>absurd z (noA b),e0.funs,e0.frf⟩,
   rfl,e0.bare,Un.kept hk,⟨_,x.toInCall.ns,fun i y v h1 h2 h3=>?_⟩,fun y c h=>⟨_,x.cell y c h⟩,e0.hok.fresh (Nat.le_refl _),fun y c h=>?_,fun p hp=>absurd (show p ∈ ([]:List (Addr×Obj)) from hp) (by simp),e0.hok.kept hk,?_⟩
  ·exact name_of_addr x.apart (PySem.mem_of_lookup h1) (PySem.mem_of_lookup h2)
  ·have hy:scope.names.lookup y=some .cell∨scope.names.lookup y=some .free:=hy
   rcases hy with hy|hy
   ·exact cell_has hy
   ·exact absurd rfl (S.nofree _ (PySem.mem_of_lookup hy))
  ·exact Nat.le_of_lt (x.above y c (PySem.mem_of_lookup h))
  ·have hi:i<vs.length:=by
    unfold start at h2
    by_cases hi:i<vs.length
    ·exact hi
    ·rw [List.getElem?_append_right (by simpa using hi)] at h2
     rw [List.getElem?_replicate] at h2
     split at h2 <;> cases h2
   have ha:vs[i]?=some v:=by
    unfold start at h2
    rw [List.getElem?_append_left (by simpa using hi),List.getElem?_map] at h2
    cases e:vs[i]? with
    | none=>rw [e] at h2;cases h2
    | some a=>rw [e] at h2;cases h2;rfl
   obtain ⟨u,hu,rv⟩:=r.get ha
   have hp:ps[i]?=some y:=by
    rw [← S.pre,List.getElem?_take_of_lt (by omega)];exact h1
   have ndP:ps.Nodup:=by rw [← S.pre];exact S.nd.sublist (List.take_sublist _ _)
   refine ⟨u,rv,?_⟩
   rcases S.par y (List.mem_of_getElem? hp) with k|k
   ·exact .inl ⟨k,bindL_get ndP hp hu k⟩
   ·obtain ⟨c,e⟩:=cell_has (n:=s.heap.objs.size+1) k
    refine .inr ⟨.inl k,c,e,?_⟩
    have q:=x.cell y c e
    rw [bindC_get ndP hp hu (by show scope.names.lookup y≠_;rw [k];decide)] at q
    exact q
  ·exact e0.hok.fresh (Nat.le_of_lt (x.above y c (PySem.mem_of_lookup h)))
  ·unfold start
   show _=N.length
   rw [List.length_append,List.length_map,List.length_replicate]
   omega
theorem fn_of {CX:CXT}{P:Program}{w:World}{K:PySem.W.Frag}{mg:Str→Option Value}{base:Heap}{k:Nat}{f:Addr}{name qual:Str}{params:Arguments}{body:List Stmt}{scope:Scope}{dV kV doc pm cdv ct oc:Value}{an od:Option Addr}
 {osl:Array (Option Value)}{N ps:List Str}{sp:Sp} (lk:K.lookup f=some ⟨oc,od,.func (PySem.W.fnOf name qual params body scope dV kV doc pm an cdv ct),osl⟩) (hcd:PySem.W.codeIn K cdv qual=true) (S:FnScope N ps scope)
 (len : ∀ vs H Q E,sp vs H Q E→vs.length=ps.length)
 (hbody : ∀ (A:Around) (outer:List Env) (s:Shared) (H:Hp) (vs:List V) (Q:VK) (E:XK),Room k (A.deeper (envOfC qual scope s.heap.objs.size f cdv))→sp vs H Q E →
 ∃ t,PSs (cxOf CX P w K mg base N qual scope f cdv A outer s H E) body t∧t { nx:=fun _ H'=>Q .non H',rt:=Q } (start N vs) H) :
  FnOk P w K mg base CX (k+1) f (PySem.W.fnOf name qual params body scope dV kV doc pm an cdv ct) ps sp:=by
  refine ⟨len,fun A outer s H args us vs Q E hr e0 hb r hsp=>?_⟩
  have hl:=len _ _ _ _ hsp
  have KX:K.In s.heap:=e0.mod.kin.keeps fun b o e=>(e0.bs b o e).1
  have lim:s.heap.NoLimit:=e0.mod.nolimit.keeps fun b o e=>(e0.bs b o e).1
  have hkind : ∀ y ∈ ps.zip us,scope.names.lookup y.1=some .local∨(scope.names.lookup y.1=some .cell∧((cellsFrom (s.heap.objs.size+1) scope.names []).lookup y.1).isSome=true):=fun xx41 hy=>by
   obtain ⟨n,v⟩:=xx41
   rcases S.par n (List.of_mem_zip hy).1 with q|q
   ·exact .inl q
   ·exact .inr ⟨q,PySem.W.cellsFrom_some _ _ _ (.inl q)⟩
  refine codeAny_call_function hr.depth (KX _ _ lk) rfl S.co S.gen rfl (PySem.W.codeRec_of KX hcd) (hb _ _ _ _ ?_)
  refine wpAny_newFunctionEnv_cells S.kind hkind fun env he s1 x=>?_
  subst he
  refine ⟨lim.keeps x.toInCall.keep,codeAny_func ?_⟩
  obtain ⟨t,ht,hq⟩:=hbody A outer s H vs Q E (hr.deeper _) hsp
  have I:Inv (cxOf CX P w K mg base N qual scope f cdv A outer s H E) [] (start N vs) H s1:=inv_start S hr.hd e0 hl r x
  refine wpAny_mono (ht [] s1 (start N vs) H _ I hq) (fun fl s' hs=>?_) fun e s' hs=>hs
  have fin : ∀ {σ':St}{H':Hp}{v:V}{u:Value},Inv (cxOf CX P w K mg base N qual scope f cdv A outer s H E) [] σ' H' s'→RelV v u→Q v H'→CE outer P w H s Q u s' :=
   fun {σ' H' v u} J rv q=>⟨v,H',J.os,J.bare,J.base,J.hok,rv,q⟩
  cases fl with
  | ret u =>
   obtain ⟨v,σ',H',J,rv,q⟩:=hs
   exact fin J rv q
  | next =>
   obtain ⟨σ',H',J,q⟩:=hs
   exact fin (v:=V.non) (u:=Value.none) J rfl q
  | brk =>
   obtain ⟨_,_,_,q⟩:=hs
   exact False.elim q
  | cont =>
   obtain ⟨_,_,_,q⟩:=hs
   exact False.elim q
end L2
namespace L2
open PySem PySem.Spec PyProof.Rows
section
variable {X:Cx}{x:Str}{p pos:Pos}{e:Expr}{es:List Expr}{t:TA}{id T:String}{r:List V→Hp→VK→Prop}
def tCB (r:List V→Hp→VK→Prop) (t:TA):TE:=fun σ H Q=>t σ H fun vs H1=>r vs H1 Q
theorem pe_callB (hc:CallR X (.builtin id) r) (hg:Gl X x) (hm:X.mg x=none) (hv:bootBuiltins x=some (.builtin id)) (ha:PA X (e::es) t) (hn:x ≠ "__name__":=by decide) (hdb:(x==("__debug__" : Str))=false:=by decide)
 (he:starEach (e::es) X.env=(false,eval e X.env)::starEach es X.env:=by rfl) (hpl:(backTo pos (starEach es X.env)).any (·.1)=false:=by rfl):PE X (.Call (.Name x p) (e::es) [] pos) (tCB r t):=by
 intro pins s σ H Q I h
 refine wpAny_Call_Name_kw (ld_blt I hg hm hv ?_ hn hdb)
 exact PyProof.Rows.callWith_builtin1 (thn (ha pos pins s σ H _ I h) fun us s1 xx42=>by obtain ⟨vs,H1,I1,r1,q1⟩:=xx42;exact hc pins s1 σ H1 vs us Q I1 r1 q1) he hpl
theorem pe_callTy (hc:CallR X (.type T) r) (hg:Gl X x) (hm:X.mg x=none) (hv:bootBuiltins x=some (.type T)) (ha:PA X (e::es) t) (hn:x ≠ "__name__":=by decide) (hdb:(x==("__debug__" : Str))=false:=by decide)
 (he:starEach (e::es) X.env=(false,eval e X.env)::starEach es X.env:=by rfl) (hpl:(backTo pos (starEach es X.env)).any (·.1)=false:=by rfl):PE X (.Call (.Name x p) (e::es) [] pos) (tCB r t):=by
 intro pins s σ H Q I h
 refine wpAny_Call_Name_kw (ld_blt I hg hm hv ?_ hn hdb)
 exact PyProof.Rows.callWith_type1 (thn (ha pos pins s σ H _ I h) fun us s1 xx43=>by obtain ⟨vs,H1,I1,r1,q1⟩:=xx43;exact hc pins s1 σ H1 vs us Q I1 r1 q1) he hpl
end
end L2
namespace HT
open PySem PyProof.Rows
section
open PySem.SeqAt
open PySem.AutoSeq1 (wpAny_loadPart')
open PySem.MeetsSeq PySem.MeetsSeq2 PySem.MeetsSeq3
end
section
variable {prog:Program}{w:World}{A:Around}{E:Value→Shared→Prop}{s:Shared}
theorem cat_tup {t b:Addr}{vs ws:List Value}{Q:Value→Shared→Prop} (ht:IsTup s.heap t vs.toArray) (hb:IsTup s.heap b ws.toArray) (hv:vs≠[])
 (h1:ws=[]→Q (.ref t) s) (h2:ws≠[]→Q (.ref s.heap.objs.size) { s with heap:=s.heap.push { cls :=.type "tuple",data :=.seq (vs++ws).toArray } })
  (hsz:vs.length+ws.length≤sizeLine):wpAny (model prog w) A (binaryOp .Add (.ref t) (.ref b)) Q E s:=by
  obtain ⟨⟨cls,dd,data,sl⟩,ho,hc,n,hd⟩:=id ht
  obtain ⟨⟨cls2,dd2,data2,sl2⟩,ho2,hc2,n2,hd2⟩:=id hb
  simp only at hc hd hc2 hd2
  subst hc hd hc2 hd2
  have e:vs.toArray++ws.toArray=(vs++ws).toArray:=by simp
  by_cases hw:ws=[]
  ·exact concat_meets ⟨_,ho,rfl⟩ ⟨_,ho2,rfl⟩ noFill_tuple_add seq_tuple_add PySem.F.slot_tuple_add PySem.F.entry_tuple_add (PySem.F.args_tuple_add_2 _ _)
    (tuple_addW1 t b vs.toArray ws.toArray n n2 dd dd2 sl sl2 (by simpa using hv) (by simp [hw])) ⟨ho,ho2,h1 hw⟩
  ·refine concat_meets ⟨_,ho,rfl⟩ ⟨_,ho2,rfl⟩ noFill_tuple_add seq_tuple_add PySem.F.slot_tuple_add PySem.F.entry_tuple_add (PySem.F.args_tuple_add_2 _ _)
    (tuple_addW2 t b vs.toArray ws.toArray n n2 dd dd2 sl sl2 (by simpa using hv) (by simpa using hw) (by rw [List.size_toArray,List.size_toArray];exact hsz)) ⟨ho,ho2,?_⟩
   rw [e]
   exact h2 hw
end
end HT
namespace L2
open PySem PySem.Spec PyProof.Rows
abbrev TO:=St→Hp→(Option Int→Hp→Prop)→Prop
def PO (X:Cx) (e:Option Expr) (t:TO):Prop :=
 ∀ (pins:List (Addr×Obj)) (s:Shared) (σ:St) (H:Hp) (Q:Option Int→Hp→Prop),Inv X pins σ H s→t σ H Q →
  wpAny (model X.prog X.w) X.A (evalPart e X.env) (fun u s' => ∃ o H',Inv X pins σ H' s'∧IsPart u o∧Q o H') X.xe s
def tNoPart:TO:=fun _ H Q=>Q none H
def tPart (t:TE):TO:=fun σ H Q=>t σ H fun x H1 => ∃ i,x = .int i∧Q (some i) H1
theorem intsAre_of {ns:List Int} : ∀ {us:List Value},Vals (ns.map V.int) us→IntsAre us ns:=by
 induction ns with
 | nil=>intro us r;rw [List.map_nil] at r;cases r;exact .nil
 | cons n ns ih =>
  intro us r
  rw [List.map_cons] at r
  cases r with
  | cons r1 r2 =>
   obtain ⟨t,e⟩:=r1
   subst e
   exact .cons n t (ih r2)
section
variable {X:Cx}{e:Expr}{te:TE}{lo hi:Option Expr}{tl th:TO}{pos p2:Pos}
theorem po_none:PO X none tNoPart:=by
 intro pins s σ H Q I h
 rw [evalPart_none]
 exact wpAny_pure ⟨none,H,I,.none,h⟩
theorem po_some (h:PE X e te):PO X (some e) (tPart te):=by
 intro pins s σ H Q I hw
 rw [evalPart_some]
 refine thn (h pins s σ H _ I hw) fun u s1 xx44=>?_
 obtain ⟨x,H1,I1,r1,q1⟩:=xx44
 obtain ⟨i,rfl,q⟩:=q1
 obtain ⟨t,rfl⟩:=r1
 exact ⟨some i,H1,I1,.int i t,q⟩
def SlR (X:Cx) (r:V→Option Int→Option Int→Hp→VK→Prop):Prop :=
 ∀ (pins:List (Addr×Obj)) (s:Shared) (σ:St) (H:Hp) (x:V) (v vl vu:Value) (lo hi:Option Int) (sl:Addr) (Q:VK),Inv X pins σ H s→RelV x v→s.heap.IsSliceOf sl vl vu .none→IsPart vl lo→IsPart vu hi→r x lo hi H Q →
  ∃ T id,typeLookup (.type T) "__getitem__" = pure (some (.builtin id))∧s.TypeIs v T∧wpAny (model X.prog X.w) X.A (getItem v (.ref sl)) (EP X pins σ Q) X.xe s
def tSl (r:V→Option Int→Option Int→Hp→VK→Prop) (te:TE) (tl th:TO):TE:=fun σ H Q=>te σ H fun x H1=>tl σ H1 fun l H2=>th σ H2 fun u H3=>r x l u H3 Q
theorem pe_slice {r:V→Option Int→Option Int→Hp→VK→Prop} (hr:SlR X r) (he:PE X e te) (hl:PO X lo tl) (hu:PO X hi th):PE X (.Subscript e (.Slice lo hi none p2) pos) (tSl r te tl th):=by
 intro pins s σ H Q I h
 refine Subscript_ (thn (he pins s σ H _ I h) fun v s1 xx47=>?_)
 obtain ⟨x,H1,I1,r1,q1⟩:=xx47
 refine wpAny_Slice (thn (hl pins s1 σ H1 _ I1 q1) fun vl s2 ⟨l,H2,I2,pl,q2⟩=>thn (hu pins s2 σ H2 _ I2 q2) fun vu s3 xx45=>?_)
 obtain ⟨u,H3,I3,pu,q3⟩:=xx45
 rw [evalPart_none]
 refine wpAny_pure ?_
 have I4:Inv X pins σ H3 { s3 with heap:=s3.heap.push { cls :=.type "slice",data :=.fields #[vl,vu,.none] } }:=I3.kept (t':=s3.toks) fun b ob q=>Heap.get?_push_of_some _ q
 obtain ⟨T,id,hT,ht,hg⟩:=hr pins { s3 with heap:=s3.heap.push { cls :=.type "slice",data :=.fields #[vl,vu,.none] } } σ H3 x v vl vu l u s3.heap.objs.size Q I4 r1 (Heap.IsSliceOf.new ..) pl pu q3
 show wpAny (model X.prog X.w) X.A (subscriptTail e (.Slice lo hi none p2) v (.ref s3.heap.objs.size)) (EP X pins σ Q) X.xe { s3 with heap:=s3.heap.push { cls :=.type "slice",data :=.fields #[vl,vu,.none] } }
 exact tail_any (ops:=[.ref s3.heap.objs.size,v]) ht hT hg (by with_unfolding_all rfl)
def rCatT (K:PySem.W.Frag):R2:=fun x y H Q => ∃ a b xs ys,x = .ref a∧y = .ref b∧SqT K H a xs∧SqT K H b ys∧xs≠[]∧xs.length+ys.length≤sizeLine ∧
 (ys=[]→Q (.ref a) H)∧(ys≠[] → ∀ p,H p=none→Q (.ref p) (upd H p (.tup (xs++ys))))
theorem Vals.nil_iff {xs:List V}{us:List Value} (r:Vals xs us):us=[]↔xs=[]:=by
 cases r with
 | nil=>simp
 | cons _ _=>simp
theorem op_catT:OpR X (binaryOp .Add) (rCatT X.K):=by
 intro pins s σ H x y v u Q I rx ry h
 obtain ⟨a,b,xs,ys,rfl,rfl,ha,hb,hx,hz,q1,q2⟩:=h
 cases rx
 cases ry
 obtain ⟨its,r1,p1,_⟩:=I.tuple ha
 obtain ⟨its2,r2,p2,_⟩:=I.tuple hb
 refine HT.cat_tup p1 p2 (fun z=>hx (r1.nil_iff.mp z)) (fun z=>⟨.ref a,H,I,rfl,q1 (r2.nil_iff.mp z)⟩) (fun z=>?_) (by rw [← r1.length,← r2.length];exact hz)
 refine ⟨.ref s.heap.objs.size,_,I.laid (t':=s.toks) (o :=.tup (xs++ys)) (fun b ob q=>Heap.get?_push_of_some _ q) (Nat.le_refl _) ?_,rfl,q2 (fun w=>z (r2.nil_iff.mpr w)) _ (I.hok.fresh (Nat.le_refl _))⟩
 exact ⟨by rw [List.length_append];exact hz,_,r1.append r2,IsTup.new _ _⟩
end
end L2
namespace L2
open PySem PySem.Spec PyProof.Rows
def ixN (n:Nat) (i:Int):Option Nat:=if 0≤i then (if i<n then some i.toNat else none) else if -(n:Int)≤i then some (i+n).toNat else none
def atI {α:Type} (xs:List α) (i:Int):Option α:=(ixN xs.length i).bind fun j=>xs[j]?
theorem ixN_seq {n:Nat}{i:Int}{j:Nat} (h:ixN n i=some j):seqIndex? i n=some j∧j<n ∧ -(n:Int)≤i∧i<n:=by
 unfold ixN at h
 by_cases h0:0≤i
 ·rw [if_pos h0] at h
  by_cases h1:i<n
  ·rw [if_pos h1] at h
   have e:i.toNat=j:=Option.some.inj h
   exact ⟨by rw [seqIndex_of h0 h1,e],by omega,by omega,h1⟩
  ·rw [if_neg h1] at h;cases h
 ·rw [if_neg h0] at h
  by_cases h1 : -(n:Int)≤i
  ·rw [if_pos h1] at h
   have e:(i+n).toNat=j:=Option.some.inj h
   exact ⟨by rw [seqIndex_neg (by omega) h1,e],by omega,h1,by omega⟩
  ·rw [if_neg h1] at h;cases h
theorem atI_get {α:Type}{xs:List α}{i:Int}{v:α} (h:atI xs i=some v) : ∃ j,seqIndex? i xs.length=some j∧xs[j]?=some v∧j<xs.length ∧ -(xs.length:Int)≤i∧i<xs.length:=by
 unfold atI at h
 cases e:ixN xs.length i with
 | none=>rw [e] at h;cases h
 | some j =>
  rw [e] at h
  obtain ⟨h1,h2,h3,h4⟩:=ixN_seq e
  exact ⟨j,h1,h,h2,h3,h4⟩
theorem atI_nat {α:Type}{xs:List α}{j:Nat}{v:α} (h:xs[j]?=some v):atI xs (j:Int)=some v:=by
 have hj:j<xs.length:=(List.getElem?_eq_some_iff.mp h).1
 have e:ixN xs.length (j:Int)=some j:=by
  unfold ixN
  rw [if_pos (by omega),if_pos (by omega)];simp
 unfold atI;rw [e];exact h
def PlainIx (b:Expr):Prop := ∀ o i,subscripted b false o i=operate [o,i] (getItem o i)
def IxR (X:Cx) (r:R2):Prop :=
 ∀ (value slice:Expr) (pins:List (Addr×Obj)) (s:Shared) (σ:St) (H:Hp) (x y:V) (v u:Value) (Q:VK),Inv X pins σ H s→RelV x v→RelV y u→r x y H Q →
  subscripted slice false v u=operate [v,u] (getItem v u)→wpAny (model X.prog X.w) X.A (subscriptTail value slice v u) (EP X pins σ Q) X.xe s
def MtR (X:Cx) (id:String) (r:V→List V→Hp→VK→Prop):Prop :=
 ∀ (pins:List (Addr×Obj)) (s:Shared) (σ:St) (H:Hp) (x:V) (xs:List V) (v:Value) (us:List Value) (Q:VK),Inv X pins σ H s→RelV x v→Vals xs us→r x xs H Q →
  wpAny (model X.prog X.w) X.A (call (.builtin id) (v::us)) (EP X pins σ Q) X.xe s
section
variable {X:Cx}{a b:Expr}{ta tb:TE}{pos:Pos}
theorem IxR.or {r r':R2} (h:IxR X r) (h':IxR X r'):IxR X (fun x y H Q=>r x y H Q∨r' x y H Q):=by
 intro value slice pins s σ H x y v u Q I rx ry q hs
 rcases q with q|q
 ·exact h value slice pins s σ H x y v u Q I rx ry q hs
 ·exact h' value slice pins s σ H x y v u Q I rx ry q hs
theorem pe_ix {r:R2} (hr:IxR X r) (ha:PE X a ta) (hb:PE X b tb) (hs:PlainIx b):PE X (.Subscript a b pos) (tOp r ta tb):=by
 intro pins s σ H Q I h
 exact Subscript_ (binT ha hb I h fun v u s2 x y H2 I2 rx ry q=>hr a b pins s2 σ H2 x y v u Q I2 rx ry q (hs _ _))
def rIxL (K:PySem.W.Frag):R2:=fun x y H Q => ∃ p xs i v,x = .ref p∧y = .int i∧SqL K H p xs∧atI xs i=some v∧Q v H
def rIxT (K:PySem.W.Frag):R2:=fun x y H Q => ∃ p xs i v,x = .ref p∧y = .int i∧SqT K H p xs∧atI xs i=some v∧Q v H
def rIxS:R2:=fun x y H Q => ∃ z i c,x = .str z∧y = .int i∧z.length≤sizeLine∧atI z.cps.toList i=some c∧Q (.str ⟨#[c]⟩) H
theorem ix_list:IxR X (rIxL X.K):=by
 intro value slice pins s σ H x y v u Q I rx ry h hs
 obtain ⟨p,xs,i,z,rfl,rfl,hq,he,q⟩:=h
 cases rx
 obtain ⟨t,rfl⟩:=ry
 obtain ⟨its,r,pl,hz⟩:=I.list hq
 obtain ⟨j,h1,h2,h3,h4,h5⟩:=atI_get he
 obtain ⟨w,ew,rw'⟩:=r.get h2
 have hl:=r.length
 have hn:=line63
 have fin:EP X pins σ Q w s:=⟨z,H,I,rw',q⟩
 by_cases h0:0≤i
 ·have hj:i.toNat=j:=by
   rw [seqIndex_of h0 h5] at h1
   exact Option.some.inj h1
  exact item_listR pl.isList h0 (by omega) (by rw [hj];simpa using ew) fin hs
 ·have hj:(i+(its.toArray.size:Int)).toNat=j:=by
   rw [seqIndex_neg (by omega) h4] at h1
   rw [List.size_toArray,← hl]
   exact Option.some.inj h1
  exact subscriptTail_builtinR (x:=w) pl.isList.typeIs slot_list_getitem.lookup
   (wpAny_getItem_list_neg (Q:=fun r s'=>r=w∧EP X pins σ Q r s') pl.isList (by omega) (by rw [List.size_toArray] <;> omega) (by omega) (by rw [hj];simpa using ew) ⟨rfl,fin⟩) hs
theorem ix_tup:IxR X (rIxT X.K):=by
 intro value slice pins s σ H x y v u Q I rx ry h hs
 obtain ⟨p,xs,i,z,rfl,rfl,hq,he,q⟩:=h
 cases rx
 obtain ⟨t,rfl⟩:=ry
 obtain ⟨its,r,pl,hz⟩:=I.tuple hq
 obtain ⟨j,h1,h2,h3,h4,h5⟩:=atI_get he
 obtain ⟨w,ew,rw'⟩:=r.get h2
 have hl:=r.length
 have hn:=line63
 have fin:EP X pins σ Q w s:=⟨z,H,I,rw',q⟩
 exact subscriptTail_builtinR (x:=w) pl.typeIs slot_tuple_getitem.lookup
  (getItem_tuple (j:=j) (Q:=fun r s'=>r=w∧EP X pins σ Q r s') pl (by omega) (by omega) (by rw [List.size_toArray,← hl];exact h1) (by simpa using ew) ⟨rfl,fin⟩) hs
theorem ix_str:IxR X rIxS:=by
 intro value slice pins s σ H x y v u Q I rx ry h hs
 obtain ⟨z,i,c,rfl,rfl,hz,he,q⟩:=h
 obtain ⟨t,rfl⟩:=rx
 obtain ⟨t',rfl⟩:=ry
 obtain ⟨j,h1,h2,h3,h4,h5⟩:=atI_get he
 have hl:z.cps.toList.length=z.length:=by simp [Str.length]
 rw [hl] at h1 h4 h5
 have hn:=line63
 exact tail_any (typeIs_str s z t) slot_str_getitem.lookup (getItem_str (c:=c) (by
  have e1:decide (i < -(2^63:Int))=false:=decide_eq_false (by omega)
  have e2:decide (i≥2^63)=false:=decide_eq_false (by omega)
  rw [e1,e2,Bool.or_false]) (by rw [h1];simpa using h2) ⟨.str ⟨#[c]⟩,H,I.tok _,⟨_,rfl⟩,q⟩) hs
def rIx (K:PySem.W.Frag):R2:=fun x y H Q=>rIxL K x y H Q∨rIxT K x y H Q∨rIxS x y H Q
theorem ix_seq:IxR X (rIx X.K):=ix_list.or (ix_tup.or ix_str)
theorem mapSeq_set (its:List Value) (n j:Nat) (u:Value):Obj.mapSeq (·.setIfInBounds j u) { cls :=.type "list",data :=.seq its.toArray n }={ cls :=.type "list",data :=.seq (its.set j u).toArray n }:=by
 simp [Obj.mapSeq]
theorem Inv.lst {pins:List (Addr×Obj)}{σ:St}{H:Hp}{s:Shared}{p:Addr}{xs:List V} (I:Inv X pins σ H s) (h:H p=some (.lst xs)) :
 ∃ (its:List Value) (n:Nat),Vals xs its∧s.heap.get? p=some { cls :=.type "list",data :=.seq its.toArray n }∧xs.length≤sizeLine:=by
  obtain ⟨z,its,n,r,e⟩:=I.hok p _ h
  exact ⟨its,n,r,e,z⟩
theorem Inv.lstUpd {pins:List (Addr×Obj)}{σ:St}{H:Hp}{s:Shared}{p:Addr}{xs ys:List V}{its its':List Value}{n n':Nat}{f:Obj→Obj} (I:Inv X pins σ H s) (h:H p=some (.lst xs))
 (ho:s.heap.get? p=some { cls :=.type "list",data :=.seq its.toArray n }) (hf:f { cls :=.type "list",data :=.seq its.toArray n }={ cls :=.type "list",data :=.seq its'.toArray n' }) (r:Vals ys its') (hz:ys.length≤sizeLine) (t:Nat) :
  Inv X pins σ (upd H p (.lst ys)) { s with heap:=s.heap.update p f,toks:=t }:=by
  have e:(s.heap.update p f).get? p=some { cls :=.type "list",data :=.seq its'.toArray n' }:=by
   rw [Heap.get?_update_self f ho (by rw [hf] <;> rfl),hf]
  refine I.write (x:=p) (e:=p) (by rw [h];trivial) (.inl rfl) (fun b u hb q=>(Heap.get?_update_other _ _ (Ne.symm hb)).trans q) ⟨_,e⟩ ?_
  exact ⟨hz,its',n',r,e⟩
def rSetL:V→V→V→Hp→(Hp→Prop)→Prop:=fun o i v H Q => ∃ p xs k j,o = .ref p∧i = .int k∧H p=some (.lst xs)∧ixN xs.length k=some j∧Q (upd H p (.lst (xs.set j v)))
theorem set_list:PSet X rSetL:=by
 intro pins s σ H o i v ov iv u Q I ro ri rv h
 obtain ⟨p,xs,k,j,rfl,rfl,hp,hj,q⟩:=h
 cases ro
 obtain ⟨t,rfl⟩:=ri
 obtain ⟨its,n,r,ho,hz⟩:=I.lst hp
 obtain ⟨h1,h2,h3,h4⟩:=ixN_seq hj
 have hl:=r.length
 have hn:=line63
 have I':Inv X pins σ (upd H p (.lst (xs.set j v))) { s with heap:=s.heap.update p (Obj.mapSeq (·.setIfInBounds j u)) } :=
  I.lstUpd hp ho (mapSeq_set its n j u) (r.set rv j) (by rw [List.length_set];exact hz) s.toks
 by_cases h0:0≤k
 ·have hk:k.toNat=j:=by
   rw [seqIndex_of h0 h4] at h1
   exact Option.some.inj h1
  exact PySem.W.ki_setAt ho h0 (by omega) (by rw [List.size_toArray,← hl];exact h4) (by rw [hk];exact ⟨_,I',q⟩)
 ·have hk:(k+(its.toArray.size:Int)).toNat=j:=by
   rw [seqIndex_neg (by omega) h3] at h1
   rw [List.size_toArray,← hl]
   exact Option.some.inj h1
  exact PySem.W.ki_setBack ho (by omega) (by rw [List.size_toArray,← hl];exact h3) (by omega) (by rw [hk];exact ⟨_,I',q⟩)
theorem call_len_seq:CallR X (.builtin "len") (fun xs H Q => ∃ p ys,xs=[.ref p]∧(SqL X.K H p ys∨SqT X.K H p ys)∧Q (.int ys.length) H):=by
 intro pins s σ H xs us Q I r h
 obtain ⟨p,ys,rfl,hq,q⟩:=h
 obtain ⟨u,rfl,rx⟩:=vals1 r
 cases rx
 have hn:=line63
 rcases hq with hq|hq
 ·obtain ⟨its,r',pl,hz⟩:=I.list hq
  have hlen:=r'.length
  exact Calls.call_len_list pl.isList (by simp only [List.size_toArray] <;> omega) ⟨.int ys.length,H,I.tok _,⟨s.toks+1,by rw [List.size_toArray,hlen]⟩,q⟩
 ·obtain ⟨its,r',pl,hz⟩:=I.tuple hq
  have hlen:=r'.length
  exact len_tuple pl (by simp only [List.size_toArray] <;> omega) ⟨.int ys.length,H,I.tok _,⟨s.toks+1,by rw [List.size_toArray,hlen]⟩,q⟩
theorem call_len_str:CallR X (.builtin "len") (fun xs H Q => ∃ z,xs=[.str z]∧z.length≤sizeLine∧Q (.int z.length) H):=by
 intro pins s σ H xs us Q I r h
 obtain ⟨z,rfl,hz,q⟩:=h
 obtain ⟨u,rfl,t,rfl⟩:=vals1 r
 have hn:=line63
 exact len_str (by omega) ⟨.int z.length,H,I.tok _,⟨_,rfl⟩,q⟩
theorem CallR.or {f:Value}{r r':List V→Hp→VK→Prop} (h:CallR X f r) (h':CallR X f r'):CallR X f (fun xs H Q=>r xs H Q∨r' xs H Q):=by
 intro pins s σ H xs us Q I rs q
 rcases q with q|q
 ·exact h pins s σ H xs us Q I rs q
 ·exact h' pins s σ H xs us Q I rs q
theorem call_tuple_of:CallR X (.type "tuple") (fun xs H Q => ∃ p ys,xs=[.ref p]∧((SqL X.K H p ys ∧ ∀ l,H l=none→Q (.ref l) (upd H l (.tup ys)))∨(SqT X.K H p ys∧Q (.ref p) H))):=by
 intro pins s σ H xs us Q I r h
 obtain ⟨p,ys,rfl,h⟩:=h
 obtain ⟨u,rfl,rx⟩:=vals1 r
 cases rx
 rcases h with ⟨hq,q⟩|⟨hq,q⟩
 ·obtain ⟨its,r',pl,hz⟩:=I.list hq
  have hlen:=r'.length
  refine call_tuple_list pl.isList (fun h' kp=>?_) (by simp only [List.size_toArray] <;> omega)
  have I1:Inv X pins σ H { s with heap:=h' }:=I.kept (t':=s.toks) kp
  have I2:Inv X pins σ (upd H h'.objs.size (.tup ys)) { s with heap:=h'.push { cls :=.type "tuple",data :=.seq its.toArray } } :=
   I1.laid (t':=s.toks) (fun b o e=>Heap.get?_push_of_some _ e) (Nat.le_refl _) (show ObjOk X.prog X.w _ _ _ (.tup ys) from ⟨hz,its,r',IsTup.new _ _⟩)
  exact ⟨.ref h'.objs.size,_,I2,rfl,q _ (I1.hok.fresh (Nat.le_refl _))⟩
 ·obtain ⟨its,r',pl,hz⟩:=I.tuple hq
  exact call_tuple_same pl ⟨.ref p,H,I,rfl,q⟩
def tyV (K:PySem.W.Frag) (T:String) (x:V) (H:Hp):Prop:=match x with
 | .str _=>T = "str"
 | .int _=>T = "int"
 | .ref p=>(T = "list" ∧ ∃ xs,SqL K H p xs)∨(T = "tuple" ∧ ∃ o,K.lookup p=some o∧o.cls = .type "tuple" ∧ o.dict=none) ∨
  (T = "dict" ∧ ((∃ kvs,H p=some (.dK kvs)) ∨ ∃ kvs,H p=some (.dT kvs)))∨(T = "set" ∧ ∃ S n,H p=some (.set S n))
 | _=>False
theorem tyV_is {pins:List (Addr×Obj)}{σ:St}{H:Hp}{s:Shared}{T:String}{x:V}{v:Value} (I:Inv X pins σ H s) (r:RelV x v) (ty:tyV X.K T x H) :
 s.TypeIs v T ∧ ∀ a,v = .ref a → ∃ ob,s.heap.get? a=some ob∧ob.dict=none:=by
  cases x with
  | str z =>
   obtain ⟨t,rfl⟩:=r
   cases (show T = "str" from ty)
   exact ⟨typeIs_str s z t,fun _ e=>nomatch e⟩
  | int i =>
   obtain ⟨t,rfl⟩:=r
   cases (show T = "int" from ty)
   exact ⟨typeIs_int s i t,fun _ e=>nomatch e⟩
  | ref p =>
   cases r
   rcases ty with ⟨rfl,xs,hq⟩|⟨rfl,o,hk,hc,hd⟩|⟨rfl,hk⟩|⟨rfl,S,n,hk⟩
   ·obtain ⟨its,_,pl,_⟩:=I.list hq
    refine ⟨pl.isList.typeIs,fun a e=>?_⟩
    cases e
    obtain ⟨o,n,e,c,hd,_⟩:=pl
    exact ⟨o,e,hd⟩
   ·refine ⟨⟨o,I.kIn p o hk,hc⟩,fun a e=>?_⟩
    cases e
    exact ⟨o,I.kIn _ o hk,hd⟩
   ·have z : ∃ o,s.heap.get? p=some o∧o.ExactDict:=by
     rcases hk with ⟨kvs,hk⟩|⟨kvs,hk⟩
     ·obtain ⟨_,_,_,_,o,_,_,e,ex,_⟩:=I.hok p _ hk
      exact ⟨o,e,ex⟩
     ·obtain ⟨_,_,_,_,o,_,_,e,ex,_⟩:=I.hok p _ hk
      exact ⟨o,e,ex⟩
    obtain ⟨o,e,ex⟩:=z
    refine ⟨⟨o,e,ex.1⟩,fun a e2=>?_⟩
    cases e2
    exact ⟨o,e,ex.2.1⟩
   ·obtain ⟨o,_,_,_,e,ex,_⟩:=I.hok p _ hk
    refine ⟨⟨o,e,ex.1⟩,fun a e2=>?_⟩
    cases e2
    exact ⟨o,e,ex.2.1⟩
  | _=>exact False.elim ty
def tBM (K:PySem.W.Frag) (T:String) (r:V→List V→Hp→VK→Prop) (to:TE) (t:TA):TE:=fun σ H Q=>to σ H fun x H1=>tyV K T x H1∧t σ H1 fun xs H2=>r x xs H2 Q
variable {o e:Expr}{es:List Expr}{to:TE}{t:TA}{name:Str}{apos cpos:Pos}{T id:String}{r:V→List V→Hp→VK→Prop}
theorem pe_bm (pa:PlainAttrs T) (slot:Slot T name id) (hty:typeOf (.builtin id)=pure (.type "method_descriptor")) (hm:MtR X id r) (ho:PE X o to) (ha:PA X (e::es) t)
 (hbase:attributeBase o name X.env (eval o X.env)=eval o X.env:=by rfl)
  (hfew:((backTo cpos (starEach (e::es) X.env)).all (fun x => !x.1)&&(backToKw cpos (keywordEach [] X.env)).all (fun x=>x.1.isSome)
   && decide ((e::es).length+([]:List Keyword).length+(if ([]:List Keyword).isEmpty then 0 else 1)<30))=true:=by rfl)
  (hline:(apos.endLine==cpos.line)=true:=by rfl) (hs:starEach (e::es) X.env=(false,eval e X.env)::starEach es X.env:=by rfl) (hplain:(backTo cpos (starEach es X.env)).any (·.1)=false:=by rfl) :
  PE X (.Call (.Attribute o name apos) (e::es) [] cpos) (tBM X.K T r to t):=by
  intro pins s σ H Q I h
  refine wpAny_Call_method_late hbase hfew hline rfl (thn (ho pins s σ H _ I h) fun v s1 xx49=>?_)
  obtain ⟨x,H1,I1,r1,ty,q1⟩:=xx49
  obtain ⟨h1,h2⟩:=tyV_is I1 r1 ty
  refine ⟨T,id,pa,slot,hty,h1,h2,?_⟩
  have hA:=ha cpos pins s1 σ H1 _ I1 q1
  rw [hs] at hA ⊢
  refine Calls.callWith_builtin (by show (false||(backTo cpos (starEach es X.env)).any (·.1))=false;rw [hplain] <;> rfl) (Calls.evalArgs_plain ?_)
  exact thn hA fun us s2 xx48=>by obtain ⟨vs,H2,I2,r2,q2⟩:=xx48;exact hm pins s2 σ H2 x vs v us Q I2 r1 r2 q2
/- xs.append(e),list.index on a module's tuple .. are MtR facts of 06m -/
end
end L2
namespace L2
open PySem PySem.Spec PyProof.Rows
def MtM (X:Cx) (id:String) (r:V→List V→Hp→VK→Prop):Prop :=
 ∀ (pins:List (Addr×Obj)) (s:Shared) (σ:St) (H:Hp) (x:V) (xs:List V) (v:Value) (us:List Value) (Q:VK),Inv X pins σ H s→RelV x v→Vals xs us→r x xs H Q →
  wpAny (model X.prog X.w) X.A (call (.builtin id) (v::us)) (EP X pins σ Q) X.xe s
theorem Vals.one : ∀ {x:V}{us:List Value},Vals [x] us → ∃ u,us=[u]∧RelV x u
 | _,_,.cons r .nil=>⟨_,rfl,r⟩
theorem Vals.eraseIdx : ∀ {xs:List V}{us:List Value} (i:Nat),Vals xs us→Vals (xs.eraseIdx i) (us.eraseIdx i)
 | _,_,_,.nil => .nil
 | _,_,0,.cons _ t=>t
 | _,_,i+1,.cons r t => .cons r (Vals.eraseIdx i t)
theorem Vals.rep {xs:List V}{us:List Value} (h:Vals xs us) : ∀ k:Nat,Vals (List.replicate k xs).flatten (List.replicate k us).flatten
 | 0 => .nil
 | k+1=>by
  rw [List.replicate_succ,List.replicate_succ,List.flatten_cons,List.flatten_cons]
  exact Vals.append h (Vals.rep h k)
theorem len_erase {α:Type} : ∀ (l:List α) (i:Nat),(l.eraseIdx i).length≤l.length
 | [],_=>Nat.le_refl _
 | _::_,0=>Nat.le_succ _
 | _::r,i+1=>Nat.succ_le_succ (len_erase r i)
theorem foldl_rep (its:List Value) : ∀ (k:Nat) (acc:List Value),
 List.foldl (fun x1 x2=>x1++x2) acc.toArray (List.replicate k its.toArray)=(acc++(List.replicate k its).flatten).toArray
  | 0,acc=>by simp
  | k+1,acc=>by
   have e:acc.toArray++its.toArray=(acc++its).toArray:=by simp
   have e2:(acc++its)++(List.replicate k its).flatten=acc++(List.replicate (k+1) its).flatten:=by
    rw [List.replicate_succ,List.flatten_cons,List.append_assoc]
   rw [← e2,← foldl_rep its k (acc++its),← e,List.replicate_succ,List.foldl_cons]
section
variable {X:Cx}{pins:List (Addr×Obj)}{σ:St}{H:Hp}{s:Shared}{l b:Addr}{xs ys zs:List V}
theorem Inv.lset {its its':List Value}{n:Nat}{f:Array Value→Array Value}{t':Nat} (I:Inv X pins σ H s) (hH:H l=some (.lst xs))
 (e:s.heap.get? l=some { cls :=.type "list",data :=.seq its.toArray n }) (hf:f its.toArray=its'.toArray) (hv:Vals ys its') (hz:ys.length≤sizeLine) :
  Inv X pins σ (upd H l (.lst ys)) { s with heap:=s.heap.update l (Obj.mapSeq f),toks:=t' }:=by
  have q:=PySem.IsL.update e f
  rw [hf] at q
  refine I.write (x:=l) (e:=l) (by rw [hH];exact trivial) (.inl rfl) (fun b' u hb hu=>(Heap.get?_update_other s.heap (Obj.mapSeq f) (Ne.symm hb)).trans hu) ⟨_,q⟩ ?_
  exact ⟨hz,its',_,hv,q⟩
theorem Inv.lnew {its:List Value}{t':Nat} (I:Inv X pins σ H s) (hv:Vals ys its) (hz:ys.length≤sizeLine) :
 Inv X pins σ (upd H s.heap.objs.size (.lst ys)) { s with heap:=s.heap.push { cls :=.type "list",data :=.seq its.toArray },toks:=t' } :=
  I.laid (fun _ _ q=>Heap.get?_push_of_some _ q) (Nat.le_refl _) ⟨hz,its,0,hv,Heap.get?_push_size _ rfl⟩
theorem Inv.fresh (I:Inv X pins σ H s):H s.heap.objs.size=none:=I.hok.fresh (Nat.le_refl _)
theorem Inv.lstM (I:Inv X pins σ H s) (hH:H l=some (.lst xs)):xs.length≤sizeLine ∧ ∃ (its:List Value) (n:Nat),Vals xs its∧xs.length=its.length∧s.heap.get? l=some { cls :=.type "list",data :=.seq its.toArray n }:=by
 obtain ⟨z,its,n,r,e⟩:=I.hok l _ hH
 exact ⟨z,its,n,r,r.length,e⟩
theorem notLongL {n:Nat} (h:n≤sizeLine):Builtin.List.listTooLong n=false:=by
 unfold Builtin.List.listTooLong
 exact decide_eq_false (by omega)
end
section
variable {X:Cx}
def rAppend:V→List V→Hp→VK→Prop:=fun x vs H Q => ∃ l xs y,x = .ref l∧vs=[y]∧H l=some (.lst xs)∧xs.length<sizeLine∧Q .non (upd H l (.lst (xs++[y])))
theorem mt_append:MtM X "list.append" rAppend:=by
 intro pins s σ H x vs v us Q I rx rv h
 obtain ⟨l,xs,y,rfl,rfl,hH,hz,q⟩:=h
 cases rx
 obtain ⟨u,rfl,ru⟩:=rv.one
 obtain ⟨z,its,n,r,hl,e⟩:=I.lstM hH
 refine call_meets F.slot_list_append ⟨_,e,rfl⟩ F.entry_list_append (F.args_list_append_2 _ _) (PySem.list_append l its.toArray n u (by rw [List.size_toArray];omega)) ⟨e,?_⟩
 refine ⟨.non,_,I.lset (its':=its++[u]) hH e (by simp) (r.append (.cons ru .nil)) ?_,rfl,q⟩
 rw [List.length_append,List.length_singleton]
 omega
def rPopAt:V→List V→Hp→VK→Prop:=fun x vs H Q => ∃ l xs i k y,x = .ref l∧vs=[.int i]∧H l=some (.lst xs) ∧ -(2^63)≤i∧i<2^63∧seqIndex? i xs.length=some k∧xs[k]?=some y∧Q y (upd H l (.lst (xs.eraseIdx k)))
theorem mt_popAt:MtM X "list.pop" rPopAt:=by
 intro pins s σ H x vs v us Q I rx rv h
 obtain ⟨l,xs,i,k,y,rfl,rfl,hH,h1,h2,hk,hy,q⟩:=h
 cases rx
 obtain ⟨u,rfl,ru⟩:=rv.one
 obtain ⟨t,rfl⟩:=ru
 obtain ⟨z,its,n,r,hl,e⟩:=I.lstM hH
 obtain ⟨w,hw,rw'⟩:=r.get hy
 refine call_meets F.slot_list_pop ⟨_,e,rfl⟩ F.entry_list_pop (F.args_list_pop_2 _ _)
  (MeetsSeq.list_pop_at l its.toArray n i t k w (fitsIndex_both h1 h2) (by rw [List.size_toArray,← hl];exact hk) (by rw [← Array.getElem?_toList];exact hw) (by rw [List.size_toArray];omega)) ⟨e,?_⟩
 refine ⟨y,_,I.lset (its':=its.eraseIdx k) hH e ?_ (r.eraseIdx k) ?_,rw',q⟩
 ·show its.toArray.eraseIdxIfInBounds k=(its.eraseIdx k).toArray
  rw [List.eraseIdxIfInBounds_toArray]
 ·have:=len_erase xs k
  omega
def rCat:R2:=fun x y H Q => ∃ l b xs zs,x = .ref l∧y = .ref b∧H l=some (.lst xs)∧H b=some (.lst zs)∧xs.length+zs.length≤sizeLine ∧ ∀ p,H p=none→Q (.ref p) (upd H p (.lst (xs++zs)))
theorem op_cat:OpR X (binaryOp .Add) rCat:=by
 intro pins s σ H x y v u Q I rx ry h
 obtain ⟨l,b,xs,zs,rfl,rfl,hH,hB,hz,q⟩:=h
 cases rx
 cases ry
 obtain ⟨z,its,n,r,hl,e⟩:=I.lstM hH
 obtain ⟨z2,its2,n2,r2,hl2,e2⟩:=I.lstM hB
 refine PySem.P.add_list e e2 ?_ (by rw [List.size_toArray,List.size_toArray];omega)
 have ea:its.toArray++its2.toArray=(its++its2).toArray:=by simp
 rw [ea]
 exact ⟨.ref _,_,I.lnew (t':=s.toks) (r.append r2) (by rw [List.length_append];omega),rfl,q _ I.fresh⟩
def rRep:R2:=fun x y H Q => ∃ l k xs,x = .ref l∧y = .int k∧H l=some (.lst xs) ∧ -(2^63)≤k∧k<2^63∧xs.length*k.toNat≤sizeLine ∧
 ∀ p,H p=none→Q (.ref p) (upd H p (.lst (List.replicate k.toNat xs).flatten))
theorem len_rep {α:Type} (xs:List α) (k:Nat):(List.replicate k xs).flatten.length=k*xs.length:=by
 induction k with
 | zero=>simp
 | succ k ih=>rw [List.replicate_succ,List.flatten_cons,List.length_append,ih,Nat.succ_mul,Nat.add_comm]
theorem op_rep:OpR X (binaryOp .Mult) rRep:=by
 intro pins s σ H x y v u Q I rx ry h
 obtain ⟨l,k,xs,rfl,rfl,hH,h1,h2,hz,q⟩:=h
 cases rx
 obtain ⟨t,rfl⟩:=ry
 obtain ⟨z,its,n,r,hl,e⟩:=I.lstM hH
 have hlen:its.toArray.size*k.toNat≤sizeLine:=by rw [List.size_toArray,← hl];exact hz
 have hcap : ¬ its.toArray.size*k.toNat>(2^63-1)/8:=by
  have:(sizeLine:Nat)≤(2^63-1)/8:=by decide
  omega
 have hfit : ¬ (!Builtin.List.listFitsIndex k)=true:=by
  rw [fitsIndex_both h1 h2]
  exact Bool.false_ne_true
 have hlong : ¬ Builtin.List.listTooLong (its.toArray.size*k.toNat)=true:=by
  rw [notLongL hlen]
  exact Bool.false_ne_true
 have hnew:List.foldl (fun x1 x2=>x1++x2) #[] (List.replicate (if its.toArray.isEmpty=true then 0 else k.toNat) its.toArray)=(List.replicate k.toNat its).flatten.toArray:=by
  have f0 : ∀ m:Nat,List.foldl (fun x1 x2=>x1++x2) #[] (List.replicate m its.toArray)=(List.replicate m its).flatten.toArray:=fun m=>by
   have:=foldl_rep its m []
   rw [List.nil_append] at this
   exact this
  rw [f0]
  cases its with
  | nil=>simp
  | cons a r'=>rw [if_neg (by simp)]
 refine wpAny_binaryOp_repeat_ref (T := "list") (U := "int") (by decide) ⟨_,e,rfl⟩ (fun s'=>typeIs_int s' k t) noFill_list_mul F.fills_int_mul F.slot_int_rmul repeat_list F.slot_int_index.lookup
  (call_meets F.slot_int_rmul (typeIs_int s k t) F.entry_int_rmul (F.args_int_rmul_2 _ _) (int___rmul___int_list k t l its.toArray n)
   ⟨e,rfl,⟨_,e,rfl⟩,call_meets F.slot_list_mul ⟨_,e,rfl⟩ F.entry_list_mul (F.args_list_mul_2 _ _) (AutoListH.list___mul___list_int_3 l its.toArray n k t hfit hcap hlong) ⟨e,?_⟩⟩)
 rw [hnew]
 exact ⟨.ref _,_,I.lnew (t':=s.toks) (r.rep k.toNat) (by rw [len_rep,Nat.mul_comm];exact hz),rfl,q _ I.fresh⟩
end
section
variable {prog:Program}{w:World}{A:Around}{E:Value→Shared→Prop}{s:Shared}
end
section
variable {X:Cx}
end
end L2
namespace Att
open PySem PySem.W PySem.Calls PyProof.Rows
theorem ints_of_wellAll {P:Params}{h:Heap} : ∀ (ns:List Int) (vs:List Value),WellAll P h vs (ns.map WData.int)→IntsAre vs ns:=by
 intro ns
 induction ns with
 | nil =>
  intro vs w
  rw [List.map_nil] at w
  cases w
  exact .nil
 | cons n ns ih =>
  intro vs w
  rw [List.map_cons] at w
  cases w with
  | cons a b =>
   cases a
   exact .cons _ _ (ih _ b)
theorem script_of {l:OpenLaw}{n:Nat} (hn:l.most=some n) {P:Params}{h:Heap}{args:List WData}{vals:List Value}
 (hpre:l.row.toRowW.claim.pre args=true) (hwl:WellAll P h vals args) :
 ∃ a vs ns,vals=[Value.ref a]∧args=[WData.list (ns.map WData.int)]∧h.get? a=some { cls :=.type "list",data :=.seq vs.toArray }∧IntsAre vs ns∧ns.length≤n:=by
  have hsh:WShape.hasAll [] args [.list .int]=true:=(pre_splitW hpre).1
  have hc:l.pre.holds [] { args:=args }=true:=(pre_splitW hpre).2
  obtain ⟨d,r,rfl,h1,h2⟩:=hasAllW_cons hsh
  obtain rfl:=hasAllW_nil h2
  obtain ⟨xs,rfl,h3⟩:=hasW_list h1
  obtain ⟨ns,rfl⟩:=items_int h3
  have hlen:ns.length≤n:=by
   unfold OpenLaw.pre at hc
   have h4:(WTm.not (.lt (.lit (.int (n:Int))) (.len (.arg 0)))).holds [] { args:=[.list (ns.map .int)] }=true:=by
    have h4:=(holds_andW hc).1
    rw [hn] at h4
    exact h4
   have h5:=condW_of h4 (w_not (w_lt w_lit (w_len_list (w_arg rfl))))
   rw [List.length_map] at h5
   refine Nat.le_of_not_lt fun q=>?_
   have q':(n:Int)<((ns.length:Nat):Int):=by omega
   first
    | (rw [decide_eq_true q'] at h5;exact absurd h5 (by decide))
    | (simp at h5;omega)
  cases hwl with
  | cons w1 w2 =>
   cases w2
   cases w1 with
   | list ho hall=>exact ⟨_,_,ns,rfl,rfl,ho,ints_of_wellAll ns _ hall,hlen⟩
theorem post_true (l:OpenLaw) (args:List WData):l.row.toRowW.claim.post args (.bool true) args=true :=
 postW_of (r:=l.row.toRowW) (X:=(true==true))
  (show WShape.has [] (.bool true) .bool=true by first|rfl|decide|simp [WShape.has,WShape.arms,WShape.armsAll])
  (show (WTm.eq .res (.lit (.bool true))).value [] { args:=args,res:=some (.bool true),after:=args }=some (.bool (true==true)) from w_eq_bool (w_res rfl) w_lit) rfl
theorem attach_call {l:OpenLaw}{n:Nat}{q:Program}{loose:List Str}{XP:(Str→Option Value)→Heap→Prop}{YP:World→Heap→Prop}{d:DefRec}
 (hn:l.most=some n) (hdf:d.params.defaults=[])
 (call : ∀ (w:World) (s₀ s₁:Shared) (mg mb:Str→Option Value) (fa:Addr) (o:Obj) (pm cd doc:Value) (a:Addr) (vs:List Value) (ns:List Int),
 Ground q loose [] XP w s₀ mg mb s₁.heap→YP w s₁.heap →
 s₁.heap.get? fa=some o→o.data = .func (docDef d.name d.params d.body d.scope pm cd doc)→s₁.heap.CodeRec cd d.name→mg d.name=some (.ref fa) →
 s₁.heap.get? a=some { cls :=.type "list",data :=.seq vs.toArray }→IntsAre vs ns→ns.length≤n→s₁.gens = #[] →
  codeAny (model l.prog w) callerA (.call (.ref fa) ⟨[.ref a],[]⟩) (fun r s'=>r = .ok (.ret (.bool true))∧OldK s₁.heap s'.heap∧s'.os=s₁.os∧AllBare s'.gens) s₁) :
  WalkO q loose XP YP l.row.toRowW d [] (fun f vs=>PySem.call f vs):=by
  intro w s₀ s₁ mg mb G Y fa o pm cd doc dV kV ho hd hcd hD hmg hg args vals as hpre hlay hrd hwl hlo
  obtain rfl:dV = .none:=Dflts.none hD hdf
  obtain rfl:kV = .none:=Dflts.noKw hD
  obtain ⟨a,vs,ns,rfl,rfl,hobj,hints,hlen⟩:=script_of hn hpre hwl
  refine enter_call (codeAny_mono (call w s₀ s₁ mg mb fa o pm cd doc a vs ns G Y ho (fd_plain hd) hcd hmg hobj hints hlen hg) fun r s' hq=>?_)
  obtain ⟨rfl,h2,h3,h4⟩:=hq
  exact ⟨.inl ⟨.bool true,.bool true,[],rfl,fun _=>rfl,.bool true,post_true l _,fun _=>⟨List.Pairwise.nil,fun _ hm=>(nomatch hm)⟩⟩,h2,h3,h4⟩
section
variable {prog:Program}{w:World}{A:Around}{E:Value→Shared→Prop}{s:Shared}{K:Frag}
end
end Att
namespace L2
open PySem PySem.Spec PyProof.Rows
theorem vals_ints : ∀ {vs:List Value}{ns:List Int},IntsAre vs ns→Vals (ns.map V.int) vs
 | _,_,.nil => .nil
 | _,_,.cons n t h => .cons ⟨t,rfl⟩ (vals_ints h)
def Only (H:Hp):Prop := ∀ b,H b=none ∨ ∃ o xs,H b=some (.frz o (.lst xs))
theorem law_call {P:Program}{w:World}{K:PySem.W.Frag}{mg mb:Str→Option Value}{CX:CXT}{k:Nat}{fa a:Addr}{fd:FuncData}{x:Str}{sp:Sp}{s₁:Shared}{vs:List Value}{ns:List Int}
 (KX:K.In s₁.heap) (hns:s₁.heap.Ns mainGlobals mg) (hb:s₁.heap.Ns builtinsNs mb) (hbb : ∀ x:Str,x ≠ "__name__" → mb x=bootBuiltins x) (hlim:s₁.heap.NoLimit) (hg:s₁.gens = #[])
 (ha:s₁.heap.get? a=some { cls :=.type "list",data :=.seq vs.toArray }) (hi:IntsAre vs ns) (hl:ns.length≤sizeLine) (hr:Room k callerA)
  (F : ∀ base:Heap,K.In base→base.Ns mainGlobals mg→FnOk P w K mg base CX k fa fd [x] sp) (hbind : ∀ (s:Shared) (u:Value),BindsTo s fd ⟨[u],[]⟩ [(x,u)])
  (hsp : ∀ H:Hp,Only H→SqL K H a (ns.map V.int)→sp [.ref a] H (fun v _=>v = .bl true) fun _ _ _=>False)
  (hCX : ∀ H e s',CX [] H s₁ (fun _ _ _=>False) e s'→False) :
  codeAny (model P w) callerA (.call (.ref fa) ⟨[.ref a],[]⟩) (fun r s'=>r = .ok (.ret (.bool true))∧OldK s₁.heap s'.heap∧s'.os=s₁.os∧AllBare s'.gens) s₁:=by
  have rv:=vals_ints hi
  have lenV:=hi.length
  have core : ∀ H:Hp,Only H→SqL K H a (ns.map V.int)→HOk P w H s₁.heap→(∀ b,H b≠none→b=a)→(H a≠none→K.lookup a=none) →
   codeAny (model P w) callerA (.call (.ref fa) ⟨[.ref a],[]⟩) (fun r s'=>r = .ok (.ret (.bool true))∧OldK s₁.heap s'.heap∧s'.os=s₁.os∧AllBare s'.gens) s₁:=by
   intro H hO hS hok hA hK
   have base_of : ∀ {b:Addr}{o:Obj},s₁.heap.get? b=some o→H b=none→(hidT s₁.heap H).get? b=some o:=fun e n=>hidT_get e n
   have noA : ∀ {b:Addr}{o:Obj}{es:Array DictEntry}{ep:Nat},s₁.heap.get? b=some o→o.data = .dict es ep→H b=none:=fun {b o es ep} e d=>by
    cases q:H b with
    | none=>rfl
    | some u =>
     have e':b=a:=hA b (by rw [q];simp)
     subst e'
     rw [ha] at e;cases e
     have d':Data.seq vs.toArray _=Data.dict es ep:=d
     cases d'
   have nsK : ∀ {b:Addr}{m:Str→Option Value},s₁.heap.Ns b m→(hidT s₁.heap H).Ns b m:=fun {b m} ⟨o,es,ep,e,d,r⟩=>⟨o,es,ep,base_of e (noA e d),d,r⟩
   have hKb:K.In (hidT s₁.heap H):=fun b o e=>base_of (KX b o e) (by
    cases q:H b with
    | none=>rfl
    | some u =>
     have e':b=a:=hA b (by rw [q];simp)
     subst e'
     rw [hK (by rw [q];simp)] at e;cases e)
   have hM:Mod K mg (hidT s₁.heap H):=⟨hKb,nsK hns,⟨mb,nsK hb,hbb⟩,let ⟨mc,h1,h2⟩:=hlim; ⟨mc,nsK h1,h2⟩⟩
   have e0:Env0 P w K mg (hidT s₁.heap H) callerA [] s₁ H:=⟨rfl,hM,fun b o e=>of_hidT e,Nat.le_of_eq (hidT_size _ _),trivial,fun b hb=>absurd (show b ∈ ([]:List Addr) from hb) (by simp),hok,.of_eq hg⟩
   refine codeAny_mono ((F _ hKb (nsK hns)).run callerA [] s₁ H ⟨[.ref a],[]⟩ [.ref a] [.ref a] _ _ hr e0 (hbind s₁ (.ref a)) (.cons rfl .nil) (hsp H hO hS)) fun r s' h=>?_
   cases r with
   | error e=>exact (hCX H e s' h).elim
   | ok fl =>
    cases fl with
    | next=>exact False.elim h
    | brk=>exact False.elim h
    | cont=>exact False.elim h
    | ret u =>
     obtain ⟨v,H',os,bare,un,hok',r',q⟩:=h
     have q':v = .bl true:=q
     subst q'
     obtain rfl:u=Value.bool true:=r'
     refine ⟨rfl,OldK.of_keep fun b o e=>?_,os,bare⟩
     cases q:H b with
     | none=>exact un.keep b o e q (by intro z;exact absurd (show b ∈ ([]:List Addr) from z) (by simp)) (by simp)
     | some u =>
      rcases hO b with z|⟨ob,xs,z⟩
      ·rw [q] at z;cases z
      ·have z2:=un.frzs b ob _ z
       obtain ⟨e1,_⟩:=hok b _ z
       obtain ⟨e2,_⟩:=hok' b _ z2
       rw [e] at e1;cases e1
       exact e2
  cases hk:K.lookup a with
  | some o =>
   have e:=KX a o hk
   rw [ha] at e
   cases e
   refine core (fun _=>none) (fun _ => .inl rfl) (.inr ⟨_,vs.toArray,_,hk,rfl,rfl,rfl,by rw [List.size_toArray,lenV];exact hl,by simpa using rv⟩) (fun b u z=>by have z':(none:Option HO)=some u:=z;cases z') (fun b z=>absurd rfl z) fun z=>absurd rfl z
  | none =>
   refine core (fun b=>if b=a then some (.frz { cls :=.type "list",data :=.seq vs.toArray } (.lst (ns.map V.int))) else none) (fun b=>?_) (.inl (.inr ⟨{ cls :=.type "list",data :=.seq vs.toArray },if_pos rfl⟩)) (fun b u z=>?_) (fun b z=>?_) fun _=>hk
   ·by_cases hb:b=a
    ·exact .inr ⟨_,_,if_pos hb⟩
    ·exact .inl (if_neg hb)
   ·by_cases hb:b=a
    ·have z':=(if_pos hb).symm.trans z
     cases z'
     subst hb
     exact ⟨ha,by rw [List.length_map];exact hl,vs,_,rv,ha⟩
    ·have z':=(if_neg hb).symm.trans z
     cases z'
   ·by_cases hb:b=a
    ·exact hb
    ·exact absurd (if_neg hb) z
end L2
namespace L2
open PySem PySem.Spec PyProof.Rows
theorem walk_of {l:PySem.W.OpenLaw}{n k:Nat}{q:Program}{loose:List Str}{XP:(Str→Option Value)→Heap→Prop}{YP:World→Heap→Prop}{d:DefRec}{K:Params→PySem.W.Frag}{CX:World→CXT}{sp:World→Sp}{x:Str}
 (hn:l.most=some n) (hn2:n≤sizeLine) (hdf:d.params.defaults=[]) (hr:Room k callerA)
 (hY : ∀ (w:World) (h:Heap),YP w h→(K w.params).In h)
 (F : ∀ (w:World) (mg:Str→Option Value) (fa:Addr) (h:Heap),(K w.params).In h→h.Ns mainGlobals mg→mg d.name=some (.ref fa) →
 ∃ fd:FuncData,(∀ (s:Shared) (u:Value),BindsTo s fd ⟨[u],[]⟩ [(x,u)]) ∧
 ∀ base:Heap,(K w.params).In base→base.Ns mainGlobals mg→FnOk l.prog w (K w.params) mg base (CX w) k fa fd [x] (sp w))
 (hsp : ∀ (w:World) (H:Hp) (a:Addr) (ns:List Int),ns.length≤n→Only H→SqL (K w.params) H a (ns.map V.int)→sp w [.ref a] H (fun v _=>v = .bl true) fun _ _ _=>False)
 (hCX : ∀ (w:World) (H:Hp) (s:Shared) (e:Value) (s':Shared),CX w [] H s (fun _ _ _=>False) e s'→False) :
 PySem.W.WalkO q loose XP YP l.row.toRowW d [] (fun f vs=>PySem.call f vs):=by
  refine Att.attach_call hn hdf fun w s₀ s₁ mg mb fa o pm cd doc a vs ns G Y ho hd hcd hmg hobj hints hlen hg=>?_
  have KX:=hY w _ Y
  obtain ⟨fd,hb,hF⟩:=F w mg fa _ KX G.T.g hmg
  exact law_call KX G.T.g G.T.b G.T.builtins G.T.nolimit hg hobj hints (Nat.le_trans hlen hn2) hr hF hb (fun H hO hS=>hsp w H a ns hlen hO hS) fun H e s'=>hCX w H s₁ e s'
end L2
namespace L2
open PySem PySem.Spec PyProof.Rows
def defArgs (s:Stmt):Arguments:=match s with
 | .FunctionDef _ a _ _ _ _ _ _ _ _=>a
 | _=>{ posonlyargs:=[],args:=[],vararg:=none,kwonlyargs:=[],kw_defaults:=[],kwarg:=none,defaults:=[] }
def defBody (s:Stmt):List Stmt:=match s with
 | .FunctionDef _ _ b _ _ _ _ _ _ _=>b
 | _=>[]
def defScope (s:Stmt):Scope:=match s with
 | .FunctionDef _ _ _ _ _ _ sc _ _ _=>sc
 | _=>{ kind :=.function,names:=[],isGenerator:=false,isCoroutine:=false }
abbrev CX0:CXT:=fun _ _ _ _ _ _=>False
abbrev E0:XK:=fun _ _ _=>False
theorem pass0 {X:Cx}:Passes CX0 X E0:=fun _ _ _ _ _ _ _ h=>h.elim
structure Fun (K:PySem.W.Frag) (x qual:Str) (st:Stmt) (f:Addr) (fd:FuncData):Prop where
 ex : ∃ (oc:Value) (od:Option Addr) (kV doc pm:Value) (an:Option Addr) (cdv ct:Value) (osl:Array (Option Value)),
  fd=PySem.W.fnOf x qual (defArgs st) (defBody st) (defScope st) .none kV doc pm an cdv ct∧K.lookup f=some ⟨oc,od,.func fd,osl⟩∧PySem.W.codeIn K cdv qual=true
 kp:PySem.W.keepIn K (.ref f)=true
section
variable {P:Program}{w:World}{K:PySem.W.Frag}{mg:Str→Option Value}{base:Heap}
theorem Fun.ok {x qual:Str}{st:Stmt}{f:Addr}{fd:FuncData}{N ps:List Str}{k:Nat}{sp:Sp} (F:Fun K x qual st f fd) (S:FnScope N ps (defScope st)) (len : ∀ vs H Q E,sp vs H Q E→vs.length=ps.length)
 (hbody : ∀ (cdv:Value) (A:Around) (outer:List Env) (s:Shared) (H:Hp) (vs:List V) (Q:VK) (E:XK),Room k (A.deeper (envOfC qual (defScope st) s.heap.objs.size f cdv))→sp vs H Q E →
 ∃ t,PSs (cxOf CX0 P w K mg base N qual (defScope st) f cdv A outer s H E).nox (defBody st) t∧t { nx:=fun _ H'=>Q .non H',rt:=Q } (start N vs) H):FnOk P w K mg base CX0 (k+1) f fd ps sp:=by
  obtain ⟨oc,od,kV,doc,pm,an,cdv,ct,osl,rfl,lk,hcd⟩:=F.ex
  refine fn_of lk hcd S len fun A outer s H vs Q E hr hsp=>?_
  obtain ⟨t,h,q⟩:=hbody cdv A outer s H vs Q E hr hsp
  exact ⟨t,h.nox,q⟩
theorem Fun.binds {x qual:Str}{st:Stmt}{f:Addr}{fd:FuncData}{ps:List Str} (F:Fun K x qual st f fd)
 (h : ∀ (kV doc pm:Value) (an:Option Addr) (cdv ct:Value) (us:List Value),us.length=ps.length→bindArgs (PySem.W.fnOf x qual (defArgs st) (defBody st) (defScope st) .none kV doc pm an cdv ct) ⟨us,[]⟩=pure (ps.zip us)):Binds K fd ps []:=by
  obtain ⟨oc,od,kV,doc,pm,an,cdv,ct,osl,rfl,lk,hcd⟩:=F.ex
  exact .all (h kV doc pm an cdv ct)
theorem fun_mk {x qual:Str}{st:Stmt}{f:Addr}{oc:Value}{od an:Option Addr}{osl:Array (Option Value)}{kV doc pm cdv ct:Value} (l:K.lookup f=some ⟨oc,od,.func (PySem.W.fnOf x qual (defArgs st) (defBody st) (defScope st) .none kV doc pm an cdv ct),osl⟩)
 (c:PySem.W.codeIn K cdv qual=true) (k:PySem.W.keepIn K (.ref f)=true):Fun K x qual st f (PySem.W.fnOf x qual (defArgs st) (defBody st) (defScope st) .none kV doc pm an cdv ct):=⟨⟨oc,od,kV,doc,pm,an,cdv,ct,osl,rfl,l,c⟩,k⟩
end
theorem small1000 {n:Nat} (h:n≤1000):n<sizeLine:=Nat.lt_of_le_of_lt h (by decide)
section
variable {X:Cx}
theorem pv (i:Nat) {x:Str}{pos:Pos} (hN:X.N[i]?=some x:=by rfl) (hv:Vis X.env.scope x:=by first|exact Or.inl rfl|exact Or.inr (Or.inl rfl)|exact Or.inr (Or.inr rfl)) (hd:(x==("__debug__" : Str))=false:=by decide)
 (hcd:(x==("__classdict__" : Str))=false:=by decide):PE X (.Name x pos) (tVar i):=pe_var hN hv hd hcd
end
theorem iteF {A B:Prop} (h:B):if false=true then A else B:=by
 rw [if_neg Bool.false_ne_true]
 exact h
theorem iteT {A B:Prop} (h:A):if true=true then A else B:=by
 rw [if_pos rfl]
 exact h
def NoT:HO→Prop
 | .tbl _=>False
 | _=>True
structure Kp (o:HO) (x:Option HO):Prop where
 to:NoT o→x=some o
 tb : ∀ ps,o = .tbl ps → ∃ ps',x=some (.tbl ps')
theorem Kp.of {o:HO}{x:Option HO} (h:x=some o):Kp o x:=⟨fun _=>h,fun ps e=>⟨ps,by rw [h,e]⟩⟩
def Same (H H':Hp):Prop := ∀ b o,H b=some o→Kp o (H' b)
theorem tbl_or (o:HO):NoT o ∨ ∃ ps,o = .tbl ps:=by
 cases o <;> first|exact .inr ⟨_,rfl⟩|exact .inl trivial
theorem Same.of {H H':Hp} (h : ∀ b o,H b=some o→H' b=some o):Same H H':=fun b o e => .of (h b o e)
theorem Same.at {H H':Hp} (s:Same H H') {b:Addr}{o:HO} (e:H b=some o) (n:NoT o:=by trivial):H' b=some o:=(s b o e).to n
theorem Same.any {H H':Hp} (s:Same H H') {b:Addr}{o:HO} (e:H b=some o) : ∃ o',H' b=some o':=by
 rcases tbl_or o with n|⟨ps,rfl⟩
 ·exact ⟨o,(s b o e).to n⟩
 ·obtain ⟨ps',e'⟩:=(s b _ e).tb ps rfl
  exact ⟨_,e'⟩
theorem Same.refl (H:Hp):Same H H :=.of fun _ _ h=>h
theorem Same.trans {H H1 H2:Hp} (a:Same H H1) (b:Same H1 H2):Same H H2:=fun c o h=>⟨fun n=>(b c o ((a c o h).to n)).to n,fun ps e=>let ⟨ps',e'⟩:=(a c o h).tb ps e; (b c _ e').tb ps' rfl⟩
theorem Same.free {H H':Hp} (e:Same H H') {l:Addr} (h:H' l=Option.none):H l=Option.none:=by
 cases q:H l with
 | none=>rfl
 | some o =>
  obtain ⟨o',z⟩:=e.any q
  rw [z] at h
  cases h
theorem Same.seq {K:PySem.W.Frag}{H H':Hp}{a:Addr}{xs:List V} (e:Same H H') (h:SqL K H a xs):SqL K H' a xs:=by
 rcases h with (h|⟨o,h⟩)|h
 ·exact .inl (.inl (e.at h))
 ·exact .inl (.inr ⟨o,e.at h⟩)
 ·exact .inr h
end L2
namespace L2
open PySem PySem.Spec PyProof.Rows
def DictIs (h:Heap) (d:Addr) (es:Array DictEntry) (ep:Nat):Prop := ∃ o,h.get? d=some o∧o.ExactDict∧o.data = .dict es ep
section
variable {P:Program}{w:World}{A:Around}{E:Value→Shared→Prop}{s:Shared}{d:Addr}{es:Array DictEntry}{ep:Nat}
end
abbrev PKy:=List (Int×Int)
section
variable (P:Program) (w:World)
end
section
variable {P:Program}{w:World}{h h':Heap}{k k':PKy}{vs:List Value}{a:Addr}
end
section
variable {P:Program}{w:World}{A:Around}{E:Value→Shared→Prop}{s:Shared}{k:PKy}{a:Addr}
end
def prD (p:Int×Int):PyData :=.tuple [.int p.1,.int p.2]
def pHash (p:Int×Int):Int:=reduceHash (Builtin.Tuple.tupleHashOf [hashInt p.1,hashInt p.2])
def kHash (k:PKy):Int:=reduceHash (Builtin.Tuple.tupleHashOf (k.map pHash))
abbrev XEnt:=PKy×Addr×Int
def Ents:List XEnt→List DictEntry→Prop
 | [],l=>l=[]
 | x::xs,l => ∃ t r,l=⟨kHash x.1,.ref x.2.1,.int x.2.2 t⟩::r∧Ents xs r
def DX (a:Addr) (xs:List XEnt):Heap→Prop:=fun h=>((a==sysModules)=false∧xs.length≤900∧(xs.map (·.1)).Nodup) ∧ ∃ es ep,DictIs h a es ep∧Ents xs es.toList
def Prs (K:PySem.W.Frag) (H:Hp):PKy→List V→Prop
 | [],ys=>ys=[]
 | p::k,ys => ∃ c r,ys = .ref c::r∧SqT K H c [.int p.1,.int p.2]∧Prs K H k r
def PkAt (K:PySem.W.Frag) (H:Hp) (k:PKy) (c:Addr):Prop := ∃ ys,SqT K H c ys∧Prs K H k ys
def xD (xs:List XEnt):List (PyData×PyData):=xs.map fun x=>(PyData.tuple (x.1.map prD),PyData.int x.2.2)
def DctX (K:PySem.W.Frag) (H:Hp) (a:Addr) (l:List (PyData×PyData)):Prop := ∃ xs,H a=some (.ext (DX a xs))∧l=xD xs ∧ ∀ x ∈ xs,PkAt K H x.1 x.2.1
def noTup:PyData→Bool
 | .tuple _=>false
 | _=>true
def DctK (H:Hp) (a:Addr) (l:List (PyData×PyData)):Prop := ∃ kvs,H a=some (.dK kvs)∧l.length=kvs.length ∧ ∀ e ∈ l,noTup e.1=true
end L2
namespace L2
open PySem PySem.Spec PyProof.Rows
mutual
def Is (K:PySem.W.Frag) (H:Hp):PyData→V→Prop
 | .none,v=>v = .non
 | .bool b,v=>v = .bl b
 | .int i,v=>v = .int i
 | .str x,v=>v = .str x
 | .list l,v => ∃ a xs,v = .ref a∧SqL K H a xs∧Iss K H l xs
 | .tuple l,v => ∃ a xs,v = .ref a∧SqT K H a xs∧Iss K H l xs
 | .dict l,v => ∃ a,v = .ref a∧(DctK H a l∨DctX K H a l)
def Iss (K:PySem.W.Frag) (H:Hp):List PyData→List V→Prop
 | [],xs=>xs=[]
 | d::l,xs => ∃ x r,xs=x::r∧Is K H d x∧Iss K H l r
end
instance {o:HO}{x:Option HO}:Coe (x=some o) (Kp o x):=⟨Kp.of⟩
instance {l:List V}{x:Option HO}:CoeOut (Kp (.lst l) x) (x=some (.lst l)):=⟨fun k=>k.to trivial⟩
instance {l:List V}{x:Option HO}:CoeOut (Kp (.tup l) x) (x=some (.tup l)):=⟨fun k=>k.to trivial⟩
instance {l:List (Key×V)}{x:Option HO}:CoeOut (Kp (.dK l) x) (x=some (.dK l)):=⟨fun k=>k.to trivial⟩
instance {l:List (List Key×V)}{x:Option HO}:CoeOut (Kp (.dT l) x) (x=some (.dT l)):=⟨fun k=>k.to trivial⟩
instance {C d:Addr}{l:List (Str×V)}{x:Option HO}:CoeOut (Kp (.ins C d l) x) (x=some (.ins C d l)):=⟨fun k=>k.to trivial⟩
instance {f:Heap→Prop}{x:Option HO}:CoeOut (Kp (.ext f) x) (x=some (.ext f)):=⟨fun k=>k.to trivial⟩
theorem same_rd {H H':Hp}{a:Addr}{u:HO} (s:Same H H') (h:Rd H a u) (n:NoT u:=by trivial):Rd H' a u:=by
 rcases h with h|⟨o,h⟩
 ·exact .inl (s.at h n)
 ·exact .inr ⟨o,s.at h⟩
theorem same_seqT {K:PySem.W.Frag}{H H':Hp}{a:Addr}{xs:List V} (s:Same H H') (h:SqT K H a xs):SqT K H' a xs:=by
 rcases h with h|h
 ·exact .inl (same_rd s h)
 ·exact .inr h
theorem Prs.mono {K:PySem.W.Frag}{H H':Hp} (s:Same H H') : ∀ {k:PKy}{ys:List V},Prs K H k ys→Prs K H' k ys
 | [],_,h=>h
 | _::_,_,h=>by
  obtain ⟨c,r,e,q,h⟩:=h
  exact ⟨c,r,e,same_seqT s q,Prs.mono s h⟩
theorem PkAt.mono {K:PySem.W.Frag}{H H':Hp}{k:PKy}{c:Addr} (s:Same H H') (h:PkAt K H k c):PkAt K H' k c:=by
 obtain ⟨ys,q,r⟩:=h
 exact ⟨ys,same_seqT s q,r.mono s⟩
theorem same_new {H:Hp}{p:Addr}{o:HO} (h:H p=none):Same H (upd H p o) :=.of fun b u e=>by
 rw [upd_ne (ne_of_none e h)];exact e
mutual
theorem Is.mono {K:PySem.W.Frag}{H H':Hp} (s:Same H H') : ∀ {d:PyData}{v:V},Is K H d v→Is K H' d v
 | .none,_,h=>by unfold Is at h ⊢;exact h
 | .bool _,_,h=>by unfold Is at h ⊢;exact h
 | .int _,_,h=>by unfold Is at h ⊢;exact h
 | .str _,_,h=>by unfold Is at h ⊢;exact h
 | .list l,_,h=>by
  unfold Is at h ⊢
  obtain ⟨a,xs,e,q,r⟩:=h
  exact ⟨a,xs,e,s.seq q,Iss.mono s r⟩
 | .tuple l,_,h=>by
  unfold Is at h ⊢
  obtain ⟨a,xs,e,q,r⟩:=h
  exact ⟨a,xs,e,same_seqT s q,Iss.mono s r⟩
 | .dict _,_,h=>by
  unfold Is at h ⊢
  obtain ⟨a,e,⟨kvs,q,m⟩|⟨xs,q,m,k⟩⟩:=h
  ·exact ⟨a,e,.inl ⟨kvs,s.at q,m⟩⟩
  ·exact ⟨a,e,.inr ⟨xs,s.at q,m,fun x hx=>(k x hx).mono s⟩⟩
theorem Iss.mono {K:PySem.W.Frag}{H H':Hp} (s:Same H H') : ∀ {l:List PyData}{xs:List V},Iss K H l xs→Iss K H' l xs
 | [],_,h=>by unfold Iss at h ⊢;exact h
 | d::l,_,h=>by
  unfold Iss at h ⊢
  obtain ⟨x,r,e,p,q⟩:=h
  exact ⟨x,r,e,Is.mono s p,Iss.mono s q⟩
end
section
variable {K:PySem.W.Frag}{H H':Hp}
theorem is_non:Is K H .none .non:=by unfold Is;rfl
theorem is_bl (b:Bool):Is K H (.bool b) (.bl b):=by unfold Is;rfl
theorem is_int (i:Int):Is K H (.int i) (.int i):=by unfold Is;rfl
theorem is_str (x:Str):Is K H (.str x) (.str x):=by unfold Is;rfl
theorem is_lst {a:Addr}{xs:List V}{l:List PyData} (h:SqL K H a xs) (r:Iss K H l xs):Is K H (.list l) (.ref a):=by unfold Is;exact ⟨a,xs,rfl,h,r⟩
theorem is_tup {a:Addr}{xs:List V}{l:List PyData} (h:SqT K H a xs) (r:Iss K H l xs):Is K H (.tuple l) (.ref a):=by unfold Is;exact ⟨a,xs,rfl,h,r⟩
theorem iss_nil:Iss K H [] []:=by unfold Iss;rfl
theorem iss_cons {d:PyData}{l:List PyData}{x:V}{xs:List V} (h:Is K H d x) (r:Iss K H l xs):Iss K H (d::l) (x::xs):=by unfold Iss;exact ⟨x,xs,rfl,h,r⟩
theorem Is.bl_inv {b:Bool}{v:V} (h:Is K H (.bool b) v):v = .bl b:=by unfold Is at h;exact h
theorem Is.int_inv {i:Int}{v:V} (h:Is K H (.int i) v):v = .int i:=by unfold Is at h;exact h
theorem Is.non_inv {v:V} (h:Is K H .none v):v = .non:=by unfold Is at h;exact h
theorem Is.lst_inv {l:List PyData}{v:V} (h:Is K H (.list l) v) : ∃ a xs,v = .ref a∧SqL K H a xs∧Iss K H l xs:=by unfold Is at h;exact h
theorem Is.tup_inv {l:List PyData}{v:V} (h:Is K H (.tuple l) v) : ∃ a xs,v = .ref a∧SqT K H a xs∧Iss K H l xs:=by unfold Is at h;exact h
theorem Is.dct_inv {l:List (PyData×PyData)}{v:V} (h:Is K H (.dict l) v) : ∃ a,v = .ref a∧(DctK H a l∨DctX K H a l):=by unfold Is at h;exact h
theorem is_dct {a:Addr}{kvs:List (Key×V)}{l:List (PyData×PyData)} (h:H a=some (.dK kvs)) (m:l.length=kvs.length) (n : ∀ e ∈ l,noTup e.1=true:=by simp [noTup]):Is K H (.dict l) (.ref a):=by unfold Is;exact ⟨a,rfl,.inl ⟨kvs,h,m,n⟩⟩
theorem Iss.nil_inv {xs:List V} (h:Iss K H [] xs):xs=[]:=by unfold Iss at h;exact h
theorem Iss.cons_inv {d:PyData}{l:List PyData}{xs:List V} (h:Iss K H (d::l) xs) : ∃ x r,xs=x::r∧Is K H d x∧Iss K H l r:=by unfold Iss at h;exact h
theorem Iss.len : ∀ {l:List PyData}{xs:List V},Iss K H l xs→xs.length=l.length
 | [],_,h=>by rw [h.nil_inv];rfl
 | d::l,_,h=>by
  obtain ⟨x,r,rfl,_,q⟩:=h.cons_inv
  simp [Iss.len q]
theorem Iss.get : ∀ {l:List PyData}{xs:List V}{i:Nat}{d:PyData},Iss K H l xs→l[i]?=some d → ∃ x,xs[i]?=some x∧Is K H d x
 | [],_,i,d,h,e=>by simp at e
 | d'::l,_,0,d,h,e=>by
  obtain ⟨x,r,rfl,p,q⟩:=h.cons_inv
  simp at e;subst e
  exact ⟨x,rfl,p⟩
 | d'::l,_,i+1,d,h,e=>by
  obtain ⟨x,r,rfl,p,q⟩:=h.cons_inv
  obtain ⟨y,e1,e2⟩:=Iss.get q (show l[i]?=some d by simpa using e)
  exact ⟨y,by simpa using e1,e2⟩
theorem Iss.get' : ∀ {l:List PyData}{xs:List V}{i:Nat}{x:V},Iss K H l xs→xs[i]?=some x → ∃ d,l[i]?=some d∧Is K H d x:=fun {l xs i x} h e=>by
 have hl:=h.len
 have hi:i<xs.length:=(List.getElem?_eq_some_iff.mp e).1
 obtain ⟨d,hd⟩ : ∃ d,l[i]?=some d:=⟨l[i]'(by omega),List.getElem?_eq_getElem _⟩
 obtain ⟨y,e1,e2⟩:=h.get hd
 rw [e] at e1;cases e1
 exact ⟨d,hd,e2⟩
theorem iss_append : ∀ {l m:List PyData}{xs ys:List V},Iss K H l xs→Iss K H m ys→Iss K H (l++m) (xs++ys)
 | [],m,_,ys,h,h'=>by rw [h.nil_inv];exact h'
 | d::l,m,_,ys,h,h'=>by
  obtain ⟨x,r,rfl,p,q⟩:=h.cons_inv
  exact iss_cons p (iss_append q h')
theorem iss_ints : ∀ ns:List Int,Iss K H (ns.map .int) (ns.map V.int)
 | []=>iss_nil
 | n::ns=>iss_cons (is_int n) (iss_ints ns)
theorem Iss.ints_inv : ∀ {ns:List Int}{xs:List V},Iss K H (ns.map .int) xs→xs=ns.map V.int
 | [],_,h=>h.nil_inv
 | n::ns,_,h=>by
  obtain ⟨x,r,rfl,p,q⟩:=h.cons_inv
  rw [p.int_inv,Iss.ints_inv q];rfl
end
section
variable {X:Cx}{pins:List (Addr×Obj)}{σ:St}{H:Hp}{s:Shared}
mutual
theorem Is.reads (I:Inv X pins σ H s) : ∀ {d:PyData}{x:V}{u:Value},d.canLay0=true→Is X.K H d x→RelV x u → ∃ as,Reads s.heap u d as
 | .none,_,u,_,h,r=>by
  rw [h.non_inv] at r;cases r;exact ⟨_,.none⟩
 | .bool b,_,u,_,h,r=>by
  rw [h.bl_inv] at r;cases r;exact ⟨_,.bool b⟩
 | .int i,_,u,_,h,r=>by
  rw [h.int_inv] at r;obtain ⟨t,rfl⟩:=r;exact ⟨_,.int i t⟩
 | .str x,_,u,_,h,r=>by
  unfold Is at h
  subst h
  obtain ⟨t,rfl⟩:=r;exact ⟨_,.str x t⟩
 | .list l,_,u,z,h,r=>by
  obtain ⟨a,xs,rfl,q,p⟩:=h.lst_inv
  cases r
  obtain ⟨its,rv,pl,_⟩:=I.list q
  obtain ⟨o,ho,hc,n,hd⟩:=pl.isList
  obtain ⟨as,ra⟩:=Iss.reads I (by simpa [PyData.canLay0] using z) p rv
  exact ⟨_,.list ho hc hd (by rw [List.toList_toArray];exact ra)⟩
 | .tuple l,_,u,z,h,r=>by
  obtain ⟨a,xs,rfl,q,p⟩:=h.tup_inv
  cases r
  obtain ⟨its,rv,pl,_⟩:=I.tuple q
  obtain ⟨o,ho,hc,n,hd⟩:=pl
  obtain ⟨as,ra⟩:=Iss.reads I (by simpa [PyData.canLay0] using z) p rv
  exact ⟨_,.tuple ho hc hd (by rw [List.toList_toArray];exact ra)⟩
 | .dict _,_,u,z,h,r=>by simp [PyData.canLay0] at z
theorem Iss.reads (I:Inv X pins σ H s) : ∀ {l:List PyData}{xs:List V}{us:List Value},PyData.canLayAll0 l=true→Iss X.K H l xs→Vals xs us → ∃ as,ReadsAll s.heap us l as
 | [],_,us,_,h,r=>by
  rw [h.nil_inv] at r;cases r;exact ⟨_,.nil⟩
 | d::l,_,us,z,h,r=>by
  have z':d.canLay0=true∧PyData.canLayAll0 l=true:=by simpa [PyData.canLayAll0] using z
  obtain ⟨x,y,rfl,p,q⟩:=h.cons_inv
  cases r with
  | cons r1 r2 =>
   obtain ⟨as,ra⟩:=Is.reads I z'.1 p r1
   obtain ⟨bs,rb⟩:=Iss.reads I z'.2 q r2
   exact ⟨_,.cons ra rb⟩
end
end
section
variable {X:Cx}
def rEqD (K:PySem.W.Frag):R2:=fun x y H Q => ∃ d e,Is K H d x∧Is K H e y∧SeqAt.shaped d=true∧SeqAt.shaped e=true∧Q (.bl (PyData.eqv d e)) H
def rNeD (K:PySem.W.Frag):R2:=fun x y H Q => ∃ d e,Is K H d x∧Is K H e y∧SeqAt.shaped d=true∧SeqAt.shaped e=true∧Q (.bl (!PyData.eqv d e)) H
theorem op_eqD (hu:X.A.units+64<cLine):OpR X (compareOp .Eq) (rEqD X.K):=by
 intro pins s σ H x y v u Q I rx ry h
 obtain ⟨d,e,h1,h2,z1,z2,q⟩:=h
 obtain ⟨as,ra⟩:=Is.reads I (Bool.and_eq_true_iff.mp z1).1 h1 rx
 obtain ⟨bs,rb⟩:=Is.reads I (Bool.and_eq_true_iff.mp z2).1 h2 ry
 exact SeqAt.compareEq_shaped ra rb z1 z2 hu ⟨.bl (PyData.eqv d e),H,I,rfl,q⟩
theorem op_neD (hu:X.A.units+64<cLine):OpR X (compareOp .NotEq) (rNeD X.K):=by
 intro pins s σ H x y v u Q I rx ry h
 obtain ⟨d,e,h1,h2,z1,z2,q⟩:=h
 obtain ⟨as,ra⟩:=Is.reads I (Bool.and_eq_true_iff.mp z1).1 h1 rx
 obtain ⟨bs,rb⟩:=Is.reads I (Bool.and_eq_true_iff.mp z2).1 h2 ry
 exact SeqAt.compareNe_shaped ra rb z1 z2 hu ⟨.bl (!PyData.eqv d e),H,I,rfl,q⟩
theorem op_mulB:OpR X (binaryOp .Mult) (rI IntMulOk fun i j => .int (i*j)):=opI fun _ _ _ _ _ _ _ hc q=>mul_int q hc
def CDivB (_ j:Int):Prop:=j≠0∧Builtin.Int.intBits j≤9000
theorem op_fdivB:OpR X (binaryOp .FloorDiv) (rI CDivB fun i j => .int (i.fdiv j)):=opI fun i j _ _ _ _ _ hc q=>by
 refine floordiv_int hc.1 q (.inl (PyProof.noPylong_of_log2 ?_))
 have h:=hc.2
 unfold Builtin.Int.intBits at h
 rw [if_neg (by simpa using hc.1)] at h
 omega
def rCatS (K:PySem.W.Frag):R2:=fun x y H Q => ∃ a b xs zs,x = .ref a∧y = .ref b∧SqL K H a xs∧SqL K H b zs∧xs.length+zs.length≤sizeLine ∧
 ∀ p,H p=none→Q (.ref p) (upd H p (.lst (xs++zs)))
theorem op_catS:OpR X (binaryOp .Add) (rCatS X.K):=by
 intro pins s σ H x y v u Q I rx ry h
 obtain ⟨a,b,xs,zs,rfl,rfl,hA,hB,hz,q⟩:=h
 cases rx
 cases ry
 obtain ⟨its,r,pl,z1⟩:=I.list hA
 obtain ⟨its2,r2,pl2,z2⟩:=I.list hB
 have l1:=r.length
 have l2:=r2.length
 obtain ⟨⟨cls,dd,data,sl⟩,ho,hc,n,hd⟩:=pl.isList
 obtain ⟨⟨cls2,dd2,data2,sl2⟩,ho2,hc2,n2,hd2⟩:=pl2.isList
 simp only at hc hd hc2 hd2
 subst hc hd hc2 hd2
 have e:its.toArray++its2.toArray=(its++its2).toArray:=by simp
 refine concat_meets ⟨_,ho,rfl⟩ ⟨_,ho2,rfl⟩ noFill_list_add seq_list_add PySem.F.slot_list_add PySem.F.entry_list_add (PySem.F.args_list_add_2 _ _) (list_addW a b its.toArray its2.toArray n n2 dd dd2 sl sl2 (by simp only [List.size_toArray];omega)) ⟨ho,ho2,?_⟩
 rw [e]
 exact ⟨.ref _,_,I.lnew (t':=s.toks) (r.append r2) (by rw [List.length_append];omega),rfl,q _ I.fresh⟩
def tyD:PyData→String
 | .none => "NoneType"
 | .bool _ => "bool"
 | .int _ => "int"
 | .str _ => "str"
 | .list _ => "list"
 | .tuple _ => "tuple"
 | .dict _ => "dict"
theorem isinst_D {pins:List (Addr×Obj)}{σ:St}{H:Hp}{s:Shared}{A:Around}{E:Value→Shared→Prop}{Q:Value→Shared→Prop}{c:Value}{b:Bool}{d:PyData}{x:V}{u:Value}
 (I:Inv X pins σ H s) (hd:Is X.K H d x) (rx:RelV x u) (e:PySem.W.kitOne X.K (.type (tyD d)) c=some b) (h : ∀ tk,Q (.bool b) { s with toks:=tk }) :
  wpAny (model X.prog X.w) A (call (.builtin "isinstance") [u,c]) Q E s:=by
  cases d with
  | none=>rw [hd.non_inv] at rx;cases rx;exact PySem.W.kia_one PySem.W.kitx_none I.kIn True.intro e (fun z=>nomatch z) h
  | bool y=>rw [hd.bl_inv] at rx;cases rx;exact PySem.W.kia_one PySem.W.kitx_bool I.kIn True.intro e (fun z=>nomatch z) h
  | int i=>rw [hd.int_inv] at rx;obtain ⟨t,rfl⟩:=rx;exact PySem.W.kia_one PySem.W.kitx_int I.kIn True.intro e (fun z=>nomatch z) h
  | str y =>
   unfold Is at hd
   subst hd
   obtain ⟨t,rfl⟩:=rx;exact PySem.W.kia_one PySem.W.kitx_str I.kIn True.intro e (fun z=>nomatch z) h
  | list l =>
   obtain ⟨a,xs,rfl,q,_⟩:=hd.lst_inv
   cases rx
   obtain ⟨its,_,pl,_⟩:=I.list q
   obtain ⟨o,ho,hc,_⟩:=pl.isList
   exact PySem.W.kia_one PySem.W.kitx_list I.kIn ⟨o,ho,hc⟩ e (fun z=>nomatch z) h
  | tuple l =>
   obtain ⟨a,xs,rfl,q,_⟩:=hd.tup_inv
   cases rx
   obtain ⟨its,_,pl,_⟩:=I.tuple q
   obtain ⟨o,ho,hc,_⟩:=pl
   exact PySem.W.kia_one PySem.W.kitx_tuple I.kIn ⟨o,ho,hc⟩ e (fun z=>nomatch z) h
  | dict l =>
   obtain ⟨a,rfl,⟨kvs,q,_⟩|⟨xs,q,_⟩⟩:=hd.dct_inv
   ·cases rx
    obtain ⟨_,_,vs,_,p⟩:=(show ObjOk X.prog X.w H s.heap a (.dK kvs) from I.hok a _ q)
    obtain ⟨o,es,ep,h1,h2,_⟩:=p
    exact PySem.W.kia_one PySem.W.kitx_dict I.kIn ⟨o,h1,h2.1⟩ e (fun z=>nomatch z) h
   ·cases rx
    obtain ⟨⟨_,es,ep,⟨o,h1,h2,_⟩,_⟩,_⟩:=(show ObjOk X.prog X.w H s.heap a (.ext (DX a xs)) from I.hok a _ q)
    exact PySem.W.kia_one PySem.W.kitx_dict I.kIn ⟨o,h1,h2.1⟩ e (fun z=>nomatch z) h
def rIsD (K:PySem.W.Frag):List V→Hp→VK→Prop:=fun xs H Q => ∃ d x n b,xs=[x,.ty n]∧Is K H d x∧PySem.W.kitOne K (.type (tyD d)) (.type n)=some b∧Q (.bl b) H
theorem call_isi:CallR X (.builtin "isinstance") (rIsD X.K):=by
 intro pins s σ H xs us Q I r h
 obtain ⟨d,x,n,b,rfl,hd,e,q⟩:=h
 obtain ⟨u,c,rfl,rx,rc⟩:=vals2 r
 cases rc
 exact isinst_D I hd rx e fun tk=>⟨.bl b,H,I.tok tk,rfl,q⟩
theorem Iss.atI {K:PySem.W.Frag}{H:Hp}{l:List PyData}{xs:List V}{i:Int}{d:PyData} (h:Iss K H l xs) (e:L2.atI l i=some d) : ∃ x,L2.atI xs i=some x∧Is K H d x:=by
 unfold L2.atI at e ⊢
 rw [h.len]
 cases q:ixN l.length i with
 | none=>rw [q] at e;cases e
 | some j =>
  rw [q] at e
  exact h.get e
end
section
variable {X:Cx}{elts:List Expr}{x1:Nat}{tpos:Pos}
end
theorem szl {α:Type}{l:List α} (h:decide (l.length≤1000)=true:=by rfl):l.length≤sizeLine:=Nat.le_of_lt (small1000 (of_decide_eq_true h))
theorem eqv_int (i j:Int):PyData.eqv (.int i) (.int j)=(i==j):=by simp only [PyData.eqv]
theorem ite_ne {i j:Int}{A B:Prop} (h1:i≠j→A) (h2:i=j→B):if (!PyData.eqv (.int i) (.int j))=true then A else B:=by
 rw [eqv_int]
 by_cases h:i=j
 ·subst h;simpa using h2 rfl
 ·have e:(i==j)=false:=by simpa using h
  rw [e];simpa using h1 h
theorem ite_eq {i j:Int}{A B:Prop} (h1:i=j→A) (h2:i≠j→B):if (PyData.eqv (.int i) (.int j))=true then A else B:=by
 rw [eqv_int]
 by_cases h:i=j
 ·subst h;simpa using h1 rfl
 ·have e:(i==j)=false:=by simpa using h
  rw [e];simpa using h2 h
theorem iteD {p A B:Prop} [Decidable p] (h1:p→A) (h2 : ¬ p→B):if decide p=true then A else B:=by
 by_cases h:p
 ·simpa [h] using h1 h
 ·simpa [h] using h2 h
theorem atI_ints {ns:List Int}{i:Int} (h0:0≤i) (h1:i<ns.length) : ∃ n,L2.atI (ns.map PyData.int) i=some (.int n):=by
 have hi:i.toNat<ns.length:=by omega
 refine ⟨ns[i.toNat],?_⟩
 have e:(ns.map PyData.int)[i.toNat]?=some (.int ns[i.toNat]):=by simp [hi]
 have:=atI_nat e
 rwa [Int.toNat_of_nonneg h0] at this
theorem boot_abs:bootBuiltins "abs" = some (.builtin "abs"):=by decide +kernel
theorem boot_len:bootBuiltins "len" = some (.builtin "len"):=by decide +kernel
theorem boot_isinstance:bootBuiltins "isinstance" = some (.builtin "isinstance"):=by decide +kernel
theorem boot_int:bootBuiltins "int" = some (.type "int"):=by decide +kernel
theorem boot_bool:bootBuiltins "bool" = some (.type "bool"):=by decide +kernel
theorem boot_str:bootBuiltins "str" = some (.type "str"):=by decide +kernel
theorem boot_tuple:bootBuiltins "tuple" = some (.type "tuple"):=by decide +kernel
theorem boot_list:bootBuiltins "list" = some (.type "list"):=by decide +kernel
section
variable {K:PySem.W.Frag}
end
structure Def (K:PySem.W.Frag) (mg:Str→Option Value) (x:Str) (st:Stmt) (ps:List Str):Prop where
 ex : ∃ (f:Addr) (fd:FuncData),Fun K x x st f fd∧mg x=some (.ref f)∧Binds K fd ps []
structure Ok (P:Program) (w:World) (K:PySem.W.Frag) (mg:Str→Option Value) (base:Heap) (x:Str) (k:Nat) (ps:List Str) (sp:Sp):Prop where
 ex : ∃ (f:Addr) (fd:FuncData),FnOk P w K mg base CX0 k f fd ps sp∧mg x=some (.ref f)∧PySem.W.keepIn K (.ref f)=true∧Binds K fd ps []
section
variable {P:Program}{w:World}{K:PySem.W.Frag}{mg:Str→Option Value}{base:Heap}
theorem Def.ok {x:Str}{st:Stmt}{N ps:List Str}{k:Nat}{sp:Sp} (F:Def K mg x st ps) (S:FnScope N ps (defScope st)) (len : ∀ vs H Q E,sp vs H Q E→vs.length=ps.length)
 (hbody : ∀ (f:Addr) (cdv:Value) (A:Around) (outer:List Env) (s:Shared) (H:Hp) (vs:List V) (Q:VK) (E:XK),Room k (A.deeper (envOfC x (defScope st) s.heap.objs.size f cdv))→sp vs H Q E →
 ∃ t,PSs (cxOf CX0 P w K mg base N x (defScope st) f cdv A outer s H E).nox (defBody st) t∧t { nx:=fun _ H'=>Q .non H',rt:=Q } (start N vs) H):Ok P w K mg base x (k+1) ps sp:=by
  obtain ⟨f,fd,Fn,hm,hb⟩:=F.ex
  exact ⟨f,fd,Fn.ok S len (hbody f),hm,Fn.kp,hb⟩
end
section
variable {X:Cx}{x:Str}{k:Nat}{ps:List Str}{sp:Sp}{p pos:Pos}{e:Expr}{es:List Expr}{t:TA}
structure OkC (X:Cx) (x:Str) (k:Nat) (ps:List Str) (sp:Sp):Prop where
 ex : ∃ sp0,Ok X.prog X.w X.K X.mg X.base x k ps sp0 ∧ ∀ (pins:List (Addr×Obj)) (σ:St) (H:Hp) (s:Shared) (vs:List V) (Q:VK) (E:XK),Inv X pins σ H s→sp vs H Q E→sp0 vs H Q E
theorem Ok.c (O:Ok X.prog X.w X.K X.mg X.base x k ps sp):OkC X x k ps sp:=⟨sp,O,fun _ _ _ _ _ _ _ _ h=>h⟩
theorem pe_fn (O:OkC X x k ps sp) (hr:Room k X.A) (ha:PA X (e::es) t) (hg:Gl X x:=by rfl) (hdb:(x==("__debug__" : Str))=false:=by decide)
 (he:starEach (e::es) X.env=(false,eval e X.env)::starEach es X.env:=by rfl) (hpl:(backTo pos (starEach es X.env)).any (·.1)=false:=by rfl):PE X (.Call (.Name x p) (e::es) [] pos) (tCall sp [] E0 t):=by
 obtain ⟨sp0,⟨f,fd,F,hm,hk,hb⟩,up⟩:=O.ex
 intro pins s σ H Q I h
 refine wpAny_Call_Name_kw (ld_glob I hg hm ?_ hdb)
 refine PySem.W.callWith_K (h₀:=X.base) I.ok.mod.kin hk (thn (ha pos pins s σ H _ I h) fun us s1 ⟨vs,H1,I1,r,q⟩=>⟨I1.kIn,?_⟩) he hpl
 exact run_fn F hr hb .nil pass0 I1 r (up _ _ _ _ _ _ _ I1 q)
theorem pe_append {o:Expr}{to:TE}{te:TE}{apos cpos:Pos} (ho:PE X o to) (he:PE X e te) (hbase:attributeBase o "append" X.env (eval o X.env)=eval o X.env:=by rfl)
 (hfew:((backTo cpos (starEach [e] X.env)).all (fun x => !x.1)&&(backToKw cpos (keywordEach [] X.env)).all (fun x=>x.1.isSome)
  && decide ([e].length+([]:List Keyword).length+(if ([]:List Keyword).isEmpty then 0 else 1)<30))=true:=by rfl)
 (hline:(apos.endLine==cpos.line)=true:=by rfl) (hs:starEach [e] X.env=(false,eval e X.env)::starEach [] X.env:=by rfl) (hplain:(backTo cpos (starEach [] X.env)).any (·.1)=false:=by rfl) :
 PE X (.Call (.Attribute o "append" apos) [e] [] cpos) (tBM X.K "list" rAppend to (tCons te tNil)) :=
 pe_bm PySem.F.plainAttrs_list PySem.F.slot_list_append PySem.F.type_list_append mt_append ho (pa_cons he pa_nil hs) hbase hfew hline hs hplain
end
end L2
namespace L2
open PySem PySem.Spec PyProof.Rows
def closL (cells:List (Str×Addr)):List (Str×NameKind)→List (Str×Addr)→List (Str×Addr)
 | [],acc=>acc
 | (n,k)::r,acc=>if (k == .free)=true then (match cells.lookup n with|some c=>closL cells r ((n,c)::acc)|none=>closL cells r acc) else closL cells r acc
theorem closL_mem {cells:List (Str×Addr)} : ∀ {names:List (Str×NameKind)}{acc:List (Str×Addr)}{p:Str×Addr},p ∈ closL cells names acc→p ∈ acc∨cells.lookup p.1=some p.2
 | [],acc,p,h => .inl h
 | (n,k)::r,acc,p,h=>by
  unfold closL at h
  split at h
  ·split at h
   ·rename_i c hc
    rcases closL_mem h with h|h
    ·rcases List.mem_cons.mp h with h|h
     ·subst h;exact .inr hc
     ·exact .inl h
    ·exact .inr h
   ·exact closL_mem h
  ·exact closL_mem h
theorem closL_has {cells:List (Str×Addr)} : ∀ {names:List (Str×NameKind)}{acc:List (Str×Addr)}{x:Str},((∃ c,(x,c) ∈ acc)∨((x,NameKind.free) ∈ names ∧ ∃ c,cells.lookup x=some c)) → ∃ c,(x,c) ∈ closL cells names acc
 | [],acc,x,h=>by
  rcases h with h|h
  ·exact h
  ·exact absurd h.1 (by simp)
 | (n,k)::r,acc,x,h=>by
  unfold closL
  split
  ·rename_i hk
   split
   ·rename_i c hc
    refine closL_has ?_
    rcases h with ⟨d,h⟩|⟨h,d,hd⟩
    ·exact .inl ⟨d,List.mem_cons_of_mem _ h⟩
    ·rcases List.mem_cons.mp h with h|h
     ·cases h;exact .inl ⟨c,by simp⟩
     ·exact .inr ⟨h,d,hd⟩
   ·rename_i hc
    refine closL_has ?_
    rcases h with h|⟨h,d,hd⟩
    ·exact .inl h
    ·rcases List.mem_cons.mp h with h|h
     ·cases h;rw [hd] at hc;cases hc
     ·exact .inr ⟨h,d,hd⟩
  ·rename_i hk
   refine closL_has ?_
   rcases h with h|⟨h,d,hd⟩
   ·exact .inl h
   ·rcases List.mem_cons.mp h with h|h
    ·cases h;exact absurd rfl hk
    ·exact .inr ⟨h,d,hd⟩
theorem cf_new {x:Str}{c:Addr} : ∀ {names:List (Str×NameKind)}{n:Nat}{acc:List (Str×Addr)},(cellsFrom n names acc).lookup x=some c→(n≤c∧(x,NameKind.cell) ∈ names)∨acc.lookup x=some c
 | [],_,_,h => .inr h
 | (y,k)::r,n,acc,h=>by
  unfold cellsFrom at h
  split at h
  ·rename_i hk
   rcases cf_new h with ⟨h1,h2⟩|h1
   ·exact .inl ⟨by omega,List.mem_cons_of_mem _ h2⟩
   ·by_cases e:x=y
    ·subst e
     have hb:(x==x)=true:=by simp
     rw [List.lookup_cons,hb] at h1
     have hk':k = .cell:=by simpa using hk
     subst hk'
     cases h1
     exact .inl ⟨Nat.le_refl _,by simp⟩
    ·have hb:(x==y)=false:=by simpa using e
     rw [List.lookup_cons,hb] at h1
     exact .inr h1
  ·rcases cf_new h with ⟨h1,h2⟩|h1
   ·exact .inl ⟨h1,List.mem_cons_of_mem _ h2⟩
   ·exact .inr h1
theorem cf_old {x:Str} : ∀ {names:List (Str×NameKind)}{n:Nat}{acc:List (Str×Addr)},(x,NameKind.cell) ∉ names→(cellsFrom n names acc).lookup x=acc.lookup x
 | [],_,_,_=>rfl
 | (y,k)::r,n,acc,h=>by
  have hr:(x,NameKind.cell) ∉ r:=fun z=>h (List.mem_cons_of_mem _ z)
  unfold cellsFrom
  split
  ·rename_i hk
   have hk':k = .cell:=by simpa using hk
   subst hk'
   have e:x≠y:=fun z=>h (by rw [z];simp)
   have hb:(x==y)=false:=by simpa using e
   rw [cf_old hr,List.lookup_cons,hb]
  ·exact cf_old hr
theorem cf_above {x:Str}{c lo:Nat} : ∀ {names:List (Str×NameKind)}{n:Nat}{acc:List (Str×Addr)},lo≤n→((x,NameKind.cell) ∈ names ∨ ∃ a,acc.lookup x=some a∧lo≤a)→(cellsFrom n names acc).lookup x=some c→lo≤c
 | [],_,acc,_,h,e=>by
  rcases h with h|⟨a,h1,h2⟩
  ·simp at h
  ·have e:acc.lookup x=some c:=e
   rw [h1] at e
   cases e
   exact h2
 | (y,k)::r,n,acc,hn,h,e=>by
  unfold cellsFrom at e
  split at e
  ·rename_i hk
   refine cf_above (lo:=lo) (by omega) ?_ e
   by_cases z:x=y
   ·subst z
    have hb:(x==x)=true:=by simp
    exact .inr ⟨n,by rw [List.lookup_cons,hb],hn⟩
   ·have hb:(x==y)=false:=by simpa using z
    rcases h with h|⟨a,h1,h2⟩
    ·rcases List.mem_cons.mp h with h|h
     ·cases h;exact absurd rfl z
     ·exact .inl h
    ·exact .inr ⟨a,by rw [List.lookup_cons,hb];exact h1,h2⟩
  ·rename_i hk
   refine cf_above hn ?_ e
   rcases h with h|h
   ·rcases List.mem_cons.mp h with h|h
    ·cases h;exact absurd rfl hk
    ·exact .inl h
   ·exact .inr h
theorem cf_inj {x y:Str}{c:Addr} : ∀ {names:List (Str×NameKind)}{n:Nat}{acc:List (Str×Addr)},(∀ z a,acc.lookup z=some a→a<n)→n≤c→(cellsFrom n names acc).lookup x=some c→(cellsFrom n names acc).lookup y=some c→x=y
 | [],n,acc,hA,hn,h,_=>absurd (hA x c h) (Nat.not_lt.mpr hn)
 | (w,k)::r,n,acc,hA,hn,h,h'=>by
  unfold cellsFrom at h h'
  split at h
  ·rename_i hk
   rw [if_pos hk] at h'
   have hA' : ∀ z a,((w,n)::acc).lookup z=some a→a<n+1:=fun z a q=>by
    rw [List.lookup_cons] at q
    split at q
    ·cases q;exact Nat.lt_succ_self _
    ·exact Nat.lt_succ_of_lt (hA z a q)
   have at_n : ∀ z,((w,n)::acc).lookup z=some n→z=w:=fun z q=>by
    rw [List.lookup_cons] at q
    split at q
    ·rename_i hb;exact beq_iff_eq.mp hb
    ·exact absurd (hA z n q) (Nat.lt_irrefl _)
   by_cases e:c=n
   ·subst e
    have a1:x=w:=by
     rcases cf_new h with ⟨q,_⟩|q
     ·exact absurd q (Nat.not_succ_le_self _)
     ·exact at_n x q
    have a2:y=w:=by
     rcases cf_new h' with ⟨q,_⟩|q
     ·exact absurd q (Nat.not_succ_le_self _)
     ·exact at_n y q
    rw [a1,a2]
   ·exact cf_inj hA' (Nat.lt_of_le_of_ne hn (Ne.symm e)) h h'
  ·rename_i hk
   rw [if_neg hk] at h'
   exact cf_inj hA hn h h'
theorem cf_cell {x:Str}{c:Addr} : ∀ {names:List (Str×NameKind)}{h:Heap}{acc:List (Str×Addr)},(cellsFrom h.objs.size names acc).lookup x=some c→acc.lookup x=some c∨(pushCells h names).IsCell c none
 | [],_,_,e => .inl e
 | (y,k)::r,h,acc,e=>by
  unfold cellsFrom at e
  unfold pushCells
  split at e
  ·rename_i hk
   rw [if_pos hk]
   have e':(cellsFrom (h.push { cls :=.type "cell",data :=.cell none }).objs.size r ((y,h.objs.size)::acc)).lookup x=some c:=by rw [Heap.size_push];exact e
   rcases cf_cell e' with q|q
   ·rw [List.lookup_cons] at q
    split at q
    ·have q:=Option.some.inj q
     subst q
     exact .inr ⟨_,pushCells_keeps _ _ _ _ (Heap.get?_push_size _ rfl),rfl⟩
    ·exact .inl q
   ·exact .inr q
  ·rename_i hk
   rw [if_neg hk]
   exact cf_cell e
theorem nfe_cells {M:Model}{A:Around}{E:Value→Shared→Prop}{s:Shared}{scope:Scope}{globals:Addr}{cl:List (Str×Addr)}{qual:Str}{outer:Env}{Q:Env→Shared→Prop}
 (hQ:Q (newEnv scope s.heap.objs.size globals (cellsFrom (s.heap.objs.size+1) scope.names cl) qual none .none (some outer) builtinsNs) { s with heap:=pushCells (s.heap.push { cls :=.type "dict",data :=.dict #[] }) scope.names }) :
  wpAny M A (newFunctionEnv scope globals cl [] qual none .none (some outer)) Q E s:=by
  simp only [newFunctionEnv,Option.isSome_some,if_true]
  refine wpAny_bind (wpAny_alloc ?_)
  refine wpAny_bind (wpAny_layCells _ (fun name kind cells=>by cases hkc:kind==NameKind.cell <;> simp [hkc]) _ _ _ _ ?_)
  rw [show ({ s with heap:=s.heap.push { cls :=.type "dict",data :=.dict #[] } }:Shared).heap.objs.size=s.heap.objs.size+1 from Heap.size_push ..]
  rw [List.forIn_nil]
  exact wpAny_bind (wpAny_pure (wpAny_pure hQ))
structure CompScope (env:Env) (scope:Scope) (caps:List Str):Prop where
 clos:closureFor scope env=pure (closL env.cells scope.names [])
 kind:scope.kind = .function
 cells:scope.names.all (fun y => !(y.2 == .cell)||scope.names.lookup y.1==some .cell)=true
 names:scope.names.all (fun y => !(y.2 == .local)||scope.names.lookup y.1==some .local)=true
 free:scope.names.all (fun y => !(y.2 == .free)||(env.cells.lookup y.1).isSome)=true
 cap:caps.all (fun x=>scope.names.lookup x==some .free&&(env.scope.names.lookup x==some .cell||env.scope.names.lookup x==some .free))=true
theorem mem_lookup {β:Type} : ∀ {l:List (Str×β)}{x:Str}{c:β},l.lookup x=some c→(x,c) ∈ l:=fun h=>PySem.mem_of_lookup h
theorem lookup_mem : ∀ {l:List (Str×Addr)}{x:Str}{c:Addr},(x,c) ∈ l → ∃ d,l.lookup x=some d
 | [],_,_,h=>by simp at h
 | (y,d)::r,x,c,h=>by
  by_cases e:x=y
  ·subst e;exact ⟨d,by simp⟩
  ·have hb:(x==y)=false:=by simpa using e
   rcases List.mem_cons.mp h with h|h
   ·cases h;exact absurd rfl e
   ·obtain ⟨d',hd⟩:=lookup_mem h
    exact ⟨d',by rw [List.lookup_cons,hb];exact hd⟩
section
variable {env:Env}{scope:Scope}{caps:List Str}
abbrev clOf (scope:Scope) (env:Env):List (Str×Addr):=closL env.cells scope.names []
theorem CompScope.sub (S:CompScope env scope caps) {x:Str}{c:Addr} (h:(clOf scope env).lookup x=some c):env.cells.lookup x=some c:=by
 rcases closL_mem (mem_lookup h) with h|h
 ·simp at h
 ·exact h
theorem relabel_mem {x:Str}{k:NameKind} (h:(relabel scope env).names.lookup x=some k) : ∃ k',(x,k') ∈ scope.names∧(k'=k∨(k' = .free∧k = .cell)):=by
 have hm:=mem_lookup h
 obtain ⟨⟨n,k0⟩,h1,h2⟩:=List.mem_map.mp hm
 dsimp only at h2
 split at h2
 ·rename_i hc
  cases h2
  have:k0 = .free:=by
   have:=(Bool.and_eq_true_iff.mp (Bool.and_eq_true_iff.mp hc).1).1
   simpa using this
  subst this
  exact ⟨_,h1,.inr ⟨rfl,rfl⟩⟩
 ·cases h2
  exact ⟨_,h1,.inl rfl⟩
abbrev nclOf (scope:Scope) (env:Env) (n:Nat):List (Str×Addr):=cellsFrom n scope.names (clOf scope env)
theorem CompScope.hasF (S:CompScope env scope caps) {x:Str} (key:(x,NameKind.free) ∈ scope.names) : ∃ c,(clOf scope env).lookup x=some c:=by
 have:=List.all_eq_true.mp S.free _ key
 have hs:(env.cells.lookup x).isSome=true:=by simpa using this
 obtain ⟨c,hc⟩:=Option.isSome_iff_exists.mp hs
 obtain ⟨d,hd⟩:=closL_has (cells:=env.cells) (names:=scope.names) (acc:=[]) (.inr ⟨key,c,hc⟩)
 exact lookup_mem hd
theorem CompScope.isC (S:CompScope env scope caps) {x:Str} (h:(x,NameKind.cell) ∈ scope.names):scope.names.lookup x=some .cell:=by
 have:=List.all_eq_true.mp S.cells _ h
 simpa using this
theorem CompScope.has (S:CompScope env scope caps) {x:Str} (n:Nat) (h:(relabel scope env).names.lookup x=some .cell∨(relabel scope env).names.lookup x=some .free) : ∃ c,(nclOf scope env n).lookup x=some c:=by
 have key:scope.names.lookup x=some .cell∨(x,NameKind.free) ∈ scope.names:=by
  rcases h with h|h
  ·obtain ⟨k',h1,h2⟩:=relabel_mem h
   rcases h2 with rfl|⟨rfl,_⟩
   ·exact .inl (S.isC h1)
   ·exact .inr h1
  ·obtain ⟨k',h1,h2⟩:=relabel_mem h
   rcases h2 with rfl|⟨_,h2⟩
   ·exact .inr h1
   ·cases h2
 refine Option.isSome_iff_exists.mp (PySem.W.cellsFrom_some scope.names n _ ?_)
 rcases key with k|k
 ·exact .inl k
 ·obtain ⟨c,hc⟩:=S.hasF k
  exact .inr (by rw [hc];rfl)
theorem CompScope.look (S:CompScope env scope caps) {x:Str}{n:Nat}{c:Addr} (h:(nclOf scope env n).lookup x=some c):(n≤c∧(x,NameKind.cell) ∈ scope.names)∨env.cells.lookup x=some c:=by
 rcases cf_new h with q|q
 ·exact .inl q
 ·exact .inr (S.sub q)
end
def blk (X:Cx) (pins:List (Addr×Obj)) (scope:Scope) (N':List Str) (s3:Shared) (H:Hp) (ex:List Addr):Cx where
 prog:=X.prog
 w:=X.w
 K:=X.K
 mg:=X.mg
 base:=X.base
 A:=X.A
 N:=N'
 s₀:=s3
 H₀:=H
 env:=compEnvC scope (nclOf scope X.env (s3.heap.objs.size+1)) s3.heap.objs.size X.env
 outer:=X.stack
 stack:=X.stack
 ex:=ex
 fn:=fun x=>scope.names.lookup x==some .cell
 calm:=X.calm
 pn:=X.pn++pins
 xe:=fun _ _=>False
def capS (ix:List Nat) (k:Nat) (σ:St):St:=ix.map (fun i=>(σ[i]?).join)++List.replicate k none
def tComp (ix:List Nat) (k:Nat) (wi:TI) (g:TG) (te:TE):TE:=fun σ H Q=>wi σ H fun J H1 => ∃ W:Nat→Nat→List V→St→Hp→Prop,(∃ m,W 0 m [] (capS ix k σ) H1) ∧ ∀ i m ys σ1 H2,W i m ys σ1 H2 →
 (J.stop i H2∧ys.length≤sizeLine ∧ ∀ p,H2 p=none→Q (.ref p) (upd H2 p (.lst ys))) ∨
 (J.go i H2∧ys.length<sizeLine ∧ ∃ N:V→St→Hp→Prop,(∀ y σ2 H5,N y σ2 H5 → ∃ m',m'<m∧W (i+1) m' (ys++[y]) σ2 H5) ∧ ∀ x H3,J.yld i H2 x H3→g x σ1 H3 fun σ2 H4=>te σ2 H4 fun y H5=>N y σ2 H5)
theorem codeAny_compLoop_any {prog:Program}{w:World}{A:Around}{R:Result→Shared→Prop}{s:Shared}{elt target iter:Expr}{scope:Scope}{pos:Pos}{it acc:Value}{env:Env} (I:Nat→Shared→Prop)
 (turn : ∀ n s,I n s→wpAny (model prog w) A (pyNext it) (fun r s₁=>match r with
  | none=>R (.ok .next) s₁
  | some v=>wpAny (model prog w) A (letOwnedTupleGo target it v) (fun _ s₁'=>wpAny (model prog w) A (assign target env v) (fun _ s₂=>wpAny (model prog w) A (eval elt env) (fun x s₃ =>
   wpAny (model prog w) A (call (.builtin "list.append") [acc,x]) (fun _ s₄ => ∃ m,m<n∧I m s₄) (notedBy (model prog w) A env fun e s'=>R (.error e) s') s₃)
   (notedBy (model prog w) A env fun e s'=>R (.error e) s') s₂) (notedBy (model prog w) A env fun e s'=>R (.error e) s') s₁') (notedBy (model prog w) A env fun e s'=>R (.error e) s') s₁) (notedBy (model prog w) A env fun e s'=>R (.error e) s') s)
  (n:Nat) (h:I n s):codeAny (model prog w) A (.compLoop (.ListComp elt [⟨target,iter,[],0⟩] scope pos) 0 it acc env) R s:=by
  refine codeAny_loop rfl I (fun n s hI=>?_) n h
  show wpAny _ _ ((compTurn (.ListComp elt [⟨target,iter,[],0⟩] scope pos) 0 it acc env).onRaise (fun x=>do noteFrame x env;theTreesLotGoes x)) _ _ s
  refine wpAny_noted ?_
  rw [compTurn_list1]
  refine wpAny_bind (wpAny_standAt (wpAny_bind (wpAny_mono (turn n s hI) (fun r s₁ h₁=>?_) fun _ _ h'=>h')))
  cases r with
  | none=>exact wpAny_pure h₁
  | some v =>
   exact wpAny_bind (wpAny_mono h₁ (fun _ s₁' h₁'=>wpAny_bind (wpAny_mono h₁' (fun _ s₂ h₂=>wpAny_bind (wpAny_bind (wpAny_mono h₂ (fun x s₃ h₃=>wpAny_bind (wpAny_mono h₃
    (fun _ s₄ h₄=>wpAny_pure (wpAny_pure ⟨rfl,h₄⟩)) fun _ _ h'=>h')) fun _ _ h'=>h'))) fun _ _ h'=>h')) fun _ _ h'=>h')
section
variable {X:Cx}{elt target iter:Expr}{scope:Scope}{pos:Pos}{caps own:List Str}{ix:List Nat}{wi:TI}{g:TG}{te:TE}
def tYes:TT:=fun _ H Q=>Q true H
abbrev TstT:=Env→(Bool→Shared→Prop)→(Value→Shared→Prop)→Shared→Prop
def LoopR (prog:Program) (w:World) (A:Around) (elt target iter:Expr) (cs:List Expr) (scope:Scope) (pos:Pos) (Tst:TstT):Prop := ∀ {R:Result→Shared→Prop}{s:Shared}{it acc:Value}{env:Env} (I:Nat→Shared→Prop)
 (turn : ∀ n s,I n s→wpAny (model prog w) A (pyNext it) (fun r s₁=>match r with
  | none=>R (.ok .next) s₁
  | some v=>wpAny (model prog w) A (letOwnedTupleGo target it v) (fun _ s₁'=>wpAny (model prog w) A (assign target env v) (fun _ s₂=>Tst env (fun b s₂'=>match b with
   | true=>wpAny (model prog w) A (eval elt env) (fun x s₃ =>
    wpAny (model prog w) A (call (.builtin "list.append") [acc,x]) (fun _ s₄ => ∃ m,m<n∧I m s₄) (notedBy (model prog w) A env fun e s'=>R (.error e) s') s₃)
    (notedBy (model prog w) A env fun e s'=>R (.error e) s') s₂'
   | false => ∃ m,m<n∧I m s₂') (notedBy (model prog w) A env fun e s'=>R (.error e) s') s₂) (notedBy (model prog w) A env fun e s'=>R (.error e) s') s₁') (notedBy (model prog w) A env fun e s'=>R (.error e) s') s₁) (notedBy (model prog w) A env fun e s'=>R (.error e) s') s)
 (n:Nat) (h:I n s),codeAny (model prog w) A (.compLoop (.ListComp elt [⟨target,iter,cs,0⟩] scope pos) 0 it acc env) R s
theorem comp_core {cs:List Expr}{tt:TT}{Tst:TstT} (hloop:LoopR X.prog X.w X.A elt target iter cs scope pos Tst) (hc:X.calm=true) (S:CompScope X.env scope caps) (hi:PI X target iter wi)
 (hg : ∀ pins s3 H ex,PG (blk X pins scope (caps++own) s3 H ex) target g)
 (he : ∀ pins s3 H ex,PE (blk X pins scope (caps++own) s3 H ex) elt te)
 (htst : ∀ pins s3 H ex pins' s σ H' Qb P E,Inv (blk X pins scope (caps++own) s3 H ex) pins' σ H' s→tt σ H' Qb→(∀ b s' H'',Inv (blk X pins scope (caps++own) s3 H ex) pins' σ H'' s'→Qb b H''→P b s')→Tst (blk X pins scope (caps++own) s3 H ex).env P E s)
 (hix:caps.length=ix.length) (hcapB:(caps.zip ix).all (fun p=>X.N[p.2]?==some p.1)=true)
 (hs : ∀ x,foldedSetIterable iter X.env x=pure x) {use:Option (Value→Sem Unit)}{Q0:Value→Shared→Prop}{Qv:VK}{pins:List (Addr×Obj)}{s:Shared}{σ:St}{H:Hp}{pos':Pos} (I:Inv X pins σ H s) {Inner:It→Hp→Prop} (h:wi σ H Inner)
 (hin : ∀ J H1,Inner J H1 → ∃ W:Nat→Nat→List V→St→Hp→Prop,(∃ m,W 0 m [] (capS ix own.length σ) H1) ∧ ∀ i m ys σ1 H2,W i m ys σ1 H2 →
 (J.stop i H2∧ys.length≤sizeLine ∧ ∀ p,H2 p=none→Qv (.ref p) (upd H2 p (.lst ys))) ∨
 (J.go i H2∧ys.length<sizeLine ∧ ∃ (N:V→St→Hp→Prop) (N0:St→Hp→Prop),(∀ y σ2 H5,N y σ2 H5 → ∃ m',m'<m∧W (i+1) m' (ys++[y]) σ2 H5)∧(∀ σ2 H5,N0 σ2 H5 → ∃ m',m'<m∧W (i+1) m' ys σ2 H5) ∧
 ∀ x H3,J.yld i H2 x H3→g x σ1 H3 fun σ2 H4=>tt σ2 H4 fun b H5=>match b with|true=>te σ2 H5 fun y H6=>N y σ2 H6|false=>N0 σ2 H5))
 (fin : ∀ (D C:Addr) (s6:Shared) (H6:Hp) (m6:Str→Option Value),s6.heap.Ns C m6→Inv X pins σ H6 s6→H6 C=none→C≠X.env.locals→C ∉ X.fs→(C ∈ X.ex∨X.s₀.heap.objs.size≤C)→(∀ x c,X.env.cells.lookup x=some c→c≠C)→(∀ p ∈ X.pn++pins,p.1≠C)→Qv (.ref D) H6 →
 compPost (model X.prog X.w) X.A X.xe use Q0 (.ref D) C (.ok .next) s6) :
 wpAny (model X.prog X.w) X.A (comprehension (.ListComp elt [⟨target,iter,cs,0⟩] scope pos) scope X.env pos' (newList []) false (eval iter X.env) use) Q0 X.xe s:=by
  have hcap : ∀ (j:Nat) (x:Str) (i:Nat),caps[j]?=some x→ix[j]?=some i→X.N[i]?=some x:=fun j x i h1 h2=>by
   have hm:(x,i) ∈ caps.zip ix:=by
    have:(caps.zip ix)[j]?=some (x,i):=by rw [List.getElem?_zip_eq_some];exact ⟨h1,h2⟩
    exact List.mem_of_getElem? this
   have:=List.all_eq_true.mp hcapB _ hm
   simpa using this
  have hnm : ∀ y ∈ scope.names,y.2 = .local→scope.names.lookup y.1=some .local:=fun y hy hl=>by
   have:=List.all_eq_true.mp S.names y hy
   rw [hl] at this
   simpa using this
  refine wpAny_comprehension_free (use:=use) rfl hs S.clos S.kind hnm (thn (hi pins s σ H _ I h) fun v s1 h1=>thn h1 fun itv s2 h2=>?_)
  obtain ⟨it,fp,tn,J,H2,e,I2,T,st2,f2,hJ⟩:=h2
  obtain ⟨W,⟨m0,w0⟩,turn⟩:=hin J H2 hJ
  subst e
  refine wpAny_newObj_type (nfe_cells ?_)
  dsimp only
  generalize eh0:s2.heap.push { cls :=.type "list",data :=.seq #[] }=h3
  have hns₁:(pushCells (h3.push { cls :=.type "dict",data :=.dict #[] }) scope.names).Ns h3.objs.size (fun _=>none):=(Heap.Ns.new h3 (.type "dict")).keeps (pushCells_keeps _ _)
  have hkp : ∀ b o,h3.get? b=some o→(pushCells (h3.push { cls :=.type "dict",data :=.dict #[] }) scope.names).get? b=some o:=fun b o q=>pushCells_keeps _ _ b o (Heap.get?_push_of_some _ q)
  have hcl₁ : ∀ x c,(nclOf scope X.env (h3.objs.size+1)).lookup x=some c→(clOf scope X.env).lookup x=some c∨(pushCells (h3.push { cls :=.type "dict",data :=.dict #[] }) scope.names).IsCell c none:=fun x c q=>by
   refine cf_cell (h:=h3.push { cls :=.type "dict",data :=.dict #[] }) ?_
   rw [Heap.size_push];exact q
  generalize pushCells (h3.push { cls :=.type "dict",data :=.dict #[] }) scope.names=h₁ at hns₁ hkp hcl₁ ⊢
  obtain ⟨s3,hs3⟩ : ∃ s3:Shared,s3={ s2 with heap:=h3 }:=⟨_,rfl⟩
  have e3:h3=s3.heap:=by rw [hs3]
  subst e3
  have eh:s3.heap=s2.heap.push { cls :=.type "list",data :=.seq ([]:List Value).toArray }:=eh0.symm
  have hC:s3.heap.objs.size=s2.heap.objs.size+1:=by rw [eh,Heap.size_push]
  have hDlt:s2.heap.objs.size<s3.heap.objs.size:=by omega
  have k23 : ∀ b o,s2.heap.get? b=some o→s3.heap.get? b=some o:=fun b o q=>by rw [eh];exact Heap.get?_push_of_some _ q
  have hD3:s3.heap.get? s2.heap.objs.size=some { cls :=.type "list",data :=.seq ([]:List Value).toArray }:=by rw [eh];exact Heap.get?_push_size _ rfl
  have I3:Inv X pins σ H2 s3:=by rw [hs3];exact I2.kept (t':=s2.toks) k23
  have k34 : ∀ b o,s3.heap.get? b=some o→h₁.get? b=some o:=hkp
  have fpl : ∀ b ∈ fp,b<s2.heap.objs.size:=fun b hb=>by
   obtain ⟨o,q,_⟩:=T.obj 0 _ st2 b hb
   exact Heap.lt_size q
  have cel : ∀ x c,X.env.cells.lookup x=some c→c<s2.heap.objs.size:=fun x c q=>by
   obtain ⟨v,o,z,_⟩:=I2.cell x c q
   exact Heap.lt_size z
  have ncl : ∀ x c,(nclOf scope X.env (s3.heap.objs.size+1)).lookup x=some c→X.env.cells.lookup x=some c∨s3.heap.objs.size<c:=fun x c q=>(S.look q).elim (fun z => .inr z.1) .inl
  have pnl : ∀ p ∈ X.pn++pins,p.1<s2.heap.objs.size:=fun p hp=>Heap.lt_size (I2.pin p hp).1
  have hDn:H2 s2.heap.objs.size=none:=I2.hok.fresh (Nat.le_refl _)
  have ok:(blk X pins scope (caps++own) s3 H2 (s2.heap.objs.size::fp)).Ok:=by
   refine ⟨I2.mod,S.kind,I2.ok.glob,I2.ok.blt,Nat.le_refl _,fun x y c h1 h2=>?_,fun x hx=>S.has _ hx,fun x c hf q=>?_,I2.ok.hd,I2.ok.frames,.inl rfl,fun b hb=>?_,I3.bs,?_,fun b o q hb=>?_,fun b hb=>?_,I3.stack,I3.stkFree⟩
   ·rcases ncl x c h1 with q1|q1
    ·rcases ncl y c h2 with q2|q2
     ·exact I2.ok.inj x y c q1 q2
     ·exact absurd (Nat.lt_trans (cel x c q1) hDlt) (Nat.not_lt.mpr (Nat.le_of_lt q2))
    ·exact cf_inj (n:=s3.heap.objs.size+1) (acc:=clOf scope X.env) (fun z a q=>Nat.lt_succ_of_lt (Nat.lt_trans (cel z a (S.sub q)) hDlt)) q1 h1 h2
   ·exact Nat.le_trans (Nat.le_succ _) (cf_above (lo:=s3.heap.objs.size+1) (Nat.le_refl _) (.inl (mem_lookup (beq_iff_eq.mp hf))) q)
   ·have hb':b=s2.heap.objs.size∨b ∈ fp:=List.mem_cons.mp hb
    rcases hb' with rfl|hb'
    ·exact ⟨Nat.ne_of_lt hDlt,fun x c q=>(ncl x c q).elim (fun z=>Nat.ne_of_lt (cel x c z)) fun z=>Nat.ne_of_gt (Nat.lt_trans hDlt z)⟩
    ·exact ⟨Nat.ne_of_lt (Nat.lt_trans (fpl b hb') hDlt),fun x c q=>(ncl x c q).elim (fun z=>(f2 b hb').2.2.2.2.1 x c z) fun z=>Nat.ne_of_gt (Nat.lt_trans (fpl b hb') (Nat.lt_trans hDlt z))⟩
   ·exact Nat.le_trans I2.ok.bsz I3.sz
   ·have hlt:b<X.base.objs.size:=Heap.lt_size q
    have hb':b=s2.heap.objs.size∨b ∈ fp:=List.mem_cons.mp hb
    have h1:=I2.ok.bsz
    have h2:=I2.sz
    rcases hb' with rfl|hb'
    ·exact absurd hlt (Nat.not_lt.mpr (Nat.le_trans h1 h2))
    ·rcases (f2 b hb').2.2.2.1 with z|z
     ·exact I2.ok.noex b o q z
     ·exact absurd hlt (Nat.not_lt.mpr (Nat.le_trans h1 z))
   ·have hb':b=s2.heap.objs.size∨b ∈ fp:=List.mem_cons.mp hb
    intro z
    have z':=I2.stkSub b z
    rcases hb' with rfl|hb'
    ·rcases List.mem_cons.mp z' with z'|z'
     ·exact Nat.ne_of_gt I2.lt z'
     ·exact I2.nofs (Nat.le_refl _) z'
    ·rcases List.mem_cons.mp z' with z'|z'
     ·exact (f2 b hb').2.1 z'
     ·exact (f2 b hb').2.2.1 z'
  have len0:(capS ix own.length σ).length=(caps++own).length:=by unfold capS;simp [hix]
  have I4:Inv (blk X pins scope (caps++own) s3 H2 (s2.heap.objs.size::fp)) [] (capS ix own.length σ) H2 { s2 with heap:=h₁ }:=by
   obtain ⟨mX,nsX,lkX⟩:=I3.loc
   refine ⟨ok,(by show s2.os=s3.os;rw [hs3]),I2.bare,Un.kept k34,⟨_,hns₁,fun j x v h1 h2 h3=>?_⟩,fun x c q=>?_,I3.hok.fresh (Nat.le_refl _),fun x c q=>(ncl x c q).elim (fun z=>I3.freeC x c z) fun z=>I3.hok.fresh (Nat.le_of_lt z),fun p hp=>?_,I3.hok.kept k34,len0⟩
   ·-- a captured name
    have hj:j<ix.length:=by
     unfold capS at h2
     by_cases hj:j<ix.length
     ·exact hj
     ·rw [List.getElem?_append_right (by simpa using hj),List.getElem?_replicate] at h2
      split at h2 <;> cases h2
    have h1':caps[j]?=some x:=by
     have:(caps++own)[j]?=some x:=h1
     rwa [List.getElem?_append_left (by omega)] at this
    have hij:ix[j]?=some ix[j]:=List.getElem?_eq_getElem hj
    have hv:σ[ix[j]]?=some (some v):=by
     unfold capS at h2
     rw [List.getElem?_append_left (by simpa using hj),List.getElem?_map,hij] at h2
     have h2':(σ[ix[j]]?).join=some v:=by simpa using h2
     cases q:σ[ix[j]]? with
     | none=>rw [q] at h2';cases h2'
     | some o=>rw [q] at h2';cases o with
      | none=>cases h2'
      | some y=>have:y=v:=by simpa using h2'
                rw [this]
    have hk:=List.all_eq_true.mp S.cap x (List.mem_of_getElem? h1')
    obtain ⟨k1,k2⟩:=Bool.and_eq_true_iff.mp hk
    have k1':scope.names.lookup x=some .free:=by simpa using k1
    have k2':X.env.scope.names.lookup x=some .cell∨X.env.scope.names.lookup x=some .free:=by simpa using k2
    obtain ⟨u,ru,lk⟩:=lkX ix[j] x v (hcap j x _ h1' hij) hv (k2'.elim (fun z => .inr (.inl z)) (fun z => .inr (.inr z)))
    refine ⟨u,ru,?_⟩
    have hrel:(relabel scope X.env).names.lookup x=some .cell∨(relabel scope X.env).names.lookup x=some .free:=by
     rcases h3 with h3|h3|h3
     ·have h3':(relabel scope X.env).names.lookup x=some NameKind.local:=h3
      obtain ⟨k',m1,m2⟩:=relabel_mem h3'
      rcases m2 with rfl|⟨_,m2⟩
      ·have:=hnm _ m1 rfl
       rw [k1'] at this;cases this
      ·cases m2
     ·exact .inl h3
     ·exact .inr h3
    have hxc:(x,NameKind.cell) ∉ scope.names:=fun z=>by
     have:=S.isC z
     rw [k1'] at this;cases this
    obtain ⟨c,hcl⟩:=S.hasF (mem_lookup k1')
    have hcl':(nclOf scope X.env (s3.heap.objs.size+1)).lookup x=some c:=(cf_old hxc).trans hcl
    rcases lk with ⟨kl,_⟩|⟨_,c',ec,ic⟩
    ·have kl':X.env.scope.names.lookup x=some .local:=kl
     rcases k2' with z|z <;> (rw [kl'] at z;cases z)
    ·have:=S.sub hcl
     have ee:c'=c:=by rw [ec] at this;exact Option.some.inj this
     exact .inr ⟨hrel,c,hcl',ee ▸ ic.keeps k34⟩
   ·rcases hcl₁ x c q with z|z
    ·obtain ⟨v,ic⟩:=I3.cell x c (S.sub z)
     exact ⟨v,ic.keeps k34⟩
    ·exact ⟨_,z⟩
   ·have hp':p ∈ X.pn++pins:=by simpa [blk] using hp
    obtain ⟨q1,q2,q3,q4,q5⟩:=I3.pin p hp'
    refine ⟨k34 _ _ q1,q2,Nat.ne_of_lt (Nat.lt_trans (pnl p hp') hDlt),fun z=>?_,q5⟩
    rcases List.mem_cons.mp (I3.stkSub p.1 z) with z'|z'
    ·exact q3 z'
    ·exact q4 z'
  have hD4:h₁.get? s2.heap.objs.size=some { cls :=.type "list",data :=.seq ([]:List Value).toArray }:=k34 _ _ hD3
  have st4:tn 0 h₁:=T.keep _ _ _ st2 fun b _ o q=>k34 b o (k23 b o q)
  have fpk : ∀ {H':Hp}{ob:Obj},(∀ b ∈ fp,H' b=none) → ∀ b ∈ fp,FpOk (blk X pins scope (caps++own) s3 H2 (s2.heap.objs.size::fp)) [(s2.heap.objs.size,ob)] H' b:=fun {H' ob} hn b hb=>by
   obtain ⟨_,a1,a2,a3,a4,a5⟩:=f2 b hb
   refine ⟨hn b hb,Nat.ne_of_lt (Nat.lt_trans (fpl b hb) hDlt),fun z=>?_,.inl (List.mem_cons_of_mem _ hb),fun x c q=>(ncl x c q).elim (fun z=>a4 x c z) fun z=>Nat.ne_of_gt (Nat.lt_trans (fpl b hb) (Nat.lt_trans hDlt z)),fun p hp=>?_⟩
   ·rcases List.mem_cons.mp (I2.stkSub b z) with z'|z'
    ·exact a1 z'
    ·exact a2 z'
   ·have hp':p ∈ X.pn++pins∨p=(s2.heap.objs.size,ob):=by simpa [blk,or_assoc] using hp
    rcases hp' with hp'|rfl
    ·exact a5 p hp'
    ·exact Nat.ne_of_gt (fpl b hb)
  have loop : ∀ s5:Shared,s5=({ s2 with heap:=h₁ }:Shared) →
   codeAny (model X.prog X.w) X.A (.compLoop (.ListComp elt [⟨target,iter,cs,0⟩] scope pos) 0 (.ref it) (.ref s2.heap.objs.size) (compEnvC scope (nclOf scope X.env (s3.heap.objs.size+1)) s3.heap.objs.size X.env))
    (compPost (model X.prog X.w) X.A X.xe use Q0 (.ref s2.heap.objs.size) s3.heap.objs.size) s5:=by
   rintro s5 rfl
   refine hloop (fun n s' => ∃ i ys its cp σ' H',Inv (blk X pins scope (caps++own) s3 H2 (s2.heap.objs.size::fp)) [] σ' H' s'∧tn i s'.heap∧(∀ b ∈ fp,H' b=none)∧H' s2.heap.objs.size=none ∧
    s'.heap.get? s2.heap.objs.size=some { cls :=.type "list",data :=.seq (its:List Value).toArray cp }∧Vals ys its∧W i n ys σ' H') ?_ m0 ⟨0,[],[],_,_,H2,I4,st4,fun b hb=>(f2 b hb).1,hDn,hD4,.nil,w0⟩
   rintro n s5 ⟨i,ys,its,cp,σ5,H5,I5,st5,fr5,hD5,gD5,rv5,w5⟩
   have Dfs:s2.heap.objs.size ∉ (blk X pins scope (caps++own) s3 H2 (s2.heap.objs.size::fp)).fs:=fun z=>by
    rcases List.mem_cons.mp (I2.stkSub _ z) with z'|z'
    ·exact Nat.ne_of_gt I2.lt z'
    ·exact I2.nofs (Nat.le_refl _) z'
   have I5':Inv (blk X pins scope (caps++own) s3 H2 (s2.heap.objs.size::fp)) [(s2.heap.objs.size,{ cls :=.type "list",data :=.seq its.toArray cp })] σ5 H5 s5:=by
    refine I5.pins_of fun p hp=>?_
    have hp':p ∈ (blk X pins scope (caps++own) s3 H2 (s2.heap.objs.size::fp)).pn++[]∨p=(s2.heap.objs.size,{ cls :=.type "list",data :=.seq its.toArray cp }):=by
     first
      | exact .inr (List.mem_singleton.mp hp)
      | (rcases List.mem_append.mp hp with z|z
         ·exact .inl (List.mem_append_left _ z)
         ·exact .inr (List.mem_singleton.mp z))
    rcases hp' with z|rfl
    ·exact I5.pin p z
    ·exact ⟨gD5,hD5,Nat.ne_of_lt hDlt,Dfs,fun v z=>by cases z⟩
   rcases turn i n ys σ5 H5 w5 with ⟨stop,hz,qn⟩|⟨go,hz,N,N0,hN,hN0,step⟩
   ·refine thn (T.done (blk X pins scope (caps++own) s3 H2 (s2.heap.objs.size::fp)) rfl rfl rfl hc i _ s5 σ5 H5 _ I5' (fpk fr5) st5 stop) fun r s6 ⟨hr,I6⟩=>?_
    subst hr
    obtain ⟨m6,ns6,_⟩:=id I6.loc
    have gD6:=(I6.pin _ (List.mem_append_right _ (List.mem_singleton.mpr rfl))).1
    have kC : ∀ b o,b≠s3.heap.objs.size→s6.heap.get? b=some o→s6.heap.get? b=some o:=fun b o _ q=>q
    have bne : ∀ b o,s2.heap.get? b=some o→b≠s3.heap.objs.size:=fun b o q=>Nat.ne_of_lt (Nat.lt_trans (Heap.lt_size q) hDlt)
    have bnD : ∀ b o,s2.heap.get? b=some o→b≠s2.heap.objs.size:=fun b o q=>Nat.ne_of_lt (Heap.lt_size q)
    have nC : ∀ b u,H5 b=some u→b≠s3.heap.objs.size:=fun b u q z=>by
     have z1:H5 s3.heap.objs.size=none:=I6.free
     rw [z,z1] at q;cases q
    have U:=I6.base
    have IX:Inv X pins σ (upd H5 s2.heap.objs.size (.lst ys)) s6:=by
     refine I2.call' (ch:=s2.heap.objs.size::fp) ?_ ?_ ?_ I6.bare ?_
     ·show s6.os=s2.os
      rw [I6.os];show s3.os=s2.os;rw [hs3]
     ·refine ⟨fun b o q n hb hx=>kC b o (bne b o q) (U.keep b o (k23 b o q) n hb hx),fun b o q n hb hx=>?_,fun b o q n hx=>?_,fun b o q hx=>?_,fun b xs q=>?_,fun b o u q=>?_,fun b ps q=>?_⟩
      ·obtain ⟨sl,z⟩:=U.slot b o (k23 b o q) n hb hx
       exact ⟨sl,kC b _ (bne b o q) z⟩
      ·rw [upd_ne (bnD b o q)];exact U.free b o (k23 b o q) n hx
      ·obtain ⟨o',z⟩:=U.there b o (k23 b o q) hx
       exact ⟨o',kC b _ (bne b o q) z⟩
      ·have:=U.tups b xs q
       rw [upd_ne (ne_of_none this hD5)];exact this
      ·have:=U.frzs b o u q
       rw [upd_ne (ne_of_none this hD5)];exact this
      ·obtain ⟨more,z,gm⟩:=U.tbls b ps q
       exact ⟨more,by rw [upd_ne (ne_of_none z hD5)];exact z,gm.mono fun b o u q=>by rw [upd_ne (ne_of_none q hD5)];exact q⟩
     ·intro b u q
      by_cases hb:b=s2.heap.objs.size
      ·subst hb
       rw [upd_same] at q
       cases q
       exact ⟨hz,its,cp,rv5,kC _ _ (Nat.ne_of_lt hDlt) gD6⟩
      ·rw [upd_ne hb] at q
       refine (I6.hok b u q).stay (fun c ob hc z=>kC c ob ?_ z) (fun c z=>by rw [upd_ne (ne_of_none z hD5)];exact z) fun c xs z=>by rw [upd_ne (ne_of_none z hD5)];exact z
       rcases hc with hc|hc
       ·rw [hc];exact nC b u q
       ·exact nC c _ hc
     ·intro b hb
      have hb':b=s2.heap.objs.size∨b ∈ fp:=List.mem_cons.mp hb
      rcases hb' with rfl|hb'
      ·exact ⟨.inr I2.sz,Nat.ne_of_gt I2.lt,fun x c q=>Nat.ne_of_lt (cel x c q),fun p hp=>Nat.ne_of_lt (pnl p hp)⟩
      ·obtain ⟨_,a1,_,a3,a4,a5⟩:=f2 b hb'
       exact ⟨a3,a1,a4,a5⟩
    have hCH:(upd H5 s2.heap.objs.size (.lst ys)) s3.heap.objs.size=none:=by
     rw [upd_ne (Nat.ne_of_gt hDlt)];exact I6.free
    exact fin _ _ s6 _ m6 ns6 IX hCH (Nat.ne_of_gt (Nat.lt_trans I2.lt hDlt)) (I2.nofs (Nat.le_of_lt hDlt)) (.inr (Nat.le_trans I2.sz (Nat.le_of_lt hDlt))) (fun x c q=>Nat.ne_of_lt (Nat.lt_trans (cel x c q) hDlt)) (fun p hp=>Nat.ne_of_lt (Nat.lt_trans (pnl p hp) hDlt)) (qn _ hD5)
   ·refine thn (T.item (blk X pins scope (caps++own) s3 H2 (s2.heap.objs.size::fp)) rfl rfl rfl hc i _ s5 σ5 H5 _ I5' (fpk fr5) st5 go) fun r s6 ⟨u,hr,h6⟩=>?_
    subst hr
    refine thn h6 fun _ s7 xx56=>?_
    obtain ⟨x,H7,I7,r7,y7,st7,fr7⟩:=xx56
    have I7':=I7.pinned (fpk fr7) (T.obj _ _ st7)
    refine wpAny_mono (hg pins s3 H2 _ _ s7 σ5 H7 x u _ I7' r7 (step x H7 y7)) (fun _ s8 xx55=>?_) fun _ _ z=>z.elim
    obtain ⟨σ8,H8,I8,q8⟩:=xx55
    refine htst pins s3 H2 _ _ s8 σ8 H8 _ _ _ I8 q8 fun bt s8' H8' I8' q8'=>?_
    cases bt with
    | false =>
     have q9:N0 σ8 H8':=q8'
     obtain ⟨m',hm',w9⟩:=hN0 σ8 H8' q9
     have gD9:=(I8'.pin (s2.heap.objs.size,{ cls :=.type "list",data :=.seq its.toArray cp }) (List.mem_append_right _ (List.mem_append_left _ (List.mem_singleton.mpr rfl))))
     have pin8 : ∀ b ∈ fp,∀ o,s7.heap.get? b=some o→s8'.heap.get? b=some o∧H8' b=none:=fun b hb o q=>by
      have z:=I8'.pin (b,o) (List.mem_append_right _ (List.mem_append_right _ (mem_pinsAt hb q)))
      exact ⟨z.1,z.2.1⟩
     refine ⟨m',hm',i+1,ys,its,cp,σ8,H8',?_,?_,fun b hb=>?_,gD9.2.1,gD9.1,rv5,w9⟩
     ·exact (I8'.pins_of (pins':=[]) (fun p hp=>by
       first
        | exact absurd hp (by simp)
        | (rw [List.append_nil] at hp;exact I8'.pin p (List.mem_append_left _ hp))))
     ·exact T.keep _ _ _ st7 fun b hb o q=>(pin8 b hb o q).1
     ·obtain ⟨o,q,_⟩:=T.obj _ _ st7 b hb
      exact (pin8 b hb o q).2
    | true =>
     refine wpAny_mono (he pins s3 H2 _ _ s8' σ8 H8' _ I8' q8') (fun uy s9 xx54=>?_) fun _ _ z=>z.elim
     obtain ⟨y,H9,I9,r9,n9⟩:=xx54
     obtain ⟨m',hm',w9⟩:=hN y σ8 H9 n9
     have gD9:=(I9.pin (s2.heap.objs.size,{ cls :=.type "list",data :=.seq its.toArray cp }) (List.mem_append_right _ (List.mem_append_left _ (List.mem_singleton.mpr rfl))))
     have pin9 : ∀ b ∈ fp,∀ o,s7.heap.get? b=some o→s9.heap.get? b=some o∧H9 b=none:=fun b hb o q=>by
      have z:=I9.pin (b,o) (List.mem_append_right _ (List.mem_append_right _ (mem_pinsAt hb q)))
      exact ⟨z.1,z.2.1⟩
     have hl9:=rv5.length
     refine call_meets PySem.F.slot_list_append ⟨_,gD9.1,rfl⟩ PySem.F.entry_list_append (PySem.F.args_list_append_2 _ _) (PySem.list_append s2.heap.objs.size its.toArray cp uy (by rw [List.size_toArray];omega)) ⟨gD9.1,?_⟩
     have qD:=PySem.IsL.update gD9.1 (fun xs=>xs.push uy)
     have ep:its.toArray.push uy=(its++[uy]).toArray:=by simp
     rw [ep] at qD
     have up : ∀ b o,b≠s2.heap.objs.size→s9.heap.get? b=some o→(s9.heap.update s2.heap.objs.size (Obj.mapSeq fun xs=>xs.push uy)).get? b=some o:=fun b o hb q=>(Heap.get?_update_other s9.heap _ (Ne.symm hb)).trans q
     refine ⟨m',hm',i+1,ys++[y],its++[uy],_,σ8,H9,?_,?_,fun b hb=>?_,gD9.2.1,qD,rv5.append (.cons r9 .nil),w9⟩
     ·refine (I9.pins_of (pins':=[]) (fun p hp=>by
       first
        | exact absurd hp (by simp)
        | (rw [List.append_nil] at hp;exact I9.pin p (List.mem_append_left _ hp)))).turned (it:=s2.heap.objs.size) up gD9.2.1 (Nat.ne_of_lt hDlt) (.inl (List.mem_cons_self ..)) (fun x c q=>(ncl x c q).elim (fun z=>Nat.ne_of_lt (cel x c z)) fun z=>Nat.ne_of_gt (Nat.lt_trans hDlt z)) fun p hp=>?_
      have hp':p ∈ X.pn++pins:=by simpa [blk] using hp
      exact Nat.ne_of_lt (pnl p hp')
     ·exact T.keep _ _ _ st7 fun b hb o q=>up b o (Nat.ne_of_lt (fpl b hb)) (pin9 b hb o q).1
     ·obtain ⟨o,q,_⟩:=T.obj _ _ st7 b hb
      exact (pin9 b hb o q).2
  exact codeAny_compStart_list (loop _ rfl) (T.self _ 0 _ _ _ st4 (loop _ rfl))
theorem comp_core0 (hc:X.calm=true) (S:CompScope X.env scope caps) (hi:PI X target iter wi)
 (hg : ∀ pins s3 H ex,PG (blk X pins scope (caps++own) s3 H ex) target g)
 (he : ∀ pins s3 H ex,PE (blk X pins scope (caps++own) s3 H ex) elt te)
 (hix:caps.length=ix.length) (hcapB:(caps.zip ix).all (fun p=>X.N[p.2]?==some p.1)=true)
 (hs : ∀ x,foldedSetIterable iter X.env x=pure x) {use:Option (Value→Sem Unit)}{Q0:Value→Shared→Prop}{Qv:VK}{pins:List (Addr×Obj)}{s:Shared}{σ:St}{H:Hp}{pos':Pos} (I:Inv X pins σ H s) (h:tComp ix own.length wi g te σ H Qv)
 (fin : ∀ (D C:Addr) (s6:Shared) (H6:Hp) (m6:Str→Option Value),s6.heap.Ns C m6→Inv X pins σ H6 s6→H6 C=none→C≠X.env.locals→C ∉ X.fs→(C ∈ X.ex∨X.s₀.heap.objs.size≤C)→(∀ x c,X.env.cells.lookup x=some c→c≠C)→(∀ p ∈ X.pn++pins,p.1≠C)→Qv (.ref D) H6 →
 compPost (model X.prog X.w) X.A X.xe use Q0 (.ref D) C (.ok .next) s6) :
 wpAny (model X.prog X.w) X.A (comprehension (.ListComp elt [⟨target,iter,[],0⟩] scope pos) scope X.env pos' (newList []) false (eval iter X.env) use) Q0 X.xe s:=by
  refine comp_core (cs:=[]) (tt:=tYes) (Tst:=fun _ P _ s=>P true s) (fun J turn n h=>codeAny_compLoop_any J turn n h) hc S hi hg he (fun _ _ _ _ _ s _ H' _ _ _ I q k=>k true s H' I q) hix hcapB hs I h (fun J H1 z=>?_) fin
  obtain ⟨W,w0,turn⟩:=z
  refine ⟨W,w0,fun i m ys σ1 H2 w=>?_⟩
  rcases turn i m ys σ1 H2 w with z|z
  ·exact .inl z
  ·obtain ⟨go,hz,N,hN,step⟩:=z
   exact .inr ⟨go,hz,N,fun _ _=>False,hN,fun _ _ z=>z.elim,step⟩
theorem pe_comp (hc:X.calm=true) (S:CompScope X.env scope caps) (hi:PI X target iter wi)
 (hg : ∀ pins s3 H ex,PG (blk X pins scope (caps++own) s3 H ex) target g)
 (he : ∀ pins s3 H ex,PE (blk X pins scope (caps++own) s3 H ex) elt te)
 (hix:caps.length=ix.length:=by rfl) (hcapB:(caps.zip ix).all (fun p=>X.N[p.2]?==some p.1)=true:=by rfl)
  (hs : ∀ x,foldedSetIterable iter X.env x=pure x:=by intro _;rfl):PE X (.ListComp elt [⟨target,iter,[],0⟩] scope pos) (tComp ix own.length wi g te):=by
  intro pins s σ H Q I h
  rw [eval_ListComp]
  exact comp_core0 (use:=none) (Q0:=EP X pins σ Q) hc S hi hg he hix hcapB hs I h fun D C s6 H6 m6 ns6 IX c1 c2 c3 c4 c5 c6 q=>⟨m6,ns6,fun h' sb=>⟨.ref D,H6,IX.turned (t':=s6.toks) (it:=C) (fun b o hb q=>sb.extBut b o hb q) c1 c2 c4 c5 c6,rfl,q⟩⟩
end
end L2
namespace L2
open PySem PySem.Spec PyProof.Rows
inductive Sl where
 | non
 | val (d:PyData)
 | own (ds:List PyData)
 | pen (ds:List PyData)
 | new (d:PyData)
 | exc (C:Addr)
  | «at» (v:V)
  | obj (a C:Addr) (nm:List Str) (fs:List (Str×PyData))
abbrev Sto:=List Sl
def gS:Sto→Nat→Sl
 | [],_ => .non
 | s::_,0=>s
 | _::r,i+1=>gS r i
def Sl.mut:Sl→Bool
 | .own _=>true
 | .pen _=>true
 | _=>false
def vS (σ:St) (i:Nat):Option V:=(σ[i]?).join
theorem gS_set : ∀ (e:Sto) (i j:Nat) (s:Sl),gS (e.set i s) j=if i=j∧i<e.length then s else gS e j
 | [],i,j,s=>by simp [gS]
 | x::e,0,0,s=>by simp [gS]
 | x::e,0,j+1,s=>by simp [gS]
 | x::e,i+1,0,s=>by simp [gS]
 | x::e,i+1,j+1,s=>by
  simp only [List.set_cons_succ,gS,gS_set e i j s,List.length_cons,Nat.add_right_cancel_iff,Nat.add_lt_add_iff_right]
theorem gS_out : ∀ {e:Sto}{i:Nat},e.length≤i→gS e i = .non
 | [],_,_=>by simp [gS]
 | x::e,0,h=>by simp at h
 | x::e,i+1,h=>by simp only [gS];exact gS_out (by simpa using h)
theorem vS_set (σ:St) (i j:Nat) (v:Option V):vS (σ.set i v) j=if i=j∧i<σ.length then v else vS σ j:=by
 unfold vS
 rw [List.getElem?_set]
 by_cases h:i=j
 ·subst h
  by_cases h2:i<σ.length
  ·simp [h2]
  ·simp [h2]
 ·simp [h]
theorem vS_some {σ:St}{i:Nat}{v:V} (h:vS σ i=some v):σ[i]?=some (some v):=by
 unfold vS at h
 cases e:σ[i]? with
 | none=>rw [e] at h;cases h
 | some o=>rw [e] at h;cases o with
  | none=>cases h
  | some u=>simpa using h
structure Frm where
 B:Hp
 He:Hp
 F0:Hp
mutual
def IsN (K:PySem.W.Frag) (H:Hp):PyData→V→Prop
 | .none,v=>v = .non
 | .bool b,v=>v = .bl b
 | .int i,v=>v = .int i
 | .str x,v=>v = .str x
 | .list l,v => ∃ a xs,v = .ref a∧H a=some (.lst xs)∧IssN K H l xs
 | .tuple l,v => ∃ a xs,v = .ref a∧H a=some (.tup xs)∧IssN K H l xs
 | .dict _,_=>False
def IssN (K:PySem.W.Frag) (H:Hp):List PyData→List V→Prop
 | [],xs=>xs=[]
 | d::l,xs => ∃ x r,xs=x::r∧IsN K H d x∧IssN K H l r
end
mutual
theorem IsN.is {K:PySem.W.Frag}{H H':Hp} (s:Same H H') : ∀ {d:PyData}{v:V},IsN K H d v→Is K H' d v
 | .none,_,h=>by unfold IsN at h;unfold Is;exact h
 | .bool _,_,h=>by unfold IsN at h;unfold Is;exact h
 | .int _,_,h=>by unfold IsN at h;unfold Is;exact h
 | .str _,_,h=>by unfold IsN at h;unfold Is;exact h
 | .list l,_,h=>by
  unfold IsN at h;unfold Is
  obtain ⟨a,xs,e,q,r⟩:=h
  exact ⟨a,xs,e,SqL.of (s _ _ q),IssN.is s r⟩
 | .tuple l,_,h=>by
  unfold IsN at h;unfold Is
  obtain ⟨a,xs,e,q,r⟩:=h
  exact ⟨a,xs,e,SqT.of (s _ _ q),IssN.is s r⟩
 | .dict _,_,h=>by unfold IsN at h;exact h.elim
theorem IssN.is {K:PySem.W.Frag}{H H':Hp} (s:Same H H') : ∀ {l:List PyData}{xs:List V},IssN K H l xs→Iss K H' l xs
 | [],_,h=>by unfold IssN at h;unfold Iss;exact h
 | d::l,_,h=>by
  unfold IssN at h;unfold Iss
  obtain ⟨x,r,e,p,q⟩:=h
  exact ⟨x,r,e,IsN.is s p,IssN.is s q⟩
end
mutual
theorem IsN.mono {K:PySem.W.Frag}{H H':Hp} (s:Same H H') : ∀ {d:PyData}{v:V},IsN K H d v→IsN K H' d v
 | .none,_,h=>by unfold IsN at h ⊢;exact h
 | .bool _,_,h=>by unfold IsN at h ⊢;exact h
 | .int _,_,h=>by unfold IsN at h ⊢;exact h
 | .str _,_,h=>by unfold IsN at h ⊢;exact h
 | .list l,_,h=>by
  unfold IsN at h ⊢
  obtain ⟨a,xs,e,q,r⟩:=h
  exact ⟨a,xs,e,s _ _ q,IssN.mono s r⟩
 | .tuple l,_,h=>by
  unfold IsN at h ⊢
  obtain ⟨a,xs,e,q,r⟩:=h
  exact ⟨a,xs,e,s _ _ q,IssN.mono s r⟩
 | .dict _,_,h=>by unfold IsN at h;exact h.elim
theorem IssN.mono {K:PySem.W.Frag}{H H':Hp} (s:Same H H') : ∀ {l:List PyData}{xs:List V},IssN K H l xs→IssN K H' l xs
 | [],_,h=>by unfold IssN at h ⊢;exact h
 | d::l,_,h=>by
  unfold IssN at h ⊢
  obtain ⟨x,r,e,p,q⟩:=h
  exact ⟨x,r,e,IsN.mono s p,IssN.mono s q⟩
end
def newF (M:Frm) (F:Hp):Hp:=fun b=>if (M.He b).isNone=true∧(M.B b).isNone=true then F b else none
theorem newF_le {M:Frm}{F:Hp}:Same (newF M F) F:=fun b o e=>by
 unfold newF at e;split at e
 ·exact .of e
 ·cases e
theorem newF_mono {M:Frm}{F F':Hp} (s:Same F F'):Same (newF M F) (newF M F'):=fun b o e=>by
 unfold newF at e ⊢;split at e
 ·rename_i h;rw [if_pos h];exact s b o e
 ·cases e
theorem newF_at {M:Frm}{F:Hp}{a:Addr}{o:HO} (h1:M.He a=none) (h2:M.B a=none) (h3:F a=some o):newF M F a=some o:=by
 unfold newF;rw [if_pos ⟨by rw [h1];rfl,by rw [h2];rfl⟩];exact h3
theorem newF_inv {M:Frm}{F:Hp}{a:Addr}{o:HO} (h:newF M F a=some o):M.He a=none∧M.B a=none∧F a=some o:=by
 unfold newF at h;split at h
 ·rename_i z;exact ⟨Option.isNone_iff_eq_none.mp z.1,Option.isNone_iff_eq_none.mp z.2,h⟩
 ·cases h
def excO (C ea:Addr):HO :=.ext fun h => ∃ o,h.get? ea=some o∧o.cls = .ref C
section
variable (K:PySem.W.Frag) (M:Frm) (F H:Hp)
def SlotOk:Sl→Option V→Prop
 | .non,_=>True
 | .val d,x => ∃ v,x=some v∧Is K F d v
 | .own ds,x => ∃ a vs,x=some (.ref a)∧H a=some (.lst vs)∧F a=none∧M.B a=none∧M.He a=none∧Iss K F ds vs
 | .pen ds,x => ∃ a vs,x=some (.ref a)∧H a=some (.lst vs)∧F a=none∧M.B a=none∧(∃ o,M.He a=some o)∧Iss K F ds vs
 | .new d,x => ∃ v,x=some v∧IsN K (newF M F) d v
 | .exc C,x => ∃ ea,x=some (.ref ea)∧F ea=some (excO C ea)
 | .at v,x=>x=some v
 | .obj a C nm fs,x => ∃ dx vs,x=some (.ref a)∧M.B a=some (.ins C dx vs)∧vs.map (·.1)=nm ∧ ∀ f d,(f,d) ∈ fs → ∃ v,vs.lookup f=some v∧Is K F d v
structure EnvOk (env:Sto) (σ:St):Prop where
 len:env.length=σ.length
 slot : ∀ i,SlotOk K M F H (gS env i) (vS σ i)
 dis : ∀ i j a,i≠j→(gS env i).mut=true→(gS env j).mut=true→vS σ i=some (.ref a)→vS σ j=some (.ref a)→False
 f0:Same M.F0 F
 fe:Same M.F0 M.He
 fh:Same F H
 bh:Same M.B H
 new : ∀ b o,F b=some o→M.F0 b=some o∨M.He b=none
 dom : ∀ b o,M.He b=some o → ∃ o',H b=some o'
end
structure Go (F H F' H':Hp):Prop where
 f:Same F F'
 h:Same H H'
 fh:Same F' H'
 new : ∀ b o,F' b=some o→F b=some o∨H b=none
theorem same_none {H H':Hp} (s:Same H H') {b:Addr} (h:H' b=none):H b=none:=s.free h
theorem Go.refl {F H:Hp} (s:Same F H):Go F H F H:=⟨.refl _,.refl _,s,fun _ _ h => .inl h⟩
theorem Go.trans {F H F1 H1 F2 H2:Hp} (a:Go F H F1 H1) (b:Go F1 H1 F2 H2):Go F H F2 H2 :=
 ⟨a.f.trans b.f,a.h.trans b.h,b.fh,fun c o h=>(b.new c o h).elim (fun q=>a.new c o q) fun q => .inr (same_none a.h q)⟩
theorem Go.put {F H:Hp}{p:Addr}{o:HO} (s:Same F H) (h:H p=none):Go F H (upd F p o) (upd H p o):=by
 refine ⟨same_new (same_none s h),same_new h,fun b u e=>?_,fun b u e=>?_⟩
 ·unfold upd at e ⊢
  split at e
  ·rename_i z;rw [if_pos z];exact .of e
  ·rename_i z;rw [if_neg z];exact s b u e
 ·unfold upd at e
  split at e
  ·rename_i z;subst z;exact .inr h
  ·exact .inl e
theorem Go.side {F H:Hp}{p:Addr}{o:HO} (s:Same F H) (h:H p=none):Go F H F (upd H p o) :=
 ⟨.refl _,same_new h,s.trans (same_new h),fun _ _ e => .inl e⟩
section
variable {K:PySem.W.Frag}{M:Frm}{F H F' H':Hp}{env:Sto}{σ:St}
theorem SlotOk.go {s:Sl}{x:Option V} (h:SlotOk K M F H s x) (g:Go F H F' H'):SlotOk K M F' H' s x:=by
 have nf : ∀ {a:Addr}{o:HO},H a=some o→F a=none→F' a=none:=fun {a o} h1 h2=>by
  cases e:F' a with
  | none=>rfl
  | some u=>rcases g.new a u e with q|q
            ·rw [h2] at q;cases q
            ·rw [h1] at q;cases q
 cases s with
 | non=>trivial
 | val d=>obtain ⟨v,e,i⟩:=h;exact ⟨v,e,i.mono g.f⟩
 | own ds=>obtain ⟨a,vs,e,h1,h2,h3,h4,h5⟩:=h;exact ⟨a,vs,e,g.h _ _ h1,nf h1 h2,h3,h4,h5.mono g.f⟩
 | pen ds=>obtain ⟨a,vs,e,h1,h2,h3,hx,h5⟩:=h;exact ⟨a,vs,e,g.h _ _ h1,nf h1 h2,h3,hx,h5.mono g.f⟩
 | new d=>obtain ⟨v,e,i⟩:=h;exact ⟨v,e,i.mono (newF_mono g.f)⟩
 | exc C=>obtain ⟨ea,e,i⟩:=h;exact ⟨ea,e,g.f.at i⟩
 | «at» v=>exact h
 | obj a0 C nm fs=>obtain ⟨dx,vs,e,b,hn,i⟩:=h;exact ⟨dx,vs,e,b,hn,fun f d m=>let ⟨v,l,j⟩:=i f d m; ⟨v,l,j.mono g.f⟩⟩
theorem EnvOk.go (I:EnvOk K M F H env σ) (g:Go F H F' H'):EnvOk K M F' H' env σ where
 len:=I.len
 slot:=fun i=>(I.slot i).go g
 dis:=I.dis
 f0:=I.f0.trans g.f
 fe:=I.fe
 fh:=g.fh
 bh:=I.bh.trans g.h
 new:=fun b o e=>(g.new b o e).elim (fun q=>I.new b o q) fun q=>by
  refine .inr ?_
  cases z:M.He b with
  | none=>rfl
  | some u=>obtain ⟨o',q'⟩:=I.dom b u z;rw [q] at q';cases q'
 dom:=fun b o e=>let ⟨o',q⟩:=I.dom b o e;g.h.any q
theorem EnvOk.he (I:EnvOk K M F H env σ) {a:Addr} (h:H a=none):M.He a=none:=by
 cases z:M.He a with
 | none=>rfl
 | some u=>obtain ⟨o',q'⟩:=I.dom a u z;rw [h] at q';cases q'
theorem EnvOk.setv (I:EnvOk K M F H env σ) {i:Nat}{d:PyData}{v:V} (h:Is K F d v):EnvOk K M F H (env.set i (.val d)) (σ.set i (some v)) where
 len:=by rw [List.length_set,List.length_set];exact I.len
 slot:=fun j=>by
  rw [gS_set,vS_set,I.len]
  split
  ·exact ⟨v,rfl,h⟩
  ·exact I.slot j
 dis:=fun j k a hjk h1 h2 h3 h4=>by
  rw [gS_set] at h1 h2
  rw [vS_set] at h3 h4
  rw [I.len] at h1 h2
  split at h1
  ·cases h1
  ·rename_i z1
   split at h2
   ·cases h2
   ·rename_i z2
    rw [if_neg z1] at h3
    rw [if_neg z2] at h4
    exact I.dis j k a hjk h1 h2 h3 h4
 f0:=I.f0
 fe:=I.fe
 fh:=I.fh
 bh:=I.bh
 new:=I.new
 dom:=I.dom
theorem EnvOk.seto (I:EnvOk K M F H env σ) {i:Nat}{ds:List PyData}{a:Addr}{vs:List V} (h1:H a=some (.lst vs)) (h2:F a=none) (h3:M.B a=none) (h4:M.He a=none)
 (h5 : ∀ j,(gS env j).mut=true→vS σ j≠some (.ref a)) (h6:Iss K F ds vs):EnvOk K M F H (env.set i (.own ds)) (σ.set i (some (.ref a))) where
  len:=by rw [List.length_set,List.length_set];exact I.len
  slot:=fun j=>by
   rw [gS_set,vS_set,I.len]
   split
   ·exact ⟨a,vs,rfl,h1,h2,h3,h4,h6⟩
   ·exact I.slot j
  dis:=fun j k b hjk m1 m2 e1 e2=>by
   rw [gS_set] at m1 m2
   rw [vS_set] at e1 e2
   rw [I.len] at m1 m2
   by_cases z1:i=j∧i<σ.length
   ·rw [if_pos z1] at m1 e1
    have z2 : ¬ (i=k∧i<σ.length):=fun z=>hjk (z1.1.symm.trans z.1)
    rw [if_neg z2] at m2 e2
    injection e1 with e1;injection e1 with e1;subst e1
    exact h5 k m2 e2
   ·rw [if_neg z1] at m1 e1
    by_cases z2:i=k∧i<σ.length
    ·rw [if_pos z2] at m2 e2
     injection e2 with e2;injection e2 with e2;subst e2
     exact h5 j m1 e1
    ·rw [if_neg z2] at m2 e2
     exact I.dis j k b hjk m1 m2 e1 e2
  f0:=I.f0
  fe:=I.fe
  fh:=I.fh
  bh:=I.bh
  new:=I.new
  dom:=I.dom
def Sl.upd:Sl→List PyData→Sl
 | .own _,ds => .own ds
 | .pen _,ds => .pen ds
 | s,_=>s
def Sl.cnt:Sl→List PyData
 | .own ds=>ds
 | .pen ds=>ds
 | _=>[]
theorem SlotOk.addr {s:Sl}{x:Option V} (h:SlotOk K M F H s x) (m:s.mut=true) : ∃ a vs,x=some (.ref a)∧H a=some (.lst vs)∧F a=none∧M.B a=none∧Iss K F s.cnt vs:=by
 cases s with
 | non=>cases m
 | val d=>cases m
 | own ds=>obtain ⟨a,vs,e,h1,h2,h3,h4,h5⟩:=h;exact ⟨a,vs,e,h1,h2,h3,h5⟩
 | pen ds=>obtain ⟨a,vs,e,h1,h2,h3,hx,h5⟩:=h;exact ⟨a,vs,e,h1,h2,h3,h5⟩
 | new d=>cases m
 | exc C=>cases m
 | «at» v=>cases m
 | obj a0 C nm fs=>cases m
theorem gS_lt {e:Sto}{i:Nat} (h:(gS e i).mut=true):i<e.length:=by
 by_cases z:i<e.length
 ·exact z
 ·rw [gS_out (by omega)] at h;cases h
theorem EnvOk.chg (I:EnvOk K M F H env σ) {i:Nat}{a:Addr}{ds:List PyData}{vs:List V} (m:(gS env i).mut=true) (ea:vS σ i=some (.ref a)) (h:Iss K F ds vs):EnvOk K M F (upd H a (.lst vs)) (env.set i ((gS env i).upd ds)) σ:=by
 obtain ⟨a',vs0,e,h1,h2,h3,h5⟩:=(I.slot i).addr m
 rw [ea] at e;injection e with e;injection e with e;subst e
 have hi:=gS_lt m
 have mu:((gS env i).upd ds).mut=true:=by
  cases q:gS env i with
  | non=>rw [q] at m;cases m
  | val d=>rw [q] at m;cases m
  | own d=>rfl
  | pen d=>rfl
  | new d=>rw [q] at m;cases m
  | exc C=>rw [q] at m;cases m
  | «at» v=>rw [q] at m;cases m
  | obj a0 C nm fs=>rw [q] at m;cases m
 have muj : ∀ j,(gS (env.set i ((gS env i).upd ds)) j).mut=(gS env j).mut:=fun j=>by
  rw [gS_set]
  split
  ·rename_i z;rw [mu,← z.1,m]
  ·rfl
 refine ⟨by rw [List.length_set];exact I.len,fun j=>?_,fun j k b hjk m1 m2 e1 e2=>I.dis j k b hjk (muj j ▸ m1) (muj k ▸ m2) e1 e2,I.f0,I.fe,fun b o e=>?_,fun b o e=>?_,I.new,fun b o e=>?_⟩
 ·rw [gS_set]
  by_cases z:i=j
  ·subst z
   rw [if_pos ⟨rfl,hi⟩]
   have S:=I.slot i
   cases q:gS env i with
   | non=>rw [q] at m;cases m
   | val d=>rw [q] at m;cases m
   | own ds0 =>
    rw [q] at S
    obtain ⟨a',vs',e,g1,g2,g3,g4,g5⟩:=S
    rw [ea] at e;injection e with e;injection e with e;subst e
    exact ⟨a,vs,ea,upd_same,g2,g3,g4,h⟩
   | pen ds0 =>
    rw [q] at S
    obtain ⟨a',vs',e,g1,g2,g3,gx,g5⟩:=S
    rw [ea] at e;injection e with e;injection e with e;subst e
    exact ⟨a,vs,ea,upd_same,g2,g3,gx,h⟩
   | new d=>rw [q] at m;cases m
   | exc C=>rw [q] at m;cases m
   | «at» v=>rw [q] at m;cases m
   | obj a0 C nm fs=>rw [q] at m;cases m
  ·rw [if_neg (fun y=>z y.1)]
   have S:=I.slot j
   cases q:gS env j with
   | non=>trivial
   | val d=>rw [q] at S;exact S
   | own ds0 =>
    rw [q] at S
    obtain ⟨b,vs',e,g1,g2,g3,g4,g5⟩:=S
    have hb:b≠a:=fun y=>by subst y;exact I.dis i j b z m (by rw [q];rfl) ea e
    exact ⟨b,vs',e,by rw [upd_ne hb];exact g1,g2,g3,g4,g5⟩
   | pen ds0 =>
    rw [q] at S
    obtain ⟨b,vs',e,g1,g2,g3,gx,g5⟩:=S
    have hb:b≠a:=fun y=>by subst y;exact I.dis i j b z m (by rw [q];rfl) ea e
    exact ⟨b,vs',e,by rw [upd_ne hb];exact g1,g2,g3,gx,g5⟩
   | new d=>rw [q] at S;exact S
   | exc C=>rw [q] at S;exact S
   | «at» v=>rw [q] at S;exact S
   | obj a0 C nm fs=>rw [q] at S;exact S
 ·rw [upd_ne (ne_of_none e h2)];exact I.fh b o e
 ·rw [upd_ne (ne_of_none e h3)];exact I.bh b o e
 ·obtain ⟨o',q⟩:=I.dom b o e
  by_cases z:b=a
  ·subst z;exact ⟨_,upd_same⟩
  ·exact ⟨o',by rw [upd_ne z];exact q⟩
theorem EnvOk.frz (I:EnvOk K M F H env σ) {a:Addr}{vs:List V} (h1:H a=some (.lst vs)) (h2:F a=none) (h4:M.He a=none) (h5 : ∀ j,(gS env j).mut=true→vS σ j≠some (.ref a)) :
 EnvOk K M (upd F a (.lst vs)) H env σ∧Same F (upd F a (.lst vs)):=by
  have sF:Same F (upd F a (.lst vs)):=same_new h2
  refine ⟨⟨I.len,fun j=>?_,I.dis,I.f0.trans sF,I.fe,fun b o e=>?_,I.bh,fun b o e=>?_,I.dom⟩,sF⟩
  ·have S:=I.slot j
   have n5:=h5 j
   cases q:gS env j with
   | non=>trivial
   | val d=>rw [q] at S;obtain ⟨v,e,i⟩:=S;exact ⟨v,e,i.mono sF⟩
   | own ds0 =>
    rw [q] at S n5
    obtain ⟨b,vs',e,g1,g2,g3,g4,g5⟩:=S
    have hb:b≠a:=fun y=>by subst y;exact n5 rfl e
    exact ⟨b,vs',e,g1,by rw [upd_ne hb];exact g2,g3,g4,g5.mono sF⟩
   | pen ds0 =>
    rw [q] at S n5
    obtain ⟨b,vs',e,g1,g2,g3,gx,g5⟩:=S
    have hb:b≠a:=fun y=>by subst y;exact n5 rfl e
    exact ⟨b,vs',e,g1,by rw [upd_ne hb];exact g2,g3,gx,g5.mono sF⟩
   | new d=>rw [q] at S;obtain ⟨v,e,i⟩:=S;exact ⟨v,e,i.mono (newF_mono sF)⟩
   | exc C=>rw [q] at S;obtain ⟨ea,e,i⟩:=S;exact ⟨ea,e,sF.at i⟩
   | «at» v=>rw [q] at S;exact S
   | obj a0 C nm fs=>rw [q] at S;obtain ⟨dx,vs',e,b',hn,i⟩:=S;exact ⟨dx,vs',e,b',hn,fun f d m=>let ⟨v,l,j⟩:=i f d m; ⟨v,l,j.mono sF⟩⟩
  ·by_cases z:b=a
   ·subst z;rw [upd_same] at e;rw [h1];exact .of e
   ·rw [upd_ne z] at e;exact I.fh b o e
  ·by_cases z:b=a
   ·subst z;exact .inr h4
   ·rw [upd_ne z] at e;exact I.new b o e
theorem EnvOk.drop (I:EnvOk K M F H env σ) (i:Nat):EnvOk K M F H (env.set i .non) σ where
 len:=by rw [List.length_set];exact I.len
 slot:=fun j=>by
  rw [gS_set]
  split
  ·trivial
  ·exact I.slot j
 dis:=fun j k a hjk h1 h2 h3 h4=>by
  rw [gS_set] at h1 h2
  split at h1
  ·cases h1
  ·split at h2
   ·cases h2
   ·exact I.dis j k a hjk h1 h2 h3 h4
 f0:=I.f0
 fe:=I.fe
 fh:=I.fh
 bh:=I.bh
 new:=I.new
 dom:=I.dom
theorem EnvOk.tell (I:EnvOk K M F H env σ) {i:Nat}{d:PyData}{v:V} (e:vS σ i=some v) (h:Is K F d v):EnvOk K M F H (env.set i (.val d)) σ where
 len:=by rw [List.length_set];exact I.len
 slot:=fun j=>by
  rw [gS_set]
  split
  ·rename_i z;rw [← z.1];exact ⟨v,e,h⟩
  ·exact I.slot j
 dis:=fun j k a hjk h1 h2 h3 h4=>by
  rw [gS_set] at h1 h2
  split at h1
  ·cases h1
  ·split at h2
   ·cases h2
   ·exact I.dis j k a hjk h1 h2 h3 h4
 f0:=I.f0
 fe:=I.fe
 fh:=I.fh
 bh:=I.bh
 new:=I.new
 dom:=I.dom
def Sl.fz:Sl→Sl
 | .own ds => .val (.list ds)
 | s=>s
theorem EnvOk.freeze (I:EnvOk K M F H env σ) (i:Nat) : ∃ F',EnvOk K M F' H (env.set i (gS env i).fz) σ∧Same F F':=by
 have same : ∀ s,gS env i=s→env.set i s=env:=fun s h=>by
  subst h
  apply List.ext_getElem?
  intro j
  rw [List.getElem?_set]
  split
  ·rename_i z
   subst z
   split
   ·rename_i hi
    have : ∀ (e:Sto) (n:Nat) (h:n<e.length),some (gS e n)=e[n]?:=by
     intro e
     induction e with
     | nil=>intro n h;simp at h
     | cons x e ih=>intro n h;cases n with
      | zero=>rfl
      | succ n=>simp only [gS,List.getElem?_cons_succ];exact ih n (by simpa using h)
    exact this env i hi
   ·rename_i hi
    rw [List.getElem?_eq_none (by omega)]
  ·rfl
 cases q:gS env i with
 | non=>exact ⟨F,by rw [show Sl.fz .non = .non from rfl,same _ q];exact I,.refl _⟩
 | val d=>exact ⟨F,by rw [show Sl.fz (.val d) = .val d from rfl,same _ q];exact I,.refl _⟩
 | pen ds=>exact ⟨F,by rw [show Sl.fz (.pen ds) = .pen ds from rfl,same _ q];exact I,.refl _⟩
 | new d=>exact ⟨F,by rw [show Sl.fz (.new d) = .new d from rfl,same _ q];exact I,.refl _⟩
 | exc C=>exact ⟨F,by rw [show Sl.fz (.exc C) = .exc C from rfl,same _ q];exact I,.refl _⟩
 | «at» v=>exact ⟨F,by rw [show Sl.fz (.at v) = .at v from rfl,same _ q];exact I,.refl _⟩
 | obj a0 C nm fs=>exact ⟨F,by rw [show Sl.fz (.obj a0 C nm fs) = .obj a0 C nm fs from rfl,same _ q];exact I,.refl _⟩
 | own ds =>
  have S:=I.slot i
  rw [q] at S
  obtain ⟨a,vs,e,h1,h2,h3,h4,h5⟩:=S
  obtain ⟨J,s⟩:=(I.drop i).frz h1 h2 h4 (fun j m z=>by
   rw [gS_set] at m
   split at m
   ·cases m
   ·rename_i hn
    by_cases hij:i=j
    ·subst hij
     exact hn ⟨rfl,gS_lt (by rw [q];rfl)⟩
    ·exact I.dis i j a hij (by rw [q];rfl) m e z)
  have T:=J.tell (i:=i) (d :=.list ds) e (is_lst (SqL.of upd_same) (h5.mono s))
  rw [List.set_set] at T
  exact ⟨_,T,s⟩
end
end L2
namespace L2
open PySem PySem.Spec PyProof.Rows
abbrev WE:=Sto→(PyData→Sto→Prop)→Prop
abbrev WF:=Sto→(List PyData→Sto→Prop)→Prop
abbrev WT:=Sto→(Bool→Sto→Prop)→Prop
inductive Ret where
 | val (d:PyData)
 | own (ds:List PyData)
 | new (d:PyData)
def Ret.data:Ret→PyData
 | .val d=>d
 | .own ds => .list ds
 | .new d=>d
structure WEnds where
 nx:Sto→Prop
 rt:Ret→Sto→Prop
 bk:Sto→Prop:=fun _=>False
 ct:Sto→Prop:=fun _=>False
abbrev WS:=WEnds→Sto→Prop
abbrev WG:=PyData→Sto→(Sto→Prop)→Prop
abbrev WGs:=List PyData→Sto→(Sto→Prop)→Prop
abbrev D2:=PyData→PyData→(PyData→Prop)→Prop
abbrev DC:=List PyData→(PyData→Prop)→Prop
section
variable (K:PySem.W.Frag)
def liftE (W:WE):TE:=fun σ H R => ∃ M env F Q,EnvOk K M F H env σ∧W env Q ∧ ∀ d v F' H' env',EnvOk K M F' H' env' σ→Same F F'→Is K F' d v→Q d env'→R v H'
def liftF (W:WF):TE:=fun σ H R => ∃ M env F Q,EnvOk K M F H env σ∧W env Q ∧ ∀ a vs ds F' H' env',EnvOk K M F' H' env' σ→Same F F'→H' a=some (.lst vs)→F' a=none→M.B a=none→M.He a=none →
 (∀ i,(gS env' i).mut=true→vS σ i≠some (.ref a))→Iss K F' ds vs→Q ds env'→R (.ref a) H'
def liftA (W:WF):TA:=fun σ H R => ∃ M env F Q,EnvOk K M F H env σ∧W env Q ∧ ∀ ds vs F' H' env',EnvOk K M F' H' env' σ→Same F F'→Iss K F' ds vs→Q ds env'→R vs H'
def liftT (W:WT):TT:=fun σ H R => ∃ M env F Q,EnvOk K M F H env σ∧W env Q ∧ ∀ b F' H' env',EnvOk K M F' H' env' σ→Same F F'→Q b env'→R b H'
def RetOk (M:Frm) (F H:Hp):Ret→V→Prop
 | .val d,v=>Is K F d v
 | .own ds,v => ∃ a vs,v = .ref a∧H a=some (.lst vs)∧F a=none∧M.B a=none∧M.He a=none∧Iss K F ds vs
 | .new d,v=>IsN K (newF M F) d v
structure EndsOk (M:Frm) (F:Hp) (DD:WEnds) (D:Ends):Prop where
 nx : ∀ env' F' H' σ',EnvOk K M F' H' env' σ'→Same F F'→DD.nx env'→D.nx σ' H'
 rt : ∀ r v env' F' H' σ',EnvOk K M F' H' env' σ'→Same F F'→RetOk K M F' H' r v→DD.rt r env'→D.rt v H'
 bk : ∀ env' F' H' σ',EnvOk K M F' H' env' σ'→Same F F'→DD.bk env'→D.bk σ' H'
 ct : ∀ env' F' H' σ',EnvOk K M F' H' env' σ'→Same F F'→DD.ct env'→D.ct σ' H'
def liftS (W:WS):TS:=fun D σ H => ∃ M env F DD,EnvOk K M F H env σ∧W DD env∧EndsOk K M F DD D
def liftG (W:WG):TG:=fun v σ H R => ∃ M env F d Q,EnvOk K M F H env σ∧Is K F d v∧W d env Q ∧ ∀ F' H' env' σ',EnvOk K M F' H' env' σ'→Same F F'→Q env'→R σ' H'
def liftGs (W:WGs):TGs:=fun vs σ H R => ∃ M env F ds Q,EnvOk K M F H env σ∧Iss K F ds vs∧W ds env Q ∧ ∀ F' H' env' σ',EnvOk K M F' H' env' σ'→Same F F'→Q env'→R σ' H'
def lift2 (r:D2):R2:=fun x y H Q => ∃ F dx dy q,Same F H∧Is K F dx x∧Is K F dy y∧r dx dy q ∧ ∀ d v F' H',Go F H F' H'→Is K F' d v→q d→Q v H'
def liftC (r:DC):List V→Hp→VK→Prop:=fun vs H Q => ∃ F ds q,Same F H∧Iss K F ds vs∧r ds q ∧ ∀ d v F' H',Go F H F' H'→Is K F' d v→q d→Q v H'
def liftCF (r:List PyData→(List PyData→Prop)→Prop):List V→Hp→VK→Prop:=fun vs H Q => ∃ F ds q,Same F H∧Iss K F ds vs∧r ds q ∧ ∀ l a xs F' H',Go F H F' H'→H a=none→F' a=none→H' a=some (.lst xs)→Iss K F' l xs→q l→Q (.ref a) H'
structure ItD (J:It) (F:Hp) (ds:List PyData):Prop where
 go : ∀ i H,Same F H→i<ds.length→J.go i H
 stop : ∀ H,Same F H→J.stop ds.length H
 yld : ∀ i H x H' F1,Same F F1→Same F1 H→i<ds.length→J.yld i H x H' → ∃ d F2,ds[i]?=some d∧Go F1 H F2 H'∧Is K F2 d x
def liftI (W:WF):TI:=fun σ H R => ∃ M env F Q,EnvOk K M F H env σ∧W env Q ∧ ∀ ds J F' H' env',EnvOk K M F' H' env' σ→Same F F'→ItD K J F' ds→Q ds env'→R J H'
end
section
variable {K:PySem.W.Frag}{M:Frm}{F F':Hp}{DD:WEnds}{D:Ends}
theorem EndsOk.mono (h:EndsOk K M F DD D) (s:Same F F'):EndsOk K M F' DD D :=
 ⟨fun e f g i j k=>h.nx e f g i j (s.trans k),fun r v e f g i j k=>h.rt r v e f g i j (s.trans k),fun e f g i j k=>h.bk e f g i j (s.trans k),fun e f g i j k=>h.ct e f g i j (s.trans k)⟩
end
def VE (X:Cx) (e:Expr) (W:WE):Prop:=PE X e (liftE X.K W)
def VF (X:Cx) (e:Expr) (W:WF):Prop:=PE X e (liftF X.K W)
def VA (X:Cx) (e:List Expr) (W:WF):Prop:=PA X e (liftA X.K W)
def VT (X:Cx) (e:Expr) (W:WT):Prop:=PT X e (liftT X.K W)
def VW (X:Cx) (e:Expr) (W:WT):Prop:=PW X e (liftT X.K W)
theorem VW.pt {X:Cx}{e:Expr}{W:WT} (h:VW X e W):VT X e W:=PW.pt h
def VS (X:Cx) (st:Stmt) (W:WS):Prop:=PS X st (liftS X.K W)
def VSs (X:Cx) (st:List Stmt) (W:WS):Prop:=PSs X st (liftS X.K W)
def VG (X:Cx) (e:Expr) (W:WG):Prop:=PG X e (liftG X.K W)
def VGs (X:Cx) (e:List Expr) (W:WGs):Prop:=PGs X e (liftGs X.K W)
def VI (X:Cx) (tg e:Expr) (W:WF):Prop:=PI X tg e (liftI X.K W)
def OpV (X:Cx) (f:Value→Value→Sem Value) (r:D2):Prop:=OpR X f (lift2 X.K r)
def CallV (X:Cx) (f:Value) (r:DC):Prop:=CallR X f (liftC X.K r)
def CallVF (X:Cx) (f:Value) (r:List PyData→(List PyData→Prop)→Prop):Prop:=CallR X f (liftCF X.K r)
section
variable {X:Cx}
theorem PE.imp {e:Expr}{t t':TE} (h:PE X e t) (i : ∀ σ H Q,t' σ H Q→t σ H Q):PE X e t':=fun pins s σ H Q I q=>h pins s σ H Q I (i σ H Q q)
theorem PA.imp {e:List Expr}{t t':TA} (h:PA X e t) (i : ∀ σ H Q,t' σ H Q→t σ H Q):PA X e t':=fun pos pins s σ H Q I q=>h pos pins s σ H Q I (i σ H Q q)
theorem PT.imp {e:Expr}{t t':TT} (h:PT X e t) (i : ∀ σ H Q,t' σ H Q→t σ H Q):PT X e t':=fun pins s σ H Q I q=>h pins s σ H Q I (i σ H Q q)
theorem PW.imp {e:Expr}{t t':TT} (h:PW X e t) (i : ∀ σ H Q,t' σ H Q→t σ H Q):PW X e t':=fun wh pins s σ H Q I q=>h wh pins s σ H Q I (i σ H Q q)
theorem PS.imp {e:Stmt}{t t':TS} (h:PS X e t) (i : ∀ D σ H,t' D σ H→t D σ H):PS X e t':=fun pins s σ H D I q=>h pins s σ H D I (i D σ H q)
theorem PSs.imp {e:List Stmt}{t t':TS} (h:PSs X e t) (i : ∀ D σ H,t' D σ H→t D σ H):PSs X e t':=fun pins s σ H D I q=>h pins s σ H D I (i D σ H q)
theorem PG.imp {e:Expr}{t t':TG} (h:PG X e t) (i : ∀ v σ H Q,t' v σ H Q→t v σ H Q):PG X e t':=fun pins s σ H v u Q I r q=>h pins s σ H v u Q I r (i v σ H Q q)
theorem PGs.imp {e:List Expr}{t t':TGs} (h:PGs X e t) (i : ∀ v σ H Q,t' v σ H Q→t v σ H Q):PGs X e t':=fun pins s σ H v u Q I r q=>h pins s σ H v u Q I r (i v σ H Q q)
theorem PI.imp {tg e:Expr}{t t':TI} (h:PI X tg e t) (i : ∀ σ H Q,t' σ H Q→t σ H Q):PI X tg e t':=fun pins s σ H Q I q=>h pins s σ H Q I (i σ H Q q)
theorem OpR.imp {f:Value→Value→Sem Value}{r r':R2} (h:OpR X f r) (i : ∀ x y H Q,r' x y H Q→r x y H Q):OpR X f r':=fun pins s σ H x y v u Q I a b q=>h pins s σ H x y v u Q I a b (i x y H Q q)
theorem CallR.imp {f:Value}{r r':List V→Hp→VK→Prop} (h:CallR X f r) (i : ∀ x H Q,r' x H Q→r x H Q):CallR X f r':=fun pins s σ H x u Q I a q=>h pins s σ H x u Q I a (i x H Q q)
theorem IxR.imp {r r':R2} (h:IxR X r) (i : ∀ x y H Q,r' x y H Q→r x y H Q):IxR X r':=fun value slice pins s σ H x y v u Q I a b q=>h value slice pins s σ H x y v u Q I a b (i x y H Q q)
def wVar (i:Nat):WE:=fun env Q=>match gS env i with | .val d=>Q d env | .new d=>Q d env|_=>False
theorem ve_var (i:Nat) {x:Str}{pos:Pos} (hN:X.N[i]?=some x:=by rfl) (hv:Vis X.env.scope x:=by first|exact Or.inl rfl|exact Or.inr (Or.inl rfl)|exact Or.inr (Or.inr rfl)) (hd:(x==("__debug__" : Str))=false:=by decide)
 (hcd:(x==("__classdict__" : Str))=false:=by decide):VE X (.Name x pos) (wVar i):=(pe_var hN hv hd hcd).imp fun σ H R xx59=>by
 obtain ⟨M,env,F,Q,I,h,k⟩:=xx59
 have S:=I.slot i
 unfold wVar at h
 cases q:gS env i with
 | val d =>
  rw [q] at S h
  obtain ⟨v,e,j⟩:=S
  exact ⟨v,vS_some e,k d v F H env I (.refl _) j h⟩
 | new d =>
  rw [q] at S h
  obtain ⟨v,e,j⟩:=S
  exact ⟨v,vS_some e,k d v F H env I (.refl _) (j.is newF_le) h⟩
 | non=>rw [q] at h;exact h.elim
 | own ds=>rw [q] at h;exact h.elim
 | pen ds=>rw [q] at h;exact h.elim
 | exc C=>rw [q] at h;exact h.elim
 | «at» v=>rw [q] at h;exact h.elim
 | obj a0 C nm fs=>rw [q] at h;exact h.elim
def wC (d:PyData):WE:=fun env Q=>Q d env
theorem ve_c {e:Expr}{v:V}{d:PyData} (h:PE X e (tC v)) (i : ∀ F,Is X.K F d v):VE X e (wC d):=h.imp fun σ H R xx60=>by obtain ⟨M,env,F,Q,I,h,k⟩:=xx60;exact k d v F H env I (.refl _) (i F) h
theorem ve_int {i j pos}:VE X (.Constant (.int i) j pos) (wC (.int i)):=ve_c pe_int fun _=>is_int i
theorem ve_bl {b j pos}:VE X (.Constant (.bool b) j pos) (wC (.bool b)):=ve_c pe_bl fun _=>is_bl b
theorem ve_non {j pos}:VE X (.Constant .none j pos) (wC .none):=ve_c pe_non fun _=>is_non
theorem ve_str {x j pos}:VE X (.Constant (.str x) j pos) (wC (.str x)):=ve_c pe_str fun _=>is_str x
theorem ve_globI {x:Str}{i:Int}{pos:Pos} (h : ∃ t,X.mg x=some (.int i t)) (hg:Gl X x:=by rfl) (hd:(x==("__debug__" : Str))=false:=by decide):VE X (.Name x pos) (wC (.int i)):=by
 obtain ⟨t,hm⟩:=h
 exact ve_c (pe_glob (v :=.int i) hg hm ⟨t,rfl⟩ hd) fun _=>is_int i
def wOp (r:D2) (Wa Wb:WE):WE:=fun env Q=>Wa env fun x e1=>Wb e1 fun y e2=>r x y fun d=>Q d e2
theorem op_lift {r:D2}{Wa Wb:WE}{σ:St}{H:Hp}{R:VK} (h:liftE X.K (wOp r Wa Wb) σ H R):tOp (lift2 X.K r) (liftE X.K Wa) (liftE X.K Wb) σ H R:=by
 obtain ⟨M,env,F,Q,I,h,k⟩:=h
 exact ⟨M,env,F,_,I,h,fun d v F1 H1 e1 I1 s1 i1 h1=>⟨M,e1,F1,_,I1,h1,fun d2 v2 F2 H2 e2 I2 s2 i2 h2 =>
  ⟨F2,d,d2,_,I2.fh,i1.mono s2,i2,h2,fun d3 v3 F3 H3 g i3 q=>k d3 v3 F3 H3 e2 (I2.go g) (s1.trans (s2.trans g.f)) i3 q⟩⟩⟩
section
variable {a b c:Expr}{Wa Wb Wc:WE}{pos:Pos}
theorem ve_op {op:Operator}{r:D2} (ho:OpV X (binaryOp op) r) (ha:VE X a Wa) (hb:VE X b Wb):VE X (.BinOp a op b pos) (wOp r Wa Wb) :=
 (pe_op ho ha hb).imp fun _ _ _ h=>op_lift h
theorem ve_cmp {op:CmpOp}{r:D2} (ho:OpV X (compareOp op) r) (ha:VE X a Wa) (hb:VE X b Wb) (hm:behindInMarks op b=false:=by first|exact nomark _|with_unfolding_all rfl):VE X (.Compare a [op] [b] pos) (wOp r Wa Wb) :=
 (pe_cmpR ho ha hb hm).imp fun _ _ _ h=>op_lift h
def wTest (W:WE):WT:=fun env Q=>W env fun d e=>match d with | .bool b=>Q b e|_=>False
theorem test_lift {W:WE}{σ:St}{H:Hp}{R:Bool→Hp→Prop} (h:liftT X.K (wTest W) σ H R):liftE X.K W σ H fun x H' => ∃ k,x = .bl k∧R k H':=by
 obtain ⟨M,env,F,Q,I,h,k⟩:=h
 refine ⟨M,env,F,_,I,h,fun d v F1 H1 e1 I1 s1 i1 h1=>?_⟩
 cases d with
 | bool b=>exact ⟨b,i1.bl_inv,k b F1 H1 e1 I1 s1 h1⟩
 | _=>exact False.elim h1
theorem vt_cmp {op:CmpOp}{r:D2} (ho:OpV X (compareOp op) r) (ha:VE X a Wa) (hb:VE X b Wb) (hm:behindInMarks op b=false:=by first|exact nomark _|with_unfolding_all rfl):VT X (.Compare a [op] [b] pos) (wTest (wOp r Wa Wb)) :=
 (pt_cmpR ho ha hb hm).imp fun σ H R h=>op_lift (test_lift h)
theorem vt_val {e:Expr}{W:WE} (h:VE X e W) (he : ∀ whole,isTrue e X.env whole=(do let v ← whole;standAt e.pos;holding [v] (truthy v)):=by intro _;rfl):VT X e (wTest W) :=
 (pt_val h he).imp fun σ H R h=>test_lift h
def wChain (r r':D2) (Wa Wb Wc:WE):WE:=fun env Q=>Wa env fun x e1=>Wb e1 fun y e2=>r x y fun z=>match z with
 | .bool k=>if k=true then Wc e2 fun w e3=>r' y w fun d=>Q d e3 else Q (.bool false) e2
 | _=>False
theorem chain_lift {r r':D2}{σ:St}{H:Hp}{R:VK} (h:liftE X.K (wChain r r' Wa Wb Wc) σ H R):tChain (lift2 X.K r) (lift2 X.K r') (liftE X.K Wa) (liftE X.K Wb) (liftE X.K Wc) σ H R:=by
 obtain ⟨M,env,F,Q,I,h,k⟩:=h
 refine ⟨M,env,F,_,I,h,fun d v F1 H1 e1 I1 s1 i1 h1=>⟨M,e1,F1,_,I1,h1,fun d2 v2 F2 H2 e2 I2 s2 i2 h2=>⟨F2,d,d2,_,I2.fh,i1.mono s2,i2,h2,fun d3 v3 F3 H3 g i3 q=>?_⟩⟩⟩
 have I3:=I2.go g
 have s3:=s1.trans (s2.trans g.f)
 cases d3 with
 | bool b =>
  refine ⟨b,i3.bl_inv,?_⟩
  cases b with
  | false=>exact iteF (k _ _ F3 H3 e2 I3 s3 (is_bl false) q)
  | true=>exact iteT ⟨M,e2,F3,_,I3,q,fun d4 v4 F4 H4 e4 I4 s4 i4 h4=>⟨F4,d2,d4,_,I4.fh,(i2.mono g.f).mono s4,i4,h4,fun d5 v5 F5 H5 g5 i5 q5=>k d5 v5 F5 H5 e4 (I4.go g5) (s3.trans (s4.trans g5.f)) i5 q5⟩⟩
 | _=>exact False.elim q
theorem vt_chain {op op':CmpOp}{r r':D2} (ho:OpV X (compareOp op) r) (ho':OpV X (compareOp op') r') (ha:VE X a Wa) (hb:VE X b Wb) (hc:VE X c Wc)
 (hm:lastMarks [op,op'] [b,c]=false:=by with_unfolding_all rfl):VT X (.Compare a [op,op'] [b,c] pos) (wTest (wChain r r' Wa Wb Wc)):=(pt_chain ho ho' ha hb hc hm).imp fun _ _ _ h=>chain_lift (test_lift h)
end
section
variable {a b c:Expr}{Wa Wb Wc:WE}{Ta Tb Tc:WT}{pos:Pos}{rest:List Expr}
def wOr (t u:WT):WT:=fun env Q=>t env fun k e=>if k=true then Q true e else u e Q
def wNot (t:WT):WT:=fun env Q=>t env fun k e=>Q (!k) e
theorem vw_or1 (ha:VT X a Ta):VW X (.BoolOp .Or [a] pos) Ta:=pw_or1 ha
theorem vw_or (ha:VT X a Ta) (hb:VW X (.BoolOp .Or (b::rest) pos) Tb):VW X (.BoolOp .Or (a::b::rest) pos) (wOr Ta Tb):=(pw_or ha hb).imp fun σ H R xx61=>by
 obtain ⟨M,env,F,Q,I,h,k⟩:=xx61
 refine ⟨M,env,F,_,I,h,fun x F1 H1 e1 I1 s1 h1=>?_⟩
 cases x with
 | true=>exact iteT (k true F1 H1 e1 I1 s1 h1)
 | false=>exact iteF ⟨M,e1,F1,Q,I1,h1,fun y F2 H2 e2 I2 s2 h2=>k y F2 H2 e2 I2 (s1.trans s2) h2⟩
theorem vt_not (ha:VT X a Ta):VT X (.UnaryOp .Not a pos) (wNot Ta):=(pt_not ha).imp fun σ H R xx62=>by
 obtain ⟨M,env,F,Q,I,h,k⟩:=xx62
 exact ⟨M,env,F,_,I,h,fun x F1 H1 e1 I1 s1 h1=>k (!x) F1 H1 e1 I1 s1 h1⟩
def wAndV (Wa Wb:WE):WE:=fun env Q=>Wa env fun d e=>match d with | .bool k=>if k=true then Wb e Q else Q (.bool false) e|_=>False
def wOrV (Wa Wb:WE):WE:=fun env Q=>Wa env fun d e=>match d with | .bool k=>if k=true then Q (.bool true) e else Wb e Q|_=>False
def wNotV (Wa:WE):WE:=fun env Q=>Wa env fun d e=>match d with | .bool k=>Q (.bool (!k)) e|_=>False
theorem ve_one {op} (h:VE X a Wa):VE X (.BoolOp op [a] pos) Wa:=pe_one h
theorem ve_and (ha:VE X a Wa) (hb:VE X (.BoolOp .And (b::rest) pos) Wb):VE X (.BoolOp .And (a::b::rest) pos) (wAndV Wa Wb):=(pe_and ha hb).imp fun σ H R xx63=>by
 obtain ⟨M,env,F,Q,I,h,k⟩:=xx63
 refine ⟨M,env,F,_,I,h,fun d v F1 H1 e1 I1 s1 i1 h1=>?_⟩
 cases d with
 | bool x =>
  refine ⟨x,i1.bl_inv,?_⟩
  cases x with
  | true=>exact iteT ⟨M,e1,F1,Q,I1,h1,fun d2 v2 F2 H2 e2 I2 s2 i2 h2=>k d2 v2 F2 H2 e2 I2 (s1.trans s2) i2 h2⟩
  | false=>exact iteF (k _ _ F1 H1 e1 I1 s1 (is_bl false) h1)
 | _=>exact False.elim h1
theorem ve_or (ha:VE X a Wa) (hb:VE X (.BoolOp .Or (b::rest) pos) Wb):VE X (.BoolOp .Or (a::b::rest) pos) (wOrV Wa Wb):=(pe_or ha hb).imp fun σ H R xx64=>by
 obtain ⟨M,env,F,Q,I,h,k⟩:=xx64
 refine ⟨M,env,F,_,I,h,fun d v F1 H1 e1 I1 s1 i1 h1=>?_⟩
 cases d with
 | bool x =>
  refine ⟨x,i1.bl_inv,?_⟩
  cases x with
  | false=>exact iteF ⟨M,e1,F1,Q,I1,h1,fun d2 v2 F2 H2 e2 I2 s2 i2 h2=>k d2 v2 F2 H2 e2 I2 (s1.trans s2) i2 h2⟩
  | true=>exact iteT (k _ _ F1 H1 e1 I1 s1 (is_bl true) h1)
 | _=>exact False.elim h1
theorem ve_not (ha:VE X a Wa):VE X (.UnaryOp .Not a pos) (wNotV Wa):=(pe_not ha).imp fun σ H R xx65=>by
 obtain ⟨M,env,F,Q,I,h,k⟩:=xx65
 refine ⟨M,env,F,_,I,h,fun d v F1 H1 e1 I1 s1 i1 h1=>?_⟩
 cases d with
 | bool x=>exact ⟨x,i1.bl_inv,k _ _ F1 H1 e1 I1 s1 (is_bl _) h1⟩
 | _=>exact False.elim h1
def wIfE (t:WT) (Wa Wb:WE):WE:=fun env Q=>t env fun k e=>if k=true then Wa e Q else Wb e Q
theorem ve_ifExp (hc:VT X c Tc) (ha:VE X a Wa) (hb:VE X b Wb):VE X (.IfExp c a b pos) (wIfE Tc Wa Wb):=(pe_ifExp hc ha hb).imp fun σ H R xx66=>by
 obtain ⟨M,env,F,Q,I,h,k⟩:=xx66
 refine ⟨M,env,F,_,I,h,fun x F1 H1 e1 I1 s1 h1=>?_⟩
 cases x with
 | true=>exact iteT ⟨M,e1,F1,Q,I1,h1,fun d2 v2 F2 H2 e2 I2 s2 i2 h2=>k d2 v2 F2 H2 e2 I2 (s1.trans s2) i2 h2⟩
 | false=>exact iteF ⟨M,e1,F1,Q,I1,h1,fun d2 v2 F2 H2 e2 I2 s2 i2 h2=>k d2 v2 F2 H2 e2 I2 (s1.trans s2) i2 h2⟩
end
section
variable {a b:Expr}{Wa Wb:WE}{pos p2:Pos}
def wUn (r:PyData→(PyData→Prop)→Prop) (W:WE):WE:=fun env Q=>W env fun d e=>r d fun y=>Q y e
def dNeg:PyData→(PyData→Prop)→Prop
 | .int i,q=>q (.int (-i))
 | _,_=>False
theorem ve_neg (ha:VE X a Wa):VE X (.UnaryOp .USub a pos) (wUn dNeg Wa):=(pe_un un_neg ha).imp fun σ H R xx67=>by
 obtain ⟨M,env,F,Q,I,h,k⟩:=xx67
 refine ⟨M,env,F,_,I,h,fun d v F1 H1 e1 I1 s1 i1 h1=>?_⟩
 cases d with
 | int i=>exact ⟨i,i1.int_inv,k _ _ F1 H1 e1 I1 s1 (is_int _) h1⟩
 | _=>exact False.elim h1
def dIx:D2
 | .list l,.int i,q => ∃ d,atI l i=some d∧q d
 | .tuple l,.int i,q => ∃ d,atI l i=some d∧q d
 | _,_,_=>False
theorem ix_V:IxR X (lift2 X.K dIx):=ix_seq.imp fun x y H Q xx68=>by
 obtain ⟨F,dx,dy,q,s,i1,i2,h,k⟩:=xx68
 cases dx with
 | list l=>cases dy with
  | int i =>
   obtain ⟨d,e,hq⟩:=h
   obtain ⟨a,xs,rfl,hs,hr⟩:=i1.lst_inv
   obtain ⟨z,ez,hz⟩:=hr.atI e
   exact .inl ⟨a,xs,i,z,rfl,i2.int_inv,s.seq hs,ez,k d z F H (.refl s) hz hq⟩
  | _=>exact False.elim h
 | tuple l=>cases dy with
  | int i =>
   obtain ⟨d,e,hq⟩:=h
   obtain ⟨a,xs,rfl,hs,hr⟩:=i1.tup_inv
   obtain ⟨z,ez,hz⟩:=hr.atI e
   exact .inr (.inl ⟨a,xs,i,z,rfl,i2.int_inv,same_seqT s hs,ez,k d z F H (.refl s) hz hq⟩)
  | _=>exact False.elim h
 | _=>exact False.elim h
theorem ve_ix (ha:VE X a Wa) (hb:VE X b Wb) (hs:PlainIx b:=by exact (fun _ _=>rfl)):VE X (.Subscript a b pos) (wOp dIx Wa Wb):=(pe_ix ix_V ha hb hs).imp fun _ _ _ h=>op_lift h
abbrev WO:=Sto→(Option Int→Sto→Prop)→Prop
def liftO (K:PySem.W.Frag) (W:WO):TO:=fun σ H R => ∃ M env F Q,EnvOk K M F H env σ∧W env Q ∧ ∀ o F' H' env',EnvOk K M F' H' env' σ→Same F F'→Q o env'→R o H'
def wNoPart:WO:=fun env Q=>Q none env
def wPart (W:WE):WO:=fun env Q=>W env fun d e=>match d with | .int i=>Q (some i) e|_=>False
def VO (X:Cx) (e:Option Expr) (W:WO):Prop:=PO X e (liftO X.K W)
theorem PO.imp {e:Option Expr}{t t':TO} (h:PO X e t) (i : ∀ σ H Q,t' σ H Q→t σ H Q):PO X e t':=fun pins s σ H Q I q=>h pins s σ H Q I (i σ H Q q)
theorem vo_none:VO X none wNoPart:=po_none.imp fun σ H R xx69=>by obtain ⟨M,env,F,Q,I,h,k⟩:=xx69;exact k none F H env I (.refl _) h
theorem vo_some (ha:VE X a Wa):VO X (some a) (wPart Wa):=(po_some ha).imp fun σ H R xx70=>by
 obtain ⟨M,env,F,Q,I,h,k⟩:=xx70
 refine ⟨M,env,F,_,I,h,fun d v F1 H1 e1 I1 s1 i1 h1=>?_⟩
 cases d with
 | int i=>exact ⟨i,i1.int_inv,k (some i) F1 H1 e1 I1 s1 h1⟩
 | _=>exact False.elim h1
end
def wL (W:WF):WE:=fun env Q=>W env fun ds e=>Q (.list ds) e
theorem vf_fz {e:Expr}{W:WF} (h:VF X e W):VE X e (wL W):=h.imp fun σ H R xx71=>by
 obtain ⟨M,env,F,Q,I,h,k⟩:=xx71
 refine ⟨M,env,F,_,I,h,fun a vs ds F1 H1 e1 I1 s1 h1 h2 h3 h4 h5 h6 h7=>?_⟩
 obtain ⟨J,s⟩:=I1.frz h1 h2 h4 h5
 exact k _ _ _ H1 e1 J (s1.trans s) (is_lst (SqL.of upd_same) (h6.mono s)) h7
theorem fresh_apart {K:PySem.W.Frag}{M:Frm}{F H:Hp}{env:Sto}{σ:St} (I:EnvOk K M F H env σ) {p:Addr} (hp:H p=none) : ∀ i,(gS env i).mut=true→vS σ i≠some (.ref p):=fun i m z=>by
 obtain ⟨b,vs,e,q,_⟩:=(I.slot i).addr m
 rw [z] at e;injection e with e;injection e with e;subst e
 rw [hp] at q;cases q
theorem new_lst {K:PySem.W.Frag}{M:Frm}{F H:Hp}{env:Sto}{σ:St}{R:VK}{Q:List PyData→Sto→Prop}{F0:Hp}{l:List PyData}{xs:List V} (I:EnvOk K M F H env σ) (s:Same F0 F) (hi:Iss K F l xs) (h:Q l env)
 (k : ∀ a vs ds F' H' env',EnvOk K M F' H' env' σ→Same F0 F'→H' a=some (.lst vs)→F' a=none→M.B a=none→M.He a=none→(∀ i,(gS env' i).mut=true→vS σ i≠some (.ref a))→Iss K F' ds vs→Q ds env'→R (.ref a) H') :
 ∀ p,H p=none→R (.ref p) (upd H p (.lst xs)):=fun p hp =>
  k p xs l F _ env (I.go (.side I.fh hp)) s upd_same (same_none I.fh hp) (same_none I.bh hp) (I.he hp) (fresh_apart I hp) hi h
section
variable {e:Expr}{es:List Expr}{W:WE}{Wr:WF}{pos:Pos}
def wNil:WF:=fun env Q=>Q [] env
def wCons (W:WE) (Wr:WF):WF:=fun env Q=>W env fun d e1=>Wr e1 fun ds e2=>Q (d::ds) e2
theorem va_nil:VA X [] wNil:=pa_nil.imp fun σ H R xx72=>by obtain ⟨M,env,F,Q,I,h,k⟩:=xx72;exact k [] [] F H env I (.refl _) iss_nil h
theorem va_cons (ha:VE X e W) (hr:VA X es Wr) (hs:starEach (e::es) X.env=(false,eval e X.env)::starEach es X.env:=by rfl):VA X (e::es) (wCons W Wr) :=
 (pa_cons ha hr hs).imp fun σ H R xx73=>by obtain ⟨M,env,F,Q,I,h,k⟩:=xx73;exact ⟨M,env,F,_,I,h,fun d v F1 H1 e1 I1 s1 i1 h1=>⟨M,e1,F1,_,I1,h1,fun ds vs F2 H2 e2 I2 s2 i2 h2=>k (d::ds) (v::vs) F2 H2 e2 I2 (s1.trans s2) (iss_cons (i1.mono s2) i2) h2⟩⟩
def wTup (Wr:WF):WE:=fun env Q=>Wr env fun ds e=>ds.length≤sizeLine∧Q (.tuple ds) e
theorem ve_tup {x1} (h:VA X es Wr):VE X (.Tuple es x1 pos) (wTup Wr):=(pe_tup h).imp fun σ H R xx74=>by
 obtain ⟨M,env,F,Q,I,h,k⟩:=xx74
 refine ⟨M,env,F,_,I,h,fun ds vs F1 H1 e1 I1 s1 i1 h1=>⟨by rw [i1.len];exact h1.1,fun p hp=>?_⟩⟩
 have g:=Go.put (o:=HO.tup vs) I1.fh hp
 exact k _ _ _ _ e1 (I1.go g) (s1.trans g.f) (is_tup (SqT.of upd_same) (i1.mono g.f)) h1.2
def wLst (Wr:WF):WF:=fun env Q=>Wr env fun ds e=>ds.length≤sizeLine∧Q ds e
theorem vf_lst (h:VA X es Wr):VF X (.List es pos) (wLst Wr):=(pe_lst h).imp fun σ H R xx75=>by
 obtain ⟨M,env,F,Q,I,h,k⟩:=xx75
 exact ⟨M,env,F,_,I,h,fun ds vs F1 H1 e1 I1 s1 i1 h1=>⟨by rw [i1.len];exact h1.1,new_lst I1 s1 i1 h1.2 k⟩⟩
end
end
end L2
namespace L2
open PySem PySem.Spec PyProof.Rows
section
variable {X:Cx}
def dI2 (g:Int→Int→(PyData→Prop)→Prop):D2
 | .int i,.int j,q=>g i j q
 | _,_,_=>False
theorem i2_of {g:Int→Int→(PyData→Prop)→Prop}{x y:PyData}{q:PyData→Prop} (h:dI2 g x y q) : ∃ i j,x = .int i∧y = .int j∧g i j q:=by
 cases x with
 | int i=>cases y with
  | int j=>exact ⟨i,j,rfl,rfl,h⟩
  | _=>exact False.elim h
 | _=>exact False.elim h
theorem opI_V {f:Value→Value→Sem Value}{C:Int→Int→Prop}{g:Int→Int→PyData}{gv:Int→Int→V} (h:OpR X f (rI C gv)) (hg : ∀ i j F,Is X.K F (g i j) (gv i j)):OpV X f (dI2 fun i j q=>C i j∧q (g i j)):=h.imp fun x y H Q xx76=>by
 obtain ⟨F,dx,dy,q,s,i1,i2,h,k⟩:=xx76
 obtain ⟨i,j,rfl,rfl,c,hq⟩:=i2_of h
 exact ⟨i,j,i1.int_inv,i2.int_inv,c,k _ _ F H (.refl s) (hg i j F) hq⟩
theorem opI0_V {f:Value→Value→Sem Value}{g:Int→Int→PyData}{gv:Int→Int→V} (h:OpR X f (rI0 gv)) (hg : ∀ i j F,Is X.K F (g i j) (gv i j)):OpV X f (dI2 fun i j q=>q (g i j)):=h.imp fun x y H Q xx77=>by
 obtain ⟨F,dx,dy,q,s,i1,i2,h,k⟩:=xx77
 obtain ⟨i,j,rfl,rfl,hq⟩:=i2_of h
 exact ⟨i,j,i1.int_inv,i2.int_inv,k _ _ F H (.refl s) (hg i j F) hq⟩
abbrev dSub:D2:=dI2 fun i j q=>q (.int (i-j))
abbrev dMulI:D2:=dI2 fun i j q=>IntMulOk i j∧q (.int (i*j))
abbrev dFdiv:D2:=dI2 fun i j q=>CDivB i j∧q (.int (i.fdiv j))
abbrev dDiv:D2:=dI2 fun i j q=>(0<j∧Builtin.Int.intBits j≤9000)∧q (.int (i/j))
abbrev dMod:D2:=dI2 fun i j q=>0<j∧q (.int (i%j))
abbrev dLt:D2:=dI2 fun i j q=>q (.bool (decide (i<j)))
abbrev dLe:D2:=dI2 fun i j q=>q (.bool (decide (i≤j)))
abbrev dGt:D2:=dI2 fun i j q=>q (.bool (decide (j<i)))
abbrev dGe:D2:=dI2 fun i j q=>q (.bool (decide (j≤i)))
theorem o_sub:OpV X (binaryOp .Sub) dSub:=opI0_V op_sub fun _ _ _=>is_int _
theorem o_mulI:OpV X (binaryOp .Mult) dMulI:=opI_V op_mulB fun _ _ _=>is_int _
theorem o_fdiv:OpV X (binaryOp .FloorDiv) dFdiv:=opI_V op_fdivB fun _ _ _=>is_int _
theorem op_divP:OpR X (binaryOp .FloorDiv) (rI (fun _ j=>0<j∧Builtin.Int.intBits j≤9000) fun i j => .int (i/j)):=op_fdivB.imp fun x y H Q xx78=>by
 obtain ⟨i,j,e1,e2,c,q⟩:=xx78
 exact ⟨i,j,e1,e2,⟨by have:=c.1;omega,c.2⟩,by show Q (V.int (i.fdiv j)) H;rw [Int.fdiv_eq_ediv_of_nonneg _ (Int.le_of_lt c.1)];exact q⟩
theorem o_div:OpV X (binaryOp .FloorDiv) dDiv:=opI_V op_divP fun _ _ _=>is_int _
theorem o_mod:OpV X (binaryOp .Mod) dMod:=opI_V op_mod fun _ _ _=>is_int _
theorem o_lt:OpV X (compareOp .Lt) dLt:=opI0_V op_lt fun _ _ _=>is_bl _
theorem o_le:OpV X (compareOp .LtE) dLe:=opI0_V op_le fun _ _ _=>is_bl _
theorem o_gt:OpV X (compareOp .Gt) dGt:=opI0_V op_gt fun _ _ _=>is_bl _
theorem o_ge:OpV X (compareOp .GtE) dGe:=opI0_V op_ge fun _ _ _=>is_bl _
def dEq:D2:=fun d e q=>SeqAt.shaped d=true∧SeqAt.shaped e=true∧q (.bool (PyData.eqv d e))
def dNe:D2:=fun d e q=>SeqAt.shaped d=true∧SeqAt.shaped e=true∧q (.bool (!PyData.eqv d e))
theorem o_eq (hu:X.A.units+64<cLine):OpV X (compareOp .Eq) dEq:=(op_eqD hu).imp fun x y H Q xx79=>by
 obtain ⟨F,dx,dy,q,s,i1,i2,h,k⟩:=xx79
 exact ⟨dx,dy,i1.mono s,i2.mono s,h.1,h.2.1,k _ _ F H (.refl s) (is_bl _) h.2.2⟩
theorem o_ne (hu:X.A.units+64<cLine):OpV X (compareOp .NotEq) dNe:=(op_neD hu).imp fun x y H Q xx80=>by
 obtain ⟨F,dx,dy,q,s,i1,i2,h,k⟩:=xx80
 exact ⟨dx,dy,i1.mono s,i2.mono s,h.1,h.2.1,k _ _ F H (.refl s) (is_bl _) h.2.2⟩
def isNoneD:PyData→Bool
 | .none=>true
 | _=>false
theorem is_none_iff {K:PySem.W.Frag}{F:Hp}{d:PyData}{x:V} (h:Is K F d x):decide (x = .non)=isNoneD d:=by
 cases d with
 | none=>rw [h.non_inv];rfl
 | bool b=>rw [h.bl_inv];rfl
 | int b=>rw [h.int_inv];rfl
 | str b=>unfold Is at h;rw [h];rfl
 | list l=>obtain ⟨a,xs,rfl,_⟩:=h.lst_inv;rfl
 | tuple l=>obtain ⟨a,xs,rfl,_⟩:=h.tup_inv;rfl
 | dict l=>obtain ⟨a,rfl,_⟩:=h.dct_inv;rfl
def dAdd:D2
 | .int i,.int j,q=>q (.int (i+j))
 | .list l,.list m,q=>l.length+m.length≤sizeLine∧q (.list (l++m))
 | .tuple l,.tuple m,q=>l≠[]∧l.length+m.length≤sizeLine∧q (.tuple (l++m))
 | .str x,.str y,q=>x.length+y.length≤sizeLine∧q (.str (x++y))
 | _,_,_=>False
theorem o_add:OpV X (binaryOp .Add) dAdd:=by
 rintro pins s σ H x y v u Q I rx ry ⟨F,dx,dy,q,sm,i1,i2,h,k⟩
 cases dx with
 | int i=>cases dy with
  | int j=>exact op_add pins s σ H x y v u Q I rx ry ⟨i,j,i1.int_inv,i2.int_inv,k _ _ F H (.refl sm) (is_int _) h⟩
  | _=>exact False.elim h
 | list l=>cases dy with
  | list m =>
   obtain ⟨a,xs,rfl,hs,hr⟩:=i1.lst_inv
   obtain ⟨b,ys,rfl,ht,hq⟩:=i2.lst_inv
   refine op_catS pins s σ H _ _ v u Q I rx ry ⟨a,b,xs,ys,rfl,rfl,sm.seq hs,sm.seq ht,by rw [hr.len,hq.len];exact h.1,fun p hp=>?_⟩
   have g:=Go.put (o:=HO.lst (xs++ys)) sm hp
   exact k _ _ _ _ g (is_lst (SqL.of upd_same) ((iss_append hr hq).mono g.f)) h.2
  | _=>exact False.elim h
 | tuple l=>cases dy with
  | tuple m =>
   obtain ⟨a,xs,rfl,hs,hr⟩:=i1.tup_inv
   obtain ⟨b,ys,rfl,ht,hq⟩:=i2.tup_inv
   refine op_catT pins s σ H _ _ v u Q I rx ry ⟨a,b,xs,ys,rfl,rfl,same_seqT sm hs,same_seqT sm ht,fun z=>h.1 (List.length_eq_zero_iff.mp (by rw [← hr.len,z];rfl)),by rw [hr.len,hq.len];exact h.2.1,fun z=>?_,fun _ p hp=>?_⟩
   ·have hm:m=[]:=List.length_eq_zero_iff.mp (by rw [← hq.len,z];rfl)
    subst hm
    refine k _ _ F H (.refl sm) i1 ?_
    have:=h.2.2;rw [List.append_nil] at this;exact this
   ·have g:=Go.put (o:=HO.tup (xs++ys)) sm hp
    exact k _ _ _ _ g (is_tup (SqT.of upd_same) ((iss_append hr hq).mono g.f)) h.2.2
  | _=>exact False.elim h
 | str x0=>cases dy with
  | str y0 =>
   unfold Is at i1 i2
   exact op_add_str pins s σ H x y v u Q I rx ry ⟨x0,y0,i1,i2,h.1,k _ _ F H (.refl sm) (is_str _) h.2⟩
  | _=>exact False.elim h
 | _=>exact False.elim h
def wCat (Wa Wb:WE):WF:=fun env Q=>Wa env fun x e1=>Wb e1 fun y e2=>match x,y with
 | .list l,.list m=>l.length+m.length≤sizeLine∧Q (l++m) e2
 | _,_=>False
theorem vf_cat {a b:Expr}{Wa Wb:WE}{pos:Pos} (ha:VE X a Wa) (hb:VE X b Wb):VF X (.BinOp a .Add b pos) (wCat Wa Wb):=(pe_op op_catS ha hb).imp fun σ H R xx81=>by
 obtain ⟨M,env,F,Q,I,h,k⟩:=xx81
 refine ⟨M,env,F,_,I,h,fun d v F1 H1 e1 I1 s1 i1 h1=>⟨M,e1,F1,_,I1,h1,fun d2 v2 F2 H2 e2 I2 s2 i2 h2=>?_⟩⟩
 cases d with
 | list l=>cases d2 with
  | list m =>
   obtain ⟨a,xs,rfl,hs,hr⟩:=(i1.mono s2).lst_inv
   obtain ⟨b,ys,rfl,ht,hq⟩:=i2.lst_inv
   exact ⟨a,b,xs,ys,rfl,rfl,I2.fh.seq hs,I2.fh.seq ht,by rw [hr.len,hq.len];exact h2.1,new_lst I2 (s1.trans s2) (iss_append hr hq) h2.2 k⟩
  | _=>exact False.elim h2
 | _=>exact False.elim h2
def wRep (Wa:WF) (Wb:WE):WF:=fun env Q=>Wa env fun l e1=>Wb e1 fun y e2=>match y with
 | .int n=>(-(2^63)≤n∧n<2^63∧l.length*n.toNat≤sizeLine) ∧ ∀ r,r=(List.replicate n.toNat l).flatten→Q r e2
 | _=>False
theorem iss_rep {K:PySem.W.Frag}{H:Hp}{l:List PyData}{xs:List V} (h:Iss K H l xs) : ∀ k:Nat,Iss K H (List.replicate k l).flatten (List.replicate k xs).flatten
 | 0=>by simpa using iss_nil
 | k+1=>by rw [List.replicate_succ,List.replicate_succ,List.flatten_cons,List.flatten_cons];exact iss_append h (iss_rep h k)
theorem EnvOk.keep {K:PySem.W.Frag}{M:Frm}{F H:Hp}{env:Sto}{σ:St} (I:EnvOk K M F H env σ) {a:Addr}{o:HO} (h:H a=some o) (h5 : ∀ i,(gS env i).mut=true→vS σ i≠some (.ref a)) (h6:M.B a=none) (h7:F a=none) :
 EnvOk K ⟨upd M.B a o,M.He,M.F0⟩ F H env σ where
  len:=I.len
  slot:=fun i=>by
   have S:=I.slot i
   have n:=h5 i
   cases q:gS env i with
   | non=>trivial
   | val d=>rw [q] at S;exact S
   | own ds =>
    rw [q] at S n
    obtain ⟨b,vs,e,g1,g2,g3,g4,g5⟩:=S
    have hb:b≠a:=fun z=>by subst z;exact n rfl e
    exact ⟨b,vs,e,g1,g2,by show upd M.B a o b=none;rw [upd_ne hb];exact g3,g4,g5⟩
   | pen ds =>
    rw [q] at S n
    obtain ⟨b,vs,e,g1,g2,g3,gx,g5⟩:=S
    have hb:b≠a:=fun z=>by subst z;exact n rfl e
    exact ⟨b,vs,e,g1,g2,by show upd M.B a o b=none;rw [upd_ne hb];exact g3,gx,g5⟩
   | new d =>
    rw [q] at S
    obtain ⟨v,e,j⟩:=S
    refine ⟨v,e,j.mono fun b u eb=>?_⟩
    obtain ⟨z1,z2,z3⟩:=newF_inv eb
    have hb:b≠a:=fun z=>by subst z;rw [h7] at z3;cases z3
    exact .of (newF_at (M:=⟨upd M.B a o,M.He,M.F0⟩) z1 (by show upd M.B a o b=none;rw [upd_ne hb];exact z2) z3)
   | exc C=>rw [q] at S;exact S
   | «at» v=>rw [q] at S;exact S
   | obj a0 C nm fs =>
    rw [q] at S
    obtain ⟨dx,vs,e,g1,g2⟩:=S
    exact ⟨dx,vs,e,by show upd M.B a o a0=_;rw [upd_ne (ne_of_none g1 h6)];exact g1,g2⟩
  dis:=I.dis
  f0:=I.f0
  fe:=I.fe
  fh:=I.fh
  bh:=fun b u e=>by
   have e:upd M.B a o b=some u:=e
   by_cases z:b=a
   ·subst z;rw [upd_same] at e;exact .of (by rw [← e];exact h)
   ·rw [upd_ne z] at e;exact I.bh b u e
  new:=I.new
  dom:=I.dom
theorem EnvOk.unkeep {K:PySem.W.Frag}{M:Frm}{F H:Hp}{env:Sto}{σ:St}{a:Addr}{o:HO} (I:EnvOk K ⟨upd M.B a o,M.He,M.F0⟩ F H env σ) (h6:M.B a=none) (ho : ∀ C dx vs,o ≠ .ins C dx vs:=by intro _ _ _ z;cases z) (hn:NoT o:=by trivial):EnvOk K M F H env σ∧H a=some o:=by
 have mb : ∀ b,upd M.B a o b=none→M.B b=none:=fun b e=>by
  by_cases z:b=a
  ·subst z;exact h6
  ·rw [upd_ne z] at e;exact e
 refine ⟨⟨I.len,fun i=>?_,I.dis,I.f0,I.fe,I.fh,fun b u e=>?_,I.new,I.dom⟩,I.bh.at upd_same hn⟩
 ·have S:=I.slot i
  cases q:gS env i with
  | non=>trivial
  | val d=>rw [q] at S;exact S
  | own ds=>rw [q] at S;obtain ⟨b,vs,e,g1,g2,g3,g4,g5⟩:=S;exact ⟨b,vs,e,g1,g2,mb b g3,g4,g5⟩
  | pen ds=>rw [q] at S;obtain ⟨b,vs,e,g1,g2,g3,gx,g5⟩:=S;exact ⟨b,vs,e,g1,g2,mb b g3,gx,g5⟩
  | new d =>
   rw [q] at S
   obtain ⟨v,e,j⟩:=S
   refine ⟨v,e,j.mono fun b u eb=>?_⟩
   obtain ⟨z1,z2,z3⟩:=newF_inv eb
   exact .of (newF_at (M:=M) z1 (mb b z2) z3)
  | exc C=>rw [q] at S;exact S
  | «at» v=>rw [q] at S;exact S
  | obj a0 C nm fs =>
   rw [q] at S
   obtain ⟨dx,vs,e,g1,g2⟩:=S
   have g1:upd M.B a o a0=some (.ins C dx vs):=g1
   by_cases z:a0=a
   ·subst z
    rw [upd_same] at g1
    exact (ho C dx vs (Option.some.inj g1)).elim
   ·rw [upd_ne z] at g1
    exact ⟨dx,vs,e,g1,g2⟩
 ·exact I.bh b u (by show upd M.B a o b=some u;rw [upd_ne (ne_of_none e h6)];exact e)
theorem vf_rep {a b:Expr}{Wa:WF}{Wb:WE}{pos:Pos} (ha:VF X a Wa) (hb:VE X b Wb):VF X (.BinOp a .Mult b pos) (wRep Wa Wb):=(pe_op op_rep ha hb).imp fun σ H R xx82=>by
 obtain ⟨M,env,F,Q,I,h,k⟩:=xx82
 refine ⟨M,env,F,_,I,h,fun p vs l F1 H1 e1 I1 s1 g1 g2 g3 g4 g5 g6 h1=>⟨_,e1,F1,_,I1.keep g1 g5 g3 g2,h1,fun d2 v2 F2 H2 e2 I2 s2 i2 h2=>?_⟩⟩
 obtain ⟨I3,hp⟩:=I2.unkeep g3
 cases d2 with
 | int n =>
  obtain ⟨⟨n1,n2,n3⟩,hq⟩:=h2
  exact ⟨p,n,vs,rfl,i2.int_inv,hp,n1,n2,by rw [g6.len];exact n3,new_lst I3 (s1.trans s2) (iss_rep (g6.mono s2) n.toNat) (hq _ rfl) k⟩
 | _=>exact False.elim h2
section
variable {x:Str}{p pos:Pos}{e:Expr}{es:List Expr}{Wr:WF}{id T:String}{r:DC}{rf:List PyData→(List PyData→Prop)→Prop}
def wCall (r:DC) (Wr:WF):WE:=fun env Q=>Wr env fun ds e=>r ds fun d=>Q d e
def wCallF (r:List PyData→(List PyData→Prop)→Prop) (Wr:WF):WF:=fun env Q=>Wr env fun ds e=>r ds fun l=>Q l e
theorem call_lift {σ:St}{H:Hp}{R:VK} (h:liftE X.K (wCall r Wr) σ H R):liftA X.K Wr σ H fun vs H1=>liftC X.K r vs H1 R:=by
 obtain ⟨M,env,F,Q,I,h,k⟩:=h
 exact ⟨M,env,F,_,I,h,fun ds vs F1 H1 e1 I1 s1 i1 h1=>⟨F1,ds,_,I1.fh,i1,h1,fun d v F2 H2 g i2 q=>k d v F2 H2 e1 (I1.go g) (s1.trans g.f) i2 q⟩⟩
theorem callF_lift {σ:St}{H:Hp}{R:VK} (h:liftF X.K (wCallF rf Wr) σ H R):liftA X.K Wr σ H fun vs H1=>liftCF X.K rf vs H1 R:=by
 obtain ⟨M,env,F,Q,I,h,k⟩:=h
 refine ⟨M,env,F,_,I,h,fun ds vs F1 H1 e1 I1 s1 i1 h1=>⟨F1,ds,_,I1.fh,i1,h1,fun l a xs F2 H2 g ha hf hh hi q=>?_⟩⟩
 exact k a xs l F2 H2 e1 (I1.go g) (s1.trans g.f) hh hf (same_none I1.bh ha) (I1.he ha) (fresh_apart I1 ha) hi q
theorem ve_callB (hc:CallV X (.builtin id) r) (hm:X.mg x=none) (hv:bootBuiltins x=some (.builtin id)) (ha:VA X (e::es) Wr) (hg:Gl X x:=by rfl) (hn:x ≠ "__name__":=by decide) (hdb:(x==("__debug__" : Str))=false:=by decide)
 (he:starEach (e::es) X.env=(false,eval e X.env)::starEach es X.env:=by rfl) (hpl:(backTo pos (starEach es X.env)).any (·.1)=false:=by rfl):VE X (.Call (.Name x p) (e::es) [] pos) (wCall r Wr) :=
 (pe_callB hc hg hm hv ha hn hdb he hpl).imp fun _ _ _ h=>call_lift h
theorem ve_callTy (hc:CallV X (.type T) r) (hm:X.mg x=none) (hv:bootBuiltins x=some (.type T)) (ha:VA X (e::es) Wr) (hg:Gl X x:=by rfl) (hn:x ≠ "__name__":=by decide) (hdb:(x==("__debug__" : Str))=false:=by decide)
 (he:starEach (e::es) X.env=(false,eval e X.env)::starEach es X.env:=by rfl) (hpl:(backTo pos (starEach es X.env)).any (·.1)=false:=by rfl):VE X (.Call (.Name x p) (e::es) [] pos) (wCall r Wr) :=
 (pe_callTy hc hg hm hv ha hn hdb he hpl).imp fun _ _ _ h=>call_lift h
theorem vf_callB (hc:CallVF X (.builtin id) rf) (hm:X.mg x=none) (hv:bootBuiltins x=some (.builtin id)) (ha:VA X (e::es) Wr) (hg:Gl X x:=by rfl) (hn:x ≠ "__name__":=by decide) (hdb:(x==("__debug__" : Str))=false:=by decide)
 (he:starEach (e::es) X.env=(false,eval e X.env)::starEach es X.env:=by rfl) (hpl:(backTo pos (starEach es X.env)).any (·.1)=false:=by rfl):VF X (.Call (.Name x p) (e::es) [] pos) (wCallF rf Wr) :=
 (pe_callB hc hg hm hv ha hn hdb he hpl).imp fun _ _ _ h=>callF_lift h
def PSp (K:PySem.W.Frag) (sp:DC):Sp:=fun vs H Q _=>liftC K sp vs H Q
theorem ve_fn {k:Nat}{ps:List Str}{sp:DC} (O:OkC X x k ps (PSp X.K sp)) (hr:Room k X.A) (ha:VA X (e::es) Wr) (hg:Gl X x:=by rfl) (hdb:(x==("__debug__" : Str))=false:=by decide)
 (he:starEach (e::es) X.env=(false,eval e X.env)::starEach es X.env:=by rfl) (hpl:(backTo pos (starEach es X.env)).any (·.1)=false:=by rfl):VE X (.Call (.Name x p) (e::es) [] pos) (wCall sp Wr) :=
 (pe_fn O hr ha hg hdb he hpl).imp fun σ H R h=>by
  have e:tCall (PSp X.K sp) [] E0 (liftA X.K Wr) σ H R=liftA X.K Wr σ H fun vs H1=>liftC X.K sp vs H1 R:=by unfold tCall PSp;simp only [List.append_nil]
  rw [e]
  exact call_lift h
end
def dAbs:DC
 | [.int i],q=>q (.int (if i<0 then -i else i))
 | _,_=>False
def dInt1:DC
 | [.int i],q=>q (.int i)
 | [.bool b],q=>q (.int (if b then 1 else 0))
 | _,_=>False
def dLen:DC
 | [.list l],q=>q (.int l.length)
 | [.tuple l],q=>q (.int l.length)
 | [.str x],q=>x.length≤sizeLine∧q (.int x.length)
 | _,_=>False
theorem iss1 {K:PySem.W.Frag}{H:Hp}{d:PyData}{vs:List V} (h:Iss K H [d] vs) : ∃ v,vs=[v]∧Is K H d v:=by
 obtain ⟨x,r,rfl,p,q⟩:=h.cons_inv
 rw [q.nil_inv];exact ⟨x,rfl,p⟩
theorem iss2 {K:PySem.W.Frag}{H:Hp}{d e:PyData}{vs:List V} (h:Iss K H [d,e] vs) : ∃ v u,vs=[v,u]∧Is K H d v∧Is K H e u:=by
 obtain ⟨x,r,rfl,p,q⟩:=h.cons_inv
 obtain ⟨y,rfl,q'⟩:=iss1 q
 exact ⟨x,y,rfl,p,q'⟩
theorem c_abs:CallV X (.builtin "abs") dAbs:=call_abs.imp fun xs H Q xx83=>by
 obtain ⟨F,ds,q,s,i,h,k⟩:=xx83
 match ds,h,i with
 | [.int n],h,i =>
  obtain ⟨v,rfl,j⟩:=iss1 i
  exact ⟨n,by rw [j.int_inv],k _ _ F H (.refl s) (is_int _) h⟩
theorem c_int:CallV X (.type "int") dInt1:=call_int1.imp fun xs H Q xx84=>by
 obtain ⟨F,ds,q,s,i,h,k⟩:=xx84
 match ds,h,i with
 | [.int n],h,i =>
  obtain ⟨v,rfl,j⟩:=iss1 i
  exact .inl ⟨n,by rw [j.int_inv],k _ _ F H (.refl s) (is_int _) h⟩
 | [.bool n],h,i =>
  obtain ⟨v,rfl,j⟩:=iss1 i
  exact .inr ⟨n,by rw [j.bl_inv],k _ _ F H (.refl s) (is_int _) h⟩
theorem c_len:CallV X (.builtin "len") dLen:=(call_len_seq.or call_len_str).imp fun xs H Q xx85=>by
 obtain ⟨F,ds,q,s,i,h,k⟩:=xx85
 match ds,h,i with
 | [.list l],h,i =>
  obtain ⟨v,rfl,j⟩:=iss1 i
  obtain ⟨a,xs,rfl,hs,hr⟩:=j.lst_inv
  exact .inl ⟨a,xs,rfl,.inl (s.seq hs),k _ _ F H (.refl s) (by rw [hr.len];exact is_int _) h⟩
 | [.tuple l],h,i =>
  obtain ⟨v,rfl,j⟩:=iss1 i
  obtain ⟨a,xs,rfl,hs,hr⟩:=j.tup_inv
  exact .inl ⟨a,xs,rfl,.inr (same_seqT s hs),k _ _ F H (.refl s) (by rw [hr.len];exact is_int _) h⟩
 | [.str z],h,i =>
  obtain ⟨v,rfl,j⟩:=iss1 i
  unfold Is at j
  subst j
  exact .inr ⟨z,rfl,h.1,k _ _ F H (.refl s) (is_int _) h.2⟩
def dTuple:DC
 | [.list l],q=>q (.tuple l)
 | [.tuple l],q=>q (.tuple l)
 | _,_=>False
theorem c_tuple:CallV X (.type "tuple") dTuple:=call_tuple_of.imp fun xs H Q xx86=>by
 obtain ⟨F,ds,q,s,i,h,k⟩:=xx86
 match ds,h,i with
 | [.list l],h,i =>
  obtain ⟨v,rfl,j⟩:=iss1 i
  obtain ⟨a,xs,rfl,hs,hr⟩:=j.lst_inv
  refine ⟨a,xs,rfl,.inl ⟨s.seq hs,fun p hp=>?_⟩⟩
  have g:=Go.put (o:=HO.tup xs) s hp
  exact k _ _ _ _ g (is_tup (SqT.of upd_same) (hr.mono g.f)) h
 | [.tuple l],h,i =>
  obtain ⟨v,rfl,j⟩:=iss1 i
  obtain ⟨a,xs,rfl,hs,hr⟩:=j.tup_inv
  exact ⟨a,xs,rfl,.inr ⟨same_seqT s hs,k _ _ F H (.refl s) j h⟩⟩
end
end L2
namespace L2
open PySem PySem.Spec PyProof.Rows
section
variable {X:Cx}
section
variable {a b c e o:Expr}{W Wa Wb:WE}{Tc:WT}{pos pos':Pos}{st:Stmt}{sts rest:List Stmt}{Wt Wu:WS}{WfF:WF}
def wNext:WS:=fun D env=>D.nx env
def wSeq (t u:WS):WS:=fun D env=>t { D with nx:=u D } env
def wMid (t u:WS):WS:=fun D env => ∃ Md:Sto→Prop,t { D with nx:=Md } env ∧ ∀ e,Md e→u D e
def wNever:WS:=fun _ _=>False
theorem vss_nil:VSs X [] wNext:=pss_nil.imp fun D σ H xx87=>by obtain ⟨M,env,F,DD,I,h,k⟩:=xx87;exact k.nx env F H σ I (.refl _) h
theorem vss_one (h:VS X st Wt):VSs X [st] Wt:=pss_one h
theorem vss_cons (h1:VS X st Wt) (h2:VSs X rest Wu):VSs X (st::rest) (wSeq Wt Wu):=(pss_cons h1 h2).imp fun D σ H xx88=>by
 obtain ⟨M,env,F,DD,I,h,k⟩:=xx88
 exact ⟨M,env,F,{ DD with nx:=Wu DD },I,h,fun e' F' H' σ' I' s' h'=>⟨M,e',F',DD,I',h',k.mono s'⟩,k.rt,k.bk,k.ct⟩
theorem vss_mid (h1:VS X st Wt) (h2:VSs X rest Wu):VSs X (st::rest) (wMid Wt Wu):=(pss_cons h1 h2).imp fun D σ H xx89=>by
 obtain ⟨M,env,F,DD,I,⟨Md,h,hm⟩,k⟩:=xx89
 exact ⟨M,env,F,{ DD with nx:=Md },I,h,fun e' F' H' σ' I' s' h'=>⟨M,e',F',DD,I',hm e' h',k.mono s'⟩,k.rt,k.bk,k.ct⟩
theorem vss_never:VSs X sts wNever:=pss_never.imp fun D σ H xx90=>by obtain ⟨M,env,F,DD,I,h,k⟩:=xx90;exact h.elim
def wFz (i:Nat) (t:WS):WS:=fun D env=>t D (env.set i (gS env i).fz)
theorem vss_fz (i:Nat) (h:VSs X sts Wt):VSs X sts (wFz i Wt):=h.imp fun D σ H xx91=>by
 obtain ⟨M,env,F,DD,I,h,k⟩:=xx91
 obtain ⟨F',J,s⟩:=I.freeze i
 exact ⟨M,_,F',DD,J,h,k.mono s⟩
def wDrop (W:WE):WS:=fun D env=>W env fun _ e=>D.nx e
def wRet (W:WE):WS:=fun D env=>W env fun d e=>D.rt (.val d) e
theorem vs_ret (he:VE X e W):VS X (.Return (some e) pos) (wRet W):=(ps_ret he).imp fun D σ H xx92=>by
 obtain ⟨M,env,F,DD,I,h,k⟩:=xx92
 exact ⟨M,env,F,_,I,h,fun d v F1 H1 e1 I1 s1 i1 h1=>k.rt (.val d) v e1 F1 H1 σ I1 s1 i1 h1⟩
def wRetO (i:Nat):WS:=fun D env=>match gS env i with | .own ds=>D.rt (.own ds) env|_=>False
theorem vs_retO (i:Nat) {x:Str}{px:Pos} (hN:X.N[i]?=some x:=by rfl) (hv:Vis X.env.scope x:=by first|exact Or.inl rfl|exact Or.inr (Or.inl rfl)|exact Or.inr (Or.inr rfl)) (hd:(x==("__debug__" : Str))=false:=by decide)
 (hcd:(x==("__classdict__" : Str))=false:=by decide):VS X (.Return (some (.Name x px)) pos) (wRetO i):=(ps_ret (pe_var hN hv hd hcd)).imp fun D σ H xx93=>by
 obtain ⟨M,env,F,DD,I,h,k⟩:=xx93
 have S:=I.slot i
 unfold wRetO at h
 cases q:gS env i with
 | own ds =>
  rw [q] at S h
  obtain ⟨p,vs,e,g1,g2,g3,g4,g5⟩:=S
  exact ⟨_,vS_some e,k.rt (.own ds) _ env F H σ I (.refl _) ⟨p,vs,rfl,g1,g2,g3,g4,g5⟩ h⟩
 | non=>rw [q] at h;exact h.elim
 | val d=>rw [q] at h;exact h.elim
 | pen ds=>rw [q] at h;exact h.elim
 | new d=>rw [q] at h;exact h.elim
 | exc C=>rw [q] at h;exact h.elim
 | «at» v=>rw [q] at h;exact h.elim
 | obj a0 C nm fs=>rw [q] at h;exact h.elim
def wIf (Tc:WT) (t u:WS):WS:=fun D env=>Tc env fun k e=>if k=true then t D e else u D e
theorem vs_if {A B:List Stmt} (hc:VT X c Tc) (ha:VSs X A Wt) (hb:VSs X B Wu):VS X (.If c A B pos) (wIf Tc Wt Wu):=(ps_if hc ha hb).imp fun D σ H xx94=>by
 obtain ⟨M,env,F,DD,I,h,k⟩:=xx94
 refine ⟨M,env,F,_,I,h,fun x F1 H1 e1 I1 s1 h1=>?_⟩
 cases x with
 | true=>exact iteT ⟨M,e1,F1,DD,I1,h1,k.mono s1⟩
 | false=>exact iteF ⟨M,e1,F1,DD,I1,h1,k.mono s1⟩
def wSet (i:Nat) (W:WE):WS:=fun D env=>W env fun d e=>D.nx (e.set i (.val d))
theorem vs_set {i:Nat}{x:Str} (hN:X.N.Nodup) (he:VE X e W) (hi:X.N[i]?=some x:=by rfl) (hx:Loc X.env.scope x:=by first|exact Or.inl rfl|exact Or.inr rfl) (hs:swapsWith e (some (.Name x pos')) pos.line X.env=pure false:=by rfl)
 (hf:X.fn x=true∨X.env.scope.names.lookup x=some .local:=by first|exact .inl rfl|exact .inr rfl):VS X (.Assign [.Name x pos'] e pos) (wSet i W):=(ps_set hN hi hx he hs hf).imp fun D σ H xx95=>by
 obtain ⟨M,env,F,DD,I,h,k⟩:=xx95
 exact ⟨M,env,F,_,I,h,fun d v F1 H1 e1 I1 s1 i1 h1=>k.nx _ F1 H1 _ (I1.setv i1) s1 h1⟩
def wSetO (i:Nat) (W:WF):WS:=fun D env=>W env fun l e=>D.nx (e.set i (.own l))
theorem vs_setO {i:Nat}{x:Str} (hN:X.N.Nodup) (he:VF X e WfF) (hi:X.N[i]?=some x:=by rfl) (hx:Loc X.env.scope x:=by first|exact Or.inl rfl|exact Or.inr rfl) (hs:swapsWith e (some (.Name x pos')) pos.line X.env=pure false:=by rfl)
 (hf:X.fn x=true∨X.env.scope.names.lookup x=some .local:=by first|exact .inl rfl|exact .inr rfl):VS X (.Assign [.Name x pos'] e pos) (wSetO i WfF):=(ps_set hN hi hx he hs hf).imp fun D σ H xx96=>by
 obtain ⟨M,env,F,DD,I,h,k⟩:=xx96
 exact ⟨M,env,F,_,I,h,fun p vs l F1 H1 e1 I1 s1 g1 g2 g3 g4 g5 g6 h1=>k.nx _ F1 H1 _ (I1.seto g1 g2 g3 g4 g5 g6) s1 h1⟩
def wgName (i:Nat):WG:=fun d env Q=>Q (env.set i (.val d))
theorem vg_name {i:Nat}{x:Str} (hN:X.N.Nodup) (hi:X.N[i]?=some x:=by rfl) (hx:Loc X.env.scope x:=by first|exact Or.inl rfl|exact Or.inr rfl) (hf:X.fn x=true∨X.env.scope.names.lookup x=some .local:=by first|exact .inl rfl|exact .inr rfl):VG X (.Name x pos) (wgName i) :=
 (pg_name hN hi hx hf).imp fun v σ H R xx97=>by obtain ⟨M,env,F,d,Q,I,j,h,k⟩:=xx97;exact k F H _ _ (I.setv j) (.refl _) h
def wgNil:WGs:=fun ds env Q=>ds=[]∧Q env
def wgCons (G:WG) (Gs:WGs):WGs:=fun ds env Q=>match ds with|[]=>False|d::r=>G d env fun e=>Gs r e Q
theorem vgs_nil:VGs X [] wgNil:=pgs_nil.imp fun v σ H R xx98=>by
 obtain ⟨M,env,F,ds,Q,I,j,h,k⟩:=xx98
 obtain ⟨rfl,h⟩:=h
 exact ⟨j.nil_inv,k F H env σ I (.refl _) h⟩
theorem vgs_cons {es:List Expr}{G:WG}{Gs:WGs} (h1:VG X e G) (h2:VGs X es Gs) (hs:(assignEach (e::es) X.env).map (·.2)=assign e X.env::(assignEach es X.env).map (·.2):=by rfl):VGs X (e::es) (wgCons G Gs) :=
 (pgs_cons h1 h2 hs).imp fun v σ H R xx99=>by
  obtain ⟨M,env,F,ds,Q,I,j,h,k⟩:=xx99
  cases ds with
  | nil=>exact False.elim h
  | cons d r =>
   obtain ⟨x,xs,rfl,j1,j2⟩:=j.cons_inv
   exact ⟨x,xs,rfl,M,env,F,d,_,I,j1,h,fun F1 H1 e1 σ1 I1 s1 q1=>⟨M,e1,F1,r,Q,I1,j2.mono s1,q1,fun F2 H2 e2 σ2 I2 s2 q2=>k F2 H2 e2 σ2 I2 (s1.trans s2) q2⟩⟩
def wgTup (n:Nat) (Gs:WGs):WG:=fun d env Q=>match d with | .tuple l=>l.length=n∧Gs l env Q|_=>False
theorem vg_tup {es:List Expr}{kk n:Nat}{Gs:WGs} (hc:X.calm=true) (h:VGs X es Gs) (hn:(assignEach es X.env).length=n:=by rfl) (hst:(assignEach es X.env).findIdx? (·.1)=none:=by rfl):VG X (.Tuple es kk pos) (wgTup n Gs) :=
 (pg_tup hc h hn hst).imp fun v σ H R xx100=>by
  obtain ⟨M,env,F,d,Q,I,j,h,k⟩:=xx100
  cases d with
  | tuple l =>
   obtain ⟨a,xs,rfl,hs,hr⟩:=j.tup_inv
   exact ⟨a,xs,rfl,same_seqT I.fh hs,by rw [hr.len];exact h.1,M,env,F,l,Q,I,hr,h.2,k⟩
  | _=>exact False.elim h
def wAsg (W:WE) (G:WG):WS:=fun D env=>W env fun d e=>G d e D.nx
theorem vs_asg {tg:Expr}{G:WG} (he:VE X e W) (hg:VG X tg G) (hs:swapsWithSole [tg] e pos.line X.env=pure false:=by rfl) (hw:swappedStores [tg] e X.env=pure none:=by rfl)
 (h1:(assignEach [tg] X.env).map (·.2)=[assign tg X.env]:=by rfl):VS X (.Assign [tg] e pos) (wAsg W G):=(ps_asg he hg hs hw h1).imp fun D σ H xx101=>by
 obtain ⟨M,env,F,DD,I,h,k⟩:=xx101
 exact ⟨M,env,F,_,I,h,fun d v F1 H1 e1 I1 s1 i1 h1=>⟨M,e1,F1,d,_,I1,i1,h1,fun F2 H2 e2 σ2 I2 s2 q2=>k.nx e2 F2 H2 σ2 I2 (s1.trans s2) q2⟩⟩
def wApp (i:Nat) (W:WE):WS:=fun D env=>(gS env i).mut=true∧W env fun d e=>(gS e i).mut=true∧(gS e i).cnt.length<sizeLine∧D.nx (e.set i ((gS e i).upd ((gS e i).cnt++[d])))
theorem vs_append (i:Nat) {x:Str}{px apos cpos:Pos} (he:VE X e W) (hN:X.N[i]?=some x:=by rfl) (hv:Vis X.env.scope x:=by first|exact Or.inl rfl|exact Or.inr (Or.inl rfl)|exact Or.inr (Or.inr rfl)) (hd:(x==("__debug__" : Str))=false:=by decide)
 (hcd:(x==("__classdict__" : Str))=false:=by decide)
 (hbase:attributeBase (.Name x px) "append" X.env (eval (.Name x px) X.env)=eval (.Name x px) X.env:=by rfl)
 (hfew:((backTo cpos (starEach [e] X.env)).all (fun x => !x.1)&&(backToKw cpos (keywordEach [] X.env)).all (fun x=>x.1.isSome)
  && decide ([e].length+([]:List Keyword).length+(if ([]:List Keyword).isEmpty then 0 else 1)<30))=true:=by rfl)
 (hline:(apos.endLine==cpos.line)=true:=by rfl) (hst:starEach [e] X.env=(false,eval e X.env)::starEach [] X.env:=by rfl) (hplain:(backTo cpos (starEach [] X.env)).any (·.1)=false:=by rfl)
 (hs:swapsWith (.Call (.Attribute (.Name x px) "append" apos) [e] [] cpos) none pos.line X.env=pure false:=by rfl):VS X (.Expr (.Call (.Attribute (.Name x px) "append" apos) [e] [] cpos) pos) (wApp i W) :=
 (ps_expr (pe_append (pe_var hN hv hd hcd) he hbase hfew hline hst hplain) hs).imp fun D σ H xx102=>by
  obtain ⟨M,env,F,DD,I,⟨hm,h⟩,k⟩:=xx102
  obtain ⟨p,vs,ep,g1,g2,g3,g4⟩:=(I.slot i).addr hm
  refine ⟨_,vS_some ep,.inl ⟨rfl,_,SqL.of g1⟩,M,env,F,_,I,h,fun d v F1 H1 e1 I1 s1 i1 h1=>?_⟩
  obtain ⟨m1,z1,q1⟩:=h1
  obtain ⟨p',vs1,ep',f1,f2,f3,f4⟩:=(I1.slot i).addr m1
  rw [ep] at ep';injection ep' with ep';injection ep' with ep';subst ep'
  exact ⟨p,vs1,v,rfl,rfl,f1,by rw [f4.len];exact z1,k.nx _ F1 _ σ (I1.chg m1 ep (iss_append f4 (iss_cons i1 iss_nil))) s1 q1⟩
def wWhile (Tc:WT) (t:WS):WS:=fun D env => ∃ P:Nat→Sto→Prop,(∃ m,P m env) ∧ ∀ m e,P m e→Tc e fun k e1=>if k=true then t { D with nx:=fun e2 => ∃ m',m'<m∧P m' e2,ct:=fun e2 => ∃ m',m'<m∧P m' e2,bk:=D.nx } e1 else D.nx e1
theorem vs_while {body:List Stmt} (hc:VT X c Tc) (hb:VSs X body Wt) (hp:PassesOwn (model X.prog X.w) X.A X.env X.xe:=by exact PassesOwn.never):VS X (.While c body [] pos) (wWhile Tc Wt) :=
 (ps_while hp hc hb).imp fun D σ H xx106=>by
  obtain ⟨M,env,F,DD,I,⟨P,⟨m0,p0⟩,turn⟩,k⟩:=xx106
  refine ⟨fun m σ' H' => ∃ e' F',EnvOk X.K M F' H' e' σ'∧Same F F'∧P m e',⟨m0,env,F,I,.refl _,p0⟩,fun m σ1 H1 xx105=>?_⟩
  obtain ⟨e1,F1,I1,s1,p1⟩:=xx105
  refine ⟨M,e1,F1,_,I1,turn m e1 p1,fun x F2 H2 e2 I2 s2 h2=>?_⟩
  cases x with
  | true =>
   refine iteT ⟨fun σ' H' => ∃ m',m'<m ∧ ∃ e' F',EnvOk X.K M F' H' e' σ'∧Same F F'∧P m' e',fun σ' H' z=>z,M,e2,F2,_,I2,h2,?_⟩
   have s02:=s1.trans s2
   exact ⟨fun e3 F3 H3 σ3 I3 s3 xx104=>by obtain ⟨m',l,p3⟩:=xx104;exact ⟨m',l,e3,F3,I3,s02.trans s3,p3⟩,fun r v e3 F3 H3 σ3 I3 s3=>k.rt r v e3 F3 H3 σ3 I3 (s02.trans s3),
    fun e3 F3 H3 σ3 I3 s3=>k.nx e3 F3 H3 σ3 I3 (s02.trans s3),fun e3 F3 H3 σ3 I3 s3 xx103=>by obtain ⟨m',l,p3⟩:=xx103;exact ⟨m',l,e3,F3,I3,s02.trans s3,p3⟩⟩
  | false=>exact iteF (k.nx e2 F2 H2 σ1 I2 (s1.trans s2) h2)
def wFor (Wi:WF) (G:WG) (t:WS):WS:=fun D env=>Wi env fun ds e0 => ∃ P:Nat→Sto→Prop,P 0 e0 ∧
 (∀ i d e,ds[i]?=some d→P i e→G d e fun e1=>t { D with nx:=P (i+1),ct:=P (i+1),bk:=D.nx } e1) ∧ ∀ e,P ds.length e→D.nx e
theorem vs_for {tg iter:Expr}{body:List Stmt}{Wi:WF}{G:WG} (hc:X.calm=true) (hi:VI X tg iter Wi) (hg:VG X tg G) (hb:VSs X body Wt)
 (hs : ∀ x,foldedSetIterable iter X.env x=pure x:=by intro _;rfl) (hp:PassesOwn (model X.prog X.w) X.A X.env X.xe:=by exact PassesOwn.never):VS X (.For tg iter body [] pos) (wFor Wi G Wt) :=
  (ps_for hp hc hi hg hb hs).imp fun D σ H xx109=>by
   obtain ⟨M,env,F,DD,I,h,k⟩:=xx109
   refine ⟨M,env,F,_,I,h,fun ds J F1 H1 e1 I1 s1 jt xx108=>?_⟩
   obtain ⟨P,p0,turn,fin⟩:=xx108
   refine ⟨fun i m σ' H'=>m=ds.length-i∧i≤ds.length ∧ ∃ e' F',EnvOk X.K M F' H' e' σ'∧Same F1 F'∧P i e',⟨ds.length,by simp,Nat.zero_le _,e1,F1,I1,.refl _,p0⟩,fun i m σ2 H2 xx107=>?_⟩
   obtain ⟨hm,hi,e2,F2,I2,s2,p2⟩:=xx107
   by_cases hl:i=ds.length
   ·subst hl
    exact .inl ⟨jt.stop H2 (s2.trans I2.fh),k.nx e2 F2 H2 σ2 I2 (s1.trans s2) (fin e2 p2)⟩
   ·have hlt:i<ds.length:=by omega
    refine .inr ⟨jt.go i H2 (s2.trans I2.fh) hlt,fun σ' H' => ∃ e' F',EnvOk X.K M F' H' e' σ'∧Same F1 F'∧P (i+1) e',fun σ' H' z=>⟨ds.length-(i+1),by omega,rfl,hlt,z⟩,fun x H3 hy=>?_⟩
    obtain ⟨d,F3,hd,g,j⟩:=jt.yld i H2 x H3 F2 s2 I2.fh hlt hy
    refine ⟨M,e2,F3,d,_,I2.go g,j,turn i d e2 hd p2,fun F4 H4 e4 σ4 I4 s4 h4=>⟨M,e4,F4,_,I4,h4,?_⟩⟩
    have s14:=s2.trans (g.f.trans s4)
    exact ⟨fun e5 F5 H5 σ5 I5 s5 p5=>⟨e5,F5,I5,s14.trans s5,p5⟩,fun r v e5 F5 H5 σ5 I5 s5=>k.rt r v e5 F5 H5 σ5 I5 ((s1.trans s14).trans s5),
     fun e5 F5 H5 σ5 I5 s5=>k.nx e5 F5 H5 σ5 I5 ((s1.trans s14).trans s5),fun e5 F5 H5 σ5 I5 s5 p5=>⟨e5,F5,I5,s14.trans s5,p5⟩⟩
end
end
end L2
namespace L2
open PySem PySem.Spec PyProof.Rows
section
variable {X:Cx}
theorem vals_ty : ∀ {ns:List String}{us:List Value},Vals (ns.map V.ty) us→us=ns.map Value.type
 | [],_,h=>by cases h;rfl
 | n::ns,_,h=>by
  cases h with
  | cons r t=>rw [vals_ty t];cases r;rfl
theorem kit_D {pins:List (Addr×Obj)}{σ:St}{H:Hp}{s:Shared}{d:PyData}{x:V}{u:Value} (I:Inv X pins σ H s) (hd:Is X.K H d x) (rx:RelV x u) :
 ∃ HP:Heap→Prop,PySem.W.KitX X.K u (.type (tyD d)) HP∧HP s.heap∧u ≠ .builtin "__main__.__loader__#opaque":=by
  cases d with
  | none=>rw [hd.non_inv] at rx;cases rx;exact ⟨_,PySem.W.kitx_none,True.intro,fun z=>nomatch z⟩
  | bool y=>rw [hd.bl_inv] at rx;cases rx;exact ⟨_,PySem.W.kitx_bool,True.intro,fun z=>nomatch z⟩
  | int i=>rw [hd.int_inv] at rx;obtain ⟨t,rfl⟩:=rx;exact ⟨_,PySem.W.kitx_int,True.intro,fun z=>nomatch z⟩
  | str y =>
   unfold Is at hd
   subst hd
   obtain ⟨t,rfl⟩:=rx;exact ⟨_,PySem.W.kitx_str,True.intro,fun z=>nomatch z⟩
  | list l =>
   obtain ⟨a,xs,rfl,q,_⟩:=hd.lst_inv
   cases rx
   obtain ⟨its,_,pl,_⟩:=I.list q
   obtain ⟨o,ho,hc,_⟩:=pl.isList
   exact ⟨_,PySem.W.kitx_list,⟨o,ho,hc⟩,fun z=>nomatch z⟩
  | tuple l =>
   obtain ⟨a,xs,rfl,q,_⟩:=hd.tup_inv
   cases rx
   obtain ⟨its,_,pl,_⟩:=I.tuple q
   obtain ⟨o,ho,hc,_⟩:=pl
   exact ⟨_,PySem.W.kitx_tuple,⟨o,ho,hc⟩,fun z=>nomatch z⟩
  | dict l =>
   obtain ⟨a,rfl,⟨kvs,q,_⟩|⟨xs,q,_⟩⟩:=hd.dct_inv
   ·cases rx
    obtain ⟨_,_,vs,_,p⟩:=(show ObjOk X.prog X.w H s.heap a (.dK kvs) from I.hok a _ q)
    obtain ⟨o,es,ep,h1,h2,_⟩:=p
    exact ⟨_,PySem.W.kitx_dict,⟨o,h1,h2.1⟩,fun z=>nomatch z⟩
   ·cases rx
    obtain ⟨⟨_,es,ep,⟨o,h1,h2,_⟩,_⟩,_⟩:=(show ObjOk X.prog X.w H s.heap a (.ext (DX a xs)) from I.hok a _ q)
    exact ⟨_,PySem.W.kitx_dict,⟨o,h1,h2.1⟩,fun z=>nomatch z⟩
def rIsAny (K:PySem.W.Frag):List V→Hp→VK→Prop:=fun xs H Q => ∃ (d:PyData) (x:V) (a:Addr) (ns:List String) (b:Bool),xs=[x,.ref a]∧H a=some (.tup (ns.map V.ty))∧Is K H d x∧PySem.W.kitAny K (.type (tyD d)) (ns.map Value.type)=some b∧Q (.bl b) H
theorem call_isAny:CallR X (.builtin "isinstance") (rIsAny X.K):=by
 intro pins s σ H xs us Q I r h
 obtain ⟨d,x,a,ns,b,rfl,ha,hd,e,q⟩:=h
 obtain ⟨u,c,rfl,rx,rc⟩:=vals2 r
 cases rc
 obtain ⟨its,rv,pl,_⟩:=I.tuple (SqT.of ha)
 obtain ⟨⟨cls,dd,data,sl⟩,ho,hc,n,hdt⟩:=pl
 simp only at hc hdt
 subst hc hdt
 rw [vals_ty rv] at ho
 obtain ⟨HP,Z,hp,hne⟩:=kit_D I hd rx
 exact PySem.W.kia_tup Z I.kIn hp ho e hne fun tk=>⟨.bl b,H,I.tok tk,rfl,q⟩
theorem vals_bools : ∀ {bs:List Bool}{us:List Value},Vals (bs.map V.bl) us→LSm.BoolsAre us bs
 | [],_,h=>by cases h;exact .nil
 | b::bs,_,h=>by
  cases h with
  | cons r t=>cases r;exact .cons b (vals_bools t)
def rAll (K:PySem.W.Frag):List V→Hp→VK→Prop:=fun xs H Q => ∃ (a:Addr) (bs:List Bool),xs=[.ref a]∧SqL K H a (bs.map V.bl)∧Q (.bl (bs.all id)) H
theorem call_all (hc:X.calm=true):CallR X (.builtin "all") (rAll X.K):=by
 intro pins s σ H xs us Q I r h
 obtain ⟨a,bs,rfl,ha,q⟩:=h
 obtain ⟨u,rfl,rx⟩:=vals1 r
 cases rx
 obtain ⟨its,rv,pl,_⟩:=I.list ha
 have hl:=pl.isList
 have hb:=vals_bools rv
 have hlt:a<s.heap.objs.size:=pl.lt
 refine call_all_walk (wpAny_pyIter_list hl ?_)
 refine ⟨s.heap.objs.size,[s.heap.objs.size,a],[s.heap.objs.size],its.toArray.size,_,_,fun i=>(bs[i]?).getD true,rfl,Walks.list (A:=X.A.in1) (I.ok.hd hc) _ a (Nat.ne_of_lt hlt) its.toArray,
  ⟨⟨_,Heap.get?_push_size _ rfl,rfl,rfl⟩,hl.push _⟩,fun i v s' Q' E' hP hQ=>?_,fun h' tk hk=>?_⟩
 ·obtain ⟨b,e,rfl⟩:=hb.get i v (by simpa using hP)
  simp only [e,Option.getD_some] at hQ
  exact wpAny_truthy_bool hQ
 ·have hlen:its.toArray.size=bs.length:=by rw [List.size_toArray];exact hb.length
  have e:((List.range its.toArray.size).all fun i=>(bs[i]?).getD true)=bs.all id:=by
   rw [hlen,Bool.eq_iff_iff,List.all_eq_true,List.all_eq_true]
   constructor
   ·intro z b hb'
    obtain ⟨i,hi,rfl⟩:=List.getElem_of_mem hb'
    have:=z i (List.mem_range.mpr hi)
    simpa [hi] using this
   ·intro z i hi
    have hi':=List.mem_range.mp hi
    simpa [hi'] using z _ (List.getElem_mem hi')
  rw [e]
  refine ⟨.bl (bs.all id),H,I.kept (t':=tk) (fun b o z=>hk b o (fun hm=>?_) (Heap.get?_push_of_some _ z)),rfl,q⟩
  rw [List.mem_singleton.mp hm] at z
  exact Nat.lt_irrefl _ (Heap.lt_size z)
theorem preSum_list : ∀ (ns:List Int) (n:Nat),n≤ns.length→preSum (fun i=>(ns[i]?).getD 0) n=(ns.take n).sum
 | ns,0,_=>by simp [preSum]
 | ns,n+1,h=>by
  have hn:n<ns.length:=h
  have e:(ns[n]?).getD 0=ns[n]:=by rw [List.getElem?_eq_getElem hn];rfl
  have e2:(ns.take n++[ns[n]]).sum=(ns.take n).sum+ns[n]:=by rw [List.sum_append];simp
  rw [preSum,preSum_list ns n (Nat.le_of_lt hn),e,List.take_add_one,List.getElem?_eq_getElem hn]
  exact e2.symm
theorem ints_get : ∀ {ns:List Int}{us:List Value},Vals (ns.map V.int) us → ∀ (i:Nat) (v:Value),us[i]?=some v → ∃ t,v = .int ((ns[i]?).getD 0) t
 | [],_,h,i,v,e=>by cases h;simp at e
 | n::ns,_,h,i,v,e=>by
  cases h with
  | cons r t =>
   cases i with
   | zero =>
    obtain ⟨k,rfl⟩:=r
    have:Value.int n k=v:=by simpa using e
    exact ⟨k,by rw [← this];rfl⟩
   | succ i =>
    obtain ⟨k,hk⟩:=ints_get t i v (by simpa using e)
    exact ⟨k,by simpa using hk⟩
def rSum (K:PySem.W.Frag):List V→Hp→VK→Prop:=fun xs H Q => ∃ (a:Addr) (ns:List Int),xs=[.ref a]∧(SqL K H a (ns.map V.int)∨SqT K H a (ns.map V.int))∧Q (.int ns.sum) H
theorem call_sum (hc:X.calm=true):CallR X (.builtin "sum") (rSum X.K):=by
 intro pins s σ H xs us Q I r h
 obtain ⟨a,ns,rfl,ha,q⟩:=h
 obtain ⟨u,rfl,rx⟩:=vals1 r
 cases rx
 have fin : ∀ (its:List Value) (h':Heap) (tk t':Nat),its.length=ns.length→(∀ b o,s.heap.get? b=some o→h'.get? b=some o)→EP X pins σ Q (.int (preSum (fun i=>(ns[i]?).getD 0) its.toArray.size) t') { s with heap:=h',toks:=tk }:=fun its h' tk t' hl hk=>by
  have e:preSum (fun i=>(ns[i]?).getD 0) its.toArray.size=ns.sum:=by
   rw [List.size_toArray,hl,preSum_list ns _ (Nat.le_refl _),List.take_length]
  rw [e]
  exact ⟨.int ns.sum,H,I.kept (t':=tk) hk,⟨t',rfl⟩,q⟩
 have old : ∀ {h':Heap}{ob:Obj},(∀ b o,b ∉ [s.heap.objs.size]→(s.heap.push ob).get? b=some o→h'.get? b=some o) → ∀ b o,s.heap.get? b=some o→h'.get? b=some o:=fun hk b o z =>
  hk b o (fun hm=>by rw [List.mem_singleton.mp hm] at z;exact Nat.lt_irrefl _ (Heap.lt_size z)) (Heap.get?_push_of_some _ z)
 rcases ha with ha|ha
 ·obtain ⟨its,rv,pl,_⟩:=I.list ha
  have hl:=pl.isList
  have hlt:a<s.heap.objs.size:=pl.lt
  have hlen:its.length=ns.length:=by rw [← rv.length,List.length_map]
  refine call_sum_walkG (wpAny_pyIter_list hl ?_)
  refine ⟨s.heap.objs.size,[s.heap.objs.size,a],[s.heap.objs.size],its.toArray.size,_,_,fun i=>(ns[i]?).getD 0,rfl,Walks.list (A:=X.A.in1) (I.ok.hd hc) _ a (Nat.ne_of_lt hlt) its.toArray,
   ⟨⟨_,Heap.get?_push_size _ rfl,rfl,rfl⟩,hl.push _⟩,fun b hb=>?_,fun i v hP=>ints_get rv i v (by simpa using hP),fun h' tk t' hk=>fin its h' tk t' hlen (old hk)⟩
  have hb':b=s.heap.objs.size∨b=a:=by simpa using hb
  rw [Heap.size_push]
  rcases hb' with rfl|rfl
  ·exact Nat.lt_succ_self _
  ·exact Nat.lt_succ_of_lt hlt
 ·obtain ⟨its,rv,pl,_⟩:=I.tuple ha
  have hl:s.heap.IsTuple a its.toArray:=pl
  have hlt:a<s.heap.objs.size:=IsTup.lt pl
  have hlen:its.length=ns.length:=by rw [← rv.length,List.length_map]
  refine call_sum_walkG (wpAny_pyIter_tuple hl ?_)
  refine ⟨s.heap.objs.size,[s.heap.objs.size,a],[s.heap.objs.size],its.toArray.size,_,_,fun i=>(ns[i]?).getD 0,rfl,Walks.tuple (A:=X.A.in1) (I.ok.hd hc) _ a (Nat.ne_of_lt hlt) its.toArray,
   ⟨⟨_,Heap.get?_push_size _ rfl,rfl,rfl⟩,pl.push _⟩,fun b hb=>?_,fun i v hP=>ints_get rv i v (by simpa using hP),fun h' tk t' hk=>fin its h' tk t' hlen (old hk)⟩
  have hb':b=s.heap.objs.size∨b=a:=by simpa using hb
  rw [Heap.size_push]
  rcases hb' with rfl|rfl
  ·exact Nat.lt_succ_self _
  ·exact Nat.lt_succ_of_lt hlt
def rSorted (K:PySem.W.Frag):List V→Hp→VK→Prop:=fun xs H Q => ∃ (a:Addr) (ns:List Int),xs=[.ref a]∧SqL K H a (ns.map V.int)∧ns.length<64 ∧ ∀ (p:Addr) (ns':List Int),H p=none→ns'.Perm ns→ns'.Pairwise (· ≤ ·)→Q (.ref p) (upd H p (.lst (ns'.map V.int)))
theorem call_sorted:CallR X (.builtin "sorted") (rSorted X.K):=by
 intro pins s σ H xs us Q I r h
 obtain ⟨a,ns,rfl,ha,h64,q⟩:=h
 obtain ⟨u,rfl,rx⟩:=vals1 r
 cases rx
 obtain ⟨its,rv,pl,_⟩:=I.list ha
 have hlen:its.length=ns.length:=by rw [← rv.length,List.length_map]
 refine sorted_ints pl.isList (intsAre_of rv) (by omega) fun out ns' a1 a2 a3=>?_
 obtain ⟨e,he⟩:=sortedAll_at s.heap its out
 have hl':ns'.length=ns.length:=a2.length_eq
 refine ⟨.ref (s.heap.objs.size+1),_,I.laid (t':=s.toks) (a:=s.heap.objs.size+1) (o :=.lst (ns'.map V.int)) (fun b o z=>sortedAll_old z) (Nat.le_succ _) ?_,rfl,q _ ns' (I.hok.fresh (Nat.le_succ _)) a2 a3⟩
 exact ⟨Nat.le_of_lt (small1000 (by rw [List.length_map];omega)),out.toList,e,vals_ints a1,by rw [Array.toArray_toList];exact he⟩
def iAny (K:PySem.W.Frag) (tl:TE):TI:=fun σ H R=>tl σ H fun x H1 => ∃ a,x = .ref a∧(((∃ xs,SqL K H1 a xs)∧R (Itl K a) H1)∨((∃ xs,SqT K H1 a xs)∧R (Itt K a) H1))
theorem pi_any {tg l:Expr}{tl:TE} (hl:PE X l tl):PI X tg l (iAny X.K tl):=by
 intro pins s σ H R I h
 refine thn (hl pins s σ H _ I h) fun v s1 xx110=>?_
 obtain ⟨x,H1,I1,r1,q1⟩:=xx110
 obtain ⟨a,e,q1⟩:=q1
 subst e
 cases r1
 rcases q1 with ⟨⟨xs,hq⟩,q⟩|⟨⟨xs,hq⟩,q⟩
 ·obtain ⟨its,rv,p,hz⟩:=I1.list hq
  refine wpAny_pyIter_list p.isList ?_
  refine ⟨s1.heap.objs.size,[s1.heap.objs.size],_,_,H1,rfl,I1.kept (t':=s1.toks) fun b o e=>Heap.get?_push_of_some _ e,turn_list a _,⟨_,Heap.get?_push_size _ rfl,rfl,rfl⟩,fun b hb=>?_,q⟩
  have e:b=s1.heap.objs.size:=by simpa using hb
  subst e
  exact I1.fpOk (Nat.le_refl _) (I1.hok.fresh (Nat.le_refl _))
 ·obtain ⟨its,rv,p,hz⟩:=I1.tuple hq
  refine wpAny_pyIter_tuple (show s1.heap.IsTuple a its.toArray from p) ?_
  refine ⟨s1.heap.objs.size,[s1.heap.objs.size],_,_,H1,rfl,I1.kept (t':=s1.toks) fun b o e=>Heap.get?_push_of_some _ e,turn_tuple a _,⟨_,Heap.get?_push_size _ rfl,rfl,rfl⟩,fun b hb=>?_,q⟩
  have e:b=s1.heap.objs.size:=by simpa using hb
  subst e
  exact I1.fpOk (Nat.le_refl _) (I1.hok.fresh (Nat.le_refl _))
end
theorem boot_all:bootBuiltins "all" = some (.builtin "all"):=by decide +kernel
theorem boot_sum:bootBuiltins "sum" = some (.builtin "sum"):=by decide +kernel
theorem boot_sorted:bootBuiltins "sorted" = some (.builtin "sorted"):=by decide +kernel
end L2
namespace L2
open PySem PySem.Spec PyProof.Rows
section
variable {X:Cx}
theorem itd_lst {K:PySem.W.Frag}{F:Hp}{a:Addr}{xs:List V}{l:List PyData} (hs:SqL K F a xs) (hr:Iss K F l xs):ItD K (Itl K a) F l where
 go:=fun i H s hi=>⟨xs,xs[i]'(by rw [hr.len];exact hi),s.seq hs,List.getElem?_eq_getElem _⟩
 stop:=fun H s=>⟨xs,s.seq hs,by rw [hr.len];exact Nat.le_refl _⟩
 yld:=fun i H x H' F1 s1 s2 hi hy=>by
  obtain ⟨rfl,hy⟩:=hy
  obtain ⟨d,e1,e2⟩:=hr.get' (hy xs ((s1.trans s2).seq hs))
  exact ⟨d,F1,e1,.refl s2,e2.mono s1⟩
theorem itd_tup {K:PySem.W.Frag}{F:Hp}{a:Addr}{xs:List V}{l:List PyData} (hs:SqT K F a xs) (hr:Iss K F l xs):ItD K (Itt K a) F l where
 go:=fun i H s hi=>⟨xs,xs[i]'(by rw [hr.len];exact hi),same_seqT s hs,List.getElem?_eq_getElem _⟩
 stop:=fun H s=>⟨xs,same_seqT s hs,by rw [hr.len];exact Nat.le_refl _⟩
 yld:=fun i H x H' F1 s1 s2 hi hy=>by
  obtain ⟨rfl,hy⟩:=hy
  obtain ⟨d,e1,e2⟩:=hr.get' (hy xs (same_seqT (s1.trans s2) hs))
  exact ⟨d,F1,e1,.refl s2,e2.mono s1⟩
def rngD (lo:Int) (n:Nat):List PyData:=(List.range n).map fun (k:Nat) => .int (lo+(k:Int))
theorem rngD_len (lo:Int) (n:Nat):(rngD lo n).length=n:=by simp [rngD]
theorem rngD_get {lo:Int}{n i:Nat} (h:i<n):(rngD lo n)[i]?=some (.int (lo+i)):=by simp [rngD,h]
theorem rngD_inv {lo:Int}{n i:Nat}{d:PyData} (h:(rngD lo n)[i]?=some d):i<n∧d = .int (lo+i):=by
 have hi:i<n:=by
  have:=(List.getElem?_eq_some_iff.mp h).1
  rwa [rngD_len] at this
 rw [rngD_get hi] at h
 exact ⟨hi,(Option.some.inj h).symm⟩
theorem itd_rng {K:PySem.W.Frag}{F:Hp}{lo:Int}{n:Nat}:ItD K (Itr lo n) F (rngD lo n) where
 go:=fun i H s hi=>by rw [rngD_len] at hi;exact hi
 stop:=fun H s=>by rw [rngD_len];exact Nat.le_refl _
 yld:=fun i H x H' F1 s1 s2 hi hy=>by
  obtain ⟨rfl,rfl⟩:=hy
  rw [rngD_len] at hi
  exact ⟨_,F1,rngD_get hi,.refl s2,is_int _⟩
section
variable {tg a b c:Expr}{W:WE}{Wr:WF}{p pos:Pos}
def isTy (T:String):PyData→Bool
 | .none=>false
 | .bool _=>T == "bool" || T == "int"
 | .int _=>T == "int"
 | .str _=>T == "str"
 | .list _=>T == "list"
 | .tuple _=>T == "tuple"
 | .dict _=>T == "dict"
def dSum:DC
 | [.list l],q => ∃ ns:List Int,l=ns.map .int∧q (.int ns.sum)
 | [.tuple l],q => ∃ ns:List Int,l=ns.map .int∧q (.int ns.sum)
 | _,_=>False
def seqD:PyData→Option (List PyData)
 | .list l=>some l
 | .tuple l=>some l
 | _=>none
theorem seq_elim {d:PyData}{l:List PyData}{Q:List PyData→Prop} (h:seqD d=some l) (q:Q l):(seqD d).elim False Q:=by rw [h];exact q
theorem len_seq {d:PyData}{l:List PyData}{q:PyData→Prop} (h:seqD d=some l) (hq:q (.int l.length)):dLen [d] q:=by
 cases d with
 | list m=>cases h;exact hq
 | tuple m=>cases h;exact hq
 | _=>cases h
theorem ix_seqD {d:PyData}{l:List PyData}{i:Int}{x:PyData}{q:PyData→Prop} (h:seqD d=some l) (e:atI l i=some x) (hq:q x):dIx d (.int i) q:=by
 cases d with
 | list m=>cases h;exact ⟨x,e,hq⟩
 | tuple m=>cases h;exact ⟨x,e,hq⟩
 | _=>cases h
theorem sum_seq {d:PyData}{ns:List Int}{q:PyData→Prop} (h:seqD d=some (ns.map .int)) (hq:q (.int ns.sum)):dSum [d] q:=by
 cases d with
 | list m=>cases h;exact ⟨ns,rfl,hq⟩
 | tuple m=>cases h;exact ⟨ns,rfl,hq⟩
 | _=>cases h
theorem isi_seq (d:PyData):(isTy "list" d||isTy "tuple" d)=(seqD d).isSome:=by cases d <;> rfl
def wiSeq (W:WE):WF:=fun env Q=>W env fun d e=>(seqD d).elim False fun l=>Q l e
theorem vi_seq (h:VE X a W):VI X tg a (wiSeq W):=(pi_any h).imp fun σ H R xx111=>by
 obtain ⟨M,env,F,Q,I,h,k⟩:=xx111
 refine ⟨M,env,F,_,I,h,fun d v F1 H1 e1 I1 s1 i1 h1=>?_⟩
 cases d with
 | list l =>
  obtain ⟨b,xs,rfl,hs,hr⟩:=i1.lst_inv
  exact ⟨b,rfl,.inl ⟨⟨xs,I1.fh.seq hs⟩,k l _ F1 H1 e1 I1 s1 (itd_lst hs hr) h1⟩⟩
 | tuple l =>
  obtain ⟨b,xs,rfl,hs,hr⟩:=i1.tup_inv
  exact ⟨b,rfl,.inr ⟨⟨xs,same_seqT I1.fh hs⟩,k l _ F1 H1 e1 I1 s1 (itd_tup hs hr) h1⟩⟩
 | _=>exact False.elim h1
def wiR1 (W:WE):WF:=fun env Q=>W env fun d e=>match d with
 | .int j=>(-(2^62)≤j∧j<2^62)∧Q (rngD 0 j.toNat) e
 | _=>False
theorem vi_range1 (hm:X.mg "range" = none) (ha:VE X a W) (hg:Gl X "range":=by rfl) (hs:starEach [a] X.env=[(false,eval a X.env)]:=by rfl) (hs':starEach [a] X.env=(false,eval a X.env)::starEach [] X.env:=by rfl):VI X tg (.Call (.Name "range" p) [a] [] pos) (wiR1 W) :=
 (pi_range1 hg hm (pa_cons ha pa_nil hs') hs).imp fun σ H R xx112=>by
  obtain ⟨M,env,F,Q,I,h,k⟩:=xx112
  refine ⟨M,env,F,_,I,h,fun d v F1 H1 e1 I1 s1 i1 h1=>?_⟩
  cases d with
  | int j=>exact ⟨j,by rw [i1.int_inv],h1.1.1,h1.1.2,k _ _ F1 H1 e1 I1 s1 itd_rng h1.2⟩
  | _=>exact False.elim h1
end
def Sl.seen:Sl→Sl
 | .val d => .val d
 | .new d => .val d
 | _ => .non
def capE (ix:List Nat) (k:Nat) (env:Sto):Sto:=ix.map (fun i=>(gS env i).seen)++List.replicate k .non
def wComp (ix:List Nat) (k:Nat) (Wi:WF) (G:WG) (We:WE):WF:=fun env Q=>Wi env fun ds e0=>ds.length<sizeLine ∧ ∃ P:Nat→List PyData→Sto→Prop,P 0 [] (capE ix k e0) ∧
 (∀ i d ys e,ds[i]?=some d→P i ys e→G d e fun e1=>We e1 fun y e2=>P (i+1) (ys++[y]) e2) ∧ ∀ ys e,P ds.length ys e→Q ys e0
theorem gS_map : ∀ (ix:List Nat) (f:Nat→Sl) (r:Sto) (j:Nat),gS (ix.map f++r) j=match ix[j]? with|some i=>f i|none=>gS r (j-ix.length)
 | [],f,r,j=>by simp
 | i::ix,f,r,0=>by simp [gS]
 | i::ix,f,r,j+1=>by simp only [List.map_cons,List.cons_append,gS,List.getElem?_cons_succ,List.length_cons,Nat.add_sub_add_right];exact gS_map ix f r j
theorem gS_rep (k j:Nat):gS (List.replicate k .non) j = .non:=by
 induction k generalizing j with
 | zero=>simp [gS]
 | succ k ih=>cases j with
  | zero=>simp [List.replicate_succ,gS]
  | succ j=>simp only [List.replicate_succ,gS];exact ih j
theorem vS_cap (ix:List Nat) (k:Nat) (σ:St) (j i:Nat) (h:ix[j]?=some i):vS (capS ix k σ) j=vS σ i:=by
 have hj:=(List.getElem?_eq_some_iff.mp h).1
 unfold vS capS
 rw [List.getElem?_append_left (by simpa using hj),List.getElem?_map,h]
 rfl
theorem EnvOk.cap {K:PySem.W.Frag}{M:Frm}{F H:Hp}{env:Sto}{σ:St} (I:EnvOk K M F H env σ) (ix:List Nat) (k:Nat):EnvOk K ⟨H,H,F⟩ F H (capE ix k env) (capS ix k σ) where
 len:=by simp [capE,capS]
 slot:=fun j=>by
  unfold capE
  rw [gS_map]
  cases h:ix[j]? with
  | none=>rw [gS_rep];trivial
  | some i =>
   show SlotOk K _ F H (gS env i).seen _
   rw [vS_cap ix k σ j i h]
   have S:=I.slot i
   cases q:gS env i with
   | val d=>rw [q] at S;exact S
   | non=>trivial
   | own ds=>trivial
   | pen ds=>trivial
   | new d=>rw [q] at S;obtain ⟨v,e,j⟩:=S;exact ⟨v,e,j.is newF_le⟩
   | exc C=>trivial
   | «at» v=>trivial
   | obj a0 C nm fs=>trivial
 dis:=fun i j a _ h1=>by
  unfold capE at h1
  rw [gS_map] at h1
  cases h:ix[i]? with
  | none=>rw [h,gS_rep] at h1;cases h1
  | some n =>
   rw [h] at h1
   replace h1:(gS env n).seen.mut=true:=h1
   cases q:gS env n <;> rw [q] at h1 <;> cases h1
 f0 :=.refl _
 fe:=I.fh
 fh:=I.fh
 bh :=.refl _
 new:=fun b o e => .inl e
 dom:=fun b o e=>⟨o,e⟩
theorem EnvOk.goOf {K:PySem.W.Frag}{F H F' H':Hp}{env:Sto}{σ:St} (I:EnvOk K ⟨H,H,F⟩ F' H' env σ):Go F H F' H':=⟨I.f0,I.bh,I.fh,I.new⟩
section
variable {K:PySem.W.Frag}{ix:List Nat}{n:Nat}{Wi:WF}{G:WG}{We:WE}{σ:St}{H:Hp}{R:VK}
theorem comp_lift (h:liftF K (wComp ix n Wi G We) σ H R):tComp ix n (liftI K Wi) (liftG K G) (liftE K We) σ H R:=by
 obtain ⟨M,env,F,Q,I,h,k⟩:=h
 refine ⟨M,env,F,_,I,h,fun ds J F1 H1 e1 I1 s1 jt xx114=>?_⟩
 obtain ⟨hz,P,p0,turn,fin⟩:=xx114
 refine ⟨fun i m ys σ1 H'=>m=ds.length-i∧i≤ds.length ∧ ∃ e' F' l,EnvOk K ⟨H1,H1,F1⟩ F' H' e' σ1∧Iss K F' l ys∧ys.length=i∧P i l e',⟨ds.length,by simp,Nat.zero_le _,capE ix n e1,F1,[],I1.cap ix n,iss_nil,rfl,p0⟩,?_⟩
 rintro i m ys σ1 H2 ⟨hm,hi,e2,F2,l,I2,i2,hl,p2⟩
 have g2:=I2.goOf
 by_cases he:i=ds.length
 ·subst he
  exact .inl ⟨jt.stop H2 (g2.f.trans g2.fh),by omega,new_lst (I1.go g2) (s1.trans g2.f) i2 (fin l e2 p2) k⟩
 ·have hlt:i<ds.length:=by omega
  refine .inr ⟨jt.go i H2 (g2.f.trans g2.fh) hlt,by omega,fun y σ' H' => ∃ e' F' l',EnvOk K ⟨H1,H1,F1⟩ F' H' e' σ'∧Iss K F' l' (ys++[y])∧P (i+1) l' e',
   fun y σ' H' xx113=>by obtain ⟨e',F',l',I',i',p'⟩:=xx113;exact ⟨ds.length-(i+1),by omega,rfl,hlt,e',F',l',I',i',by simp [hl],p'⟩,fun x H3 hy=>?_⟩
  obtain ⟨d,F3,hd,g,j⟩:=jt.yld i H2 x H3 F2 g2.f g2.fh hlt hy
  refine ⟨_,e2,F3,d,_,I2.go g,j,turn i d l e2 hd p2,fun F4 H4 e4 σ4 I4 s4 h4=>⟨_,e4,F4,_,I4,h4,fun d5 v5 F5 H5 e5 I5 s5 i5 h5=>?_⟩⟩
  exact ⟨e5,F5,l++[d5],I5,iss_append ((i2.mono (g.f.trans s4)).mono s5) (iss_cons i5 iss_nil),h5⟩
end
theorem vf_comp {elt target iter:Expr}{scope:Scope}{pos:Pos}{caps own:List Str}{ix:List Nat}{Wi:WF}{G:WG}{We:WE} (hc:X.calm=true) (S:CompScope X.env scope caps) (hi:VI X target iter Wi)
 (hg : ∀ pins s3 H ex,VG (blk X pins scope (caps++own) s3 H ex) target G)
 (he : ∀ pins s3 H ex,VE (blk X pins scope (caps++own) s3 H ex) elt We)
 (hix:caps.length=ix.length:=by rfl) (hcapB:(caps.zip ix).all (fun p=>X.N[p.2]?==some p.1)=true:=by rfl)
  (hs : ∀ x,foldedSetIterable iter X.env x=pure x:=by intro _;rfl):VF X (.ListComp elt [⟨target,iter,[],0⟩] scope pos) (wComp ix own.length Wi G We) :=
  (pe_comp (g:=liftG X.K G) (te:=liftE X.K We) hc S hi hg he hix hcapB hs).imp fun _ _ _ h=>comp_lift h
theorem comp_by {ix:List Nat}{k:Nat}{G:WG}{We:WE}{Q:List PyData→Sto→Prop}{ds:List PyData}{e0:Sto} (L:List PyData) (hl:L.length=ds.length) (hz:L.length<sizeLine) (Iv:Sto→Prop) (h0:Iv (capE ix k e0))
 (h : ∀ (i:Nat) d ys e,ds[i]?=some d→ys=L.take i→Iv e→G d e fun e1=>We e1 fun y e2=>ys++[y]=L.take (i+1)∧Iv e2) (q:Q L e0) :
 ds.length<sizeLine ∧ ∃ P:Nat→List PyData→Sto→Prop,P 0 [] (capE ix k e0)∧(∀ i d ys e,ds[i]?=some d→P i ys e→G d e fun e1=>We e1 fun y e2=>P (i+1) (ys++[y]) e2) ∧ ∀ ys e,P ds.length ys e→Q ys e0 :=
  ⟨by omega,fun i ys e=>ys=L.take i∧Iv e,⟨by simp,h0⟩,fun i d ys e hd hp=>h i d ys e hd hp.1 hp.2,fun ys e hp=>by rw [hp.1,← hl,List.take_length];exact q⟩
theorem snoc_take {α:Type}{L ys:List α}{y:α}{i:Nat} (e:L[i]?=some y) (h:ys=L.take i):ys++[y]=L.take (i+1):=by
 rw [h,List.take_add_one,e];rfl
def wIsi (T:String) (W:WE):WE:=fun env Q=>W env fun d e=>Q (.bool (isTy T d)) e
section
variable {a:Expr}{W:WE}{p pos pT:Pos}{T:String}{t:Str}
theorem ve_isi (hm:X.mg "isinstance" = none) (ht:X.mg t=none) (hv:bootBuiltins t=some (.type T)) (ha:VE X a W) (hk : ∀ d,PySem.W.kitOne X.K (.type (tyD d)) (.type T)=some (isTy T d):=by intro d;cases d <;> rfl)
 (hg:Gl X "isinstance":=by rfl) (hgt:Gl X t:=by rfl) (hn:t ≠ "__name__":=by decide) (hdt:(t==("__debug__" : Str))=false:=by decide)
 (hs:starEach [a,.Name t pT] X.env=(false,eval a X.env)::starEach [.Name t pT] X.env:=by rfl) (hs2:starEach [.Name t pT] X.env=(false,eval (.Name t pT) X.env)::starEach [] X.env:=by rfl) (hpl:(backTo pos (starEach [.Name t pT] X.env)).any (·.1)=false:=by rfl) :
 VE X (.Call (.Name "isinstance" p) [a,.Name t pT] [] pos) (wIsi T W) :=
 (pe_callB call_isi hg hm boot_isinstance (pa_cons ha (pa_cons (pe_bltn (v :=.ty T) hgt ht hv rfl hn hdt) pa_nil hs2) hs) (by decide) (by decide) hs hpl).imp fun σ H R xx115=>by
  obtain ⟨M,env,F,Q,I,h,k⟩:=xx115
  exact ⟨M,env,F,_,I,h,fun d v F1 H1 e1 I1 s1 i1 h1=>⟨d,v,T,isTy T d,rfl,i1.mono I1.fh,hk d,k _ _ F1 H1 e1 I1 s1 (is_bl _) h1⟩⟩
def wIsi2 (T T':String) (W:WE):WE:=fun env Q=>W env fun d e=>Q (.bool (isTy T d||isTy T' d)) e
theorem ve_isi2 {T':String}{t':Str}{pT' ptu:Pos}{x1:Nat} (hm:X.mg "isinstance" = none) (ht:X.mg t=none) (hv:bootBuiltins t=some (.type T)) (ht':X.mg t'=none) (hv':bootBuiltins t'=some (.type T')) (ha:VE X a W)
 (hk : ∀ d,PySem.W.kitAny X.K (.type (tyD d)) ([T,T'].map Value.type)=some (isTy T d||isTy T' d):=by intro d;cases d <;> rfl)
  (hg:Gl X "isinstance":=by rfl) (hgt:Gl X t:=by rfl) (hgt':Gl X t':=by rfl) (hn:t ≠ "__name__":=by decide) (hn':t' ≠ "__name__":=by decide) (hdt:(t==("__debug__" : Str))=false:=by decide) (hdt':(t'==("__debug__" : Str))=false:=by decide)
  (hs:starEach [a,.Tuple [.Name t pT,.Name t' pT'] x1 ptu] X.env=(false,eval a X.env)::starEach [.Tuple [.Name t pT,.Name t' pT'] x1 ptu] X.env:=by rfl)
  (hs2:starEach [.Tuple [.Name t pT,.Name t' pT'] x1 ptu] X.env=(false,eval (.Tuple [.Name t pT,.Name t' pT'] x1 ptu) X.env)::starEach [] X.env:=by rfl)
  (hs3:starEach [.Name t pT,.Name t' pT'] X.env=(false,eval (.Name t pT) X.env)::starEach [.Name t' pT'] X.env:=by rfl)
  (hs4:starEach [.Name t' pT'] X.env=(false,eval (.Name t' pT') X.env)::starEach [] X.env:=by rfl)
  (hpl:(backTo pos (starEach [.Tuple [.Name t pT,.Name t' pT'] x1 ptu] X.env)).any (·.1)=false:=by rfl) :
  VE X (.Call (.Name "isinstance" p) [a,.Tuple [.Name t pT,.Name t' pT'] x1 ptu] [] pos) (wIsi2 T T' W) :=
  (pe_callB call_isAny hg hm boot_isinstance (pa_cons ha (pa_cons (pe_tup (pa_cons (pe_bltn (v :=.ty T) hgt ht hv rfl hn hdt) (pa_cons (pe_bltn (v :=.ty T') hgt' ht' hv' rfl hn' hdt') pa_nil hs4) hs3)) pa_nil hs2) hs) (by decide) (by decide) hs hpl).imp fun σ H R xx116=>by
   obtain ⟨M,env,F,Q,I,h,k⟩:=xx116
   exact ⟨M,env,F,_,I,h,fun d v F1 H1 e1 I1 s1 i1 h1=>⟨szl,fun p hp=>⟨d,v,p,[T,T'],_,rfl,upd_same,(i1.mono I1.fh).mono (same_new hp),hk d,
    k _ _ F1 _ e1 (I1.go (.side I1.fh hp)) s1 (is_bl _) h1⟩⟩⟩
end
theorem c_sum (hc:X.calm=true):CallV X (.builtin "sum") dSum:=(call_sum hc).imp fun xs H Q xx117=>by
 obtain ⟨F,ds,q,s,i,h,k⟩:=xx117
 match ds,h,i with
 | [.list l],h,i =>
  obtain ⟨v,rfl,j⟩:=iss1 i
  obtain ⟨a,xs,rfl,hs,hr⟩:=j.lst_inv
  obtain ⟨ns,rfl,hq⟩:=h
  rw [hr.ints_inv] at hs
  exact ⟨a,ns,rfl,.inl (s.seq hs),k _ _ F H (.refl s) (is_int _) hq⟩
 | [.tuple l],h,i =>
  obtain ⟨v,rfl,j⟩:=iss1 i
  obtain ⟨a,xs,rfl,hs,hr⟩:=j.tup_inv
  obtain ⟨ns,rfl,hq⟩:=h
  rw [hr.ints_inv] at hs
  exact ⟨a,ns,rfl,.inr (same_seqT s hs),k _ _ F H (.refl s) (is_int _) hq⟩
def dSortF:List PyData→(List PyData→Prop)→Prop
 | [.list l],q => ∃ ns:List Int,l=ns.map .int∧ns.length<64 ∧ ∀ ns':List Int,ns'.Perm ns→ns'.Pairwise (· ≤ ·)→q (ns'.map .int)
 | _,_=>False
theorem c_sorted:CallVF X (.builtin "sorted") dSortF:=call_sorted.imp fun xs H Q xx118=>by
 obtain ⟨F,ds,q,s,i,h,k⟩:=xx118
 match ds,h,i with
 | [.list l],h,i =>
  obtain ⟨v,rfl,j⟩:=iss1 i
  obtain ⟨a,xs,rfl,hs,hr⟩:=j.lst_inv
  obtain ⟨ns,rfl,hz,hq⟩:=h
  rw [hr.ints_inv] at hs
  exact ⟨a,ns,rfl,s.seq hs,hz,fun p ns' hp h1 h2=>k _ p _ F _ (.side s hp) hp (same_none s hp) upd_same (iss_ints ns') (hq ns' h1 h2)⟩
def dAll:DC
 | [.list l],q => ∃ bs:List Bool,l=bs.map .bool∧q (.bool (bs.all id))
 | _,_=>False
theorem Iss.bools_inv {K:PySem.W.Frag}{H:Hp} : ∀ {bs:List Bool}{xs:List V},Iss K H (bs.map .bool) xs→xs=bs.map V.bl
 | [],_,h=>h.nil_inv
 | n::ns,_,h=>by
  obtain ⟨x,r,rfl,p,q⟩:=h.cons_inv
  rw [p.bl_inv,Iss.bools_inv q];rfl
theorem c_all (hc:X.calm=true):CallV X (.builtin "all") dAll:=(call_all hc).imp fun xs H Q xx119=>by
 obtain ⟨F,ds,q,s,i,h,k⟩:=xx119
 match ds,h,i with
 | [.list l],h,i =>
  obtain ⟨v,rfl,j⟩:=iss1 i
  obtain ⟨a,xs,rfl,hs,hr⟩:=j.lst_inv
  obtain ⟨bs,rfl,hq⟩:=h
  rw [hr.bools_inv] at hs
  exact ⟨a,bs,rfl,s.seq hs,k _ _ F H (.refl s) (is_bl _) hq⟩
end
def startE (N:List Str) (ds:List PyData):Sto:=ds.map .val++List.replicate (N.length-ds.length) .non
theorem gS_val : ∀ (ds:List PyData) (r:Sto) (j:Nat),gS (ds.map .val++r) j=match ds[j]? with|some d => .val d|none=>gS r (j-ds.length)
 | [],r,j=>by simp
 | i::ix,r,0=>by simp [gS]
 | i::ix,r,j+1=>by simp only [List.map_cons,List.cons_append,gS,List.getElem?_cons_succ,List.length_cons,Nat.add_sub_add_right];exact gS_val ix r j
theorem vS_start {N:List Str}{vs:List V}{j:Nat}{v:V} (h:vs[j]?=some v):vS (start N vs) j=some v:=by
 have hj:=(List.getElem?_eq_some_iff.mp h).1
 unfold vS start
 rw [List.getElem?_append_left (by simpa using hj),List.getElem?_map,h]
 rfl
theorem env_start {K:PySem.W.Frag}{F H:Hp}{N:List Str}{ds:List PyData}{vs:List V} (s:Same F H) (i:Iss K F ds vs):EnvOk K ⟨H,H,F⟩ F H (startE N ds) (start N vs) where
 len:=by simp [startE,start,i.len]
 slot:=fun j=>by
  unfold startE
  rw [gS_val]
  cases h:ds[j]? with
  | none=>rw [gS_rep];trivial
  | some d =>
   obtain ⟨x,e1,e2⟩:=i.get h
   exact ⟨x,vS_start e1,e2⟩
 dis:=fun i j a _ h1=>by
  unfold startE at h1
  rw [gS_val] at h1
  cases h:ds[i]? with
  | none=>rw [h,gS_rep] at h1;cases h1
  | some d=>rw [h] at h1;cases h1
 f0 :=.refl _
 fe:=s
 fh:=s
 bh :=.refl _
 new:=fun b o e => .inl e
 dom:=fun b o e=>⟨o,e⟩
section
variable {P:Program}{w:World}{K:PySem.W.Frag}{mg:Str→Option Value}{base:Heap}
theorem RetOk.is {F H F' H':Hp}{env:Sto}{σ:St}{r:Ret}{v:V} (I:EnvOk K ⟨H,H,F⟩ F' H' env σ) (h:RetOk K ⟨H,H,F⟩ F' H' r v) : ∃ F'',Go F H F'' H'∧Is K F'' r.data v:=by
 have g:=I.goOf
 cases r with
 | val d=>exact ⟨F',g,h⟩
 | new d=>exact ⟨F',g,IsN.is newF_le h⟩
 | own ds =>
  obtain ⟨a,vs,rfl,h1,h2,h3,h4,h5⟩:=h
  have s:Same F' (upd F' a (.lst vs)):=same_new h2
  refine ⟨upd F' a (.lst vs),⟨g.f.trans s,g.h,fun b o e=>?_,fun b o e=>?_⟩,is_lst (SqL.of upd_same) (h5.mono s)⟩
  ·by_cases z:b=a
   ·subst z;rw [upd_same] at e;rw [h1];exact .of e
   ·rw [upd_ne z] at e;exact g.fh b o e
  ·by_cases z:b=a
   ·subst z;exact .inr h4
   ·rw [upd_ne z] at e;exact g.new b o e
theorem Def.vok {x:Str}{st:Stmt}{N ps:List Str}{k:Nat}{sp:DC} (F:Def K mg x st ps) (S:FnScope N ps (defScope st)) (len : ∀ ds q,sp ds q→ds.length=ps.length)
 (hbody : ∀ (f:Addr) (cdv:Value) (A:Around) (outer:List Env) (s:Shared) (H:Hp) (E:XK),Room k (A.deeper (envOfC x (defScope st) s.heap.objs.size f cdv)) → ∀ ds q,sp ds q →
 ∃ W,VSs (cxOf CX0 P w K mg base N x (defScope st) f cdv A outer s H E).nox (defBody st) W∧W { nx:=fun _=>q .none,rt:=fun r _=>q r.data } (startE N ds)):Ok P w K mg base x (k+1) ps (PSp K sp) :=
  F.ok S (fun vs H Q E xx121=>by obtain ⟨F,ds,q,_,i,h,_⟩:=xx121;rw [i.len];exact len ds q h) fun f cdv A outer s H vs Q E hr xx120=>by
   obtain ⟨F,ds,q,sm,i,h,kk⟩:=xx120
   obtain ⟨W,hW,hq⟩:=hbody f cdv A outer s H E hr ds q h
   refine ⟨_,hW,⟨H,H,F⟩,startE N ds,F,_,env_start sm i,hq,⟨fun e1 F1 H1 σ1 I1 s1 q1=>kk _ _ F1 H1 I1.goOf is_non q1,fun r v e1 F1 H1 σ1 I1 s1 r1 q1=>?_,fun _ _ _ _ _ _ h=>h.elim,fun _ _ _ _ _ _ h=>h.elim⟩⟩
   obtain ⟨F2,g,j⟩:=r1.is I1
   exact kk _ _ F2 H1 g j q1
def spLaw (K:PySem.W.Frag):Sp:=fun vs H Q _ => ∃ (a:Addr) (ns:List Int),vs=[.ref a]∧SqL K H a (ns.map V.int)∧ns.length≤63 ∧ ∀ H',Q (.bl true) H'
theorem Fun.vlaw {x:Str}{st:Stmt}{f:Addr}{fd:FuncData}{N ps:List Str}{k:Nat} (F:Fun K x x st f fd) (S:FnScope N ps (defScope st)) (hp:ps.length=1)
 (hbody : ∀ (cdv:Value) (A:Around) (outer:List Env) (s:Shared) (H:Hp) (E:XK),Room k (A.deeper (envOfC x (defScope st) s.heap.objs.size f cdv)) → ∀ ns:List Int,ns.length≤63 →
 ∃ W,VSs (cxOf CX0 P w K mg base N x (defScope st) f cdv A outer s H E).nox (defBody st) W∧W { nx:=fun _=>False,rt:=fun r _=>r.data = .bool true } (startE N [.list (ns.map .int)])):FnOk P w K mg base CX0 (k+1) f fd ps (spLaw K):=by
  refine F.ok S (fun vs H Q E h=>?_) (fun cdv A outer s H vs Q E hr h=>?_)
  ·obtain ⟨a,ns,rfl,_⟩:=h
   exact hp.symm
  ·obtain ⟨a,ns,rfl,hS,hlen,kk⟩:=h
   have hi:Iss K H [.list (ns.map .int)] [.ref a]:=iss_cons (is_lst hS (iss_ints ns)) iss_nil
   obtain ⟨W,hW,hq⟩:=hbody cdv A outer s H E hr ns hlen
   refine ⟨_,hW,⟨H,H,H⟩,startE N _,H,_,env_start (.refl _) hi,hq,⟨fun e1 F1 H1 σ1 I1 s1 q1=>q1.elim,fun r v e1 F1 H1 σ1 I1 s1 r1 q1=>?_,fun _ _ _ _ _ _ h=>h.elim,fun _ _ _ _ _ _ h=>h.elim⟩⟩
   obtain ⟨F2,g,j⟩:=r1.is I1
   have q1:r.data = .bool true:=q1
   rw [q1] at j
   rw [j.bl_inv]
   exact kk H1
end
end L2
namespace L2
open PySem PySem.Spec PyProof.Rows
section
variable (K:PySem.W.Frag)
def liftN (W:WE):TE:=fun σ H R => ∃ M env F Q,EnvOk K M F H env σ∧W env Q ∧ ∀ d v F' H' env',EnvOk K M F' H' env' σ→Same F F'→IsN K (newF M F') d v→Q d env'→R v H'
def liftFN (W:WF):TE:=fun σ H R => ∃ M env F Q,EnvOk K M F H env σ∧W env Q ∧ ∀ a vs ds F' H' env',EnvOk K M F' H' env' σ→Same F F'→H' a=some (.lst vs)→F' a=none→M.B a=none→M.He a=none →
 (∀ i,(gS env' i).mut=true→vS σ i≠some (.ref a))→IssN K (newF M F') ds vs→Q ds env'→R (.ref a) H'
structure EndsT (M:Frm) (DD:WEnds) (D:Ends):Prop where
 nx : ∀ env' F' H' σ',EnvOk K M F' H' env' σ'→DD.nx env'→D.nx σ' H'
 rt : ∀ r v env' F' H' σ',EnvOk K M F' H' env' σ'→RetOk K M F' H' r v→DD.rt r env'→D.rt v H'
 bk : ∀ env' F' H' σ',EnvOk K M F' H' env' σ'→DD.bk env'→D.bk σ' H'
 ct : ∀ env' F' H' σ',EnvOk K M F' H' env' σ'→DD.ct env'→D.ct σ' H'
def liftST (W:WS):TS:=fun D σ H => ∃ M env F DD,EnvOk K M F H env σ∧W DD env∧EndsT K M DD D
end
def VN (X:Cx) (e:Expr) (W:WE):Prop:=PE X e (liftN X.K W)
def VFN (X:Cx) (e:Expr) (W:WF):Prop:=PE X e (liftFN X.K W)
def VST (X:Cx) (st:Stmt) (W:WS):Prop:=PS X st (liftST X.K W)
def VSsT (X:Cx) (st:List Stmt) (W:WS):Prop:=PSs X st (liftST X.K W)
section
variable {X:Cx}{a b e:Expr}{W:WE}{Wf:WF}{pos p:Pos}
end
section
variable {P:Program}{w:World}{K:PySem.W.Frag}{mg:Str→Option Value}{base:Heap}
end
section
variable {X:Cx}{c e:Expr}{Tc:WT}{W:WE}{Wt Wu:WS}{st:Stmt}{sts rest:List Stmt}{pos pos':Pos}
mutual
def immD:PyData→Bool
 | .list _=>false
 | .tuple l=>immAll l
 | .dict _=>false
 | _=>true
def immAll:List PyData→Bool
 | []=>true
 | d::l=>immD d&&immAll l
end
mutual
theorem Is.imm {K:PySem.W.Frag}{F F':Hp} (s : ∀ b o,F b=some o→(∀ xs,o ≠ .lst xs)→F' b=some o) : ∀ {d:PyData}{v:V},immD d=true→Is K F d v→Is K F' d v
 | .none,_,_,h=>by unfold Is at h ⊢;exact h
 | .bool _,_,_,h=>by unfold Is at h ⊢;exact h
 | .int _,_,_,h=>by unfold Is at h ⊢;exact h
 | .str _,_,_,h=>by unfold Is at h ⊢;exact h
 | .list l,_,m,h=>by unfold immD at m;cases m
 | .dict l,_,m,h=>by unfold immD at m;cases m
 | .tuple l,_,m,h=>by
  unfold immD at m
  unfold Is at h ⊢
  obtain ⟨a,xs,e,q,r⟩:=h
  refine ⟨a,xs,e,?_,Iss.imm s m r⟩
  rcases q with (q|⟨o,q⟩)|q
  ·exact .inl (.inl (s _ _ q (fun _ z=>nomatch z)))
  ·exact .inl (.inr ⟨o,s _ _ q (fun _ z=>nomatch z)⟩)
  ·exact .inr q
theorem Iss.imm {K:PySem.W.Frag}{F F':Hp} (s : ∀ b o,F b=some o→(∀ xs,o ≠ .lst xs)→F' b=some o) : ∀ {l:List PyData}{xs:List V},immAll l=true→Iss K F l xs→Iss K F' l xs
 | [],_,_,h=>by unfold Iss at h ⊢;exact h
 | d::l,_,m,h=>by
  unfold immAll at m
  rw [Bool.and_eq_true] at m
  unfold Iss at h ⊢
  obtain ⟨x,r,e,p,q⟩:=h
  exact ⟨x,r,e,Is.imm s m.1 p,Iss.imm s m.2 q⟩
end
end
section
variable {X:Cx}
end
end L2
namespace L2
open PySem PySem.Spec PyProof.Rows
section
variable {X:Cx}{elt target iter:Expr}{scope:Scope}{pos:Pos}{caps own:List Str}{ix:List Nat}{wi:TI}{g:TG}{te:TE}
theorem ps_comp {i:Nat}{y:Str}{py spos:Pos} (hN:X.N.Nodup) (hiy:X.N[i]?=some y) (hy:X.env.scope.names.lookup y=some .local) (hsw:swapsWith (.ListComp elt [⟨target,iter,[],0⟩] scope pos) (some (.Name y py)) spos.line X.env=pure true) (hc:X.calm=true) (S:CompScope X.env scope caps) (hi:PI X target iter wi)
 (hg : ∀ pins s3 H ex,PG (blk X pins scope (caps++own) s3 H ex) target g)
 (he : ∀ pins s3 H ex,PE (blk X pins scope (caps++own) s3 H ex) elt te)
 (hix:caps.length=ix.length:=by rfl) (hcapB:(caps.zip ix).all (fun p=>X.N[p.2]?==some p.1)=true:=by rfl)
  (hs : ∀ x,foldedSetIterable iter X.env x=pure x:=by intro _;rfl):PS X (.Assign [.Name y py] (.ListComp elt [⟨target,iter,[],0⟩] scope pos) spos) (tAsg (tComp ix own.length wi g te) (gName i)):=by
  intro pins s σ H D I h
  rw [exec_Assign_Name_used _ _ _ _ hsw]
  refine wpAny_bind (wpAny_standAt (wpAny_bind ?_))
  show wpAny _ _ (do let _ ← comprehension (.ListComp elt [⟨target,iter,[],0⟩] scope pos) scope X.env _ (newList []) false (eval iter X.env) (some (assign (.Name y py) X.env))) _ _ s
  refine wpAny_bind (thn (comp_core0 (use:=some (assign (.Name y py) X.env)) (Q0:=fun _ s'=>SP X pins D .next s') hc S hi hg he hix hcapB hs I h fun D' C s6 H6 m6 ns6 IX c1 c2 c3 c4 c5 c6 q=>?_) (fun _ s' hq=>wpAny_pure (wpAny_pure hq)))
  obtain ⟨oC,esC,epC,hoC,hdC,rC⟩:=id ns6
  have IX':Inv X (pins++[(C,oC)]) σ H6 s6:=IX.pins_of fun p hp=>by
   rcases List.mem_append.mp hp with z|z
   ·exact IX.pin p (List.mem_append_right _ z)
   ·rw [List.mem_singleton.mp z]
    exact ⟨hoC,c1,c2,c3,fun v q=>by rw [hdC] at q;cases q⟩
  show wpAny _ _ (assign (.Name y py) X.env (.ref D')) _ _ _
  refine wpAny_assign_Name (store_ok IX' hN hiy (Or.inl hy) (v :=.ref D') rfl (fun s7 I7=>?_) (.inr hy))
  have gC:s7.heap.get? C=some oC:=(I7.pin (C,oC) (List.mem_append_right _ (List.mem_append_right _ (List.mem_singleton.mpr rfl)))).1
  refine ⟨m6,⟨oC,esC,epC,gC,hdC,rC⟩,fun h' sb=>?_⟩
  exact ⟨_,_,I7.unpinned.turned (t':=s7.toks) (it:=C) (fun b o hb q=>sb.extBut b o hb q) c1 c2 c4 c5 c6,q⟩
end
section
variable {K:PySem.W.Frag}{ix:List Nat}{n:Nat}{Wi:WF}{G:WG}{We:WE}{σ:St}{H:Hp}{R:VK}
end
section
variable {X:Cx}{elt target iter:Expr}{scope:Scope}{pos py spos:Pos}{caps own:List Str}{ix:List Nat}{Wi:WF}{G:WG}{We:WE}{i:Nat}{y:Str}
end
end L2
namespace L2
open PySem PySem.Spec PyProof.Rows
section
variable {X:Cx}{tg:Expr}
end
def offA (H:Hp) (a:Addr):Hp:=fun b=>if b=a then none else H b
section
variable {X:Cx}
end
section
variable {P:Program}{w:World}{K:PySem.W.Frag}{mg:Str→Option Value}{base:Heap}
end
end L2
namespace L2
open PySem PySem.Spec PyProof.Rows
section
variable {X:Cx}{elt target iter:Expr}{scope:Scope}{pos py spos:Pos}{caps own:List Str}{ix:List Nat}{Wi:WF}{G:WG}{We:WE}{i i0 j0:Nat}{y:Str}
end
end L2
namespace L2
open PySem PySem.Spec PyProof.Rows
theorem ObjOk.obj {P:Program}{w:World}{H:Hp}{h:Heap}{a:Addr}{o:HO} (x:ObjOk P w H h a o) : ∃ u,h.get? a=some u:=by
 cases o with
 | lst xs=>obtain ⟨_,_,_,_,e⟩:=x;exact ⟨_,e⟩
 | tup xs=>obtain ⟨_,_,_,ob,e,_⟩:=x;exact ⟨_,e⟩
 | dK kvs=>obtain ⟨_,_,_,_,o,_,_,e,_⟩:=x;exact ⟨_,e⟩
 | dT kvs=>obtain ⟨_,_,_,_,o,_,_,e,_⟩:=x;exact ⟨_,e⟩
 | set S n=>obtain ⟨o,_,_,_,e,_⟩:=x;exact ⟨_,e⟩
 | ins C dx fs=>obtain ⟨_,_,_,e,_⟩:=x;exact ⟨_,e⟩
 | own y=>exact x
 | xd fs=>obtain ⟨_,⟨_,_,_,e,_⟩,_⟩:=x;exact ⟨_,e⟩
 | rng lo hi=>obtain ⟨_,_,_,e⟩:=x;exact ⟨_,e⟩
 | frz ob u=>obtain ⟨e,_⟩:=x;exact ⟨_,e⟩
 | tbl ps=>exact ⟨_,(show h.get? a=some _ from x)⟩
 | met f y=>exact ⟨_,(show h.get? a=some _ from x)⟩
 | ext φ=>obtain ⟨_,e,_⟩:=x;exact e
def CX1 (P:Program) (w:World):CXT:=fun outer H s E e s' => ∃ (ea C:Addr) (a0:Value) (B:Heap) (H':Hp),e = .ref ea∧Heap.FlyingW B outer ea (.ref C) a0 s'.heap∧s'.os=s.os∧AllBare s'.gens ∧
 Un (frs outer) [] H H' s.heap s'.heap∧HOk P w H' s'.heap∧(∀ b u,H' b=some u → ∃ o,B.get? b=some o)∧(∀ b o,s.heap.get? b=some o→b ∉ frs outer → ∃ o',B.get? b=some o')∧E (.ref C) none H'
section
variable {X:Cx}{pins:List (Addr×Obj)}{σ:St}{H:Hp}{s:Shared}
theorem land (I:Inv X pins σ H s) (hex:X.ex=[]) (hst:X.stack=X.env::X.outer) (hfr:X.env.frame=some X.env.locals) {h'':Heap}
 (kB : ∀ b o,s.heap.get? b=some o→b ∉ frs X.stack→((∃ o',X.s₀.heap.get? b=some o') ∨ ∃ u,H b=some u)→h''.get? b=some o)
 (sl : ∀ b o,s.heap.get? b=some o→(∀ vs,o.data ≠ .fields vs) → ∃ sl,h''.get? b=some { o with slots:=sl }):Un X.fs [] X.H₀ H X.s₀.heap h''∧HOk X.prog X.w H h'':=by
  have fsOf : ∀ b,b ∈ frs X.stack→b=X.env.locals∨b ∈ X.fs:=fun b hb=>by
   rcases List.mem_cons.mp (I.stkSub b hb) with z|z
   ·exact .inl z
   ·exact .inr z
  have old : ∀ b o,X.s₀.heap.get? b=some o→b ∉ X.fs→b ∉ frs X.stack:=fun b o q n hb=>by
   rcases fsOf b hb with z|z
   ·exact absurd (Heap.lt_size q) (Nat.not_lt.mpr (z ▸ I.ok.above))
   ·exact n z
  have nx : ∀ b,b ∉ X.ex:=fun b=>by rw [hex];simp
  have frame : ∀ b ∈ X.fs,∃ o,s.heap.get? b=some o ∧ ∀ vs,o.data ≠ .fields vs:=fun b hb=>by
   have hb':b ∈ frs X.stack:=by
    rw [hst]
    unfold frs
    rw [List.filterMap_cons,hfr]
    exact List.mem_cons_of_mem _ hb
   obtain ⟨_,o,ho,hd⟩:=I.stack.mem hb'
   exact ⟨o,ho,hd⟩
  refine ⟨⟨fun b o q n hb _=>kB b o (I.base.keep b o q n hb (nx b)) (old b o q hb) (.inl ⟨o,q⟩),fun b o q n hb _=>?_,fun b o q n _=>I.base.free b o q n (nx b),fun b o q _=>?_,I.base.tups,I.base.frzs,I.base.tbls⟩,fun a u e=>?_⟩
  ·obtain ⟨s1,h1⟩:=I.base.slot b o q n hb (nx b)
   obtain ⟨o',ho',hd⟩:=frame b hb
   rw [h1] at ho';cases ho'
   obtain ⟨s2,h2⟩:=sl b _ h1 hd
   exact ⟨s2,h2⟩
  ·obtain ⟨o',h1⟩:=I.base.there b o q (nx b)
   by_cases hb:b ∈ X.fs
   ·obtain ⟨o2,ho2,hd⟩:=frame b hb
    obtain ⟨s2,h2⟩:=sl b _ ho2 hd
    exact ⟨_,h2⟩
   ·exact ⟨o',kB b o' h1 (old b o q hb) (.inl ⟨o,q⟩)⟩
  ·have nf : ∀ b v,H b=some v→b ∉ frs X.stack:=fun b v eb hb=>by rw [I.stkFree b hb] at eb;cases eb
   refine (I.hok a u e).stay (fun c ob hc z=>?_) (fun c z=>z) (fun c xs z=>z)
   rcases hc with hc|hc
   ·subst hc;exact kB _ _ z (nf _ _ e) (.inr ⟨_,e⟩)
   ·exact kB _ _ z (nf _ _ hc) (.inr ⟨_,hc⟩)
end
def Throws (X:Cx) (E:XK):Prop := ∀ (pins:List (Addr×Obj)) (σ:St) (H:Hp) (s:Shared) (h':Heap) (e C:Addr) (args:List Value),Inv X pins σ H s→Heap.MadeExcOf s.heap h' e (.ref C) args→E (.ref C) none H→X.xe (.ref e) { s with heap:=h' }
section
variable {P:Program}{w:World}{K:PySem.W.Frag}{mg:Str→Option Value}{base:Heap}{N:List Str}{qual:Str}{scope:Scope}{f:Addr}{cd:Value}{A:Around}{outer:List Env}{s:Shared}{H:Hp}{E:XK}
theorem throws_cx:Throws (cxOf (CX1 P w) P w K mg base N qual scope f cd A outer s H E) E:=by
 intro pins σ H1 s1 h' e C args I hx q
 have hin : ∀ env ∈ (cxOf (CX1 P w) P w K mg base N qual scope f cd A outer s H E).stack,∀ b,env.frame=some b→b ∈ frs (cxOf (CX1 P w) P w K mg base N qual scope f cd A outer s H E).stack:=fun env he b hb=>List.mem_filterMap.mpr ⟨env,he,hb⟩
 refine wpAny_leaves_madeW (base:=PySem.W.hideAll s1.heap (frs (cxOf (CX1 P w) P w K mg base N qual scope f cd A outer s H E).stack)) (h:=s1.heap) (s:={ s1 with heap:=h' }) I.ok.frames rfl (fun b o z=>PySem.W.of_hideAll _ z) (PySem.W.funFrames_hide I.stack hin) hx fun h'' t x1 x2 x3 x4=>?_
 have kB : ∀ b o,s1.heap.get? b=some o→b ∉ frs (cxOf (CX1 P w) P w K mg base N qual scope f cd A outer s H E).stack→h''.get? b=some o:=fun b o z n=>x1.1 b o (PySem.W.hideAll_get _ z n)
 obtain ⟨u,ok⟩:=land I rfl rfl rfl (fun b o z n _=>kB b o z n) (fun b o z d=>x4 b o (hx.keeps b o z) d)
 have nf : ∀ b v,H1 b=some v→b ∉ frs (cxOf (CX1 P w) P w K mg base N qual scope f cd A outer s H E).stack:=fun b v eb hb=>by rw [I.stkFree b hb] at eb;cases eb
 refine ⟨e,C,.ref t,_,H1,rfl,x1,I.os,I.bare,u,ok,fun b v eb=>?_,fun b o z n=>?_,q⟩
 ·obtain ⟨o,ho⟩:=(I.hok b v eb).obj
  exact ⟨o,PySem.W.hideAll_get _ ho (nf b v eb)⟩
 ·obtain ⟨o',ho'⟩:=I.base.there b o z (by simp [cxOf])
  refine ⟨o',PySem.W.hideAll_get _ ho' fun hb=>?_⟩
  rcases List.mem_cons.mp (I.stkSub b hb) with y|y
  ·exact absurd (Heap.lt_size z) (Nat.not_lt.mpr (y ▸ I.ok.above))
  ·exact n y
theorem passes_cx:Passes (CX1 P w) (cxOf (CX1 P w) P w K mg base N qual scope f cd A outer s H E) E:=by
 intro pins σ H1 s1 e s' I hx
 obtain ⟨ea,C,a0,B,H',rfl,fl,os,bare,u,ok,tB,pB,q⟩:=hx
 have I':Inv (cxOf (CX1 P w) P w K mg base N qual scope f cd A outer s H E) pins σ H' s':=I.call' os u ok bare fun b hb=>nomatch hb
 refine wpAny_leaves_onW I.ok.frames rfl fl fun h'' x1 x4=>?_
 have old : ∀ b o,s.heap.get? b=some o→b ∉ frs outer → ∃ o',B.get? b=some o':=fun b o z n=>by
  obtain ⟨o',ho'⟩:=I.base.there b o z (by simp [cxOf])
  refine pB b o' ho' fun hb=>?_
  rcases List.mem_cons.mp (I.stkSub b hb) with y|y
  ·exact absurd (Heap.lt_size z) (Nat.not_lt.mpr (y ▸ I.ok.above))
  ·exact n y
 have kB : ∀ b o,s'.heap.get? b=some o→b ∉ frs (cxOf (CX1 P w) P w K mg base N qual scope f cd A outer s H E).stack→((∃ o',s.heap.get? b=some o') ∨ ∃ v,H' b=some v)→h''.get? b=some o:=fun b o z n t=>by
  obtain ⟨o',ho'⟩ : ∃ o',B.get? b=some o':=by
   rcases t with ⟨o',t⟩|⟨v,t⟩
   ·exact old b o' t fun hb=>n (List.mem_cons_of_mem _ hb)
   ·exact tB b v t
  have:=fl.1 b o' ho'
  rw [z] at this;cases this
  exact x1.1 b _ ho'
 obtain ⟨u',ok'⟩:=land I' rfl rfl rfl kB (fun b o z d=>x4 b o z d)
 exact ⟨ea,C,a0,B,H',rfl,x1,I'.os,I'.bare,u',ok',tB,old,q⟩
end
end L2
namespace L2
open PySem PySem.Spec PyProof.Rows
def mroIn (K:PySem.W.Frag) (C:Addr):List Value:=match K.lookup C with
 | some ⟨_,_,.cls cd,_⟩=>cd.mro
 | _=>[]
theorem exc_obj {K:PySem.W.Frag}{h:Heap}{C:Addr}{bmB:List Value}{newId:String} (X:K.In h) (q:PySem.W.excIn K C bmB newId=true) :
 ∃ bm N nm qn bs hd sn sub ab col dd k0 k1 k2 k3 k5 mN,h.get? C=some (excClassObj nm qn C N bs bm hd sn sub ab col dd k0 k1 k2 k3 k5 newId)∧h.Ns N mN∧mN "__init__" = none∧OwnTail h bmB bm∧mroIn K C = .ref C::bm:=by
  unfold PySem.W.excIn at q
  split at q
  case h_2=>cases q
  rename_i dd c sl ho
  split at q
  case h_2=>cases q
  rename_i C' bm k0 k1 k2 k3 n k5 hm hs
  simp only [Bool.and_eq_true,beq_iff_eq,Bool.not_eq_true'] at q
  obtain ⟨⟨⟨⟨⟨e1,e2⟩,hdel⟩,ht⟩,hok⟩,hni⟩:=q
  have hC:=X _ _ ho
  have hs':sl = #[k0,k1,k2,k3,some (.builtin n),k5]:=Array.ext' hs
  cases c
  dsimp only at hm hdel hok hni
  subst e1 e2 hm hdel hs'
  exact ⟨bm,_,_,_,_,_,_,_,_,_,dd,k0,k1,k2,k3,k5,_,hC,.of_isNs (PySem.W.isNs_of_in X hok),PySem.W.nsMap_none_of_in X hok hni,PySem.W.tail_of_in X ht,by unfold mroIn;rw [ho]⟩
abbrev bmVE:List Value:=[.type "ValueError",.type "Exception",.type "BaseException",.type "object"]
def tRaise (C:Addr) (E:XK) (t:TA):TS:=fun _ σ H=>t σ H fun vs H'=>vs.length≤sizeLine∧E (.ref C) none H'
section
variable {X:Cx}{x:Str}{C:Addr}{E:XK}{e:Expr}{es:List Expr}{t:TA}{np cpos pos:Pos}
theorem ps_raise (hT:Throws X E) (hc:X.calm=true) (hg:Gl X x) (hm:X.mg x=some (.ref C)) (hq:PySem.W.excIn X.K C bmVE "ValueError.__new__" = true) (ha:PA X (e::es) t)
 (hdb:(x==("__debug__" : Str))=false:=by decide) (he:starEach (e::es) X.env=(false,eval e X.env)::starEach es X.env:=by rfl) (hpl:(backTo cpos (starEach es X.env)).any (·.1)=false:=by rfl) :
  PS X (.Raise (some (.Call (.Name x np) (e::es) [] cpos)) none pos) (tRaise C E t):=by
  intro pins s σ H D I h
  obtain ⟨bm,N,nm,qn,bs,hd,sn,sub,ab,col,dd,k0,k1,k2,k3,k5,mN,hC,hN,hni,T,_⟩:=exc_obj I.mod.kin hq
  refine wpAny_Raise_call_subU (C:=C) (nm:=nm) (q:=qn) (N:=N) (bs:=bs) (bm:=bm) (hdct:=hd) (sn:=sn) (sub:=sub) (ab:=ab) (col:=col) (dd:=dd) (k0:=k0) (k1:=k1) (k2:=k2) (k3:=k3) (k5:=k5)
   PySem.F.excBase_ValueError (by decide) PySem.F.excBase_ValueError (mN:=mN) (T.hasType PySem.F.excBase_ValueError.hasBase) (I.ok.hd hc) (by rw [he];show (false||(backTo cpos (starEach es X.env)).any (·.1))=false;rw [hpl];rfl) hni
   (ld_glob I hg hm ⟨rfl,?_⟩ hdb)
  have h1:=ha cpos pins s σ H _ I h
  rw [he] at h1 ⊢
  refine Calls.evalArgs_plain (thn h1 fun us s1 xx124=>?_)
  obtain ⟨vs,H1,I1,r,q⟩:=xx124
  exact ⟨rfl,r.length ▸ q.1,I1.bk _ _ hC,hN.keeps I1.bk,T.keeps I1.bk,fun h' ea hx=>hT pins σ H1 s1 h' ea C us I1 hx q.2⟩
end
end L2
namespace L2
open PySem PySem.Spec PyProof.Rows
section
variable {M:Model}{A:Around}{E:Value→Shared→Prop}{C N C' N':Addr}{nm nm' q q':Str}{bs bm bs' bm':List Value}
theorem excMatches_own {h:Heap}{g:Array GenState}{d:Drawn}{t:Nat}{os:OsState}{e:Addr}{oe:Obj}{Q:Bool→Shared→Prop}{hdct sn sub ab col dd k0 k1 k2 k3 k5 newId hdct' sn' sub' ab' col' dd' k0' k1' k2' k3' k5' newId'}
 (hC:h.get? C=some (excClassObj nm q C N bs bm hdct sn sub ab col dd k0 k1 k2 k3 k5 newId)) (hC':h.get? C'=some (excClassObj nm' q' C' N' bs' bm' hdct' sn' sub' ab' col' dd' k0' k1' k2' k3' k5' newId'))
 (he:h.get? e=some oe) (hcls:oe.cls = .ref C) (hbase:bm'.contains (.type "BaseException")=true) (b:Bool) (hb:(Value.ref C::bm).contains (.ref C')=b)
 (hq:Q b ⟨h,g,d,t,os⟩):wpAny M A (excMatches (.ref e) (.ref C')) Q E ⟨h,g,d,t,os⟩:=by
  have hcB:(Value.ref C'::bm').contains (.type "BaseException")=true:=by rw [List.contains_cons,hbase,Bool.or_true]
  have f:=tc_notTuple
  unfold excMatches
  repeat (first|(with_reducible refine wpAny_loadPart_at he ?_;rw [hcls])|with_reducible refine wpAny_loadPart_at hC' ?_|(with_reducible refine wpAny_isSubtype_exc hC' ?_;rw [hcB])|(with_reducible refine wpAny_isSubtype_exc hC ?_;rw [hb])|wp_step)
  cases b <;> (wp_walk;exact hq)
end
section
variable {X:Cx}{pins:List (Addr×Obj)}{σ:St}{H1 H2:Hp}{s1 s':Shared}{B h5:Heap}
theorem Inv.flown (I:Inv X pins σ H1 s1) (os:s'.os=s1.os) (bare:AllBare s'.gens) (u:Un (frs X.stack) [] H1 H2 s1.heap s'.heap) (ok:HOk X.prog X.w H2 s'.heap)
 (tB : ∀ b v,H2 b=some v → ∃ o,B.get? b=some o) (pB : ∀ b o,s1.heap.get? b=some o→b ∉ frs X.stack → ∃ o',B.get? b=some o') (fl:B.StaysIn s'.heap) (st:B.StaysIn h5) (up:s'.heap.UpToSlots h5) (hst : ∀ b ∈ X.fs,b ∈ frs X.stack) :
 Inv X pins σ H2 { s' with heap:=h5 }:=by
  obtain ⟨hh,g',d',t',o'⟩:=s'
  have e:o'=s1.os:=os
  subst e
  have inB : ∀ b o,B.get? b=some o→hh.get? b=some o:=fl
  have kB : ∀ b o,hh.get? b=some o→(∃ o',B.get? b=some o')→h5.get? b=some o:=fun b o z xx125=>by
   obtain ⟨o',t⟩:=xx125
   have:=inB b o' t
   rw [z] at this;cases this
   exact st b _ t
  have nofr : ∀ b,b ∈ frs X.stack → ∃ o,s1.heap.get? b=some o ∧ ∀ vs,o.data ≠ .fields vs:=fun b hb=>by
   obtain ⟨_,o,ho,hd⟩:=I.stack.mem hb
   exact ⟨o,ho,hd⟩
  have sl : ∀ b o,b ∈ frs X.stack→s1.heap.get? b=some o→H1 b=none → ∃ sl,h5.get? b=some { o with slots:=sl }:=fun b o hb z n=>by
   obtain ⟨o2,ho2,hd⟩:=nofr b hb
   rw [z] at ho2;cases ho2
   obtain ⟨x1,y1⟩:=u.any z n (by simp)
   obtain ⟨x2,y2⟩:=up b _ y1 hd
   exact ⟨x2,y2⟩
  show Inv X pins σ H2 { s1 with heap:=h5,gens:=g',drawn:=d',toks:=t' }
  refine Inv.step (s:=s1) (ch:=[]) I (fun b z=>nomatch z) (fun b o hL hb _ z n=>?_) (fun b o hL hb _ z n=>sl b o (hst b hb) z n) (fun b o _ z n=>u.free b o z n (by simp)) (fun b o _ z=>?_) u.tups u.frzs u.tbls (fun m hm=>?_) (fun b v eb=>?_) bare
  ·have nf:b ∉ frs X.stack:=fun hq=>(List.mem_cons.mp (I.stkSub b hq)).elim hL hb
   exact kB b o (u.keep b o z n nf (by simp)) (pB b o z nf)
  ·by_cases hq:b ∈ frs X.stack
   ·obtain ⟨x,y⟩:=sl b o hq z (I.stkFree b hq)
    exact ⟨_,y⟩
   ·obtain ⟨o',t⟩:=pB b o z hq
    exact ⟨o',st b o' t⟩
  ·obtain ⟨o,es,ep,ho,r⟩:=hm
   by_cases hq:X.env.locals ∈ frs X.stack
   ·obtain ⟨x,y⟩:=sl _ o hq ho I.free
    exact ⟨_,es,ep,y,r⟩
   ·exact ⟨o,es,ep,kB _ o (u.keep _ o ho I.free hq (by simp)) (pB _ o ho hq),r⟩
  ·refine (ok b v eb).stay (fun c ob hc z=>?_) (fun c z=>z) (fun c xs z=>z)
   rcases hc with hc|hc
   ·subst hc;exact kB _ _ z (tB _ _ eb)
   ·exact kB _ _ z (tB _ _ hc)
end
section
variable {X:Cx}{pins:List (Addr×Obj)}{σ:St}{H:Hp}{s:Shared}
theorem Inv.caught {C ea:Addr}{oe:Obj}{ws:Array Value} (I:Inv X pins σ H s) (hn:H ea=none) (he:s.heap.get? ea=some oe) (hc:oe.cls = .ref C) (hd:oe.data = .fields ws) (hpn : ∀ p ∈ X.pn++pins,p.1≠ea)
 (h0 : ∀ b o,X.s₀.heap.get? b=some o→b ∉ X.ex→b≠ea):Inv X pins σ (upd H ea (excO C ea)) s:=by
  have up : ∀ b,b≠ea→upd H ea (excO C ea) b=H b:=fun b hb=>by unfold upd;rw [if_neg hb]
  have neT : ∀ b v,H b=some v→upd H ea (excO C ea) b=some v:=fun b v e=>by
   rw [up b fun z=>by rw [z,hn] at e;cases e];exact e
  have nL:X.env.locals≠ea:=fun z=>by
   obtain ⟨m,⟨o,es,ep,ho,ho2,_⟩,_⟩:=I.loc
   rw [z,he] at ho;cases ho;rw [hd] at ho2;cases ho2
  have nC : ∀ x c,X.env.cells.lookup x=some c→c≠ea:=fun x c e z=>by
   obtain ⟨v,o,ho,ho2⟩:=I.cell x c e
   rw [z,he] at ho;cases ho;rw [hd] at ho2;cases ho2
  refine ⟨I.ok,I.os,I.bare,⟨I.base.keep,I.base.slot,fun b o e n hx=>?_,I.base.there,fun b xs e=>neT _ _ (I.base.tups b xs e),fun b o xs e=>neT _ _ (I.base.frzs b o xs e),fun b ps e=>?_⟩,I.loc,I.cell,?_,fun x c e=>?_,fun p hp=>?_,fun b v e=>?_,I.len⟩
  ·rw [up b (h0 b o e hx)];exact I.base.free b o e n hx
  ·obtain ⟨more,q,gm⟩:=I.base.tbls b ps e
   exact ⟨more,neT _ _ q,gm.mono fun b o u z=>neT _ _ z⟩
  ·rw [up _ nL];exact I.free
  ·rw [up _ (nC x c e)];exact I.freeC x c e
  ·obtain ⟨a1,a2,a3⟩:=I.pin p hp
   exact ⟨a1,(up _ (hpn p hp)).trans a2,a3⟩
  ·by_cases z:b=ea
   ·subst z
    have e':excO C b=v:=by unfold upd at e;rw [if_pos rfl] at e;exact Option.some.inj e
    subst e'
    exact ⟨⟨oe,he,hc⟩,⟨oe,he⟩,fun h1 h2 xx126 k=>by obtain ⟨o,q1,q2⟩:=xx126;exact ⟨o,k o q1,q2⟩⟩
   ·rw [up b z] at e
    exact (I.hok b v e).stay (fun c ob _ q=>q) (fun c q=>neT _ _ q) (fun c xs q=>neT _ _ q)
end
end L2
namespace L2
open PySem PySem.Spec PyProof.Rows
section
variable {X:Cx}{pins pins0:List (Addr×Obj)}{σ:St}{H:Hp}{s:Shared}
abbrev Cx.inX (X:Cx) (A':Around) (xe':Value→Shared→Prop):Cx:={ X with A:=A',calm:=false,xe:=xe' }
abbrev Cx.inT (X:Cx) (pn':List (Addr×Obj)) (xe':Value→Shared→Prop):Cx:={ X with pn:=pn',xe:=xe' }
theorem Inv.toX {A':Around}{xe':Value→Shared→Prop} (I:Inv X pins σ H s) (hA:A'.frames=X.A.frames):Inv (X.inX A' xe') pins σ H s :=
 ⟨⟨I.ok.mod,I.ok.kind,I.ok.glob,I.ok.blt,I.ok.above,I.ok.inj,I.ok.has,I.ok.cab,(fun z=>by cases z),hA.trans I.ok.frames,I.ok.stk,I.ok.exf,I.ok.bs,I.ok.bsz,I.ok.noex,I.ok.exfs,I.ok.funs,I.ok.frf⟩,
  I.os,I.bare,I.base,I.loc,I.cell,I.free,I.freeC,I.pin,I.hok,I.len⟩
theorem Inv.ofX {A':Around}{xe':Value→Shared→Prop} (ok:X.Ok) (I:Inv (X.inX A' xe') pins σ H s):Inv X pins σ H s :=
 ⟨ok,I.os,I.bare,I.base,I.loc,I.cell,I.free,I.freeC,I.pin,I.hok,I.len⟩
theorem Inv.toT {xe':Value→Shared→Prop} (I:Inv X pins0 σ H s):Inv (X.inT (X.pn++pins0) xe') [] σ H s :=
 ⟨⟨I.ok.mod,I.ok.kind,I.ok.glob,I.ok.blt,I.ok.above,I.ok.inj,I.ok.has,I.ok.cab,I.ok.hd,I.ok.frames,I.ok.stk,I.ok.exf,I.ok.bs,I.ok.bsz,I.ok.noex,I.ok.exfs,I.ok.funs,I.ok.frf⟩,
  I.os,I.bare,I.base,I.loc,I.cell,I.free,I.freeC,fun p hp=>I.pin p (by simpa using hp),I.hok,I.len⟩
theorem Inv.ofT {xe':Value→Shared→Prop} (ok:X.Ok) (I:Inv (X.inT (X.pn++pins0) xe') pins σ H s):Inv X pins0 σ H s :=
 ⟨ok,I.os,I.bare,I.base,I.loc,I.cell,I.free,I.freeC,fun p hp=>I.pin p (List.mem_append_left _ hp),I.hok,I.len⟩
theorem goes_ok {M:Model}{A:Around}{E:Value→Shared→Prop}{i:Nat}{n:Str}{pos:Pos}{Q:Unit→Shared→Prop} (I:Inv X pins σ H s) (hN:X.N.Nodup) (hi:X.N[i]?=some n) (hl:X.env.scope.names.lookup n=some .local)
 (h : ∀ s',Inv X pins (σ.set i none) H s'→Q () s'):wpAny M A (do bindName X.env n .none;unbindBehindTheSuite X.env n pos) Q E s:=by
  obtain ⟨m,hn,hl'⟩:=id I.loc
  have hcls:(X.env.scope.kind == .class||(X.env.scope.kind == .module&&X.env.locals != X.env.globals))=false:=by rw [I.ok.kind];rfl
  refine wpAny_nameGoes_keeps hl hn hcls fun h' v hn' hs=>h _ ?_
  have lt : ∀ b o,X.s₀.heap.get? b=some o→b≠X.env.locals:=fun b o e=>Nat.ne_of_lt (Nat.lt_of_lt_of_le (Heap.lt_size e) I.ok.above)
  refine ⟨I.ok,I.os,I.bare,⟨fun b o e a c d=>(hs.2 b (lt b o e)).trans (I.base.keep b o e a c d),fun b o e a c d=>?_,I.base.free,fun b o e d=>?_,I.base.tups,I.base.frzs,I.base.tbls⟩,⟨_,hn',fun j y v' e1 e2 e3=>?_⟩,fun y c e=>?_,I.free,I.freeC,fun p hp=>?_,fun b ob e=>?_,by simpa using I.len⟩
  ·obtain ⟨sl,e1⟩:=I.base.slot b o e a c d
   exact ⟨sl,(hs.2 b (lt b o e)).trans e1⟩
  ·obtain ⟨o',e1⟩:=I.base.there b o e d
   exact ⟨o',(hs.2 b (lt b o e)).trans e1⟩
  ·have hj:j≠i:=fun z=>by
    subst z
    rw [List.getElem?_set] at e2
    split at e2
    ·split at e2 <;> cases e2
    ·exact absurd rfl (by assumption)
   rw [List.getElem?_set_ne (Ne.symm hj)] at e2
   obtain ⟨u',r',q⟩:=hl' j y v' e1 e2 e3
   refine ⟨u',r',?_⟩
   rcases q with ⟨k,e⟩|⟨k,c,e,z⟩
   ·have:y≠n:=fun e=>hj (nodup_ix hN e1 (e ▸ hi))
    exact .inl ⟨k,by simp [this,e]⟩
   ·exact .inr ⟨k,c,e,z.sameBut hs (I.cne y c e)⟩
  ·obtain ⟨w',z⟩:=I.cell y c e
   exact ⟨w',z.sameBut hs (I.cne y c e)⟩
  ·obtain ⟨e,n,ne,nf,d⟩:=I.pin p hp
   exact ⟨(hs.2 p.1 ne).trans e,n,ne,nf,d⟩
  ·refine (I.hok b ob e).stay (fun c w' hc q=>(hs.2 c ?_).trans q) (fun _ q=>q) fun _ _ q=>q
   rintro rfl
   rcases hc with rfl|hc
   ·rw [I.free] at e;cases e
   ·rw [I.free] at hc;cases hc
end
def PassesAt (X:Cx) (σ:St) (E:XK):Prop := ∀ (pins:List (Addr×Obj)) (H:Hp) (s:Shared) (e:Value) (s':Shared),Inv X pins σ H s→CX1 X.prog X.w X.stack H s E e s'→X.xe e s'
def Under (K:PySem.W.Frag) (C C':Addr):Prop:=PySem.W.excIn K C bmVE "ValueError.__new__" = true∧(mroIn K C).contains (.ref C')=true
def tCatch (K:PySem.W.Frag) (C':Addr) (i:Nat) (ts:TS) (D:Ends):St→XK:=fun σ c _ H => ∃ C,c = .ref C∧Under K C C' ∧ ∀ ea,H ea=none →
 ts { nx:=fun σ2 H3=>D.nx (σ2.set i none) H3,rt:=D.rt,bk:=fun σ2 H3=>D.bk (σ2.set i none) H3,ct:=fun σ2 H3=>D.ct (σ2.set i none) H3 } (σ.set i (some (.ref ea))) (upd H ea (excO C ea))
def tTry (K:PySem.W.Frag) (C':Addr) (i:Nat) (tb:(St→XK)→TS) (ts:TS):TS:=fun D σ H=>tb (tCatch K C' i ts D) D σ H
section
variable {X:Cx}{body suite:List Stmt}{b₀:Stmt}{x n:Str}{np hpos pos:Pos}{C':Addr}{i:Nat}{tb:(St→XK)→TS}{ts:TS}
theorem ps_try (hst:X.stack=X.env::X.outer) (hfr:X.env.frame=some X.env.locals) (hN:X.N.Nodup) (hi:X.N[i]?=some n) (hl:X.env.scope.names.lookup n=some .local) (hg:Gl X x) (hm:X.mg x=some (.ref C'))
 (hq:PySem.W.excIn X.K C' bmVE "ValueError.__new__" = true) (hb : ∀ pn xe Ex,(∀ σ,PassesAt (X.inT pn xe) σ (Ex σ))→PSs (X.inT pn xe) body (tb Ex)) (hs : ∀ A xe,PSs (X.inX A xe) (b₀::suite) ts) (hd:(x==("__debug__" : Str))=false:=by decide) :
  PS X (.Try body [.ExceptHandler (some (.Name x np)) (some n) (b₀::suite) hpos] [] [] pos) (tTry X.K C' i tb ts):=by
  intro pins s σ H D I h
  have ok:=I.ok
  refine wpAny_Try_except (wpAny_mono (hb (X.pn++pins) (fun e s' => ∃ σ1 H1 s1,Inv X pins σ1 H1 s1∧CX1 X.prog X.w X.stack H1 s1 (tCatch X.K C' i ts D σ1) e s') (tCatch X.K C' i ts D) (fun σ1 pins1 H1 s1 e s' I1 c=>⟨σ1,H1,s1,I1.ofT ok,c⟩) [] s σ H D I.toT h) (fun f s1 q=>?_) fun e s' q=>?_)
  ·cases f with
   | next=>obtain ⟨σ',H',I',q⟩:=q;exact wpAny_pure ⟨σ',H',I'.ofT ok,q⟩
   | brk=>obtain ⟨σ',H',I',q⟩:=q;exact ⟨σ',H',I'.ofT ok,q⟩
   | cont=>obtain ⟨σ',H',I',q⟩:=q;exact ⟨σ',H',I'.ofT ok,q⟩
   | ret u=>obtain ⟨v,σ',H',I',r,q⟩:=q;exact ⟨v,σ',H',I'.ofT ok,r,q⟩
  obtain ⟨σ1,H1,s1,I1,ea,C,a0,B,H2,rfl,fl,os,bare,u,okH,tB,pB,C2,e2,⟨q1,q2⟩,q3⟩:=q
  cases e2
  have sub : ∀ b ∈ X.fs,b ∈ frs X.stack:=fun b hb=>by
   rw [hst];unfold frs;rw [List.filterMap_cons,hfr];exact List.mem_cons_of_mem _ hb
  have hn2:H2 ea=none:=by
   rcases z:H2 ea with _|v
   ·rfl
   ·obtain ⟨o,ho⟩:=tB _ _ z
    rw [fl.2.1] at ho;cases ho
  refine wpAny_looks_onW (ok.frames.trans (by rw [hst])) hfr (hst ▸ fl) fun h4 held4 up4=>?_
  refine wpAny_landsW held4 fun h5 fl5 up5=>?_
  have I5:Inv X pins σ1 H2 { s' with heap:=h5 }:=I1.flown os bare u okH tB pB fl.1 fl5.1 (up4.trans up5) sub
  obtain ⟨ob,hob,hobc⟩:=fl5.there
  obtain ⟨bm,N,nm,qn,bs,hd1,sn,sb,ab,col,dd,k0,k1,k2,k3,k5,mN,hC,hNs,hni,T,hmr⟩:=exc_obj I5.kIn q1
  obtain ⟨bm',N',nm',qn',bs',hd1',sn',sb',ab',col',dd',k0',k1',k2',k3',k5',mN',hC',hNs',hni',T',hmr'⟩:=exc_obj I5.kIn hq
  refine wpAny_handleBy_cons (codeAny_handlers_test (ld_glob (X:=X.inX (X.A.mark (some (.ref ea))) X.xe) (I5.toX rfl) hg hm ?_ hd)) (by intro q;cases q)
  refine excMatches_own hC hC' hob hobc (T'.hasType PySem.F.excBase_ValueError.hasBase) true (hmr ▸ q2) (codeAny_handlers_suite_as ?_)
  refine lands_againW fl5 fun h6 fl6 up6=>?_
  have I6:Inv X pins σ1 H2 { s' with heap:=h6 }:=I1.flown os bare u okH tB pB fl.1 fl6.1 ((up4.trans up5).trans up6) sub
  obtain ⟨oe,ws,hoe,hoec,hoed,hoe0⟩:=fl6.first
  have notB : ∀ b o,B.get? b=some o→b≠ea:=fun b o z y=>by rw [y,fl.2.1] at z;cases z
  have notF : ∀ b,b ∈ frs X.stack→b≠ea:=fun b hb y=>by
   obtain ⟨_,o,ho,hd⟩:=I6.stack.mem hb
   rw [y,hoe] at ho;cases ho
   exact hd _ hoed
  have not1 : ∀ b o,s1.heap.get? b=some o→b≠ea:=fun b o z=>by
   by_cases hb:b ∈ frs X.stack
   ·exact notF b hb
   ·obtain ⟨o',t⟩:=pB b o z hb
    exact notB b o' t
  have I7:Inv X pins σ1 (upd H2 ea (excO C ea)) { s' with heap:=h6 }:=I6.caught hn2 hoe hoec hoed (fun p hp=>not1 _ _ (I1.pin p hp).1) fun b o z hx=>by
   obtain ⟨o',ho'⟩:=I1.base.there b o z hx
   exact not1 b o' ho'
  refine store_ok (X:=X) I7 hN hi (.inl hl) (show RelV (.ref ea) (.ref ea) from rfl) (fun s8 I8=>?_) (.inr hl)
  refine wpAny_mono (hs (X.A.mark (some (.ref ea))) _ pins s8 _ _ _ (I8.toX rfl) (q3 ea hn2)) (fun f s9 q=>?_) fun _ _ z=>z
  cases f with
  | next=>obtain ⟨σ',H',I',q⟩:=q;exact goes_ok (X:=X) (I'.ofX ok) hN hi hl fun s' I''=>⟨_,H',I'',q⟩
  | brk=>obtain ⟨σ',H',I',q⟩:=q;exact goes_ok (X:=X) (I'.ofX ok) hN hi hl fun s' I''=>⟨_,H',I'',q⟩
  | cont=>obtain ⟨σ',H',I',q⟩:=q;exact goes_ok (X:=X) (I'.ofX ok) hN hi hl fun s' I''=>⟨_,H',I'',q⟩
  | ret u=>obtain ⟨v,σ',H',I',r,q⟩:=q;exact goes_ok (X:=X) (I'.ofX ok) hN hi hl fun s' I''=>⟨v,_,H',I'',r,q⟩
end
end L2
namespace L2
open PySem PySem.Spec PyProof.Rows
section
variable {K:PySem.W.Frag}{M:Frm}{F H:Hp}{env:Sto}{σ:St}
theorem EnvOk.sets (I:EnvOk K M F H env σ) {i:Nat}{s:Sl}{v:Option V} (m:s.mut=false) (h:SlotOk K M F H s v):EnvOk K M F H (env.set i s) (σ.set i v) where
 len:=by rw [List.length_set,List.length_set];exact I.len
 slot:=fun j=>by
  rw [gS_set,vS_set,I.len]
  split
  ·exact h
  ·exact I.slot j
 dis:=fun j k a hjk h1 h2 h3 h4=>by
  rw [gS_set] at h1 h2
  rw [vS_set] at h3 h4
  rw [I.len] at h1 h2
  split at h1
  ·rw [m] at h1;cases h1
  ·rename_i z1
   split at h2
   ·rw [m] at h2;cases h2
   ·rename_i z2
    rw [if_neg z1] at h3
    rw [if_neg z2] at h4
    exact I.dis j k a hjk h1 h2 h3 h4
 f0:=I.f0
 fe:=I.fe
 fh:=I.fh
 bh:=I.bh
 new:=I.new
 dom:=I.dom
theorem EnvOk.caught (I:EnvOk K M F H env σ) {i:Nat}{C ea:Addr} (h:H ea=none):EnvOk K M (upd F ea (excO C ea)) (upd H ea (excO C ea)) (env.set i (.exc C)) (σ.set i (some (.ref ea)))∧Same F (upd F ea (excO C ea)):=by
 have hf:F ea=none:=same_none I.fh h
 have g:Go F H (upd F ea (excO C ea)) (upd H ea (excO C ea)):=⟨same_new hf,same_new h,fun b o e=>by
  by_cases z:b=ea
  ·subst z;rw [upd_same] at e ⊢;exact .of e
  ·rw [upd_ne z] at e ⊢;exact I.fh b o e,fun b o e=>by
  by_cases z:b=ea
  ·subst z;exact .inr h
  ·rw [upd_ne z] at e;exact .inl e⟩
 exact ⟨(I.go g).sets rfl ⟨ea,rfl,upd_same⟩,g.f⟩
end
abbrev WX:=Addr→Sto→Prop
def ExOk (K:PySem.W.Frag) (M:Frm) (F:Hp) (Wx:WX) (Ex:St→XK):Prop := ∀ C env' F' H' σ',EnvOk K M F' H' env' σ'→Same F F'→Wx C env'→Ex σ' (.ref C) none H'
theorem ExOk.mono {K:PySem.W.Frag}{M:Frm}{F F':Hp}{Wx:WX}{Ex:St→XK} (h:ExOk K M F Wx Ex) (s:Same F F'):ExOk K M F' Wx Ex:=fun C e f g i j k=>h C e f g i j (s.trans k)
def liftEX (K:PySem.W.Frag) (Ex:St→XK) (W:WX→WE):TE:=fun σ H R => ∃ M env F Wx Q,EnvOk K M F H env σ∧W Wx env Q∧ExOk K M F Wx Ex ∧ ∀ d v F' H' env',EnvOk K M F' H' env' σ→Same F F'→Is K F' d v→Q d env'→R v H'
def liftSX (K:PySem.W.Frag) (Ex:St→XK) (W:WX→WS):TS:=fun D σ H => ∃ M env F Wx DD,EnvOk K M F H env σ∧W Wx DD env∧ExOk K M F Wx Ex∧EndsOk K M F DD D
def VEX (X:Cx) (Ex:St→XK) (e:Expr) (W:WX→WE):Prop:=PE X e (liftEX X.K Ex W)
def VSX (X:Cx) (Ex:St→XK) (st:Stmt) (W:WX→WS):Prop:=PS X st (liftSX X.K Ex W)
def VSsX (X:Cx) (Ex:St→XK) (st:List Stmt) (W:WX→WS):Prop:=PSs X st (liftSX X.K Ex W)
abbrev DE:=List PyData→(PyData→Prop)→(Addr→Prop)→Prop
def XSp (K:PySem.W.Frag) (sp:DE):Sp:=fun vs H Q E => ∃ F ds q e,Same F H∧Iss K F ds vs∧sp ds q e∧(∀ d v F' H',Go F H F' H'→Is K F' d v→q d→Q v H') ∧ ∀ C F' H',Go F H F' H'→e C→E (.ref C) none H'
structure OkX (P:Program) (w:World) (K:PySem.W.Frag) (mg:Str→Option Value) (base:Heap) (x:Str) (k:Nat) (ps:List Str) (sp:Sp):Prop where
 ex : ∃ (f:Addr) (fd:FuncData),FnOk P w K mg base (CX1 P w) k f fd ps sp∧mg x=some (.ref f)∧PySem.W.keepIn K (.ref f)=true∧Binds K fd ps []
structure OkXC (X:Cx) (x:Str) (k:Nat) (ps:List Str) (sp:Sp):Prop where
 ex : ∃ sp0,OkX X.prog X.w X.K X.mg X.base x k ps sp0 ∧ ∀ (pins:List (Addr×Obj)) (σ:St) (H:Hp) (s:Shared) (vs:List V) (Q:VK) (E:XK),Inv X pins σ H s→sp vs H Q E→sp0 vs H Q E
theorem OkX.c {X:Cx}{x:Str}{k:Nat}{ps:List Str}{sp:Sp} (O:OkX X.prog X.w X.K X.mg X.base x k ps sp):OkXC X x k ps sp:=⟨sp,O,fun _ _ _ _ _ _ _ _ h=>h⟩
section
variable {X:Cx}{Ex:St→XK}{x:Str}{k:Nat}{ps:List Str}{sp:DE}{e c:Expr}{es:List Expr}{p pos:Pos}{Wr:WF}{st:Stmt}{rest A B:List Stmt}{Tc:WT}{W:WX→WE}{Wt Wu:WX→WS}{W0:WS}
theorem run_fnX {pins:List (Addr×Obj)}{σ:St}{H:Hp}{s:Shared}{Q:VK}{f:Addr}{fd:FuncData}{us:List Value}{vs:List V}{sp:Sp}{E:XK} (F:FnOk X.prog X.w X.K X.mg X.base (CX1 X.prog X.w) k f fd ps sp) (hr:Room k X.A) (hb:Binds X.K fd ps []) (hx:PassesAt X σ E)
 (I:Inv X pins σ H s) (r:Vals vs us) (h:sp vs H Q E):wpAny (model X.prog X.w) X.A (call (.ref f) us) (EP X pins σ Q) X.xe s:=by
  have hl:us.length=ps.length:=by rw [← r.length];exact F.len _ _ _ _ h
  have hl':(us++[]).length=ps.length:=by rw [List.append_nil];exact hl
  have hb':=hb s us I.kIn hl'
  rw [List.append_nil] at hb'
  refine wpAny_call (codeAny_mono (F.run X.A X.stack s H ⟨us,[]⟩ us vs Q E hr I.env0 hb' r h) fun r s' hq=>?_)
  cases r with
  | error e=>exact hx pins H s e s' I hq
  | ok fl =>
   cases fl with
   | ret u=>exact I.after hq
   | next=>exact False.elim hq
   | brk=>exact False.elim hq
   | cont=>exact False.elim hq
def wCallX (sp:DE) (Wr:WF):WX→WE:=fun Wx env Q=>Wr env fun ds e=>sp ds (fun d=>Q d e) fun C=>Wx C e
theorem vex_fn (hx : ∀ σ,PassesAt X σ (Ex σ)) (O:OkXC X x k ps (XSp X.K sp)) (hr:Room k X.A) (ha:VA X (e::es) Wr) (hg:Gl X x:=by rfl) (hdb:(x==("__debug__" : Str))=false:=by decide)
 (he:starEach (e::es) X.env=(false,eval e X.env)::starEach es X.env:=by rfl) (hpl:(backTo pos (starEach es X.env)).any (·.1)=false:=by rfl):VEX X Ex (.Call (.Name x p) (e::es) [] pos) (wCallX sp Wr):=by
 obtain ⟨sp0,⟨f,fd,F,hm,hk,hb⟩,up⟩:=O.ex
 rintro pins s σ H Q I ⟨M,env,F0,Wx,q,J,h,hex,kk⟩
 refine wpAny_Call_Name_kw (ld_glob I hg hm ?_ hdb)
 refine PySem.W.callWith_K (h₀:=X.base) I.ok.mod.kin hk (thn (ha pos pins s σ H (fun vs H1=>XSp X.K sp vs H1 Q (Ex σ)) I ⟨M,env,F0,_,J,h,fun ds vs F1 H1 e1 I1 s1 i1 h1=>?_⟩) fun us s1 ⟨vs,H1,I1,r,q⟩=>⟨I1.kIn,?_⟩) he hpl
 ·exact ⟨F1,ds,_,_,I1.fh,i1,h1,fun d v F2 H2 g i2 q=>kk d v F2 H2 e1 (I1.go g) (s1.trans g.f) i2 q,fun C F2 H2 g q=>hex C e1 F2 H2 σ (I1.go g) (s1.trans g.f) q⟩
 ·exact run_fnX F hr hb (hx σ) I1 r (up _ _ _ _ _ _ _ I1 q)
theorem vsx_of (h:VS X st W0):VSX X Ex st (fun _=>W0):=PS.imp h fun D σ H xx128=>by obtain ⟨M,env,F,Wx,DD,I,h,hx,k⟩:=xx128;exact ⟨M,env,F,DD,I,h,k⟩
theorem vssx_of (h:VSs X rest W0):VSsX X Ex rest (fun _=>W0):=PSs.imp h fun D σ H xx129=>by obtain ⟨M,env,F,Wx,DD,I,h,hx,k⟩:=xx129;exact ⟨M,env,F,DD,I,h,k⟩
theorem vsx_expr (he:VEX X Ex e W) (hs:swapsWith e none pos.line X.env=pure false:=by rfl):VSX X Ex (.Expr e pos) (fun Wx=>wDrop (W Wx)):=(ps_expr he hs).imp fun D σ H xx130=>by
 obtain ⟨M,env,F,Wx,DD,I,h,hx,k⟩:=xx130
 exact ⟨M,env,F,Wx,_,I,h,hx,fun d v F1 H1 e1 I1 s1 i1 h1=>k.nx e1 F1 H1 σ I1 s1 h1⟩
theorem vsx_if (hc:VT X c Tc) (ha:VSsX X Ex A Wt) (hb:VSsX X Ex B Wu):VSX X Ex (.If c A B pos) (fun Wx=>wIf Tc (Wt Wx) (Wu Wx)):=(ps_if hc ha hb).imp fun D σ H xx131=>by
 obtain ⟨M,env,F,Wx,DD,I,h,hx,k⟩:=xx131
 refine ⟨M,env,F,_,I,h,fun x F1 H1 e1 I1 s1 h1=>?_⟩
 cases x with
 | true=>exact iteT ⟨M,e1,F1,Wx,DD,I1,h1,hx.mono s1,k.mono s1⟩
 | false=>exact iteF ⟨M,e1,F1,Wx,DD,I1,h1,hx.mono s1,k.mono s1⟩
theorem vsx_set {i:Nat}{x:Str}{pos':Pos} (hN:X.N.Nodup) (he:VEX X Ex e W) (hi:X.N[i]?=some x:=by rfl) (hx:Loc X.env.scope x:=by first|exact Or.inl rfl|exact Or.inr rfl) (hs:swapsWith e (some (.Name x pos')) pos.line X.env=pure false:=by rfl)
 (hf:X.fn x=true∨X.env.scope.names.lookup x=some .local:=by first|exact .inl rfl|exact .inr rfl):VSX X Ex (.Assign [.Name x pos'] e pos) (fun Wx=>wSet i (W Wx)):=(ps_set hN hi hx he hs hf).imp fun D σ H xx132=>by
 obtain ⟨M,env,F,Wx,DD,I,h,hx,k⟩:=xx132
 exact ⟨M,env,F,Wx,_,I,h,hx,fun d v F1 H1 e1 I1 s1 i1 h1=>k.nx _ F1 H1 _ (I1.setv i1) s1 h1⟩
theorem vssx_cons (h1:VSX X Ex st Wt) (h2:VSsX X Ex rest Wu):VSsX X Ex (st::rest) (fun Wx=>wSeq (Wt Wx) (Wu Wx)):=(pss_cons h1 h2).imp fun D σ H xx133=>by
 obtain ⟨M,env,F,Wx,DD,I,h,hx,k⟩:=xx133
 exact ⟨M,env,F,Wx,{ DD with nx:=Wu Wx DD },I,h,hx,fun e' F' H' σ' I' s' h'=>⟨M,e',F',Wx,DD,I',h',hx.mono s',k.mono s'⟩,k.rt,k.bk,k.ct⟩
end
end L2
namespace L2
open PySem PySem.Spec PyProof.Rows
section
variable {X:Cx}{Ex:St→XK}{E:XK}{x y n:Str}{k i j:Nat}{ps:List Str}{sp:DE}{e:Expr}{es:List Expr}{p np cpos hpos pos pos':Pos}{Wr:WF}{st b₀:Stmt}{body suite:List Stmt}{C C':Addr}{Wb:WX→WS}{Ws:WS}
def wRaise (C:Addr) (Wr:WF):WX→WS:=fun Wx _ env=>Wr env fun ds e=>ds.length≤sizeLine∧Wx C e
theorem vsx_raise (hT:Throws X E) (hc:X.calm=true) (hm:X.mg x=some (.ref C)) (hq:PySem.W.excIn X.K C bmVE "ValueError.__new__" = true) (ha:VA X (e::es) Wr) (hg:Gl X x:=by rfl)
 (hdb:(x==("__debug__" : Str))=false:=by decide) (he:starEach (e::es) X.env=(false,eval e X.env)::starEach es X.env:=by rfl) (hpl:(backTo cpos (starEach es X.env)).any (·.1)=false:=by rfl) :
 VSX X (fun _=>E) (.Raise (some (.Call (.Name x np) (e::es) [] cpos)) none pos) (wRaise C Wr):=(ps_raise hT hc hg hm hq ha hdb he hpl).imp fun D σ H xx134=>by
 obtain ⟨M,env,F,Wx,DD,I,h,hx,k⟩:=xx134
 exact ⟨M,env,F,_,I,h,fun ds vs F1 H1 e1 I1 s1 i1 h1=>⟨by rw [i1.len];exact h1.1,hx C e1 F1 H1 σ I1 s1 h1.2⟩⟩
def wTry (K:PySem.W.Frag) (C':Addr) (i:Nat) (Wb:WX→WS) (Ws:WS):WS:=fun D env=>Wb (fun C e=>Under K C C' ∧
 Ws { nx:=fun e'=>D.nx (e'.set i .non),rt:=fun r e'=>D.rt r (e'.set i .non),bk:=fun e'=>D.bk (e'.set i .non),ct:=fun e'=>D.ct (e'.set i .non) } (e.set i (.exc C))) D env
theorem vs_try (hst:X.stack=X.env::X.outer) (hfr:X.env.frame=some X.env.locals) (hN:X.N.Nodup) (hm:X.mg x=some (.ref C')) (hq:PySem.W.excIn X.K C' bmVE "ValueError.__new__" = true)
 (hb : ∀ pn xe Ex,(∀ σ,PassesAt (X.inT pn xe) σ (Ex σ))→VSsX (X.inT pn xe) Ex body Wb) (hs : ∀ A xe,VSs (X.inX A xe) (b₀::suite) Ws)
 (hi:X.N[i]?=some n:=by rfl) (hl:X.env.scope.names.lookup n=some .local:=by rfl) (hg:Gl X x:=by rfl) (hd:(x==("__debug__" : Str))=false:=by decide) :
  VS X (.Try body [.ExceptHandler (some (.Name x np)) (some n) (b₀::suite) hpos] [] [] pos) (wTry X.K C' i Wb Ws) :=
  PS.imp (ps_try (tb:=fun Ex=>liftSX X.K Ex Wb) (ts:=liftS X.K Ws) hst hfr hN hi hl hg hm hq hb hs hd) fun D σ H xx136=>by
   obtain ⟨M,env,F,DD,I,h,k⟩:=xx136
   refine ⟨M,env,F,_,DD,I,h,fun C env' F' H' σ' I' s' ⟨u,hw⟩=>⟨C,rfl,u,fun ea hea=>?_⟩,k⟩
   obtain ⟨J,s2⟩:=I'.caught (i:=i) (C:=C) hea
   have go : ∀ {env2 F2 H2 σ2},EnvOk X.K M F2 H2 env2 σ2→EnvOk X.K M F2 H2 (env2.set i .non) (σ2.set i none):=fun I2=>I2.sets rfl trivial
   exact ⟨M,_,_,_,J,hw,fun e3 F3 H3 σ3 I3 s3 q3=>k.nx _ F3 H3 _ (go I3) (s'.trans (s2.trans s3)) q3,fun r v e3 F3 H3 σ3 I3 s3 r3 q3=>k.rt r v _ F3 H3 _ (go I3) (s'.trans (s2.trans s3)) r3 q3,
    fun e3 F3 H3 σ3 I3 s3 q3=>k.bk _ F3 H3 _ (go I3) (s'.trans (s2.trans s3)) q3,fun e3 F3 H3 σ3 I3 s3 q3=>k.ct _ F3 H3 _ (go I3) (s'.trans (s2.trans s3)) q3⟩
def wSetE (i j:Nat):WS:=fun D env=>match gS env j with | .exc C=>D.nx (env.set i (.exc C))|_=>False
theorem vs_setE (j:Nat) (hN:X.N.Nodup) (hj:X.N[j]?=some y:=by rfl) (hv:Vis X.env.scope y:=by first|exact Or.inl rfl|exact Or.inr (Or.inl rfl)|exact Or.inr (Or.inr rfl)) (hi:X.N[i]?=some x:=by rfl)
 (hx:Loc X.env.scope x:=by first|exact Or.inl rfl|exact Or.inr rfl) (hd:(y==("__debug__" : Str))=false:=by decide) (hcd:(y==("__classdict__" : Str))=false:=by decide)
 (hs:swapsWith (.Name y p) (some (.Name x pos')) pos.line X.env=pure false:=by rfl) (hf:X.fn x=true∨X.env.scope.names.lookup x=some .local:=by first|exact .inl rfl|exact .inr rfl) :
 VS X (.Assign [.Name x pos'] (.Name y p) pos) (wSetE i j):=PS.imp (ps_set hN hi hx (pe_var hj hv hd hcd) hs hf) fun D σ H xx137=>by
 obtain ⟨M,env,F,DD,I,h,k⟩:=xx137
 have S:=I.slot j
 unfold wSetE at h
 cases q:gS env j with
 | exc C =>
  rw [q] at S h
  obtain ⟨ea,e,z⟩:=S
  exact ⟨_,vS_some e,k.nx _ F H _ (I.sets (i:=i) (s :=.exc C) rfl ⟨ea,rfl,z⟩) (.refl _) h⟩
 | non=>rw [q] at h;exact h.elim
 | «at» v=>rw [q] at h;exact h.elim
 | obj a0 C nm fs=>rw [q] at h;exact h.elim
 | val d=>rw [q] at h;exact h.elim
 | own ds=>rw [q] at h;exact h.elim
 | pen ds=>rw [q] at h;exact h.elim
 | new d=>rw [q] at h;exact h.elim
end
section
variable {P:Program}{w:World}{K:PySem.W.Frag}{mg:Str→Option Value}{base:Heap}
theorem Def.vokX {x:Str}{st:Stmt}{N ps:List Str}{k:Nat}{sp:DE} (F:Def K mg x st ps) (S:FnScope N ps (defScope st)) (len : ∀ ds q e,sp ds q e→ds.length=ps.length)
 (hbody : ∀ (f:Addr) (cdv:Value) (A:Around) (outer:List Env) (s:Shared) (H:Hp) (E:XK),Room k (A.deeper (envOfC x (defScope st) s.heap.objs.size f cdv)) →
 (∀ σ,PassesAt (cxOf (CX1 P w) P w K mg base N x (defScope st) f cdv A outer s H E) σ E)→Throws (cxOf (CX1 P w) P w K mg base N x (defScope st) f cdv A outer s H E) E → ∀ ds q e,sp ds q e →
 ∃ W,VSsX (cxOf (CX1 P w) P w K mg base N x (defScope st) f cdv A outer s H E) (fun _=>E) (defBody st) W∧W (fun C _=>e C) { nx:=fun _=>q .none,rt:=fun r _=>q r.data } (startE N ds)):OkX P w K mg base x (k+1) ps (XSp K sp):=by
  obtain ⟨f,fd,Fn,hm,hb⟩:=F.ex
  refine ⟨f,fd,?_,hm,Fn.kp,hb⟩
  obtain ⟨oc,od,kV,doc,pm,an,cdv,ct,osl,rfl,lk,hcd⟩:=Fn.ex
  refine fn_of lk hcd S (fun vs H Q E xx139=>by obtain ⟨F,ds,q,e,_,i,h,_⟩:=xx139;rw [i.len];exact len ds q e h) fun A outer s H vs Q E hr xx138=>?_
  obtain ⟨F,ds,q,e,sm,i,h,kk,kx⟩:=xx138
  obtain ⟨W,hW,hq⟩:=hbody f cdv A outer s H E hr (fun σ pins H1 s1 e1 s' I c=>passes_cx pins σ H1 s1 e1 s' I c) throws_cx ds q e h
  refine ⟨_,hW,⟨H,H,F⟩,startE N ds,F,_,_,env_start sm i,hq,fun C e1 F1 H1 σ1 I1 s1 q1=>kx C F1 H1 I1.goOf q1,⟨fun e1 F1 H1 σ1 I1 s1 q1=>kk _ _ F1 H1 I1.goOf is_non q1,fun r v e1 F1 H1 σ1 I1 s1 r1 q1=>?_,fun _ _ _ _ _ _ h=>h.elim,fun _ _ _ _ _ _ h=>h.elim⟩⟩
  obtain ⟨F2,g,j⟩:=r1.is I1
  exact kk _ _ F2 H1 g j q1
end
end L2
namespace L2
open PySem PySem.Spec PyProof.Rows
section
variable {prog:Program}{w:World}{A:Around}{E:Value→Shared→Prop}{h:Heap}{g:Array GenState}{d:Drawn}{t:Nat}{os:OsState}{a:Addr}{o:Obj}{K:PySem.W.Frag}
 {nm q:Str}{C N:Addr}{bs bm:List Value}{hdct:Bool}{sn:List Str}{sub:List Value}{ab:Bool}{col:Option Bool}{dd:Option Addr}{k0 k1 k2 k3 k5:Option Value}{newId:String}
theorem xc_get {R:Result→Shared→Prop} (hC:h.get? C=some (excClassObj nm q C N bs bm hdct sn sub ab col dd k0 k1 k2 k3 k5 newId)) (T:OwnTail h bmVE bm) (hx:h.get? a=some o) (hc:o.cls = .ref C) (hq:R (.ok (.ret (.ref C))) ⟨h,g,d,t,os⟩) :
 codeAny (model prog w) A (.call (.builtin "getset_descriptor.__get__") ⟨[.builtin "object.__class__",.ref a,.ref C],[]⟩) R ⟨h,g,d,t,os⟩:=by
  have hT5:(⟨h,g,d,t,os⟩:Shared).TypeIs (.builtin "object.__class__") "getset_descriptor" := F.typeOf_object_class
  have hcB:(Value.ref C::bm).contains (.type (".".intercalate ("object.__class__".cutAt '.').dropLast))=true:=by
   rw [F.owner_object_class,List.contains_cons,T.hasType (X := "object") (b:=true) (by decide)];rfl
  refine codeAny_call_builtin F.slot_gs_get.plain F.entry_gs_get (F.slot_gs_get.check _ _ _ _ _ _ _ _ hT5 (F.args_gs_get _ _ _) ?_)
  repeat (any_goals (first|assumption|(with_reducible refine wpAny_loadPart_at hx ?_;rw [hc])|(with_reducible refine wpAny_isSubtype_exc hC ?_;rw [hcB])|wp_step))
  refine ⟨Code.quiet_builtin _ (by decide +kernel),codeAny_builtin F.entry_object_class ?_⟩
  repeat (any_goals (first|assumption|(with_reducible refine wpAny_loadPart_at hx ?_;rw [hc])|wp_step))
theorem xc_entry {tk:Tok}{Q:Fin→Shared→Prop} (X:K.In h) (hf:PySem.W.findIn K (.ref C) "__class__" = some (some (.builtin "object.__class__"))) (hC:h.get? C=some (excClassObj nm q C N bs bm hdct sn sub ab col dd k0 k1 k2 k3 k5 newId)) (T:OwnTail h bmVE bm)
 (hx:h.get? a=some o) (hc:o.cls = .ref C) (hq:Q (.done (.ret (.ref C))) ⟨h,g,d,t,os⟩) :
 wpAny (model prog w) A (Builtin.«object.__getattribute__» ⟨[.ref a,.str "__class__" tk],[]⟩) Q E ⟨h,g,d,t,os⟩:=by
  have hT5:(⟨h,g,d,t,os⟩:Shared).TypeIs (.builtin "object.__class__") "getset_descriptor" := F.typeOf_object_class
  have f5:=F.typeOf_object_class
  have f6:=F.slot_gs_get.lookup
  have f7:=F.slot_gs_set.lookup
  have L:=PySem.W.looks_findIn (M:=model prog w) X hf
  repeat (any_goals (first|assumption|(with_reducible refine wpAny_loadPart_at hx ?_;rw [hc])|with_reducible refine L.at ?_|wp_step))
  refine xc_get hC T hx hc ?_
  repeat (any_goals (first|assumption|wp_step))
theorem xc_check {M:Model}{nameV:Value}{Q:Unit→Shared→Prop} (hC:h.get? C=some (excClassObj nm q C N bs bm hdct sn sub ab col dd k0 k1 k2 k3 k5 newId)) (T:OwnTail h bmVE bm)
 (hx:h.get? a=some o) (hc:o.cls = .ref C) (hq:Q () ⟨h,g,d,t,os⟩):wpAny M A (checkBuiltinCall "BaseException.__getattribute__" ⟨[.ref a,nameV],[]⟩) Q E ⟨h,g,d,t,os⟩:=by
  have hk:builtinKind "BaseException.__getattribute__" = some .slot:=by decide +kernel
  have hsplit:splitId "BaseException.__getattribute__" = some ("BaseException","__getattribute__"):=by decide +kernel
  have hcB:(Value.ref C::bm).contains (.type "BaseException")=true:=by rw [List.contains_cons,T.hasType (X := "BaseException") (b:=true) (by decide)];rfl
  have ha:=F.args_bexc_ga (.ref a) nameV
  simp only [checkBuiltinCall,hk,hsplit]
  refine wpAny_bind ?_
  unfold isInstance
  repeat (first|(with_reducible refine wpAny_loadPart_at hx ?_;rw [hc])|(with_reducible refine wpAny_isSubtype_exc hC ?_;rw [hcB])|wp_step)
  exact hq
structure XCls (K:PySem.W.Frag) (C:Addr):Prop where
 exc:PySem.W.excIn K C bmVE "ValueError.__new__" = true
 ga:PySem.W.findIn K (.ref C) "__getattribute__" = some (some (.builtin "BaseException.__getattribute__"))
 na:PySem.W.findIn K (.ref C) "__getattr__" = some none
 cl:PySem.W.findIn K (.ref C) "__class__" = some (some (.builtin "object.__class__"))
theorem xc_by {tk:Tok}{Q:Value→Shared→Prop} (X:K.In h) (Z:XCls K C) (hC:h.get? C=some (excClassObj nm q C N bs bm hdct sn sub ab col dd k0 k1 k2 k3 k5 newId)) (T:OwnTail h bmVE bm)
 (hx:h.get? a=some o) (hc:o.cls = .ref C) (hq:Q (.ref C) ⟨h,g,d,t,os⟩):wpAny (model prog w) A (getAttrBy (.ref a) (.str "__class__" tk) false) Q E ⟨h,g,d,t,os⟩:=by
  have f3:=F.excAttr_ValueError.ga.bind (.ref a)
  have hx2:(Value.builtin "BaseException.__getattribute__" == Value.builtin "object.__getattribute__")=false:=by decide +kernel
  have hx1:(onTheHeap (Value.ref C)&&Value.builtin "BaseException.__getattribute__" == Value.builtin "object.__getattribute__")=false:=by rw [hx2];rfl
  have L:=PySem.W.looks_findIn (M:=model prog w) X Z.ga
  have L2:=PySem.W.looks_findIn (M:=model prog w) X Z.na
  repeat (any_goals (first|assumption|(with_reducible refine wpAny_loadPart_at hx ?_;rw [hc])|with_reducible refine L.at ?_|with_reducible refine L2.at ?_|wp_step))
  refine codeAny_call_builtin F.excAttr_ValueError.ga.plain F.entry_bexc_ga (xc_check hC T hx hc (xc_entry X Z.cl hC T hx hc ?_))
  repeat (any_goals (first|assumption|wp_step))
theorem xc_attr {Q:Option Value→Shared→Prop} (X:K.In h) (Z:XCls K C) (hC:h.get? C=some (excClassObj nm q C N bs bm hdct sn sub ab col dd k0 k1 k2 k3 k5 newId)) (T:OwnTail h bmVE bm)
 (hx:h.get? a=some o) (hc:o.cls = .ref C) (hq:Q (some (.ref C)) ⟨h,g,d,t+1,os⟩):wpAny (model prog w) A (getAttr? (.ref a) "__class__") Q E ⟨h,g,d,t,os⟩:=by
  unfold getAttr? getAttrBy?
  repeat (any_goals (first|assumption|with_reducible apply xc_by X Z hC T hx hc|wp_step))
end
theorem kitx_exc {K:PySem.W.Frag}{a C:Addr} (Z:XCls K C):PySem.W.KitX K (.ref a) (.ref C) (fun h => ∃ o,h.get? a=some o∧o.cls = .ref C) where
 ty:=fun M h X xx140=>by obtain ⟨o,h1,h2⟩:=xx140;exact h2 ▸ (PySem.W.Looks.ld h1).andThen .now
 it:=fun M h X _=>by
  obtain ⟨bm,N,nm,qn,bs,hd,sn,sub,ab,col,dd,k0,k1,k2,k3,k5,mN,hC,_⟩:=exc_obj X Z.exc
  intro A' Q' E' s' k q
  unfold isType loadHead
  exact wpAny_bind (wpAny_loadPart (k _ _ hC) (wpAny_pure q))
 ne:=fun h tp dd its n sl X htp=>by
  obtain ⟨bm,N,nm,qn,bs,hd,sn,sub,ab,col,dd',k0,k1,k2,k3,k5,mN,hC,_⟩:=exc_obj X Z.exc
  refine Bool.eq_false_iff.mpr fun q=>?_
  have e:C=tp:=Value.ref.inj (beq_iff_eq.mp q)
  subst e
  have z:=Option.some.inj (hC.symm.trans htp)
  have z2:=congrArg Obj.data z
  exact Data.noConfusion z2
 ca:=fun {prog w A E Q s} X ⟨o,h1,h2⟩ k=>by
  obtain ⟨bm,N,nm,qn,bs,hd,sn,sub,ab,col,dd',k0,k1,k2,k3,k5,mN,hC,hN,hni,T,_⟩:=exc_obj X Z.exc
  obtain ⟨hh,g,d,t,os⟩:=s
  exact xc_attr X Z hC T h1 h2 k
end L2
namespace L2
open PySem PySem.Spec PyProof.Rows
def clsV:V→Option Value
 | .ty n=>some (.type n)
 | .ref a=>some (.ref a)
 | _=>none
theorem clsV_rel {v:V}{u u':Value} (r:RelV v u) (h:clsV v=some u'):u=u':=by
 cases v with
 | ty n=>cases h;exact r
 | ref a=>cases h;exact r
 | _=>cases h
theorem clsV_vals : ∀ {vs:List V}{us us':List Value},Vals vs us→vs.mapM clsV=some us'→us=us'
 | [],_,_,.nil,h=>by cases h;rfl
 | v::vs,_,us',.cons r t,h=>by
  rw [List.mapM_cons] at h
  cases hv:clsV v with
  | none=>rw [hv] at h;cases h
  | some u0 =>
   cases hr:vs.mapM clsV with
   | none=>rw [hv,hr] at h;cases h
   | some us0 =>
    rw [hv,hr] at h
    cases h
    rw [clsV_rel r hv,clsV_vals t hr]
def rIsX (K:PySem.W.Frag):List V→Hp→VK→Prop:=fun xs H Q => ∃ (C ea:Addr) (c:V) (u:Value) (b:Bool),xs=[.ref ea,c]∧H ea=some (excO C ea)∧XCls K C∧clsV c=some u∧PySem.W.kitOne K (.ref C) u=some b∧Q (.bl b) H
def rIsXs (K:PySem.W.Frag):List V→Hp→VK→Prop:=fun xs H Q => ∃ (C ea tp:Addr) (cs:List V) (us:List Value) (b:Bool),xs=[.ref ea,.ref tp]∧H ea=some (excO C ea)∧XCls K C∧H tp=some (.tup cs)∧cs.mapM clsV=some us∧PySem.W.kitAny K (.ref C) us=some b∧Q (.bl b) H
section
variable {X:Cx}
theorem call_isX:CallR X (.builtin "isinstance") (rIsX X.K):=by
 intro pins s σ H xs us Q I r h
 obtain ⟨C,ea,c,u,b,rfl,ha,Z,hc,e,q⟩:=h
 obtain ⟨u1,u2,rfl,rx,rc⟩:=vals2 r
 cases rx
 rw [clsV_rel rc hc]
 obtain ⟨p,_,_⟩:=(show ObjOk X.prog X.w H s.heap ea (excO C ea) from I.hok ea _ ha)
 exact PySem.W.kia_one (kitx_exc Z) I.kIn p e (fun z=>nomatch z) fun tk=>⟨.bl b,H,I.tok tk,rfl,q⟩
theorem call_isXs:CallR X (.builtin "isinstance") (rIsXs X.K):=by
 intro pins s σ H xs us Q I r h
 obtain ⟨C,ea,tp,cs,us',b,rfl,ha,Z,ht,hc,e,q⟩:=h
 obtain ⟨u1,u2,rfl,rx,rc⟩:=vals2 r
 cases rx
 cases rc
 obtain ⟨p,_,_⟩:=(show ObjOk X.prog X.w H s.heap ea (excO C ea) from I.hok ea _ ha)
 obtain ⟨its,rv,pl,_⟩:=I.tuple (SqT.of ht)
 obtain ⟨⟨cls,dd,data,sl⟩,ho,hcl,n,hdt⟩:=pl
 simp only at hcl hdt
 subst hcl hdt
 rw [clsV_vals rv hc] at ho
 exact PySem.W.kia_tup (kitx_exc Z) I.kIn p ho e (fun z=>nomatch z) fun tk=>⟨.bl b,H,I.tok tk,rfl,q⟩
def tVs (vs:List V):TA:=fun _ H Q=>Q vs H
theorem pa_c0:PA X [] (tVs []):=pa_nil
theorem pa_c {e:Expr}{es:List Expr}{v:V}{vs:List V} (he:PE X e (tC v)) (hs:PA X es (tVs vs)) (hst:starEach (e::es) X.env=(false,eval e X.env)::starEach es X.env:=by rfl):PA X (e::es) (tVs (v::vs)):=pa_cons he hs hst
def wIsX (K:PySem.W.Frag) (j:Nat) (u:Value):WE:=fun env Q=>match gS env j with | .exc C=>XCls K C ∧ ∃ b,PySem.W.kitOne K (.ref C) u=some b∧Q (.bool b) env|_=>False
def wIsXs (K:PySem.W.Frag) (j:Nat) (us:List Value):WE:=fun env Q=>match gS env j with | .exc C=>XCls K C ∧ ∃ b,PySem.W.kitAny K (.ref C) us=some b∧Q (.bool b) env|_=>False
section
variable {y:Str}{c:Expr}{cs:List Expr}{v:V}{vs:List V}{u:Value}{us:List Value}{p py pt pos:Pos}{x1:Nat}
theorem ve_isX (j:Nat) (hm:X.mg "isinstance" = none) (hc:PE X c (tC v)) (hu:clsV v=some u) (hj:X.N[j]?=some y:=by rfl) (hv:Vis X.env.scope y:=by first|exact Or.inl rfl|exact Or.inr (Or.inl rfl)|exact Or.inr (Or.inr rfl))
 (hg:Gl X "isinstance":=by rfl) (hd:(y==("__debug__" : Str))=false:=by decide) (hcd:(y==("__classdict__" : Str))=false:=by decide)
 (hs:starEach [.Name y py,c] X.env=(false,eval (.Name y py) X.env)::starEach [c] X.env:=by rfl) (hs2:starEach [c] X.env=(false,eval c X.env)::starEach [] X.env:=by rfl) (hpl:(backTo pos (starEach [c] X.env)).any (·.1)=false:=by rfl) :
 VE X (.Call (.Name "isinstance" p) [.Name y py,c] [] pos) (wIsX X.K j u) :=
 (pe_callB call_isX hg hm boot_isinstance (pa_cons (pe_var hj hv hd hcd) (pa_cons hc pa_nil hs2) hs) (by decide) (by decide) hs hpl).imp fun σ H R xx141=>by
  obtain ⟨M,env,F,Q,I,h,k⟩:=xx141
  have S:=I.slot j
  unfold wIsX at h
  cases q:gS env j with
  | exc C =>
   rw [q] at S h
   obtain ⟨ea,e,z⟩:=S
   obtain ⟨Z,b,hb,h⟩:=h
   exact ⟨_,vS_some e,C,ea,v,u,b,rfl,I.fh.at z,Z,hu,hb,k _ _ F H env I (.refl _) (is_bl _) h⟩
  | non=>rw [q] at h;exact h.elim
  | obj a0 C nm fs=>rw [q] at h;exact h.elim
  | «at» v=>rw [q] at h;exact h.elim
  | val d=>rw [q] at h;exact h.elim
  | own ds=>rw [q] at h;exact h.elim
  | pen ds=>rw [q] at h;exact h.elim
  | new d=>rw [q] at h;exact h.elim
theorem ve_isXs (j:Nat) (hm:X.mg "isinstance" = none) (hc:PA X cs (tVs vs)) (hu:vs.mapM clsV=some us) (hl:vs.length≤sizeLine) (hj:X.N[j]?=some y:=by rfl) (hv:Vis X.env.scope y:=by first|exact Or.inl rfl|exact Or.inr (Or.inl rfl)|exact Or.inr (Or.inr rfl))
 (hg:Gl X "isinstance":=by rfl) (hd:(y==("__debug__" : Str))=false:=by decide) (hcd:(y==("__classdict__" : Str))=false:=by decide)
 (hs:starEach [.Name y py,.Tuple cs x1 pt] X.env=(false,eval (.Name y py) X.env)::starEach [.Tuple cs x1 pt] X.env:=by rfl) (hs2:starEach [.Tuple cs x1 pt] X.env=(false,eval (.Tuple cs x1 pt) X.env)::starEach [] X.env:=by rfl)
 (hpl:(backTo pos (starEach [.Tuple cs x1 pt] X.env)).any (·.1)=false:=by rfl) :
 VE X (.Call (.Name "isinstance" p) [.Name y py,.Tuple cs x1 pt] [] pos) (wIsXs X.K j us) :=
 (pe_callB call_isXs hg hm boot_isinstance (pa_cons (pe_var hj hv hd hcd) (pa_cons (pe_tup hc) pa_nil hs2) hs) (by decide) (by decide) hs hpl).imp fun σ H R xx142=>by
  obtain ⟨M,env,F,Q,I,h,k⟩:=xx142
  have S:=I.slot j
  unfold wIsXs at h
  cases q:gS env j with
  | exc C =>
   rw [q] at S h
   obtain ⟨ea,e,z⟩:=S
   obtain ⟨Z,b,hb,h⟩:=h
   exact ⟨_,vS_some e,hl,fun tp hp=>⟨C,ea,tp,vs,us,b,rfl,(same_new hp).at (I.fh.at z),Z,upd_same,hu,hb,k _ _ F _ env (I.go (.side I.fh hp)) (.refl _) (is_bl _) h⟩⟩
  | non=>rw [q] at h;exact h.elim
  | obj a0 C nm fs=>rw [q] at h;exact h.elim
  | «at» v=>rw [q] at h;exact h.elim
  | val d=>rw [q] at h;exact h.elim
  | own ds=>rw [q] at h;exact h.elim
  | pen ds=>rw [q] at h;exact h.elim
  | new d=>rw [q] at h;exact h.elim
end
end
end L2
namespace L2
open PySem PySem.Spec PyProof.Rows
section
variable {prog:Program}{w:World}{A:Around}{E:Value→Shared→Prop}{s:Shared}
end
end L2
namespace L2
open PySem PySem.Spec PyProof.Rows
section
variable {X:Cx}{pins:List (Addr×Obj)}{σ:St}{H:Hp}{s:Shared}{b:Bool}{a:Addr}{xs ys:List V}
end
section
variable {X:Cx}{elts:List Expr}{x1:Nat}{tpos:Pos}
end
section
variable {X:Cx}{a b:Expr}{p pos:Pos}{elts:List Expr}{x1:Nat}{tpos:Pos}
end
end L2
namespace L2
open PySem PySem.Spec PyProof.Rows
theorem boot_ValueError:bootBuiltins "ValueError" = some (.type "ValueError"):=by decide +kernel
section
variable {X:Cx}
end
end L2
namespace L2
open PySem PySem.Spec PyProof.Rows
section
variable {X:Cx}{e:Expr}{W:WF}{We:WE}{pos:Pos}
end
end L2
namespace L2
open PySem PySem.Spec PyProof.Rows
section
variable {prog:Program}{w:World}{A:Around}{E:Value→Shared→Prop}{s:Shared}
end
section
variable {X:Cx}
end
end L2
namespace L2
open PySem PySem.Spec PyProof.Rows
section
variable {X:Cx}{a b c d:Expr}{pos:Pos}{ta tb tc td:TE}
variable {Wa Wb Wc Wd:WE}
end
end L2
namespace L2
open PySem PySem.Spec PyProof.Rows
section
variable {X:Cx}{elt target iter cnd:Expr}{scope:Scope}{pos:Pos}{caps own:List Str}{ix:List Nat}{wi:TI}{g:TG}{te:TE}{tt:TT}
section
variable {K:PySem.W.Frag}{ix:List Nat}{n:Nat}{Wi:WF}{G:WG}{Wt:WT}{We:WE}{σ:St}{H:Hp}{R:VK}
end
end
end L2
namespace L2
open PySem PySem.Spec PyProof.Rows
section
variable {X:Cx}
end
section
variable {X:Cx}{e:Expr}{We:WE}{pos:Pos}
variable {x:Str}{px apos cpos:Pos}
def wIsNX (i:Nat):WE:=fun env Q=>match gS env i with | .exc _=>Q (.bool false) env | .val d=>Q (.bool (isNoneD d)) env|_=>False
theorem isNX_lift {σ:St}{H:Hp}{R:VK}{i:Nat} (h:liftE X.K (wIsNX i) σ H R):tVar i σ H fun x H1=>tC .non σ H1 fun y H2=>y = .non∧R (.bl (decide (x = .non))) H2:=by
 obtain ⟨M,env,F,Q,I,h,k⟩:=h
 have S:=I.slot i
 unfold wIsNX at h
 cases q:gS env i with
 | exc C =>
  rw [q] at S h
  obtain ⟨ea,e,z⟩:=S
  exact ⟨_,vS_some e,rfl,k _ _ F H env I (.refl _) (is_bl _) h⟩
 | val d =>
  rw [q] at S h
  obtain ⟨v,e,j⟩:=S
  exact ⟨_,vS_some e,rfl,by rw [is_none_iff j];exact k _ _ F H env I (.refl _) (is_bl _) h⟩
 | non=>rw [q] at h;exact h.elim
 | obj a0 C nm fs=>rw [q] at h;exact h.elim
 | «at» v=>rw [q] at h;exact h.elim
 | own ds=>rw [q] at h;exact h.elim
 | pen ds=>rw [q] at h;exact h.elim
 | new d=>rw [q] at h;exact h.elim
theorem vt_isNX (i:Nat) {pc:Pos}{jj} (hN:X.N[i]?=some x:=by rfl) (hv:Vis X.env.scope x:=by first|exact Or.inl rfl|exact Or.inr (Or.inl rfl)|exact Or.inr (Or.inr rfl)) (hd:(x==("__debug__" : Str))=false:=by decide)
 (hcd:(x==("__classdict__" : Str))=false:=by decide) (hm:behindInMarks .Is (.Constant .none jj pc)=false:=by first|exact nomark _|with_unfolding_all rfl):VT X (.Compare (.Name x px) [.Is] [.Constant .none jj pc] pos) (wTest (wIsNX i)) :=
 (pt_cmpR op_isN (pe_var hN hv hd hcd) pe_non hm).imp fun σ H R h=>isNX_lift (test_lift h)
end
end L2
namespace L2
open PySem PySem.Spec PyProof.Rows
section
variable {prog:Program}{w:World}{A:Around}{E:Value→Shared→Prop}{s:Shared}
end
section
variable {X:Cx}{elts:List Expr}{x1:Nat}{tpos:Pos}
end
section
variable {X:Cx}{a:Expr}{W:WE}{p pos:Pos}
variable {e1 e2:Expr}{W1 W2:WE}
def wPar (i j:Nat) (Wr:WF):WS:=fun D env=>Wr env fun ds e=>match ds with
 | [d,d']=>D.nx ((e.set i (.val d)).set j (.val d'))
 | _=>False
theorem vs_par {i j:Nat}{x y:Str}{a b:Expr}{Wr:WF}{px py pt pos:Pos}{kt k2 pt2} (hc:X.calm=true) (hN:X.N.Nodup) (ha:VA X [a,b] Wr) (hi:X.N[i]?=some x:=by rfl) (hj:X.N[j]?=some y:=by rfl) (hij:i≠j:=by decide)
 (hx:X.env.scope.names.lookup x=some .local:=by rfl) (hy:X.env.scope.names.lookup y=some .local:=by rfl)
 (hw:swappedStores [.Tuple [.Name x px,.Name y py] kt pt] (.Tuple [a,b] k2 pt2) X.env=pure (some [x,y]):=by rfl)
 (hs:swapsWithSole [.Tuple [.Name x px,.Name y py] kt pt] (.Tuple [a,b] k2 pt2) pos.line X.env=pure false:=by rfl) :
 VS X (.Assign [.Tuple [.Name x px,.Name y py] kt pt] (.Tuple [a,b] k2 pt2) pos) (wPar i j Wr) :=
 (ps_par hc hN hi hj hij hx hy ha hw hs).imp fun D σ H xx143=>by
  obtain ⟨M,env,F,DD,I,h,k⟩:=xx143
  refine ⟨M,env,F,_,I,h,fun ds vs F1 H1 e1 I1 s1 i1 h1=>?_⟩
  cases ds with
  | nil=>exact h1.elim
  | cons d r=>cases r with
   | nil=>exact h1.elim
   | cons d' r=>cases r with
    | cons _ _=>exact h1.elim
    | nil =>
     obtain ⟨v,w',rfl,j1,j2⟩:=iss2 i1
     exact ⟨v,w',rfl,k.nx _ F1 H1 _ ((I1.setv j1).setv j2) s1 h1⟩
end
end L2
namespace L2
open PySem PySem.Spec PyProof.Rows
section
variable {X:Cx}
end
end L2
namespace L2
open PySem PySem.Spec PyProof.Rows
section
variable {X:Cx}
end
end L2
namespace L2
open PySem PySem.Spec PyProof.Rows
section
variable {X:Cx}
end
section
variable {P:Program}{w:World}{K:PySem.W.Frag}{mg:Str→Option Value}{base:Heap}
end
end L2
namespace L2
open PySem PySem.Spec PyProof.Rows
section
variable {X:Cx}{elt target iter cnd:Expr}{scope:Scope}{pos:Pos}{caps own:List Str}{ix:List Nat}{wi:TI}{g:TG}{te:TE}{tt:TT}
end
section
variable {X:Cx}{elt target iter cnd:Expr}{scope:Scope}{pos py spos:Pos}{caps own:List Str}{ix:List Nat}{Wi:WF}{G:WG}{Wt:WT}{We:WE}{i:Nat}{y:Str}
end
end L2
namespace L2
open PySem PySem.Spec PyProof.Rows
section
variable {κ:Type} [DecidableEq κ]
def valV (kvs:List (κ×V)) (k:κ):Option V:=(kvs.find? fun kv=>decide (kv.1=k)).map (·.2)
end
section
variable {P:Program}{w:World}{H:Hp}{h:Heap}{a:Addr}
end
section
variable {X:Cx}{pins:List (Addr×Obj)}{σ:St}{H:Hp}{s:Shared}{a:Addr}{y v:V}{u r:Value}{o:Option V}{A:Around}{E:Value→Shared→Prop}
theorem Inv.big (I:Inv X pins σ H s):sysModules<s.heap.objs.size:=by
 have h:mainGlobals<s.heap.objs.size:=(I.mod.glob.keeps I.bk).lt
 exact Nat.lt_trans (by decide) h
end
section
variable {X:Cx}{pins:List (Addr×Obj)}{σ:St}{H:Hp}{s:Shared}{a:Addr}{kvs:List (Key×V)}{k:Key}{u:Value}{A:Around}{E:Value→Shared→Prop}
end
section
variable {X:Cx}{o i e value:Expr}{pos pos' tpos:Pos}{td ty tv:TE}
end
theorem dk_empty {P:Program}{w:World}{H:Hp} (h:Heap) (hb:sysModules<h.objs.size):ObjOk P w H (h.push { cls :=.type "dict",data :=.dict #[] }) h.objs.size (.dK []) :=
 ⟨Nat.zero_le _,beq_eq_false_iff_ne.mpr (Ne.symm (Nat.ne_of_lt hb)),[],.nil,Heap.DictOf.new h⟩
def tDNewK:TE:=fun _ H Q => ∀ p,H p=none→Q (.ref p) (upd H p (.dK []))
section
variable {X:Cx}{pos:Pos}
theorem pe_dnewK:PE X (.Dict [] [] pos) tDNewK:=fun pins s σ H Q I h =>
 wpAny_Dict_empty ⟨.ref s.heap.objs.size,_,I.laid (a:=s.heap.objs.size) (o :=.dK []) (t':=s.toks) (fun _ _ q=>Heap.get?_push_of_some _ q) (Nat.le_refl _) (dk_empty s.heap I.big),rfl,h _ (I.hok.fresh (Nat.le_refl _))⟩
end
section
variable {X:Cx}{pins:List (Addr×Obj)}{σ:St}{H:Hp}{s:Shared}{a:Addr}{y d:V}{u r:Value}{o:Option V}{A:Around}{E:Value→Shared→Prop}
end
section
variable {X:Cx}{o e f:Expr}{apos cpos:Pos}{td ty tx:TE}
end
end L2
namespace L2
open PySem PySem.Spec PyProof.Rows
section
variable {X:Cx}
def wDct0:WE:=fun env Q=>Q (.dict []) env
theorem ve_dct0 {pos:Pos}:VE X (.Dict [] [] pos) wDct0:=pe_dnewK.imp fun σ H R xx144 p hp=>by
 obtain ⟨M,env,F,Q,I,h,k⟩:=xx144
 have g:=Go.put (o:=HO.dK []) I.fh hp
 exact k _ _ _ _ env (I.go g) g.f (is_dct upd_same rfl) h
def dStrI:DC
 | [.int i],q=>i.natAbs.log2<1920∧q (.str (toString i))
 | _,_=>False
theorem c_strI:CallV X (.type "str") dStrI:=call_str_int.imp fun xs H Q xx145=>by
 obtain ⟨F,ds,q,s,i,h,k⟩:=xx145
 match ds,h,i with
 | [.int n],h,i =>
  obtain ⟨v,rfl,j⟩:=iss1 i
  exact ⟨n,by rw [j.int_inv],h.1,k _ _ F H (.refl s) (is_str _) h.2⟩
end
end L2
namespace L2
open PySem PySem.Spec PyProof.Rows
section
variable {P:Program}{w:World}{K:PySem.W.Frag}{mg:Str→Option Value}{base:Heap}
end
section
variable {X:Cx}
end
end L2
namespace L2
open PySem PySem.Spec PyProof.Rows
section
variable {X:Cx}
theorem VE.pe {e:Expr}{W:WE} (h:VE X e W):PE X e (liftE X.K W):=h
theorem VS.ps {st:Stmt}{W:WS} (h:VS X st W):PS X st (liftS X.K W):=h
end
mutual
def flatD:PyData→Bool
 | .list _=>false
 | .dict _=>false
 | .tuple l=>flatDs l
 | _=>true
def flatDs:List PyData→Bool
 | []=>true
 | d::l=>flatD d&&flatDs l
end
mutual
theorem Is.off {K:PySem.W.Frag}{F:Hp}{a:Addr}{xs:List V} (hF:F a=some (.lst xs)) : ∀ {d:PyData}{v:V},flatD d=true→Is K F d v→Is K (offA F a) d v
 | .none,_,_,h=>by unfold Is at h ⊢;exact h
 | .bool _,_,_,h=>by unfold Is at h ⊢;exact h
 | .int _,_,_,h=>by unfold Is at h ⊢;exact h
 | .str _,_,_,h=>by unfold Is at h ⊢;exact h
 | .list l,_,z,h=>by simp [flatD] at z
 | .dict l,_,z,h=>by simp [flatD] at z
 | .tuple l,_,z,h=>by
  unfold Is at h ⊢
  obtain ⟨b,ys,e,q,r⟩:=h
  refine ⟨b,ys,e,?_,Iss.off hF (by simpa [flatD] using z) r⟩
  rcases q with q|q
  ·refine .inl ?_
   rcases q with q|⟨o,q⟩
   ·refine .inl ?_
    unfold offA
    rw [if_neg (fun y=>by subst y;rw [hF] at q;cases q)];exact q
   ·refine .inr ⟨o,?_⟩
    unfold offA
    rw [if_neg (fun y=>by subst y;rw [hF] at q;cases q)];exact q
  ·exact .inr q
theorem Iss.off {K:PySem.W.Frag}{F:Hp}{a:Addr}{xs:List V} (hF:F a=some (.lst xs)) : ∀ {l:List PyData}{vs:List V},flatDs l=true→Iss K F l vs→Iss K (offA F a) l vs
 | [],_,_,h=>by unfold Iss at h ⊢;exact h
 | d::l,_,z,h=>by
  unfold Iss at h ⊢
  obtain ⟨x,r,e,p,q⟩:=h
  have z':flatD d=true∧flatDs l=true:=by simpa [flatDs] using z
  exact ⟨x,r,e,Is.off hF z'.1 p,Iss.off hF z'.2 q⟩
end
section
variable {X:Cx}
end
end L2
namespace L2
open PySem PySem.Spec PyProof.Rows
section
variable {K:PySem.W.Frag}{M:Frm}{F H:Hp}
def Slots (K:PySem.W.Frag) (M:Frm) (F H:Hp):Sto→St→Prop
 | [],σ=>σ=[]
 | s::e,σ => ∃ x r,σ=x::r∧(SlotOk K M F H s x∧s.mut=false)∧Slots K M F H e r
theorem Slots.len : ∀ {e:Sto}{σ:St},Slots K M F H e σ→e.length=σ.length
 | [],σ,h=>by
  have h:σ=[]:=h
  subst h;rfl
 | s::e,σ,h=>by
  obtain ⟨x,r,rfl,_,h⟩:=h
  rw [List.length_cons,List.length_cons,Slots.len h]
theorem Slots.at : ∀ {e:Sto}{σ:St},Slots K M F H e σ → ∀ i,SlotOk K M F H (gS e i) (vS σ i)∧(gS e i).mut=false
 | [],σ,h,i=>by
  rw [gS_out (Nat.zero_le _)]
  exact ⟨trivial,rfl⟩
 | s::e,σ,h,0=>by
  obtain ⟨x,r,rfl,q,h⟩:=h
  exact q
 | s::e,σ,h,i+1=>by
  obtain ⟨x,r,rfl,q,h⟩:=h
  have e1:vS (x::r) (i+1)=vS r i:=by unfold vS;rw [List.getElem?_cons_succ]
  rw [e1]
  exact Slots.at h i
theorem env_of {env:Sto}{σ:St} (s:Same F H) (h:Slots K ⟨H,H,F⟩ F H env σ):EnvOk K ⟨H,H,F⟩ F H env σ where
 len:=h.len
 slot:=fun i=>(h.at i).1
 dis:=fun i j a _ m _ _ _=>by rw [(h.at i).2] at m;cases m
 f0 :=.refl _
 fe:=s
 fh:=s
 bh :=.refl _
 new:=fun b o e => .inl e
 dom:=fun b o e=>⟨o,e⟩
end
section
variable {X:Cx}
end
section
variable {X:Cx}
end
end L2
namespace L2
open PySem PySem.Spec PyProof.Rows
section
variable {X:Cx}
end
theorem lift_step {K:PySem.W.Frag}{W:WS}{D:Ends}{σ:St}{H:Hp}{M:Frm}{env:Sto}{F:Hp} (P:Sto→Prop) (I:EnvOk K M F H env σ) (hW:W { nx:=P,rt:=fun _ _=>False } env) (k : ∀ env' F' H' σ',EnvOk K M F' H' env' σ'→Same F F'→P env'→D.nx σ' H'):liftS K W D σ H :=
 ⟨M,env,F,_,I,hW,⟨k,fun _ _ _ _ _ _ _ _ _ q=>q.elim,fun _ _ _ _ _ _ q=>q.elim,fun _ _ _ _ _ _ q=>q.elim⟩⟩
end L2
namespace L2
open PySem PySem.Spec PyProof.Rows
section
variable {X:Cx}
end
end L2
namespace L2
open PySem PySem.Spec PyProof.Rows
section
variable {X:Cx}{e:Expr}{We:WE}{pos:Pos}
end
end L2
namespace L2
open PySem PySem.Spec PyProof.Rows
section
variable {X:Cx}
end
end L2
namespace L2
open PySem PySem.Spec PyProof.Rows
section
variable {X:Cx}{pos:Pos}
end
end L2
namespace L2
open PySem PySem.Spec PyProof.Rows
mutual
def flatN:PyData→Bool
 | .list _=>false
 | .dict _=>false
 | .tuple l=>flatNs l
 | _=>true
def flatNs:List PyData→Bool
 | []=>true
 | d::l=>flatN d&&flatNs l
end
mutual
theorem is_off {K:PySem.W.Frag}{F:Hp}{a:Addr}{vs:List V} (h:F a=some (.lst vs)) : ∀ {d:PyData}{v:V},flatN d=true→Is K F d v→Is K (offA F a) d v
 | .none,_,_,i=>by unfold Is at i ⊢;exact i
 | .bool _,_,_,i=>by unfold Is at i ⊢;exact i
 | .int _,_,_,i=>by unfold Is at i ⊢;exact i
 | .str _,_,_,i=>by unfold Is at i ⊢;exact i
 | .list l,_,z,_=>by unfold flatN at z;cases z
 | .dict l,_,z,_=>by unfold flatN at z;cases z
 | .tuple l,_,z,i=>by
  unfold flatN at z
  unfold Is at i ⊢
  obtain ⟨b,xs,e,q,r⟩:=i
  refine ⟨b,xs,e,?_,iss_off h z r⟩
  rcases q with (q|⟨o,q⟩)|q
  ·exact .inl (.inl (by unfold offA;rw [if_neg (fun c=>by rw [c,h] at q;cases q)];exact q))
  ·exact .inl (.inr ⟨o,by unfold offA;rw [if_neg (fun c=>by rw [c,h] at q;cases q)];exact q⟩)
  ·exact .inr q
theorem iss_off {K:PySem.W.Frag}{F:Hp}{a:Addr}{vs:List V} (h:F a=some (.lst vs)) : ∀ {l:List PyData}{xs:List V},flatNs l=true→Iss K F l xs→Iss K (offA F a) l xs
 | [],_,_,i=>by unfold Iss at i ⊢;exact i
 | d::l,_,z,i=>by
  unfold flatNs at z
  rw [Bool.and_eq_true] at z
  unfold Iss at i ⊢
  obtain ⟨x,r,e,p,q⟩:=i
  exact ⟨x,r,e,is_off h z.1 p,iss_off h z.2 q⟩
end
section
variable {X:Cx}
end
end L2
namespace L2
open PySem PySem.Spec PyProof.Rows
section
variable {X:Cx}{Ex:St→XK}{a b:Expr}{rest:List Expr}{pos:Pos}{Wa Wx2:WX→WE}{Wb:WE}
end
end L2
namespace L2
open PySem PySem.Spec PyProof.Rows
section
variable {X:Cx}
end
section
variable {X:Cx}{elt target iter cnd:Expr}{scope:Scope}{pos py spos:Pos}{caps own:List Str}{ix:List Nat}{Wi:WF}{G:WG}{Wt:WT}{We:WE}{i:Nat}{y:Str}
end
end L2
namespace L2
open PySem PySem.Spec PyProof.Rows
section
variable {X:Cx}{b:Expr}{Wb:WE}{pos px:Pos}
end
end L2
namespace L2
open PySem PySem.Spec PyProof.Rows
section
variable {X:Cx}{Ex:St→XK}{pos:Pos}{Wt:WX→WS}
end
end L2
namespace L2
open PySem PySem.Spec PyProof.Rows PySem.W
section
variable {n:Nat}{lt:Nat→Nat→Bool}{p:Array Nat}
end
section
variable {n:Nat}{lt:Nat→Nat→Bool}{cmp:Nat→Nat→(Bool→Shared→Prop)→Shared→Prop}{s:Shared}
end
end L2
namespace L2
open PySem PySem.Spec PyProof.Rows PySem.W
section
variable {prog:Program}{w:World}{A:Around}{R:Result→Shared→Prop}{s:Shared}
end
section
variable {P:Program}{w:World}{K:PySem.W.Frag}{mg:Str→Option Value}{base:Heap}{q:Str}{scope:Scope}{f cg:Addr}{cd ug u:Value}{x y:Str}{A:Around}{outer:List Env}{s:Shared}{H:Hp}{v vg:V}{h1:Heap}{tk:Nat}
end
end L2
namespace L2
open PySem PySem.Spec PyProof.Rows PySem.W
section
variable {X:Cx}{pins:List (Addr×Obj)}{σ:St}{H:Hp}{s:Shared}{tb c0:Addr}{nm qual:Str}{params:Arguments}{body:Expr}{scope:Scope}{clos:List (Str×Addr)}{pos:Pos}{line:Nat}{Q:Value→Shared→Prop}
end
end L2
namespace L2
open PySem PySem.Spec PyProof.Rows PySem.W
def lexN (x y:Nat→Int):Nat→Nat→Bool
 | 0,_=>false
 | k+1,i=>if x i==y i then lexN x y k (i+1) else decide (x i<y i)
end L2
namespace L2
open PySem PySem.Spec PyProof.Rows PySem.W
section
variable {X:Cx}{pins:List (Addr×Obj)}{σ:St}{H:Hp}{s:Shared}
variable {A:Around}{E:Value→Shared→Prop}{f:Value}{vs:List Value}{kl:Nat→List Int}{G:Hp→Prop}{m:Nat}{a kS:Addr}{e1:Nat}{b:Bool}{P:PySem.Fin→Shared→Prop}
end
end L2
namespace L2
open PySem PySem.Spec PyProof.Rows PySem.W
section
variable {X:Cx}{pins:List (Addr×Obj)}{σ:St}{H:Hp}{s:Shared}
variable {K':Type} [DecidableEq K'] {knd:KeyKind X.prog X.w K'}{E:Value→Shared→Prop}{f:Addr}{kvs:List (K'×Value)}{ep:Nat}{kl:Nat→List Int}{G:Hp→Prop}{m:Nat}{r d:Addr}{Q:Value→Shared→Prop}
end
end L2
namespace L2
open PySem PySem.Spec PyProof.Rows PySem.W
section
variable {prog:Program}{w:World}{A:Around}{E:Value→Shared→Prop}{s:Shared}{it v d:Addr}{es:Array DictEntry}{i ep:Nat}
end
end L2
namespace L2
open PySem PySem.Spec PyProof.Rows PySem.W
section
variable {prog:Program}{w:World}{K:Type} [DecidableEq K] {knd:HeapKind prog w K}{A:Around}{E:Value→Shared→Prop}{s:Shared}{d a:Addr}{xs:List (K×Addr×Value)}{k:K}{dv:Value}
end
section
variable {X:Cx}{pins:List (Addr×Obj)}{σ:St}{H:Hp}{s:Shared}{a b:Addr}{A:Around}{E:Value→Shared→Prop}{kvs:List (List Key×V)}{k:List Key}{dv:V}{r:Value}
end
end L2
namespace L2
open PySem PySem.Spec PyProof.Rows PySem.W
section
variable {X:Cx}{pins:List (Addr×Obj)}{σ:St}{H:Hp}{s:Shared}{E:Value→Shared→Prop}{f:Addr}{es:Array DictEntry}{ep:Nat}{kl:Nat→List Int}{G:Hp→Prop}{m:Nat}{r d:Addr}{Q:Value→Shared→Prop}{vs:List Value}
end
section
variable {X:Cx}{o e f:Expr}{apos cpos:Pos}{td ty tx:TE}
end
end L2
namespace L2
open PySem PySem.Spec PyProof.Rows PySem.W
section
variable {X:Cx}{pins:List (Addr×Obj)}{σ:St}{H:Hp}{s:Shared}{a:Addr}{A:Around}{E:Value→Shared→Prop}{kvs:List (List Key×V)}
end
section
variable {X:Cx}{pins:List (Addr×Obj)}{σ:St}{x y:Str}{scope:Scope}{params:Arguments}{body:Expr}{te:TE}{f cg c:Addr}{pm ct:Value}{vg:V}{vsV:List V}{vs:List Value}{kl:Nat→List Int}{G:Hp→Prop}{oc:Obj}{uu:HO}{fv:Array Value}{q:Str}{t:Tok}{nm qual:Str}{iy:Nat}
end
section
variable {X:Cx}{x y g:Str}{scope:Scope}{params:Arguments}{body:Expr}{te:TE}{cg c0 tb:Addr}{ig iy:Nat}{np gp ap cp lp kp pos:Pos}
end
end L2
namespace L2
open PySem PySem.Spec PyProof.Rows PySem.W
section
variable {P:Program}{w:World}{K:PySem.W.Frag}{mg mb:Str→Option Value}{CX:CXT}{k:Nat}{fa a:Addr}{ts:List Addr}{fd:FuncData}{x:Str}{sp:Sp}{s:Shared}{vs:List Value}{ns:List Int}
end
end L2
namespace L2
open PySem PySem.Spec PyProof.Rows PySem.W
section
variable {P:Program}{w:World}{K:PySem.W.Frag}{mg:Str→Option Value}{base:Heap}{ts:List Addr}
end
end L2
namespace L2
open PySem PySem.Spec PyProof.Rows
section
variable {X:Cx}
end
end L2
namespace L2
open PySem PySem.Spec PyProof.Rows
abbrev Grp:=List Int×Addr×List Nat
section
variable {F0 H0 F H:Hp}{d l p:Addr}{ks:List Grp}{k:List Int}{G:List Nat}{s:Nat}
end
end L2
namespace L2
open PySem PySem.Spec PyProof.Rows PySem.W
section
variable {X:Cx}{t u:TS}
end
section
variable {K:PySem.W.Frag}{M:Frm}{F H:Hp}{env:Sto}{σ:St}{W:WS}{u:TS}
end
section
variable {P:Program}{w:World}{K:PySem.W.Frag}{mg:Str→Option Value}{base:Heap}
end
end L2
namespace L2
open PySem PySem.Spec PyProof.Rows PySem.W
section
variable {a:Addr}{F H F1 H1 F2 H2:Hp}
end
end L2
namespace L2
open PySem PySem.Spec PyProof.Rows PySem.W
section
variable {prog:Program}{w:World}{A:Around}{E:Value→Shared→Prop}{s:Shared}
end
section
variable {X:Cx}{pins:List (Addr×Obj)}{σ:St}{H:Hp}{s:Shared}{A:Around}{E:Value→Shared→Prop}{vs:List Value}{kl:Nat→List Int}{m:Nat}{a:Addr}{P:PySem.Fin→Shared→Prop}
end
end L2
namespace L2
open PySem PySem.Spec PyProof.Rows PySem.W
section
variable {X:Cx}
end
end L2
namespace L2
open PySem PySem.Spec PyProof.Rows PySem.W
section
variable {X:Cx}{elt target iter cnd:Expr}{scope:Scope}{pos py spos:Pos}{caps own:List Str}{ix:List Nat}{Wi:WF}{G:WG}{Wt:WT}{We:WE}{i:Nat}{y:Str}
end
end L2
namespace L2
open PySem PySem.Spec PyProof.Rows PySem.W
end L2
namespace L2
open PySem PySem.Spec PyProof.Rows PySem.W
section
variable {prog:Program}{w:World}{A:Around}{E:Value→Shared→Prop}{s:Shared}{b c f:Bool}{z TI TO j1 j2 l1 l2 a:Addr}{oa:Obj}{k1 k2:Nat}{us vs:Array Value}
end
section
variable {prog:Program}{w:World}{A:Around}{E:Value→Shared→Prop}{s:Shared}{b c:Bool}{z TI TO j1 j2 l1 l2 M S:Addr}{us vs:Array Value}{i:Nat}{h h':Heap}
end
end L2
namespace L2
open PySem PySem.Spec PyProof.Rows PySem.W
section
variable {X:Cx}{pins:List (Addr×Obj)}{σ:St}{s:Shared}
end
end L2
namespace L2
open PySem PySem.Spec PyProof.Rows PySem.W
section
variable {P:Program}{w:World}{K:PySem.W.Frag}{mg:Str→Option Value}{base:Heap}{q:Str}{scope:Scope}{f cg:Addr}{cd ug u:Value}{x y:Str}{A:Around}{outer:List Env}{s:Shared}{H:Hp}{v vg:V}{h1:Heap}{tk:Nat}
end
end L2
namespace L2
open PySem PySem.Spec PyProof.Rows PySem.W
section
variable {X:Cx}{pins:List (Addr×Obj)}{σ:St}{H:Hp}{s:Shared}{E:Value→Shared→Prop}{f a:Addr}{xs:List V}{its:List Value}{b:Bool}{kl:Nat→List Int}{G:Hp→Prop}{m:Nat}{Q:Value→Shared→Prop}
end
section
variable {X:Cx}{pins:List (Addr×Obj)}{σ:St}{x y:Str}{scope:Scope}{params:Arguments}{body:Expr}{te:TE}{f cg c:Addr}{pm ct:Value}{vg:V}{vsV:List V}{vs:List Value}{kn:Nat→Int}{G:Hp→Prop}{oc:Obj}{uu:HO}{fv:Array Value}{q:Str}{t:Tok}{nm qual:Str}{iy:Nat}
end
section
variable {X:Cx}{x y:Str}{scope:Scope}{params:Arguments}{body:Expr}{te:TE}{cg c0 tb:Addr}{iy:Nat}{np gp lp kp pos:Pos}
end
section
variable {X:Cx}{elt target iter cnd:Expr}{scope:Scope}{pos py spos:Pos}{caps own:List Str}{ix:List Nat}{Wi:WF}{G:WG}{Wt:WT}{We:WE}{i:Nat}{y:Str}
end
end L2
namespace HT
open PySem PySem.Spec PyProof.Rows
section
variable {prog:Program}{w:World}{A:Around}{E:Value→Shared→Prop}{s:Shared}
end
end HT
namespace L2
open PySem PySem.Spec PyProof.Rows PySem.W
section
variable {X:Cx}{e:Expr}{te:TE}{p2 pos:Pos}
end
section
variable {X:Cx}{e:Expr}{W:WE}{p2 p3 p4 pos:Pos}
end
section
variable {X:Cx}{x:Str}{px pos p pT:Pos}
end
end L2
namespace L2
open PySem PySem.Spec PyProof.Rows
open Builtin.Int (intBits)
section
variable {X:Cx}
def rStarts (x:V) (xs:List V) (H:Hp) (Q:VK):Prop := ∃ a b,x = .str a∧xs=[.str b]∧Q (.bl (Txt.startswith a b)) H
theorem mt_starts:MtR X "str.startswith" rStarts:=by
 intro pins s σ H x xs v us Q I r rs h
 obtain ⟨a,b,rfl,rfl,q⟩:=h
 obtain ⟨t,rfl⟩:=r
 obtain ⟨u,rfl,ru⟩:=rs.one
 obtain ⟨t2,rfl⟩:=ru
 exact SC.startswith ⟨.bl _,H,I,rfl,q⟩
def partS (x y:Str):List Str:=match Builtin.Str.occurrences x y 0 x.length 1 with
 | i::_=>[Builtin.Str.strSub x 0 i,y,Builtin.Str.strSub x (i+y.length) x.length]
 | []=>[x,Str.empty,Str.empty]
def rPart (x:V) (xs:List V) (H:Hp) (Q:VK):Prop := ∃ a b,x = .str a∧xs=[.str b]∧((b.length==0)=false∧a.length≤sizeLine) ∧ ∀ l,H l=none→Q (.ref l) (upd H l (.tup ((partS a b).map .str)))
theorem mt_part:MtR X "str.partition" rPart:=by
 intro pins s σ H x xs v us Q I r rs h
 obtain ⟨a,b,rfl,rfl,⟨hb,ha⟩,q⟩:=h
 obtain ⟨t,rfl⟩:=r
 obtain ⟨u,rfl,ru⟩:=rs.one
 obtain ⟨t2,rfl⟩:=ru
 refine call_meets F.slot_str_partition (typeIs_str _ _ _) F.entry_str_partition (F.args_str_partition_2 _ _) (meets_str_partition a b t t2 hb ha) ?_
 unfold partS at q
 revert q
 cases Builtin.Str.occurrences a b 0 a.length 1 with
 | nil =>
  intro q
  have I2:Inv X pins σ (upd H s.heap.objs.size (.tup ([a,Str.empty,Str.empty].map .str))) { s with toks:=s.toks+1,heap:=s.heap.push { cls :=.type "tuple",data :=.seq [Value.str a t,.str Str.empty s.toks,.str Str.empty s.toks].toArray } } :=
   I.laid (t':=s.toks+1) (fun b o e=>Heap.get?_push_of_some _ e) (Nat.le_refl _) (show ObjOk X.prog X.w _ _ _ (.tup _) from ⟨by show 3≤sizeLine;decide,[Value.str a t,.str Str.empty s.toks,.str Str.empty s.toks],.cons ⟨_,rfl⟩ (.cons ⟨_,rfl⟩ (.cons ⟨_,rfl⟩ .nil)),IsTup.new _ _⟩)
  exact ⟨.ref s.heap.objs.size,_,I2,rfl,q _ (I.hok.fresh (Nat.le_refl _))⟩
 | cons i r =>
  intro q
  have I2:Inv X pins σ (upd H s.heap.objs.size (.tup ([Builtin.Str.strSub a 0 i,b,Builtin.Str.strSub a (i+b.length) a.length].map .str))) { s with toks:=s.toks+1+1,heap:=s.heap.push { cls :=.type "tuple",data :=.seq [Value.str (Builtin.Str.strSub a 0 i) s.toks,.str b t2,.str (Builtin.Str.strSub a (i+b.length) a.length) (s.toks+1)].toArray } } :=
   I.laid (t':=s.toks+1+1) (fun b o e=>Heap.get?_push_of_some _ e) (Nat.le_refl _) (show ObjOk X.prog X.w _ _ _ (.tup _) from ⟨by show 3≤sizeLine;decide,[Value.str (Builtin.Str.strSub a 0 i) s.toks,.str b t2,.str (Builtin.Str.strSub a (i+b.length) a.length) (s.toks+1)],.cons ⟨_,rfl⟩ (.cons ⟨_,rfl⟩ (.cons ⟨_,rfl⟩ .nil)),IsTup.new _ _⟩)
  exact ⟨.ref s.heap.objs.size,_,I2,rfl,q _ (I.hok.fresh (Nat.le_refl _))⟩
theorem vals_strs : ∀ {ls:List Str}{its:List Value},Vals (ls.map V.str) its → ∃ l:List (Str×Tok),strValues l=its∧l.map (·.1)=ls
 | [],_,.nil=>⟨[],rfl,rfl⟩
 | x::ls,_,.cons r rs=>by
  obtain ⟨t,rfl⟩:=r
  obtain ⟨l,e1,e2⟩:=vals_strs rs
  exact ⟨(x,t)::l,by rw [← e1];rfl,by rw [List.map_cons,e2]⟩
def rJoin (K:PySem.W.Frag) (x:V) (xs:List V) (H:Hp) (Q:VK):Prop := ∃ a p ls,x = .str a∧xs=[.ref p]∧SqL K H p (ls.map V.str)∧JoinOk a ls=true∧Q (.str (Txt.join a ls)) H
theorem mt_join:MtR X "str.join" (rJoin X.K):=by
 intro pins s σ H x xs v us Q I r rs h
 obtain ⟨a,p,ls,rfl,rfl,hq,hok,q⟩:=h
 obtain ⟨t,rfl⟩:=r
 obtain ⟨u,rfl,ru⟩:=rs.one
 cases ru
 obtain ⟨its,rv,pl,hz⟩:=I.list hq
 obtain ⟨l,e1,e2⟩:=vals_strs rv
 rw [← e1] at pl
 exact SC.join pl.isList e2 hok fun t' k=>⟨.str _,H,I.tok _,⟨_,rfl⟩,q⟩
def rSplit (x:V) (xs:List V) (H:Hp) (Q:VK):Prop := ∃ a b,x = .str a∧xs=[.str b]∧((b.length==0)=false∧a.length≤sizeLine∧(Builtin.Str.partsBetween a (Builtin.Str.occurrences a b 0 a.length (a.length+1)) b.length).length≤sizeLine∧(Txt.split a b).length≤sizeLine) ∧ ∀ l,H l=none→Q (.ref l) (upd H l (.lst ((Txt.split a b).map .str)))
theorem strs_vals : ∀ (l:List (Str×Tok)),Vals ((l.map (·.1)).map V.str) (strValues l)
 | [] => .nil
 | (x,t)::l => .cons ⟨t,rfl⟩ (strs_vals l)
theorem mt_split:MtR X "str.split" rSplit:=by
 intro pins s σ H x xs v us Q I r rs h
 obtain ⟨a,b,rfl,rfl,⟨hb,ha,hp,hn⟩,q⟩:=h
 obtain ⟨t,rfl⟩:=r
 obtain ⟨u,rfl,ru⟩:=rs.one
 obtain ⟨t2,rfl⟩:=ru
 have lay : ∀ (l:List (Str×Tok)) (k:Nat),l.map (·.1)=Txt.split a b→EP X pins σ Q (.ref s.heap.objs.size) { s with toks:=k,heap:=s.heap.push { cls :=.type "list",data :=.seq (strValues l).toArray } }:=fun l k e=>by
  have rv:Vals ((Txt.split a b).map V.str) (strValues l):=by rw [← e];exact strs_vals l
  have I2:Inv X pins σ (upd H s.heap.objs.size (.lst ((Txt.split a b).map .str))) { s with toks:=k,heap:=s.heap.push { cls :=.type "list",data :=.seq (strValues l).toArray } } :=
   I.laid (t':=k) (fun b o e=>Heap.get?_push_of_some _ e) (Nat.le_refl _) (show ObjOk X.prog X.w _ _ _ (.lst _) from ⟨by rw [List.length_map];exact hn,strValues l,_,rv,Heap.get?_push_size _ rfl⟩)
  exact ⟨.ref s.heap.objs.size,_,I2,rfl,q _ (I.hok.fresh (Nat.le_refl _))⟩
 cases h1:(decide (a.length<b.length)||decide (Builtin.Str.strKind a<Builtin.Str.strKind b))
 ·cases hf:(Builtin.Str.occurrences a b 0 a.length (a.length+1)).isEmpty
  ·refine call_meets F.slot_str_split (typeIs_str _ _ _) F.entry_str_split (F.args_str_split_2 _ _) (meets_str_split_sep a b t t2 h1 hb hf ha hp) ?_
   show EP X pins σ Q _ { s with toks:=_,heap:=s.heap.push { cls :=.type "list",data :=.seq (strsFrom s.toks (Builtin.Str.partsBetween a (Builtin.Str.occurrences a b 0 a.length (a.length+1)) b.length)).toArray } }
   rw [strsFrom_eq]
   exact lay _ _ ((numbered_texts _ _).trans ((if_neg (ne_true_of_eq_false h1)).trans (if_neg (ne_true_of_eq_false hf))).symm)
  ·exact call_meets F.slot_str_split (typeIs_str _ _ _) F.entry_str_split (F.args_str_split_2 _ _) (meets_str_split_not_found a b t t2 h1 hb hf) (lay [(a,t)] _ ((if_neg (ne_true_of_eq_false h1)).trans (if_pos hf)).symm)
 ·exact call_meets F.slot_str_split (typeIs_str _ _ _) F.entry_str_split (F.args_str_split_2 _ _) (meets_str_split_cannot_occur a b t t2 h1) (lay [(a,t)] _ (if_pos h1).symm)
theorem strInv {K:PySem.W.Frag}{F:Hp}{x:Str}{v:V} (h:Is K F (.str x) v):v = .str x:=h
theorem iss_strs {K:PySem.W.Frag}{F:Hp} : ∀ ls:List Str,Iss K F (ls.map PyData.str) (ls.map V.str)
 | []=>iss_nil
 | x::ls=>iss_cons (is_str x) (iss_strs ls)
theorem iss_strs' {K:PySem.W.Frag}{F:Hp} : ∀ {ls:List Str}{xs:List V},Iss K F (ls.map PyData.str) xs→xs=ls.map V.str
 | [],_,h=>h.nil_inv
 | b::bs,_,h=>by obtain ⟨y,ys,rfl,p,q⟩:=h.cons_inv;rw [strInv p,iss_strs' q];rfl
end
section
variable {X:Cx}{o e:Expr}{Wo We:WE}{apos cpos:Pos}
def wM2 (f:Str→Str→(PyData→Prop)→Prop) (Wo We:WE):WE:=fun env Q=>Wo env fun d e1 => ∃ a,d = .str a∧We e1 fun d2 e2 => ∃ b,d2 = .str b∧f a b fun r=>Q r e2
def dStarts (a b:Str) (q:PyData→Prop):Prop:=q (.bool (Txt.startswith a b))
def dPart (a b:Str) (q:PyData→Prop):Prop:=((b.length==0)=false∧a.length≤sizeLine)∧q (.tuple ((partS a b).map .str))
def dSplit (a b:Str) (q:PyData→Prop):Prop:=((b.length==0)=false∧a.length≤sizeLine∧(Builtin.Str.partsBetween a (Builtin.Str.occurrences a b 0 a.length (a.length+1)) b.length).length≤sizeLine∧(Txt.split a b).length≤sizeLine)∧q (.list ((Txt.split a b).map .str))
theorem ve_starts (ho:VE X o Wo) (he:VE X e We) (hbase:attributeBase o "startswith" X.env (eval o X.env)=eval o X.env:=by rfl)
 (hfew:((backTo cpos (starEach [e] X.env)).all (fun x => !x.1)&&(backToKw cpos (keywordEach [] X.env)).all (fun x=>x.1.isSome)&&decide ([e].length+([]:List Keyword).length+(if ([]:List Keyword).isEmpty then 0 else 1)<30))=true:=by rfl)
 (hline:(apos.endLine==cpos.line)=true:=by rfl) (hst:starEach [e] X.env=(false,eval e X.env)::starEach [] X.env:=by rfl) (hplain:(backTo cpos (starEach [] X.env)).any (·.1)=false:=by rfl) :
 VE X (.Call (.Attribute o "startswith" apos) [e] [] cpos) (wM2 dStarts Wo We) :=
 (pe_bm PySem.F.plainAttrs_str PySem.F.slot_str_startswith PySem.F.type_str_startswith mt_starts ho (pa_cons he pa_nil hst) hbase hfew hline hst hplain).imp fun σ H R xx150=>by
  obtain ⟨M,env,F,Q,I,h,k⟩:=xx150
  refine ⟨M,env,F,_,I,h,fun d v F1 H1 e1 I1 s1 i1 h1=>?_⟩
  obtain ⟨a,rfl,h1⟩:=h1
  rw [strInv i1]
  refine ⟨rfl,M,e1,F1,_,I1,h1,fun d2 v2 F2 H2 e2 I2 s2 i2 h2=>?_⟩
  obtain ⟨b,rfl,h2⟩:=h2
  exact ⟨a,b,rfl,by rw [strInv i2],k _ _ F2 H2 e2 I2 (s1.trans s2) (is_bl _) h2⟩
theorem ve_part (ho:VE X o Wo) (he:VE X e We) (hbase:attributeBase o "partition" X.env (eval o X.env)=eval o X.env:=by rfl)
 (hfew:((backTo cpos (starEach [e] X.env)).all (fun x => !x.1)&&(backToKw cpos (keywordEach [] X.env)).all (fun x=>x.1.isSome)&&decide ([e].length+([]:List Keyword).length+(if ([]:List Keyword).isEmpty then 0 else 1)<30))=true:=by rfl)
 (hline:(apos.endLine==cpos.line)=true:=by rfl) (hst:starEach [e] X.env=(false,eval e X.env)::starEach [] X.env:=by rfl) (hplain:(backTo cpos (starEach [] X.env)).any (·.1)=false:=by rfl) :
 VE X (.Call (.Attribute o "partition" apos) [e] [] cpos) (wM2 dPart Wo We) :=
 (pe_bm PySem.F.plainAttrs_str PySem.F.slot_str_partition PySem.F.type_str_partition mt_part ho (pa_cons he pa_nil hst) hbase hfew hline hst hplain).imp fun σ H R xx151=>by
  obtain ⟨M,env,F,Q,I,h,k⟩:=xx151
  refine ⟨M,env,F,_,I,h,fun d v F1 H1 e1 I1 s1 i1 h1=>?_⟩
  obtain ⟨a,rfl,h1⟩:=h1
  rw [strInv i1]
  refine ⟨rfl,M,e1,F1,_,I1,h1,fun d2 v2 F2 H2 e2 I2 s2 i2 h2=>?_⟩
  obtain ⟨b,rfl,hb,h2⟩:=h2
  refine ⟨a,b,rfl,by rw [strInv i2],hb,fun l hl=>?_⟩
  have g:=Go.put (o:=HO.tup ((partS a b).map V.str)) I2.fh hl
  exact k _ _ _ _ e2 (I2.go g) (s1.trans (s2.trans g.f)) (is_tup (SqT.of upd_same) (iss_strs _)) h2
theorem ve_split (ho:VE X o Wo) (he:VE X e We) (hbase:attributeBase o "split" X.env (eval o X.env)=eval o X.env:=by rfl)
 (hfew:((backTo cpos (starEach [e] X.env)).all (fun x => !x.1)&&(backToKw cpos (keywordEach [] X.env)).all (fun x=>x.1.isSome)&&decide ([e].length+([]:List Keyword).length+(if ([]:List Keyword).isEmpty then 0 else 1)<30))=true:=by rfl)
 (hline:(apos.endLine==cpos.line)=true:=by rfl) (hst:starEach [e] X.env=(false,eval e X.env)::starEach [] X.env:=by rfl) (hplain:(backTo cpos (starEach [] X.env)).any (·.1)=false:=by rfl) :
 VE X (.Call (.Attribute o "split" apos) [e] [] cpos) (wM2 dSplit Wo We) :=
 (pe_bm PySem.F.plainAttrs_str PySem.F.slot_str_split PySem.F.type_str_split mt_split ho (pa_cons he pa_nil hst) hbase hfew hline hst hplain).imp fun σ H R xx152=>by
  obtain ⟨M,env,F,Q,I,h,k⟩:=xx152
  refine ⟨M,env,F,_,I,h,fun d v F1 H1 e1 I1 s1 i1 h1=>?_⟩
  obtain ⟨a,rfl,h1⟩:=h1
  rw [strInv i1]
  refine ⟨rfl,M,e1,F1,_,I1,h1,fun d2 v2 F2 H2 e2 I2 s2 i2 h2=>?_⟩
  obtain ⟨b,rfl,hb,h2⟩:=h2
  refine ⟨a,b,rfl,by rw [strInv i2],hb,fun l hl=>?_⟩
  have g:=Go.put (o:=HO.lst ((Txt.split a b).map V.str)) I2.fh hl
  exact k _ _ _ _ e2 (I2.go g) (s1.trans (s2.trans g.f)) (is_lst (SqL.of upd_same) (iss_strs _)) h2
def wJoin (Wo We:WE):WE:=fun env Q=>Wo env fun d e1 => ∃ a,d = .str a∧We e1 fun d2 e2 => ∃ ls:List Str,d2 = .list (ls.map .str)∧JoinOk a ls=true∧Q (.str (Txt.join a ls)) e2
theorem ve_join (ho:VE X o Wo) (he:VE X e We) (hbase:attributeBase o "join" X.env (eval o X.env)=eval o X.env:=by rfl)
 (hfew:((backTo cpos (starEach [e] X.env)).all (fun x => !x.1)&&(backToKw cpos (keywordEach [] X.env)).all (fun x=>x.1.isSome)&&decide ([e].length+([]:List Keyword).length+(if ([]:List Keyword).isEmpty then 0 else 1)<30))=true:=by rfl)
 (hline:(apos.endLine==cpos.line)=true:=by rfl) (hst:starEach [e] X.env=(false,eval e X.env)::starEach [] X.env:=by rfl) (hplain:(backTo cpos (starEach [] X.env)).any (·.1)=false:=by rfl) :
 VE X (.Call (.Attribute o "join" apos) [e] [] cpos) (wJoin Wo We) :=
 (pe_bm PySem.F.plainAttrs_str PySem.F.slot_str_join PySem.F.type_str_join mt_join ho (pa_cons he pa_nil hst) hbase hfew hline hst hplain).imp fun σ H R xx153=>by
  obtain ⟨M,env,F,Q,I,h,k⟩:=xx153
  refine ⟨M,env,F,_,I,h,fun d v F1 H1 e1 I1 s1 i1 h1=>?_⟩
  obtain ⟨a,rfl,h1⟩:=h1
  rw [strInv i1]
  refine ⟨rfl,M,e1,F1,_,I1,h1,fun d2 v2 F2 H2 e2 I2 s2 i2 h2=>?_⟩
  obtain ⟨ls,rfl,hok,h2⟩:=h2
  obtain ⟨p,xs,rfl,hs,hr⟩:=i2.lst_inv
  have ex:=iss_strs' hr
  subst ex
  exact ⟨a,p,ls,rfl,rfl,I2.fh.seq hs,hok,k _ _ F2 H2 e2 I2 (s1.trans s2) (is_str _) h2⟩
end
section
variable {X:Cx}{a b c e:Expr}{Wa Wb Wc We:WE}{pos:Pos}
theorem pe_fmtI {te:TE} (he:PE X e te):PE X (.FormattedValue e (-1) none pos) (fun σ H Q=>te σ H fun x H1 => ∃ n,x = .int n∧n.natAbs.log2<1920∧Q (.str (toString n)) H1):=by
 intro pins s σ H Q I h
 refine wpAny_FormattedValue_plain (thn (he pins s σ H _ I h) fun v s1 xx154=>?_)
 obtain ⟨x,H1,I1,r1,n,e1,hn,q⟩:=xx154
 subst e1
 obtain ⟨t,rfl⟩:=r1
 exact wpAny_formatField_int hn ⟨.str _,H1,I1.tok _,⟨_,rfl⟩,q⟩
def wFmt (W:WE):WE:=fun env Q=>W env fun d e => ∃ n,d = .int n∧n.natAbs.log2<1920∧Q (.str (toString n)) e
theorem ve_fmtI (he:VE X e We):VE X (.FormattedValue e (-1) none pos) (wFmt We):=(pe_fmtI he).imp fun σ H R xx155=>by
 obtain ⟨M,env,F,Q,I,h,k⟩:=xx155
 refine ⟨M,env,F,_,I,h,fun d v F1 H1 e1 I1 s1 i1 h1=>?_⟩
 obtain ⟨n,rfl,hn,h1⟩:=h1
 exact ⟨n,i1.int_inv,hn,k _ _ F1 H1 e1 I1 s1 (is_str _) h1⟩
theorem ve_fj1 (he:VE X e We):VE X (.JoinedStr [e] pos) We:=fun pins s σ H Q I h=>wpAny_JoinedStr_one (he pins s σ H Q I h)
theorem pe_fj3 {ta tb tc:TE} (ha:PE X a ta) (hb:PE X b tb) (hc:PE X c tc) (he:evalEach [a,b,c] X.env=[eval a X.env,eval b X.env,eval c X.env]:=by rfl) :
 PE X (.JoinedStr [a,b,c] pos) (fun σ H Q=>ta σ H fun x H1 => ∃ u,x = .str u∧(Str.empty++u).length≤sizeLine∧tb σ H1 fun y H2 => ∃ v,y = .str v∧(Str.empty++u++v).length≤sizeLine∧tc σ H2 fun z H3 => ∃ w,z = .str w∧(Str.empty++u++v++w).length≤sizeLine∧Q (.str (Str.empty++u++v++w)) H3):=by
 intro pins s σ H Q I h
 refine wpAny_JoinedStr ?_
 rw [he]
 refine thn (ha pins s σ H _ I h) fun v1 s1 xx158=>?_
 obtain ⟨x,H1,I1,r1,u,e1,l1,h1⟩:=xx158
 subst e1
 obtain ⟨t1,rfl⟩:=r1
 refine ⟨u,t1,rfl,l1,thn (hb pins s1 σ H1 _ I1 h1) fun v2 s2 xx157=>?_⟩
 obtain ⟨y,H2,I2,r2,v,e2,l2,h2⟩:=xx157
 subst e2
 obtain ⟨t2,rfl⟩:=r2
 refine ⟨v,t2,rfl,l2,thn (hc pins s2 σ H2 _ I2 h2) fun v3 s3 xx156=>?_⟩
 obtain ⟨z,H3,I3,r3,w,e3,l3,h3⟩:=xx156
 subst e3
 obtain ⟨t3,rfl⟩:=r3
 exact ⟨w,t3,rfl,l3,l3,.str _,H3,I3.tok _,⟨_,rfl⟩,h3⟩
def wFj3 (Wa Wb Wc:WE):WE:=fun env Q=>Wa env fun d e1 => ∃ u,d = .str u∧(Str.empty++u).length≤sizeLine∧Wb e1 fun d2 e2 => ∃ v,d2 = .str v∧(Str.empty++u++v).length≤sizeLine∧Wc e2 fun d3 e3 => ∃ w,d3 = .str w∧(Str.empty++u++v++w).length≤sizeLine∧Q (.str (Str.empty++u++v++w)) e3
theorem ve_fj3 (ha:VE X a Wa) (hb:VE X b Wb) (hc:VE X c Wc) (he:evalEach [a,b,c] X.env=[eval a X.env,eval b X.env,eval c X.env]:=by rfl):VE X (.JoinedStr [a,b,c] pos) (wFj3 Wa Wb Wc) :=
 (pe_fj3 ha hb hc he).imp fun σ H R xx159=>by
  obtain ⟨M,env,F,Q,I,h,k⟩:=xx159
  refine ⟨M,env,F,_,I,h,fun d v F1 H1 e1 I1 s1 i1 h1=>?_⟩
  obtain ⟨u,rfl,l1,h1⟩:=h1
  refine ⟨u,strInv i1,l1,M,e1,F1,_,I1,h1,fun d2 v2 F2 H2 e2 I2 s2 i2 h2=>?_⟩
  obtain ⟨v,rfl,l2,h2⟩:=h2
  refine ⟨v,strInv i2,l2,M,e2,F2,_,I2,h2,fun d3 v3 F3 H3 e3 I3 s3 i3 h3=>?_⟩
  obtain ⟨w,rfl,l3,h3⟩:=h3
  exact ⟨w,strInv i3,l3,k _ _ F3 H3 e3 I3 (s1.trans (s2.trans s3)) (is_str _) h3⟩
end
section
variable {X:Cx}
theorem op_inT:OpR X (compareOp .In) (fun x y H Q => ∃ u v,x = .str u∧y = .str v∧Q (.bl (Txt.contains v u)) H):=by
 intro pins s σ H x y v u Q I rx ry h
 obtain ⟨a,b,rfl,rfl,q⟩:=h
 obtain ⟨t,rfl⟩:=rx
 obtain ⟨t2,rfl⟩:=ry
 exact SB.contains ⟨.bl _,H,I,rfl,q⟩
def dInT:D2
 | .str u,.str v,q=>q (.bool (Txt.contains v u))
 | _,_,_=>False
theorem o_inT:OpV X (compareOp .In) dInT:=op_inT.imp fun x y H Q xx160=>by
 obtain ⟨F,dx,dy,q,s,i1,i2,h,k⟩:=xx160
 cases dx with
 | str z =>
  cases dy with
  | str n=>exact ⟨z,n,strInv i1,strInv i2,k _ _ F H (.refl s) (is_bl _) h⟩
  | _=>exact (show False from h).elim
 | _=>exact (show False from h).elim
theorem call_intS:CallR X (.type "int") (fun xs H Q => ∃ x n,xs=[.str x]∧PySem.intText? x=some n∧x.length≤640∧Q (.int n) H):=by
 intro pins s σ H xs us Q I r h
 obtain ⟨x,n,rfl,hn,hl,q⟩:=h
 obtain ⟨u,rfl,ru⟩:=vals1 r
 obtain ⟨t,rfl⟩:=ru
 exact PySem.W.KIN.call_text hn hl ⟨.int _,H,I.tok _,⟨_,rfl⟩,q⟩
def dIntS:DC
 | [.str x],q => ∃ n,PySem.intText? x=some n∧x.length≤640∧q (.int n)
 | _,_=>False
theorem c_intS:CallV X (.type "int") dIntS:=call_intS.imp fun xs H Q xx161=>by
 obtain ⟨F,ds,q,s,i,h,k⟩:=xx161
 match ds,h,i with
 | [.str x],⟨n,hn,hl,h⟩,i =>
  obtain ⟨v,rfl,j⟩:=iss1 i
  exact ⟨x,n,by rw [strInv j],hn,hl,k _ _ F H (.refl s) (is_int _) h⟩
end
section
variable {X:Cx}{a:Expr}{Wa:WE}{p2 pos:Pos}
def cutS (x:Str) (lo hi:Option Int):Str:=if (Builtin.Str.strSliceIndices lo hi 1 x.length).length=x.length then x else ⟨((Builtin.Str.strSliceIndices lo hi 1 x.length).filterMap (x.cps[·]?)).toArray⟩
def rSlS (x:V) (lo hi:Option Int) (H:Hp) (Q:VK):Prop := ∃ a,x = .str a∧(cutS a lo hi).length≤sizeLine∧Q (.str (cutS a lo hi)) H
theorem sl_str:SlR X rSlS:=by
 intro pins s σ H x v vl vu lo hi sl Q I rx hs pl pu h
 obtain ⟨a,rfl,hz,q⟩:=h
 obtain ⟨t,rfl⟩:=rx
 have part : ∀ {v:Value}{o:Option Int},IsPart v o → ∃ p:Option (Int×Tok),v=partValue p∧p.map (·.1)=o:=fun {v o} h=>by
  cases h with
  | none=>exact ⟨none,rfl,rfl⟩
  | int i t=>exact ⟨some (i,t),rfl,rfl⟩
 obtain ⟨l,rfl,el⟩:=part pl
 obtain ⟨u,rfl,eu⟩:=part pu
 refine ⟨"str",_,PySem.F.slot_str_getitem.lookup,typeIs_str _ _ _,wpAny_getItem_str_slice (l:=l) (u:=u) (st:=none) hs rfl ?_⟩
 have ep:slicePicked a l u none=Builtin.Str.strSliceIndices lo hi 1 a.length:=by unfold slicePicked;rw [el,eu];rfl
 unfold sliceMade
 unfold cutS at hz q
 rw [ep]
 by_cases c:(Builtin.Str.strSliceIndices lo hi 1 a.length).length=a.length
 ·rw [if_pos c] at q
  rw [if_pos (by simp [c])]
  exact ⟨.str a,H,I,⟨_,rfl⟩,q⟩
 ·rw [if_neg c] at hz q
  rw [if_neg (by simp [c])]
  exact ⟨hz,.str _,H,I.tok _,⟨_,rfl⟩,q⟩
def wSlS (Wa:WE) (Wl Wh:WO):WE:=fun env Q=>Wa env fun d e1=>Wl e1 fun lo e2=>Wh e2 fun hi e3=>match d with
 | .str x=>(cutS x lo hi).length≤sizeLine∧Q (.str (cutS x lo hi)) e3
 | _=>False
theorem ve_sliceS {lo hi:Option Expr}{Wl Wh:WO} (he:VE X a Wa) (hl:VO X lo Wl) (hu:VO X hi Wh):VE X (.Subscript a (.Slice lo hi none p2) pos) (wSlS Wa Wl Wh) :=
 (pe_slice sl_str he hl hu).imp fun σ H R xx162=>by
  obtain ⟨M,env,F,Q,I,h,k⟩:=xx162
  refine ⟨M,env,F,_,I,h,fun d v F1 H1 e1 I1 s1 i1 h1=>⟨M,e1,F1,_,I1,h1,fun lo F2 H2 e2 I2 s2 h2=>⟨M,e2,F2,_,I2,h2,fun hi F3 H3 e3 I3 s3 h3=>?_⟩⟩⟩
  cases d with
  | str x=>exact ⟨x,strInv i1,h3.1,k _ _ F3 H3 e3 I3 (s1.trans (s2.trans s3)) (is_str _) h3.2⟩
  | _=>exact False.elim h3
end
def chS (c:Nat):Str:=⟨#[c]⟩
def Itx (x:Str):It:=⟨fun i _=>i<x.cps.size,fun i H v H'=>H'=H ∧ ∃ c,x.cps[i]?=some c∧v = .str (chS c),fun i _=>x.cps.size≤i⟩
theorem turn_strA {P:Program}{w:World}{K:PySem.W.Frag}{tg:Expr} (it:Addr) (x:Str) (t:Tok):Turn P w K tg (Itx x) [it] it (fun i h=>h.IsStrIter it "str_ascii_iterator" x t i) where
 mem:=by simp
 obj:=fun i h st b hb=>by
  have e:b=it:=by simpa using hb
  subst e
  obtain ⟨o,ho,hc,hd⟩:=st
  exact ⟨o,ho,fun v z=>by rw [hd] at z;cases z⟩
 keep:=fun i h h' xx163 k=>by obtain ⟨o,ho,r⟩:=xx163;exact ⟨o,k it (by simp) o ho,r⟩
 item:=by
  intro X hP hw hK hc i pins s σ H E I hf st hg
  subst hP hw hK
  have hg:i<x.cps.size:=hg
  obtain ⟨f0,f1,f2,f3,f4,f5⟩:=hf it (by simp)
  have hx:x.cps[i]?=some x.cps[i]:=Array.getElem?_eq_getElem hg
  refine wpAny_pyNext_ascii_item st hx fun h' st' sb=>?_
  have I1:Inv X pins σ H { s with heap:=h',toks:=s.toks+1 }:=I.turned (t':=s.toks+1) (fun b o hb e=>(sb.2 b hb).trans e) f0 f1 f3 f4 f5
  obtain ⟨o,e,c,d⟩:=id st'
  exact ⟨_,rfl,go_of (s:={ s with heap:=h',toks:=s.toks+1 }) e c d (by decide) ⟨.str (chS x.cps[i]),H,I1,⟨_,rfl⟩,⟨rfl,_,hx,rfl⟩,st',fun b hb=>(hf b hb).1⟩⟩
 done:=by
  intro X hP hw hK hc i pins s σ H E I hf st hg
  subst hP hw hK
  have hg:x.cps.size≤i:=hg
  obtain ⟨f0,f1,f2,f3,f4,f5⟩:=hf it (by simp)
  exact wpAny_pyNext_ascii_end (I.ok.hd hc) st (Array.getElem?_eq_none hg) fun h' eb=>⟨rfl,I.turned (t':=s.toks) (fun b o hb e=>eb b o hb e) f0 f1 f3 f4 f5⟩
 self:=fun _ _ _ _ _ st h=>wpAny_pyIter_striter_ascii st h
section
variable {X:Cx}{tg a:Expr}{W:WE}
def iStr (tl:TE):TI:=fun σ H R=>tl σ H fun x H1 => ∃ a,x = .str a∧a.cps.all (· < 128)=true∧R (Itx a) H1
theorem pi_str {l:Expr}{tl:TE} (hl:PE X l tl):PI X tg l (iStr tl):=by
 intro pins s σ H R I h
 refine thn (hl pins s σ H _ I h) fun v s1 xx164=>?_
 obtain ⟨x,H1,I1,r1,q1⟩:=xx164
 obtain ⟨a,e,ha,q⟩:=q1
 subst e
 obtain ⟨t,rfl⟩:=r1
 refine wpAny_pyIter_ascii ha ?_
 refine ⟨s1.heap.objs.size,[s1.heap.objs.size],_,_,H1,rfl,I1.kept (t':=s1.toks) fun b o e=>Heap.get?_push_of_some _ e,turn_strA _ a t,⟨_,Heap.get?_push_size _ rfl,rfl,rfl⟩,fun b hb=>?_,q⟩
 have e:b=s1.heap.objs.size:=by simpa using hb
 subst e
 exact I1.fpOk (Nat.le_refl _) (I1.hok.fresh (Nat.le_refl _))
def signsD (x:Str):List PyData:=x.cps.toList.map fun c => .str (chS c)
theorem itd_str {K:PySem.W.Frag}{F:Hp}{x:Str}:ItD K (Itx x) F (signsD x) where
 go:=fun i H _ h=>by
  have:i<x.cps.size:=by simpa [signsD] using h
  exact this
 stop:=fun H _=>by
  show x.cps.size≤(signsD x).length
  simp [signsD]
 yld:=fun i H v H' F1 s1 s2 h xx165=>by
  obtain ⟨e,c,hc,ev⟩:=xx165
  subst e
  refine ⟨.str (chS c),F1,?_,.refl s2,?_⟩
  ·unfold signsD
   rw [List.getElem?_map,Array.getElem?_toList,hc];rfl
  ·rw [ev];exact is_str _
def wiStr (W:WE):WF:=fun env Q=>W env fun d e=>match d with
 | .str x=>x.cps.all (· < 128)=true∧Q (signsD x) e
 | _=>False
theorem vi_str (h:VE X a W):VI X tg a (wiStr W):=(pi_str h).imp fun σ H R xx166=>by
 obtain ⟨M,env,F,Q,I,h,k⟩:=xx166
 refine ⟨M,env,F,_,I,h,fun d v F1 H1 e1 I1 s1 i1 h1=>?_⟩
 cases d with
 | str x=>exact ⟨x,strInv i1,h1.1,k _ _ F1 H1 e1 I1 s1 itd_str h1.2⟩
 | _=>exact False.elim h1
end
theorem ve_globS {X:Cx}{x y:Str}{pos:Pos} (h : ∃ t,X.mg x=some (.str y t)) (hg:Gl X x:=by rfl) (hd:(x==("__debug__" : Str))=false:=by decide):VE X (.Name x pos) (wC (.str y)):=by
 obtain ⟨t,hm⟩:=h
 exact ve_c (pe_glob (v :=.str y) hg hm ⟨t,rfl⟩ hd) fun _=>is_str y
end L2
namespace L2
open PySem PySem.Spec PyProof.Rows PySem.W
section
variable {X:Cx}{pins:List (Addr×Obj)}{σ:St}{H:Hp}{s:Shared}{a:Addr}{k:PKy}{c:Addr}{xs:List XEnt}
variable {A:Around}{E:Value→Shared→Prop}{y:V}{u:Value}{n:Int}{r:Option Int}
end
section
variable {X:Cx}{o i e f value:Expr}{pos pos' apos cpos:Pos}{td ty tv tx:TE}
end
section
variable {X:Cx}
end
end L2
namespace L2
open PySem PySem.Spec PyProof.Rows
section
variable {M:Model}{Γ:PySem.Ctx}{s:Shared}{a:Addr}{o:Obj}{vs:Array Value}{i:Nat}{v:Value}{p:Pos}
theorem wp_field_iff {Q:Value→Pos→Shared→Prop}{E:Value→Pos→Shared→Prop} (h:s.heap.get? a=some o) (d:o.data = .fields vs) (x:vs[i]?=some v):Sem.wp M Γ (field (.ref a) i) Q E p s=Q v p s:=by
 unfold field fieldsOf
 simp only [Sem.wp_bind']
 rw [Sem.wp_load_of _ _ _ _ _ h,d,Sem.wp_pure',x,Sem.wp_pure']
theorem wp_setField_iff {Q:Unit→Pos→Shared→Prop}{E:Value→Pos→Shared→Prop} (h:s.heap.get? a=some o) (d:o.data = .fields vs) (x:i<vs.size):Sem.wp M Γ (setField (.ref a) i v) Q E p s=Q () p { s with heap:=s.heap.update a (Obj.mapFields fun y=>y.setIfInBounds i v) }:=by
 unfold setField updateField
 simp only [Sem.wp_bind']
 rw [Sem.wp_load_of _ _ _ _ _ h,d]
 simp only [if_pos x]
 unfold update
 rw [Sem.wp_update,Sem.wp.eq_1,h]
 simp
end
theorem upd_twice (h:Heap) (T:Addr) (i:Nat) (v:Value):(h.update T (Obj.mapFields fun y=>y.setIfInBounds i v)).update T (Obj.mapFields fun y=>y.setIfInBounds i v)=h.update T (Obj.mapFields fun y=>y.setIfInBounds i v):=by
 cases h with
 | mk objs l =>
  show (⟨_,_⟩:Heap)=⟨_,_⟩
  congr 1
  apply Array.ext
  ·simp
  ·intro j h1 h2
   simp only [Array.getElem_modify]
   split
   ·rename_i z
    generalize objs[j]'_=ob
    cases ob with
    | mk c d dt sl=>cases dt <;> simp [Obj.mapFields]
   ·rfl
def MarkW (base:Heap) (l:List Env) (e:Addr) (cls a0 fl:Value) (h:Heap):Prop:=base.StaysIn h∧base.get? e=none∧h.FunFrames base l∧h.TracedAtW base e cls a0 fl
theorem MarkW.of_held {base:Heap}{l:List Env}{e L:Addr}{cls a0:Value}{h:Heap} (x:base.HeldW l e cls a0 L h):MarkW base l e cls a0 (rawInt L) h:=x
section
variable {M:Model}{A:Around}{E:Value→Shared→Prop}{s:Shared}{base:Heap}{env:Env}{outer:List Env}{L e:Addr}{cls a0 fl:Value}{Q:Unit→Shared→Prop}
theorem UpToSlots.refl (h:Heap):h.UpToSlots h:=fun b o e _=>⟨o.slots,e⟩
theorem mark_clear {l:List Env} (m:MarkW base l e cls a0 fl s.heap) (w:Value) : ∃ T oT ts oe vs,(s.heap.get? e=some oe∧oe.data = .fields vs∧vs[1]?=some (.ref T)∧T≠e)∧(s.heap.get? T=some oT∧oT.data = .fields ts∧ts[3]?=some fl) ∧
 MarkW base l e cls a0 w (s.heap.update T (Obj.mapFields fun y=>y.setIfInBounds 3 w))∧s.heap.UpToSlots (s.heap.update T (Obj.mapFields fun y=>y.setIfInBounds 3 w)):=by
  obtain ⟨st,be,ff,oe,vs,T,oT,ts,h1,h2,h3,h4,h5,h6,h7,h8,h9⟩:=m
  have up:s.heap.UpToSlots (s.heap.update T (Obj.mapFields fun y=>y.setIfInBounds 3 w)):=by
   intro b o q nf
   by_cases z:T=b
   ·subst z
    rw [h7] at q;cases q
    exact absurd h8 (nf _)
   ·exact ⟨o.slots,by rw [Heap.get?_update_other _ _ z];exact q⟩
  refine ⟨T,oT,ts,oe,vs,⟨h1,h3,h4,h6⟩,⟨h7,h8,h9⟩,⟨fun b o q=>?_,be,?_,?_⟩,up⟩
  ·rw [Heap.get?_update_other _ _ (fun z=>by rw [← z,h5] at q;cases q)]
   exact st b o q
  ·exact Heap.FunFrames.of_keeps (fun b o q nf=>by obtain ⟨sl,z⟩:=up b o q nf;exact ⟨_,z,rfl⟩) ff
  ·refine ⟨oe,vs,T,Obj.mapFields (fun y=>y.setIfInBounds 3 w) oT,ts.setIfInBounds 3 w,?_,h2,h3,h4,h5,h6,?_,Obj.data_mapFields h8 _,?_⟩
   ·rw [Heap.get?_update_other _ _ h6];exact h1
   ·exact Heap.get?_update_self _ h7 (Obj.isFreed_of_fields (Obj.data_mapFields h8 _))
   ·have:3<ts.size:=(Array.getElem?_eq_some_iff.mp h9).1
    simp [Array.getElem?_setIfInBounds,this]
theorem note_any (hA:A.frames=some (env::outer)) (hL:env.frame=some L) (m:MarkW base (env::outer) e cls a0 fl s.heap) (q : ∀ h',base.HeldW (env::outer) e cls a0 L h'→s.heap.UpToSlots h'→Q () { s with heap:=h' }):wpAny M A (noteFrame (.ref e) env) Q E s:=by
 by_cases hf:fl=rawInt L
 ·subst hf
  exact wpAny_noteFrame_againW hL m.2.2.2 (q _ m (UpToSlots.refl _))
 obtain ⟨T,oT,ts,oe,vs,⟨h1,h3,h4,h6⟩,⟨h7,h8,h9⟩,m1,up⟩:=mark_clear m .none
 have H1:wpAny M A (noteFrame (.ref e) env) Q E { s with heap:=s.heap.update T (Obj.mapFields fun y=>y.setIfInBounds 3 .none) }:=wpAny_looks_onW hA hL m1 fun h' hd u2=>q h' hd fun b o qb nf=>by
  obtain ⟨sl,z⟩:=up b o qb nf
  obtain ⟨sl2,z2⟩:=u2 b _ z nf
  exact ⟨sl2,z2⟩
 intro Γ p hΓ
 have K:=H1 Γ p hΓ
 unfold noteFrame at K ⊢
 rw [hL] at K ⊢
 simp only [Sem.wp_bind'] at K ⊢
 have c1:(Value.ref T != Value.none)=true:=by rfl
 have c2 : ¬ ((Value.none==rawInt (L:Int))=true):=by intro z;exact Value.noConfusion (eq_of_beq z)
 have c3 : ¬ ((fl==rawInt (L:Int))=true):=fun z=>hf (eq_of_beq z)
 have l3:3<ts.size:=(Array.getElem?_eq_some_iff.mp h9).1
 have k1:(s.heap.update T (Obj.mapFields fun y=>y.setIfInBounds 3 .none)).get? e=some oe:=by rw [Heap.get?_update_other _ _ h6];exact h1
 have d7:=Obj.data_mapFields h8 (fun y=>y.setIfInBounds 3 Value.none)
 have k7:(s.heap.update T (Obj.mapFields fun y=>y.setIfInBounds 3 .none)).get? T=some (Obj.mapFields (fun y=>y.setIfInBounds 3 .none) oT):=Heap.get?_update_self _ h7 (Obj.isFreed_of_fields d7)
 have k9:(ts.setIfInBounds 3 Value.none)[3]?=some Value.none:=by simp [Array.getElem?_setIfInBounds,l3]
 rw [wp_field_iff (s:={ s with heap:=s.heap.update T (Obj.mapFields fun y=>y.setIfInBounds 3 .none) }) k1 h3 h4,if_pos c1,Sem.wp_bind',wp_field_iff (s:={ s with heap:=s.heap.update T (Obj.mapFields fun y=>y.setIfInBounds 3 .none) }) k7 d7 k9,if_neg c2,Sem.wp_bind',wp_setField_iff (s:={ s with heap:=s.heap.update T (Obj.mapFields fun y=>y.setIfInBounds 3 .none) }) k7 d7 (by simpa using l3)] at K
 rw [wp_field_iff h1 h3 h4,if_pos c1,Sem.wp_bind',wp_field_iff h7 h8 h9,if_neg c3,Sem.wp_bind',wp_setField_iff h7 h8 l3]
 rw [upd_twice] at K
 exact K
end
end L2
namespace L2
open PySem PySem.Spec PyProof.Rows
section
variable {M:Model}{A:Around}{E:Value→Shared→Prop}{s:Shared}{base:Heap}{env:Env}{outer l:List Env}{L e:Addr}{cls a0 fl:Value}
theorem UpToSlots.tr {h h' h'':Heap} (a:h.UpToSlots h') (b:h'.UpToSlots h''):h.UpToSlots h'':=fun c o q nf=>by
 obtain ⟨sl,z⟩:=a c o q nf
 obtain ⟨sl2,z2⟩:=b c _ z nf
 exact ⟨sl2,z2⟩
theorem flight_any {Q:Unit→Shared→Prop}{fr:Option Addr} (m:MarkW base l e cls a0 fl s.heap) (q : ∀ h',MarkW base l e cls a0 (fr.elim .none fun f=>rawInt f) h'→s.heap.UpToSlots h'→Q () { s with heap:=h' }):wpAny M A (setFlight (.ref e) fr) Q E s:=by
 obtain ⟨T,oT,ts,oe,vs,⟨h1,h3,h4,h6⟩,⟨h7,h8,h9⟩,m1,up1⟩:=mark_clear m (fr.elim .none fun f=>rawInt f)
 unfold setFlight
 refine wpAny_bind (wpAny_field h1 h3 h4 ?_)
 rw [if_pos (show (Value.ref T != Value.none)=true by rfl)]
 exact wpAny_setField h7 h8 (Array.getElem?_eq_some_iff.mp h9).1 (q _ m1 up1)
theorem leave_any {Q:Unit→Shared→Prop} (hA:A.frames=some (env::outer)) (hL:env.frame=some L) (m:MarkW base (env::outer) e cls a0 fl s.heap) (q : ∀ h',base.FlyingW outer e cls a0 h'→s.heap.UpToSlots h'→Q () { s with heap:=h' }):wpAny M A (leaving env (.ref e)) Q E s:=by
 unfold leaving
 refine wpAny_bind (note_any hA hL m fun h1 hd up=>?_)
 exact flight_any (s:={ s with heap:=h1 }) (fr:=none) (MarkW.of_held hd) fun h' m' up'=>q h' ⟨m'.1,m'.2.1,m'.2.2.1.2.2,m'.2.2.2⟩ (UpToSlots.tr up up')
theorem pass_any {α:Type}{Q:α→Shared→Prop}{what:String}{cenv:Env} (m:MarkW base l e cls a0 fl s.heap) (q : ∀ h',MarkW base l e cls a0 (cenv.frame.elim .none fun f=>rawInt f) h'→s.heap.UpToSlots h'→E (.ref e) { s with heap:=h' }):wpAny M A (PySem.passOn what (.ref e) cenv) Q E s:=by
 obtain ⟨T,oT,ts,oe,vs,⟨h1,h3,h4,h6⟩,_⟩:=mark_clear m .none
 unfold PySem.passOn
 refine wpAny_bind (wpAny_field h1 h3 h4 ?_)
 rw [if_neg (show ¬ ((Value.ref T==Value.none)=true) by intro z;exact Value.noConfusion (eq_of_beq z))]
 exact wpAny_bind (flight_any m fun h' m' up=>wpAny_throw (q h' m' up))
theorem note_congr {v:Value}{env env':Env} (h:env.frame=env'.frame):noteFrame v env=noteFrame v env':=by
 unfold noteFrame PySem.frameOf
 rw [h]
theorem MarkW.hide {h h':Heap}{C:Addr} (m:MarkW base l e cls a0 fl h) (sb:Heap.SameBut C h h') (ne:C≠e) (nC : ∀ o,h.get? C=some o → ∀ vs,o.data ≠ .fields vs) (nf : ∀ env ∈ l,env.frame≠some C):MarkW (PySem.W.hideAll base [C]) l e cls a0 fl h':=by
 obtain ⟨st,be,ff,oe,vs,T,oT,ts,h1,h2,h3,h4,h5,h6,h7,h8,h9⟩:=m
 have hid : ∀ {b:Addr},base.get? b=none→(PySem.W.hideAll base [C]).get? b=none:=fun {b} z=>by
  cases q:(PySem.W.hideAll base [C]).get? b with
  | none=>rfl
  | some o=>rw [PySem.W.of_hideAll _ q] at z;cases z
 have neT:T≠C:=fun z=>nC oT (z ▸ h7) ts h8
 refine ⟨fun b o q=>?_,hid be,?_,oe,vs,T,oT,ts,by rw [sb.2 e (Ne.symm ne)];exact h1,h2,h3,h4,hid h5,h6,by rw [sb.2 T neT];exact h7,h8,h9⟩
 ·have hb:b≠C:=fun z=>by rw [z,PySem.W.hideAll_none [C] (by simp)] at q;cases q
  rw [sb.2 b hb]
  exact st b o (PySem.W.of_hideAll _ q)
 ·clear h1 h3 h4 h7 h8 h9
  induction l with
  | nil=>exact trivial
  | cons en l ih =>
   obtain ⟨k1,⟨L,o,k2,k3,k4,k5⟩,k6⟩:=ff
   refine ⟨k1,⟨L,o,k2,hid k3,?_,k5⟩,ih (fun x hx=>nf x (by simp [hx])) k6⟩
   rw [sb.2 L (fun z=>nf en (by simp) (by rw [k2,z]))]
   exact k4
end
def CXI (X:Cx) (pins:List (Addr×Obj)) (σ:St) (E:XK) (e:Value) (s':Shared):Prop := ∃ (ea C:Addr) (a0 fl:Value) (B:Heap) (H':Hp) (s1:Shared),e = .ref ea∧MarkW B X.stack ea (.ref C) a0 fl s'.heap∧Inv X pins σ H' s1∧(s'.os=s1.os∧AllBare s'.gens)∧B.StaysIn s1.heap ∧
 (∀ b o,(b ∈ frs X.stack∨b=X.env.locals)→s1.heap.get? b=some o→(∀ vs,o.data ≠ .fields vs) → ∃ sl,s'.heap.get? b=some { o with slots:=sl }) ∧
 (∀ b u,H' b=some u → ∃ o,B.get? b=some o)∧(∀ b o,X.s₀.heap.get? b=some o→b ∉ X.fs→b ∉ X.ex → ∃ o',B.get? b=some o')∧E (.ref C) none H'
def PassesI (X:Cx) (σ:St) (E:XK):Prop := ∀ pins e s',CXI X pins σ E e s'→X.xe e s'
section
variable {X:Cx}{pins:List (Addr×Obj)}{σ:St}{H:Hp}{s s':Shared}{E:XK}{e:Value}
theorem cxi_of (I:Inv X pins σ H s) (h:CX1 X.prog X.w X.stack H s E e s'):CXI X pins σ E e s':=by
 obtain ⟨ea,C,a0,B,H',rfl,fl,os,bare,u,ok,tB,pB,q⟩:=h
 have I':Inv X pins σ H' s':=I.call' os u ok bare fun b hb=>nomatch hb
 refine ⟨ea,C,a0,.none,B,H',s',rfl,fl,I',⟨rfl,bare⟩,fl.1,fun b o _ z _=>⟨o.slots,z⟩,tB,fun b o z n1 n2=>?_,q⟩
 obtain ⟨o',ho'⟩:=I.base.there b o z n2
 refine pB b o' ho' fun hb=>?_
 rcases List.mem_cons.mp (I.stkSub b hb) with y|y
 ·exact absurd (Heap.lt_size z) (Nat.not_lt.mpr (y ▸ I.ok.above))
 ·exact n1 y
theorem PassesI.at (h:PassesI X σ E):PassesAt X σ E:=fun pins H s e s' I c=>h pins e s' (cxi_of I c)
theorem cxi_note {A:Around}{env0 cenv:Env}{outer0:List Env}{L:Addr}{E1:Value→Shared→Prop}{Q:Value→Shared→Prop} (h:CXI X pins σ E e s') (hs:X.stack=env0::outer0) (h0:env0.frame=some L) (hc:cenv.frame=some L) (hA:A.frames=some X.stack)
 (q : ∀ h',CXI X pins σ E e { s' with heap:=h' }→s'.heap.UpToSlots h'→Q e { s' with heap:=h' }):notedBy (model X.prog X.w) A cenv Q e s':=by
  obtain ⟨ea,C,a0,fl,B,H',s1,rfl,m,I,os,st,sl,tB,old,ex⟩:=h
  show wpAny _ _ (noteFrame (.ref ea) cenv) _ _ _
  rw [note_congr (env':=env0) (by rw [hc,h0])]
  rw [hs] at hA m
  refine note_any hA h0 m fun h' hd up=>q h' ⟨ea,C,a0,rawInt L,B,H',s1,rfl,?_,I,os,st,fun b o hb z nf=>?_,tB,old,ex⟩ up
  ·rw [hs];exact hd
  ·obtain ⟨s2,z2⟩:=sl b o hb z nf
   obtain ⟨s3,z3⟩:=up b _ z2 nf
   exact ⟨s3,z3⟩
theorem landF (I:Inv X pins σ H s) (hex:X.ex=[]) (hst:X.stack=X.env::X.outer) (hfr:X.env.frame=some X.env.locals) {h'':Heap}
 (kB : ∀ b o,s.heap.get? b=some o→b ∉ frs X.stack→((∃ o',X.s₀.heap.get? b=some o') ∨ ∃ u,H b=some u)→h''.get? b=some o)
 (sl : ∀ b o,b ∈ X.fs→s.heap.get? b=some o→(∀ vs,o.data ≠ .fields vs) → ∃ sl,h''.get? b=some { o with slots:=sl }):Un X.fs [] X.H₀ H X.s₀.heap h''∧HOk X.prog X.w H h'':=by
  have fsOf : ∀ b,b ∈ frs X.stack→b=X.env.locals∨b ∈ X.fs:=fun b hb=>by
   rcases List.mem_cons.mp (I.stkSub b hb) with z|z
   ·exact .inl z
   ·exact .inr z
  have old : ∀ b o,X.s₀.heap.get? b=some o→b ∉ X.fs→b ∉ frs X.stack:=fun b o q n hb=>by
   rcases fsOf b hb with z|z
   ·exact absurd (Heap.lt_size q) (Nat.not_lt.mpr (z ▸ I.ok.above))
   ·exact n z
  have nx : ∀ b,b ∉ X.ex:=fun b=>by rw [hex];simp
  have frame : ∀ b ∈ X.fs,∃ o,s.heap.get? b=some o ∧ ∀ vs,o.data ≠ .fields vs:=fun b hb=>by
   have hb':b ∈ frs X.stack:=by
    rw [hst]
    unfold frs
    rw [List.filterMap_cons,hfr]
    exact List.mem_cons_of_mem _ hb
   obtain ⟨_,o,ho,hd⟩:=I.stack.mem hb'
   exact ⟨o,ho,hd⟩
  refine ⟨⟨fun b o q n hb _=>kB b o (I.base.keep b o q n hb (nx b)) (old b o q hb) (.inl ⟨o,q⟩),fun b o q n hb _=>?_,fun b o q n _=>I.base.free b o q n (nx b),fun b o q _=>?_,I.base.tups,I.base.frzs,I.base.tbls⟩,fun a u e=>?_⟩
  ·obtain ⟨s1,h1⟩:=I.base.slot b o q n hb (nx b)
   obtain ⟨o',ho',hd⟩:=frame b hb
   rw [h1] at ho';cases ho'
   obtain ⟨s2,h2⟩:=sl b _ hb h1 hd
   exact ⟨s2,h2⟩
  ·obtain ⟨o',h1⟩:=I.base.there b o q (nx b)
   by_cases hb:b ∈ X.fs
   ·obtain ⟨o2,ho2,hd⟩:=frame b hb
    obtain ⟨s2,h2⟩:=sl b _ hb ho2 hd
    exact ⟨_,h2⟩
   ·exact ⟨o',kB b o' h1 (old b o q hb) (.inl ⟨o,q⟩)⟩
  ·have nf : ∀ b v,H b=some v→b ∉ frs X.stack:=fun b v eb hb=>by rw [I.stkFree b hb] at eb;cases eb
   refine (I.hok a u e).stay (fun c ob hc z=>?_) (fun c z=>z) (fun c xs z=>z)
   rcases hc with hc|hc
   ·subst hc;exact kB _ _ z (nf _ _ e) (.inr ⟨_,e⟩)
   ·exact kB _ _ z (nf _ _ hc) (.inr ⟨_,hc⟩)
end
section
variable {P:Program}{w:World}{K:PySem.W.Frag}{mg:Str→Option Value}{base:Heap}{N:List Str}{qual:Str}{scope:Scope}{f:Addr}{cd:Value}{A:Around}{outer:List Env}{s:Shared}{H:Hp}{E:XK}{σ:St}
theorem passesI_cx:PassesI (cxOf (CX1 P w) P w K mg base N qual scope f cd A outer s H E) σ E:=by
 intro pins e s' h
 obtain ⟨ea,C,a0,fl,B,H',s1,rfl,m,I,⟨os,bare⟩,st,sl,tB,old,q⟩:=h
 refine leave_any I.ok.frames rfl m fun h'' x1 x4=>?_
 have kB : ∀ b o,s1.heap.get? b=some o→b ∉ frs (cxOf (CX1 P w) P w K mg base N qual scope f cd A outer s H E).stack→((∃ o',s.heap.get? b=some o') ∨ ∃ v,H' b=some v)→h''.get? b=some o:=fun b o z n t=>by
  obtain ⟨o',ho'⟩ : ∃ o',B.get? b=some o':=by
   rcases t with ⟨o',t⟩|⟨v,t⟩
   ·exact old b o' t (fun hb=>n (List.mem_cons_of_mem _ hb)) (by simp [cxOf])
   ·exact tB b v t
  have:=st b o' ho'
  rw [z] at this;cases this
  exact x1.1 b _ ho'
 obtain ⟨u',ok'⟩:=landF I rfl rfl rfl kB (fun b o hb z d=>by
  obtain ⟨s2,z2⟩:=sl b o (.inl (List.mem_cons_of_mem _ hb)) z d
  obtain ⟨s3,z3⟩:=x4 b _ z2 d
  exact ⟨s3,z3⟩)
 exact ⟨ea,C,a0,B,H',rfl,x1,os.trans I.os,bare,u',ok',tB,fun b o z n=>old b o z n (by simp [cxOf]),q⟩
end
end L2
namespace L2
open PySem PySem.Spec PyProof.Rows
section
variable {X:Cx}{elt target iter:Expr}{scope:Scope}{pos:Pos}{caps own:List Str}{ix:List Nat}{wi:TI}{g:TG}{te:TE}
theorem comp_coreX {E0:XK}{cs:List Expr}{tt:TT}{Tst:TstT} (hloop:LoopR X.prog X.w X.A elt target iter cs scope pos Tst) (hc:X.calm=true) (S:CompScope X.env scope caps) (hi:PI X target iter wi)
 (hg : ∀ pins s3 H ex,PG (blk X pins scope (caps++own) s3 H ex) target g)
 (he : ∀ pins s3 H ex,PE ((blk X pins scope (caps++own) s3 H ex).wish fun e s' => ∃ pins1 σ1,CXI (blk X pins scope (caps++own) s3 H ex) pins1 σ1 E0 e s') elt te)
 (hfr : ∃ env0 outer0 L,X.stack=env0::outer0∧env0.frame=some L∧X.env.frame=some L)
 (htst : ∀ pins s3 H ex pins' s σ H' Qb P E,Inv (blk X pins scope (caps++own) s3 H ex) pins' σ H' s→tt σ H' Qb→(∀ b s' H'',Inv (blk X pins scope (caps++own) s3 H ex) pins' σ H'' s'→Qb b H''→P b s')→Tst (blk X pins scope (caps++own) s3 H ex).env P E s)
 (hix:caps.length=ix.length) (hcapB:(caps.zip ix).all (fun p=>X.N[p.2]?==some p.1)=true)
 (hs : ∀ x,foldedSetIterable iter X.env x=pure x) {use:Option (Value→Sem Unit)}{Q0:Value→Shared→Prop}{Qv:VK}{pins:List (Addr×Obj)}{s:Shared}{σ:St}{H:Hp}{pos':Pos} (I:Inv X pins σ H s) (hX:PassesI X σ E0) {Inner:It→Hp→Prop} (h:wi σ H Inner)
 (hin : ∀ J H1,Inner J H1 → ∃ W:Nat→Nat→List V→St→Hp→Prop,(∃ m,W 0 m [] (capS ix own.length σ) H1) ∧ ∀ i m ys σ1 H2,W i m ys σ1 H2 →
 (J.stop i H2∧ys.length≤sizeLine ∧ ∀ p,H2 p=none→Qv (.ref p) (upd H2 p (.lst ys))) ∨
 (J.go i H2∧ys.length<sizeLine ∧ ∃ (N:V→St→Hp→Prop) (N0:St→Hp→Prop),(∀ y σ2 H5,N y σ2 H5 → ∃ m',m'<m∧W (i+1) m' (ys++[y]) σ2 H5)∧(∀ σ2 H5,N0 σ2 H5 → ∃ m',m'<m∧W (i+1) m' ys σ2 H5) ∧
 ∀ x H3,J.yld i H2 x H3→g x σ1 H3 fun σ2 H4=>tt σ2 H4 fun b H5=>match b with|true=>te σ2 H5 fun y H6=>N y σ2 H6|false=>N0 σ2 H5))
 (fin : ∀ (D C:Addr) (s6:Shared) (H6:Hp) (m6:Str→Option Value),s6.heap.Ns C m6→Inv X pins σ H6 s6→H6 C=none→C≠X.env.locals→C ∉ X.fs→(C ∈ X.ex∨X.s₀.heap.objs.size≤C)→(∀ x c,X.env.cells.lookup x=some c→c≠C)→(∀ p ∈ X.pn++pins,p.1≠C)→Qv (.ref D) H6 →
 compPost (model X.prog X.w) X.A X.xe use Q0 (.ref D) C (.ok .next) s6) :
 wpAny (model X.prog X.w) X.A (comprehension (.ListComp elt [⟨target,iter,cs,0⟩] scope pos) scope X.env pos' (newList []) false (eval iter X.env) use) Q0 X.xe s:=by
  have hcap : ∀ (j:Nat) (x:Str) (i:Nat),caps[j]?=some x→ix[j]?=some i→X.N[i]?=some x:=fun j x i h1 h2=>by
   have hm:(x,i) ∈ caps.zip ix:=by
    have:(caps.zip ix)[j]?=some (x,i):=by rw [List.getElem?_zip_eq_some];exact ⟨h1,h2⟩
    exact List.mem_of_getElem? this
   have:=List.all_eq_true.mp hcapB _ hm
   simpa using this
  have hnm : ∀ y ∈ scope.names,y.2 = .local→scope.names.lookup y.1=some .local:=fun y hy hl=>by
   have:=List.all_eq_true.mp S.names y hy
   rw [hl] at this
   simpa using this
  refine wpAny_comprehension_free (use:=use) rfl hs S.clos S.kind hnm (thn (hi pins s σ H _ I h) fun v s1 h1=>thn h1 fun itv s2 h2=>?_)
  obtain ⟨it,fp,tn,J,H2,e,I2,T,st2,f2,hJ⟩:=h2
  obtain ⟨W,⟨m0,w0⟩,turn⟩:=hin J H2 hJ
  subst e
  refine wpAny_newObj_type (nfe_cells ?_)
  dsimp only
  generalize eh0:s2.heap.push { cls :=.type "list",data :=.seq #[] }=h3
  have hns₁:(pushCells (h3.push { cls :=.type "dict",data :=.dict #[] }) scope.names).Ns h3.objs.size (fun _=>none):=(Heap.Ns.new h3 (.type "dict")).keeps (pushCells_keeps _ _)
  have hkp : ∀ b o,h3.get? b=some o→(pushCells (h3.push { cls :=.type "dict",data :=.dict #[] }) scope.names).get? b=some o:=fun b o q=>pushCells_keeps _ _ b o (Heap.get?_push_of_some _ q)
  have hcl₁ : ∀ x c,(nclOf scope X.env (h3.objs.size+1)).lookup x=some c→(clOf scope X.env).lookup x=some c∨(pushCells (h3.push { cls :=.type "dict",data :=.dict #[] }) scope.names).IsCell c none:=fun x c q=>by
   refine cf_cell (h:=h3.push { cls :=.type "dict",data :=.dict #[] }) ?_
   rw [Heap.size_push];exact q
  generalize pushCells (h3.push { cls :=.type "dict",data :=.dict #[] }) scope.names=h₁ at hns₁ hkp hcl₁ ⊢
  obtain ⟨s3,hs3⟩ : ∃ s3:Shared,s3={ s2 with heap:=h3 }:=⟨_,rfl⟩
  have e3:h3=s3.heap:=by rw [hs3]
  subst e3
  have eh:s3.heap=s2.heap.push { cls :=.type "list",data :=.seq ([]:List Value).toArray }:=eh0.symm
  have hC:s3.heap.objs.size=s2.heap.objs.size+1:=by rw [eh,Heap.size_push]
  have hDlt:s2.heap.objs.size<s3.heap.objs.size:=by omega
  have k23 : ∀ b o,s2.heap.get? b=some o→s3.heap.get? b=some o:=fun b o q=>by rw [eh];exact Heap.get?_push_of_some _ q
  have hD3:s3.heap.get? s2.heap.objs.size=some { cls :=.type "list",data :=.seq ([]:List Value).toArray }:=by rw [eh];exact Heap.get?_push_size _ rfl
  have I3:Inv X pins σ H2 s3:=by rw [hs3];exact I2.kept (t':=s2.toks) k23
  have k34 : ∀ b o,s3.heap.get? b=some o→h₁.get? b=some o:=hkp
  have fpl : ∀ b ∈ fp,b<s2.heap.objs.size:=fun b hb=>by
   obtain ⟨o,q,_⟩:=T.obj 0 _ st2 b hb
   exact Heap.lt_size q
  have cel : ∀ x c,X.env.cells.lookup x=some c→c<s2.heap.objs.size:=fun x c q=>by
   obtain ⟨v,o,z,_⟩:=I2.cell x c q
   exact Heap.lt_size z
  have ncl : ∀ x c,(nclOf scope X.env (s3.heap.objs.size+1)).lookup x=some c→X.env.cells.lookup x=some c∨s3.heap.objs.size<c:=fun x c q=>(S.look q).elim (fun z => .inr z.1) .inl
  have pnl : ∀ p ∈ X.pn++pins,p.1<s2.heap.objs.size:=fun p hp=>Heap.lt_size (I2.pin p hp).1
  have hDn:H2 s2.heap.objs.size=none:=I2.hok.fresh (Nat.le_refl _)
  have ok:(blk X pins scope (caps++own) s3 H2 (s2.heap.objs.size::fp)).Ok:=by
   refine ⟨I2.mod,S.kind,I2.ok.glob,I2.ok.blt,Nat.le_refl _,fun x y c h1 h2=>?_,fun x hx=>S.has _ hx,fun x c hf q=>?_,I2.ok.hd,I2.ok.frames,.inl rfl,fun b hb=>?_,I3.bs,?_,fun b o q hb=>?_,fun b hb=>?_,I3.stack,I3.stkFree⟩
   ·rcases ncl x c h1 with q1|q1
    ·rcases ncl y c h2 with q2|q2
     ·exact I2.ok.inj x y c q1 q2
     ·exact absurd (Nat.lt_trans (cel x c q1) hDlt) (Nat.not_lt.mpr (Nat.le_of_lt q2))
    ·exact cf_inj (n:=s3.heap.objs.size+1) (acc:=clOf scope X.env) (fun z a q=>Nat.lt_succ_of_lt (Nat.lt_trans (cel z a (S.sub q)) hDlt)) q1 h1 h2
   ·exact Nat.le_trans (Nat.le_succ _) (cf_above (lo:=s3.heap.objs.size+1) (Nat.le_refl _) (.inl (mem_lookup (beq_iff_eq.mp hf))) q)
   ·have hb':b=s2.heap.objs.size∨b ∈ fp:=List.mem_cons.mp hb
    rcases hb' with rfl|hb'
    ·exact ⟨Nat.ne_of_lt hDlt,fun x c q=>(ncl x c q).elim (fun z=>Nat.ne_of_lt (cel x c z)) fun z=>Nat.ne_of_gt (Nat.lt_trans hDlt z)⟩
    ·exact ⟨Nat.ne_of_lt (Nat.lt_trans (fpl b hb') hDlt),fun x c q=>(ncl x c q).elim (fun z=>(f2 b hb').2.2.2.2.1 x c z) fun z=>Nat.ne_of_gt (Nat.lt_trans (fpl b hb') (Nat.lt_trans hDlt z))⟩
   ·exact Nat.le_trans I2.ok.bsz I3.sz
   ·have hlt:b<X.base.objs.size:=Heap.lt_size q
    have hb':b=s2.heap.objs.size∨b ∈ fp:=List.mem_cons.mp hb
    have h1:=I2.ok.bsz
    have h2:=I2.sz
    rcases hb' with rfl|hb'
    ·exact absurd hlt (Nat.not_lt.mpr (Nat.le_trans h1 h2))
    ·rcases (f2 b hb').2.2.2.1 with z|z
     ·exact I2.ok.noex b o q z
     ·exact absurd hlt (Nat.not_lt.mpr (Nat.le_trans h1 z))
   ·have hb':b=s2.heap.objs.size∨b ∈ fp:=List.mem_cons.mp hb
    intro z
    have z':=I2.stkSub b z
    rcases hb' with rfl|hb'
    ·rcases List.mem_cons.mp z' with z'|z'
     ·exact Nat.ne_of_gt I2.lt z'
     ·exact I2.nofs (Nat.le_refl _) z'
    ·rcases List.mem_cons.mp z' with z'|z'
     ·exact (f2 b hb').2.1 z'
     ·exact (f2 b hb').2.2.1 z'
  have len0:(capS ix own.length σ).length=(caps++own).length:=by unfold capS;simp [hix]
  have I4:Inv (blk X pins scope (caps++own) s3 H2 (s2.heap.objs.size::fp)) [] (capS ix own.length σ) H2 { s2 with heap:=h₁ }:=by
   obtain ⟨mX,nsX,lkX⟩:=I3.loc
   refine ⟨ok,(by show s2.os=s3.os;rw [hs3]),I2.bare,Un.kept k34,⟨_,hns₁,fun j x v h1 h2 h3=>?_⟩,fun x c q=>?_,I3.hok.fresh (Nat.le_refl _),fun x c q=>(ncl x c q).elim (fun z=>I3.freeC x c z) fun z=>I3.hok.fresh (Nat.le_of_lt z),fun p hp=>?_,I3.hok.kept k34,len0⟩
   ·-- a captured name
    have hj:j<ix.length:=by
     unfold capS at h2
     by_cases hj:j<ix.length
     ·exact hj
     ·rw [List.getElem?_append_right (by simpa using hj),List.getElem?_replicate] at h2
      split at h2 <;> cases h2
    have h1':caps[j]?=some x:=by
     have:(caps++own)[j]?=some x:=h1
     rwa [List.getElem?_append_left (by omega)] at this
    have hij:ix[j]?=some ix[j]:=List.getElem?_eq_getElem hj
    have hv:σ[ix[j]]?=some (some v):=by
     unfold capS at h2
     rw [List.getElem?_append_left (by simpa using hj),List.getElem?_map,hij] at h2
     have h2':(σ[ix[j]]?).join=some v:=by simpa using h2
     cases q:σ[ix[j]]? with
     | none=>rw [q] at h2';cases h2'
     | some o=>rw [q] at h2';cases o with
      | none=>cases h2'
      | some y=>have:y=v:=by simpa using h2'
                rw [this]
    have hk:=List.all_eq_true.mp S.cap x (List.mem_of_getElem? h1')
    obtain ⟨k1,k2⟩:=Bool.and_eq_true_iff.mp hk
    have k1':scope.names.lookup x=some .free:=by simpa using k1
    have k2':X.env.scope.names.lookup x=some .cell∨X.env.scope.names.lookup x=some .free:=by simpa using k2
    obtain ⟨u,ru,lk⟩:=lkX ix[j] x v (hcap j x _ h1' hij) hv (k2'.elim (fun z => .inr (.inl z)) (fun z => .inr (.inr z)))
    refine ⟨u,ru,?_⟩
    have hrel:(relabel scope X.env).names.lookup x=some .cell∨(relabel scope X.env).names.lookup x=some .free:=by
     rcases h3 with h3|h3|h3
     ·have h3':(relabel scope X.env).names.lookup x=some NameKind.local:=h3
      obtain ⟨k',m1,m2⟩:=relabel_mem h3'
      rcases m2 with rfl|⟨_,m2⟩
      ·have:=hnm _ m1 rfl
       rw [k1'] at this;cases this
      ·cases m2
     ·exact .inl h3
     ·exact .inr h3
    have hxc:(x,NameKind.cell) ∉ scope.names:=fun z=>by
     have:=S.isC z
     rw [k1'] at this;cases this
    obtain ⟨c,hcl⟩:=S.hasF (mem_lookup k1')
    have hcl':(nclOf scope X.env (s3.heap.objs.size+1)).lookup x=some c:=(cf_old hxc).trans hcl
    rcases lk with ⟨kl,_⟩|⟨_,c',ec,ic⟩
    ·have kl':X.env.scope.names.lookup x=some .local:=kl
     rcases k2' with z|z <;> (rw [kl'] at z;cases z)
    ·have:=S.sub hcl
     have ee:c'=c:=by rw [ec] at this;exact Option.some.inj this
     exact .inr ⟨hrel,c,hcl',ee ▸ ic.keeps k34⟩
   ·rcases hcl₁ x c q with z|z
    ·obtain ⟨v,ic⟩:=I3.cell x c (S.sub z)
     exact ⟨v,ic.keeps k34⟩
    ·exact ⟨_,z⟩
   ·have hp':p ∈ X.pn++pins:=by simpa [blk] using hp
    obtain ⟨q1,q2,q3,q4,q5⟩:=I3.pin p hp'
    refine ⟨k34 _ _ q1,q2,Nat.ne_of_lt (Nat.lt_trans (pnl p hp') hDlt),fun z=>?_,q5⟩
    rcases List.mem_cons.mp (I3.stkSub p.1 z) with z'|z'
    ·exact q3 z'
    ·exact q4 z'
  have hD4:h₁.get? s2.heap.objs.size=some { cls :=.type "list",data :=.seq ([]:List Value).toArray }:=k34 _ _ hD3
  have st4:tn 0 h₁:=T.keep _ _ _ st2 fun b _ o q=>k34 b o (k23 b o q)
  have fpk : ∀ {H':Hp}{ob:Obj},(∀ b ∈ fp,H' b=none) → ∀ b ∈ fp,FpOk (blk X pins scope (caps++own) s3 H2 (s2.heap.objs.size::fp)) [(s2.heap.objs.size,ob)] H' b:=fun {H' ob} hn b hb=>by
   obtain ⟨_,a1,a2,a3,a4,a5⟩:=f2 b hb
   refine ⟨hn b hb,Nat.ne_of_lt (Nat.lt_trans (fpl b hb) hDlt),fun z=>?_,.inl (List.mem_cons_of_mem _ hb),fun x c q=>(ncl x c q).elim (fun z=>a4 x c z) fun z=>Nat.ne_of_gt (Nat.lt_trans (fpl b hb) (Nat.lt_trans hDlt z)),fun p hp=>?_⟩
   ·rcases List.mem_cons.mp (I2.stkSub b z) with z'|z'
    ·exact a1 z'
    ·exact a2 z'
   ·have hp':p ∈ X.pn++pins∨p=(s2.heap.objs.size,ob):=by simpa [blk,or_assoc] using hp
    rcases hp' with hp'|rfl
    ·exact a5 p hp'
    ·exact Nat.ne_of_gt (fpl b hb)
  have stC:s3.heap.objs.size ∉ frs X.stack:=fun z=>by
   rcases List.mem_cons.mp (I2.stkSub _ z) with z'|z'
   ·exact Nat.ne_of_gt (Nat.lt_trans I2.lt hDlt) z'
   ·exact I2.nofs (Nat.le_of_lt hDlt) z'
  have hch : ∀ b ∈ s2.heap.objs.size::fp,(b ∈ X.ex∨X.s₀.heap.objs.size≤b)∧b≠X.env.locals∧(∀ x c,X.env.cells.lookup x=some c→c≠b) ∧ ∀ p ∈ X.pn++pins,p.1≠b:=by
   intro b hb
   have hb':b=s2.heap.objs.size∨b ∈ fp:=List.mem_cons.mp hb
   rcases hb' with rfl|hb'
   ·exact ⟨.inr I2.sz,Nat.ne_of_gt I2.lt,fun x c q=>Nat.ne_of_lt (cel x c q),fun p hp=>Nat.ne_of_lt (pnl p hp)⟩
   ·obtain ⟨_,a1,_,a3,a4,a5⟩:=f2 b hb'
    exact ⟨a3,a1,a4,a5⟩
  have out : ∀ pins1 σ1 H1 s1,Inv (blk X pins scope (caps++own) s3 H2 (s2.heap.objs.size::fp)) pins1 σ1 H1 s1→Inv X pins σ H1 s1:=fun pins1 σ1 H1 s1 I1=>by
   have U:=I1.base
   refine I2.call' (ch:=s2.heap.objs.size::fp) ?_ ⟨fun b o q n hb hx=>U.keep b o (k23 b o q) n hb hx,fun b o q n hb hx=>U.slot b o (k23 b o q) n hb hx,fun b o q n hx=>U.free b o (k23 b o q) n hx,fun b o q hx=>U.there b o (k23 b o q) hx,U.tups,U.frzs,U.tbls⟩ I1.hok I1.bare hch
   show s1.os=s2.os
   rw [I1.os];show s3.os=s2.os;rw [hs3]
  have exc : ∀ e s',(∃ pins1 σ1,CXI (blk X pins scope (caps++own) s3 H2 (s2.heap.objs.size::fp)) pins1 σ1 E0 e s')→notedBy (model X.prog X.w) X.A (compEnvC scope (nclOf scope X.env (s3.heap.objs.size+1)) s3.heap.objs.size X.env) (fun e s'=>compPost (model X.prog X.w) X.A X.xe use Q0 (.ref s2.heap.objs.size) s3.heap.objs.size (.error e) s') e s':=by
   rintro e s' ⟨pins1,σ1,h⟩
   obtain ⟨env0,outer0,L,hs,h0,hL⟩:=hfr
   refine cxi_note (X:=blk X pins scope (caps++own) s3 H2 (s2.heap.objs.size::fp)) (E1:=fun _ _=>False) h hs h0 hL I2.ok.frames fun h1 c1 up=>?_
   obtain ⟨ea,C',a0,fl,B,H',s1,rfl,m,I1,os,st,sl,tB,old,q⟩:=c1
   obtain ⟨mC,nsC,_⟩:=id I1.loc
   obtain ⟨oC,esC,epC,hoC,hdC,rC⟩:=id nsC
   have ndC : ∀ vs,oC.data ≠ .fields vs:=fun vs z=>by rw [hdC] at z;cases z
   obtain ⟨slC,zC⟩:=sl s3.heap.objs.size oC (.inr rfl) hoC ndC
   refine ⟨mC,⟨_,esC,epC,zC,hdC,rC⟩,fun h' sb cenv hc=>?_⟩
   have nC : ∀ o,h1.get? s3.heap.objs.size=some o → ∀ vs,o.data ≠ .fields vs:=fun o z vs zz=>by
    rw [show h1.get? s3.heap.objs.size=_ from zC] at z
    cases z
    exact ndC vs zz
   have ne:s3.heap.objs.size≠ea:=fun z=>by
    obtain ⟨_,_,_,oe,vs,T,oT,ts,x1,_,x3,_⟩:=m
    exact nC oe (z ▸ x1) vs x3
   have fC:H' s3.heap.objs.size=none:=I1.free
   have hidB : ∀ {b:Addr}{o:Obj},B.get? b=some o→b≠s3.heap.objs.size→(PySem.W.hideAll B [s3.heap.objs.size]).get? b=some o:=fun z n=>PySem.W.hideAll_get _ z (by simpa using n)
   have m2:=MarkW.hide m sb ne nC fun en he z=>stC (List.mem_filterMap.mpr ⟨en,he,z⟩)
   refine pass_any (s:={ s' with heap:=h' }) m2 fun h2 m3 up3=>hX pins (.ref ea) _ ⟨ea,C',a0,_,PySem.W.hideAll B [s3.heap.objs.size],H',s1,rfl,m3,out _ _ _ _ I1,os,fun b o z=>st b o (PySem.W.of_hideAll _ z),fun b o hb z nf=>?_,fun b u z=>?_,fun b o z n1 n2=>?_,q⟩
   ·have bC:b≠s3.heap.objs.size:=by
     rcases hb with hb|hb
     ·exact fun z=>stC (z ▸ hb)
     ·exact fun z=>Nat.ne_of_lt (Nat.lt_trans I2.lt hDlt) (hb ▸ z)
    by_cases hfs:b ∈ frs X.stack
    ·obtain ⟨sa,za⟩:=sl b o (.inl hfs) z nf
     have zb:h'.get? b=some { o with slots:=sa }:=by rw [sb.2 b bC];exact za
     obtain ⟨sc,zc⟩:=up3 b _ zb nf
     exact ⟨sc,zc⟩
    ·have hb:b=X.env.locals:=hb.elim (fun z=>(hfs z).elim) id
     obtain ⟨mX,nsX,_⟩:=id I3.loc
     obtain ⟨oX,_,_,hoX,_⟩:=id nsX
     obtain ⟨o',ho'⟩:=old b oX (hb ▸ hoX) hfs (fun z=>(hch b z).2.1 hb)
     have:=st b o' ho'
     rw [z] at this;cases this
     exact ⟨o.slots,m3.1 b o (hidB ho' bC)⟩
   ·obtain ⟨o,ho⟩:=tB b u z
    exact ⟨o,hidB ho fun y=>by rw [y,fC] at z;cases z⟩
   ·obtain ⟨o1,z1⟩:=I2.base.there b o z n2
    have blt:b<X.s₀.heap.objs.size:=Heap.lt_size z
    have nst:b ∉ frs X.stack:=fun hb=>by
     rcases List.mem_cons.mp (I2.stkSub b hb) with y|y
     ·exact absurd blt (Nat.not_lt.mpr (y ▸ I2.ok.above))
     ·exact n1 y
    obtain ⟨o',ho'⟩:=old b o1 (k23 b o1 z1) nst (fun hb=>(hch b hb).1.elim n2 fun y=>Nat.not_lt.mpr y blt)
    exact ⟨o',hidB ho' (Nat.ne_of_lt (Nat.lt_of_lt_of_le blt (Nat.le_trans I2.sz (Nat.le_of_lt hDlt))))⟩
  have loop : ∀ s5:Shared,s5=({ s2 with heap:=h₁ }:Shared) →
   codeAny (model X.prog X.w) X.A (.compLoop (.ListComp elt [⟨target,iter,cs,0⟩] scope pos) 0 (.ref it) (.ref s2.heap.objs.size) (compEnvC scope (nclOf scope X.env (s3.heap.objs.size+1)) s3.heap.objs.size X.env))
    (compPost (model X.prog X.w) X.A X.xe use Q0 (.ref s2.heap.objs.size) s3.heap.objs.size) s5:=by
   rintro s5 rfl
   refine hloop (fun n s' => ∃ i ys its cp σ' H',Inv (blk X pins scope (caps++own) s3 H2 (s2.heap.objs.size::fp)) [] σ' H' s'∧tn i s'.heap∧(∀ b ∈ fp,H' b=none)∧H' s2.heap.objs.size=none ∧
    s'.heap.get? s2.heap.objs.size=some { cls :=.type "list",data :=.seq (its:List Value).toArray cp }∧Vals ys its∧W i n ys σ' H') ?_ m0 ⟨0,[],[],_,_,H2,I4,st4,fun b hb=>(f2 b hb).1,hDn,hD4,.nil,w0⟩
   rintro n s5 ⟨i,ys,its,cp,σ5,H5,I5,st5,fr5,hD5,gD5,rv5,w5⟩
   have Dfs:s2.heap.objs.size ∉ (blk X pins scope (caps++own) s3 H2 (s2.heap.objs.size::fp)).fs:=fun z=>by
    rcases List.mem_cons.mp (I2.stkSub _ z) with z'|z'
    ·exact Nat.ne_of_gt I2.lt z'
    ·exact I2.nofs (Nat.le_refl _) z'
   have I5':Inv (blk X pins scope (caps++own) s3 H2 (s2.heap.objs.size::fp)) [(s2.heap.objs.size,{ cls :=.type "list",data :=.seq its.toArray cp })] σ5 H5 s5:=by
    refine I5.pins_of fun p hp=>?_
    have hp':p ∈ (blk X pins scope (caps++own) s3 H2 (s2.heap.objs.size::fp)).pn++[]∨p=(s2.heap.objs.size,{ cls :=.type "list",data :=.seq its.toArray cp }):=by
     first
      | exact .inr (List.mem_singleton.mp hp)
      | (rcases List.mem_append.mp hp with z|z
         ·exact .inl (List.mem_append_left _ z)
         ·exact .inr (List.mem_singleton.mp z))
    rcases hp' with z|rfl
    ·exact I5.pin p z
    ·exact ⟨gD5,hD5,Nat.ne_of_lt hDlt,Dfs,fun v z=>by cases z⟩
   rcases turn i n ys σ5 H5 w5 with ⟨stop,hz,qn⟩|⟨go,hz,N,N0,hN,hN0,step⟩
   ·refine thn (T.done (blk X pins scope (caps++own) s3 H2 (s2.heap.objs.size::fp)) rfl rfl rfl hc i _ s5 σ5 H5 _ I5' (fpk fr5) st5 stop) fun r s6 ⟨hr,I6⟩=>?_
    subst hr
    obtain ⟨m6,ns6,_⟩:=id I6.loc
    have gD6:=(I6.pin _ (List.mem_append_right _ (List.mem_singleton.mpr rfl))).1
    have kC : ∀ b o,b≠s3.heap.objs.size→s6.heap.get? b=some o→s6.heap.get? b=some o:=fun b o _ q=>q
    have bne : ∀ b o,s2.heap.get? b=some o→b≠s3.heap.objs.size:=fun b o q=>Nat.ne_of_lt (Nat.lt_trans (Heap.lt_size q) hDlt)
    have bnD : ∀ b o,s2.heap.get? b=some o→b≠s2.heap.objs.size:=fun b o q=>Nat.ne_of_lt (Heap.lt_size q)
    have nC : ∀ b u,H5 b=some u→b≠s3.heap.objs.size:=fun b u q z=>by
     have z1:H5 s3.heap.objs.size=none:=I6.free
     rw [z,z1] at q;cases q
    have U:=I6.base
    have IX:Inv X pins σ (upd H5 s2.heap.objs.size (.lst ys)) s6:=by
     refine I2.call' (ch:=s2.heap.objs.size::fp) ?_ ?_ ?_ I6.bare ?_
     ·show s6.os=s2.os
      rw [I6.os];show s3.os=s2.os;rw [hs3]
     ·refine ⟨fun b o q n hb hx=>kC b o (bne b o q) (U.keep b o (k23 b o q) n hb hx),fun b o q n hb hx=>?_,fun b o q n hx=>?_,fun b o q hx=>?_,fun b xs q=>?_,fun b o u q=>?_,fun b ps q=>?_⟩
      ·obtain ⟨sl,z⟩:=U.slot b o (k23 b o q) n hb hx
       exact ⟨sl,kC b _ (bne b o q) z⟩
      ·rw [upd_ne (bnD b o q)];exact U.free b o (k23 b o q) n hx
      ·obtain ⟨o',z⟩:=U.there b o (k23 b o q) hx
       exact ⟨o',kC b _ (bne b o q) z⟩
      ·have:=U.tups b xs q
       rw [upd_ne (ne_of_none this hD5)];exact this
      ·have:=U.frzs b o u q
       rw [upd_ne (ne_of_none this hD5)];exact this
      ·obtain ⟨more,z,gm⟩:=U.tbls b ps q
       exact ⟨more,by rw [upd_ne (ne_of_none z hD5)];exact z,gm.mono fun b o u q=>by rw [upd_ne (ne_of_none q hD5)];exact q⟩
     ·intro b u q
      by_cases hb:b=s2.heap.objs.size
      ·subst hb
       rw [upd_same] at q
       cases q
       exact ⟨hz,its,cp,rv5,kC _ _ (Nat.ne_of_lt hDlt) gD6⟩
      ·rw [upd_ne hb] at q
       refine (I6.hok b u q).stay (fun c ob hc z=>kC c ob ?_ z) (fun c z=>by rw [upd_ne (ne_of_none z hD5)];exact z) fun c xs z=>by rw [upd_ne (ne_of_none z hD5)];exact z
       rcases hc with hc|hc
       ·rw [hc];exact nC b u q
       ·exact nC c _ hc
     ·intro b hb
      have hb':b=s2.heap.objs.size∨b ∈ fp:=List.mem_cons.mp hb
      rcases hb' with rfl|hb'
      ·exact ⟨.inr I2.sz,Nat.ne_of_gt I2.lt,fun x c q=>Nat.ne_of_lt (cel x c q),fun p hp=>Nat.ne_of_lt (pnl p hp)⟩
      ·obtain ⟨_,a1,_,a3,a4,a5⟩:=f2 b hb'
       exact ⟨a3,a1,a4,a5⟩
    have hCH:(upd H5 s2.heap.objs.size (.lst ys)) s3.heap.objs.size=none:=by
     rw [upd_ne (Nat.ne_of_gt hDlt)];exact I6.free
    exact fin _ _ s6 _ m6 ns6 IX hCH (Nat.ne_of_gt (Nat.lt_trans I2.lt hDlt)) (I2.nofs (Nat.le_of_lt hDlt)) (.inr (Nat.le_trans I2.sz (Nat.le_of_lt hDlt))) (fun x c q=>Nat.ne_of_lt (Nat.lt_trans (cel x c q) hDlt)) (fun p hp=>Nat.ne_of_lt (Nat.lt_trans (pnl p hp) hDlt)) (qn _ hD5)
   ·refine thn (T.item (blk X pins scope (caps++own) s3 H2 (s2.heap.objs.size::fp)) rfl rfl rfl hc i _ s5 σ5 H5 _ I5' (fpk fr5) st5 go) fun r s6 ⟨u,hr,h6⟩=>?_
    subst hr
    refine thn h6 fun _ s7 xx169=>?_
    obtain ⟨x,H7,I7,r7,y7,st7,fr7⟩:=xx169
    have I7':=I7.pinned (fpk fr7) (T.obj _ _ st7)
    refine wpAny_mono (hg pins s3 H2 _ _ s7 σ5 H7 x u _ I7' r7 (step x H7 y7)) (fun _ s8 xx168=>?_) fun _ _ z=>z.elim
    obtain ⟨σ8,H8,I8,q8⟩:=xx168
    refine htst pins s3 H2 _ _ s8 σ8 H8 _ _ _ I8 q8 fun bt s8' H8' I8' q8'=>?_
    cases bt with
    | false =>
     have q9:N0 σ8 H8':=q8'
     obtain ⟨m',hm',w9⟩:=hN0 σ8 H8' q9
     have gD9:=(I8'.pin (s2.heap.objs.size,{ cls :=.type "list",data :=.seq its.toArray cp }) (List.mem_append_right _ (List.mem_append_left _ (List.mem_singleton.mpr rfl))))
     have pin8 : ∀ b ∈ fp,∀ o,s7.heap.get? b=some o→s8'.heap.get? b=some o∧H8' b=none:=fun b hb o q=>by
      have z:=I8'.pin (b,o) (List.mem_append_right _ (List.mem_append_right _ (mem_pinsAt hb q)))
      exact ⟨z.1,z.2.1⟩
     refine ⟨m',hm',i+1,ys,its,cp,σ8,H8',?_,?_,fun b hb=>?_,gD9.2.1,gD9.1,rv5,w9⟩
     ·exact (I8'.pins_of (pins':=[]) (fun p hp=>by
       first
        | exact absurd hp (by simp)
        | (rw [List.append_nil] at hp;exact I8'.pin p (List.mem_append_left _ hp))))
     ·exact T.keep _ _ _ st7 fun b hb o q=>(pin8 b hb o q).1
     ·obtain ⟨o,q,_⟩:=T.obj _ _ st7 b hb
      exact (pin8 b hb o q).2
    | true =>
     refine wpAny_mono (he pins s3 H2 _ _ s8' σ8 H8' _ (I8'.wish _) q8') (fun uy s9 xx167=>?_) exc
     obtain ⟨y,H9,I9w,r9,n9⟩:=xx167
     have I9:=I9w.unwish
     obtain ⟨m',hm',w9⟩:=hN y σ8 H9 n9
     have gD9:=(I9.pin (s2.heap.objs.size,{ cls :=.type "list",data :=.seq its.toArray cp }) (List.mem_append_right _ (List.mem_append_left _ (List.mem_singleton.mpr rfl))))
     have pin9 : ∀ b ∈ fp,∀ o,s7.heap.get? b=some o→s9.heap.get? b=some o∧H9 b=none:=fun b hb o q=>by
      have z:=I9.pin (b,o) (List.mem_append_right _ (List.mem_append_right _ (mem_pinsAt hb q)))
      exact ⟨z.1,z.2.1⟩
     have hl9:=rv5.length
     refine call_meets PySem.F.slot_list_append ⟨_,gD9.1,rfl⟩ PySem.F.entry_list_append (PySem.F.args_list_append_2 _ _) (PySem.list_append s2.heap.objs.size its.toArray cp uy (by rw [List.size_toArray];omega)) ⟨gD9.1,?_⟩
     have qD:=PySem.IsL.update gD9.1 (fun xs=>xs.push uy)
     have ep:its.toArray.push uy=(its++[uy]).toArray:=by simp
     rw [ep] at qD
     have up : ∀ b o,b≠s2.heap.objs.size→s9.heap.get? b=some o→(s9.heap.update s2.heap.objs.size (Obj.mapSeq fun xs=>xs.push uy)).get? b=some o:=fun b o hb q=>(Heap.get?_update_other s9.heap _ (Ne.symm hb)).trans q
     refine ⟨m',hm',i+1,ys++[y],its++[uy],_,σ8,H9,?_,?_,fun b hb=>?_,gD9.2.1,qD,rv5.append (.cons r9 .nil),w9⟩
     ·refine (I9.pins_of (pins':=[]) (fun p hp=>by
       first
        | exact absurd hp (by simp)
        | (rw [List.append_nil] at hp;exact I9.pin p (List.mem_append_left _ hp)))).turned (it:=s2.heap.objs.size) up gD9.2.1 (Nat.ne_of_lt hDlt) (.inl (List.mem_cons_self ..)) (fun x c q=>(ncl x c q).elim (fun z=>Nat.ne_of_lt (cel x c z)) fun z=>Nat.ne_of_gt (Nat.lt_trans hDlt z)) fun p hp=>?_
      have hp':p ∈ X.pn++pins:=by simpa [blk] using hp
      exact Nat.ne_of_lt (pnl p hp')
     ·exact T.keep _ _ _ st7 fun b hb o q=>up b o (Nat.ne_of_lt (fpl b hb)) (pin9 b hb o q).1
     ·obtain ⟨o,q,_⟩:=T.obj _ _ st7 b hb
      exact (pin9 b hb o q).2
  exact codeAny_compStart_list (loop _ rfl) (T.self _ 0 _ _ _ st4 (loop _ rfl))
end
end L2
namespace L2
open PySem PySem.Spec PyProof.Rows
def FrX (X:Cx):Prop := ∃ env0 outer0 L,X.stack=env0::outer0∧env0.frame=some L∧X.env.frame=some L
theorem CXI.unwish {X:Cx}{E':Value→Shared→Prop}{pins:List (Addr×Obj)}{σ:St}{E:XK}{e:Value}{s':Shared} (h:CXI (X.wish E') pins σ E e s'):CXI X pins σ E e s':=by
 obtain ⟨ea,C,a0,fl,B,H',s1,x1,x2,I,x3⟩:=h
 exact ⟨ea,C,a0,fl,B,H',s1,x1,x2,I.unwish,x3⟩
section
variable {X:Cx}{Ex:St→XK}{elt target iter:Expr}{scope:Scope}{pos:Pos}{caps own:List Str}{ix:List Nat}{wi:TI}{g:TG}{teX:(St→XK)→TE}
def tCompX (Ex:St→XK) (ix:List Nat) (k:Nat) (wi:TI) (g:TG) (teX:(St→XK)→TE):TE:=fun σ H Q=>tComp ix k wi g (teX fun _=>Ex σ) σ H Q
theorem comp_coreX0 (hX : ∀ σ,PassesI X σ (Ex σ)) (hfr:FrX X) (hc:X.calm=true) (S:CompScope X.env scope caps) (hi:PI X target iter wi)
 (hg : ∀ pins s3 H ex,PG (blk X pins scope (caps++own) s3 H ex) target g)
 (he : ∀ pins s3 H ex xe EB,(∀ σ1,PassesI ((blk X pins scope (caps++own) s3 H ex).wish xe) σ1 (EB σ1))→PE ((blk X pins scope (caps++own) s3 H ex).wish xe) elt (teX EB))
 (hix:caps.length=ix.length) (hcapB:(caps.zip ix).all (fun p=>X.N[p.2]?==some p.1)=true)
 (hs : ∀ x,foldedSetIterable iter X.env x=pure x) {use:Option (Value→Sem Unit)}{Q0:Value→Shared→Prop}{Qv:VK}{pins:List (Addr×Obj)}{s:Shared}{σ:St}{H:Hp}{pos':Pos} (I:Inv X pins σ H s) (h:tCompX Ex ix own.length wi g teX σ H Qv)
 (fin : ∀ (D C:Addr) (s6:Shared) (H6:Hp) (m6:Str→Option Value),s6.heap.Ns C m6→Inv X pins σ H6 s6→H6 C=none→C≠X.env.locals→C ∉ X.fs→(C ∈ X.ex∨X.s₀.heap.objs.size≤C)→(∀ x c,X.env.cells.lookup x=some c→c≠C)→(∀ p ∈ X.pn++pins,p.1≠C)→Qv (.ref D) H6 →
 compPost (model X.prog X.w) X.A X.xe use Q0 (.ref D) C (.ok .next) s6) :
 wpAny (model X.prog X.w) X.A (comprehension (.ListComp elt [⟨target,iter,[],0⟩] scope pos) scope X.env pos' (newList []) false (eval iter X.env) use) Q0 X.xe s:=by
  refine comp_coreX (E0:=Ex σ) (cs:=[]) (tt:=tYes) (Tst:=fun _ P _ s=>P true s) (fun J turn n h=>codeAny_compLoop_any J turn n h) hc S hi hg (fun pins s3 H ex=>he pins s3 H ex _ (fun _=>Ex σ) fun σ1 pins1 e s' c=>⟨pins1,σ1,c.unwish⟩) hfr (fun _ _ _ _ _ s _ H' _ _ _ I q k=>k true s H' I q) hix hcapB hs I (hX σ) h (fun J H1 z=>?_) fin
  obtain ⟨W,w0,turn⟩:=z
  refine ⟨W,w0,fun i m ys σ1 H2 w=>?_⟩
  rcases turn i m ys σ1 H2 w with z|z
  ·exact .inl z
  ·obtain ⟨go,hz,N,hN,step⟩:=z
   exact .inr ⟨go,hz,N,fun _ _=>False,hN,fun _ _ z=>z.elim,step⟩
theorem pe_compX (hX : ∀ σ,PassesI X σ (Ex σ)) (hfr:FrX X) (hc:X.calm=true) (S:CompScope X.env scope caps) (hi:PI X target iter wi)
 (hg : ∀ pins s3 H ex,PG (blk X pins scope (caps++own) s3 H ex) target g)
 (he : ∀ pins s3 H ex xe EB,(∀ σ1,PassesI ((blk X pins scope (caps++own) s3 H ex).wish xe) σ1 (EB σ1))→PE ((blk X pins scope (caps++own) s3 H ex).wish xe) elt (teX EB))
 (hix:caps.length=ix.length:=by rfl) (hcapB:(caps.zip ix).all (fun p=>X.N[p.2]?==some p.1)=true:=by rfl)
  (hs : ∀ x,foldedSetIterable iter X.env x=pure x:=by intro _;rfl):PE X (.ListComp elt [⟨target,iter,[],0⟩] scope pos) (tCompX Ex ix own.length wi g teX):=by
  intro pins s σ H Q I h
  rw [eval_ListComp]
  exact comp_coreX0 (use:=none) (Q0:=EP X pins σ Q) hX hfr hc S hi hg he hix hcapB hs I h fun D C s6 H6 m6 ns6 IX c1 c2 c3 c4 c5 c6 q=>⟨m6,ns6,fun h' sb=>⟨.ref D,H6,IX.turned (t':=s6.toks) (it:=C) (fun b o hb q=>sb.extBut b o hb q) c1 c2 c4 c5 c6,rfl,q⟩⟩
end
def liftFX (K:PySem.W.Frag) (Ex:St→XK) (W:WX→WF):TE:=fun σ H R => ∃ M env F Wx Q,EnvOk K M F H env σ∧W Wx env Q∧ExOk K M F Wx Ex ∧ ∀ a vs ds F' H' env',EnvOk K M F' H' env' σ→Same F F'→H' a=some (.lst vs)→F' a=none→M.B a=none→M.He a=none →
 (∀ i,(gS env' i).mut=true→vS σ i≠some (.ref a))→Iss K F' ds vs→Q ds env'→R (.ref a) H'
def liftAX (K:PySem.W.Frag) (Ex:St→XK) (W:WX→WF):TA:=fun σ H R => ∃ M env F Wx Q,EnvOk K M F H env σ∧W Wx env Q∧ExOk K M F Wx Ex ∧ ∀ ds vs F' H' env',EnvOk K M F' H' env' σ→Same F F'→Iss K F' ds vs→Q ds env'→R vs H'
def liftIX (K:PySem.W.Frag) (Ex:St→XK) (W:WX→WF):TI:=fun σ H R => ∃ M env F Wx Q,EnvOk K M F H env σ∧W Wx env Q∧ExOk K M F Wx Ex ∧ ∀ ds J F' H' env',EnvOk K M F' H' env' σ→Same F F'→ItD K J F' ds→Q ds env'→R J H'
def VIX (X:Cx) (Ex:St→XK) (tg e:Expr) (W:WX→WF):Prop:=PI X tg e (liftIX X.K Ex W)
def VFX (X:Cx) (Ex:St→XK) (e:Expr) (W:WX→WF):Prop:=PE X e (liftFX X.K Ex W)
def VAX (X:Cx) (Ex:St→XK) (e:List Expr) (W:WX→WF):Prop:=PA X e (liftAX X.K Ex W)
def wCompX (ix:List Nat) (k:Nat) (Wi:WX→WF) (G:WG) (We:WX→WE):WX→WF:=fun Wx env Q=>Wi Wx env fun ds e0=>ds.length<sizeLine ∧ ∃ P:Nat→List PyData→Sto→Prop,P 0 [] (capE ix k e0) ∧
 (∀ i d ys e,ds[i]?=some d→P i ys e→G d e fun e1=>We (fun C _=>Wx C e0) e1 fun y e2=>P (i+1) (ys++[y]) e2) ∧ ∀ ys e,P ds.length ys e→Q ys e0
section
variable {K:PySem.W.Frag}{Ex:St→XK}{ix:List Nat}{n:Nat}{Wi:WX→WF}{G:WG}{We:WX→WE}{σ:St}{H:Hp}{R:VK}
theorem compX_lift (h:liftFX K Ex (wCompX ix n Wi G We) σ H R):tCompX Ex ix n (liftIX K Ex Wi) (liftG K G) (fun EB=>liftEX K EB We) σ H R:=by
 obtain ⟨M,env,F,Wx,Q,I,h,hx,k⟩:=h
 refine ⟨M,env,F,Wx,_,I,h,hx,fun ds J F1 H1 e1 I1 s1 jt xx173=>?_⟩
 obtain ⟨hz,P,p0,turn,fin⟩:=xx173
 refine ⟨fun i m ys σ1 H'=>m=ds.length-i∧i≤ds.length ∧ ∃ e' F' l,EnvOk K ⟨H1,H1,F1⟩ F' H' e' σ1∧Iss K F' l ys∧ys.length=i∧P i l e',⟨ds.length,by simp,Nat.zero_le _,capE ix n e1,F1,[],I1.cap ix n,iss_nil,rfl,p0⟩,?_⟩
 rintro i m ys σ1 H2 ⟨hm,hi,e2,F2,l,I2,i2,hl,p2⟩
 have g2:=I2.goOf
 by_cases he:i=ds.length
 ·subst he
  exact .inl ⟨jt.stop H2 (g2.f.trans g2.fh),by omega,new_lst (I1.go g2) (s1.trans g2.f) i2 (fin l e2 p2) k⟩
 ·have hlt:i<ds.length:=by omega
  refine .inr ⟨jt.go i H2 (g2.f.trans g2.fh) hlt,by omega,fun y σ' H' => ∃ e' F' l',EnvOk K ⟨H1,H1,F1⟩ F' H' e' σ'∧Iss K F' l' (ys++[y])∧P (i+1) l' e',
   fun y σ' H' xx172=>by obtain ⟨e',F',l',I',i',p'⟩:=xx172;exact ⟨ds.length-(i+1),by omega,rfl,hlt,e',F',l',I',i',by simp [hl],p'⟩,fun x H3 hy=>?_⟩
  obtain ⟨d,F3,hd,g,j⟩:=jt.yld i H2 x H3 F2 g2.f g2.fh hlt hy
  refine ⟨_,e2,F3,d,_,I2.go g,j,turn i d l e2 hd p2,fun F4 H4 e4 σ4 I4 s4 h4=>⟨_,e4,F4,_,_,I4,h4,fun C e5 F5 H5 σ5 I5 s5 q5=>?_,fun d5 v5 F5 H5 e5 I5 s5 i5 h5=>?_⟩⟩
  ·exact hx C e1 F5 H5 σ (I1.go I5.goOf) (s1.trans I5.goOf.f) q5
  ·exact ⟨e5,F5,l++[d5],I5,iss_append ((i2.mono (g.f.trans s4)).mono s5) (iss_cons i5 iss_nil),h5⟩
end
section
variable {X:Cx}{Ex:St→XK}
theorem vix_of {tg e:Expr}{W:WF} (h:VI X tg e W):VIX X Ex tg e (fun _=>W):=PI.imp h fun σ H R xx174=>by obtain ⟨M,env,F,Wx,Q,I,h,hx,k⟩:=xx174;exact ⟨M,env,F,Q,I,h,k⟩
theorem vix_seq {tg a:Expr}{W:WX→WE} (h:VEX X Ex a W):VIX X Ex tg a (fun Wx=>wiSeq (W Wx)):=(pi_any h).imp fun σ H R xx175=>by
 obtain ⟨M,env,F,Wx,Q,I,h,hx,k⟩:=xx175
 refine ⟨M,env,F,Wx,_,I,h,hx,fun d v F1 H1 e1 I1 s1 i1 h1=>?_⟩
 cases d with
 | list l =>
  obtain ⟨b,xs,rfl,hs,hr⟩:=i1.lst_inv
  exact ⟨b,rfl,.inl ⟨⟨xs,I1.fh.seq hs⟩,k l _ F1 H1 e1 I1 s1 (itd_lst hs hr) h1⟩⟩
 | tuple l =>
  obtain ⟨b,xs,rfl,hs,hr⟩:=i1.tup_inv
  exact ⟨b,rfl,.inr ⟨⟨xs,same_seqT I1.fh hs⟩,k l _ F1 H1 e1 I1 s1 (itd_tup hs hr) h1⟩⟩
 | _=>exact False.elim h1
theorem vfx_comp {elt target iter:Expr}{scope:Scope}{pos:Pos}{caps own:List Str}{ix:List Nat}{Wi:WX→WF}{G:WG}{We:WX→WE} (hX : ∀ σ,PassesI X σ (Ex σ)) (hfr:FrX X) (hc:X.calm=true) (S:CompScope X.env scope caps) (hi:VIX X Ex target iter Wi)
 (hg : ∀ pins s3 H ex,VG (blk X pins scope (caps++own) s3 H ex) target G)
 (he : ∀ pins s3 H ex xe EB,(∀ σ1,PassesI ((blk X pins scope (caps++own) s3 H ex).wish xe) σ1 (EB σ1))→VEX ((blk X pins scope (caps++own) s3 H ex).wish xe) EB elt We)
 (hix:caps.length=ix.length:=by rfl) (hcapB:(caps.zip ix).all (fun p=>X.N[p.2]?==some p.1)=true:=by rfl)
  (hs : ∀ x,foldedSetIterable iter X.env x=pure x:=by intro _;rfl):VFX X Ex (.ListComp elt [⟨target,iter,[],0⟩] scope pos) (wCompX ix own.length Wi G We) :=
  (pe_compX (g:=liftG X.K G) (teX:=fun EB=>liftEX X.K EB We) hX hfr hc S hi hg he hix hcapB hs).imp fun _ _ _ h=>compX_lift h
theorem vfx_fz {e:Expr}{W:WX→WF} (h:VFX X Ex e W):VEX X Ex e (fun Wx=>wL (W Wx)):=h.imp fun σ H R xx176=>by
 obtain ⟨M,env,F,Wx,Q,I,h,hx,k⟩:=xx176
 refine ⟨M,env,F,Wx,_,I,h,hx,fun a vs ds F1 H1 e1 I1 s1 h1 h2 h3 h4 h5 h6 h7=>?_⟩
 obtain ⟨J,s⟩:=I1.frz h1 h2 h4 h5
 exact k _ _ _ H1 e1 J (s1.trans s) (is_lst (SqL.of upd_same) (h6.mono s)) h7
theorem vax_one {e:Expr}{W:WX→WE} (h:VEX X Ex e W) (hs:starEach [e] X.env=(false,eval e X.env)::starEach [] X.env:=by rfl):VAX X Ex [e] (fun Wx env Q=>W Wx env fun d e1=>Q [d] e1) :=
 (pa_cons h pa_nil hs).imp fun σ H R xx177=>by obtain ⟨M,env,F,Wx,Q,I,h,hx,k⟩:=xx177;exact ⟨M,env,F,Wx,_,I,h,hx,fun d v F1 H1 e1 I1 s1 i1 h1=>k [d] [v] F1 H1 e1 I1 s1 (iss_cons i1 iss_nil) h1⟩
theorem callx_lift {r:DC}{Wr:WX→WF}{σ:St}{H:Hp}{R:VK} (h:liftEX X.K Ex (fun Wx=>wCall r (Wr Wx)) σ H R):liftAX X.K Ex Wr σ H fun vs H1=>liftC X.K r vs H1 R:=by
 obtain ⟨M,env,F,Wx,Q,I,h,hx,k⟩:=h
 exact ⟨M,env,F,Wx,_,I,h,hx,fun ds vs F1 H1 e1 I1 s1 i1 h1=>⟨F1,ds,_,I1.fh,i1,h1,fun d v F2 H2 g i2 q=>k d v F2 H2 e1 (I1.go g) (s1.trans g.f) i2 q⟩⟩
variable {x:Str}{p pos:Pos}{e:Expr}{es:List Expr}
theorem vex_fnA {k:Nat}{ps:List Str}{sp:DC}{Wr:WX→WF} (O:OkC X x k ps (PSp X.K sp)) (hr:Room k X.A) (ha:VAX X Ex (e::es) Wr) (hg:Gl X x:=by rfl) (hdb:(x==("__debug__" : Str))=false:=by decide)
 (he:starEach (e::es) X.env=(false,eval e X.env)::starEach es X.env:=by rfl) (hpl:(backTo pos (starEach es X.env)).any (·.1)=false:=by rfl):VEX X Ex (.Call (.Name x p) (e::es) [] pos) (fun Wx=>wCall sp (Wr Wx)) :=
 (pe_fn O hr ha hg hdb he hpl).imp fun σ H R h=>by
  have e:tCall (PSp X.K sp) [] E0 (liftAX X.K Ex Wr) σ H R=liftAX X.K Ex Wr σ H fun vs H1=>liftC X.K sp vs H1 R:=by unfold tCall PSp;simp only [List.append_nil]
  rw [e]
  exact callx_lift h
theorem vex_callTy {T:String}{r:DC}{Wr:WX→WF} (hc:CallV X (.type T) r) (hm:X.mg x=none) (hv:bootBuiltins x=some (.type T)) (ha:VAX X Ex (e::es) Wr) (hg:Gl X x:=by rfl) (hn:x ≠ "__name__":=by decide) (hdb:(x==("__debug__" : Str))=false:=by decide)
 (he:starEach (e::es) X.env=(false,eval e X.env)::starEach es X.env:=by rfl) (hpl:(backTo pos (starEach es X.env)).any (·.1)=false:=by rfl):VEX X Ex (.Call (.Name x p) (e::es) [] pos) (fun Wx=>wCall r (Wr Wx)) :=
 (pe_callTy hc hg hm hv ha hn hdb he hpl).imp fun _ _ _ h=>callx_lift h
theorem comp_may {ix:List Nat}{k:Nat}{G:WG}{We:WE}{Q:List PyData→Sto→Prop}{ds:List PyData}{e0:Sto} (f:PyData→PyData→Prop) (hz:ds.length<sizeLine) (Iv:Sto→Prop) (h0:Iv (capE ix k e0))
 (h : ∀ d e (q:PyData→Sto→Prop),d ∈ ds→Iv e→(∀ y e2,f d y→Iv e2→q y e2)→G d e fun e1=>We e1 q) (q : ∀ L,L.length=ds.length→(∀ (i:Nat) d,ds[i]?=some d → ∃ y,L[i]?=some y∧f d y)→Q L e0) :
 ds.length<sizeLine ∧ ∃ P:Nat→List PyData→Sto→Prop,P 0 [] (capE ix k e0)∧(∀ i d ys e,ds[i]?=some d→P i ys e→G d e fun e1=>We e1 fun y e2=>P (i+1) (ys++[y]) e2) ∧ ∀ ys e,P ds.length ys e→Q ys e0:=by
  refine ⟨hz,fun i ys e=>(ys.length=i ∧ ∀ (j:Nat) d,j<i→ds[j]?=some d → ∃ y,ys[j]?=some y∧f d y)∧Iv e,⟨⟨rfl,fun _ _ z=>absurd z (Nat.not_lt_zero _)⟩,h0⟩,fun i d ys e hd hp=>?_,fun ys e hp=>q ys hp.1.1 fun i d hd=>hp.1.2 i d (List.getElem?_eq_some_iff.mp hd).1 hd⟩
  refine h d e _ (List.mem_of_getElem? hd) hp.2 fun y e2 h1 h2=>⟨⟨by simp [hp.1.1],fun j d' hj hd'=>?_⟩,h2⟩
  rcases Nat.lt_or_ge j i with z|z
  ·obtain ⟨y',a,b⟩:=hp.1.2 j d' z hd'
   exact ⟨y',by rw [List.getElem?_append_left (by rw [hp.1.1];exact z)];exact a,b⟩
  ·have:j=i:=by omega
   subst this
   rw [hd] at hd'
   cases hd'
   exact ⟨y,by rw [List.getElem?_append_right (by rw [hp.1.1];exact z),hp.1.1];simp,h1⟩
end
end L2
namespace L2
open PySem PySem.Spec PyProof.Rows Builtin Builtin.Str
theorem gives_str_replace1 (x y z:Str) (t u v w:Tok) (h0:(u==0||v==0)=false) (huv:(u==v)=false) (hyz:(y==z)=false) (hf:(occurrences x y 0 x.length 1).isEmpty=false) (hy:(y.length==0)=false)
 (hl:tooLong (x.length+(occurrences x y 0 x.length 1).length*z.length)=false) :
 Gives («str.replace» ⟨[.str x t,.str y u,.str z v,.int 1 w],[]⟩) (.str (glued z (partsBetween x (occurrences x y 0 x.length 1) y.length))):=by
  show Gives (if ((occurrences x y 0 x.length 1).isEmpty||(y.length==0&&z.length==0))=true then (do rule "str.replace.nothing";ret (.str x t)) else
   (do let same ← isSame (.str y u) (.str z v)
       if same=true then (do rule "str.replace.old-is-new";ret (.str x t)) else
       if tooLong (x.length+(occurrences x y 0 x.length 1).length*z.length)=true then unsupported "str.replace:memory" else
       retStr (glued z (partsBetween x (occurrences x y 0 x.length 1) y.length)))) _
  rw [hf,hy,isSame_str_other y z u v h0 huv hyz,hl]
  exact .of_eq rfl
theorem wp_replace1 {prog:Program}{w:World}{A:Around}{E:Value→Shared→Prop}{s:Shared}{x y z a c:Str}{t u v k:Tok}{Q:Value→Shared→Prop} (hu:u≠0) (hv:v≠0) (huv:u≠v) (hyz:(y==z)=false) (hy:(y.length==0)=false)
 (hp:partS x y=[a,y,c]) (hb:x.length+z.length≤100000) (hl:a.length+z.length+c.length≤100000) (hq : ∀ t' k,Q (.str (a++z++c) t') { s with toks:=k }) :
  wpAny (model prog w) A (call (.builtin "str.replace") [.str x t,.str y u,.str z v,.int 1 k]) Q E s:=by
  have ho : ∃ i r,occurrences x y 0 x.length 1=i::r∧strSub x 0 i=a∧strSub x (i+y.length) x.length=c:=by
   unfold partS at hp
   cases e:occurrences x y 0 x.length 1 with
   | nil =>
    rw [e] at hp
    have h1:Str.empty=y:=by
     injection hp with _ h2
     injection h2
    rw [← h1] at hy
    cases hy
   | cons i r =>
    rw [e] at hp
    injection hp with h1 h2
    injection h2 with h2 h3
    injection h3 with h3 _
    exact ⟨i,r,rfl,h1,h3⟩
  obtain ⟨i,r,eo,e1,e2⟩:=ho
  have rl:r=[]:=by
   have:=StrLaws.occ_length_le x y 0 x.length 1
   rw [eo,List.length_cons] at this
   exact List.length_eq_zero_iff.mp (by omega)
  subst rl
  have eg:glued z (partsBetween x (occurrences x y 0 x.length 1) y.length)=a++z++c:=by
   rw [eo,StrLaws.partsBetween_eq,StrLaws.glued_eq_join]
   show Str.join z [strSub x 0 i,strSub x (i+y.length) x.length]=_
   rw [e1,e2]
   rfl
  refine call_gives F.slot_str_replace (typeIs_str _ _ _) F.entry_str_replace (F.args_str_replace_4 _ _ _ _) (gives_str_replace1 x y z t u v k (by simp [hu,hv]) (by simp [huv]) hyz (by rw [eo];rfl) hy ?_) ?_
  ·rw [eo]
   unfold tooLong sizeLine
   refine decide_eq_false ?_
   have e:(2:Nat)^24=16777216:=by decide
   simp only [List.length_cons,List.length_nil]
   omega
  ·rw [eg]
   refine ⟨?_,hq _ _⟩
   rw [sizeLine_eq]
   have:(a++z++c).length=a.length+z.length+c.length:=by
    show (a.cps++z.cps++c.cps).size=a.cps.size+z.cps.size+c.cps.size
    rw [Array.size_append,Array.size_append]
   omega
end L2
namespace L2
open PySem PySem.Spec PyProof.Rows Builtin Builtin.Str
section
variable {X:Cx}
def PEp (X:Cx) (e:Expr) (t:TE):Prop :=
 ∀ (pins:List (Addr×Obj)) (s:Shared) (σ:St) (H:Hp) (Q:VK),Inv X pins σ H s→0<s.toks→t σ H Q→wpAny (model X.prog X.w) X.A (eval e X.env) (EP X pins σ Q) X.xe s
def PSsP (X:Cx) (st:List Stmt) (t:TS):Prop :=
 ∀ (pins:List (Addr×Obj)) (s:Shared) (σ:St) (H:Hp) (D:Ends),Inv X pins σ H s→0<s.toks→t D σ H→wpAny (model X.prog X.w) X.A (execs st X.env) (SP X pins D) X.xe s
theorem PSs.p {st:List Stmt}{t:TS} (h:PSs X st t):PSsP X st t:=fun pins s σ H D I _=>h pins s σ H D I
theorem pssP_ret {e:Expr}{te:TE}{pos:Pos} (he:PEp X e te):PSsP X [.Return (some e) pos] (tRet te):=by
 intro pins s σ H D I p h
 refine wpAny_execs_cons (wpAny_Return_some (thn (he pins s σ H _ I p h) fun v s1 xx178=>?_))
 obtain ⟨x,H1,I1,r1,q1⟩:=xx178
 exact ⟨x,σ,H1,I1,r1,q1⟩
def tEqC (i:Nat) (c:Int):TT:=fun σ H Q => ∃ n,σ[i]?=some (some (.int n))∧Q (decide (n=c)) H
def tIfP (c:TT) (t u:TS):TS:=fun D σ H=>c σ H fun b H1=>if b=true then t { D with nx:=fun _ _=>False } σ H1 else u D σ H1
theorem pss_ifP {A rest:List Stmt}{t u:TS}{x:Str}{c:Int}{px pc pp pos:Pos}{j:Nat} (i:Nat) (hA:PSsP X A t) (hr:PSsP X rest u) (hN:X.N[i]?=some x:=by rfl) (hv:Vis X.env.scope x:=by first|exact Or.inl rfl|exact Or.inr (Or.inl rfl)|exact Or.inr (Or.inr rfl)) (hd:(x==("__debug__" : Str))=false:=by decide)
 (hcd:(x==("__classdict__" : Str))=false:=by decide):PSs X (.If (.Compare (.Name x px) [.Eq] [.Constant (.int c) j pc] pp) A [] pos::rest) (tIfP (tEqC i c) t u):=by
 intro pins s σ H D I h
 obtain ⟨n,en,h⟩:=h
 have fin : ∀ t1 s1,Inv X pins σ H s1→RelV (.int n) t1→wpAny (model X.prog X.w) X.A (eval (.Constant (.int c) j pc) X.env) (fun u s₂=>wpAny (model X.prog X.w) X.A (compareOp .Eq t1 u) (fun w s₃=>wpAny (model X.prog X.w) X.A (truthy w) (fun b s₄=>0<s₄.toks∧Inv X pins σ H s₄∧b=decide (n=c)) X.xe s₃) X.xe s₂) X.xe s1:=fun t1 s1 I1 r1=>by
  obtain ⟨t,rfl⟩:=r1
  refine wpAny_Constant_int ?_
  refine eq_int ?_
  refine wpAny_truthy_bool ⟨Nat.succ_pos _,I1.tok _,?_⟩
  rw [Bool.eq_iff_iff];simp
 refine wpAny_execs_cons (wpAny_If (thn (wpAny_isTrue_Compare1 (Q:=fun b s₄=>0<s₄.toks∧Inv X pins σ H s₄∧b=decide (n=c)) (thn (pe_var hN hv hd hcd pins s σ H (fun v H1=>v = .int n∧H1=H) I ⟨_,en,rfl,rfl⟩) fun v s1 ⟨x,H1,I1,r1,ex,eh⟩=>?_) (by first|exact nobehind _ (by decide) (by decide)|rfl)) fun b s2 ⟨p,I2,eb⟩=>?_))
 ·subst ex eh
  exact fin v s1 I1 r1
 ·rw [← eb] at h
  cases b with
  | true =>
   exact thn (hA pins s2 σ H { D with nx:=fun _ _=>False } I2 p h) fun f s3 q=>by
    cases f with
    | next =>
     obtain ⟨σ',H',I',q⟩:=q
     exact q.elim
    | ret v=>exact q
    | brk=>exact q
    | cont=>exact q
  | false =>
   refine wpAny_execs_nil ?_
   exact hr pins s2 σ H D I2 p h
def PEf (X:Cx) (e:Expr) (t:TE):Prop :=
 ∀ (pins:List (Addr×Obj)) (s:Shared) (σ:St) (H:Hp) (Q:VK),Inv X pins σ H s→t σ H Q→wpAny (model X.prog X.w) X.A (eval e X.env) (fun v s' => ∃ z tk H',v = .str z tk∧s.toks≤tk∧Inv X pins σ H' s'∧Q (.str z) H') X.xe s
theorem pf_str {x:Str}{j:Nat}{pos:Pos}:PEf X (.Constant (.str x) j pos) (tC (.str x)):=fun _ s _ H _ I h=>Calls.Constant_str ⟨x,_,H,rfl,Nat.le_refl _,I.tok _,h⟩
def PCs (X:Cx) (es:List Expr) (cs:List Str):Prop := ∀ (pos:Pos) (s:Shared) (Q:List Value→Shared→Prop),(∀ us k,us.length=cs.length→(∀ (i:Nat) c,cs[i]?=some c → ∃ t,us[i]?=some (.str c t)∧s.toks≤t)→s.toks≤k→Q us { s with toks:=k })→wpAny (model X.prog X.w) X.A (spliced (backTo pos (starEach es X.env))) Q X.xe s
theorem pc_nil:PCs X [] []:=fun _ s Q h=>Calls.spliced_nil (h [] s.toks rfl (fun i c e=>by simp at e) (Nat.le_refl _))
theorem pc_cons {x:Str}{j:Nat}{p:Pos}{es:List Expr}{cs:List Str} (hr:PCs X es cs) (hs:starEach (.Constant (.str x) j p::es) X.env=(false,eval (.Constant (.str x) j p) X.env)::starEach es X.env:=by rfl):PCs X (.Constant (.str x) j p::es) (x::cs):=by
 intro pos s Q h
 rw [hs]
 show wpAny _ _ (spliced ((false,eval (.Constant (.str x) j p) X.env)::backTo pos (starEach es X.env))) _ _ s
 refine Calls.spliced_cons (Calls.Constant_str ?_)
 refine hr pos _ _ fun us k hl hc hk=>?_
 have hk':s.toks+1≤k:=hk
 refine h (.str x s.toks::us) k (by simp [hl]) (fun i c e=>?_) (by omega)
 cases i with
 | zero =>
  have e':x=c:=Option.some.inj e
  subst e'
  exact ⟨_,rfl,Nat.le_refl _⟩
 | succ i =>
  obtain ⟨t,h1,h2⟩:=hc i c (by simpa using e)
  have h2':s.toks+1≤t:=h2
  exact ⟨t,by simpa using h1,by omega⟩
def tMenu (cs:List Str) (tb:TE):TE:=fun σ H Q=>tb σ H fun y H1 => ∃ (k:Nat) (z:Str),y = .int k∧cs[k]?=some z∧Q (.str z) H1
theorem pf_menu {es:List Expr}{cs:List Str}{b:Expr}{tb:TE}{p1 pos:Pos} (hc:PCs X es cs) (hb:PE X b tb) (hs:PlainIx b) (hl:cs.length≤100:=by decide):PEf X (.Subscript (.List es p1) b pos) (tMenu cs tb):=by
 intro pins s σ H Q I h
 refine Subscript_ (wpAny_List_spliced (hc p1 s _ fun us k0 lu hu hk=>⟨by rw [lu,sizeLine_eq];omega,?_⟩))
 have I0:Inv X pins σ H { s with toks:=k0 }:=I.tok k0
 have I1:Inv X pins σ H { s with toks:=k0,heap:=s.heap.push { cls :=.type "list",data :=.seq us.toArray } }:=I0.kept (t':=k0) fun b o e=>Heap.get?_push_of_some _ e
 have hf:H s.heap.objs.size=none:=I.hok.fresh (Nat.le_refl _)
 obtain ⟨f0,f1,f2,_⟩:=I0.fpOk (H':=H) (Nat.le_refl _) hf
 have Ip:Inv X (pins++[(s.heap.objs.size,{ cls :=.type "list",data :=.seq us.toArray })]) σ H { s with toks:=k0,heap:=s.heap.push { cls :=.type "list",data :=.seq us.toArray } }:=I1.pins_of fun p hp=>(List.mem_append.mp hp).elim (fun z=>I1.pin p (List.mem_append_right _ z)) fun z=>by
  rw [List.mem_singleton.mp z]
  exact ⟨Heap.get?_push_size _ rfl,f0,f1,f2,fun v e=>by cases e⟩
 refine thn (hb _ _ σ H _ Ip h) fun u s2 xx181=>?_
 obtain ⟨y,H2,I2,ry,k,z,ey,ez,q⟩:=xx181
 subst ey
 obtain ⟨t,rfl⟩:=ry
 obtain ⟨tz,e1,e2⟩:=hu k z ez
 have hp2:=(I2.pin (s.heap.objs.size,{ cls :=.type "list",data :=.seq us.toArray }) (by simp)).1
 have hk':=(List.getElem?_eq_some_iff.mp ez).1
 exact item_listR (items:=us.toArray) ⟨_,hp2,rfl,_,rfl⟩ (by omega) (by omega) (by simpa using e1) ⟨z,tz,H2,rfl,e2,I2.unpinned,q⟩ (hs _ _)
def tRep1 (y:Str) (i:Nat) (t2:TE):TE:=fun σ H Q => ∃ x,σ[i]?=some (some (.str x))∧t2 σ H fun w H2 => ∃ z a c,w = .str z∧((y==z)=false∧(y.length==0)=false∧partS x y=[a,y,c]∧x.length+z.length≤100000∧a.length+z.length+c.length≤100000)∧Q (.str (a++z++c)) H2
theorem pp_rep1 {e2:Expr}{t2:TE}{x y:Str}{j j2:Nat}{px p1 p2 apos cpos:Pos} (i:Nat) (he:PEf X e2 t2) (hN:X.N[i]?=some x:=by rfl) (hv:Vis X.env.scope x:=by first|exact Or.inl rfl|exact Or.inr (Or.inl rfl)|exact Or.inr (Or.inr rfl)) (hd:(x==("__debug__" : Str))=false:=by decide)
 (hcd:(x==("__classdict__" : Str))=false:=by decide) (hbase:attributeBase (.Name x px) "replace" X.env (eval (.Name x px) X.env)=eval (.Name x px) X.env:=by rfl)
 (hfew:((backTo cpos (starEach [.Constant (.str y) j p1,e2,.Constant (.int 1) j2 p2] X.env)).all (fun x => !x.1)&&(backToKw cpos (keywordEach [] X.env)).all (fun x=>x.1.isSome)&&decide ([Expr.Constant (.str y) j p1,e2,.Constant (.int 1) j2 p2].length+([]:List Keyword).length+(if ([]:List Keyword).isEmpty then 0 else 1)<30))=true:=by rfl)
 (hline:(apos.endLine==cpos.line)=true:=by rfl) (hst:starEach [.Constant (.str y) j p1,e2,.Constant (.int 1) j2 p2] X.env=[(false,eval (.Constant (.str y) j p1) X.env),(false,eval e2 X.env),(false,eval (.Constant (.int 1) j2 p2) X.env)]:=by rfl) :
 PEp X (.Call (.Attribute (.Name x px) "replace" apos) [.Constant (.str y) j p1,e2,.Constant (.int 1) j2 p2] [] cpos) (tRep1 y i t2):=by
 intro pins s σ H Q I hp h
 obtain ⟨xt,ex,h⟩:=h
 have key : ∀ u,RelV (.str xt) u→MethodOn X.prog X.w X.A "replace" cpos u (backTo cpos (starEach [.Constant (.str y) j p1,e2,.Constant (.int 1) j2 p2] X.env)) (EP X pins σ Q) X.xe s:=fun u ru=>by
  obtain ⟨t,rfl⟩:=ru
  refine ⟨"str","str.replace",F.plainAttrs_str,F.slot_str_replace,F.type_str_replace,typeIs_str _ _ _,(fun a e=>by cases e),?_⟩
  rw [hst]
  refine Calls.callWith_builtin rfl (Calls.evalArgs_plain ?_)
  show wpAny _ _ (spliced [(false,eval (.Constant (.str y) j p1) X.env),(false,eval e2 X.env),(false,eval (.Constant (.int 1) j2 p2) X.env)]) _ _ s
  refine Calls.spliced_cons (Calls.Constant_str ?_)
  refine Calls.spliced_cons (thn (he pins _ σ H _ (I.tok _) h) fun v s2 xx182=>?_)
  obtain ⟨zz,tk,H2,ev,htk,I2,z,a,c,ez,⟨h1,h2,h3,h5,h6⟩,q⟩:=xx182
  have ez':zz=z:=by cases ez;rfl
  subst ez' ev
  have htk':s.toks+1≤tk:=htk
  refine Calls.spliced_cons (wpAny_Constant_int (Calls.spliced_nil ?_))
  exact wp_replace1 (u:=s.toks) (v:=tk) (Nat.ne_of_gt hp) (Nat.ne_of_gt (Nat.lt_of_lt_of_le (Nat.succ_pos _) htk')) (Nat.ne_of_lt htk') h1 h2 h3 h5 h6 fun t' k=>⟨.str _,H2,I2.tok _,⟨_,rfl⟩,q⟩
 refine wpAny_Call_method_late hbase hfew hline rfl ?_
 obtain ⟨m,hn,hl⟩:=I.loc
 obtain ⟨u,r,l⟩:=hl i x _ hN ex hv
 rcases l with ⟨hk,hm⟩|⟨hk,c,hc,hcell⟩
 ·exact wpAny_Name (wpAny_loadName_local I.ok.kind hk hn hm (key u r)) hd
 ·rcases hk with hk|hk
  ·exact wpAny_Name (wpAny_loadName_cell I.ok.kind hk hc hcell (key u r)) hd
  ·exact wpAny_Name (wpAny_loadName_free I.ok.kind hk hc hcell (key u r) hcd) hd
end
end L2
namespace L2
open PySem PySem.Spec PyProof.Rows
structure FN (H0 F:Hp) (ra:Addr) (as:List Addr) (L:List (List Str)):Prop where
 h:F ra=some (.lst (as.map V.ref))
 n:H0 ra=none
 l:as.length=L.length
 e : ∀ (k:Nat) a r,as[k]?=some a→L[k]?=some r→F a=some (.lst (r.map V.str))∧H0 a=none
 ne:ra ∉ as
 nd : ∀ (i j:Nat) a,as[i]?=some a→as[j]?=some a→i=j
section
variable {H0 F F':Hp}{ra:Addr}{as:List Addr}{L:List (List Str)}
theorem FN.mono (o:FN H0 F ra as L) (s:Same F F'):FN H0 F' ra as L:=⟨s.at o.h,o.n,o.l,fun k a r h1 h2=>⟨s.at (o.e k a r h1 h2).1,(o.e k a r h1 h2).2⟩,o.ne,o.nd⟩
theorem iss_fn {K:PySem.W.Frag}{F:Hp} : ∀ {as:List Addr}{L:List (List Str)},as.length=L.length→(∀ (k:Nat) a r,as[k]?=some a→L[k]?=some r→F a=some (.lst (r.map V.str)))→Iss K F (L.map fun r => .list (r.map .str)) (as.map V.ref)
 | [],[],_,_=>iss_nil
 | [],_::_,h,_=>by cases h
 | _::_,[],h,_=>by cases h
 | a::as,r::L,h,k=>iss_cons (is_lst (SqL.of (k 0 a r rfl rfl)) (iss_strs r)) (iss_fn (Nat.succ.inj h) fun i b s h1 h2=>k (i+1) b s (by simpa using h1) (by simpa using h2))
theorem FN.is {K:PySem.W.Frag} (o:FN H0 F ra as L):Is K F (.list (L.map fun r => .list (r.map .str))) (.ref ra):=is_lst (SqL.of o.h) (iss_fn o.l fun k a r h1 h2=>(o.e k a r h1 h2).1)
theorem FN.put {a:Addr}{k:Nat}{r:List Str} (o:FN H0 F ra as L) (ha:as[k]?=some a):FN H0 (upd F a (.lst (r.map V.str))) ra as (L.set k r) where
 h:=by
  rw [upd_ne]
  ·exact o.h
  ·intro z;subst z;exact o.ne (List.mem_of_getElem? ha)
 n:=o.n
 l:=by rw [List.length_set];exact o.l
 e:=fun i c s g1 g2=>by
  have hk:=(List.getElem?_eq_some_iff.mp g1).1
  rw [List.getElem?_set] at g2
  by_cases hki:k=i
  ·subst hki
   rw [if_pos rfl] at g2
   rw [ha] at g1
   have e2:=Option.some.inj g1
   subst e2
   have q:=o.e k a (L[k]'(by rw [← o.l];exact hk)) ha (List.getElem?_eq_getElem _)
   split at g2
   ·have e1:=Option.some.inj g2
    subst e1
    exact ⟨upd_same,q.2⟩
   ·cases g2
  ·rw [if_neg hki] at g2
   have q:=o.e i c s g1 g2
   exact ⟨by rw [upd_ne (fun z=>by subst z;exact hki (o.nd k i _ ha g1))];exact q.1,q.2⟩
 ne:=o.ne
 nd:=o.nd
theorem FN.swap {p:Addr}{k:Nat}{r:List Str} (o:FN H0 F ra as L) (hp:F p=none) (np:H0 p=none):FN H0 (upd (upd F p (.lst (r.map V.str))) ra (.lst ((as.map V.ref).set k (.ref p)))) ra (as.set k p) (L.set k r) where
 h:=by rw [upd_same,List.map_set]
 n:=o.n
 l:=by rw [List.length_set,List.length_set];exact o.l
 e:=fun i c s g1 g2=>by
  have pr:p≠ra:=fun z=>by rw [z,o.h] at hp;cases hp
  rw [List.getElem?_set] at g1 g2
  by_cases hki:k=i
  ·rw [if_pos hki] at g1 g2
   split at g1
   ·split at g2
    ·have e1:=Option.some.inj g1
     have e2:=Option.some.inj g2
     subst e1 e2
     exact ⟨by rw [upd_ne pr,upd_same],np⟩
    ·cases g2
   ·cases g1
  ·rw [if_neg hki] at g1 g2
   have q:=o.e i c s g1 g2
   have h1:c≠ra:=fun z=>o.ne (z ▸ List.mem_of_getElem? g1)
   have h2:c≠p:=fun z=>by rw [z,hp] at q;cases q.1
   exact ⟨by rw [upd_ne h1,upd_ne h2];exact q.1,q.2⟩
 ne:=fun z=>by
  have pr:p≠ra:=fun z=>by rw [z,o.h] at hp;cases hp
  rcases List.mem_or_eq_of_mem_set z with h|h
  ·exact o.ne h
  ·exact pr h.symm
 nd:=fun i j a g1 g2=>by
  have out : ∀ {m:Nat},as[m]?≠some p:=fun {m} z=>by
   have hk:=(List.getElem?_eq_some_iff.mp z).1
   have q:=o.e m p (L[m]'(by rw [← o.l];exact hk)) z (List.getElem?_eq_getElem _)
   rw [hp] at q;cases q.1
  rw [List.getElem?_set] at g1 g2
  by_cases h1:k=i
  ·by_cases h2:k=j
   ·omega
   ·rw [if_pos h1] at g1
    rw [if_neg h2] at g2
    split at g1
    ·rw [← Option.some.inj g1] at g2;exact (out g2).elim
    ·cases g1
  ·by_cases h2:k=j
   ·rw [if_neg h1] at g1
    rw [if_pos h2] at g2
    split at g2
    ·rw [← Option.some.inj g2] at g1;exact (out g1).elim
    ·cases g2
   ·rw [if_neg h1] at g1
    rw [if_neg h2] at g2
    exact o.nd i j a g1 g2
theorem Go.redo {F0 H:Hp}{a:Addr}{o:HO} (g:Go F0 H0 F H) (s:Same F0 H0) (n:H0 a=none):Go F0 H0 (upd F a o) (upd H a o) where
 f:=fun b u e=>by rw [upd_ne (ne_of_none e (same_none s n))];exact g.f b u e
 h:=fun b u e=>by rw [upd_ne (ne_of_none e n)];exact g.h b u e
 fh:=fun b u e=>by
  unfold upd at e ⊢
  split at e
  ·rename_i z;rw [if_pos z];exact .of e
  ·rename_i z;rw [if_neg z];exact g.fh b u e
 new:=fun b u e=>by
  by_cases z:b=a
  ·subst z;exact .inr n
  ·rw [upd_ne z] at e;exact g.new b u e
end
theorem comp_fn {K:PySem.W.Frag}{Wi:WF}{te:TE}{σ:St}{H F F0 H0:Hp}{env:Sto}{L0:List Str}{Z:List (List Str)}{R:VK} (I:EnvOk K ⟨H,H,F⟩ F H env σ) (hW:Wi env fun ds e=>ds=L0.map .str) (hz:L0.length<sizeLine) (lz:Z.length=L0.length)
 (he : ∀ (k:Nat) x z H Q,L0[k]?=some x→Z[k]?=some z→(∀ l,H l=none→Q (.ref l) (upd H l (.lst (z.map .str))))→te [some (.str x)] H Q) (g0:Go F0 H0 F H) (k : ∀ F' H' ra as,Go F0 H0 F' H'→FN H0 F' ra as Z→R (.ref ra) H'):tComp [] 1 (liftI K Wi) (gName 0) te σ H R:=by
  refine ⟨⟨H,H,F⟩,env,F,_,I,hW,fun ds J F1 H1 e1 I1 s1 jt q=>?_⟩
  have q:ds=L0.map .str:=q
  subst q
  refine ⟨fun i m ys σ1 H2=>m=L0.length-i∧i≤L0.length ∧ ∃ (as:List Addr) (F2:Hp) (x:Option V),σ1=[x]∧ys=as.map V.ref∧as.length=i∧Same F1 F2∧Go F0 H0 F2 H2∧(∀ (k:Nat) a z,as[k]?=some a→Z[k]?=some z→F2 a=some (.lst (z.map V.str))∧H0 a=none) ∧ ∀ (i j:Nat) a,as[i]?=some a→as[j]?=some a→i=j,⟨L0.length,by simp,Nat.zero_le _,[],F1,none,rfl,rfl,rfl,.refl _,g0.trans I1.goOf,fun k a z h=>(by simp at h),fun i j a z=>by simp at z⟩,?_⟩
  rintro i m ys σ1 H2 ⟨hm,hi,as,F2,x,rfl,rfl,la,s2,g,ho,nd⟩
  have own : ∀ a ∈ as,∃ z,F2 a=some (.lst z):=fun a ha=>by
   obtain ⟨k,hk⟩:=List.getElem?_of_mem ha
   have hl:=(List.getElem?_eq_some_iff.mp hk).1
   exact ⟨_,(ho k a _ hk (List.getElem?_eq_getElem (by omega))).1⟩
  have out : ∀ {p:Addr}{H:Hp},Same F2 H→H p=none→p ∉ as:=fun {p H} s hp z=>by
   obtain ⟨_,q⟩:=own p z
   rw [same_none s hp] at q;cases q
  by_cases hl:i=L0.length
  ·subst hl
   refine .inl ⟨by have:=jt.stop H2 (s2.trans g.fh);rwa [List.length_map] at this,by rw [List.length_map];omega,fun p hp=>?_⟩
   have pn:p ∉ as:=out g.fh hp
   refine k _ _ p as (g.trans (Go.put g.fh hp)) ⟨upd_same,same_none g.h hp,by omega,fun k a r h1 h2=>?_,pn,nd⟩
   have q:=ho k a r h1 h2
   exact ⟨by rw [upd_ne (fun y=>by subst y;exact pn (List.mem_of_getElem? h1))];exact q.1,q.2⟩
  ·have hlt:i<L0.length:=by omega
   have ez:Z[i]?=some (Z[i]'(by omega)):=List.getElem?_eq_getElem _
   have hlt':i<(L0.map PyData.str).length:=by rw [List.length_map];exact hlt
   refine .inr ⟨jt.go i H2 (s2.trans g.fh) hlt',by rw [List.length_map];omega,fun y σ2 H5 => ∃ (b:Addr) (F5:Hp) (x:Option V),y = .ref b∧σ2=[x]∧Same F2 F5∧Go F0 H0 F5 H5∧F5 b=some (.lst ((Z[i]'(by omega)).map V.str))∧H0 b=none∧b ∉ as,?_,fun x H3 hy=>?_⟩
   ·rintro y σ2 H5 ⟨b,F5,x',rfl,rfl,s5,g5,ob,nb,bn⟩
    have key : ∀ {a:Addr}{i:Nat},(as++[b])[i]?=some a→(i<as.length∧as[i]?=some a)∨(i=as.length∧a=b):=fun {a i} g=>by
     by_cases hi:i<as.length
     ·rw [List.getElem?_append_left hi] at g;exact .inl ⟨hi,g⟩
     ·rw [List.getElem?_append_right (by omega)] at g
      cases hkk:i-as.length with
      | zero=>rw [hkk] at g;exact .inr ⟨by omega,(Option.some.inj g).symm⟩
      | succ m=>rw [hkk] at g;simp at g
    refine ⟨L0.length-(i+1),by omega,rfl,hlt,as++[b],F5,x',rfl,by rw [List.map_append];rfl,by simp [la],s2.trans s5,g5,fun k a z g1 g2=>?_,fun i' j' a g1 g2=>?_⟩
    ·rcases key g1 with ⟨a1,a2⟩|⟨a1,a2⟩
     ·exact ⟨s5.at (ho k a z a2 g2).1,(ho k a z a2 g2).2⟩
     ·subst a2
      rw [a1,la,ez] at g2
      rw [← Option.some.inj g2];exact ⟨ob,nb⟩
    ·rcases key g1 with ⟨a1,a2⟩|⟨a1,a2⟩
     ·rcases key g2 with ⟨b1,b2⟩|⟨b1,b2⟩
      ·exact nd i' j' a a2 b2
      ·subst b2;exact (bn (List.mem_of_getElem? a2)).elim
     ·rcases key g2 with ⟨b1,b2⟩|⟨b1,b2⟩
      ·subst a2;exact (bn (List.mem_of_getElem? b2)).elim
      ·omega
   obtain ⟨d,F3,hd,g3,j⟩:=jt.yld i H2 x H3 F2 s2 g.fh hlt' hy
   have g03:=g.trans g3
   rw [List.getElem?_map,List.getElem?_eq_getElem hlt] at hd
   have ed:=Option.some.inj hd
   subst ed
   obtain rfl:=strInv j
   show te [some (.str L0[i])] H3 _
   refine he i _ _ H3 _ (List.getElem?_eq_getElem hlt) ez fun l hl=>?_
   have gp:=Go.put (o:=HO.lst ((Z[i]'(by omega)).map V.str)) g3.fh hl
   exact ⟨l,_,_,rfl,rfl,g3.f.trans gp.f,g03.trans gp,upd_same,same_none g03.h hl,out (g3.f.trans g3.fh) hl⟩
theorem asg_fn {K:PySem.W.Frag}{Wi:WF}{te:TE}{σ:St}{H F F0 H0:Hp}{env:Sto}{L0:List Str}{Z:List (List Str)}{D:Ends}{u:TS}{i n:Nat} (hn:n=1) (I:EnvOk K ⟨H,H,F⟩ F H env σ) (hW:Wi env fun ds e=>ds=L0.map .str) (hz:L0.length<sizeLine) (lz:Z.length=L0.length)
 (he : ∀ (k:Nat) x z H Q,L0[k]?=some x→Z[k]?=some z→(∀ l,H l=none→Q (.ref l) (upd H l (.lst (z.map .str))))→te [some (.str x)] H Q) (g0:Go F0 H0 F H) (k : ∀ F' H' ra as,Go F0 H0 F' H'→FN H0 F' ra as Z→u D (σ.set i (some (.ref ra))) H'):tSeq (tAsg (tComp [] n (liftI K Wi) (gName 0) te) (gName i)) u D σ H:=by
  subst hn
  exact comp_fn (R:=fun v H1=>gName i v σ H1 (u D)) I hW hz lz he g0 k
section
variable {X:Cx}
theorem pe_fn0 {x:Str}{k:Nat}{ps:List Str}{sp:Sp}{p pos:Pos} (O:OkC X x k ps sp) (hr:Room k X.A) (hg:Gl X x:=by rfl) (hdb:(x==("__debug__" : Str))=false:=by decide):PE X (.Call (.Name x p) [] [] pos) (tCall sp [] E0 tNil):=by
 obtain ⟨sp0,⟨f,fd,F,hm,hk,hb⟩,up⟩:=O.ex
 intro pins s σ H Q I h
 refine wpAny_Call_Name_kw (ld_glob I hg hm ?_ hdb)
 exact PySem.W.callWith_K0 I.kIn hk (run_fn (us:=[]) F hr hb .nil pass0 I .nil (up _ _ _ _ _ _ _ I h))
theorem ve_fn0 {x:Str}{k:Nat}{ps:List Str}{sp:DC}{p pos:Pos} (O:OkC X x k ps (PSp X.K sp)) (hr:Room k X.A) (hg:Gl X x:=by rfl) (hdb:(x==("__debug__" : Str))=false:=by decide):VE X (.Call (.Name x p) [] [] pos) (fun env Q=>sp [] fun d=>Q d env) :=
 (pe_fn0 O hr hg hdb).imp fun σ H R xx183=>by
  obtain ⟨M,env,F,Q,I,h,k⟩:=xx183
  show liftC X.K sp ([]++[]) H R
  exact ⟨F,[],_,I.fh,iss_nil,h,fun d v F' H' g j q=>k d v F' H' env (I.go g) g.f j q⟩
theorem ps_compR {elt target iter:Expr}{scope:Scope}{caps own:List Str}{ix:List Nat}{pos py spos:Pos}{i:Nat}{y:Str}{Wi:WF}{te:TE}{g:TG} (hN:X.N.Nodup) (hc:X.calm=true) (S:CompScope X.env scope caps) (hi:VI X target iter Wi) (hg : ∀ pins s3 H ex,PG (blk X pins scope (caps++own) s3 H ex) target g) (he : ∀ pins s3 H ex,PE (blk X pins scope (caps++own) s3 H ex) elt te)
 (hiy:X.N[i]?=some y:=by rfl) (hy:X.env.scope.names.lookup y=some .local:=by rfl) (hsw:swapsWith (.ListComp elt [⟨target,iter,[],0⟩] scope pos) (some (.Name y py)) spos.line X.env=pure true:=by rfl)
  (hix:caps.length=ix.length:=by rfl) (hcapB:(caps.zip ix).all (fun p=>X.N[p.2]?==some p.1)=true:=by rfl) (hs : ∀ x,foldedSetIterable iter X.env x=pure x:=by intro _;rfl) :
  PS X (.Assign [.Name y py] (.ListComp elt [⟨target,iter,[],0⟩] scope pos) spos) (tAsg (tComp ix own.length (liftI X.K Wi) g te) (gName i)) :=
  ps_comp (wi:=liftI X.K Wi) (g:=g) (te:=te) hN hiy hy hsw hc S hi hg he hix hcapB hs
end
theorem lift_ret {K:PySem.W.Frag}{W:WS}{D:Ends}{σ:St}{F0 H0 F H:Hp}{env:Sto}{q:PyData→Prop} (g:Go F0 H0 F H) (I:EnvOk K ⟨H,H,F⟩ F H env σ) (hW:W { nx:=fun _=>False,rt:=fun r _=>q r.data } env)
 (kk : ∀ d v F' H',Go F0 H0 F' H'→Is K F' d v→q d→D.rt v H'):liftS K W D σ H :=
 ⟨_,env,F,_,I,hW,⟨fun _ _ _ _ _ _ q=>q.elim,fun r v e1 F1 H1 σ1 I1 s1 r1 q1=>by
  obtain ⟨F2,g2,j⟩:=r1.is I1
  exact kk _ _ F2 H1 (g.trans g2) j q1,fun _ _ _ _ _ _ q=>q.elim,fun _ _ _ _ _ _ q=>q.elim⟩⟩
theorem lift_two {K:PySem.W.Frag}{W:WS}{D:Ends}{σ:St}{F0 H0 F H:Hp}{env:Sto}{q:PyData→Prop} (P:Sto→Prop) (g:Go F0 H0 F H) (I:EnvOk K ⟨H,H,F⟩ F H env σ) (hW:W { nx:=P,rt:=fun r _=>q r.data } env)
 (kk : ∀ d v F' H',Go F0 H0 F' H'→Is K F' d v→q d→D.rt v H') (k : ∀ env' F' H' σ',EnvOk K ⟨H,H,F⟩ F' H' env' σ'→Same F F'→P env'→D.nx σ' H'):liftS K W D σ H :=
 ⟨_,env,F,_,I,hW,⟨k,fun r v e1 F1 H1 σ1 I1 s1 r1 q1=>by
  obtain ⟨F2,g2,j⟩:=r1.is I1
  exact kk _ _ F2 H1 (g.trans g2) j q1,fun _ _ _ _ _ _ q=>q.elim,fun _ _ _ _ _ _ q=>q.elim⟩⟩
end L2
namespace My
open PySem L2
seal VE VF VA VT VW VS VSs VG VGs VI VO OpV CallV CallVF VN VFN VST VSsT VEX VSX VSsX
def top (i:Nat):Stmt:=PySem.Challenge.pw_dullglass_k52_texts_of_no_glasses.main.body.getD i (.Pass ⟨0,0,0,0⟩)
abbrev s__law_cell:Stmt:=top 47
abbrev s__law_drawn:Stmt:=top 48
abbrev s__law_glass:Stmt:=top 49
abbrev s__law_divisor:Stmt:=top 50
abbrev s__law_share_text:Stmt:=top 51
abbrev s__law_text:Stmt:=top 52
abbrev s__law_bad_words:Stmt:=top 53
abbrev s__law_spoiled:Stmt:=top 54
abbrev s_is_whole:Stmt:=top 13
abbrev s_makes_row:Stmt:=top 24
abbrev s_makes_table:Stmt:=top 23
abbrev s_divisor:Stmt:=top 14
abbrev s_common_divisor:Stmt:=top 26
abbrev s_is_table:Stmt:=top 25
abbrev s_is_glass:Stmt:=top 21
abbrev s_over_bottom:Stmt:=top 28
abbrev s_table_of_shares:Stmt:=top 27
abbrev s_words_in_rows:Stmt:=top 40
abbrev s_reduced:Stmt:=top 16
abbrev s_share:Stmt:=top 15
abbrev s_show_share:Stmt:=top 36
abbrev s_is_made_of:Stmt:=top 43
abbrev s_is_number:Stmt:=top 42
abbrev s_read_share:Stmt:=top 41
abbrev s_read_table:Stmt:=top 39
abbrev s_read_glass:Stmt:=top 37
abbrev s_is_dulling:Stmt:=top 22
abbrev s_read_dulling:Stmt:=top 38
abbrev s_read_payoff:Stmt:=top 45
abbrev s_read_payoffs:Stmt:=top 44
abbrev s__law_marks:Stmt:=top 55
abbrev s__law_bad_payoffs:Stmt:=top 56
abbrev s_law:Stmt:=top 57
theorem sc0 {N P:List Str}{sc:Scope} (a:sc.kind = .function:=by rfl) (b:sc.isCoroutine=false:=by rfl) (c:sc.isGenerator=false:=by rfl) (d:N.Nodup:=by decide +kernel) (e:N.take P.length=P:=by rfl) (f : ∀ x ∈ P,sc.names.lookup x=some .local∨sc.names.lookup x=some .cell:=by decide +kernel) (g : ∀ y ∈ sc.names,y.2 ≠ .free:=by decide +kernel):FnScope N P sc:=⟨a,b,c,d,e,f,g⟩
theorem pv {X:Cx} (i:Nat) {x:Str}{pos:Pos} (hN:X.N[i]?=some x:=by rfl) (hv:Vis X.env.scope x:=by first|exact Or.inl rfl|exact Or.inr (Or.inl rfl)|exact Or.inr (Or.inr rfl)) (hd:(x==("__debug__" : Str))=false:=by decide) (hc:(x==("__classdict__" : Str))=false:=by decide):PE X (.Name x pos) (tVar i):=pe_var hN hv hd hc
structure Cs where
 Full:Addr
 GlassError:Addr
 NoBeliefs:Addr
 NoDulling:Addr
 NoFit:Addr
 NoGlass:Addr
 NoName:Addr
 NoRow:Addr
 NoShare:Addr
 NoText:Addr
 TooMany:Addr
structure Txt (K:PySem.W.Frag) (mg:Str→Option Value) (cs:Cs):Prop where
 Full_:mg "Full" = some (.ref cs.Full)
 GlassError_:mg "GlassError" = some (.ref cs.GlassError)
 NoBeliefs_:mg "NoBeliefs" = some (.ref cs.NoBeliefs)
 NoDulling_:mg "NoDulling" = some (.ref cs.NoDulling)
 NoFit_:mg "NoFit" = some (.ref cs.NoFit)
 NoGlass_:mg "NoGlass" = some (.ref cs.NoGlass)
 NoName_:mg "NoName" = some (.ref cs.NoName)
 NoRow_:mg "NoRow" = some (.ref cs.NoRow)
 NoShare_:mg "NoShare" = some (.ref cs.NoShare)
 NoText_:mg "NoText" = some (.ref cs.NoText)
 TooMany_:mg "TooMany" = some (.ref cs.TooMany)
 GlassError_e:PySem.W.excIn K cs.GlassError bmVE "ValueError.__new__" = true
 NoText_e:PySem.W.excIn K cs.NoText bmVE "ValueError.__new__" = true
 NoText_x:XCls K cs.NoText
 u_NoText_GlassError:Under K cs.NoText cs.GlassError
 k_NoText_Full_NoBeliefs_NoDulling_NoFit_NoGlass_NoName_NoRow_NoShare_TooMany:PySem.W.kitAny K (.ref cs.NoText) [.ref cs.Full,.ref cs.NoBeliefs,.ref cs.NoDulling,.ref cs.NoFit,.ref cs.NoGlass,.ref cs.NoName,.ref cs.NoRow,.ref cs.NoShare,.ref cs.TooMany]=some false
 k_NoText_ValueError:PySem.W.kitOne K (.ref cs.NoText) (.type "ValueError")=some true
 k_NoText_NoText:PySem.W.kitOne K (.ref cs.NoText) (.ref cs.NoText)=some true
 ValueError_:mg "ValueError" = none
 abs_:mg "abs" = none
 all_:mg "all" = none
 bool_:mg "bool" = none
 int_:mg "int" = none
 isinstance_:mg "isinstance" = none
 len_:mg "len" = none
 list_:mg "list" = none
 range_:mg "range" = none
 sorted_:mg "sorted" = none
 str_:mg "str" = none
 sum_:mg "sum" = none
 tuple_:mg "tuple" = none
 FEWEST_STANDS_ : ∃ t,mg "FEWEST_STANDS" = some (.int 2 t)
 FIGURES_ : ∃ t,mg "FIGURES" = some (.str "0123456789" t)
 MOST_ACTS_ : ∃ t,mg "MOST_ACTS" = some (.int 12 t)
 MOST_BOTTOM_ : ∃ t,mg "MOST_BOTTOM" = some (.int 999999 t)
 MOST_FIGURES_ : ∃ t,mg "MOST_FIGURES" = some (.int 6 t)
 MOST_PAYOFF_ : ∃ t,mg "MOST_PAYOFF" = some (.int 1000000 t)
 MOST_PAYOFF_FIGURES_ : ∃ t,mg "MOST_PAYOFF_FIGURES" = some (.int 7 t)
 MOST_SIGNS_ : ∃ t,mg "MOST_SIGNS" = some (.int 12 t)
 MOST_STANDS_ : ∃ t,mg "MOST_STANDS" = some (.int 4 t)
section
variable {P:Program}{w:World}{K:PySem.W.Frag}{mg:Str→Option Value}{base:Heap}{cs:Cs}
theorem gcd_turn {a b:Int}{g:Nat} (h0:0≤a) (hb:0≤b) (h1:b≠0) (h:Nat.gcd a.toNat b.toNat=g) :
 0≤a%b∧a%b<b∧Nat.gcd b.toNat (a%b).toNat=g:=by
  have hp:0<b:=by omega
  have e1:=Int.emod_nonneg a h1
  have e2:=Int.emod_lt_of_pos a hp
  refine ⟨e1,e2,?_⟩
  have e3:(a%b).toNat=a.toNat%b.toNat:=by
   have:((a.toNat%b.toNat:Nat):Int)=a%b:=by
    rw [Int.natCast_emod,Int.toNat_of_nonneg h0,Int.toNat_of_nonneg hb]
   rw [← this];rfl
  rw [e3,← h,Nat.gcd_comm b.toNat,Nat.gcd_comm a.toNat]
  exact (Nat.gcd_rec _ _).symm
theorem gcd_end {a:Int}{b:Int}{g:Nat} (h0:0≤a) (h1:b=0) (h:Nat.gcd a.toNat b.toNat=g):a=(g:Int):=by
 subst h1
 rw [← h]
 have:Nat.gcd a.toNat (Int.toNat 0)=a.toNat:=Nat.gcd_zero_right _
 rw [this];omega
theorem gcd_start (a b:Int):Nat.gcd (if a<0 then -a else a).toNat (if b<0 then -b else b).toNat=Int.gcd a b:=by
 have e : ∀ x:Int,(if x<0 then -x else x).toNat=x.natAbs:=fun x=>by split <;> omega
 rw [e,e];rfl
structure Shr (p q:Int):Prop where
 pos:1≤q
 gcd:Int.gcd p q=1
def cm (t b:Int):Int:=if b<0 then -(Int.gcd t b:Int) else (Int.gcd t b:Int)
def shT (t b:Int):Int:=t.fdiv (cm t b)
def shB (t b:Int):Int:=b.fdiv (cm t b)
theorem gcd_pos {t b:Int} (hb:b≠0):0<Int.gcd t b:=Int.gcd_pos_of_ne_zero_right t hb
theorem cm_ne {t b:Int} (hb:b≠0):cm t b≠0:=by
 have:=gcd_pos (t:=t) hb
 unfold cm;split <;> omega
theorem cm_dvd_t (t b:Int):cm t b∣t:=by
 have h:(Int.gcd t b:Int)∣t:=Int.gcd_dvd_left ..
 unfold cm;split
 ·exact Int.neg_dvd.mpr h
 ·exact h
theorem cm_dvd_b (t b:Int):cm t b∣b:=by
 have h:(Int.gcd t b:Int)∣b:=Int.gcd_dvd_right ..
 unfold cm;split
 ·exact Int.neg_dvd.mpr h
 ·exact h
theorem fdiv_of_dvd {c t:Int} (h:c∣t):c*(t.fdiv c)=t:=Int.mul_fdiv_cancel' h
theorem shT_mul (t b:Int):cm t b*shT t b=t:=fdiv_of_dvd (cm_dvd_t t b)
theorem shB_mul (t b:Int):cm t b*shB t b=b:=fdiv_of_dvd (cm_dvd_b t b)
theorem natAbs_cm (t b:Int):(cm t b).natAbs=Int.gcd t b:=by unfold cm;split <;> omega
theorem sh_ok {t b:Int} (hb:b≠0):Shr (shT t b) (shB t b)∧shT t b*b=t*shB t b:=by
 have h1:=shT_mul t b
 have h2:=shB_mul t b
 have hc:=cm_ne (t:=t) hb
 have hg:=gcd_pos (t:=t) hb
 refine ⟨⟨?_,?_⟩,?_⟩
 ·by_cases hn:b<0
  ·have hcn:cm t b<0:=by unfold cm;rw [if_pos hn];omega
   have:0<shB t b:=by
    rcases Int.lt_or_le 0 (shB t b) with h|h
    ·exact h
    ·have:=Int.mul_nonneg_of_nonpos_of_nonpos (Int.le_of_lt hcn) h
     omega
   omega
  ·have hcn:0<cm t b:=by unfold cm;rw [if_neg hn];omega
   have hbp:0<b:=by omega
   have:0<shB t b:=by
    rcases Int.lt_or_le 0 (shB t b) with h|h
    ·exact h
    ·have:=Int.mul_nonpos_of_nonneg_of_nonpos (Int.le_of_lt hcn) h
     omega
   omega
 ·have e:Int.gcd (cm t b*shT t b) (cm t b*shB t b)=(cm t b).natAbs*Int.gcd (shT t b) (shB t b):=Int.gcd_mul_left ..
  rw [h1,h2,natAbs_cm] at e
  have e2:Int.gcd t b*1=Int.gcd t b*Int.gcd (shT t b) (shB t b):=by omega
  exact (Nat.eq_of_mul_eq_mul_left hg e2).symm
 ·have e:shT t b*(cm t b*shB t b)=(cm t b*shT t b)*shB t b:=by
   rw [← Int.mul_assoc,Int.mul_comm (shT t b)]
  rw [h2,h1] at e
  exact e
theorem dvd_cop {k m n:Int} (h:Int.gcd m k=1) (e:k∣m*n):k∣n:=by
 have e':k.natAbs∣m.natAbs*n.natAbs:=by rw [← Int.natAbs_mul];exact Int.natAbs_dvd_natAbs.mpr e
 have c:Nat.Coprime k.natAbs m.natAbs:=by
  show Nat.gcd k.natAbs m.natAbs=1
  rw [Nat.gcd_comm];exact h
 exact Int.natAbs_dvd_natAbs.mp (c.dvd_of_dvd_mul_left e')
theorem sh_uniq {p q p' q':Int} (h:Shr p q) (h':Shr p' q') (e:p*q'=p'*q):p=p'∧q=q':=by
 have d1:q∣q':=dvd_cop h.gcd (e ▸ Int.dvd_mul_left p' q)
 have d2:q'∣q:=dvd_cop h'.gcd (e ▸ Int.dvd_mul_left p q')
 have hq:q=q':=Int.dvd_antisymm (by have:=h.pos;omega) (by have:=h'.pos;omega) d1 d2
 subst hq
 exact ⟨Int.eq_of_mul_eq_mul_right (by have:=h.pos;omega) e,rfl⟩
open Builtin.Int (intBits)
theorem cm_bits {t b:Int}{m:Nat} (hb:b≠0) (h:intBits b≤m):intBits (cm t b)≤m:=by
 refine intBits_le_of_natAbs ?_ h
 rw [natAbs_cm]
 exact Nat.le_of_dvd (by omega) (Nat.gcd_dvd_right t.natAbs b.natAbs)
theorem shT_bits {t b:Int}{m:Nat} (h:intBits t≤m):intBits (shT t b)≤m:=intBits_fdiv_le h
theorem shB_bits {t b:Int}{m:Nat} (h:intBits b≤m):intBits (shB t b)≤m:=intBits_fdiv_le h
theorem mulok {a b:Int} (ha:intBits a≤4000) (hb:intBits b≤4000):IntMulOk a b :=.of_le ha hb (by decide)
theorem bits_up {x:Int}{m n:Nat} (h:intBits x≤m) (e:m≤n):intBits x≤n:=Nat.le_trans h e
theorem bits64 {x:Int} (h1 : -(2^64)<x) (h2:x<2^64):intBits x≤64:=intBits_le_64 h1 h2
theorem take_snoc {zs:List Int}{i:Nat}{z:Int} (h:zs[i]?=some z):zs.take (i+1)=zs.take i++[z]:=by
 rw [List.take_add_one,h];rfl
theorem int_get {zs:List Int}{i:Nat}{x:PyData} (h:(zs.map PyData.int)[i]?=some x) : ∃ z,x = .int z∧zs[i]?=some z∧z ∈ zs:=by
 rw [List.getElem?_map] at h
 cases e:zs[i]? with
 | none=>rw [e] at h;cases h
 | some z =>
  rw [e] at h
  exact ⟨z,(Option.some.inj h).symm,rfl,List.mem_of_getElem? e⟩
theorem ints_snoc (xs:List Int) (x:Int):xs.map PyData.int++[PyData.int x]=(xs++[x]).map PyData.int:=by simp
def sp__law_cell (ds:List PyData) (q:PyData→Prop):Prop := ∃ (ns:List Int) (k:Int),ds=[.list (ns.map .int),.int k]∧(0≤k∧k≤1000∧ns.length≤63) ∧ ∀ z:Int,q (.int z)
theorem sc__law_cell:FnScope ["_law_script","_law_k"] ["_law_script","_law_k"] (defScope s__law_cell):=sc0
theorem ok__law_cell (F:Def K mg "_law_cell" s__law_cell ["_law_script","_law_k"]) (T:Txt K mg cs)
 : Ok P w K mg base "_law_cell" 1 ["_law_script","_law_k"] (PSp K sp__law_cell):=by
  refine F.vok sc__law_cell (by rintro ds q ⟨_,_,h,_⟩;rw [h];rfl) fun f cdv A outer s H E hr ds q h=>?_
  obtain ⟨ns,k,rfl,⟨k0,k1,hl⟩,h⟩:=h
  refine ⟨_,(vss_cons (vs_if (vt_cmp o_lt (ve_var 1) (ve_callB c_len T.len_ L2.boot_len (va_cons (ve_var 0) va_nil))) (vss_one (vs_ret (ve_ix (ve_var 0) (ve_var 1)))) vss_nil)
   (vss_cons (vs_if (vt_cmp (o_eq hr.units) (ve_callB c_len T.len_ L2.boot_len (va_cons (ve_var 0) va_nil)) ve_int) (vss_one (vs_ret (ve_op o_add (ve_op o_add (ve_op o_mulI (ve_op o_mulI (ve_var 1) (ve_var 1)) ve_int) (ve_op o_mulI ve_int (ve_var 1))) ve_int))) vss_nil)
   (vss_one (vs_ret (ve_op o_add (ve_op o_mulI (ve_ix (ve_var 0) (ve_op o_mod (ve_var 1) (ve_callB c_len T.len_ L2.boot_len (va_cons (ve_var 0) va_nil)))) (ve_op o_add (ve_var 1) ve_int)) (ve_op o_mulI (ve_op o_mulI (ve_var 1) (ve_var 1)) ve_int)))))),?_⟩
  refine iteD (fun hlt=>?_) (fun hge=>?_)
  ·obtain ⟨n,en⟩:=atI_ints (ns:=ns) k0 (by simpa using hlt)
   exact ⟨_,en,h n⟩
  refine ⟨rfl,rfl,ite_eq (fun z=>?_) (fun z=>?_)⟩
  ·exact ⟨IntMulOk.of_left (bits64 (by omega) (by omega)),IntMulOk.of_right (by decide),IntMulOk.of_left (by decide),h _⟩
  ·have hp:0<(((ns.map PyData.int).length:Nat):Int):=by omega
   obtain ⟨n,en⟩:=atI_ints (ns:=ns) (i:=k%(((ns.map PyData.int).length:Nat):Int)) (Int.emod_nonneg _ (by omega)) (by have:=Int.emod_lt_of_pos k hp;simpa using this)
   exact ⟨hp,_,en,IntMulOk.of_right (bits64 (by omega) (by omega)),IntMulOk.of_left (bits64 (by omega) (by omega)),IntMulOk.of_right (by decide),h _⟩
def sp__law_drawnC (ds:List PyData) (q:PyData→Prop):Prop := ∃ (c base many:Int),ds=[.int c,.int base,.int many]∧(1≤base∧base≤3000000∧0≤many∧many≤60) ∧ ∀ xs:List Int,xs.length=many.toNat→(∀ x ∈ xs,0≤x∧x<base)→q (.list (xs.map .int))
theorem sc__law_drawn:FnScope ["_law_cell_here","_law_base","_law_many","_law_found","_law_left","_law_k","_law_number"] ["_law_cell_here","_law_base","_law_many"] (defScope s__law_drawn):=sc0
theorem ok__law_drawn (F:Def K mg "_law_drawn" s__law_drawn ["_law_cell_here","_law_base","_law_many"]) (T:Txt K mg cs)
 : Ok P w K mg base "_law_drawn" 1 ["_law_cell_here","_law_base","_law_many"] (PSp K sp__law_drawnC):=by
  refine F.vok sc__law_drawn (by rintro ds q ⟨_,_,_,h,_⟩;rw [h];rfl) fun f cdv A outer s H E hr ds q h=>?_
  obtain ⟨c,base,many,rfl,⟨b1,b2,m0,m1⟩,h⟩:=h
  refine ⟨_,(vss_cons (vs_setO (i:=3) sc__law_drawn.nd (vf_lst va_nil))
   (vss_cons (vs_set (i:=4) sc__law_drawn.nd (ve_op o_div (ve_var 0) ve_int))
   (vss_cons (vs_for rfl (vi_range1 T.range_ (ve_var 2)) (vg_name (i:=5) sc__law_drawn.nd) (vss_cons (vs_set (i:=6) sc__law_drawn.nd (ve_var 4))
   (vss_mid (vs_if (vt_cmp (o_eq hr.units) (ve_op o_mod (ve_var 0) ve_int) ve_int) (vss_cons (vs_set (i:=6) sc__law_drawn.nd (ve_op o_add (ve_op o_add (ve_op o_mod (ve_var 0) ve_int) (ve_op o_mulI ve_int (ve_var 5))) ve_int))
   (vss_cons (vs_set (i:=6) sc__law_drawn.nd (ve_op o_mod (ve_op o_mulI (ve_var 6) (ve_op o_add (ve_op o_add (ve_op o_mod (ve_var 0) ve_int) (ve_op o_mulI (ve_var 5) (ve_var 5))) ve_int)) ve_int))
   (vss_one (vs_set (i:=6) sc__law_drawn.nd (ve_op o_mod (ve_op o_add (ve_op o_mulI (ve_var 6) (ve_var 6)) (ve_op o_mulI ve_int (ve_var 5))) ve_int))))) vss_nil)
   (vss_cons (vs_append 3 (ve_op o_mod (ve_var 6) (ve_var 1)))
   (vss_one (vs_set (i:=4) sc__law_drawn.nd (ve_op o_div (ve_var 4) (ve_var 1))))))))
   (vss_one (vs_retO 3))))),?_⟩
  have mb : ∀ x:Int,intBits (x%2147483629)≤64:=fun x=>bits64 (by omega) (by omega)
  have zb:intBits base≤9000:=bits_up (bits64 (by omega) (by omega)) (by decide)
  refine ⟨szl,⟨by decide,by decide⟩,⟨by omega,by omega⟩,?_⟩
  refine ⟨fun i e => ∃ (xs:List Int) (left:Int) (t5 t6:Sl) (l:List PyData),e=[.val (.int c),.val (.int base),.val (.int many),.own l,.val (.int left),t5,t6]∧l=xs.map .int∧xs.length=i∧(∀ x ∈ xs,0≤x∧x<base),⟨[],_,_,_,_,rfl,rfl,rfl,by simp⟩,?_,?_⟩
  ·rintro i d e hd ⟨xs,left,t5,t6,l,rfl,rfl,hx,hb⟩
   obtain ⟨hi,rfl⟩:=rngD_inv hd
   rw [Int.zero_add]
   refine ⟨fun e => ∃ number:Int,e=[.val (.int c),.val (.int base),.val (.int many),.own (xs.map .int),.val (.int left),.val (.int (i:Nat)),.val (.int number)],?_,?_⟩
   ·refine ⟨by decide,rfl,rfl,ite_eq (fun _=>?_) (fun _=>⟨left,rfl⟩)⟩
    exact ⟨by decide,IntMulOk.of_left (by decide),by decide,IntMulOk.of_left (bits64 (by omega) (by omega)),IntMulOk.of_left (bits64 (by omega) (by omega)),by decide,IntMulOk.of_left (mb _),IntMulOk.of_left (by decide),by decide,_,rfl⟩
   ·rintro e ⟨number,rfl⟩
    refine ⟨rfl,by omega,rfl,small1000 (by show (List.map PyData.int xs).length≤1000;rw [List.length_map];omega),⟨by omega,zb⟩,xs++[number%base],_,_,_,_,rfl,ints_snoc _ _,by simp [hx],fun x h=>?_⟩
    rcases List.mem_append.mp h with h|h
    ·exact hb x h
    ·rw [List.mem_singleton.mp h]
     exact ⟨Int.emod_nonneg _ (by omega),Int.emod_lt_of_pos _ (by omega)⟩
  ·rintro e ⟨xs,left,t5,t6,l,rfl,rfl,hx,hb⟩
   rw [rngD_len] at hx
   exact h xs (by omega) hb
structure Tab (b:Int) (R:List (List Int)) (n:Nat):Prop where
 pos:1≤b
 len : ∀ r ∈ R,r.length=n
 nn : ∀ r ∈ R,∀ x ∈ r,0≤x
 sum : ∀ r ∈ R,r.sum=b
def dRow (r:List Int):PyData :=.list (r.map .int)
def tRow (r:List Int):PyData :=.tuple (r.map .int)
theorem get_mem {α:Type}{l:List α}{i:Nat}{x:α} (h:l[i]?=some x):x ∈ l:=List.mem_of_getElem? h
theorem small_le {n:Nat} (h:n≤1000):n≤sizeLine:=Nat.le_of_lt (small1000 h)
theorem atI_zero {α:Type} (y:α) (l:List α):atI (y::l) 0=some y:=atI_nat (j:=0) rfl
theorem atI_int {α:Type}{l:List α}{i:Int}{x:α} (h0:0≤i) (h:l[i.toNat]?=some x):atI l i=some x:=by
 have:=atI_nat h
 rwa [Int.toNat_of_nonneg h0] at this
theorem iteB {c:Bool}{A B:Prop} (h1:c=true→A) (h2:c=false→B):if c=true then A else B:=by
 cases c with
 | true=>exact iteT (h1 rfl)
 | false=>exact iteF (h2 rfl)
theorem sum_nn : ∀ {r:List Int},(∀ n ∈ r,0≤n)→0≤r.sum
 | [],_=>by simp
 | n::r,h=>by
  rw [List.sum_cons]
  have a:=h n (by simp)
  have b:=sum_nn fun m hm=>h m (List.mem_cons_of_mem _ hm)
  omega
theorem mem_le_sum : ∀ {r:List Int}{x:Int},(∀ n ∈ r,0≤n)→x ∈ r→x≤r.sum
 | n::r,x,h,hx=>by
  rw [List.sum_cons]
  have a:=h n (by simp)
  have b:=sum_nn fun m hm=>h m (List.mem_cons_of_mem _ hm)
  rcases List.mem_cons.mp hx with rfl|hx
  ·omega
  ·have:=mem_le_sum (fun m hm=>h m (List.mem_cons_of_mem _ hm)) hx
   omega
theorem iteN {b:Bool}{A B:Prop} (h:b=true) (k:B):if (!b)=true then A else B:=by rw [h];exact iteF k
def gRow (g:Nat) (r:List Int):Nat:=r.foldl (fun (g:Nat) (n:Int)=>Int.gcd g n) g
def gTab (R:List (List Int)):Nat:=R.foldl gRow 0
theorem gRow_dvd_acc : ∀ (r:List Int) (g:Nat),gRow g r∣g
 | [],g=>Nat.dvd_refl _
 | n::r,g=>Nat.dvd_trans (gRow_dvd_acc r (Int.gcd g n)) (by have:=Int.gcd_dvd_natAbs_left (g:Int) n;simpa using this)
theorem gRow_dvd : ∀ (r:List Int) (g:Nat),∀ n ∈ r,(gRow g r:Int)∣n
 | m::r,g,n,h=>by
  rcases List.mem_cons.mp h with rfl|h
  ·exact Int.dvd_trans (Int.natCast_dvd_natCast.mpr (gRow_dvd_acc r (Int.gcd g n))) (Int.gcd_dvd_right ..)
  ·exact gRow_dvd r (Int.gcd g m) n h
theorem gFold_dvd_acc : ∀ (R:List (List Int)) (g:Nat),R.foldl gRow g∣g
 | [],g=>Nat.dvd_refl _
 | r::R,g=>Nat.dvd_trans (gFold_dvd_acc R (gRow g r)) (gRow_dvd_acc r g)
theorem gFold_dvd : ∀ (R:List (List Int)) (g:Nat),∀ r ∈ R,∀ n ∈ r,((R.foldl gRow g:Nat):Int)∣n
 | s::R,g,r,h,n,hn=>by
  rcases List.mem_cons.mp h with rfl|h
  ·exact Int.dvd_trans (Int.natCast_dvd_natCast.mpr (gFold_dvd_acc R (gRow g r))) (gRow_dvd r g n hn)
  ·exact gFold_dvd R (gRow g s) r h n hn
theorem gTab_dvd {R:List (List Int)}{r:List Int}{n:Int} (h:r ∈ R) (hn:n ∈ r):(gTab R:Int)∣n:=gFold_dvd R 0 r h n hn
theorem gRow_mul (k:Nat) : ∀ (r:List Int) (g:Nat),gRow (k*g) (r.map fun n=>(k:Int)*n)=k*gRow g r
 | [],g=>rfl
 | n::r,g=>by
  have e:Int.gcd ((k*g:Nat):Int) ((k:Int)*n)=k*Int.gcd g n:=by
   rw [Int.natCast_mul,Int.gcd_mul_left];rfl
  show gRow (Int.gcd ((k*g:Nat):Int) ((k:Int)*n)) (r.map fun n=>(k:Int)*n)=_
  rw [e]
  exact gRow_mul k r (Int.gcd g n)
theorem gFold_mul (k:Nat) : ∀ (R:List (List Int)) (g:Nat),(R.map fun r=>r.map fun n=>(k:Int)*n).foldl gRow (k*g)=k*R.foldl gRow g
 | [],g=>rfl
 | r::R,g=>by
  show (R.map fun r=>r.map fun n=>(k:Int)*n).foldl gRow (gRow (k*g) (r.map fun n=>(k:Int)*n))=_
  rw [gRow_mul]
  exact gFold_mul k R (gRow g r)
theorem gTab_mul (k:Nat) (R:List (List Int)):gTab (R.map fun r=>r.map fun n=>(k:Int)*n)=k*gTab R:=gFold_mul k R 0
def divT (R:List (List Int)) (g:Int):List (List Int):=R.map fun r=>r.map fun n=>n/g
theorem map_eq_self {α:Type}{f:α→α} : ∀ {l:List α},(∀ x ∈ l,f x=x)→l.map f=l
 | [],_=>rfl
 | x::l,h=>by rw [List.map_cons,h x (by simp),map_eq_self fun y hy=>h y (List.mem_cons_of_mem _ hy)]
theorem divT_mul {R:List (List Int)}:(divT R (gTab R)).map (fun r=>r.map fun n=>(gTab R:Int)*n)=R:=by
 unfold divT
 rw [List.map_map]
 refine map_eq_self fun r hr=>?_
 show (r.map fun n=>n/(gTab R:Int)).map (fun n=>(gTab R:Int)*n)=r
 rw [List.map_map]
 exact map_eq_self fun n hn=>Int.mul_ediv_cancel' (gTab_dvd hr hn)
theorem gTab_low {R:List (List Int)} (h:0<gTab R):gTab (divT R (gTab R))=1:=by
 have e:=gTab_mul (gTab R) (divT R (gTab R))
 rw [divT_mul] at e
 have e2:gTab R*1=gTab R*gTab (divT R (gTab R)):=by omega
 exact (Nat.eq_of_mul_eq_mul_left h e2).symm
theorem sum_zero : ∀ {r:List Int},(∀ n ∈ r,n=0)→r.sum=0
 | [],_=>rfl
 | n::r,h=>by rw [List.sum_cons,h n (by simp),sum_zero fun m hm=>h m (List.mem_cons_of_mem _ hm)];rfl
theorem Tab.gpos {b:Int}{R:List (List Int)}{n:Nat} (h:Tab b R n) (hR:R≠[]):0<gTab R:=by
 rcases Nat.eq_zero_or_pos (gTab R) with e|e
 ·exfalso
  obtain ⟨r,R',rfl⟩:=List.exists_cons_of_ne_nil hR
  have h1:=h.sum r (by simp)
  have h2 : ∀ m ∈ r,m=0:=fun m hm=>by
   have:=gTab_dvd (R:=r::R') (by simp) hm
   rw [e] at this
   exact Int.zero_dvd.mp this
  rw [sum_zero h2] at h1
  have:=h.pos
  omega
 ·exact e
theorem sum_dvd {g:Int} : ∀ {r:List Int},(∀ n ∈ r,g∣n)→g∣r.sum
 | [],_=>by simp
 | n::r,h=>by rw [List.sum_cons];exact Int.dvd_add (h n (by simp)) (sum_dvd fun m hm=>h m (List.mem_cons_of_mem _ hm))
theorem Tab.gdvd {b:Int}{R:List (List Int)}{n:Nat} (h:Tab b R n) (hR:R≠[]):(gTab R:Int)∣b:=by
 obtain ⟨r,R',rfl⟩:=List.exists_cons_of_ne_nil hR
 rw [← h.sum r (by simp)]
 exact sum_dvd fun m hm=>gTab_dvd (by simp) hm
theorem sum_div {g:Int} : ∀ {r:List Int},(∀ n ∈ r,g∣n)→(r.map fun n=>n/g).sum=r.sum/g
 | [],_=>by simp
 | n::r,h=>by
  rw [List.map_cons,List.sum_cons,List.sum_cons,sum_div fun m hm=>h m (List.mem_cons_of_mem _ hm)]
  exact (Int.add_ediv_of_dvd_left (h n (by simp))).symm
theorem Tab.low {b:Int}{R:List (List Int)}{n:Nat} (h:Tab b R n) (hR:R≠[]):Tab (b/gTab R) (divT R (gTab R)) n:=by
 have hp:=h.gpos hR
 have hd:=h.gdvd hR
 have hb:=h.pos
 have hgb:(gTab R:Int)≤b:=Int.le_of_dvd (by omega) hd
 refine ⟨?_,?_,?_,?_⟩
 ·exact (Int.le_ediv_iff_mul_le (by omega)).mpr (by omega)
 ·intro r hr
  obtain ⟨s,hs,rfl⟩:=List.mem_map.mp hr
  rw [List.length_map];exact h.len s hs
 ·intro r hr x hx
  obtain ⟨s,hs,rfl⟩:=List.mem_map.mp hr
  obtain ⟨y,hy,rfl⟩:=List.mem_map.mp hx
  exact Int.ediv_nonneg (h.nn s hs y hy) (by omega)
 ·intro r hr
  obtain ⟨s,hs,rfl⟩:=List.mem_map.mp hr
  rw [sum_div fun m hm=>gTab_dvd hs hm,h.sum s hs]
theorem gRow_snoc (g:Nat) (r:List Int) (n:Int):gRow g (r++[n])=Int.gcd (gRow g r) n:=by unfold gRow;rw [List.foldl_append];rfl
theorem gFold_snoc (R:List (List Int)) (r:List Int):gTab (R++[r])=gRow (gTab R) r:=by unfold gTab;rw [List.foldl_append];rfl
def natD:PyData→Bool
 | .int n=>decide (0≤n)
 | _=>false
def intD:PyData→Int
 | .int n=>n
 | _=>0
def makesRow (d:PyData) (b:Int):Bool:=match seqD d with
 | none=>false
 | some l=>(decide (1≤l.length)&&decide (l.length≤12))&&(l.all natD&&decide ((l.map intD).sum=b))
def lenD (d:PyData):Nat:=((seqD d).getD []).length
def makesTable (bd rd:PyData) (lo hi:Int):Bool:=match bd,seqD rd with
 | .int b,some l=>decide (1≤b)&&((decide (lo≤l.length)&&decide ((l.length:Int)≤hi))&&(l.all (makesRow · b)&&l.all fun r=>lenD r==lenD ((l[0]?).getD .none)))
 | _,_=>false
def RowsD (d:PyData) (R:List (List Int)):Prop := ∃ l,seqD d=some l∧l.map (fun x=>(seqD x).getD [])=R.map (fun r=>r.map PyData.int) ∧ ∀ x ∈ l,(seqD x).isSome=true
theorem RowsD.len {d:PyData}{R:List (List Int)}{l:List PyData} (h:RowsD d R) (e:seqD d=some l):l.length=R.length:=by
 obtain ⟨m,e',h1,_⟩:=h
 rw [e] at e';cases e'
 have:=congrArg List.length h1
 simpa using this
theorem RowsD.get {d:PyData}{R:List (List Int)}{l:List PyData}{i:Nat}{x:PyData} (h:RowsD d R) (e:seqD d=some l) (hx:l[i]?=some x) : ∃ r,R[i]?=some r∧seqD x=some (r.map .int):=by
 obtain ⟨m,e',h1,h2⟩:=h
 rw [e] at e';cases e'
 have h3:(l.map fun x=>(seqD x).getD [])[i]?=some ((seqD x).getD []):=by rw [List.getElem?_map,hx];rfl
 rw [h1,List.getElem?_map] at h3
 obtain ⟨y,hy⟩:=Option.isSome_iff_exists.mp (h2 x (List.mem_of_getElem? hx))
 cases q:R[i]? with
 | none=>rw [q] at h3;cases h3
 | some r =>
  rw [q] at h3
  refine ⟨r,rfl,?_⟩
  rw [hy] at h3 ⊢
  exact h3.symm
theorem RowsD.of {d:PyData}{R:List (List Int)}{f:List PyData→PyData} (hf : ∀ l,seqD (f l)=some l) (e:seqD d=some (R.map fun r=>f (r.map .int))):RowsD d R:=by
 refine ⟨_,e,?_,?_⟩
 ·rw [List.map_map]
  refine List.map_congr_left fun r _=>?_
  simp [hf]
 ·intro x hx
  obtain ⟨r,_,rfl⟩:=List.mem_map.mp hx
  simp [hf]
theorem ints_of_nat : ∀ {l:List PyData},l.all natD=true→l=(l.map intD).map PyData.int ∧ ∀ n ∈ l.map intD,0≤n
 | [],_=>by simp
 | d::l,h=>by
  rw [List.all_cons,Bool.and_eq_true] at h
  obtain ⟨e,g⟩:=ints_of_nat h.2
  cases d with
  | int n =>
   have hn:0≤n:=of_decide_eq_true h.1
   refine ⟨?_,?_⟩
   ·rw [List.map_cons,List.map_cons,← e];rfl
   ·intro m hm
    rcases List.mem_cons.mp hm with rfl|hm
    ·exact hn
    ·exact g m hm
  | _=>exact absurd h.1 (by simp [natD])
theorem nat_of_ints {ns:List Int} (h : ∀ n ∈ ns,0≤n):(ns.map PyData.int).all natD=true∧(ns.map PyData.int).map intD=ns:=by
 refine ⟨?_,?_⟩
 ·rw [List.all_eq_true]
  intro x hx
  obtain ⟨n,hn,rfl⟩:=List.mem_map.mp hx
  exact decide_eq_true (h n hn)
 ·rw [List.map_map];exact map_eq_self fun n _=>rfl
theorem makesRow_iff {d:PyData}{b:Int}:makesRow d b=true ↔ ∃ r:List Int,seqD d=some (r.map .int)∧1≤r.length∧r.length≤12∧(∀ n ∈ r,0≤n)∧r.sum=b:=by
 unfold makesRow
 cases h:seqD d with
 | none=>simp
 | some l =>
  simp only [Bool.and_eq_true,decide_eq_true_eq]
  constructor
  ·rintro ⟨⟨h1,h2⟩,h3,h4⟩
   obtain ⟨e,g⟩:=ints_of_nat h3
   exact ⟨l.map intD,by rw [← e],by simpa using h1,by simpa using h2,g,h4⟩
  ·rintro ⟨r,e,h1,h2,h3,h4⟩
   cases e
   obtain ⟨g1,g2⟩:=nat_of_ints h3
   exact ⟨⟨by simpa using h1,by simpa using h2⟩,g1,by rw [g2];exact h4⟩
theorem makesTable_of {d:PyData}{b lo hi:Int}{R:List (List Int)}{n:Nat} (h:RowsD d R) (hT:Tab b R n) (h1:1≤n) (h2:n≤12) (h3:lo≤R.length) (h4:R.length≤hi):makesTable (.int b) d lo hi=true:=by
 obtain ⟨l,e,_⟩:=id h
 have hl:=h.len e
 have rowOf : ∀ x ∈ l,∃ r ∈ R,seqD x=some (r.map .int):=fun x hx=>by
  obtain ⟨i,hi,rfl⟩:=List.getElem_of_mem hx
  obtain ⟨r,hr,e'⟩:=h.get e (List.getElem?_eq_getElem hi)
  exact ⟨r,List.mem_of_getElem? hr,e'⟩
 have lenOf : ∀ x ∈ l,lenD x=n:=fun x hx=>by
  obtain ⟨r,hr,e'⟩:=rowOf x hx
  unfold lenD
  rw [e']
  simpa using hT.len r hr
 unfold makesTable
 rw [e]
 simp only [Bool.and_eq_true,decide_eq_true_eq,List.all_eq_true,beq_iff_eq]
 refine ⟨hT.pos,⟨by omega,by omega⟩,fun x hx=>?_,fun x hx=>?_⟩
 ·obtain ⟨r,hr,e'⟩:=rowOf x hx
  exact makesRow_iff.mpr ⟨r,e',by rw [hT.len r hr];exact h1,by rw [hT.len r hr];exact h2,hT.nn r hr,hT.sum r hr⟩
 ·rw [lenOf x hx]
  cases l with
  | nil=>simp at hx
  | cons y l=>exact (lenOf y (by simp)).symm
theorem makesTable_inv {bd rd:PyData}{lo hi:Int} (h1:1≤lo) (h:makesTable bd rd lo hi=true) : ∃ (b:Int) (R:List (List Int)) (n:Nat),bd = .int b∧RowsD rd R∧Tab b R n∧1≤n∧n≤12∧lo≤R.length∧R.length≤hi:=by
 unfold makesTable at h
 cases bd with
 | int b =>
  cases e:seqD rd with
  | none=>rw [e] at h;cases h
  | some l =>
   rw [e] at h
   simp only [Bool.and_eq_true,decide_eq_true_eq,List.all_eq_true,beq_iff_eq] at h
   obtain ⟨hb,⟨g1,g2⟩,g3,g4⟩:=h
   have rows : ∀ x ∈ l,∃ r:List Int,seqD x=some (r.map .int)∧1≤r.length∧r.length≤12∧(∀ n ∈ r,0≤n)∧r.sum=b:=fun x hx=>makesRow_iff.mp (g3 x hx)
   have rl : ∀ x ∈ l,((((seqD x).getD []).map intD).map PyData.int)=(seqD x).getD []∧(seqD x).isSome=true∧lenD x=(((seqD x).getD []).map intD).length∧1≤lenD x∧lenD x≤12∧(∀ n ∈ ((seqD x).getD []).map intD,0≤n)∧(((seqD x).getD []).map intD).sum=b:=fun x hx=>by
    obtain ⟨r,e',a1,a2,a3,a4⟩:=rows x hx
    have e2:=(nat_of_ints a3).2
    unfold lenD
    rw [e']
    simp only [Option.getD_some,e2,Option.isSome_some,List.length_map]
    exact ⟨trivial,trivial,trivial,a1,a2,a3,a4⟩
   obtain ⟨y,l',rfl⟩ : ∃ y l',l=y::l':=by
    cases l with
    | nil=>simp at g1;omega
    | cons y l'=>exact ⟨y,l',rfl⟩
   refine ⟨b,(y::l').map (fun x=>((seqD x).getD []).map intD),lenD y,rfl,⟨_,e,?_,fun x hx=>(rl x hx).2.1⟩,⟨hb,?_,?_,?_⟩,(rl y (by simp)).2.2.2.1,(rl y (by simp)).2.2.2.2.1,by simpa using g1,by simpa using g2⟩
   ·rw [List.map_map]
    exact List.map_congr_left fun x hx=>((rl x hx).1).symm
   ·intro r hr
    obtain ⟨x,hx,rfl⟩:=List.mem_map.mp hr
    rw [← (rl x hx).2.2.1]
    exact g4 x hx
   ·intro r hr
    obtain ⟨x,hx,rfl⟩:=List.mem_map.mp hr
    exact (rl x hx).2.2.2.2.2.1
   ·intro r hr
    obtain ⟨x,hx,rfl⟩:=List.mem_map.mp hr
    exact (rl x hx).2.2.2.2.2.2
 | _=>cases h
def dTab (b:Int) (R:List (List Int)):PyData :=.tuple [.int b,.tuple (R.map tRow)]
theorem rowsD_tup (R:List (List Int)):RowsD (.tuple (R.map tRow)) R:=RowsD.of (f :=.tuple) (fun _=>rfl) rfl
def diffs (a:Int) (cs:List Int) (b:Int):List Int:=List.zipWith (fun lo hi=>hi-lo) (a::cs) (cs++[b])
theorem diffs_ok : ∀ (cs:List Int) (a b:Int),cs.Pairwise (· ≤ ·)→(∀ c ∈ cs,a≤c∧c≤b)→a≤b→(diffs a cs b).length=cs.length+1∧(∀ x ∈ diffs a cs b,0≤x)∧(diffs a cs b).sum=b-a
 | [],a,b,_,_,hab=>by simp [diffs];omega
 | c::cs,a,b,hp,h,hab=>by
  have e:diffs a (c::cs) b=(c-a)::diffs c cs b:=rfl
  obtain ⟨h1,h2⟩:=List.pairwise_cons.mp hp
  obtain ⟨q1,q2⟩:=h c (by simp)
  obtain ⟨i1,i2,i3⟩:=diffs_ok cs c b h2 (fun x hx=>⟨h1 x hx,(h x (List.mem_cons_of_mem _ hx)).2⟩) q2
  rw [e]
  refine ⟨by simp [i1],fun x hx=>?_,by rw [List.sum_cons,i3];omega⟩
  rcases List.mem_cons.mp hx with rfl|hx
  ·omega
  ·exact i2 x hx
def sp__law_glassC (ds:List PyData) (q:PyData→Prop):Prop := ∃ (ns:List Int) (at' world many:Int),ds=[.list (ns.map .int),.int at',.int world,.int many]∧(ns.length≤63∧0≤at'∧at'≤100∧1≤world∧world≤12∧1≤many∧many≤12) ∧
 ∀ (b:Int) (R:List (List Int)),Tab b R many.toNat→R.length=world→b≤1000→q (.tuple [.int b,.list (R.map dRow)])
theorem sc__law_glass:FnScope ["_law_script","_law_at","_law_world","_law_many","_law_cell_here","_law_bottom","_law_rows","_law_stand","_law_cuts","_law_ends"] ["_law_script","_law_at","_law_world","_law_many"] (defScope s__law_glass):=sc0
theorem ok__law_glass (F:Def K mg "_law_glass" s__law_glass ["_law_script","_law_at","_law_world","_law_many"]) (T:Txt K mg cs)
 (O__law_cell:Ok P w K mg base "_law_cell" 1 ["_law_script","_law_k"] (PSp K sp__law_cell))
 (O__law_drawn:Ok P w K mg base "_law_drawn" 1 ["_law_cell_here","_law_base","_law_many"] (PSp K sp__law_drawnC))
 : Ok P w K mg base "_law_glass" 2 ["_law_script","_law_at","_law_world","_law_many"] (PSp K sp__law_glassC):=by
  refine F.vok sc__law_glass (by rintro ds q ⟨_,_,_,_,h,_⟩;rw [h];rfl) fun f cdv A outer s H E hr ds q h=>?_
  obtain ⟨ns,at',world,many,rfl,⟨hl,t0,t1,w0,w1,m0,m1⟩,h⟩:=h
  refine ⟨_,(vss_cons (vs_set (i:=4) sc__law_glass.nd (ve_fn O__law_cell.c (hr.mono (by decide)) (va_cons (ve_var 0) (va_cons (ve_var 1) va_nil))))
   (vss_cons (vs_set (i:=5) sc__law_glass.nd (ve_op o_add ve_int (ve_op o_mod (ve_var 4) ve_int)))
   (vss_mid (vs_if (vt_cmp (o_eq hr.units) (ve_op o_mod (ve_op o_div (ve_var 4) ve_int) ve_int) ve_int) (vss_one (vs_set (i:=5) sc__law_glass.nd (ve_op o_add ve_int (ve_op o_mod (ve_op o_div (ve_var 4) ve_int) ve_int)))) vss_nil)
   (vss_cons (vs_setO (i:=6) sc__law_glass.nd (vf_lst va_nil))
   (vss_cons (vs_for rfl (vi_range1 T.range_ (ve_var 2)) (vg_name (i:=7) sc__law_glass.nd) (vss_cons (vs_set (i:=8) sc__law_glass.nd (vf_fz (vf_callB c_sorted T.sorted_ L2.boot_sorted (va_cons (ve_fn O__law_drawn.c (hr.mono (by decide)) (va_cons (ve_fn O__law_cell.c (hr.mono (by decide)) (va_cons (ve_var 0) (va_cons (ve_op o_add (ve_op o_add (ve_var 1) ve_int) (ve_var 7)) va_nil))) (va_cons (ve_op o_add (ve_var 5) ve_int) (va_cons (ve_op o_sub (ve_var 3) ve_int) va_nil)))) va_nil))))
   (vss_cons (vs_set (i:=9) sc__law_glass.nd (vf_fz (vf_cat (vf_fz (vf_cat (vf_fz (vf_lst (va_cons ve_int va_nil))) (ve_var 8))) (vf_fz (vf_lst (va_cons (ve_var 5) va_nil))))))
   (vss_one (vs_append 6 (vf_fz (vf_comp (caps:=["_law_ends"]) (own:=["_law_k"]) (ix:=[9]) rfl ⟨rfl,rfl,rfl,rfl,rfl,rfl⟩ (vi_range1 T.range_ (ve_var 3)) (fun _ _ _ _=>(vg_name (i:=1) (show List.Nodup (["_law_ends","_law_k"]:List Str) by decide))) (fun _ _ _ _=>(ve_op o_sub (ve_ix (ve_var 0) (ve_op o_add (ve_var 1) ve_int)) (ve_ix (ve_var 0) (ve_var 1)))))))))))
   (vss_fz 6 (vss_one (vs_ret (ve_tup (va_cons (ve_var 5) (va_cons (ve_var 6) va_nil))))))))))),?_⟩
  refine ⟨ns,at',rfl,⟨t0,by omega,hl⟩,fun c=>?_⟩
  refine ⟨by decide,?_⟩
  refine ⟨fun e => ∃ (b:Int) (t6 t7 t8 t9:Sl),e=[.val (.list (ns.map .int)),.val (.int at'),.val (.int world),.val (.int many),.val (.int c),.val (.int b),t6,t7,t8,t9]∧1≤b∧b≤1000,?_,?_⟩
  ·refine ⟨⟨by decide,by decide⟩,by decide,rfl,rfl,ite_eq (fun _=>?_) (fun _=>⟨_,_,_,_,_,rfl,by omega,by omega⟩)⟩
   exact ⟨⟨by decide,by decide⟩,by decide,_,_,_,_,_,rfl,by omega,by omega⟩
  ·rintro e ⟨b,t6,t7,t8,t9,rfl,hb1,hb2⟩
   refine ⟨szl,⟨by omega,by omega⟩,?_⟩
   refine ⟨fun i e => ∃ (R:List (List Int)) (t7 t8 t9:Sl) (l:List PyData),e=[.val (.list (ns.map .int)),.val (.int at'),.val (.int world),.val (.int many),.val (.int c),.val (.int b),.own l,t7,t8,t9]∧l=R.map dRow∧R.length=i∧Tab b R many.toNat,⟨[],_,_,_,_,rfl,rfl,rfl,⟨hb1,by simp,by simp,by simp⟩⟩,?_,?_⟩
   ·rintro i d e hd ⟨R,t7,t8,t9,l,rfl,rfl,hR,hT⟩
    obtain ⟨hi,rfl⟩:=rngD_inv hd
    rw [Int.zero_add]
    refine ⟨ns,_,rfl,⟨by omega,by omega,hl⟩,fun c2=>?_⟩
    refine ⟨c2,b+1,many-1,rfl,⟨by omega,by omega,by omega,by omega⟩,fun cs hcl hcb=>?_⟩
    refine ⟨cs,rfl,by omega,fun ms hperm hsort=>?_⟩
    have hn : ∀ c ∈ ms,0≤c∧c≤b:=fun c hc=>by have:=hcb c (hperm.mem_iff.mp hc);omega
    have hml:=hperm.length_eq
    obtain ⟨d1,d2,d3⟩:=diffs_ok ms 0 b hsort hn (by omega)
    refine ⟨szl,?_,szl,?_,?_⟩
    ·simp only [List.length_map,List.length_cons,List.length_nil];exact small_le (by omega)
    ·simp only [List.length_map,List.length_cons,List.length_nil,List.length_append];exact small_le (by omega)
    have ea:[PyData.int 0]++ms.map PyData.int++[PyData.int b]=(0::ms++[b]).map PyData.int:=by simp
    rw [ea]
    refine ⟨rfl,⟨by omega,by omega⟩,?_⟩
    refine comp_by ((diffs 0 ms b).map .int) (by rw [rngD_len,List.length_map,d1];omega) (small1000 (by rw [List.length_map,d1];omega)) (fun e => ∃ t,e=[.val (.list ((0::ms++[b]).map .int)),t]) ⟨_,rfl⟩ ?_ ?_
    ·rintro j d ys e hd hys ⟨t,rfl⟩
     obtain ⟨hj,rfl⟩:=rngD_inv hd
     rw [Int.zero_add]
     have hj1:j<(0::ms).length:=by simp;omega
     have hj2:j<(ms++[b]).length:=by simp;omega
     have g1:(0::ms++[b])[j]?=some ((0::ms)[j]):=by rw [List.getElem?_append_left hj1,List.getElem?_eq_getElem hj1]
     have g2:(0::ms++[b])[j+1]?=some ((ms++[b])[j]):=by rw [List.cons_append,List.getElem?_cons_succ,List.getElem?_eq_getElem hj2]
     have x1:atI ((0::ms++[b]).map PyData.int) (j:Nat)=some (.int ((0::ms)[j])):=atI_nat (by rw [List.getElem?_map,g1];rfl)
     have x2:atI ((0::ms++[b]).map PyData.int) ((j:Nat)+1:Int)=some (.int ((ms++[b])[j])):=atI_int (by omega) (by rw [List.getElem?_map,show ((j:Nat)+1:Int).toNat=j+1 by omega,g2];rfl)
     refine ⟨_,x2,_,x1,snoc_take ?_ hys,_,rfl⟩
     unfold diffs
     rw [List.getElem?_map,List.getElem?_zipWith,List.getElem?_eq_getElem hj1,List.getElem?_eq_getElem hj2];rfl
    ·refine ⟨rfl,small1000 (by show (List.map dRow R).length≤1000;rw [List.length_map];omega),R++[diffs 0 ms b],_,_,_,_,rfl,by simp [dRow];rfl,by simp [hR],⟨hb1,?_,?_,?_⟩⟩
     ·intro r' hr'
      rcases List.mem_append.mp hr' with h|h
      ·exact hT.len r' h
      ·rw [List.mem_singleton.mp h,d1];omega
     ·intro r' hr'
      rcases List.mem_append.mp hr' with h|h
      ·exact hT.nn r' h
      ·rw [List.mem_singleton.mp h];exact d2
     ·intro r' hr'
      rcases List.mem_append.mp hr' with h|h
      ·exact hT.sum r' h
      ·rw [List.mem_singleton.mp h,d3];omega
   ·rintro e ⟨R,t7,t8,t9,l,rfl,rfl,hR,hT⟩
    rw [rngD_len] at hR
    exact ⟨szl,h b R hT (by omega) hb2⟩
def sp__law_divisor (ds:List PyData) (q:PyData→Prop):Prop := ∃ a b:Int,ds=[.int a,.int b]∧0≤b∧q (.int (Int.gcd a b:Nat))
theorem sc__law_divisor:FnScope ["_law_one","_law_other"] ["_law_one","_law_other"] (defScope s__law_divisor):=sc0
theorem ok__law_divisor (F:Def K mg "_law_divisor" s__law_divisor ["_law_one","_law_other"]) (T:Txt K mg cs)
 : Ok P w K mg base "_law_divisor" 1 ["_law_one","_law_other"] (PSp K sp__law_divisor):=by
  refine F.vok sc__law_divisor (by rintro ds q ⟨_,_,h,_⟩;rw [h];rfl) fun f cdv A outer s H E hr ds q h=>?_
  obtain ⟨a,b,rfl,hb,h⟩:=h
  refine ⟨_,(vss_cons (vs_while (vt_cmp (o_ne hr.units) (ve_var 1) ve_int) (vss_one (vs_par (i:=0) (j:=1) rfl sc__law_divisor.nd (va_cons (ve_var 1) (va_cons (ve_op o_mod (ve_var 0) (ve_var 1)) va_nil)))))
   (vss_one (vs_ret (ve_callB c_abs T.abs_ L2.boot_abs (va_cons (ve_var 0) va_nil))))),?_⟩
  refine ⟨fun m e => ∃ x y:Int,e=[.val (.int x),.val (.int y)]∧0≤y∧Int.gcd x y=Int.gcd a b∧m=y.toNat,⟨_,_,_,rfl,hb,rfl,rfl⟩,?_⟩
  rintro m e ⟨x,y,rfl,hy,hg,rfl⟩
  refine ⟨rfl,rfl,ite_ne (fun hne=>?_) (fun he=>?_)⟩
  ·have m0:=Int.emod_nonneg x hne
   have m1:=Int.emod_lt_of_pos x (show 0<y by omega)
   refine ⟨by omega,(x%y).toNat,by omega,y,x%y,rfl,m0,?_,rfl⟩
   rw [← hg,Int.gcd_comm x y]
   have e:x=x%y+x/y*y:=by have:=Int.emod_add_mul_ediv x y;rw [Int.mul_comm] at this;omega
   conv=>rhs;rw [e]
   rw [Int.gcd_add_mul_right_right]
  ·subst he
   show q (.int (if x<0 then -x else x))
   rw [Int.gcd_zero_right] at hg
   rw [← hg] at h
   have:(if x<0 then -x else x)=((x.natAbs:Nat):Int):=by split <;> omega
   rw [this];exact h
def dSh (p q:Int):PyData :=.tuple [.int p,.int q]
def nT (n:Int):Str:=Str.ofString (toString n)
theorem nT_log {n:Int}{k:Nat} (h:intBits n≤k) (hk:k≤1900):n.natAbs.log2<1920:=by
 unfold intBits at h
 by_cases z:n=0
 ·subst z;decide
 ·rw [if_neg (by simpa using z)] at h
  omega
theorem nT_len {n:Int}{k:Nat} (h:intBits n≤k) (hk:k≤1900):(nT n).length≤1921:=PyProof.Rows.int_text_len_1921 (nT_log h hk)
def shTx (p q:Int):Str:=if q=1 then nT p else Str.empty++nT p ++ "/" ++ nT q
theorem shTx_len {p q:Int} (hp:intBits p≤400) (hq:intBits q≤400):(Str.empty++nT p).length≤1921∧(Str.empty++nT p ++ "/").length≤1922∧(Str.empty++nT p ++ "/" ++ nT q).length≤3843:=by
 have a:=nT_len hp (by decide)
 have b:=nT_len hq (by decide)
 have e0:Str.empty.length=0:=rfl
 have e1:(Str.ofString "/").length=1:=rfl
 refine ⟨by rw [strLen_append,e0];omega,by rw [strLen_append,strLen_append,e0,e1];omega,by rw [strLen_append,strLen_append,strLen_append,e0,e1];omega⟩
theorem sz_line {n k:Nat} (h:n≤k) (hk:k≤1000000):n≤sizeLine:=by rw [sizeLine_eq];omega
def rTx (b:Int) (r:List Int):List Str:=r.map fun x=>shTx (shT x b) (shB x b)
def layT (L:List (List Str)):Str:=Txt.join " | " (L.map (Txt.join " "))
theorem join_ok {s:Str}{l:List Str}{B:Nat} (hB : ∀ y ∈ l,y.length≤B) (h:l.length*B+l.length*s.length≤16777216):JoinOk s l=true:=by
 unfold JoinOk
 rw [StrLaws.joinFits hB h];rfl
theorem join_le {s:Str}{l:List Str}{B:Nat} (hB : ∀ y ∈ l,y.length≤B):(Txt.join s l).length≤l.length*B+l.length*s.length:=by
 have a:=StrLaws.sumLen_le l hB
 have b:=StrLaws.join_length_le s l
 have e:Txt.join s l=Str.join s l:=StrLaws.glued_eq_join s l
 rw [e]
 omega
theorem shTx_le {p q:Int} (hp:intBits p≤400) (hq:intBits q≤400):(shTx p q).length≤4000:=by
 obtain ⟨_,_,l3⟩:=shTx_len hp hq
 have a:=nT_len hp (by decide)
 unfold shTx
 split
 ·exact Nat.le_trans a (by decide)
 ·exact Nat.le_trans l3 (by decide)
def sp__law_share_text (ds:List PyData) (k:PyData→Prop):Prop := ∃ t b:Int,ds=[.int t,.int b]∧(1≤b∧intBits b≤300∧intBits t≤300)∧k (.str (shTx (shT t b) (shB t b)))
theorem sh_pos {t b:Int} (h:1≤b):shT t b=t/(Int.gcd t b:Int)∧shB t b=b/(Int.gcd t b:Int):=by
 unfold shT shB cm
 rw [if_neg (by omega)]
 exact ⟨Int.fdiv_eq_ediv_of_nonneg _ (by omega),Int.fdiv_eq_ediv_of_nonneg _ (by omega)⟩
theorem emp_app (x:Str):Str.empty++x=x:=by
 show (⟨#[]++x.cps⟩:Str)=x
 simp
theorem sc__law_share_text:FnScope ["_law_top","_law_bottom","_law_by"] ["_law_top","_law_bottom"] (defScope s__law_share_text):=sc0
theorem ok__law_share_text (F:Def K mg "_law_share_text" s__law_share_text ["_law_top","_law_bottom"]) (T:Txt K mg cs)
 (O__law_divisor:Ok P w K mg base "_law_divisor" 1 ["_law_one","_law_other"] (PSp K sp__law_divisor))
 : Ok P w K mg base "_law_share_text" 2 ["_law_top","_law_bottom"] (PSp K sp__law_share_text):=by
  refine F.vok sc__law_share_text (by rintro ds q ⟨_,_,h,_⟩;rw [h];rfl) fun f cdv A outer s H E hr ds k h=>?_
  obtain ⟨t,b,rfl,⟨b1,zb,zt⟩,h⟩:=h
  refine ⟨_,(vss_cons (vs_set (i:=2) sc__law_share_text.nd (ve_fn O__law_divisor.c (hr.mono (by decide)) (va_cons (ve_var 0) (va_cons (ve_var 1) va_nil))))
   (vss_cons (vs_if (vt_cmp (o_eq hr.units) (ve_var 1) (ve_var 2)) (vss_one (vs_ret (ve_callTy c_strI T.str_ L2.boot_str (va_cons (ve_op o_div (ve_var 0) (ve_var 2)) va_nil)))) vss_nil)
   (vss_one (vs_ret (ve_op o_add (ve_op o_add (ve_callTy c_strI T.str_ L2.boot_str (va_cons (ve_op o_div (ve_var 0) (ve_var 2)) va_nil)) ve_str) (ve_callTy c_strI T.str_ L2.boot_str (va_cons (ve_op o_div (ve_var 1) (ve_var 2)) va_nil))))))),?_⟩
  obtain ⟨e1,e2⟩:=sh_pos (t:=t) b1
  have z1:intBits (shT t b)≤400:=bits_up (shT_bits zt) (by decide)
  have z2:intBits (shB t b)≤400:=bits_up (shB_bits zb) (by decide)
  obtain ⟨l1,l2,l3⟩:=shTx_len z1 z2
  rw [emp_app] at l1 l2 l3
  have g0:=gcd_pos (t:=t) (b:=b) (by omega)
  have g1:(Int.gcd t b:Int)∣b:=Int.gcd_dvd_right t b
  have one:b=(Int.gcd t b:Int)↔shB t b=1:=by
   rw [e2]
   constructor
   ·intro z
    conv=>lhs;arg 1;rw [z]
    exact Int.ediv_self (by omega)
   ·intro z
    have:=Int.ediv_mul_cancel g1
    rw [z] at this
    omega
  have zg:intBits (Int.gcd t b:Int)≤9000:=bits_up (intBits_le_of_natAbs (Nat.le_of_dvd (by omega) (Nat.gcd_dvd_right t.natAbs b.natAbs)) zb) (by decide)
  refine ⟨t,b,rfl,by omega,rfl,rfl,ite_eq (fun z=>?_) (fun z=>?_)⟩
  ·unfold shTx at h
   rw [if_pos (one.mp z),e1] at h
   have lg:=nT_log z1 (by decide)
   rw [e1] at lg
   exact ⟨⟨by omega,zg⟩,lg,h⟩
  ·unfold shTx at h
   rw [if_neg (fun y=>z (one.mpr y)),emp_app,e1,e2] at h
   have lg:=nT_log z1 (by decide)
   have lh:=nT_log z2 (by decide)
   rw [strLen_append] at l2
   rw [strLen_append] at l3
   rw [e1] at lg l2 l3
   rw [e2] at lh l3
   exact ⟨⟨by omega,zg⟩,lg,sz_line l2 (by decide),⟨by omega,zg⟩,lh,sz_line l3 (by decide),h⟩
def sp__law_text (ds:List PyData) (k:PyData→Prop):Prop := ∃ (b:Int) (R:List (List Int)),ds=[.int b,.list (R.map fun r => .list (r.map .int))]∧(1≤b∧intBits b≤300∧R.length≤12 ∧ ∀ r ∈ R,r.length≤12 ∧ ∀ x ∈ r,intBits x≤300)∧k (.str (layT (R.map (rTx b))))
theorem sc__law_text:FnScope ["_law_bottom","_law_rows"] ["_law_bottom","_law_rows"] (defScope s__law_text):=sc0
theorem ok__law_text (F:Def K mg "_law_text" s__law_text ["_law_bottom","_law_rows"]) (T:Txt K mg cs)
 (O__law_share_text:Ok P w K mg base "_law_share_text" 2 ["_law_top","_law_bottom"] (PSp K sp__law_share_text))
 : Ok P w K mg base "_law_text" 3 ["_law_bottom","_law_rows"] (PSp K sp__law_text):=by
  refine F.vok sc__law_text (by rintro ds q ⟨_,_,h,_⟩;rw [h];rfl) fun f cdv A outer s H E hr ds k h=>?_
  obtain ⟨b,R,rfl,⟨b1,zb,lR,hR⟩,h⟩:=h
  refine ⟨_,(vss_one (vs_ret (ve_join ve_str (vf_fz (vf_comp (caps:=["_law_bottom"]) (own:=["_law_row"]) (ix:=[0]) rfl ⟨rfl,rfl,rfl,rfl,rfl,rfl⟩ (vi_seq (ve_var 1)) (fun _ _ _ _=>(vg_name (i:=1) (show List.Nodup (["_law_bottom","_law_row"]:List Str) by decide))) (fun _ _ _ _=>(ve_join ve_str (vf_fz (vf_comp (caps:=["_law_bottom"]) (own:=["_law_number"]) (ix:=[0]) rfl ⟨rfl,rfl,rfl,rfl,rfl,rfl⟩ (vi_seq (ve_var 1)) (fun _ _ _ _=>(vg_name (i:=1) (show List.Nodup (["_law_bottom","_law_number"]:List Str) by decide))) (fun _ _ _ _=>(ve_fn O__law_share_text.c (hr.mono (by decide)) (va_cons (ve_var 1) (va_cons (ve_var 0) va_nil))))))))))))),?_⟩
  have sh : ∀ r ∈ R,∀ x ∈ rTx b r,x.length≤4000:=fun r hr x hx=>by
   obtain ⟨y,hy,rfl⟩:=List.mem_map.mp hx
   exact shTx_le (bits_up (shT_bits ((hR r hr).2 y hy)) (by decide)) (bits_up (shB_bits zb) (by decide))
  have inner : ∀ r ∈ R,JoinOk (" " : String) (rTx b r)=true∧(Txt.join (" " : String) (rTx b r)).length≤60000:=fun r hr=>by
   have a:(rTx b r).length≤12:=by unfold rTx;rw [List.length_map];exact (hR r hr).1
   have e:(Str.ofString " ").length=1:=rfl
   have m:(rTx b r).length*4000≤12*4000:=Nat.mul_le_mul_right _ a
   refine ⟨join_ok (sh r hr) (by rw [e];omega),?_⟩
   have:=join_le (s:=(" " : String)) (sh r hr)
   rw [e] at this
   omega
  refine ⟨_,rfl,comp_by ((R.map fun r=>Txt.join (" " : String) (rTx b r)).map PyData.str) (by simp) (small1000 (by simp;omega)) (fun e => ∃ s,e=[.val (.int b),s]) ⟨_,rfl⟩ ?_ ?_⟩
  ·rintro i x ys e hx hys ⟨s,rfl⟩
   rw [List.getElem?_map] at hx
   cases er:R[i]? with
   | none=>rw [er] at hx;cases hx
   | some r =>
    rw [er] at hx
    cases hx
    have hr:=hR r (List.mem_of_getElem? er)
    refine ⟨_,rfl,comp_by ((rTx b r).map PyData.str) (by simp [rTx]) (small1000 (by simp [rTx];omega)) (fun e => ∃ s,e=[.val (.int b),s]) ⟨_,rfl⟩ ?_ ?_⟩
    ·rintro j y zs e hy hzs ⟨s,rfl⟩
     rw [List.getElem?_map] at hy
     cases ej:r[j]? with
     | none=>rw [ej] at hy;cases hy
     | some n =>
      rw [ej] at hy
      cases hy
      refine ⟨n,b,rfl,⟨b1,zb,hr.2 n (List.mem_of_getElem? ej)⟩,snoc_take ?_ hzs,_,rfl⟩
      unfold rTx
      rw [List.getElem?_map,List.getElem?_map,ej];rfl
    ·refine ⟨rTx b r,rfl,(inner r (List.mem_of_getElem? er)).1,snoc_take ?_ hys,_,rfl⟩
     rw [List.getElem?_map,List.getElem?_map,er];rfl
  ·refine ⟨R.map fun r=>Txt.join (" " : String) (rTx b r),rfl,join_ok (B:=60000) (fun y hy=>?_) ?_,?_⟩
   ·obtain ⟨r,hr,rfl⟩:=List.mem_map.mp hy
    exact (inner r hr).2
   ·have e:(Str.ofString " | ").length=3:=rfl
    rw [List.length_map,e,← Nat.mul_add]
    exact Nat.le_trans (Nat.mul_le_mul_right _ lR) (by decide)
   ·unfold layT at h
    rw [List.map_map] at h
    exact h
def Shp (n:Nat) (d:PyData):Prop:=d.canLay0=true∧d.depth≤n
theorem Shp.ok {n:Nat}{d:PyData} (h:Shp n d) (hn:n≤64:=by decide):SeqAt.shaped d=true:=by
 unfold SeqAt.shaped
 rw [h.1,decide_eq_true (Nat.le_trans h.2 hn)];rfl
theorem Shp.refl {n:Nat}{d:PyData} (h:Shp n d):PyData.eqv d d=true:=SeqAt.eqv_refl d h.1
theorem shpS {x:Str} (n:Nat) (h:PyData.strOk x=true):Shp n (.str x):=by simp [Shp,PyData.canLay0,PyData.depth,h]
def mdo (x y:Str):Bool := !(PyData.eqv (.str x) (.str ""))&&x.cps.toList.all fun c=>Txt.contains y (chS c)
theorem asc_ok {x:Str} (h:x.cps.all (· < 128)=true):PyData.strOk x=true:=by
 unfold PyData.strOk
 rw [Array.all_eq_true'] at h ⊢
 intro c hc
 have:=h c hc
 simp at this ⊢
 omega
def figS (x:Str):Str:=if Txt.startswith x "-" = true then cutS x (some 1) none else x
def numB (x:Str) (m:Int):Bool:=(mdo (figS x) "0123456789" && decide (((figS x).length:Int)≤m))&&(PyData.eqv (.str x) (.str "0") || !Txt.startswith (figS x) "0")
theorem nT_signs {p:Int} (h:0≤p):(nT p).cps.toList=(Nat.toDigits 10 p.toNat).map Char.toNat:=by
 obtain ⟨m,rfl⟩:=Int.eq_ofNat_of_zero_le h
 exact PySem.W.KIN.signs_num m
theorem dig_rng {ch:Char} (h:ch.isDigit=true):48≤ch.toNat∧ch.toNat≤57:=by
 unfold Char.isDigit at h
 rw [Bool.and_eq_true,decide_eq_true_eq,decide_eq_true_eq] at h
 exact ⟨h.1,h.2⟩
theorem nT_digit {p:Int} (h:0≤p) : ∀ c ∈ (nT p).cps.toList,48≤c∧c≤57:=fun c hc=>by
 rw [nT_signs h] at hc
 obtain ⟨ch,hch,rfl⟩:=List.mem_map.mp hc
 exact dig_rng (Nat.isDigit_of_mem_toDigits (by decide) (by decide) hch)
theorem nT_long {p:Int}{k:Nat} (h:0≤p) (k1:1≤k) (hk:p<10^k):1≤(nT p).length∧(nT p).length≤k:=by
 have e:(nT p).length=(Nat.toDigits 10 p.toNat).length:=by
  have:=congrArg List.length (nT_signs h)
  rw [List.length_map,Array.length_toList] at this
  exact this
 rw [e]
 have hp:p.toNat<10^k:=by
  have:((p.toNat:Nat):Int)<((10^k:Nat):Int):=by rw [Int.toNat_of_nonneg h];simpa using hk
  exact Int.ofNat_lt.mp this
 exact ⟨PySem.toDigits_len_ge 10 _,PySem.toDigits_len_pow (by decide) k1 hp⟩
theorem starts_one {x:Str}{c:Nat}:Txt.startswith x (chS c)=true↔x.cps.toList[0]?=some c:=by
 have:=StrLaws.subAt_one x c 0
 rw [← this]
 unfold Txt.startswith
 rw [Bool.and_eq_true,decide_eq_true_eq]
 rfl
theorem nT_minus {p:Int} (h:0≤p):figS (nT p)=nT p:=by
 unfold figS
 rw [if_neg]
 intro z
 have z:Txt.startswith (nT p) (chS 45)=true:=z
 rw [starts_one] at z
 have:=nT_digit h 45 (List.mem_of_getElem? z)
 omega
theorem has_one (x:Str) (c:Nat):Txt.contains x (chS c)=decide (c ∈ x.cps.toList):=StrLaws.found_one x c
theorem nT_made {p:Int}{k:Nat} (h:0≤p) (k1:1≤k) (hk:p<10^k):mdo (nT p) "0123456789" = true:=by
 have l:=(nT_long h k1 hk).1
 unfold mdo
 have ne:PyData.eqv (.str (nT p)) (.str "")=false:=by
  cases z:PyData.eqv (.str (nT p)) (.str "") with
  | false=>rfl
  | true =>
   exfalso
   rw [PyData.eqv] at z
   have e:nT p=Str.ofString "":=by simpa using z
   rw [e] at l
   exact absurd l (by decide)
 rw [ne]
 show (true&&_)=true
 rw [Bool.true_and,List.all_eq_true]
 intro c hc
 have r:=nT_digit h c hc
 rw [has_one]
 have:c=48∨c=49∨c=50∨c=51∨c=52∨c=53∨c=54∨c=55∨c=56∨c=57:=by omega
 rcases this with rfl|rfl|rfl|rfl|rfl|rfl|rfl|rfl|rfl|rfl <;> decide +kernel
theorem toDig_first : ∀ (n:Nat),0<n→(Nat.toDigits 10 n)[0]?≠some '0':=fun n=>by
 induction n using Nat.strongRecOn with
 | _ n ih =>
  intro hn z
  by_cases s:n<10
  ·rw [Nat.toDigits_of_lt_base s] at z
   have:n=1∨n=2∨n=3∨n=4∨n=5∨n=6∨n=7∨n=8∨n=9:=by omega
   rcases this with rfl|rfl|rfl|rfl|rfl|rfl|rfl|rfl|rfl <;> exact absurd z (by decide)
  ·have hm:n%10<10:=Nat.mod_lt n (by decide)
   have t:Nat.toDigits 10 (n/10)++Nat.toDigits 10 (n%10)=Nat.toDigits 10 (10*(n/10)+n%10):=Nat.toDigits_append_toDigits (by decide) (by omega) hm
   rw [Nat.div_add_mod] at t
   rw [← t,List.getElem?_append_left (by have:=PySem.toDigits_len_ge 10 (n/10);omega)] at z
   exact ih (n/10) (by omega) (by omega) z
theorem nT_zero {p:Int} (h:0≤p):(PyData.eqv (.str (nT p)) (.str "0") || !Txt.startswith (nT p) "0")=true:=by
 by_cases z:p=0
 ·subst z
  decide +kernel
 ·have:Txt.startswith (nT p) (chS 48)=false:=by
   cases y:Txt.startswith (nT p) (chS 48) with
   | false=>rfl
   | true =>
    exfalso
    rw [starts_one,nT_signs h,List.getElem?_map] at y
    cases e:(Nat.toDigits 10 p.toNat)[0]? with
    | none=>rw [e] at y;cases y
    | some ch =>
     rw [e] at y
     have y:ch.toNat=48:=Option.some.inj y
     have ec:ch = '0':=Char.toNat_inj.mp y
     exact toDig_first p.toNat (by omega) (by rw [e,ec])
  have s:Txt.startswith (nT p) "0" = false:=this
  rw [s,Bool.not_false,Bool.or_true]
theorem nT_num {p:Int}{k:Nat} (h:0≤p) (k1:1≤k) (hk:p<10^k):numB (nT p) k=true:=by
 unfold numB
 rw [nT_minus h,nT_made h k1 hk,nT_zero h,decide_eq_true (Int.ofNat_le.mpr (nT_long h k1 hk).2)]
 rfl
theorem str_app (x y:Str):(x++y).cps.toList=x.cps.toList++y.cps.toList:=by
 show (x.cps++y.cps).toList=_
 simp
theorem str_ext {x y:Str} (h:x.cps.toList=y.cps.toList):x=y:=by
 cases x
 cases y
 simp at h
 rw [h]
theorem sub_list (x:Str) (i j:Nat):(Builtin.Str.strSub x i j).cps.toList=(x.cps.toList.drop i).take (j-i):=by
 show (x.cps.extract i j).toList=_
 simp [List.extract]
theorem part_none {x:Str}{c:Nat} (h:c ∉ x.cps.toList):partS x (chS c)=[x,Str.empty,Str.empty]:=by
 unfold partS
 rcases StrLaws.occ_head x (chS c) 1 (Nat.le_refl 1) with ⟨h0,hn⟩|⟨i,r,h0,hi,hn⟩
 ·rw [h0]
 ·exact absurd (List.mem_of_getElem? ((StrLaws.subAt_one x c i).mp hi)) h
theorem part_at {x a b:Str}{c:Nat} (hx:x.cps.toList=a.cps.toList++c::b.cps.toList) (h:c ∉ a.cps.toList):partS x (chS c)=[a,chS c,b]:=by
 unfold partS
 have at_a:x.cps.toList[a.cps.toList.length]?=some c:=by rw [hx,List.getElem?_append_right (Nat.le_refl _)];simp
 rcases StrLaws.occ_head x (chS c) 1 (Nat.le_refl 1) with ⟨h0,hn⟩|⟨i,r,h0,hi,hn⟩
 ·exact absurd ((StrLaws.subAt_one x c _).mpr at_a) (hn _)
 ·have e:i=a.cps.toList.length:=by
   rcases Nat.lt_trichotomy i a.cps.toList.length with z|z|z
   ·exfalso
    have:=(StrLaws.subAt_one x c i).mp hi
    rw [hx,List.getElem?_append_left z] at this
    exact h (List.mem_of_getElem? this)
   ·exact z
   ·exact absurd ((StrLaws.subAt_one x c _).mpr at_a) (hn _ z)
  rw [h0]
  show [Builtin.Str.strSub x 0 i,chS c,Builtin.Str.strSub x (i+1) x.length]=[a,chS c,b]
  have e1:Builtin.Str.strSub x 0 i=a:=str_ext (by rw [sub_list,hx,e,List.drop_zero,Nat.sub_zero,List.take_left])
  have lx:x.length=a.cps.toList.length+(b.cps.toList.length+1):=by
   show x.cps.size=_
   have:=congrArg List.length hx
   rw [Array.length_toList] at this
   simpa using this
  have e2:Builtin.Str.strSub x (i+1) x.length=b:=str_ext (by
   rw [sub_list,hx,e,lx]
   have:(a.cps.toList++c::b.cps.toList).drop (a.cps.toList.length+1)=b.cps.toList:=by
    rw [List.drop_append]
    simp
   rw [this]
   exact List.take_of_length_le (by omega))
  rw [e1,e2]
theorem nT_reads {p:Int} (h:0≤p) (hp:p<10^10):PySem.intText? (nT p)=some p:=PySem.W.KIN.num_reads h hp
theorem shr_self {p q:Int} (h:Shr p q):shT p q=p∧shB p q=q:=by
 have:=h.pos
 obtain ⟨s1,e1⟩:=sh_ok (t:=p) (b:=q) (by omega)
 exact sh_uniq s1 h e1
theorem nT_free {p:Int} (h:0≤p) {c:Nat} (hc:c<48∨57<c):c ∉ (nT p).cps.toList:=fun z=>by
 have:=nT_digit h c z
 omega
theorem shTx_list {p q:Int} (h:q≠1):(shTx p q).cps.toList=(nT p).cps.toList++47::(nT q).cps.toList:=by
 unfold shTx
 rw [if_neg h,str_app,str_app,str_app]
 have e:(Str.ofString "/").cps.toList=[47]:=by decide +kernel
 have e2:Str.empty.cps.toList=[]:=rfl
 rw [e,e2]
 simp
theorem nT_ne0 {q:Int} (h:1≤q):PyData.eqv (.str (nT q)) (.str "0")=false:=by
 cases z:PyData.eqv (.str (nT q)) (.str "0") with
 | false=>rfl
 | true =>
  exfalso
  rw [PyData.eqv] at z
  have e:nT q=Str.ofString "0":=by simpa using z
  have s:=toDig_first q.toNat (by omega)
  have l:=nT_signs (show 0≤q by omega)
  rw [e] at l
  have e0:(Str.ofString "0").cps.toList=[48]:=by decide +kernel
  rw [e0] at l
  have:=congrArg (fun x=>x[0]?) l
  simp only [List.getElem?_map] at this
  cases c:(Nat.toDigits 10 q.toNat)[0]? with
  | none=>rw [c] at this;cases this
  | some ch =>
   rw [c] at this
   have y:48=ch.toNat:=Option.some.inj this
   have ec:ch = '0':=Char.toNat_inj.mp y.symm
   exact s (by rw [c,ec])
theorem join_two (y r r':Str) (rs:List Str):(Str.join y (r::r'::rs)).cps.toList=r.cps.toList++(y.cps.toList++(Str.join y (r'::rs)).cps.toList):=by
 show (r++y++Str.join y (r'::rs)).cps.toList=_
 rw [str_app,str_app,List.append_assoc]
theorem at_sign {x y:Str}{c o i:Nat} (ho:y.cps.toList[o]?=some c) (h:StrLaws.At x y x.length i):x.cps.toList[i+o]?=some c:=by
 have e:=h.2
 rw [StrLaws.subAt_eq] at e
 have e:=eq_of_beq e
 rw [← e] at ho
 have ol:o<y.length:=by
  have:=(List.getElem?_eq_some_iff.mp ho).1
  rw [List.length_take] at this
  omega
 rw [List.getElem?_take_of_lt ol,List.getElem?_drop] at ho
 exact ho
theorem str_len (x:Str):x.length=x.cps.toList.length:=by rw [Array.length_toList];rfl
theorem at_mk {x y:Str}{i:Nat}{t:List Nat} (h:x.cps.toList.drop i=y.cps.toList++t) (hi:i≤x.length):StrLaws.At x y x.length i:=by
 refine ⟨?_,?_⟩
 ·have:=congrArg List.length h
  rw [List.length_drop,List.length_append,← str_len,← str_len] at this
  omega
 ·rw [StrLaws.subAt_eq,h,str_len,List.take_left]
  exact beq_self_eq_true _
theorem parts_eq {x y:Str}{c o:Nat} (ho:y.cps.toList[o]?=some c) (hf : ∀ j,j<o→y.cps.toList[j]?≠some c) : ∀ (rs:List Str) (r:Str) (a:Nat) (cuts:List Nat) (f:Nat),(∀ p ∈ r::rs,c ∉ p.cps.toList)→x.cps.toList.drop a=(Str.join y (r::rs)).cps.toList→a≤x.length →
 StrLaws.ChainG x y x.length a cuts f→(∀ k,f≤k → ¬ StrLaws.At x y x.length k)→StrLaws.partsFrom x y.length a cuts=r::rs
  | [],r,a,cuts,f,hp,hx,ha,hc,hn=>by
   have hx:x.cps.toList.drop a=r.cps.toList:=hx
   cases cuts with
   | nil =>
    have e:Builtin.Str.strSub x a x.length=r:=str_ext (by
     rw [sub_list,hx]
     refine List.take_of_length_le ?_
     have:=congrArg List.length hx
     rw [List.length_drop,← str_len] at this
     omega)
    show [Builtin.Str.strSub x a x.length]=[r]
    rw [e]
   | cons i cuts =>
    exfalso
    have s:=at_sign ho hc.2.1
    have a1:=hc.1
    have:r.cps.toList[i+o-a]?=some c:=by
     rw [← hx,List.getElem?_drop,show a+(i+o-a)=i+o by omega]
     exact s
    exact hp r (by simp) (List.mem_of_getElem? this)
  | r'::rs,r,a,cuts,f,hp,hx,ha,hc,hn=>by
   rw [join_two] at hx
   have lx:=congrArg List.length hx
   rw [List.length_drop,List.length_append,List.length_append,← str_len,← str_len,← str_len] at lx
   have hd:x.cps.toList.drop (a+r.length)=y.cps.toList++(Str.join y (r'::rs)).cps.toList:=by
    rw [← List.drop_drop,hx,str_len,List.drop_left]
   have at1:StrLaws.At x y x.length (a+r.length):=at_mk hd (by omega)
   have no : ∀ k,a≤k→k<a+r.length → ¬ StrLaws.At x y x.length k:=fun k k1 k2 z=>by
    have s:=at_sign ho z
    have g:(x.cps.toList.drop a)[k+o-a]?=some c:=by
     rw [List.getElem?_drop,show a+(k+o-a)=k+o by omega]
     exact s
    rw [hx] at g
    by_cases q:k+o-a<r.cps.toList.length
    ·rw [List.getElem?_append_left q] at g
     exact hp r (by simp) (List.mem_of_getElem? g)
    ·rw [str_len] at k2
     have ol:=(List.getElem?_eq_some_iff.mp ho).1
     rw [List.getElem?_append_right (by omega),List.getElem?_append_left (by omega)] at g
     exact hf _ (by omega) g
   cases cuts with
   | nil =>
    have e:f=a:=hc
    exact absurd at1 (hn _ (by omega))
   | cons i cuts =>
    obtain ⟨c1,c2,c3,c4⟩:=hc
    have ei:i=a+r.length:=by
     rcases Nat.lt_trichotomy i (a+r.length) with z|z|z
     ·exact absurd c2 (no i c1 z)
     ·exact z
     ·exact absurd at1 (c3 _ (by omega) z)
    subst ei
    have e1:Builtin.Str.strSub x a (a+r.length)=r:=str_ext (by rw [sub_list,hx,show a+r.length-a=r.cps.toList.length by rw [← str_len];omega,List.take_left])
    show Builtin.Str.strSub x a (a+r.length)::StrLaws.partsFrom x y.length (a+r.length+y.length) cuts=_
    rw [e1,parts_eq ho hf rs r' _ cuts f (fun p h=>hp p (List.mem_cons_of_mem _ h)) (by rw [← List.drop_drop,hd,str_len,List.drop_left]) (by omega) c4 hn]
theorem cut_join {y:Str}{c o:Nat} (y1:1≤y.length) (yk:Builtin.Str.strKind y=1) (ho:y.cps.toList[o]?=some c) (hf : ∀ j,j<o→y.cps.toList[j]?≠some c) {rs:List Str} (ne:rs≠[]) (hp : ∀ p ∈ rs,c ∉ p.cps.toList) :
 Builtin.Str.partsBetween (Txt.join y rs) (Builtin.Str.occurrences (Txt.join y rs) y 0 (Txt.join y rs).length ((Txt.join y rs).length+1)) y.length=rs∧Txt.split (Txt.join y rs) y=rs:=by
  have ej:Txt.join y rs=Str.join y rs:=StrLaws.glued_eq_join y rs
  rw [ej]
  obtain ⟨r,rs,rfl⟩:=List.exists_cons_of_ne_nil ne
  obtain ⟨f,hc,hn⟩:=StrLaws.occ_tight (Str.join y (r::rs)) y y1
  have e:=parts_eq ho hf rs r 0 _ f hp (by rw [List.drop_zero]) (Nat.zero_le _) hc hn
  rw [StrLaws.partsBetween_eq]
  refine ⟨e,?_⟩
  unfold Txt.split
  rw [StrLaws.partsBetween_eq,e]
  generalize hcu:Builtin.Str.occurrences (Str.join y (r::rs)) y 0 (Str.join y (r::rs)).length ((Str.join y (r::rs)).length+1)=cuts at hc e
  cases cuts with
  | nil =>
   have e:[Builtin.Str.strSub (Str.join y (r::rs)) 0 (Str.join y (r::rs)).length]=r::rs:=e
   rw [StrLaws.sub_whole] at e
   rw [e,ite_self,ite_self]
  | cons i cuts =>
   have l:=hc.2.1.1
   rw [if_neg,if_neg]
   ·simp
   ·rw [yk,Bool.or_eq_true,decide_eq_true_eq,decide_eq_true_eq]
    have:1≤Builtin.Str.strKind (Str.join y (r::rs)):=by
     unfold Builtin.Str.strKind
     split
     ·decide
     ·split <;> decide
    omega
theorem cut_row {ws:List Str} (ne:ws≠[]) (h : ∀ p ∈ ws,32 ∉ p.cps.toList):Builtin.Str.partsBetween (Txt.join (Str.ofString " ") ws) (Builtin.Str.occurrences (Txt.join (Str.ofString " ") ws) (Str.ofString " ") 0 (Txt.join (Str.ofString " ") ws).length ((Txt.join (Str.ofString " ") ws).length+1)) (Str.ofString " ").length=ws∧Txt.split (Txt.join (Str.ofString " ") ws) (Str.ofString " ")=ws :=
 cut_join (o:=0) (by decide) (by decide +kernel) (by decide +kernel) (fun j hj=>by omega) ne h
theorem cut_rows {ls:List Str} (ne:ls≠[]) (h : ∀ p ∈ ls,124 ∉ p.cps.toList):Builtin.Str.partsBetween (Txt.join (Str.ofString " | ") ls) (Builtin.Str.occurrences (Txt.join (Str.ofString " | ") ls) (Str.ofString " | ") 0 (Txt.join (Str.ofString " | ") ls).length ((Txt.join (Str.ofString " | ") ls).length+1)) (Str.ofString " | ").length=ls∧Txt.split (Txt.join (Str.ofString " | ") ls) (Str.ofString " | ")=ls :=
 cut_join (o:=1) (by decide) (by decide +kernel) (by decide +kernel) (fun j hj=>by
  have:j=0:=by omega
  subst this
  decide +kernel) ne h
theorem join_mem {y:Str}{c:Nat} : ∀ {rs:List Str},c ∈ (Str.join y rs).cps.toList→c ∈ y.cps.toList ∨ ∃ p ∈ rs,c ∈ p.cps.toList
 | [],h=>by
  have h:c ∈ ([]:List Nat):=h
  cases h
 | [r],h => .inr ⟨r,by simp,h⟩
 | r::r'::rs,h=>by
  rw [join_two] at h
  rcases List.mem_append.mp h with h|h
  ·exact .inr ⟨r,by simp,h⟩
  ·rcases List.mem_append.mp h with h|h
   ·exact .inl h
   ·rcases join_mem h with h|⟨p,hp,h⟩
    ·exact .inl h
    ·exact .inr ⟨p,List.mem_cons_of_mem _ hp,h⟩
theorem row_free {ws:List Str} (h : ∀ p ∈ ws,124 ∉ p.cps.toList):124 ∉ (Txt.join (Str.ofString " ") ws).cps.toList:=fun z=>by
 have ej:Txt.join (Str.ofString " ") ws=Str.join (Str.ofString " ") ws:=StrLaws.glued_eq_join _ ws
 rw [ej] at z
 rcases join_mem z with z|⟨p,hp,z⟩
 ·exact absurd z (by decide +kernel)
 ·exact h p hp z
theorem nT_neg {p:Int} (h:p<0):(nT p).cps.toList=45::(nT (-p)).cps.toList:=by
 cases p with
 | ofNat m=>exact absurd h (by simp)
 | negSucc m =>
  have e : -(Int.negSucc m)=((m+1:Nat):Int):=rfl
  rw [e]
  unfold nT
  rw [PyProof.Rows.signs_ofString,PyProof.Rows.signs_ofString]
  show (("-" ++ Nat.repr (m+1)):String).toList.map Char.toNat=45::(Nat.repr (m+1)).toList.map Char.toNat
  rw [String.toList_append,List.map_append]
  rfl
theorem str_len0 (x:Str):x.length=x.cps.toList.length:=by rw [Array.length_toList];rfl
theorem cut_one {x y:Str} (h:x.cps.toList=45::y.cps.toList):cutS x (some 1) none=y:=by
 have lx:x.length=y.cps.toList.length+1:=by rw [str_len0 x,h,List.length_cons]
 have e:Builtin.Str.strSliceIndices (some 1) none 1 x.length=Builtin.Str.strSliceIndices (some ((1:Nat):Int)) (some (x.length:Int)) 1 x.length:=StrLaws.sliceIdx_none_hi _ _
 unfold cutS
 rw [e,if_neg]
 ·apply str_ext
  show ((Builtin.Str.strSliceIndices (some ((1:Nat):Int)) (some (x.length:Int)) 1 x.length).filterMap (x.cps[·]?))=y.cps.toList
  rw [StrLaws.sliced_plain x (by omega) (Nat.le_refl _),h]
  refine (List.take_of_length_le ?_).trans rfl
  show y.cps.toList.length≤_
  omega
 ·rw [StrLaws.strSliceIndices_plain (by omega) (Nat.le_refl _),List.length_map,List.length_range]
  omega
theorem int_long {p:Int}{k:Nat} (k1:1≤k) (hk:(p.natAbs:Int)<10^k):(nT p).length≤k+1:=by
 rcases Int.lt_or_le p 0 with h|h
 ·have:=(nT_long (p := -p) (by omega) k1 (by rw [show -p=((p.natAbs:Nat):Int) by omega];exact hk)).2
  rw [str_len0,nT_neg h,List.length_cons,← str_len0]
  omega
 ·have:=(nT_long h k1 (by rw [show p=((p.natAbs:Nat):Int) by omega];exact hk)).2
  omega
theorem int_reads {p:Int} (h:(p.natAbs:Int)<10^10):PySem.intText? (nT p)=some p:=by
 rcases Int.lt_or_le p 0 with z|z
 ·have hl:=int_long (p:=p) (k:=10) (by decide) h
  have l1:=nT_long (p := -p) (k:=10) (by omega) (by decide) (by rw [show -p=((p.natAbs:Nat):Int) by omega];exact h)
  have e:=PySem.intText_neg (nT_neg z) (nT_digit (p := -p) (by omega)) (fun y=>by rw [str_len0,y] at l1;exact absurd l1.1 (by decide)) (Nat.le_trans hl (by decide))
  rw [nT_signs (p := -p) (by omega),PySem.W.KIN.val_back,Int.toNat_of_nonneg (by omega),Int.neg_neg] at e
  exact e
 ·exact nT_reads z (by rw [show p=((p.natAbs:Nat):Int) by omega];exact h)
theorem int_free {p:Int}{c:Nat} (hc:c≠45∧(c<48∨57<c)):c ∉ (nT p).cps.toList:=fun z=>by
 rcases Int.lt_or_le p 0 with h|h
 ·rw [nT_neg h] at z
  rcases List.mem_cons.mp z with z|z
  ·exact hc.1 z
  ·exact nT_free (p := -p) (by omega) hc.2 z
 ·exact nT_free h hc.2 z
theorem dig_code {c:Nat} (h:48≤c∧c≤57):(Nat.digitChar (c-48)).toNat=c:=by
 have:c=48∨c=49∨c=50∨c=51∨c=52∨c=53∨c=54∨c=55∨c=56∨c=57:=by omega
 rcases this with rfl|rfl|rfl|rfl|rfl|rfl|rfl|rfl|rfl|rfl <;> decide
theorem digs_back : ∀ (k:Nat) (ds:List Nat),ds.length=k+1→(∀ c ∈ ds,48≤c∧c≤57)→ds[0]?≠some 48 → ∃ n,0<n∧n<10^(k+1)∧(Nat.toDigits 10 n).map Char.toNat=ds:=fun k=>by
 induction k with
 | zero =>
  intro ds hl hd h0
  match ds,hl with
  | [c],_ =>
   have hc:=hd c (List.mem_singleton.mpr rfl)
   have:c≠48:=fun z=>h0 (by rw [z];rfl)
   refine ⟨c-48,by omega,by omega,?_⟩
   rw [Nat.toDigits_of_lt_base (by omega)]
   show [_]=[c]
   rw [dig_code hc]
 | succ k ih =>
  intro ds hl hd h0
  have ne:ds≠[]:=fun z=>by rw [z] at hl;cases hl
  have e:=List.dropLast_concat_getLast ne
  have l1:ds.dropLast.length=k+1:=by rw [List.length_dropLast,hl];rfl
  obtain ⟨n,n0,n1,en⟩:=ih ds.dropLast l1 (fun c hc=>hd c (List.dropLast_subset _ hc)) (fun z=>h0 (by rw [← e,List.getElem?_append_left (by omega)];exact z))
  have hc:=hd _ (List.getLast_mem ne)
  refine ⟨10*n+(ds.getLast ne-48),by omega,?_,?_⟩
  ·have:10^(k+1+1)=10*10^(k+1):=by rw [Nat.pow_succ,Nat.mul_comm]
   omega
  ·rw [← Nat.toDigits_append_toDigits (by decide) n0 (by omega),List.map_append,en,Nat.toDigits_of_lt_base (by omega)]
   show ds.dropLast++[_]=ds
   rw [dig_code hc]
   exact e
theorem eqv_str {x y:Str}:PyData.eqv (.str x) (.str y)=true↔x=y:=by
 rw [PyData.eqv]
 simp
theorem mdo_dig {x:Str} (h:mdo x "0123456789" = true):x.cps.toList≠[] ∧ ∀ c ∈ x.cps.toList,48≤c∧c≤57:=by
 unfold mdo at h
 rw [Bool.and_eq_true,List.all_eq_true] at h
 refine ⟨fun z=>?_,fun c hc=>?_⟩
 ·have:x=Str.ofString "" := str_ext z
  rw [this] at h
  exact absurd h.1 (by decide +kernel)
 ·have:=h.2 c hc
  rw [has_one] at this
  have d:c ∈ (Str.ofString "0123456789").cps.toList:=of_decide_eq_true this
  have:(Str.ofString "0123456789").cps.toList=[48,49,50,51,52,53,54,55,56,57]:=by decide +kernel
  rw [this] at d
  simp at d
  omega
theorem pos_back {x:Str}{k:Nat} (h:mdo x "0123456789" = true) (hl:(x.length:Int)≤k) (h0:Txt.startswith x "0" = false) : ∃ p:Int,x=nT p∧0<p∧p<10^k:=by
 obtain ⟨ne,hd⟩:=mdo_dig h
 have h0:x.cps.toList[0]?≠some 48:=fun z=>by
  have:Txt.startswith x (chS 48)=true:=starts_one.mpr z
  have e:chS 48=Str.ofString "0":=by decide +kernel
  rw [e] at this
  rw [this] at h0
  cases h0
 have l0:0<x.cps.toList.length:=List.length_pos_iff.mpr ne
 obtain ⟨n,n0,n1,en⟩:=digs_back (x.cps.toList.length-1) x.cps.toList (by omega) hd h0
 have n2:n<10^k:=Nat.lt_of_lt_of_le n1 (Nat.pow_le_pow_right (by decide) (by rw [str_len0] at hl;omega))
 have n3:((10^k:Nat):Int)=10^k:=by simp
 refine ⟨n,str_ext ?_,by omega,by omega⟩
 rw [nT_signs (by omega),Int.toNat_natCast,en]
theorem num_back {x:Str}{k:Nat} (h:numB x k=true) : ∃ p:Int,x=nT p∧(p.natAbs:Int)<10^k:=by
 unfold numB at h
 rw [Bool.and_eq_true,Bool.and_eq_true,Bool.or_eq_true,decide_eq_true_eq] at h
 obtain ⟨⟨h1,h2⟩,h3⟩:=h
 by_cases hm:Txt.startswith x "-" = true
 ·have e:chS 45=Str.ofString "-":=by decide +kernel
  have s:x.cps.toList[0]?=some 45:=starts_one.mp (by rw [e];exact hm)
  cases ex:x.cps.toList with
  | nil=>rw [ex] at s;cases s
  | cons c t =>
   rw [ex] at s
   cases s
   have ec:=cut_one (x:=x) (y:=⟨t.toArray⟩) (by rw [ex])
   have ef:figS x=⟨t.toArray⟩:=by unfold figS;rw [if_pos hm];exact ec
   rw [ef] at h1 h2 h3
   have h3:Txt.startswith (⟨t.toArray⟩:Str) "0" = false:=by
    rcases h3 with z|z
    ·have e0:(Str.ofString "0").cps.toList=[48]:=by decide +kernel
     rw [eqv_str.mp z,e0] at ex
     simp at ex
    ·simpa using z
   obtain ⟨p,ep,p0,p1⟩:=pos_back h1 h2 h3
   refine ⟨-p,str_ext ?_,by rw [show (((-p).natAbs:Nat):Int)=p by omega];exact p1⟩
   rw [nT_neg (by omega),Int.neg_neg,← ep,ex]
 ·have ef:figS x=x:=if_neg hm
  rw [ef] at h1 h2 h3
  by_cases z:Txt.startswith x "0" = true
  ·rcases h3 with y|y
   ·refine ⟨0,(eqv_str.mp y).trans (by decide +kernel),?_⟩
    have:(0:Int)<10^k:=Int.pow_pos (by decide)
    simpa using this
   ·rw [z] at y;cases y
  ·obtain ⟨p,ep,p0,p1⟩:=pos_back h1 h2 (by simpa using z)
   exact ⟨p,ep,by rw [show ((p.natAbs:Nat):Int)=p by omega];exact p1⟩
def readS2 (a b w:Str):Option (Int×Int):=if numB a 6=true then (if numB b 6=true then (if PyData.eqv (.str b) (.str "0")=true then none else
 if PyData.eqv (.str (shTx (shT ((PySem.intText? a).getD 0) ((PySem.intText? b).getD 1)) (shB ((PySem.intText? a).getD 0) ((PySem.intText? b).getD 1)))) (.str w)=true then some (shT ((PySem.intText? a).getD 0) ((PySem.intText? b).getD 1),shB ((PySem.intText? a).getD 0) ((PySem.intText? b).getD 1)) else none) else none) else none
def readS (w:Str):Option (Int×Int):=match partS w "/" with
 | [a,s,b]=>readS2 a (if PyData.eqv (.str s) (.str "/")=true then b else "1") w
 | _=>none
def AscW (w:Str):Prop:=w.cps.all (· < 128)=true∧w.length≤900
theorem asc_all {w:Str}:w.cps.all (· < 128)=true ↔ ∀ c ∈ w.cps.toList,c<128:=by
 rw [Array.all_eq_true']
 simp
theorem AscW.sub {w x:Str} (h:AscW w) (hs : ∀ c ∈ x.cps.toList,c ∈ w.cps.toList) (hl:x.length≤w.length):AscW x:=⟨asc_all.mpr fun c hc=>asc_all.mp h.1 c (hs c hc),Nat.le_trans hl h.2⟩
theorem AscW.fig {w:Str} (h:AscW w):AscW (figS w):=by
 by_cases hm:Txt.startswith w "-" = true
 ·have e:chS 45=Str.ofString "-":=by decide +kernel
  have s:w.cps.toList[0]?=some 45:=starts_one.mp (by rw [e];exact hm)
  cases ex:w.cps.toList with
  | nil=>rw [ex] at s;cases s
  | cons c t =>
   rw [ex] at s
   cases s
   have ec:=cut_one (x:=w) (y:=⟨t.toArray⟩) (by rw [ex])
   have ef:figS w=⟨t.toArray⟩:=by unfold figS;rw [if_pos hm];exact ec
   rw [ef]
   exact h.sub (fun c hc=>by rw [ex];exact List.mem_cons_of_mem _ hc) (by rw [str_len0,str_len0 w,ex];simp)
 ·rw [show figS w=w from if_neg hm]
  exact h
theorem part_split (x:Str) : ∃ a s b,partS x "/" = [a,s,b]∧((47 ∉ x.cps.toList∧a=x∧s=Str.empty∧b=Str.empty)∨(x.cps.toList=a.cps.toList++47::b.cps.toList∧47 ∉ a.cps.toList∧s=Str.ofString "/")):=by
 have e:chS 47=Str.ofString "/":=by decide +kernel
 by_cases h:47 ∈ x.cps.toList
 ·obtain ⟨as,bs,e1,e2⟩:=List.eq_append_cons_of_mem h
  have:=part_at (x:=x) (a:=⟨as.toArray⟩) (b:=⟨bs.toArray⟩) (c:=47) (by simpa using e1) (by simpa using e2)
  rw [e] at this
  exact ⟨_,_,_,this,.inr ⟨by simpa using e1,by simpa using e2,rfl⟩⟩
 ·have:=part_none h
  rw [e] at this
  exact ⟨_,_,_,this,.inl ⟨h,rfl,rfl,rfl⟩⟩
theorem part3 {w:Str} (h:AscW w) : ∃ a s b,partS w "/" = [a,s,b]∧AscW a∧AscW s∧AscW b:=by
 have n:AscW Str.empty:=⟨by decide +kernel,by decide +kernel⟩
 obtain ⟨a,s,b,e,h2⟩:=part_split w
 refine ⟨a,s,b,e,?_⟩
 rcases h2 with ⟨_,rfl,rfl,rfl⟩|⟨ex,_,rfl⟩
 ·exact ⟨h,n,n⟩
 ·have l:=congrArg List.length ex
  rw [List.length_append,List.length_cons,← str_len0,← str_len0,← str_len0] at l
  exact ⟨h.sub (fun c hc=>by rw [ex];exact List.mem_append_left _ hc) (by omega),⟨by decide +kernel,by decide +kernel⟩,h.sub (fun c hc=>by rw [ex];exact List.mem_append_right _ (List.mem_cons_of_mem _ hc)) (by omega)⟩
theorem abs_part {c x t:Int} (h:c*x=t) (hc:c≠0):x.natAbs≤t.natAbs:=by
 rw [← h,Int.natAbs_mul]
 exact Nat.le_mul_of_pos_left _ (by omega)
theorem readS2_some {a b w:Str}{r:Int×Int} (h:readS2 a b w=some r):w=shTx r.1 r.2∧Shr r.1 r.2∧r.1.natAbs<1000000∧r.2<1000000:=by
 unfold readS2 at h
 split at h
 ·rename_i na
  split at h
  ·rename_i nb
   split at h
   ·cases h
   ·rename_i b0
    split at h
    ·rename_i ew
     obtain ⟨p,rfl,hp⟩:=num_back (k:=6) na
     obtain ⟨q,rfl,hq⟩:=num_back (k:=6) nb
     have i1:(10:Int)^6=1000000:=by decide
     have i2:(10:Int)^10=10000000000:=by decide
     have e1:PySem.intText? (nT p)=some p:=int_reads (by omega)
     have e2:PySem.intText? (nT q)=some q:=int_reads (by omega)
     rw [e1,e2] at h ew
     simp only [Option.getD_some] at h ew
     cases h
     have q0:q≠0:=fun z=>by rw [z] at b0;exact b0 (by decide +kernel)
     have:=abs_part (shT_mul p q) (cm_ne q0)
     have:=abs_part (shB_mul p q) (cm_ne q0)
     exact ⟨(eqv_str.mp ew).symm,(sh_ok q0).1,by omega,by omega⟩
    ·cases h
  ·cases h
 ·cases h
theorem readS_some {w:Str}{r:Int×Int} (h:readS w=some r):w=shTx r.1 r.2∧Shr r.1 r.2∧r.1.natAbs<1000000∧r.2<1000000:=by
 obtain ⟨a,s,b,e,_⟩:=part_split w
 unfold readS at h
 rw [e] at h
 exact readS2_some h
theorem readS_good {p q:Int} (sh:Shr p q) (p0:0≤p) (p1:p<1000000) (q1:q<1000000):readS (shTx p q)=some (p,q):=by
 have q2:=sh.pos
 have np:numB (nT p) 6=true:=nT_num (k:=6) p0 (by decide) (by simpa using p1)
 have nq:numB (nT q) 6=true:=nT_num (k:=6) (by omega) (by decide) (by simpa using q1)
 have i2:(10:Int)^10=10000000000:=by decide
 have e1:PySem.intText? (nT p)=some p:=int_reads (by omega)
 have e2:PySem.intText? (nT q)=some q:=int_reads (by omega)
 obtain ⟨s1,s2⟩:=shr_self sh
 have two:readS2 (nT p) (nT q) (shTx p q)=some (p,q):=by
  unfold readS2
  rw [if_pos np,if_pos nq,if_neg (by rw [nT_ne0 q2];decide),e1,e2]
  simp only [Option.getD_some]
  rw [s1,s2,if_pos (eqv_str.mpr rfl)]
 by_cases hq:q=1
 ·have ex:shTx p q=nT p:=if_pos hq
  have ep:partS (shTx p q) (Str.ofString "/")=[nT p,Str.empty,Str.empty]:=by
   rw [ex]
   exact part_none (c:=47) (nT_free p0 (by omega))
  unfold readS
  rw [ep]
  have e1':Str.ofString "1" = nT q:=by rw [hq];rfl
  dsimp only
  rw [if_neg (by decide +kernel),e1']
  exact two
 ·have ep:partS (shTx p q) (Str.ofString "/")=[nT p,chS 47,nT q]:=part_at (c:=47) (shTx_list hq) (nT_free p0 (by omega))
  have es:chS 47=Str.ofString "/":=by decide +kernel
  rw [es] at ep
  unfold readS
  rw [ep]
  dsimp only
  rw [if_pos (eqv_str.mpr rfl)]
  exact two
theorem shTx_signs {p q:Int}{c:Nat} (h:c ∈ (shTx p q).cps.toList):c=45∨c=47∨(48≤c∧c≤57):=by
 apply Classical.byContradiction
 intro z
 by_cases hq:q=1
 ·rw [show shTx p q=nT p from if_pos hq] at h
  exact int_free (by omega) h
 ·rw [shTx_list hq] at h
  rcases List.mem_append.mp h with h|h
  ·exact int_free (by omega) h
  ·rcases List.mem_cons.mp h with h|h
   ·omega
   ·exact int_free (by omega) h
theorem readS_bad {w:Str}{c:Nat} (h:c ∈ w.cps.toList) (hc:c≠45∧c≠47∧(c<48∨57<c)):readS w=none:=by
 cases e:readS w with
 | none=>rfl
 | some r =>
  rw [(readS_some e).1] at h
  have:=shTx_signs h
  omega
def rowsW (x:Str):List (List Str):=(Txt.split x (Str.ofString " | ")).map fun r=>Txt.split r (Str.ofString " ")
def flatW:List (List Str)→List Str
 | []=>[]
 | [r]=>r
 | r::s::rs=>r++Str.ofString "|" :: flatW (s::rs)
theorem split_ne (x y:Str):Txt.split x y≠[]:=fun z=>by
 have:=PyProof.Rows.split_pos x y
 rw [z] at this
 exact absurd this (by decide)
theorem split_noblank (x:Str) : ∀ p ∈ Txt.split x (Str.ofString " "),32 ∉ p.cps.toList:=fun p hp=>by
 have e:Str.ofString " " = ⟨#[32]⟩:=by decide +kernel
 rw [e] at hp
 exact StrLaws.split_free x 32 p hp
theorem join_app {y:Str} : ∀ {as bs:List Str},as≠[]→bs≠[]→(Str.join y (as++bs)).cps.toList=(Str.join y as).cps.toList++(y.cps.toList++(Str.join y bs).cps.toList)
 | [],_,h,_=>absurd rfl h
 | [a],b::bs,_,_=>join_two y a b bs
 | a::a'::as,bs,_,hb=>by
  show (Str.join y (a::a'::(as++bs))).cps.toList=_
  rw [join_two,join_two]
  have:=join_app (y:=y) (as:=a'::as) (bs:=bs) (by simp) hb
  rw [show a'::(as++bs)=a'::as++bs from rfl,this]
  simp [List.append_assoc]
theorem flat_ne : ∀ {R:List (List Str)},R≠[]→(∀ r ∈ R,r≠[])→flatW R≠[]
 | [],h,_=>absurd rfl h
 | [r],_,h=>h r (by simp)
 | r::s::rs,_,h=>fun z=>by
  have:r++Str.ofString "|" :: flatW (s::rs)=[]:=z
  simp at this
theorem join_flat : ∀ {R:List (List Str)},R≠[]→(∀ r ∈ R,r≠[])→(Str.join (Str.ofString " ") (flatW R)).cps.toList=(Str.join (Str.ofString " | ") (R.map fun r=>Str.join (Str.ofString " ") r)).cps.toList
 | [],h,_=>absurd rfl h
 | [r],_,h=>rfl
 | r::s::rs,_,h=>by
  have ih:=join_flat (R:=s::rs) (by simp) (fun q hq=>h q (List.mem_cons_of_mem _ hq))
  have fn:=flat_ne (R:=s::rs) (by simp) (fun q hq=>h q (List.mem_cons_of_mem _ hq))
  show (Str.join (Str.ofString " ") (r++Str.ofString "|" :: flatW (s::rs))).cps.toList=_
  rw [join_app (h r (by simp)) (by simp),show (Str.ofString "|" :: flatW (s::rs))=[Str.ofString "|"]++flatW (s::rs) from rfl,join_app (by simp) fn,ih]
  simp only [List.map_cons]
  rw [join_two]
  have e1:(Str.ofString " ").cps.toList=[32]:=by decide +kernel
  have e2:(Str.join (Str.ofString " ") [Str.ofString "|"]).cps.toList=[124]:=by decide +kernel
  have e3:(Str.ofString " | ").cps.toList=[32,124,32]:=by decide +kernel
  rw [e1,e2,e3]
  simp [List.append_assoc]
theorem rowsW_ne (x:Str):rowsW x≠[] ∧ ∀ r ∈ rowsW x,r≠[]:=by
 refine ⟨fun z=>split_ne x _ (List.map_eq_nil_iff.mp z),fun r hr=>?_⟩
 obtain ⟨t,_,rfl⟩:=List.mem_map.mp hr
 exact split_ne _ _
theorem rowsW_noblank (x:Str) : ∀ r ∈ rowsW x,∀ w ∈ r,32 ∉ w.cps.toList:=fun r hr w hw=>by
 obtain ⟨t,_,rfl⟩:=List.mem_map.mp hr
 exact split_noblank t w hw
theorem flat_noblank : ∀ {R:List (List Str)},(∀ r ∈ R,∀ w ∈ r,32 ∉ w.cps.toList) → ∀ w ∈ flatW R,32 ∉ w.cps.toList
 | [],_,w,hw=>by cases hw
 | [r],h,w,hw=>h r (by simp) w hw
 | r::s::rs,h,w,hw=>by
  have hw:w ∈ r++Str.ofString "|" :: flatW (s::rs):=hw
  rcases List.mem_append.mp hw with z|z
  ·exact h r (by simp) w z
  ·rcases List.mem_cons.mp z with z|z
   ·rw [z];decide +kernel
   ·exact flat_noblank (fun q hq=>h q (List.mem_cons_of_mem _ hq)) w z
theorem rowsW_join (x:Str):Txt.join (Str.ofString " ") (flatW (rowsW x))=x:=by
 obtain ⟨h1,h2⟩:=rowsW_ne x
 have ej:Txt.join (Str.ofString " ") (flatW (rowsW x))=Str.join (Str.ofString " ") (flatW (rowsW x)):=StrLaws.glued_eq_join _ _
 rw [ej]
 refine str_ext ((join_flat h1 h2).trans ?_)
 unfold rowsW
 rw [List.map_map]
 have e:((fun r=>Str.join (Str.ofString " ") r) ∘ fun r=>Txt.split r (Str.ofString " "))=id:=funext fun r=>StrLaws.join_split r _
 rw [e,List.map_id,StrLaws.join_split]
theorem toks (x:Str):Txt.split x (Str.ofString " ")=flatW (rowsW x):=by
 obtain ⟨h1,h2⟩:=rowsW_ne x
 have:=(cut_row (flat_ne h1 h2) (flat_noblank (rowsW_noblank x))).2
 rw [rowsW_join] at this
 exact this
theorem flat_mem : ∀ {R:List (List Str)}{w:Str},w ∈ flatW R→w=Str.ofString "|" ∨ ∃ r ∈ R,w ∈ r
 | [],w,hw=>by cases hw
 | [r],w,hw => .inr ⟨r,by simp,hw⟩
 | r::s::rs,w,hw=>by
  have hw:w ∈ r++Str.ofString "|" :: flatW (s::rs):=hw
  rcases List.mem_append.mp hw with z|z
  ·exact .inr ⟨r,by simp,z⟩
  ·rcases List.mem_cons.mp z with z|z
   ·exact .inl z
   ·rcases flat_mem z with z|⟨q,hq,z⟩
    ·exact .inl z
    ·exact .inr ⟨q,List.mem_cons_of_mem _ hq,z⟩
theorem split_len_le (x y:Str) (hy:1≤y.length) : ∀ p ∈ Txt.split x y,p.length≤x.length:=fun p hp=>by
 have h:=PyProof.Rows.split_weight x y hy
 have h2:p.length≤((Txt.split x y).map (·.length)).sum:=by
  have : ∀ (l:List Nat) (n:Nat),n ∈ l→n≤l.sum:=fun l=>by
   induction l with
   | nil=>intro n hn;cases hn
   | cons a l ih =>
    intro n hn
    rw [List.sum_cons]
    rcases List.mem_cons.mp hn with z|z
    ·omega
    ·have:=ih n z;omega
  exact this _ _ (List.mem_map.mpr ⟨p,hp,rfl⟩)
 have h3:=PyProof.Rows.split_pos x y
 omega
theorem split_size (x y:Str):(Builtin.Str.partsBetween x (Builtin.Str.occurrences x y 0 x.length (x.length+1)) y.length).length≤x.length+2∧(Txt.split x y).length≤x.length+2:=by
 refine ⟨?_,PyProof.Rows.split_le x y⟩
 rw [PyProof.Rows.len_partsBetween]
 have:=StrLaws.occ_length_le x y 0 x.length (x.length+1)
 omega
theorem join_has {y p:Str}{c:Nat} : ∀ {rs:List Str},p ∈ rs→c ∈ p.cps.toList→c ∈ (Str.join y rs).cps.toList
 | [],h,_=>by cases h
 | [r],h,hc=>by
  rw [List.mem_singleton.mp h] at hc
  exact hc
 | r::r'::rs,h,hc=>by
  rw [join_two]
  rcases List.mem_cons.mp h with z|z
  ·rw [z] at hc
   exact List.mem_append_left _ hc
  ·exact List.mem_append_right _ (List.mem_append_right _ (join_has z hc))
def TxtOk (x:Str):Prop:=x.cps.all (· < 128)=true∧x.length≤800
theorem word_ok {x:Str} (h:TxtOk x) {r:List Str} (hr:r ∈ rowsW x) {w:Str} (hw:w ∈ r):AscW w:=by
 obtain ⟨t,ht,rfl⟩:=List.mem_map.mp hr
 refine ⟨asc_all.mpr fun c hc=>asc_all.mp h.1 c ?_,?_⟩
 ·rw [← StrLaws.join_split x (Str.ofString " | ")]
  refine join_has ht ?_
  rw [← StrLaws.join_split t (Str.ofString " ")]
  exact join_has hw hc
 ·have:=split_len_le x _ (by decide) t ht
  have:=split_len_le t _ (by decide) w hw
  have:=h.2
  omega
theorem rows_len (x:Str):(rowsW x).length≤x.length+1 ∧ ∀ r ∈ rowsW x,r.length≤x.length+1:=by
 have one : ∀ x y:Str,1≤y.length→(Txt.split x y).length≤x.length+1:=fun x y h=>by
  have:=PyProof.Rows.split_weight x y h
  omega
 refine ⟨by unfold rowsW;rw [List.length_map];exact one x _ (by decide),fun r hr=>?_⟩
 obtain ⟨t,ht,rfl⟩:=List.mem_map.mp hr
 have:=split_len_le x _ (by decide) t ht
 have:=one t (Str.ofString " ") (by decide)
 omega
section
variable {α:Type}{rd:Str→Option α}
theorem read_at {x:Str}{V:List (List α)} (h:(rowsW x).map (fun r=>r.map rd)=V.map fun r=>r.map some):V.length=(rowsW x).length ∧ ∀ (i:Nat) r,(rowsW x)[i]?=some r → ∃ v,V[i]?=some v∧r.map rd=v.map some:=by
 refine ⟨by have:=congrArg List.length h;simpa using this.symm,fun i r hr=>?_⟩
 have:=congrArg (fun l=>l[i]?) h
 simp only [List.getElem?_map,hr,Option.map_some] at this
 cases ev:V[i]? with
 | none=>rw [ev] at this;cases this
 | some v=>rw [ev] at this;exact ⟨v,rfl,by simpa using this⟩
theorem read_row {r:List Str}{v:List α} (h:r.map rd=v.map some):r.length=v.length∧(∀ w ∈ r,rd w≠none) ∧ ∀ z ∈ v,∃ w ∈ r,rd w=some z:=by
 refine ⟨by have:=congrArg List.length h;simpa using this,fun w hw z=>?_,fun z hz=>?_⟩
 ·have:rd w ∈ v.map some:=by rw [← h];exact List.mem_map.mpr ⟨w,hw,rfl⟩
  rw [z] at this
  simp at this
 ·have:some z ∈ r.map rd:=by rw [h];exact List.mem_map.mpr ⟨z,hz,rfl⟩
  obtain ⟨w,hw,e⟩:=List.mem_map.mp this
  exact ⟨w,hw,e⟩
theorem some_map_inj {a b:List α} (h:a.map some=b.map some):a=b:=by
 have:=congrArg (fun l=>l.filterMap id) h
 simpa using this
def WdT (rd:Str→Option α) (g:α→PyData) (d y:PyData):Prop := ∃ w r,d = .str w∧rd w=some r∧y=g r
def RwT (rd:Str→Option α) (g:α→PyData) (mk:List PyData→PyData) (d y:PyData):Prop := ∃ (ws:List Str) (rs:List α),d = .list (ws.map .str)∧ws.map rd=rs.map some∧y=mk (rs.map g)
theorem wdt_row {g:α→PyData}{ws:List Str}{L:List PyData} (hl:L.length=(ws.map PyData.str).length) (h : ∀ (i:Nat) d,(ws.map PyData.str)[i]?=some d → ∃ y,L[i]?=some y∧WdT rd g d y) : ∃ rs:List α,ws.map rd=rs.map some∧L=rs.map g:=by
 induction ws generalizing L with
 | nil=>exact ⟨[],rfl,by simpa using hl⟩
 | cons a ws ih =>
  match L,hl with
  | y::L,hl =>
   obtain ⟨y',e1,w,r,e2,e3,e4⟩:=h 0 (.str a) rfl
   cases e1
   cases e2
   obtain ⟨rs,h1,h2⟩:=ih (L:=L) (by simpa using hl) fun i d hd=>h (i+1) d (by simpa using hd)
   exact ⟨r::rs,by rw [List.map_cons,List.map_cons,e3,h1],by rw [List.map_cons,← h2,e4]⟩
theorem rwt_at {g:α→PyData}{mk:List PyData→PyData}{x:Str}{L:List PyData} (hr : ∀ (i:Nat) d,((rowsW x).map fun ws=>PyData.list (ws.map .str))[i]?=some d → ∃ y,L[i]?=some y∧RwT rd g mk d y) (i:Nat) (ws:List Str) (hw:(rowsW x)[i]?=some ws) : ∃ rs:List α,L[i]?=some (mk (rs.map g))∧ws.map rd=rs.map some:=by
 obtain ⟨y,h1,ws',rs,h2,h3,h4⟩:=hr i (.list (ws.map .str)) (by rw [List.getElem?_map,hw];rfl)
 have e:ws=ws':=(List.map_inj_right fun _ _ z=>PyData.str.inj z).mp (PyData.list.inj h2)
 subst e
 exact ⟨rs,by rw [h1,h4],h3⟩
end
def ReadT (x:Str) (V:List (List (Int×Int))):Prop:=(rowsW x).map (fun r=>r.map readS)=V.map fun r=>r.map some
def BadT (x:Str):Prop := ∃ r ∈ rowsW x,∃ w ∈ r,readS w=none
theorem read_not_bad {x:Str}{V:List (List (Int×Int))} (h:ReadT x V) : ¬ BadT x:=fun xx184=>by
 obtain ⟨r,hr,w,hw,hn⟩:=xx184
 obtain ⟨i,hi⟩:=List.getElem?_of_mem hr
 obtain ⟨v,_,e⟩:=(read_at h).2 i r hi
 exact (read_row e).2.1 w hw hn
def badWords:List Str:=["2/4","3/3","0/5","1/1","-1/2","01","00","1/02","1/0","/2","1/","1//2","1/2/3","+1","1.0","","1000000","1/1000000","1000000/3","3/2","2","1_0","1e0","a/b","1/-2","-0","0x1","x","1 /2","1/7919","7918/7919","1/ 2","|","1|","|1","1,2","\n1","1\n"].map Str.ofString
def sp__law_bad_words (ds:List PyData) (k:PyData→Prop):Prop:=ds=[]∧k (.list (badWords.map .str))
theorem sc__law_bad_words:FnScope ["_law_some"] [] (defScope s__law_bad_words):=sc0
theorem ok__law_bad_words (F:Def K mg "_law_bad_words" s__law_bad_words []) (T:Txt K mg cs)
 : Ok P w K mg base "_law_bad_words" 1 [] (PSp K sp__law_bad_words):=by
  refine F.vok sc__law_bad_words (by rintro ds q ⟨h,_⟩;rw [h];rfl) fun f cdv A outer s H E hr ds k h=>?_
  obtain ⟨rfl,h⟩:=h
  refine ⟨_,(vss_cons (vs_set (i:=0) sc__law_bad_words.nd (vf_fz (vf_lst (va_cons ve_str (va_cons ve_str (va_cons ve_str (va_cons ve_str (va_cons ve_str (va_cons ve_str (va_cons ve_str (va_cons ve_str (va_cons ve_str (va_cons ve_str (va_cons ve_str (va_cons ve_str (va_cons ve_str (va_cons ve_str (va_cons ve_str va_nil))))))))))))))))))
   (vss_cons (vs_set (i:=0) sc__law_bad_words.nd (vf_fz (vf_cat (ve_var 0) (vf_fz (vf_lst (va_cons ve_str (va_cons ve_str (va_cons ve_str (va_cons ve_str (va_cons ve_str (va_cons ve_str (va_cons ve_str (va_cons ve_str (va_cons ve_str (va_cons ve_str (va_cons ve_str (va_cons ve_str va_nil)))))))))))))))))
   (vss_cons (vs_set (i:=0) sc__law_bad_words.nd (vf_fz (vf_cat (ve_var 0) (vf_fz (vf_lst (va_cons ve_str (va_cons ve_str (va_cons ve_str (va_cons ve_str va_nil)))))))))
   (vss_one (vs_ret (vf_fz (vf_cat (ve_var 0) (vf_fz (vf_lst (va_cons ve_str (va_cons ve_str (va_cons ve_str (va_cons ve_str (va_cons ve_str (va_cons ve_str (va_cons ve_str va_nil)))))))))))))))),?_⟩
  have z:100≤sizeLine:=sz_line (k:=100) (Nat.le_refl _) (by decide)
  exact ⟨szl,szl,Nat.le_trans (show _≤100 by decide) z,szl,Nat.le_trans (show _≤100 by decide) z,szl,Nat.le_trans (show _≤100 by decide) z,h⟩
structure Bd (m w:Nat) (Ls:List (List Int)) (ss:List Int):Prop where
 l:Ls.length=m
 s:ss.length=m
 w : ∀ r ∈ Ls,r.length=w
 z : ∀ r ∈ Ls,∀ x ∈ r,intBits x≤2000
section
variable {Ls:List (List Int)}{ss:List Int}{w p i r:Nat}
end
theorem bot_next {B q d:Int} (hB:0<B) (hq:0<q) (h1:B∣d) (h2:q∣d):0<B*q/(Int.gcd B q:Int)∧B*q/(Int.gcd B q:Int)∣d∧B∣B*q/(Int.gcd B q:Int)∧q∣B*q/(Int.gcd B q:Int):=by
 obtain ⟨x,rfl⟩:=Int.eq_ofNat_of_zero_le (Int.le_of_lt hB)
 obtain ⟨y,rfl⟩:=Int.eq_ofNat_of_zero_le (Int.le_of_lt hq)
 have e:(x:Int)*(y:Int)/(Int.gcd x y:Int)=((Nat.lcm x y:Nat):Int):=by
  unfold Nat.lcm
  rw [Int.gcd_natCast_natCast,Int.natCast_ediv,Int.natCast_mul]
 rw [e]
 have p:0<Nat.lcm x y:=Nat.lcm_pos (by omega) (by omega)
 refine ⟨by omega,?_,Int.natCast_dvd_natCast.mpr (Nat.dvd_lcm_left x y),Int.natCast_dvd_natCast.mpr (Nat.dvd_lcm_right x y)⟩
 rw [Int.ofNat_dvd_left] at h1 h2 ⊢
 exact Nat.lcm_dvd h1 h2
section
variable {b:Int}{R:List (List Int)}{m:Nat}{c:Int}{S:List (List Int)}{n:Nat}
structure LcmB (V:List (List (Int×Int))) (B:Int):Prop where
 pos:0<B
 dv : ∀ r ∈ V,∀ x ∈ r,x.2∣B
 un : ∀ d:Int,(∀ r ∈ V,∀ x ∈ r,x.2∣d)→B∣d
def overB (B:Int) (r:List (Int×Int)):List Int:=r.map fun x=>x.1*(B/x.2)
end
def dS (x:Int×Int):PyData:=dSh x.1 x.2
theorem shG {vs:List (Int×Int)}{i:Nat}{x:PyData} (h:(vs.map dS)[i]?=some x) : ∃ y,vs[i]?=some y∧x=dSh y.1 y.2:=by
 rw [List.getElem?_map] at h
 cases q:vs[i]? with
 | none=>rw [q] at h;cases h
 | some y=>rw [q] at h;exact ⟨y,rfl,(Option.some.inj h).symm⟩
theorem dvdB {x d:Int}{m:Nat} (h:x∣d) (d0:0<d) (z:intBits d≤m):intBits x≤m :=
 intBits_le_of_natAbs (Nat.le_of_dvd (by omega) (Int.natAbs_dvd_natAbs.mpr h)) z
def RowsS (d:PyData) (V:List (List (Int×Int))):Prop := ∃ l,seqD d=some l∧l.length=V.length ∧ ∀ (i:Nat) (x:PyData),l[i]?=some x → ∃ r:List (Int×Int),V[i]?=some r∧seqD x=some (r.map dS)
structure LcmL (xs:List (Int×Int)) (B:Int):Prop where
 pos:0<B
 dv : ∀ x ∈ xs,x.2∣B
 un : ∀ d:Int,(∀ x ∈ xs,x.2∣d)→B∣d
theorem LcmL.nil:LcmL [] 1:=⟨by decide,fun x hx=>by simp at hx,fun d _=>⟨d,by omega⟩⟩
theorem LcmL.snoc {xs:List (Int×Int)}{B:Int}{y:Int×Int} (h:LcmL xs B) (hy:0<y.2):LcmL (xs++[y]) (B*y.2/(Int.gcd B y.2:Int)):=by
 have k:=bot_next (d:=B*y.2) h.pos hy ⟨_,rfl⟩ ⟨B,Int.mul_comm _ _⟩
 refine ⟨k.1,fun x hx=>?_,fun d hd=>(bot_next h.pos hy (h.un d fun x hx=>hd x (List.mem_append.mpr (.inl hx))) (hd y (by simp))).2.1⟩
 rcases List.mem_append.mp hx with q|q
 ·exact Int.dvd_trans (h.dv x q) k.2.2.1
 ·rw [List.mem_singleton.mp q];exact k.2.2.2
theorem LcmL.b {V:List (List (Int×Int))}{B:Int} (h:LcmL V.flatten B):LcmB V B :=
 ⟨h.pos,fun r hr x hx=>h.dv x (List.mem_flatten.mpr ⟨r,hr,hx⟩),fun d hd=>h.un d fun x hx=>by
  obtain ⟨r,hr,hx⟩:=List.mem_flatten.mp hx
  exact hd r hr x hx⟩
theorem takeF {V:List (List (Int×Int))}{i:Nat}{r:List (Int×Int)} (h:V[i]?=some r):(V.take (i+1)).flatten=(V.take i).flatten++r:=by
 rw [List.take_add_one,h];simp
theorem takeS {α:Type}{zs:List α}{i:Nat}{z:α} (h:zs[i]?=some z):zs.take (i+1)=zs.take i++[z]:=by
 rw [List.take_add_one,h];rfl
def shR (b:Int) (r:List Int):List (Int×Int):=r.map fun x=>(shT x b,shB x b)
theorem tab_back {b B:Int}{R:List (List Int)}{n:Nat} (hT:Tab b R n) (hR:R≠[]) (hB:LcmB (R.map (shR b)) B):B=b/gTab R∧(R.map (shR b)).map (overB B)=divT R (gTab R):=by
 have g0:=hT.gpos hR
 have gb:=hT.gdvd hR
 have b0:=hT.pos
 have lo:=(hT.low hR).pos
 have B0:=hB.pos
 have ec:(gTab R:Int)*(b/gTab R)=b:=Int.mul_ediv_cancel' gb
 have gl:=gTab_low g0
 have key : ∀ r ∈ R,∀ x ∈ r,Shr (shT x b) (shB x b)∧shT x b*(b/gTab R)=x/gTab R*shB x b:=fun r hr x hx=>by
  obtain ⟨s,e⟩:=sh_ok (t:=x) (b:=b) (by omega)
  refine ⟨s,?_⟩
  have ex:(gTab R:Int)*(x/gTab R)=x:=Int.mul_ediv_cancel' (gTab_dvd hr hx)
  have:(gTab R:Int)*(shT x b*(b/gTab R))=gTab R*(x/gTab R*shB x b):=by
   calc (gTab R:Int)*(shT x b*(b/gTab R))=shT x b*(gTab R*(b/gTab R)):=by grind
    _=x*shB x b:=by rw [ec,e]
    _=(gTab R*(x/gTab R))*shB x b:=by rw [ex]
    _=_:=by grind
  exact Int.eq_of_mul_eq_mul_left (by omega) this
 have hd:B∣b/gTab R:=hB.un _ fun r' hr' z hz=>by
  obtain ⟨r,hr,rfl⟩:=List.mem_map.mp hr'
  obtain ⟨x,hx,rfl⟩:=List.mem_map.mp hz
  obtain ⟨s,e⟩:=key r hr x hx
  exact dvd_cop s.gcd ⟨x/gTab R,by show shT x b*(b/gTab R)=shB x b*_;rw [e,Int.mul_comm]⟩
 obtain ⟨m,hm⟩:=hd
 have m0:0<m:=by
  rcases Int.lt_or_le 0 m with q|q
  ·exact q
  ·have:=Int.mul_nonneg (Int.le_of_lt B0) (show 0 ≤ -m by omega)
   rw [Int.mul_neg] at this
   omega
 obtain ⟨k,rfl⟩:=Int.eq_ofNat_of_zero_le (Int.le_of_lt m0)
 have ent : ∀ r ∈ R,∀ x ∈ r,(k:Int)*(shT x b*(B/shB x b))=x/gTab R:=fun r hr x hx=>by
  obtain ⟨s,e⟩:=key r hr x hx
  have q0:=s.pos
  obtain ⟨u,hu⟩:=hB.dv _ (List.mem_map.mpr ⟨r,hr,rfl⟩) _ (List.mem_map.mpr ⟨x,hx,rfl⟩)
  have hu:B=shB x b*u:=hu
  rw [hm] at e
  have eu:B/shB x b=u:=by rw [hu];exact Int.mul_ediv_cancel_left _ (by omega)
  rw [eu]
  have:(k*(shT x b*u))*shB x b=x/gTab R*shB x b:=by
   rw [← e]
   conv=>rhs;rw [hu]
   grind
  exact Int.eq_of_mul_eq_mul_right (by omega) this
 have eT:divT R (gTab R)=((R.map (shR b)).map (overB B)).map fun r=>r.map fun y=>(k:Int)*y:=by
  unfold divT
  rw [List.map_map,List.map_map]
  refine List.map_congr_left fun r hr=>?_
  show _=((shR b r).map fun z=>z.1*(B/z.2)).map fun y=>(k:Int)*y
  unfold shR
  rw [List.map_map,List.map_map]
  exact List.map_congr_left fun x hx=>(ent r hr x hx).symm
 rw [eT,gTab_mul] at gl
 have k1:k=1:=Nat.dvd_one.mp ⟨_,gl.symm⟩
 subst k1
 refine ⟨by rw [hm];exact (Int.mul_one B).symm,?_⟩
 rw [eT]
 refine (map_eq_self fun r _=>map_eq_self fun y _=>?_).symm
 exact Int.one_mul y
def D0ok (V:List (List (Int×Int))) (D0:Int):Prop:=0<D0∧intBits D0≤4000 ∧ ∀ r ∈ V,∀ z ∈ r,z.2∣D0
def OddV (V:List (List (Int×Int))):Prop:=(∃ r ∈ V,∃ s ∈ V,r.length≠s.length)∨(∃ r ∈ V,12<r.length) ∨ ∃ r ∈ V,∀ B,LcmB V B→(overB B r).sum≠B
def Spoilt (x:Str):Prop:=TxtOk x∧(BadT x ∨ ∃ V D0,ReadT x V∧D0ok V D0∧OddV V)
theorem bad_tok {x t:Str} (h:t ∈ Txt.split x (Str.ofString " ")) (ht:t≠Str.ofString "|") (hr:readS t=none):BadT x:=by
 rw [toks] at h
 rcases flat_mem h with z|⟨r,h1,h2⟩
 ·exact absurd z ht
 ·exact ⟨r,h1,t,h2,hr⟩
theorem bad_join {ts:List Str}{t:Str} (h:t ∈ ts) (hf : ∀ p ∈ ts,32 ∉ p.cps.toList) (ht:t≠Str.ofString "|") (hr:readS t=none):BadT (Txt.join (Str.ofString " ") ts) :=
 bad_tok (by rw [(cut_row (fun z=>by rw [z] at h;cases h) hf).2];exact h) ht hr
theorem bar_bad:readS (Str.ofString "|")=none:=by decide +kernel
theorem flat_head : ∀ {R:List (List Str)}{t:Str}{ts:List Str},R≠[]→(∀ r ∈ R,r≠[])→flatW R=t::ts → ∃ r ∈ R,t ∈ r
 | [],_,_,h,_,_=>absurd rfl h
 | [r],t,ts,_,_,e=>⟨r,by simp,by rw [show flatW [r]=r from rfl] at e;rw [e];simp⟩
 | r::s::rs,t,ts,_,h,e=>by
  refine ⟨r,by simp,?_⟩
  have e:r++Str.ofString "|" :: flatW (s::rs)=t::ts:=e
  cases r with
  | nil=>exact absurd rfl (h [] (by simp))
  | cons a r=>cases e;simp
theorem flat_last : ∀ {R:List (List Str)}{t:Str}{ts:List Str},R≠[]→(∀ r ∈ R,r≠[])→flatW R=ts++[t] → ∃ r ∈ R,t ∈ r
 | [],_,_,h,_,_=>absurd rfl h
 | [r],t,ts,_,_,e=>⟨r,by simp,by rw [show flatW [r]=r from rfl] at e;rw [e];simp⟩
 | r::s::rs,t,ts,_,h,e=>by
  have e:r++Str.ofString "|" :: flatW (s::rs)=ts++[t]:=e
  have fn:=flat_ne (R:=s::rs) (by simp) (fun q hq=>h q (List.mem_cons_of_mem _ hq))
  have e2:=List.dropLast_concat_getLast fn
  rw [← e2,show r++Str.ofString "|" :: ((flatW (s::rs)).dropLast++[(flatW (s::rs)).getLast fn])=(r++Str.ofString "|" :: (flatW (s::rs)).dropLast)++[(flatW (s::rs)).getLast fn] by simp] at e
  have e3:(flatW (s::rs)).getLast fn=t:=by
   have:=(List.append_inj' e rfl).2
   simpa using this
  rw [e3] at e2
  obtain ⟨q,h1,h2⟩:=flat_last (R:=s::rs) (by simp) (fun q hq=>h q (List.mem_cons_of_mem _ hq)) e2.symm
  exact ⟨q,List.mem_cons_of_mem _ h1,h2⟩
theorem bar_first {ts:List Str} (hf : ∀ p ∈ ts,32 ∉ p.cps.toList):BadT (Txt.join (Str.ofString " ") (Str.ofString "|" :: ts)):=by
 have e:=(cut_row (ws:=Str.ofString "|" :: ts) (by simp) (fun p hp=>by
  rcases List.mem_cons.mp hp with z|z
  ·rw [z];decide +kernel
  ·exact hf p z)).2
 rw [toks] at e
 obtain ⟨h1,h2⟩:=rowsW_ne (Txt.join (Str.ofString " ") (Str.ofString "|" :: ts))
 obtain ⟨r,hr,ht⟩:=flat_head h1 h2 e
 exact ⟨r,hr,_,ht,bar_bad⟩
theorem bar_last {ts:List Str} (hf : ∀ p ∈ ts,32 ∉ p.cps.toList):BadT (Txt.join (Str.ofString " ") (ts++[Str.ofString "|"])):=by
 have e:=(cut_row (ws:=ts++[Str.ofString "|"]) (by simp) (fun p hp=>by
  rcases List.mem_append.mp hp with z|z
  ·exact hf p z
  ·rw [List.mem_singleton.mp z];decide +kernel)).2
 rw [toks] at e
 obtain ⟨h1,h2⟩:=rowsW_ne (Txt.join (Str.ofString " ") (ts++[Str.ofString "|"]))
 obtain ⟨r,hr,ht⟩:=flat_last h1 h2 e
 exact ⟨r,hr,_,ht,bar_bad⟩
theorem lay_flat {R:List (List Str)} (h1:R≠[]) (h2 : ∀ r ∈ R,r≠[]):layT R=Txt.join (Str.ofString " ") (flatW R):=by
 have e1:Txt.join (Str.ofString " ") (flatW R)=Str.join (Str.ofString " ") (flatW R):=StrLaws.glued_eq_join _ _
 have e2:layT R=Str.join (Str.ofString " | ") (R.map fun r=>Str.join (Str.ofString " ") r):=by
  unfold layT
  have:Txt.join (Str.ofString " | ") (R.map (Txt.join (Str.ofString " ")))=Str.join (Str.ofString " | ") (R.map (Txt.join (Str.ofString " "))):=StrLaws.glued_eq_join _ _
  rw [this]
  congr 1
  exact List.map_congr_left fun r _=>StrLaws.glued_eq_join _ r
 rw [e1,e2]
 exact str_ext (join_flat h1 h2).symm
theorem lay_rows {R:List (List Str)} (h1:R≠[]) (h2 : ∀ r ∈ R,r≠[] ∧ ∀ w ∈ r,32 ∉ w.cps.toList∧124 ∉ w.cps.toList):rowsW (layT R)=R:=by
 have c:=cut_rows (ls:=R.map (Txt.join (Str.ofString " "))) (by simpa using h1) fun p hp=>by
  obtain ⟨ws,hw,rfl⟩:=List.mem_map.mp hp
  exact row_free fun x hx=>((h2 ws hw).2 x hx).2
 unfold rowsW layT
 rw [c.2,List.map_map]
 conv=>rhs;rw [← List.map_id R]
 exact List.map_congr_left fun ws hw=>(cut_row (h2 ws hw).1 fun x hx=>((h2 ws hw).2 x hx).1).2
theorem flat_cut : ∀ {A:List (List Str)}{as bs:List Str}{C:List (List Str)},flatW (A++(as++Str.ofString "|" :: bs)::C)=flatW (A++as::bs::C)
 | [],as,bs,[]=>rfl
 | [],as,bs,c::C=>by
  show (as++Str.ofString "|" :: bs)++Str.ofString "|" :: flatW (c::C)=as++Str.ofString "|" :: (bs++Str.ofString "|" :: flatW (c::C))
  simp
 | [a],as,bs,C=>by
  show a++Str.ofString "|" :: flatW ([]++(as++Str.ofString "|" :: bs)::C)=a++Str.ofString "|" :: flatW ([]++as::bs::C)
  rw [flat_cut]
 | a::b::A,as,bs,C=>by
  show a++Str.ofString "|" :: flatW ((b::A)++(as++Str.ofString "|" :: bs)::C)=a++Str.ofString "|" :: flatW ((b::A)++as::bs::C)
  rw [flat_cut]
theorem over_one {B x b:Int} (hb:1≤b) (h:shB x b∣B):shT x b*(B/shB x b)*b=x*B:=by
 have e:=(sh_ok (t:=x) (b:=b) (by omega)).2
 have d:=Int.ediv_mul_cancel h
 calc shT x b*(B/shB x b)*b=(shT x b*b)*(B/shB x b):=by rw [Int.mul_assoc,Int.mul_comm (B/shB x b) b,← Int.mul_assoc]
  _=x*shB x b*(B/shB x b):=by rw [e]
  _=x*B:=by rw [Int.mul_assoc,Int.mul_comm (shB x b),d]
theorem over_all {B b:Int} (hb:1≤b) : ∀ {r:List Int},(∀ x ∈ r,shB x b∣B)→(overB B (shR b r)).sum*b=r.sum*B
 | [],_=>by simp [shR,overB]
 | x::r,h=>by
  have ih:=over_all hb (r:=r) fun y hy=>h y (List.mem_cons_of_mem _ hy)
  show (shT x b*(B/shB x b)+(overB B (shR b r)).sum)*b=(x+r.sum)*B
  rw [Int.add_mul,Int.add_mul,ih,over_one hb (h x (by simp))]
theorem sum_put {l:List Int}{k:Nat}{y z:Int} (h:l[k]?=some y):(l.set k z).sum=l.sum-y+z:=by
 induction l generalizing k with
 | nil=>cases h
 | cons a l ih =>
  cases k with
  | zero=>cases h;simp;omega
  | succ k=>rw [List.set_cons_succ,List.sum_cons,List.sum_cons,ih h];omega
theorem over_put {B b p q y:Int}{r:List Int}{k:Nat} (hb:1≤b) (hr:r.sum=b) (hk:r[k]?=some y) (h : ∀ x ∈ r,shB x b∣B) (q1:1≤q) (hq:q∣B) (B0:0<B) (hs:(overB B ((shR b r).set k (p,q))).sum=B):p*b=y*q:=by
 have e1:=over_all hb h
 have ey:=over_one hb (h y (List.mem_of_getElem? hk))
 have e2:overB B ((shR b r).set k (p,q))=(overB B (shR b r)).set k (p*(B/q)):=by unfold overB;rw [List.map_set]
 have e3:(overB B (shR b r))[k]?=some (shT y b*(B/shB y b)):=by
  unfold overB shR
  rw [List.getElem?_map,List.getElem?_map,hk];rfl
 rw [e2,sum_put e3] at hs
 have d:=Int.ediv_mul_cancel hq
 generalize (overB B (shR b r)).sum=S at *
 generalize shT y b*(B/shB y b)=Y at *
 generalize B/q=m at *
 rw [hr] at e1
 have bB:S=B:=by
  have:S*b=B*b:=by rw [e1,Int.mul_comm]
  exact Int.eq_of_mul_eq_mul_right (by omega) this
 have e4:p*m=Y:=by omega
 have e5:p*b*B=y*q*B:=by
  calc p*b*B=p*b*(m*q):=by rw [d]
   _=(p*m)*b*q:=by rw [Int.mul_assoc p b,Int.mul_assoc p m,Int.mul_assoc,← Int.mul_assoc b m q,Int.mul_comm b m]
   _=y*q*B:=by rw [e4,ey,Int.mul_assoc,Int.mul_comm B q,Int.mul_assoc]
 exact Int.eq_of_mul_eq_mul_right (by omega) e5
def OddS (p q:Int):Prop:=1≤q∧q≤7919 ∧ ∀ b y:Int,1≤b→b≤1000→0≤y→y≤b→p*b≠y*q
theorem odd_ones:OddS (-1) 2∧OddS 3 2∧OddS 2 1∧OddS 1 7919∧OddS 7918 7919:=by
 refine ⟨⟨by decide,by decide,fun b y _ _ _ _=>?_⟩,⟨by decide,by decide,fun b y _ _ _ _=>?_⟩,⟨by decide,by decide,fun b y _ _ _ _=>?_⟩,⟨by decide,by decide,fun b y _ _ _ _=>?_⟩,⟨by decide,by decide,fun b y _ _ _ _=>?_⟩⟩ <;> omega
theorem tab_cell {b x:Int}{R:List (List Int)}{n:Nat}{r:List Int} (h:Tab b R n) (hr:r ∈ R) (hx:x ∈ r):0≤x∧x≤b:=by
 refine ⟨h.nn r hr x hx,?_⟩
 rw [← h.sum r hr]
 exact mem_le_sum (h.nn r hr) hx
theorem cell_word {b x:Int}{R:List (List Int)}{n:Nat}{r:List Int} (h:Tab b R n) (hb:b≤1000) (hr:r ∈ R) (hx:x ∈ r):Shr (shT x b) (shB x b)∧(0≤shT x b∧shT x b≤1000∧shB x b≤1000∧shB x b∣b):=by
 have b0:=h.pos
 obtain ⟨x0,x1⟩:=tab_cell h hr hx
 obtain ⟨s,e⟩:=sh_ok (t:=x) (b:=b) (by omega)
 have q:=s.pos
 have dv:shB x b∣b:=⟨cm x b,by rw [Int.mul_comm];exact (shB_mul x b).symm⟩
 have t1:=abs_part (shT_mul x b) (cm_ne (show b≠0 by omega))
 have t0:0≤shT x b:=by
  rcases Int.lt_or_le (shT x b) 0 with z|z
  ·have:=Int.mul_neg_of_neg_of_pos z (show 0<b by omega)
   have:=Int.mul_nonneg x0 (show 0≤shB x b by omega)
   omega
  ·exact z
 have:=Int.le_of_dvd (by omega) dv
 exact ⟨s,t0,by omega,by omega,dv⟩
theorem small_word {p q:Int} (p0:0≤p) (p1:p≤1000) (q0:0≤q) (q1:q≤1000):(shTx p q).length≤9:=by
 have i:(10:Int)^4=10000:=by decide
 have a:=(nT_long (k:=4) p0 (by decide) (by omega)).2
 have c:=(nT_long (k:=4) q0 (by decide) (by omega)).2
 by_cases h:q=1
 ·rw [show shTx p q=nT p from if_pos h];omega
 ·rw [str_len0,shTx_list h,List.length_append,List.length_cons,← str_len0,← str_len0];omega
theorem txt_ok {L:List (List Str)} (h1:L.length≤5) (h2 : ∀ r ∈ L,r.length≤13 ∧ ∀ w ∈ r,w.length≤10 ∧ ∀ c ∈ w.cps.toList,c<128):TxtOk (layT L):=by
 have e1:(Str.ofString " ").length=1:=rfl
 have e2:(Str.ofString " | ").length=3:=rfl
 constructor
 ·refine asc_all.mpr fun c hc=>?_
  have ej:layT L=Str.join (Str.ofString " | ") (L.map (Txt.join (Str.ofString " "))):=StrLaws.glued_eq_join _ _
  rw [ej] at hc
  rcases join_mem hc with z|⟨p,hp,z⟩
  ·have:(Str.ofString " | ").cps.toList=[32,124,32]:=by decide +kernel
   rw [this] at z
   simp at z
   omega
  ·obtain ⟨r,hr,rfl⟩:=List.mem_map.mp hp
   have ej:Txt.join (Str.ofString " ") r=Str.join (Str.ofString " ") r:=StrLaws.glued_eq_join _ r
   rw [ej] at z
   rcases join_mem z with z|⟨w,hw,z⟩
   ·have:(Str.ofString " ").cps.toList=[32]:=by decide +kernel
    rw [this] at z
    simp at z
    omega
   ·exact ((h2 r hr).2 w hw).2 c z
 ·have row : ∀ y ∈ L.map (Txt.join (Str.ofString " ")),y.length≤143:=fun y hy=>by
   obtain ⟨r,hr,rfl⟩:=List.mem_map.mp hy
   have:=join_le (s:=Str.ofString " ") (l:=r) (B:=10) fun w hw=>((h2 r hr).2 w hw).1
   have:=(h2 r hr).1
   rw [e1] at *
   omega
  have:=join_le (s:=Str.ofString " | ") row
  rw [e2,List.length_map] at this
  show (Txt.join (Str.ofString " | ") (L.map (Txt.join (Str.ofString " ")))).length≤800
  omega
theorem tab_words {b:Int}{R:List (List Int)}{n:Nat} (h:Tab b R n) (hb:b≤1000) : ∀ r ∈ R.map (rTx b),r.length=n ∧ ∀ w ∈ r,w.length≤9∧(∀ c ∈ w.cps.toList,c=47∨(48≤c∧c≤57)) ∧ ∃ x,0≤x∧x≤b∧w=shTx (shT x b) (shB x b)∧readS w=some (shT x b,shB x b):=fun r hr'=>by
 obtain ⟨r,hr,rfl⟩:=List.mem_map.mp hr'
 refine ⟨by unfold rTx;rw [List.length_map];exact h.len r hr,fun w hw=>?_⟩
 obtain ⟨x,hx,rfl⟩:=List.mem_map.mp hw
 obtain ⟨s,p0,p1,q1,_⟩:=cell_word h hb hr hx
 have q0:=s.pos
 obtain ⟨x0,x1⟩:=tab_cell h hr hx
 refine ⟨small_word p0 p1 (by omega) q1,fun c hc=>?_,x,x0,x1,rfl,readS_good s p0 (by omega) (by omega)⟩
 have f1 : ∀ {p:Int},0≤p → ∀ {c:Nat},c ∈ (nT p).cps.toList→48≤c∧c≤57:=fun {_} hp {c} hc=>nT_digit hp c hc
 by_cases hq:shB x b=1
 ·rw [show shTx (shT x b) (shB x b)=nT (shT x b) from if_pos hq] at hc
  exact .inr (f1 p0 hc)
 ·rw [shTx_list hq] at hc
  rcases List.mem_append.mp hc with z|z
  ·exact .inr (f1 p0 z)
  ·rcases List.mem_cons.mp z with z|z
   ·exact .inl z
   ·exact .inr (f1 (by omega) z)
theorem tab_rows {b:Int}{R:List (List Int)}{n:Nat} (h:Tab b R n) (hb:b≤1000) (hn:1≤n) (rn:R≠[]):rowsW (layT (R.map (rTx b)))=R.map (rTx b):=by
 refine lay_rows (by simpa using rn) fun r hr=>?_
 obtain ⟨l,hw⟩:=tab_words h hb r hr
 refine ⟨fun z=>by rw [z] at l;simp at l;omega,fun w hw'=>?_⟩
 have:=(hw w hw').2.1
 exact ⟨fun z=>by have:=this _ z;omega,fun z=>by have:=this _ z;omega⟩
theorem tab_read {b:Int}{R:List (List Int)}{n:Nat} (h:Tab b R n) (hb:b≤1000) (hn:1≤n) (rn:R≠[]):ReadT (layT (R.map (rTx b))) (R.map (shR b)):=by
 unfold ReadT
 rw [tab_rows h hb hn rn,List.map_map,List.map_map]
 refine List.map_congr_left fun r hr=>?_
 show (rTx b r).map readS=(shR b r).map some
 unfold rTx shR
 rw [List.map_map,List.map_map]
 refine List.map_congr_left fun x hx=>?_
 obtain ⟨s,p0,p1,q1,_⟩:=cell_word h hb hr hx
 exact readS_good s p0 (by omega) (by omega)
theorem tab_txt {b:Int}{R:List (List Int)}{n:Nat} (h:Tab b R n) (hb:b≤1000) (hn:n≤12) (rl:R.length≤5):TxtOk (layT (R.map (rTx b))):=txt_ok (by simpa using rl) fun r hr=>by
 obtain ⟨l,hw⟩:=tab_words h hb r hr
 refine ⟨by omega,fun w hw'=>?_⟩
 obtain ⟨w1,w2,_⟩:=hw w hw'
 exact ⟨by omega,fun c hc=>by have:=w2 c hc;omega⟩
theorem tab_d0 {b:Int}{R:List (List Int)}{n:Nat} (h:Tab b R n) (hb:b≤1000):D0ok (R.map (shR b)) b:=by
 have b0:=h.pos
 refine ⟨by omega,bits_up (bits64 (by omega) (by omega)) (by decide),fun r hr' z hz=>?_⟩
 obtain ⟨r,hr,rfl⟩:=List.mem_map.mp hr'
 obtain ⟨x,hx,rfl⟩:=List.mem_map.mp hz
 exact (cell_word h hb hr hx).2.2.2.2
structure Wd (D0:Int) (w:Str) (z:Int×Int):Prop where
 len:w.length≤10
 sg : ∀ c ∈ w.cps.toList,c=45∨c=47∨(48≤c∧c≤57)
 rd:readS w=some z
 dv:z.2∣D0
def wP (P:List (List (Str×Int×Int))):List (List Str):=P.map fun r=>r.map Prod.fst
def vP (P:List (List (Str×Int×Int))):List (List (Int×Int)):=P.map fun r=>r.map Prod.snd
theorem wP_set {P:List (List (Str×Int×Int))}{i:Nat}{r:List (Str×Int×Int)}:wP (P.set i r)=(wP P).set i (r.map Prod.fst):=by unfold wP;rw [List.map_set]
theorem vP_set {P:List (List (Str×Int×Int))}{i:Nat}{r:List (Str×Int×Int)}:vP (P.set i r)=(vP P).set i (r.map Prod.snd):=by unfold vP;rw [List.map_set]
def PrOk (D0:Int) (P:List (List (Str×Int×Int))):Prop:=P≠[]∧P.length≤5 ∧ ∀ r ∈ P,r≠[]∧r.length≤13 ∧ ∀ x ∈ r,Wd D0 x.1 x.2
theorem pairs_odd {D0:Int}{P:List (List (Str×Int×Int))} (h:PrOk D0 P) (d0:0<D0) (dz:intBits D0≤4000) (ho:OddV (vP P)):Spoilt (layT (wP P)):=by
 obtain ⟨ne,pl,hP⟩:=h
 refine ⟨txt_ok (by unfold wP;rw [List.length_map];exact pl) fun r hr=>?_,.inr ⟨vP P,D0,?_,⟨d0,dz,fun r hr z hz=>?_⟩,ho⟩⟩
 ·obtain ⟨q,hq,rfl⟩:=List.mem_map.mp hr
  obtain ⟨q1,q2,q3⟩:=hP q hq
  refine ⟨by rw [List.length_map];exact q2,fun w hw=>?_⟩
  obtain ⟨x,hx,rfl⟩:=List.mem_map.mp hw
  exact ⟨(q3 x hx).len,fun c hc=>by have:=(q3 x hx).sg c hc;omega⟩
 ·unfold ReadT
  rw [lay_rows (by unfold wP;simpa using ne) fun r hr=>?_]
  ·unfold wP vP
   rw [List.map_map,List.map_map]
   refine List.map_congr_left fun q hq=>?_
   show (q.map Prod.fst).map readS=(q.map Prod.snd).map some
   rw [List.map_map,List.map_map]
   exact List.map_congr_left fun x hx=>((hP q hq).2.2 x hx).rd
  ·obtain ⟨q,hq,rfl⟩:=List.mem_map.mp hr
   obtain ⟨q1,q2,q3⟩:=hP q hq
   refine ⟨by simpa using q1,fun w hw=>?_⟩
   obtain ⟨x,hx,rfl⟩:=List.mem_map.mp hw
   have:=(q3 x hx).sg
   exact ⟨fun z=>by have:=this _ z;omega,fun z=>by have:=this _ z;omega⟩
 ·obtain ⟨q,hq,rfl⟩:=List.mem_map.mp hr
  obtain ⟨x,hx,rfl⟩:=List.mem_map.mp hz
  exact ((hP q hq).2.2 x hx).dv
def prT (b:Int) (R:List (List Int)):List (List (Str×Int×Int)):=R.map fun r=>r.map fun x=>(shTx (shT x b) (shB x b),shT x b,shB x b)
theorem prT_w (b:Int) (R:List (List Int)):wP (prT b R)=R.map (rTx b):=by
 unfold wP prT
 rw [List.map_map]
 refine List.map_congr_left fun r _=>?_
 show (r.map _).map Prod.fst=rTx b r
 rw [List.map_map];rfl
theorem prT_v (b:Int) (R:List (List Int)):vP (prT b R)=R.map (shR b):=by
 unfold vP prT
 rw [List.map_map]
 refine List.map_congr_left fun r _=>?_
 show (r.map _).map Prod.snd=shR b r
 rw [List.map_map];rfl
theorem Wd.up {D E:Int}{w:Str}{z:Int×Int} (h:Wd D w z) (hd:D∣E):Wd E w z:=⟨h.len,h.sg,h.rd,Int.dvd_trans h.dv hd⟩
theorem prT_wd {b:Int}{R:List (List Int)}{n:Nat} (h:Tab b R n) (hb:b≤1000) : ∀ r ∈ prT b R,r.length=n ∧ ∀ x ∈ r,Wd b x.1 x.2:=fun r hr'=>by
 obtain ⟨r,hr,rfl⟩:=List.mem_map.mp hr'
 refine ⟨by rw [List.length_map];exact h.len r hr,fun x hx'=>?_⟩
 obtain ⟨x,hx,rfl⟩:=List.mem_map.mp hx'
 obtain ⟨s,p0,p1,q1,dv⟩:=cell_word h hb hr hx
 have q0:=s.pos
 exact ⟨Nat.le_trans (small_word p0 p1 (by omega) q1) (by decide),fun c hc=>shTx_signs hc,readS_good s p0 (by omega) (by omega),dv⟩
theorem row_odd {b D0:Int}{R:List (List Int)}{n at':Nat}{q:List (Str×Int×Int)} (hT:Tab b R n) (hb:b≤1000) (n1:2≤n) (n2:n≤4) (r1:2≤R.length) (r2:R.length≤4) (ha:at'<R.length)
 (d0:0<D0) (dz:intBits D0≤4000) (hd:b∣D0) (qn:q≠[]) (ql:q.length≤13) (qw : ∀ x ∈ q,Wd D0 x.1 x.2) (ho:q.length≠n ∨ ∀ B,LcmB ((R.map (shR b)).set at' (q.map Prod.snd)) B→(overB B (q.map Prod.snd)).sum≠B) :
 Spoilt (layT ((R.map (rTx b)).set at' (q.map Prod.fst))):=by
  have hw:=prT_wd hT hb
  have pl:(prT b R).length=R.length:=by unfold prT;rw [List.length_map]
  have e1:(R.map (rTx b)).set at' (q.map Prod.fst)=wP ((prT b R).set at' q):=by rw [wP_set,prT_w]
  have e2:vP ((prT b R).set at' q)=(R.map (shR b)).set at' (q.map Prod.snd):=by rw [vP_set,prT_v]
  rw [e1]
  refine pairs_odd (D0:=D0) ⟨fun z=>?_,by rw [List.length_set,pl];omega,fun r hr=>?_⟩ d0 dz ?_
  ·have:=congrArg List.length z
   rw [List.length_set,pl,List.length_nil] at this
   omega
  ·rcases List.mem_or_eq_of_mem_set hr with z|z
   ·obtain ⟨l,h⟩:=hw r z
    exact ⟨fun y=>by rw [y] at l;simp at l;omega,by omega,fun x hx=>(h x hx).up hd⟩
   ·rw [z];exact ⟨qn,ql,qw⟩
  ·have lv:((R.map (shR b)).set at' (q.map Prod.snd)).length=R.length:=by rw [List.length_set,List.length_map]
   have mem:q.map Prod.snd ∈ (R.map (shR b)).set at' (q.map Prod.snd):=List.mem_of_getElem? (i:=at') (by rw [List.getElem?_set_self (by rw [List.length_map];exact ha)])
   rw [e2]
   rcases ho with z|z
   ·obtain ⟨k,hk,kn⟩ : ∃ k,k<R.length∧k≠at':=by
     rcases Nat.eq_zero_or_pos at' with z|z
     ·exact ⟨1,by omega,by omega⟩
     ·exact ⟨0,by omega,by omega⟩
    refine .inl ⟨_,mem,shR b R[k],List.mem_of_getElem? (i:=k) ?_,?_⟩
    ·rw [List.getElem?_set_ne (Ne.symm kn),List.getElem?_map,List.getElem?_eq_getElem hk];rfl
    ·have:=hT.len _ (List.getElem_mem hk)
     unfold shR
     rw [List.length_map,List.length_map]
     omega
   ·exact .inr (.inr ⟨_,mem,z⟩)
theorem zero_wd {D0:Int}:Wd D0 (Str.ofString "0") (0,1):=⟨by decide +kernel,by decide +kernel,by decide +kernel,⟨D0,by omega⟩⟩
theorem over_scale {B c:Int} : ∀ {r:List (Int×Int)},(∀ z ∈ r,z.2∣B)→(overB (B*c) r).sum=(overB B r).sum*c
 | [],_=>by simp [overB]
 | z::r,h=>by
  have ih:=over_scale (c:=c) (r:=r) fun y hy=>h y (List.mem_cons_of_mem _ hy)
  show z.1*(B*c/z.2)+(overB (B*c) r).sum=(z.1*(B/z.2)+(overB B r).sum)*c
  have e:B*c/z.2=B/z.2*c:=by rw [Int.mul_comm B c,Int.mul_ediv_assoc _ (h z (by simp)),Int.mul_comm]
  rw [ih,e,Int.add_mul,Int.mul_assoc]
theorem erase_map {α β:Type} (f:α→β) : ∀ (l:List α) (k:Nat),(l.map f).eraseIdx k=(l.eraseIdx k).map f
 | [],_=>by simp
 | _::_,0=>rfl
 | a::l,k+1=>by
  show f a::(l.map f).eraseIdx k=f a::(l.eraseIdx k).map f
  rw [erase_map f l k]
section
variable {b:Int}{R:List (List Int)}{n at':Nat}
theorem row_at {l:List Str} (h:(R.map (rTx b))[at']?=some l) : ∃ r,R[at']?=some r∧l=rTx b r∧at'<R.length:=by
 rw [List.getElem?_map] at h
 cases e:R[at']? with
 | none=>rw [e] at h;cases h
 | some r=>rw [e] at h;cases h;exact ⟨r,rfl,rfl,(List.getElem?_eq_some_iff.mp e).1⟩
theorem prow {r:List Int}:rTx b r=(r.map fun x=>(shTx (shT x b) (shB x b),shT x b,shB x b)).map Prod.fst:=by rw [List.map_map];rfl
theorem prow_wd (hT:Tab b R n) (hb:b≤1000) {r:List Int} (hr:r ∈ R):(r.map fun x=>(shTx (shT x b) (shB x b),shT x b,shB x b)).length=n ∧ ∀ x ∈ r.map fun x=>(shTx (shT x b) (shB x b),shT x b,shB x b),Wd b x.1 x.2:=prT_wd hT hb _ (List.mem_map.mpr ⟨r,hr,rfl⟩)
theorem sp_more (hT:Tab b R n) (hb:b≤1000) (n1:2≤n) (n2:n≤4) (r1:2≤R.length) (r2:R.length≤4) {l:List Str} (h:(R.map (rTx b))[at']?=some l):Spoilt (layT ((R.map (rTx b)).set at' (l++[Str.ofString "0"]))):=by
 obtain ⟨r,hr,rfl,ha⟩:=row_at h
 have b0:=hT.pos
 obtain ⟨ln,wd⟩:=prow_wd hT hb (List.mem_of_getElem? hr)
 have e:rTx b r++[Str.ofString "0"]=((r.map fun x=>(shTx (shT x b) (shB x b),shT x b,shB x b))++[(Str.ofString "0",0,1)]).map Prod.fst:=by rw [List.map_append,← prow];rfl
 rw [e]
 refine row_odd hT hb n1 n2 r1 r2 ha (D0:=b) (by omega) (bits_up (bits64 (by omega) (by omega)) (by decide)) (Int.dvd_refl _) (by simp) (by rw [List.length_append,ln];simp;omega) (fun x hx=>?_) (.inl (by rw [List.length_append,ln];simp))
 rcases List.mem_append.mp hx with z|z
 ·exact wd x z
 ·rw [List.mem_singleton.mp z];exact zero_wd
theorem sp_less (hT:Tab b R n) (hb:b≤1000) (n1:2≤n) (n2:n≤4) (r1:2≤R.length) (r2:R.length≤4) {l:List Str} (h:(R.map (rTx b))[at']?=some l) {k:Nat} (hk:k<l.length):Spoilt (layT ((R.map (rTx b)).set at' (l.eraseIdx k))):=by
 obtain ⟨r,hr,rfl,ha⟩:=row_at h
 have b0:=hT.pos
 obtain ⟨ln,wd⟩:=prow_wd hT hb (List.mem_of_getElem? hr)
 rw [prow,List.length_map] at hk
 rw [prow,erase_map]
 have le:((r.map fun x=>(shTx (shT x b) (shB x b),shT x b,shB x b)).eraseIdx k).length=n-1:=by rw [List.length_eraseIdx_of_lt hk,ln]
 refine row_odd hT hb n1 n2 r1 r2 ha (D0:=b) (by omega) (bits_up (bits64 (by omega) (by omega)) (by decide)) (Int.dvd_refl _) (fun z=>?_) (by omega) (fun x hx=>wd x (List.mem_of_mem_eraseIdx hx)) (.inl (by omega))
 rw [z,List.length_nil] at le
 omega
theorem sp_odd (hT:Tab b R n) (hb:b≤1000) (n1:2≤n) (n2:n≤4) (r1:2≤R.length) (r2:R.length≤4) {l:List Str} (h:(R.map (rTx b))[at']?=some l) {k:Nat} (hk:k<l.length) {w:Str}{p q:Int} (hw:Wd q w (p,q)) (ho:OddS p q):Spoilt (layT ((R.map (rTx b)).set at' (l.set k w))):=by
 obtain ⟨r,hr,rfl,ha⟩:=row_at h
 have b0:=hT.pos
 obtain ⟨q1,q2,ho⟩:=ho
 have hm:=List.mem_of_getElem? hr
 obtain ⟨ln,wd⟩:=prow_wd hT hb hm
 rw [prow,List.length_map] at hk
 have e:(rTx b r).set k w=((r.map fun x=>(shTx (shT x b) (shB x b),shT x b,shB x b)).set k (w,p,q)).map Prod.fst:=by rw [List.map_set,← prow]
 rw [e]
 have D:0<b*q∧b*q≤1000*7919:=⟨Int.mul_pos (by omega) (by omega),Int.mul_le_mul hb q2 (by omega) (by decide)⟩
 refine row_odd hT hb n1 n2 r1 r2 ha (D0:=b*q) D.1 (bits_up (bits64 (by omega) (by omega)) (by decide)) (Int.dvd_mul_right _ _) (fun z=>?_) (by rw [List.length_set,ln];omega) (fun x hx=>?_) (.inr fun B hB=>?_)
 ·have:=congrArg List.length z
  rw [List.length_set,ln,List.length_nil] at this
  omega
 ·rcases List.mem_or_eq_of_mem_set hx with z|z
  ·exact (wd x z).up (Int.dvd_mul_right _ _)
  ·rw [z];exact hw.up (Int.dvd_mul_left _ _)
 ·intro hs
  have ev:((r.map fun x=>(shTx (shT x b) (shB x b),shT x b,shB x b)).set k (w,p,q)).map Prod.snd=(shR b r).set k (p,q):=by
   rw [List.map_set,List.map_map];rfl
  rw [ev] at hs hB
  have mem:(shR b r).set k (p,q) ∈ (R.map (shR b)).set at' ((shR b r).set k (p,q)):=List.mem_of_getElem? (i:=at') (by rw [List.getElem?_set_self (by rw [List.length_map];exact ha)])
  rw [List.length_map] at hk
  have hk':k<(shR b r).length:=by unfold shR;rw [List.length_map];exact hk
  have qB:q∣B:=hB.dv _ mem (p,q) (List.mem_of_getElem? (i:=k) (by rw [List.getElem?_set_self hk']))
  have sc:=over_scale (c:=b) (r:=(shR b r).set k (p,q)) fun z hz=>hB.dv _ mem z hz
  rw [hs] at sc
  have B0:=hB.pos
  have hy:=List.getElem?_eq_getElem hk
  obtain ⟨y0,y1⟩:=tab_cell hT hm (List.getElem_mem hk)
  exact ho b r[k] b0 hb y0 y1 (over_put (B:=B*b) b0 (hT.sum r hm) hy (fun x hx=>Int.dvd_trans (cell_word hT hb hm hx).2.2.2.2 (Int.dvd_mul_left _ _)) q1 (Int.dvd_trans qB (Int.dvd_mul_right _ _)) (Int.mul_pos B0 (by omega)) sc)
end
theorem flat_has : ∀ {R:List (List Str)}{r:List Str}{w:Str},r ∈ R→w ∈ r→w ∈ flatW R
 | [],_,_,h,_=>by cases h
 | [s],r,w,h,hw=>by rw [List.mem_singleton.mp h] at hw;exact hw
 | s::t::R,r,w,h,hw=>by
  show w ∈ s++Str.ofString "|" :: flatW (t::R)
  rcases List.mem_cons.mp h with z|z
  ·rw [z] at hw;exact List.mem_append_left _ hw
  ·exact List.mem_append_right _ (List.mem_cons_of_mem _ (flat_has z hw))
theorem lay_bad {L:List (List Str)}{r:List Str}{w:Str} (hr:r ∈ L) (hw:w ∈ r) (hL : ∀ r ∈ L,r≠[] ∧ ∀ w ∈ r,32 ∉ w.cps.toList) (hb:w≠Str.ofString "|") (hn:readS w=none):BadT (layT L):=by
 rw [lay_flat (fun z=>by rw [z] at hr;cases hr) fun r hr=>(hL r hr).1]
 exact bad_join (flat_has hr hw) (flat_noblank fun r hr=>(hL r hr).2) hb hn
def grpW:List Str→List (List Str)
 | []=>[[]]
 | t::ts=>if t=Str.ofString "|" then []::grpW ts else match grpW ts with
  | []=>[[t]]
  | g::gs=>(t::g)::gs
theorem grp_ne : ∀ ts,grpW ts≠[]
 | []=>by simp [grpW]
 | t::ts=>by
  unfold grpW
  split
  ·simp
  ·split <;> simp
theorem grp_plain : ∀ {r:List Str},(∀ w ∈ r,w≠Str.ofString "|")→grpW r=[r]
 | [],_=>rfl
 | t::ts,h=>by
  unfold grpW
  rw [if_neg (h t (by simp)),grp_plain fun w hw=>h w (List.mem_cons_of_mem _ hw)]
theorem grp_bar : ∀ {as bs:List Str},grpW (as++Str.ofString "|" :: bs)=grpW as++grpW bs
 | [],bs=>by
  show grpW (Str.ofString "|" :: bs)=[[]]++grpW bs
  rw [grpW,if_pos rfl];rfl
 | a::as,bs=>by
  show grpW (a::(as++Str.ofString "|" :: bs))=grpW (a::as)++grpW bs
  rw [grpW,grp_bar (as:=as),grpW]
  split
  ·rfl
  ·cases e:grpW as with
   | nil=>exact absurd e (grp_ne as)
   | cons g gs=>rfl
theorem grp_flat : ∀ {R:List (List Str)},R≠[]→grpW (flatW R)=(R.map grpW).flatten
 | [],h=>absurd rfl h
 | [r],_=>by
  show grpW r=_
  simp
 | r::s::R,_=>by
  show grpW (r++Str.ofString "|" :: flatW (s::R))=_
  rw [grp_bar,grp_flat (R:=s::R) (by simp)]
  simp
theorem grp_bad {ts:List Str} (hf : ∀ p ∈ ts,32 ∉ p.cps.toList) (ne:ts≠[]) (h:[] ∈ grpW ts):BadT (Txt.join (Str.ofString " ") ts):=by
 apply Classical.byContradiction
 intro nb
 have e:=(cut_row ne hf).2
 rw [toks] at e
 obtain ⟨h1,h2⟩:=rowsW_ne (Txt.join (Str.ofString " ") ts)
 have pl : ∀ r ∈ rowsW (Txt.join (Str.ofString " ") ts),grpW r=[r]:=fun r hr=>grp_plain fun w hw z=>nb ⟨r,hr,w,hw,by rw [z];exact bar_bad⟩
 rw [← e,grp_flat h1] at h
 obtain ⟨g,hg,h⟩:=List.mem_flatten.mp h
 obtain ⟨r,hr,rfl⟩:=List.mem_map.mp hg
 rw [pl r hr] at h
 exact h2 r hr (List.mem_singleton.mp h).symm
theorem lay_bars {L:List (List Str)}{r:List Str} (hr:r ∈ L) (h:[] ∈ grpW r) (hL : ∀ r ∈ L,r≠[] ∧ ∀ w ∈ r,32 ∉ w.cps.toList):BadT (layT L):=by
 have ne:L≠[]:=fun z=>by rw [z] at hr;cases hr
 rw [lay_flat ne fun r hr=>(hL r hr).1]
 refine grp_bad (flat_noblank fun r hr=>(hL r hr).2) (flat_ne ne fun r hr=>(hL r hr).1) ?_
 rw [grp_flat ne]
 exact List.mem_flatten.mpr ⟨_,List.mem_map.mpr ⟨r,hr,rfl⟩,h⟩
theorem grp_first {bs:List Str}:[] ∈ grpW (Str.ofString "|" :: bs):=by rw [grpW,if_pos rfl];simp
theorem grp_last {as:List Str}:[] ∈ grpW (as++[Str.ofString "|"]):=by
 rw [grp_bar]
 exact List.mem_append_right _ (by simp [grpW])
theorem join_blank {as bs:List Str}{w u v:Str} (h:w.cps.toList=u.cps.toList++32::v.cps.toList):Str.join (Str.ofString " ") (as++w::bs)=Str.join (Str.ofString " ") (as++u::v::bs):=by
 have e1:(Str.ofString " ").cps.toList=[32]:=by decide +kernel
 have one:(Str.join (Str.ofString " ") (w::bs)).cps.toList=(Str.join (Str.ofString " ") (u::v::bs)).cps.toList:=by
  rw [join_two,e1]
  cases bs with
  | nil =>
   show w.cps.toList=u.cps.toList++([32]++v.cps.toList)
   rw [h];rfl
  | cons b bs =>
   rw [join_two,join_two,e1,h]
   simp [List.append_assoc]
 refine str_ext ?_
 cases as with
 | nil=>exact one
 | cons a as=>rw [join_app (by simp) (by simp),join_app (by simp) (by simp),one]
def badKind (w:Str):Bool:=decide (w.length≤10)&&(w.cps.all (· < 128)&&((decide (32 ∉ w.cps.toList)&&(decide (w≠Str.ofString "|")&&decide (readS w=none)))||decide (w ∈ ["-1/2","3/2","2","1/7919","7918/7919","1 /2","1/ 2","|"].map Str.ofString)))
theorem bad_kinds : ∀ w ∈ badWords,w.length≤10∧(∀ c ∈ w.cps.toList,c<128)∧((32 ∉ w.cps.toList∧w≠Str.ofString "|" ∧ readS w=none)∨w ∈ ["-1/2","3/2","2","1/7919","7918/7919","1 /2","1/ 2","|"].map Str.ofString):=fun w hw=>by
 have h:badWords.all badKind=true:=by decide +kernel
 have:=List.all_eq_true.mp h w hw
 unfold badKind at this
 simp only [Bool.and_eq_true,Bool.or_eq_true,decide_eq_true_eq] at this
 exact ⟨this.1,asc_all.mp this.2.1,this.2.2⟩
theorem lay_blank {L:List (List Str)}{i:Nat}{as bs:List Str}{w u v:Str} (h:w.cps.toList=u.cps.toList++32::v.cps.toList):layT (L.set i (as++w::bs))=layT (L.set i (as++u::v::bs)):=by
 have e1:Txt.join (Str.ofString " ") (as++w::bs)=Str.join (Str.ofString " ") (as++w::bs):=StrLaws.glued_eq_join _ _
 have e2:Txt.join (Str.ofString " ") (as++u::v::bs)=Str.join (Str.ofString " ") (as++u::v::bs):=StrLaws.glued_eq_join _ _
 unfold layT
 rw [List.map_set,List.map_set,e1,e2,join_blank h]
theorem set_cut' {l:List Str}{k:Nat}{w:Str} (h:k<l.length):l.set k w=l.take k++w::l.drop (k+1):=by rw [List.set_eq_take_append_cons_drop,if_pos h]
section
variable {b:Int}{R:List (List Int)}{n at':Nat}
theorem set_txt (hT:Tab b R n) (hb:b≤1000) (n2:n≤4) (r2:R.length≤4) {l:List Str} (hl:l.length≤13) (hw : ∀ w ∈ l,w.length≤10 ∧ ∀ c ∈ w.cps.toList,c<128):TxtOk (layT ((R.map (rTx b)).set at' l)):=txt_ok (by rw [List.length_set,List.length_map];omega) fun r hr=>by
 rcases List.mem_or_eq_of_mem_set hr with z|z
 ·obtain ⟨l,h⟩:=tab_words hT hb r z
  refine ⟨by omega,fun w hw'=>?_⟩
  obtain ⟨w1,w2,_⟩:=h w hw'
  exact ⟨by omega,fun c hc=>by have:=w2 c hc;omega⟩
 ·rw [z];exact ⟨hl,hw⟩
theorem set_free (hT:Tab b R n) (hb:b≤1000) (n1:2≤n) {l:List Str} (hl:l≠[]) (hw : ∀ w ∈ l,32 ∉ w.cps.toList) : ∀ r ∈ (R.map (rTx b)).set at' l,r≠[] ∧ ∀ w ∈ r,32 ∉ w.cps.toList:=fun r hr=>by
 rcases List.mem_or_eq_of_mem_set hr with z|z
 ·obtain ⟨l,h⟩:=tab_words hT hb r z
  refine ⟨fun y=>by rw [y] at l;simp at l;omega,fun w hw' y=>?_⟩
  have:=(h w hw').2.1 _ y
  omega
 ·rw [z];exact ⟨hl,hw⟩
theorem set_mem {l:List Str} (ha:at'<R.length):l ∈ (R.map (rTx b)).set at' l:=List.mem_of_getElem? (i:=at') (by rw [List.getElem?_set_self (by rw [List.length_map];exact ha)])
theorem sp_cut (hT:Tab b R n) (hb:b≤1000) (n1:2≤n) (n2:n≤4) (r1:2≤R.length) (r2:R.length≤4) {l:List Str} (h:(R.map (rTx b))[at']?=some l) {k:Nat} (k0:0<k) (hk:k+1<l.length):Spoilt (layT ((R.map (rTx b)).set at' (l.set k (Str.ofString "|")))):=by
 obtain ⟨r,hr,rfl,ha⟩:=row_at h
 have b0:=hT.pos
 have hm:=List.mem_of_getElem? hr
 obtain ⟨ln,wd⟩:=prow_wd hT hb hm
 have hw:=prT_wd hT hb
 have lr:(rTx b r).length=n:=by rw [prow,List.length_map,ln]
 obtain ⟨p,ep⟩ : ∃ p,p=r.map fun x=>(shTx (shT x b) (shB x b),shT x b,shB x b):=⟨_,rfl⟩
 rw [← ep] at ln wd
 have er:rTx b r=p.map Prod.fst:=by rw [ep];exact prow
 have pl:(prT b R).length=R.length:=by unfold prT;rw [List.length_map]
 have pn : ∀ q:List (Str×Int×Int),q ∈ (prT b R).take at'++p.take k::p.drop (k+1)::(prT b R).drop (at'+1)→q≠[]∧q.length≤n ∧ ∀ x ∈ q,Wd b x.1 x.2:=fun q hq=>by
  have old : ∀ q ∈ prT b R,q≠[]∧q.length≤n ∧ ∀ x ∈ q,Wd b x.1 x.2:=fun q hq=>by
   obtain ⟨l,h⟩:=hw q hq
   exact ⟨fun y=>by rw [y,List.length_nil] at l;omega,by omega,h⟩
  rcases List.mem_append.mp hq with z|z
  ·exact old q (List.mem_of_mem_take z)
  ·rcases List.mem_cons.mp z with z|z
   ·rw [z]
    refine ⟨fun y=>?_,by rw [List.length_take];omega,fun x hx=>wd x (List.mem_of_mem_take hx)⟩
    have:=congrArg List.length y
    rw [List.length_take,List.length_nil] at this
    omega
   ·rcases List.mem_cons.mp z with z|z
    ·rw [z]
     refine ⟨fun y=>?_,by rw [List.length_drop];omega,fun x hx=>wd x (List.mem_of_mem_drop hx)⟩
     have:=congrArg List.length y
     rw [List.length_drop,List.length_nil] at this
     omega
    ·exact old q (List.mem_of_mem_drop z)
 have hl:R.map (rTx b)=wP (prT b R):=(prT_w b R).symm
 have e:layT ((R.map (rTx b)).set at' ((rTx b r).set k (Str.ofString "|")))=layT (wP ((prT b R).take at'++p.take k::p.drop (k+1)::(prT b R).drop (at'+1))):=by
  have e1:(R.map (rTx b)).set at' ((rTx b r).set k (Str.ofString "|"))=(wP (prT b R)).take at'++((p.map Prod.fst).take k++Str.ofString "|" :: (p.map Prod.fst).drop (k+1))::(wP (prT b R)).drop (at'+1):=by
   rw [set_cut' (by omega),hl,List.set_eq_take_append_cons_drop,if_pos (by unfold wP;rw [List.length_map,pl];exact ha),er]
  have e2:wP ((prT b R).take at'++p.take k::p.drop (k+1)::(prT b R).drop (at'+1))=(wP (prT b R)).take at'++(p.map Prod.fst).take k::(p.map Prod.fst).drop (k+1)::(wP (prT b R)).drop (at'+1):=by
   unfold wP
   rw [List.map_append,List.map_cons,List.map_cons,List.map_take,List.map_take,List.map_drop,List.map_drop]
  have ne1 : ∀ q ∈ wP ((prT b R).take at'++p.take k::p.drop (k+1)::(prT b R).drop (at'+1)),q≠[]:=fun q hq'=>by
   obtain ⟨q,hq,rfl⟩:=List.mem_map.mp hq'
   simpa using (pn q hq).1
  have ne2 : ∀ q ∈ (R.map (rTx b)).set at' ((rTx b r).set k (Str.ofString "|")),q≠[]:=fun q hq=>by
   rcases List.mem_or_eq_of_mem_set hq with z|z
   ·have:=(tab_words hT hb q z).1
    exact fun y=>by rw [y,List.length_nil] at this;omega
   ·rw [z]
    intro y
    have:=congrArg List.length y
    rw [List.length_set,List.length_nil] at this
    omega
  rw [lay_flat (fun z=>by have:=congrArg List.length z;rw [List.length_set,List.length_map,List.length_nil] at this;omega) ne2,lay_flat (by rw [e2];simp) ne1,e1,e2,flat_cut]
 rw [e]
 refine pairs_odd (D0:=b) ⟨by simp,?_,fun q hq=>?_⟩ (by omega) (bits_up (bits64 (by omega) (by omega)) (by decide)) (.inl ?_)
 ·rw [List.length_append,List.length_cons,List.length_cons,List.length_take,List.length_drop]
  omega
 ·obtain ⟨q1,q2,q3⟩:=pn q hq
  exact ⟨q1,by omega,q3⟩
 ·refine ⟨(p.take k).map Prod.snd,List.mem_map.mpr ⟨p.take k,by simp,rfl⟩,?_⟩
  have oth : ∃ q ∈ (prT b R).take at'++p.take k::p.drop (k+1)::(prT b R).drop (at'+1),q.length=n:=by
   rcases Nat.eq_zero_or_pos at' with z|z
   ·have h1:1<(prT b R).length:=by omega
    refine ⟨(prT b R)[1],List.mem_append_right _ (List.mem_cons_of_mem _ (List.mem_cons_of_mem _ ?_)),(hw _ (List.getElem_mem h1)).1⟩
    refine List.mem_of_getElem? (i:=0) ?_
    rw [List.getElem?_drop,z,List.getElem?_eq_getElem h1]
   ·have h0:0<(prT b R).length:=by omega
    refine ⟨(prT b R)[0],List.mem_append_left _ ?_,(hw _ (List.getElem_mem h0)).1⟩
    refine List.mem_of_getElem? (i:=0) ?_
    rw [List.getElem?_take_of_lt z,List.getElem?_eq_getElem h0]
  obtain ⟨q,hq,lq⟩:=oth
  refine ⟨q.map Prod.snd,List.mem_map.mpr ⟨q,hq,rfl⟩,?_⟩
  rw [List.length_map,List.length_map,List.length_take,lq]
  omega
theorem sp_word (hT:Tab b R n) (hb:b≤1000) (n1:2≤n) (n2:n≤4) (r1:2≤R.length) (r2:R.length≤4) {l:List Str} (h:(R.map (rTx b))[at']?=some l) {k:Nat} (hk:k<l.length) {w:Str} (hw:w ∈ badWords):Spoilt (layT ((R.map (rTx b)).set at' (l.set k w))):=by
 have hlm:=List.mem_of_getElem? h
 obtain ⟨ln,lw⟩:=tab_words hT hb l hlm
 obtain ⟨_,_,_,ha⟩:=row_at h
 obtain ⟨w1,w2,w3⟩:=bad_kinds w hw
 have ok:TxtOk (layT ((R.map (rTx b)).set at' (l.set k w))):=set_txt hT hb n2 r2 (by rw [List.length_set];omega) fun x hx=>by
  rcases List.mem_or_eq_of_mem_set hx with z|z
  ·obtain ⟨x1,x2,_⟩:=lw x z
   exact ⟨by omega,fun c hc=>by have:=x2 c hc;omega⟩
  ·rw [z];exact ⟨w1,w2⟩
 have lfree : ∀ x ∈ l,32 ∉ x.cps.toList:=fun x hx z=>by have:=(lw x hx).2.1 _ z;omega
 have wm:w ∈ l.set k w:=List.mem_of_getElem? (i:=k) (by rw [List.getElem?_set_self hk])
 have sne:l.set k w≠[]:=fun z=>by rw [z] at wm;cases wm
 have sfree:32 ∉ w.cps.toList → ∀ x ∈ l.set k w,32 ∉ x.cps.toList:=fun hf x hx=>by
  rcases List.mem_or_eq_of_mem_set hx with z|z
  ·exact lfree x z
  ·rw [z];exact hf
 rcases w3 with ⟨f1,f2,f3⟩|f
 ·exact ⟨ok,.inl (lay_bad (set_mem ha) wm (set_free hT hb n1 sne (sfree f1)) f2 f3)⟩
 obtain ⟨o1,o2,o3,o4,o5⟩:=odd_ones
 simp only [List.map_cons,List.map_nil,List.mem_cons,List.not_mem_nil,or_false] at f
 rcases f with rfl|rfl|rfl|rfl|rfl|rfl|rfl|rfl
 ·exact sp_odd hT hb n1 n2 r1 r2 h hk ⟨by decide +kernel,by decide +kernel,by decide +kernel,Int.dvd_refl _⟩ o1
 ·exact sp_odd hT hb n1 n2 r1 r2 h hk ⟨by decide +kernel,by decide +kernel,by decide +kernel,Int.dvd_refl _⟩ o2
 ·exact sp_odd hT hb n1 n2 r1 r2 h hk ⟨by decide +kernel,by decide +kernel,by decide +kernel,Int.dvd_refl _⟩ o3
 ·exact sp_odd hT hb n1 n2 r1 r2 h hk ⟨by decide +kernel,by decide +kernel,by decide +kernel,Int.dvd_refl _⟩ o4
 ·exact sp_odd hT hb n1 n2 r1 r2 h hk ⟨by decide +kernel,by decide +kernel,by decide +kernel,Int.dvd_refl _⟩ o5
 ·refine ⟨ok,.inl ?_⟩
  rw [set_cut' hk,lay_blank (u:=Str.ofString "1") (v:=Str.ofString "/2") (by decide +kernel)]
  refine lay_bad (w:=Str.ofString "/2") (set_mem ha) (by simp) (set_free hT hb n1 (by simp) fun x hx=>?_) (by decide +kernel) (by decide +kernel)
  rcases List.mem_append.mp hx with z|z
  ·exact lfree x (List.mem_of_mem_take z)
  ·rcases List.mem_cons.mp z with z|z
   ·rw [z];decide +kernel
   ·rcases List.mem_cons.mp z with z|z
    ·rw [z];decide +kernel
    ·exact lfree x (List.mem_of_mem_drop z)
 ·refine ⟨ok,.inl ?_⟩
  rw [set_cut' hk,lay_blank (u:=Str.ofString "1/") (v:=Str.ofString "2") (by decide +kernel)]
  refine lay_bad (w:=Str.ofString "1/") (set_mem ha) (by simp) (set_free hT hb n1 (by simp) fun x hx=>?_) (by decide +kernel) (by decide +kernel)
  rcases List.mem_append.mp hx with z|z
  ·exact lfree x (List.mem_of_mem_take z)
  ·rcases List.mem_cons.mp z with z|z
   ·rw [z];decide +kernel
   ·rcases List.mem_cons.mp z with z|z
    ·rw [z];decide +kernel
    ·exact lfree x (List.mem_of_mem_drop z)
 ·have fr:=set_free (at':=at') hT hb n1 sne (sfree (by decide +kernel))
  by_cases k0:k=0
  ·refine ⟨ok,.inl (lay_bars (set_mem ha) ?_ fr)⟩
   rw [set_cut' hk,k0,List.take_zero]
   exact grp_first
  by_cases k1:k+1=l.length
  ·refine ⟨ok,.inl (lay_bars (set_mem ha) ?_ fr)⟩
   rw [set_cut' hk,k1,List.drop_length]
   exact grp_last
  exact sp_cut hT hb n1 n2 r1 r2 h (by omega) (by omega)
end
theorem app_ok {x y:Str} (hx : ∀ c ∈ x.cps.toList,c<128) (hy : ∀ c ∈ y.cps.toList,c<128) (hl:x.length+y.length≤800):TxtOk (x++y):=by
 refine ⟨asc_all.mpr fun c hc=>?_,?_⟩
 ·rw [str_app] at hc
  rcases List.mem_append.mp hc with z|z
  ·exact hx c z
  ·exact hy c z
 ·rw [str_len0,str_app,List.length_append,← str_len0,← str_len0];exact hl
theorem join_snoc {ts us:List Str} (h1:ts≠[]) (h2:us≠[]) {y:Str} (hy:y.cps.toList=32::(Str.join (Str.ofString " ") us).cps.toList):Txt.join (Str.ofString " ") ts++y=Txt.join (Str.ofString " ") (ts++us):=by
 have e0:(Str.ofString " ").cps.toList=[32]:=by decide +kernel
 have e1:Txt.join (Str.ofString " ") ts=Str.join (Str.ofString " ") ts:=StrLaws.glued_eq_join _ _
 have e2:Txt.join (Str.ofString " ") (ts++us)=Str.join (Str.ofString " ") (ts++us):=StrLaws.glued_eq_join _ _
 rw [e1,e2]
 refine str_ext ?_
 rw [str_app,join_app h1 h2,hy,e0];rfl
theorem join_pre {ts us:List Str} (h1:ts≠[]) (h2:us≠[]) {y:Str} (hy:y.cps.toList=(Str.join (Str.ofString " ") us).cps.toList++[32]):y++Txt.join (Str.ofString " ") ts=Txt.join (Str.ofString " ") (us++ts):=by
 have e0:(Str.ofString " ").cps.toList=[32]:=by decide +kernel
 have e1:Txt.join (Str.ofString " ") ts=Str.join (Str.ofString " ") ts:=StrLaws.glued_eq_join _ _
 have e2:Txt.join (Str.ofString " ") (us++ts)=Str.join (Str.ofString " ") (us++ts):=StrLaws.glued_eq_join _ _
 rw [e1,e2]
 refine str_ext ?_
 rw [str_app,join_app h2 h1,hy,e0,List.append_assoc]
section
variable {b:Int}{R:List (List Int)}{n:Nat}
theorem tab_toks (hT:Tab b R n) (hb:b≤1000) (n1:2≤n) (n2:n≤4) (r1:2≤R.length) (r2:R.length≤4) : ∃ ts,ts≠[]∧layT (R.map (rTx b))=Txt.join (Str.ofString " ") ts∧(∀ p ∈ ts,32 ∉ p.cps.toList)∧(∀ c ∈ (layT (R.map (rTx b))).cps.toList,c<128)∧(layT (R.map (rTx b))).length≤200:=by
 have w:=tab_words hT hb
 have ne:R.map (rTx b)≠[]:=fun z=>by have:=congrArg List.length z;rw [List.length_map,List.length_nil] at this;omega
 have rn : ∀ r ∈ R.map (rTx b),r≠[]:=fun r hr z=>by have:=(w r hr).1;rw [z,List.length_nil] at this;omega
 refine ⟨flatW (R.map (rTx b)),flat_ne ne rn,lay_flat ne rn,flat_noblank fun r hr x hx z=>?_,asc_all.mp (tab_txt hT hb (by omega) (by omega)).1,?_⟩
 ·have:=((w r hr).2 x hx).2.1 _ z
  omega
 ·have e1:(Str.ofString " ").length=1:=rfl
  have e2:(Str.ofString " | ").length=3:=rfl
  have row : ∀ y ∈ (R.map (rTx b)).map (Txt.join (Str.ofString " ")),y.length≤40:=fun y hy=>by
   obtain ⟨r,hr,rfl⟩:=List.mem_map.mp hy
   have:=join_le (s:=Str.ofString " ") (l:=r) (B:=9) fun x hx=>((w r hr).2 x hx).1
   have:=(w r hr).1
   rw [e1] at *
   omega
  have:=join_le (s:=Str.ofString " | ") row
  rw [e2,List.length_map,List.length_map] at this
  show (Txt.join (Str.ofString " | ") ((R.map (rTx b)).map (Txt.join (Str.ofString " ")))).length≤200
  omega
variable (hT:Tab b R n) (hb:b≤1000) (n1:2≤n) (n2:n≤4) (r1:2≤R.length) (r2:R.length≤4)
include hT hb n1 n2 r1 r2
theorem sp_behind {y:Str}{us:List Str}{t:Str} (hy:y.cps.toList=32::(Str.join (Str.ofString " ") us).cps.toList) (ya : ∀ c ∈ y.cps.toList,c<128) (yl:y.length≤600) (uf : ∀ p ∈ us,32 ∉ p.cps.toList) (ht:t ∈ us) (tb:t≠Str.ofString "|") (tn:readS t=none):Spoilt (layT (R.map (rTx b))++y):=by
 obtain ⟨ts,h1,h2,h3,h4,h5⟩:=tab_toks hT hb n1 n2 r1 r2
 refine ⟨app_ok h4 ya (by omega),.inl ?_⟩
 rw [h2,join_snoc h1 (fun z=>by rw [z] at ht;cases ht) hy]
 refine bad_join (List.mem_append_right _ ht) (fun p hp=>?_) tb tn
 rcases List.mem_append.mp hp with z|z
 ·exact h3 p z
 ·exact uf p z
theorem sp_ahead {y:Str}{us:List Str}{t:Str} (hy:y.cps.toList=(Str.join (Str.ofString " ") us).cps.toList++[32]) (ya : ∀ c ∈ y.cps.toList,c<128) (yl:y.length≤600) (uf : ∀ p ∈ us,32 ∉ p.cps.toList) (ht:t ∈ us) (tb:t≠Str.ofString "|") (tn:readS t=none):Spoilt (y++layT (R.map (rTx b))):=by
 obtain ⟨ts,h1,h2,h3,h4,h5⟩:=tab_toks hT hb n1 n2 r1 r2
 refine ⟨app_ok ya h4 (by omega),.inl ?_⟩
 rw [h2,join_pre h1 (fun z=>by rw [z] at ht;cases ht) hy]
 refine bad_join (List.mem_append_left _ ht) (fun p hp=>?_) tb tn
 rcases List.mem_append.mp hp with z|z
 ·exact uf p z
 ·exact h3 p z
theorem sp_9a:Spoilt (layT (R.map (rTx b))++Str.ofString " "):=sp_behind hT hb n1 n2 r1 r2 (us:=[Str.empty]) (t:=Str.empty) (by decide +kernel) (by decide +kernel) (by decide +kernel) (by decide +kernel) (by simp) (by decide +kernel) (by decide +kernel)
theorem sp_9b:Spoilt (Str.ofString " " ++ layT (R.map (rTx b))):=sp_ahead hT hb n1 n2 r1 r2 (us:=[Str.empty]) (t:=Str.empty) (by decide +kernel) (by decide +kernel) (by decide +kernel) (by decide +kernel) (by simp) (by decide +kernel) (by decide +kernel)
theorem sp_9c:Spoilt (layT (R.map (rTx b))++Str.ofString " |"):=by
 obtain ⟨ts,h1,h2,h3,h4,h5⟩:=tab_toks hT hb n1 n2 r1 r2
 refine ⟨app_ok h4 (by decide +kernel) (Nat.le_trans (Nat.add_le_add_right h5 _) (by decide +kernel)),.inl ?_⟩
 rw [h2,join_snoc (us:=[Str.ofString "|"]) h1 (by simp) (by decide +kernel)]
 exact bar_last h3
theorem sp_9d:Spoilt (Str.ofString "| " ++ layT (R.map (rTx b))):=by
 obtain ⟨ts,h1,h2,h3,h4,h5⟩:=tab_toks hT hb n1 n2 r1 r2
 refine ⟨app_ok (by decide +kernel) h4 (Nat.le_trans (Nat.add_le_add_left h5 _) (by decide +kernel)),.inl ?_⟩
 rw [h2,join_pre (us:=[Str.ofString "|"]) h1 (by simp) (by decide +kernel)]
 exact bar_first h3
theorem sp_9f:Spoilt (layT (R.map (rTx b))++Str.ofString " | "):=sp_behind hT hb n1 n2 r1 r2 (us:=[Str.ofString "|",Str.empty]) (t:=Str.empty) (by decide +kernel) (by decide +kernel) (by decide +kernel) (by decide +kernel) (by simp) (by decide +kernel) (by decide +kernel)
theorem sp_13:Spoilt (Str.ofString "glass " ++ layT (R.map (rTx b))):=sp_ahead hT hb n1 n2 r1 r2 (us:=[Str.ofString "glass"]) (t:=Str.ofString "glass") (by decide +kernel) (by decide +kernel) (by decide +kernel) (by decide +kernel) (by simp) (by decide +kernel) (by decide +kernel)
end
theorem closed_sp : ∀ x ∈ [""," ","|"," | ","x"].map Str.ofString,Spoilt x:=fun x hx=>by
 have h:([""," ","|"," | ","x"].map Str.ofString).all (fun x=>x.cps.all (· < 128)&&(decide (x.length≤800)&&(rowsW x).any fun r=>r.any fun w=>(readS w).isNone))=true:=by decide +kernel
 have:=List.all_eq_true.mp h x hx
 simp only [Bool.and_eq_true,decide_eq_true_eq,List.any_eq_true,Option.isNone_iff_eq_none] at this
 exact ⟨⟨this.1,this.2.1⟩,.inl this.2.2⟩
section
variable {b:Int}{R:List (List Int)}{n:Nat}
variable (hT:Tab b R n) (hb:b≤1000) (n1:2≤n) (n2:n≤4) (r1:2≤R.length) (r2:R.length≤4)
include hT hb n1 n2 r1 r2
theorem sp_9e:Spoilt (layT (R.map (rTx b))++Str.ofString "\n"):=by
 obtain ⟨ts,h1,h2,h3,h4,h5⟩:=tab_toks hT hb n1 n2 r1 r2
 have e10:(Str.ofString "\n").cps.toList=[10]:=by decide +kernel
 have e32:(Str.ofString " ").cps.toList=[32]:=by decide +kernel
 refine ⟨app_ok h4 (by decide +kernel) (Nat.le_trans (Nat.add_le_add_right h5 _) (by decide +kernel)),.inl ?_⟩
 have e:=List.dropLast_concat_getLast h1
 have ew:Txt.join (Str.ofString " ") ts++Str.ofString "\n" = Txt.join (Str.ofString " ") (ts.dropLast++[ts.getLast h1++Str.ofString "\n"]):=by
  have e1:Txt.join (Str.ofString " ") ts=Str.join (Str.ofString " ") ts:=StrLaws.glued_eq_join _ _
  have e2:Txt.join (Str.ofString " ") (ts.dropLast++[ts.getLast h1++Str.ofString "\n"])=Str.join (Str.ofString " ") (ts.dropLast++[ts.getLast h1++Str.ofString "\n"]):=StrLaws.glued_eq_join _ _
  rw [e1,e2]
  refine str_ext ?_
  rw [str_app]
  by_cases d:ts.dropLast=[]
  ·rw [d] at e
   have e':ts=[ts.getLast h1]:=e.symm
   have a1:(Str.join (Str.ofString " ") ts).cps.toList=(ts.getLast h1).cps.toList:=by
    conv=>lhs;rw [e']
    rfl
   rw [d,a1]
   show _=(ts.getLast h1++Str.ofString "\n").cps.toList
   rw [str_app]
  ·have a1:(Str.join (Str.ofString " ") ts).cps.toList=(Str.join (Str.ofString " ") ts.dropLast).cps.toList++((Str.ofString " ").cps.toList++(ts.getLast h1).cps.toList):=by
    conv=>lhs;rw [← e]
    exact join_app d (by simp)
   rw [a1,join_app d (by simp)]
   show _=_++(_++(ts.getLast h1++Str.ofString "\n").cps.toList)
   rw [str_app]
   simp [List.append_assoc]
 rw [h2,ew]
 have has:10 ∈ (ts.getLast h1++Str.ofString "\n").cps.toList:=by rw [str_app,e10];simp
 refine bad_join (t:=ts.getLast h1++Str.ofString "\n") (by simp) (fun p hp=>?_) (fun z=>?_) (readS_bad has (by decide))
 ·rcases List.mem_append.mp hp with z|z
  ·exact h3 p (List.dropLast_subset _ z)
  ·rw [List.mem_singleton.mp z,str_app,e10]
   intro y
   rcases List.mem_append.mp y with y|y
   ·exact h3 _ (List.getLast_mem h1) y
   ·simp at y
 ·rw [z] at has
  exact absurd has (by decide +kernel)
theorem sp_14:Spoilt (layT ((R.map (rTx b)).map fun l=>l++List.replicate (13-l.length) (Str.ofString "0"))):=by
 have b0:=hT.pos
 have hw:=prT_wd hT hb
 have pl:(prT b R).length=R.length:=by unfold prT;rw [List.length_map]
 have e:(R.map (rTx b)).map (fun l=>l++List.replicate (13-l.length) (Str.ofString "0"))=wP ((prT b R).map fun q=>q++List.replicate (13-q.length) (Str.ofString "0",0,1)):=by
  rw [← prT_w]
  unfold wP
  rw [List.map_map,List.map_map]
  refine List.map_congr_left fun q _=>?_
  show q.map Prod.fst++List.replicate (13-(q.map Prod.fst).length) _=(q++List.replicate (13-q.length) (Str.ofString "0",(0:Int),(1:Int))).map Prod.fst
  rw [List.map_append,List.map_replicate,List.length_map]
 rw [e]
 have row : ∀ q ∈ prT b R,(q++List.replicate (13-q.length) (Str.ofString "0",(0:Int),(1:Int))).length=13:=fun q hq=>by
  have:=(hw q hq).1
  rw [List.length_append,List.length_replicate]
  omega
 refine pairs_odd (D0:=b) ⟨fun z=>?_,by rw [List.length_map,pl];omega,fun r hr=>?_⟩ (by omega) (bits_up (bits64 (by omega) (by omega)) (by decide)) (.inr (.inl ?_))
 ·have:=congrArg List.length z
  rw [List.length_map,pl,List.length_nil] at this
  omega
 ·obtain ⟨q,hq,rfl⟩:=List.mem_map.mp hr
  have l:=row q hq
  refine ⟨fun z=>by rw [z,List.length_nil] at l;omega,by omega,fun x hx=>?_⟩
  rcases List.mem_append.mp hx with z|z
  ·exact (hw q hq).2 x z
  ·rw [List.eq_of_mem_replicate z];exact zero_wd
 ·have h0:0<(prT b R).length:=by omega
  refine ⟨_,List.mem_map.mpr ⟨_,List.mem_map.mpr ⟨(prT b R)[0],List.getElem_mem h0,rfl⟩,rfl⟩,?_⟩
  rw [List.length_map,row _ (List.getElem_mem h0)]
  decide
end
theorem bar_part {x a c:Str} (hx:x.cps.toList=a.cps.toList++(32::124::32::c.cps.toList)) (h:124 ∉ a.cps.toList):partS x (Str.ofString " | ")=[a,Str.ofString " | ",c]:=by
 have ey:(Str.ofString " | ").cps.toList=[32,124,32]:=by decide +kernel
 have el:(Str.ofString " | ").length=3:=rfl
 have lx:x.length=a.cps.toList.length+(c.cps.toList.length+3):=by
  rw [str_len0,hx,List.length_append];simp
 have at_a:StrLaws.At x (Str.ofString " | ") x.length a.cps.toList.length:=at_mk (t:=c.cps.toList) (by rw [hx,List.drop_left,ey];rfl) (by omega)
 unfold partS
 rcases StrLaws.occ_head x (Str.ofString " | ") 1 (Nat.le_refl 1) with ⟨h0,hn⟩|⟨i,r,h0,hi,hn⟩
 ·exact absurd at_a (hn _)
 ·have e:i=a.cps.toList.length:=by
   rcases Nat.lt_trichotomy i a.cps.toList.length with z|z|z
   ·exfalso
    have s:=at_sign (c:=124) (o:=1) (by rw [ey];rfl) hi
    rcases Nat.lt_or_ge (i+1) a.cps.toList.length with y|y
    ·rw [hx,List.getElem?_append_left y] at s
     exact h (List.mem_of_getElem? s)
    ·have:i+1=a.cps.toList.length:=by omega
     rw [hx,this,List.getElem?_append_right (Nat.le_refl _),Nat.sub_self] at s
     cases s
   ·exact z
   ·exact absurd at_a (hn _ z)
  rw [h0]
  show [Builtin.Str.strSub x 0 i,Str.ofString " | ",Builtin.Str.strSub x (i+3) x.length]=[a,Str.ofString " | ",c]
  have e1:Builtin.Str.strSub x 0 i=a:=str_ext (by rw [sub_list,hx,e,List.drop_zero,Nat.sub_zero,List.take_left])
  have e2:Builtin.Str.strSub x (i+3) x.length=c:=str_ext (by
   rw [sub_list,hx,e,lx]
   have:(a.cps.toList++(32::124::32::c.cps.toList)).drop (a.cps.toList.length+3)=c.cps.toList:=by
    rw [List.drop_append]
    simp
   rw [this]
   exact List.take_of_length_le (by omega))
  rw [e1,e2]
theorem tok_in {x p t s:Str} (hx:x.cps.toList=p.cps.toList++(t.cps.toList++s.cps.toList)) (hp:p.cps.toList=[] ∨ ∃ q:Str,p.cps.toList=q.cps.toList++[32]) (hs:s.cps.toList=[] ∨ ∃ q:Str,s.cps.toList=32::q.cps.toList) (ht:32 ∉ t.cps.toList):t ∈ Txt.split x (Str.ofString " "):=by
 have e32:(Str.ofString " ").cps.toList=[32]:=by decide +kernel
 obtain ⟨bs,hb,hbf⟩ : ∃ bs:List Str,(Str.join (Str.ofString " ") (t::bs)).cps.toList=t.cps.toList++s.cps.toList ∧ ∀ w ∈ bs,32 ∉ w.cps.toList:=by
  rcases hs with z|⟨q,z⟩
  ·exact ⟨[],by rw [z,List.append_nil];rfl,fun w hw=>by cases hw⟩
  ·refine ⟨Txt.split q (Str.ofString " "),?_,split_noblank q⟩
   have ne:=split_ne q (Str.ofString " ")
   have:=join_app (y:=Str.ofString " ") (as:=[t]) (bs:=Txt.split q (Str.ofString " ")) (by simp) ne
   rw [StrLaws.join_split] at this
   rw [show t::Txt.split q (Str.ofString " ")=[t]++Txt.split q (Str.ofString " ") from rfl,this,e32,z]
   rfl
 obtain ⟨as,ha,haf⟩ : ∃ as:List Str,(Str.join (Str.ofString " ") (as++t::bs)).cps.toList=x.cps.toList ∧ ∀ w ∈ as,32 ∉ w.cps.toList:=by
  rcases hp with z|⟨q,z⟩
  ·exact ⟨[],by rw [List.nil_append,hb,hx,z];rfl,fun w hw=>by cases hw⟩
  ·refine ⟨Txt.split q (Str.ofString " "),?_,split_noblank q⟩
   rw [join_app (split_ne q _) (by simp),StrLaws.join_split,hb,hx,z,e32]
   simp [List.append_assoc]
 have ex:x=Txt.join (Str.ofString " ") (as++t::bs):=by
  have:Txt.join (Str.ofString " ") (as++t::bs)=Str.join (Str.ofString " ") (as++t::bs):=StrLaws.glued_eq_join _ _
  rw [this]
  exact str_ext ha.symm
 rw [ex,(cut_row (ws:=as++t::bs) (by simp) fun w hw=>?_).2]
 ·simp
 ·rcases List.mem_append.mp hw with z|z
  ·exact haf w z
  ·rcases List.mem_cons.mp z with z|z
   ·rw [z];exact ht
   ·exact hbf w z
theorem tokL {x:Str}{P t S:List Nat} (hx:x.cps.toList=P++(t++S)) (hp:P=[] ∨ ∃ q,P=q++[32]) (hs:S=[] ∨ ∃ q,S=32::q) (ht:32 ∉ t) (n1:t≠[124]) (hn:readS ⟨t.toArray⟩=none):BadT x:=by
 have eb:(Str.ofString "|").cps.toList=[124]:=by decide +kernel
 refine bad_tok (t:=⟨t.toArray⟩) (tok_in (p:=⟨P.toArray⟩) (s:=⟨S.toArray⟩) (by simpa using hx) ?_ ?_ (by simpa using ht)) (fun z=>?_) hn
 ·rcases hp with z|⟨q,z⟩
  ·exact .inl (by simpa using z)
  ·exact .inr ⟨⟨q.toArray⟩,by simpa using z⟩
 ·rcases hs with z|⟨q,z⟩
  ·exact .inl (by simpa using z)
  ·exact .inr ⟨⟨q.toArray⟩,by simpa using z⟩
 ·have:=congrArg (fun s:Str=>s.cps.toList) z
  simp only [eb] at this
  exact n1 (by simpa using this)
theorem badL {t:List Nat}{c:Nat} (h:c ∈ t) (hc:c≠45∧c≠47∧(c<48∨57<c)):readS ⟨t.toArray⟩=none:=readS_bad (c:=c) (by simpa using h) hc
theorem join_head (v:Str) (vs:List Str) : ∃ S,(Str.join (Str.ofString " ") (v::vs)).cps.toList=v.cps.toList++S∧(S=[] ∨ ∃ q,S=32::q):=by
 have e32:(Str.ofString " ").cps.toList=[32]:=by decide +kernel
 cases vs with
 | nil=>exact ⟨[],by rw [List.append_nil];rfl,.inl rfl⟩
 | cons w vs=>exact ⟨32::(Str.join (Str.ofString " ") (w::vs)).cps.toList,by rw [join_two,e32];rfl,.inr ⟨_,rfl⟩⟩
theorem join_end (us:List Str) (u:Str) : ∃ P,(Str.join (Str.ofString " ") (us++[u])).cps.toList=P++u.cps.toList∧(P=[] ∨ ∃ q,P=q++[32]):=by
 have e32:(Str.ofString " ").cps.toList=[32]:=by decide +kernel
 by_cases h:us=[]
 ·rw [h];exact ⟨[],rfl,.inl rfl⟩
 ·refine ⟨(Str.join (Str.ofString " ") us).cps.toList++[32],?_,.inr ⟨_,rfl⟩⟩
  rw [join_app h (by simp),e32,List.append_assoc];rfl
section
variable {b:Int}{R:List (List Int)}{n:Nat}
variable (hT:Tab b R n) (hb:b≤1000) (n1:2≤n) (n2:n≤4) (r1:2≤R.length) (r2:R.length≤4)
include hT hb n1 n2 r1 r2
theorem tab_first : ∃ (a c:Str) (P u v S:List Nat),partS (layT (R.map (rTx b))) (Str.ofString " | ")=[a,Str.ofString " | ",c]∧a.cps.toList=P++u∧c.cps.toList=v++S∧(P=[] ∨ ∃ q,P=q++[32])∧(S=[] ∨ ∃ q,S=32::q)∧(u≠[]∧32 ∉ u)∧(v≠[]∧32 ∉ v)∧(∀ d ∈ a.cps.toList,d<128)∧(∀ d ∈ c.cps.toList,d<128)∧a.length+c.length≤200∧(layT (R.map (rTx b))).cps.toList=a.cps.toList++(32::124::32::c.cps.toList):=by
 have w:=tab_words hT hb
 obtain ⟨_,_,_,_,h4,h5⟩:=tab_toks hT hb n1 n2 r1 r2
 match eL:R.map (rTx b),w,h4,h5 with
 | [],_,_,_=>have:=congrArg List.length eL;rw [List.length_map,List.length_nil] at this;omega
 | [_],_,_,_=>have:=congrArg List.length eL;rw [List.length_map] at this;simp at this;omega
 | r0::r3::rs,w,h4,h5 =>
  have emp:readS Str.empty=none:=by decide +kernel
  have wne : ∀ r ∈ r0::r3::rs,∀ x ∈ r,x.cps.toList≠[]∧32 ∉ x.cps.toList∧124 ∉ x.cps.toList:=fun r hr x hx=>by
   obtain ⟨_,g,y,_,_,_,rd⟩:=(w r hr).2 x hx
   refine ⟨fun z=>?_,fun z=>by have:=g _ z;omega,fun z=>by have:=g _ z;omega⟩
   have:x=Str.empty:=str_ext z
   rw [this,emp] at rd
   cases rd
  have l0:=(w r0 (by simp)).1
  have l3:=(w r3 (by simp)).1
  have n0:r0≠[]:=fun z=>by rw [z,List.length_nil] at l0;omega
  have eT:(layT (r0::r3::rs)).cps.toList=(Txt.join (Str.ofString " ") r0).cps.toList++(32::124::32::(layT (r3::rs)).cps.toList):=by
   have e1:layT (r0::r3::rs)=Str.join (Str.ofString " | ") ((r0::r3::rs).map (Txt.join (Str.ofString " "))):=StrLaws.glued_eq_join _ _
   have e2:layT (r3::rs)=Str.join (Str.ofString " | ") ((r3::rs).map (Txt.join (Str.ofString " "))):=StrLaws.glued_eq_join _ _
   have e3:(Str.ofString " | ").cps.toList=[32,124,32]:=by decide +kernel
   rw [e1,e2]
   simp only [List.map_cons]
   rw [join_two,e3];rfl
  have fr:124 ∉ (Txt.join (Str.ofString " ") r0).cps.toList:=row_free fun x hx=>(wne r0 (by simp) x hx).2.2
  have e0:=List.dropLast_concat_getLast n0
  obtain ⟨P,hP,hP2⟩:=join_end r0.dropLast (r0.getLast n0)
  rw [e0] at hP
  have ej:Txt.join (Str.ofString " ") r0=Str.join (Str.ofString " ") r0:=StrLaws.glued_eq_join _ _
  obtain ⟨v,vs,ev⟩ : ∃ v vs,r3=v::vs:=List.exists_cons_of_ne_nil fun z=>by rw [z,List.length_nil] at l3;omega
  have fl : ∃ us,flatW (r3::rs)=v::us:=by
   rw [ev]
   cases rs with
   | nil=>exact ⟨vs,rfl⟩
   | cons s rs=>exact ⟨_,rfl⟩
  obtain ⟨us,fl⟩:=fl
  obtain ⟨S,hS,hS2⟩:=join_head v us
  have ec:layT (r3::rs)=Str.join (Str.ofString " ") (v::us):=by
   rw [lay_flat (by simp) (fun r hr=>fun z=>by have:=(w r (List.mem_cons_of_mem _ hr)).1;rw [z,List.length_nil] at this;omega),fl]
   exact StrLaws.glued_eq_join _ _
  have gl:=wne r0 (by simp) _ (List.getLast_mem n0)
  have gv:=wne r3 (by simp) v (by rw [ev];simp)
  refine ⟨Txt.join (Str.ofString " ") r0,layT (r3::rs),P,(r0.getLast n0).cps.toList,v.cps.toList,S,bar_part eT fr,by rw [ej];exact hP,by rw [ec];exact hS,hP2,hS2,⟨gl.1,gl.2.1⟩,⟨gv.1,gv.2.1⟩,fun d hd=>h4 d (by rw [eT];exact List.mem_append_left _ hd),fun d hd=>h4 d (by rw [eT];exact List.mem_append_right _ (List.mem_cons_of_mem _ (List.mem_cons_of_mem _ (List.mem_cons_of_mem _ hd)))),?_,eT⟩
  have:=congrArg List.length eT
  rw [List.length_append,← str_len0,← str_len0] at this
  simp only [List.length_cons] at this
  rw [← str_len0] at this
  omega
theorem sp_10 : ∃ a c,partS (layT (R.map (rTx b))) (Str.ofString " | ")=[a,Str.ofString " | ",c] ∧ ∀ z ∈ ["|"," |","| "," || ","  |  "," ; "].map Str.ofString,Spoilt (a++z++c):=by
 obtain ⟨a,c,P,u,v,S,hp,ha,hc,hP,hS,hu,hv,aa,ac,l,_⟩:=tab_first hT hb n1 n2 r1 r2
 refine ⟨a,c,hp,fun z hz=>?_⟩
 have ex : ∀ z:Str,(a++z++c).cps.toList=P++(u++(z.cps.toList++(v++S))):=fun z=>by
  rw [str_app,str_app,ha,hc];simp [List.append_assoc]
 have ok : ∀ z:Str,(∀ d ∈ z.cps.toList,d<128)→z.length≤10→TxtOk (a++z++c):=fun z h1 h2=>by
  refine app_ok (fun d hd=>?_) ac ?_
  ·rw [str_app] at hd
   rcases List.mem_append.mp hd with y|y
   ·exact aa d y
   ·exact h1 d y
  ·rw [str_len0 (a++z),str_app,List.length_append,← str_len0,← str_len0]
   omega
 simp only [List.map_cons,List.map_nil,List.mem_cons,List.not_mem_nil,or_false] at hz
 rcases hz with rfl|rfl|rfl|rfl|rfl|rfl
 ·refine ⟨ok _ (by decide +kernel) (by decide +kernel),.inl (tokL (P:=P) (t:=u++124::v) (S:=S) ?_ hP hS ?_ ?_ (badL (c:=124) (by simp) (by decide)))⟩
  ·rw [ex,show (Str.ofString "|").cps.toList=[124] by decide +kernel];simp [List.append_assoc]
  ·intro y
   rcases List.mem_append.mp y with y|y
   ·exact hu.2 y
   ·rcases List.mem_cons.mp y with y|y
    ·omega
    ·exact hv.2 y
  ·intro y
   have:=congrArg List.length y
   have:=List.length_pos_iff.mpr hu.1
   simp at *
   omega
 ·refine ⟨ok _ (by decide +kernel) (by decide +kernel),.inl (tokL (P:=P++u++[32]) (t:=124::v) (S:=S) ?_ (.inr ⟨_,rfl⟩) hS ?_ ?_ (badL (c:=124) (by simp) (by decide)))⟩
  ·rw [ex,show (Str.ofString " |").cps.toList=[32,124] by decide +kernel];simp [List.append_assoc]
  ·intro y
   rcases List.mem_cons.mp y with y|y
   ·omega
   ·exact hv.2 y
  ·intro y
   simp at y
   exact hv.1 y
 ·refine ⟨ok _ (by decide +kernel) (by decide +kernel),.inl (tokL (P:=P) (t:=u++[124]) (S:=32::(v++S)) ?_ hP (.inr ⟨_,rfl⟩) ?_ ?_ (badL (c:=124) (by simp) (by decide)))⟩
  ·rw [ex,show (Str.ofString "| ").cps.toList=[124,32] by decide +kernel];simp [List.append_assoc]
  ·intro y
   rcases List.mem_append.mp y with y|y
   ·exact hu.2 y
   ·simp at y
  ·intro y
   simp at y
   exact hu.1 y
 ·refine ⟨ok _ (by decide +kernel) (by decide +kernel),.inl (tokL (P:=P++u++[32]) (t:=[124,124]) (S:=32::(v++S)) ?_ (.inr ⟨_,rfl⟩) (.inr ⟨_,rfl⟩) (by decide) (by decide) (by decide +kernel))⟩
  rw [ex,show (Str.ofString " || ").cps.toList=[32,124,124,32] by decide +kernel];simp [List.append_assoc]
 ·refine ⟨ok _ (by decide +kernel) (by decide +kernel),.inl (tokL (P:=P++u++[32]) (t:=[]) (S:=32::124::32::32::(v++S)) ?_ (.inr ⟨_,rfl⟩) (.inr ⟨_,rfl⟩) (by decide) (by decide) (by decide +kernel))⟩
  rw [ex,show (Str.ofString "  |  ").cps.toList=[32,32,124,32,32] by decide +kernel];simp [List.append_assoc]
 ·refine ⟨ok _ (by decide +kernel) (by decide +kernel),.inl (tokL (P:=P++u++[32]) (t:=[59]) (S:=32::(v++S)) ?_ (.inr ⟨_,rfl⟩) (.inr ⟨_,rfl⟩) (by decide) (by decide) (by decide +kernel))⟩
  rw [ex,show (Str.ofString " ; ").cps.toList=[32,59,32] by decide +kernel];simp [List.append_assoc]
theorem sp_15 : ∃ a c,partS (layT (R.map (rTx b))) (Str.ofString " ")=[a,Str.ofString " ",c]∧Spoilt (a++Str.ofString "  " ++ c):=by
 obtain ⟨a0,c0,_,_,_,_,_,_,_,_,_,_,_,_,_,_,eT⟩:=tab_first hT hb n1 n2 r1 r2
 obtain ⟨ts,h1,h2,h3,h4,h5⟩:=tab_toks hT hb n1 n2 r1 r2
 have e32:(Str.ofString " ").cps.toList=[32]:=by decide +kernel
 have hb32:32 ∈ (layT (R.map (rTx b))).cps.toList:=by rw [eT];simp
 obtain ⟨as,bs,e1,e2⟩:=List.eq_append_cons_of_mem hb32
 have ec:chS 32=Str.ofString " ":=by decide +kernel
 have pa:=part_at (x:=layT (R.map (rTx b))) (a:=⟨as.toArray⟩) (b:=⟨bs.toArray⟩) (c:=32) (by simpa using e1) (by simpa using e2)
 rw [ec] at pa
 have el:=congrArg List.length e1
 rw [List.length_append,List.length_cons,← str_len0] at el
 refine ⟨_,_,pa,app_ok (fun d hd=>?_) (fun d hd=>h4 d ?_) ?_,.inl (tokL (P:=as++[32]) (t:=[]) (S:=32::bs) ?_ (.inr ⟨_,rfl⟩) (.inr ⟨_,rfl⟩) (by decide) (by decide) (by decide +kernel))⟩
 ·rw [str_app] at hd
  rcases List.mem_append.mp hd with y|y
  ·exact h4 d (by rw [e1];exact List.mem_append_left _ (by simpa using y))
  ·exact (show ∀ d ∈ (Str.ofString "  ").cps.toList,d<128 by decide +kernel) d y
 ·rw [e1];exact List.mem_append_right _ (List.mem_cons_of_mem _ (by simpa using hd))
 ·rw [str_len0 (_++_),str_app,List.length_append,str_len0 ⟨bs.toArray⟩,show (Str.ofString "  ").cps.toList=[32,32] by decide +kernel]
  simp
  omega
 ·rw [str_app,str_app,show (Str.ofString "  ").cps.toList=[32,32] by decide +kernel]
  simp [List.append_assoc]
end
def sp__law_spoiled (ds:List PyData) (k:PyData→Prop):Prop := ∃ (b:Int) (R:List (List Int)) (n:Nat) (c:Int),ds=[.str (layT (R.map (rTx b))),.int c]∧(Tab b R n∧2≤R.length∧R.length≤4∧2≤n∧n≤4∧b≤1000) ∧ ∀ x,Spoilt x→k (.str x)
def dLL (L:List (List Str)):PyData :=.list (L.map fun r => .list (r.map .str))
def JRows (L:List (List Str)):Prop:=L.length≤10 ∧ ∀ l ∈ L,l.length≤20 ∧ ∀ w ∈ l,w.length≤20
theorem JRows.ok {L:List (List Str)} (h:JRows L):(∀ l ∈ L,JoinOk (Str.ofString " ") l=true)∧JoinOk (Str.ofString " | ") (L.map (Txt.join (Str.ofString " ")))=true:=by
 have e1:(Str.ofString " ").length=1:=rfl
 have e3:(Str.ofString " | ").length=3:=rfl
 have inner : ∀ l ∈ L,JoinOk (Str.ofString " ") l=true∧(Txt.join (Str.ofString " ") l).length≤500:=fun l hl=>by
  obtain ⟨a,w⟩:=h.2 l hl
  have m:l.length*20≤20*20:=Nat.mul_le_mul_right _ a
  refine ⟨join_ok w (by rw [e1];omega),?_⟩
  have:=join_le (s:=Str.ofString " ") w
  rw [e1] at this
  omega
 refine ⟨fun l hl=>(inner l hl).1,join_ok (B:=500) (fun y hy=>?_) ?_⟩
 ·obtain ⟨l,hl,rfl⟩:=List.mem_map.mp hy
  exact (inner l hl).2
 ·rw [List.length_map,e3,← Nat.mul_add]
  exact Nat.le_trans (Nat.mul_le_mul_right _ h.1) (by decide)
theorem jset {L:List (List Str)}{k:Nat}{l:List Str} (h:JRows L) (hl:l.length≤20 ∧ ∀ w ∈ l,w.length≤20):JRows (L.set k l):=⟨by rw [List.length_set];exact h.1,fun r hr=>by
 rcases List.mem_or_eq_of_mem_set hr with z|z
 ·exact h.2 r z
 ·rw [z];exact hl⟩
theorem ixs {n:Nat}{x:Int} (h0:0≤x) (h1:x<n) : ∃ k:Nat,x=(k:Int)∧k<n:=⟨x.toNat,by omega,by omega⟩
theorem joinW {x0 x1 x3 x4 x5 x6:Sl}{L:List (List Str)}{q:PyData→Prop} (h:JRows L) (hq:q (.str (layT L))):wRet (wJoin (wC (.str (Str.ofString " | "))) (wL (wComp [] 1 (wiSeq (wVar 2)) (wgName 0) (wJoin (wC (.str (Str.ofString " "))) (wVar 0))))) { nx:=fun _=>False,rt:=fun r _=>q r.data } [x0,x1,.val (dLL L),x3,x4,x5,x6]:=by
 obtain ⟨h1,h2⟩:=h.ok
 refine ⟨_,rfl,comp_by ((L.map (Txt.join (Str.ofString " "))).map PyData.str) (by simp) (small1000 (by simp;have:=h.1;omega)) (fun e => ∃ s,e=[s]) ⟨_,rfl⟩ ?_ ⟨_,rfl,h2,hq⟩⟩
 rintro i x ys e hx hys ⟨s,rfl⟩
 rw [List.getElem?_map] at hx
 cases er:L[i]? with
 | none=>rw [er] at hx;cases hx
 | some l =>
  rw [er] at hx
  cases hx
  refine ⟨_,rfl,l,rfl,h1 l (List.mem_of_getElem? er),snoc_take ?_ hys,_,rfl⟩
  rw [List.getElem?_map,List.getElem?_map,er];rfl
theorem pickD {l:List PyData}{i:Int}{q:PyData→Prop} (h0:0≤i) (h1:i<l.length) (h : ∀ d ∈ l,q d) : ∃ d,atI l i=some d∧q d:=by
 obtain ⟨k,rfl,hk⟩:=ixs h0 h1
 exact ⟨l[k],atI_nat (List.getElem?_eq_getElem hk),h _ (List.getElem_mem hk)⟩
theorem padW {x0 x1 x3 x4 x5 x6:Sl}{L:List (List Str)}{q:PyData→Prop} (h:JRows L) (hl : ∀ l ∈ L,l.length≤4) (hq:q (.str (layT (L.map fun l:List Str=>l++List.replicate (13-l.length) (Str.ofString "0"))))) :
 wRet (wJoin (wC (.str (Str.ofString " | "))) (wL (wComp [] 1 (wiSeq (wVar 2)) (wgName 0) (wJoin (wC (.str (Str.ofString " "))) (wL (wCat (wVar 0) (wL (wRep (wLst (wCons (wC (.str (Str.ofString "0"))) wNil)) (wOp dSub (wC (.int 13)) (wCall dLen (wCons (wVar 0) wNil))))))))))) { nx:=fun _=>False,rt:=fun r _=>q r.data } [x0,x1,.val (dLL L),x3,x4,x5,x6]:=by
  have hJ:JRows (L.map fun l:List Str=>l++List.replicate (13-l.length) (Str.ofString "0")):=⟨by rw [List.length_map];exact h.1,fun r hr=>by
   obtain ⟨l,hm,rfl⟩:=List.mem_map.mp hr
   have:=hl l hm
   refine ⟨by rw [List.length_append,List.length_replicate];omega,fun w hw=>?_⟩
   rcases List.mem_append.mp hw with z|z
   ·exact (h.2 l hm).2 w z
   ·rw [(List.mem_replicate.mp z).2];decide⟩
  obtain ⟨h1,h2⟩:=hJ.ok
  refine ⟨_,rfl,comp_by (((L.map fun l:List Str=>l++List.replicate (13-l.length) (Str.ofString "0")).map (Txt.join (Str.ofString " "))).map PyData.str) (by simp) (small1000 (by simp;have:=h.1;omega)) (fun e => ∃ s,e=[s]) ⟨_,rfl⟩ ?_ ⟨_,rfl,h2,hq⟩⟩
  rintro i x ys e hx hys ⟨s,rfl⟩
  rw [List.getElem?_map] at hx
  cases er:L[i]? with
  | none=>rw [er] at hx;cases hx
  | some l =>
   rw [er] at hx
   cases hx
   have hm:=List.mem_of_getElem? er
   have l4:=hl l hm
   have e13:((13:Int)-((l.map PyData.str).length:Int)).toNat=13-l.length:=by rw [List.length_map];omega
   refine ⟨_,rfl,szl,⟨by rw [List.length_map];omega,by rw [List.length_map];omega,sz_line (k:=100) (by rw [e13];show 1*_≤100;omega) (by decide)⟩,fun r hr=>?_⟩
   have er2:r=(List.replicate (13-l.length) (Str.ofString "0")).map PyData.str:=by rw [hr,e13];simp
   subst er2
   refine ⟨sz_line (k:=100) (by rw [List.length_map,List.length_map,List.length_replicate];omega) (by decide),l++List.replicate (13-l.length) (Str.ofString "0"),by rw [List.map_append],h1 _ (List.mem_map.mpr ⟨l,hm,rfl⟩),snoc_take ?_ hys,_,rfl⟩
   rw [List.getElem?_map,List.getElem?_map,List.getElem?_map,er];rfl
theorem bad_len {w:Str} (h:w ∈ badWords):w.length≤20:=by
 have:badWords.all (fun w=>decide (w.length≤20))=true:=by decide +kernel
 simpa using List.all_eq_true.mp this w h
theorem st6 {K:PySem.W.Frag}{M:L2.Frm}{F H:Hp}{T:Str}{c x3 x4 x5:Int}{d:V}{s6:Sl}{σ:St} (I:EnvOk K M F H [.val (.str T),.val (.int c),.at d,.val (.int x3),.val (.int x4),.val (.int x5),s6] σ) : ∃ o6,σ=[some (.str T),some (.int c),some d,some (.int x3),some (.int x4),some (.int x5),o6]∧SlotOk K M F H s6 o6:=by
 have l:=I.len
 match σ,l,I with
 | [y0,y1,y2,y3,y4,y5,y6],_,I =>
  obtain ⟨v0,e0,i0⟩:=(show ∃ v,y0=some v∧Is K F (.str T) v from I.slot 0)
  obtain ⟨v1,e1,i1⟩:=(show ∃ v,y1=some v∧Is K F (.int c) v from I.slot 1)
  have e2:y2=some d:=I.slot 2
  obtain ⟨v3,e3,i3⟩:=(show ∃ v,y3=some v∧Is K F (.int x3) v from I.slot 3)
  obtain ⟨v4,e4,i4⟩:=(show ∃ v,y4=some v∧Is K F (.int x4) v from I.slot 4)
  obtain ⟨v5,e5,i5⟩:=(show ∃ v,y5=some v∧Is K F (.int x5) v from I.slot 5)
  obtain rfl:=strInv i0
  obtain rfl:=i1.int_inv
  obtain rfl:=i3.int_inv
  obtain rfl:=i4.int_inv
  obtain rfl:=i5.int_inv
  subst e0 e1 e2 e3 e4 e5
  exact ⟨y6,rfl,I.slot 6⟩
theorem en6 {K:PySem.W.Frag}{F H:Hp}{T:Str}{c x3 x4 x5:Int}{d:V}{o:Option V} (s:Same F H):EnvOk K ⟨H,H,F⟩ F H [.val (.str T),.val (.int c),.at d,.val (.int x3),.val (.int x4),.val (.int x5),.non] [some (.str T),some (.int c),some d,some (.int x3),some (.int x4),some (.int x5),o] :=
 env_of s ⟨_,_,rfl,⟨⟨_,rfl,is_str _⟩,rfl⟩,_,_,rfl,⟨⟨_,rfl,is_int _⟩,rfl⟩,_,_,rfl,⟨rfl,rfl⟩,_,_,rfl,⟨⟨_,rfl,is_int _⟩,rfl⟩,_,_,rfl,⟨⟨_,rfl,is_int _⟩,rfl⟩,_,_,rfl,⟨⟨_,rfl,is_int _⟩,rfl⟩,_,_,rfl,⟨trivial,rfl⟩,rfl⟩
theorem enL {K:PySem.W.Frag}{F H H0:Hp}{T:Str}{c x3 x4 x5:Int}{ra:Addr}{as:List Addr}{L:List (List Str)}{o:Option V} (s:Same F H) (fn:FN H0 F ra as L):EnvOk K ⟨H,H,F⟩ F H [.val (.str T),.val (.int c),.val (dLL L),.val (.int x3),.val (.int x4),.val (.int x5),.non] [some (.str T),some (.int c),some (.ref ra),some (.int x3),some (.int x4),some (.int x5),o] :=
 env_of s ⟨_,_,rfl,⟨⟨_,rfl,is_str _⟩,rfl⟩,_,_,rfl,⟨⟨_,rfl,is_int _⟩,rfl⟩,_,_,rfl,⟨⟨_,rfl,fn.is⟩,rfl⟩,_,_,rfl,⟨⟨_,rfl,is_int _⟩,rfl⟩,_,_,rfl,⟨⟨_,rfl,is_int _⟩,rfl⟩,_,_,rfl,⟨⟨_,rfl,is_int _⟩,rfl⟩,_,_,rfl,⟨trivial,rfl⟩,rfl⟩
theorem sc__law_spoiled:FnScope ["_law_text_here","_law_cell_here","_law_rows","_law_at","_law_place","_law_way","_law_some"] ["_law_text_here","_law_cell_here"] (defScope s__law_spoiled):=sc0
theorem ok__law_spoiled (F:Def K mg "_law_spoiled" s__law_spoiled ["_law_text_here","_law_cell_here"]) (T:Txt K mg cs)
 (O__law_bad_words:Ok P w K mg base "_law_bad_words" 1 [] (PSp K sp__law_bad_words))
 : Ok P w K mg base "_law_spoiled" 2 ["_law_text_here","_law_cell_here"] (PSp K sp__law_spoiled):=by
  refine F.ok sc__law_spoiled (by rintro vs H Q E ⟨F,ds,q,_,i,⟨_,_,_,_,h,_⟩,_⟩;rw [i.len,h];rfl) fun f cdv A outer s H vs Q E hr h=>?_
  obtain ⟨F0,ds,q,sm,hi,⟨b,R,n,c,rfl,⟨hT,r1,r2,n1,n2,hb⟩,hq⟩,kk⟩:=h
  refine ⟨_,pss_cons (ps_compR (te:=tBM K "str" rSplit (tVar 0) (tCons (tC (.str (Str.ofString " "))) tNil)) (caps:=[]) (own:=["_law_part"]) (ix:=[]) (i:=2) sc__law_spoiled.nd rfl ⟨rfl,rfl,rfl,rfl,rfl,rfl⟩ (vi_seq (ve_split (ve_var (i:=0)) ve_str)) (fun _ _ _ _=>pg_name (i:=0) (show List.Nodup (["_law_part"]:List Str) by decide) rfl (by first|exact Or.inl rfl|exact Or.inr rfl) (by first|exact .inl rfl|exact .inr rfl)) (fun _ _ _ _=>pe_bm PySem.F.plainAttrs_str PySem.F.slot_str_split PySem.F.type_str_split mt_split (pv 0) (pa_cons pe_str pa_nil)))
   (pss_cons (ps_set (i:=3) sc__law_spoiled.nd rfl (by first|exact Or.inl rfl|exact Or.inr rfl) (pe_op op_mod (pe_op op_fdiv (pv 1) pe_int) (pe_callB call_len_seq rfl T.len_ L2.boot_len (pa_cons (pv 2) pa_nil))))
   (pss_cons (ps_set (i:=4) sc__law_spoiled.nd rfl (by first|exact Or.inl rfl|exact Or.inr rfl) (pe_op op_mod (pe_op op_fdiv (pv 1) pe_int) (pe_callB call_len_seq rfl T.len_ L2.boot_len (pa_cons (pe_ix ix_list (pv 2) (pv 3) (fun _ _=>rfl)) pa_nil))))
   (pss_cons (ps_set (i:=5) sc__law_spoiled.nd rfl (by first|exact Or.inl rfl|exact Or.inr rfl) (pe_op op_mod (pv 1) pe_int))
   (pss_cons (ps_if (pt_cmpR op_lt (pv 5) pe_int (by first|exact nobehind _ (by decide) (by decide)|rfl)) (pss_cons (VS.ps (vs_set (i:=6) sc__law_spoiled.nd (ve_fn0 O__law_bad_words.c (hr.mono (by decide))))) (pss_cons (ps_asg (VE.pe (ve_ix (ve_var 6) (ve_op o_mod (ve_op o_div (ve_var 1) ve_int) (ve_callB c_len T.len_ L2.boot_len (va_cons (ve_var 6) va_nil))))) (pg_sub (pe_ix ix_list (pv 2) (pv 3) (fun _ _=>rfl)) (pv 4) set_list (by intro _;rfl)) rfl rfl rfl) (pss_one (VS.ps (vs_ret (ve_join ve_str (vf_fz (vf_comp (caps:=[]) (own:=["_law_row"]) (ix:=[]) rfl ⟨rfl,rfl,rfl,rfl,rfl,rfl⟩ (vi_seq (ve_var 2)) (fun _ _ _ _=>(vg_name (i:=0) (show List.Nodup (["_law_row"]:List Str) by decide))) (fun _ _ _ _=>(ve_join ve_str (ve_var 0))))))))))) pss_nil)
   (pss_cons (VS.ps (vs_if (vt_cmp (o_eq hr.units) (ve_var 5) ve_int) (vss_one (vs_ret (ve_ix (vf_fz (vf_lst (va_cons (ve_op o_add (ve_var 0) ve_str) (va_cons (ve_op o_add ve_str (ve_var 0)) (va_cons (ve_op o_add (ve_var 0) ve_str) (va_cons (ve_op o_add ve_str (ve_var 0)) (va_cons (ve_op o_add (ve_var 0) ve_str) (va_cons (ve_op o_add (ve_var 0) ve_str) va_nil)))))))) (ve_op o_mod (ve_op o_div (ve_var 1) ve_int) ve_int)))) vss_nil))
   (pss_ifP 5 (pssP_ret (pp_rep1 0 (pf_menu (pc_cons (pc_cons (pc_cons (pc_cons (pc_cons (pc_cons pc_nil)))))) (pe_op op_mod (pe_op op_fdiv (pv 1) pe_int) pe_int) (fun _ _=>rfl)))) (PSs.p
   (pss_ifP 5 (PSs.p (pss_cons (ps_asg (pe_op op_cat (pe_ix ix_list (pv 2) (pv 3) (fun _ _=>rfl)) (pe_lst (pa_cons pe_str pa_nil))) (pg_sub (pv 2) (pv 3) set_list (by intro _;rfl)) rfl rfl rfl) (pss_one (VS.ps (vs_ret (ve_join ve_str (vf_fz (vf_comp (caps:=[]) (own:=["_law_row"]) (ix:=[]) rfl ⟨rfl,rfl,rfl,rfl,rfl,rfl⟩ (vi_seq (ve_var 2)) (fun _ _ _ _=>(vg_name (i:=0) (show List.Nodup (["_law_row"]:List Str) by decide))) (fun _ _ _ _=>(ve_join ve_str (ve_var 0))))))))))) (PSs.p
   (pss_ifP 5 (PSs.p (pss_cons (ps_expr (pe_bm PySem.F.plainAttrs_list PySem.F.slot_list_pop PySem.F.type_list_pop mt_popAt (pe_ix ix_list (pv 2) (pv 3) (fun _ _=>rfl)) (pa_cons (pv 4) pa_nil))) (pss_one (VS.ps (vs_ret (ve_join ve_str (vf_fz (vf_comp (caps:=[]) (own:=["_law_row"]) (ix:=[]) rfl ⟨rfl,rfl,rfl,rfl,rfl,rfl⟩ (vi_seq (ve_var 2)) (fun _ _ _ _=>(vg_name (i:=0) (show List.Nodup (["_law_row"]:List Str) by decide))) (fun _ _ _ _=>(ve_join ve_str (ve_var 0))))))))))) (PSs.p
   (pss_cons (VS.ps (vs_if (vt_cmp (o_eq hr.units) (ve_var 5) ve_int) (vss_one (vs_ret (ve_ix (vf_fz (vf_lst (va_cons ve_str (va_cons ve_str (va_cons ve_str (va_cons ve_str (va_cons ve_str (va_cons (ve_op o_add ve_str (ve_var 0)) va_nil)))))))) (ve_op o_mod (ve_op o_div (ve_var 1) ve_int) ve_int)))) vss_nil))
   (pss_ifP 5 (PSs.p (pss_one (VS.ps (vs_ret (ve_join ve_str (vf_fz (vf_comp (caps:=[]) (own:=["_law_row"]) (ix:=[]) rfl ⟨rfl,rfl,rfl,rfl,rfl,rfl⟩ (vi_seq (ve_var 2)) (fun _ _ _ _=>(vg_name (i:=0) (show List.Nodup (["_law_row"]:List Str) by decide))) (fun _ _ _ _=>(ve_join ve_str (vf_fz (vf_cat (ve_var 0) (vf_fz (vf_rep (vf_lst (va_cons ve_str va_nil)) (ve_op o_sub ve_int (ve_callB c_len T.len_ L2.boot_len (va_cons (ve_var 0) va_nil)))))))))))))))) (pssP_ret (pp_rep1 0 pf_str))))))))))))))),?_⟩
  have rn:R≠[]:=fun z=>by rw [z] at r1;simp at r1
  have eR:=tab_rows hT hb (by omega) rn
  obtain ⟨ts,_,_,_,tc,tl⟩:=tab_toks hT hb n1 n2 r1 r2
  have tw:=tab_words hT hb
  have jr:JRows (R.map (rTx b)):=⟨by rw [List.length_map];omega,fun l hl=>⟨by rw [(tw l hl).1];omega,fun w hw=>Nat.le_trans ((tw l hl).2 w hw).1 (by decide)⟩⟩
  have lL:2≤(R.map (rTx b)).length:=by rw [List.length_map];exact r1
  have ll : ∀ l ∈ R.map (rTx b),l.length≤4∧2≤l.length:=fun l hl=>by rw [(tw l hl).1];exact ⟨n2,n1⟩
  have w0 : ∀ (k:Nat) l (j:Nat) w,(R.map (rTx b))[k]?=some l→j<l.length→w ∈ badWords→Spoilt (layT ((R.map (rTx b)).set k (l.set j w))):=fun k l j w h1 h2 h3=>sp_word hT hb n1 n2 r1 r2 h1 h2 h3
  have w9a:=sp_9a hT hb n1 n2 r1 r2
  have w9b:=sp_9b hT hb n1 n2 r1 r2
  have w9c:=sp_9c hT hb n1 n2 r1 r2
  have w9d:=sp_9d hT hb n1 n2 r1 r2
  have w9e:=sp_9e hT hb n1 n2 r1 r2
  have w9f:=sp_9f hT hb n1 n2 r1 r2
  obtain ⟨a10,c10,p10,w10⟩:=sp_10 hT hb n1 n2 r1 r2
  have w11 : ∀ (k:Nat) l,(R.map (rTx b))[k]?=some l→Spoilt (layT ((R.map (rTx b)).set k (l++[Str.ofString "0"]))):=fun k l h1=>sp_more hT hb n1 n2 r1 r2 h1
  have w12 : ∀ (k:Nat) l (j:Nat),(R.map (rTx b))[k]?=some l→j<l.length→Spoilt (layT ((R.map (rTx b)).set k (l.eraseIdx j))):=fun k l j h1 h2=>sp_less hT hb n1 n2 r1 r2 h1 h2
  have w13:=sp_13 hT hb n1 n2 r1 r2
  have w14:=sp_14 hT hb n1 n2 r1 r2
  obtain ⟨a15,c15,p15,w15⟩:=sp_15 hT hb n1 n2 r1 r2
  clear hT r1 r2 n1 n2 hb rn tw
  generalize R.map (rTx b)=L at *
  obtain ⟨vt,vc,rfl,it,ic⟩:=iss2 hi
  obtain rfl:=strInv it
  obtain rfl:=ic.int_inv
  have z1:=split_size (layT L) (Str.ofString " | ")
  refine asg_fn (L0:=Txt.split (layT L) (Str.ofString " | ")) (Z:=L) rfl (env_start (N:=(["_law_text_here","_law_cell_here","_law_rows","_law_at","_law_place","_law_way","_law_some"]:List Str)) sm hi) ⟨_,rfl,_,rfl,⟨rfl,sz_line tl (by decide),sz_line (Nat.le_trans z1.1 (Nat.add_le_add_right tl 2)) (by decide),sz_line (Nat.le_trans z1.2 (Nat.add_le_add_right tl 2)) (by decide)⟩,rfl⟩ (small1000 (by omega)) ?_ (fun k x z H Q hx hz hQ=>?_) (Go.refl sm) fun F1 H1 ra as g1 fn=>?_
  ·have:=congrArg List.length eR
   unfold rowsW at this
   rw [List.length_map] at this
   exact this.symm
  ·have ez:z=Txt.split x (Str.ofString " "):=by
    rw [← eR] at hz
    unfold rowsW at hz
    rw [List.getElem?_map,hx] at hz
    exact (Option.some.inj hz).symm
   subst ez
   have hl:=Nat.le_trans (split_len_le _ _ (by decide) x (List.mem_of_getElem? hx)) tl
   have z2:=split_size x (Str.ofString " ")
   exact ⟨.str x,rfl,rfl,x,_,rfl,rfl,⟨rfl,sz_line hl (by decide),sz_line (Nat.le_trans z2.1 (Nat.add_le_add_right hl 2)) (by decide),sz_line (Nat.le_trans z2.2 (Nat.add_le_add_right hl 2)) (by decide)⟩,hQ⟩
  have la:=fn.l
  obtain ⟨ka,eka,hka⟩:=ixs (n:=(as.map V.ref).length) (x:=c/16%((as.map V.ref).length:Int)) (Int.emod_nonneg _ (by rw [List.length_map];omega)) (Int.emod_lt_of_pos _ (by rw [List.length_map];omega))
  have hka':ka<as.length:=by rwa [List.length_map] at hka
  obtain ⟨l,hl⟩ : ∃ l,L[ka]?=some l:=⟨_,List.getElem?_eq_getElem (by omega)⟩
  obtain ⟨pa,hpa⟩ : ∃ a,as[ka]?=some a:=⟨_,List.getElem?_eq_getElem hka'⟩
  obtain ⟨fl,nl⟩:=fn.e ka pa l hpa hl
  obtain ⟨l4,l2⟩:=ll l (List.mem_of_getElem? hl)
  have asr:atI (as.map V.ref) (c/16%((as.map V.ref).length:Int))=some (.ref pa):=by
   rw [eka]
   exact atI_nat (by rw [List.getElem?_map,hpa];rfl)
  obtain ⟨kp,ekp,hkp⟩:=ixs (n:=(l.map V.str).length) (x:=c/256%((l.map V.str).length:Int)) (Int.emod_nonneg _ (by rw [List.length_map];omega)) (Int.emod_lt_of_pos _ (by rw [List.length_map];omega))
  have hkp':kp<l.length:=by rwa [List.length_map] at hkp
  have hra:=g1.fh.at fn.h
  have hpl:=g1.fh.at fl
  refine ⟨.int c,rfl,c,16,rfl,rfl,⟨by decide,by decide⟩,.ref ra,rfl,ra,as.map V.ref,rfl,.inl (SqL.of hra),_,_,rfl,rfl,by rw [List.length_map];omega,?_⟩
  refine ⟨.int c,rfl,c,256,rfl,rfl,⟨by decide,by decide⟩,.ref ra,rfl,_,rfl,ra,_,_,_,rfl,rfl,SqL.of hra,asr,pa,l.map V.str,rfl,.inl (SqL.of hpl),_,_,rfl,rfl,by rw [List.length_map];omega,?_⟩
  refine ⟨.int c,rfl,c,16,rfl,rfl,(show (0:Int)<16 by decide),?_⟩
  refine ⟨.int (c%16),rfl,c%16,9,rfl,rfl,_,rfl,?_⟩
  have tz : ∀ {y:Str} (_:y.length≤10:=by decide),(layT L).length+y.length≤sizeLine∧y.length+(layT L).length≤sizeLine:=fun {y} h=>⟨sz_line (k:=210) (by omega) (by decide),sz_line (k:=210) (by omega) (by decide)⟩
  have hN : ∀ {k:Nat}{n:Nat},k<n→ixN n (k:Int)=some k:=fun {k n} h=>by
   unfold ixN
   rw [if_pos (by omega),if_pos (by omega)];rfl
  refine iteD (fun hw=>?_) (fun hw=>?_)
  ·refine lift_step (fun e=>e=[.val (.str (layT L)),.val (.int c),.at (.ref ra),.val (.int _),.val (.int _),.val (.int (c%16)),.val (.list (badWords.map .str))]) (en6 g1.fh) ⟨rfl,rfl⟩ fun e2 F2 H2 σ2 I2 s2 q2=>?_
   subst q2
   obtain ⟨o6,rfl,i6⟩:=st6 I2
   refine ⟨⟨H1,H1,F1⟩,_,F2,fun d e => ∃ w ∈ badWords,d = .str w,I2,?_,fun d v F3 H3 e3 I3 s3 i3 q3=>?_⟩
   ·obtain ⟨j,ej,hj⟩:=ixs (n:=(badWords.map PyData.str).length) (x:=c/4096%((badWords.map PyData.str).length:Int)) (Int.emod_nonneg _ (by decide)) (Int.emod_lt_of_pos _ (by decide))
    have hj':j<badWords.length:=by rwa [List.length_map] at hj
    refine ⟨⟨by decide,by decide⟩,(show (0:Int)<((badWords.map PyData.str).length:Int) by decide),.str badWords[j],?_,_,List.getElem_mem hj',rfl⟩
    show atI (badWords.map PyData.str) (c/4096%((badWords.map PyData.str).length:Int))=_
    rw [ej]
    exact atI_nat (by rw [List.getElem?_map,List.getElem?_eq_getElem hj'];rfl)
   obtain ⟨w,hw,rfl⟩:=q3
   obtain rfl:=strInv i3
   have g3:=g1.trans I3.goOf
   have fn3:=fn.mono (s2.trans s3)
   refine ⟨.ref ra,rfl,_,rfl,ra,_,_,.ref pa,rfl,rfl,SqL.of (g3.fh.at fn3.h),asr,_,rfl,pa,_,_,kp,rfl,rfl,g3.fh.at (fn3.e ka pa l hpa hl).1,by rw [ekp];exact hN hkp,?_⟩
   have em:(l.map V.str).set kp (V.str w)=(l.set kp w).map V.str:=by rw [List.map_set]
   rw [em]
   have fn4:=fn3.put (r:=l.set kp w) hpa
   have g4:=g3.redo (o :=.lst ((l.set kp w).map V.str)) sm nl
   refine lift_ret g4 (enL g4.fh fn4) (joinW (jset jr ⟨by rw [List.length_set];omega,fun y hy=>?_⟩) (hq _ (w0 ka l kp w hl hkp' hw))) kk
   rcases List.mem_or_eq_of_mem_set hy with z|z
   ·exact (jr.2 l (List.mem_of_getElem? hl)).2 y z
   ·rw [z];exact bad_len hw
  ·refine lift_two (fun e=>c%16≠9∧e=[.val (.str (layT L)),.val (.int c),.at (.ref ra),.val (.int (c/16%((as.map V.ref).length:Int))),.val (.int (c/256%((l.map V.str).length:Int))),.val (.int (c%16)),.non]) g1 (en6 g1.fh) ?_ kk fun e2 F2 H2 σ2 I2 s2 q2=>?_
   ·refine ⟨rfl,rfl,ite_eq (fun h9=>⟨(tz (y:=Str.ofString " ")).1,(tz (y:=Str.ofString " ")).2,(tz (y:=Str.ofString " |")).1,(tz (y:=Str.ofString "| ")).2,(tz (y:=Str.ofString "\n")).1,(tz (y:=Str.ofString " | ")).1,szl,⟨by decide,by decide⟩,(show (0:Int)<6 by decide),pickD (Int.emod_nonneg _ (by decide)) (Int.emod_lt_of_pos _ (by decide)) fun d hd=>?_⟩) (fun h9=>⟨h9,rfl⟩)⟩
    simp only [List.mem_cons,List.not_mem_nil,or_false] at hd
    rcases hd with rfl|rfl|rfl|rfl|rfl|rfl
    ·exact hq _ w9a
    ·exact hq _ w9b
    ·exact hq _ w9c
    ·exact hq _ w9d
    ·exact hq _ w9e
    ·exact hq _ w9f
   obtain ⟨h9,rfl⟩:=q2
   obtain ⟨o6,rfl,_⟩:=st6 I2
   have g2:=g1.trans I2.goOf
   have fn2:=fn.mono s2
   have hra2:=g2.fh.at fn2.h
   have hpl2:=g2.fh.at (fn2.e ka pa l hpa hl).1
   refine ⟨c%16,rfl,iteD (fun h10=>?_) (fun h10=>?_)⟩
   ·obtain ⟨k,ek,hk⟩:=ixs (n:=6) (x:=c/4096%6) (Int.emod_nonneg _ (by decide)) (Int.emod_lt_of_pos _ (by decide))
    obtain ⟨z,hz⟩ : ∃ z,(["|"," |","| "," || ","  |  "," ; "].map Str.ofString)[k]?=some z:=⟨_,List.getElem?_eq_getElem (by simpa using hk)⟩
    have zm:=List.mem_of_getElem? hz
    have zz : ∀ z ∈ ["|"," |","| "," || ","  |  "," ; "].map Str.ofString,(Str.ofString " | " == z)=false∧z.length≤10:=by decide +kernel
    have sp:=w10 z zm
    have l3:=sp.1.2
    rw [strLen_append,strLen_append] at l3
    have zl:=(zz z zm).2
    exact ⟨layT L,rfl,.int c,rfl,c,4096,rfl,rfl,⟨by decide,by decide⟩,c/4096,6,rfl,rfl,(show (0:Int)<6 by decide),k,z,congrArg V.int ek,hz,z,a10,c10,rfl,⟨(zz z zm).1,rfl,p10,by omega,by omega⟩,kk (.str _) _ F2 H2 g2 (is_str _) (hq _ sp)⟩
   refine ⟨c%16,rfl,iteD (fun h11=>?_) (fun h11=>?_)⟩
   ·refine ⟨.ref ra,rfl,_,rfl,ra,_,_,.ref pa,rfl,rfl,SqL.of hra2,asr,szl,fun p hp=>⟨pa,p,l.map V.str,[.str (Str.ofString "0")],rfl,rfl,?_,upd_same,sz_line (k:=100) (by rw [List.length_map];show l.length+1≤100;omega) (by decide),fun p2 hp2=>?_⟩⟩
    ·rw [upd_ne (ne_of_none hpl2 hp)];exact hpl2
    have g3:=g2.trans (Go.side (o :=.lst [.str (Str.ofString "0")]) g2.fh hp)
    have em:l.map V.str++[.str (Str.ofString "0")]=(l++[Str.ofString "0"]).map V.str:=by rw [List.map_append];rfl
    rw [em]
    have hf2:=same_none g3.fh hp2
    have g4:=g3.trans (Go.put (o :=.lst ((l++[Str.ofString "0"]).map V.str)) g3.fh hp2)
    have fn4:=fn2.swap (k:=ka) (r:=l++[Str.ofString "0"]) hf2 (same_none g3.h hp2)
    have g5:=g4.redo (o :=.lst ((as.map V.ref).set ka (.ref p2))) sm fn.n
    refine ⟨.ref ra,rfl,_,rfl,ra,as.map V.ref,_,ka,rfl,rfl,?_,by rw [eka];exact hN hka,?_⟩
    ·have h3:upd H2 p (.lst [.str (Str.ofString "0")]) ra=some (.lst (as.map V.ref)):=by rw [upd_ne (ne_of_none hra2 hp)];exact hra2
     rw [upd_ne (ne_of_none h3 hp2)];exact h3
    refine lift_ret g5 (enL g5.fh fn4) (joinW (jset jr ⟨by rw [List.length_append];show l.length+1≤20;omega,fun y hy=>?_⟩) (hq _ (w11 ka l hl))) kk
    rcases List.mem_append.mp hy with z|z
    ·exact (jr.2 l (List.mem_of_getElem? hl)).2 y z
    ·rw [List.mem_singleton.mp z];decide
   refine ⟨c%16,rfl,iteD (fun h12=>?_) (fun h12=>?_)⟩
   ·refine ⟨.ref ra,rfl,_,rfl,ra,_,_,.ref pa,rfl,rfl,SqL.of hra2,asr,.inl ⟨rfl,_,SqL.of hpl2⟩,_,rfl,pa,l.map V.str,_,kp,.str l[kp],rfl,rfl,hpl2,?_,?_,?_,?_,?_⟩
    ·rw [ekp];omega
    ·rw [ekp];omega
    ·rw [ekp];exact seqIndex_of (by omega) (by omega)
    ·rw [List.getElem?_map,List.getElem?_eq_getElem hkp'];rfl
    have em:(l.map V.str).eraseIdx kp=(l.eraseIdx kp).map V.str:=(erase_map V.str l kp)
    rw [em]
    have fn4:=fn2.put (r:=l.eraseIdx kp) hpa
    have g4:=g2.redo (o :=.lst ((l.eraseIdx kp).map V.str)) sm nl
    refine lift_ret g4 (enL g4.fh fn4) (joinW (jset jr ⟨?_,fun y hy=>?_⟩) (hq _ (w12 ka l kp hl hkp'))) kk
    ·rw [List.length_eraseIdx,if_pos hkp'];omega
    ·exact (jr.2 l (List.mem_of_getElem? hl)).2 y (List.mem_of_mem_eraseIdx hy)
   refine lift_two (fun e=>c%16≠13∧e=[.val (.str (layT L)),.val (.int c),.at (.ref ra),.val (.int (c/16%((as.map V.ref).length:Int))),.val (.int (c/256%((l.map V.str).length:Int))),.val (.int (c%16)),.non]) g2 (en6 g2.fh) ?_ kk fun e4 F4 H4 σ4 I4 s4 q4=>?_
   ·refine ⟨rfl,rfl,ite_eq (fun h13=>⟨(tz (y:=Str.ofString "glass ")).2,szl,⟨by decide,by decide⟩,(show (0:Int)<6 by decide),pickD (Int.emod_nonneg _ (by decide)) (Int.emod_lt_of_pos _ (by decide)) fun d hd=>?_⟩) (fun h13=>⟨h13,rfl⟩)⟩
    simp only [List.mem_cons,List.not_mem_nil,or_false] at hd
    rcases hd with rfl|rfl|rfl|rfl|rfl|rfl
    ·exact hq _ (closed_sp _ (by decide +kernel))
    ·exact hq _ (closed_sp _ (by decide +kernel))
    ·exact hq _ (closed_sp _ (by decide +kernel))
    ·exact hq _ (closed_sp _ (by decide +kernel))
    ·exact hq _ (closed_sp _ (by decide +kernel))
    ·exact hq _ w13
   obtain ⟨h13,rfl⟩:=q4
   obtain ⟨o6,rfl,_⟩:=st6 I4
   have g4:=g2.trans I4.goOf
   have fn4:=fn2.mono s4
   refine ⟨c%16,rfl,iteD (fun h14=>?_) (fun h14=>?_)⟩
   ·refine lift_ret g4 (enL g4.fh fn4) ?_ kk
    exact padW jr (fun l hm=>(ll l hm).1) (hq _ w14)
   ·have l3:=w15.1.2
    rw [strLen_append,strLen_append] at l3
    exact ⟨layT L,rfl,_,a15,c15,rfl,⟨by decide +kernel,rfl,p15,Nat.le_trans (Nat.add_le_add_right tl _) (by decide),by omega⟩,kk (.str _) _ F4 H4 g4 (is_str _) (hq _ w15)⟩
def wholeD:PyData→Bool
 | .int _=>true
 | _=>false
def sp_is_whole:DC
 | [d],q=>q (.bool (wholeD d))
 | _,_=>False
theorem sc_is_whole:FnScope ["thing"] ["thing"] (defScope s_is_whole):=sc0
theorem ok_is_whole (F:Def K mg "is_whole" s_is_whole ["thing"]) (T:Txt K mg cs)
 : Ok P w K mg base "is_whole" 1 ["thing"] (PSp K sp_is_whole):=by
  refine F.vok sc_is_whole (fun ds q h=>by unfold sp_is_whole at h;split at h;all_goals first|rfl|exact h.elim) fun f cdv A outer s H E hr ds q h=>?_
  match ds,h with
  | [d],h =>
  refine ⟨_,(vss_one (vs_ret (ve_and (ve_isi T.isinstance_ T.int_ L2.boot_int (ve_var 0)) (ve_one (ve_not (ve_isi T.isinstance_ T.bool_ L2.boot_bool (ve_var 0))))))),?_⟩
  cases d <;> exact h
def sp_makes_row:DC
 | [d,.int b],q=>q (.bool (makesRow d b))
 | _,_=>False
theorem sc_makes_row:FnScope ["row","bottom"] ["row","bottom"] (defScope s_makes_row):=sc0
theorem ok_makes_row (F:Def K mg "makes_row" s_makes_row ["row","bottom"]) (T:Txt K mg cs)
 (O_is_whole:Ok P w K mg base "is_whole" 1 ["thing"] (PSp K sp_is_whole))
 : Ok P w K mg base "makes_row" 2 ["row","bottom"] (PSp K sp_makes_row):=by
  refine F.vok sc_makes_row (fun ds q h=>by unfold sp_makes_row at h;split at h;all_goals first|rfl|exact h.elim) fun f cdv A outer s H E hr ds q h=>?_
  match ds,h with
  | [d,.int b],h =>
  refine ⟨_,(vss_cons (vs_if (VW.pt (vw_or (vt_not (vt_val (ve_isi2 T.isinstance_ T.list_ L2.boot_list T.tuple_ L2.boot_tuple (ve_var 0)))) (vw_or1 (vt_not (vt_chain o_le o_le ve_int (ve_callB c_len T.len_ L2.boot_len (va_cons (ve_var 0) va_nil)) (ve_globI T.MOST_SIGNS_)))))) (vss_one (vs_ret ve_bl)) vss_nil)
   (vss_one (vs_ret (ve_and (ve_callB (c_all rfl) T.all_ L2.boot_all (va_cons (vf_fz (vf_comp (caps:=[]) (own:=["number"]) (ix:=[]) rfl ⟨rfl,rfl,rfl,rfl,rfl,rfl⟩ (vi_seq (ve_var 0)) (fun _ _ _ _=>(vg_name (i:=0) (show List.Nodup (["number"]:List Str) by decide))) (fun _ _ _ _=>(ve_and (ve_fn O_is_whole.c (hr.mono (by decide)) (va_cons (ve_var 0) va_nil)) (ve_one (ve_cmp o_ge (ve_var 0) ve_int)))))) va_nil)) (ve_one (ve_cmp (o_eq hr.units) (ve_callB (c_sum rfl) T.sum_ L2.boot_sum (va_cons (ve_var 0) va_nil)) (ve_var 1))))))),?_⟩
  have h:q (.bool (makesRow d b)):=h
  cases hs:seqD d with
  | none =>
   have e:(isTy "list" d||isTy "tuple" d)=false:=by rw [isi_seq,hs];rfl
   have h0:makesRow d b=false:=by unfold makesRow;rw [hs]
   rw [h0] at h
   refine iteB (fun _=>?_) (fun z=>?_)
   ·exact h
   ·rw [e] at z;cases z
  | some l =>
   have hm:makesRow d b=((decide (1≤l.length)&&decide (l.length≤12))&&(l.all natD&&decide ((l.map intD).sum=b))):=by unfold makesRow;rw [hs]
   rw [hm] at h
   refine iteB (fun z=>?_) (fun _=>len_seq hs (iteD (fun h1=>iteB (fun h2=>?_) (fun h2=>?_)) (fun h1=>iteT ?_)))
   ·rw [isi_seq,hs] at z;cases z
   ·have e:decide (l.length≤12)=false:=by simp at h2 ⊢;omega
    rw [e,Bool.and_false,Bool.false_and] at h;exact h
   ·have e1:decide (1≤l.length)=true:=by simp;omega
    have e2:decide (l.length≤12)=true:=by simp at h2 ⊢;omega
    rw [e1,e2] at h
    replace h:q (.bool (l.all natD&&decide ((l.map intD).sum=b))):=h
    refine seq_elim hs (comp_by (l.map fun x => .bool (natD x)) (by simp) (small1000 (by simp at e2 ⊢;omega)) (fun e => ∃ s,e=[s]) ⟨_,rfl⟩ ?_ ?_)
    ·rintro i x ys e hx hys ⟨s,rfl⟩
     have hL:(l.map fun x=>PyData.bool (natD x))[i]?=some (.bool (natD x)):=by rw [List.getElem?_map,hx];rfl
     cases x with
     | int n=>exact ⟨snoc_take hL hys,_,rfl⟩
     | _=>exact ⟨snoc_take hL hys,_,rfl⟩
    ·refine ⟨l.map natD,by rw [List.map_map];rfl,?_⟩
     have e:(l.map natD).all id=l.all natD:=by rw [List.all_map];rfl
     rw [e]
     refine iteB (fun z=>?_) (fun z=>?_)
     ·obtain ⟨g1,g2⟩:=ints_of_nat z
      rw [z] at h
      refine sum_seq (ns:=l.map intD) (by rw [hs,← g1]) ⟨rfl,rfl,?_⟩
      have e3:PyData.eqv (.int (l.map intD).sum) (.int b)=decide ((l.map intD).sum=b):=by rw [eqv_int];exact Bool.beq_eq_decide_eq _ _
      rw [e3];exact h
     ·rw [z] at h;exact h
   ·have e1:decide (1≤l.length)=false:=decide_eq_false (by omega)
    rw [e1] at h;exact h
def sp_makes_table:DC
 | [bd,rd,.int lo,.int hi],q=>(1≤lo∧hi≤900)∧q (.bool (makesTable bd rd lo hi))
 | _,_=>False
theorem sc_makes_table:FnScope ["bottom","rows","fewest","most"] ["bottom","rows","fewest","most"] (defScope s_makes_table):=sc0
theorem ok_makes_table (F:Def K mg "makes_table" s_makes_table ["bottom","rows","fewest","most"]) (T:Txt K mg cs)
 (O_is_whole:Ok P w K mg base "is_whole" 1 ["thing"] (PSp K sp_is_whole))
 (O_makes_row:Ok P w K mg base "makes_row" 2 ["row","bottom"] (PSp K sp_makes_row))
 : Ok P w K mg base "makes_table" 3 ["bottom","rows","fewest","most"] (PSp K sp_makes_table):=by
  refine F.vok sc_makes_table (fun ds q h=>by unfold sp_makes_table at h;split at h;all_goals first|rfl|exact h.elim) fun f cdv A outer s H E hr ds q h=>?_
  match ds,h with
  | [bd,rd,.int lo,.int hi],⟨⟨h1,h2⟩,h⟩ =>
  refine ⟨_,(vss_cons (vs_if (VW.pt (vw_or (vt_not (vt_val (ve_fn O_is_whole.c (hr.mono (by decide)) (va_cons (ve_var 0) va_nil)))) (vw_or1 (vt_cmp o_lt (ve_var 0) ve_int)))) (vss_one (vs_ret ve_bl)) vss_nil)
   (vss_cons (vs_if (VW.pt (vw_or (vt_not (vt_val (ve_isi2 T.isinstance_ T.list_ L2.boot_list T.tuple_ L2.boot_tuple (ve_var 1)))) (vw_or1 (vt_not (vt_chain o_le o_le (ve_var 2) (ve_callB c_len T.len_ L2.boot_len (va_cons (ve_var 1) va_nil)) (ve_var 3)))))) (vss_one (vs_ret ve_bl)) vss_nil)
   (vss_cons (vs_if (vt_not (vt_val (ve_callB (c_all rfl) T.all_ L2.boot_all (va_cons (vf_fz (vf_comp (caps:=["bottom"]) (own:=["row"]) (ix:=[0]) rfl ⟨rfl,rfl,rfl,rfl,rfl,rfl⟩ (vi_seq (ve_var 1)) (fun _ _ _ _=>(vg_name (i:=1) (show List.Nodup (["bottom","row"]:List Str) by decide))) (fun _ _ _ _=>(ve_fn O_makes_row.c (hr.mono (by decide)) (va_cons (ve_var 1) (va_cons (ve_var 0) va_nil)))))) va_nil)))) (vss_one (vs_ret ve_bl)) vss_nil)
   (vss_one (vs_ret (ve_callB (c_all rfl) T.all_ L2.boot_all (va_cons (vf_fz (vf_comp (caps:=["rows"]) (own:=["row"]) (ix:=[1]) rfl ⟨rfl,rfl,rfl,rfl,rfl,rfl⟩ (vi_seq (ve_var 1)) (fun _ _ _ _=>(vg_name (i:=1) (show List.Nodup (["rows","row"]:List Str) by decide))) (fun _ _ _ _=>(ve_cmp (o_eq hr.units) (ve_callB c_len T.len_ L2.boot_len (va_cons (ve_var 1) va_nil)) (ve_callB c_len T.len_ L2.boot_len (va_cons (ve_ix (ve_var 0) ve_int) va_nil)))))) va_nil))))))),?_⟩
  have h:q (.bool (makesTable bd rd lo hi)):=h
  cases bd with
  | int b =>
   refine iteD (fun hb=>?_) (fun hb=>?_)
   ·have e:makesTable (.int b) rd lo hi=false:=by
     unfold makesTable
     cases seqD rd with
     | none=>rfl
     | some l=>show (decide (1≤b)&&_)=false;rw [decide_eq_false (by omega)];rfl
    rw [e] at h;exact h
   cases hs:seqD rd with
   | none =>
    have e:(isTy "list" rd||isTy "tuple" rd)=false:=by rw [isi_seq,hs];rfl
    have h0:makesTable (.int b) rd lo hi=false:=by unfold makesTable;rw [hs]
    rw [h0] at h
    refine iteB (fun _=>h) (fun z=>?_)
    rw [e] at z;cases z
   | some l =>
    have hm:makesTable (.int b) rd lo hi=((decide (lo≤l.length)&&decide ((l.length:Int)≤hi))&&(l.all (makesRow · b)&&l.all fun r=>lenD r==lenD ((l[0]?).getD .none))):=by
     unfold makesTable;rw [hs];show (decide (1≤b)&&_)=_;rw [decide_eq_true (by omega)];rfl
    rw [hm] at h
    refine iteB (fun z=>?_) (fun _=>len_seq hs (iteD (fun g1=>iteB (fun g2=>?_) (fun g2=>?_)) (fun g1=>iteT ?_)))
    ·rw [isi_seq,hs] at z;cases z
    ·have e:decide ((l.length:Int)≤hi)=false:=by
      cases q:decide ((l.length:Int)≤hi) with
      | false=>rfl
      | true=>rw [q] at g2;cases g2
     rw [e,Bool.and_false,Bool.false_and] at h;exact h
    ·have e2:decide ((l.length:Int)≤hi)=true:=by
      cases q:decide ((l.length:Int)≤hi) with
      | true=>rfl
      | false=>rw [q] at g2;cases g2
     have g3:=of_decide_eq_true e2
     rw [decide_eq_true g1,e2,Bool.true_and,Bool.true_and] at h
     refine seq_elim hs (comp_by (l.map fun x => .bool (makesRow x b)) (by simp) (small1000 (by simp;omega)) (fun e => ∃ s,e=[.val (.int b),s]) ⟨_,rfl⟩ ?_ ?_)
     ·rintro i x ys e hx hys ⟨s,rfl⟩
      exact ⟨snoc_take (by rw [List.getElem?_map,hx];rfl) hys,_,rfl⟩
     refine ⟨l.map (makesRow · b),by rw [List.map_map];rfl,?_⟩
     have e:(l.map (makesRow · b)).all id=l.all (makesRow · b):=by rw [List.all_map];rfl
     rw [e]
     refine iteB (fun z=>?_) (fun z=>?_)
     ·have z':l.all (makesRow · b)=false:=by
       cases q:l.all (makesRow · b) with
       | false=>rfl
       | true=>rw [q] at z;cases z
      rw [z',Bool.false_and] at h;exact h
     ·have z':l.all (makesRow · b)=true:=by
       cases q:l.all (makesRow · b) with
       | true=>rfl
       | false=>rw [q] at z;cases z
      rw [z',Bool.true_and] at h
      have sq : ∀ x ∈ l,seqD x=some ((seqD x).getD []):=fun x hx=>by
       obtain ⟨r,hr,_⟩:=makesRow_iff.mp (List.all_eq_true.mp z' x hx)
       rw [hr];rfl
      obtain ⟨y,l',rfl⟩ : ∃ y l',l=y::l':=by
       cases l with
       | nil=>simp at g1;omega
       | cons y l'=>exact ⟨y,l',rfl⟩
      refine seq_elim hs (comp_by ((y::l').map fun x => .bool (lenD x==lenD y)) (by simp) (small1000 (by rw [List.length_map];omega)) (fun e => ∃ s,e=[.val rd,s]) ⟨_,rfl⟩ ?_ ?_)
      ·rintro i x ys e hx hys ⟨s,rfl⟩
       refine len_seq (sq x (get_mem hx)) (ix_seqD hs (atI_zero _ _) (len_seq (sq y (by simp)) ⟨rfl,rfl,?_,_,rfl⟩))
       refine snoc_take ?_ hys
       rw [List.getElem?_map,hx]
       have e3:PyData.eqv (.int ((seqD x).getD []).length) (.int ((seqD y).getD []).length)=(lenD x==lenD y):=by
        rw [eqv_int];unfold lenD
        rw [Bool.eq_iff_iff];simp;omega
       rw [e3];rfl
      ·refine ⟨(y::l').map fun x=>lenD x==lenD y,by rw [List.map_map];rfl,?_⟩
       have e:((y::l').map fun x=>lenD x==lenD y).all id=(y::l').all fun x=>lenD x==lenD y:=by rw [List.all_map];rfl
       rw [e];exact h
    ·rw [decide_eq_false g1,Bool.false_and,Bool.false_and] at h;exact h
  | _=>exact h
def sp_divisor:DC
 | [.int a,.int b],q=>q (.int (Int.gcd a b))
 | _,_=>False
theorem abs_nn (x:Int):0≤(if x<0 then -x else x):=by split <;> omega
theorem sc_divisor:FnScope ["one","other","rest"] ["one","other"] (defScope s_divisor):=sc0
theorem ok_divisor (F:Def K mg "divisor" s_divisor ["one","other"]) (T:Txt K mg cs)
 : Ok P w K mg base "divisor" 1 ["one","other"] (PSp K sp_divisor):=by
  refine F.vok sc_divisor (fun ds q h=>by unfold sp_divisor at h;split at h;all_goals first|rfl|exact h.elim) fun f cdv A outer s H E hr ds q h=>?_
  match ds,h with
  | [.int a,.int b],h =>
  refine ⟨_,(vss_cons (vs_set (i:=0) sc_divisor.nd (ve_callB c_abs T.abs_ L2.boot_abs (va_cons (ve_var 0) va_nil)))
   (vss_cons (vs_set (i:=1) sc_divisor.nd (ve_callB c_abs T.abs_ L2.boot_abs (va_cons (ve_var 1) va_nil)))
   (vss_cons (vs_while (vt_cmp (o_ne hr.units) (ve_var 1) ve_int) (vss_cons (vs_set (i:=2) sc_divisor.nd (ve_op o_mod (ve_var 0) (ve_var 1)))
   (vss_cons (vs_set (i:=0) sc_divisor.nd (ve_var 1))
   (vss_one (vs_set (i:=1) sc_divisor.nd (ve_var 2))))))
   (vss_one (vs_ret (ve_var 0)))))),?_⟩
  refine ⟨fun m e => ∃ x y r,e=[.val (.int x),.val (.int y),r]∧0≤x∧0≤y∧Nat.gcd x.toNat y.toNat=Int.gcd a b∧m=y.toNat,⟨_,_,_,_,rfl,abs_nn a,abs_nn b,gcd_start a b,rfl⟩,?_⟩
  rintro m e ⟨x,y,r,rfl,hx,hy,hg,rfl⟩
  refine ⟨rfl,rfl,ite_ne (fun hne=>?_) (fun he=>?_)⟩
  ·obtain ⟨t1,t2,t3⟩:=gcd_turn hx hy hne hg
   exact ⟨by omega,(x%y).toNat,by omega,y,x%y,_,rfl,hy,t1,t3,rfl⟩
  ·subst he
   have:=gcd_end hx rfl hg
   rw [this];exact h
def sp_common_divisor (ds:List PyData) (q:PyData→Prop):Prop := ∃ d R,ds=[d]∧RowsD d R∧q (.int (gTab R))
theorem sc_common_divisor:FnScope ["rows","common","row","number"] ["rows"] (defScope s_common_divisor):=sc0
theorem ok_common_divisor (F:Def K mg "common_divisor" s_common_divisor ["rows"]) (T:Txt K mg cs)
 (O_divisor:Ok P w K mg base "divisor" 1 ["one","other"] (PSp K sp_divisor))
 : Ok P w K mg base "common_divisor" 2 ["rows"] (PSp K sp_common_divisor):=by
  refine F.vok sc_common_divisor (by rintro ds q ⟨_,_,h,_⟩;rw [h];rfl) fun f cdv A outer s H E hr ds q h=>?_
  obtain ⟨d,R,rfl,hR,h⟩:=h
  refine ⟨_,(vss_cons (vs_set (i:=1) sc_common_divisor.nd ve_int)
   (vss_cons (vs_for rfl (vi_seq (ve_var 0)) (vg_name (i:=2) sc_common_divisor.nd) (vss_one (vs_for rfl (vi_seq (ve_var 2)) (vg_name (i:=3) sc_common_divisor.nd) (vss_one (vs_set (i:=1) sc_common_divisor.nd (ve_fn O_divisor.c (hr.mono (by decide)) (va_cons (ve_var 1) (va_cons (ve_var 3) va_nil))))))))
   (vss_one (vs_ret (ve_var 1))))),?_⟩
  obtain ⟨l,e,_⟩:=id hR
  refine seq_elim e ⟨fun i e => ∃ t1 t2 c,e=[.val d,.val (.int c),t1,t2]∧c=(gTab (R.take i):Int),⟨_,_,_,rfl,rfl⟩,?_,?_⟩
  ·rintro i x e' hx ⟨t1,t2,_,rfl,rfl⟩
   obtain ⟨r,hr,er⟩:=hR.get e hx
   refine seq_elim er ⟨fun j e => ∃ t2 c,e=[.val d,.val (.int c),.val x,t2]∧c=(gRow (gTab (R.take i)) (r.take j):Int),⟨_,_,rfl,rfl⟩,?_,?_⟩
   ·rintro j y e hy ⟨t2,_,rfl,rfl⟩
    obtain ⟨z,rfl,hz,_⟩:=int_get hy
    refine ⟨_,_,rfl,?_⟩
    rw [take_snoc hz,gRow_snoc]
   ·rintro e ⟨t2,_,rfl,rfl⟩
    refine ⟨_,_,_,rfl,?_⟩
    rw [List.length_map,List.take_length,List.take_add_one,hr]
    show _=((gTab (R.take i++[r]):Nat):Int)
    rw [gFold_snoc]
  ·rintro e' ⟨t1,t2,_,rfl,rfl⟩
   rw [hR.len e,List.take_length]
   exact h
def isTup:PyData→Bool
 | .tuple _=>true
 | _=>false
def rowsI (d:PyData):List (List Int):=((seqD d).getD []).map fun x=>((seqD x).getD []).map intD
def isTable (d:PyData) (lo hi:Int):Bool:=match d with
 | .tuple [b,r]=>makesTable b r lo hi&&(isTup r&&(((seqD r).getD []).all isTup&&decide (gTab (rowsI r)=1)))
 | _=>false
theorem RowsD.rowsI {d:PyData}{R:List (List Int)} (h:RowsD d R):rowsI d=R:=by
 obtain ⟨l,e,h1,h2⟩:=h
 unfold My.rowsI
 rw [e]
 show l.map (fun x=>((seqD x).getD []).map intD)=R
 have e2:l.map (fun x=>((seqD x).getD []).map intD)=(l.map fun x=>(seqD x).getD []).map (fun y=>y.map intD):=by rw [List.map_map];rfl
 rw [e2,h1,List.map_map]
 refine map_eq_self fun r _=>?_
 show (r.map PyData.int).map intD=r
 rw [List.map_map];exact map_eq_self fun n _=>rfl
theorem isTable_low {b:Int}{R:List (List Int)}{n:Nat}{lo hi:Int} (hT:Tab b R n) (hg:gTab R=1) (h1:1≤n) (h2:n≤12) (h3:lo≤R.length) (h4:R.length≤hi):isTable (dTab b R) lo hi=true:=by
 have hR:=rowsD_tup R
 show (makesTable (.int b) (.tuple (R.map tRow)) lo hi&&(true&&((R.map tRow).all isTup&&decide (gTab (rowsI (.tuple (R.map tRow)))=1))))=true
 rw [makesTable_of hR hT h1 h2 h3 h4,hR.rowsI,decide_eq_true hg]
 simp [isTup,tRow]
def sp_is_table:DC
 | [d,.int lo,.int hi],q=>(1≤lo∧hi≤900)∧q (.bool (isTable d lo hi))
 | _,_=>False
theorem notB {b:Bool} (h:(!b)=true):b=false:=by cases b <;> simp_all
theorem notB' {b:Bool} (h:(!b)=false):b=true:=by cases b <;> simp_all
theorem sc_is_table:FnScope ["thing","fewest","most","rows"] ["thing","fewest","most"] (defScope s_is_table):=sc0
theorem ok_is_table (F:Def K mg "is_table" s_is_table ["thing","fewest","most"]) (T:Txt K mg cs)
 (O_makes_table:Ok P w K mg base "makes_table" 3 ["bottom","rows","fewest","most"] (PSp K sp_makes_table))
 (O_common_divisor:Ok P w K mg base "common_divisor" 2 ["rows"] (PSp K sp_common_divisor))
 : Ok P w K mg base "is_table" 4 ["thing","fewest","most"] (PSp K sp_is_table):=by
  refine F.vok sc_is_table (fun ds q h=>by unfold sp_is_table at h;split at h;all_goals first|rfl|exact h.elim) fun f cdv A outer s H E hr ds q h=>?_
  match ds,h with
  | [d,.int lo,.int hi],⟨⟨h1,h2⟩,h⟩ =>
  refine ⟨_,(vss_cons (vs_if (VW.pt (vw_or (vt_not (vt_val (ve_isi T.isinstance_ T.tuple_ L2.boot_tuple (ve_var 0)))) (vw_or1 (vt_cmp (o_ne hr.units) (ve_callB c_len T.len_ L2.boot_len (va_cons (ve_var 0) va_nil)) ve_int)))) (vss_one (vs_ret ve_bl)) vss_nil)
   (vss_cons (vs_set (i:=3) sc_is_table.nd (ve_ix (ve_var 0) ve_int))
   (vss_cons (vs_if (vt_not (vt_val (ve_fn O_makes_table.c (hr.mono (by decide)) (va_cons (ve_ix (ve_var 0) ve_int) (va_cons (ve_var 3) (va_cons (ve_var 1) (va_cons (ve_var 2) va_nil))))))) (vss_one (vs_ret ve_bl)) vss_nil)
   (vss_cons (vs_if (VW.pt (vw_or (vt_not (vt_val (ve_isi T.isinstance_ T.tuple_ L2.boot_tuple (ve_var 3)))) (vw_or1 (vt_not (vt_val (ve_callB (c_all rfl) T.all_ L2.boot_all (va_cons (vf_fz (vf_comp (caps:=[]) (own:=["row"]) (ix:=[]) rfl ⟨rfl,rfl,rfl,rfl,rfl,rfl⟩ (vi_seq (ve_var 3)) (fun _ _ _ _=>(vg_name (i:=0) (show List.Nodup (["row"]:List Str) by decide))) (fun _ _ _ _=>(ve_isi T.isinstance_ T.tuple_ L2.boot_tuple (ve_var 0))))) va_nil))))))) (vss_one (vs_ret ve_bl)) vss_nil)
   (vss_one (vs_ret (ve_cmp (o_eq hr.units) (ve_fn O_common_divisor.c (hr.mono (by decide)) (va_cons (ve_var 3) va_nil)) ve_int))))))),?_⟩
  replace h:q (.bool (isTable d lo hi)):=h
  cases d with
  | tuple l =>
   match l,h with
   | [],h=>exact ⟨rfl,rfl,h⟩
   | [x],h=>exact ⟨rfl,rfl,h⟩
   | x::y::z::t,h =>
    refine ⟨rfl,rfl,ite_ne (fun _=>h) (fun z=>?_)⟩
    simp at z;omega
   | [b,r],h =>
    refine ⟨rfl,rfl,_,rfl,_,rfl,⟨h1,h2⟩,iteB (fun z=>?_) (fun z=>?_)⟩
    ·have e:isTable (.tuple [b,r]) lo hi=false:=by
      show (makesTable b r lo hi&&_)=false
      rw [notB z];rfl
     rw [e] at h;exact h
    ·have em:=notB' z
     have e:isTable (.tuple [b,r]) lo hi=(isTup r&&(((seqD r).getD []).all isTup&&decide (gTab (rowsI r)=1))):=by
      show (makesTable b r lo hi&&_)=_
      rw [em];rfl
     rw [e] at h
     obtain ⟨b',R,n,rfl,hR,hT,n1,n2,r1,r2⟩:=makesTable_inv h1 em
     obtain ⟨m,es,_⟩:=id hR
     cases r with
     | tuple m' =>
      cases es
      replace h:q (.bool (m.all isTup&&decide (gTab (rowsI (.tuple m))=1))):=h
      have hl:=hR.len (l:=m) rfl
      refine comp_by (m.map fun x => .bool (isTup x)) (by simp) (small1000 (by rw [List.length_map];omega)) (fun e => ∃ s,e=[s]) ⟨_,rfl⟩ ?_ ?_
      ·rintro i x ys e hx hys ⟨s,rfl⟩
       refine ⟨snoc_take ?_ hys,_,rfl⟩
       rw [List.getElem?_map,hx]
       cases x <;> rfl
      ·refine ⟨m.map isTup,by rw [List.map_map];rfl,?_⟩
       have e:(m.map isTup).all id=m.all isTup:=by rw [List.all_map];rfl
       rw [e]
       refine iteB (fun z=>?_) (fun z=>?_)
       ·rw [notB z] at h;exact h
       ·rw [notB' z] at h
        refine ⟨_,R,rfl,hR,rfl,rfl,?_⟩
        rw [hR.rowsI] at h
        have e3:PyData.eqv (.int (gTab R:Int)) (.int 1)=decide (gTab R=1):=by
         rw [eqv_int,Bool.eq_iff_iff];simp;omega
        rw [e3];exact h
     | list m'=>exact h
     | _=>cases es
  | _=>exact h
def sp_is_glass:DC
 | [d],q=>q (.bool (isTable d 2 4))
 | _,_=>False
theorem sc_is_glass:FnScope ["thing"] ["thing"] (defScope s_is_glass):=sc0
theorem ok_is_glass (F:Def K mg "is_glass" s_is_glass ["thing"]) (T:Txt K mg cs)
 (O_is_table:Ok P w K mg base "is_table" 4 ["thing","fewest","most"] (PSp K sp_is_table))
 : Ok P w K mg base "is_glass" 5 ["thing"] (PSp K sp_is_glass):=by
  refine F.vok sc_is_glass (fun ds q h=>by unfold sp_is_glass at h;split at h;all_goals first|rfl|exact h.elim) fun f cdv A outer s H E hr ds q h=>?_
  match ds,h with
  | [d],h =>
  refine ⟨_,(vss_one (vs_ret (ve_fn O_is_table.c (hr.mono (by decide)) (va_cons (ve_var 0) (va_cons (ve_globI T.FEWEST_STANDS_) (va_cons (ve_globI T.MOST_STANDS_) va_nil)))))),?_⟩
  exact ⟨⟨by decide,by decide⟩,h⟩
def sp_over_bottom (ds:List PyData) (q:PyData→Prop):Prop := ∃ (d:PyData) (r:List (Int×Int)) (B:Int),ds=[d,.int B]∧(seqD d=some (r.map dS)∧r.length≤900∧(∀ x ∈ r,Shr x.1 x.2∧intBits x.1≤4000∧x.2∣B)∧0<B∧intBits B≤4000)∧q (tRow (overB B r))
theorem sc_over_bottom:FnScope ["row","bottom"] ["row","bottom"] (defScope s_over_bottom):=sc0
theorem ok_over_bottom (F:Def K mg "over_bottom" s_over_bottom ["row","bottom"]) (T:Txt K mg cs)
 : Ok P w K mg base "over_bottom" 1 ["row","bottom"] (PSp K sp_over_bottom):=by
  refine F.vok sc_over_bottom (by rintro ds q ⟨_,_,_,h,_⟩;rw [h];rfl) fun f cdv A outer s H E hr ds q h=>?_
  obtain ⟨d,r,B,rfl,⟨e,hl,hx,B0,zB⟩,h⟩:=h
  refine ⟨_,(vss_one (vs_ret (ve_callTy c_tuple T.tuple_ L2.boot_tuple (va_cons (vf_fz (vf_comp (caps:=["bottom"]) (own:=["part"]) (ix:=[1]) rfl ⟨rfl,rfl,rfl,rfl,rfl,rfl⟩ (vi_seq (ve_var 0)) (fun _ _ _ _=>(vg_name (i:=1) (show List.Nodup (["bottom","part"]:List Str) by decide))) (fun _ _ _ _=>(ve_op o_mulI (ve_ix (ve_var 1) ve_int) (ve_op o_div (ve_var 0) (ve_ix (ve_var 1) ve_int)))))) va_nil)))),?_⟩
  refine seq_elim e (comp_by ((overB B r).map .int) (by simp [overB]) (small1000 (by simp [overB];omega)) (fun e => ∃ s,e=[.val (.int B),s]) ⟨_,rfl⟩ ?_ h)
  rintro i x ys e hx' hys ⟨s,rfl⟩
  obtain ⟨y,hy,rfl⟩:=shG hx'
  obtain ⟨s1,s2,s3⟩:=hx y (List.mem_of_getElem? hy)
  have q0:=s1.pos
  refine ⟨.int y.1,rfl,.int y.2,rfl,⟨by omega,bits_up (dvdB s3 B0 zB) (by decide)⟩,mulok s2 (dvdB (x:=B/y.2) ⟨y.2,(Int.ediv_mul_cancel s3).symm⟩ B0 zB),snoc_take ?_ hys,_,rfl⟩
  unfold overB
  rw [List.getElem?_map,List.getElem?_map,hy];rfl
def sp_table_of_shares (ds:List PyData) (q:PyData→Prop):Prop := ∃ (d:PyData) (V:List (List (Int×Int))) (D0:Int),ds=[d]∧(RowsS d V∧V.length≤900∧(∀ r ∈ V,r.length≤900 ∧ ∀ x ∈ r,Shr x.1 x.2∧intBits x.1≤4000∧x.2∣D0)∧0<D0∧intBits D0≤4000) ∧ ∀ B,LcmB V B→q (dTab B (V.map (overB B)))
theorem sc_table_of_shares:FnScope ["rows","bottom","row","part"] ["rows"] (defScope s_table_of_shares):=sc0
theorem ok_table_of_shares (F:Def K mg "table_of_shares" s_table_of_shares ["rows"]) (T:Txt K mg cs)
 (O_divisor:Ok P w K mg base "divisor" 1 ["one","other"] (PSp K sp_divisor))
 (O_over_bottom:Ok P w K mg base "over_bottom" 1 ["row","bottom"] (PSp K sp_over_bottom))
 : Ok P w K mg base "table_of_shares" 2 ["rows"] (PSp K sp_table_of_shares):=by
  refine F.vok sc_table_of_shares (by rintro ds q ⟨_,_,_,h,_⟩;rw [h];rfl) fun f cdv A outer s H E hr ds q h=>?_
  obtain ⟨d,V,D0,rfl,⟨⟨l,e,el,hV⟩,hl,hx,d0,zd⟩,h⟩:=h
  refine ⟨_,(vss_cons (vs_set (i:=1) sc_table_of_shares.nd ve_int)
   (vss_cons (vs_for rfl (vi_seq (ve_var 0)) (vg_name (i:=2) sc_table_of_shares.nd) (vss_one (vs_for rfl (vi_seq (ve_var 2)) (vg_name (i:=3) sc_table_of_shares.nd) (vss_one (vs_set (i:=1) sc_table_of_shares.nd (ve_op o_div (ve_op o_mulI (ve_var 1) (ve_ix (ve_var 3) ve_int)) (ve_fn O_divisor.c (hr.mono (by decide)) (va_cons (ve_var 1) (va_cons (ve_ix (ve_var 3) ve_int) va_nil)))))))))
   (vss_one (vs_ret (ve_tup (va_cons (ve_var 1) (va_cons (ve_callTy c_tuple T.tuple_ L2.boot_tuple (va_cons (vf_fz (vf_comp (caps:=["bottom"]) (own:=["row"]) (ix:=[1]) rfl ⟨rfl,rfl,rfl,rfl,rfl,rfl⟩ (vi_seq (ve_var 0)) (fun _ _ _ _=>(vg_name (i:=1) (show List.Nodup (["bottom","row"]:List Str) by decide))) (fun _ _ _ _=>(ve_fn O_over_bottom.c (hr.mono (by decide)) (va_cons (ve_var 1) (va_cons (ve_var 0) va_nil)))))) va_nil)) va_nil))))))),?_⟩
  refine seq_elim e ⟨fun i e => ∃ t1 t2 B,e=[.val d,.val (.int B),t1,t2]∧LcmL (V.take i).flatten B∧B∣D0,⟨_,_,_,rfl,by simpa using LcmL.nil,⟨D0,by omega⟩⟩,?_,?_⟩
  ·rintro i x e' hxi ⟨t1,t2,B,rfl,hB,Bd⟩
   obtain ⟨r,hr,er⟩:=hV i x hxi
   refine seq_elim er ⟨fun j e => ∃ t2 B,e=[.val d,.val (.int B),.val x,t2]∧LcmL ((V.take i).flatten++r.take j) B∧B∣D0,⟨_,_,rfl,by simpa using hB,Bd⟩,?_,?_⟩
   ·rintro j y e hy ⟨t2,B,rfl,hB,Bd⟩
    obtain ⟨z,hz,rfl⟩:=shG hy
    obtain ⟨s1,s2,s3⟩:=(hx r (List.mem_of_getElem? hr)).2 z (List.mem_of_getElem? hz)
    have q0:=s1.pos
    have B0:=hB.pos
    have gp:(0:Int)<(Int.gcd B z.2:Nat):=by have:=Int.gcd_pos_of_ne_zero_right B (show z.2≠0 by omega);omega
    refine ⟨.int z.2,rfl,mulok (dvdB Bd d0 zd) (dvdB s3 d0 zd),.int z.2,rfl,⟨gp,bits_up (dvdB (Int.dvd_trans (Int.gcd_dvd_left ..) Bd) d0 zd) (by decide)⟩,_,_,rfl,?_,(bot_next B0 (show 0<z.2 by omega) Bd s3).2.1⟩
    rw [takeS hz,← List.append_assoc]
    exact hB.snoc (by omega)
   ·rintro e ⟨t2,B,rfl,hB,Bd⟩
    refine ⟨_,_,_,rfl,?_,Bd⟩
    rw [List.length_map,List.take_length] at hB
    rw [takeF hr];exact hB
  rintro e' ⟨t1,t2,B,rfl,hB,Bd⟩
  rw [el,List.take_length] at hB
  have hB':=hB.b
  have B0:=hB.pos
  have zB:=dvdB Bd d0 zd
  refine seq_elim e (comp_by ((V.map (overB B)).map tRow) (by simp [el]) (small1000 (by simp;omega)) (fun e => ∃ s,e=[.val (.int B),s]) ⟨_,rfl⟩ ?_ ⟨szl,h B hB'⟩)
  rintro i x ys e' hxi hys ⟨s,rfl⟩
  obtain ⟨r,hr,er⟩:=hV i x hxi
  obtain ⟨rl,rx⟩:=hx r (List.mem_of_getElem? hr)
  refine ⟨x,r,B,rfl,⟨er,rl,fun y hy=>⟨(rx y hy).1,(rx y hy).2.1,hB'.dv r (List.mem_of_getElem? hr) y hy⟩,B0,zB⟩,snoc_take ?_ hys,_,rfl⟩
  rw [List.getElem?_map,List.getElem?_map,hr];rfl
def dWds (R:List (List Str)):PyData :=.list (R.map fun ws => .list (ws.map .str))
def sp_words_in_rowsX (C:Addr) (ds:List PyData) (k:PyData→Prop) (e:Addr→Prop):Prop := ∃ d,ds=[d]∧((isTy "str" d=false∧e C) ∨ ∃ x:Str,d = .str x∧x.length≤900∧k (dWds (rowsW x)))
theorem sc_words_in_rows:FnScope ["text"] ["text"] (defScope s_words_in_rows):=sc0
theorem ok_words_in_rows (F:Def K mg "words_in_rows" s_words_in_rows ["text"]) (T:Txt K mg cs)
 : OkX P w K mg base "words_in_rows" 1 ["text"] (XSp K (sp_words_in_rowsX cs.NoText)):=by
  refine F.vokX sc_words_in_rows (by rintro ds q e ⟨_,h,_⟩;rw [h];rfl) fun f cdv A outer s H E hr hp ht ds k e h=>?_
  obtain ⟨d,rfl,h⟩:=h
  refine ⟨_,(vssx_cons (vsx_if (vt_not (vt_val (ve_isi T.isinstance_ T.str_ L2.boot_str (ve_var 0)))) (vssx_cons (vsx_raise ht rfl T.NoText_ T.NoText_x.exc (va_cons ve_str va_nil))
   (vssx_of vss_nil)) (vssx_of vss_nil))
   (vssx_of (vss_one (vs_ret (vf_fz (vf_comp (caps:=[]) (own:=["row"]) (ix:=[]) rfl ⟨rfl,rfl,rfl,rfl,rfl,rfl⟩ (vi_seq (ve_split (ve_var 0) ve_str)) (fun _ _ _ _=>(vg_name (i:=0) (show List.Nodup (["row"]:List Str) by decide))) (fun _ _ _ _=>(ve_split (ve_var 0) ve_str)))))))),?_⟩
  rcases h with ⟨h1,h⟩|⟨x,rfl,hx,h⟩
  ·cases d <;> first|exact ⟨szl,h⟩|cases h1
  ·have z1:=split_size x (Str.ofString " | ")
   refine ⟨_,rfl,_,rfl,⟨rfl,sz_line hx (by decide),sz_line (Nat.le_trans z1.1 (Nat.add_le_add_right hx 2)) (by decide),sz_line (Nat.le_trans z1.2 (Nat.add_le_add_right hx 2)) (by decide)⟩,?_⟩
   refine comp_by ((rowsW x).map fun ws:List Str=>PyData.list (ws.map PyData.str)) (by simp [rowsW]) (small1000 (by simp [rowsW];omega)) (fun e => ∃ s,e=[s]) ⟨_,rfl⟩ ?_ h
   rintro i y ys e hy hys ⟨s,rfl⟩
   rw [List.getElem?_map] at hy
   cases er:(Txt.split x (Str.ofString " | "))[i]? with
   | none=>rw [er] at hy;cases hy
   | some r =>
    rw [er] at hy
    cases hy
    have hl:=Nat.le_trans (split_len_le x _ (by decide) r (List.mem_of_getElem? er)) hx
    have z2:=split_size r (Str.ofString " ")
    refine ⟨_,rfl,_,rfl,⟨rfl,sz_line hl (by decide),sz_line (Nat.le_trans z2.1 (Nat.add_le_add_right hl 2)) (by decide),sz_line (Nat.le_trans z2.2 (Nat.add_le_add_right hl 2)) (by decide)⟩,?_⟩
    refine ⟨snoc_take ?_ hys,_,rfl⟩
    rw [List.getElem?_map]
    unfold rowsW
    rw [List.getElem?_map,er];rfl
def sp_reduced:DC
 | [.int t,.int b],q=>(b≠0∧intBits b≤9000)∧q (dSh (shT t b) (shB t b))
 | _,_=>False
theorem sc_reduced:FnScope ["top","bottom","common"] ["top","bottom"] (defScope s_reduced):=sc0
theorem ok_reduced (F:Def K mg "reduced" s_reduced ["top","bottom"]) (T:Txt K mg cs)
 (O_divisor:Ok P w K mg base "divisor" 1 ["one","other"] (PSp K sp_divisor))
 : Ok P w K mg base "reduced" 2 ["top","bottom"] (PSp K sp_reduced):=by
  refine F.vok sc_reduced (fun ds q h=>by unfold sp_reduced at h;split at h;all_goals first|rfl|exact h.elim) fun f cdv A outer s H E hr ds q h=>?_
  match ds,h with
  | [.int t,.int b],⟨⟨hb,hz⟩,h⟩ =>
  refine ⟨_,(vss_cons (vs_set (i:=2) sc_reduced.nd (ve_fn O_divisor.c (hr.mono (by decide)) (va_cons (ve_var 0) (va_cons (ve_var 1) va_nil))))
   (vss_mid (vs_if (vt_cmp o_lt (ve_var 1) ve_int) (vss_one (vs_set (i:=2) sc_reduced.nd (ve_neg (ve_var 2)))) vss_nil)
   (vss_one (vs_ret (ve_tup (va_cons (ve_op o_fdiv (ve_var 0) (ve_var 2)) (va_cons (ve_op o_fdiv (ve_var 1) (ve_var 2)) va_nil))))))),?_⟩
  have hc:=cm_ne (t:=t) hb
  have hcz:=cm_bits (t:=t) hb hz
  refine ⟨fun e=>e=[.val (.int t),.val (.int b),.val (.int (cm t b))],?_,?_⟩
  ·refine iteD (fun hn=>?_) (fun hn=>?_)
   ·show _=_
    unfold cm;rw [if_pos hn];rfl
   ·show _=_
    unfold cm;rw [if_neg hn];rfl
  ·rintro e rfl
   exact ⟨⟨hc,hcz⟩,⟨hc,hcz⟩,szl,h⟩
def sp_share:DC
 | [.int t,.int b],q=>(b≠0∧intBits b≤9000)∧q (dSh (shT t b) (shB t b))
 | _,_=>False
theorem sc_share:FnScope ["top","bottom"] ["top","bottom"] (defScope s_share):=sc0
theorem ok_share (F:Def K mg "share" s_share ["top","bottom"]) (T:Txt K mg cs)
 (O_is_whole:Ok P w K mg base "is_whole" 1 ["thing"] (PSp K sp_is_whole))
 (O_reduced:Ok P w K mg base "reduced" 2 ["top","bottom"] (PSp K sp_reduced))
 : Ok P w K mg base "share" 3 ["top","bottom"] (PSp K sp_share):=by
  refine F.vok sc_share (fun ds q h=>by unfold sp_share at h;split at h;all_goals first|rfl|exact h.elim) fun f cdv A outer s H E hr ds q h=>?_
  match ds,h with
  | [.int t,.int b],h =>
  refine ⟨_,(vss_cons (vs_if (VW.pt (vw_or (vt_not (vt_val (ve_fn O_is_whole.c (hr.mono (by decide)) (va_cons (ve_var 0) va_nil)))) (vw_or (vt_not (vt_val (ve_fn O_is_whole.c (hr.mono (by decide)) (va_cons (ve_var 1) va_nil)))) (vw_or1 (vt_cmp (o_eq hr.units) (ve_var 1) ve_int))))) vss_never vss_nil)
   (vss_one (vs_ret (ve_fn O_reduced.c (hr.mono (by decide)) (va_cons (ve_var 0) (va_cons (ve_var 1) va_nil)))))),?_⟩
  exact ⟨rfl,rfl,ite_eq (fun z=>(h.1.1 z).elim) (fun _=>h)⟩
def sp_show_share (ds:List PyData) (k:PyData→Prop):Prop := ∃ p q:Int,ds=[dSh p q]∧(intBits p≤400∧intBits q≤400)∧k (.str (shTx p q))
theorem sc_show_share:FnScope ["one","top","bottom"] ["one"] (defScope s_show_share):=sc0
theorem ok_show_share (F:Def K mg "show_share" s_show_share ["one"]) (T:Txt K mg cs)
 : Ok P w K mg base "show_share" 1 ["one"] (PSp K sp_show_share):=by
  refine F.vok sc_show_share (by rintro ds q ⟨_,_,h,_⟩;rw [h];rfl) fun f cdv A outer s H E hr ds k h=>?_
  obtain ⟨p,q,rfl,⟨zp,zq⟩,h⟩:=h
  refine ⟨_,(vss_cons (vs_set (i:=1) sc_show_share.nd (ve_ix (ve_var 0) ve_int))
   (vss_cons (vs_set (i:=2) sc_show_share.nd (ve_ix (ve_var 0) ve_int))
   (vss_one (vs_ret (ve_ifExp (vt_cmp (o_eq hr.units) (ve_var 2) ve_int) (ve_fj1 (ve_fmtI (ve_var 1))) (ve_fj3 (ve_fmtI (ve_var 1)) ve_str (ve_fmtI (ve_var 2)))))))),?_⟩
  obtain ⟨l1,l2,l3⟩:=shTx_len zp zq
  refine ⟨_,rfl,_,rfl,rfl,rfl,ite_eq (fun z=>?_) (fun z=>?_)⟩
  ·unfold shTx at h
   rw [if_pos z] at h
   exact ⟨p,rfl,nT_log zp (by decide),h⟩
  ·unfold shTx at h
   rw [if_neg z] at h
   exact ⟨p,rfl,nT_log zp (by decide),_,rfl,sz_line l1 (by decide),_,rfl,sz_line l2 (by decide),q,rfl,nT_log zq (by decide),_,rfl,sz_line l3 (by decide),h⟩
def sp_is_made_of (ds:List PyData) (k:PyData→Prop):Prop := ∃ x y:Str,ds=[.str x,.str y]∧(x.cps.all (· < 128)=true∧x.length≤900)∧k (.bool (mdo x y))
theorem sc_is_made_of:FnScope ["word","letters"] ["word","letters"] (defScope s_is_made_of):=sc0
theorem ok_is_made_of (F:Def K mg "is_made_of" s_is_made_of ["word","letters"]) (T:Txt K mg cs)
 : Ok P w K mg base "is_made_of" 1 ["word","letters"] (PSp K sp_is_made_of):=by
  refine F.vok sc_is_made_of (by rintro ds q ⟨_,_,h,_⟩;rw [h];rfl) fun f cdv A outer s H E hr ds k h=>?_
  obtain ⟨x,y,rfl,⟨ax,lx⟩,h⟩:=h
  refine ⟨_,(vss_one (vs_ret (ve_and (ve_cmp (o_ne hr.units) (ve_var 0) ve_str) (ve_one (ve_callB (c_all rfl) T.all_ L2.boot_all (va_cons (vf_fz (vf_comp (caps:=["letters"]) (own:=["letter"]) (ix:=[1]) rfl ⟨rfl,rfl,rfl,rfl,rfl,rfl⟩ (vi_str (ve_var 0)) (fun _ _ _ _=>(vg_name (i:=1) (show List.Nodup (["letters","letter"]:List Str) by decide))) (fun _ _ _ _=>(ve_cmp o_inT (ve_var 1) (ve_var 0))))) va_nil)))))),?_⟩
  have sx:=shpS (x:=x) 0 (asc_ok ax)
  have se:=shpS (x := "") 0 (by decide +kernel)
  unfold mdo at h
  refine ⟨sx.ok,se.ok,iteB (fun z=>?_) (fun z=>?_)⟩
  ·rw [z,Bool.true_and] at h
   refine ⟨ax,comp_by (x.cps.toList.map fun c=>PyData.bool (Txt.contains y (chS c))) (by simp [signsD]) (small1000 (by rw [List.length_map,Array.length_toList];exact Nat.le_trans lx (by decide))) (fun e => ∃ s,e=[.val (.str y),s]) ⟨_,rfl⟩ ?_ ?_⟩
   ·rintro i d ys e hd hys ⟨s,rfl⟩
    unfold signsD at hd
    rw [List.getElem?_map] at hd
    cases ec:x.cps.toList[i]? with
    | none=>rw [ec] at hd;cases hd
    | some c =>
     rw [ec] at hd
     cases hd
     refine ⟨snoc_take ?_ hys,_,rfl⟩
     rw [List.getElem?_map,ec];rfl
   ·refine ⟨x.cps.toList.map fun c=>Txt.contains y (chS c),by rw [List.map_map];rfl,?_⟩
    rw [List.all_map]
    exact h
  ·rw [z,Bool.false_and] at h
   exact h
def sp_is_number (ds:List PyData) (k:PyData→Prop):Prop := ∃ (x:Str) (m:Int),ds=[.str x,.int m]∧(x.cps.all (· < 128)=true∧x.length≤900∧(figS x).cps.all (· < 128)=true∧(figS x).length≤900)∧k (.bool (numB x m))
theorem sc_is_number:FnScope ["word","most","figures"] ["word","most"] (defScope s_is_number):=sc0
theorem ok_is_number (F:Def K mg "is_number" s_is_number ["word","most"]) (T:Txt K mg cs)
 (O_is_made_of:Ok P w K mg base "is_made_of" 1 ["word","letters"] (PSp K sp_is_made_of))
 : Ok P w K mg base "is_number" 2 ["word","most"] (PSp K sp_is_number):=by
  refine F.vok sc_is_number (by rintro ds q ⟨_,_,h,_⟩;rw [h];rfl) fun f cdv A outer s H E hr ds k h=>?_
  obtain ⟨x,m,rfl,⟨ax,lx,af,lf⟩,h⟩:=h
  refine ⟨_,(vss_cons (vs_set (i:=2) sc_is_number.nd (ve_ifExp (vt_val (ve_starts (ve_var 0) ve_str)) (ve_sliceS (ve_var 0) (vo_some ve_int) vo_none) (ve_var 0)))
   (vss_cons (vs_if (VW.pt (vw_or (vt_not (vt_val (ve_fn O_is_made_of.c (hr.mono (by decide)) (va_cons (ve_var 2) (va_cons (ve_globS T.FIGURES_) va_nil))))) (vw_or1 (vt_cmp o_gt (ve_callB c_len T.len_ L2.boot_len (va_cons (ve_var 2) va_nil)) (ve_var 1))))) (vss_one (vs_ret ve_bl)) vss_nil)
   (vss_one (vs_ret (ve_or (ve_cmp (o_eq hr.units) (ve_var 0) ve_str) (ve_one (ve_not (ve_starts (ve_var 2) ve_str)))))))),?_⟩
  have sx:=shpS (x:=x) 0 (asc_ok ax)
  have s0:=shpS (x := "0") 0 (by decide +kernel)
  unfold numB at h
  refine ⟨x,rfl,_,rfl,iteB (fun z=>?_) (fun z=>?_)⟩
  ·have eg:figS x=cutS x (some 1) none:=if_pos z
   rw [eg] at af lf h
   refine ⟨sz_line lf (by decide),?_⟩
   refine ⟨(cutS x (some 1) none),_,rfl,⟨af,Nat.le_trans lf (by decide)⟩,iteB (fun c1=>?_) (fun c1=>⟨sz_line lf (by decide),iteD (fun c2=>?_) (fun c2=>?_)⟩)⟩
   ·have c1:mdo (cutS x (some 1) none) "0123456789" = false:=by
     cases y:mdo (cutS x (some 1) none) "0123456789" with
     | false=>rfl
     | true=>rw [y] at c1;cases c1
    rw [c1,Bool.false_and,Bool.false_and] at h
    exact h
   ·rw [decide_eq_false (p:=((cutS x (some 1) none).length:Int)≤m) (by omega),Bool.and_false,Bool.false_and] at h
    exact h
   ·have c1:mdo (cutS x (some 1) none) "0123456789" = true:=by
     cases y:mdo (cutS x (some 1) none) "0123456789" with
     | true=>rfl
     | false=>rw [y] at c1;cases c1
    rw [c1,decide_eq_true (p:=((cutS x (some 1) none).length:Int)≤m) (by omega),Bool.true_and,Bool.true_and] at h
    refine ⟨sx.ok,s0.ok,iteB (fun c3=>?_) (fun c3=>?_)⟩
    ·rw [c3,Bool.true_or] at h
     exact h
    ·rw [c3,Bool.false_or] at h
     exact ⟨(cutS x (some 1) none),rfl,_,rfl,h⟩
  ·have eg:figS x=x:=if_neg (by rw [z];exact Bool.false_ne_true)
   rw [eg] at af lf h
   refine ⟨x,_,rfl,⟨af,Nat.le_trans lf (by decide)⟩,iteB (fun c1=>?_) (fun c1=>⟨sz_line lf (by decide),iteD (fun c2=>?_) (fun c2=>?_)⟩)⟩
   ·have c1:mdo x "0123456789" = false:=by
     cases y:mdo x "0123456789" with
     | false=>rfl
     | true=>rw [y] at c1;cases c1
    rw [c1,Bool.false_and,Bool.false_and] at h
    exact h
   ·rw [decide_eq_false (p:=(x.length:Int)≤m) (by omega),Bool.and_false,Bool.false_and] at h
    exact h
   ·have c1:mdo x "0123456789" = true:=by
     cases y:mdo x "0123456789" with
     | true=>rfl
     | false=>rw [y] at c1;cases c1
    rw [c1,decide_eq_true (p:=(x.length:Int)≤m) (by omega),Bool.true_and,Bool.true_and] at h
    refine ⟨sx.ok,s0.ok,iteB (fun c3=>?_) (fun c3=>?_)⟩
    ·rw [c3,Bool.true_or] at h
     exact h
    ·rw [c3,Bool.false_or] at h
     exact ⟨x,rfl,_,rfl,h⟩
def sp_read_shareX (C:Addr) (ds:List PyData) (k:PyData→Prop) (e:Addr→Prop):Prop := ∃ w:Str,ds=[.str w]∧AscW w∧(∀ r,readS w=some r→k (dSh r.1 r.2))∧(readS w=none→e C)
theorem sc_read_share:FnScope ["word","parts","top","bottom","found"] ["word"] (defScope s_read_share):=sc0
theorem ok_read_share (F:Def K mg "read_share" s_read_share ["word"]) (T:Txt K mg cs)
 (O_share:Ok P w K mg base "share" 3 ["top","bottom"] (PSp K sp_share))
 (O_show_share:Ok P w K mg base "show_share" 1 ["one"] (PSp K sp_show_share))
 (O_is_number:Ok P w K mg base "is_number" 2 ["word","most"] (PSp K sp_is_number))
 : OkX P w K mg base "read_share" 4 ["word"] (XSp K (sp_read_shareX cs.NoText)):=by
  refine F.vokX sc_read_share (by rintro ds q e ⟨_,h,_⟩;rw [h];rfl) fun f cdv A outer s H E hr hp ht ds k e h=>?_
  obtain ⟨w,rfl,hw,hg,hb⟩:=h
  refine ⟨_,(vssx_cons (vsx_of (vs_set (i:=1) sc_read_share.nd (ve_part (ve_var 0) ve_str)))
   (vssx_cons (vsx_of (vs_set (i:=2) sc_read_share.nd (ve_ix (ve_var 1) ve_int)))
   (vssx_cons (vsx_of (vs_set (i:=3) sc_read_share.nd (ve_ifExp (vt_cmp (o_eq hr.units) (ve_ix (ve_var 1) ve_int) ve_str) (ve_ix (ve_var 1) ve_int) ve_str)))
   (vssx_cons (vsx_if (VW.pt (vw_or (vt_not (vt_val (ve_fn O_is_number.c (hr.mono (by decide)) (va_cons (ve_var 2) (va_cons (ve_globI T.MOST_FIGURES_) va_nil))))) (vw_or (vt_not (vt_val (ve_fn O_is_number.c (hr.mono (by decide)) (va_cons (ve_var 3) (va_cons (ve_globI T.MOST_FIGURES_) va_nil))))) (vw_or1 (vt_cmp (o_eq hr.units) (ve_var 3) ve_str))))) (vssx_cons (vsx_raise ht rfl T.NoText_ T.NoText_x.exc (va_cons ve_str va_nil))
   (vssx_of vss_nil)) (vssx_of vss_nil))
   (vssx_cons (vsx_of (vs_set (i:=4) sc_read_share.nd (ve_fn O_share.c (hr.mono (by decide)) (va_cons (ve_callTy c_intS T.int_ L2.boot_int (va_cons (ve_var 2) va_nil)) (va_cons (ve_callTy c_intS T.int_ L2.boot_int (va_cons (ve_var 3) va_nil)) va_nil)))))
   (vssx_cons (vsx_if (vt_cmp (o_ne hr.units) (ve_fn O_show_share.c (hr.mono (by decide)) (va_cons (ve_var 4) va_nil)) (ve_var 0)) (vssx_cons (vsx_raise ht rfl T.NoText_ T.NoText_x.exc (va_cons ve_str va_nil))
   (vssx_of vss_nil)) (vssx_of vss_nil))
   (vssx_of (vss_one (vs_ret (ve_var 4)))))))))),?_⟩
  obtain ⟨a,sp,b0,ep,ha,hs,hb0⟩:=part3 hw
  have sx:=shpS (x:=w) 0 (asc_ok hw.1)
  have s0:=shpS (x := "0") 0 (by decide +kernel)
  have ss:=shpS (x := "/") 0 (by decide +kernel)
  have sz:=shpS (x:=sp) 0 (asc_ok hs.1)
  unfold readS at hg hb
  refine ⟨_,rfl,_,rfl,⟨by decide +kernel,sz_line hw.2 (by decide)⟩,?_⟩
  rw [ep] at hg hb ⊢
  dsimp only at hg hb
  have one:AscW (Str.ofString "1"):=⟨by decide +kernel,by decide +kernel⟩
  refine ⟨_,rfl,_,rfl,sz.ok,ss.ok,iteB (fun z=>⟨_,rfl,?_⟩) (fun z=>?_)⟩
  ·rw [if_pos z] at hg hb
   have sb:=shpS (x:=b0) 0 (asc_ok hb0.1)
   have fa:=ha.fig
   have fb:=hb0.fig
   unfold readS2 at hg hb
   refine ⟨a,6,rfl,⟨ha.1,ha.2,fa.1,fa.2⟩,iteB (fun z1=>?_) (fun z1=>?_)⟩
   ·rw [if_neg (by rw [show numB a 6=false by simpa using z1];exact Bool.false_ne_true)] at hb
    exact ⟨szl,hb rfl⟩
   have na:numB a 6=true:=by simpa using z1
   rw [if_pos na] at hg hb
   refine ⟨b0,6,rfl,⟨hb0.1,hb0.2,fb.1,fb.2⟩,iteB (fun z2=>?_) (fun z2=>?_)⟩
   ·rw [if_neg (by rw [show numB b0 6=false by simpa using z2];exact Bool.false_ne_true)] at hb
    exact ⟨szl,hb rfl⟩
   have nb:numB b0 6=true:=by simpa using z2
   rw [if_pos nb] at hg hb
   refine ⟨sb.ok,s0.ok,iteB (fun z3=>?_) (fun z3=>?_)⟩
   ·rw [if_pos z3] at hb
    exact ⟨szl,hb rfl⟩
   rw [if_neg (by rw [z3];exact Bool.false_ne_true)] at hg hb
   obtain ⟨p,rfl,hp'⟩:=num_back (k:=6) na
   obtain ⟨q,rfl,hq'⟩:=num_back (k:=6) nb
   have i1:(10:Int)^6=1000000:=by decide
   have i2:(10:Int)^10=10000000000:=by decide
   have e1:PySem.intText? (nT p)=some p:=int_reads (by omega)
   have e2:PySem.intText? (nT q)=some q:=int_reads (by omega)
   rw [e1,e2] at hg hb
   simp only [Option.getD_some] at hg hb
   have q0:q≠0:=fun z=>by rw [z] at z3;exact absurd z3 (by decide +kernel)
   have t1:=abs_part (shT_mul p q) (cm_ne q0)
   have t2:=abs_part (shB_mul p q) (cm_ne q0)
   have l1:=int_long (k:=6) (by decide) hp'
   have l2:=int_long (k:=6) (by decide) hq'
   refine ⟨p,e1,Nat.le_trans l1 (by decide),q,e2,Nat.le_trans l2 (by decide),⟨q0,bits_up (bits64 (by omega) (by omega)) (by decide)⟩,?_⟩
   have st:=shpS (x:=shTx (shT p q) (shB p q)) 0 (asc_ok (asc_all.mpr fun c hc=>by have:=shTx_signs hc;omega))
   refine ⟨shT p q,shB p q,rfl,⟨bits_up (bits64 (by omega) (by omega)) (by decide),bits_up (bits64 (by omega) (by omega)) (by decide)⟩,st.ok,sx.ok,iteB (fun z4=>?_) (fun z4=>?_)⟩
   ·rw [if_neg (by simpa using z4)] at hb
    exact ⟨szl,hb rfl⟩
   ·rw [if_pos (by simpa using z4)] at hg
    exact hg _ rfl
  ·rw [if_neg (by rw [z];exact Bool.false_ne_true)] at hg hb
   generalize Str.ofString "1" = b0 at one hg hb ⊢
   have hb0:=one
   have sb:=shpS (x:=b0) 0 (asc_ok hb0.1)
   have fa:=ha.fig
   have fb:=hb0.fig
   unfold readS2 at hg hb
   refine ⟨a,6,rfl,⟨ha.1,ha.2,fa.1,fa.2⟩,iteB (fun z1=>?_) (fun z1=>?_)⟩
   ·rw [if_neg (by rw [show numB a 6=false by simpa using z1];exact Bool.false_ne_true)] at hb
    exact ⟨szl,hb rfl⟩
   have na:numB a 6=true:=by simpa using z1
   rw [if_pos na] at hg hb
   refine ⟨b0,6,rfl,⟨hb0.1,hb0.2,fb.1,fb.2⟩,iteB (fun z2=>?_) (fun z2=>?_)⟩
   ·rw [if_neg (by rw [show numB b0 6=false by simpa using z2];exact Bool.false_ne_true)] at hb
    exact ⟨szl,hb rfl⟩
   have nb:numB b0 6=true:=by simpa using z2
   rw [if_pos nb] at hg hb
   refine ⟨sb.ok,s0.ok,iteB (fun z3=>?_) (fun z3=>?_)⟩
   ·rw [if_pos z3] at hb
    exact ⟨szl,hb rfl⟩
   rw [if_neg (by rw [z3];exact Bool.false_ne_true)] at hg hb
   obtain ⟨p,rfl,hp'⟩:=num_back (k:=6) na
   obtain ⟨q,rfl,hq'⟩:=num_back (k:=6) nb
   have i1:(10:Int)^6=1000000:=by decide
   have i2:(10:Int)^10=10000000000:=by decide
   have e1:PySem.intText? (nT p)=some p:=int_reads (by omega)
   have e2:PySem.intText? (nT q)=some q:=int_reads (by omega)
   rw [e1,e2] at hg hb
   simp only [Option.getD_some] at hg hb
   have q0:q≠0:=fun z=>by rw [z] at z3;exact absurd z3 (by decide +kernel)
   have t1:=abs_part (shT_mul p q) (cm_ne q0)
   have t2:=abs_part (shB_mul p q) (cm_ne q0)
   have l1:=int_long (k:=6) (by decide) hp'
   have l2:=int_long (k:=6) (by decide) hq'
   refine ⟨p,e1,Nat.le_trans l1 (by decide),q,e2,Nat.le_trans l2 (by decide),⟨q0,bits_up (bits64 (by omega) (by omega)) (by decide)⟩,?_⟩
   have st:=shpS (x:=shTx (shT p q) (shB p q)) 0 (asc_ok (asc_all.mpr fun c hc=>by have:=shTx_signs hc;omega))
   refine ⟨shT p q,shB p q,rfl,⟨bits_up (bits64 (by omega) (by omega)) (by decide),bits_up (bits64 (by omega) (by omega)) (by decide)⟩,st.ok,sx.ok,iteB (fun z4=>?_) (fun z4=>?_)⟩
   ·rw [if_neg (by simpa using z4)] at hb
    exact ⟨szl,hb rfl⟩
   ·rw [if_pos (by simpa using z4)] at hg
    exact hg _ rfl
def sp_read_tableX (C:Addr) (ds:List PyData) (k:PyData→Prop) (e:Addr→Prop):Prop := ∃ d,ds=[d]∧((isTy "str" d=false∧e C) ∨ ∃ x:Str,d = .str x∧TxtOk x ∧
 ((BadT x∧e C) ∨ ∃ V D0,ReadT x V∧(0<D0∧intBits D0≤4000 ∧ ∀ r ∈ V,∀ z ∈ r,z.2∣D0) ∧ ∀ B,LcmB V B→(B>999999→e C)∧(B≤999999→k (dTab B (V.map (overB B))))))
def sp_readX (C:Addr) (ok:PyData→Bool) (ds:List PyData) (k:PyData→Prop) (e:Addr→Prop):Prop := ∃ d,ds=[d]∧((isTy "str" d=false∧e C) ∨ ∃ x:Str,d = .str x∧TxtOk x ∧
 ((BadT x∧e C) ∨ ∃ V D0,ReadT x V∧(0<D0∧intBits D0≤4000 ∧ ∀ r ∈ V,∀ z ∈ r,z.2∣D0) ∧ ∀ B,LcmB V B→((B>999999∨ok (dTab B (V.map (overB B)))=false)→e C)∧(B≤999999→ok (dTab B (V.map (overB B)))=true→k (dTab B (V.map (overB B))))))
theorem sc_read_table:FnScope ["text","table"] ["text"] (defScope s_read_table):=sc0
theorem ok_read_table (F:Def K mg "read_table" s_read_table ["text"]) (T:Txt K mg cs)
 (O_table_of_shares:Ok P w K mg base "table_of_shares" 2 ["rows"] (PSp K sp_table_of_shares))
 (O_words_in_rows:OkX P w K mg base "words_in_rows" 1 ["text"] (XSp K (sp_words_in_rowsX cs.NoText)))
 (O_read_share:OkX P w K mg base "read_share" 4 ["word"] (XSp K (sp_read_shareX cs.NoText)))
 : OkX P w K mg base "read_table" 5 ["text"] (XSp K (sp_read_tableX cs.NoText)):=by
  refine F.vokX sc_read_table (by rintro ds q e ⟨_,h,_⟩;rw [h];rfl) fun f cdv A outer s H E hr hp ht ds k e h=>?_
  obtain ⟨d,rfl,h⟩:=h
  refine ⟨_,(vssx_cons (vsx_set (i:=1) sc_read_table.nd (vex_fnA O_table_of_shares.c (hr.mono (by decide)) (vax_one (vfx_fz (vfx_comp (caps:=[]) (own:=["row"]) (ix:=[]) (fun _=>passesI_cx) ⟨_,_,_,rfl,rfl,rfl⟩ rfl ⟨rfl,rfl,rfl,rfl,rfl,rfl⟩ (vix_seq (vex_fn hp O_words_in_rows.c (hr.mono (by decide)) (va_cons (ve_var 0) va_nil))) (fun _ _ _ _=>(vg_name (i:=0) (show List.Nodup (["row"]:List Str) by decide))) (fun _ _ _ _ _ _ hB=>(vfx_fz (vfx_comp (caps:=[]) (own:=["word"]) (ix:=[]) hB ⟨_,_,_,rfl,rfl,rfl⟩ rfl ⟨rfl,rfl,rfl,rfl,rfl,rfl⟩ (vix_of (vi_seq (ve_var 0))) (fun _ _ _ _=>(vg_name (i:=0) (show List.Nodup (["word"]:List Str) by decide))) (fun _ _ _ _ _ _ hB1=>(vex_fn (fun σ=>(hB1 σ).at) O_read_share.c (hr.mono (by decide)) (va_cons (ve_var 0) va_nil)))))))))))
   (vssx_cons (vsx_if (vt_cmp o_gt (ve_ix (ve_var 1) ve_int) (ve_globI T.MOST_BOTTOM_)) (vssx_cons (vsx_raise ht rfl T.NoText_ T.NoText_x.exc (va_cons ve_str va_nil))
   (vssx_of vss_nil)) (vssx_of vss_nil))
   (vssx_of (vss_one (vs_ret (ve_var 1)))))),?_⟩
  rcases h with ⟨h1,h⟩|⟨x,rfl,hx,h⟩
  ·exact ⟨_,rfl,.inl ⟨h1,h⟩⟩
  have hbad:BadT x→e cs.NoText:=fun hb=>by
   rcases h with h|⟨V,D0,hV,_⟩
   ·exact h.2
   ·exact absurd hb (read_not_bad hV)
  have hl:=rows_len x
  have hx2:=hx.2
  refine ⟨_,rfl,.inr ⟨x,rfl,by omega,?_⟩⟩
  refine comp_may (RwT readS dS .list) (small1000 (by simp;omega)) (fun e => ∃ s,e=[s]) ⟨_,rfl⟩ ?_ (fun L hL hr=>?_)
  ·rintro d e' q hd ⟨s,rfl⟩ hq
   obtain ⟨ws,hws,rfl⟩:=List.mem_map.mp hd
   have:=hl.2 ws hws
   refine comp_may (WdT readS dS) (small1000 (by simp;omega)) (fun e => ∃ s,e=[s]) ⟨_,rfl⟩ ?_ (fun L hL hr=>?_)
   ·rintro d e' q hd ⟨s,rfl⟩ hq
    obtain ⟨w,hw,rfl⟩:=List.mem_map.mp hd
    exact ⟨w,rfl,word_ok hx hws hw,fun r hr=>hq _ _ ⟨w,r,rfl,hr,rfl⟩ ⟨_,rfl⟩,fun hn=>hbad ⟨ws,hws,w,hw,hn⟩⟩
   ·obtain ⟨rs,h1,rfl⟩:=wdt_row hL hr
    exact hq _ _ ⟨ws,rs,rfl,h1,rfl⟩ ⟨_,rfl⟩
  ·have hr:=rwt_at hr
   rcases h with ⟨⟨r,hr1,w,hw,hn⟩,_⟩|⟨V,D0,hV,⟨d0,zd,dv⟩,h⟩
   ·obtain ⟨i,hi⟩:=List.getElem?_of_mem hr1
    obtain ⟨rs,_,e⟩:=hr i r hi
    exact absurd hn ((read_row e).2.1 w hw)
   obtain ⟨vl,vat⟩:=read_at hV
   refine ⟨_,V,D0,rfl,⟨⟨L,rfl,by rw [hL,vl];simp,fun i y hy=>?_⟩,by omega,fun r hr'=>?_,d0,zd⟩,fun B hB=>?_⟩
   ·have li:i<(rowsW x).length:=by
     have:=(List.getElem?_eq_some_iff.mp hy).1
     rw [hL] at this
     simpa using this
    obtain ⟨rs,e1,e2⟩:=hr i _ (List.getElem?_eq_getElem li)
    obtain ⟨v,v1,v2⟩:=vat i _ (List.getElem?_eq_getElem li)
    rw [e1] at hy
    cases hy
    rw [e2] at v2
    exact ⟨v,v1,by rw [some_map_inj v2];rfl⟩
   ·obtain ⟨i,hi⟩:=List.getElem?_of_mem hr'
    have li:i<(rowsW x).length:=by rw [← vl];exact (List.getElem?_eq_some_iff.mp hi).1
    obtain ⟨v,v1,v2⟩:=vat i _ (List.getElem?_eq_getElem li)
    rw [hi] at v1
    cases v1
    obtain ⟨r1,r2,r3⟩:=read_row v2
    refine ⟨by rw [← r1];have:=hl.2 _ (List.getElem_mem li);omega,fun z hz=>?_⟩
    obtain ⟨w,hw,e⟩:=r3 z hz
    obtain ⟨_,s1,s2,s3⟩:=readS_some e
    exact ⟨s1,bits_up (bits64 (by omega) (by omega)) (by decide),dv _ hr' z hz⟩
   ·exact ⟨_,rfl,iteD (fun z=>⟨szl,(h B hB).1 z⟩) (fun z=>(h B hB).2 (by omega))⟩
theorem sc_read_glass:FnScope ["text","table"] ["text"] (defScope s_read_glass):=sc0
theorem ok_read_glass (F:Def K mg "read_glass" s_read_glass ["text"]) (T:Txt K mg cs)
 (O_is_glass:Ok P w K mg base "is_glass" 5 ["thing"] (PSp K sp_is_glass))
 (O_read_table:OkX P w K mg base "read_table" 5 ["text"] (XSp K (sp_read_tableX cs.NoText)))
 : OkX P w K mg base "read_glass" 6 ["text"] (XSp K (sp_readX cs.NoText (isTable · 2 4))):=by
  refine F.vokX sc_read_glass (by rintro ds q e ⟨_,h,_⟩;rw [h];rfl) fun f cdv A outer s H E hr hp ht ds k e h=>?_
  obtain ⟨d,rfl,h⟩:=h
  refine ⟨_,(vssx_cons (vsx_set (i:=1) sc_read_glass.nd (vex_fn hp O_read_table.c (hr.mono (by decide)) (va_cons (ve_var 0) va_nil)))
   (vssx_cons (vsx_if (vt_not (vt_val (ve_fn O_is_glass.c (hr.mono (by decide)) (va_cons (ve_var 1) va_nil)))) (vssx_cons (vsx_raise ht rfl T.NoText_ T.NoText_x.exc (va_cons ve_str va_nil))
   (vssx_of vss_nil)) (vssx_of vss_nil))
   (vssx_of (vss_one (vs_ret (ve_var 1)))))),?_⟩
  refine ⟨d,rfl,?_⟩
  rcases h with h|⟨x,rfl,hx,h⟩
  ·exact .inl h
  refine .inr ⟨x,rfl,hx,?_⟩
  rcases h with h|⟨V,D0,hV,hd,h⟩
  ·exact .inl h
  refine .inr ⟨V,D0,hV,hd,fun B hB=>⟨fun z=>(h B hB).1 (.inl z),fun z=>?_⟩⟩
  exact iteB (fun y=>⟨szl,(h B hB).1 (.inr (by simpa using y))⟩) (fun y=>(h B hB).2 z (by simpa using y))
def sp_is_dulling:DC
 | [d],q=>q (.bool (isTable d 1 12))
 | _,_=>False
theorem sc_is_dulling:FnScope ["thing"] ["thing"] (defScope s_is_dulling):=sc0
theorem ok_is_dulling (F:Def K mg "is_dulling" s_is_dulling ["thing"]) (T:Txt K mg cs)
 (O_is_table:Ok P w K mg base "is_table" 4 ["thing","fewest","most"] (PSp K sp_is_table))
 : Ok P w K mg base "is_dulling" 5 ["thing"] (PSp K sp_is_dulling):=by
  refine F.vok sc_is_dulling (fun ds q h=>by unfold sp_is_dulling at h;split at h;all_goals first|rfl|exact h.elim) fun f cdv A outer s H E hr ds q h=>?_
  match ds,h with
  | [d],h =>
  refine ⟨_,(vss_one (vs_ret (ve_fn O_is_table.c (hr.mono (by decide)) (va_cons (ve_var 0) (va_cons ve_int (va_cons (ve_globI T.MOST_SIGNS_) va_nil)))))),?_⟩
  exact ⟨⟨by decide,by decide⟩,h⟩
theorem sc_read_dulling:FnScope ["text","table"] ["text"] (defScope s_read_dulling):=sc0
theorem ok_read_dulling (F:Def K mg "read_dulling" s_read_dulling ["text"]) (T:Txt K mg cs)
 (O_read_table:OkX P w K mg base "read_table" 5 ["text"] (XSp K (sp_read_tableX cs.NoText)))
 (O_is_dulling:Ok P w K mg base "is_dulling" 5 ["thing"] (PSp K sp_is_dulling))
 : OkX P w K mg base "read_dulling" 6 ["text"] (XSp K (sp_readX cs.NoText (isTable · 1 12))):=by
  refine F.vokX sc_read_dulling (by rintro ds q e ⟨_,h,_⟩;rw [h];rfl) fun f cdv A outer s H E hr hp ht ds k e h=>?_
  obtain ⟨d,rfl,h⟩:=h
  refine ⟨_,(vssx_cons (vsx_set (i:=1) sc_read_dulling.nd (vex_fn hp O_read_table.c (hr.mono (by decide)) (va_cons (ve_var 0) va_nil)))
   (vssx_cons (vsx_if (vt_not (vt_val (ve_fn O_is_dulling.c (hr.mono (by decide)) (va_cons (ve_var 1) va_nil)))) (vssx_cons (vsx_raise ht rfl T.NoText_ T.NoText_x.exc (va_cons ve_str va_nil))
   (vssx_of vss_nil)) (vssx_of vss_nil))
   (vssx_of (vss_one (vs_ret (ve_var 1)))))),?_⟩
  refine ⟨d,rfl,?_⟩
  rcases h with h|⟨x,rfl,hx,h⟩
  ·exact .inl h
  refine .inr ⟨x,rfl,hx,?_⟩
  rcases h with h|⟨V,D0,hV,hd,h⟩
  ·exact .inl h
  refine .inr ⟨V,D0,hV,hd,fun B hB=>⟨fun z=>(h B hB).1 (.inl z),fun z=>?_⟩⟩
  exact iteB (fun y=>⟨szl,(h B hB).1 (.inr (by simpa using y))⟩) (fun y=>(h B hB).2 z (by simpa using y))
def readP (w:Str):Option Int:=if numB w 7=true then (if (if (PySem.intText? w).getD 0<0 then -((PySem.intText? w).getD 0) else (PySem.intText? w).getD 0)>1000000 then none else some ((PySem.intText? w).getD 0)) else none
def sp_read_payoffX (C:Addr) (ds:List PyData) (k:PyData→Prop) (e:Addr→Prop):Prop := ∃ w:Str,ds=[.str w]∧AscW w∧(∀ p,readP w=some p→k (.int p))∧(readP w=none→e C)
theorem sc_read_payoff:FnScope ["word"] ["word"] (defScope s_read_payoff):=sc0
theorem ok_read_payoff (F:Def K mg "read_payoff" s_read_payoff ["word"]) (T:Txt K mg cs)
 (O_is_number:Ok P w K mg base "is_number" 2 ["word","most"] (PSp K sp_is_number))
 : OkX P w K mg base "read_payoff" 3 ["word"] (XSp K (sp_read_payoffX cs.NoText)):=by
  refine F.vokX sc_read_payoff (by rintro ds q e ⟨_,h,_⟩;rw [h];rfl) fun f cdv A outer s H E hr hp ht ds k e h=>?_
  obtain ⟨w,rfl,hw,hg,hb⟩:=h
  refine ⟨_,(vssx_cons (vsx_if (VW.pt (vw_or (vt_not (vt_val (ve_fn O_is_number.c (hr.mono (by decide)) (va_cons (ve_var 0) (va_cons (ve_globI T.MOST_PAYOFF_FIGURES_) va_nil))))) (vw_or1 (vt_cmp o_gt (ve_callB c_abs T.abs_ L2.boot_abs (va_cons (ve_callTy c_intS T.int_ L2.boot_int (va_cons (ve_var 0) va_nil)) va_nil)) (ve_globI T.MOST_PAYOFF_))))) (vssx_cons (vsx_raise ht rfl T.NoText_ T.NoText_x.exc (va_cons ve_str va_nil))
   (vssx_of vss_nil)) (vssx_of vss_nil))
   (vssx_of (vss_one (vs_ret (ve_callTy c_intS T.int_ L2.boot_int (va_cons (ve_var 0) va_nil)))))),?_⟩
  have fw:=hw.fig
  unfold readP at hg hb
  refine ⟨w,7,rfl,⟨hw.1,hw.2,fw.1,fw.2⟩,iteB (fun z=>?_) (fun z=>?_)⟩
  ·rw [if_neg (by rw [show numB w 7=false by simpa using z];exact Bool.false_ne_true)] at hb
   exact ⟨szl,hb rfl⟩
  have nw:numB w 7=true:=by simpa using z
  rw [if_pos nw] at hg hb
  obtain ⟨p,rfl,hp'⟩:=num_back (k:=7) nw
  have i1:(10:Int)^7=10000000:=by decide
  have i2:(10:Int)^10=10000000000:=by decide
  have e1:PySem.intText? (nT p)=some p:=int_reads (by omega)
  have l1:=int_long (k:=7) (by decide) hp'
  rw [e1] at hg hb
  simp only [Option.getD_some] at hg hb
  refine ⟨p,e1,Nat.le_trans l1 (by decide),iteD (fun z=>?_) (fun z=>?_)⟩
  ·rw [if_pos z] at hb
   exact ⟨szl,hb rfl⟩
  ·rw [if_neg z] at hg
   exact ⟨p,e1,Nat.le_trans l1 (by decide),hg _ rfl⟩
def payOk (Y:List (List Int)):Bool:=decide (2≤Y.length∧Y.length≤4∧(Y.headD []).length≤12)&&Y.all fun r=>r.length==(Y.headD []).length
def sp_read_payoffsX (C:Addr) (ds:List PyData) (k:PyData→Prop) (e:Addr→Prop):Prop := ∃ d,ds=[d]∧((isTy "str" d=false∧e C) ∨ ∃ x:Str,d = .str x∧TxtOk x ∧
 (((∃ r ∈ rowsW x,∃ w ∈ r,readP w=none)∧e C) ∨ ∃ Y:List (List Int),(rowsW x).map (fun r=>r.map readP)=Y.map (fun r=>r.map some)∧(payOk Y=false→e C)∧(payOk Y=true→k (.tuple (Y.map tRow)))))
theorem sc_read_payoffs:FnScope ["text","rows"] ["text"] (defScope s_read_payoffs):=sc0
theorem ok_read_payoffs (F:Def K mg "read_payoffs" s_read_payoffs ["text"]) (T:Txt K mg cs)
 (O_words_in_rows:OkX P w K mg base "words_in_rows" 1 ["text"] (XSp K (sp_words_in_rowsX cs.NoText)))
 (O_read_payoff:OkX P w K mg base "read_payoff" 3 ["word"] (XSp K (sp_read_payoffX cs.NoText)))
 : OkX P w K mg base "read_payoffs" 4 ["text"] (XSp K (sp_read_payoffsX cs.NoText)):=by
  refine F.vokX sc_read_payoffs (by rintro ds q e ⟨_,h,_⟩;rw [h];rfl) fun f cdv A outer s H E hr hp ht ds k e h=>?_
  obtain ⟨d,rfl,h⟩:=h
  refine ⟨_,(vssx_cons (vsx_set (i:=1) sc_read_payoffs.nd (vfx_fz (vfx_comp (caps:=[]) (own:=["row"]) (ix:=[]) (fun _=>passesI_cx) ⟨_,_,_,rfl,rfl,rfl⟩ rfl ⟨rfl,rfl,rfl,rfl,rfl,rfl⟩ (vix_seq (vex_fn hp O_words_in_rows.c (hr.mono (by decide)) (va_cons (ve_var 0) va_nil))) (fun _ _ _ _=>(vg_name (i:=0) (show List.Nodup (["row"]:List Str) by decide))) (fun _ _ _ _ _ _ hB=>(vex_callTy c_tuple T.tuple_ L2.boot_tuple (vax_one (vfx_fz (vfx_comp (caps:=[]) (own:=["word"]) (ix:=[]) hB ⟨_,_,_,rfl,rfl,rfl⟩ rfl ⟨rfl,rfl,rfl,rfl,rfl,rfl⟩ (vix_of (vi_seq (ve_var 0))) (fun _ _ _ _=>(vg_name (i:=0) (show List.Nodup (["word"]:List Str) by decide))) (fun _ _ _ _ _ _ hB1=>(vex_fn (fun σ=>(hB1 σ).at) O_read_payoff.c (hr.mono (by decide)) (va_cons (ve_var 0) va_nil)))))))))))
   (vssx_cons (vsx_if (VW.pt (vw_or (vt_not (vt_chain o_le o_le (ve_globI T.FEWEST_STANDS_) (ve_callB c_len T.len_ L2.boot_len (va_cons (ve_var 1) va_nil)) (ve_globI T.MOST_STANDS_))) (vw_or1 (vt_cmp o_gt (ve_callB c_len T.len_ L2.boot_len (va_cons (ve_ix (ve_var 1) ve_int) va_nil)) (ve_globI T.MOST_ACTS_))))) (vssx_cons (vsx_raise ht rfl T.NoText_ T.NoText_x.exc (va_cons ve_str va_nil))
   (vssx_of vss_nil)) (vssx_of vss_nil))
   (vssx_cons (vsx_if (vt_not (vt_val (ve_callB (c_all rfl) T.all_ L2.boot_all (va_cons (vf_fz (vf_comp (caps:=["rows"]) (own:=["row"]) (ix:=[1]) rfl ⟨rfl,rfl,rfl,rfl,rfl,rfl⟩ (vi_seq (ve_var 1)) (fun _ _ _ _=>(vg_name (i:=1) (show List.Nodup (["rows","row"]:List Str) by decide))) (fun _ _ _ _=>(ve_cmp (o_eq hr.units) (ve_callB c_len T.len_ L2.boot_len (va_cons (ve_var 1) va_nil)) (ve_callB c_len T.len_ L2.boot_len (va_cons (ve_ix (ve_var 0) ve_int) va_nil)))))) va_nil)))) (vssx_cons (vsx_raise ht rfl T.NoText_ T.NoText_x.exc (va_cons ve_str va_nil))
   (vssx_of vss_nil)) (vssx_of vss_nil))
   (vssx_of (vss_one (vs_ret (ve_callTy c_tuple T.tuple_ L2.boot_tuple (va_cons (ve_var 1) va_nil)))))))),?_⟩
  rcases h with ⟨h1,h⟩|⟨x,rfl,hx,h⟩
  ·exact ⟨_,rfl,.inl ⟨h1,h⟩⟩
  have hbad:(∃ r ∈ rowsW x,∃ w ∈ r,readP w=none)→e cs.NoText:=fun xx185=>by
   obtain ⟨r,hr,w,hw,hn⟩:=xx185
   rcases h with h|⟨Y,hY,_⟩
   ·exact h.2
   ·obtain ⟨i,hi⟩:=List.getElem?_of_mem hr
    obtain ⟨v,_,e⟩:=(read_at hY).2 i r hi
    exact absurd hn ((read_row e).2.1 w hw)
  have hl:=rows_len x
  have hx2:=hx.2
  refine ⟨_,rfl,.inr ⟨x,rfl,by omega,?_⟩⟩
  refine comp_may (RwT readP PyData.int .tuple) (small1000 (by simp;omega)) (fun e => ∃ s,e=[s]) ⟨_,rfl⟩ ?_ (fun L hL hr=>?_)
  ·rintro d e' q hd ⟨s,rfl⟩ hq
   obtain ⟨ws,hws,rfl⟩:=List.mem_map.mp hd
   have:=hl.2 ws hws
   refine comp_may (WdT readP PyData.int) (small1000 (by simp;omega)) (fun e => ∃ s,e=[s]) ⟨_,rfl⟩ ?_ (fun L hL hr=>?_)
   ·rintro d e' q hd ⟨s,rfl⟩ hq
    obtain ⟨w,hw,rfl⟩:=List.mem_map.mp hd
    exact ⟨w,rfl,word_ok hx hws hw,fun r hr=>hq _ _ ⟨w,r,rfl,hr,rfl⟩ ⟨_,rfl⟩,fun hn=>hbad ⟨ws,hws,w,hw,hn⟩⟩
   ·obtain ⟨rs,h1,rfl⟩:=wdt_row hL hr
    exact hq _ _ ⟨ws,rs,rfl,h1,rfl⟩ ⟨_,rfl⟩
  have hr:=rwt_at hr
  rcases h with ⟨⟨r,hr1,w,hw,hn⟩,_⟩|⟨Y,hY,hno,hyes⟩
  ·obtain ⟨i,hi⟩:=List.getElem?_of_mem hr1
   obtain ⟨rs,_,e⟩:=hr i r hi
   exact absurd hn ((read_row e).2.1 w hw)
  obtain ⟨yl,yat⟩:=read_at hY
  have eL:L=Y.map tRow:=List.ext_getElem? fun i=>by
   rcases Nat.lt_or_ge i (rowsW x).length with li|li
   ·obtain ⟨rs,e1,e2⟩:=hr i _ (List.getElem?_eq_getElem li)
    obtain ⟨v,v1,v2⟩:=yat i _ (List.getElem?_eq_getElem li)
    rw [e2] at v2
    rw [e1,List.getElem?_map,v1,some_map_inj v2]
    rfl
   ·rw [List.getElem?_eq_none (by rw [hL];simpa using li),List.getElem?_eq_none (by rw [List.length_map,yl];exact li)]
  subst eL
  have lY:(Y.map tRow).length=Y.length:=List.length_map ..
  unfold payOk at hno hyes
  have ne:Y≠[]:=fun z=>by
   rw [z] at yl
   exact (rowsW_ne x).1 (List.length_eq_zero_iff.mp yl.symm)
  cases Y with
  | nil=>exact absurd rfl ne
  | cons r0 Y0 =>
  have le0:((r0.map PyData.int).length:Int)=(r0.length:Nat):=by rw [List.length_map]
  have a0:atI ((r0::Y0).map tRow) 0=some (.tuple (r0.map PyData.int)):=atI_nat (j:=0) rfl
  have l0:((((r0::Y0).map tRow).length:Nat):Int)=((r0::Y0).length:Nat):=by rw [lY]
  have no : ¬ (2≤(r0::Y0).length∧(r0::Y0).length≤4∧r0.length≤12)→e cs.NoText:=fun z=>hno (by
   rw [decide_eq_false (by exact z)];rfl)
  refine iteB (fun c1=>iteB (fun c2=>⟨szl,no fun z=>?_⟩) (fun c2=>?_)) (fun c1=>⟨szl,no fun z=>?_⟩)
  ·rw [Bool.not_eq_true',decide_eq_false_iff_not] at c2
   omega
  ·rw [decide_eq_true_eq] at c1
   rw [Bool.not_eq_false',decide_eq_true_eq] at c2
   refine ⟨.tuple (r0.map PyData.int),a0,iteD (fun z=>⟨szl,no fun y=>by omega⟩) (fun c3=>?_)⟩
   have hy:(r0::Y0).length≤4:=by omega
   refine comp_by ((r0::Y0).map fun r=>PyData.bool (r.length==r0.length)) (by simp) (small1000 (by rw [List.length_map];omega)) (fun e => ∃ s,e=[.val (.list ((r0::Y0).map tRow)),s]) ⟨_,rfl⟩ ?_ ?_
   ·rintro i x ys e hx hys ⟨s,rfl⟩
    rw [List.getElem?_map] at hx
    cases er:(r0::Y0)[i]? with
    | none=>rw [er] at hx;cases hx
    | some r =>
     rw [er] at hx
     cases hx
     refine ⟨.tuple (r0.map PyData.int),a0,rfl,rfl,snoc_take ?_ hys,_,rfl⟩
     rw [List.getElem?_map,er,eqv_int,List.length_map,List.length_map]
     show some (PyData.bool (r.length==r0.length))=some (PyData.bool (decide ((r.length:Int)=(r0.length:Int))))
     congr 2
     rw [Bool.eq_iff_iff]
     simp
     omega
   ·have d1:decide (2≤(r0::Y0).length∧(r0::Y0).length≤4∧r0.length≤12)=true:=decide_eq_true ⟨by omega,by omega,by omega⟩
    refine ⟨(r0::Y0).map fun r=>r.length==r0.length,by rw [List.map_map];rfl,iteB (fun c4=>⟨szl,hno ?_⟩) (fun c4=>hyes ?_)⟩
    ·show (decide (2≤(r0::Y0).length∧(r0::Y0).length≤4∧r0.length≤12)&&_)=false
     rw [d1,Bool.true_and]
     simpa using c4
    ·show (decide (2≤(r0::Y0).length∧(r0::Y0).length≤4∧r0.length≤12)&&_)=true
     rw [d1,Bool.true_and]
     simpa using c4
  ·rw [decide_eq_false_iff_not] at c1
   omega
def NoRd (ok:PyData→Bool) (d:PyData):Prop:=isTy "str" d=false ∨ ∃ x:Str,d = .str x∧TxtOk x∧(BadT x ∨ ∃ V D0,ReadT x V∧D0ok V D0 ∧ ∀ B,LcmB V B→B>999999∨ok (dTab B (V.map (overB B)))=false)
def IsRd (ok:PyData→Bool) (d:PyData):Prop := ∃ x:Str,d = .str x∧TxtOk x ∧ ∃ V D0,ReadT x V∧D0ok V D0 ∧ ∀ B,LcmB V B→B≤999999∧ok (dTab B (V.map (overB B)))=true
def NoPay (d:PyData):Prop:=isTy "str" d=false ∨ ∃ x:Str,d = .str x∧TxtOk x∧((∃ r ∈ rowsW x,∃ w ∈ r,readP w=none) ∨ ∃ Y:List (List Int),(rowsW x).map (fun r=>r.map readP)=Y.map (fun r=>r.map some)∧payOk Y=false)
def IsPay (d:PyData):Prop := ∃ x:Str,d = .str x∧TxtOk x ∧ ∃ Y:List (List Int),(rowsW x).map (fun r=>r.map readP)=Y.map (fun r=>r.map some)∧payOk Y=true
def sp__law_marks (ds:List PyData) (q:PyData→Prop):Prop := ∃ (y:Int) (d:PyData),ds=[.int y,d] ∧
 ((((y=0∧NoRd (isTable · 2 4) d)∨(y=1∧NoRd (isTable · 1 12) d)∨(y=2∧NoPay d))∧q (.str "none")) ∨
  (((y=0∧IsRd (isTable · 2 4) d)∨(y=1∧IsRd (isTable · 1 12) d)∨(y=2∧IsPay d))∧q (.str "read")))
theorem sc__law_marks:FnScope ["_law_way","_law_text_here","_law_caught","error","_law_other"] ["_law_way","_law_text_here"] (defScope s__law_marks):=sc0
theorem ok__law_marks (F:Def K mg "_law_marks" s__law_marks ["_law_way","_law_text_here"]) (T:Txt K mg cs)
 (O_read_glass:OkX P w K mg base "read_glass" 6 ["text"] (XSp K (sp_readX cs.NoText (isTable · 2 4))))
 (O_read_dulling:OkX P w K mg base "read_dulling" 6 ["text"] (XSp K (sp_readX cs.NoText (isTable · 1 12))))
 (O_read_payoffs:OkX P w K mg base "read_payoffs" 4 ["text"] (XSp K (sp_read_payoffsX cs.NoText)))
 : Ok P w K mg base "_law_marks" 7 ["_law_way","_law_text_here"] (PSp K sp__law_marks):=by
  refine F.vok sc__law_marks (by rintro ds q ⟨_,_,h,_⟩;rw [h];rfl) fun f cdv A outer s H E hr ds q h=>?_
  obtain ⟨y,d,rfl,h⟩:=h
  refine ⟨_,(vss_cons (vs_set (i:=2) sc__law_marks.nd ve_non)
   (vss_cons (vs_try (i:=3) (C':=cs.GlassError) rfl rfl sc__law_marks.nd T.GlassError_ T.GlassError_e (fun _ _ _ hp=>(vssx_cons (vsx_if (vt_cmp (o_eq hr.units) (ve_var 0) ve_int) (vssx_cons (vsx_expr (vex_fn hp O_read_glass.c (hr.mono (by decide)) (va_cons (ve_var 1) va_nil)))
   (vssx_of vss_nil)) (vssx_cons (vsx_if (vt_cmp (o_eq hr.units) (ve_var 0) ve_int) (vssx_cons (vsx_expr (vex_fn hp O_read_dulling.c (hr.mono (by decide)) (va_cons (ve_var 1) va_nil)))
   (vssx_of vss_nil)) (vssx_cons (vsx_expr (vex_fn hp O_read_payoffs.c (hr.mono (by decide)) (va_cons (ve_var 1) va_nil)))
   (vssx_of vss_nil)))
   (vssx_of vss_nil)))
   (vssx_of vss_nil))) (fun _ _=>(vss_one (vs_setE (i:=2) 3 sc__law_marks.nd))))
   (vss_cons (vs_if (vt_isNX 2) (vss_one (vs_ret ve_str)) vss_nil)
   (vss_cons (vs_set (i:=4) sc__law_marks.nd (ve_isXs 2 T.isinstance_ (pa_c (pe_glob (v :=.ref cs.Full) rfl T.Full_ rfl) (pa_c (pe_glob (v :=.ref cs.NoBeliefs) rfl T.NoBeliefs_ rfl) (pa_c (pe_glob (v :=.ref cs.NoDulling) rfl T.NoDulling_ rfl) (pa_c (pe_glob (v :=.ref cs.NoFit) rfl T.NoFit_ rfl) (pa_c (pe_glob (v :=.ref cs.NoGlass) rfl T.NoGlass_ rfl) (pa_c (pe_glob (v :=.ref cs.NoName) rfl T.NoName_ rfl) (pa_c (pe_glob (v :=.ref cs.NoRow) rfl T.NoRow_ rfl) (pa_c (pe_glob (v :=.ref cs.NoShare) rfl T.NoShare_ rfl) (pa_c (pe_glob (v :=.ref cs.TooMany) rfl T.TooMany_ rfl) pa_c0))))))))) rfl (szl (h:=rfl))))
   (vss_one (vs_ret (ve_ix (vf_fz (vf_lst (va_cons ve_str (va_cons ve_str va_nil)))) (ve_callTy c_int T.int_ L2.boot_int (va_cons (ve_and (ve_isX 2 T.isinstance_ (pe_glob (v :=.ref cs.NoText) rfl T.NoText_ rfl) rfl) (ve_and (ve_isX 2 T.isinstance_ (pe_bltn (v :=.ty "ValueError") rfl T.ValueError_ L2.boot_ValueError rfl) rfl) (ve_one (ve_not (ve_var 4))))) va_nil))))))))),?_⟩
  rcases h with ⟨h1,h⟩|⟨h1,h⟩
  ·rcases h1 with ⟨rfl,h1⟩|⟨rfl,h1⟩|⟨rfl,h1⟩
   ·refine ⟨rfl,rfl,ite_eq (fun _=>?_) (fun z=>absurd rfl z)⟩
    refine ⟨d,rfl,?_⟩
    rcases h1 with h1|⟨x,rfl,hx,h1|⟨V,D0,hV,hd,h1⟩⟩
    ·refine .inl ⟨h1,?_⟩
     exact ⟨T.u_NoText_GlassError,T.NoText_x,_,T.k_NoText_Full_NoBeliefs_NoDulling_NoFit_NoGlass_NoName_NoRow_NoShare_TooMany,szl,T.NoText_x,_,T.k_NoText_NoText,iteT ⟨T.NoText_x,_,T.k_NoText_ValueError,iteT ⟨_,rfl,h⟩⟩⟩
    ·refine .inr ⟨x,rfl,hx,.inl ⟨h1,?_⟩⟩
     exact ⟨T.u_NoText_GlassError,T.NoText_x,_,T.k_NoText_Full_NoBeliefs_NoDulling_NoFit_NoGlass_NoName_NoRow_NoShare_TooMany,szl,T.NoText_x,_,T.k_NoText_NoText,iteT ⟨T.NoText_x,_,T.k_NoText_ValueError,iteT ⟨_,rfl,h⟩⟩⟩
    ·refine .inr ⟨x,rfl,hx,.inr ⟨V,D0,hV,hd,fun B hB=>⟨fun _=>?_,fun z y=>?_⟩⟩⟩
     ·exact ⟨T.u_NoText_GlassError,T.NoText_x,_,T.k_NoText_Full_NoBeliefs_NoDulling_NoFit_NoGlass_NoName_NoRow_NoShare_TooMany,szl,T.NoText_x,_,T.k_NoText_NoText,iteT ⟨T.NoText_x,_,T.k_NoText_ValueError,iteT ⟨_,rfl,h⟩⟩⟩
     ·rcases h1 B hB with h|h
      ·omega
      ·rw [h] at y;cases y
   ·refine ⟨rfl,rfl,ite_eq (fun z=>absurd z (by decide)) (fun _=>⟨rfl,rfl,ite_eq (fun _=>?_) (fun z=>absurd rfl z)⟩)⟩
    refine ⟨d,rfl,?_⟩
    rcases h1 with h1|⟨x,rfl,hx,h1|⟨V,D0,hV,hd,h1⟩⟩
    ·refine .inl ⟨h1,?_⟩
     exact ⟨T.u_NoText_GlassError,T.NoText_x,_,T.k_NoText_Full_NoBeliefs_NoDulling_NoFit_NoGlass_NoName_NoRow_NoShare_TooMany,szl,T.NoText_x,_,T.k_NoText_NoText,iteT ⟨T.NoText_x,_,T.k_NoText_ValueError,iteT ⟨_,rfl,h⟩⟩⟩
    ·refine .inr ⟨x,rfl,hx,.inl ⟨h1,?_⟩⟩
     exact ⟨T.u_NoText_GlassError,T.NoText_x,_,T.k_NoText_Full_NoBeliefs_NoDulling_NoFit_NoGlass_NoName_NoRow_NoShare_TooMany,szl,T.NoText_x,_,T.k_NoText_NoText,iteT ⟨T.NoText_x,_,T.k_NoText_ValueError,iteT ⟨_,rfl,h⟩⟩⟩
    ·refine .inr ⟨x,rfl,hx,.inr ⟨V,D0,hV,hd,fun B hB=>⟨fun _=>?_,fun z y=>?_⟩⟩⟩
     ·exact ⟨T.u_NoText_GlassError,T.NoText_x,_,T.k_NoText_Full_NoBeliefs_NoDulling_NoFit_NoGlass_NoName_NoRow_NoShare_TooMany,szl,T.NoText_x,_,T.k_NoText_NoText,iteT ⟨T.NoText_x,_,T.k_NoText_ValueError,iteT ⟨_,rfl,h⟩⟩⟩
     ·rcases h1 B hB with h|h
      ·omega
      ·rw [h] at y;cases y
   ·refine ⟨rfl,rfl,ite_eq (fun z=>absurd z (by decide)) (fun _=>⟨rfl,rfl,ite_eq (fun z=>absurd z (by decide)) (fun _=>?_)⟩)⟩
    refine ⟨d,rfl,?_⟩
    rcases h1 with h1|⟨x,rfl,hx,h1|⟨Y,hY,h1⟩⟩
    ·refine .inl ⟨h1,?_⟩
     exact ⟨T.u_NoText_GlassError,T.NoText_x,_,T.k_NoText_Full_NoBeliefs_NoDulling_NoFit_NoGlass_NoName_NoRow_NoShare_TooMany,szl,T.NoText_x,_,T.k_NoText_NoText,iteT ⟨T.NoText_x,_,T.k_NoText_ValueError,iteT ⟨_,rfl,h⟩⟩⟩
    ·refine .inr ⟨x,rfl,hx,.inl ⟨h1,?_⟩⟩
     exact ⟨T.u_NoText_GlassError,T.NoText_x,_,T.k_NoText_Full_NoBeliefs_NoDulling_NoFit_NoGlass_NoName_NoRow_NoShare_TooMany,szl,T.NoText_x,_,T.k_NoText_NoText,iteT ⟨T.NoText_x,_,T.k_NoText_ValueError,iteT ⟨_,rfl,h⟩⟩⟩
    ·refine .inr ⟨x,rfl,hx,.inr ⟨Y,hY,fun _=>?_,fun z=>?_⟩⟩
     ·exact ⟨T.u_NoText_GlassError,T.NoText_x,_,T.k_NoText_Full_NoBeliefs_NoDulling_NoFit_NoGlass_NoName_NoRow_NoShare_TooMany,szl,T.NoText_x,_,T.k_NoText_NoText,iteT ⟨T.NoText_x,_,T.k_NoText_ValueError,iteT ⟨_,rfl,h⟩⟩⟩
     ·rw [h1] at z;cases z
  ·rcases h1 with ⟨rfl,h1⟩|⟨rfl,h1⟩|⟨rfl,h1⟩
   ·refine ⟨rfl,rfl,ite_eq (fun _=>?_) (fun z=>absurd rfl z)⟩
    obtain ⟨x,rfl,hx,V,D0,hV,hd,h1⟩:=h1
    refine ⟨_,rfl,.inr ⟨x,rfl,hx,.inr ⟨V,D0,hV,hd,fun B hB=>⟨fun z=>?_,fun _ _=>h⟩⟩⟩⟩
    obtain ⟨h1,h2⟩:=h1 B hB
    rcases z with z|z
    ·omega
    ·rw [h2] at z;cases z
   ·refine ⟨rfl,rfl,ite_eq (fun z=>absurd z (by decide)) (fun _=>⟨rfl,rfl,ite_eq (fun _=>?_) (fun z=>absurd rfl z)⟩)⟩
    obtain ⟨x,rfl,hx,V,D0,hV,hd,h1⟩:=h1
    refine ⟨_,rfl,.inr ⟨x,rfl,hx,.inr ⟨V,D0,hV,hd,fun B hB=>⟨fun z=>?_,fun _ _=>h⟩⟩⟩⟩
    obtain ⟨h1,h2⟩:=h1 B hB
    rcases z with z|z
    ·omega
    ·rw [h2] at z;cases z
   ·refine ⟨rfl,rfl,ite_eq (fun z=>absurd z (by decide)) (fun _=>⟨rfl,rfl,ite_eq (fun z=>absurd z (by decide)) (fun _=>?_)⟩)⟩
    obtain ⟨x,rfl,hx,Y,hY,h1⟩:=h1
    exact ⟨_,rfl,.inr ⟨x,rfl,hx,.inr ⟨Y,hY,fun z=>(by rw [h1] at z;cases z),fun _=>h⟩⟩⟩
def badPays:List Str:=["1 2 | 1","1 2","1000001 0 | 0 0","0 -1000001 | 0 0","-0 1 | 0 0","01 1 | 0 0","1/2 0 | 0 0",""," | ","1 2|3 4","1  2 | 3 4","1 2 | 3 4 ","0 | 0 | 0 | 0 | 0","+1 | 0","--1 | 0","- | 0","1_0 | 0","1.0 | 0","x | 0","1 | 2\n","10000000 | 0","0 0 0 0 0 0 0 0 0 0 0 0 0 | 0 0 0 0 0 0 0 0 0 0 0 0 0"].map Str.ofString
def sp__law_bad_payoffs (ds:List PyData) (k:PyData→Prop):Prop := ∃ c:Int,ds=[.int c] ∧ ∀ x ∈ badPays,k (.str x)
theorem sc__law_bad_payoffs:FnScope ["_law_cell_here","_law_some"] ["_law_cell_here"] (defScope s__law_bad_payoffs):=sc0
theorem ok__law_bad_payoffs (F:Def K mg "_law_bad_payoffs" s__law_bad_payoffs ["_law_cell_here"]) (T:Txt K mg cs)
 : Ok P w K mg base "_law_bad_payoffs" 1 ["_law_cell_here"] (PSp K sp__law_bad_payoffs):=by
  refine F.vok sc__law_bad_payoffs (by rintro ds q ⟨_,h,_⟩;rw [h];rfl) fun f cdv A outer s H E hr ds k h=>?_
  obtain ⟨c,rfl,h⟩:=h
  refine ⟨_,(vss_cons (vs_set (i:=1) sc__law_bad_payoffs.nd (vf_fz (vf_lst (va_cons ve_str (va_cons ve_str (va_cons ve_str (va_cons ve_str (va_cons ve_str (va_cons ve_str (va_cons ve_str (va_cons ve_str va_nil)))))))))))
   (vss_cons (vs_set (i:=1) sc__law_bad_payoffs.nd (vf_fz (vf_cat (ve_var 1) (vf_fz (vf_lst (va_cons ve_str (va_cons ve_str (va_cons ve_str (va_cons ve_str (va_cons ve_str (va_cons ve_str (va_cons ve_str va_nil))))))))))))
   (vss_cons (vs_set (i:=1) sc__law_bad_payoffs.nd (vf_fz (vf_cat (ve_var 1) (vf_fz (vf_lst (va_cons ve_str (va_cons ve_str (va_cons ve_str (va_cons ve_str (va_cons ve_str (va_cons ve_str va_nil)))))))))))
   (vss_cons (vs_set (i:=1) sc__law_bad_payoffs.nd (vf_fz (vf_cat (ve_var 1) (vf_fz (vf_lst (va_cons ve_str va_nil))))))
   (vss_one (vs_ret (ve_ix (ve_var 1) (ve_op o_mod (ve_var 0) (ve_callB c_len T.len_ L2.boot_len (va_cons (ve_var 1) va_nil)))))))))),?_⟩
  have hz:(badPays.length:Int)=22:=by decide +kernel
  have h0:=Int.emod_nonneg c (show (22:Int)≠0 by decide)
  have h1:=Int.emod_lt_of_pos c (show (0:Int)<22 by decide)
  obtain ⟨j,hj⟩ : ∃ j:Nat,c%22=(j:Int):=⟨(c%22).toNat,by omega⟩
  have jl:j<badPays.length:=by omega
  have z:100≤sizeLine:=sz_line (k:=100) (Nat.le_refl _) (by decide)
  refine ⟨szl,szl,Nat.le_trans (show _≤100 by decide) z,szl,Nat.le_trans (show _≤100 by decide) z,szl,Nat.le_trans (show _≤100 by decide) z,(by decide),?_⟩
  refine ⟨.str badPays[j],?_,h _ (List.getElem_mem jl)⟩
  show atI (badPays.map PyData.str) (c%22)=_
  rw [hj]
  exact atI_nat (by rw [List.getElem?_map,List.getElem?_eq_getElem jl];rfl)
theorem tab_shape {B lo hi:Int}{M:List (List Int)} (h1:1≤lo) (h:isTable (dTab B M) lo hi=true) : ∃ n,Tab B M n∧n≤12:=by
 have h:(makesTable (.int B) (.tuple (M.map tRow)) lo hi&&(isTup (.tuple (M.map tRow))&&(((seqD (.tuple (M.map tRow))).getD []).all isTup&&decide (gTab (rowsI (.tuple (M.map tRow)))=1))))=true:=h
 rw [Bool.and_eq_true] at h
 obtain ⟨b,R,n,e1,hR,hT,_,n2,_⟩:=makesTable_inv h1 h.1
 cases e1
 have:R=M:=by rw [← hR.rowsI,(rowsD_tup M).rowsI]
 subst this
 exact ⟨n,hT,n2⟩
theorem spoilt_no {x:Str}{lo hi:Int} (h1:1≤lo) (h:Spoilt x):NoRd (isTable · lo hi) (.str x):=by
 obtain ⟨hx,h|⟨V,D0,hV,hd,ho⟩⟩:=h
 ·exact .inr ⟨x,rfl,hx,.inl h⟩
 ·refine .inr ⟨x,rfl,hx,.inr ⟨V,D0,hV,hd,fun B hB => .inr ?_⟩⟩
  cases e:isTable (dTab B (V.map (overB B))) lo hi with
  | false=>exact e
  | true =>
   obtain ⟨n,hT,n2⟩:=tab_shape h1 e
   have len : ∀ r ∈ V,r.length=n:=fun r hr=>by
    have:=hT.len _ (List.mem_map.mpr ⟨r,hr,rfl⟩)
    simpa [overB] using this
   rcases ho with ⟨r,hr,s,hs,z⟩|⟨r,hr,z⟩|⟨r,hr,z⟩
   ·exact absurd ((len r hr).trans (len s hs).symm) z
   ·have:=len r hr;omega
   ·exact absurd (hT.sum _ (List.mem_map.mpr ⟨r,hr,rfl⟩)) (z B hB)
def botF (V:List (List (Int×Int))):Int:=V.flatten.foldl (fun B y=>B*y.2/(Int.gcd B y.2:Int)) 1
theorem botL : ∀ {ys xs:List (Int×Int)}{B:Int},LcmL xs B→(∀ y ∈ ys,0<y.2)→LcmL (xs++ys) (ys.foldl (fun B y=>B*y.2/(Int.gcd B y.2:Int)) B)
 | [],xs,B,h,_=>by simpa using h
 | y::ys,xs,B,h,hp=>by
  have:=botL (ys:=ys) (h.snoc (y:=y) (hp y (by simp))) fun z hz=>hp z (List.mem_cons_of_mem _ hz)
  rw [List.append_assoc] at this
  exact this
theorem botF_ok {V:List (List (Int×Int))} (h : ∀ r ∈ V,∀ z ∈ r,0<z.2):LcmB V (botF V):=by
 have:=botL (ys:=V.flatten) LcmL.nil fun y hy=>by
  obtain ⟨r,hr,hz⟩:=List.mem_flatten.mp hy
  exact h r hr y hz
 rw [List.nil_append] at this
 exact this.b
theorem lcm_uniq {V:List (List (Int×Int))}{B C:Int} (h:LcmB V B) (k:LcmB V C):B=C :=
 Int.dvd_antisymm (Int.le_of_lt h.pos) (Int.le_of_lt k.pos) (h.un C k.dv) (k.un B h.dv)
theorem read_pos {x:Str}{V:List (List (Int×Int))} (h:ReadT x V) : ∀ r ∈ V,∀ z ∈ r,0<z.2:=fun r hr z hz=>by
 obtain ⟨i,hi⟩:=List.getElem?_of_mem hr
 obtain ⟨vl,vat⟩:=read_at h
 have li:i<(rowsW x).length:=by rw [← vl];exact (List.getElem?_eq_some_iff.mp hi).1
 obtain ⟨v,v1,v2⟩:=vat i _ (List.getElem?_eq_getElem li)
 rw [hi] at v1
 cases v1
 obtain ⟨w,_,e⟩:=(read_row v2).2.2 z hz
 have:=(readS_some e).2.1.pos
 omega
def valV (x:Str):List (List (Int×Int)):=(rowsW x).map fun r=>r.map fun w=>(readS w).getD (0,1)
def clB (ok:PyData→Bool) (yes:Bool) (x:Str):Bool:=(x.cps.all (· < 128)&&decide (x.length≤800))&&(decide ((rowsW x).map (fun r=>r.map readS)=(valV x).map fun r=>r.map some)&&(decide (botF (valV x)<2^60)&&((decide (botF (valV x)≤999999)&&ok (dTab (botF (valV x)) ((valV x).map (overB (botF (valV x))))))==yes)))
theorem cl_all {ok:PyData→Bool}{yes:Bool}{x:Str} (h:clB ok yes x=true):TxtOk x∧ReadT x (valV x)∧D0ok (valV x) (botF (valV x)) ∧ ∀ B,LcmB (valV x) B→(decide (B≤999999)&&ok (dTab B ((valV x).map (overB B))))=yes:=by
 unfold clB at h
 simp only [Bool.and_eq_true,decide_eq_true_eq,beq_iff_eq] at h
 obtain ⟨⟨h1,h2⟩,h3,h4,h5⟩:=h
 have hb:=botF_ok (read_pos (x:=x) h3)
 have:=hb.pos
 exact ⟨⟨h1,h2⟩,h3,⟨hb.pos,bits_up (bits64 (by omega) (by omega)) (by decide),hb.dv⟩,fun B hB=>by rw [lcm_uniq hB hb];exact h5⟩
theorem cl_no {ok:PyData→Bool}{x:Str} (h:clB ok false x=true):NoRd ok (.str x):=by
 obtain ⟨h1,h2,h3,h4⟩:=cl_all h
 refine .inr ⟨x,rfl,h1,.inr ⟨_,_,h2,h3,fun B hB=>?_⟩⟩
 have:=h4 B hB
 rw [Bool.and_eq_false_iff,decide_eq_false_iff_not] at this
 rcases this with z|z
 ·exact .inl (by omega)
 ·exact .inr z
theorem cl_yes {ok:PyData→Bool}{x:Str} (h:clB ok true x=true):IsRd ok (.str x):=by
 obtain ⟨h1,h2,h3,h4⟩:=cl_all h
 refine ⟨x,rfl,h1,_,_,h2,h3,fun B hB=>?_⟩
 have:=h4 B hB
 rw [Bool.and_eq_true,decide_eq_true_eq] at this
 exact this
def valP (x:Str):List (List Int):=(rowsW x).map fun r=>r.map fun w=>(readP w).getD 0
def cpNo (x:Str):Bool:=(x.cps.all (· < 128)&&decide (x.length≤800))&&((rowsW x).any (fun r=>r.any fun w=>(readP w).isNone)||(decide ((rowsW x).map (fun r=>r.map readP)=(valP x).map fun r=>r.map some) && !payOk (valP x)))
theorem cp_no {x:Str} (h:cpNo x=true):NoPay (.str x):=by
 unfold cpNo at h
 simp only [Bool.and_eq_true,Bool.or_eq_true,decide_eq_true_eq,List.any_eq_true,Option.isNone_iff_eq_none,Bool.not_eq_true'] at h
 obtain ⟨⟨h1,h2⟩,h3|⟨h3,h4⟩⟩:=h
 ·exact .inr ⟨x,rfl,⟨h1,h2⟩,.inl h3⟩
 ·exact .inr ⟨x,rfl,⟨h1,h2⟩,.inr ⟨_,h3,h4⟩⟩
theorem pays_no : ∀ x ∈ badPays,NoPay (.str x):=by
 have h:badPays.all cpNo=true:=by decide +kernel
 exact fun x hx=>cp_no (List.all_eq_true.mp h x hx)
theorem pay_ok:IsPay (.str (Str.ofString "1000000 | -9")):=⟨_,rfl,⟨by decide +kernel,by decide +kernel⟩,valP (Str.ofString "1000000 | -9"),by decide +kernel,by decide +kernel⟩
theorem one_no:NoRd (isTable · 2 4) (.str (Str.ofString "0 1")):=cl_no (by decide +kernel)
theorem one_yes:IsRd (isTable · 1 12) (.str (Str.ofString "0 1")):=cl_yes (by decide +kernel)
theorem far_yes:IsRd (isTable · 2 4) (.str (Str.ofString "1/999 998/999 | 1/1001 1000/1001"))∧IsRd (isTable · 1 12) (.str (Str.ofString "1/999 998/999 | 1/1001 1000/1001")):=⟨cl_yes (by decide +kernel),cl_yes (by decide +kernel)⟩
theorem far_no:NoRd (isTable · 2 4) (.str (Str.ofString "1/1001 1000/1001 | 1/1003 1002/1003"))∧NoRd (isTable · 1 12) (.str (Str.ofString "1/1001 1000/1001 | 1/1003 1002/1003")):=⟨cl_no (by decide +kernel),cl_no (by decide +kernel)⟩
theorem many_no:NoRd (isTable · 1 12) (.str (Txt.join (Str.ofString " | ") (List.replicate 13 (Str.ofString "1")))):=cl_no (by decide +kernel)
theorem rows_no {m:Nat} (h1:5≤m) (h2:m≤12):NoRd (isTable · 2 4) (.str (Txt.join (Str.ofString " | ") (List.replicate m (Str.ofString "0 1")))):=by
 have:m=5∨m=6∨m=7∨m=8∨m=9∨m=10∨m=11∨m=12:=by omega
 rcases this with rfl|rfl|rfl|rfl|rfl|rfl|rfl|rfl <;> exact cl_no (by decide +kernel)
theorem text_yes {b lo hi:Int}{R:List (List Int)}{n:Nat} (hT:Tab b R n) (hb:b≤1000) (n1:1≤n) (n2:n≤12) (r1:2≤R.length) (r2:R.length≤4) (h1:lo≤2) (h2:4≤hi):IsRd (isTable · lo hi) (.str (layT (R.map (rTx b)))):=by
 have rn:R≠[]:=fun z=>by rw [z] at r1;simp at r1
 refine ⟨_,rfl,tab_txt hT hb n2 (by omega),_,_,tab_read hT hb n1 rn,tab_d0 hT hb,fun B hB=>?_⟩
 obtain ⟨e1,e2⟩:=tab_back hT rn hB
 have l:(divT R (gTab R)).length=R.length:=by unfold divT;rw [List.length_map]
 have lo':b/gTab R≤b:=Int.ediv_le_self _ (by have:=hT.pos;omega)
 refine ⟨by omega,?_⟩
 rw [e2,e1]
 exact isTable_low (hT.low rn) (gTab_low (hT.gpos rn)) n1 n2 (by omega) (by omega)
theorem rep_flat (m:Nat) (x:Str):(List.replicate m [PyData.str x]).flatten=(List.replicate m x).map PyData.str:=by
 induction m with
 | zero=>rfl
 | succ m ih=>rw [List.replicate_succ,List.flatten_cons,ih];rfl
theorem sc_law:FnScope ["_law_script","_law_cell_here","_law_bottom","_law_rows","_law_text_here","_law_k","_law_spoiled_here","_law_thing","_law_way","_law_many_rows"] ["_law_script"] (defScope s_law):=sc0
theorem law_fn {f:Addr}{fd:FuncData} (F:Fun K "law" "law" s_law f fd) (T:Txt K mg cs)
 (O__law_cell:Ok P w K mg base "_law_cell" 1 ["_law_script","_law_k"] (PSp K sp__law_cell))
 (O__law_glass:Ok P w K mg base "_law_glass" 2 ["_law_script","_law_at","_law_world","_law_many"] (PSp K sp__law_glassC))
 (O__law_text:Ok P w K mg base "_law_text" 3 ["_law_bottom","_law_rows"] (PSp K sp__law_text))
 (O__law_spoiled:Ok P w K mg base "_law_spoiled" 2 ["_law_text_here","_law_cell_here"] (PSp K sp__law_spoiled))
 (O__law_marks:Ok P w K mg base "_law_marks" 7 ["_law_way","_law_text_here"] (PSp K sp__law_marks))
 (O__law_bad_payoffs:Ok P w K mg base "_law_bad_payoffs" 1 ["_law_cell_here"] (PSp K sp__law_bad_payoffs))
 : FnOk P w K mg base CX0 8 f fd ["_law_script"] (spLaw K):=by
  refine F.vlaw sc_law rfl fun cdv A outer s H E hr ns hlen=>?_
  refine ⟨_,(vss_cons (vs_set (i:=1) sc_law.nd (ve_fn O__law_cell.c (hr.mono (by decide)) (va_cons (ve_var 0) (va_cons ve_int va_nil))))
   (vss_cons (vs_asg (ve_fn O__law_glass.c (hr.mono (by decide)) (va_cons (ve_var 0) (va_cons ve_int (va_cons (ve_op o_add ve_int (ve_op o_mod (ve_var 1) ve_int)) (va_cons (ve_op o_add ve_int (ve_op o_mod (ve_op o_div (ve_var 1) ve_int) ve_int)) va_nil))))) (vg_tup (n:=2) rfl (vgs_cons (vg_name (i:=2) sc_law.nd) (vgs_cons (vg_name (i:=3) sc_law.nd) vgs_nil))))
   (vss_cons (vs_set (i:=4) sc_law.nd (ve_fn O__law_text.c (hr.mono (by decide)) (va_cons (ve_var 2) (va_cons (ve_var 3) va_nil))))
   (vss_cons (vs_for rfl (vi_range1 T.range_ ve_int) (vg_name (i:=5) sc_law.nd) (vss_cons (vs_set (i:=6) sc_law.nd (ve_fn O__law_spoiled.c (hr.mono (by decide)) (va_cons (ve_var 4) (va_cons (ve_fn O__law_cell.c (hr.mono (by decide)) (va_cons (ve_var 0) (va_cons (ve_op o_add ve_int (ve_var 5)) va_nil))) va_nil))))
   (vss_cons (vs_if (vt_cmp (o_ne hr.units) (ve_fn O__law_marks.c (hr.mono (by decide)) (va_cons (ve_op o_mod (ve_var 5) ve_int) (va_cons (ve_var 6) va_nil))) ve_str) (vss_one (vs_ret ve_bl)) vss_nil)
   (vss_one (vs_if (vt_cmp (o_ne hr.units) (ve_fn O__law_marks.c (hr.mono (by decide)) (va_cons ve_int (va_cons (ve_fn O__law_bad_payoffs.c (hr.mono (by decide)) (va_cons (ve_fn O__law_cell.c (hr.mono (by decide)) (va_cons (ve_var 0) (va_cons (ve_op o_add ve_int (ve_var 5)) va_nil))) va_nil)) va_nil))) ve_str) (vss_one (vs_ret ve_bl)) vss_nil)))))
   (vss_cons (vs_set (i:=7) sc_law.nd (ve_ix (vf_fz (vf_lst (va_cons ve_non (va_cons ve_bl (va_cons ve_int (va_cons (vf_fz (vf_lst (va_cons (ve_var 4) va_nil))) (va_cons (ve_tup (va_cons (ve_var 4) va_nil)) (va_cons ve_dct0 (va_cons ve_bl (va_cons (ve_neg ve_int) va_nil)))))))))) (ve_op o_mod (ve_fn O__law_cell.c (hr.mono (by decide)) (va_cons (ve_var 0) (va_cons ve_int va_nil))) ve_int)))
   (vss_cons (vs_for rfl (vi_range1 T.range_ ve_int) (vg_name (i:=8) sc_law.nd) (vss_one (vs_if (vt_cmp (o_ne hr.units) (ve_fn O__law_marks.c (hr.mono (by decide)) (va_cons (ve_var 8) (va_cons (ve_var 7) va_nil))) ve_str) (vss_one (vs_ret ve_bl)) vss_nil)))
   (vss_cons (vs_set (i:=9) sc_law.nd (ve_join ve_str (vf_fz (vf_rep (vf_lst (va_cons ve_str va_nil)) (ve_op o_add ve_int (ve_op o_mod (ve_fn O__law_cell.c (hr.mono (by decide)) (va_cons (ve_var 0) (va_cons ve_int va_nil))) ve_int))))))
   (vss_cons (vs_if (VW.pt (vw_or (vt_cmp (o_ne hr.units) (ve_fn O__law_marks.c (hr.mono (by decide)) (va_cons ve_int (va_cons (ve_var 9) va_nil))) ve_str) (vw_or1 (vt_cmp (o_ne hr.units) (ve_fn O__law_marks.c (hr.mono (by decide)) (va_cons ve_int (va_cons ve_str va_nil))) ve_str)))) (vss_one (vs_ret ve_bl)) vss_nil)
   (vss_cons (vs_if (VW.pt (vw_or (vt_cmp (o_ne hr.units) (ve_fn O__law_marks.c (hr.mono (by decide)) (va_cons ve_int (va_cons ve_str va_nil))) ve_str) (vw_or1 (vt_cmp (o_ne hr.units) (ve_fn O__law_marks.c (hr.mono (by decide)) (va_cons ve_int (va_cons (ve_join ve_str (vf_fz (vf_rep (vf_lst (va_cons ve_str va_nil)) ve_int))) va_nil))) ve_str)))) (vss_one (vs_ret ve_bl)) vss_nil)
   (vss_cons (vs_if (vt_cmp (o_ne hr.units) (ve_fn O__law_marks.c (hr.mono (by decide)) (va_cons ve_int (va_cons ve_str va_nil))) ve_str) (vss_one (vs_ret ve_bl)) vss_nil)
   (vss_cons (vs_for rfl (vi_range1 T.range_ ve_int) (vg_name (i:=8) sc_law.nd) (vss_one (vs_if (vt_cmp (o_ne hr.units) (ve_fn O__law_marks.c (hr.mono (by decide)) (va_cons (ve_var 8) (va_cons ve_str va_nil))) ve_str) (vss_one (vs_ret ve_bl)) vss_nil)))
   (vss_cons (vs_if (vt_cmp (o_ne hr.units) (ve_fn O__law_marks.c (hr.mono (by decide)) (va_cons ve_int (va_cons ve_str va_nil))) ve_str) (vss_one (vs_ret ve_bl)) vss_nil)
   (vss_cons (vs_if (VW.pt (vw_or (vt_cmp (o_ne hr.units) (ve_fn O__law_marks.c (hr.mono (by decide)) (va_cons ve_int (va_cons (ve_var 4) va_nil))) ve_str) (vw_or1 (vt_cmp (o_ne hr.units) (ve_fn O__law_marks.c (hr.mono (by decide)) (va_cons ve_int (va_cons (ve_var 4) va_nil))) ve_str)))) (vss_one (vs_ret ve_bl)) vss_nil)
   (vss_one (vs_ret (ve_cmp (o_eq hr.units) (ve_fn O__law_marks.c (hr.mono (by decide)) (va_cons ve_int (va_cons ve_str va_nil))) ve_str)))))))))))))))),?_⟩
  have shN:=shpS (x := "none") 0 (by decide +kernel)
  have shR':=shpS (x := "read") 0 (by decide +kernel)
  refine ⟨ns,0,rfl,⟨by decide,by decide,hlen⟩,fun z0=>?_⟩
  obtain ⟨n,en⟩:=Int.eq_ofNat_of_zero_le (show 0≤2+z0/3%3 by omega)
  refine ⟨by decide,⟨by decide,by decide⟩,by decide,ns,1,_,_,rfl,⟨hlen,by decide,by decide,by omega,by omega,by omega,by omega⟩,fun b R hT hl hb=>?_⟩
  rw [en,Int.toNat_natCast] at hT
  have b0:=hT.pos
  have zb:intBits b≤300:=bits_up (bits64 (by omega) (by omega)) (by decide)
  have n1:2≤n∧n≤4:=by omega
  have l1:2≤R.length∧R.length≤4:=by omega
  refine ⟨rfl,rfl,b,R,rfl,⟨by omega,zb,by omega,fun r hr=>⟨by rw [hT.len r hr];omega,fun x hx=>?_⟩⟩,?_⟩
  ·have:=tab_cell hT hr hx
   exact bits_up (bits64 (by omega) (by omega)) (by decide)
  refine ⟨⟨by decide,by decide⟩,fun i e => ∃ t5 t6,e=[.val (.list (ns.map .int)),.val (.int z0),.val (.int b),.val (.list (R.map dRow)),.val (.str (layT (R.map (rTx b)))),t5,t6,.non,.non,.non],⟨_,_,rfl⟩,?_,?_⟩
  ·rintro y d e hd ⟨t5,t6,rfl⟩
   obtain ⟨hy,rfl⟩:=rngD_inv hd
   have hy:y<16:=by simpa using hy
   refine ⟨ns,_,rfl,⟨by omega,by omega,hlen⟩,fun c=>?_⟩
   refine ⟨b,R,n,c,rfl,⟨hT,l1.1,l1.2,n1.1,n1.2,hb⟩,fun x hx=>?_⟩
   refine ⟨by decide,_,_,rfl,.inl ⟨?_,shN.ok,shN.ok,iteN shN.refl ?_⟩⟩
   ·rcases (show ((y:Nat):Int)%2=0∨((y:Nat):Int)%2=1 by omega) with z|z
    ·exact .inl ⟨by omega,spoilt_no (by decide) hx⟩
    ·exact .inr (.inl ⟨by omega,spoilt_no (by decide) hx⟩)
   ·refine ⟨ns,_,rfl,⟨by omega,by omega,hlen⟩,fun c2=>⟨c2,rfl,fun x2 hx2=>?_⟩⟩
    exact ⟨2,_,rfl,.inl ⟨.inr (.inr ⟨rfl,pays_no x2 hx2⟩),shN.ok,shN.ok,iteN shN.refl ⟨_,_,rfl⟩⟩⟩
  rintro e ⟨t5,t6,rfl⟩
  refine ⟨szl,szl,szl,ns,30,rfl,⟨by decide,by decide,hlen⟩,fun z3=>⟨by decide,?_⟩⟩
  have thing : ∃ d,atI [PyData.none,.bool true,.int 5,.list [.str (layT (R.map (rTx b)))],.tuple [.str (layT (R.map (rTx b)))],.dict [],.bool false,.int (-1)] (z3%8)=some d∧isTy "str" d=false:=by
   have:z3%8=0∨z3%8=1∨z3%8=2∨z3%8=3∨z3%8=4∨z3%8=5∨z3%8=6∨z3%8=7:=by omega
   rcases this with z|z|z|z|z|z|z|z <;> rw [z] <;> exact ⟨_,rfl,rfl⟩
  obtain ⟨d,e1,e2⟩:=thing
  refine ⟨d,e1,?_⟩
  refine ⟨⟨by decide,by decide⟩,fun i e => ∃ t8,e=[.val (.list (ns.map .int)),.val (.int z0),.val (.int b),.val (.list (R.map dRow)),.val (.str (layT (R.map (rTx b)))),t5,t6,.val d,t8,.non],⟨_,rfl⟩,?_,?_⟩
  ·rintro y d' e hd ⟨t8,rfl⟩
   obtain ⟨hy,rfl⟩:=rngD_inv hd
   have hy:y<3:=by simpa using hy
   refine ⟨_,_,rfl,.inl ⟨?_,shN.ok,shN.ok,iteN shN.refl ⟨_,rfl⟩⟩⟩
   rcases (show y=0∨y=1∨y=2 by omega) with rfl|rfl|rfl
   ·exact .inl ⟨rfl,.inl e2⟩
   ·exact .inr (.inl ⟨rfl,.inl e2⟩)
   ·exact .inr (.inr ⟨rfl,.inl e2⟩)
  rintro e ⟨t8,rfl⟩
  refine ⟨_,rfl,szl,ns,31,rfl,⟨by decide,by decide,hlen⟩,fun z4=>⟨by decide,⟨by omega,by omega,?_⟩,fun r hr=>?_⟩⟩
  ·refine Nat.le_trans (m:=100) ?_ (sz_line (k:=100) (Nat.le_refl _) (by decide))
   show 1*(5+z4%8).toNat≤100
   omega
  obtain ⟨m,em⟩:=Int.eq_ofNat_of_zero_le (show 0≤5+z4%8 by omega)
  rw [em,Int.toNat_natCast,rep_flat] at hr
  subst hr
  refine ⟨_,rfl,join_ok (B:=3) (fun y hy=>?_) ?_,?_⟩
  ·rw [List.eq_of_mem_replicate hy];decide +kernel
  ·rw [List.length_replicate]
   rw [show (Str.ofString " | ").length=3 from rfl]
   omega
  refine ⟨0,_,rfl,.inl ⟨.inl ⟨rfl,rows_no (by omega) (by omega)⟩,shN.ok,shN.ok,iteN shN.refl ⟨0,_,rfl,.inl ⟨.inl ⟨rfl,one_no⟩,shN.ok,shN.ok,iteN shN.refl ?_⟩⟩⟩⟩
  refine ⟨1,_,rfl,.inr ⟨.inr (.inl ⟨rfl,one_yes⟩),shR'.ok,shR'.ok,iteN shR'.refl ?_⟩⟩
  refine ⟨_,rfl,szl,⟨by decide,by decide,Nat.le_trans (m:=100) (by decide) (sz_line (k:=100) (Nat.le_refl _) (by decide))⟩,fun r hr=>?_⟩
  have hr:r=(List.replicate 13 [PyData.str (Str.ofString "1")]).flatten:=hr
  rw [rep_flat] at hr
  subst hr
  refine ⟨_,rfl,by decide +kernel,?_⟩
  refine ⟨1,_,rfl,.inl ⟨.inr (.inl ⟨rfl,many_no⟩),shN.ok,shN.ok,iteN shN.refl ?_⟩⟩
  refine ⟨0,_,rfl,.inr ⟨.inl ⟨rfl,far_yes.1⟩,shR'.ok,shR'.ok,iteN shR'.refl ?_⟩⟩
  refine ⟨⟨by decide,by decide⟩,fun i e => ∃ t8,e=[.val (.list (ns.map .int)),.val (.int z0),.val (.int b),.val (.list (R.map dRow)),.val (.str (layT (R.map (rTx b)))),t5,t6,.val d,t8,.val (.str (Txt.join (Str.ofString " | ") (List.replicate m (Str.ofString "0 1"))))],⟨_,rfl⟩,?_,?_⟩
  ·rintro y d' e hd ⟨t8,rfl⟩
   obtain ⟨hy,rfl⟩:=rngD_inv hd
   have hy:y<2:=by simpa using hy
   refine ⟨_,_,rfl,.inl ⟨?_,shN.ok,shN.ok,iteN shN.refl ⟨_,rfl⟩⟩⟩
   rcases (show y=0∨y=1 by omega) with rfl|rfl
   ·exact .inl ⟨rfl,far_no.1⟩
   ·exact .inr (.inl ⟨rfl,far_no.2⟩)
  rintro e ⟨t8,rfl⟩
  refine ⟨1,_,rfl,.inr ⟨.inr (.inl ⟨rfl,far_yes.2⟩),shR'.ok,shR'.ok,iteN shR'.refl ?_⟩⟩
  refine ⟨0,_,rfl,.inr ⟨.inl ⟨rfl,text_yes hT hb (by omega) (by omega) l1.1 l1.2 (by decide) (by decide)⟩,shR'.ok,shR'.ok,iteN shR'.refl ?_⟩⟩
  refine ⟨1,_,rfl,.inr ⟨.inr (.inl ⟨rfl,text_yes hT hb (by omega) (by omega) l1.1 l1.2 (by decide) (by decide)⟩),shR'.ok,shR'.ok,iteN shR'.refl ?_⟩⟩
  refine ⟨2,_,rfl,.inr ⟨.inr (.inr ⟨rfl,pay_ok⟩),shR'.ok,shR'.ok,?_⟩⟩
  rw [shR'.refl]
  rfl
end
theorem us_s {α:Type}{n:Nat}{us:List α} (h:us.length=n+1) : ∃ a r,us=a::r∧r.length=n:=by
 cases us with
 | nil=>cases h
 | cons a r=>exact ⟨a,r,rfl,Nat.succ.inj h⟩
theorem us0 {α:Type}{us:List α} (h:us.length=0):us=[]:=List.length_eq_zero_iff.mp h
theorem us1 {α:Type}{us:List α} (h:us.length=1) : ∃ a0:α,us=[a0]:=by
 obtain ⟨a0,u0,rfl,h0⟩:=us_s h
 cases u0 with
 | nil=>exact ⟨a0,rfl⟩
 | cons _ _=>cases h0
theorem us2 {α:Type}{us:List α} (h:us.length=2) : ∃ a0 a1:α,us=[a0,a1]:=by
 obtain ⟨a0,u0,rfl,h0⟩:=us_s h
 obtain ⟨a1,u1,rfl,h1⟩:=us_s h0
 cases u1 with
 | nil=>exact ⟨a0,a1,rfl⟩
 | cons _ _=>cases h1
theorem us3 {α:Type}{us:List α} (h:us.length=3) : ∃ a0 a1 a2:α,us=[a0,a1,a2]:=by
 obtain ⟨a0,u0,rfl,h0⟩:=us_s h
 obtain ⟨a1,u1,rfl,h1⟩:=us_s h0
 obtain ⟨a2,u2,rfl,h2⟩:=us_s h1
 cases u2 with
 | nil=>exact ⟨a0,a1,a2,rfl⟩
 | cons _ _=>cases h2
theorem us4 {α:Type}{us:List α} (h:us.length=4) : ∃ a0 a1 a2 a3:α,us=[a0,a1,a2,a3]:=by
 obtain ⟨a0,u0,rfl,h0⟩:=us_s h
 obtain ⟨a1,u1,rfl,h1⟩:=us_s h0
 obtain ⟨a2,u2,rfl,h2⟩:=us_s h1
 obtain ⟨a3,u3,rfl,h3⟩:=us_s h2
 cases u3 with
 | nil=>exact ⟨a0,a1,a2,a3,rfl⟩
 | cons _ _=>cases h3
inductive LK (K:PySem.W.Frag) (x q:Str) (st:Stmt) (f:Addr):Prop
 | mk {oc kV dc pm cd ct:Value}{od an:Option Addr}{sl:Array (Option Value)} (l:K.lookup f=some ⟨oc,od,.func (PySem.W.fnOf x q (defArgs st) (defBody st) (defScope st) .none kV dc pm an cd ct),sl⟩) (c:PySem.W.codeIn K cd q=true) (k:PySem.W.keepIn K (.ref f)=true):LK K x q st f
theorem LK.fn {K:PySem.W.Frag}{x q:Str}{st:Stmt}{f:Addr} (h:LK K x q st f):(∃ fd,Fun K x q st f fd)∧PySem.W.keepIn K (.ref f)=true:=by
 cases h with
 | mk l c k=>exact ⟨⟨_,fun_mk l c k⟩,k⟩
inductive DK (K:PySem.W.Frag) (x:Str) (st:Stmt):Prop
 | mk {f:Addr} (a:PySem.W.nsIn K mainGlobals x=some (some (.ref f))) (l:LK K x x st f):DK K x st
theorem DK.df {K:PySem.W.Frag}{x:Str}{st:Stmt}{ps:List Str}{h:Heap}{mg:Str→Option Value} (d:DK K x st) (X:K.In h) (G:h.Ns mainGlobals mg)
 (hb : ∀ (kV doc pm:Value) (an:Option Addr) (cdv ct:Value) (us:List Value),us.length=ps.length→bindArgs (PySem.W.fnOf x x (defArgs st) (defBody st) (defScope st) .none kV doc pm an cdv ct) ⟨us,[]⟩=pure (ps.zip us):=by (intro _ _ _ _ _ _ us hl;first|(obtain rfl:=us0 hl;rfl)|(obtain ⟨_,rfl⟩:=us1 hl;rfl)|(obtain ⟨_,_,rfl⟩:=us2 hl;rfl)|(obtain ⟨_,_,_,rfl⟩:=us3 hl;rfl)|(obtain ⟨_,_,_,_,rfl⟩:=us4 hl;rfl))):Def K mg x st ps:=by
  cases d with
  | mk a l =>
   obtain ⟨⟨_,F⟩,_⟩:=l.fn
   exact ⟨_,_,F,PySem.W.mg_of X G a,F.binds hb⟩
theorem all_mk {l:PySem.W.OpenLaw}{w:World}{K:PySem.W.Frag}{h:Heap}{mg:Str→Option Value}{fa:Addr} (X:K.In h) (G:h.Ns mainGlobals mg) (hfa:mg "law" = some (.ref fa))
 (l0:DK K "_law_cell" s__law_cell)
 (l1:DK K "_law_drawn" s__law_drawn)
 (l2:DK K "_law_glass" s__law_glass)
 (l3:DK K "_law_divisor" s__law_divisor)
 (l4:DK K "_law_share_text" s__law_share_text)
 (l5:DK K "_law_text" s__law_text)
 (l6:DK K "_law_bad_words" s__law_bad_words)
 (l7:DK K "_law_spoiled" s__law_spoiled)
 (l8:DK K "is_whole" s_is_whole)
 (l9:DK K "makes_row" s_makes_row)
 (l10:DK K "makes_table" s_makes_table)
 (l11:DK K "divisor" s_divisor)
 (l12:DK K "common_divisor" s_common_divisor)
 (l13:DK K "is_table" s_is_table)
 (l14:DK K "is_glass" s_is_glass)
 (l15:DK K "over_bottom" s_over_bottom)
 (l16:DK K "table_of_shares" s_table_of_shares)
 (l17:DK K "words_in_rows" s_words_in_rows)
 (l18:DK K "reduced" s_reduced)
 (l19:DK K "share" s_share)
 (l20:DK K "show_share" s_show_share)
 (l21:DK K "is_made_of" s_is_made_of)
 (l22:DK K "is_number" s_is_number)
 (l23:DK K "read_share" s_read_share)
 (l24:DK K "read_table" s_read_table)
 (l25:DK K "read_glass" s_read_glass)
 (l26:DK K "is_dulling" s_is_dulling)
 (l27:DK K "read_dulling" s_read_dulling)
 (l28:DK K "read_payoff" s_read_payoff)
 (l29:DK K "read_payoffs" s_read_payoffs)
 (l30:DK K "_law_marks" s__law_marks)
 (l31:DK K "_law_bad_payoffs" s__law_bad_payoffs)
 {f32:Addr}{od32 an32:Option Addr}{sl32:Array (Option Value)}{oc32 kV32 dc32 pm32 cd32 ct32:Value}
 (a32:PySem.W.nsIn K mainGlobals "law" = some (some (.ref f32))) (l32:K.lookup f32=some ⟨oc32,od32,.func (PySem.W.fnOf "law" "law" (defArgs s_law) (defBody s_law) (defScope s_law) .none kV32 dc32 pm32 an32 cd32 ct32),sl32⟩) (c32:PySem.W.codeIn K cd32 "law" = true) (k32:PySem.W.keepIn K (.ref f32)=true)
 (z_ValueError:PySem.W.nsIn K mainGlobals "ValueError" = some none)
 (z_abs:PySem.W.nsIn K mainGlobals "abs" = some none)
 (z_all:PySem.W.nsIn K mainGlobals "all" = some none)
 (z_bool:PySem.W.nsIn K mainGlobals "bool" = some none)
 (z_int:PySem.W.nsIn K mainGlobals "int" = some none)
 (z_isinstance:PySem.W.nsIn K mainGlobals "isinstance" = some none)
 (z_len:PySem.W.nsIn K mainGlobals "len" = some none)
 (z_list:PySem.W.nsIn K mainGlobals "list" = some none)
 (z_range:PySem.W.nsIn K mainGlobals "range" = some none)
 (z_sorted:PySem.W.nsIn K mainGlobals "sorted" = some none)
 (z_str:PySem.W.nsIn K mainGlobals "str" = some none)
 (z_sum:PySem.W.nsIn K mainGlobals "sum" = some none)
 (z_tuple:PySem.W.nsIn K mainGlobals "tuple" = some none)
 {t_FEWEST_STANDS:Tok} (y_FEWEST_STANDS:PySem.W.nsIn K mainGlobals "FEWEST_STANDS" = some (some (.int 2 t_FEWEST_STANDS)))
 {t_FIGURES:Tok} (y_FIGURES:PySem.W.nsIn K mainGlobals "FIGURES" = some (some (.str "0123456789" t_FIGURES)))
 {t_MOST_ACTS:Tok} (y_MOST_ACTS:PySem.W.nsIn K mainGlobals "MOST_ACTS" = some (some (.int 12 t_MOST_ACTS)))
 {t_MOST_BOTTOM:Tok} (y_MOST_BOTTOM:PySem.W.nsIn K mainGlobals "MOST_BOTTOM" = some (some (.int 999999 t_MOST_BOTTOM)))
 {t_MOST_FIGURES:Tok} (y_MOST_FIGURES:PySem.W.nsIn K mainGlobals "MOST_FIGURES" = some (some (.int 6 t_MOST_FIGURES)))
 {t_MOST_PAYOFF:Tok} (y_MOST_PAYOFF:PySem.W.nsIn K mainGlobals "MOST_PAYOFF" = some (some (.int 1000000 t_MOST_PAYOFF)))
 {t_MOST_PAYOFF_FIGURES:Tok} (y_MOST_PAYOFF_FIGURES:PySem.W.nsIn K mainGlobals "MOST_PAYOFF_FIGURES" = some (some (.int 7 t_MOST_PAYOFF_FIGURES)))
 {t_MOST_SIGNS:Tok} (y_MOST_SIGNS:PySem.W.nsIn K mainGlobals "MOST_SIGNS" = some (some (.int 12 t_MOST_SIGNS)))
 {t_MOST_STANDS:Tok} (y_MOST_STANDS:PySem.W.nsIn K mainGlobals "MOST_STANDS" = some (some (.int 4 t_MOST_STANDS)))
 {c_Full:Addr} (b_Full:PySem.W.nsIn K mainGlobals "Full" = some (some (.ref c_Full)))
 {c_GlassError:Addr} (b_GlassError:PySem.W.nsIn K mainGlobals "GlassError" = some (some (.ref c_GlassError)))
 {c_NoBeliefs:Addr} (b_NoBeliefs:PySem.W.nsIn K mainGlobals "NoBeliefs" = some (some (.ref c_NoBeliefs)))
 {c_NoDulling:Addr} (b_NoDulling:PySem.W.nsIn K mainGlobals "NoDulling" = some (some (.ref c_NoDulling)))
 {c_NoFit:Addr} (b_NoFit:PySem.W.nsIn K mainGlobals "NoFit" = some (some (.ref c_NoFit)))
 {c_NoGlass:Addr} (b_NoGlass:PySem.W.nsIn K mainGlobals "NoGlass" = some (some (.ref c_NoGlass)))
 {c_NoName:Addr} (b_NoName:PySem.W.nsIn K mainGlobals "NoName" = some (some (.ref c_NoName)))
 {c_NoRow:Addr} (b_NoRow:PySem.W.nsIn K mainGlobals "NoRow" = some (some (.ref c_NoRow)))
 {c_NoShare:Addr} (b_NoShare:PySem.W.nsIn K mainGlobals "NoShare" = some (some (.ref c_NoShare)))
 {c_NoText:Addr} (b_NoText:PySem.W.nsIn K mainGlobals "NoText" = some (some (.ref c_NoText)))
 {c_TooMany:Addr} (b_TooMany:PySem.W.nsIn K mainGlobals "TooMany" = some (some (.ref c_TooMany)))
 (f_GlassError_e:PySem.W.excIn K c_GlassError bmVE "ValueError.__new__" = true)
 (f_NoText_e:PySem.W.excIn K c_NoText bmVE "ValueError.__new__" = true)
 (f_NoText_x_ga:PySem.W.findIn K (.ref c_NoText) "__getattribute__" = some (some (.builtin "BaseException.__getattribute__")))
 (f_NoText_x_na:PySem.W.findIn K (.ref c_NoText) "__getattr__" = some none)
 (f_NoText_x_cl:PySem.W.findIn K (.ref c_NoText) "__class__" = some (some (.builtin "object.__class__")))
 (f_u_NoText_GlassError:(mroIn K c_NoText).contains (.ref c_GlassError)=true)
 (f_k_NoText_Full_NoBeliefs_NoDulling_NoFit_NoGlass_NoName_NoRow_NoShare_TooMany:PySem.W.kitAny K (.ref c_NoText) [.ref c_Full,.ref c_NoBeliefs,.ref c_NoDulling,.ref c_NoFit,.ref c_NoGlass,.ref c_NoName,.ref c_NoRow,.ref c_NoShare,.ref c_TooMany]=some false)
 (f_k_NoText_ValueError:PySem.W.kitOne K (.ref c_NoText) (.type "ValueError")=some true)
 (f_k_NoText_NoText:PySem.W.kitOne K (.ref c_NoText) (.ref c_NoText)=some true)
 : ∃ fd:FuncData,(∀ (s:Shared) (v:Value),BindsTo s fd ⟨[v],[]⟩ [("_law_script",v)]) ∧ ∀ base:Heap,K.In base→base.Ns mainGlobals mg→FnOk l.prog w K mg base CX0 8 fa fd ["_law_script"] (spLaw K):=by
  have e:=hfa.symm.trans (PySem.W.mg_of X G a32)
  cases e
  have T:Txt K mg ⟨c_Full,c_GlassError,c_NoBeliefs,c_NoDulling,c_NoFit,c_NoGlass,c_NoName,c_NoRow,c_NoShare,c_NoText,c_TooMany⟩:=⟨PySem.W.mg_of X G b_Full,PySem.W.mg_of X G b_GlassError,PySem.W.mg_of X G b_NoBeliefs,PySem.W.mg_of X G b_NoDulling,PySem.W.mg_of X G b_NoFit,PySem.W.mg_of X G b_NoGlass,PySem.W.mg_of X G b_NoName,PySem.W.mg_of X G b_NoRow,PySem.W.mg_of X G b_NoShare,PySem.W.mg_of X G b_NoText,PySem.W.mg_of X G b_TooMany,f_GlassError_e,f_NoText_e,⟨f_NoText_e,f_NoText_x_ga,f_NoText_x_na,f_NoText_x_cl⟩,⟨f_NoText_e,f_u_NoText_GlassError⟩,f_k_NoText_Full_NoBeliefs_NoDulling_NoFit_NoGlass_NoName_NoRow_NoShare_TooMany,f_k_NoText_ValueError,f_k_NoText_NoText,PySem.W.mg_none_of X G z_ValueError,PySem.W.mg_none_of X G z_abs,PySem.W.mg_none_of X G z_all,PySem.W.mg_none_of X G z_bool,PySem.W.mg_none_of X G z_int,PySem.W.mg_none_of X G z_isinstance,PySem.W.mg_none_of X G z_len,PySem.W.mg_none_of X G z_list,PySem.W.mg_none_of X G z_range,PySem.W.mg_none_of X G z_sorted,PySem.W.mg_none_of X G z_str,PySem.W.mg_none_of X G z_sum,PySem.W.mg_none_of X G z_tuple,⟨_,PySem.W.mg_of X G y_FEWEST_STANDS⟩,⟨_,PySem.W.mg_of X G y_FIGURES⟩,⟨_,PySem.W.mg_of X G y_MOST_ACTS⟩,⟨_,PySem.W.mg_of X G y_MOST_BOTTOM⟩,⟨_,PySem.W.mg_of X G y_MOST_FIGURES⟩,⟨_,PySem.W.mg_of X G y_MOST_PAYOFF⟩,⟨_,PySem.W.mg_of X G y_MOST_PAYOFF_FIGURES⟩,⟨_,PySem.W.mg_of X G y_MOST_SIGNS⟩,⟨_,PySem.W.mg_of X G y_MOST_STANDS⟩⟩
  have D0:Def K mg "_law_cell" s__law_cell ["_law_script","_law_k"]:=l0.df X G
  have D1:Def K mg "_law_drawn" s__law_drawn ["_law_cell_here","_law_base","_law_many"]:=l1.df X G
  have D2:Def K mg "_law_glass" s__law_glass ["_law_script","_law_at","_law_world","_law_many"]:=l2.df X G
  have D3:Def K mg "_law_divisor" s__law_divisor ["_law_one","_law_other"]:=l3.df X G
  have D4:Def K mg "_law_share_text" s__law_share_text ["_law_top","_law_bottom"]:=l4.df X G
  have D5:Def K mg "_law_text" s__law_text ["_law_bottom","_law_rows"]:=l5.df X G
  have D6:Def K mg "_law_bad_words" s__law_bad_words []:=l6.df X G
  have D7:Def K mg "_law_spoiled" s__law_spoiled ["_law_text_here","_law_cell_here"]:=l7.df X G
  have D8:Def K mg "is_whole" s_is_whole ["thing"]:=l8.df X G
  have D9:Def K mg "makes_row" s_makes_row ["row","bottom"]:=l9.df X G
  have D10:Def K mg "makes_table" s_makes_table ["bottom","rows","fewest","most"]:=l10.df X G
  have D11:Def K mg "divisor" s_divisor ["one","other"]:=l11.df X G
  have D12:Def K mg "common_divisor" s_common_divisor ["rows"]:=l12.df X G
  have D13:Def K mg "is_table" s_is_table ["thing","fewest","most"]:=l13.df X G
  have D14:Def K mg "is_glass" s_is_glass ["thing"]:=l14.df X G
  have D15:Def K mg "over_bottom" s_over_bottom ["row","bottom"]:=l15.df X G
  have D16:Def K mg "table_of_shares" s_table_of_shares ["rows"]:=l16.df X G
  have D17:Def K mg "words_in_rows" s_words_in_rows ["text"]:=l17.df X G
  have D18:Def K mg "reduced" s_reduced ["top","bottom"]:=l18.df X G
  have D19:Def K mg "share" s_share ["top","bottom"]:=l19.df X G
  have D20:Def K mg "show_share" s_show_share ["one"]:=l20.df X G
  have D21:Def K mg "is_made_of" s_is_made_of ["word","letters"]:=l21.df X G
  have D22:Def K mg "is_number" s_is_number ["word","most"]:=l22.df X G
  have D23:Def K mg "read_share" s_read_share ["word"]:=l23.df X G
  have D24:Def K mg "read_table" s_read_table ["text"]:=l24.df X G
  have D25:Def K mg "read_glass" s_read_glass ["text"]:=l25.df X G
  have D26:Def K mg "is_dulling" s_is_dulling ["thing"]:=l26.df X G
  have D27:Def K mg "read_dulling" s_read_dulling ["text"]:=l27.df X G
  have D28:Def K mg "read_payoff" s_read_payoff ["word"]:=l28.df X G
  have D29:Def K mg "read_payoffs" s_read_payoffs ["text"]:=l29.df X G
  have D30:Def K mg "_law_marks" s__law_marks ["_law_way","_law_text_here"]:=l30.df X G
  have D31:Def K mg "_law_bad_payoffs" s__law_bad_payoffs ["_law_cell_here"]:=l31.df X G
  have F32:=fun_mk (st:=s_law) l32 c32 k32
  refine ⟨PySem.W.fnOf "law" "law" (defArgs s_law) (defBody s_law) (defScope s_law) .none kV32 dc32 pm32 an32 cd32 ct32,fun s v => .of_eq rfl,fun base KB _=>?_⟩
  have O0:=ok__law_cell (P:=l.prog) (w:=w) (base:=base) D0 T
  have O1:=ok__law_drawn (P:=l.prog) (w:=w) (base:=base) D1 T
  have O2:=ok__law_glass D2 T O0 O1
  have O3:=ok__law_divisor (P:=l.prog) (w:=w) (base:=base) D3 T
  have O4:=ok__law_share_text D4 T O3
  have O5:=ok__law_text D5 T O4
  have O6:=ok__law_bad_words (P:=l.prog) (w:=w) (base:=base) D6 T
  have O7:=ok__law_spoiled D7 T O6
  have O8:=ok_is_whole (P:=l.prog) (w:=w) (base:=base) D8 T
  have O9:=ok_makes_row D9 T O8
  have O10:=ok_makes_table D10 T O8 O9
  have O11:=ok_divisor (P:=l.prog) (w:=w) (base:=base) D11 T
  have O12:=ok_common_divisor D12 T O11
  have O13:=ok_is_table D13 T O10 O12
  have O14:=ok_is_glass D14 T O13
  have O15:=ok_over_bottom (P:=l.prog) (w:=w) (base:=base) D15 T
  have O16:=ok_table_of_shares D16 T O11 O15
  have O17:=ok_words_in_rows (P:=l.prog) (w:=w) (base:=base) D17 T
  have O18:=ok_reduced D18 T O11
  have O19:=ok_share D19 T O8 O18
  have O20:=ok_show_share (P:=l.prog) (w:=w) (base:=base) D20 T
  have O21:=ok_is_made_of (P:=l.prog) (w:=w) (base:=base) D21 T
  have O22:=ok_is_number D22 T O21
  have O23:=ok_read_share D23 T O19 O20 O22
  have O24:=ok_read_table D24 T O16 O17 O23
  have O25:=ok_read_glass D25 T O14 O24
  have O26:=ok_is_dulling D26 T O13
  have O27:=ok_read_dulling D27 T O24 O26
  have O28:=ok_read_payoff D28 T O22
  have O29:=ok_read_payoffs D29 T O17 O28
  have O30:=ok__law_marks D30 T O25 O27 O29
  have O31:=ok__law_bad_payoffs (P:=l.prog) (w:=w) (base:=base) D31 T
  exact law_fn (P:=l.prog) (w:=w) (K:=K) (mg:=mg) (base:=base) F32 T O0 O2 O5 O7 O30 O31
theorem walk {l:PySem.W.OpenLaw}{q:Program}{loose:List Str}{XP:(Str→Option Value)→Heap→Prop}{YP:World→Heap→Prop}{d:DefRec}{K:Params→PySem.W.Frag} (hn:l.most=some 63) (hdf:d.params.defaults=[])
 (hY : ∀ (w:World) (h:Heap),YP w h→(K w.params).In h)
 (F : ∀ (w:World) (mg:Str→Option Value) (fa:Addr) (h:Heap),(K w.params).In h→h.Ns mainGlobals mg→mg d.name=some (.ref fa) →
 ∃ fd:FuncData,(∀ (s:Shared) (u:Value),BindsTo s fd ⟨[u],[]⟩ [("_law_script",u)]) ∧ ∀ base:Heap,(K w.params).In base→base.Ns mainGlobals mg→FnOk l.prog w (K w.params) mg base CX0 8 fa fd ["_law_script"] (spLaw (K w.params))) :
 PySem.W.WalkO q loose XP YP l.row.toRowW d [] (fun f vs=>PySem.call f vs) :=
  L2.walk_of (n:=63) (k:=8) (x := "_law_script") (CX:=fun _=>CX0) (sp:=fun w=>spLaw (K w.params)) hn (by decide) hdf ⟨rfl,by decide,by decide⟩ hY F (fun _ _ a ns hl _ hS=>⟨a,ns,rfl,hS,hl,fun _=>rfl⟩) fun _ _ _ _ _ z=>z
noncomputable section
open PySem PySem.W PySem.Calls PyProof.Rows
abbrev N0:=BT.node
abbrev nl0:=BT.nil
def en0 (P:Params) (x:Str) (t:Nat) (v:Value):DictEntry:=⟨PyData.keyHash P x,.str x t,v⟩
def tu0 (vs:List Value):Obj:=⟨.type "tuple",none,.seq vs.toArray 0,#[]⟩
def em0:Obj:=⟨.none,none,.fields #[],#[]⟩
def fo0 (n q:Str) (s:Stmt) (pm:Value) (c:Nat):Obj:=⟨.type "function",none,.func (PySem.W.fnOf n q (L2.defArgs s) (L2.defBody s) (L2.defScope s) .none .none .none pm none (.ref c) .none),#[]⟩
def pr0 (n q:Str) (s:Stmt):Obj:=⟨.none,none,.func ⟨n,q,L2.defArgs s,.stmts (L2.defBody s),L2.defScope s,0,[],.none,.none,.none,.none,none,.none,.none,0⟩,#[]⟩
def co0 (n q:Str) (t:Nat) (l ac fl:Int) (a:Nat) (b:Bool) (x y z:Value) (u:Nat):Obj:=⟨.type "code",none,.fields #[.str n t,.str q (t+1),.str "/claim/cut.py" (t+2),.int l 0,.int ac 0,.int 0 0,.int 0 0,.int fl 0,.ref a,.bool b,.int 181 0,.ref (a+1),.none,x,y,z,.int u 0,.int l 0,.str "/claim/cut.py" (u+1)],#[]⟩
def co1 (n:Str) (t:Nat) (l ac fl:Int) (a:Nat) (b:Bool) (u:Nat):Obj:=co0 n n t l ac fl a b (.ref (a+2)) (.ref (a+3)) (.ref (a+4)) u
def fo1 (n:Str) (s:Nat) (pm:Value) (c:Nat):Obj:=fo0 n n (top s) pm c
lay_quick PySem.Challenge.pw_dullglass_k52_texts_of_no_glasses
def env0:Env:={ scope:=PySem.Challenge.pw_dullglass_k52_texts_of_no_glasses.main.scope,locals:=mainNs,globals:=mainNs,cells:=[],code:=(.ref 13),frame:=some 14 }
def cE0:Code :=.body (behindTheImports PySem.Challenge.pw_dullglass_k52_texts_of_no_glasses) env0
def ls0:List Str:=[Str.ofString "GlassError",Str.ofString "NoShare",Str.ofString "NoGlass",Str.ofString "NoDulling",Str.ofString "NoFit",Str.ofString "NoBeliefs",Str.ofString "TooMany",Str.ofString "NoText",Str.ofString "NoRow",Str.ofString "NoName",Str.ofString "Full",Str.ofString "is_whole",Str.ofString "divisor",Str.ofString "share",Str.ofString "reduced",Str.ofString "FEWEST_STANDS",Str.ofString "MOST_STANDS",Str.ofString "MOST_SIGNS",Str.ofString "is_glass",Str.ofString "is_dulling",Str.ofString "makes_table",Str.ofString "makes_row",Str.ofString "is_table",Str.ofString "common_divisor",Str.ofString "table_of_shares",Str.ofString "over_bottom",Str.ofString "FIGURES",Str.ofString "MOST_FIGURES",Str.ofString "MOST_BOTTOM",Str.ofString "MOST_PAYOFF",Str.ofString "MOST_PAYOFF_FIGURES",Str.ofString "MOST_ACTS",Str.ofString "show_share",Str.ofString "read_glass",Str.ofString "read_dulling",Str.ofString "read_table",Str.ofString "words_in_rows",Str.ofString "read_share",Str.ofString "is_number",Str.ofString "is_made_of",Str.ofString "read_payoffs",Str.ofString "read_payoff",Str.ofString "_law_cell",Str.ofString "_law_drawn",Str.ofString "_law_glass",Str.ofString "_law_divisor",Str.ofString "_law_share_text",Str.ofString "_law_text",Str.ofString "_law_bad_words",Str.ofString "_law_spoiled",Str.ofString "_law_marks",Str.ofString "_law_bad_payoffs"]
def lf0:Life:=⟨[],[],[],0,[],[],false,#[],[],0,false,false,false,0,[2000,10,10],false,0,true,[],[],0,false⟩
def o13a:Obj:=co0 "<module>" "<module>" 182 1 0 0 11 false .none .none .none 185
def o14a:Obj:=⟨(.type "frame"),none,.plain,#[(some (.ref 13)),(some (.ref 3)),(some (.ref 3)),none,(some (.str "__main__" 164)),none,(some (.ref 0))]⟩
def o3 (P:Params):Obj:=⟨(.type "dict"),none,(.dict #[en0 P "__name__" 165 (.str "law_dullglass_k52_texts_of_no_glasses" 554),en0 P "__doc__" 166 .none,en0 P "__package__" 167 .none,en0 P "__loader__" 168 (.builtin "__main__.__loader__#opaque"),en0 P "__spec__" 169 .none,en0 P "__annotations__" 170 (.ref 6),en0 P "__builtins__" 171 (.ref 4),en0 P "__file__" 173 (.str "/claim/cut.py" 172),en0 P "__cached__" 174 .none,en0 P "GlassError" 206 (.ref 24),en0 P "NoShare" 222 (.ref 37),en0 P "NoGlass" 238 (.ref 49),en0 P "NoDulling" 254 (.ref 61),en0 P "NoFit" 270 (.ref 73),en0 P "NoBeliefs" 286 (.ref 85),en0 P "TooMany" 302 (.ref 97),en0 P "NoText" 318 (.ref 109),en0 P "NoRow" 334 (.ref 121),en0 P "NoName" 350 (.ref 133),en0 P "Full" 366 (.ref 145),en0 P "is_whole" 375 (.ref 154),en0 P "divisor" 384 (.ref 161),en0 P "share" 392 (.ref 168),en0 P "reduced" 401 (.ref 175),en0 P "FEWEST_STANDS" 405 (.int (2) 404),en0 P "MOST_STANDS" 407 (.int (4) 406),en0 P "MOST_SIGNS" 409 (.int (12) 408),en0 P "is_glass" 416 (.ref 182),en0 P "is_dulling" 423 (.ref 189),en0 P "makes_table" 429 (.ref 194),en0 P "makes_row" 435 (.ref 199),en0 P "is_table" 441 (.ref 204),en0 P "common_divisor" 451 (.ref 211),en0 P "table_of_shares" 457 (.ref 216),en0 P "over_bottom" 463 (.ref 221),en0 P "FIGURES" 467 (.str "0123456789" 466),en0 P "MOST_FIGURES" 469 (.int (6) 468),en0 P "MOST_BOTTOM" 471 (.int (999999) 470),en0 P "MOST_PAYOFF" 473 (.int (1000000) 472),en0 P "MOST_PAYOFF_FIGURES" 475 (.int (7) 474),en0 P "MOST_ACTS" 477 (.int (12) 476),en0 P "show_share" 486 (.ref 228),en0 P "read_glass" 494 (.ref 235),en0 P "read_dulling" 502 (.ref 242),en0 P "read_table" 508 (.ref 247),en0 P "words_in_rows" 514 (.ref 252),en0 P "read_share" 525 (.ref 259),en0 P "is_number" 534 (.ref 266),en0 P "is_made_of" 540 (.ref 271),en0 P "read_payoffs" 546 (.ref 276),en0 P "read_payoff" 553 (.ref 283),en0 P "_law_cell" 563 (.ref 290),en0 P "_law_drawn" 576 (.ref 297),en0 P "_law_glass" 582 (.ref 302),en0 P "_law_divisor" 590 (.ref 309),en0 P "_law_share_text" 599 (.ref 316),en0 P "_law_text" 605 (.ref 321),en0 P "_law_bad_words" 612 (.ref 328),en0 P "_law_spoiled" 618 (.ref 333),en0 P "_law_marks" 629 (.ref 340),en0 P "_law_bad_payoffs" 637 (.ref 347),en0 P "law" 653 (.ref 354)] 62),#[]⟩
def o12:Obj:=⟨.none,none,(.fields #[(.int (2) 0),(.int (0) 0),(.ref 20),(.int (4) 0),(.int (0) 0),(.ref 33),(.int (6) 0),(.int (0) 0),(.ref 45),(.int (8) 0),(.int (0) 0),(.ref 57),(.int (10) 0),(.int (0) 0),(.ref 69),(.int (12) 0),(.int (0) 0),(.ref 81),(.int (14) 0),(.int (0) 0),(.ref 93),(.int (16) 0),(.int (0) 0),(.ref 105),(.int (18) 0),(.int (0) 0),(.ref 117),(.int (20) 0),(.int (0) 0),(.ref 129),(.int (22) 0),(.int (0) 0),(.ref 141),(.int (25) 0),(.int (0) 0),(.ref 153),(.int (27) 0),(.int (0) 0),(.ref 160),(.int (35) 0),(.int (0) 0),(.ref 167),(.int (39) 0),(.int (0) 0),(.ref 174),(.int (48) 0),(.int (0) 0),(.ref 181),(.int (50) 0),(.int (0) 0),(.ref 188),(.int (52) 0),(.int (0) 0),(.ref 193),(.int (60) 0),(.int (0) 0),(.ref 198),(.int (64) 0),(.int (0) 0),(.ref 203),(.int (73) 0),(.int (0) 0),(.ref 210),(.int (79) 0),(.int (0) 0),(.ref 215),(.int (85) 0),(.int (0) 0),(.ref 220),(.int (94) 0),(.int (0) 0),(.ref 227),(.int (98) 0),(.int (0) 0),(.ref 234),(.int (103) 0),(.int (0) 0),(.ref 241),(.int (108) 0),(.int (0) 0),(.ref 246),(.int (113) 0),(.int (0) 0),(.ref 251),(.int (117) 0),(.int (0) 0),(.ref 258),(.int (127) 0),(.int (0) 0),(.ref 265),(.int (132) 0),(.int (0) 0),(.ref 270),(.int (134) 0),(.int (0) 0),(.ref 275),(.int (141) 0),(.int (0) 0),(.ref 282),(.int (146) 0),(.int (0) 0),(.ref 289),(.int (152) 0),(.int (0) 0),(.ref 296),(.int (164) 0),(.int (0) 0),(.ref 301),(.int (175) 0),(.int (0) 0),(.ref 308),(.int (179) 0),(.int (0) 0),(.ref 315),(.int (184) 0),(.int (0) 0),(.ref 320),(.int (186) 0),(.int (0) 0),(.ref 327),(.int (191) 0),(.int (0) 0),(.ref 332),(.int (215) 0),(.int (0) 0),(.ref 339),(.int (230) 0),(.int (0) 0),(.ref 346),(.int (236) 0),(.int (0) 0),(.ref 353)]),#[]⟩
def o16:Obj:=⟨(.type "builtin_function_or_method"),none,(.fields #[(.builtin "type.__prepare__"),(.type "type")]),#[]⟩
def o17 (P:Params):Obj:=⟨(.type "dict"),none,(.dict #[en0 P "__module__" 196 (.str "dullglass.errors" 187),en0 P "__qualname__" 198 (.str "GlassError" 197),en0 P "__firstlineno__" 200 (.int (2) 199),en0 P "__static_attributes__" 201 (.ref 22)] 4),#[]⟩
def o20:Obj:=co0 "GlassError" "GlassError" 191 2 0 0 18 false .none .none .none 194
def o21:Obj:=⟨(.type "frame"),none,.plain,#[(some (.ref 20)),(some (.ref 3)),(some (.ref 17)),none,(some (.str "dullglass.errors" 187)),none,(some (.ref 0))]⟩
def o23 (P:Params):Obj:=⟨(.type "dict"),none,(.dict #[en0 P "__module__" 196 (.str "dullglass.errors" 187),en0 P "__firstlineno__" 200 (.int (2) 199),en0 P "__static_attributes__" 201 (.ref 22),en0 P "__weakref__" 203 (.ref 25),en0 P "__doc__" 204 .none] 3),#[]⟩
def o24:Obj:=⟨(.type "type"),none,(.cls ⟨"GlassError",[(.type "ValueError")],[(.ref 24),(.type "ValueError"),(.type "Exception"),(.type "BaseException"),(.type "object")],23,"GlassError",true,[],[(.ref 37),(.ref 49),(.ref 61),(.ref 73),(.ref 85),(.ref 97),(.ref 109),(.ref 121),(.ref 133),(.ref 145)],false,none,false⟩),#[(some (.ref 15)),none,(some (.str "GlassError" 189)),(some (.str "GlassError" 197)),(some (.builtin "ValueError.__new__")),(some (.bool true))]⟩
def o25:Obj:=⟨(.type "getset_descriptor"),none,(.fields #[(.str "__weakref__" 202),(.ref 24),(.builtin "ExceptionGroup.__weakref__"),.none]),#[]⟩
def o26:Obj:=⟨(.type "super"),none,(.fields #[(.ref 24),(.ref 24),(.ref 24)]),#[]⟩
def o27:Obj:=⟨(.type "builtin_function_or_method"),none,(.fields #[(.builtin "object.__init_subclass__"),(.ref 24)]),#[]⟩
def o29:Obj:=⟨(.type "builtin_function_or_method"),none,(.fields #[(.builtin "type.__prepare__"),(.type "type")]),#[]⟩
def o30 (P:Params):Obj:=⟨(.type "dict"),none,(.dict #[en0 P "__module__" 214 (.str "dullglass.errors" 187),en0 P "__qualname__" 216 (.str "NoShare" 215),en0 P "__firstlineno__" 218 (.int (4) 217),en0 P "__static_attributes__" 219 (.ref 35)] 4),#[]⟩
def o33:Obj:=co0 "NoShare" "NoShare" 209 4 0 0 31 false .none .none .none 212
def o34:Obj:=⟨(.type "frame"),none,.plain,#[(some (.ref 33)),(some (.ref 3)),(some (.ref 30)),none,(some (.str "dullglass.errors" 187)),none,(some (.ref 0))]⟩
def o36 (P:Params):Obj:=⟨(.type "dict"),none,(.dict #[en0 P "__module__" 214 (.str "dullglass.errors" 187),en0 P "__firstlineno__" 218 (.int (4) 217),en0 P "__static_attributes__" 219 (.ref 35),en0 P "__doc__" 220 .none] 2),#[]⟩
def o37:Obj:=⟨(.type "type"),none,(.cls ⟨"NoShare",[(.ref 24)],[(.ref 37),(.ref 24),(.type "ValueError"),(.type "Exception"),(.type "BaseException"),(.type "object")],36,"NoShare",true,[],[],false,none,false⟩),#[(some (.ref 28)),none,(some (.str "NoShare" 207)),(some (.str "NoShare" 215)),(some (.builtin "ValueError.__new__")),(some (.bool true))]⟩
def o38:Obj:=⟨(.type "super"),none,(.fields #[(.ref 37),(.ref 37),(.ref 37)]),#[]⟩
def o39:Obj:=⟨(.type "builtin_function_or_method"),none,(.fields #[(.builtin "object.__init_subclass__"),(.ref 37)]),#[]⟩
def o41:Obj:=⟨(.type "builtin_function_or_method"),none,(.fields #[(.builtin "type.__prepare__"),(.type "type")]),#[]⟩
def o42 (P:Params):Obj:=⟨(.type "dict"),none,(.dict #[en0 P "__module__" 230 (.str "dullglass.errors" 187),en0 P "__qualname__" 232 (.str "NoGlass" 231),en0 P "__firstlineno__" 234 (.int (6) 233),en0 P "__static_attributes__" 235 (.ref 47)] 4),#[]⟩
def o45:Obj:=co0 "NoGlass" "NoGlass" 225 6 0 0 43 false .none .none .none 228
def o46:Obj:=⟨(.type "frame"),none,.plain,#[(some (.ref 45)),(some (.ref 3)),(some (.ref 42)),none,(some (.str "dullglass.errors" 187)),none,(some (.ref 0))]⟩
def o48 (P:Params):Obj:=⟨(.type "dict"),none,(.dict #[en0 P "__module__" 230 (.str "dullglass.errors" 187),en0 P "__firstlineno__" 234 (.int (6) 233),en0 P "__static_attributes__" 235 (.ref 47),en0 P "__doc__" 236 .none] 2),#[]⟩
def o49:Obj:=⟨(.type "type"),none,(.cls ⟨"NoGlass",[(.ref 24)],[(.ref 49),(.ref 24),(.type "ValueError"),(.type "Exception"),(.type "BaseException"),(.type "object")],48,"NoGlass",true,[],[],false,none,false⟩),#[(some (.ref 40)),none,(some (.str "NoGlass" 223)),(some (.str "NoGlass" 231)),(some (.builtin "ValueError.__new__")),(some (.bool true))]⟩
def o50:Obj:=⟨(.type "super"),none,(.fields #[(.ref 49),(.ref 49),(.ref 49)]),#[]⟩
def o51:Obj:=⟨(.type "builtin_function_or_method"),none,(.fields #[(.builtin "object.__init_subclass__"),(.ref 49)]),#[]⟩
def o53:Obj:=⟨(.type "builtin_function_or_method"),none,(.fields #[(.builtin "type.__prepare__"),(.type "type")]),#[]⟩
def o54 (P:Params):Obj:=⟨(.type "dict"),none,(.dict #[en0 P "__module__" 246 (.str "dullglass.errors" 187),en0 P "__qualname__" 248 (.str "NoDulling" 247),en0 P "__firstlineno__" 250 (.int (8) 249),en0 P "__static_attributes__" 251 (.ref 59)] 4),#[]⟩
def o57:Obj:=co0 "NoDulling" "NoDulling" 241 8 0 0 55 false .none .none .none 244
def o58:Obj:=⟨(.type "frame"),none,.plain,#[(some (.ref 57)),(some (.ref 3)),(some (.ref 54)),none,(some (.str "dullglass.errors" 187)),none,(some (.ref 0))]⟩
def o60 (P:Params):Obj:=⟨(.type "dict"),none,(.dict #[en0 P "__module__" 246 (.str "dullglass.errors" 187),en0 P "__firstlineno__" 250 (.int (8) 249),en0 P "__static_attributes__" 251 (.ref 59),en0 P "__doc__" 252 .none] 2),#[]⟩
def o61:Obj:=⟨(.type "type"),none,(.cls ⟨"NoDulling",[(.ref 24)],[(.ref 61),(.ref 24),(.type "ValueError"),(.type "Exception"),(.type "BaseException"),(.type "object")],60,"NoDulling",true,[],[],false,none,false⟩),#[(some (.ref 52)),none,(some (.str "NoDulling" 239)),(some (.str "NoDulling" 247)),(some (.builtin "ValueError.__new__")),(some (.bool true))]⟩
def o62:Obj:=⟨(.type "super"),none,(.fields #[(.ref 61),(.ref 61),(.ref 61)]),#[]⟩
def o63:Obj:=⟨(.type "builtin_function_or_method"),none,(.fields #[(.builtin "object.__init_subclass__"),(.ref 61)]),#[]⟩
def o65:Obj:=⟨(.type "builtin_function_or_method"),none,(.fields #[(.builtin "type.__prepare__"),(.type "type")]),#[]⟩
def o66 (P:Params):Obj:=⟨(.type "dict"),none,(.dict #[en0 P "__module__" 262 (.str "dullglass.errors" 187),en0 P "__qualname__" 264 (.str "NoFit" 263),en0 P "__firstlineno__" 266 (.int (10) 265),en0 P "__static_attributes__" 267 (.ref 71)] 4),#[]⟩
def o69:Obj:=co0 "NoFit" "NoFit" 257 10 0 0 67 false .none .none .none 260
def o70:Obj:=⟨(.type "frame"),none,.plain,#[(some (.ref 69)),(some (.ref 3)),(some (.ref 66)),none,(some (.str "dullglass.errors" 187)),none,(some (.ref 0))]⟩
def o72 (P:Params):Obj:=⟨(.type "dict"),none,(.dict #[en0 P "__module__" 262 (.str "dullglass.errors" 187),en0 P "__firstlineno__" 266 (.int (10) 265),en0 P "__static_attributes__" 267 (.ref 71),en0 P "__doc__" 268 .none] 2),#[]⟩
def o73:Obj:=⟨(.type "type"),none,(.cls ⟨"NoFit",[(.ref 24)],[(.ref 73),(.ref 24),(.type "ValueError"),(.type "Exception"),(.type "BaseException"),(.type "object")],72,"NoFit",true,[],[],false,none,false⟩),#[(some (.ref 64)),none,(some (.str "NoFit" 255)),(some (.str "NoFit" 263)),(some (.builtin "ValueError.__new__")),(some (.bool true))]⟩
def o74:Obj:=⟨(.type "super"),none,(.fields #[(.ref 73),(.ref 73),(.ref 73)]),#[]⟩
def o75:Obj:=⟨(.type "builtin_function_or_method"),none,(.fields #[(.builtin "object.__init_subclass__"),(.ref 73)]),#[]⟩
def o77:Obj:=⟨(.type "builtin_function_or_method"),none,(.fields #[(.builtin "type.__prepare__"),(.type "type")]),#[]⟩
def o78 (P:Params):Obj:=⟨(.type "dict"),none,(.dict #[en0 P "__module__" 278 (.str "dullglass.errors" 187),en0 P "__qualname__" 280 (.str "NoBeliefs" 279),en0 P "__firstlineno__" 282 (.int (12) 281),en0 P "__static_attributes__" 283 (.ref 83)] 4),#[]⟩
def o81:Obj:=co0 "NoBeliefs" "NoBeliefs" 273 12 0 0 79 false .none .none .none 276
def o82:Obj:=⟨(.type "frame"),none,.plain,#[(some (.ref 81)),(some (.ref 3)),(some (.ref 78)),none,(some (.str "dullglass.errors" 187)),none,(some (.ref 0))]⟩
def o84 (P:Params):Obj:=⟨(.type "dict"),none,(.dict #[en0 P "__module__" 278 (.str "dullglass.errors" 187),en0 P "__firstlineno__" 282 (.int (12) 281),en0 P "__static_attributes__" 283 (.ref 83),en0 P "__doc__" 284 .none] 2),#[]⟩
def o85:Obj:=⟨(.type "type"),none,(.cls ⟨"NoBeliefs",[(.ref 24)],[(.ref 85),(.ref 24),(.type "ValueError"),(.type "Exception"),(.type "BaseException"),(.type "object")],84,"NoBeliefs",true,[],[],false,none,false⟩),#[(some (.ref 76)),none,(some (.str "NoBeliefs" 271)),(some (.str "NoBeliefs" 279)),(some (.builtin "ValueError.__new__")),(some (.bool true))]⟩
def o86:Obj:=⟨(.type "super"),none,(.fields #[(.ref 85),(.ref 85),(.ref 85)]),#[]⟩
def o87:Obj:=⟨(.type "builtin_function_or_method"),none,(.fields #[(.builtin "object.__init_subclass__"),(.ref 85)]),#[]⟩
def o89:Obj:=⟨(.type "builtin_function_or_method"),none,(.fields #[(.builtin "type.__prepare__"),(.type "type")]),#[]⟩
def o90 (P:Params):Obj:=⟨(.type "dict"),none,(.dict #[en0 P "__module__" 294 (.str "dullglass.errors" 187),en0 P "__qualname__" 296 (.str "TooMany" 295),en0 P "__firstlineno__" 298 (.int (14) 297),en0 P "__static_attributes__" 299 (.ref 95)] 4),#[]⟩
def o93:Obj:=co0 "TooMany" "TooMany" 289 14 0 0 91 false .none .none .none 292
def o94:Obj:=⟨(.type "frame"),none,.plain,#[(some (.ref 93)),(some (.ref 3)),(some (.ref 90)),none,(some (.str "dullglass.errors" 187)),none,(some (.ref 0))]⟩
def o96 (P:Params):Obj:=⟨(.type "dict"),none,(.dict #[en0 P "__module__" 294 (.str "dullglass.errors" 187),en0 P "__firstlineno__" 298 (.int (14) 297),en0 P "__static_attributes__" 299 (.ref 95),en0 P "__doc__" 300 .none] 2),#[]⟩
def o97:Obj:=⟨(.type "type"),none,(.cls ⟨"TooMany",[(.ref 24)],[(.ref 97),(.ref 24),(.type "ValueError"),(.type "Exception"),(.type "BaseException"),(.type "object")],96,"TooMany",true,[],[],false,none,false⟩),#[(some (.ref 88)),none,(some (.str "TooMany" 287)),(some (.str "TooMany" 295)),(some (.builtin "ValueError.__new__")),(some (.bool true))]⟩
def o98:Obj:=⟨(.type "super"),none,(.fields #[(.ref 97),(.ref 97),(.ref 97)]),#[]⟩
def o99:Obj:=⟨(.type "builtin_function_or_method"),none,(.fields #[(.builtin "object.__init_subclass__"),(.ref 97)]),#[]⟩
def o101:Obj:=⟨(.type "builtin_function_or_method"),none,(.fields #[(.builtin "type.__prepare__"),(.type "type")]),#[]⟩
def o102 (P:Params):Obj:=⟨(.type "dict"),none,(.dict #[en0 P "__module__" 310 (.str "dullglass.errors" 187),en0 P "__qualname__" 312 (.str "NoText" 311),en0 P "__firstlineno__" 314 (.int (16) 313),en0 P "__static_attributes__" 315 (.ref 107)] 4),#[]⟩
def o105:Obj:=co0 "NoText" "NoText" 305 16 0 0 103 false .none .none .none 308
def o106:Obj:=⟨(.type "frame"),none,.plain,#[(some (.ref 105)),(some (.ref 3)),(some (.ref 102)),none,(some (.str "dullglass.errors" 187)),none,(some (.ref 0))]⟩
def o108 (P:Params):Obj:=⟨(.type "dict"),none,(.dict #[en0 P "__module__" 310 (.str "dullglass.errors" 187),en0 P "__firstlineno__" 314 (.int (16) 313),en0 P "__static_attributes__" 315 (.ref 107),en0 P "__doc__" 316 .none] 2),#[]⟩
def o109:Obj:=⟨(.type "type"),none,(.cls ⟨"NoText",[(.ref 24)],[(.ref 109),(.ref 24),(.type "ValueError"),(.type "Exception"),(.type "BaseException"),(.type "object")],108,"NoText",true,[],[],false,none,false⟩),#[(some (.ref 100)),none,(some (.str "NoText" 303)),(some (.str "NoText" 311)),(some (.builtin "ValueError.__new__")),(some (.bool true))]⟩
def o110:Obj:=⟨(.type "super"),none,(.fields #[(.ref 109),(.ref 109),(.ref 109)]),#[]⟩
def o111:Obj:=⟨(.type "builtin_function_or_method"),none,(.fields #[(.builtin "object.__init_subclass__"),(.ref 109)]),#[]⟩
def o113:Obj:=⟨(.type "builtin_function_or_method"),none,(.fields #[(.builtin "type.__prepare__"),(.type "type")]),#[]⟩
def o114 (P:Params):Obj:=⟨(.type "dict"),none,(.dict #[en0 P "__module__" 326 (.str "dullglass.errors" 187),en0 P "__qualname__" 328 (.str "NoRow" 327),en0 P "__firstlineno__" 330 (.int (18) 329),en0 P "__static_attributes__" 331 (.ref 119)] 4),#[]⟩
def o117:Obj:=co0 "NoRow" "NoRow" 321 18 0 0 115 false .none .none .none 324
def o118:Obj:=⟨(.type "frame"),none,.plain,#[(some (.ref 117)),(some (.ref 3)),(some (.ref 114)),none,(some (.str "dullglass.errors" 187)),none,(some (.ref 0))]⟩
def o120 (P:Params):Obj:=⟨(.type "dict"),none,(.dict #[en0 P "__module__" 326 (.str "dullglass.errors" 187),en0 P "__firstlineno__" 330 (.int (18) 329),en0 P "__static_attributes__" 331 (.ref 119),en0 P "__doc__" 332 .none] 2),#[]⟩
def o121:Obj:=⟨(.type "type"),none,(.cls ⟨"NoRow",[(.ref 24)],[(.ref 121),(.ref 24),(.type "ValueError"),(.type "Exception"),(.type "BaseException"),(.type "object")],120,"NoRow",true,[],[],false,none,false⟩),#[(some (.ref 112)),none,(some (.str "NoRow" 319)),(some (.str "NoRow" 327)),(some (.builtin "ValueError.__new__")),(some (.bool true))]⟩
def o122:Obj:=⟨(.type "super"),none,(.fields #[(.ref 121),(.ref 121),(.ref 121)]),#[]⟩
def o123:Obj:=⟨(.type "builtin_function_or_method"),none,(.fields #[(.builtin "object.__init_subclass__"),(.ref 121)]),#[]⟩
def o125:Obj:=⟨(.type "builtin_function_or_method"),none,(.fields #[(.builtin "type.__prepare__"),(.type "type")]),#[]⟩
def o126 (P:Params):Obj:=⟨(.type "dict"),none,(.dict #[en0 P "__module__" 342 (.str "dullglass.errors" 187),en0 P "__qualname__" 344 (.str "NoName" 343),en0 P "__firstlineno__" 346 (.int (20) 345),en0 P "__static_attributes__" 347 (.ref 131)] 4),#[]⟩
def o129:Obj:=co0 "NoName" "NoName" 337 20 0 0 127 false .none .none .none 340
def o130:Obj:=⟨(.type "frame"),none,.plain,#[(some (.ref 129)),(some (.ref 3)),(some (.ref 126)),none,(some (.str "dullglass.errors" 187)),none,(some (.ref 0))]⟩
def o132 (P:Params):Obj:=⟨(.type "dict"),none,(.dict #[en0 P "__module__" 342 (.str "dullglass.errors" 187),en0 P "__firstlineno__" 346 (.int (20) 345),en0 P "__static_attributes__" 347 (.ref 131),en0 P "__doc__" 348 .none] 2),#[]⟩
def o133:Obj:=⟨(.type "type"),none,(.cls ⟨"NoName",[(.ref 24)],[(.ref 133),(.ref 24),(.type "ValueError"),(.type "Exception"),(.type "BaseException"),(.type "object")],132,"NoName",true,[],[],false,none,false⟩),#[(some (.ref 124)),none,(some (.str "NoName" 335)),(some (.str "NoName" 343)),(some (.builtin "ValueError.__new__")),(some (.bool true))]⟩
def o134:Obj:=⟨(.type "super"),none,(.fields #[(.ref 133),(.ref 133),(.ref 133)]),#[]⟩
def o135:Obj:=⟨(.type "builtin_function_or_method"),none,(.fields #[(.builtin "object.__init_subclass__"),(.ref 133)]),#[]⟩
def o137:Obj:=⟨(.type "builtin_function_or_method"),none,(.fields #[(.builtin "type.__prepare__"),(.type "type")]),#[]⟩
def o138 (P:Params):Obj:=⟨(.type "dict"),none,(.dict #[en0 P "__module__" 358 (.str "dullglass.errors" 187),en0 P "__qualname__" 360 (.str "Full" 359),en0 P "__firstlineno__" 362 (.int (22) 361),en0 P "__static_attributes__" 363 (.ref 143)] 4),#[]⟩
def o141:Obj:=co0 "Full" "Full" 353 22 0 0 139 false .none .none .none 356
def o142:Obj:=⟨(.type "frame"),none,.plain,#[(some (.ref 141)),(some (.ref 3)),(some (.ref 138)),none,(some (.str "dullglass.errors" 187)),none,(some (.ref 0))]⟩
def o144 (P:Params):Obj:=⟨(.type "dict"),none,(.dict #[en0 P "__module__" 358 (.str "dullglass.errors" 187),en0 P "__firstlineno__" 362 (.int (22) 361),en0 P "__static_attributes__" 363 (.ref 143),en0 P "__doc__" 364 .none] 2),#[]⟩
def o145:Obj:=⟨(.type "type"),none,(.cls ⟨"Full",[(.ref 24)],[(.ref 145),(.ref 24),(.type "ValueError"),(.type "Exception"),(.type "BaseException"),(.type "object")],144,"Full",true,[],[],false,none,false⟩),#[(some (.ref 136)),none,(some (.str "Full" 351)),(some (.str "Full" 359)),(some (.builtin "ValueError.__new__")),(some (.bool true))]⟩
def o146:Obj:=⟨(.type "super"),none,(.fields #[(.ref 145),(.ref 145),(.ref 145)]),#[]⟩
def o147:Obj:=⟨(.type "builtin_function_or_method"),none,(.fields #[(.builtin "object.__init_subclass__"),(.ref 145)]),#[]⟩
def o153:Obj:=co1 "is_whole" 369 25 1 3 148 true 373
def o154:Obj:=fo1 "is_whole" 13 (.str "dullglass.shares" 367) 153
def o160:Obj:=co1 "divisor" 376 27 2 3 155 true 382
def o161:Obj:=fo1 "divisor" 14 (.str "dullglass.shares" 367) 160
def o167:Obj:=co1 "share" 385 35 2 3 162 true 390
def o168:Obj:=fo1 "share" 15 (.str "dullglass.shares" 367) 167
def o174:Obj:=co1 "reduced" 393 39 2 3 169 true 399
def o175:Obj:=fo1 "reduced" 16 (.str "dullglass.shares" 367) 174
def o181:Obj:=co1 "is_glass" 410 48 1 3 176 true 414
def o182:Obj:=fo1 "is_glass" 21 (.str "dullglass.glasses" 402) 181
def o188:Obj:=co1 "is_dulling" 417 50 1 3 183 true 421
def o189:Obj:=fo1 "is_dulling" 22 (.str "dullglass.glasses" 402) 188
def o193:Obj:=co0 "makes_table" "makes_table" 424 52 4 3 190 true .none .none (.ref 192) 427
def o194:Obj:=fo1 "makes_table" 23 (.str "dullglass.glasses" 402) 193
def o198:Obj:=co0 "makes_row" "makes_row" 430 60 2 3 195 true .none .none (.ref 197) 433
def o199:Obj:=fo1 "makes_row" 24 (.str "dullglass.glasses" 402) 198
def o203:Obj:=co0 "is_table" "is_table" 436 64 3 3 200 true .none .none (.ref 202) 439
def o204:Obj:=fo1 "is_table" 25 (.str "dullglass.glasses" 402) 203
def o210:Obj:=co1 "common_divisor" 442 73 1 3 205 true 449
def o211:Obj:=fo1 "common_divisor" 26 (.str "dullglass.glasses" 402) 210
def o215:Obj:=co0 "table_of_shares" "table_of_shares" 452 79 1 3 212 true .none .none (.ref 214) 455
def o216:Obj:=fo1 "table_of_shares" 27 (.str "dullglass.glasses" 402) 215
def o220:Obj:=co0 "over_bottom" "over_bottom" 458 85 2 3 217 true .none .none (.ref 219) 461
def o221:Obj:=fo1 "over_bottom" 28 (.str "dullglass.glasses" 402) 220
def o227:Obj:=co1 "show_share" 478 94 1 3 222 true 484
def o228:Obj:=fo1 "show_share" 36 (.str "dullglass.texts" 464) 227
def o234:Obj:=co1 "read_glass" 487 98 1 3 229 true 492
def o235:Obj:=fo1 "read_glass" 37 (.str "dullglass.texts" 464) 234
def o241:Obj:=co1 "read_dulling" 495 103 1 3 236 true 500
def o242:Obj:=fo1 "read_dulling" 38 (.str "dullglass.texts" 464) 241
def o246:Obj:=co0 "read_table" "read_table" 503 108 1 3 243 true .none .none (.ref 245) 506
def o247:Obj:=fo1 "read_table" 39 (.str "dullglass.texts" 464) 246
def o251:Obj:=co0 "words_in_rows" "words_in_rows" 509 113 1 3 248 true .none .none (.ref 250) 512
def o252:Obj:=fo1 "words_in_rows" 40 (.str "dullglass.texts" 464) 251
def o258:Obj:=co1 "read_share" 515 117 1 3 253 true 523
def o259:Obj:=fo1 "read_share" 41 (.str "dullglass.texts" 464) 258
def o265:Obj:=co1 "is_number" 526 127 2 3 260 true 532
def o266:Obj:=fo1 "is_number" 42 (.str "dullglass.texts" 464) 265
def o270:Obj:=co0 "is_made_of" "is_made_of" 535 132 2 3 267 true .none .none (.ref 269) 538
def o271:Obj:=fo1 "is_made_of" 43 (.str "dullglass.texts" 464) 270
def o275:Obj:=co0 "read_payoffs" "read_payoffs" 541 134 1 3 272 true .none .none (.ref 274) 544
def o276:Obj:=fo1 "read_payoffs" 44 (.str "dullglass.texts" 464) 275
def o282:Obj:=co1 "read_payoff" 547 141 1 3 277 true 551
def o283:Obj:=fo1 "read_payoff" 45 (.str "dullglass.texts" 464) 282
def o289:Obj:=co1 "_law_cell" 556 146 2 3 284 true 561
def o290:Obj:=fo1 "_law_cell" 47 (.str "law_dullglass_k52_texts_of_no_glasses" 554) 289
def o296:Obj:=co1 "_law_drawn" 564 152 3 3 291 true 574
def o297:Obj:=fo1 "_law_drawn" 48 (.str "law_dullglass_k52_texts_of_no_glasses" 554) 296
def o301:Obj:=co0 "_law_glass" "_law_glass" 577 164 4 3 298 true .none .none (.ref 300) 580
def o302:Obj:=fo1 "_law_glass" 49 (.str "law_dullglass_k52_texts_of_no_glasses" 554) 301
def o308:Obj:=co1 "_law_divisor" 583 175 2 3 303 true 588
def o309:Obj:=fo1 "_law_divisor" 50 (.str "law_dullglass_k52_texts_of_no_glasses" 554) 308
def o315:Obj:=co1 "_law_share_text" 591 179 2 3 310 true 597
def o316:Obj:=fo1 "_law_share_text" 51 (.str "law_dullglass_k52_texts_of_no_glasses" 554) 315
def o320:Obj:=co0 "_law_text" "_law_text" 600 184 2 3 317 true .none .none (.ref 319) 603
def o321:Obj:=fo1 "_law_text" 52 (.str "law_dullglass_k52_texts_of_no_glasses" 554) 320
def o327:Obj:=co1 "_law_bad_words" 606 186 0 3 322 true 610
def o328:Obj:=fo1 "_law_bad_words" 53 (.str "law_dullglass_k52_texts_of_no_glasses" 554) 327
def o332:Obj:=co0 "_law_spoiled" "_law_spoiled" 613 191 2 3 329 true .none .none (.ref 331) 616
def o333:Obj:=fo1 "_law_spoiled" 54 (.str "law_dullglass_k52_texts_of_no_glasses" 554) 332
def o339:Obj:=co1 "_law_marks" 619 215 2 3 334 true 627
def o340:Obj:=fo1 "_law_marks" 55 (.str "law_dullglass_k52_texts_of_no_glasses" 554) 339
def o346:Obj:=co1 "_law_bad_payoffs" 630 230 1 3 341 true 635
def o347:Obj:=fo1 "_law_bad_payoffs" 56 (.str "law_dullglass_k52_texts_of_no_glasses" 554) 346
def o353:Obj:=co1 "law" 638 236 1 3 348 true 651
def o354:Obj:=fo1 "law" 57 (.str "law_dullglass_k52_texts_of_no_glasses" 554) 353
def tA0 (P:Params):BT:=(N0 (boot_o_0 P) (N0 (boot_o_1 P) (N0 (boot_o_3 P) (N0 (boot_o_7 P) nl0 nl0) (N0 (tu0 []) nl0 nl0)) (N0 (boot_o_5 P) (N0 (boot_o_9 P) nl0 nl0) (N0 o13a nl0 nl0))) (N0 (boot_o_2 P) (N0 (boot_o_4 P) (N0 (boot_o_8 P) nl0 nl0) (N0 em0 nl0 nl0)) (N0 (boot_o_6 P) (N0 (boot_o_10 P) nl0 nl0) (N0 o14a nl0 nl0))))
def tE0 (P:Params):BT:=(N0 (boot_o_0 P) (N0 (boot_o_1 P) (N0 (o3 P) (N0 (boot_o_7 P) (N0 (tu0 [(.type "ValueError")]) (N0 (tu0 []) (N0 o63 (N0 (tu0 []) (N0 (tu0 [(.str "word" 518),(.str "parts" 519),(.str "top" 520),(.str "bottom" 521),(.str "found" 522)]) nl0 nl0) nl0) (N0 em0 (N0 (pr0 "_law_text" "_law_text" (top 52)) nl0 nl0) nl0)) (N0 (tu0 []) (N0 (pr0 "divisor" "divisor" (top 14)) (N0 (tu0 []) nl0 nl0) nl0) (N0 em0 (N0 (tu0 []) nl0 nl0) nl0))) (N0 (tu0 []) (N0 (tu0 []) (N0 (tu0 []) (N0 o271 nl0 nl0) nl0) (N0 (tu0 [(.str "rows" 445),(.str "common" 446),(.str "row" 447),(.str "number" 448)]) (N0 em0 nl0 nl0) nl0)) (N0 o111 (N0 o175 (N0 (tu0 []) nl0 nl0) nl0) (N0 (tu0 []) nl0 nl0)))) (N0 (o23 P) (N0 o39 (N0 (tu0 []) (N0 o135 (N0 (tu0 []) nl0 nl0) nl0) (N0 o199 (N0 o327 nl0 nl0) nl0)) (N0 (tu0 []) (N0 o167 (N0 (pr0 "_law_drawn" "_law_drawn" (top 48)) nl0 nl0) nl0) (N0 (tu0 [(.str "text" 490),(.str "table" 491)]) nl0 nl0))) (N0 (tu0 []) (N0 o87 (N0 (tu0 []) (N0 (tu0 [(.str "word" 550)]) nl0 nl0) nl0) (N0 o215 (N0 (tu0 [(.str "_law_cell_here" 633),(.str "_law_some" 634)]) nl0 nl0) nl0)) (N0 (tu0 []) (N0 (tu0 []) (N0 em0 nl0 nl0) nl0) (N0 o247 nl0 nl0))))) (N0 (tu0 []) (N0 em0 (N0 (tu0 []) (N0 (tu0 []) (N0 (tu0 []) (N0 o259 nl0 nl0) nl0) (N0 (tu0 []) (N0 em0 nl0 nl0) nl0)) (N0 o99 (N0 em0 (N0 (tu0 []) nl0 nl0) nl0) (N0 o227 nl0 nl0))) (N0 o51 (N0 (tu0 []) (N0 o147 (N0 o275 nl0 nl0) nl0) (N0 o211 (N0 o339 nl0 nl0) nl0)) (N0 (tu0 []) (N0 (tu0 []) (N0 (pr0 "_law_divisor" "_law_divisor" (top 50)) nl0 nl0) nl0) (N0 (tu0 []) nl0 nl0)))) (N0 o27 (N0 (tu0 []) (N0 o75 (N0 (tu0 []) (N0 (tu0 []) nl0 nl0) nl0) (N0 o203 (N0 (pr0 "_law_spoiled" "_law_spoiled" (top 54)) nl0 nl0) nl0)) (N0 (tu0 []) (N0 (tu0 [(.str "top" 396),(.str "bottom" 397),(.str "common" 398)]) (N0 em0 nl0 nl0) nl0) (N0 o235 nl0 nl0))) (N0 (tu0 []) (N0 (tu0 []) (N0 (tu0 []) (N0 o283 nl0 nl0) nl0) (N0 (pr0 "over_bottom" "over_bottom" (top 28)) (N0 o347 nl0 nl0) nl0)) (N0 o123 (N0 (pr0 "is_dulling" "is_dulling" (top 22)) (N0 o315 nl0 nl0) nl0) (N0 o251 nl0 nl0)))))) (N0 (boot_o_5 P) (N0 (boot_o_9 P) (N0 (o17 P) (N0 o33 (N0 o65 (N0 o129 (N0 (pr0 "read_share" "read_share" (top 41)) nl0 nl0) nl0) (N0 o193 (N0 o321 nl0 nl0) nl0)) (N0 o97 (N0 o161 (N0 o289 nl0 nl0) nl0) (N0 (tu0 []) (N0 o353 nl0 nl0) nl0))) (N0 o49 (N0 o81 (N0 o145 (N0 em0 nl0 nl0) nl0) (N0 (pr0 "common_divisor" "common_divisor" (top 26)) (N0 (tu0 []) nl0 nl0) nl0)) (N0 o113 (N0 em0 (N0 (tu0 [(.str "_law_one" 586),(.str "_law_other" 587)]) nl0 nl0) nl0) (N0 o241 nl0 nl0)))) (N0 o25 (N0 o41 (N0 o73 (N0 o137 (N0 o265 nl0 nl0) nl0) (N0 em0 (N0 (tu0 []) nl0 nl0) nl0)) (N0 o105 (N0 (tu0 []) (N0 o297 nl0 nl0) nl0) (N0 (pr0 "read_glass" "read_glass" (top 37)) nl0 nl0))) (N0 o57 (N0 o89 (N0 o153 (N0 (pr0 "read_payoff" "read_payoff" (top 45)) nl0 nl0) nl0) (N0 (tu0 []) (N0 (pr0 "_law_bad_payoffs" "_law_bad_payoffs" (top 56)) nl0 nl0) nl0)) (N0 o121 (N0 (tu0 [(.str "thing" 420)]) (N0 (tu0 []) nl0 nl0) nl0) (N0 em0 nl0 nl0))))) (N0 o13a (N0 o21 (N0 o37 (N0 o69 (N0 o133 (N0 em0 nl0 nl0) nl0) (N0 (pr0 "makes_row" "makes_row" (top 24)) (N0 (tu0 []) nl0 nl0) nl0)) (N0 o101 (N0 (tu0 []) (N0 (tu0 [(.str "_law_cell_here" 567),(.str "_law_base" 568),(.str "_law_many" 569),(.str "_law_found" 570),(.str "_law_left" 571),(.str "_law_k" 572),(.str "_law_number" 573)]) nl0 nl0) nl0) (N0 (tu0 []) nl0 nl0))) (N0 o53 (N0 o85 (N0 em0 (N0 (tu0 []) nl0 nl0) nl0) (N0 em0 (N0 (tu0 []) nl0 nl0) nl0)) (N0 o117 (N0 o181 (N0 o309 nl0 nl0) nl0) (N0 (pr0 "read_table" "read_table" (top 39)) nl0 nl0)))) (N0 o29 (N0 o45 (N0 o77 (N0 o141 (N0 (pr0 "is_made_of" "is_made_of" (top 43)) nl0 nl0) nl0) (N0 (tu0 []) (N0 o333 nl0 nl0) nl0)) (N0 o109 (N0 (pr0 "reduced" "reduced" (top 16)) (N0 o301 nl0 nl0) nl0) (N0 em0 nl0 nl0))) (N0 o61 (N0 o93 (N0 (tu0 [(.str "one" 379),(.str "other" 380),(.str "rest" 381)]) (N0 em0 nl0 nl0) nl0) (N0 o221 (N0 em0 nl0 nl0) nl0)) (N0 o125 (N0 o189 (N0 (tu0 []) nl0 nl0) nl0) (N0 (tu0 []) nl0 nl0))))))) (N0 (boot_o_2 P) (N0 (boot_o_4 P) (N0 (boot_o_8 P) (N0 o16 (N0 em0 (N0 (tu0 [(.ref 24)]) (N0 em0 (N0 (tu0 []) nl0 nl0) nl0) (N0 (pr0 "makes_table" "makes_table" (top 23)) (N0 o320 nl0 nl0) nl0)) (N0 (o96 P) (N0 o160 (N0 (pr0 "_law_cell" "_law_cell" (top 47)) nl0 nl0) nl0) (N0 (tu0 [(.str "one" 481),(.str "top" 482),(.str "bottom" 483)]) (N0 (pr0 "law" "law" (top 57)) nl0 nl0) nl0))) (N0 (o48 P) (N0 em0 (N0 (o144 P) (N0 (tu0 []) nl0 nl0) nl0) (N0 (tu0 []) (N0 (tu0 [(.str "_law_way" 622),(.str "_law_text_here" 623),(.str "_law_caught" 624),(.str "error" 625),(.str "_law_other" 626)]) nl0 nl0) nl0)) (N0 (tu0 [(.ref 24)]) (N0 (tu0 []) (N0 em0 nl0 nl0) nl0) (N0 (pr0 "read_dulling" "read_dulling" (top 38)) nl0 nl0)))) (N0 o24 (N0 (tu0 [(.ref 24)]) (N0 (o72 P) (N0 (tu0 [(.ref 24)]) (N0 (pr0 "is_number" "is_number" (top 42)) nl0 nl0) nl0) (N0 (tu0 []) (N0 o328 nl0 nl0) nl0)) (N0 em0 (N0 o168 (N0 o296 nl0 nl0) nl0) (N0 (tu0 []) nl0 nl0))) (N0 em0 (N0 (tu0 [(.ref 24)]) (N0 (pr0 "is_whole" "is_whole" (top 13)) (N0 (tu0 []) nl0 nl0) nl0) (N0 o216 (N0 (tu0 []) nl0 nl0) nl0)) (N0 (o120 P) (N0 em0 (N0 (tu0 [(.str "_law_top" 594),(.str "_law_bottom" 595),(.str "_law_by" 596)]) nl0 nl0) nl0) (N0 (tu0 []) nl0 nl0))))) (N0 o12 (N0 o20 (N0 (o36 P) (N0 em0 (N0 (o132 P) (N0 (tu0 []) nl0 nl0) nl0) (N0 em0 (N0 (tu0 [(.str "_law_some" 609)]) nl0 nl0) nl0)) (N0 (tu0 [(.ref 24)]) (N0 (tu0 [(.str "top" 388),(.str "bottom" 389)]) (N0 em0 nl0 nl0) nl0) (N0 o228 nl0 nl0))) (N0 (tu0 [(.ref 24)]) (N0 (o84 P) (N0 (tu0 []) (N0 o276 nl0 nl0) nl0) (N0 (tu0 []) (N0 o340 nl0 nl0) nl0)) (N0 em0 (N0 (pr0 "is_glass" "is_glass" (top 21)) (N0 o308 nl0 nl0) nl0) (N0 em0 nl0 nl0)))) (N0 (tu0 [(.ref 24)]) (N0 em0 (N0 (tu0 [(.ref 24)]) (N0 em0 (N0 em0 nl0 nl0) nl0) (N0 o204 (N0 o332 nl0 nl0) nl0)) (N0 (o108 P) (N0 (tu0 []) (N0 (pr0 "_law_glass" "_law_glass" (top 49)) nl0 nl0) nl0) (N0 (tu0 []) nl0 nl0))) (N0 (o60 P) (N0 em0 (N0 em0 (N0 (tu0 []) nl0 nl0) nl0) (N0 o220 (N0 (tu0 []) nl0 nl0) nl0)) (N0 (tu0 [(.ref 24)]) (N0 o188 (N0 o316 nl0 nl0) nl0) (N0 o252 nl0 nl0)))))) (N0 (boot_o_6 P) (N0 (boot_o_10 P) (N0 (tu0 []) (N0 o34 (N0 (o66 P) (N0 o130 (N0 o258 nl0 nl0) nl0) (N0 o194 (N0 (tu0 []) nl0 nl0) nl0)) (N0 o98 (N0 (tu0 []) (N0 o290 nl0 nl0) nl0) (N0 (pr0 "show_share" "show_share" (top 36)) (N0 o354 nl0 nl0) nl0))) (N0 o50 (N0 o82 (N0 o146 (N0 (pr0 "read_payoffs" "read_payoffs" (top 44)) nl0 nl0) nl0) (N0 o210 (N0 (pr0 "_law_marks" "_law_marks" (top 55)) nl0 nl0) nl0)) (N0 (o114 P) (N0 (tu0 [(.str "thing" 413)]) (N0 (tu0 []) nl0 nl0) nl0) (N0 o242 nl0 nl0)))) (N0 o26 (N0 (o42 P) (N0 o74 (N0 (o138 P) (N0 o266 nl0 nl0) nl0) (N0 (pr0 "is_table" "is_table" (top 25)) (N0 em0 nl0 nl0) nl0)) (N0 o106 (N0 em0 (N0 (tu0 []) nl0 nl0) nl0) (N0 o234 nl0 nl0))) (N0 o58 (N0 (o90 P) (N0 o154 (N0 o282 nl0 nl0) nl0) (N0 em0 (N0 o346 nl0 nl0) nl0)) (N0 o122 (N0 (tu0 []) (N0 (pr0 "_law_share_text" "_law_share_text" (top 51)) nl0 nl0) nl0) (N0 (pr0 "words_in_rows" "words_in_rows" (top 40)) nl0 nl0))))) (N0 o14a (N0 (tu0 []) (N0 o38 (N0 o70 (N0 o134 (N0 (tu0 [(.str "word" 529),(.str "most" 530),(.str "figures" 531)]) nl0 nl0) nl0) (N0 o198 (N0 (pr0 "_law_bad_words" "_law_bad_words" (top 53)) nl0 nl0) nl0)) (N0 (o102 P) (N0 (pr0 "share" "share" (top 15)) (N0 (tu0 []) nl0 nl0) nl0) (N0 em0 nl0 nl0))) (N0 (o54 P) (N0 o86 (N0 (tu0 [(.str "thing" 372)]) (N0 em0 nl0 nl0) nl0) (N0 (pr0 "table_of_shares" "table_of_shares" (top 27)) (N0 em0 nl0 nl0) nl0)) (N0 o118 (N0 o182 (N0 (tu0 []) nl0 nl0) nl0) (N0 o246 nl0 nl0)))) (N0 (o30 P) (N0 o46 (N0 (o78 P) (N0 o142 (N0 o270 nl0 nl0) nl0) (N0 em0 (N0 (tu0 []) nl0 nl0) nl0)) (N0 o110 (N0 o174 (N0 o302 nl0 nl0) nl0) (N0 (tu0 [(.str "text" 498),(.str "table" 499)]) nl0 nl0))) (N0 o62 (N0 o94 (N0 (tu0 []) (N0 (tu0 [(.str "_law_script" 559),(.str "_law_k" 560)]) nl0 nl0) nl0) (N0 (tu0 []) (N0 (tu0 [(.str "_law_script" 641),(.str "_law_cell_here" 642),(.str "_law_bottom" 643),(.str "_law_rows" 644),(.str "_law_text_here" 645),(.str "_law_k" 646),(.str "_law_spoiled_here" 647),(.str "_law_thing" 648),(.str "_law_way" 649),(.str "_law_many_rows" 650)]) nl0 nl0) nl0)) (N0 (o126 P) (N0 (tu0 []) (N0 em0 nl0 nl0) nl0) (N0 em0 nl0 nl0))))))))
lay_quick My.cE0 My.env0 My.ls0
theorem r_pre (w:World):(fun os=>topGo treeTable PySem.Challenge.pw_dullglass_k52_texts_of_no_glasses w 11 (some (.ref 6)) 12 (Shared.mk (boot_heap w.params) (Array.mk []) boot_drawn boot_toks os) (topStub PySem.Challenge.pw_dullglass_k52_texts_of_no_glasses))=fun os=>some ((SharedT.mk (tA0 w.params) 15 lf0 (Array.mk []) boot_drawn 187 os).abs,Thread.mk (denote treeTable cE0) cE0 ⟨0,0,0,0⟩ [topFrame ⟨0,0,0,0⟩]):=by
 rewrite [PySem.W.Fast.te15667345088766844465,PySem.W.Fast.te14364793385576792824,PySem.W.Fast.te9479057451099066356,PySem.W.Fast.te11892475500146522536,PySem.W.Fast.te2665708160071446767]
 kernel_rfl
theorem r_block (w:World):(fun os=>segRun treeTable PySem.Challenge.pw_dullglass_k52_texts_of_no_glasses w 11 (some (.ref 6)) 1 1 (SharedT.mk (tA0 w.params) 15 lf0 (Array.mk []) boot_drawn 187 os).abs (blockOf (behindTheImports PySem.Challenge.pw_dullglass_k52_texts_of_no_glasses) env0 cE0 ⟨0,0,0,0⟩ [topFrame ⟨0,0,0,0⟩]))=fun os=>some (.next,(SharedT.mk (tA0 w.params) 15 lf0 (Array.mk []) boot_drawn 187 os).abs,cE0,⟨0,0,0,0⟩):=by
 rewrite [PySem.W.Fast.te14374325043358763698,PySem.W.Fast.te14364793385576792824,PySem.W.Fast.te9479057451099066356,PySem.W.Fast.te2665708160071446767,PySem.W.Fast.te13849342267361746138]
 kernel_rfl
theorem r_all (w:World):(fun os=>segRunT treeTable PySem.Challenge.pw_dullglass_k52_texts_of_no_glasses w 11 (some (.ref 6)) 1 3406 (SharedT.mk (tA0 w.params) 15 lf0 (Array.mk []) boot_drawn 187 os) (piecesOf (behindTheImports PySem.Challenge.pw_dullglass_k52_texts_of_no_glasses) env0 cE0 ⟨0,0,0,0⟩ [topFrame ⟨0,0,0,0⟩]))=fun os=>some (.next,(SharedT.mk (tE0 w.params) 355 lf0 (Array.mk []) boot_drawn 654 os),cE0,⟨236,0,264,50⟩):=by
 rewrite [PySem.W.Fast.te10110043849684766642,PySem.W.Fast.te14364793385576792824,PySem.W.Fast.te9479057451099066356,PySem.W.Fast.te2665708160071446767,PySem.W.Fast.te13849342267361746138]
 kernel_rfl
theorem r_fin (w:World):(fun os=>topRun treeTable PySem.Challenge.pw_dullglass_k52_texts_of_no_glasses w 11 (some (.ref 6)) 2 (SharedT.mk (tE0 w.params) 355 lf0 (Array.mk []) boot_drawn 654 os).abs ⟨doneF .next,cE0,⟨236,0,264,50⟩,[topFrame ⟨0,0,0,0⟩]⟩)=fun os=>some (SharedT.mk (tE0 w.params) 355 lf0 (Array.mk []) boot_drawn 654 os).abs:=by
 rewrite [PySem.W.Fast.te14082659384304107361,PySem.W.Fast.te14364793385576792824,PySem.W.Fast.te9479057451099066356,PySem.W.Fast.te2665708160071446767]
 kernel_rfl
theorem r_run (w:World) (os:OsState):topRun treeTable PySem.Challenge.pw_dullglass_k52_texts_of_no_glasses w 11 (some (.ref 6)) (12+(1+(3406+2))) (Shared.mk (boot_heap w.params) (Array.mk []) boot_drawn boot_toks os) (topStub PySem.Challenge.pw_dullglass_k52_texts_of_no_glasses)=some (SharedT.mk (tE0 w.params) 355 lf0 (Array.mk []) boot_drawn 654 os).abs :=
 go_top (congrFun (r_pre w) os) (piece_block (congrFun (r_block w) os) (by
  have q:=piece_app (rest:=[]) (segRun_of (congrFun (r_all w) os)) (piece_nil (congrFun (r_fin w) os))
  rwa [List.append_nil] at q))
theorem r_open:opening PySem.Challenge.pw_dullglass_k52_texts_of_no_glasses=plainProg PySem.Challenge.pw_dullglass_k52_texts_of_no_glasses.main.scope.names:=by kernel_rfl
theorem r_fence (s:Shared):fenceModules? PySem.Challenge.pw_dullglass_k52_texts_of_no_glasses s=some s:=by kernel_rfl
theorem r_size (w:World):((boot_heap w.params).isNs mainGlobals&&(Array.mk []:Array GenState).size==0,(boot_heap w.params).objs.size,(boot_heap w.params).nsMap mainGlobals "__annotations__")=(true,11,(some (.ref 6))):=by kernel_rfl
theorem l_one (w:World):(fun os=>(staticsOk (importedModules PySem.Challenge.pw_dullglass_k52_texts_of_no_glasses.main.body) (boot_heap w.params) (absHeap (tE0 w.params) 355 lf0)&&namesBound PySem.Challenge.pw_dullglass_k52_texts_of_no_glasses (absHeap (tE0 w.params) 355 lf0)&&gensDone (Shared.mk (absHeap (tE0 w.params) 355 lf0) (Array.mk []) boot_drawn 654 os)&&laidKept (boot_heap w.params) (absHeap (tE0 w.params) 355 lf0)))=fun _=>true:=by
 rewrite [PySem.W.Fast.te5923862056798008813,PySem.W.Fast.te9479057451099066356]
 kernel_rfl
theorem l_two (w:World):(fun os=>openSeen (view PySem.Challenge.pw_dullglass_k52_texts_of_no_glasses [57]) ls0 (importedModules PySem.Challenge.pw_dullglass_k52_texts_of_no_glasses.main.body) (fun _=>true) true (Shared.mk (absHeap (tE0 w.params) 355 lf0) (Array.mk []) boot_drawn 654 os))=fun _=>openGood (view PySem.Challenge.pw_dullglass_k52_texts_of_no_glasses [57]) ls0:=by
 rewrite [PySem.W.Fast.te4187177175401517315,PySem.W.Fast.te5923862056798008813,PySem.W.Fast.te9479057451099066356,PySem.W.Fast.te4294247251607483543]
 kernel_rfl
def K0 (P:Params):Frag:=(nat_lit 2,(boot_o_2 P))::(nat_lit 3,(o3 P))::(nat_lit 23,(o23 P))::(nat_lit 24,o24)::(nat_lit 25,o25)::(nat_lit 36,(o36 P))::(nat_lit 37,o37)::(nat_lit 48,(o48 P))::(nat_lit 49,o49)::(nat_lit 60,(o60 P))::(nat_lit 61,o61)::(nat_lit 72,(o72 P))::(nat_lit 73,o73)::(nat_lit 84,(o84 P))::(nat_lit 85,o85)::(nat_lit 96,(o96 P))::(nat_lit 97,o97)::(nat_lit 108,(o108 P))::(nat_lit 109,o109)::(nat_lit 120,(o120 P))::(nat_lit 121,o121)::(nat_lit 132,(o132 P))::(nat_lit 133,o133)::(nat_lit 144,(o144 P))::(nat_lit 145,o145)::(nat_lit 153,o153)::(nat_lit 154,o154)::(nat_lit 160,o160)::(nat_lit 161,o161)::(nat_lit 167,o167)::(nat_lit 168,o168)::(nat_lit 174,o174)::(nat_lit 175,o175)::(nat_lit 181,o181)::(nat_lit 182,o182)::(nat_lit 188,o188)::(nat_lit 189,o189)::(nat_lit 193,o193)::(nat_lit 194,o194)::(nat_lit 198,o198)::(nat_lit 199,o199)::(nat_lit 203,o203)::(nat_lit 204,o204)::(nat_lit 210,o210)::(nat_lit 211,o211)::(nat_lit 215,o215)::(nat_lit 216,o216)::(nat_lit 220,o220)::(nat_lit 221,o221)::(nat_lit 227,o227)::(nat_lit 228,o228)::(nat_lit 234,o234)::(nat_lit 235,o235)::(nat_lit 241,o241)::(nat_lit 242,o242)::(nat_lit 246,o246)::(nat_lit 247,o247)::(nat_lit 251,o251)::(nat_lit 252,o252)::(nat_lit 258,o258)::(nat_lit 259,o259)::(nat_lit 265,o265)::(nat_lit 266,o266)::(nat_lit 270,o270)::(nat_lit 271,o271)::(nat_lit 275,o275)::(nat_lit 276,o276)::(nat_lit 282,o282)::(nat_lit 283,o283)::(nat_lit 289,o289)::(nat_lit 290,o290)::(nat_lit 296,o296)::(nat_lit 297,o297)::(nat_lit 301,o301)::(nat_lit 302,o302)::(nat_lit 308,o308)::(nat_lit 309,o309)::(nat_lit 315,o315)::(nat_lit 316,o316)::(nat_lit 320,o320)::(nat_lit 321,o321)::(nat_lit 327,o327)::(nat_lit 328,o328)::(nat_lit 332,o332)::(nat_lit 333,o333)::(nat_lit 339,o339)::(nat_lit 340,o340)::(nat_lit 346,o346)::(nat_lit 347,o347)::(nat_lit 353,o353)::(nat_lit 354,o354)::[]
def as0:List Addr:=[2,3,23,24,25,36,37,48,49,60,61,72,73,84,85,96,97,108,109,120,121,132,133,144,145,153,154,160,161,167,168,174,175,181,182,188,189,193,194,198,199,203,204,210,211,215,216,220,221,227,228,234,235,241,242,246,247,251,252,258,259,265,266,270,271,275,276,282,283,289,290,296,297,301,302,308,309,315,316,320,321,327,328,332,333,339,340,346,347,353,354]
theorem l_three (w:World):(fun (os:OsState)=>as0.map (absHeap (tE0 w.params) 355 lf0).get?)=fun _=>(K0 w.params).map fun p=>some p.2:=by kernel_rfl
theorem left0:LeftO PySem.Challenge.pw_dullglass_k52_texts_of_no_glasses (view PySem.Challenge.pw_dullglass_k52_texts_of_no_glasses [57]) ls0 (fun _=>true) (fun s=>as0.map s.heap.get?) (fun w=>(K0 w.params).map fun p=>some p.2) 100000 :=
 LeftO.of_pieces (H₀:=boot_heap) (H₁:=fun P=>absHeap (tE0 P) 355 lf0) (gs₁:=Array.mk []) (d₁:=boot_drawn) (k₁:=654) (boot_open r_open rfl r_fence) r_size r_run rfl fun w=>by
  funext os
  exact congr (congrArg Prod.mk (congrFun (l_one w) os)) (congr (congrArg Prod.mk (congrFun (l_two w) os)) (congrFun (l_three w) os))
end
end My
open PySem PySem.W PyProof.Rows
set_option maxRecDepth 100000 in
set_option maxHeartbeats 0 in
theorem PySem.Challenge.cw_dullglass_k52_texts_of_no_glasses_holds : PySem.Challenge.rw_dullglass_k52_texts_of_no_glasses.Holds := by
 w_on;o_law
 refine holds_open (q:=view PySem.Challenge.pw_dullglass_k52_texts_of_no_glasses [57]) (XP:=fun _ _=>True) (YP:=InK My.K0) My.left0 (InK.of fun _=>by kernel_rfl) InK.keeps (fun _ _=>True.intro) (fun _ _ _ _ _=>True.intro) (by rfl) (by rfl) (by rfl) (fun s _=>recFacts_nil rfl) (by rfl) (by assumption) (by decide +kernel) ⟨rfl,rfl,rfl,rfl,rfl,by decide +kernel⟩ ?hw ?hc
 case hw=>w_witness2
 k_fill
 refine My.walk (l:=PySem.Challenge.rw_dullglass_k52_texts_of_no_glasses) rfl rfl (fun w h Y=>Y) ?F
 case F =>
  intro w mg fa h KX G hmg
  refine' My.all_mk KX G hmg ..
  iterate 3 all_goals try first|k_is|k_exc|rfl|(refine' My.DK.mk ?a (My.LK.mk ?l ?c ?k); (case a=>k_is); (case l=>k_is); (case c=>k_is); (case k=>k_is))|(refine' My.LK.mk ?l ?c ?k; (case l=>k_is); (case c=>k_is); (case k=>k_is))
