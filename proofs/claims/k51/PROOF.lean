import PyProof.Rows.All
import Wide.All
import OpenK.AllK
import Wide.FinOn
import Lean
import PyProof.EqAt
import PyProof.EqKinds
import PyProof.TupleCall
import PySem.Challenge.RW_dullglass_k51_glasses_written
set_option Elab.async false
set_option linter.all false
set_option maxRecDepth 100000
set_option maxHeartbeats 4000000
set_option genSizeOf false
set_option genInjectivity false
namespace L2
open PySem PySem.Spec PyProof.Rows
abbrev Key:=Sum Int Str
def keyIs:Key→Value→Bool
 | .inl k,v=>Value.isInt k v
 | .inr x,v=>Value.isStrOf x v
def keyH (w:World):Key→Int
 | .inl k=>hashInt k
 | .inr x=>hashStr w x
theorem keyIs_shape : ∀ {k:Key}{v:Value},keyIs k v=true→(∃ i t,k=Sum.inl i∧v=Value.int i t)∨(∃ x t,k=Sum.inr x∧v=Value.str x t)
 | .inl i,v,h=>by
  obtain ⟨t,e⟩:=Value.isInt_shape (k:=i) (v:=v) h
  exact .inl ⟨i,t,rfl,e⟩
 | .inr x,v,h=>by
  obtain ⟨t,e⟩:=Value.isStrOf_shape (x:=x) (v:=v) h
  exact .inr ⟨x,t,rfl,e⟩
theorem key_ll (a b:Int):decide ((Sum.inl a:Key)=Sum.inl b)=(a==b):=by
 by_cases e:a=b
 ·subst e;simp
 ·have h : ¬ (Sum.inl a:Key)=Sum.inl b:=fun q=>e (Sum.inl.inj q)
  rw [decide_eq_false h]
  exact (beq_eq_false_iff_ne.mpr e).symm
theorem key_rr (a b:Str):decide ((Sum.inr a:Key)=Sum.inr b)=decide (a=b):=by
 by_cases e:a=b
 ·subst e;simp
 ·have h : ¬ (Sum.inr a:Key)=Sum.inr b:=fun q=>e (Sum.inr.inj q)
  rw [decide_eq_false h,decide_eq_false e]
theorem key_lr (a:Int) (b:Str):decide ((Sum.inl a:Key)=Sum.inr b)=false:=decide_eq_false (fun q=>nomatch q)
theorem key_rl (a:Str) (b:Int):decide ((Sum.inr a:Key)=Sum.inl b)=false:=decide_eq_false (fun q=>nomatch q)
def mixKind (prog:Program) (w:World):PySem.KeyKind prog w Key where
 is:=keyIs
 hash:=keyH w
 inj:=fun v a b ha hb=>by
  rcases keyIs_shape ha with ⟨i,t,rfl,rfl⟩|⟨x,t,rfl,rfl⟩
  ·rcases keyIs_shape hb with ⟨j,u,rfl,e⟩|⟨y,u,rfl,e⟩
   ·injection e with e1 _;rw [e1]
   ·exact nomatch e
  ·rcases keyIs_shape hb with ⟨j,u,rfl,e⟩|⟨y,u,rfl,e⟩
   ·exact nomatch e
   ·injection e with e1 _;rw [e1]
 byValue:=fun k v h=>by
  rcases keyIs_shape h with ⟨i,t,rfl,rfl⟩|⟨x,t,rfl,rfl⟩ <;> rfl
 pyHash:=fun hv h=>by
  rcases keyIs_shape hv with ⟨i,t,rfl,rfl⟩|⟨x,t,rfl,rfl⟩
  ·exact wpAny_pyHash_int h
  ·exact wpAny_pyHash_str h
 eqBool:=fun hu hv h=>by
  rcases keyIs_shape hu with ⟨i,t,rfl,rfl⟩|⟨x,t,rfl,rfl⟩
  ·rcases keyIs_shape hv with ⟨j,u,rfl,rfl⟩|⟨y,u,rfl,rfl⟩
   ·rw [key_ll] at h;exact wpAny_eqBool_int h
   ·rw [key_lr] at h;exact SeqAt.EqAt.int_str i t y u _ _ _ _ h
  ·rcases keyIs_shape hv with ⟨j,u,rfl,rfl⟩|⟨y,u,rfl,rfl⟩
   ·rw [key_rl] at h;exact SeqAt.EqAt.str_int x t j u _ _ _ _ h
   ·rw [key_rr] at h;exact wpAny_eqBool_str h
 «strs»:=fun k x t v h=>by
  rcases keyIs_shape h with ⟨i,u,rfl,e⟩|⟨y,u,rfl,e⟩
  ·exact nomatch e
  ·injection e with e1 _
   subst e1
   cases v <;> rfl
end L2
namespace L2
open PySem PySem.Spec PyProof.Rows
inductive V where
 | non|bl (b:Bool)|int (i:Int)|str (x:Str)|byt (b:Array UInt8)|flt (b:UInt64)|ref (a:Addr)|ty (n:String)
 deriving DecidableEq
def RelV:V→Value→Prop
 | .non,u=>u=Value.none
 | .bl b,u=>u=Value.bool b
 | .int i,u => ∃ t,u=Value.int i t
 | .str x,u => ∃ t,u=Value.str x t
 | .byt b,u => ∃ t,u=Value.bytes b t
 | .flt b,u => ∃ t,u=Value.float b t
 | .ref a,u=>u=Value.ref a
 | .ty n,u=>u=Value.type n
abbrev Vals:List V→List Value→Prop:=Paired RelV
theorem Vals.length {xs:List V}{us:List Value} (r:Vals xs us):xs.length=us.length:=Paired.length r
theorem Vals.get : ∀ {xs:List V}{us:List Value}{i:Nat}{x:V},Vals xs us→xs[i]?=some x → ∃ u,us[i]?=some u∧RelV x u
 | _,_,_,_,.nil,e=>by simp at e
 | _,_,0,_,.cons r _,e=>by simp at e;subst e;exact ⟨_,rfl,r⟩
 | _,_,i+1,x,.cons _ t,e=>by
  obtain ⟨u,h1,h2⟩:=Vals.get (i:=i) (x:=x) t (by simpa using e)
  exact ⟨u,by simpa using h1,h2⟩
theorem Vals.append : ∀ {xs ys:List V}{us ws:List Value},Vals xs us→Vals ys ws→Vals (xs++ys) (us++ws)
 | _,_,_,_,.nil,s=>s
 | _,_,_,_,.cons r t,s => .cons r (Vals.append t s)
def RelO:Option V→Option Value→Prop
 | some v,some u=>RelV v u
 | none,none=>True
 | _,_=>False
def KV {κ:Type}:List (κ×V)→List (κ×Value)→Prop:=Paired fun (p:κ×V) (q:κ×Value)=>p.1=q.1∧RelV p.2 q.2
def kV:Key→V
 | .inl i => .int i
 | .inr x => .str x
inductive HO where
 | lst (xs:List V)
 | tup (xs:List V)
 | dK (kvs:List (Key×V))|dT (kvs:List (List Key×V))
 | set (S:Int→Bool) (n:Nat)
 | ins (C dx:Addr) (fs:List (Str×V))
 | own (x:Addr)
 | xd (fs:List (Str×V))
 | met (f x:Addr)
 | rng (lo hi:Int)
 | frz (o:Obj) (u:HO)
 | tbl (ps:Array Value)
 | ext (φ:Heap→Prop)
abbrev Hp:=Addr→Option HO
def upd (H:Hp) (a:Addr) (o:HO):Hp:=fun b=>if b=a then some o else H b
theorem upd_same {H:Hp}{a:Addr}{o:HO}:upd H a o a=some o:=by unfold upd;rw [if_pos rfl]
theorem upd_ne {H:Hp}{a b:Addr}{o:HO} (h:b≠a):upd H a o b=H b:=by unfold upd;rw [if_neg h]
theorem ne_of_none {H:Hp}{a b:Addr}{o:HO} (h:H a=some o) (h':H b=none):a≠b:=by
 intro e;subst e;rw [h] at h';cases h'
section
variable (P:Program) (w:World)
def ObjOk (H:Hp) (h:Heap) (a:Addr):HO→Prop
 | .lst xs=>xs.length≤sizeLine ∧ ∃ (its:List Value) (n:Nat),Vals xs its∧h.get? a=some { cls :=.type "list",data :=.seq its.toArray n }
 | .tup xs=>xs.length≤sizeLine ∧ ∃ its:List Value,Vals xs its∧IsTup h a its.toArray
 | .dK kvs=>kvs.length≤sizeLine∧(a==sysModules)=false ∧ ∃ vs,KV kvs vs∧h.DictOf (mixKind P w) a vs
 | .dT kvs=>kvs.length≤sizeLine∧(a==sysModules)=false ∧ ∃ xs:List (List Key×Addr×Value),
  Paired (fun (p:List Key×V) (q:List Key×Addr×Value)=>p.1=q.1∧H q.2.1=some (.tup (p.1.map kV))∧RelV p.2 q.2.2) kvs xs ∧
  ∃ o es ep,h.get? a=some o∧o.ExactDict∧o.data = .dict es ep∧es.toList=xs.map (entryOfKey (tupleKind (mixKind P w)))∧(xs.map (·.1)).Nodup
 | .set S n=>h.SetOf (intKind P w) a S n
 | .ins C dx fs=>H dx=some (.own a)∧fs.length≤1000∧dx≠a∧h.get? a=some (PySem.W.instObj C dx) ∧
  ∃ mA,h.Ns1 dx mA∧(∀ f,RelO (fs.lookup f) (mA f))∧PySem.Within mA (fs.map (·.1))
 | .own _ => ∃ o,h.get? a=some o
 | .xd fs => ∃ mA,h.Ns1 a mA ∧ ∀ f,RelO (fs.lookup f) (mA f)
 | .rng lo hi => ∃ t u v,h.get? a=some { cls :=.type "range",data :=.fields #[.int lo t,.int hi u,.int 1 v] }
 | .frz o u=>h.get? a=some o∧ObjOk H h a u
 | .tbl ps=>h.get? a=some { cls :=.none,data :=.fields ps }
 | .met f x=>h.get? a=some (PySem.W.methodObj (.ref f) (.ref x))
 | .ext φ=>φ h∧(∃ o,h.get? a=some o) ∧ ∀ h1 h2:Heap,φ h1→(∀ o,h1.get? a=some o→h2.get? a=some o)→φ h2
def HOk (H:Hp) (h:Heap):Prop := ∀ a o,H a=some o→ObjOk P w H h a o
end
section
variable {P:Program}{w:World}{H H':Hp}{h h':Heap}{a:Addr}{o:HO}
theorem ObjOk.lt (x:ObjOk P w H h a o):a<h.objs.size:=by
 cases o with
 | lst xs=>obtain ⟨_,_,_,_,e⟩:=x;exact Heap.lt_size e
 | tup xs=>obtain ⟨_,_,_,p⟩:=x;exact p.lt
 | dK kvs=>obtain ⟨_,_,_,_,o,_,_,e,_⟩:=x;exact Heap.lt_size e
 | dT kvs=>obtain ⟨_,_,_,_,o,_,_,e,_⟩:=x;exact Heap.lt_size e
 | set S n=>obtain ⟨o,_,_,_,e,_⟩:=x;exact Heap.lt_size e
 | ins C dx fs=>obtain ⟨_,_,_,e,_⟩:=x;exact Heap.lt_size e
 | own y=>obtain ⟨_,e⟩:=x;exact Heap.lt_size e
 | xd fs=>obtain ⟨_,⟨_,_,_,e,_⟩,_⟩:=x;exact Heap.lt_size e
 | rng lo hi=>obtain ⟨_,_,_,e⟩:=x;exact Heap.lt_size e
 | frz ob u=>obtain ⟨e,_⟩:=x;exact Heap.lt_size e
 | tbl ps=>exact Heap.lt_size (show h.get? a=some _ from x)
 | met f y=>exact Heap.lt_size (show h.get? a=some _ from x)
 | ext φ=>obtain ⟨_,⟨_,e⟩,_⟩:=x;exact Heap.lt_size e
theorem Paired.mapP {α β:Type}{F G:α→β→Prop} : ∀ {l₁:List α}{l₂:List β},Paired F l₁ l₂→(∀ a b,F a b→G a b)→Paired G l₁ l₂
 | _,_,.nil,_ => .nil
 | _,_,.cons r t,f => .cons (f _ _ r) (Paired.mapP t f)
theorem ObjOk.stay (x:ObjOk P w H h a o) (k : ∀ b u,(b=a∨H b=some (.own a))→h.get? b=some u→h'.get? b=some u)
 (ho : ∀ b,H b=some (.own a)→H' b=some (.own a)) (ht : ∀ b xs,H b=some (.tup xs)→H' b=some (.tup xs)):ObjOk P w H' h' a o:=by
  induction o with
  | lst xs=>obtain ⟨z,its,n,r,e⟩:=x;exact ⟨z,its,n,r,k _ _ (.inl rfl) e⟩
  | tup xs=>obtain ⟨z,its,r,ob,e,c⟩:=x;exact ⟨z,its,r,ob,k _ _ (.inl rfl) e,c⟩
  | dK kvs=>obtain ⟨z,y,vs,r,ob,es,ep,e,c⟩:=x;exact ⟨z,y,vs,r,ob,es,ep,k _ _ (.inl rfl) e,c⟩
  | dT kvs =>
   obtain ⟨z,y,xs,r,ob,es,ep,e,c⟩:=x
   exact ⟨z,y,xs,Paired.mapP r fun p q z=>⟨z.1,ht _ _ z.2.1,z.2.2⟩,ob,es,ep,k _ _ (.inl rfl) e,c⟩
  | set S n=>obtain ⟨ob,es,ep,t,e,c⟩:=x;exact ⟨ob,es,ep,t,k _ _ (.inl rfl) e,c⟩
  | ins C dx fs =>
   obtain ⟨d,z,ne,e,mA,⟨od,es,ep,e2,c⟩,r⟩:=x
   exact ⟨ho _ d,z,ne,k _ _ (.inl rfl) e,mA,⟨od,es,ep,k _ _ (.inr d) e2,c⟩,r⟩
  | own y=>obtain ⟨ob,e⟩:=x;exact ⟨ob,k _ _ (.inl rfl) e⟩
  | xd fs=>obtain ⟨mA,⟨od,es,ep,e,c⟩,r⟩:=x;exact ⟨mA,⟨od,es,ep,k _ _ (.inl rfl) e,c⟩,r⟩
  | rng lo hi=>obtain ⟨t,u,v,e⟩:=x;exact ⟨t,u,v,k _ _ (.inl rfl) e⟩
  | frz ob u ih=>obtain ⟨e,q⟩:=x;exact ⟨k _ _ (.inl rfl) e,ih q⟩
  | tbl ps =>
   have e:h.get? a=some { cls :=.none,data :=.fields ps }:=x
   show h'.get? a=some { cls :=.none,data :=.fields ps }
   exact k a _ (.inl rfl) e
  | met f y =>
   have e:h.get? a=some (PySem.W.methodObj (.ref f) (.ref y)):=x
   show h'.get? a=some (PySem.W.methodObj (.ref f) (.ref y))
   exact k a _ (.inl rfl) e
  | ext φ=>obtain ⟨p,⟨o,e⟩,st⟩:=x;exact ⟨st _ _ p fun o q=>k _ _ (.inl rfl) q,⟨o,k _ _ (.inl rfl) e⟩,st⟩
theorem HOk.lt (x:HOk P w H h) (e:H a=some o):a<h.objs.size:=(x a o e).lt
theorem HOk.fresh (x:HOk P w H h) (e:h.objs.size≤a):H a=none:=by
 cases q:H a with
 | none=>rfl
 | some u=>exact absurd (Nat.lt_of_lt_of_le (x.lt q) e) (Nat.lt_irrefl _)
theorem HOk.kept (x:HOk P w H h) (k : ∀ b u,h.get? b=some u→h'.get? b=some u):HOk P w H h':=fun a o e =>
 (x a o e).stay (fun b u _ q=>k b u q) (fun _ q=>q) fun _ _ q=>q
theorem HOk.laid (x:HOk P w H h) (k : ∀ b u,h.get? b=some u→h'.get? b=some u) (hp:h.objs.size≤a) (new:ObjOk P w (upd H a o) h' a o):HOk P w (upd H a o) h':=fun b u e=>by
 have hn:=x.fresh hp
 by_cases hb:b=a
 ·subst hb;rw [upd_same] at e;cases e;exact new
 ·rw [upd_ne hb] at e
  exact (x b u e).stay (fun c v _ q=>k c v q) (fun c q=>by rw [upd_ne (ne_of_none q hn)];exact q) fun c xs q=>by rw [upd_ne (ne_of_none q hn)];exact q
end
def Rd (H:Hp) (a:Addr) (u:HO):Prop:=H a=some u ∨ ∃ o,H a=some (.frz o u)
theorem Rd.ok {P:Program}{w:World}{H:Hp}{h:Heap}{a:Addr}{u:HO} (r:Rd H a u) (x:HOk P w H h):ObjOk P w H h a u:=by
 rcases r with r|⟨o,r⟩
 ·exact x a u r
 ·obtain ⟨_,q⟩:=x a _ r
  exact q
def Mut:Option HO→Prop
 | some (.lst _)=>True
 | some (.dK _)=>True
 | some (.dT _)=>True
 | some (.set _ _)=>True
 | some (.ins _ _ _)=>True
 | some (.ext _)=>True
 | _=>False
section
variable {P:Program}{w:World}{H:Hp}{h h':Heap}{x e:Addr}{o':HO}
theorem HOk.write (ok:HOk P w H h) (mu:Mut (H x)) (he:e=x∨H e=some (.own x)) (k : ∀ b u,b≠e→h.get? b=some u→h'.get? b=some u) (heo : ∃ u,h'.get? e=some u)
 (new:ObjOk P w (upd H x o') h' x o'):HOk P w (upd H x o') h':=fun b u q=>by
  have nown : ∀ c y,H c=some (.own y)→c≠x:=fun c y r z=>by subst z;rw [r] at mu;exact mu
  have ntup : ∀ c xs,H c=some (.tup xs)→c≠x:=fun c xs r z=>by subst z;rw [r] at mu;exact mu
  by_cases hb:b=x
  ·subst hb;rw [upd_same] at q;cases q;exact new
  ·rw [upd_ne hb] at q
   by_cases hbe:b=e
   ·have q':H b=some (.own x):=by
     rcases he with z|z
     ·exact absurd (hbe.trans z) hb
     ·rw [hbe];exact z
    rw [q] at q';cases q'
    obtain ⟨v,hv⟩:=heo
    exact ⟨v,by rw [hbe];exact hv⟩
   ·refine (ok b u q).stay (fun c v hc r=>k c v ?_ r) (fun c r=>by rw [upd_ne (nown c b r)];exact r) fun c xs r=>by rw [upd_ne (ntup c xs r)];exact r
    rcases hc with rfl|hc
    ·exact hbe
    ·rintro rfl
     rcases he with z|z
     ·exact nown c b hc z
     ·rw [hc] at z;cases z;exact hb rfl
end
def CodeO (o:Obj):Prop := ∃ vs q t,o.data = .fields vs∧vs[1]?=some (.str q t)
structure GoodT (H:Hp) (ps:Array Value):Prop where
 tr:TriplesOk ps.toList
 co : ∀ (pos:Pos) (v:Value),codeAmong pos ps.toList=some v → ∃ c o u,v = .ref c∧H c=some (.frz o u)∧CodeO o
theorem GoodT.nil {H:Hp}:GoodT H #[]:=⟨trivial,fun pos v h=>by simp [codeAmong] at h⟩
theorem GoodT.mono {H H':Hp}{ps:Array Value} (g:GoodT H ps) (f : ∀ b o u,H b=some (.frz o u)→H' b=some (.frz o u)):GoodT H' ps:=⟨g.tr,fun pos v h=>by
 obtain ⟨c,o,u,z,e,k⟩:=g.co pos v h
 exact ⟨c,o,u,z,f _ _ _ e,k⟩⟩
theorem triples_app : ∀ {a b:List Value},TriplesOk a→TriplesOk b→TriplesOk (a++b)
 | [],_,_,h=>h
 | .int _ _ :: .int _ _::_::r,_,g,h=>triples_app (a:=r) g h
theorem among_app {pos:Pos}{v:Value} : ∀ {a b:List Value},TriplesOk a→codeAmong pos (a++b)=some v→codeAmong pos a=some v∨codeAmong pos b=some v
 | [],_,_,h => .inr h
 | .int i _ :: .int j _::x::r,b,g,h=>by
  have h:(if i==pos.line&&j==pos.col then some x else codeAmong pos (r++b))=some v:=h
  show (if i==pos.line&&j==pos.col then some x else codeAmong pos r)=some v∨_
  split at h
  ·left;rw [if_pos (by assumption)];exact h
  ·rw [if_neg (by assumption)];exact among_app (a:=r) g h
theorem GoodT.app {H:Hp}{a b:Array Value} (g:GoodT H a) (k:GoodT H b):GoodT H (a++b):=⟨by rw [Array.toList_append];exact triples_app g.tr k.tr,fun pos v h=>by
 rw [Array.toList_append] at h
 rcases among_app g.tr h with h|h
 ·exact g.co pos v h
 ·exact k.co pos v h⟩
structure Un (fs ex:List Addr) (H H':Hp) (h h':Heap):Prop where
 keep : ∀ b o,h.get? b=some o→H b=none→b ∉ fs→b ∉ ex→h'.get? b=some o
 slot : ∀ b o,h.get? b=some o→H b=none→b ∈ fs→b ∉ ex → ∃ sl,h'.get? b=some { o with slots:=sl }
 free : ∀ b o,h.get? b=some o→H b=none→b ∉ ex→H' b=none
 there : ∀ b o,h.get? b=some o→b ∉ ex → ∃ o',h'.get? b=some o'
 tups : ∀ b xs,H b=some (.tup xs)→H' b=some (.tup xs)
 frzs : ∀ b o u,H b=some (.frz o u)→H' b=some (.frz o u)
 tbls : ∀ b ps,H b=some (.tbl ps) → ∃ more,H' b=some (.tbl (ps++more))∧GoodT H' more
section
variable {fs fs' ex ex':List Addr}{H H1 H2:Hp}{h h1 h2 h':Heap}{a x e:Addr}{o:HO}
theorem Un.any (u:Un fs ex H H1 h h1) {b:Addr}{ob:Obj} (q:h.get? b=some ob) (n:H b=none) (hx:b ∉ ex) : ∃ sl,h1.get? b=some { ob with slots:=sl }:=by
 by_cases hb:b ∈ fs
 ·exact u.slot b ob q n hb hx
 ·exact ⟨ob.slots,u.keep b ob q n hb hx⟩
theorem Un.kept (k : ∀ b u,h.get? b=some u→h'.get? b=some u):Un fs ex H H h h' :=
 ⟨fun b ob q _ _ _=>k b ob q,fun b ob q _ _ _=>⟨ob.slots,k b ob q⟩,fun _ _ _ n _=>n,fun b ob q _=>⟨ob,k b ob q⟩,fun _ _ q=>q,fun _ _ _ q=>q,fun _ ps q=>⟨#[],by rw [q];simp,.nil⟩⟩
theorem Un.refl:Un fs ex H H h h:=Un.kept fun _ _ q=>q
theorem Un.laid (k : ∀ b u,h.get? b=some u→h'.get? b=some u) (hp:h.objs.size≤a) (hn:H a=none):Un fs ex H (upd H a o) h h' where
 keep:=fun b u q _ _ _=>k b u q
 slot:=fun b u q _ _ _=>⟨u.slots,k b u q⟩
 free:=fun b u q n _=>by rw [upd_ne (Nat.ne_of_lt (Nat.lt_of_lt_of_le (Heap.lt_size q) hp))];exact n
 there:=fun b u q _=>⟨u,k b u q⟩
 tups:=fun b xs q=>by rw [upd_ne (ne_of_none q hn)];exact q
 frzs:=fun b u xs q=>by rw [upd_ne (ne_of_none q hn)];exact q
 tbls:=fun b ps q=>⟨#[],by rw [upd_ne (ne_of_none q hn),q];simp,.nil⟩
theorem Un.write (mu:Mut (H x)) (he:e=x∨H e=some (.own x)) (k : ∀ b u,b≠e→h.get? b=some u→h'.get? b=some u) (heo : ∃ u,h'.get? e=some u):Un fs ex H (upd H x o) h h':=by
 have hx : ∀ b,H b=none→b≠x:=fun b n z=>by subst z;rw [n] at mu;exact mu
 have hb : ∀ b,H b=none→b≠e:=fun b n z=>by
  subst z
  rcases he with r|r
  ·exact hx b n r
  ·rw [n] at r;cases r
 have hm : ∀ b u,H b=some u → ¬ Mut (some u)→b≠x:=fun b u q nm z=>by subst z;rw [q] at mu;exact nm mu
 refine ⟨fun b u q n _ _=>k b u (hb b n) q,fun b u q n _ _=>⟨u.slots,k b u (hb b n) q⟩,fun b u q n _=>by rw [upd_ne (hx b n)];exact n,fun b u q _=>?_,
  fun b xs q=>by rw [upd_ne (hm b _ q fun z=>z)];exact q,fun b u xs q=>by rw [upd_ne (hm b _ q fun z=>z)];exact q,fun b ps q=>⟨#[],by rw [upd_ne (hm b _ q fun z=>z),q];simp,.nil⟩⟩
 by_cases hbe:b=e
 ·subst hbe;exact heo
 ·exact ⟨u,k b u hbe q⟩
end
def trk (h:Heap) (H:Hp):List Addr:=(List.range h.objs.size).filter fun a=>(H a).isSome
def hidT (h:Heap) (H:Hp):Heap:=PySem.W.hideAll h (trk h H)
theorem hidT_size (h:Heap) (H:Hp):(hidT h H).objs.size=h.objs.size:=PySem.W.hideAll_size _ _
theorem hidT_get {h:Heap}{H:Hp}{b:Addr}{o:Obj} (e:h.get? b=some o) (n:H b=none):(hidT h H).get? b=some o :=
 PySem.W.hideAll_get _ e fun hm=>by
  have q:(H b).isSome=true:=(List.mem_filter.mp hm).2
  rw [n] at q;simp at q
theorem of_hidT {h:Heap}{H:Hp}{b:Addr}{o:Obj} (e:(hidT h H).get? b=some o):h.get? b=some o∧H b=none:=by
 have e':h.get? b=some o:=PySem.W.of_hideAll (trk h H) e
 refine ⟨e',?_⟩
 cases q:H b with
 | none=>rfl
 | some x =>
  have hm:b ∈ trk h H:=List.mem_filter.mpr ⟨List.mem_range.mpr (Heap.lt_size e'),by simp [q]⟩
  have z:(hidT h H).get? b=none:=PySem.W.hideAll_none (trk h H) hm
  rw [z] at e;cases e
def allNews (g h:Heap) (L:Addr):List (Addr×Obj):=(List.range h.objs.size).filterMap fun a=>if a=L∨(g.get? a).isSome=true then none else (h.get? a).map fun o=>(a,o)
def rest (g h:Heap) (L d:Addr):List (Addr×Obj):=(allNews g h L).filter fun p=>decide (p.1≠d)
end L2
namespace L2
open PySem PySem.Spec PyProof.Rows
structure Mod (K:PySem.W.Frag) (mg:Str→Option Value) (base:Heap):Prop where
 kin:K.In base
 glob:base.Ns mainGlobals mg
 blt : ∃ mb,base.Ns builtinsNs mb ∧ ∀ x:Str,x ≠ "__name__" → mb x=bootBuiltins x
 nolimit:base.NoLimit
structure Cx where
 prog:Program
 w:World
 K:PySem.W.Frag
 mg:Str→Option Value
 base:Heap
 A:Around
 N:List Str
 s₀:Shared
 H₀:Hp
 env:Env
 outer:List Env
 stack:List Env
 ex:List Addr
 fn:Str→Bool
 calm:Bool
 pn:List (Addr×Obj)
 xe:Value→Shared→Prop
def frs (l:List Env):List Addr:=l.filterMap (·.frame)
abbrev Cx.fs (X:Cx):List Addr:=frs X.outer
def Vis (sc:Scope) (x:Str):Prop:=sc.names.lookup x=some .local∨sc.names.lookup x=some .cell∨sc.names.lookup x=some .free
def Loc (sc:Scope) (x:Str):Prop:=sc.names.lookup x=some .local∨sc.names.lookup x=some .cell
def Look (env:Env) (h:Heap) (m:Str→Option Value) (x:Str) (u:Value):Prop :=
 (env.kindOf x=some .local∧m x=some u)∨((env.kindOf x=some .cell∨env.kindOf x=some .free) ∧ ∃ c,env.cells.lookup x=some c∧h.IsCell c (some u))
structure Cx.Ok (X:Cx):Prop where
 mod:Mod X.K X.mg X.base
 kind:X.env.scope.kind = .function
 glob:X.env.globals=mainGlobals
 blt:X.env.builtins=builtinsNs
 above:X.s₀.heap.objs.size≤X.env.locals
 inj : ∀ x y c,X.env.cells.lookup x=some c→X.env.cells.lookup y=some c→x=y
 has : ∀ x,(X.env.kindOf x=some .cell∨X.env.kindOf x=some .free) → ∃ c,X.env.cells.lookup x=some c
 cab : ∀ x c,X.fn x=true→X.env.cells.lookup x=some c→X.s₀.heap.objs.size≤c
 hd:X.calm=true→X.A.handled=none
 frames:X.A.frames=some X.stack
 stk:X.stack=X.outer∨(X.stack=X.env::X.outer∧X.env.frame=some X.env.locals)
 exf : ∀ b ∈ X.ex,b≠X.env.locals ∧ ∀ x c,X.env.cells.lookup x=some c→c≠b
 bs : ∀ b o,X.base.get? b=some o→X.s₀.heap.get? b=some o∧X.H₀ b=none
 bsz:X.base.objs.size≤X.s₀.heap.objs.size
 noex : ∀ b o,X.base.get? b=some o→b ∉ X.ex
 exfs : ∀ b ∈ X.ex,b ∉ X.fs
 funs:X.s₀.heap.FunFrames X.base X.outer
 frf : ∀ b ∈ X.fs,X.H₀ b=none
structure Inv (X:Cx) (pins:List (Addr×Obj)) (σ:List (Option V)) (H:Hp) (s:Shared):Prop where
 ok:X.Ok
 os:s.os=X.s₀.os
 bare:AllBare s.gens
 base:Un X.fs X.ex X.H₀ H X.s₀.heap s.heap
 loc : ∃ m,s.heap.Ns X.env.locals m ∧ ∀ (i:Nat) (x:Str) (v:V),X.N[i]?=some x→σ[i]?=some (some v)→Vis X.env.scope x → ∃ u,RelV v u∧Look X.env s.heap m x u
 cell : ∀ x c,X.env.cells.lookup x=some c → ∃ v,s.heap.IsCell c v
 free:H X.env.locals=none
 freeC : ∀ x c,X.env.cells.lookup x=some c→H c=none
 pin : ∀ p ∈ X.pn++pins,s.heap.get? p.1=some p.2∧H p.1=none∧p.1≠X.env.locals∧p.1 ∉ X.fs ∧ ∀ v,p.2.data ≠ .cell v
 hok:HOk X.prog X.w H s.heap
 len:σ.length=X.N.length
section
variable {X:Cx}{pins:List (Addr×Obj)}{σ:List (Option V)}{H H':Hp}{s:Shared}{h':Heap}
theorem Cx.Ok.nofr (ok:X.Ok) {b:Addr}{o:Obj} (e:X.base.get? b=some o):b ∉ X.fs:=fun hb=>by
 have:=(ok.funs.mem hb).1
 rw [e] at this;cases this
theorem Inv.bs (I:Inv X pins σ H s) : ∀ b o,X.base.get? b=some o→s.heap.get? b=some o∧H b=none:=fun b o e =>
 ⟨I.base.keep b o (I.ok.bs b o e).1 (I.ok.bs b o e).2 (I.ok.nofr e) (I.ok.noex b o e),I.base.free b o (I.ok.bs b o e).1 (I.ok.bs b o e).2 (I.ok.noex b o e)⟩
theorem Inv.bk (I:Inv X pins σ H s) : ∀ b o,X.base.get? b=some o→s.heap.get? b=some o:=fun b o e=>(I.bs b o e).1
theorem Inv.mod (I:Inv X pins σ H s):Mod X.K X.mg X.base:=I.ok.mod
theorem Inv.kIn (I:Inv X pins σ H s):X.K.In s.heap:=I.ok.mod.kin.keeps I.bk
theorem Inv.lt (I:Inv X pins σ H s):X.env.locals<s.heap.objs.size:=let ⟨_,hn,_⟩:=I.loc;hn.lt
theorem Inv.sz (I:Inv X pins σ H s):X.s₀.heap.objs.size≤s.heap.objs.size:=Nat.le_trans I.ok.above (Nat.le_of_lt I.lt)
theorem Inv.nofs (I:Inv X pins σ H s) {a:Addr} (h:s.heap.objs.size≤a):a ∉ X.fs:=fun hb=>by
 obtain ⟨_,o,ho,_⟩:=I.ok.funs.mem hb
 exact absurd (Nat.lt_of_lt_of_le (Heap.lt_size ho) (Nat.le_trans I.sz h)) (Nat.lt_irrefl _)
theorem Inv.cne (I:Inv X pins σ H s) : ∀ x c,X.env.cells.lookup x=some c→c≠X.env.locals:=fun x c e z=>by
 obtain ⟨v,o,ho,hd⟩:=I.cell x c e
 obtain ⟨m,⟨o',es,ep,ho',hd',_⟩,_⟩:=I.loc
 rw [z,ho'] at ho;cases ho;rw [hd'] at hd;cases hd
theorem Inv.funs (I:Inv X pins σ H s):s.heap.FunFrames X.base X.outer:=by
 have all : ∀ (l:List Env),(∀ b ∈ frs l,b ∈ X.fs)→X.s₀.heap.FunFrames X.base l→s.heap.FunFrames X.base l:=by
  intro l
  induction l with
  | nil=>intro _ _;trivial
  | cons env r ih =>
   intro hs hl
   obtain ⟨hk,⟨L,o,hf,hn,ho,hd⟩,hr⟩:=hl
   have hL:L ∈ X.fs:=hs L (by unfold frs;rw [List.filterMap_cons,hf];exact List.mem_cons_self)
   obtain ⟨sl,e⟩:=I.base.slot L o ho (I.ok.frf L hL) hL fun z=>I.ok.exfs L z hL
   exact ⟨hk,⟨L,_,hf,hn,e,hd⟩,ih (fun b hb=>hs b (by unfold frs;rw [List.filterMap_cons,hf];exact List.mem_cons_of_mem _ hb)) hr⟩
 exact all X.outer (fun _ hb=>hb) I.ok.funs
theorem Inv.stack (I:Inv X pins σ H s):s.heap.FunFrames X.base X.stack:=by
 rcases I.ok.stk with e|⟨e,hf⟩
 ·rw [e];exact I.funs
 ·rw [e]
  obtain ⟨m,hn,_⟩:=I.loc
  refine .cons (by rw [I.ok.kind];decide) hf hn ?_ I.funs
  exact Heap.get?_none_of_le (Nat.le_trans I.ok.bsz I.ok.above)
theorem Inv.stkSub (I:Inv X pins σ H s) : ∀ b ∈ frs X.stack,b ∈ X.env.locals::X.fs:=fun b hb=>by
 rcases I.ok.stk with e|⟨e,hf⟩
 ·rw [e] at hb;exact List.mem_cons_of_mem _ hb
 ·rw [e] at hb
  unfold frs at hb
  rw [List.filterMap_cons,hf] at hb
  exact hb
theorem Inv.stkFree (I:Inv X pins σ H s) : ∀ b ∈ frs X.stack,H b=none:=fun b hb=>by
 rcases List.mem_cons.mp (I.stkSub b hb) with e|hb
 ·rw [e];exact I.free
 ·obtain ⟨_,o,ho,_⟩:=I.ok.funs.mem hb
  exact I.base.free b o ho (I.ok.frf b hb) fun z=>I.ok.exfs b z hb
theorem Inv.step {g':Array GenState}{t':Nat}{d':Drawn}{ch:List Addr} (I:Inv X pins σ H s)
 (hch : ∀ b ∈ ch,(b ∈ X.ex∨X.s₀.heap.objs.size≤b)∧b≠X.env.locals∧(∀ x c,X.env.cells.lookup x=some c→c≠b) ∧ ∀ p ∈ X.pn++pins,p.1≠b)
 (keep : ∀ b o,b≠X.env.locals→b ∉ X.fs→b ∉ ch→s.heap.get? b=some o→H b=none→h'.get? b=some o)
 (slot : ∀ b o,b≠X.env.locals→b ∈ X.fs→b ∉ ch→s.heap.get? b=some o→H b=none → ∃ sl,h'.get? b=some { o with slots:=sl }) (free : ∀ b o,b ∉ ch→s.heap.get? b=some o→H b=none→H' b=none)
  (there : ∀ b o,b ∉ ch→s.heap.get? b=some o → ∃ o',h'.get? b=some o')
  (tups : ∀ b xs,H b=some (.tup xs)→H' b=some (.tup xs)) (frzs : ∀ b o u,H b=some (.frz o u)→H' b=some (.frz o u)) (tbls : ∀ b ps,H b=some (.tbl ps) → ∃ more,H' b=some (.tbl (ps++more))∧GoodT H' more)
  (ns : ∀ m,s.heap.Ns X.env.locals m→h'.Ns X.env.locals m) (hok:HOk X.prog X.w H' h') (hg:AllBare g') :
  Inv X pins σ H' { s with heap:=h',gens:=g',drawn:=d',toks:=t' }:=by
  have neL : ∀ b o,X.s₀.heap.get? b=some o→b≠X.env.locals:=fun b o e=>Nat.ne_of_lt (Nat.lt_of_lt_of_le (Heap.lt_size e) I.ok.above)
  have neC : ∀ b o,X.s₀.heap.get? b=some o→b ∉ X.ex→b ∉ ch:=fun b o e hx hb=>by
   rcases (hch b hb).1 with z|z
   ·exact hx z
   ·exact absurd (Nat.lt_of_lt_of_le (Heap.lt_size e) z) (Nat.lt_irrefl _)
  have cellK : ∀ x c,X.env.cells.lookup x=some c → ∀ v,s.heap.IsCell c v→h'.IsCell c v:=fun x c e v xx1=>by
   obtain ⟨o,ho,hd⟩:=xx1
   have nch:c ∉ ch:=fun z=>(hch c z).2.2.1 x c e rfl
   by_cases hc:c ∈ X.fs
   ·obtain ⟨sl,q⟩:=slot c o (I.cne x c e) hc nch ho (I.freeC x c e)
    exact ⟨_,q,hd⟩
   ·exact ⟨o,keep c o (I.cne x c e) hc nch ho (I.freeC x c e),hd⟩
  refine ⟨I.ok,I.os,hg,⟨fun b o e n hb hx=>?_,fun b o e n hb hx=>?_,fun b o e n hx=>?_,fun b o e hx=>?_,fun b xs e=>tups b xs (I.base.tups b xs e),fun b o xs e=>frzs b o xs (I.base.frzs b o xs e),fun b ps e=>?_⟩,?_,fun x c e=>?_,?_,fun x c e=>?_,fun p hp=>?_,hok,I.len⟩
  ·exact keep b o (neL b o e) hb (neC b o e hx) (I.base.keep b o e n hb hx) (I.base.free b o e n hx)
  ·obtain ⟨sl,e1⟩:=I.base.slot b o e n hb hx
   obtain ⟨sl',e2⟩:=slot b _ (neL b o e) hb (neC b o e hx) e1 (I.base.free b o e n hx)
   exact ⟨sl',e2⟩
  ·obtain ⟨o',e1⟩:=I.base.there b o e hx
   exact free b o' (neC b o e hx) e1 (I.base.free b o e n hx)
  ·obtain ⟨o',e1⟩:=I.base.there b o e hx
   exact there b o' (neC b o e hx) e1
  ·obtain ⟨m1,e1,g1⟩:=I.base.tbls b ps e
   obtain ⟨m2,e2,g2⟩:=tbls b _ e1
   exact ⟨m1++m2,by rw [e2,Array.append_assoc],(g1.mono frzs).app g2⟩
  ·obtain ⟨m,hn,hl⟩:=I.loc
   refine ⟨m,ns m hn,fun i x v e1 e2 e3=>?_⟩
   obtain ⟨u,r,l⟩:=hl i x v e1 e2 e3
   refine ⟨u,r,?_⟩
   rcases l with l|⟨k,c,e,z⟩
   ·exact .inl l
   ·exact .inr ⟨k,c,e,cellK x c e _ z⟩
  ·obtain ⟨v,z⟩:=I.cell x c e
   exact ⟨v,cellK x c e v z⟩
  ·obtain ⟨m,⟨o,_,_,ho,_⟩,_⟩:=I.loc
   exact free _ o (fun z=>(hch _ z).2.1 rfl) ho I.free
  ·obtain ⟨v,o,ho,hd⟩:=I.cell x c e
   exact free c o (fun z=>(hch c z).2.2.1 x c e rfl) ho (I.freeC x c e)
  ·obtain ⟨e,n,ne,nf,d⟩:=I.pin p hp
   have nch:p.1 ∉ ch:=fun z=>(hch p.1 z).2.2.2 p hp rfl
   exact ⟨keep p.1 p.2 ne nf nch e n,free p.1 p.2 nch e n,ne,nf,d⟩
theorem Inv.un {t':Nat} (I:Inv X pins σ H s) (u:Un X.fs [] H H' s.heap h') (hok:HOk X.prog X.w H' h'):Inv X pins σ H' { s with heap:=h',toks:=t' }:=by
 obtain ⟨m,⟨o,es,ep,ho,r⟩,_⟩:=id I.loc
 obtain ⟨sl,hL⟩:=u.any ho I.free (by simp)
 exact I.step (g':=s.gens) (d':=s.drawn) (ch:=[]) (fun _ z=>nomatch z) (fun b o _ hb _ e n=>u.keep b o e n hb (by simp)) (fun b o _ hb _ e n=>u.slot b o e n hb (by simp)) (fun b o _ e n=>u.free b o e n (by simp)) (fun b o _ e=>u.there b o e (by simp)) u.tups u.frzs u.tbls (fun m' hm=>by
  obtain ⟨o',es',ep',ho',r'⟩:=hm
  rw [ho] at ho';cases ho'
  exact ⟨_,es',ep',hL,r'⟩) hok I.bare
theorem Inv.call {g':Array GenState}{t':Nat}{d':Drawn}{ch:List Addr} (I:Inv X pins σ H s) (u:Un (frs X.stack) ch H H' s.heap h') (hok:HOk X.prog X.w H' h') (hg:AllBare g')
 (hch : ∀ b ∈ ch,(b ∈ X.ex∨X.s₀.heap.objs.size≤b)∧b≠X.env.locals∧(∀ x c,X.env.cells.lookup x=some c→c≠b) ∧ ∀ p ∈ X.pn++pins,p.1≠b) :
 Inv X pins σ H' { s with heap:=h',gens:=g',drawn:=d',toks:=t' }:=by
  obtain ⟨m,⟨o,es,ep,ho,r⟩,_⟩:=id I.loc
  obtain ⟨sl,hL⟩:=u.any ho I.free fun z=>(hch _ z).2.1 rfl
  exact I.step (ch:=ch) hch (fun b o hL hb hc e n=>u.keep b o e n (fun z=>(List.mem_cons.mp (I.stkSub b z)).elim hL hb) hc) (fun b o _ _ hc e n=>u.any e n hc) (fun b o hc e n=>u.free b o e n hc) (fun b o hc e=>u.there b o e hc) u.tups u.frzs u.tbls (fun m' hm=>by
   obtain ⟨o',es',ep',ho',r'⟩:=hm
   rw [ho] at ho';cases ho'
   exact ⟨_,es',ep',hL,r'⟩) hok hg
theorem Inv.turned {t':Nat}{it:Addr} (I:Inv X pins σ H s) (k : ∀ b o,b≠it→s.heap.get? b=some o→h'.get? b=some o) (hn:H it=none) (hL:it≠X.env.locals)
 (h1:it ∈ X.ex∨X.s₀.heap.objs.size≤it) (h2 : ∀ x c,X.env.cells.lookup x=some c→c≠it) (h3 : ∀ p ∈ X.pn++pins,p.1≠it):Inv X pins σ H { s with heap:=h',toks:=t' }:=by
  have nit : ∀ b u,H b=some u→b≠it:=fun b u e z=>by rw [z,hn] at e;cases e
  refine I.step (g':=s.gens) (d':=s.drawn) (ch:=[it]) (fun b hb=>?_) (fun b o _ _ hc e _=>k b o (fun z=>hc (by simp [z])) e) (fun b o _ _ hc e _=>⟨o.slots,k b o (fun z=>hc (by simp [z])) e⟩) (fun _ _ _ _ n=>n)
   (fun b o hc e=>⟨o,k b o (fun z=>hc (by simp [z])) e⟩) (fun _ _ e=>e) (fun _ _ _ e=>e) (fun b ps e=>⟨#[],by rw [e];simp,.nil⟩) (fun m hm=>?_) (fun b u e=>?_) I.bare
  ·have e:b=it:=by simpa using hb
   subst e
   exact ⟨h1,hL,h2,h3⟩
  ·obtain ⟨o,es,ep,ho,r⟩:=hm
   exact ⟨o,es,ep,k _ o (Ne.symm hL) ho,r⟩
  ·refine (I.hok b u e).stay (fun c v hc q=>k c v ?_ q) (fun _ q=>q) fun _ _ q=>q
   rcases hc with z|z
   ·rw [z];exact nit b u e
   ·exact nit c _ z
theorem Inv.tok (I:Inv X pins σ H s) (t:Nat):Inv X pins σ H { s with toks:=t }:=I.un (h':=s.heap) (t':=t) Un.refl I.hok
theorem Inv.kept {t':Nat} (I:Inv X pins σ H s) (k : ∀ b u,s.heap.get? b=some u→h'.get? b=some u):Inv X pins σ H { s with heap:=h',toks:=t' }:=I.un (Un.kept k) (I.hok.kept k)
theorem Inv.laid {a:Addr}{o:HO}{t':Nat} (I:Inv X pins σ H s) (k : ∀ b u,s.heap.get? b=some u→h'.get? b=some u) (hp:s.heap.objs.size≤a) (new:ObjOk X.prog X.w (upd H a o) h' a o) :
 Inv X pins σ (upd H a o) { s with heap:=h',toks:=t' }:=I.un (Un.laid k hp (I.hok.fresh hp)) (I.hok.laid k hp new)
theorem Inv.write {x e:Addr}{o:HO}{t':Nat} (I:Inv X pins σ H s) (mu:Mut (H x)) (he:e=x∨H e=some (.own x)) (k : ∀ b u,b≠e→s.heap.get? b=some u→h'.get? b=some u) (heo : ∃ u,h'.get? e=some u)
 (new:ObjOk X.prog X.w (upd H x o) h' x o):Inv X pins σ (upd H x o) { s with heap:=h',toks:=t' }:=I.un (Un.write mu he k heo) (I.hok.write mu he k heo new)
theorem Inv.pins_of {pins':List (Addr×Obj)} (I:Inv X pins σ H s) (h : ∀ p ∈ pins',s.heap.get? p.1=some p.2∧H p.1=none∧p.1≠X.env.locals∧p.1 ∉ X.fs ∧ ∀ v,p.2.data ≠ .cell v):Inv X pins' σ H s :=
 ⟨I.ok,I.os,I.bare,I.base,I.loc,I.cell,I.free,I.freeC,fun p hp=>(List.mem_append.mp hp).elim (fun z=>I.pin p (List.mem_append_left _ z)) (h p),I.hok,I.len⟩
theorem nodup_ix {N:List Str} (hN:N.Nodup) {i j:Nat}{x:Str} (a:N[i]?=some x) (b:N[j]?=some x):i=j:=by
 obtain ⟨h1,e1⟩:=List.getElem?_eq_some_iff.mp a
 obtain ⟨h2,e2⟩:=List.getElem?_eq_some_iff.mp b
 exact (List.getElem_inj hN).mp (e1.trans e2.symm)
theorem store_ok2 {M:Model}{A:Around}{E:Value→Shared→Prop}{i:Nat}{x:Str}{v:V}{u:Value}{Q:Unit→Shared→Prop} (I:Inv X pins σ H s) (hN:X.N.Nodup) (hi:X.N[i]?=some x) (hx:Loc X.env.scope x) (r:RelV v u)
 (h : ∀ s',Inv X pins (σ.set i (some v)) H s'→(∃ a,Heap.SameBut a s.heap s'.heap∧(a=X.env.locals∨X.env.cells.lookup x=some a))→Q () s') (hf:X.fn x=true∨X.env.scope.names.lookup x=some .local:=by first|exact .inl rfl|exact .inr rfl|assumption):wpAny M A (storeName X.env x u) Q E s:=by
  obtain ⟨m,hn,hl⟩:=id I.loc
  have hcls:(X.env.scope.kind == .class||(X.env.scope.kind == .module&&X.env.locals != X.env.globals))=false:=by rw [I.ok.kind];rfl
  have hiσ:i<σ.length:=by rw [I.len];exact (List.getElem?_eq_some_iff.mp hi).1
  have cne:=I.cne
  have tracked : ∀ {a:Addr}{h':Heap},(∃ o,s.heap.get? a=some o∧H a=none)→Heap.SameBut a s.heap h'→HOk X.prog X.w H h':=fun {a h'} ha hs b ob e=>by
   obtain ⟨_,_,hfree⟩:=ha
   refine (I.hok b ob e).stay (fun c w' hc q=>(hs.2 c ?_).trans q) (fun _ q=>q) fun _ _ q=>q
   rintro rfl
   rcases hc with rfl|hc
   ·rw [hfree] at e;cases e
   ·rw [hfree] at hc;cases hc
  rcases hx with hk|hk
  ·refine wpAny_storeName_local hk hn (fun h' hn' hs=>?_) hcls
   obtain ⟨oL,_,_,hoL,_⟩:=id hn
   refine h _ ⟨I.ok,I.os,I.bare,⟨fun b o e n hb hx=>?_,fun b o e n hb hx=>?_,I.base.free,fun b o e hx=>?_,I.base.tups,I.base.frzs,I.base.tbls⟩,⟨_,hn',fun j y v' e1 e2 e3=>?_⟩,fun y c e=>?_,I.free,I.freeC,fun p hp=>?_,tracked ⟨oL,hoL,I.free⟩ hs,by simpa using I.len⟩ ⟨_,hs,.inl rfl⟩
   ·exact (hs.2 b (Nat.ne_of_lt (Nat.lt_of_lt_of_le (Heap.lt_size e) I.ok.above))).trans (I.base.keep b o e n hb hx)
   ·obtain ⟨sl,e1⟩:=I.base.slot b o e n hb hx
    exact ⟨sl,(hs.2 b (Nat.ne_of_lt (Nat.lt_of_lt_of_le (Heap.lt_size e) I.ok.above))).trans e1⟩
   ·obtain ⟨o',e1⟩:=I.base.there b o e hx
    exact ⟨o',(hs.2 b (Nat.ne_of_lt (Nat.lt_of_lt_of_le (Heap.lt_size e) I.ok.above))).trans e1⟩
   ·by_cases hj:j=i
    ·subst hj
     rw [hi] at e1;cases e1
     rw [List.getElem?_set_self hiσ] at e2
     cases e2
     exact ⟨u,r,.inl ⟨hk,by simp⟩⟩
    ·rw [List.getElem?_set_ne (Ne.symm hj)] at e2
     obtain ⟨u',r',q⟩:=hl j y v' e1 e2 e3
     refine ⟨u',r',?_⟩
     rcases q with ⟨k,e⟩|⟨k,c,e,z⟩
     ·refine .inl ⟨k,?_⟩
      have:y≠x:=fun e=>hj (nodup_ix hN e1 (e ▸ hi))
      simp [this,e]
     ·exact .inr ⟨k,c,e,z.sameBut hs (cne y c e)⟩
   ·obtain ⟨w',z⟩:=I.cell y c e
    exact ⟨w',z.sameBut hs (cne y c e)⟩
   ·obtain ⟨e,n,ne,nf,d⟩:=I.pin p hp
    exact ⟨(hs.2 p.1 ne).trans e,n,ne,nf,d⟩
  ·have hfn:X.fn x=true:=by
    rcases hf with z|z
    ·exact z
    ·rw [z] at hk;cases hk
   obtain ⟨c,hc⟩:=I.ok.has x (.inl hk)
   obtain ⟨w',z⟩:=I.cell x c hc
   refine wpAny_storeName_cell I.ok.kind hk hc z (fun h' hc' hs=>?_)
   obtain ⟨oc,hoc,hocd⟩:=id z
   refine h { s with heap:=h' } ⟨I.ok,I.os,I.bare,⟨fun b o e n hb hx=>?_,fun b o e n hb hx=>?_,I.base.free,fun b o e hx=>?_,I.base.tups,I.base.frzs,I.base.tbls⟩,⟨m,hn.sameBut hs (Ne.symm (cne x c hc)),fun j y v' e1 e2 e3=>?_⟩,fun y c' e=>?_,I.free,I.freeC,fun p hp=>?_,tracked ⟨oc,hoc,I.freeC x c hc⟩ hs,by simpa using I.len⟩ ⟨c,hs,.inr hc⟩
   ·exact (hs.2 b (Nat.ne_of_lt (Nat.lt_of_lt_of_le (Heap.lt_size e) (I.ok.cab x c hfn hc)))).trans (I.base.keep b o e n hb hx)
   ·obtain ⟨sl,e1⟩:=I.base.slot b o e n hb hx
    exact ⟨sl,(hs.2 b (Nat.ne_of_lt (Nat.lt_of_lt_of_le (Heap.lt_size e) (I.ok.cab x c hfn hc)))).trans e1⟩
   ·obtain ⟨o',e1⟩:=I.base.there b o e hx
    exact ⟨o',(hs.2 b (Nat.ne_of_lt (Nat.lt_of_lt_of_le (Heap.lt_size e) (I.ok.cab x c hfn hc)))).trans e1⟩
   ·by_cases hj:j=i
    ·subst hj
     rw [hi] at e1;cases e1
     rw [List.getElem?_set_self hiσ] at e2
     cases e2
     exact ⟨u,r,.inr ⟨.inl hk,c,hc,hc'⟩⟩
    ·rw [List.getElem?_set_ne (Ne.symm hj)] at e2
     obtain ⟨u',r',q⟩:=hl j y v' e1 e2 e3
     refine ⟨u',r',?_⟩
     rcases q with q|⟨k,c',e,z'⟩
     ·exact .inl q
     ·refine .inr ⟨k,c',e,z'.sameBut hs ?_⟩
      rintro rfl
      exact hj (nodup_ix hN e1 (I.ok.inj _ _ _ e hc ▸ hi))
   ·by_cases hcc:c'=c
    ·subst hcc;exact ⟨_,hc'⟩
    ·obtain ⟨w2,z2⟩:=I.cell y c' e
     exact ⟨w2,z2.sameBut hs hcc⟩
   ·obtain ⟨e,n,ne,nf,d⟩:=I.pin p hp
    refine ⟨(hs.2 p.1 ?_).trans e,n,ne,nf,d⟩
    intro q
    rw [q,hoc] at e
    have q':oc=p.2:=Option.some.inj e
    exact d w' (by rw [← q'];exact hocd)
theorem store_ok {M:Model}{A:Around}{E:Value→Shared→Prop}{i:Nat}{x:Str}{v:V}{u:Value}{Q:Unit→Shared→Prop} (I:Inv X pins σ H s) (hN:X.N.Nodup) (hi:X.N[i]?=some x) (hx:Loc X.env.scope x) (r:RelV v u)
 (h : ∀ s',Inv X pins (σ.set i (some v)) H s'→Q () s') (hf:X.fn x=true∨X.env.scope.names.lookup x=some .local:=by first|exact .inl rfl|exact .inr rfl|assumption):wpAny M A (storeName X.env x u) Q E s :=
  store_ok2 I hN hi hx r (fun s' I' _=>h s' I') hf
theorem Inv.call' {s':Shared}{ch:List Addr} (I:Inv X pins σ H s) (ho:s'.os=s.os) (u:Un (frs X.stack) ch H H' s.heap s'.heap) (hok:HOk X.prog X.w H' s'.heap) (hg:AllBare s'.gens)
 (hch : ∀ b ∈ ch,(b ∈ X.ex∨X.s₀.heap.objs.size≤b)∧b≠X.env.locals∧(∀ x c,X.env.cells.lookup x=some c→c≠b) ∧ ∀ p ∈ X.pn++pins,p.1≠b):Inv X pins σ H' s':=by
  obtain ⟨h',g',d',t',o'⟩:=s'
  have e:o'=s.os:=ho
  subst e
  exact I.call (g':=g') (t':=t') (d':=d') u hok hg hch
end
abbrev XK:=Value→Option Addr→Hp→Prop
abbrev St:=List (Option V)
abbrev VK:=V→Hp→Prop
abbrev TE:=St→Hp→VK→Prop
abbrev TT:=St→Hp→(Bool→Hp→Prop)→Prop
abbrev TA:=St→Hp→(List V→Hp→Prop)→Prop
structure Ends where
 nx:St→Hp→Prop
 rt:VK
 bk:St→Hp→Prop:=fun _ _=>False
 ct:St→Hp→Prop:=fun _ _=>False
abbrev TS:=Ends→St→Hp→Prop
def EP (X:Cx) (pins:List (Addr×Obj)) (σ:St) (Q:VK) (u:Value) (s':Shared):Prop := ∃ v H',Inv X pins σ H' s'∧RelV v u∧Q v H'
def TP (X:Cx) (pins:List (Addr×Obj)) (σ:St) (Q:Bool→Hp→Prop) (b:Bool) (s':Shared):Prop := ∃ H',Inv X pins σ H' s'∧Q b H'
def AP (X:Cx) (pins:List (Addr×Obj)) (σ:St) (Q:List V→Hp→Prop) (us:List Value) (s':Shared):Prop := ∃ vs H',Inv X pins σ H' s'∧Vals vs us∧Q vs H'
def SP (X:Cx) (pins:List (Addr×Obj)) (D:Ends) (f:Flow) (s':Shared):Prop :=
 match f with
 | .next => ∃ σ' H',Inv X pins σ' H' s'∧D.nx σ' H'
 | .brk => ∃ σ' H',Inv X pins σ' H' s'∧D.bk σ' H'
 | .cont => ∃ σ' H',Inv X pins σ' H' s'∧D.ct σ' H'
 | .ret u => ∃ v σ' H',Inv X pins σ' H' s'∧RelV v u∧D.rt v H'
def PE (X:Cx) (e:Expr) (t:TE):Prop :=
 ∀ (pins:List (Addr×Obj)) (s:Shared) (σ:St) (H:Hp) (Q:VK),Inv X pins σ H s→t σ H Q→wpAny (model X.prog X.w) X.A (eval e X.env) (EP X pins σ Q) X.xe s
def PT (X:Cx) (e:Expr) (t:TT):Prop :=
 ∀ (pins:List (Addr×Obj)) (s:Shared) (σ:St) (H:Hp) (Q:Bool→Hp→Prop),Inv X pins σ H s→t σ H Q→wpAny (model X.prog X.w) X.A (isTrue e X.env (eval e X.env)) (TP X pins σ Q) X.xe s
def PW (X:Cx) (e:Expr) (t:TT):Prop :=
 ∀ (whole:Sem Value) (pins:List (Addr×Obj)) (s:Shared) (σ:St) (H:Hp) (Q:Bool→Hp→Prop),Inv X pins σ H s→t σ H Q→wpAny (model X.prog X.w) X.A (isTrue e X.env whole) (TP X pins σ Q) X.xe s
theorem PW.pt {X:Cx}{e:Expr}{t:TT} (h:PW X e t):PT X e t:=h _
def PA (X:Cx) (es:List Expr) (t:TA):Prop :=
 ∀ (pos:Pos) (pins:List (Addr×Obj)) (s:Shared) (σ:St) (H:Hp) (Q:List V→Hp→Prop),Inv X pins σ H s→t σ H Q→wpAny (model X.prog X.w) X.A (spliced (backTo pos (starEach es X.env))) (AP X pins σ Q) X.xe s
def PS (X:Cx) (st:Stmt) (t:TS):Prop :=
 ∀ (pins:List (Addr×Obj)) (s:Shared) (σ:St) (H:Hp) (D:Ends),Inv X pins σ H s→t D σ H→wpAny (model X.prog X.w) X.A (exec st X.env) (SP X pins D) X.xe s
def PSs (X:Cx) (st:List Stmt) (t:TS):Prop :=
 ∀ (pins:List (Addr×Obj)) (s:Shared) (σ:St) (H:Hp) (D:Ends),Inv X pins σ H s→t D σ H→wpAny (model X.prog X.w) X.A (execs st X.env) (SP X pins D) X.xe s
theorem thn {α:Type}{t:Sem α}{Q Q':α→Shared→Prop}{M:Model}{A:Around}{E:Value→Shared→Prop}{s:Shared} (h:wpAny M A t Q E s) (hQ : ∀ a s,Q a s→Q' a s):wpAny M A t Q' E s:=wpAny_mono h hQ fun _ _ x=>x
end L2
namespace L2
open PySem PySem.Spec PyProof.Rows
section
variable {X:Cx}
def tVar (i:Nat):TE:=fun σ H Q => ∃ v,σ[i]?=some (some v)∧Q v H
def tC (v:V):TE:=fun _ H Q=>Q v H
theorem pe_var {i:Nat}{x:Str}{pos:Pos} (hN:X.N[i]?=some x) (hv:Vis X.env.scope x) (hd:(x==("__debug__" : Str))=false:=by decide) (hcd:(x==("__classdict__" : Str))=false:=by decide):PE X (.Name x pos) (tVar i):=by
 intro pins s σ H Q I h
 obtain ⟨v,e,h⟩:=h
 obtain ⟨m,hn,hl⟩:=I.loc
 obtain ⟨u,r,l⟩:=hl i x v hN e hv
 have fin:EP X pins σ Q u s:=⟨v,H,I,r,h⟩
 rcases l with ⟨hk,hm⟩|⟨hk,c,hc,hcell⟩
 ·exact wpAny_Name (wpAny_loadName_local I.ok.kind hk hn hm fin) hd
 ·rcases hk with hk|hk
  ·exact wpAny_Name (wpAny_loadName_cell I.ok.kind hk hc hcell fin) hd
  ·exact wpAny_Name (wpAny_loadName_free I.ok.kind hk hc hcell fin hcd) hd
theorem pe_int {i j pos}:PE X (.Constant (.int i) j pos) (tC (.int i)):=fun _ _ _ H _ I h=>wpAny_Constant_int ⟨.int i,H,I.tok _,⟨_,rfl⟩,h⟩
theorem pe_bl {b j pos}:PE X (.Constant (.bool b) j pos) (tC (.bl b)):=fun _ _ _ H _ I h=>Constant_bool ⟨.bl b,H,I,rfl,h⟩
theorem pe_str {x j pos}:PE X (.Constant (.str x) j pos) (tC (.str x)):=fun _ _ _ H _ I h=>Calls.Constant_str ⟨.str x,H,I.tok _,⟨_,rfl⟩,h⟩
def Gl (X:Cx) (x:Str):Prop:=X.env.kindOf x=some .globalImplicit
theorem ld_glob {E:Value→Shared→Prop}{pins:List (Addr×Obj)}{s:Shared}{σ:St}{H:Hp}{x:Str}{u:Value}{pos:Pos}{Q:Value→Shared→Prop} (I:Inv X pins σ H s) (hg:Gl X x) (hm:X.mg x=some u) (h:Q u s)
 (hd:(x==("__debug__" : Str))=false:=by decide):wpAny (model X.prog X.w) X.A (eval (.Name x pos) X.env) Q E s :=
  Calls.Name_function_global I.ok.kind hg (Calls.loadGlobal_global (by rw [I.ok.glob];exact I.mod.glob.keeps I.bk) hm h) hd
theorem ld_blt {E:Value→Shared→Prop}{pins:List (Addr×Obj)}{s:Shared}{σ:St}{H:Hp}{x:Str}{u:Value}{pos:Pos}{Q:Value→Shared→Prop} (I:Inv X pins σ H s) (hg:Gl X x) (hm:X.mg x=none) (hv:bootBuiltins x=some u) (h:Q u s)
 (hn:x ≠ "__name__":=by decide) (hd:(x==("__debug__" : Str))=false:=by decide):wpAny (model X.prog X.w) X.A (eval (.Name x pos) X.env) Q E s:=by
  obtain ⟨mb,h1,h2⟩:=I.mod.blt
  exact Calls.Name_function_global I.ok.kind hg (Calls.loadGlobal_builtin (by rw [I.ok.glob];exact I.mod.glob.keeps I.bk) hm (by rw [I.ok.blt];exact h1.keeps I.bk) ((h2 x hn).trans hv) h) hd
theorem pe_glob {x:Str}{v:V}{u:Value}{pos:Pos} (hg:Gl X x) (hm:X.mg x=some u) (r:RelV v u) (hd:(x==("__debug__" : Str))=false:=by decide):PE X (.Name x pos) (tC v) :=
 fun _ _ _ H _ I h=>ld_glob I hg hm ⟨v,H,I,r,h⟩ hd
theorem pe_bltn {x:Str}{v:V}{u:Value}{pos:Pos} (hg:Gl X x) (hm:X.mg x=none) (hv:bootBuiltins x=some u) (r:RelV v u) (hn:x ≠ "__name__":=by decide) (hd:(x==("__debug__" : Str))=false:=by decide):PE X (.Name x pos) (tC v) :=
 fun _ _ _ H _ I h=>ld_blt I hg hm hv ⟨v,H,I,r,h⟩ hn hd
variable {a b:Expr}{ta tb:TE}{pos:Pos}
def tB (t:TE):TT:=fun σ H Q=>t σ H fun x H1 => ∃ c,x = .bl c∧Q c H1
theorem pt_val {e:Expr}{t:TE} (h:PE X e t) (he : ∀ whole,isTrue e X.env whole=(do let v ← whole;standAt e.pos;holding [v] (truthy v)):=by intro _;rfl):PT X e (tB t):=by
 intro pins s σ H Q I hw
 refine isTrue_plain (thn (h pins s σ H _ I hw) fun v s1 xx2=>?_) (he _)
 obtain ⟨x,H1,I1,r1,q1⟩:=xx2
 obtain ⟨d,rfl,q⟩:=q1
 cases r1
 exact wpAny_truthy_bool ⟨H1,I1,q⟩
variable {tA tB':TT}{rest:List Expr}
def tOr (t u:TT):TT:=fun σ H Q=>t σ H fun c H1=>if c=true then Q true H1 else u σ H1 Q
def tNot (t:TT):TT:=fun σ H Q=>t σ H fun c H1=>Q (!c) H1
theorem pw_or1 (ha:PT X a tA):PW X (.BoolOp .Or [a] pos) tA:=by
 intro wh pins s σ H Q I h
 refine isTrue_or (thn (ha pins s σ H Q I h) fun c s1 e=>?_)
 cases c with
 | false=>exact isTrue_or_nil e
 | true=>exact e
theorem pw_or (ha:PT X a tA) (hb:PW X (.BoolOp .Or (b::rest) pos) tB'):PW X (.BoolOp .Or (a::b::rest) pos) (tOr tA tB'):=by
 intro wh pins s σ H Q I h
 refine isTrue_or (thn (ha pins s σ H _ I h) fun c s1 xx3=>?_)
 obtain ⟨H1,I1,q1⟩:=xx3
 cases c with
 | true=>exact ⟨H1,I1,q1⟩
 | false=>exact hb wh pins s1 σ H1 Q I1 q1
theorem pt_not (ha:PT X a tA):PT X (.UnaryOp .Not a pos) (tNot tA):=by
 intro pins s σ H Q I h
 exact isTrue_not (ha pins s σ H (fun c H1=>Q (!c) H1) I h)
def tAndV (ta tb:TE):TE:=fun σ H Q=>ta σ H fun x H1 => ∃ c,x = .bl c∧if c=true then tb σ H1 Q else Q (.bl false) H1
def tOrV (ta tb:TE):TE:=fun σ H Q=>ta σ H fun x H1 => ∃ c,x = .bl c∧if c=true then Q (.bl true) H1 else tb σ H1 Q
def tNotV (ta:TE):TE:=fun σ H Q=>ta σ H fun x H1 => ∃ c,x = .bl c∧Q (.bl (!c)) H1
theorem pe_one {op}{t:TE} (h:PE X a t):PE X (.BoolOp op [a] pos) t:=fun pins s σ H Q I hw=>BoolOp_one (h pins s σ H Q I hw)
theorem pe_and (ha:PE X a ta) (hb:PE X (.BoolOp .And (b::rest) pos) tb):PE X (.BoolOp .And (a::b::rest) pos) (tAndV ta tb):=by
 intro pins s σ H Q I h
 refine BoolOp_and (thn (ha pins s σ H _ I h) fun v s1 xx4=>?_)
 obtain ⟨x,H1,I1,r1,q1⟩:=xx4
 obtain ⟨c,rfl,q1⟩:=q1
 cases r1
 refine wpAny_truthy_bool ?_
 cases c with
 | true=>exact hb pins s1 σ H1 Q I1 q1
 | false=>exact ⟨.bl false,H1,I1,rfl,q1⟩
theorem pe_or (ha:PE X a ta) (hb:PE X (.BoolOp .Or (b::rest) pos) tb):PE X (.BoolOp .Or (a::b::rest) pos) (tOrV ta tb):=by
 intro pins s σ H Q I h
 refine BoolOp_or (thn (ha pins s σ H _ I h) fun v s1 xx5=>?_)
 obtain ⟨x,H1,I1,r1,q1⟩:=xx5
 obtain ⟨c,rfl,q1⟩:=q1
 cases r1
 refine wpAny_truthy_bool ?_
 cases c with
 | false=>exact hb pins s1 σ H1 Q I1 q1
 | true=>exact ⟨.bl true,H1,I1,rfl,q1⟩
theorem pe_not (ha:PE X a ta):PE X (.UnaryOp .Not a pos) (tNotV ta):=by
 intro pins s σ H Q I h
 refine UnaryOp_ (thn (ha pins s σ H _ I h) fun v s1 xx6=>?_)
 obtain ⟨x,H1,I1,r1,q1⟩:=xx6
 obtain ⟨c,rfl,q1⟩:=q1
 cases r1
 exact not_of (wpAny_truthy_bool ⟨.bl (!c),H1,I1,rfl,q1⟩)
def tIf (t:TT) (ta tb:TE):TE:=fun σ H Q=>t σ H fun c H1=>if c=true then ta σ H1 Q else tb σ H1 Q
theorem pe_ifExp {c:Expr} (hc:PT X c tA) (ha:PE X a ta) (hb:PE X b tb):PE X (.IfExp c a b pos) (tIf tA ta tb):=by
 intro pins s σ H Q I h
 refine wpAny_IfExp (thn (hc pins s σ H _ I h) fun d s1 xx7=>?_)
 obtain ⟨H1,I1,q1⟩:=xx7
 cases d with
 | true=>exact ha pins s1 σ H1 Q I1 q1
 | false=>exact hb pins s1 σ H1 Q I1 q1
end
end L2
namespace L2
open PySem PySem.Spec PyProof.Rows
def SqL (K:PySem.W.Frag) (H:Hp) (a:Addr) (xs:List V):Prop :=
 Rd H a (.lst xs) ∨
  ∃ (o:Obj) (its:Array Value) (n:Nat),K.lookup a=some o∧o.cls = .type "list" ∧ o.dict=none∧o.data = .seq its n∧its.size≤sizeLine∧Vals xs its.toList
def SqT (K:PySem.W.Frag) (H:Hp) (a:Addr) (xs:List V):Prop :=
 Rd H a (.tup xs) ∨
  ∃ (o:Obj) (its:Array Value) (n:Nat),K.lookup a=some o∧o.cls = .type "tuple" ∧ o.data = .seq its n∧its.size≤sizeLine∧Vals xs its.toList
def absV:Value→Option V
 | .none=>some .non
 | .bool b=>some (.bl b)
 | .int i _=>some (.int i)
 | .str x _=>some (.str x)
 | .bytes b _=>some (.byt b)
 | .float b _=>some (.flt b)
 | .ref a=>some (.ref a)
 | .type n=>some (.ty n)
 | _=>none
theorem RelV.abs {x:V}{u:Value} (r:RelV x u):absV u=some x:=by
 cases x with
 | non=>cases r;rfl
 | bl _=>cases r;rfl
 | int _=>obtain ⟨t,rfl⟩:=r;rfl
 | str _=>obtain ⟨t,rfl⟩:=r;rfl
 | byt _=>obtain ⟨t,rfl⟩:=r;rfl
 | flt _=>obtain ⟨t,rfl⟩:=r;rfl
 | ref _=>cases r;rfl
 | ty _=>cases r;rfl
theorem RelV.inj {x y:V}{u:Value} (r:RelV x u) (q:RelV y u):x=y:=Option.some.inj (r.abs.symm.trans q.abs)
theorem Vals.inj : ∀ {xs ys:List V}{us:List Value},Vals xs us→Vals ys us→xs=ys
 | _,_,_,.nil,.nil=>rfl
 | _,_,_,.cons r t,.cons r' t'=>by rw [r.inj r',Vals.inj t t']
section
variable {X:Cx}{pins:List (Addr×Obj)}{σ:St}{H:Hp}{s:Shared}{a:Addr}{xs ys:List V}
theorem SqL.of {K:PySem.W.Frag} (h:H a=some (.lst xs)):SqL K H a xs :=.inl (.inl h)
theorem SqT.of {K:PySem.W.Frag} (h:H a=some (.tup xs)):SqT K H a xs :=.inl (.inl h)
theorem Inv.list (I:Inv X pins σ H s) (h:SqL X.K H a xs) : ∃ its:List Value,Vals xs its∧PlainL s.heap a its.toArray∧xs.length≤sizeLine:=by
 rcases h with h|⟨o,its,n,hk,hc,hd,hs,hz,r⟩
 ·obtain ⟨z,its,n,r,e⟩:=h.ok I.hok
  exact ⟨its,r,⟨_,n,e,rfl,rfl,rfl⟩,z⟩
 ·refine ⟨its.toList,r,⟨o,n,I.kIn a o hk,hc,hd,by simpa using hs⟩,?_⟩
  have e:=r.length
  simp only [Array.length_toList] at e
  omega
theorem Inv.tuple (I:Inv X pins σ H s) (h:SqT X.K H a xs) : ∃ its:List Value,Vals xs its∧IsTup s.heap a its.toArray∧xs.length≤sizeLine:=by
 rcases h with h|⟨o,its,n,hk,hc,hs,hz,r⟩
 ·obtain ⟨z,its,r,p⟩:=h.ok I.hok
  exact ⟨its,r,p,z⟩
 ·refine ⟨its.toList,r,⟨o,I.kIn a o hk,hc,n,by simpa using hs⟩,?_⟩
  have e:=r.length
  simp only [Array.length_toList] at e
  omega
theorem Inv.list_inj (I:Inv X pins σ H s) (h:SqL X.K H a xs) (h':SqL X.K H a ys):xs=ys:=by
 obtain ⟨its,r,⟨o,n,e,_,_,d⟩,_⟩:=I.list h
 obtain ⟨its',r',⟨o',n',e',_,_,d'⟩,_⟩:=I.list h'
 rw [e] at e';cases e'
 rw [d] at d'
 injection d' with d1 _
 have:its=its':=by simpa using congrArg Array.toList d1
 subst this
 exact r.inj r'
theorem Inv.tuple_inj (I:Inv X pins σ H s) (h:SqT X.K H a xs) (h':SqT X.K H a ys):xs=ys:=by
 obtain ⟨its,r,⟨o,e,_,n,d⟩,_⟩:=I.tuple h
 obtain ⟨its',r',⟨o',e',_,n',d'⟩,_⟩:=I.tuple h'
 rw [e] at e';cases e'
 rw [d] at d'
 injection d' with d1 _
 have:its=its':=by simpa using congrArg Array.toList d1
 subst this
 exact r.inj r'
end
abbrev Cx.wish (X:Cx) (E:Value→Shared→Prop):Cx:={ X with xe:=E }
abbrev Cx.nox (X:Cx):Cx:=X.wish fun _ _=>False
theorem Cx.Ok.wish {X:Cx} (ok:X.Ok) (E:Value→Shared→Prop):(X.wish E).Ok :=
 ⟨ok.mod,ok.kind,ok.glob,ok.blt,ok.above,ok.inj,ok.has,ok.cab,ok.hd,ok.frames,ok.stk,ok.exf,ok.bs,ok.bsz,ok.noex,ok.exfs,ok.funs,ok.frf⟩
theorem Cx.Ok.unwish {X:Cx}{E:Value→Shared→Prop} (ok:(X.wish E).Ok):X.Ok :=
 ⟨ok.mod,ok.kind,ok.glob,ok.blt,ok.above,ok.inj,ok.has,ok.cab,ok.hd,ok.frames,ok.stk,ok.exf,ok.bs,ok.bsz,ok.noex,ok.exfs,ok.funs,ok.frf⟩
section
variable {X:Cx}{pins:List (Addr×Obj)}{σ:St}{H:Hp}{s:Shared}{E:Value→Shared→Prop}
theorem Inv.wish (I:Inv X pins σ H s) (E:Value→Shared→Prop):Inv (X.wish E) pins σ H s:=⟨I.ok.wish E,I.os,I.bare,I.base,I.loc,I.cell,I.free,I.freeC,I.pin,I.hok,I.len⟩
theorem Inv.unwish (I:Inv (X.wish E) pins σ H s):Inv X pins σ H s:=⟨I.ok.unwish,I.os,I.bare,I.base,I.loc,I.cell,I.free,I.freeC,I.pin,I.hok,I.len⟩
theorem SP.unwish {D:Ends}{f:Flow}{s':Shared} (h:SP (X.wish E) pins D f s'):SP X pins D f s':=by
 cases f with
 | next=>obtain ⟨σ',H',I,q⟩:=h;exact ⟨σ',H',I.unwish,q⟩
 | brk=>obtain ⟨σ',H',I,q⟩:=h;exact ⟨σ',H',I.unwish,q⟩
 | cont=>obtain ⟨σ',H',I,q⟩:=h;exact ⟨σ',H',I.unwish,q⟩
 | ret u=>obtain ⟨v,σ',H',I,r,q⟩:=h;exact ⟨v,σ',H',I.unwish,r,q⟩
theorem PSs.nox {st:List Stmt}{t:TS} (h:PSs X.nox st t):PSs X st t:=fun pins s σ H D I hw =>
 wpAny_mono (h pins s σ H D (I.wish _) hw) (fun _ _ q=>q.unwish) fun _ _ z=>False.elim z
end
section
variable {X:Cx}{st:Stmt}{rest:List Stmt}{t u:TS}{e:Expr}{te:TE}{pos:Pos}
def tNext:TS:=fun D σ H=>D.nx σ H
def tSeq (t u:TS):TS:=fun D σ H=>t { D with nx:=u D } σ H
theorem pss_nil:PSs X [] tNext:=fun _ _ σ H _ I h=>wpAny_execs_nil ⟨σ,H,I,h⟩
theorem pss_cons (h1:PS X st t) (h2:PSs X rest u):PSs X (st::rest) (tSeq t u):=by
 intro pins s σ H D I h
 refine wpAny_execs_cons (thn (h1 pins s σ H { D with nx:=u D } I h) fun f s1 q=>?_)
 cases f with
 | next =>
  obtain ⟨σ',H',I',q⟩:=q
  exact h2 pins s1 σ' H' D I' q
 | ret v=>exact q
 | brk=>exact q
 | cont=>exact q
theorem pss_one (h1:PS X st t):PSs X [st] t:=by
 intro pins s σ H D I h
 refine wpAny_execs_cons (thn (h1 pins s σ H D I h) fun f s1 q=>?_)
 cases f with
 | next=>exact wpAny_execs_nil q
 | ret v=>exact q
 | brk=>exact q
 | cont=>exact q
theorem Inv.quiet {pins:List (Addr×Obj)}{σ:St}{H:Hp}{s:Shared} (I:Inv X pins σ H s):interactive X.env=false:=by simp [interactive,I.ok.kind]
def tDrop (te:TE):TS:=fun D σ H=>te σ H fun _ H1=>D.nx σ H1
theorem ps_expr (he:PE X e te) (hs:swapsWith e none pos.line X.env=pure false:=by rfl):PS X (.Expr e pos) (tDrop te):=by
 intro pins s σ H D I h
 exact wpAny_Expr_any (thn (he pins s σ H _ I h) fun v s1 xx10=>by obtain ⟨x,H1,I1,r1,q1⟩:=xx10;exact ⟨σ,H1,I1,q1⟩) I.quiet hs
def tRet (te:TE):TS:=fun D σ H=>te σ H D.rt
theorem ps_ret (he:PE X e te):PS X (.Return (some e) pos) (tRet te):=by
 intro pins s σ H D I h
 exact wpAny_Return_some (thn (he pins s σ H _ I h) fun v s1 xx11=>by obtain ⟨x,H1,I1,r1,q1⟩:=xx11;exact ⟨x,σ,H1,I1,r1,q1⟩)
def tIfS (c:TT) (t u:TS):TS:=fun D σ H=>c σ H fun b H1=>if b=true then t D σ H1 else u D σ H1
theorem ps_if {c:Expr}{a b:List Stmt}{tc:TT} (hc:PT X c tc) (ha:PSs X a t) (hb:PSs X b u):PS X (.If c a b pos) (tIfS tc t u):=by
 intro pins s σ H D I h
 refine wpAny_If (thn (hc pins s σ H _ I h) fun d s1 xx12=>?_)
 obtain ⟨H1,I1,q1⟩:=xx12
 cases d with
 | true=>exact ha pins s1 σ H1 D I1 q1
 | false=>exact hb pins s1 σ H1 D I1 q1
def tNever:TS:=fun _ _ _=>False
theorem pss_never {sts:List Stmt}:PSs X sts tNever:=fun _ _ _ _ _ _ h=>h.elim
end
abbrev TG:=V→St→Hp→(St→Hp→Prop)→Prop
abbrev TGs:=List V→St→Hp→(St→Hp→Prop)→Prop
def PG (X:Cx) (target:Expr) (t:TG):Prop :=
 ∀ (pins:List (Addr×Obj)) (s:Shared) (σ:St) (H:Hp) (v:V) (u:Value) (Q:St→Hp→Prop),Inv X pins σ H s→RelV v u→t v σ H Q →
  wpAny (model X.prog X.w) X.A (assign target X.env u) (fun _ s' => ∃ σ' H',Inv X pins σ' H' s'∧Q σ' H') X.xe s
def PGs (X:Cx) (ts:List Expr) (t:TGs):Prop :=
 ∀ (pins:List (Addr×Obj)) (s:Shared) (σ:St) (H:Hp) (vs:List V) (us:List Value) (Q:St→Hp→Prop),Inv X pins σ H s→Vals vs us→t vs σ H Q →
  wpAny (model X.prog X.w) X.A (assignInOrder ((assignEach ts X.env).map (·.2)) us) (fun _ s' => ∃ σ' H',Inv X pins σ' H' s'∧Q σ' H') X.xe s
section
variable {X:Cx}{pos:Pos}
def gName (i:Nat):TG:=fun v σ H Q=>Q (σ.set i (some v)) H
theorem pg_name {i:Nat}{x:Str} (hN:X.N.Nodup) (hi:X.N[i]?=some x) (hx:Loc X.env.scope x) (hf:X.fn x=true∨X.env.scope.names.lookup x=some .local:=by first|exact .inl rfl|exact .inr rfl|assumption):PG X (.Name x pos) (gName i):=by
 intro pins s σ H v u Q I r h
 exact wpAny_assign_Name (store_ok I hN hi hx r (fun s' I'=>⟨_,H,I',h⟩) hf)
def gNil:TGs:=fun vs σ H Q=>vs=[]∧Q σ H
def gCons (t:TG) (u:TGs):TGs:=fun vs σ H Q => ∃ v r,vs=v::r∧t v σ H fun σ' H'=>u r σ' H' Q
theorem pgs_nil:PGs X [] gNil:=by
 intro pins s σ H vs us Q I r h
 obtain ⟨e,h⟩:=h
 subst e
 cases r
 exact assignInOrder_nil ⟨σ,H,I,h⟩
theorem pgs_cons {e:Expr}{es:List Expr}{t:TG}{u:TGs} (h1:PG X e t) (h2:PGs X es u)
 (hs:(assignEach (e::es) X.env).map (·.2)=assign e X.env::(assignEach es X.env).map (·.2):=by rfl):PGs X (e::es) (gCons t u):=by
  intro pins s σ H vs us Q I r h
  obtain ⟨v,vr,e1,h⟩:=h
  subst e1
  cases r with
  | cons r rr =>
   rw [hs]
   refine assignInOrder_cons (thn (h1 pins s σ H _ _ _ I r h) fun _ s1 xx13=>?_)
   obtain ⟨σ1,H1,I1,q1⟩:=xx13
   exact h2 pins s1 σ1 H1 _ _ Q I1 rr q1
def gTup (K:PySem.W.Frag) (n:Nat) (t:TGs):TG:=fun v σ H Q => ∃ a xs,v = .ref a∧SqT K H a xs∧xs.length=n∧t xs σ H Q
theorem pg_tup {es:List Expr}{k:Nat}{t:TGs}{n:Nat} (hc:X.calm=true) (h:PGs X es t)
 (hn:(assignEach es X.env).length=n:=by rfl) (hst:(assignEach es X.env).findIdx? (·.1)=none:=by rfl):PG X (.Tuple es k pos) (gTup X.K n t):=by
  intro pins s σ H v u Q I r hw
  obtain ⟨a,xs,e1,hq,hl,hw⟩:=hw
  subst e1
  cases r
  obtain ⟨its,rv,ht,hz⟩:=I.tuple hq
  refine assign_Tuple_tuple (I.ok.hd hc) ht (by simp [hn,← hl,rv.length]) hst fun h' hx=>?_
  have I1:Inv X pins σ H { s with heap:=h' }:=I.kept (t':=s.toks) fun b o e=>hx b o (Nat.ne_of_lt (Heap.lt_size e)) e
  exact h pins _ σ H xs _ Q I1 (by simpa using rv) hw
def tAsg (te:TE) (g:TG):TS:=fun D σ H=>te σ H fun x H1=>g x σ H1 D.nx
theorem ps_asg {tg e:Expr}{te:TE}{g:TG} (he:PE X e te) (hg:PG X tg g) (hs:swapsWithSole [tg] e pos.line X.env=pure false:=by rfl) (hw:swappedStores [tg] e X.env=pure none:=by rfl)
 (h1:(assignEach [tg] X.env).map (·.2)=[assign tg X.env]:=by rfl):PS X (.Assign [tg] e pos) (tAsg te g):=by
 intro pins s σ H D I h
 refine wpAny_Assign_stores (thn (he pins s σ H _ I h) fun v s1 xx14=>?_) hs hw
 obtain ⟨x,H1,I1,r1,q1⟩:=xx14
 rw [h1]
 exact thn (hg pins s1 σ H1 x v _ I1 r1 q1) fun _ s2 q=>q
theorem ps_set {i:Nat}{x:Str}{e:Expr}{te:TE}{pos':Pos} (hN:X.N.Nodup) (hi:X.N[i]?=some x) (hx:Loc X.env.scope x) (he:PE X e te) (hs:swapsWith e (some (.Name x pos')) pos.line X.env=pure false:=by rfl) (hf:X.fn x=true∨X.env.scope.names.lookup x=some .local:=by first|exact .inl rfl|exact .inr rfl|assumption) :
 PS X (.Assign [.Name x pos'] e pos) (tAsg te (gName i)):=by
 intro pins s σ H D I h
 refine wpAny_Assign_Name (thn (he pins s σ H _ I h) fun v s1 xx15=>?_) hs
 obtain ⟨y,H1,I1,r1,q1⟩:=xx15
 exact store_ok I1 hN hi hx r1 (fun s2 I2=>⟨_,H1,I2,q1⟩) hf
def tPar (i j:Nat) (ta:TA):TS:=fun D σ H=>ta σ H fun vs H1 => ∃ v w,vs=[v,w]∧D.nx ((σ.set i (some v)).set j (some w)) H1
theorem ps_par {i j:Nat}{x y:Str}{a b:Expr}{ta:TA}{px py pt:Pos}{kt k2 pt2} (hc:X.calm=true) (hN:X.N.Nodup) (hi:X.N[i]?=some x) (hj:X.N[j]?=some y) (hij:i≠j)
 (hx:X.env.scope.names.lookup x=some .local) (hy:X.env.scope.names.lookup y=some .local) (ha:PA X [a,b] ta)
 (hw:swappedStores [.Tuple [.Name x px,.Name y py] kt pt] (.Tuple [a,b] k2 pt2) X.env=pure (some [x,y]))
 (hs:swapsWithSole [.Tuple [.Name x px,.Name y py] kt pt] (.Tuple [a,b] k2 pt2) pos.line X.env=pure false:=by rfl) :
  PS X (.Assign [.Tuple [.Name x px,.Name y py] kt pt] (.Tuple [a,b] k2 pt2) pos) (tPar i j ta):=by
  intro pins s σ H D I h
  rw [exec_Assign_arm]
  refine wpAny_bind (wpAny_standAt ?_)
  rw [hs]
  refine wpAny_bind (wpAny_pure ?_)
  rw [if_neg (by decide)]
  refine wpAny_bind (Tuple_ (thn (ha _ pins s σ H _ I h) fun us s1 xx16=>?_))
  obtain ⟨vs,H1,I1,r1,q1⟩:=xx16
  obtain ⟨v,w,e1,q1⟩:=q1
  subst e1
  obtain ⟨u1,u2,rfl,rv,rw'⟩ : ∃ u1 u2,us=[u1,u2]∧RelV v u1∧RelV w u2:=by
   cases r1 with
   | cons p q =>
    cases q with
    | cons p' q' =>
     cases q'
     exact ⟨_,_,rfl,p,p'⟩
  refine wpAny_newObj_type ?_ (by show 2≤sizeLine;decide)
  have I2:Inv X pins σ H1 { s1 with heap:=s1.heap.push { cls :=.type "tuple",data :=.seq [u1,u2].toArray } }:=I1.kept (t':=s1.toks) fun b o e=>Heap.get?_push_of_some _ e
  rw [hw]
  refine wpAny_bind (wpAny_pure ?_)
  show wpAny (model X.prog X.w) X.A (do rule "assign.swapped-stores";let items ← unpackItems (.ref s1.heap.objs.size) 2 none;assignInOrder [fun v=>bindName X.env y v,fun v=>bindName X.env x v] items.reverse;pure Flow.next) _ _ _
  refine wpAny_bind (wpAny_rule (wpAny_bind (unpackItems_tuple (items := #[u1,u2]) (I.ok.hd hc) (IsTup.new s1.heap _) fun h' hx'=>?_)))
  have I3:=I2.kept (h':=h') (t':=s1.toks) fun b o e=>hx' b o (Nat.ne_of_lt (Heap.lt_size e)) e
  show wpAny _ _ (assignInOrder [fun v=>bindName X.env y v,fun v=>bindName X.env x v] [u2,u1] >>= fun _=>pure Flow.next) _ _ _
  refine wpAny_bind (assignInOrder_cons (wpAny_bindName (store_ok I3 hN hj (.inl hy) rw' (fun s2 I4=>?_) (.inr hy))))
  refine assignInOrder_cons (wpAny_bindName (store_ok I4 hN hi (.inl hx) rv (fun s3 I5=>assignInOrder_nil (wpAny_pure ?_)) (.inr hx)))
  rw [List.set_comm _ _ (Ne.symm hij)] at I5
  exact ⟨_,H1,I5,q1⟩
end
section
variable {X:Cx}{pos:Pos}
def tWhile (c:TT) (tb:TS):TS:=fun D σ H => ∃ W:Nat→St→Hp→Prop,(∃ m,W m σ H) ∧ ∀ m σ H,W m σ H →
 c σ H fun b H1=>if b=true then ∃ N:St→Hp→Prop,(∀ σ' H',N σ' H' → ∃ m',m'<m∧W m' σ' H')∧tb { D with nx:=N,ct:=N,bk:=D.nx } σ H1 else D.nx σ H1
theorem ps_while {c:Expr}{body:List Stmt}{tc:TT}{tb:TS} (hp:PassesOwn (model X.prog X.w) X.A X.env X.xe) (hc:PT X c tc) (hb:PSs X body tb):PS X (.While c body [] pos) (tWhile tc tb):=by
 intro pins s σ H D I h
 obtain ⟨W,⟨m0,w0⟩,turn⟩:=h
 refine wpAny_While (codeAny_whileLoop (fun n s' => ∃ σ' H',Inv X pins σ' H' s'∧W n σ' H') ?_ m0 ⟨σ,H,I,w0⟩)
 rintro n s1 ⟨σ1,H1,I1,w1⟩
 refine wpAny_passesOwn hp (thn (hc pins s1 σ1 H1 _ I1 (turn n σ1 H1 w1)) fun b s2 xx17=>?_)
 obtain ⟨H2,I2,q2⟩:=xx17
 cases b with
 | true =>
  obtain ⟨N,hN,q2⟩:=q2
  rw [if_pos rfl]
  refine wpAny_passesOwn hp (thn (hb pins s2 σ1 H2 _ I2 q2) fun f s3 q3=>?_)
  cases f with
  | next =>
   obtain ⟨σ3,H3,I3,n3⟩:=q3
   obtain ⟨m',hm,w3⟩:=hN σ3 H3 n3
   exact ⟨m',hm,σ3,H3,I3,w3⟩
  | cont =>
   obtain ⟨σ3,H3,I3,n3⟩:=q3
   obtain ⟨m',hm,w3⟩:=hN σ3 H3 n3
   exact ⟨m',hm,σ3,H3,I3,w3⟩
  | brk=>exact q3
  | ret v=>exact q3
 | false =>
  rw [if_neg Bool.false_ne_true]
  exact wpAny_execs_nil ⟨σ1,H2,I2,q2⟩
end
structure It where
 go:Nat→Hp→Prop
 yld:Nat→Hp→V→Hp→Prop
 stop:Nat→Hp→Prop
def FpOk (X:Cx) (pins:List (Addr×Obj)) (H:Hp) (b:Addr):Prop :=
 H b=none∧b≠X.env.locals∧b ∉ X.fs∧(b ∈ X.ex∨X.s₀.heap.objs.size≤b)∧(∀ x c,X.env.cells.lookup x=some c→c≠b) ∧ ∀ p ∈ X.pn++pins,p.1≠b
theorem Inv.fpOk {X:Cx}{pins:List (Addr×Obj)}{σ:St}{H H':Hp}{s:Shared}{b:Addr} (I:Inv X pins σ H s) (hb:s.heap.objs.size≤b) (hn:H' b=none):FpOk X pins H' b:=by
 refine ⟨hn,Nat.ne_of_gt (Nat.lt_of_lt_of_le I.lt hb),I.nofs hb,.inr (Nat.le_trans I.sz hb),fun x c e z=>?_,fun p hp z=>?_⟩
 ·obtain ⟨v,q⟩:=I.cell x c e
  exact absurd (Nat.lt_of_lt_of_le q.lt (by rw [z];exact hb)) (Nat.lt_irrefl _)
 ·exact absurd (Nat.lt_of_lt_of_le (Heap.lt_size (I.pin p hp).1) (by rw [z];exact hb)) (Nat.lt_irrefl _)
structure Turn (P:Program) (w:World) (K:PySem.W.Frag) (tg:Expr) (J:It) (fp:List Addr) (it:Addr) (tn:Nat→Heap→Prop):Prop where
 mem:it ∈ fp
 obj : ∀ i h,tn i h → ∀ b ∈ fp,∃ o,h.get? b=some o ∧ ∀ v,o.data ≠ .cell v
 keep : ∀ i h h',tn i h→(∀ b ∈ fp,∀ o,h.get? b=some o→h'.get? b=some o)→tn i h'
 item : ∀ (X:Cx),X.prog=P→X.w=w→X.K=K→X.calm=true → ∀ (i:Nat) (pins:List (Addr×Obj)) (s:Shared) (σ:St) (H:Hp) (E:Value→Shared→Prop),Inv X pins σ H s→(∀ b ∈ fp,FpOk X pins H b)→tn i s.heap→J.go i H →
  wpAny (model P w) X.A (pyNext (.ref it)) (fun r s1 => ∃ u,r=some u ∧
   wpAny (model P w) X.A (letOwnedTupleGo tg (.ref it) u) (fun _ s2 => ∃ x H',Inv X pins σ H' s2∧RelV x u∧J.yld i H x H'∧tn (i+1) s2.heap ∧ ∀ b ∈ fp,H' b=none) E s1) E s
 done : ∀ (X:Cx),X.prog=P→X.w=w→X.K=K→X.calm=true → ∀ (i:Nat) (pins:List (Addr×Obj)) (s:Shared) (σ:St) (H:Hp) (E:Value→Shared→Prop),Inv X pins σ H s→(∀ b ∈ fp,FpOk X pins H b)→tn i s.heap→J.stop i H →
  wpAny (model P w) X.A (pyNext (.ref it)) (fun r s1=>r=none∧Inv X pins σ H s1) E s
 self : ∀ (A:Around) (i:Nat) (s:Shared) (Q:Value→Shared→Prop) (E:Value→Shared→Prop),tn i s.heap→Q (.ref it) s→wpAny (model P w) A (pyIter (.ref it)) Q E s
abbrev TI:=St→Hp→(It→Hp→Prop)→Prop
def PIE (X:Cx) (pins:List (Addr×Obj)) (σ:St) (tg:Expr) (R:It→Hp→Prop) (itv:Value) (s2:Shared):Prop :=
 ∃ (it:Addr) (fp:List Addr) (tn:Nat→Heap→Prop) (J:It) (H':Hp),itv = .ref it∧Inv X pins σ H' s2∧Turn X.prog X.w X.K tg J fp it tn∧tn 0 s2.heap∧(∀ b ∈ fp,FpOk X pins H' b)∧R J H'
def PI (X:Cx) (tg iter:Expr) (wi:TI):Prop :=
 ∀ (pins:List (Addr×Obj)) (s:Shared) (σ:St) (H:Hp) (R:It→Hp→Prop),Inv X pins σ H s→wi σ H R →
  wpAny (model X.prog X.w) X.A (eval iter X.env) (fun v s1=>wpAny (model X.prog X.w) X.A (pyIter v) (PIE X pins σ tg R) X.xe s1) X.xe s
theorem go_of {M:Model}{A:Around}{E:Value→Shared→Prop}{s:Shared}{tg:Expr}{it:Addr}{u:Value}{o:Obj}{n:String}{vs:Array Value}{Q:Unit→Shared→Prop} (ho:s.heap.get? it=some o) (hc:o.cls = .type n) (hd:o.data = .fields vs)
 (hn:["enumerate","zip","dict_itemiterator","dict_reverseitemiterator","odict_iterator","itertools.zip_longest","itertools.pairwise"].contains n=false) (hQ:Q () s):wpAny M A (letOwnedTupleGo tg (.ref it) u) Q E s:=by
  unfold letOwnedTupleGo
  cases tg <;> first
   | exact wpAny_pure hQ
   | (cases u <;> first
    | exact wpAny_pure hQ
    | (refine wpAny_bind (wpAny_load ho ?_)
       rw [hc,hd]
       show wpAny M A (if (["enumerate","zip","dict_itemiterator","dict_reverseitemiterator","odict_iterator","itertools.zip_longest","itertools.pairwise"].contains n&&vs[0]?==some (rawInt _))=true then _ else _) Q E s
       rw [if_neg (by intro h;rw [hn,Bool.false_and] at h;cases h)]
       exact wpAny_pure hQ))
def Itl (K:PySem.W.Frag) (a:Addr):It :=
 ⟨fun i H => ∃ xs x,SqL K H a xs∧xs[i]?=some x,fun i H x H'=>H'=H ∧ ∀ xs,SqL K H a xs→xs[i]?=some x,fun i H => ∃ xs,SqL K H a xs∧xs.length≤i⟩
def Itt (K:PySem.W.Frag) (a:Addr):It :=
 ⟨fun i H => ∃ xs x,SqT K H a xs∧xs[i]?=some x,fun i H x H'=>H'=H ∧ ∀ xs,SqT K H a xs→xs[i]?=some x,fun i H => ∃ xs,SqT K H a xs∧xs.length≤i⟩
def Itr (lo:Int) (n:Nat):It:=⟨fun i _=>i<n,fun i H x H'=>H'=H∧x = .int (lo+i),fun i _=>n≤i⟩
theorem turn_list {P:Program}{w:World}{K:PySem.W.Frag}{tg:Expr} (a it:Addr):Turn P w K tg (Itl K a) [it] it (fun i h=>h.IsListIter it a i) where
 mem:=by simp
 obj:=fun i h st b hb=>by
  have e:b=it:=by simpa using hb
  subst e
  obtain ⟨o,e,c,d⟩:=st
  exact ⟨o,e,fun v z=>by rw [d] at z;cases z⟩
 keep:=fun i h h' st k=>st.at fun o e=>k it (by simp) o e
 item:=by
  intro X hP hw hK hc i pins s σ H E I hf st hg
  subst hP hw hK
  obtain ⟨xs,x,hq,hx⟩:=hg
  obtain ⟨its,rv,p,hz⟩:=I.list hq
  obtain ⟨u,hu,ru⟩:=rv.get hx
  obtain ⟨f0,f1,f2,f3,f4,f5⟩:=hf it (by simp)
  refine wpAny_pyNext_list_item st p.isList (x:=u) (by simpa using hu) fun h' st' sb=>?_
  have I1:Inv X pins σ H { s with heap:=h' }:=I.turned (t':=s.toks) (fun b o hb e=>(sb.2 b hb).trans e) f0 f1 f3 f4 f5
  obtain ⟨o,e,c,d⟩:=id st'
  exact ⟨u,rfl,go_of (s:={ s with heap:=h' }) e c d (by decide) ⟨x,H,I1,ru,⟨rfl,fun ys hy=>by rw [I.list_inj hy hq];exact hx⟩,st',fun b hb=>(hf b hb).1⟩⟩
 done:=by
  intro X hP hw hK hc i pins s σ H E I hf st hg
  subst hP hw hK
  obtain ⟨xs,hq,hx⟩:=hg
  obtain ⟨its,rv,p,hz⟩:=I.list hq
  obtain ⟨f0,f1,f2,f3,f4,f5⟩:=hf it (by simp)
  have hl:=rv.length
  exact wpAny_pyNext_list_end (I.ok.hd hc) st p.isList (by simp;omega) fun h' eb=>⟨rfl,I.turned (t':=s.toks) (fun b o hb e=>eb b o hb e) f0 f1 f3 f4 f5⟩
 self:=fun _ _ _ _ _ st h=>wpAny_pyIter_listiter st h
theorem turn_tuple {P:Program}{w:World}{K:PySem.W.Frag}{tg:Expr} (a it:Addr):Turn P w K tg (Itt K a) [it] it (fun i h=>h.IsTupleIter it a i) where
 mem:=by simp
 obj:=fun i h st b hb=>by
  have e:b=it:=by simpa using hb
  subst e
  obtain ⟨o,e,c,d⟩:=st
  exact ⟨o,e,fun v z=>by rw [d] at z;cases z⟩
 keep:=fun i h h' st k=>st.at fun o e=>k it (by simp) o e
 item:=by
  intro X hP hw hK hc i pins s σ H E I hf st hg
  subst hP hw hK
  obtain ⟨xs,x,hq,hx⟩:=hg
  obtain ⟨its,rv,p,hz⟩:=I.tuple hq
  obtain ⟨u,hu,ru⟩:=rv.get hx
  obtain ⟨f0,f1,f2,f3,f4,f5⟩:=hf it (by simp)
  refine wpAny_pyNext_tuple_item st (show s.heap.IsTuple a its.toArray from p) (x:=u) (by simpa using hu) fun h' st' sb=>?_
  have I1:Inv X pins σ H { s with heap:=h' }:=I.turned (t':=s.toks) (fun b o hb e=>(sb.2 b hb).trans e) f0 f1 f3 f4 f5
  obtain ⟨o,e,c,d⟩:=id st'
  exact ⟨u,rfl,go_of (s:={ s with heap:=h' }) e c d (by decide) ⟨x,H,I1,ru,⟨rfl,fun ys hy=>by rw [I.tuple_inj hy hq];exact hx⟩,st',fun b hb=>(hf b hb).1⟩⟩
 done:=by
  intro X hP hw hK hc i pins s σ H E I hf st hg
  subst hP hw hK
  obtain ⟨xs,hq,hx⟩:=hg
  obtain ⟨its,rv,p,hz⟩:=I.tuple hq
  obtain ⟨f0,f1,f2,f3,f4,f5⟩:=hf it (by simp)
  have hl:=rv.length
  exact wpAny_pyNext_tuple_end (I.ok.hd hc) st (show s.heap.IsTuple a its.toArray from p) (by simp;omega) fun h' eb=>⟨rfl,I.turned (t':=s.toks) (fun b o hb e=>eb b o hb e) f0 f1 f3 f4 f5⟩
 self:=fun _ _ _ _ _ st h=>wpAny_pyIter_tupleiter st h
theorem turn_range {P:Program}{w:World}{K:PySem.W.Frag}{tg:Expr} (it:Addr) (lo:Int) (n:Nat):Turn P w K tg (Itr lo n) [it] it (fun i h=>IsRangeIter h it (lo+(i:Nat)*1) ((n:Int)-(i:Nat)) 1) where
 mem:=by simp
 obj:=fun i h st b hb=>by
  have e:b=it:=by simpa using hb
  subst e
  exact ⟨_,st,fun v z=>by
   have z':Data.fields _=Data.cell v:=z
   cases z'⟩
 keep:=fun i h h' st k=>k it (by simp) _ st
 item:=by
  intro X hP hw hK hc i pins s σ H E I hf st hg
  subst hP hw hK
  obtain ⟨f0,f1,f2,f3,f4,f5⟩:=hf it (by simp)
  have W:=Walks.range (prog:=X.prog) (w:=X.w) (I.ok.hd hc) it lo 1 n
  refine W.item i s _ _ hg st fun v h' tk hv st' kk=>?_
  obtain ⟨t,rfl⟩:=hv
  have I1:Inv X pins σ H { s with heap:=h',toks:=tk }:=I.turned (fun b o hb e=>kk b o (by simpa using hb) e) f0 f1 f3 f4 f5
  refine ⟨_,rfl,go_of (s:={ s with heap:=h',toks:=tk }) (n := "range_iterator") st' rfl rfl (by decide) ⟨.int (lo+i),H,I1,⟨t,?_⟩,⟨rfl,rfl⟩,st',fun b hb=>(hf b hb).1⟩⟩
  rw [Int.mul_one]
 done:=by
  intro X hP hw hK hc i pins s σ H E I hf st hg
  subst hP hw hK
  obtain ⟨f0,f1,f2,f3,f4,f5⟩:=hf it (by simp)
  exact wpAny_pyNext_range_end (I.ok.hd hc) st (by have:n≤i:=hg;omega) fun h' eb=>⟨rfl,I.turned (t':=s.toks) (fun b o hb e=>eb b o hb e) f0 f1 f3 f4 f5⟩
 self:=fun _ _ _ _ _ st h=>wpAny_pyIter_rangeiter st h
end L2
namespace L2
open PySem PySem.Spec PyProof.Rows
section
variable {X:Cx}{tg:Expr}
theorem range_it {pins:List (Addr×Obj)}{σ:St}{H:Hp}{s:Shared}{R:It→Hp→Prop}{E:Value→Shared→Prop}{lo hi:Int}{t u v:Tok}{tk:Nat} (I:Inv X pins σ H s) (h1 : -(2^62)≤lo) (h2:lo<2^62) (h3 : -(2^62)≤hi) (h4:hi<2^62)
 (q:R (Itr lo (hi-lo).toNat) H):wpAny (model X.prog X.w) X.A (pyIter (.ref s.heap.objs.size)) (PIE X pins σ tg R) E { s with heap:=s.heap.push { cls :=.type "range",data :=.fields #[.int lo t,.int hi u,.int 1 v] },toks:=tk }:=by
  refine wpAny_pyIter_range (IsRange.new ..) (small_one h1 h2 h3 h4) ?_
  have I1:Inv X pins σ H { s with heap:=s.heap.push { cls :=.type "range",data :=.fields #[.int lo t,.int hi u,.int 1 v] },toks:=tk }:=I.kept fun b o e=>Heap.get?_push_of_some _ e
  refine ⟨(s.heap.push { cls :=.type "range",data :=.fields #[.int lo t,.int hi u,.int 1 v] }).objs.size,[(s.heap.push { cls :=.type "range",data :=.fields #[.int lo t,.int hi u,.int 1 v] }).objs.size],_,_,H,rfl,
   I1.kept (t':=tk) fun b o e=>Heap.get?_push_of_some _ e,turn_range _ lo (hi-lo).toNat,?_,fun b hb=>?_,q⟩
  ·have e1:lo+((0:Nat):Int)*1=lo:=by simp
   have e2:(((hi-lo).toNat:Nat):Int)-((0:Nat):Int)=Builtin.Range.rangeSize lo hi 1:=by rw [rangeSize_one];split <;> omega
   show IsRangeIter _ _ (lo+((0:Nat):Int)*1) ((((hi-lo).toNat:Nat):Int)-((0:Nat):Int)) 1
   rw [e1,e2]
   exact Heap.get?_push_size _ rfl
  ·have e:b=(s.heap.push { cls :=.type "range",data :=.fields #[.int lo t,.int hi u,.int 1 v] }).objs.size:=by simpa using hb
   subst e
   exact I1.fpOk (Nat.le_refl _) (I1.hok.fresh (Nat.le_refl _))
def iRng1 (ta:TA):TI:=fun σ H R=>ta σ H fun vs H1 => ∃ j:Int,vs=[.int j] ∧ -(2^62)≤j∧j<2^62∧R (Itr 0 j.toNat) H1
theorem pi_range1 {a:Expr}{ta:TA}{p pos:Pos} (hg:Gl X "range") (hm:X.mg "range" = none) (ha:PA X [a] ta) (hs:starEach [a] X.env=[(false,eval a X.env)]:=by rfl):PI X tg (.Call (.Name "range" p) [a] [] pos) (iRng1 ta):=by
 intro pins s σ H R I h
 refine Call_ (ld_blt I hg hm boot_range (PyProof.Rows.callWith_type1 (thn (ha pos pins s σ H _ I h) fun us s1 xx18=>?_) hs rfl))
 obtain ⟨vs,H1,I1,r1,q1⟩:=xx18
 obtain ⟨j,e,q1,q2,q⟩:=q1
 subst e
 cases r1 with
 | cons r rr =>
  cases rr
  obtain ⟨t,rfl⟩:=r
  exact call_range_1 (range_it I1 (by omega) (by omega) q1 q2 (by simpa using q))
def tFor (wi:TI) (g:TG) (tb:TS):TS:=fun D σ H=>wi σ H fun J H1 => ∃ W:Nat→Nat→St→Hp→Prop,(∃ m,W 0 m σ H1) ∧ ∀ i m σ H,W i m σ H →
 (J.stop i H∧D.nx σ H)∨(J.go i H ∧ ∃ N:St→Hp→Prop,(∀ σ' H',N σ' H' → ∃ m',m'<m∧W (i+1) m' σ' H') ∧ ∀ x H',J.yld i H x H'→g x σ H' fun σ2 H2=>tb { D with nx:=N,ct:=N,bk:=D.nx } σ2 H2)
def pinsAt (fp:List Addr) (h:Heap):List (Addr×Obj):=fp.filterMap fun b=>(h.get? b).map fun o=>(b,o)
theorem mem_pinsAt {fp:List Addr}{h:Heap}{b:Addr}{o:Obj} (hb:b ∈ fp) (e:h.get? b=some o):(b,o) ∈ pinsAt fp h:=List.mem_filterMap.mpr ⟨b,hb,by rw [e];rfl⟩
theorem of_pinsAt {fp:List Addr}{h:Heap}{p:Addr×Obj} (hp:p ∈ pinsAt fp h):p.1 ∈ fp∧h.get? p.1=some p.2:=by
 obtain ⟨b,hb,e⟩:=List.mem_filterMap.mp hp
 cases q:h.get? b with
 | none=>rw [q] at e;cases e
 | some o =>
  rw [q] at e
  have e':(b,o)=p:=Option.some.inj e
  subst e'
  exact ⟨hb,q⟩
theorem Inv.pinned {pins:List (Addr×Obj)}{σ:St}{H:Hp}{s:Shared}{fp:List Addr} (I:Inv X pins σ H s) (hf : ∀ b ∈ fp,FpOk X pins H b) (ho : ∀ b ∈ fp,∃ o,s.heap.get? b=some o ∧ ∀ v,o.data ≠ .cell v):Inv X (pins++pinsAt fp s.heap) σ H s :=
 I.pins_of fun p hp=>(List.mem_append.mp hp).elim (fun z=>I.pin p (List.mem_append_right _ z)) fun z=>by
  obtain ⟨hb,e⟩:=of_pinsAt z
  obtain ⟨f0,f1,f2,_⟩:=hf p.1 hb
  obtain ⟨o,e',d⟩:=ho p.1 hb
  rw [e] at e';cases e'
  exact ⟨e,f0,f1,f2,d⟩
theorem Inv.unpinned {pins pl:List (Addr×Obj)}{σ:St}{H:Hp}{s:Shared} (I:Inv X (pins++pl) σ H s):Inv X pins σ H s:=I.pins_of fun p hp=>I.pin p (List.mem_append_right _ (List.mem_append_left _ hp))
theorem ps_for {iter:Expr}{body:List Stmt}{wi:TI}{g:TG}{tb:TS}{pos:Pos} (hp:PassesOwn (model X.prog X.w) X.A X.env X.xe) (hc:X.calm=true) (hi:PI X tg iter wi) (hg:PG X tg g) (hb:PSs X body tb)
 (hs : ∀ x,foldedSetIterable iter X.env x=pure x:=by intro _;rfl):PS X (.For tg iter body [] pos) (tFor wi g tb):=by
  intro pins s σ H D I h
  refine wpAny_For (thn (hi pins s σ H _ I h) fun v s1 h1=>thn h1 fun itv s2 h2=>?_) hs
  obtain ⟨it,fp,tn,J,H2,e,I2,T,st2,f2,W,⟨m0,w0⟩,turn⟩:=h2
  subst e
  have stat : ∀ {H':Hp},(∀ b ∈ fp,H' b=none) → ∀ b ∈ fp,FpOk X pins H' b:=fun hn b hb=>⟨hn b hb,(f2 b hb).2⟩
  refine codeAny_forLoop_any (fun n s' => ∃ i σ' H',Inv X pins σ' H' s'∧tn i s'.heap∧(∀ b ∈ fp,H' b=none)∧W i n σ' H') ?_ m0 ⟨0,σ,H2,I2,st2,fun b hb=>(f2 b hb).1,w0⟩
  rintro n s3 ⟨i,σ3,H3,I3,st3,fr3,w3⟩
  rcases turn i n σ3 H3 w3 with ⟨stop,qn⟩|⟨go,N,hN,step⟩
  ·refine wpAny_passesOwn hp (thn (T.done X rfl rfl rfl hc i pins s3 σ3 H3 X.xe I3 (stat fr3) st3 stop) fun r s4 xx22=>?_)
   obtain ⟨hr,I4⟩:=xx22
   subst hr
   exact wpAny_execs_nil ⟨σ3,H3,I4,qn⟩
  ·refine wpAny_passesOwn hp (thn (T.item X rfl rfl rfl hc i pins s3 σ3 H3 X.xe I3 (stat fr3) st3 go) fun r s4 xx21=>?_)
   obtain ⟨u,hr,h4⟩:=xx21
   subst hr
   refine wpAny_passesOwn hp (thn h4 fun _ s5 xx20=>?_)
   obtain ⟨x,H5,I5,r5,y5,st5,fr5⟩:=xx20
   have I5':=I5.pinned (stat fr5) (T.obj _ _ st5)
   refine wpAny_passesOwn hp (thn (hg _ s5 σ3 H5 x u _ I5' r5 (step x H5 y5)) fun _ s6 xx19=>?_)
   obtain ⟨σ6,H6,I6,q6⟩:=xx19
   refine wpAny_passesOwn hp (thn (hb _ s6 σ6 H6 _ I6 q6) fun f s7 q7=>?_)
   have again : ∀ {σ7:St}{H7:Hp},Inv X (pins++pinsAt fp s5.heap) σ7 H7 s7→N σ7 H7 → ∃ m,m<n ∧ ∃ i σ' H',Inv X pins σ' H' s7∧tn i s7.heap∧(∀ b ∈ fp,H' b=none)∧W i m σ' H':=fun {σ7 H7} I7 n7=>by
    obtain ⟨m',hm,w7⟩:=hN σ7 H7 n7
    refine ⟨m',hm,i+1,σ7,H7,I7.unpinned,T.keep _ _ _ st5 fun b hb o e=>(I7.pin (b,o) (List.mem_append_right _ (List.mem_append_right _ (mem_pinsAt hb e)))).1,fun b hb=>?_,w7⟩
    obtain ⟨o,e,d⟩:=T.obj _ _ st5 b hb
    exact (I7.pin (b,o) (List.mem_append_right _ (List.mem_append_right _ (mem_pinsAt hb e)))).2.1
   cases f with
   | next=>obtain ⟨σ7,H7,I7,n7⟩:=q7;exact again I7 n7
   | cont=>obtain ⟨σ7,H7,I7,n7⟩:=q7;exact again I7 n7
   | brk=>obtain ⟨σ7,H7,I7,q7⟩:=q7;exact ⟨σ7,H7,I7.unpinned,q7⟩
   | ret v=>obtain ⟨x7,σ7,H7,I7,r7,q7⟩:=q7;exact ⟨x7,σ7,H7,I7.unpinned,r7,q7⟩
end
end L2
namespace L2
open PySem PySem.Spec PyProof.Rows
abbrev R2:=V→V→Hp→VK→Prop
def OpR (X:Cx) (f:Value→Value→Sem Value) (r:R2):Prop :=
 ∀ (pins:List (Addr×Obj)) (s:Shared) (σ:St) (H:Hp) (x y:V) (v u:Value) (Q:VK),Inv X pins σ H s→RelV x v→RelV y u→r x y H Q →
  wpAny (model X.prog X.w) X.A (f v u) (EP X pins σ Q) X.xe s
def UnR (X:Cx) (f:Value→Sem Value) (r:V→Hp→VK→Prop):Prop :=
 ∀ (pins:List (Addr×Obj)) (s:Shared) (σ:St) (H:Hp) (x:V) (v:Value) (Q:VK),Inv X pins σ H s→RelV x v→r x H Q →
  wpAny (model X.prog X.w) X.A (f v) (EP X pins σ Q) X.xe s
def CallR (X:Cx) (f:Value) (r:List V→Hp→VK→Prop):Prop :=
 ∀ (pins:List (Addr×Obj)) (s:Shared) (σ:St) (H:Hp) (xs:List V) (us:List Value) (Q:VK),Inv X pins σ H s→Vals xs us→r xs H Q →
  wpAny (model X.prog X.w) X.A (call f us) (EP X pins σ Q) X.xe s
def tOp (r:R2) (ta tb:TE):TE:=fun σ H Q=>ta σ H fun x H1=>tb σ H1 fun y H2=>r x y H2 Q
def tUn (r:V→Hp→VK→Prop) (ta:TE):TE:=fun σ H Q=>ta σ H fun x H1=>r x H1 Q
def rI (C:Int→Int→Prop) (g:Int→Int→V):R2:=fun x y H Q => ∃ i j,x = .int i∧y = .int j∧C i j∧Q (g i j) H
def rI0 (g:Int→Int→V):R2:=fun x y H Q => ∃ i j,x = .int i∧y = .int j∧Q (g i j) H
def rU (g:Int→V):V→Hp→VK→Prop:=fun x H Q => ∃ i,x = .int i∧Q (g i) H
section
variable {X:Cx}{a b c:Expr}{ta tb tc:TE}{pos:Pos}
theorem binT (ha:PE X a ta) (hb:PE X b tb) {pins:List (Addr×Obj)}{s:Shared}{σ:St}{H:Hp}{R:V→V→Hp→Prop} (I:Inv X pins σ H s)
 (h:ta σ H fun x H1=>tb σ H1 fun y H2=>R x y H2) {Q:Value→Shared→Prop}{f:Value→Value→Sem Value}
 (hf : ∀ v u s2 x y H2,Inv X pins σ H2 s2→RelV x v→RelV y u→R x y H2→wpAny (model X.prog X.w) X.A (f v u) Q X.xe s2) :
 wpAny (model X.prog X.w) X.A (eval a X.env) (fun v s₁=>wpAny (model X.prog X.w) X.A (eval b X.env) (fun u s₂=>wpAny (model X.prog X.w) X.A (f v u) Q X.xe s₂) X.xe s₁) X.xe s:=by
  refine thn (ha pins s σ H _ I h) fun v s1 xx24=>?_
  obtain ⟨x,H1,I1,r1,q1⟩:=xx24
  refine thn (hb pins s1 σ H1 _ I1 q1) fun u s2 xx23=>?_
  obtain ⟨y,H2,I2,r2,q2⟩:=xx23
  exact hf v u s2 x y H2 I2 r1 r2 q2
theorem pe_op {op:Operator}{r:R2} (ho:OpR X (binaryOp op) r) (ha:PE X a ta) (hb:PE X b tb):PE X (.BinOp a op b pos) (tOp r ta tb):=by
 intro pins s σ H Q I h
 exact wpAny_BinOp (binT ha hb I h fun v u s2 x y H2 I2 rx ry q=>ho pins s2 σ H2 x y v u Q I2 rx ry q)
theorem pe_un {op:UnaryOp}{r:V→Hp→VK→Prop} (ho:UnR X (unaryOp op) r) (ha:PE X a ta):PE X (.UnaryOp op a pos) (tUn r ta):=by
 intro pins s σ H Q I h
 exact UnaryOp_ (thn (ha pins s σ H _ I h) fun v s1 xx25=>by obtain ⟨x,H1,I1,r1,q1⟩:=xx25;exact ho pins s1 σ H1 x v Q I1 r1 q1)
theorem opI {f:Value→Value→Sem Value}{C:Int→Int→Prop}{g:Int→Int→Int}
 (rule : ∀ (i j:Int) (t u:Tok) (s:Shared) (Q:Value→Shared→Prop) (E:Value→Shared→Prop),C i j→Q (.int (g i j) s.toks) { s with toks:=s.toks+1 }→wpAny (model X.prog X.w) X.A (f (.int i t) (.int j u)) Q E s) :
  OpR X f (rI C fun i j => .int (g i j)):=by
  intro pins s σ H x y v u Q I rx ry h
  obtain ⟨i,j,rfl,rfl,hc,q⟩:=h
  obtain ⟨t,rfl⟩:=rx
  obtain ⟨t',rfl⟩:=ry
  exact rule i j t t' s _ _ hc ⟨.int (g i j),H,I.tok _,⟨_,rfl⟩,q⟩
theorem opI0 {f:Value→Value→Sem Value}{g:Int→Int→Int}
 (rule : ∀ (i j:Int) (t u:Tok) (s:Shared) (Q:Value→Shared→Prop) (E:Value→Shared→Prop),Q (.int (g i j) s.toks) { s with toks:=s.toks+1 }→wpAny (model X.prog X.w) X.A (f (.int i t) (.int j u)) Q E s) :
  OpR X f (rI0 fun i j => .int (g i j)):=by
  intro pins s σ H x y v u Q I rx ry h
  obtain ⟨i,j,rfl,rfl,q⟩:=h
  obtain ⟨t,rfl⟩:=rx
  obtain ⟨t',rfl⟩:=ry
  exact rule i j t t' s _ _ ⟨.int (g i j),H,I.tok _,⟨_,rfl⟩,q⟩
theorem opB0 {f:Value→Value→Sem Value}{g:Int→Int→Bool}
 (rule : ∀ (i j:Int) (t u:Tok) (s:Shared) (Q:Value→Shared→Prop) (E:Value→Shared→Prop),Q (.bool (g i j)) s→wpAny (model X.prog X.w) X.A (f (.int i t) (.int j u)) Q E s) :
 OpR X f (rI0 fun i j => .bl (g i j)):=by
  intro pins s σ H x y v u Q I rx ry h
  obtain ⟨i,j,rfl,rfl,q⟩:=h
  obtain ⟨t,rfl⟩:=rx
  obtain ⟨t',rfl⟩:=ry
  exact rule i j t t' s _ _ ⟨.bl (g i j),H,I,rfl,q⟩
def CPow (i j:Int):Prop:=0≤j∧j≤1000000∧i.natAbs<2^64
theorem op_add:OpR X (binaryOp .Add) (rI0 fun i j => .int (i+j)):=opI0 fun _ _ _ _ _ _ _ q=>add_int q
theorem op_sub:OpR X (binaryOp .Sub) (rI0 fun i j => .int (i-j)):=opI0 fun _ _ _ _ _ _ _ q=>sub_int q
theorem op_mod:OpR X (binaryOp .Mod) (rI (fun _ j=>0<j) fun i j => .int (i%j)):=opI fun i j _ _ _ _ _ hc q=>by
 have h1:(0:Int)<j:=hc
 exact mod_int' (by omega) (by rw [Int.fmod_eq_emod_of_nonneg i (by omega)];exact q)
theorem op_pow:OpR X (binaryOp .Pow) (rI CPow fun i j => .int (i^j.toNat)):=opI fun _ _ _ _ _ _ _ hc q=>pow_int_small hc.1 hc.2.1 hc.2.2 q
theorem unI {f:Value→Sem Value}{g:Int→Int}
 (rule : ∀ (i:Int) (t:Tok) (s:Shared) (Q:Value→Shared→Prop) (E:Value→Shared→Prop),Q (.int (g i) s.toks) { s with toks:=s.toks+1 }→wpAny (model X.prog X.w) X.A (f (.int i t)) Q E s) :
  UnR X f (rU fun i => .int (g i)):=by
  intro pins s σ H x v Q I rx h
  obtain ⟨i,rfl,q⟩:=h
  obtain ⟨t,rfl⟩:=rx
  exact rule i t s _ _ ⟨.int (g i),H,I.tok _,⟨_,rfl⟩,q⟩
theorem un_neg:UnR X (unaryOp .USub) (rU fun i => .int (-i)):=unI fun _ _ _ _ _ q=>neg_int q
end
section
variable {X:Cx}{a b c:Expr}{ta tb tc:TE}{pos:Pos}
theorem op_lt:OpR X (compareOp .Lt) (rI0 fun i j => .bl (decide (i<j))):=opB0 fun _ _ _ _ _ _ _ q=>lt_int q
theorem op_le:OpR X (compareOp .LtE) (rI0 fun i j => .bl (decide (i≤j))):=opB0 fun _ _ _ _ _ _ _ q=>le_int q
theorem op_gt:OpR X (compareOp .Gt) (rI0 fun i j => .bl (decide (j<i))):=opB0 fun _ _ _ _ _ _ _ q=>gt_int q
theorem op_ge:OpR X (compareOp .GtE) (rI0 fun i j => .bl (decide (j≤i))):=opB0 fun _ _ _ _ _ _ _ q=>ge_int q
theorem nomark (b:Expr) {op:CmpOp} (h:op ≠ .In:=by decide) (h2:op ≠ .NotIn:=by decide):behindInMarks op b=false:=by
 have e1:(op==CmpOp.In)=false:=by cases op <;> first|rfl|exact absurd rfl h
 have e2:(op==CmpOp.NotIn)=false:=by cases op <;> first|rfl|exact absurd rfl h2
 cases b <;> simp [behindInMarks,e1,e2]
theorem pe_cmpR {op:CmpOp}{r:R2} (ho:OpR X (compareOp op) r) (ha:PE X a ta) (hb:PE X b tb) (hm:behindInMarks op b=false):PE X (.Compare a [op] [b] pos) (tOp r ta tb):=by
 intro pins s σ H Q I h
 exact wpAny_Compare1 (binT ha hb I h fun v u s2 x y H2 I2 rx ry q=>ho pins s2 σ H2 x y v u Q I2 rx ry q) hm
def tTest (t:TE):TT:=fun σ H Q=>t σ H fun x H' => ∃ k,x = .bl k∧Q k H'
theorem pt_cmpR {op:CmpOp}{r:R2} (ho:OpR X (compareOp op) r) (ha:PE X a ta) (hb:PE X b tb) (hm:behindInMarks op b=false):PT X (.Compare a [op] [b] pos) (tTest (tOp r ta tb)):=by
 intro pins s σ H Q I h
 refine wpAny_isTrue_Compare1 (thn (ha pins s σ H _ I h) fun v s1 ⟨x,H1,I1,r1,q1⟩=>thn (hb pins s1 σ H1 _ I1 q1) fun u s2 ⟨y,H2,I2,r2,q2⟩ =>
  thn (ho pins s2 σ H2 x y v u _ I2 r1 r2 q2) fun c s3 ⟨z,H3,I3,r3,k,e,q3⟩=>?_) hm
 subst e
 cases r3
 exact wpAny_truthy_bool ⟨H3,I3,q3⟩
def tChain (r r':R2) (ta tb tc:TE):TE:=fun σ H Q=>ta σ H fun x H1=>tb σ H1 fun y H2=>r x y H2 fun z H3 => ∃ k,z = .bl k ∧
 (if k=true then tc σ H3 fun w' H4=>r' y w' H4 Q else Q (.bl false) H3)
theorem pt_chain {op op':CmpOp}{r r':R2} (ho:OpR X (compareOp op) r) (ho':OpR X (compareOp op') r') (ha:PE X a ta) (hb:PE X b tb) (hc:PE X c tc)
 (hm:lastMarks [op,op'] [b,c]=false:=by with_unfolding_all rfl):PT X (.Compare a [op,op'] [b,c] pos) (tTest (tChain r r' ta tb tc)):=by
  intro pins s σ H Q I h
  refine isTrue_chain (thn (ha pins s σ H _ I h) fun v s1 ⟨x,H1,I1,r1,q1⟩=>test_link (thn (hb pins s1 σ H1 _ I1 q1) fun u s2 ⟨y,H2,I2,r2,q2⟩ =>
   thn (ho pins s2 σ H2 x y v u _ I2 r1 r2 q2) fun d s3 ⟨z,H3,I3,r3,k,e,q3⟩=>?_)) hm
  subst e
  cases r3
  refine wpAny_truthy_bool ?_
  cases k with
  | false =>
   obtain ⟨k',e',q'⟩:=q3
   cases e'
   exact ite_ff ⟨H3,I3,q'⟩
  | true =>
   refine ite_tt (test_last (thn (hc pins s3 σ H3 _ I3 q3) fun w' s4 ⟨z',H4,I4,r4,q4⟩=>thn (ho' pins s4 σ H4 y z' u w' _ I4 r2 r4 q4) fun d' s5 xx29=>?_))
   obtain ⟨z2,H5,I5,r5,k2,e2,q5⟩:=xx29
   subst e2
   cases r5
   exact wpAny_truthy_bool ⟨H5,I5,q5⟩
theorem line63:(sizeLine:Nat)<2^63:=by rw [sizeLine_eq];decide
theorem op_add_str:OpR X (binaryOp .Add) (fun x y H Q => ∃ i j,x = .str i∧y = .str j∧i.length+j.length≤sizeLine∧Q (.str (i++j)) H):=by
 intro pins s σ H x y v u Q I rx ry h
 obtain ⟨i,j,rfl,rfl,hz,q⟩:=h
 obtain ⟨t,rfl⟩:=rx
 obtain ⟨t',rfl⟩:=ry
 exact add_str (fun t' tk=>⟨.str (i++j),H,I.tok _,⟨_,rfl⟩,q⟩) hz
theorem vals1 {x:V}{us:List Value} (r:Vals [x] us) : ∃ u,us=[u]∧RelV x u:=by
 cases r with
 | cons r1 r2=>cases r2;exact ⟨_,rfl,r1⟩
theorem vals2 {x y:V}{us:List Value} (r:Vals [x,y] us) : ∃ u w',us=[u,w']∧RelV x u∧RelV y w':=by
 cases r with
 | cons r1 r2 =>
  cases r2 with
  | cons r3 r4=>cases r4;exact ⟨_,_,rfl,r1,r3⟩
theorem call_abs:CallR X (.builtin "abs") (fun xs H Q => ∃ i,xs=[.int i]∧Q (.int (if i<0 then -i else i)) H):=by
 intro pins s σ H xs us Q I r h
 obtain ⟨i,rfl,q⟩:=h
 obtain ⟨u,rfl,t,rfl⟩:=vals1 r
 exact call_abs_int fun u tk=>⟨.int (if i<0 then -i else i),H,I.tok _,⟨_,rfl⟩,q⟩
theorem call_str_int:CallR X (.type "str") (fun xs H Q => ∃ i,xs=[.int i]∧i.natAbs.log2<1920∧Q (.str (toString i)) H):=by
 intro pins s σ H xs us Q I r h
 obtain ⟨i,rfl,hz,q⟩:=h
 obtain ⟨u,rfl,t,rfl⟩:=vals1 r
 exact PySem.P.str_of_int hz ⟨.str _,H,I.tok _,⟨_,rfl⟩,q⟩
end
end L2
namespace L2
open PySem PySem.Spec PyProof.Rows
section
variable {prog:Program}{w:World}{A:Around}{E:Value→Shared→Prop}{s:Shared}{K:PySem.W.Frag}{x dx C f:Addr}{mA:Str→Option Value}{name:Str}{v:Value}
end
section
variable {P:Program}{w:World}{H H':Hp}{h h':Heap}{a C dx:Addr}{fs fs':List (Str×V)}
end
section
variable {X:Cx}{pins:List (Addr×Obj)}{σ:St}{H:Hp}{s:Shared}{a C dx:Addr}{fs:List (Str×V)}{f:Str}{v:V}{A:Around}{E:Value→Shared→Prop}
end
section
variable {X:Cx}{o e value:Expr}{f:Str}{pos pos' tpos:Pos}{ta tv:TE}
end
section
variable {X:Cx}{pins:List (Addr×Obj)}{σ:St}{H:Hp}{s:Shared}{A:Around}{E:Value→Shared→Prop}{Q:Value→Shared→Prop}{c:Value}{b:Bool}
end
end L2
namespace L2
open PySem PySem.Spec PyProof.Rows
structure Room (k:Nat) (A:Around):Prop where
 hd:A.handled=none
 dp:A.depth+3*k+5<recursionLimit
 un:A.units+16*k+200<cLine
theorem Room.mono {j k:Nat}{A:Around} (r:Room k A) (h:j≤k):Room j A:=⟨r.hd,by have:=r.dp;omega,by have:=r.un;omega⟩
theorem Room.deeper {k:Nat}{A:Around} (r:Room (k+1) A) (env:Env):Room k (A.deeper env) :=
 ⟨r.hd,by have:=r.dp;show A.depth+1+3*k+5<_;omega,by have:=r.un;show A.units+3+16*k+200<_;omega⟩
theorem Room.depth {k:Nat}{A:Around} (r:Room k A):A.depth<recursionLimit:=by have:=r.dp;omega
theorem Room.units {k:Nat}{A:Around} (r:Room k A):A.units+64<cLine:=by have:=r.un;omega
def tNil:TA:=fun _ H Q=>Q [] H
def tCons (ta:TE) (tr:TA):TA:=fun σ H Q=>ta σ H fun x H1=>tr σ H1 fun xs H2=>Q (x::xs) H2
section
variable {X:Cx}{e:Expr}{es:List Expr}{te:TE}{t:TA}{pos:Pos}
theorem pa_nil:PA X [] tNil:=fun _ _ _ _ H Q I h=>Calls.spliced_nil ⟨[],H,I,.nil,h⟩
theorem pa_cons (ha:PE X e te) (hr:PA X es t) (hs:starEach (e::es) X.env=(false,eval e X.env)::starEach es X.env:=by rfl):PA X (e::es) (tCons te t):=by
 intro pos pins s σ H Q I h
 rw [hs]
 show wpAny _ _ (spliced ((false,eval e X.env)::backTo pos (starEach es X.env))) _ _ s
 refine Calls.spliced_cons (thn (ha pins s σ H _ I h) fun u s1 xx35=>?_)
 obtain ⟨x,H1,I1,r1,q1⟩:=xx35
 exact thn (hr pos pins s1 σ H1 _ I1 q1) fun us s2 xx34=>by obtain ⟨xs,H2,I2,r2,q2⟩:=xx34;exact ⟨x::xs,H2,I2,.cons r1 r2,q2⟩
def tTup (t:TA):TE:=fun σ H Q=>t σ H fun xs H1=>xs.length≤sizeLine ∧ ∀ p,H1 p=none→Q (.ref p) (upd H1 p (.tup xs))
def tLst (t:TA):TE:=fun σ H Q=>t σ H fun xs H1=>xs.length≤sizeLine ∧ ∀ p,H1 p=none→Q (.ref p) (upd H1 p (.lst xs))
theorem pe_tup {x1} (h:PA X es t):PE X (.Tuple es x1 pos) (tTup t):=by
 intro pins s σ H Q I hq
 refine wpAny_Tuple_spliced (thn (h pos pins s σ H _ I hq) fun us s1 ⟨xs,H1,I1,r,z,q⟩=>⟨by rw [← r.length];exact z,?_⟩)
 have hf:H1 s1.heap.objs.size=none:=I1.hok.fresh (Nat.le_refl _)
 refine ⟨.ref s1.heap.objs.size,upd H1 s1.heap.objs.size (.tup xs),I1.laid (t':=s1.toks) (fun b u e=>Heap.get?_push_of_some _ e) (Nat.le_refl _) ?_,rfl,q _ hf⟩
 exact ⟨z,us,r,⟨_,Heap.get?_push_size _ rfl,rfl,_,rfl⟩⟩
theorem pe_lst (h:PA X es t):PE X (.List es pos) (tLst t):=by
 intro pins s σ H Q I hq
 refine wpAny_List_spliced (thn (h pos pins s σ H _ I hq) fun us s1 ⟨xs,H1,I1,r,z,q⟩=>⟨by rw [← r.length];exact z,?_⟩)
 have hf:H1 s1.heap.objs.size=none:=I1.hok.fresh (Nat.le_refl _)
 refine ⟨.ref s1.heap.objs.size,upd H1 s1.heap.objs.size (.lst xs),I1.laid (t':=s1.toks) (fun b u e=>Heap.get?_push_of_some _ e) (Nat.le_refl _) ?_,rfl,q _ hf⟩
 exact ⟨z,us,0,r,Heap.get?_push_size _ rfl⟩
end
abbrev Sp:=List V→Hp→VK→XK→Prop
abbrev CXT:=List Env→Hp→Shared→XK→Value→Shared→Prop
structure Env0 (P:Program) (w:World) (K:PySem.W.Frag) (mg:Str→Option Value) (base:Heap) (A:Around) (outer:List Env) (s:Shared) (H:Hp):Prop where
 frames:A.frames=some outer
 mod:Mod K mg base
 bs : ∀ b o,base.get? b=some o→s.heap.get? b=some o∧H b=none
 bsz:base.objs.size≤s.heap.objs.size
 funs:s.heap.FunFrames base outer
 frf : ∀ b ∈ frs outer,H b=none
 hok:HOk P w H s.heap
 bare:AllBare s.gens
def CE (outer:List Env) (P:Program) (w:World) (H:Hp) (s:Shared) (Q:VK) (u:Value) (s':Shared):Prop :=
 ∃ v H',s'.os=s.os∧AllBare s'.gens∧Un (frs outer) [] H H' s.heap s'.heap∧HOk P w H' s'.heap∧RelV v u∧Q v H'
def CR (CX:CXT) (outer:List Env) (P:Program) (w:World) (H:Hp) (s:Shared) (Q:VK) (E:XK) (r:Result) (s':Shared):Prop :=
 match r with
 | .ok (.ret u)=>CE outer P w H s Q u s'
 | .ok _=>False
 | .error e=>CX outer H s E e s'
structure FnOk (P:Program) (w:World) (K:PySem.W.Frag) (mg:Str→Option Value) (base:Heap) (CX:CXT) (k:Nat) (f:Addr) (fd:FuncData) (ps:List Str) (sp:Sp):Prop where
 len : ∀ vs H Q E,sp vs H Q E→vs.length=ps.length
 run : ∀ (A:Around) (outer:List Env) (s:Shared) (H:Hp) (args:Args) (us:List Value) (vs:List V) (Q:VK) (E:XK),Room k A→Env0 P w K mg base A outer s H→BindsTo s fd args (ps.zip us)→Vals vs us→sp vs H Q E →
  codeAny (model P w) A (.call (.ref f) args) (CR CX outer P w H s Q E) s
section
variable {X:Cx}{pins:List (Addr×Obj)}{σ:St}{H:Hp}{s s':Shared}
theorem Inv.env0 (I:Inv X pins σ H s):Env0 X.prog X.w X.K X.mg X.base X.A X.stack s H :=
 ⟨I.ok.frames,I.ok.mod,I.bs,Nat.le_trans I.ok.bsz I.sz,I.stack,I.stkFree,I.hok,I.bare⟩
theorem Inv.after {Q:VK}{u:Value} (I:Inv X pins σ H s) (h:CE X.stack X.prog X.w H s Q u s'):EP X pins σ Q u s':=by
 obtain ⟨v,H',os,bare,un,hok,r,q⟩:=h
 obtain ⟨hh,g,d,t,os'⟩:=s'
 obtain rfl:os'=s.os:=os
 exact ⟨v,H',I.call (h':=hh) (g':=g) (d':=d) (t':=t) (ch:=[]) un hok bare (fun b z=>absurd z (by simp)),r,q⟩
end
def tCall (sp:Sp) (dvs:List V) (E:XK) (t:TA):TE:=fun σ H Q=>t σ H fun vs H1=>sp (vs++dvs) H1 Q E
def Binds (K:PySem.W.Frag) (fd:FuncData) (ps:List Str) (ds:List Value):Prop :=
 ∀ (s:Shared) (us:List Value),K.In s.heap→(us++ds).length=ps.length→BindsTo s fd ⟨us,[]⟩ (ps.zip (us++ds))
theorem Binds.all {K:PySem.W.Frag}{fd:FuncData}{ps:List Str} (h : ∀ us:List Value,us.length=ps.length→bindArgs fd ⟨us,[]⟩=pure (ps.zip us)):Binds K fd ps []:=fun s us _ hl=>by
 rw [List.append_nil] at hl ⊢
 exact .of_eq (h us hl)
def Passes (CX:CXT) (X:Cx) (E:XK):Prop := ∀ (pins:List (Addr×Obj)) (σ:St) (H:Hp) (s:Shared) (e:Value) (s':Shared),Inv X pins σ H s→CX X.stack H s E e s'→X.xe e s'
section
variable {X:Cx}{CX:CXT}{k:Nat}{f C:Addr}{fd:FuncData}{ps:List Str}{sp:Sp}{dvs:List V}{ds:List Value}{E:XK}{x m:Str}{p pos apos:Pos}{e o:Expr}{es:List Expr}{ta:TE}{t:TA}
theorem run_fn {pins:List (Addr×Obj)}{σ:St}{H:Hp}{s:Shared}{Q:VK}{us:List Value}{vs:List V} (F:FnOk X.prog X.w X.K X.mg X.base CX k f fd ps sp) (hr:Room k X.A) (hb:Binds X.K fd ps ds) (hd:Vals dvs ds) (hx:Passes CX X E)
 (I:Inv X pins σ H s) (r:Vals vs us) (h:sp (vs++dvs) H Q E):wpAny (model X.prog X.w) X.A (call (.ref f) us) (EP X pins σ Q) X.xe s:=by
  have r2:Vals (vs++dvs) (us++ds):=r.append hd
  have hl:(us++ds).length=ps.length:=by rw [← r2.length];exact F.len _ _ _ _ h
  refine wpAny_call (codeAny_mono (F.run X.A X.stack s H ⟨us,[]⟩ (us++ds) (vs++dvs) Q E hr I.env0 (hb s us I.kIn hl) r2 h) fun r s' hq=>?_)
  cases r with
  | error e=>exact hx pins σ H s e s' I hq
  | ok fl =>
   cases fl with
   | ret u=>exact I.after hq
   | next=>exact False.elim hq
   | brk=>exact False.elim hq
   | cont=>exact False.elim hq
end
section
variable {X:Cx}{CX:CXT}{k:Nat}{f C:Addr}{fd:FuncData}{ps ks:List Str}{sp:Sp}{E:XK}{x m:Str}{p pos apos kpos:Pos}{e o:Expr}{es:List Expr}{kws:List Keyword}{te ta:TE}{t tk:TA}{nm:Option Str}
variable {g:List Value→List Value→List Value}{gV:List V→List V→List V}
end
structure FnScope (N P:List Str) (sc:Scope):Prop where
 kind:sc.kind = .function
 co:sc.isCoroutine=false
 gen:sc.isGenerator=false
 nd:N.Nodup
 pre:N.take P.length=P
 par : ∀ x ∈ P,sc.names.lookup x=some .local∨sc.names.lookup x=some .cell
 nofree : ∀ y ∈ sc.names,y.2 ≠ .free
theorem bindL_out {kindOf:Str→Option NameKind}{x:Str} : ∀ {binds:List (Str×Value)}{m:Str→Option Value},(∀ v,(x,v) ∉ binds)→bindL kindOf binds m x=m x
 | [],_,_=>rfl
 | (n,v)::r,m,h=>by
  unfold bindL
  rw [bindL_out fun w hw=>h w (List.mem_cons_of_mem _ hw)]
  split
  ·have:x≠n:=by rintro rfl;exact h v List.mem_cons_self
   simp [this]
  ·rfl
theorem bindC_out {kindOf:Str→Option NameKind}{x:Str} : ∀ {binds:List (Str×Value)}{m:Str→Option Value},(∀ v,(x,v) ∉ binds)→bindC kindOf binds m x=m x
 | [],_,_=>rfl
 | (n,v)::r,m,h=>by
  unfold bindC
  rw [bindC_out fun w hw=>h w (List.mem_cons_of_mem _ hw)]
  split
  ·rfl
  ·have:x≠n:=by rintro rfl;exact h v List.mem_cons_self
   simp [this]
theorem bindL_get {kindOf:Str→Option NameKind}{x:Str}{v:Value} : ∀ {P:List Str}{vs:List Value}{i:Nat}{m:Str→Option Value},P.Nodup→P[i]?=some x→vs[i]?=some v→kindOf x=some .local →
 bindL kindOf (P.zip vs) m x=some v
  | [],_,_,_,_,h,_,_=>by simp at h
  | _::_,[],_,_,_,_,h,_=>by simp at h
  | p::P,w::vs,0,m,nd,h1,h2,hk=>by
   simp at h1 h2;subst h1;subst h2
   show bindL kindOf ((p,w)::P.zip vs) m p=_
   unfold bindL
   rw [bindL_out fun v hv=>(List.nodup_cons.mp nd).1 (List.of_mem_zip hv).1,if_pos hk]
   simp
  | p::P,w::vs,i+1,m,nd,h1,h2,hk=>by
   show bindL kindOf ((p,w)::P.zip vs) m x=_
   unfold bindL
   exact bindL_get (i:=i) (List.nodup_cons.mp nd).2 (by simpa using h1) (by simpa using h2) hk
theorem bindC_get {kindOf:Str→Option NameKind}{x:Str}{v:Value} : ∀ {P:List Str}{vs:List Value}{i:Nat}{m:Str→Option Value},P.Nodup→P[i]?=some x→vs[i]?=some v→kindOf x≠some .local →
 bindC kindOf (P.zip vs) m x=some v
  | [],_,_,_,_,h,_,_=>by simp at h
  | _::_,[],_,_,_,_,h,_=>by simp at h
  | p::P,w::vs,0,m,nd,h1,h2,hk=>by
   simp at h1 h2;subst h1;subst h2
   show bindC kindOf ((p,w)::P.zip vs) m p=_
   unfold bindC
   rw [bindC_out fun v hv=>(List.nodup_cons.mp nd).1 (List.of_mem_zip hv).1,if_neg hk]
   simp
  | p::P,w::vs,i+1,m,nd,h1,h2,hk=>by
   show bindC kindOf ((p,w)::P.zip vs) m x=_
   unfold bindC
   exact bindC_get (i:=i) (List.nodup_cons.mp nd).2 (by simpa using h1) (by simpa using h2) hk
def start (N:List Str) (vs:List V):St:=vs.map some++List.replicate (N.length-vs.length) none
def cxOf (CX:CXT) (P:Program) (w:World) (K:PySem.W.Frag) (mg:Str→Option Value) (base:Heap) (N:List Str) (qual:Str) (scope:Scope) (f:Addr) (cd:Value) (A:Around) (outer:List Env) (s:Shared) (H:Hp) (E:XK):Cx where
 prog:=P
 w:=w
 K:=K
 mg:=mg
 base:=base
 A:=A.deeper (envOfC qual scope s.heap.objs.size f cd)
 N:=N
 s₀:=s
 H₀:=H
 env:=envOfC qual scope s.heap.objs.size f cd
 outer:=outer
 stack:=envOfC qual scope s.heap.objs.size f cd::outer
 ex:=[]
 calm:=true
 fn:=fun _=>true
 pn:=[]
 xe:=fun e s'=>wpAny (model P w) (A.deeper (envOfC qual scope s.heap.objs.size f cd)) (leaving (envOfC qual scope s.heap.objs.size f cd) e) (fun _ s''=>CX outer H s E e s'') (fun e' s''=>CX outer H s E e' s'') s'
theorem cell_has {sc:Scope}{n:Nat}{x:Str} (h:sc.names.lookup x=some .cell) : ∃ c,(cellsFrom n sc.names []).lookup x=some c:=by
 have q:=PySem.W.cellsFrom_some sc.names n [] (.inl h)
 exact Option.isSome_iff_exists.mp q
theorem inv_start {CX:CXT}{P:Program}{w:World}{K:PySem.W.Frag}{mg:Str→Option Value}{base:Heap}{N ps:List Str}{qual:Str}{scope:Scope}{f:Addr}{cd:Value}{A:Around}{outer:List Env}{s s1:Shared}{H:Hp}{E:XK}{us:List Value}{vs:List V}
 (S:FnScope N ps scope) (hd:A.handled=none) (e0:Env0 P w K mg base A outer s H) (hl:vs.length=ps.length) (r:Vals vs us)
 (x:InCallC s s.heap.objs.size (bindL (envOfC qual scope s.heap.objs.size f cd).kindOf (ps.zip us) fun _=>none) (cellsFrom (s.heap.objs.size+1) scope.names []) (bindC (envOfC qual scope s.heap.objs.size f cd).kindOf (ps.zip us) fun _=>none) s1) :
 Inv (cxOf CX P w K mg base N qual scope f cd A outer s H E) [] (start N vs) H s1:=by
  have hpl:ps.length≤N.length:=by have:=congrArg List.length S.pre;rw [List.length_take] at this;omega
  obtain ⟨h1,tk,rfl,hk⟩:=x.done
  have noA : ∀ b:Addr,b ∉ (cxOf CX P w K mg base N qual scope f cd A outer s H E).ex:=fun b z=>absurd (show b ∈ ([]:List Addr) from z) (by simp)
  refine ⟨⟨e0.mod,S.kind,rfl,rfl,Nat.le_refl _,fun y z c h1 h2=>?_,fun y hy=>?_,fun y c _ h=>?_,fun _=>hd,Around.frames_deeper e0.frames,.inr ⟨rfl,rfl⟩,fun b z=>absurd z (noA b),e0.bs,e0.bsz,fun b _ _=>noA b,fun b z=>absurd z (noA b),e0.funs,e0.frf⟩,
   rfl,e0.bare,Un.kept hk,⟨_,x.toInCall.ns,fun i y v h1 h2 h3=>?_⟩,fun y c h=>⟨_,x.cell y c h⟩,e0.hok.fresh (Nat.le_refl _),fun y c h=>?_,fun p hp=>absurd (show p ∈ ([]:List (Addr×Obj)) from hp) (by simp),e0.hok.kept hk,?_⟩
  ·exact name_of_addr x.apart (PySem.mem_of_lookup h1) (PySem.mem_of_lookup h2)
  ·have hy:scope.names.lookup y=some .cell∨scope.names.lookup y=some .free:=hy
   rcases hy with hy|hy
   ·exact cell_has hy
   ·exact absurd rfl (S.nofree _ (PySem.mem_of_lookup hy))
  ·exact Nat.le_of_lt (x.above y c (PySem.mem_of_lookup h))
  ·have hi:i<vs.length:=by
    unfold start at h2
    by_cases hi:i<vs.length
    ·exact hi
    ·rw [List.getElem?_append_right (by simpa using hi)] at h2
     rw [List.getElem?_replicate] at h2
     split at h2 <;> cases h2
   have ha:vs[i]?=some v:=by
    unfold start at h2
    rw [List.getElem?_append_left (by simpa using hi),List.getElem?_map] at h2
    cases e:vs[i]? with
    | none=>rw [e] at h2;cases h2
    | some a=>rw [e] at h2;cases h2;rfl
   obtain ⟨u,hu,rv⟩:=r.get ha
   have hp:ps[i]?=some y:=by
    rw [← S.pre,List.getElem?_take_of_lt (by omega)];exact h1
   have ndP:ps.Nodup:=by rw [← S.pre];exact S.nd.sublist (List.take_sublist _ _)
   refine ⟨u,rv,?_⟩
   rcases S.par y (List.mem_of_getElem? hp) with k|k
   ·exact .inl ⟨k,bindL_get ndP hp hu k⟩
   ·obtain ⟨c,e⟩:=cell_has (n:=s.heap.objs.size+1) k
    refine .inr ⟨.inl k,c,e,?_⟩
    have q:=x.cell y c e
    rw [bindC_get ndP hp hu (by show scope.names.lookup y≠_;rw [k];decide)] at q
    exact q
  ·exact e0.hok.fresh (Nat.le_of_lt (x.above y c (PySem.mem_of_lookup h)))
  ·unfold start
   show _=N.length
   rw [List.length_append,List.length_map,List.length_replicate]
   omega
theorem fn_of {CX:CXT}{P:Program}{w:World}{K:PySem.W.Frag}{mg:Str→Option Value}{base:Heap}{k:Nat}{f:Addr}{name qual:Str}{params:Arguments}{body:List Stmt}{scope:Scope}{dV kV doc pm cdv ct oc:Value}{an od:Option Addr}
 {osl:Array (Option Value)}{N ps:List Str}{sp:Sp} (lk:K.lookup f=some ⟨oc,od,.func (PySem.W.fnOf name qual params body scope dV kV doc pm an cdv ct),osl⟩) (hcd:PySem.W.codeIn K cdv qual=true) (S:FnScope N ps scope)
 (len : ∀ vs H Q E,sp vs H Q E→vs.length=ps.length)
 (hbody : ∀ (A:Around) (outer:List Env) (s:Shared) (H:Hp) (vs:List V) (Q:VK) (E:XK),Room k (A.deeper (envOfC qual scope s.heap.objs.size f cdv))→sp vs H Q E →
 ∃ t,PSs (cxOf CX P w K mg base N qual scope f cdv A outer s H E) body t∧t { nx:=fun _ H'=>Q .non H',rt:=Q } (start N vs) H) :
  FnOk P w K mg base CX (k+1) f (PySem.W.fnOf name qual params body scope dV kV doc pm an cdv ct) ps sp:=by
  refine ⟨len,fun A outer s H args us vs Q E hr e0 hb r hsp=>?_⟩
  have hl:=len _ _ _ _ hsp
  have KX:K.In s.heap:=e0.mod.kin.keeps fun b o e=>(e0.bs b o e).1
  have lim:s.heap.NoLimit:=e0.mod.nolimit.keeps fun b o e=>(e0.bs b o e).1
  have hkind : ∀ y ∈ ps.zip us,scope.names.lookup y.1=some .local∨(scope.names.lookup y.1=some .cell∧((cellsFrom (s.heap.objs.size+1) scope.names []).lookup y.1).isSome=true):=fun xx38 hy=>by
   obtain ⟨n,v⟩:=xx38
   rcases S.par n (List.of_mem_zip hy).1 with q|q
   ·exact .inl q
   ·exact .inr ⟨q,PySem.W.cellsFrom_some _ _ _ (.inl q)⟩
  refine codeAny_call_function hr.depth (KX _ _ lk) rfl S.co S.gen rfl (PySem.W.codeRec_of KX hcd) (hb _ _ _ _ ?_)
  refine wpAny_newFunctionEnv_cells S.kind hkind fun env he s1 x=>?_
  subst he
  refine ⟨lim.keeps x.toInCall.keep,codeAny_func ?_⟩
  obtain ⟨t,ht,hq⟩:=hbody A outer s H vs Q E (hr.deeper _) hsp
  have I:Inv (cxOf CX P w K mg base N qual scope f cdv A outer s H E) [] (start N vs) H s1:=inv_start S hr.hd e0 hl r x
  refine wpAny_mono (ht [] s1 (start N vs) H _ I hq) (fun fl s' hs=>?_) fun e s' hs=>hs
  have fin : ∀ {σ':St}{H':Hp}{v:V}{u:Value},Inv (cxOf CX P w K mg base N qual scope f cdv A outer s H E) [] σ' H' s'→RelV v u→Q v H'→CE outer P w H s Q u s' :=
   fun {σ' H' v u} J rv q=>⟨v,H',J.os,J.bare,J.base,J.hok,rv,q⟩
  cases fl with
  | ret u =>
   obtain ⟨v,σ',H',J,rv,q⟩:=hs
   exact fin J rv q
  | next =>
   obtain ⟨σ',H',J,q⟩:=hs
   exact fin (v:=V.non) (u:=Value.none) J rfl q
  | brk =>
   obtain ⟨_,_,_,q⟩:=hs
   exact False.elim q
  | cont =>
   obtain ⟨_,_,_,q⟩:=hs
   exact False.elim q
end L2
namespace L2
open PySem PySem.Spec PyProof.Rows
section
variable {X:Cx}{x:Str}{p pos:Pos}{e:Expr}{es:List Expr}{t:TA}{id T:String}{r:List V→Hp→VK→Prop}
def tCB (r:List V→Hp→VK→Prop) (t:TA):TE:=fun σ H Q=>t σ H fun vs H1=>r vs H1 Q
theorem pe_callB (hc:CallR X (.builtin id) r) (hg:Gl X x) (hm:X.mg x=none) (hv:bootBuiltins x=some (.builtin id)) (ha:PA X (e::es) t) (hn:x ≠ "__name__":=by decide) (hdb:(x==("__debug__" : Str))=false:=by decide)
 (he:starEach (e::es) X.env=(false,eval e X.env)::starEach es X.env:=by rfl) (hpl:(backTo pos (starEach es X.env)).any (·.1)=false:=by rfl):PE X (.Call (.Name x p) (e::es) [] pos) (tCB r t):=by
 intro pins s σ H Q I h
 refine wpAny_Call_Name_kw (ld_blt I hg hm hv ?_ hn hdb)
 exact PyProof.Rows.callWith_builtin1 (thn (ha pos pins s σ H _ I h) fun us s1 xx39=>by obtain ⟨vs,H1,I1,r1,q1⟩:=xx39;exact hc pins s1 σ H1 vs us Q I1 r1 q1) he hpl
theorem pe_callTy (hc:CallR X (.type T) r) (hg:Gl X x) (hm:X.mg x=none) (hv:bootBuiltins x=some (.type T)) (ha:PA X (e::es) t) (hn:x ≠ "__name__":=by decide) (hdb:(x==("__debug__" : Str))=false:=by decide)
 (he:starEach (e::es) X.env=(false,eval e X.env)::starEach es X.env:=by rfl) (hpl:(backTo pos (starEach es X.env)).any (·.1)=false:=by rfl):PE X (.Call (.Name x p) (e::es) [] pos) (tCB r t):=by
 intro pins s σ H Q I h
 refine wpAny_Call_Name_kw (ld_blt I hg hm hv ?_ hn hdb)
 exact PyProof.Rows.callWith_type1 (thn (ha pos pins s σ H _ I h) fun us s1 xx40=>by obtain ⟨vs,H1,I1,r1,q1⟩:=xx40;exact hc pins s1 σ H1 vs us Q I1 r1 q1) he hpl
end
end L2
namespace HT
open PySem PyProof.Rows
section
open PySem.SeqAt
open PySem.AutoSeq1 (wpAny_loadPart')
open PySem.MeetsSeq PySem.MeetsSeq2 PySem.MeetsSeq3
end
section
variable {prog:Program}{w:World}{A:Around}{E:Value→Shared→Prop}{s:Shared}
theorem cat_tup {t b:Addr}{vs ws:List Value}{Q:Value→Shared→Prop} (ht:IsTup s.heap t vs.toArray) (hb:IsTup s.heap b ws.toArray) (hv:vs≠[])
 (h1:ws=[]→Q (.ref t) s) (h2:ws≠[]→Q (.ref s.heap.objs.size) { s with heap:=s.heap.push { cls :=.type "tuple",data :=.seq (vs++ws).toArray } })
  (hsz:vs.length+ws.length≤sizeLine):wpAny (model prog w) A (binaryOp .Add (.ref t) (.ref b)) Q E s:=by
  obtain ⟨⟨cls,dd,data,sl⟩,ho,hc,n,hd⟩:=id ht
  obtain ⟨⟨cls2,dd2,data2,sl2⟩,ho2,hc2,n2,hd2⟩:=id hb
  simp only at hc hd hc2 hd2
  subst hc hd hc2 hd2
  have e:vs.toArray++ws.toArray=(vs++ws).toArray:=by simp
  by_cases hw:ws=[]
  ·exact concat_meets ⟨_,ho,rfl⟩ ⟨_,ho2,rfl⟩ noFill_tuple_add seq_tuple_add PySem.F.slot_tuple_add PySem.F.entry_tuple_add (PySem.F.args_tuple_add_2 _ _)
    (tuple_addW1 t b vs.toArray ws.toArray n n2 dd dd2 sl sl2 (by simpa using hv) (by simp [hw])) ⟨ho,ho2,h1 hw⟩
  ·refine concat_meets ⟨_,ho,rfl⟩ ⟨_,ho2,rfl⟩ noFill_tuple_add seq_tuple_add PySem.F.slot_tuple_add PySem.F.entry_tuple_add (PySem.F.args_tuple_add_2 _ _)
    (tuple_addW2 t b vs.toArray ws.toArray n n2 dd dd2 sl sl2 (by simpa using hv) (by simpa using hw) (by rw [List.size_toArray,List.size_toArray];exact hsz)) ⟨ho,ho2,?_⟩
   rw [e]
   exact h2 hw
end
end HT
namespace L2
open PySem PySem.Spec PyProof.Rows
abbrev TO:=St→Hp→(Option Int→Hp→Prop)→Prop
def PO (X:Cx) (e:Option Expr) (t:TO):Prop :=
 ∀ (pins:List (Addr×Obj)) (s:Shared) (σ:St) (H:Hp) (Q:Option Int→Hp→Prop),Inv X pins σ H s→t σ H Q →
  wpAny (model X.prog X.w) X.A (evalPart e X.env) (fun u s' => ∃ o H',Inv X pins σ H' s'∧IsPart u o∧Q o H') X.xe s
def tNoPart:TO:=fun _ H Q=>Q none H
def tPart (t:TE):TO:=fun σ H Q=>t σ H fun x H1 => ∃ i,x = .int i∧Q (some i) H1
theorem intsAre_of {ns:List Int} : ∀ {us:List Value},Vals (ns.map V.int) us→IntsAre us ns:=by
 induction ns with
 | nil=>intro us r;rw [List.map_nil] at r;cases r;exact .nil
 | cons n ns ih =>
  intro us r
  rw [List.map_cons] at r
  cases r with
  | cons r1 r2 =>
   obtain ⟨t,e⟩:=r1
   subst e
   exact .cons n t (ih r2)
section
variable {X:Cx}{e:Expr}{te:TE}{lo hi:Option Expr}{tl th:TO}{pos p2:Pos}
theorem po_none:PO X none tNoPart:=by
 intro pins s σ H Q I h
 rw [evalPart_none]
 exact wpAny_pure ⟨none,H,I,.none,h⟩
theorem po_some (h:PE X e te):PO X (some e) (tPart te):=by
 intro pins s σ H Q I hw
 rw [evalPart_some]
 refine thn (h pins s σ H _ I hw) fun u s1 xx41=>?_
 obtain ⟨x,H1,I1,r1,q1⟩:=xx41
 obtain ⟨i,rfl,q⟩:=q1
 obtain ⟨t,rfl⟩:=r1
 exact ⟨some i,H1,I1,.int i t,q⟩
def SlR (X:Cx) (r:V→Option Int→Option Int→Hp→VK→Prop):Prop :=
 ∀ (pins:List (Addr×Obj)) (s:Shared) (σ:St) (H:Hp) (x:V) (v vl vu:Value) (lo hi:Option Int) (sl:Addr) (Q:VK),Inv X pins σ H s→RelV x v→s.heap.IsSliceOf sl vl vu .none→IsPart vl lo→IsPart vu hi→r x lo hi H Q →
  ∃ T id,typeLookup (.type T) "__getitem__" = pure (some (.builtin id))∧s.TypeIs v T∧wpAny (model X.prog X.w) X.A (getItem v (.ref sl)) (EP X pins σ Q) X.xe s
def tSl (r:V→Option Int→Option Int→Hp→VK→Prop) (te:TE) (tl th:TO):TE:=fun σ H Q=>te σ H fun x H1=>tl σ H1 fun l H2=>th σ H2 fun u H3=>r x l u H3 Q
theorem pe_slice {r:V→Option Int→Option Int→Hp→VK→Prop} (hr:SlR X r) (he:PE X e te) (hl:PO X lo tl) (hu:PO X hi th):PE X (.Subscript e (.Slice lo hi none p2) pos) (tSl r te tl th):=by
 intro pins s σ H Q I h
 refine Subscript_ (thn (he pins s σ H _ I h) fun v s1 xx44=>?_)
 obtain ⟨x,H1,I1,r1,q1⟩:=xx44
 refine wpAny_Slice (thn (hl pins s1 σ H1 _ I1 q1) fun vl s2 ⟨l,H2,I2,pl,q2⟩=>thn (hu pins s2 σ H2 _ I2 q2) fun vu s3 xx42=>?_)
 obtain ⟨u,H3,I3,pu,q3⟩:=xx42
 rw [evalPart_none]
 refine wpAny_pure ?_
 have I4:Inv X pins σ H3 { s3 with heap:=s3.heap.push { cls :=.type "slice",data :=.fields #[vl,vu,.none] } }:=I3.kept (t':=s3.toks) fun b ob q=>Heap.get?_push_of_some _ q
 obtain ⟨T,id,hT,ht,hg⟩:=hr pins { s3 with heap:=s3.heap.push { cls :=.type "slice",data :=.fields #[vl,vu,.none] } } σ H3 x v vl vu l u s3.heap.objs.size Q I4 r1 (Heap.IsSliceOf.new ..) pl pu q3
 show wpAny (model X.prog X.w) X.A (subscriptTail e (.Slice lo hi none p2) v (.ref s3.heap.objs.size)) (EP X pins σ Q) X.xe { s3 with heap:=s3.heap.push { cls :=.type "slice",data :=.fields #[vl,vu,.none] } }
 exact tail_any (ops:=[.ref s3.heap.objs.size,v]) ht hT hg (by with_unfolding_all rfl)
def rCatT (K:PySem.W.Frag):R2:=fun x y H Q => ∃ a b xs ys,x = .ref a∧y = .ref b∧SqT K H a xs∧SqT K H b ys∧xs≠[]∧xs.length+ys.length≤sizeLine ∧
 (ys=[]→Q (.ref a) H)∧(ys≠[] → ∀ p,H p=none→Q (.ref p) (upd H p (.tup (xs++ys))))
theorem Vals.nil_iff {xs:List V}{us:List Value} (r:Vals xs us):us=[]↔xs=[]:=by
 cases r with
 | nil=>simp
 | cons _ _=>simp
theorem op_catT:OpR X (binaryOp .Add) (rCatT X.K):=by
 intro pins s σ H x y v u Q I rx ry h
 obtain ⟨a,b,xs,ys,rfl,rfl,ha,hb,hx,hz,q1,q2⟩:=h
 cases rx
 cases ry
 obtain ⟨its,r1,p1,_⟩:=I.tuple ha
 obtain ⟨its2,r2,p2,_⟩:=I.tuple hb
 refine HT.cat_tup p1 p2 (fun z=>hx (r1.nil_iff.mp z)) (fun z=>⟨.ref a,H,I,rfl,q1 (r2.nil_iff.mp z)⟩) (fun z=>?_) (by rw [← r1.length,← r2.length];exact hz)
 refine ⟨.ref s.heap.objs.size,_,I.laid (t':=s.toks) (o :=.tup (xs++ys)) (fun b ob q=>Heap.get?_push_of_some _ q) (Nat.le_refl _) ?_,rfl,q2 (fun w=>z (r2.nil_iff.mpr w)) _ (I.hok.fresh (Nat.le_refl _))⟩
 exact ⟨by rw [List.length_append];exact hz,_,r1.append r2,IsTup.new _ _⟩
end
end L2
namespace L2
open PySem PySem.Spec PyProof.Rows
def ixN (n:Nat) (i:Int):Option Nat:=if 0≤i then (if i<n then some i.toNat else none) else if -(n:Int)≤i then some (i+n).toNat else none
def atI {α:Type} (xs:List α) (i:Int):Option α:=(ixN xs.length i).bind fun j=>xs[j]?
theorem ixN_seq {n:Nat}{i:Int}{j:Nat} (h:ixN n i=some j):seqIndex? i n=some j∧j<n ∧ -(n:Int)≤i∧i<n:=by
 unfold ixN at h
 by_cases h0:0≤i
 ·rw [if_pos h0] at h
  by_cases h1:i<n
  ·rw [if_pos h1] at h
   have e:i.toNat=j:=Option.some.inj h
   exact ⟨by rw [seqIndex_of h0 h1,e],by omega,by omega,h1⟩
  ·rw [if_neg h1] at h;cases h
 ·rw [if_neg h0] at h
  by_cases h1 : -(n:Int)≤i
  ·rw [if_pos h1] at h
   have e:(i+n).toNat=j:=Option.some.inj h
   exact ⟨by rw [seqIndex_neg (by omega) h1,e],by omega,h1,by omega⟩
  ·rw [if_neg h1] at h;cases h
theorem atI_get {α:Type}{xs:List α}{i:Int}{v:α} (h:atI xs i=some v) : ∃ j,seqIndex? i xs.length=some j∧xs[j]?=some v∧j<xs.length ∧ -(xs.length:Int)≤i∧i<xs.length:=by
 unfold atI at h
 cases e:ixN xs.length i with
 | none=>rw [e] at h;cases h
 | some j =>
  rw [e] at h
  obtain ⟨h1,h2,h3,h4⟩:=ixN_seq e
  exact ⟨j,h1,h,h2,h3,h4⟩
theorem atI_nat {α:Type}{xs:List α}{j:Nat}{v:α} (h:xs[j]?=some v):atI xs (j:Int)=some v:=by
 have hj:j<xs.length:=(List.getElem?_eq_some_iff.mp h).1
 have e:ixN xs.length (j:Int)=some j:=by
  unfold ixN
  rw [if_pos (by omega),if_pos (by omega)];simp
 unfold atI;rw [e];exact h
def PlainIx (b:Expr):Prop := ∀ o i,subscripted b false o i=operate [o,i] (getItem o i)
def IxR (X:Cx) (r:R2):Prop :=
 ∀ (value slice:Expr) (pins:List (Addr×Obj)) (s:Shared) (σ:St) (H:Hp) (x y:V) (v u:Value) (Q:VK),Inv X pins σ H s→RelV x v→RelV y u→r x y H Q →
  subscripted slice false v u=operate [v,u] (getItem v u)→wpAny (model X.prog X.w) X.A (subscriptTail value slice v u) (EP X pins σ Q) X.xe s
def MtR (X:Cx) (id:String) (r:V→List V→Hp→VK→Prop):Prop :=
 ∀ (pins:List (Addr×Obj)) (s:Shared) (σ:St) (H:Hp) (x:V) (xs:List V) (v:Value) (us:List Value) (Q:VK),Inv X pins σ H s→RelV x v→Vals xs us→r x xs H Q →
  wpAny (model X.prog X.w) X.A (call (.builtin id) (v::us)) (EP X pins σ Q) X.xe s
section
variable {X:Cx}{a b:Expr}{ta tb:TE}{pos:Pos}
theorem IxR.or {r r':R2} (h:IxR X r) (h':IxR X r'):IxR X (fun x y H Q=>r x y H Q∨r' x y H Q):=by
 intro value slice pins s σ H x y v u Q I rx ry q hs
 rcases q with q|q
 ·exact h value slice pins s σ H x y v u Q I rx ry q hs
 ·exact h' value slice pins s σ H x y v u Q I rx ry q hs
theorem pe_ix {r:R2} (hr:IxR X r) (ha:PE X a ta) (hb:PE X b tb) (hs:PlainIx b):PE X (.Subscript a b pos) (tOp r ta tb):=by
 intro pins s σ H Q I h
 exact Subscript_ (binT ha hb I h fun v u s2 x y H2 I2 rx ry q=>hr a b pins s2 σ H2 x y v u Q I2 rx ry q (hs _ _))
def rIxL (K:PySem.W.Frag):R2:=fun x y H Q => ∃ p xs i v,x = .ref p∧y = .int i∧SqL K H p xs∧atI xs i=some v∧Q v H
def rIxT (K:PySem.W.Frag):R2:=fun x y H Q => ∃ p xs i v,x = .ref p∧y = .int i∧SqT K H p xs∧atI xs i=some v∧Q v H
def rIxS:R2:=fun x y H Q => ∃ z i c,x = .str z∧y = .int i∧z.length≤sizeLine∧atI z.cps.toList i=some c∧Q (.str ⟨#[c]⟩) H
theorem ix_list:IxR X (rIxL X.K):=by
 intro value slice pins s σ H x y v u Q I rx ry h hs
 obtain ⟨p,xs,i,z,rfl,rfl,hq,he,q⟩:=h
 cases rx
 obtain ⟨t,rfl⟩:=ry
 obtain ⟨its,r,pl,hz⟩:=I.list hq
 obtain ⟨j,h1,h2,h3,h4,h5⟩:=atI_get he
 obtain ⟨w,ew,rw'⟩:=r.get h2
 have hl:=r.length
 have hn:=line63
 have fin:EP X pins σ Q w s:=⟨z,H,I,rw',q⟩
 by_cases h0:0≤i
 ·have hj:i.toNat=j:=by
   rw [seqIndex_of h0 h5] at h1
   exact Option.some.inj h1
  exact item_listR pl.isList h0 (by omega) (by rw [hj];simpa using ew) fin hs
 ·have hj:(i+(its.toArray.size:Int)).toNat=j:=by
   rw [seqIndex_neg (by omega) h4] at h1
   rw [List.size_toArray,← hl]
   exact Option.some.inj h1
  exact subscriptTail_builtinR (x:=w) pl.isList.typeIs slot_list_getitem.lookup
   (wpAny_getItem_list_neg (Q:=fun r s'=>r=w∧EP X pins σ Q r s') pl.isList (by omega) (by rw [List.size_toArray] <;> omega) (by omega) (by rw [hj];simpa using ew) ⟨rfl,fin⟩) hs
theorem ix_tup:IxR X (rIxT X.K):=by
 intro value slice pins s σ H x y v u Q I rx ry h hs
 obtain ⟨p,xs,i,z,rfl,rfl,hq,he,q⟩:=h
 cases rx
 obtain ⟨t,rfl⟩:=ry
 obtain ⟨its,r,pl,hz⟩:=I.tuple hq
 obtain ⟨j,h1,h2,h3,h4,h5⟩:=atI_get he
 obtain ⟨w,ew,rw'⟩:=r.get h2
 have hl:=r.length
 have hn:=line63
 have fin:EP X pins σ Q w s:=⟨z,H,I,rw',q⟩
 exact subscriptTail_builtinR (x:=w) pl.typeIs slot_tuple_getitem.lookup
  (getItem_tuple (j:=j) (Q:=fun r s'=>r=w∧EP X pins σ Q r s') pl (by omega) (by omega) (by rw [List.size_toArray,← hl];exact h1) (by simpa using ew) ⟨rfl,fin⟩) hs
theorem ix_str:IxR X rIxS:=by
 intro value slice pins s σ H x y v u Q I rx ry h hs
 obtain ⟨z,i,c,rfl,rfl,hz,he,q⟩:=h
 obtain ⟨t,rfl⟩:=rx
 obtain ⟨t',rfl⟩:=ry
 obtain ⟨j,h1,h2,h3,h4,h5⟩:=atI_get he
 have hl:z.cps.toList.length=z.length:=by simp [Str.length]
 rw [hl] at h1 h4 h5
 have hn:=line63
 exact tail_any (typeIs_str s z t) slot_str_getitem.lookup (getItem_str (c:=c) (by
  have e1:decide (i < -(2^63:Int))=false:=decide_eq_false (by omega)
  have e2:decide (i≥2^63)=false:=decide_eq_false (by omega)
  rw [e1,e2,Bool.or_false]) (by rw [h1];simpa using h2) ⟨.str ⟨#[c]⟩,H,I.tok _,⟨_,rfl⟩,q⟩) hs
def rIx (K:PySem.W.Frag):R2:=fun x y H Q=>rIxL K x y H Q∨rIxT K x y H Q∨rIxS x y H Q
theorem ix_seq:IxR X (rIx X.K):=ix_list.or (ix_tup.or ix_str)
theorem call_len_seq:CallR X (.builtin "len") (fun xs H Q => ∃ p ys,xs=[.ref p]∧(SqL X.K H p ys∨SqT X.K H p ys)∧Q (.int ys.length) H):=by
 intro pins s σ H xs us Q I r h
 obtain ⟨p,ys,rfl,hq,q⟩:=h
 obtain ⟨u,rfl,rx⟩:=vals1 r
 cases rx
 have hn:=line63
 rcases hq with hq|hq
 ·obtain ⟨its,r',pl,hz⟩:=I.list hq
  have hlen:=r'.length
  exact Calls.call_len_list pl.isList (by simp only [List.size_toArray] <;> omega) ⟨.int ys.length,H,I.tok _,⟨s.toks+1,by rw [List.size_toArray,hlen]⟩,q⟩
 ·obtain ⟨its,r',pl,hz⟩:=I.tuple hq
  have hlen:=r'.length
  exact len_tuple pl (by simp only [List.size_toArray] <;> omega) ⟨.int ys.length,H,I.tok _,⟨s.toks+1,by rw [List.size_toArray,hlen]⟩,q⟩
theorem call_len_str:CallR X (.builtin "len") (fun xs H Q => ∃ z,xs=[.str z]∧z.length≤sizeLine∧Q (.int z.length) H):=by
 intro pins s σ H xs us Q I r h
 obtain ⟨z,rfl,hz,q⟩:=h
 obtain ⟨u,rfl,t,rfl⟩:=vals1 r
 have hn:=line63
 exact len_str (by omega) ⟨.int z.length,H,I.tok _,⟨_,rfl⟩,q⟩
theorem CallR.or {f:Value}{r r':List V→Hp→VK→Prop} (h:CallR X f r) (h':CallR X f r'):CallR X f (fun xs H Q=>r xs H Q∨r' xs H Q):=by
 intro pins s σ H xs us Q I rs q
 rcases q with q|q
 ·exact h pins s σ H xs us Q I rs q
 ·exact h' pins s σ H xs us Q I rs q
theorem call_tuple_of:CallR X (.type "tuple") (fun xs H Q => ∃ p ys,xs=[.ref p]∧((SqL X.K H p ys ∧ ∀ l,H l=none→Q (.ref l) (upd H l (.tup ys)))∨(SqT X.K H p ys∧Q (.ref p) H))):=by
 intro pins s σ H xs us Q I r h
 obtain ⟨p,ys,rfl,h⟩:=h
 obtain ⟨u,rfl,rx⟩:=vals1 r
 cases rx
 rcases h with ⟨hq,q⟩|⟨hq,q⟩
 ·obtain ⟨its,r',pl,hz⟩:=I.list hq
  have hlen:=r'.length
  refine call_tuple_list pl.isList (fun h' kp=>?_) (by simp only [List.size_toArray] <;> omega)
  have I1:Inv X pins σ H { s with heap:=h' }:=I.kept (t':=s.toks) kp
  have I2:Inv X pins σ (upd H h'.objs.size (.tup ys)) { s with heap:=h'.push { cls :=.type "tuple",data :=.seq its.toArray } } :=
   I1.laid (t':=s.toks) (fun b o e=>Heap.get?_push_of_some _ e) (Nat.le_refl _) (show ObjOk X.prog X.w _ _ _ (.tup ys) from ⟨hz,its,r',IsTup.new _ _⟩)
  exact ⟨.ref h'.objs.size,_,I2,rfl,q _ (I1.hok.fresh (Nat.le_refl _))⟩
 ·obtain ⟨its,r',pl,hz⟩:=I.tuple hq
  exact call_tuple_same pl ⟨.ref p,H,I,rfl,q⟩
def tyV (K:PySem.W.Frag) (T:String) (x:V) (H:Hp):Prop:=match x with
 | .str _=>T = "str"
 | .int _=>T = "int"
 | .ref p=>(T = "list" ∧ ∃ xs,SqL K H p xs)∨(T = "tuple" ∧ ∃ o,K.lookup p=some o∧o.cls = .type "tuple" ∧ o.dict=none) ∨
  (T = "dict" ∧ ((∃ kvs,H p=some (.dK kvs)) ∨ ∃ kvs,H p=some (.dT kvs)))∨(T = "set" ∧ ∃ S n,H p=some (.set S n))
 | _=>False
theorem tyV_is {pins:List (Addr×Obj)}{σ:St}{H:Hp}{s:Shared}{T:String}{x:V}{v:Value} (I:Inv X pins σ H s) (r:RelV x v) (ty:tyV X.K T x H) :
 s.TypeIs v T ∧ ∀ a,v = .ref a → ∃ ob,s.heap.get? a=some ob∧ob.dict=none:=by
  cases x with
  | str z =>
   obtain ⟨t,rfl⟩:=r
   cases (show T = "str" from ty)
   exact ⟨typeIs_str s z t,fun _ e=>nomatch e⟩
  | int i =>
   obtain ⟨t,rfl⟩:=r
   cases (show T = "int" from ty)
   exact ⟨typeIs_int s i t,fun _ e=>nomatch e⟩
  | ref p =>
   cases r
   rcases ty with ⟨rfl,xs,hq⟩|⟨rfl,o,hk,hc,hd⟩|⟨rfl,hk⟩|⟨rfl,S,n,hk⟩
   ·obtain ⟨its,_,pl,_⟩:=I.list hq
    refine ⟨pl.isList.typeIs,fun a e=>?_⟩
    cases e
    obtain ⟨o,n,e,c,hd,_⟩:=pl
    exact ⟨o,e,hd⟩
   ·refine ⟨⟨o,I.kIn p o hk,hc⟩,fun a e=>?_⟩
    cases e
    exact ⟨o,I.kIn _ o hk,hd⟩
   ·have z : ∃ o,s.heap.get? p=some o∧o.ExactDict:=by
     rcases hk with ⟨kvs,hk⟩|⟨kvs,hk⟩
     ·obtain ⟨_,_,_,_,o,_,_,e,ex,_⟩:=I.hok p _ hk
      exact ⟨o,e,ex⟩
     ·obtain ⟨_,_,_,_,o,_,_,e,ex,_⟩:=I.hok p _ hk
      exact ⟨o,e,ex⟩
    obtain ⟨o,e,ex⟩:=z
    refine ⟨⟨o,e,ex.1⟩,fun a e2=>?_⟩
    cases e2
    exact ⟨o,e,ex.2.1⟩
   ·obtain ⟨o,_,_,_,e,ex,_⟩:=I.hok p _ hk
    refine ⟨⟨o,e,ex.1⟩,fun a e2=>?_⟩
    cases e2
    exact ⟨o,e,ex.2.1⟩
  | _=>exact False.elim ty
def tBM (K:PySem.W.Frag) (T:String) (r:V→List V→Hp→VK→Prop) (to:TE) (t:TA):TE:=fun σ H Q=>to σ H fun x H1=>tyV K T x H1∧t σ H1 fun xs H2=>r x xs H2 Q
variable {o e:Expr}{es:List Expr}{to:TE}{t:TA}{name:Str}{apos cpos:Pos}{T id:String}{r:V→List V→Hp→VK→Prop}
theorem pe_bm (pa:PlainAttrs T) (slot:Slot T name id) (hty:typeOf (.builtin id)=pure (.type "method_descriptor")) (hm:MtR X id r) (ho:PE X o to) (ha:PA X (e::es) t)
 (hbase:attributeBase o name X.env (eval o X.env)=eval o X.env:=by rfl)
  (hfew:((backTo cpos (starEach (e::es) X.env)).all (fun x => !x.1)&&(backToKw cpos (keywordEach [] X.env)).all (fun x=>x.1.isSome)
   && decide ((e::es).length+([]:List Keyword).length+(if ([]:List Keyword).isEmpty then 0 else 1)<30))=true:=by rfl)
  (hline:(apos.endLine==cpos.line)=true:=by rfl) (hs:starEach (e::es) X.env=(false,eval e X.env)::starEach es X.env:=by rfl) (hplain:(backTo cpos (starEach es X.env)).any (·.1)=false:=by rfl) :
  PE X (.Call (.Attribute o name apos) (e::es) [] cpos) (tBM X.K T r to t):=by
  intro pins s σ H Q I h
  refine wpAny_Call_method_late hbase hfew hline rfl (thn (ho pins s σ H _ I h) fun v s1 xx46=>?_)
  obtain ⟨x,H1,I1,r1,ty,q1⟩:=xx46
  obtain ⟨h1,h2⟩:=tyV_is I1 r1 ty
  refine ⟨T,id,pa,slot,hty,h1,h2,?_⟩
  have hA:=ha cpos pins s1 σ H1 _ I1 q1
  rw [hs] at hA ⊢
  refine Calls.callWith_builtin (by show (false||(backTo cpos (starEach es X.env)).any (·.1))=false;rw [hplain] <;> rfl) (Calls.evalArgs_plain ?_)
  exact thn hA fun us s2 xx45=>by obtain ⟨vs,H2,I2,r2,q2⟩:=xx45;exact hm pins s2 σ H2 x vs v us Q I2 r1 r2 q2
/- xs.append(e),list.index on a module's tuple .. are MtR facts of 06m -/
end
end L2
namespace L2
open PySem PySem.Spec PyProof.Rows
def MtM (X:Cx) (id:String) (r:V→List V→Hp→VK→Prop):Prop :=
 ∀ (pins:List (Addr×Obj)) (s:Shared) (σ:St) (H:Hp) (x:V) (xs:List V) (v:Value) (us:List Value) (Q:VK),Inv X pins σ H s→RelV x v→Vals xs us→r x xs H Q →
  wpAny (model X.prog X.w) X.A (call (.builtin id) (v::us)) (EP X pins σ Q) X.xe s
theorem Vals.one : ∀ {x:V}{us:List Value},Vals [x] us → ∃ u,us=[u]∧RelV x u
 | _,_,.cons r .nil=>⟨_,rfl,r⟩
section
variable {X:Cx}{pins:List (Addr×Obj)}{σ:St}{H:Hp}{s:Shared}{l b:Addr}{xs ys zs:List V}
theorem Inv.lset {its its':List Value}{n:Nat}{f:Array Value→Array Value}{t':Nat} (I:Inv X pins σ H s) (hH:H l=some (.lst xs))
 (e:s.heap.get? l=some { cls :=.type "list",data :=.seq its.toArray n }) (hf:f its.toArray=its'.toArray) (hv:Vals ys its') (hz:ys.length≤sizeLine) :
  Inv X pins σ (upd H l (.lst ys)) { s with heap:=s.heap.update l (Obj.mapSeq f),toks:=t' }:=by
  have q:=PySem.IsL.update e f
  rw [hf] at q
  refine I.write (x:=l) (e:=l) (by rw [hH];exact trivial) (.inl rfl) (fun b' u hb hu=>(Heap.get?_update_other s.heap (Obj.mapSeq f) (Ne.symm hb)).trans hu) ⟨_,q⟩ ?_
  exact ⟨hz,its',_,hv,q⟩
theorem Inv.lnew {its:List Value}{t':Nat} (I:Inv X pins σ H s) (hv:Vals ys its) (hz:ys.length≤sizeLine) :
 Inv X pins σ (upd H s.heap.objs.size (.lst ys)) { s with heap:=s.heap.push { cls :=.type "list",data :=.seq its.toArray },toks:=t' } :=
  I.laid (fun _ _ q=>Heap.get?_push_of_some _ q) (Nat.le_refl _) ⟨hz,its,0,hv,Heap.get?_push_size _ rfl⟩
theorem Inv.fresh (I:Inv X pins σ H s):H s.heap.objs.size=none:=I.hok.fresh (Nat.le_refl _)
theorem Inv.lstM (I:Inv X pins σ H s) (hH:H l=some (.lst xs)):xs.length≤sizeLine ∧ ∃ (its:List Value) (n:Nat),Vals xs its∧xs.length=its.length∧s.heap.get? l=some { cls :=.type "list",data :=.seq its.toArray n }:=by
 obtain ⟨z,its,n,r,e⟩:=I.hok l _ hH
 exact ⟨z,its,n,r,r.length,e⟩
end
section
variable {X:Cx}
def rAppend:V→List V→Hp→VK→Prop:=fun x vs H Q => ∃ l xs y,x = .ref l∧vs=[y]∧H l=some (.lst xs)∧xs.length<sizeLine∧Q .non (upd H l (.lst (xs++[y])))
theorem mt_append:MtM X "list.append" rAppend:=by
 intro pins s σ H x vs v us Q I rx rv h
 obtain ⟨l,xs,y,rfl,rfl,hH,hz,q⟩:=h
 cases rx
 obtain ⟨u,rfl,ru⟩:=rv.one
 obtain ⟨z,its,n,r,hl,e⟩:=I.lstM hH
 refine call_meets F.slot_list_append ⟨_,e,rfl⟩ F.entry_list_append (F.args_list_append_2 _ _) (PySem.list_append l its.toArray n u (by rw [List.size_toArray];omega)) ⟨e,?_⟩
 refine ⟨.non,_,I.lset (its':=its++[u]) hH e (by simp) (r.append (.cons ru .nil)) ?_,rfl,q⟩
 rw [List.length_append,List.length_singleton]
 omega
end
section
variable {prog:Program}{w:World}{A:Around}{E:Value→Shared→Prop}{s:Shared}
end
section
variable {X:Cx}
end
end L2
namespace Att
open PySem PySem.W PySem.Calls PyProof.Rows
theorem ints_of_wellAll {P:Params}{h:Heap} : ∀ (ns:List Int) (vs:List Value),WellAll P h vs (ns.map WData.int)→IntsAre vs ns:=by
 intro ns
 induction ns with
 | nil =>
  intro vs w
  rw [List.map_nil] at w
  cases w
  exact .nil
 | cons n ns ih =>
  intro vs w
  rw [List.map_cons] at w
  cases w with
  | cons a b =>
   cases a
   exact .cons _ _ (ih _ b)
theorem script_of {l:OpenLaw}{n:Nat} (hn:l.most=some n) {P:Params}{h:Heap}{args:List WData}{vals:List Value}
 (hpre:l.row.toRowW.claim.pre args=true) (hwl:WellAll P h vals args) :
 ∃ a vs ns,vals=[Value.ref a]∧args=[WData.list (ns.map WData.int)]∧h.get? a=some { cls :=.type "list",data :=.seq vs.toArray }∧IntsAre vs ns∧ns.length≤n:=by
  have hsh:WShape.hasAll [] args [.list .int]=true:=(pre_splitW hpre).1
  have hc:l.pre.holds [] { args:=args }=true:=(pre_splitW hpre).2
  obtain ⟨d,r,rfl,h1,h2⟩:=hasAllW_cons hsh
  obtain rfl:=hasAllW_nil h2
  obtain ⟨xs,rfl,h3⟩:=hasW_list h1
  obtain ⟨ns,rfl⟩:=items_int h3
  have hlen:ns.length≤n:=by
   unfold OpenLaw.pre at hc
   have h4:(WTm.not (.lt (.lit (.int (n:Int))) (.len (.arg 0)))).holds [] { args:=[.list (ns.map .int)] }=true:=by
    have h4:=(holds_andW hc).1
    rw [hn] at h4
    exact h4
   have h5:=condW_of h4 (w_not (w_lt w_lit (w_len_list (w_arg rfl))))
   rw [List.length_map] at h5
   refine Nat.le_of_not_lt fun q=>?_
   have q':(n:Int)<((ns.length:Nat):Int):=by omega
   first
    | (rw [decide_eq_true q'] at h5;exact absurd h5 (by decide))
    | (simp at h5;omega)
  cases hwl with
  | cons w1 w2 =>
   cases w2
   cases w1 with
   | list ho hall=>exact ⟨_,_,ns,rfl,rfl,ho,ints_of_wellAll ns _ hall,hlen⟩
theorem post_true (l:OpenLaw) (args:List WData):l.row.toRowW.claim.post args (.bool true) args=true :=
 postW_of (r:=l.row.toRowW) (X:=(true==true))
  (show WShape.has [] (.bool true) .bool=true by first|rfl|decide|simp [WShape.has,WShape.arms,WShape.armsAll])
  (show (WTm.eq .res (.lit (.bool true))).value [] { args:=args,res:=some (.bool true),after:=args }=some (.bool (true==true)) from w_eq_bool (w_res rfl) w_lit) rfl
theorem attach_call {l:OpenLaw}{n:Nat}{q:Program}{loose:List Str}{XP:(Str→Option Value)→Heap→Prop}{YP:World→Heap→Prop}{d:DefRec}
 (hn:l.most=some n) (hdf:d.params.defaults=[])
 (call : ∀ (w:World) (s₀ s₁:Shared) (mg mb:Str→Option Value) (fa:Addr) (o:Obj) (pm cd doc:Value) (a:Addr) (vs:List Value) (ns:List Int),
 Ground q loose [] XP w s₀ mg mb s₁.heap→YP w s₁.heap →
 s₁.heap.get? fa=some o→o.data = .func (docDef d.name d.params d.body d.scope pm cd doc)→s₁.heap.CodeRec cd d.name→mg d.name=some (.ref fa) →
 s₁.heap.get? a=some { cls :=.type "list",data :=.seq vs.toArray }→IntsAre vs ns→ns.length≤n→s₁.gens = #[] →
  codeAny (model l.prog w) callerA (.call (.ref fa) ⟨[.ref a],[]⟩) (fun r s'=>r = .ok (.ret (.bool true))∧OldK s₁.heap s'.heap∧s'.os=s₁.os∧AllBare s'.gens) s₁) :
  WalkO q loose XP YP l.row.toRowW d [] (fun f vs=>PySem.call f vs):=by
  intro w s₀ s₁ mg mb G Y fa o pm cd doc dV kV ho hd hcd hD hmg hg args vals as hpre hlay hrd hwl hlo
  obtain rfl:dV = .none:=Dflts.none hD hdf
  obtain rfl:kV = .none:=Dflts.noKw hD
  obtain ⟨a,vs,ns,rfl,rfl,hobj,hints,hlen⟩:=script_of hn hpre hwl
  refine enter_call (codeAny_mono (call w s₀ s₁ mg mb fa o pm cd doc a vs ns G Y ho (fd_plain hd) hcd hmg hobj hints hlen hg) fun r s' hq=>?_)
  obtain ⟨rfl,h2,h3,h4⟩:=hq
  exact ⟨.inl ⟨.bool true,.bool true,[],rfl,fun _=>rfl,.bool true,post_true l _,fun _=>⟨List.Pairwise.nil,fun _ hm=>(nomatch hm)⟩⟩,h2,h3,h4⟩
section
variable {prog:Program}{w:World}{A:Around}{E:Value→Shared→Prop}{s:Shared}{K:Frag}
end
end Att
namespace L2
open PySem PySem.Spec PyProof.Rows
theorem vals_ints : ∀ {vs:List Value}{ns:List Int},IntsAre vs ns→Vals (ns.map V.int) vs
 | _,_,.nil => .nil
 | _,_,.cons n t h => .cons ⟨t,rfl⟩ (vals_ints h)
def Only (H:Hp):Prop := ∀ b,H b=none ∨ ∃ o xs,H b=some (.frz o (.lst xs))
theorem law_call {P:Program}{w:World}{K:PySem.W.Frag}{mg mb:Str→Option Value}{CX:CXT}{k:Nat}{fa a:Addr}{fd:FuncData}{x:Str}{sp:Sp}{s₁:Shared}{vs:List Value}{ns:List Int}
 (KX:K.In s₁.heap) (hns:s₁.heap.Ns mainGlobals mg) (hb:s₁.heap.Ns builtinsNs mb) (hbb : ∀ x:Str,x ≠ "__name__" → mb x=bootBuiltins x) (hlim:s₁.heap.NoLimit) (hg:s₁.gens = #[])
 (ha:s₁.heap.get? a=some { cls :=.type "list",data :=.seq vs.toArray }) (hi:IntsAre vs ns) (hl:ns.length≤sizeLine) (hr:Room k callerA)
  (F : ∀ base:Heap,K.In base→base.Ns mainGlobals mg→FnOk P w K mg base CX k fa fd [x] sp) (hbind : ∀ (s:Shared) (u:Value),BindsTo s fd ⟨[u],[]⟩ [(x,u)])
  (hsp : ∀ H:Hp,Only H→SqL K H a (ns.map V.int)→sp [.ref a] H (fun v _=>v = .bl true) fun _ _ _=>False)
  (hCX : ∀ H e s',CX [] H s₁ (fun _ _ _=>False) e s'→False) :
  codeAny (model P w) callerA (.call (.ref fa) ⟨[.ref a],[]⟩) (fun r s'=>r = .ok (.ret (.bool true))∧OldK s₁.heap s'.heap∧s'.os=s₁.os∧AllBare s'.gens) s₁:=by
  have rv:=vals_ints hi
  have lenV:=hi.length
  have core : ∀ H:Hp,Only H→SqL K H a (ns.map V.int)→HOk P w H s₁.heap→(∀ b,H b≠none→b=a)→(H a≠none→K.lookup a=none) →
   codeAny (model P w) callerA (.call (.ref fa) ⟨[.ref a],[]⟩) (fun r s'=>r = .ok (.ret (.bool true))∧OldK s₁.heap s'.heap∧s'.os=s₁.os∧AllBare s'.gens) s₁:=by
   intro H hO hS hok hA hK
   have base_of : ∀ {b:Addr}{o:Obj},s₁.heap.get? b=some o→H b=none→(hidT s₁.heap H).get? b=some o:=fun e n=>hidT_get e n
   have noA : ∀ {b:Addr}{o:Obj}{es:Array DictEntry}{ep:Nat},s₁.heap.get? b=some o→o.data = .dict es ep→H b=none:=fun {b o es ep} e d=>by
    cases q:H b with
    | none=>rfl
    | some u =>
     have e':b=a:=hA b (by rw [q];simp)
     subst e'
     rw [ha] at e;cases e
     have d':Data.seq vs.toArray _=Data.dict es ep:=d
     cases d'
   have nsK : ∀ {b:Addr}{m:Str→Option Value},s₁.heap.Ns b m→(hidT s₁.heap H).Ns b m:=fun {b m} ⟨o,es,ep,e,d,r⟩=>⟨o,es,ep,base_of e (noA e d),d,r⟩
   have hKb:K.In (hidT s₁.heap H):=fun b o e=>base_of (KX b o e) (by
    cases q:H b with
    | none=>rfl
    | some u =>
     have e':b=a:=hA b (by rw [q];simp)
     subst e'
     rw [hK (by rw [q];simp)] at e;cases e)
   have hM:Mod K mg (hidT s₁.heap H):=⟨hKb,nsK hns,⟨mb,nsK hb,hbb⟩,let ⟨mc,h1,h2⟩:=hlim; ⟨mc,nsK h1,h2⟩⟩
   have e0:Env0 P w K mg (hidT s₁.heap H) callerA [] s₁ H:=⟨rfl,hM,fun b o e=>of_hidT e,Nat.le_of_eq (hidT_size _ _),trivial,fun b hb=>absurd (show b ∈ ([]:List Addr) from hb) (by simp),hok,.of_eq hg⟩
   refine codeAny_mono ((F _ hKb (nsK hns)).run callerA [] s₁ H ⟨[.ref a],[]⟩ [.ref a] [.ref a] _ _ hr e0 (hbind s₁ (.ref a)) (.cons rfl .nil) (hsp H hO hS)) fun r s' h=>?_
   cases r with
   | error e=>exact (hCX H e s' h).elim
   | ok fl =>
    cases fl with
    | next=>exact False.elim h
    | brk=>exact False.elim h
    | cont=>exact False.elim h
    | ret u =>
     obtain ⟨v,H',os,bare,un,hok',r',q⟩:=h
     have q':v = .bl true:=q
     subst q'
     obtain rfl:u=Value.bool true:=r'
     refine ⟨rfl,OldK.of_keep fun b o e=>?_,os,bare⟩
     cases q:H b with
     | none=>exact un.keep b o e q (by intro z;exact absurd (show b ∈ ([]:List Addr) from z) (by simp)) (by simp)
     | some u =>
      rcases hO b with z|⟨ob,xs,z⟩
      ·rw [q] at z;cases z
      ·have z2:=un.frzs b ob _ z
       obtain ⟨e1,_⟩:=hok b _ z
       obtain ⟨e2,_⟩:=hok' b _ z2
       rw [e] at e1;cases e1
       exact e2
  cases hk:K.lookup a with
  | some o =>
   have e:=KX a o hk
   rw [ha] at e
   cases e
   refine core (fun _=>none) (fun _ => .inl rfl) (.inr ⟨_,vs.toArray,_,hk,rfl,rfl,rfl,by rw [List.size_toArray,lenV];exact hl,by simpa using rv⟩) (fun b u z=>by have z':(none:Option HO)=some u:=z;cases z') (fun b z=>absurd rfl z) fun z=>absurd rfl z
  | none =>
   refine core (fun b=>if b=a then some (.frz { cls :=.type "list",data :=.seq vs.toArray } (.lst (ns.map V.int))) else none) (fun b=>?_) (.inl (.inr ⟨{ cls :=.type "list",data :=.seq vs.toArray },if_pos rfl⟩)) (fun b u z=>?_) (fun b z=>?_) fun _=>hk
   ·by_cases hb:b=a
    ·exact .inr ⟨_,_,if_pos hb⟩
    ·exact .inl (if_neg hb)
   ·by_cases hb:b=a
    ·have z':=(if_pos hb).symm.trans z
     cases z'
     subst hb
     exact ⟨ha,by rw [List.length_map];exact hl,vs,_,rv,ha⟩
    ·have z':=(if_neg hb).symm.trans z
     cases z'
   ·by_cases hb:b=a
    ·exact hb
    ·exact absurd (if_neg hb) z
end L2
namespace L2
open PySem PySem.Spec PyProof.Rows
theorem walk_of {l:PySem.W.OpenLaw}{n k:Nat}{q:Program}{loose:List Str}{XP:(Str→Option Value)→Heap→Prop}{YP:World→Heap→Prop}{d:DefRec}{K:Params→PySem.W.Frag}{CX:World→CXT}{sp:World→Sp}{x:Str}
 (hn:l.most=some n) (hn2:n≤sizeLine) (hdf:d.params.defaults=[]) (hr:Room k callerA)
 (hY : ∀ (w:World) (h:Heap),YP w h→(K w.params).In h)
 (F : ∀ (w:World) (mg:Str→Option Value) (fa:Addr) (h:Heap),(K w.params).In h→h.Ns mainGlobals mg→mg d.name=some (.ref fa) →
 ∃ fd:FuncData,(∀ (s:Shared) (u:Value),BindsTo s fd ⟨[u],[]⟩ [(x,u)]) ∧
 ∀ base:Heap,(K w.params).In base→base.Ns mainGlobals mg→FnOk l.prog w (K w.params) mg base (CX w) k fa fd [x] (sp w))
 (hsp : ∀ (w:World) (H:Hp) (a:Addr) (ns:List Int),ns.length≤n→Only H→SqL (K w.params) H a (ns.map V.int)→sp w [.ref a] H (fun v _=>v = .bl true) fun _ _ _=>False)
 (hCX : ∀ (w:World) (H:Hp) (s:Shared) (e:Value) (s':Shared),CX w [] H s (fun _ _ _=>False) e s'→False) :
 PySem.W.WalkO q loose XP YP l.row.toRowW d [] (fun f vs=>PySem.call f vs):=by
  refine Att.attach_call hn hdf fun w s₀ s₁ mg mb fa o pm cd doc a vs ns G Y ho hd hcd hmg hobj hints hlen hg=>?_
  have KX:=hY w _ Y
  obtain ⟨fd,hb,hF⟩:=F w mg fa _ KX G.T.g hmg
  exact law_call KX G.T.g G.T.b G.T.builtins G.T.nolimit hg hobj hints (Nat.le_trans hlen hn2) hr hF hb (fun H hO hS=>hsp w H a ns hlen hO hS) fun H e s'=>hCX w H s₁ e s'
end L2
namespace L2
open PySem PySem.Spec PyProof.Rows
def defArgs (s:Stmt):Arguments:=match s with
 | .FunctionDef _ a _ _ _ _ _ _ _ _=>a
 | _=>{ posonlyargs:=[],args:=[],vararg:=none,kwonlyargs:=[],kw_defaults:=[],kwarg:=none,defaults:=[] }
def defBody (s:Stmt):List Stmt:=match s with
 | .FunctionDef _ _ b _ _ _ _ _ _ _=>b
 | _=>[]
def defScope (s:Stmt):Scope:=match s with
 | .FunctionDef _ _ _ _ _ _ sc _ _ _=>sc
 | _=>{ kind :=.function,names:=[],isGenerator:=false,isCoroutine:=false }
abbrev CX0:CXT:=fun _ _ _ _ _ _=>False
abbrev E0:XK:=fun _ _ _=>False
theorem pass0 {X:Cx}:Passes CX0 X E0:=fun _ _ _ _ _ _ _ h=>h.elim
structure Fun (K:PySem.W.Frag) (x qual:Str) (st:Stmt) (f:Addr) (fd:FuncData):Prop where
 ex : ∃ (oc:Value) (od:Option Addr) (kV doc pm:Value) (an:Option Addr) (cdv ct:Value) (osl:Array (Option Value)),
  fd=PySem.W.fnOf x qual (defArgs st) (defBody st) (defScope st) .none kV doc pm an cdv ct∧K.lookup f=some ⟨oc,od,.func fd,osl⟩∧PySem.W.codeIn K cdv qual=true
 kp:PySem.W.keepIn K (.ref f)=true
section
variable {P:Program}{w:World}{K:PySem.W.Frag}{mg:Str→Option Value}{base:Heap}
theorem Fun.ok {x qual:Str}{st:Stmt}{f:Addr}{fd:FuncData}{N ps:List Str}{k:Nat}{sp:Sp} (F:Fun K x qual st f fd) (S:FnScope N ps (defScope st)) (len : ∀ vs H Q E,sp vs H Q E→vs.length=ps.length)
 (hbody : ∀ (cdv:Value) (A:Around) (outer:List Env) (s:Shared) (H:Hp) (vs:List V) (Q:VK) (E:XK),Room k (A.deeper (envOfC qual (defScope st) s.heap.objs.size f cdv))→sp vs H Q E →
 ∃ t,PSs (cxOf CX0 P w K mg base N qual (defScope st) f cdv A outer s H E).nox (defBody st) t∧t { nx:=fun _ H'=>Q .non H',rt:=Q } (start N vs) H):FnOk P w K mg base CX0 (k+1) f fd ps sp:=by
  obtain ⟨oc,od,kV,doc,pm,an,cdv,ct,osl,rfl,lk,hcd⟩:=F.ex
  refine fn_of lk hcd S len fun A outer s H vs Q E hr hsp=>?_
  obtain ⟨t,h,q⟩:=hbody cdv A outer s H vs Q E hr hsp
  exact ⟨t,h.nox,q⟩
theorem Fun.binds {x qual:Str}{st:Stmt}{f:Addr}{fd:FuncData}{ps:List Str} (F:Fun K x qual st f fd)
 (h : ∀ (kV doc pm:Value) (an:Option Addr) (cdv ct:Value) (us:List Value),us.length=ps.length→bindArgs (PySem.W.fnOf x qual (defArgs st) (defBody st) (defScope st) .none kV doc pm an cdv ct) ⟨us,[]⟩=pure (ps.zip us)):Binds K fd ps []:=by
  obtain ⟨oc,od,kV,doc,pm,an,cdv,ct,osl,rfl,lk,hcd⟩:=F.ex
  exact .all (h kV doc pm an cdv ct)
theorem fun_mk {x qual:Str}{st:Stmt}{f:Addr}{oc:Value}{od an:Option Addr}{osl:Array (Option Value)}{kV doc pm cdv ct:Value} (l:K.lookup f=some ⟨oc,od,.func (PySem.W.fnOf x qual (defArgs st) (defBody st) (defScope st) .none kV doc pm an cdv ct),osl⟩)
 (c:PySem.W.codeIn K cdv qual=true) (k:PySem.W.keepIn K (.ref f)=true):Fun K x qual st f (PySem.W.fnOf x qual (defArgs st) (defBody st) (defScope st) .none kV doc pm an cdv ct):=⟨⟨oc,od,kV,doc,pm,an,cdv,ct,osl,rfl,l,c⟩,k⟩
end
theorem small1000 {n:Nat} (h:n≤1000):n<sizeLine:=Nat.lt_of_le_of_lt h (by decide)
section
variable {X:Cx}
end
theorem iteF {A B:Prop} (h:B):if false=true then A else B:=by
 rw [if_neg Bool.false_ne_true]
 exact h
theorem iteT {A B:Prop} (h:A):if true=true then A else B:=by
 rw [if_pos rfl]
 exact h
def NoT:HO→Prop
 | .tbl _=>False
 | _=>True
structure Kp (o:HO) (x:Option HO):Prop where
 to:NoT o→x=some o
 tb : ∀ ps,o = .tbl ps → ∃ ps',x=some (.tbl ps')
theorem Kp.of {o:HO}{x:Option HO} (h:x=some o):Kp o x:=⟨fun _=>h,fun ps e=>⟨ps,by rw [h,e]⟩⟩
def Same (H H':Hp):Prop := ∀ b o,H b=some o→Kp o (H' b)
theorem tbl_or (o:HO):NoT o ∨ ∃ ps,o = .tbl ps:=by
 cases o <;> first|exact .inr ⟨_,rfl⟩|exact .inl trivial
theorem Same.of {H H':Hp} (h : ∀ b o,H b=some o→H' b=some o):Same H H':=fun b o e => .of (h b o e)
theorem Same.at {H H':Hp} (s:Same H H') {b:Addr}{o:HO} (e:H b=some o) (n:NoT o:=by trivial):H' b=some o:=(s b o e).to n
theorem Same.any {H H':Hp} (s:Same H H') {b:Addr}{o:HO} (e:H b=some o) : ∃ o',H' b=some o':=by
 rcases tbl_or o with n|⟨ps,rfl⟩
 ·exact ⟨o,(s b o e).to n⟩
 ·obtain ⟨ps',e'⟩:=(s b _ e).tb ps rfl
  exact ⟨_,e'⟩
theorem Same.refl (H:Hp):Same H H :=.of fun _ _ h=>h
theorem Same.trans {H H1 H2:Hp} (a:Same H H1) (b:Same H1 H2):Same H H2:=fun c o h=>⟨fun n=>(b c o ((a c o h).to n)).to n,fun ps e=>let ⟨ps',e'⟩:=(a c o h).tb ps e; (b c _ e').tb ps' rfl⟩
theorem Same.free {H H':Hp} (e:Same H H') {l:Addr} (h:H' l=Option.none):H l=Option.none:=by
 cases q:H l with
 | none=>rfl
 | some o =>
  obtain ⟨o',z⟩:=e.any q
  rw [z] at h
  cases h
theorem Same.seq {K:PySem.W.Frag}{H H':Hp}{a:Addr}{xs:List V} (e:Same H H') (h:SqL K H a xs):SqL K H' a xs:=by
 rcases h with (h|⟨o,h⟩)|h
 ·exact .inl (.inl (e.at h))
 ·exact .inl (.inr ⟨o,e.at h⟩)
 ·exact .inr h
end L2
namespace L2
open PySem PySem.Spec PyProof.Rows
mutual
def Is (K:PySem.W.Frag) (H:Hp):PyData→V→Prop
 | .none,v=>v = .non
 | .bool b,v=>v = .bl b
 | .int i,v=>v = .int i
 | .str x,v=>v = .str x
 | .list l,v => ∃ a xs,v = .ref a∧SqL K H a xs∧Iss K H l xs
 | .tuple l,v => ∃ a xs,v = .ref a∧SqT K H a xs∧Iss K H l xs
 | .dict l,v => ∃ a kvs,v = .ref a∧H a=some (.dK kvs)∧(!l.isEmpty) = !kvs.isEmpty
def Iss (K:PySem.W.Frag) (H:Hp):List PyData→List V→Prop
 | [],xs=>xs=[]
 | d::l,xs => ∃ x r,xs=x::r∧Is K H d x∧Iss K H l r
end
instance {o:HO}{x:Option HO}:Coe (x=some o) (Kp o x):=⟨Kp.of⟩
instance {l:List V}{x:Option HO}:CoeOut (Kp (.lst l) x) (x=some (.lst l)):=⟨fun k=>k.to trivial⟩
instance {l:List V}{x:Option HO}:CoeOut (Kp (.tup l) x) (x=some (.tup l)):=⟨fun k=>k.to trivial⟩
instance {l:List (Key×V)}{x:Option HO}:CoeOut (Kp (.dK l) x) (x=some (.dK l)):=⟨fun k=>k.to trivial⟩
instance {l:List (List Key×V)}{x:Option HO}:CoeOut (Kp (.dT l) x) (x=some (.dT l)):=⟨fun k=>k.to trivial⟩
instance {C d:Addr}{l:List (Str×V)}{x:Option HO}:CoeOut (Kp (.ins C d l) x) (x=some (.ins C d l)):=⟨fun k=>k.to trivial⟩
instance {f:Heap→Prop}{x:Option HO}:CoeOut (Kp (.ext f) x) (x=some (.ext f)):=⟨fun k=>k.to trivial⟩
theorem same_rd {H H':Hp}{a:Addr}{u:HO} (s:Same H H') (h:Rd H a u) (n:NoT u:=by trivial):Rd H' a u:=by
 rcases h with h|⟨o,h⟩
 ·exact .inl (s.at h n)
 ·exact .inr ⟨o,s.at h⟩
theorem same_seqT {K:PySem.W.Frag}{H H':Hp}{a:Addr}{xs:List V} (s:Same H H') (h:SqT K H a xs):SqT K H' a xs:=by
 rcases h with h|h
 ·exact .inl (same_rd s h)
 ·exact .inr h
theorem same_new {H:Hp}{p:Addr}{o:HO} (h:H p=none):Same H (upd H p o) :=.of fun b u e=>by
 rw [upd_ne (ne_of_none e h)];exact e
mutual
theorem Is.mono {K:PySem.W.Frag}{H H':Hp} (s:Same H H') : ∀ {d:PyData}{v:V},Is K H d v→Is K H' d v
 | .none,_,h=>by unfold Is at h ⊢;exact h
 | .bool _,_,h=>by unfold Is at h ⊢;exact h
 | .int _,_,h=>by unfold Is at h ⊢;exact h
 | .str _,_,h=>by unfold Is at h ⊢;exact h
 | .list l,_,h=>by
  unfold Is at h ⊢
  obtain ⟨a,xs,e,q,r⟩:=h
  exact ⟨a,xs,e,s.seq q,Iss.mono s r⟩
 | .tuple l,_,h=>by
  unfold Is at h ⊢
  obtain ⟨a,xs,e,q,r⟩:=h
  exact ⟨a,xs,e,same_seqT s q,Iss.mono s r⟩
 | .dict _,_,h=>by
  unfold Is at h ⊢
  obtain ⟨a,kvs,e,q,m⟩:=h
  exact ⟨a,kvs,e,s.at q,m⟩
theorem Iss.mono {K:PySem.W.Frag}{H H':Hp} (s:Same H H') : ∀ {l:List PyData}{xs:List V},Iss K H l xs→Iss K H' l xs
 | [],_,h=>by unfold Iss at h ⊢;exact h
 | d::l,_,h=>by
  unfold Iss at h ⊢
  obtain ⟨x,r,e,p,q⟩:=h
  exact ⟨x,r,e,Is.mono s p,Iss.mono s q⟩
end
section
variable {K:PySem.W.Frag}{H H':Hp}
theorem is_non:Is K H .none .non:=by unfold Is;rfl
theorem is_bl (b:Bool):Is K H (.bool b) (.bl b):=by unfold Is;rfl
theorem is_int (i:Int):Is K H (.int i) (.int i):=by unfold Is;rfl
theorem is_str (x:Str):Is K H (.str x) (.str x):=by unfold Is;rfl
theorem is_lst {a:Addr}{xs:List V}{l:List PyData} (h:SqL K H a xs) (r:Iss K H l xs):Is K H (.list l) (.ref a):=by unfold Is;exact ⟨a,xs,rfl,h,r⟩
theorem is_tup {a:Addr}{xs:List V}{l:List PyData} (h:SqT K H a xs) (r:Iss K H l xs):Is K H (.tuple l) (.ref a):=by unfold Is;exact ⟨a,xs,rfl,h,r⟩
theorem iss_nil:Iss K H [] []:=by unfold Iss;rfl
theorem iss_cons {d:PyData}{l:List PyData}{x:V}{xs:List V} (h:Is K H d x) (r:Iss K H l xs):Iss K H (d::l) (x::xs):=by unfold Iss;exact ⟨x,xs,rfl,h,r⟩
theorem Is.bl_inv {b:Bool}{v:V} (h:Is K H (.bool b) v):v = .bl b:=by unfold Is at h;exact h
theorem Is.int_inv {i:Int}{v:V} (h:Is K H (.int i) v):v = .int i:=by unfold Is at h;exact h
theorem Is.non_inv {v:V} (h:Is K H .none v):v = .non:=by unfold Is at h;exact h
theorem Is.lst_inv {l:List PyData}{v:V} (h:Is K H (.list l) v) : ∃ a xs,v = .ref a∧SqL K H a xs∧Iss K H l xs:=by unfold Is at h;exact h
theorem Is.tup_inv {l:List PyData}{v:V} (h:Is K H (.tuple l) v) : ∃ a xs,v = .ref a∧SqT K H a xs∧Iss K H l xs:=by unfold Is at h;exact h
theorem Is.dct_inv {l:List (PyData×PyData)}{v:V} (h:Is K H (.dict l) v) : ∃ a kvs,v = .ref a∧H a=some (.dK kvs)∧(!l.isEmpty) = !kvs.isEmpty:=by unfold Is at h;exact h
theorem Iss.nil_inv {xs:List V} (h:Iss K H [] xs):xs=[]:=by unfold Iss at h;exact h
theorem Iss.cons_inv {d:PyData}{l:List PyData}{xs:List V} (h:Iss K H (d::l) xs) : ∃ x r,xs=x::r∧Is K H d x∧Iss K H l r:=by unfold Iss at h;exact h
theorem Iss.len : ∀ {l:List PyData}{xs:List V},Iss K H l xs→xs.length=l.length
 | [],_,h=>by rw [h.nil_inv];rfl
 | d::l,_,h=>by
  obtain ⟨x,r,rfl,_,q⟩:=h.cons_inv
  simp [Iss.len q]
theorem Iss.get : ∀ {l:List PyData}{xs:List V}{i:Nat}{d:PyData},Iss K H l xs→l[i]?=some d → ∃ x,xs[i]?=some x∧Is K H d x
 | [],_,i,d,h,e=>by simp at e
 | d'::l,_,0,d,h,e=>by
  obtain ⟨x,r,rfl,p,q⟩:=h.cons_inv
  simp at e;subst e
  exact ⟨x,rfl,p⟩
 | d'::l,_,i+1,d,h,e=>by
  obtain ⟨x,r,rfl,p,q⟩:=h.cons_inv
  obtain ⟨y,e1,e2⟩:=Iss.get q (show l[i]?=some d by simpa using e)
  exact ⟨y,by simpa using e1,e2⟩
theorem Iss.get' : ∀ {l:List PyData}{xs:List V}{i:Nat}{x:V},Iss K H l xs→xs[i]?=some x → ∃ d,l[i]?=some d∧Is K H d x:=fun {l xs i x} h e=>by
 have hl:=h.len
 have hi:i<xs.length:=(List.getElem?_eq_some_iff.mp e).1
 obtain ⟨d,hd⟩ : ∃ d,l[i]?=some d:=⟨l[i]'(by omega),List.getElem?_eq_getElem _⟩
 obtain ⟨y,e1,e2⟩:=h.get hd
 rw [e] at e1;cases e1
 exact ⟨d,hd,e2⟩
theorem iss_append : ∀ {l m:List PyData}{xs ys:List V},Iss K H l xs→Iss K H m ys→Iss K H (l++m) (xs++ys)
 | [],m,_,ys,h,h'=>by rw [h.nil_inv];exact h'
 | d::l,m,_,ys,h,h'=>by
  obtain ⟨x,r,rfl,p,q⟩:=h.cons_inv
  exact iss_cons p (iss_append q h')
theorem iss_ints : ∀ ns:List Int,Iss K H (ns.map .int) (ns.map V.int)
 | []=>iss_nil
 | n::ns=>iss_cons (is_int n) (iss_ints ns)
theorem Iss.ints_inv : ∀ {ns:List Int}{xs:List V},Iss K H (ns.map .int) xs→xs=ns.map V.int
 | [],_,h=>h.nil_inv
 | n::ns,_,h=>by
  obtain ⟨x,r,rfl,p,q⟩:=h.cons_inv
  rw [p.int_inv,Iss.ints_inv q];rfl
end
section
variable {X:Cx}{pins:List (Addr×Obj)}{σ:St}{H:Hp}{s:Shared}
mutual
theorem Is.reads (I:Inv X pins σ H s) : ∀ {d:PyData}{x:V}{u:Value},d.canLay0=true→Is X.K H d x→RelV x u → ∃ as,Reads s.heap u d as
 | .none,_,u,_,h,r=>by
  rw [h.non_inv] at r;cases r;exact ⟨_,.none⟩
 | .bool b,_,u,_,h,r=>by
  rw [h.bl_inv] at r;cases r;exact ⟨_,.bool b⟩
 | .int i,_,u,_,h,r=>by
  rw [h.int_inv] at r;obtain ⟨t,rfl⟩:=r;exact ⟨_,.int i t⟩
 | .str x,_,u,_,h,r=>by
  unfold Is at h
  subst h
  obtain ⟨t,rfl⟩:=r;exact ⟨_,.str x t⟩
 | .list l,_,u,z,h,r=>by
  obtain ⟨a,xs,rfl,q,p⟩:=h.lst_inv
  cases r
  obtain ⟨its,rv,pl,_⟩:=I.list q
  obtain ⟨o,ho,hc,n,hd⟩:=pl.isList
  obtain ⟨as,ra⟩:=Iss.reads I (by simpa [PyData.canLay0] using z) p rv
  exact ⟨_,.list ho hc hd (by rw [List.toList_toArray];exact ra)⟩
 | .tuple l,_,u,z,h,r=>by
  obtain ⟨a,xs,rfl,q,p⟩:=h.tup_inv
  cases r
  obtain ⟨its,rv,pl,_⟩:=I.tuple q
  obtain ⟨o,ho,hc,n,hd⟩:=pl
  obtain ⟨as,ra⟩:=Iss.reads I (by simpa [PyData.canLay0] using z) p rv
  exact ⟨_,.tuple ho hc hd (by rw [List.toList_toArray];exact ra)⟩
 | .dict _,_,u,z,h,r=>by simp [PyData.canLay0] at z
theorem Iss.reads (I:Inv X pins σ H s) : ∀ {l:List PyData}{xs:List V}{us:List Value},PyData.canLayAll0 l=true→Iss X.K H l xs→Vals xs us → ∃ as,ReadsAll s.heap us l as
 | [],_,us,_,h,r=>by
  rw [h.nil_inv] at r;cases r;exact ⟨_,.nil⟩
 | d::l,_,us,z,h,r=>by
  have z':d.canLay0=true∧PyData.canLayAll0 l=true:=by simpa [PyData.canLayAll0] using z
  obtain ⟨x,y,rfl,p,q⟩:=h.cons_inv
  cases r with
  | cons r1 r2 =>
   obtain ⟨as,ra⟩:=Is.reads I z'.1 p r1
   obtain ⟨bs,rb⟩:=Iss.reads I z'.2 q r2
   exact ⟨_,.cons ra rb⟩
end
end
section
variable {X:Cx}
def rEqD (K:PySem.W.Frag):R2:=fun x y H Q => ∃ d e,Is K H d x∧Is K H e y∧SeqAt.shaped d=true∧SeqAt.shaped e=true∧Q (.bl (PyData.eqv d e)) H
def rNeD (K:PySem.W.Frag):R2:=fun x y H Q => ∃ d e,Is K H d x∧Is K H e y∧SeqAt.shaped d=true∧SeqAt.shaped e=true∧Q (.bl (!PyData.eqv d e)) H
theorem op_eqD (hu:X.A.units+64<cLine):OpR X (compareOp .Eq) (rEqD X.K):=by
 intro pins s σ H x y v u Q I rx ry h
 obtain ⟨d,e,h1,h2,z1,z2,q⟩:=h
 obtain ⟨as,ra⟩:=Is.reads I (Bool.and_eq_true_iff.mp z1).1 h1 rx
 obtain ⟨bs,rb⟩:=Is.reads I (Bool.and_eq_true_iff.mp z2).1 h2 ry
 exact SeqAt.compareEq_shaped ra rb z1 z2 hu ⟨.bl (PyData.eqv d e),H,I,rfl,q⟩
theorem op_neD (hu:X.A.units+64<cLine):OpR X (compareOp .NotEq) (rNeD X.K):=by
 intro pins s σ H x y v u Q I rx ry h
 obtain ⟨d,e,h1,h2,z1,z2,q⟩:=h
 obtain ⟨as,ra⟩:=Is.reads I (Bool.and_eq_true_iff.mp z1).1 h1 rx
 obtain ⟨bs,rb⟩:=Is.reads I (Bool.and_eq_true_iff.mp z2).1 h2 ry
 exact SeqAt.compareNe_shaped ra rb z1 z2 hu ⟨.bl (!PyData.eqv d e),H,I,rfl,q⟩
theorem op_mulB:OpR X (binaryOp .Mult) (rI IntMulOk fun i j => .int (i*j)):=opI fun _ _ _ _ _ _ _ hc q=>mul_int q hc
def CDivB (_ j:Int):Prop:=j≠0∧Builtin.Int.intBits j≤9000
theorem op_fdivB:OpR X (binaryOp .FloorDiv) (rI CDivB fun i j => .int (i.fdiv j)):=opI fun i j _ _ _ _ _ hc q=>by
 refine floordiv_int hc.1 q (.inl (PyProof.noPylong_of_log2 ?_))
 have h:=hc.2
 unfold Builtin.Int.intBits at h
 rw [if_neg (by simpa using hc.1)] at h
 omega
def rCatS (K:PySem.W.Frag):R2:=fun x y H Q => ∃ a b xs zs,x = .ref a∧y = .ref b∧SqL K H a xs∧SqL K H b zs∧xs.length+zs.length≤sizeLine ∧
 ∀ p,H p=none→Q (.ref p) (upd H p (.lst (xs++zs)))
theorem op_catS:OpR X (binaryOp .Add) (rCatS X.K):=by
 intro pins s σ H x y v u Q I rx ry h
 obtain ⟨a,b,xs,zs,rfl,rfl,hA,hB,hz,q⟩:=h
 cases rx
 cases ry
 obtain ⟨its,r,pl,z1⟩:=I.list hA
 obtain ⟨its2,r2,pl2,z2⟩:=I.list hB
 have l1:=r.length
 have l2:=r2.length
 obtain ⟨⟨cls,dd,data,sl⟩,ho,hc,n,hd⟩:=pl.isList
 obtain ⟨⟨cls2,dd2,data2,sl2⟩,ho2,hc2,n2,hd2⟩:=pl2.isList
 simp only at hc hd hc2 hd2
 subst hc hd hc2 hd2
 have e:its.toArray++its2.toArray=(its++its2).toArray:=by simp
 refine concat_meets ⟨_,ho,rfl⟩ ⟨_,ho2,rfl⟩ noFill_list_add seq_list_add PySem.F.slot_list_add PySem.F.entry_list_add (PySem.F.args_list_add_2 _ _) (list_addW a b its.toArray its2.toArray n n2 dd dd2 sl sl2 (by simp only [List.size_toArray];omega)) ⟨ho,ho2,?_⟩
 rw [e]
 exact ⟨.ref _,_,I.lnew (t':=s.toks) (r.append r2) (by rw [List.length_append];omega),rfl,q _ I.fresh⟩
def tyD:PyData→String
 | .none => "NoneType"
 | .bool _ => "bool"
 | .int _ => "int"
 | .str _ => "str"
 | .list _ => "list"
 | .tuple _ => "tuple"
 | .dict _ => "dict"
theorem isinst_D {pins:List (Addr×Obj)}{σ:St}{H:Hp}{s:Shared}{A:Around}{E:Value→Shared→Prop}{Q:Value→Shared→Prop}{c:Value}{b:Bool}{d:PyData}{x:V}{u:Value}
 (I:Inv X pins σ H s) (hd:Is X.K H d x) (rx:RelV x u) (e:PySem.W.kitOne X.K (.type (tyD d)) c=some b) (h : ∀ tk,Q (.bool b) { s with toks:=tk }) :
  wpAny (model X.prog X.w) A (call (.builtin "isinstance") [u,c]) Q E s:=by
  cases d with
  | none=>rw [hd.non_inv] at rx;cases rx;exact PySem.W.kia_one PySem.W.kitx_none I.kIn True.intro e (fun z=>nomatch z) h
  | bool y=>rw [hd.bl_inv] at rx;cases rx;exact PySem.W.kia_one PySem.W.kitx_bool I.kIn True.intro e (fun z=>nomatch z) h
  | int i=>rw [hd.int_inv] at rx;obtain ⟨t,rfl⟩:=rx;exact PySem.W.kia_one PySem.W.kitx_int I.kIn True.intro e (fun z=>nomatch z) h
  | str y =>
   unfold Is at hd
   subst hd
   obtain ⟨t,rfl⟩:=rx;exact PySem.W.kia_one PySem.W.kitx_str I.kIn True.intro e (fun z=>nomatch z) h
  | list l =>
   obtain ⟨a,xs,rfl,q,_⟩:=hd.lst_inv
   cases rx
   obtain ⟨its,_,pl,_⟩:=I.list q
   obtain ⟨o,ho,hc,_⟩:=pl.isList
   exact PySem.W.kia_one PySem.W.kitx_list I.kIn ⟨o,ho,hc⟩ e (fun z=>nomatch z) h
  | tuple l =>
   obtain ⟨a,xs,rfl,q,_⟩:=hd.tup_inv
   cases rx
   obtain ⟨its,_,pl,_⟩:=I.tuple q
   obtain ⟨o,ho,hc,_⟩:=pl
   exact PySem.W.kia_one PySem.W.kitx_tuple I.kIn ⟨o,ho,hc⟩ e (fun z=>nomatch z) h
  | dict l =>
   obtain ⟨a,kvs,rfl,q,_⟩:=hd.dct_inv
   cases rx
   obtain ⟨_,_,vs,_,p⟩:=(show ObjOk X.prog X.w H s.heap a (.dK kvs) from I.hok a _ q)
   obtain ⟨o,es,ep,h1,h2,_⟩:=p
   exact PySem.W.kia_one PySem.W.kitx_dict I.kIn ⟨o,h1,h2.1⟩ e (fun z=>nomatch z) h
def rIsD (K:PySem.W.Frag):List V→Hp→VK→Prop:=fun xs H Q => ∃ d x n b,xs=[x,.ty n]∧Is K H d x∧PySem.W.kitOne K (.type (tyD d)) (.type n)=some b∧Q (.bl b) H
theorem call_isi:CallR X (.builtin "isinstance") (rIsD X.K):=by
 intro pins s σ H xs us Q I r h
 obtain ⟨d,x,n,b,rfl,hd,e,q⟩:=h
 obtain ⟨u,c,rfl,rx,rc⟩:=vals2 r
 cases rc
 exact isinst_D I hd rx e fun tk=>⟨.bl b,H,I.tok tk,rfl,q⟩
theorem Iss.atI {K:PySem.W.Frag}{H:Hp}{l:List PyData}{xs:List V}{i:Int}{d:PyData} (h:Iss K H l xs) (e:L2.atI l i=some d) : ∃ x,L2.atI xs i=some x∧Is K H d x:=by
 unfold L2.atI at e ⊢
 rw [h.len]
 cases q:ixN l.length i with
 | none=>rw [q] at e;cases e
 | some j =>
  rw [q] at e
  exact h.get e
end
section
variable {X:Cx}{elts:List Expr}{x1:Nat}{tpos:Pos}
end
theorem szl {α:Type}{l:List α} (h:decide (l.length≤1000)=true:=by rfl):l.length≤sizeLine:=Nat.le_of_lt (small1000 (of_decide_eq_true h))
theorem eqv_int (i j:Int):PyData.eqv (.int i) (.int j)=(i==j):=by simp only [PyData.eqv]
theorem ite_ne {i j:Int}{A B:Prop} (h1:i≠j→A) (h2:i=j→B):if (!PyData.eqv (.int i) (.int j))=true then A else B:=by
 rw [eqv_int]
 by_cases h:i=j
 ·subst h;simpa using h2 rfl
 ·have e:(i==j)=false:=by simpa using h
  rw [e];simpa using h1 h
theorem ite_eq {i j:Int}{A B:Prop} (h1:i=j→A) (h2:i≠j→B):if (PyData.eqv (.int i) (.int j))=true then A else B:=by
 rw [eqv_int]
 by_cases h:i=j
 ·subst h;simpa using h1 rfl
 ·have e:(i==j)=false:=by simpa using h
  rw [e];simpa using h2 h
theorem iteD {p A B:Prop} [Decidable p] (h1:p→A) (h2 : ¬ p→B):if decide p=true then A else B:=by
 by_cases h:p
 ·simpa [h] using h1 h
 ·simpa [h] using h2 h
theorem atI_ints {ns:List Int}{i:Int} (h0:0≤i) (h1:i<ns.length) : ∃ n,L2.atI (ns.map PyData.int) i=some (.int n):=by
 have hi:i.toNat<ns.length:=by omega
 refine ⟨ns[i.toNat],?_⟩
 have e:(ns.map PyData.int)[i.toNat]?=some (.int ns[i.toNat]):=by simp [hi]
 have:=atI_nat e
 rwa [Int.toNat_of_nonneg h0] at this
theorem boot_abs:bootBuiltins "abs" = some (.builtin "abs"):=by decide +kernel
theorem boot_len:bootBuiltins "len" = some (.builtin "len"):=by decide +kernel
theorem boot_isinstance:bootBuiltins "isinstance" = some (.builtin "isinstance"):=by decide +kernel
theorem boot_int:bootBuiltins "int" = some (.type "int"):=by decide +kernel
theorem boot_bool:bootBuiltins "bool" = some (.type "bool"):=by decide +kernel
theorem boot_str:bootBuiltins "str" = some (.type "str"):=by decide +kernel
theorem boot_tuple:bootBuiltins "tuple" = some (.type "tuple"):=by decide +kernel
theorem boot_list:bootBuiltins "list" = some (.type "list"):=by decide +kernel
section
variable {K:PySem.W.Frag}
end
structure Def (K:PySem.W.Frag) (mg:Str→Option Value) (x:Str) (st:Stmt) (ps:List Str):Prop where
 ex : ∃ (f:Addr) (fd:FuncData),Fun K x x st f fd∧mg x=some (.ref f)∧Binds K fd ps []
structure Ok (P:Program) (w:World) (K:PySem.W.Frag) (mg:Str→Option Value) (base:Heap) (x:Str) (k:Nat) (ps:List Str) (sp:Sp):Prop where
 ex : ∃ (f:Addr) (fd:FuncData),FnOk P w K mg base CX0 k f fd ps sp∧mg x=some (.ref f)∧PySem.W.keepIn K (.ref f)=true∧Binds K fd ps []
section
variable {P:Program}{w:World}{K:PySem.W.Frag}{mg:Str→Option Value}{base:Heap}
theorem Def.ok {x:Str}{st:Stmt}{N ps:List Str}{k:Nat}{sp:Sp} (F:Def K mg x st ps) (S:FnScope N ps (defScope st)) (len : ∀ vs H Q E,sp vs H Q E→vs.length=ps.length)
 (hbody : ∀ (f:Addr) (cdv:Value) (A:Around) (outer:List Env) (s:Shared) (H:Hp) (vs:List V) (Q:VK) (E:XK),Room k (A.deeper (envOfC x (defScope st) s.heap.objs.size f cdv))→sp vs H Q E →
 ∃ t,PSs (cxOf CX0 P w K mg base N x (defScope st) f cdv A outer s H E).nox (defBody st) t∧t { nx:=fun _ H'=>Q .non H',rt:=Q } (start N vs) H):Ok P w K mg base x (k+1) ps sp:=by
  obtain ⟨f,fd,Fn,hm,hb⟩:=F.ex
  exact ⟨f,fd,Fn.ok S len (hbody f),hm,Fn.kp,hb⟩
end
section
variable {X:Cx}{x:Str}{k:Nat}{ps:List Str}{sp:Sp}{p pos:Pos}{e:Expr}{es:List Expr}{t:TA}
structure OkC (X:Cx) (x:Str) (k:Nat) (ps:List Str) (sp:Sp):Prop where
 ex : ∃ sp0,Ok X.prog X.w X.K X.mg X.base x k ps sp0 ∧ ∀ (pins:List (Addr×Obj)) (σ:St) (H:Hp) (s:Shared) (vs:List V) (Q:VK) (E:XK),Inv X pins σ H s→sp vs H Q E→sp0 vs H Q E
theorem Ok.c (O:Ok X.prog X.w X.K X.mg X.base x k ps sp):OkC X x k ps sp:=⟨sp,O,fun _ _ _ _ _ _ _ _ h=>h⟩
theorem pe_fn (O:OkC X x k ps sp) (hr:Room k X.A) (ha:PA X (e::es) t) (hg:Gl X x:=by rfl) (hdb:(x==("__debug__" : Str))=false:=by decide)
 (he:starEach (e::es) X.env=(false,eval e X.env)::starEach es X.env:=by rfl) (hpl:(backTo pos (starEach es X.env)).any (·.1)=false:=by rfl):PE X (.Call (.Name x p) (e::es) [] pos) (tCall sp [] E0 t):=by
 obtain ⟨sp0,⟨f,fd,F,hm,hk,hb⟩,up⟩:=O.ex
 intro pins s σ H Q I h
 refine wpAny_Call_Name_kw (ld_glob I hg hm ?_ hdb)
 refine PySem.W.callWith_K (h₀:=X.base) I.ok.mod.kin hk (thn (ha pos pins s σ H _ I h) fun us s1 ⟨vs,H1,I1,r,q⟩=>⟨I1.kIn,?_⟩) he hpl
 exact run_fn F hr hb .nil pass0 I1 r (up _ _ _ _ _ _ _ I1 q)
theorem pe_append {o:Expr}{to:TE}{te:TE}{apos cpos:Pos} (ho:PE X o to) (he:PE X e te) (hbase:attributeBase o "append" X.env (eval o X.env)=eval o X.env:=by rfl)
 (hfew:((backTo cpos (starEach [e] X.env)).all (fun x => !x.1)&&(backToKw cpos (keywordEach [] X.env)).all (fun x=>x.1.isSome)
  && decide ([e].length+([]:List Keyword).length+(if ([]:List Keyword).isEmpty then 0 else 1)<30))=true:=by rfl)
 (hline:(apos.endLine==cpos.line)=true:=by rfl) (hs:starEach [e] X.env=(false,eval e X.env)::starEach [] X.env:=by rfl) (hplain:(backTo cpos (starEach [] X.env)).any (·.1)=false:=by rfl) :
 PE X (.Call (.Attribute o "append" apos) [e] [] cpos) (tBM X.K "list" rAppend to (tCons te tNil)) :=
 pe_bm PySem.F.plainAttrs_list PySem.F.slot_list_append PySem.F.type_list_append mt_append ho (pa_cons he pa_nil hs) hbase hfew hline hs hplain
end
end L2
namespace L2
open PySem PySem.Spec PyProof.Rows
def closL (cells:List (Str×Addr)):List (Str×NameKind)→List (Str×Addr)→List (Str×Addr)
 | [],acc=>acc
 | (n,k)::r,acc=>if (k == .free)=true then (match cells.lookup n with|some c=>closL cells r ((n,c)::acc)|none=>closL cells r acc) else closL cells r acc
theorem closL_mem {cells:List (Str×Addr)} : ∀ {names:List (Str×NameKind)}{acc:List (Str×Addr)}{p:Str×Addr},p ∈ closL cells names acc→p ∈ acc∨cells.lookup p.1=some p.2
 | [],acc,p,h => .inl h
 | (n,k)::r,acc,p,h=>by
  unfold closL at h
  split at h
  ·split at h
   ·rename_i c hc
    rcases closL_mem h with h|h
    ·rcases List.mem_cons.mp h with h|h
     ·subst h;exact .inr hc
     ·exact .inl h
    ·exact .inr h
   ·exact closL_mem h
  ·exact closL_mem h
theorem closL_has {cells:List (Str×Addr)} : ∀ {names:List (Str×NameKind)}{acc:List (Str×Addr)}{x:Str},((∃ c,(x,c) ∈ acc)∨((x,NameKind.free) ∈ names ∧ ∃ c,cells.lookup x=some c)) → ∃ c,(x,c) ∈ closL cells names acc
 | [],acc,x,h=>by
  rcases h with h|h
  ·exact h
  ·exact absurd h.1 (by simp)
 | (n,k)::r,acc,x,h=>by
  unfold closL
  split
  ·rename_i hk
   split
   ·rename_i c hc
    refine closL_has ?_
    rcases h with ⟨d,h⟩|⟨h,d,hd⟩
    ·exact .inl ⟨d,List.mem_cons_of_mem _ h⟩
    ·rcases List.mem_cons.mp h with h|h
     ·cases h;exact .inl ⟨c,by simp⟩
     ·exact .inr ⟨h,d,hd⟩
   ·rename_i hc
    refine closL_has ?_
    rcases h with h|⟨h,d,hd⟩
    ·exact .inl h
    ·rcases List.mem_cons.mp h with h|h
     ·cases h;rw [hd] at hc;cases hc
     ·exact .inr ⟨h,d,hd⟩
  ·rename_i hk
   refine closL_has ?_
   rcases h with h|⟨h,d,hd⟩
   ·exact .inl h
   ·rcases List.mem_cons.mp h with h|h
    ·cases h;exact absurd rfl hk
    ·exact .inr ⟨h,d,hd⟩
theorem cf_new {x:Str}{c:Addr} : ∀ {names:List (Str×NameKind)}{n:Nat}{acc:List (Str×Addr)},(cellsFrom n names acc).lookup x=some c→(n≤c∧(x,NameKind.cell) ∈ names)∨acc.lookup x=some c
 | [],_,_,h => .inr h
 | (y,k)::r,n,acc,h=>by
  unfold cellsFrom at h
  split at h
  ·rename_i hk
   rcases cf_new h with ⟨h1,h2⟩|h1
   ·exact .inl ⟨by omega,List.mem_cons_of_mem _ h2⟩
   ·by_cases e:x=y
    ·subst e
     have hb:(x==x)=true:=by simp
     rw [List.lookup_cons,hb] at h1
     have hk':k = .cell:=by simpa using hk
     subst hk'
     cases h1
     exact .inl ⟨Nat.le_refl _,by simp⟩
    ·have hb:(x==y)=false:=by simpa using e
     rw [List.lookup_cons,hb] at h1
     exact .inr h1
  ·rcases cf_new h with ⟨h1,h2⟩|h1
   ·exact .inl ⟨h1,List.mem_cons_of_mem _ h2⟩
   ·exact .inr h1
theorem cf_old {x:Str} : ∀ {names:List (Str×NameKind)}{n:Nat}{acc:List (Str×Addr)},(x,NameKind.cell) ∉ names→(cellsFrom n names acc).lookup x=acc.lookup x
 | [],_,_,_=>rfl
 | (y,k)::r,n,acc,h=>by
  have hr:(x,NameKind.cell) ∉ r:=fun z=>h (List.mem_cons_of_mem _ z)
  unfold cellsFrom
  split
  ·rename_i hk
   have hk':k = .cell:=by simpa using hk
   subst hk'
   have e:x≠y:=fun z=>h (by rw [z];simp)
   have hb:(x==y)=false:=by simpa using e
   rw [cf_old hr,List.lookup_cons,hb]
  ·exact cf_old hr
theorem cf_above {x:Str}{c lo:Nat} : ∀ {names:List (Str×NameKind)}{n:Nat}{acc:List (Str×Addr)},lo≤n→((x,NameKind.cell) ∈ names ∨ ∃ a,acc.lookup x=some a∧lo≤a)→(cellsFrom n names acc).lookup x=some c→lo≤c
 | [],_,acc,_,h,e=>by
  rcases h with h|⟨a,h1,h2⟩
  ·simp at h
  ·have e:acc.lookup x=some c:=e
   rw [h1] at e
   cases e
   exact h2
 | (y,k)::r,n,acc,hn,h,e=>by
  unfold cellsFrom at e
  split at e
  ·rename_i hk
   refine cf_above (lo:=lo) (by omega) ?_ e
   by_cases z:x=y
   ·subst z
    have hb:(x==x)=true:=by simp
    exact .inr ⟨n,by rw [List.lookup_cons,hb],hn⟩
   ·have hb:(x==y)=false:=by simpa using z
    rcases h with h|⟨a,h1,h2⟩
    ·rcases List.mem_cons.mp h with h|h
     ·cases h;exact absurd rfl z
     ·exact .inl h
    ·exact .inr ⟨a,by rw [List.lookup_cons,hb];exact h1,h2⟩
  ·rename_i hk
   refine cf_above hn ?_ e
   rcases h with h|h
   ·rcases List.mem_cons.mp h with h|h
    ·cases h;exact absurd rfl hk
    ·exact .inl h
   ·exact .inr h
theorem cf_inj {x y:Str}{c:Addr} : ∀ {names:List (Str×NameKind)}{n:Nat}{acc:List (Str×Addr)},(∀ z a,acc.lookup z=some a→a<n)→n≤c→(cellsFrom n names acc).lookup x=some c→(cellsFrom n names acc).lookup y=some c→x=y
 | [],n,acc,hA,hn,h,_=>absurd (hA x c h) (Nat.not_lt.mpr hn)
 | (w,k)::r,n,acc,hA,hn,h,h'=>by
  unfold cellsFrom at h h'
  split at h
  ·rename_i hk
   rw [if_pos hk] at h'
   have hA' : ∀ z a,((w,n)::acc).lookup z=some a→a<n+1:=fun z a q=>by
    rw [List.lookup_cons] at q
    split at q
    ·cases q;exact Nat.lt_succ_self _
    ·exact Nat.lt_succ_of_lt (hA z a q)
   have at_n : ∀ z,((w,n)::acc).lookup z=some n→z=w:=fun z q=>by
    rw [List.lookup_cons] at q
    split at q
    ·rename_i hb;exact beq_iff_eq.mp hb
    ·exact absurd (hA z n q) (Nat.lt_irrefl _)
   by_cases e:c=n
   ·subst e
    have a1:x=w:=by
     rcases cf_new h with ⟨q,_⟩|q
     ·exact absurd q (Nat.not_succ_le_self _)
     ·exact at_n x q
    have a2:y=w:=by
     rcases cf_new h' with ⟨q,_⟩|q
     ·exact absurd q (Nat.not_succ_le_self _)
     ·exact at_n y q
    rw [a1,a2]
   ·exact cf_inj hA' (Nat.lt_of_le_of_ne hn (Ne.symm e)) h h'
  ·rename_i hk
   rw [if_neg hk] at h'
   exact cf_inj hA hn h h'
theorem cf_cell {x:Str}{c:Addr} : ∀ {names:List (Str×NameKind)}{h:Heap}{acc:List (Str×Addr)},(cellsFrom h.objs.size names acc).lookup x=some c→acc.lookup x=some c∨(pushCells h names).IsCell c none
 | [],_,_,e => .inl e
 | (y,k)::r,h,acc,e=>by
  unfold cellsFrom at e
  unfold pushCells
  split at e
  ·rename_i hk
   rw [if_pos hk]
   have e':(cellsFrom (h.push { cls :=.type "cell",data :=.cell none }).objs.size r ((y,h.objs.size)::acc)).lookup x=some c:=by rw [Heap.size_push];exact e
   rcases cf_cell e' with q|q
   ·rw [List.lookup_cons] at q
    split at q
    ·have q:=Option.some.inj q
     subst q
     exact .inr ⟨_,pushCells_keeps _ _ _ _ (Heap.get?_push_size _ rfl),rfl⟩
    ·exact .inl q
   ·exact .inr q
  ·rename_i hk
   rw [if_neg hk]
   exact cf_cell e
theorem nfe_cells {M:Model}{A:Around}{E:Value→Shared→Prop}{s:Shared}{scope:Scope}{globals:Addr}{cl:List (Str×Addr)}{qual:Str}{outer:Env}{Q:Env→Shared→Prop}
 (hQ:Q (newEnv scope s.heap.objs.size globals (cellsFrom (s.heap.objs.size+1) scope.names cl) qual none .none (some outer) builtinsNs) { s with heap:=pushCells (s.heap.push { cls :=.type "dict",data :=.dict #[] }) scope.names }) :
  wpAny M A (newFunctionEnv scope globals cl [] qual none .none (some outer)) Q E s:=by
  simp only [newFunctionEnv,Option.isSome_some,if_true]
  refine wpAny_bind (wpAny_alloc ?_)
  refine wpAny_bind (wpAny_layCells _ (fun name kind cells=>by cases hkc:kind==NameKind.cell <;> simp [hkc]) _ _ _ _ ?_)
  rw [show ({ s with heap:=s.heap.push { cls :=.type "dict",data :=.dict #[] } }:Shared).heap.objs.size=s.heap.objs.size+1 from Heap.size_push ..]
  rw [List.forIn_nil]
  exact wpAny_bind (wpAny_pure (wpAny_pure hQ))
structure CompScope (env:Env) (scope:Scope) (caps:List Str):Prop where
 clos:closureFor scope env=pure (closL env.cells scope.names [])
 kind:scope.kind = .function
 cells:scope.names.all (fun y => !(y.2 == .cell)||scope.names.lookup y.1==some .cell)=true
 names:scope.names.all (fun y => !(y.2 == .local)||scope.names.lookup y.1==some .local)=true
 free:scope.names.all (fun y => !(y.2 == .free)||(env.cells.lookup y.1).isSome)=true
 cap:caps.all (fun x=>scope.names.lookup x==some .free&&(env.scope.names.lookup x==some .cell||env.scope.names.lookup x==some .free))=true
theorem mem_lookup {β:Type} : ∀ {l:List (Str×β)}{x:Str}{c:β},l.lookup x=some c→(x,c) ∈ l:=fun h=>PySem.mem_of_lookup h
theorem lookup_mem : ∀ {l:List (Str×Addr)}{x:Str}{c:Addr},(x,c) ∈ l → ∃ d,l.lookup x=some d
 | [],_,_,h=>by simp at h
 | (y,d)::r,x,c,h=>by
  by_cases e:x=y
  ·subst e;exact ⟨d,by simp⟩
  ·have hb:(x==y)=false:=by simpa using e
   rcases List.mem_cons.mp h with h|h
   ·cases h;exact absurd rfl e
   ·obtain ⟨d',hd⟩:=lookup_mem h
    exact ⟨d',by rw [List.lookup_cons,hb];exact hd⟩
section
variable {env:Env}{scope:Scope}{caps:List Str}
abbrev clOf (scope:Scope) (env:Env):List (Str×Addr):=closL env.cells scope.names []
theorem CompScope.sub (S:CompScope env scope caps) {x:Str}{c:Addr} (h:(clOf scope env).lookup x=some c):env.cells.lookup x=some c:=by
 rcases closL_mem (mem_lookup h) with h|h
 ·simp at h
 ·exact h
theorem relabel_mem {x:Str}{k:NameKind} (h:(relabel scope env).names.lookup x=some k) : ∃ k',(x,k') ∈ scope.names∧(k'=k∨(k' = .free∧k = .cell)):=by
 have hm:=mem_lookup h
 obtain ⟨⟨n,k0⟩,h1,h2⟩:=List.mem_map.mp hm
 dsimp only at h2
 split at h2
 ·rename_i hc
  cases h2
  have:k0 = .free:=by
   have:=(Bool.and_eq_true_iff.mp (Bool.and_eq_true_iff.mp hc).1).1
   simpa using this
  subst this
  exact ⟨_,h1,.inr ⟨rfl,rfl⟩⟩
 ·cases h2
  exact ⟨_,h1,.inl rfl⟩
abbrev nclOf (scope:Scope) (env:Env) (n:Nat):List (Str×Addr):=cellsFrom n scope.names (clOf scope env)
theorem CompScope.hasF (S:CompScope env scope caps) {x:Str} (key:(x,NameKind.free) ∈ scope.names) : ∃ c,(clOf scope env).lookup x=some c:=by
 have:=List.all_eq_true.mp S.free _ key
 have hs:(env.cells.lookup x).isSome=true:=by simpa using this
 obtain ⟨c,hc⟩:=Option.isSome_iff_exists.mp hs
 obtain ⟨d,hd⟩:=closL_has (cells:=env.cells) (names:=scope.names) (acc:=[]) (.inr ⟨key,c,hc⟩)
 exact lookup_mem hd
theorem CompScope.isC (S:CompScope env scope caps) {x:Str} (h:(x,NameKind.cell) ∈ scope.names):scope.names.lookup x=some .cell:=by
 have:=List.all_eq_true.mp S.cells _ h
 simpa using this
theorem CompScope.has (S:CompScope env scope caps) {x:Str} (n:Nat) (h:(relabel scope env).names.lookup x=some .cell∨(relabel scope env).names.lookup x=some .free) : ∃ c,(nclOf scope env n).lookup x=some c:=by
 have key:scope.names.lookup x=some .cell∨(x,NameKind.free) ∈ scope.names:=by
  rcases h with h|h
  ·obtain ⟨k',h1,h2⟩:=relabel_mem h
   rcases h2 with rfl|⟨rfl,_⟩
   ·exact .inl (S.isC h1)
   ·exact .inr h1
  ·obtain ⟨k',h1,h2⟩:=relabel_mem h
   rcases h2 with rfl|⟨_,h2⟩
   ·exact .inr h1
   ·cases h2
 refine Option.isSome_iff_exists.mp (PySem.W.cellsFrom_some scope.names n _ ?_)
 rcases key with k|k
 ·exact .inl k
 ·obtain ⟨c,hc⟩:=S.hasF k
  exact .inr (by rw [hc];rfl)
theorem CompScope.look (S:CompScope env scope caps) {x:Str}{n:Nat}{c:Addr} (h:(nclOf scope env n).lookup x=some c):(n≤c∧(x,NameKind.cell) ∈ scope.names)∨env.cells.lookup x=some c:=by
 rcases cf_new h with q|q
 ·exact .inl q
 ·exact .inr (S.sub q)
end
def blk (X:Cx) (pins:List (Addr×Obj)) (scope:Scope) (N':List Str) (s3:Shared) (H:Hp) (ex:List Addr):Cx where
 prog:=X.prog
 w:=X.w
 K:=X.K
 mg:=X.mg
 base:=X.base
 A:=X.A
 N:=N'
 s₀:=s3
 H₀:=H
 env:=compEnvC scope (nclOf scope X.env (s3.heap.objs.size+1)) s3.heap.objs.size X.env
 outer:=X.stack
 stack:=X.stack
 ex:=ex
 fn:=fun x=>scope.names.lookup x==some .cell
 calm:=X.calm
 pn:=X.pn++pins
 xe:=fun _ _=>False
def capS (ix:List Nat) (k:Nat) (σ:St):St:=ix.map (fun i=>(σ[i]?).join)++List.replicate k none
def tComp (ix:List Nat) (k:Nat) (wi:TI) (g:TG) (te:TE):TE:=fun σ H Q=>wi σ H fun J H1 => ∃ W:Nat→Nat→List V→St→Hp→Prop,(∃ m,W 0 m [] (capS ix k σ) H1) ∧ ∀ i m ys σ1 H2,W i m ys σ1 H2 →
 (J.stop i H2∧ys.length≤sizeLine ∧ ∀ p,H2 p=none→Q (.ref p) (upd H2 p (.lst ys))) ∨
 (J.go i H2∧ys.length<sizeLine ∧ ∃ N:V→St→Hp→Prop,(∀ y σ2 H5,N y σ2 H5 → ∃ m',m'<m∧W (i+1) m' (ys++[y]) σ2 H5) ∧ ∀ x H3,J.yld i H2 x H3→g x σ1 H3 fun σ2 H4=>te σ2 H4 fun y H5=>N y σ2 H5)
theorem codeAny_compLoop_any {prog:Program}{w:World}{A:Around}{R:Result→Shared→Prop}{s:Shared}{elt target iter:Expr}{scope:Scope}{pos:Pos}{it acc:Value}{env:Env} (I:Nat→Shared→Prop)
 (turn : ∀ n s,I n s→wpAny (model prog w) A (pyNext it) (fun r s₁=>match r with
  | none=>R (.ok .next) s₁
  | some v=>wpAny (model prog w) A (letOwnedTupleGo target it v) (fun _ s₁'=>wpAny (model prog w) A (assign target env v) (fun _ s₂=>wpAny (model prog w) A (eval elt env) (fun x s₃ =>
   wpAny (model prog w) A (call (.builtin "list.append") [acc,x]) (fun _ s₄ => ∃ m,m<n∧I m s₄) (notedBy (model prog w) A env fun e s'=>R (.error e) s') s₃)
   (notedBy (model prog w) A env fun e s'=>R (.error e) s') s₂) (notedBy (model prog w) A env fun e s'=>R (.error e) s') s₁') (notedBy (model prog w) A env fun e s'=>R (.error e) s') s₁) (notedBy (model prog w) A env fun e s'=>R (.error e) s') s)
  (n:Nat) (h:I n s):codeAny (model prog w) A (.compLoop (.ListComp elt [⟨target,iter,[],0⟩] scope pos) 0 it acc env) R s:=by
  refine codeAny_loop rfl I (fun n s hI=>?_) n h
  show wpAny _ _ ((compTurn (.ListComp elt [⟨target,iter,[],0⟩] scope pos) 0 it acc env).onRaise (fun x=>do noteFrame x env;theTreesLotGoes x)) _ _ s
  refine wpAny_noted ?_
  rw [compTurn_list1]
  refine wpAny_bind (wpAny_standAt (wpAny_bind (wpAny_mono (turn n s hI) (fun r s₁ h₁=>?_) fun _ _ h'=>h')))
  cases r with
  | none=>exact wpAny_pure h₁
  | some v =>
   exact wpAny_bind (wpAny_mono h₁ (fun _ s₁' h₁'=>wpAny_bind (wpAny_mono h₁' (fun _ s₂ h₂=>wpAny_bind (wpAny_bind (wpAny_mono h₂ (fun x s₃ h₃=>wpAny_bind (wpAny_mono h₃
    (fun _ s₄ h₄=>wpAny_pure (wpAny_pure ⟨rfl,h₄⟩)) fun _ _ h'=>h')) fun _ _ h'=>h'))) fun _ _ h'=>h')) fun _ _ h'=>h')
section
variable {X:Cx}{elt target iter:Expr}{scope:Scope}{pos:Pos}{caps own:List Str}{ix:List Nat}{wi:TI}{g:TG}{te:TE}
def tYes:TT:=fun _ H Q=>Q true H
abbrev TstT:=Env→(Bool→Shared→Prop)→(Value→Shared→Prop)→Shared→Prop
def LoopR (prog:Program) (w:World) (A:Around) (elt target iter:Expr) (cs:List Expr) (scope:Scope) (pos:Pos) (Tst:TstT):Prop := ∀ {R:Result→Shared→Prop}{s:Shared}{it acc:Value}{env:Env} (I:Nat→Shared→Prop)
 (turn : ∀ n s,I n s→wpAny (model prog w) A (pyNext it) (fun r s₁=>match r with
  | none=>R (.ok .next) s₁
  | some v=>wpAny (model prog w) A (letOwnedTupleGo target it v) (fun _ s₁'=>wpAny (model prog w) A (assign target env v) (fun _ s₂=>Tst env (fun b s₂'=>match b with
   | true=>wpAny (model prog w) A (eval elt env) (fun x s₃ =>
    wpAny (model prog w) A (call (.builtin "list.append") [acc,x]) (fun _ s₄ => ∃ m,m<n∧I m s₄) (notedBy (model prog w) A env fun e s'=>R (.error e) s') s₃)
    (notedBy (model prog w) A env fun e s'=>R (.error e) s') s₂'
   | false => ∃ m,m<n∧I m s₂') (notedBy (model prog w) A env fun e s'=>R (.error e) s') s₂) (notedBy (model prog w) A env fun e s'=>R (.error e) s') s₁') (notedBy (model prog w) A env fun e s'=>R (.error e) s') s₁) (notedBy (model prog w) A env fun e s'=>R (.error e) s') s)
 (n:Nat) (h:I n s),codeAny (model prog w) A (.compLoop (.ListComp elt [⟨target,iter,cs,0⟩] scope pos) 0 it acc env) R s
theorem comp_core {cs:List Expr}{tt:TT}{Tst:TstT} (hloop:LoopR X.prog X.w X.A elt target iter cs scope pos Tst) (hc:X.calm=true) (S:CompScope X.env scope caps) (hi:PI X target iter wi)
 (hg : ∀ pins s3 H ex,PG (blk X pins scope (caps++own) s3 H ex) target g)
 (he : ∀ pins s3 H ex,PE (blk X pins scope (caps++own) s3 H ex) elt te)
 (htst : ∀ pins s3 H ex pins' s σ H' Qb P E,Inv (blk X pins scope (caps++own) s3 H ex) pins' σ H' s→tt σ H' Qb→(∀ b s' H'',Inv (blk X pins scope (caps++own) s3 H ex) pins' σ H'' s'→Qb b H''→P b s')→Tst (blk X pins scope (caps++own) s3 H ex).env P E s)
 (hix:caps.length=ix.length) (hcapB:(caps.zip ix).all (fun p=>X.N[p.2]?==some p.1)=true)
 (hs : ∀ x,foldedSetIterable iter X.env x=pure x) {use:Option (Value→Sem Unit)}{Q0:Value→Shared→Prop}{Qv:VK}{pins:List (Addr×Obj)}{s:Shared}{σ:St}{H:Hp}{pos':Pos} (I:Inv X pins σ H s) {Inner:It→Hp→Prop} (h:wi σ H Inner)
 (hin : ∀ J H1,Inner J H1 → ∃ W:Nat→Nat→List V→St→Hp→Prop,(∃ m,W 0 m [] (capS ix own.length σ) H1) ∧ ∀ i m ys σ1 H2,W i m ys σ1 H2 →
 (J.stop i H2∧ys.length≤sizeLine ∧ ∀ p,H2 p=none→Qv (.ref p) (upd H2 p (.lst ys))) ∨
 (J.go i H2∧ys.length<sizeLine ∧ ∃ (N:V→St→Hp→Prop) (N0:St→Hp→Prop),(∀ y σ2 H5,N y σ2 H5 → ∃ m',m'<m∧W (i+1) m' (ys++[y]) σ2 H5)∧(∀ σ2 H5,N0 σ2 H5 → ∃ m',m'<m∧W (i+1) m' ys σ2 H5) ∧
 ∀ x H3,J.yld i H2 x H3→g x σ1 H3 fun σ2 H4=>tt σ2 H4 fun b H5=>match b with|true=>te σ2 H5 fun y H6=>N y σ2 H6|false=>N0 σ2 H5))
 (fin : ∀ (D C:Addr) (s6:Shared) (H6:Hp) (m6:Str→Option Value),s6.heap.Ns C m6→Inv X pins σ H6 s6→H6 C=none→C≠X.env.locals→C ∉ X.fs→(C ∈ X.ex∨X.s₀.heap.objs.size≤C)→(∀ x c,X.env.cells.lookup x=some c→c≠C)→(∀ p ∈ X.pn++pins,p.1≠C)→Qv (.ref D) H6 →
 compPost (model X.prog X.w) X.A X.xe use Q0 (.ref D) C (.ok .next) s6) :
 wpAny (model X.prog X.w) X.A (comprehension (.ListComp elt [⟨target,iter,cs,0⟩] scope pos) scope X.env pos' (newList []) false (eval iter X.env) use) Q0 X.xe s:=by
  have hcap : ∀ (j:Nat) (x:Str) (i:Nat),caps[j]?=some x→ix[j]?=some i→X.N[i]?=some x:=fun j x i h1 h2=>by
   have hm:(x,i) ∈ caps.zip ix:=by
    have:(caps.zip ix)[j]?=some (x,i):=by rw [List.getElem?_zip_eq_some];exact ⟨h1,h2⟩
    exact List.mem_of_getElem? this
   have:=List.all_eq_true.mp hcapB _ hm
   simpa using this
  have hnm : ∀ y ∈ scope.names,y.2 = .local→scope.names.lookup y.1=some .local:=fun y hy hl=>by
   have:=List.all_eq_true.mp S.names y hy
   rw [hl] at this
   simpa using this
  refine wpAny_comprehension_free (use:=use) rfl hs S.clos S.kind hnm (thn (hi pins s σ H _ I h) fun v s1 h1=>thn h1 fun itv s2 h2=>?_)
  obtain ⟨it,fp,tn,J,H2,e,I2,T,st2,f2,hJ⟩:=h2
  obtain ⟨W,⟨m0,w0⟩,turn⟩:=hin J H2 hJ
  subst e
  refine wpAny_newObj_type (nfe_cells ?_)
  dsimp only
  generalize eh0:s2.heap.push { cls :=.type "list",data :=.seq #[] }=h3
  have hns₁:(pushCells (h3.push { cls :=.type "dict",data :=.dict #[] }) scope.names).Ns h3.objs.size (fun _=>none):=(Heap.Ns.new h3 (.type "dict")).keeps (pushCells_keeps _ _)
  have hkp : ∀ b o,h3.get? b=some o→(pushCells (h3.push { cls :=.type "dict",data :=.dict #[] }) scope.names).get? b=some o:=fun b o q=>pushCells_keeps _ _ b o (Heap.get?_push_of_some _ q)
  have hcl₁ : ∀ x c,(nclOf scope X.env (h3.objs.size+1)).lookup x=some c→(clOf scope X.env).lookup x=some c∨(pushCells (h3.push { cls :=.type "dict",data :=.dict #[] }) scope.names).IsCell c none:=fun x c q=>by
   refine cf_cell (h:=h3.push { cls :=.type "dict",data :=.dict #[] }) ?_
   rw [Heap.size_push];exact q
  generalize pushCells (h3.push { cls :=.type "dict",data :=.dict #[] }) scope.names=h₁ at hns₁ hkp hcl₁ ⊢
  obtain ⟨s3,hs3⟩ : ∃ s3:Shared,s3={ s2 with heap:=h3 }:=⟨_,rfl⟩
  have e3:h3=s3.heap:=by rw [hs3]
  subst e3
  have eh:s3.heap=s2.heap.push { cls :=.type "list",data :=.seq ([]:List Value).toArray }:=eh0.symm
  have hC:s3.heap.objs.size=s2.heap.objs.size+1:=by rw [eh,Heap.size_push]
  have hDlt:s2.heap.objs.size<s3.heap.objs.size:=by omega
  have k23 : ∀ b o,s2.heap.get? b=some o→s3.heap.get? b=some o:=fun b o q=>by rw [eh];exact Heap.get?_push_of_some _ q
  have hD3:s3.heap.get? s2.heap.objs.size=some { cls :=.type "list",data :=.seq ([]:List Value).toArray }:=by rw [eh];exact Heap.get?_push_size _ rfl
  have I3:Inv X pins σ H2 s3:=by rw [hs3];exact I2.kept (t':=s2.toks) k23
  have k34 : ∀ b o,s3.heap.get? b=some o→h₁.get? b=some o:=hkp
  have fpl : ∀ b ∈ fp,b<s2.heap.objs.size:=fun b hb=>by
   obtain ⟨o,q,_⟩:=T.obj 0 _ st2 b hb
   exact Heap.lt_size q
  have cel : ∀ x c,X.env.cells.lookup x=some c→c<s2.heap.objs.size:=fun x c q=>by
   obtain ⟨v,o,z,_⟩:=I2.cell x c q
   exact Heap.lt_size z
  have ncl : ∀ x c,(nclOf scope X.env (s3.heap.objs.size+1)).lookup x=some c→X.env.cells.lookup x=some c∨s3.heap.objs.size<c:=fun x c q=>(S.look q).elim (fun z => .inr z.1) .inl
  have pnl : ∀ p ∈ X.pn++pins,p.1<s2.heap.objs.size:=fun p hp=>Heap.lt_size (I2.pin p hp).1
  have hDn:H2 s2.heap.objs.size=none:=I2.hok.fresh (Nat.le_refl _)
  have ok:(blk X pins scope (caps++own) s3 H2 (s2.heap.objs.size::fp)).Ok:=by
   refine ⟨I2.mod,S.kind,I2.ok.glob,I2.ok.blt,Nat.le_refl _,fun x y c h1 h2=>?_,fun x hx=>S.has _ hx,fun x c hf q=>?_,I2.ok.hd,I2.ok.frames,.inl rfl,fun b hb=>?_,I3.bs,?_,fun b o q hb=>?_,fun b hb=>?_,I3.stack,I3.stkFree⟩
   ·rcases ncl x c h1 with q1|q1
    ·rcases ncl y c h2 with q2|q2
     ·exact I2.ok.inj x y c q1 q2
     ·exact absurd (Nat.lt_trans (cel x c q1) hDlt) (Nat.not_lt.mpr (Nat.le_of_lt q2))
    ·exact cf_inj (n:=s3.heap.objs.size+1) (acc:=clOf scope X.env) (fun z a q=>Nat.lt_succ_of_lt (Nat.lt_trans (cel z a (S.sub q)) hDlt)) q1 h1 h2
   ·exact Nat.le_trans (Nat.le_succ _) (cf_above (lo:=s3.heap.objs.size+1) (Nat.le_refl _) (.inl (mem_lookup (beq_iff_eq.mp hf))) q)
   ·have hb':b=s2.heap.objs.size∨b ∈ fp:=List.mem_cons.mp hb
    rcases hb' with rfl|hb'
    ·exact ⟨Nat.ne_of_lt hDlt,fun x c q=>(ncl x c q).elim (fun z=>Nat.ne_of_lt (cel x c z)) fun z=>Nat.ne_of_gt (Nat.lt_trans hDlt z)⟩
    ·exact ⟨Nat.ne_of_lt (Nat.lt_trans (fpl b hb') hDlt),fun x c q=>(ncl x c q).elim (fun z=>(f2 b hb').2.2.2.2.1 x c z) fun z=>Nat.ne_of_gt (Nat.lt_trans (fpl b hb') (Nat.lt_trans hDlt z))⟩
   ·exact Nat.le_trans I2.ok.bsz I3.sz
   ·have hlt:b<X.base.objs.size:=Heap.lt_size q
    have hb':b=s2.heap.objs.size∨b ∈ fp:=List.mem_cons.mp hb
    have h1:=I2.ok.bsz
    have h2:=I2.sz
    rcases hb' with rfl|hb'
    ·exact absurd hlt (Nat.not_lt.mpr (Nat.le_trans h1 h2))
    ·rcases (f2 b hb').2.2.2.1 with z|z
     ·exact I2.ok.noex b o q z
     ·exact absurd hlt (Nat.not_lt.mpr (Nat.le_trans h1 z))
   ·have hb':b=s2.heap.objs.size∨b ∈ fp:=List.mem_cons.mp hb
    intro z
    have z':=I2.stkSub b z
    rcases hb' with rfl|hb'
    ·rcases List.mem_cons.mp z' with z'|z'
     ·exact Nat.ne_of_gt I2.lt z'
     ·exact I2.nofs (Nat.le_refl _) z'
    ·rcases List.mem_cons.mp z' with z'|z'
     ·exact (f2 b hb').2.1 z'
     ·exact (f2 b hb').2.2.1 z'
  have len0:(capS ix own.length σ).length=(caps++own).length:=by unfold capS;simp [hix]
  have I4:Inv (blk X pins scope (caps++own) s3 H2 (s2.heap.objs.size::fp)) [] (capS ix own.length σ) H2 { s2 with heap:=h₁ }:=by
   obtain ⟨mX,nsX,lkX⟩:=I3.loc
   refine ⟨ok,(by show s2.os=s3.os;rw [hs3]),I2.bare,Un.kept k34,⟨_,hns₁,fun j x v h1 h2 h3=>?_⟩,fun x c q=>?_,I3.hok.fresh (Nat.le_refl _),fun x c q=>(ncl x c q).elim (fun z=>I3.freeC x c z) fun z=>I3.hok.fresh (Nat.le_of_lt z),fun p hp=>?_,I3.hok.kept k34,len0⟩
   ·-- a captured name
    have hj:j<ix.length:=by
     unfold capS at h2
     by_cases hj:j<ix.length
     ·exact hj
     ·rw [List.getElem?_append_right (by simpa using hj),List.getElem?_replicate] at h2
      split at h2 <;> cases h2
    have h1':caps[j]?=some x:=by
     have:(caps++own)[j]?=some x:=h1
     rwa [List.getElem?_append_left (by omega)] at this
    have hij:ix[j]?=some ix[j]:=List.getElem?_eq_getElem hj
    have hv:σ[ix[j]]?=some (some v):=by
     unfold capS at h2
     rw [List.getElem?_append_left (by simpa using hj),List.getElem?_map,hij] at h2
     have h2':(σ[ix[j]]?).join=some v:=by simpa using h2
     cases q:σ[ix[j]]? with
     | none=>rw [q] at h2';cases h2'
     | some o=>rw [q] at h2';cases o with
      | none=>cases h2'
      | some y=>have:y=v:=by simpa using h2'
                rw [this]
    have hk:=List.all_eq_true.mp S.cap x (List.mem_of_getElem? h1')
    obtain ⟨k1,k2⟩:=Bool.and_eq_true_iff.mp hk
    have k1':scope.names.lookup x=some .free:=by simpa using k1
    have k2':X.env.scope.names.lookup x=some .cell∨X.env.scope.names.lookup x=some .free:=by simpa using k2
    obtain ⟨u,ru,lk⟩:=lkX ix[j] x v (hcap j x _ h1' hij) hv (k2'.elim (fun z => .inr (.inl z)) (fun z => .inr (.inr z)))
    refine ⟨u,ru,?_⟩
    have hrel:(relabel scope X.env).names.lookup x=some .cell∨(relabel scope X.env).names.lookup x=some .free:=by
     rcases h3 with h3|h3|h3
     ·have h3':(relabel scope X.env).names.lookup x=some NameKind.local:=h3
      obtain ⟨k',m1,m2⟩:=relabel_mem h3'
      rcases m2 with rfl|⟨_,m2⟩
      ·have:=hnm _ m1 rfl
       rw [k1'] at this;cases this
      ·cases m2
     ·exact .inl h3
     ·exact .inr h3
    have hxc:(x,NameKind.cell) ∉ scope.names:=fun z=>by
     have:=S.isC z
     rw [k1'] at this;cases this
    obtain ⟨c,hcl⟩:=S.hasF (mem_lookup k1')
    have hcl':(nclOf scope X.env (s3.heap.objs.size+1)).lookup x=some c:=(cf_old hxc).trans hcl
    rcases lk with ⟨kl,_⟩|⟨_,c',ec,ic⟩
    ·have kl':X.env.scope.names.lookup x=some .local:=kl
     rcases k2' with z|z <;> (rw [kl'] at z;cases z)
    ·have:=S.sub hcl
     have ee:c'=c:=by rw [ec] at this;exact Option.some.inj this
     exact .inr ⟨hrel,c,hcl',ee ▸ ic.keeps k34⟩
   ·rcases hcl₁ x c q with z|z
    ·obtain ⟨v,ic⟩:=I3.cell x c (S.sub z)
     exact ⟨v,ic.keeps k34⟩
    ·exact ⟨_,z⟩
   ·have hp':p ∈ X.pn++pins:=by simpa [blk] using hp
    obtain ⟨q1,q2,q3,q4,q5⟩:=I3.pin p hp'
    refine ⟨k34 _ _ q1,q2,Nat.ne_of_lt (Nat.lt_trans (pnl p hp') hDlt),fun z=>?_,q5⟩
    rcases List.mem_cons.mp (I3.stkSub p.1 z) with z'|z'
    ·exact q3 z'
    ·exact q4 z'
  have hD4:h₁.get? s2.heap.objs.size=some { cls :=.type "list",data :=.seq ([]:List Value).toArray }:=k34 _ _ hD3
  have st4:tn 0 h₁:=T.keep _ _ _ st2 fun b _ o q=>k34 b o (k23 b o q)
  have fpk : ∀ {H':Hp}{ob:Obj},(∀ b ∈ fp,H' b=none) → ∀ b ∈ fp,FpOk (blk X pins scope (caps++own) s3 H2 (s2.heap.objs.size::fp)) [(s2.heap.objs.size,ob)] H' b:=fun {H' ob} hn b hb=>by
   obtain ⟨_,a1,a2,a3,a4,a5⟩:=f2 b hb
   refine ⟨hn b hb,Nat.ne_of_lt (Nat.lt_trans (fpl b hb) hDlt),fun z=>?_,.inl (List.mem_cons_of_mem _ hb),fun x c q=>(ncl x c q).elim (fun z=>a4 x c z) fun z=>Nat.ne_of_gt (Nat.lt_trans (fpl b hb) (Nat.lt_trans hDlt z)),fun p hp=>?_⟩
   ·rcases List.mem_cons.mp (I2.stkSub b z) with z'|z'
    ·exact a1 z'
    ·exact a2 z'
   ·have hp':p ∈ X.pn++pins∨p=(s2.heap.objs.size,ob):=by simpa [blk,or_assoc] using hp
    rcases hp' with hp'|rfl
    ·exact a5 p hp'
    ·exact Nat.ne_of_gt (fpl b hb)
  have loop : ∀ s5:Shared,s5=({ s2 with heap:=h₁ }:Shared) →
   codeAny (model X.prog X.w) X.A (.compLoop (.ListComp elt [⟨target,iter,cs,0⟩] scope pos) 0 (.ref it) (.ref s2.heap.objs.size) (compEnvC scope (nclOf scope X.env (s3.heap.objs.size+1)) s3.heap.objs.size X.env))
    (compPost (model X.prog X.w) X.A X.xe use Q0 (.ref s2.heap.objs.size) s3.heap.objs.size) s5:=by
   rintro s5 rfl
   refine hloop (fun n s' => ∃ i ys its cp σ' H',Inv (blk X pins scope (caps++own) s3 H2 (s2.heap.objs.size::fp)) [] σ' H' s'∧tn i s'.heap∧(∀ b ∈ fp,H' b=none)∧H' s2.heap.objs.size=none ∧
    s'.heap.get? s2.heap.objs.size=some { cls :=.type "list",data :=.seq (its:List Value).toArray cp }∧Vals ys its∧W i n ys σ' H') ?_ m0 ⟨0,[],[],_,_,H2,I4,st4,fun b hb=>(f2 b hb).1,hDn,hD4,.nil,w0⟩
   rintro n s5 ⟨i,ys,its,cp,σ5,H5,I5,st5,fr5,hD5,gD5,rv5,w5⟩
   have Dfs:s2.heap.objs.size ∉ (blk X pins scope (caps++own) s3 H2 (s2.heap.objs.size::fp)).fs:=fun z=>by
    rcases List.mem_cons.mp (I2.stkSub _ z) with z'|z'
    ·exact Nat.ne_of_gt I2.lt z'
    ·exact I2.nofs (Nat.le_refl _) z'
   have I5':Inv (blk X pins scope (caps++own) s3 H2 (s2.heap.objs.size::fp)) [(s2.heap.objs.size,{ cls :=.type "list",data :=.seq its.toArray cp })] σ5 H5 s5:=by
    refine I5.pins_of fun p hp=>?_
    have hp':p ∈ (blk X pins scope (caps++own) s3 H2 (s2.heap.objs.size::fp)).pn++[]∨p=(s2.heap.objs.size,{ cls :=.type "list",data :=.seq its.toArray cp }):=by
     first
      | exact .inr (List.mem_singleton.mp hp)
      | (rcases List.mem_append.mp hp with z|z
         ·exact .inl (List.mem_append_left _ z)
         ·exact .inr (List.mem_singleton.mp z))
    rcases hp' with z|rfl
    ·exact I5.pin p z
    ·exact ⟨gD5,hD5,Nat.ne_of_lt hDlt,Dfs,fun v z=>by cases z⟩
   rcases turn i n ys σ5 H5 w5 with ⟨stop,hz,qn⟩|⟨go,hz,N,N0,hN,hN0,step⟩
   ·refine thn (T.done (blk X pins scope (caps++own) s3 H2 (s2.heap.objs.size::fp)) rfl rfl rfl hc i _ s5 σ5 H5 _ I5' (fpk fr5) st5 stop) fun r s6 ⟨hr,I6⟩=>?_
    subst hr
    obtain ⟨m6,ns6,_⟩:=id I6.loc
    have gD6:=(I6.pin _ (List.mem_append_right _ (List.mem_singleton.mpr rfl))).1
    have kC : ∀ b o,b≠s3.heap.objs.size→s6.heap.get? b=some o→s6.heap.get? b=some o:=fun b o _ q=>q
    have bne : ∀ b o,s2.heap.get? b=some o→b≠s3.heap.objs.size:=fun b o q=>Nat.ne_of_lt (Nat.lt_trans (Heap.lt_size q) hDlt)
    have bnD : ∀ b o,s2.heap.get? b=some o→b≠s2.heap.objs.size:=fun b o q=>Nat.ne_of_lt (Heap.lt_size q)
    have nC : ∀ b u,H5 b=some u→b≠s3.heap.objs.size:=fun b u q z=>by
     have z1:H5 s3.heap.objs.size=none:=I6.free
     rw [z,z1] at q;cases q
    have U:=I6.base
    have IX:Inv X pins σ (upd H5 s2.heap.objs.size (.lst ys)) s6:=by
     refine I2.call' (ch:=s2.heap.objs.size::fp) ?_ ?_ ?_ I6.bare ?_
     ·show s6.os=s2.os
      rw [I6.os];show s3.os=s2.os;rw [hs3]
     ·refine ⟨fun b o q n hb hx=>kC b o (bne b o q) (U.keep b o (k23 b o q) n hb hx),fun b o q n hb hx=>?_,fun b o q n hx=>?_,fun b o q hx=>?_,fun b xs q=>?_,fun b o u q=>?_,fun b ps q=>?_⟩
      ·obtain ⟨sl,z⟩:=U.slot b o (k23 b o q) n hb hx
       exact ⟨sl,kC b _ (bne b o q) z⟩
      ·rw [upd_ne (bnD b o q)];exact U.free b o (k23 b o q) n hx
      ·obtain ⟨o',z⟩:=U.there b o (k23 b o q) hx
       exact ⟨o',kC b _ (bne b o q) z⟩
      ·have:=U.tups b xs q
       rw [upd_ne (ne_of_none this hD5)];exact this
      ·have:=U.frzs b o u q
       rw [upd_ne (ne_of_none this hD5)];exact this
      ·obtain ⟨more,z,gm⟩:=U.tbls b ps q
       exact ⟨more,by rw [upd_ne (ne_of_none z hD5)];exact z,gm.mono fun b o u q=>by rw [upd_ne (ne_of_none q hD5)];exact q⟩
     ·intro b u q
      by_cases hb:b=s2.heap.objs.size
      ·subst hb
       rw [upd_same] at q
       cases q
       exact ⟨hz,its,cp,rv5,kC _ _ (Nat.ne_of_lt hDlt) gD6⟩
      ·rw [upd_ne hb] at q
       refine (I6.hok b u q).stay (fun c ob hc z=>kC c ob ?_ z) (fun c z=>by rw [upd_ne (ne_of_none z hD5)];exact z) fun c xs z=>by rw [upd_ne (ne_of_none z hD5)];exact z
       rcases hc with hc|hc
       ·rw [hc];exact nC b u q
       ·exact nC c _ hc
     ·intro b hb
      have hb':b=s2.heap.objs.size∨b ∈ fp:=List.mem_cons.mp hb
      rcases hb' with rfl|hb'
      ·exact ⟨.inr I2.sz,Nat.ne_of_gt I2.lt,fun x c q=>Nat.ne_of_lt (cel x c q),fun p hp=>Nat.ne_of_lt (pnl p hp)⟩
      ·obtain ⟨_,a1,_,a3,a4,a5⟩:=f2 b hb'
       exact ⟨a3,a1,a4,a5⟩
    have hCH:(upd H5 s2.heap.objs.size (.lst ys)) s3.heap.objs.size=none:=by
     rw [upd_ne (Nat.ne_of_gt hDlt)];exact I6.free
    exact fin _ _ s6 _ m6 ns6 IX hCH (Nat.ne_of_gt (Nat.lt_trans I2.lt hDlt)) (I2.nofs (Nat.le_of_lt hDlt)) (.inr (Nat.le_trans I2.sz (Nat.le_of_lt hDlt))) (fun x c q=>Nat.ne_of_lt (Nat.lt_trans (cel x c q) hDlt)) (fun p hp=>Nat.ne_of_lt (Nat.lt_trans (pnl p hp) hDlt)) (qn _ hD5)
   ·refine thn (T.item (blk X pins scope (caps++own) s3 H2 (s2.heap.objs.size::fp)) rfl rfl rfl hc i _ s5 σ5 H5 _ I5' (fpk fr5) st5 go) fun r s6 ⟨u,hr,h6⟩=>?_
    subst hr
    refine thn h6 fun _ s7 xx52=>?_
    obtain ⟨x,H7,I7,r7,y7,st7,fr7⟩:=xx52
    have I7':=I7.pinned (fpk fr7) (T.obj _ _ st7)
    refine wpAny_mono (hg pins s3 H2 _ _ s7 σ5 H7 x u _ I7' r7 (step x H7 y7)) (fun _ s8 xx51=>?_) fun _ _ z=>z.elim
    obtain ⟨σ8,H8,I8,q8⟩:=xx51
    refine htst pins s3 H2 _ _ s8 σ8 H8 _ _ _ I8 q8 fun bt s8' H8' I8' q8'=>?_
    cases bt with
    | false =>
     have q9:N0 σ8 H8':=q8'
     obtain ⟨m',hm',w9⟩:=hN0 σ8 H8' q9
     have gD9:=(I8'.pin (s2.heap.objs.size,{ cls :=.type "list",data :=.seq its.toArray cp }) (List.mem_append_right _ (List.mem_append_left _ (List.mem_singleton.mpr rfl))))
     have pin8 : ∀ b ∈ fp,∀ o,s7.heap.get? b=some o→s8'.heap.get? b=some o∧H8' b=none:=fun b hb o q=>by
      have z:=I8'.pin (b,o) (List.mem_append_right _ (List.mem_append_right _ (mem_pinsAt hb q)))
      exact ⟨z.1,z.2.1⟩
     refine ⟨m',hm',i+1,ys,its,cp,σ8,H8',?_,?_,fun b hb=>?_,gD9.2.1,gD9.1,rv5,w9⟩
     ·exact (I8'.pins_of (pins':=[]) (fun p hp=>by
       first
        | exact absurd hp (by simp)
        | (rw [List.append_nil] at hp;exact I8'.pin p (List.mem_append_left _ hp))))
     ·exact T.keep _ _ _ st7 fun b hb o q=>(pin8 b hb o q).1
     ·obtain ⟨o,q,_⟩:=T.obj _ _ st7 b hb
      exact (pin8 b hb o q).2
    | true =>
     refine wpAny_mono (he pins s3 H2 _ _ s8' σ8 H8' _ I8' q8') (fun uy s9 xx50=>?_) fun _ _ z=>z.elim
     obtain ⟨y,H9,I9,r9,n9⟩:=xx50
     obtain ⟨m',hm',w9⟩:=hN y σ8 H9 n9
     have gD9:=(I9.pin (s2.heap.objs.size,{ cls :=.type "list",data :=.seq its.toArray cp }) (List.mem_append_right _ (List.mem_append_left _ (List.mem_singleton.mpr rfl))))
     have pin9 : ∀ b ∈ fp,∀ o,s7.heap.get? b=some o→s9.heap.get? b=some o∧H9 b=none:=fun b hb o q=>by
      have z:=I9.pin (b,o) (List.mem_append_right _ (List.mem_append_right _ (mem_pinsAt hb q)))
      exact ⟨z.1,z.2.1⟩
     have hl9:=rv5.length
     refine call_meets PySem.F.slot_list_append ⟨_,gD9.1,rfl⟩ PySem.F.entry_list_append (PySem.F.args_list_append_2 _ _) (PySem.list_append s2.heap.objs.size its.toArray cp uy (by rw [List.size_toArray];omega)) ⟨gD9.1,?_⟩
     have qD:=PySem.IsL.update gD9.1 (fun xs=>xs.push uy)
     have ep:its.toArray.push uy=(its++[uy]).toArray:=by simp
     rw [ep] at qD
     have up : ∀ b o,b≠s2.heap.objs.size→s9.heap.get? b=some o→(s9.heap.update s2.heap.objs.size (Obj.mapSeq fun xs=>xs.push uy)).get? b=some o:=fun b o hb q=>(Heap.get?_update_other s9.heap _ (Ne.symm hb)).trans q
     refine ⟨m',hm',i+1,ys++[y],its++[uy],_,σ8,H9,?_,?_,fun b hb=>?_,gD9.2.1,qD,rv5.append (.cons r9 .nil),w9⟩
     ·refine (I9.pins_of (pins':=[]) (fun p hp=>by
       first
        | exact absurd hp (by simp)
        | (rw [List.append_nil] at hp;exact I9.pin p (List.mem_append_left _ hp)))).turned (it:=s2.heap.objs.size) up gD9.2.1 (Nat.ne_of_lt hDlt) (.inl (List.mem_cons_self ..)) (fun x c q=>(ncl x c q).elim (fun z=>Nat.ne_of_lt (cel x c z)) fun z=>Nat.ne_of_gt (Nat.lt_trans hDlt z)) fun p hp=>?_
      have hp':p ∈ X.pn++pins:=by simpa [blk] using hp
      exact Nat.ne_of_lt (pnl p hp')
     ·exact T.keep _ _ _ st7 fun b hb o q=>up b o (Nat.ne_of_lt (fpl b hb)) (pin9 b hb o q).1
     ·obtain ⟨o,q,_⟩:=T.obj _ _ st7 b hb
      exact (pin9 b hb o q).2
  exact codeAny_compStart_list (loop _ rfl) (T.self _ 0 _ _ _ st4 (loop _ rfl))
theorem comp_core0 (hc:X.calm=true) (S:CompScope X.env scope caps) (hi:PI X target iter wi)
 (hg : ∀ pins s3 H ex,PG (blk X pins scope (caps++own) s3 H ex) target g)
 (he : ∀ pins s3 H ex,PE (blk X pins scope (caps++own) s3 H ex) elt te)
 (hix:caps.length=ix.length) (hcapB:(caps.zip ix).all (fun p=>X.N[p.2]?==some p.1)=true)
 (hs : ∀ x,foldedSetIterable iter X.env x=pure x) {use:Option (Value→Sem Unit)}{Q0:Value→Shared→Prop}{Qv:VK}{pins:List (Addr×Obj)}{s:Shared}{σ:St}{H:Hp}{pos':Pos} (I:Inv X pins σ H s) (h:tComp ix own.length wi g te σ H Qv)
 (fin : ∀ (D C:Addr) (s6:Shared) (H6:Hp) (m6:Str→Option Value),s6.heap.Ns C m6→Inv X pins σ H6 s6→H6 C=none→C≠X.env.locals→C ∉ X.fs→(C ∈ X.ex∨X.s₀.heap.objs.size≤C)→(∀ x c,X.env.cells.lookup x=some c→c≠C)→(∀ p ∈ X.pn++pins,p.1≠C)→Qv (.ref D) H6 →
 compPost (model X.prog X.w) X.A X.xe use Q0 (.ref D) C (.ok .next) s6) :
 wpAny (model X.prog X.w) X.A (comprehension (.ListComp elt [⟨target,iter,[],0⟩] scope pos) scope X.env pos' (newList []) false (eval iter X.env) use) Q0 X.xe s:=by
  refine comp_core (cs:=[]) (tt:=tYes) (Tst:=fun _ P _ s=>P true s) (fun J turn n h=>codeAny_compLoop_any J turn n h) hc S hi hg he (fun _ _ _ _ _ s _ H' _ _ _ I q k=>k true s H' I q) hix hcapB hs I h (fun J H1 z=>?_) fin
  obtain ⟨W,w0,turn⟩:=z
  refine ⟨W,w0,fun i m ys σ1 H2 w=>?_⟩
  rcases turn i m ys σ1 H2 w with z|z
  ·exact .inl z
  ·obtain ⟨go,hz,N,hN,step⟩:=z
   exact .inr ⟨go,hz,N,fun _ _=>False,hN,fun _ _ z=>z.elim,step⟩
theorem pe_comp (hc:X.calm=true) (S:CompScope X.env scope caps) (hi:PI X target iter wi)
 (hg : ∀ pins s3 H ex,PG (blk X pins scope (caps++own) s3 H ex) target g)
 (he : ∀ pins s3 H ex,PE (blk X pins scope (caps++own) s3 H ex) elt te)
 (hix:caps.length=ix.length:=by rfl) (hcapB:(caps.zip ix).all (fun p=>X.N[p.2]?==some p.1)=true:=by rfl)
  (hs : ∀ x,foldedSetIterable iter X.env x=pure x:=by intro _;rfl):PE X (.ListComp elt [⟨target,iter,[],0⟩] scope pos) (tComp ix own.length wi g te):=by
  intro pins s σ H Q I h
  rw [eval_ListComp]
  exact comp_core0 (use:=none) (Q0:=EP X pins σ Q) hc S hi hg he hix hcapB hs I h fun D C s6 H6 m6 ns6 IX c1 c2 c3 c4 c5 c6 q=>⟨m6,ns6,fun h' sb=>⟨.ref D,H6,IX.turned (t':=s6.toks) (it:=C) (fun b o hb q=>sb.extBut b o hb q) c1 c2 c4 c5 c6,rfl,q⟩⟩
end
end L2
namespace L2
open PySem PySem.Spec PyProof.Rows
inductive Sl where
 | non
 | val (d:PyData)
 | own (ds:List PyData)
 | pen (ds:List PyData)
 | new (d:PyData)
 | exc (C:Addr)
  | obj (a C:Addr) (nm:List Str) (fs:List (Str×PyData))
abbrev Sto:=List Sl
def gS:Sto→Nat→Sl
 | [],_ => .non
 | s::_,0=>s
 | _::r,i+1=>gS r i
def Sl.mut:Sl→Bool
 | .own _=>true
 | .pen _=>true
 | _=>false
def vS (σ:St) (i:Nat):Option V:=(σ[i]?).join
theorem gS_set : ∀ (e:Sto) (i j:Nat) (s:Sl),gS (e.set i s) j=if i=j∧i<e.length then s else gS e j
 | [],i,j,s=>by simp [gS]
 | x::e,0,0,s=>by simp [gS]
 | x::e,0,j+1,s=>by simp [gS]
 | x::e,i+1,0,s=>by simp [gS]
 | x::e,i+1,j+1,s=>by
  simp only [List.set_cons_succ,gS,gS_set e i j s,List.length_cons,Nat.add_right_cancel_iff,Nat.add_lt_add_iff_right]
theorem gS_out : ∀ {e:Sto}{i:Nat},e.length≤i→gS e i = .non
 | [],_,_=>by simp [gS]
 | x::e,0,h=>by simp at h
 | x::e,i+1,h=>by simp only [gS];exact gS_out (by simpa using h)
theorem vS_set (σ:St) (i j:Nat) (v:Option V):vS (σ.set i v) j=if i=j∧i<σ.length then v else vS σ j:=by
 unfold vS
 rw [List.getElem?_set]
 by_cases h:i=j
 ·subst h
  by_cases h2:i<σ.length
  ·simp [h2]
  ·simp [h2]
 ·simp [h]
theorem vS_some {σ:St}{i:Nat}{v:V} (h:vS σ i=some v):σ[i]?=some (some v):=by
 unfold vS at h
 cases e:σ[i]? with
 | none=>rw [e] at h;cases h
 | some o=>rw [e] at h;cases o with
  | none=>cases h
  | some u=>simpa using h
structure Frm where
 B:Hp
 He:Hp
 F0:Hp
mutual
def IsN (K:PySem.W.Frag) (H:Hp):PyData→V→Prop
 | .none,v=>v = .non
 | .bool b,v=>v = .bl b
 | .int i,v=>v = .int i
 | .str x,v=>v = .str x
 | .list l,v => ∃ a xs,v = .ref a∧H a=some (.lst xs)∧IssN K H l xs
 | .tuple l,v => ∃ a xs,v = .ref a∧H a=some (.tup xs)∧IssN K H l xs
 | .dict _,_=>False
def IssN (K:PySem.W.Frag) (H:Hp):List PyData→List V→Prop
 | [],xs=>xs=[]
 | d::l,xs => ∃ x r,xs=x::r∧IsN K H d x∧IssN K H l r
end
mutual
theorem IsN.is {K:PySem.W.Frag}{H H':Hp} (s:Same H H') : ∀ {d:PyData}{v:V},IsN K H d v→Is K H' d v
 | .none,_,h=>by unfold IsN at h;unfold Is;exact h
 | .bool _,_,h=>by unfold IsN at h;unfold Is;exact h
 | .int _,_,h=>by unfold IsN at h;unfold Is;exact h
 | .str _,_,h=>by unfold IsN at h;unfold Is;exact h
 | .list l,_,h=>by
  unfold IsN at h;unfold Is
  obtain ⟨a,xs,e,q,r⟩:=h
  exact ⟨a,xs,e,SqL.of (s _ _ q),IssN.is s r⟩
 | .tuple l,_,h=>by
  unfold IsN at h;unfold Is
  obtain ⟨a,xs,e,q,r⟩:=h
  exact ⟨a,xs,e,SqT.of (s _ _ q),IssN.is s r⟩
 | .dict _,_,h=>by unfold IsN at h;exact h.elim
theorem IssN.is {K:PySem.W.Frag}{H H':Hp} (s:Same H H') : ∀ {l:List PyData}{xs:List V},IssN K H l xs→Iss K H' l xs
 | [],_,h=>by unfold IssN at h;unfold Iss;exact h
 | d::l,_,h=>by
  unfold IssN at h;unfold Iss
  obtain ⟨x,r,e,p,q⟩:=h
  exact ⟨x,r,e,IsN.is s p,IssN.is s q⟩
end
mutual
theorem IsN.mono {K:PySem.W.Frag}{H H':Hp} (s:Same H H') : ∀ {d:PyData}{v:V},IsN K H d v→IsN K H' d v
 | .none,_,h=>by unfold IsN at h ⊢;exact h
 | .bool _,_,h=>by unfold IsN at h ⊢;exact h
 | .int _,_,h=>by unfold IsN at h ⊢;exact h
 | .str _,_,h=>by unfold IsN at h ⊢;exact h
 | .list l,_,h=>by
  unfold IsN at h ⊢
  obtain ⟨a,xs,e,q,r⟩:=h
  exact ⟨a,xs,e,s _ _ q,IssN.mono s r⟩
 | .tuple l,_,h=>by
  unfold IsN at h ⊢
  obtain ⟨a,xs,e,q,r⟩:=h
  exact ⟨a,xs,e,s _ _ q,IssN.mono s r⟩
 | .dict _,_,h=>by unfold IsN at h;exact h.elim
theorem IssN.mono {K:PySem.W.Frag}{H H':Hp} (s:Same H H') : ∀ {l:List PyData}{xs:List V},IssN K H l xs→IssN K H' l xs
 | [],_,h=>by unfold IssN at h ⊢;exact h
 | d::l,_,h=>by
  unfold IssN at h ⊢
  obtain ⟨x,r,e,p,q⟩:=h
  exact ⟨x,r,e,IsN.mono s p,IssN.mono s q⟩
end
def newF (M:Frm) (F:Hp):Hp:=fun b=>if (M.He b).isNone=true∧(M.B b).isNone=true then F b else none
theorem newF_le {M:Frm}{F:Hp}:Same (newF M F) F:=fun b o e=>by
 unfold newF at e;split at e
 ·exact .of e
 ·cases e
theorem newF_mono {M:Frm}{F F':Hp} (s:Same F F'):Same (newF M F) (newF M F'):=fun b o e=>by
 unfold newF at e ⊢;split at e
 ·rename_i h;rw [if_pos h];exact s b o e
 ·cases e
def excO (C ea:Addr):HO :=.ext fun h => ∃ o,h.get? ea=some o∧o.cls = .ref C
section
variable (K:PySem.W.Frag) (M:Frm) (F H:Hp)
def SlotOk:Sl→Option V→Prop
 | .non,_=>True
 | .val d,x => ∃ v,x=some v∧Is K F d v
 | .own ds,x => ∃ a vs,x=some (.ref a)∧H a=some (.lst vs)∧F a=none∧M.B a=none∧M.He a=none∧Iss K F ds vs
 | .pen ds,x => ∃ a vs,x=some (.ref a)∧H a=some (.lst vs)∧F a=none∧M.B a=none∧(∃ o,M.He a=some o)∧Iss K F ds vs
 | .new d,x => ∃ v,x=some v∧IsN K (newF M F) d v
 | .exc C,x => ∃ ea,x=some (.ref ea)∧F ea=some (excO C ea)
 | .obj a C nm fs,x => ∃ dx vs,x=some (.ref a)∧M.B a=some (.ins C dx vs)∧vs.map (·.1)=nm ∧ ∀ f d,(f,d) ∈ fs → ∃ v,vs.lookup f=some v∧Is K F d v
structure EnvOk (env:Sto) (σ:St):Prop where
 len:env.length=σ.length
 slot : ∀ i,SlotOk K M F H (gS env i) (vS σ i)
 dis : ∀ i j a,i≠j→(gS env i).mut=true→(gS env j).mut=true→vS σ i=some (.ref a)→vS σ j=some (.ref a)→False
 f0:Same M.F0 F
 fe:Same M.F0 M.He
 fh:Same F H
 bh:Same M.B H
 new : ∀ b o,F b=some o→M.F0 b=some o∨M.He b=none
 dom : ∀ b o,M.He b=some o → ∃ o',H b=some o'
end
structure Go (F H F' H':Hp):Prop where
 f:Same F F'
 h:Same H H'
 fh:Same F' H'
 new : ∀ b o,F' b=some o→F b=some o∨H b=none
theorem same_none {H H':Hp} (s:Same H H') {b:Addr} (h:H' b=none):H b=none:=s.free h
theorem Go.refl {F H:Hp} (s:Same F H):Go F H F H:=⟨.refl _,.refl _,s,fun _ _ h => .inl h⟩
theorem Go.put {F H:Hp}{p:Addr}{o:HO} (s:Same F H) (h:H p=none):Go F H (upd F p o) (upd H p o):=by
 refine ⟨same_new (same_none s h),same_new h,fun b u e=>?_,fun b u e=>?_⟩
 ·unfold upd at e ⊢
  split at e
  ·rename_i z;rw [if_pos z];exact .of e
  ·rename_i z;rw [if_neg z];exact s b u e
 ·unfold upd at e
  split at e
  ·rename_i z;subst z;exact .inr h
  ·exact .inl e
theorem Go.side {F H:Hp}{p:Addr}{o:HO} (s:Same F H) (h:H p=none):Go F H F (upd H p o) :=
 ⟨.refl _,same_new h,s.trans (same_new h),fun _ _ e => .inl e⟩
section
variable {K:PySem.W.Frag}{M:Frm}{F H F' H':Hp}{env:Sto}{σ:St}
theorem SlotOk.go {s:Sl}{x:Option V} (h:SlotOk K M F H s x) (g:Go F H F' H'):SlotOk K M F' H' s x:=by
 have nf : ∀ {a:Addr}{o:HO},H a=some o→F a=none→F' a=none:=fun {a o} h1 h2=>by
  cases e:F' a with
  | none=>rfl
  | some u=>rcases g.new a u e with q|q
            ·rw [h2] at q;cases q
            ·rw [h1] at q;cases q
 cases s with
 | non=>trivial
 | val d=>obtain ⟨v,e,i⟩:=h;exact ⟨v,e,i.mono g.f⟩
 | own ds=>obtain ⟨a,vs,e,h1,h2,h3,h4,h5⟩:=h;exact ⟨a,vs,e,g.h _ _ h1,nf h1 h2,h3,h4,h5.mono g.f⟩
 | pen ds=>obtain ⟨a,vs,e,h1,h2,h3,hx,h5⟩:=h;exact ⟨a,vs,e,g.h _ _ h1,nf h1 h2,h3,hx,h5.mono g.f⟩
 | new d=>obtain ⟨v,e,i⟩:=h;exact ⟨v,e,i.mono (newF_mono g.f)⟩
 | exc C=>obtain ⟨ea,e,i⟩:=h;exact ⟨ea,e,g.f.at i⟩
 | obj a0 C nm fs=>obtain ⟨dx,vs,e,b,hn,i⟩:=h;exact ⟨dx,vs,e,b,hn,fun f d m=>let ⟨v,l,j⟩:=i f d m; ⟨v,l,j.mono g.f⟩⟩
theorem EnvOk.go (I:EnvOk K M F H env σ) (g:Go F H F' H'):EnvOk K M F' H' env σ where
 len:=I.len
 slot:=fun i=>(I.slot i).go g
 dis:=I.dis
 f0:=I.f0.trans g.f
 fe:=I.fe
 fh:=g.fh
 bh:=I.bh.trans g.h
 new:=fun b o e=>(g.new b o e).elim (fun q=>I.new b o q) fun q=>by
  refine .inr ?_
  cases z:M.He b with
  | none=>rfl
  | some u=>obtain ⟨o',q'⟩:=I.dom b u z;rw [q] at q';cases q'
 dom:=fun b o e=>let ⟨o',q⟩:=I.dom b o e;g.h.any q
theorem EnvOk.he (I:EnvOk K M F H env σ) {a:Addr} (h:H a=none):M.He a=none:=by
 cases z:M.He a with
 | none=>rfl
 | some u=>obtain ⟨o',q'⟩:=I.dom a u z;rw [h] at q';cases q'
theorem EnvOk.setv (I:EnvOk K M F H env σ) {i:Nat}{d:PyData}{v:V} (h:Is K F d v):EnvOk K M F H (env.set i (.val d)) (σ.set i (some v)) where
 len:=by rw [List.length_set,List.length_set];exact I.len
 slot:=fun j=>by
  rw [gS_set,vS_set,I.len]
  split
  ·exact ⟨v,rfl,h⟩
  ·exact I.slot j
 dis:=fun j k a hjk h1 h2 h3 h4=>by
  rw [gS_set] at h1 h2
  rw [vS_set] at h3 h4
  rw [I.len] at h1 h2
  split at h1
  ·cases h1
  ·rename_i z1
   split at h2
   ·cases h2
   ·rename_i z2
    rw [if_neg z1] at h3
    rw [if_neg z2] at h4
    exact I.dis j k a hjk h1 h2 h3 h4
 f0:=I.f0
 fe:=I.fe
 fh:=I.fh
 bh:=I.bh
 new:=I.new
 dom:=I.dom
theorem EnvOk.seto (I:EnvOk K M F H env σ) {i:Nat}{ds:List PyData}{a:Addr}{vs:List V} (h1:H a=some (.lst vs)) (h2:F a=none) (h3:M.B a=none) (h4:M.He a=none)
 (h5 : ∀ j,(gS env j).mut=true→vS σ j≠some (.ref a)) (h6:Iss K F ds vs):EnvOk K M F H (env.set i (.own ds)) (σ.set i (some (.ref a))) where
  len:=by rw [List.length_set,List.length_set];exact I.len
  slot:=fun j=>by
   rw [gS_set,vS_set,I.len]
   split
   ·exact ⟨a,vs,rfl,h1,h2,h3,h4,h6⟩
   ·exact I.slot j
  dis:=fun j k b hjk m1 m2 e1 e2=>by
   rw [gS_set] at m1 m2
   rw [vS_set] at e1 e2
   rw [I.len] at m1 m2
   by_cases z1:i=j∧i<σ.length
   ·rw [if_pos z1] at m1 e1
    have z2 : ¬ (i=k∧i<σ.length):=fun z=>hjk (z1.1.symm.trans z.1)
    rw [if_neg z2] at m2 e2
    injection e1 with e1;injection e1 with e1;subst e1
    exact h5 k m2 e2
   ·rw [if_neg z1] at m1 e1
    by_cases z2:i=k∧i<σ.length
    ·rw [if_pos z2] at m2 e2
     injection e2 with e2;injection e2 with e2;subst e2
     exact h5 j m1 e1
    ·rw [if_neg z2] at m2 e2
     exact I.dis j k b hjk m1 m2 e1 e2
  f0:=I.f0
  fe:=I.fe
  fh:=I.fh
  bh:=I.bh
  new:=I.new
  dom:=I.dom
def Sl.upd:Sl→List PyData→Sl
 | .own _,ds => .own ds
 | .pen _,ds => .pen ds
 | s,_=>s
def Sl.cnt:Sl→List PyData
 | .own ds=>ds
 | .pen ds=>ds
 | _=>[]
theorem SlotOk.addr {s:Sl}{x:Option V} (h:SlotOk K M F H s x) (m:s.mut=true) : ∃ a vs,x=some (.ref a)∧H a=some (.lst vs)∧F a=none∧M.B a=none∧Iss K F s.cnt vs:=by
 cases s with
 | non=>cases m
 | val d=>cases m
 | own ds=>obtain ⟨a,vs,e,h1,h2,h3,h4,h5⟩:=h;exact ⟨a,vs,e,h1,h2,h3,h5⟩
 | pen ds=>obtain ⟨a,vs,e,h1,h2,h3,hx,h5⟩:=h;exact ⟨a,vs,e,h1,h2,h3,h5⟩
 | new d=>cases m
 | exc C=>cases m
 | obj a0 C nm fs=>cases m
theorem gS_lt {e:Sto}{i:Nat} (h:(gS e i).mut=true):i<e.length:=by
 by_cases z:i<e.length
 ·exact z
 ·rw [gS_out (by omega)] at h;cases h
theorem EnvOk.chg (I:EnvOk K M F H env σ) {i:Nat}{a:Addr}{ds:List PyData}{vs:List V} (m:(gS env i).mut=true) (ea:vS σ i=some (.ref a)) (h:Iss K F ds vs):EnvOk K M F (upd H a (.lst vs)) (env.set i ((gS env i).upd ds)) σ:=by
 obtain ⟨a',vs0,e,h1,h2,h3,h5⟩:=(I.slot i).addr m
 rw [ea] at e;injection e with e;injection e with e;subst e
 have hi:=gS_lt m
 have mu:((gS env i).upd ds).mut=true:=by
  cases q:gS env i with
  | non=>rw [q] at m;cases m
  | val d=>rw [q] at m;cases m
  | own d=>rfl
  | pen d=>rfl
  | new d=>rw [q] at m;cases m
  | exc C=>rw [q] at m;cases m
  | obj a0 C nm fs=>rw [q] at m;cases m
 have muj : ∀ j,(gS (env.set i ((gS env i).upd ds)) j).mut=(gS env j).mut:=fun j=>by
  rw [gS_set]
  split
  ·rename_i z;rw [mu,← z.1,m]
  ·rfl
 refine ⟨by rw [List.length_set];exact I.len,fun j=>?_,fun j k b hjk m1 m2 e1 e2=>I.dis j k b hjk (muj j ▸ m1) (muj k ▸ m2) e1 e2,I.f0,I.fe,fun b o e=>?_,fun b o e=>?_,I.new,fun b o e=>?_⟩
 ·rw [gS_set]
  by_cases z:i=j
  ·subst z
   rw [if_pos ⟨rfl,hi⟩]
   have S:=I.slot i
   cases q:gS env i with
   | non=>rw [q] at m;cases m
   | val d=>rw [q] at m;cases m
   | own ds0 =>
    rw [q] at S
    obtain ⟨a',vs',e,g1,g2,g3,g4,g5⟩:=S
    rw [ea] at e;injection e with e;injection e with e;subst e
    exact ⟨a,vs,ea,upd_same,g2,g3,g4,h⟩
   | pen ds0 =>
    rw [q] at S
    obtain ⟨a',vs',e,g1,g2,g3,gx,g5⟩:=S
    rw [ea] at e;injection e with e;injection e with e;subst e
    exact ⟨a,vs,ea,upd_same,g2,g3,gx,h⟩
   | new d=>rw [q] at m;cases m
   | exc C=>rw [q] at m;cases m
   | obj a0 C nm fs=>rw [q] at m;cases m
  ·rw [if_neg (fun y=>z y.1)]
   have S:=I.slot j
   cases q:gS env j with
   | non=>trivial
   | val d=>rw [q] at S;exact S
   | own ds0 =>
    rw [q] at S
    obtain ⟨b,vs',e,g1,g2,g3,g4,g5⟩:=S
    have hb:b≠a:=fun y=>by subst y;exact I.dis i j b z m (by rw [q];rfl) ea e
    exact ⟨b,vs',e,by rw [upd_ne hb];exact g1,g2,g3,g4,g5⟩
   | pen ds0 =>
    rw [q] at S
    obtain ⟨b,vs',e,g1,g2,g3,gx,g5⟩:=S
    have hb:b≠a:=fun y=>by subst y;exact I.dis i j b z m (by rw [q];rfl) ea e
    exact ⟨b,vs',e,by rw [upd_ne hb];exact g1,g2,g3,gx,g5⟩
   | new d=>rw [q] at S;exact S
   | exc C=>rw [q] at S;exact S
   | obj a0 C nm fs=>rw [q] at S;exact S
 ·rw [upd_ne (ne_of_none e h2)];exact I.fh b o e
 ·rw [upd_ne (ne_of_none e h3)];exact I.bh b o e
 ·obtain ⟨o',q⟩:=I.dom b o e
  by_cases z:b=a
  ·subst z;exact ⟨_,upd_same⟩
  ·exact ⟨o',by rw [upd_ne z];exact q⟩
theorem EnvOk.frz (I:EnvOk K M F H env σ) {a:Addr}{vs:List V} (h1:H a=some (.lst vs)) (h2:F a=none) (h4:M.He a=none) (h5 : ∀ j,(gS env j).mut=true→vS σ j≠some (.ref a)) :
 EnvOk K M (upd F a (.lst vs)) H env σ∧Same F (upd F a (.lst vs)):=by
  have sF:Same F (upd F a (.lst vs)):=same_new h2
  refine ⟨⟨I.len,fun j=>?_,I.dis,I.f0.trans sF,I.fe,fun b o e=>?_,I.bh,fun b o e=>?_,I.dom⟩,sF⟩
  ·have S:=I.slot j
   have n5:=h5 j
   cases q:gS env j with
   | non=>trivial
   | val d=>rw [q] at S;obtain ⟨v,e,i⟩:=S;exact ⟨v,e,i.mono sF⟩
   | own ds0 =>
    rw [q] at S n5
    obtain ⟨b,vs',e,g1,g2,g3,g4,g5⟩:=S
    have hb:b≠a:=fun y=>by subst y;exact n5 rfl e
    exact ⟨b,vs',e,g1,by rw [upd_ne hb];exact g2,g3,g4,g5.mono sF⟩
   | pen ds0 =>
    rw [q] at S n5
    obtain ⟨b,vs',e,g1,g2,g3,gx,g5⟩:=S
    have hb:b≠a:=fun y=>by subst y;exact n5 rfl e
    exact ⟨b,vs',e,g1,by rw [upd_ne hb];exact g2,g3,gx,g5.mono sF⟩
   | new d=>rw [q] at S;obtain ⟨v,e,i⟩:=S;exact ⟨v,e,i.mono (newF_mono sF)⟩
   | exc C=>rw [q] at S;obtain ⟨ea,e,i⟩:=S;exact ⟨ea,e,sF.at i⟩
   | obj a0 C nm fs=>rw [q] at S;obtain ⟨dx,vs',e,b',hn,i⟩:=S;exact ⟨dx,vs',e,b',hn,fun f d m=>let ⟨v,l,j⟩:=i f d m; ⟨v,l,j.mono sF⟩⟩
  ·by_cases z:b=a
   ·subst z;rw [upd_same] at e;rw [h1];exact .of e
   ·rw [upd_ne z] at e;exact I.fh b o e
  ·by_cases z:b=a
   ·subst z;exact .inr h4
   ·rw [upd_ne z] at e;exact I.new b o e
theorem EnvOk.drop (I:EnvOk K M F H env σ) (i:Nat):EnvOk K M F H (env.set i .non) σ where
 len:=by rw [List.length_set];exact I.len
 slot:=fun j=>by
  rw [gS_set]
  split
  ·trivial
  ·exact I.slot j
 dis:=fun j k a hjk h1 h2 h3 h4=>by
  rw [gS_set] at h1 h2
  split at h1
  ·cases h1
  ·split at h2
   ·cases h2
   ·exact I.dis j k a hjk h1 h2 h3 h4
 f0:=I.f0
 fe:=I.fe
 fh:=I.fh
 bh:=I.bh
 new:=I.new
 dom:=I.dom
theorem EnvOk.tell (I:EnvOk K M F H env σ) {i:Nat}{d:PyData}{v:V} (e:vS σ i=some v) (h:Is K F d v):EnvOk K M F H (env.set i (.val d)) σ where
 len:=by rw [List.length_set];exact I.len
 slot:=fun j=>by
  rw [gS_set]
  split
  ·rename_i z;rw [← z.1];exact ⟨v,e,h⟩
  ·exact I.slot j
 dis:=fun j k a hjk h1 h2 h3 h4=>by
  rw [gS_set] at h1 h2
  split at h1
  ·cases h1
  ·split at h2
   ·cases h2
   ·exact I.dis j k a hjk h1 h2 h3 h4
 f0:=I.f0
 fe:=I.fe
 fh:=I.fh
 bh:=I.bh
 new:=I.new
 dom:=I.dom
def Sl.fz:Sl→Sl
 | .own ds => .val (.list ds)
 | s=>s
theorem EnvOk.freeze (I:EnvOk K M F H env σ) (i:Nat) : ∃ F',EnvOk K M F' H (env.set i (gS env i).fz) σ∧Same F F':=by
 have same : ∀ s,gS env i=s→env.set i s=env:=fun s h=>by
  subst h
  apply List.ext_getElem?
  intro j
  rw [List.getElem?_set]
  split
  ·rename_i z
   subst z
   split
   ·rename_i hi
    have : ∀ (e:Sto) (n:Nat) (h:n<e.length),some (gS e n)=e[n]?:=by
     intro e
     induction e with
     | nil=>intro n h;simp at h
     | cons x e ih=>intro n h;cases n with
      | zero=>rfl
      | succ n=>simp only [gS,List.getElem?_cons_succ];exact ih n (by simpa using h)
    exact this env i hi
   ·rename_i hi
    rw [List.getElem?_eq_none (by omega)]
  ·rfl
 cases q:gS env i with
 | non=>exact ⟨F,by rw [show Sl.fz .non = .non from rfl,same _ q];exact I,.refl _⟩
 | val d=>exact ⟨F,by rw [show Sl.fz (.val d) = .val d from rfl,same _ q];exact I,.refl _⟩
 | pen ds=>exact ⟨F,by rw [show Sl.fz (.pen ds) = .pen ds from rfl,same _ q];exact I,.refl _⟩
 | new d=>exact ⟨F,by rw [show Sl.fz (.new d) = .new d from rfl,same _ q];exact I,.refl _⟩
 | exc C=>exact ⟨F,by rw [show Sl.fz (.exc C) = .exc C from rfl,same _ q];exact I,.refl _⟩
 | obj a0 C nm fs=>exact ⟨F,by rw [show Sl.fz (.obj a0 C nm fs) = .obj a0 C nm fs from rfl,same _ q];exact I,.refl _⟩
 | own ds =>
  have S:=I.slot i
  rw [q] at S
  obtain ⟨a,vs,e,h1,h2,h3,h4,h5⟩:=S
  obtain ⟨J,s⟩:=(I.drop i).frz h1 h2 h4 (fun j m z=>by
   rw [gS_set] at m
   split at m
   ·cases m
   ·rename_i hn
    by_cases hij:i=j
    ·subst hij
     exact hn ⟨rfl,gS_lt (by rw [q];rfl)⟩
    ·exact I.dis i j a hij (by rw [q];rfl) m e z)
  have T:=J.tell (i:=i) (d :=.list ds) e (is_lst (SqL.of upd_same) (h5.mono s))
  rw [List.set_set] at T
  exact ⟨_,T,s⟩
end
end L2
namespace L2
open PySem PySem.Spec PyProof.Rows
abbrev WE:=Sto→(PyData→Sto→Prop)→Prop
abbrev WF:=Sto→(List PyData→Sto→Prop)→Prop
abbrev WT:=Sto→(Bool→Sto→Prop)→Prop
inductive Ret where
 | val (d:PyData)
 | own (ds:List PyData)
 | new (d:PyData)
def Ret.data:Ret→PyData
 | .val d=>d
 | .own ds => .list ds
 | .new d=>d
structure WEnds where
 nx:Sto→Prop
 rt:Ret→Sto→Prop
 bk:Sto→Prop:=fun _=>False
 ct:Sto→Prop:=fun _=>False
abbrev WS:=WEnds→Sto→Prop
abbrev WG:=PyData→Sto→(Sto→Prop)→Prop
abbrev WGs:=List PyData→Sto→(Sto→Prop)→Prop
abbrev D2:=PyData→PyData→(PyData→Prop)→Prop
abbrev DC:=List PyData→(PyData→Prop)→Prop
section
variable (K:PySem.W.Frag)
def liftE (W:WE):TE:=fun σ H R => ∃ M env F Q,EnvOk K M F H env σ∧W env Q ∧ ∀ d v F' H' env',EnvOk K M F' H' env' σ→Same F F'→Is K F' d v→Q d env'→R v H'
def liftF (W:WF):TE:=fun σ H R => ∃ M env F Q,EnvOk K M F H env σ∧W env Q ∧ ∀ a vs ds F' H' env',EnvOk K M F' H' env' σ→Same F F'→H' a=some (.lst vs)→F' a=none→M.B a=none→M.He a=none →
 (∀ i,(gS env' i).mut=true→vS σ i≠some (.ref a))→Iss K F' ds vs→Q ds env'→R (.ref a) H'
def liftA (W:WF):TA:=fun σ H R => ∃ M env F Q,EnvOk K M F H env σ∧W env Q ∧ ∀ ds vs F' H' env',EnvOk K M F' H' env' σ→Same F F'→Iss K F' ds vs→Q ds env'→R vs H'
def liftT (W:WT):TT:=fun σ H R => ∃ M env F Q,EnvOk K M F H env σ∧W env Q ∧ ∀ b F' H' env',EnvOk K M F' H' env' σ→Same F F'→Q b env'→R b H'
def RetOk (M:Frm) (F H:Hp):Ret→V→Prop
 | .val d,v=>Is K F d v
 | .own ds,v => ∃ a vs,v = .ref a∧H a=some (.lst vs)∧F a=none∧M.B a=none∧M.He a=none∧Iss K F ds vs
 | .new d,v=>IsN K (newF M F) d v
structure EndsOk (M:Frm) (F:Hp) (DD:WEnds) (D:Ends):Prop where
 nx : ∀ env' F' H' σ',EnvOk K M F' H' env' σ'→Same F F'→DD.nx env'→D.nx σ' H'
 rt : ∀ r v env' F' H' σ',EnvOk K M F' H' env' σ'→Same F F'→RetOk K M F' H' r v→DD.rt r env'→D.rt v H'
 bk : ∀ env' F' H' σ',EnvOk K M F' H' env' σ'→Same F F'→DD.bk env'→D.bk σ' H'
 ct : ∀ env' F' H' σ',EnvOk K M F' H' env' σ'→Same F F'→DD.ct env'→D.ct σ' H'
def liftS (W:WS):TS:=fun D σ H => ∃ M env F DD,EnvOk K M F H env σ∧W DD env∧EndsOk K M F DD D
def liftG (W:WG):TG:=fun v σ H R => ∃ M env F d Q,EnvOk K M F H env σ∧Is K F d v∧W d env Q ∧ ∀ F' H' env' σ',EnvOk K M F' H' env' σ'→Same F F'→Q env'→R σ' H'
def liftGs (W:WGs):TGs:=fun vs σ H R => ∃ M env F ds Q,EnvOk K M F H env σ∧Iss K F ds vs∧W ds env Q ∧ ∀ F' H' env' σ',EnvOk K M F' H' env' σ'→Same F F'→Q env'→R σ' H'
def lift2 (r:D2):R2:=fun x y H Q => ∃ F dx dy q,Same F H∧Is K F dx x∧Is K F dy y∧r dx dy q ∧ ∀ d v F' H',Go F H F' H'→Is K F' d v→q d→Q v H'
def liftC (r:DC):List V→Hp→VK→Prop:=fun vs H Q => ∃ F ds q,Same F H∧Iss K F ds vs∧r ds q ∧ ∀ d v F' H',Go F H F' H'→Is K F' d v→q d→Q v H'
def liftCF (r:List PyData→(List PyData→Prop)→Prop):List V→Hp→VK→Prop:=fun vs H Q => ∃ F ds q,Same F H∧Iss K F ds vs∧r ds q ∧ ∀ l a xs F' H',Go F H F' H'→H a=none→F' a=none→H' a=some (.lst xs)→Iss K F' l xs→q l→Q (.ref a) H'
structure ItD (J:It) (F:Hp) (ds:List PyData):Prop where
 go : ∀ i H,Same F H→i<ds.length→J.go i H
 stop : ∀ H,Same F H→J.stop ds.length H
 yld : ∀ i H x H' F1,Same F F1→Same F1 H→i<ds.length→J.yld i H x H' → ∃ d F2,ds[i]?=some d∧Go F1 H F2 H'∧Is K F2 d x
def liftI (W:WF):TI:=fun σ H R => ∃ M env F Q,EnvOk K M F H env σ∧W env Q ∧ ∀ ds J F' H' env',EnvOk K M F' H' env' σ→Same F F'→ItD K J F' ds→Q ds env'→R J H'
end
section
variable {K:PySem.W.Frag}{M:Frm}{F F':Hp}{DD:WEnds}{D:Ends}
theorem EndsOk.mono (h:EndsOk K M F DD D) (s:Same F F'):EndsOk K M F' DD D :=
 ⟨fun e f g i j k=>h.nx e f g i j (s.trans k),fun r v e f g i j k=>h.rt r v e f g i j (s.trans k),fun e f g i j k=>h.bk e f g i j (s.trans k),fun e f g i j k=>h.ct e f g i j (s.trans k)⟩
end
def VE (X:Cx) (e:Expr) (W:WE):Prop:=PE X e (liftE X.K W)
def VF (X:Cx) (e:Expr) (W:WF):Prop:=PE X e (liftF X.K W)
def VA (X:Cx) (e:List Expr) (W:WF):Prop:=PA X e (liftA X.K W)
def VT (X:Cx) (e:Expr) (W:WT):Prop:=PT X e (liftT X.K W)
def VW (X:Cx) (e:Expr) (W:WT):Prop:=PW X e (liftT X.K W)
theorem VW.pt {X:Cx}{e:Expr}{W:WT} (h:VW X e W):VT X e W:=PW.pt h
def VS (X:Cx) (st:Stmt) (W:WS):Prop:=PS X st (liftS X.K W)
def VSs (X:Cx) (st:List Stmt) (W:WS):Prop:=PSs X st (liftS X.K W)
def VG (X:Cx) (e:Expr) (W:WG):Prop:=PG X e (liftG X.K W)
def VGs (X:Cx) (e:List Expr) (W:WGs):Prop:=PGs X e (liftGs X.K W)
def VI (X:Cx) (tg e:Expr) (W:WF):Prop:=PI X tg e (liftI X.K W)
def OpV (X:Cx) (f:Value→Value→Sem Value) (r:D2):Prop:=OpR X f (lift2 X.K r)
def CallV (X:Cx) (f:Value) (r:DC):Prop:=CallR X f (liftC X.K r)
def CallVF (X:Cx) (f:Value) (r:List PyData→(List PyData→Prop)→Prop):Prop:=CallR X f (liftCF X.K r)
section
variable {X:Cx}
theorem PE.imp {e:Expr}{t t':TE} (h:PE X e t) (i : ∀ σ H Q,t' σ H Q→t σ H Q):PE X e t':=fun pins s σ H Q I q=>h pins s σ H Q I (i σ H Q q)
theorem PA.imp {e:List Expr}{t t':TA} (h:PA X e t) (i : ∀ σ H Q,t' σ H Q→t σ H Q):PA X e t':=fun pos pins s σ H Q I q=>h pos pins s σ H Q I (i σ H Q q)
theorem PT.imp {e:Expr}{t t':TT} (h:PT X e t) (i : ∀ σ H Q,t' σ H Q→t σ H Q):PT X e t':=fun pins s σ H Q I q=>h pins s σ H Q I (i σ H Q q)
theorem PW.imp {e:Expr}{t t':TT} (h:PW X e t) (i : ∀ σ H Q,t' σ H Q→t σ H Q):PW X e t':=fun wh pins s σ H Q I q=>h wh pins s σ H Q I (i σ H Q q)
theorem PS.imp {e:Stmt}{t t':TS} (h:PS X e t) (i : ∀ D σ H,t' D σ H→t D σ H):PS X e t':=fun pins s σ H D I q=>h pins s σ H D I (i D σ H q)
theorem PSs.imp {e:List Stmt}{t t':TS} (h:PSs X e t) (i : ∀ D σ H,t' D σ H→t D σ H):PSs X e t':=fun pins s σ H D I q=>h pins s σ H D I (i D σ H q)
theorem PG.imp {e:Expr}{t t':TG} (h:PG X e t) (i : ∀ v σ H Q,t' v σ H Q→t v σ H Q):PG X e t':=fun pins s σ H v u Q I r q=>h pins s σ H v u Q I r (i v σ H Q q)
theorem PGs.imp {e:List Expr}{t t':TGs} (h:PGs X e t) (i : ∀ v σ H Q,t' v σ H Q→t v σ H Q):PGs X e t':=fun pins s σ H v u Q I r q=>h pins s σ H v u Q I r (i v σ H Q q)
theorem PI.imp {tg e:Expr}{t t':TI} (h:PI X tg e t) (i : ∀ σ H Q,t' σ H Q→t σ H Q):PI X tg e t':=fun pins s σ H Q I q=>h pins s σ H Q I (i σ H Q q)
theorem OpR.imp {f:Value→Value→Sem Value}{r r':R2} (h:OpR X f r) (i : ∀ x y H Q,r' x y H Q→r x y H Q):OpR X f r':=fun pins s σ H x y v u Q I a b q=>h pins s σ H x y v u Q I a b (i x y H Q q)
theorem CallR.imp {f:Value}{r r':List V→Hp→VK→Prop} (h:CallR X f r) (i : ∀ x H Q,r' x H Q→r x H Q):CallR X f r':=fun pins s σ H x u Q I a q=>h pins s σ H x u Q I a (i x H Q q)
theorem IxR.imp {r r':R2} (h:IxR X r) (i : ∀ x y H Q,r' x y H Q→r x y H Q):IxR X r':=fun value slice pins s σ H x y v u Q I a b q=>h value slice pins s σ H x y v u Q I a b (i x y H Q q)
def wVar (i:Nat):WE:=fun env Q=>match gS env i with | .val d=>Q d env | .new d=>Q d env|_=>False
theorem ve_var (i:Nat) {x:Str}{pos:Pos} (hN:X.N[i]?=some x:=by rfl) (hv:Vis X.env.scope x:=by first|exact Or.inl rfl|exact Or.inr (Or.inl rfl)|exact Or.inr (Or.inr rfl)) (hd:(x==("__debug__" : Str))=false:=by decide)
 (hcd:(x==("__classdict__" : Str))=false:=by decide):VE X (.Name x pos) (wVar i):=(pe_var hN hv hd hcd).imp fun σ H R xx55=>by
 obtain ⟨M,env,F,Q,I,h,k⟩:=xx55
 have S:=I.slot i
 unfold wVar at h
 cases q:gS env i with
 | val d =>
  rw [q] at S h
  obtain ⟨v,e,j⟩:=S
  exact ⟨v,vS_some e,k d v F H env I (.refl _) j h⟩
 | new d =>
  rw [q] at S h
  obtain ⟨v,e,j⟩:=S
  exact ⟨v,vS_some e,k d v F H env I (.refl _) (j.is newF_le) h⟩
 | non=>rw [q] at h;exact h.elim
 | own ds=>rw [q] at h;exact h.elim
 | pen ds=>rw [q] at h;exact h.elim
 | exc C=>rw [q] at h;exact h.elim
 | obj a0 C nm fs=>rw [q] at h;exact h.elim
def wC (d:PyData):WE:=fun env Q=>Q d env
theorem ve_c {e:Expr}{v:V}{d:PyData} (h:PE X e (tC v)) (i : ∀ F,Is X.K F d v):VE X e (wC d):=h.imp fun σ H R xx56=>by obtain ⟨M,env,F,Q,I,h,k⟩:=xx56;exact k d v F H env I (.refl _) (i F) h
theorem ve_int {i j pos}:VE X (.Constant (.int i) j pos) (wC (.int i)):=ve_c pe_int fun _=>is_int i
theorem ve_bl {b j pos}:VE X (.Constant (.bool b) j pos) (wC (.bool b)):=ve_c pe_bl fun _=>is_bl b
theorem ve_str {x j pos}:VE X (.Constant (.str x) j pos) (wC (.str x)):=ve_c pe_str fun _=>is_str x
theorem ve_globI {x:Str}{i:Int}{pos:Pos} (h : ∃ t,X.mg x=some (.int i t)) (hg:Gl X x:=by rfl) (hd:(x==("__debug__" : Str))=false:=by decide):VE X (.Name x pos) (wC (.int i)):=by
 obtain ⟨t,hm⟩:=h
 exact ve_c (pe_glob (v :=.int i) hg hm ⟨t,rfl⟩ hd) fun _=>is_int i
def wOp (r:D2) (Wa Wb:WE):WE:=fun env Q=>Wa env fun x e1=>Wb e1 fun y e2=>r x y fun d=>Q d e2
theorem op_lift {r:D2}{Wa Wb:WE}{σ:St}{H:Hp}{R:VK} (h:liftE X.K (wOp r Wa Wb) σ H R):tOp (lift2 X.K r) (liftE X.K Wa) (liftE X.K Wb) σ H R:=by
 obtain ⟨M,env,F,Q,I,h,k⟩:=h
 exact ⟨M,env,F,_,I,h,fun d v F1 H1 e1 I1 s1 i1 h1=>⟨M,e1,F1,_,I1,h1,fun d2 v2 F2 H2 e2 I2 s2 i2 h2 =>
  ⟨F2,d,d2,_,I2.fh,i1.mono s2,i2,h2,fun d3 v3 F3 H3 g i3 q=>k d3 v3 F3 H3 e2 (I2.go g) (s1.trans (s2.trans g.f)) i3 q⟩⟩⟩
section
variable {a b c:Expr}{Wa Wb Wc:WE}{pos:Pos}
theorem ve_op {op:Operator}{r:D2} (ho:OpV X (binaryOp op) r) (ha:VE X a Wa) (hb:VE X b Wb):VE X (.BinOp a op b pos) (wOp r Wa Wb) :=
 (pe_op ho ha hb).imp fun _ _ _ h=>op_lift h
theorem ve_cmp {op:CmpOp}{r:D2} (ho:OpV X (compareOp op) r) (ha:VE X a Wa) (hb:VE X b Wb) (hm:behindInMarks op b=false:=by first|exact nomark _|with_unfolding_all rfl):VE X (.Compare a [op] [b] pos) (wOp r Wa Wb) :=
 (pe_cmpR ho ha hb hm).imp fun _ _ _ h=>op_lift h
def wTest (W:WE):WT:=fun env Q=>W env fun d e=>match d with | .bool b=>Q b e|_=>False
theorem test_lift {W:WE}{σ:St}{H:Hp}{R:Bool→Hp→Prop} (h:liftT X.K (wTest W) σ H R):liftE X.K W σ H fun x H' => ∃ k,x = .bl k∧R k H':=by
 obtain ⟨M,env,F,Q,I,h,k⟩:=h
 refine ⟨M,env,F,_,I,h,fun d v F1 H1 e1 I1 s1 i1 h1=>?_⟩
 cases d with
 | bool b=>exact ⟨b,i1.bl_inv,k b F1 H1 e1 I1 s1 h1⟩
 | _=>exact False.elim h1
theorem vt_cmp {op:CmpOp}{r:D2} (ho:OpV X (compareOp op) r) (ha:VE X a Wa) (hb:VE X b Wb) (hm:behindInMarks op b=false:=by first|exact nomark _|with_unfolding_all rfl):VT X (.Compare a [op] [b] pos) (wTest (wOp r Wa Wb)) :=
 (pt_cmpR ho ha hb hm).imp fun σ H R h=>op_lift (test_lift h)
theorem vt_val {e:Expr}{W:WE} (h:VE X e W) (he : ∀ whole,isTrue e X.env whole=(do let v ← whole;standAt e.pos;holding [v] (truthy v)):=by intro _;rfl):VT X e (wTest W) :=
 (pt_val h he).imp fun σ H R h=>test_lift h
def wChain (r r':D2) (Wa Wb Wc:WE):WE:=fun env Q=>Wa env fun x e1=>Wb e1 fun y e2=>r x y fun z=>match z with
 | .bool k=>if k=true then Wc e2 fun w e3=>r' y w fun d=>Q d e3 else Q (.bool false) e2
 | _=>False
theorem chain_lift {r r':D2}{σ:St}{H:Hp}{R:VK} (h:liftE X.K (wChain r r' Wa Wb Wc) σ H R):tChain (lift2 X.K r) (lift2 X.K r') (liftE X.K Wa) (liftE X.K Wb) (liftE X.K Wc) σ H R:=by
 obtain ⟨M,env,F,Q,I,h,k⟩:=h
 refine ⟨M,env,F,_,I,h,fun d v F1 H1 e1 I1 s1 i1 h1=>⟨M,e1,F1,_,I1,h1,fun d2 v2 F2 H2 e2 I2 s2 i2 h2=>⟨F2,d,d2,_,I2.fh,i1.mono s2,i2,h2,fun d3 v3 F3 H3 g i3 q=>?_⟩⟩⟩
 have I3:=I2.go g
 have s3:=s1.trans (s2.trans g.f)
 cases d3 with
 | bool b =>
  refine ⟨b,i3.bl_inv,?_⟩
  cases b with
  | false=>exact iteF (k _ _ F3 H3 e2 I3 s3 (is_bl false) q)
  | true=>exact iteT ⟨M,e2,F3,_,I3,q,fun d4 v4 F4 H4 e4 I4 s4 i4 h4=>⟨F4,d2,d4,_,I4.fh,(i2.mono g.f).mono s4,i4,h4,fun d5 v5 F5 H5 g5 i5 q5=>k d5 v5 F5 H5 e4 (I4.go g5) (s3.trans (s4.trans g5.f)) i5 q5⟩⟩
 | _=>exact False.elim q
theorem vt_chain {op op':CmpOp}{r r':D2} (ho:OpV X (compareOp op) r) (ho':OpV X (compareOp op') r') (ha:VE X a Wa) (hb:VE X b Wb) (hc:VE X c Wc)
 (hm:lastMarks [op,op'] [b,c]=false:=by with_unfolding_all rfl):VT X (.Compare a [op,op'] [b,c] pos) (wTest (wChain r r' Wa Wb Wc)):=(pt_chain ho ho' ha hb hc hm).imp fun _ _ _ h=>chain_lift (test_lift h)
end
section
variable {a b c:Expr}{Wa Wb Wc:WE}{Ta Tb Tc:WT}{pos:Pos}{rest:List Expr}
def wOr (t u:WT):WT:=fun env Q=>t env fun k e=>if k=true then Q true e else u e Q
def wNot (t:WT):WT:=fun env Q=>t env fun k e=>Q (!k) e
theorem vw_or1 (ha:VT X a Ta):VW X (.BoolOp .Or [a] pos) Ta:=pw_or1 ha
theorem vw_or (ha:VT X a Ta) (hb:VW X (.BoolOp .Or (b::rest) pos) Tb):VW X (.BoolOp .Or (a::b::rest) pos) (wOr Ta Tb):=(pw_or ha hb).imp fun σ H R xx57=>by
 obtain ⟨M,env,F,Q,I,h,k⟩:=xx57
 refine ⟨M,env,F,_,I,h,fun x F1 H1 e1 I1 s1 h1=>?_⟩
 cases x with
 | true=>exact iteT (k true F1 H1 e1 I1 s1 h1)
 | false=>exact iteF ⟨M,e1,F1,Q,I1,h1,fun y F2 H2 e2 I2 s2 h2=>k y F2 H2 e2 I2 (s1.trans s2) h2⟩
theorem vt_not (ha:VT X a Ta):VT X (.UnaryOp .Not a pos) (wNot Ta):=(pt_not ha).imp fun σ H R xx58=>by
 obtain ⟨M,env,F,Q,I,h,k⟩:=xx58
 exact ⟨M,env,F,_,I,h,fun x F1 H1 e1 I1 s1 h1=>k (!x) F1 H1 e1 I1 s1 h1⟩
def wAndV (Wa Wb:WE):WE:=fun env Q=>Wa env fun d e=>match d with | .bool k=>if k=true then Wb e Q else Q (.bool false) e|_=>False
def wOrV (Wa Wb:WE):WE:=fun env Q=>Wa env fun d e=>match d with | .bool k=>if k=true then Q (.bool true) e else Wb e Q|_=>False
def wNotV (Wa:WE):WE:=fun env Q=>Wa env fun d e=>match d with | .bool k=>Q (.bool (!k)) e|_=>False
theorem ve_one {op} (h:VE X a Wa):VE X (.BoolOp op [a] pos) Wa:=pe_one h
theorem ve_and (ha:VE X a Wa) (hb:VE X (.BoolOp .And (b::rest) pos) Wb):VE X (.BoolOp .And (a::b::rest) pos) (wAndV Wa Wb):=(pe_and ha hb).imp fun σ H R xx59=>by
 obtain ⟨M,env,F,Q,I,h,k⟩:=xx59
 refine ⟨M,env,F,_,I,h,fun d v F1 H1 e1 I1 s1 i1 h1=>?_⟩
 cases d with
 | bool x =>
  refine ⟨x,i1.bl_inv,?_⟩
  cases x with
  | true=>exact iteT ⟨M,e1,F1,Q,I1,h1,fun d2 v2 F2 H2 e2 I2 s2 i2 h2=>k d2 v2 F2 H2 e2 I2 (s1.trans s2) i2 h2⟩
  | false=>exact iteF (k _ _ F1 H1 e1 I1 s1 (is_bl false) h1)
 | _=>exact False.elim h1
theorem ve_or (ha:VE X a Wa) (hb:VE X (.BoolOp .Or (b::rest) pos) Wb):VE X (.BoolOp .Or (a::b::rest) pos) (wOrV Wa Wb):=(pe_or ha hb).imp fun σ H R xx60=>by
 obtain ⟨M,env,F,Q,I,h,k⟩:=xx60
 refine ⟨M,env,F,_,I,h,fun d v F1 H1 e1 I1 s1 i1 h1=>?_⟩
 cases d with
 | bool x =>
  refine ⟨x,i1.bl_inv,?_⟩
  cases x with
  | false=>exact iteF ⟨M,e1,F1,Q,I1,h1,fun d2 v2 F2 H2 e2 I2 s2 i2 h2=>k d2 v2 F2 H2 e2 I2 (s1.trans s2) i2 h2⟩
  | true=>exact iteT (k _ _ F1 H1 e1 I1 s1 (is_bl true) h1)
 | _=>exact False.elim h1
theorem ve_not (ha:VE X a Wa):VE X (.UnaryOp .Not a pos) (wNotV Wa):=(pe_not ha).imp fun σ H R xx61=>by
 obtain ⟨M,env,F,Q,I,h,k⟩:=xx61
 refine ⟨M,env,F,_,I,h,fun d v F1 H1 e1 I1 s1 i1 h1=>?_⟩
 cases d with
 | bool x=>exact ⟨x,i1.bl_inv,k _ _ F1 H1 e1 I1 s1 (is_bl _) h1⟩
 | _=>exact False.elim h1
def wIfE (t:WT) (Wa Wb:WE):WE:=fun env Q=>t env fun k e=>if k=true then Wa e Q else Wb e Q
theorem ve_ifExp (hc:VT X c Tc) (ha:VE X a Wa) (hb:VE X b Wb):VE X (.IfExp c a b pos) (wIfE Tc Wa Wb):=(pe_ifExp hc ha hb).imp fun σ H R xx62=>by
 obtain ⟨M,env,F,Q,I,h,k⟩:=xx62
 refine ⟨M,env,F,_,I,h,fun x F1 H1 e1 I1 s1 h1=>?_⟩
 cases x with
 | true=>exact iteT ⟨M,e1,F1,Q,I1,h1,fun d2 v2 F2 H2 e2 I2 s2 i2 h2=>k d2 v2 F2 H2 e2 I2 (s1.trans s2) i2 h2⟩
 | false=>exact iteF ⟨M,e1,F1,Q,I1,h1,fun d2 v2 F2 H2 e2 I2 s2 i2 h2=>k d2 v2 F2 H2 e2 I2 (s1.trans s2) i2 h2⟩
end
section
variable {a b:Expr}{Wa Wb:WE}{pos p2:Pos}
def wUn (r:PyData→(PyData→Prop)→Prop) (W:WE):WE:=fun env Q=>W env fun d e=>r d fun y=>Q y e
def dNeg:PyData→(PyData→Prop)→Prop
 | .int i,q=>q (.int (-i))
 | _,_=>False
theorem ve_neg (ha:VE X a Wa):VE X (.UnaryOp .USub a pos) (wUn dNeg Wa):=(pe_un un_neg ha).imp fun σ H R xx63=>by
 obtain ⟨M,env,F,Q,I,h,k⟩:=xx63
 refine ⟨M,env,F,_,I,h,fun d v F1 H1 e1 I1 s1 i1 h1=>?_⟩
 cases d with
 | int i=>exact ⟨i,i1.int_inv,k _ _ F1 H1 e1 I1 s1 (is_int _) h1⟩
 | _=>exact False.elim h1
def dIx:D2
 | .list l,.int i,q => ∃ d,atI l i=some d∧q d
 | .tuple l,.int i,q => ∃ d,atI l i=some d∧q d
 | _,_,_=>False
theorem ix_V:IxR X (lift2 X.K dIx):=ix_seq.imp fun x y H Q xx64=>by
 obtain ⟨F,dx,dy,q,s,i1,i2,h,k⟩:=xx64
 cases dx with
 | list l=>cases dy with
  | int i =>
   obtain ⟨d,e,hq⟩:=h
   obtain ⟨a,xs,rfl,hs,hr⟩:=i1.lst_inv
   obtain ⟨z,ez,hz⟩:=hr.atI e
   exact .inl ⟨a,xs,i,z,rfl,i2.int_inv,s.seq hs,ez,k d z F H (.refl s) hz hq⟩
  | _=>exact False.elim h
 | tuple l=>cases dy with
  | int i =>
   obtain ⟨d,e,hq⟩:=h
   obtain ⟨a,xs,rfl,hs,hr⟩:=i1.tup_inv
   obtain ⟨z,ez,hz⟩:=hr.atI e
   exact .inr (.inl ⟨a,xs,i,z,rfl,i2.int_inv,same_seqT s hs,ez,k d z F H (.refl s) hz hq⟩)
  | _=>exact False.elim h
 | _=>exact False.elim h
theorem ve_ix (ha:VE X a Wa) (hb:VE X b Wb) (hs:PlainIx b:=by exact (fun _ _=>rfl)):VE X (.Subscript a b pos) (wOp dIx Wa Wb):=(pe_ix ix_V ha hb hs).imp fun _ _ _ h=>op_lift h
abbrev WO:=Sto→(Option Int→Sto→Prop)→Prop
def liftO (K:PySem.W.Frag) (W:WO):TO:=fun σ H R => ∃ M env F Q,EnvOk K M F H env σ∧W env Q ∧ ∀ o F' H' env',EnvOk K M F' H' env' σ→Same F F'→Q o env'→R o H'
def wNoPart:WO:=fun env Q=>Q none env
def wPart (W:WE):WO:=fun env Q=>W env fun d e=>match d with | .int i=>Q (some i) e|_=>False
def VO (X:Cx) (e:Option Expr) (W:WO):Prop:=PO X e (liftO X.K W)
theorem PO.imp {e:Option Expr}{t t':TO} (h:PO X e t) (i : ∀ σ H Q,t' σ H Q→t σ H Q):PO X e t':=fun pins s σ H Q I q=>h pins s σ H Q I (i σ H Q q)
theorem vo_none:VO X none wNoPart:=po_none.imp fun σ H R xx65=>by obtain ⟨M,env,F,Q,I,h,k⟩:=xx65;exact k none F H env I (.refl _) h
theorem vo_some (ha:VE X a Wa):VO X (some a) (wPart Wa):=(po_some ha).imp fun σ H R xx66=>by
 obtain ⟨M,env,F,Q,I,h,k⟩:=xx66
 refine ⟨M,env,F,_,I,h,fun d v F1 H1 e1 I1 s1 i1 h1=>?_⟩
 cases d with
 | int i=>exact ⟨i,i1.int_inv,k (some i) F1 H1 e1 I1 s1 h1⟩
 | _=>exact False.elim h1
end
def wL (W:WF):WE:=fun env Q=>W env fun ds e=>Q (.list ds) e
theorem vf_fz {e:Expr}{W:WF} (h:VF X e W):VE X e (wL W):=h.imp fun σ H R xx67=>by
 obtain ⟨M,env,F,Q,I,h,k⟩:=xx67
 refine ⟨M,env,F,_,I,h,fun a vs ds F1 H1 e1 I1 s1 h1 h2 h3 h4 h5 h6 h7=>?_⟩
 obtain ⟨J,s⟩:=I1.frz h1 h2 h4 h5
 exact k _ _ _ H1 e1 J (s1.trans s) (is_lst (SqL.of upd_same) (h6.mono s)) h7
theorem fresh_apart {K:PySem.W.Frag}{M:Frm}{F H:Hp}{env:Sto}{σ:St} (I:EnvOk K M F H env σ) {p:Addr} (hp:H p=none) : ∀ i,(gS env i).mut=true→vS σ i≠some (.ref p):=fun i m z=>by
 obtain ⟨b,vs,e,q,_⟩:=(I.slot i).addr m
 rw [z] at e;injection e with e;injection e with e;subst e
 rw [hp] at q;cases q
theorem new_lst {K:PySem.W.Frag}{M:Frm}{F H:Hp}{env:Sto}{σ:St}{R:VK}{Q:List PyData→Sto→Prop}{F0:Hp}{l:List PyData}{xs:List V} (I:EnvOk K M F H env σ) (s:Same F0 F) (hi:Iss K F l xs) (h:Q l env)
 (k : ∀ a vs ds F' H' env',EnvOk K M F' H' env' σ→Same F0 F'→H' a=some (.lst vs)→F' a=none→M.B a=none→M.He a=none→(∀ i,(gS env' i).mut=true→vS σ i≠some (.ref a))→Iss K F' ds vs→Q ds env'→R (.ref a) H') :
 ∀ p,H p=none→R (.ref p) (upd H p (.lst xs)):=fun p hp =>
  k p xs l F _ env (I.go (.side I.fh hp)) s upd_same (same_none I.fh hp) (same_none I.bh hp) (I.he hp) (fresh_apart I hp) hi h
section
variable {e:Expr}{es:List Expr}{W:WE}{Wr:WF}{pos:Pos}
def wNil:WF:=fun env Q=>Q [] env
def wCons (W:WE) (Wr:WF):WF:=fun env Q=>W env fun d e1=>Wr e1 fun ds e2=>Q (d::ds) e2
theorem va_nil:VA X [] wNil:=pa_nil.imp fun σ H R xx68=>by obtain ⟨M,env,F,Q,I,h,k⟩:=xx68;exact k [] [] F H env I (.refl _) iss_nil h
theorem va_cons (ha:VE X e W) (hr:VA X es Wr) (hs:starEach (e::es) X.env=(false,eval e X.env)::starEach es X.env:=by rfl):VA X (e::es) (wCons W Wr) :=
 (pa_cons ha hr hs).imp fun σ H R xx69=>by obtain ⟨M,env,F,Q,I,h,k⟩:=xx69;exact ⟨M,env,F,_,I,h,fun d v F1 H1 e1 I1 s1 i1 h1=>⟨M,e1,F1,_,I1,h1,fun ds vs F2 H2 e2 I2 s2 i2 h2=>k (d::ds) (v::vs) F2 H2 e2 I2 (s1.trans s2) (iss_cons (i1.mono s2) i2) h2⟩⟩
def wTup (Wr:WF):WE:=fun env Q=>Wr env fun ds e=>ds.length≤sizeLine∧Q (.tuple ds) e
theorem ve_tup {x1} (h:VA X es Wr):VE X (.Tuple es x1 pos) (wTup Wr):=(pe_tup h).imp fun σ H R xx70=>by
 obtain ⟨M,env,F,Q,I,h,k⟩:=xx70
 refine ⟨M,env,F,_,I,h,fun ds vs F1 H1 e1 I1 s1 i1 h1=>⟨by rw [i1.len];exact h1.1,fun p hp=>?_⟩⟩
 have g:=Go.put (o:=HO.tup vs) I1.fh hp
 exact k _ _ _ _ e1 (I1.go g) (s1.trans g.f) (is_tup (SqT.of upd_same) (i1.mono g.f)) h1.2
def wLst (Wr:WF):WF:=fun env Q=>Wr env fun ds e=>ds.length≤sizeLine∧Q ds e
theorem vf_lst (h:VA X es Wr):VF X (.List es pos) (wLst Wr):=(pe_lst h).imp fun σ H R xx71=>by
 obtain ⟨M,env,F,Q,I,h,k⟩:=xx71
 exact ⟨M,env,F,_,I,h,fun ds vs F1 H1 e1 I1 s1 i1 h1=>⟨by rw [i1.len];exact h1.1,new_lst I1 s1 i1 h1.2 k⟩⟩
end
end
end L2
namespace L2
open PySem PySem.Spec PyProof.Rows
section
variable {X:Cx}
def dI2 (g:Int→Int→(PyData→Prop)→Prop):D2
 | .int i,.int j,q=>g i j q
 | _,_,_=>False
theorem i2_of {g:Int→Int→(PyData→Prop)→Prop}{x y:PyData}{q:PyData→Prop} (h:dI2 g x y q) : ∃ i j,x = .int i∧y = .int j∧g i j q:=by
 cases x with
 | int i=>cases y with
  | int j=>exact ⟨i,j,rfl,rfl,h⟩
  | _=>exact False.elim h
 | _=>exact False.elim h
theorem opI_V {f:Value→Value→Sem Value}{C:Int→Int→Prop}{g:Int→Int→PyData}{gv:Int→Int→V} (h:OpR X f (rI C gv)) (hg : ∀ i j F,Is X.K F (g i j) (gv i j)):OpV X f (dI2 fun i j q=>C i j∧q (g i j)):=h.imp fun x y H Q xx72=>by
 obtain ⟨F,dx,dy,q,s,i1,i2,h,k⟩:=xx72
 obtain ⟨i,j,rfl,rfl,c,hq⟩:=i2_of h
 exact ⟨i,j,i1.int_inv,i2.int_inv,c,k _ _ F H (.refl s) (hg i j F) hq⟩
theorem opI0_V {f:Value→Value→Sem Value}{g:Int→Int→PyData}{gv:Int→Int→V} (h:OpR X f (rI0 gv)) (hg : ∀ i j F,Is X.K F (g i j) (gv i j)):OpV X f (dI2 fun i j q=>q (g i j)):=h.imp fun x y H Q xx73=>by
 obtain ⟨F,dx,dy,q,s,i1,i2,h,k⟩:=xx73
 obtain ⟨i,j,rfl,rfl,hq⟩:=i2_of h
 exact ⟨i,j,i1.int_inv,i2.int_inv,k _ _ F H (.refl s) (hg i j F) hq⟩
abbrev dSub:D2:=dI2 fun i j q=>q (.int (i-j))
abbrev dMulI:D2:=dI2 fun i j q=>IntMulOk i j∧q (.int (i*j))
abbrev dFdiv:D2:=dI2 fun i j q=>CDivB i j∧q (.int (i.fdiv j))
abbrev dDiv:D2:=dI2 fun i j q=>(0<j∧Builtin.Int.intBits j≤9000)∧q (.int (i/j))
abbrev dMod:D2:=dI2 fun i j q=>0<j∧q (.int (i%j))
abbrev dPow:D2:=dI2 fun i j q=>CPow i j∧q (.int (i^j.toNat))
abbrev dLt:D2:=dI2 fun i j q=>q (.bool (decide (i<j)))
abbrev dLe:D2:=dI2 fun i j q=>q (.bool (decide (i≤j)))
abbrev dGt:D2:=dI2 fun i j q=>q (.bool (decide (j<i)))
abbrev dGe:D2:=dI2 fun i j q=>q (.bool (decide (j≤i)))
theorem o_sub:OpV X (binaryOp .Sub) dSub:=opI0_V op_sub fun _ _ _=>is_int _
theorem o_mulI:OpV X (binaryOp .Mult) dMulI:=opI_V op_mulB fun _ _ _=>is_int _
theorem o_fdiv:OpV X (binaryOp .FloorDiv) dFdiv:=opI_V op_fdivB fun _ _ _=>is_int _
theorem op_divP:OpR X (binaryOp .FloorDiv) (rI (fun _ j=>0<j∧Builtin.Int.intBits j≤9000) fun i j => .int (i/j)):=op_fdivB.imp fun x y H Q xx74=>by
 obtain ⟨i,j,e1,e2,c,q⟩:=xx74
 exact ⟨i,j,e1,e2,⟨by have:=c.1;omega,c.2⟩,by show Q (V.int (i.fdiv j)) H;rw [Int.fdiv_eq_ediv_of_nonneg _ (Int.le_of_lt c.1)];exact q⟩
theorem o_div:OpV X (binaryOp .FloorDiv) dDiv:=opI_V op_divP fun _ _ _=>is_int _
theorem o_mod:OpV X (binaryOp .Mod) dMod:=opI_V op_mod fun _ _ _=>is_int _
theorem o_pow:OpV X (binaryOp .Pow) dPow:=opI_V op_pow fun _ _ _=>is_int _
theorem o_lt:OpV X (compareOp .Lt) dLt:=opI0_V op_lt fun _ _ _=>is_bl _
theorem o_le:OpV X (compareOp .LtE) dLe:=opI0_V op_le fun _ _ _=>is_bl _
theorem o_gt:OpV X (compareOp .Gt) dGt:=opI0_V op_gt fun _ _ _=>is_bl _
theorem o_ge:OpV X (compareOp .GtE) dGe:=opI0_V op_ge fun _ _ _=>is_bl _
def dEq:D2:=fun d e q=>SeqAt.shaped d=true∧SeqAt.shaped e=true∧q (.bool (PyData.eqv d e))
def dNe:D2:=fun d e q=>SeqAt.shaped d=true∧SeqAt.shaped e=true∧q (.bool (!PyData.eqv d e))
theorem o_eq (hu:X.A.units+64<cLine):OpV X (compareOp .Eq) dEq:=(op_eqD hu).imp fun x y H Q xx75=>by
 obtain ⟨F,dx,dy,q,s,i1,i2,h,k⟩:=xx75
 exact ⟨dx,dy,i1.mono s,i2.mono s,h.1,h.2.1,k _ _ F H (.refl s) (is_bl _) h.2.2⟩
theorem o_ne (hu:X.A.units+64<cLine):OpV X (compareOp .NotEq) dNe:=(op_neD hu).imp fun x y H Q xx76=>by
 obtain ⟨F,dx,dy,q,s,i1,i2,h,k⟩:=xx76
 exact ⟨dx,dy,i1.mono s,i2.mono s,h.1,h.2.1,k _ _ F H (.refl s) (is_bl _) h.2.2⟩
def dAdd:D2
 | .int i,.int j,q=>q (.int (i+j))
 | .list l,.list m,q=>l.length+m.length≤sizeLine∧q (.list (l++m))
 | .tuple l,.tuple m,q=>l≠[]∧l.length+m.length≤sizeLine∧q (.tuple (l++m))
 | .str x,.str y,q=>x.length+y.length≤sizeLine∧q (.str (x++y))
 | _,_,_=>False
theorem o_add:OpV X (binaryOp .Add) dAdd:=by
 rintro pins s σ H x y v u Q I rx ry ⟨F,dx,dy,q,sm,i1,i2,h,k⟩
 cases dx with
 | int i=>cases dy with
  | int j=>exact op_add pins s σ H x y v u Q I rx ry ⟨i,j,i1.int_inv,i2.int_inv,k _ _ F H (.refl sm) (is_int _) h⟩
  | _=>exact False.elim h
 | list l=>cases dy with
  | list m =>
   obtain ⟨a,xs,rfl,hs,hr⟩:=i1.lst_inv
   obtain ⟨b,ys,rfl,ht,hq⟩:=i2.lst_inv
   refine op_catS pins s σ H _ _ v u Q I rx ry ⟨a,b,xs,ys,rfl,rfl,sm.seq hs,sm.seq ht,by rw [hr.len,hq.len];exact h.1,fun p hp=>?_⟩
   have g:=Go.put (o:=HO.lst (xs++ys)) sm hp
   exact k _ _ _ _ g (is_lst (SqL.of upd_same) ((iss_append hr hq).mono g.f)) h.2
  | _=>exact False.elim h
 | tuple l=>cases dy with
  | tuple m =>
   obtain ⟨a,xs,rfl,hs,hr⟩:=i1.tup_inv
   obtain ⟨b,ys,rfl,ht,hq⟩:=i2.tup_inv
   refine op_catT pins s σ H _ _ v u Q I rx ry ⟨a,b,xs,ys,rfl,rfl,same_seqT sm hs,same_seqT sm ht,fun z=>h.1 (List.length_eq_zero_iff.mp (by rw [← hr.len,z];rfl)),by rw [hr.len,hq.len];exact h.2.1,fun z=>?_,fun _ p hp=>?_⟩
   ·have hm:m=[]:=List.length_eq_zero_iff.mp (by rw [← hq.len,z];rfl)
    subst hm
    refine k _ _ F H (.refl sm) i1 ?_
    have:=h.2.2;rw [List.append_nil] at this;exact this
   ·have g:=Go.put (o:=HO.tup (xs++ys)) sm hp
    exact k _ _ _ _ g (is_tup (SqT.of upd_same) ((iss_append hr hq).mono g.f)) h.2.2
  | _=>exact False.elim h
 | str x0=>cases dy with
  | str y0 =>
   unfold Is at i1 i2
   exact op_add_str pins s σ H x y v u Q I rx ry ⟨x0,y0,i1,i2,h.1,k _ _ F H (.refl sm) (is_str _) h.2⟩
  | _=>exact False.elim h
 | _=>exact False.elim h
def wCat (Wa Wb:WE):WF:=fun env Q=>Wa env fun x e1=>Wb e1 fun y e2=>match x,y with
 | .list l,.list m=>l.length+m.length≤sizeLine∧Q (l++m) e2
 | _,_=>False
theorem vf_cat {a b:Expr}{Wa Wb:WE}{pos:Pos} (ha:VE X a Wa) (hb:VE X b Wb):VF X (.BinOp a .Add b pos) (wCat Wa Wb):=(pe_op op_catS ha hb).imp fun σ H R xx77=>by
 obtain ⟨M,env,F,Q,I,h,k⟩:=xx77
 refine ⟨M,env,F,_,I,h,fun d v F1 H1 e1 I1 s1 i1 h1=>⟨M,e1,F1,_,I1,h1,fun d2 v2 F2 H2 e2 I2 s2 i2 h2=>?_⟩⟩
 cases d with
 | list l=>cases d2 with
  | list m =>
   obtain ⟨a,xs,rfl,hs,hr⟩:=(i1.mono s2).lst_inv
   obtain ⟨b,ys,rfl,ht,hq⟩:=i2.lst_inv
   exact ⟨a,b,xs,ys,rfl,rfl,I2.fh.seq hs,I2.fh.seq ht,by rw [hr.len,hq.len];exact h2.1,new_lst I2 (s1.trans s2) (iss_append hr hq) h2.2 k⟩
  | _=>exact False.elim h2
 | _=>exact False.elim h2
section
variable {x:Str}{p pos:Pos}{e:Expr}{es:List Expr}{Wr:WF}{id T:String}{r:DC}{rf:List PyData→(List PyData→Prop)→Prop}
def wCall (r:DC) (Wr:WF):WE:=fun env Q=>Wr env fun ds e=>r ds fun d=>Q d e
def wCallF (r:List PyData→(List PyData→Prop)→Prop) (Wr:WF):WF:=fun env Q=>Wr env fun ds e=>r ds fun l=>Q l e
theorem call_lift {σ:St}{H:Hp}{R:VK} (h:liftE X.K (wCall r Wr) σ H R):liftA X.K Wr σ H fun vs H1=>liftC X.K r vs H1 R:=by
 obtain ⟨M,env,F,Q,I,h,k⟩:=h
 exact ⟨M,env,F,_,I,h,fun ds vs F1 H1 e1 I1 s1 i1 h1=>⟨F1,ds,_,I1.fh,i1,h1,fun d v F2 H2 g i2 q=>k d v F2 H2 e1 (I1.go g) (s1.trans g.f) i2 q⟩⟩
theorem callF_lift {σ:St}{H:Hp}{R:VK} (h:liftF X.K (wCallF rf Wr) σ H R):liftA X.K Wr σ H fun vs H1=>liftCF X.K rf vs H1 R:=by
 obtain ⟨M,env,F,Q,I,h,k⟩:=h
 refine ⟨M,env,F,_,I,h,fun ds vs F1 H1 e1 I1 s1 i1 h1=>⟨F1,ds,_,I1.fh,i1,h1,fun l a xs F2 H2 g ha hf hh hi q=>?_⟩⟩
 exact k a xs l F2 H2 e1 (I1.go g) (s1.trans g.f) hh hf (same_none I1.bh ha) (I1.he ha) (fresh_apart I1 ha) hi q
theorem ve_callB (hc:CallV X (.builtin id) r) (hm:X.mg x=none) (hv:bootBuiltins x=some (.builtin id)) (ha:VA X (e::es) Wr) (hg:Gl X x:=by rfl) (hn:x ≠ "__name__":=by decide) (hdb:(x==("__debug__" : Str))=false:=by decide)
 (he:starEach (e::es) X.env=(false,eval e X.env)::starEach es X.env:=by rfl) (hpl:(backTo pos (starEach es X.env)).any (·.1)=false:=by rfl):VE X (.Call (.Name x p) (e::es) [] pos) (wCall r Wr) :=
 (pe_callB hc hg hm hv ha hn hdb he hpl).imp fun _ _ _ h=>call_lift h
theorem ve_callTy (hc:CallV X (.type T) r) (hm:X.mg x=none) (hv:bootBuiltins x=some (.type T)) (ha:VA X (e::es) Wr) (hg:Gl X x:=by rfl) (hn:x ≠ "__name__":=by decide) (hdb:(x==("__debug__" : Str))=false:=by decide)
 (he:starEach (e::es) X.env=(false,eval e X.env)::starEach es X.env:=by rfl) (hpl:(backTo pos (starEach es X.env)).any (·.1)=false:=by rfl):VE X (.Call (.Name x p) (e::es) [] pos) (wCall r Wr) :=
 (pe_callTy hc hg hm hv ha hn hdb he hpl).imp fun _ _ _ h=>call_lift h
theorem vf_callB (hc:CallVF X (.builtin id) rf) (hm:X.mg x=none) (hv:bootBuiltins x=some (.builtin id)) (ha:VA X (e::es) Wr) (hg:Gl X x:=by rfl) (hn:x ≠ "__name__":=by decide) (hdb:(x==("__debug__" : Str))=false:=by decide)
 (he:starEach (e::es) X.env=(false,eval e X.env)::starEach es X.env:=by rfl) (hpl:(backTo pos (starEach es X.env)).any (·.1)=false:=by rfl):VF X (.Call (.Name x p) (e::es) [] pos) (wCallF rf Wr) :=
 (pe_callB hc hg hm hv ha hn hdb he hpl).imp fun _ _ _ h=>callF_lift h
def PSp (K:PySem.W.Frag) (sp:DC):Sp:=fun vs H Q _=>liftC K sp vs H Q
def FSp (K:PySem.W.Frag) (sp:List PyData→(List PyData→Prop)→Prop):Sp:=fun vs H Q _=>liftCF K sp vs H Q
theorem ve_fn {k:Nat}{ps:List Str}{sp:DC} (O:OkC X x k ps (PSp X.K sp)) (hr:Room k X.A) (ha:VA X (e::es) Wr) (hg:Gl X x:=by rfl) (hdb:(x==("__debug__" : Str))=false:=by decide)
 (he:starEach (e::es) X.env=(false,eval e X.env)::starEach es X.env:=by rfl) (hpl:(backTo pos (starEach es X.env)).any (·.1)=false:=by rfl):VE X (.Call (.Name x p) (e::es) [] pos) (wCall sp Wr) :=
 (pe_fn O hr ha hg hdb he hpl).imp fun σ H R h=>by
  have e:tCall (PSp X.K sp) [] E0 (liftA X.K Wr) σ H R=liftA X.K Wr σ H fun vs H1=>liftC X.K sp vs H1 R:=by unfold tCall PSp;simp only [List.append_nil]
  rw [e]
  exact call_lift h
theorem vf_fn {k:Nat}{ps:List Str}{sp:List PyData→(List PyData→Prop)→Prop} (O:OkC X x k ps (FSp X.K sp)) (hr:Room k X.A) (ha:VA X (e::es) Wr) (hg:Gl X x:=by rfl) (hdb:(x==("__debug__" : Str))=false:=by decide)
 (he:starEach (e::es) X.env=(false,eval e X.env)::starEach es X.env:=by rfl) (hpl:(backTo pos (starEach es X.env)).any (·.1)=false:=by rfl):VF X (.Call (.Name x p) (e::es) [] pos) (wCallF sp Wr) :=
 (pe_fn O hr ha hg hdb he hpl).imp fun σ H R h=>by
  have e:tCall (FSp X.K sp) [] E0 (liftA X.K Wr) σ H R=liftA X.K Wr σ H fun vs H1=>liftCF X.K sp vs H1 R:=by unfold tCall FSp;simp only [List.append_nil]
  rw [e]
  exact callF_lift h
end
def dAbs:DC
 | [.int i],q=>q (.int (if i<0 then -i else i))
 | _,_=>False
def dLen:DC
 | [.list l],q=>q (.int l.length)
 | [.tuple l],q=>q (.int l.length)
 | [.str x],q=>x.length≤sizeLine∧q (.int x.length)
 | _,_=>False
theorem iss1 {K:PySem.W.Frag}{H:Hp}{d:PyData}{vs:List V} (h:Iss K H [d] vs) : ∃ v,vs=[v]∧Is K H d v:=by
 obtain ⟨x,r,rfl,p,q⟩:=h.cons_inv
 rw [q.nil_inv];exact ⟨x,rfl,p⟩
theorem iss2 {K:PySem.W.Frag}{H:Hp}{d e:PyData}{vs:List V} (h:Iss K H [d,e] vs) : ∃ v u,vs=[v,u]∧Is K H d v∧Is K H e u:=by
 obtain ⟨x,r,rfl,p,q⟩:=h.cons_inv
 obtain ⟨y,rfl,q'⟩:=iss1 q
 exact ⟨x,y,rfl,p,q'⟩
theorem c_abs:CallV X (.builtin "abs") dAbs:=call_abs.imp fun xs H Q xx78=>by
 obtain ⟨F,ds,q,s,i,h,k⟩:=xx78
 match ds,h,i with
 | [.int n],h,i =>
  obtain ⟨v,rfl,j⟩:=iss1 i
  exact ⟨n,by rw [j.int_inv],k _ _ F H (.refl s) (is_int _) h⟩
theorem c_len:CallV X (.builtin "len") dLen:=(call_len_seq.or call_len_str).imp fun xs H Q xx79=>by
 obtain ⟨F,ds,q,s,i,h,k⟩:=xx79
 match ds,h,i with
 | [.list l],h,i =>
  obtain ⟨v,rfl,j⟩:=iss1 i
  obtain ⟨a,xs,rfl,hs,hr⟩:=j.lst_inv
  exact .inl ⟨a,xs,rfl,.inl (s.seq hs),k _ _ F H (.refl s) (by rw [hr.len];exact is_int _) h⟩
 | [.tuple l],h,i =>
  obtain ⟨v,rfl,j⟩:=iss1 i
  obtain ⟨a,xs,rfl,hs,hr⟩:=j.tup_inv
  exact .inl ⟨a,xs,rfl,.inr (same_seqT s hs),k _ _ F H (.refl s) (by rw [hr.len];exact is_int _) h⟩
 | [.str z],h,i =>
  obtain ⟨v,rfl,j⟩:=iss1 i
  unfold Is at j
  subst j
  exact .inr ⟨z,rfl,h.1,k _ _ F H (.refl s) (is_int _) h.2⟩
def dTuple:DC
 | [.list l],q=>q (.tuple l)
 | [.tuple l],q=>q (.tuple l)
 | _,_=>False
theorem c_tuple:CallV X (.type "tuple") dTuple:=call_tuple_of.imp fun xs H Q xx80=>by
 obtain ⟨F,ds,q,s,i,h,k⟩:=xx80
 match ds,h,i with
 | [.list l],h,i =>
  obtain ⟨v,rfl,j⟩:=iss1 i
  obtain ⟨a,xs,rfl,hs,hr⟩:=j.lst_inv
  refine ⟨a,xs,rfl,.inl ⟨s.seq hs,fun p hp=>?_⟩⟩
  have g:=Go.put (o:=HO.tup xs) s hp
  exact k _ _ _ _ g (is_tup (SqT.of upd_same) (hr.mono g.f)) h
 | [.tuple l],h,i =>
  obtain ⟨v,rfl,j⟩:=iss1 i
  obtain ⟨a,xs,rfl,hs,hr⟩:=j.tup_inv
  exact ⟨a,xs,rfl,.inr ⟨same_seqT s hs,k _ _ F H (.refl s) j h⟩⟩
end
end L2
namespace L2
open PySem PySem.Spec PyProof.Rows
section
variable {X:Cx}
section
variable {a b c e o:Expr}{W Wa Wb:WE}{Tc:WT}{pos pos':Pos}{st:Stmt}{sts rest:List Stmt}{Wt Wu:WS}{WfF:WF}
def wNext:WS:=fun D env=>D.nx env
def wSeq (t u:WS):WS:=fun D env=>t { D with nx:=u D } env
def wMid (t u:WS):WS:=fun D env => ∃ Md:Sto→Prop,t { D with nx:=Md } env ∧ ∀ e,Md e→u D e
def wNever:WS:=fun _ _=>False
theorem vss_nil:VSs X [] wNext:=pss_nil.imp fun D σ H xx81=>by obtain ⟨M,env,F,DD,I,h,k⟩:=xx81;exact k.nx env F H σ I (.refl _) h
theorem vss_one (h:VS X st Wt):VSs X [st] Wt:=pss_one h
theorem vss_cons (h1:VS X st Wt) (h2:VSs X rest Wu):VSs X (st::rest) (wSeq Wt Wu):=(pss_cons h1 h2).imp fun D σ H xx82=>by
 obtain ⟨M,env,F,DD,I,h,k⟩:=xx82
 exact ⟨M,env,F,{ DD with nx:=Wu DD },I,h,fun e' F' H' σ' I' s' h'=>⟨M,e',F',DD,I',h',k.mono s'⟩,k.rt,k.bk,k.ct⟩
theorem vss_mid (h1:VS X st Wt) (h2:VSs X rest Wu):VSs X (st::rest) (wMid Wt Wu):=(pss_cons h1 h2).imp fun D σ H xx83=>by
 obtain ⟨M,env,F,DD,I,⟨Md,h,hm⟩,k⟩:=xx83
 exact ⟨M,env,F,{ DD with nx:=Md },I,h,fun e' F' H' σ' I' s' h'=>⟨M,e',F',DD,I',hm e' h',k.mono s'⟩,k.rt,k.bk,k.ct⟩
theorem vss_never:VSs X sts wNever:=pss_never.imp fun D σ H xx84=>by obtain ⟨M,env,F,DD,I,h,k⟩:=xx84;exact h.elim
def wFz (i:Nat) (t:WS):WS:=fun D env=>t D (env.set i (gS env i).fz)
theorem vss_fz (i:Nat) (h:VSs X sts Wt):VSs X sts (wFz i Wt):=h.imp fun D σ H xx85=>by
 obtain ⟨M,env,F,DD,I,h,k⟩:=xx85
 obtain ⟨F',J,s⟩:=I.freeze i
 exact ⟨M,_,F',DD,J,h,k.mono s⟩
def wRet (W:WE):WS:=fun D env=>W env fun d e=>D.rt (.val d) e
theorem vs_ret (he:VE X e W):VS X (.Return (some e) pos) (wRet W):=(ps_ret he).imp fun D σ H xx86=>by
 obtain ⟨M,env,F,DD,I,h,k⟩:=xx86
 exact ⟨M,env,F,_,I,h,fun d v F1 H1 e1 I1 s1 i1 h1=>k.rt (.val d) v e1 F1 H1 σ I1 s1 i1 h1⟩
def wRetF (W:WF):WS:=fun D env=>W env fun l e=>D.rt (.own l) e
theorem vs_retF (he:VF X e WfF):VS X (.Return (some e) pos) (wRetF WfF):=(ps_ret he).imp fun D σ H xx87=>by
 obtain ⟨M,env,F,DD,I,h,k⟩:=xx87
 exact ⟨M,env,F,_,I,h,fun p vs l F1 H1 e1 I1 s1 g1 g2 g3 g4 g5 g6 h1=>k.rt (.own l) _ e1 F1 H1 σ I1 s1 ⟨p,vs,rfl,g1,g2,g3,g4,g6⟩ h1⟩
def wRetO (i:Nat):WS:=fun D env=>match gS env i with | .own ds=>D.rt (.own ds) env|_=>False
theorem vs_retO (i:Nat) {x:Str}{px:Pos} (hN:X.N[i]?=some x:=by rfl) (hv:Vis X.env.scope x:=by first|exact Or.inl rfl|exact Or.inr (Or.inl rfl)|exact Or.inr (Or.inr rfl)) (hd:(x==("__debug__" : Str))=false:=by decide)
 (hcd:(x==("__classdict__" : Str))=false:=by decide):VS X (.Return (some (.Name x px)) pos) (wRetO i):=(ps_ret (pe_var hN hv hd hcd)).imp fun D σ H xx88=>by
 obtain ⟨M,env,F,DD,I,h,k⟩:=xx88
 have S:=I.slot i
 unfold wRetO at h
 cases q:gS env i with
 | own ds =>
  rw [q] at S h
  obtain ⟨p,vs,e,g1,g2,g3,g4,g5⟩:=S
  exact ⟨_,vS_some e,k.rt (.own ds) _ env F H σ I (.refl _) ⟨p,vs,rfl,g1,g2,g3,g4,g5⟩ h⟩
 | non=>rw [q] at h;exact h.elim
 | val d=>rw [q] at h;exact h.elim
 | pen ds=>rw [q] at h;exact h.elim
 | new d=>rw [q] at h;exact h.elim
 | exc C=>rw [q] at h;exact h.elim
 | obj a0 C nm fs=>rw [q] at h;exact h.elim
def wIf (Tc:WT) (t u:WS):WS:=fun D env=>Tc env fun k e=>if k=true then t D e else u D e
theorem vs_if {A B:List Stmt} (hc:VT X c Tc) (ha:VSs X A Wt) (hb:VSs X B Wu):VS X (.If c A B pos) (wIf Tc Wt Wu):=(ps_if hc ha hb).imp fun D σ H xx89=>by
 obtain ⟨M,env,F,DD,I,h,k⟩:=xx89
 refine ⟨M,env,F,_,I,h,fun x F1 H1 e1 I1 s1 h1=>?_⟩
 cases x with
 | true=>exact iteT ⟨M,e1,F1,DD,I1,h1,k.mono s1⟩
 | false=>exact iteF ⟨M,e1,F1,DD,I1,h1,k.mono s1⟩
def wSet (i:Nat) (W:WE):WS:=fun D env=>W env fun d e=>D.nx (e.set i (.val d))
theorem vs_set {i:Nat}{x:Str} (hN:X.N.Nodup) (he:VE X e W) (hi:X.N[i]?=some x:=by rfl) (hx:Loc X.env.scope x:=by first|exact Or.inl rfl|exact Or.inr rfl) (hs:swapsWith e (some (.Name x pos')) pos.line X.env=pure false:=by rfl)
 (hf:X.fn x=true∨X.env.scope.names.lookup x=some .local:=by first|exact .inl rfl|exact .inr rfl):VS X (.Assign [.Name x pos'] e pos) (wSet i W):=(ps_set hN hi hx he hs hf).imp fun D σ H xx90=>by
 obtain ⟨M,env,F,DD,I,h,k⟩:=xx90
 exact ⟨M,env,F,_,I,h,fun d v F1 H1 e1 I1 s1 i1 h1=>k.nx _ F1 H1 _ (I1.setv i1) s1 h1⟩
def wSetO (i:Nat) (W:WF):WS:=fun D env=>W env fun l e=>D.nx (e.set i (.own l))
theorem vs_setO {i:Nat}{x:Str} (hN:X.N.Nodup) (he:VF X e WfF) (hi:X.N[i]?=some x:=by rfl) (hx:Loc X.env.scope x:=by first|exact Or.inl rfl|exact Or.inr rfl) (hs:swapsWith e (some (.Name x pos')) pos.line X.env=pure false:=by rfl)
 (hf:X.fn x=true∨X.env.scope.names.lookup x=some .local:=by first|exact .inl rfl|exact .inr rfl):VS X (.Assign [.Name x pos'] e pos) (wSetO i WfF):=(ps_set hN hi hx he hs hf).imp fun D σ H xx91=>by
 obtain ⟨M,env,F,DD,I,h,k⟩:=xx91
 exact ⟨M,env,F,_,I,h,fun p vs l F1 H1 e1 I1 s1 g1 g2 g3 g4 g5 g6 h1=>k.nx _ F1 H1 _ (I1.seto g1 g2 g3 g4 g5 g6) s1 h1⟩
def wgName (i:Nat):WG:=fun d env Q=>Q (env.set i (.val d))
theorem vg_name {i:Nat}{x:Str} (hN:X.N.Nodup) (hi:X.N[i]?=some x:=by rfl) (hx:Loc X.env.scope x:=by first|exact Or.inl rfl|exact Or.inr rfl) (hf:X.fn x=true∨X.env.scope.names.lookup x=some .local:=by first|exact .inl rfl|exact .inr rfl):VG X (.Name x pos) (wgName i) :=
 (pg_name hN hi hx hf).imp fun v σ H R xx92=>by obtain ⟨M,env,F,d,Q,I,j,h,k⟩:=xx92;exact k F H _ _ (I.setv j) (.refl _) h
def wgNil:WGs:=fun ds env Q=>ds=[]∧Q env
def wgCons (G:WG) (Gs:WGs):WGs:=fun ds env Q=>match ds with|[]=>False|d::r=>G d env fun e=>Gs r e Q
theorem vgs_nil:VGs X [] wgNil:=pgs_nil.imp fun v σ H R xx93=>by
 obtain ⟨M,env,F,ds,Q,I,j,h,k⟩:=xx93
 obtain ⟨rfl,h⟩:=h
 exact ⟨j.nil_inv,k F H env σ I (.refl _) h⟩
theorem vgs_cons {es:List Expr}{G:WG}{Gs:WGs} (h1:VG X e G) (h2:VGs X es Gs) (hs:(assignEach (e::es) X.env).map (·.2)=assign e X.env::(assignEach es X.env).map (·.2):=by rfl):VGs X (e::es) (wgCons G Gs) :=
 (pgs_cons h1 h2 hs).imp fun v σ H R xx94=>by
  obtain ⟨M,env,F,ds,Q,I,j,h,k⟩:=xx94
  cases ds with
  | nil=>exact False.elim h
  | cons d r =>
   obtain ⟨x,xs,rfl,j1,j2⟩:=j.cons_inv
   exact ⟨x,xs,rfl,M,env,F,d,_,I,j1,h,fun F1 H1 e1 σ1 I1 s1 q1=>⟨M,e1,F1,r,Q,I1,j2.mono s1,q1,fun F2 H2 e2 σ2 I2 s2 q2=>k F2 H2 e2 σ2 I2 (s1.trans s2) q2⟩⟩
def wgTup (n:Nat) (Gs:WGs):WG:=fun d env Q=>match d with | .tuple l=>l.length=n∧Gs l env Q|_=>False
theorem vg_tup {es:List Expr}{kk n:Nat}{Gs:WGs} (hc:X.calm=true) (h:VGs X es Gs) (hn:(assignEach es X.env).length=n:=by rfl) (hst:(assignEach es X.env).findIdx? (·.1)=none:=by rfl):VG X (.Tuple es kk pos) (wgTup n Gs) :=
 (pg_tup hc h hn hst).imp fun v σ H R xx95=>by
  obtain ⟨M,env,F,d,Q,I,j,h,k⟩:=xx95
  cases d with
  | tuple l =>
   obtain ⟨a,xs,rfl,hs,hr⟩:=j.tup_inv
   exact ⟨a,xs,rfl,same_seqT I.fh hs,by rw [hr.len];exact h.1,M,env,F,l,Q,I,hr,h.2,k⟩
  | _=>exact False.elim h
def wAsg (W:WE) (G:WG):WS:=fun D env=>W env fun d e=>G d e D.nx
theorem vs_asg {tg:Expr}{G:WG} (he:VE X e W) (hg:VG X tg G) (hs:swapsWithSole [tg] e pos.line X.env=pure false:=by rfl) (hw:swappedStores [tg] e X.env=pure none:=by rfl)
 (h1:(assignEach [tg] X.env).map (·.2)=[assign tg X.env]:=by rfl):VS X (.Assign [tg] e pos) (wAsg W G):=(ps_asg he hg hs hw h1).imp fun D σ H xx96=>by
 obtain ⟨M,env,F,DD,I,h,k⟩:=xx96
 exact ⟨M,env,F,_,I,h,fun d v F1 H1 e1 I1 s1 i1 h1=>⟨M,e1,F1,d,_,I1,i1,h1,fun F2 H2 e2 σ2 I2 s2 q2=>k.nx e2 F2 H2 σ2 I2 (s1.trans s2) q2⟩⟩
def wApp (i:Nat) (W:WE):WS:=fun D env=>(gS env i).mut=true∧W env fun d e=>(gS e i).mut=true∧(gS e i).cnt.length<sizeLine∧D.nx (e.set i ((gS e i).upd ((gS e i).cnt++[d])))
theorem vs_append (i:Nat) {x:Str}{px apos cpos:Pos} (he:VE X e W) (hN:X.N[i]?=some x:=by rfl) (hv:Vis X.env.scope x:=by first|exact Or.inl rfl|exact Or.inr (Or.inl rfl)|exact Or.inr (Or.inr rfl)) (hd:(x==("__debug__" : Str))=false:=by decide)
 (hcd:(x==("__classdict__" : Str))=false:=by decide)
 (hbase:attributeBase (.Name x px) "append" X.env (eval (.Name x px) X.env)=eval (.Name x px) X.env:=by rfl)
 (hfew:((backTo cpos (starEach [e] X.env)).all (fun x => !x.1)&&(backToKw cpos (keywordEach [] X.env)).all (fun x=>x.1.isSome)
  && decide ([e].length+([]:List Keyword).length+(if ([]:List Keyword).isEmpty then 0 else 1)<30))=true:=by rfl)
 (hline:(apos.endLine==cpos.line)=true:=by rfl) (hst:starEach [e] X.env=(false,eval e X.env)::starEach [] X.env:=by rfl) (hplain:(backTo cpos (starEach [] X.env)).any (·.1)=false:=by rfl)
 (hs:swapsWith (.Call (.Attribute (.Name x px) "append" apos) [e] [] cpos) none pos.line X.env=pure false:=by rfl):VS X (.Expr (.Call (.Attribute (.Name x px) "append" apos) [e] [] cpos) pos) (wApp i W) :=
 (ps_expr (pe_append (pe_var hN hv hd hcd) he hbase hfew hline hst hplain) hs).imp fun D σ H xx97=>by
  obtain ⟨M,env,F,DD,I,⟨hm,h⟩,k⟩:=xx97
  obtain ⟨p,vs,ep,g1,g2,g3,g4⟩:=(I.slot i).addr hm
  refine ⟨_,vS_some ep,.inl ⟨rfl,_,SqL.of g1⟩,M,env,F,_,I,h,fun d v F1 H1 e1 I1 s1 i1 h1=>?_⟩
  obtain ⟨m1,z1,q1⟩:=h1
  obtain ⟨p',vs1,ep',f1,f2,f3,f4⟩:=(I1.slot i).addr m1
  rw [ep] at ep';injection ep' with ep';injection ep' with ep';subst ep'
  exact ⟨p,vs1,v,rfl,rfl,f1,by rw [f4.len];exact z1,k.nx _ F1 _ σ (I1.chg m1 ep (iss_append f4 (iss_cons i1 iss_nil))) s1 q1⟩
def wWhile (Tc:WT) (t:WS):WS:=fun D env => ∃ P:Nat→Sto→Prop,(∃ m,P m env) ∧ ∀ m e,P m e→Tc e fun k e1=>if k=true then t { D with nx:=fun e2 => ∃ m',m'<m∧P m' e2,ct:=fun e2 => ∃ m',m'<m∧P m' e2,bk:=D.nx } e1 else D.nx e1
theorem vs_while {body:List Stmt} (hc:VT X c Tc) (hb:VSs X body Wt) (hp:PassesOwn (model X.prog X.w) X.A X.env X.xe:=by exact PassesOwn.never):VS X (.While c body [] pos) (wWhile Tc Wt) :=
 (ps_while hp hc hb).imp fun D σ H xx101=>by
  obtain ⟨M,env,F,DD,I,⟨P,⟨m0,p0⟩,turn⟩,k⟩:=xx101
  refine ⟨fun m σ' H' => ∃ e' F',EnvOk X.K M F' H' e' σ'∧Same F F'∧P m e',⟨m0,env,F,I,.refl _,p0⟩,fun m σ1 H1 xx100=>?_⟩
  obtain ⟨e1,F1,I1,s1,p1⟩:=xx100
  refine ⟨M,e1,F1,_,I1,turn m e1 p1,fun x F2 H2 e2 I2 s2 h2=>?_⟩
  cases x with
  | true =>
   refine iteT ⟨fun σ' H' => ∃ m',m'<m ∧ ∃ e' F',EnvOk X.K M F' H' e' σ'∧Same F F'∧P m' e',fun σ' H' z=>z,M,e2,F2,_,I2,h2,?_⟩
   have s02:=s1.trans s2
   exact ⟨fun e3 F3 H3 σ3 I3 s3 xx99=>by obtain ⟨m',l,p3⟩:=xx99;exact ⟨m',l,e3,F3,I3,s02.trans s3,p3⟩,fun r v e3 F3 H3 σ3 I3 s3=>k.rt r v e3 F3 H3 σ3 I3 (s02.trans s3),
    fun e3 F3 H3 σ3 I3 s3=>k.nx e3 F3 H3 σ3 I3 (s02.trans s3),fun e3 F3 H3 σ3 I3 s3 xx98=>by obtain ⟨m',l,p3⟩:=xx98;exact ⟨m',l,e3,F3,I3,s02.trans s3,p3⟩⟩
  | false=>exact iteF (k.nx e2 F2 H2 σ1 I2 (s1.trans s2) h2)
def wFor (Wi:WF) (G:WG) (t:WS):WS:=fun D env=>Wi env fun ds e0 => ∃ P:Nat→Sto→Prop,P 0 e0 ∧
 (∀ i d e,ds[i]?=some d→P i e→G d e fun e1=>t { D with nx:=P (i+1),ct:=P (i+1),bk:=D.nx } e1) ∧ ∀ e,P ds.length e→D.nx e
theorem vs_for {tg iter:Expr}{body:List Stmt}{Wi:WF}{G:WG} (hc:X.calm=true) (hi:VI X tg iter Wi) (hg:VG X tg G) (hb:VSs X body Wt)
 (hs : ∀ x,foldedSetIterable iter X.env x=pure x:=by intro _;rfl) (hp:PassesOwn (model X.prog X.w) X.A X.env X.xe:=by exact PassesOwn.never):VS X (.For tg iter body [] pos) (wFor Wi G Wt) :=
  (ps_for hp hc hi hg hb hs).imp fun D σ H xx104=>by
   obtain ⟨M,env,F,DD,I,h,k⟩:=xx104
   refine ⟨M,env,F,_,I,h,fun ds J F1 H1 e1 I1 s1 jt xx103=>?_⟩
   obtain ⟨P,p0,turn,fin⟩:=xx103
   refine ⟨fun i m σ' H'=>m=ds.length-i∧i≤ds.length ∧ ∃ e' F',EnvOk X.K M F' H' e' σ'∧Same F1 F'∧P i e',⟨ds.length,by simp,Nat.zero_le _,e1,F1,I1,.refl _,p0⟩,fun i m σ2 H2 xx102=>?_⟩
   obtain ⟨hm,hi,e2,F2,I2,s2,p2⟩:=xx102
   by_cases hl:i=ds.length
   ·subst hl
    exact .inl ⟨jt.stop H2 (s2.trans I2.fh),k.nx e2 F2 H2 σ2 I2 (s1.trans s2) (fin e2 p2)⟩
   ·have hlt:i<ds.length:=by omega
    refine .inr ⟨jt.go i H2 (s2.trans I2.fh) hlt,fun σ' H' => ∃ e' F',EnvOk X.K M F' H' e' σ'∧Same F1 F'∧P (i+1) e',fun σ' H' z=>⟨ds.length-(i+1),by omega,rfl,hlt,z⟩,fun x H3 hy=>?_⟩
    obtain ⟨d,F3,hd,g,j⟩:=jt.yld i H2 x H3 F2 s2 I2.fh hlt hy
    refine ⟨M,e2,F3,d,_,I2.go g,j,turn i d e2 hd p2,fun F4 H4 e4 σ4 I4 s4 h4=>⟨M,e4,F4,_,I4,h4,?_⟩⟩
    have s14:=s2.trans (g.f.trans s4)
    exact ⟨fun e5 F5 H5 σ5 I5 s5 p5=>⟨e5,F5,I5,s14.trans s5,p5⟩,fun r v e5 F5 H5 σ5 I5 s5=>k.rt r v e5 F5 H5 σ5 I5 ((s1.trans s14).trans s5),
     fun e5 F5 H5 σ5 I5 s5=>k.nx e5 F5 H5 σ5 I5 ((s1.trans s14).trans s5),fun e5 F5 H5 σ5 I5 s5 p5=>⟨e5,F5,I5,s14.trans s5,p5⟩⟩
end
end
end L2
namespace L2
open PySem PySem.Spec PyProof.Rows
section
variable {X:Cx}
theorem vals_ty : ∀ {ns:List String}{us:List Value},Vals (ns.map V.ty) us→us=ns.map Value.type
 | [],_,h=>by cases h;rfl
 | n::ns,_,h=>by
  cases h with
  | cons r t=>rw [vals_ty t];cases r;rfl
theorem kit_D {pins:List (Addr×Obj)}{σ:St}{H:Hp}{s:Shared}{d:PyData}{x:V}{u:Value} (I:Inv X pins σ H s) (hd:Is X.K H d x) (rx:RelV x u) :
 ∃ HP:Heap→Prop,PySem.W.KitX X.K u (.type (tyD d)) HP∧HP s.heap∧u ≠ .builtin "__main__.__loader__#opaque":=by
  cases d with
  | none=>rw [hd.non_inv] at rx;cases rx;exact ⟨_,PySem.W.kitx_none,True.intro,fun z=>nomatch z⟩
  | bool y=>rw [hd.bl_inv] at rx;cases rx;exact ⟨_,PySem.W.kitx_bool,True.intro,fun z=>nomatch z⟩
  | int i=>rw [hd.int_inv] at rx;obtain ⟨t,rfl⟩:=rx;exact ⟨_,PySem.W.kitx_int,True.intro,fun z=>nomatch z⟩
  | str y =>
   unfold Is at hd
   subst hd
   obtain ⟨t,rfl⟩:=rx;exact ⟨_,PySem.W.kitx_str,True.intro,fun z=>nomatch z⟩
  | list l =>
   obtain ⟨a,xs,rfl,q,_⟩:=hd.lst_inv
   cases rx
   obtain ⟨its,_,pl,_⟩:=I.list q
   obtain ⟨o,ho,hc,_⟩:=pl.isList
   exact ⟨_,PySem.W.kitx_list,⟨o,ho,hc⟩,fun z=>nomatch z⟩
  | tuple l =>
   obtain ⟨a,xs,rfl,q,_⟩:=hd.tup_inv
   cases rx
   obtain ⟨its,_,pl,_⟩:=I.tuple q
   obtain ⟨o,ho,hc,_⟩:=pl
   exact ⟨_,PySem.W.kitx_tuple,⟨o,ho,hc⟩,fun z=>nomatch z⟩
  | dict l =>
   obtain ⟨a,kvs,rfl,q,_⟩:=hd.dct_inv
   cases rx
   obtain ⟨_,_,vs,_,p⟩:=(show ObjOk X.prog X.w H s.heap a (.dK kvs) from I.hok a _ q)
   obtain ⟨o,es,ep,h1,h2,_⟩:=p
   exact ⟨_,PySem.W.kitx_dict,⟨o,h1,h2.1⟩,fun z=>nomatch z⟩
def rIsAny (K:PySem.W.Frag):List V→Hp→VK→Prop:=fun xs H Q => ∃ (d:PyData) (x:V) (a:Addr) (ns:List String) (b:Bool),xs=[x,.ref a]∧H a=some (.tup (ns.map V.ty))∧Is K H d x∧PySem.W.kitAny K (.type (tyD d)) (ns.map Value.type)=some b∧Q (.bl b) H
theorem call_isAny:CallR X (.builtin "isinstance") (rIsAny X.K):=by
 intro pins s σ H xs us Q I r h
 obtain ⟨d,x,a,ns,b,rfl,ha,hd,e,q⟩:=h
 obtain ⟨u,c,rfl,rx,rc⟩:=vals2 r
 cases rc
 obtain ⟨its,rv,pl,_⟩:=I.tuple (SqT.of ha)
 obtain ⟨⟨cls,dd,data,sl⟩,ho,hc,n,hdt⟩:=pl
 simp only at hc hdt
 subst hc hdt
 rw [vals_ty rv] at ho
 obtain ⟨HP,Z,hp,hne⟩:=kit_D I hd rx
 exact PySem.W.kia_tup Z I.kIn hp ho e hne fun tk=>⟨.bl b,H,I.tok tk,rfl,q⟩
theorem vals_bools : ∀ {bs:List Bool}{us:List Value},Vals (bs.map V.bl) us→LSm.BoolsAre us bs
 | [],_,h=>by cases h;exact .nil
 | b::bs,_,h=>by
  cases h with
  | cons r t=>cases r;exact .cons b (vals_bools t)
def rAll (K:PySem.W.Frag):List V→Hp→VK→Prop:=fun xs H Q => ∃ (a:Addr) (bs:List Bool),xs=[.ref a]∧SqL K H a (bs.map V.bl)∧Q (.bl (bs.all id)) H
theorem call_all (hc:X.calm=true):CallR X (.builtin "all") (rAll X.K):=by
 intro pins s σ H xs us Q I r h
 obtain ⟨a,bs,rfl,ha,q⟩:=h
 obtain ⟨u,rfl,rx⟩:=vals1 r
 cases rx
 obtain ⟨its,rv,pl,_⟩:=I.list ha
 have hl:=pl.isList
 have hb:=vals_bools rv
 have hlt:a<s.heap.objs.size:=pl.lt
 refine call_all_walk (wpAny_pyIter_list hl ?_)
 refine ⟨s.heap.objs.size,[s.heap.objs.size,a],[s.heap.objs.size],its.toArray.size,_,_,fun i=>(bs[i]?).getD true,rfl,Walks.list (A:=X.A.in1) (I.ok.hd hc) _ a (Nat.ne_of_lt hlt) its.toArray,
  ⟨⟨_,Heap.get?_push_size _ rfl,rfl,rfl⟩,hl.push _⟩,fun i v s' Q' E' hP hQ=>?_,fun h' tk hk=>?_⟩
 ·obtain ⟨b,e,rfl⟩:=hb.get i v (by simpa using hP)
  simp only [e,Option.getD_some] at hQ
  exact wpAny_truthy_bool hQ
 ·have hlen:its.toArray.size=bs.length:=by rw [List.size_toArray];exact hb.length
  have e:((List.range its.toArray.size).all fun i=>(bs[i]?).getD true)=bs.all id:=by
   rw [hlen,Bool.eq_iff_iff,List.all_eq_true,List.all_eq_true]
   constructor
   ·intro z b hb'
    obtain ⟨i,hi,rfl⟩:=List.getElem_of_mem hb'
    have:=z i (List.mem_range.mpr hi)
    simpa [hi] using this
   ·intro z i hi
    have hi':=List.mem_range.mp hi
    simpa [hi'] using z _ (List.getElem_mem hi')
  rw [e]
  refine ⟨.bl (bs.all id),H,I.kept (t':=tk) (fun b o z=>hk b o (fun hm=>?_) (Heap.get?_push_of_some _ z)),rfl,q⟩
  rw [List.mem_singleton.mp hm] at z
  exact Nat.lt_irrefl _ (Heap.lt_size z)
theorem preSum_list : ∀ (ns:List Int) (n:Nat),n≤ns.length→preSum (fun i=>(ns[i]?).getD 0) n=(ns.take n).sum
 | ns,0,_=>by simp [preSum]
 | ns,n+1,h=>by
  have hn:n<ns.length:=h
  have e:(ns[n]?).getD 0=ns[n]:=by rw [List.getElem?_eq_getElem hn];rfl
  have e2:(ns.take n++[ns[n]]).sum=(ns.take n).sum+ns[n]:=by rw [List.sum_append];simp
  rw [preSum,preSum_list ns n (Nat.le_of_lt hn),e,List.take_add_one,List.getElem?_eq_getElem hn]
  exact e2.symm
theorem ints_get : ∀ {ns:List Int}{us:List Value},Vals (ns.map V.int) us → ∀ (i:Nat) (v:Value),us[i]?=some v → ∃ t,v = .int ((ns[i]?).getD 0) t
 | [],_,h,i,v,e=>by cases h;simp at e
 | n::ns,_,h,i,v,e=>by
  cases h with
  | cons r t =>
   cases i with
   | zero =>
    obtain ⟨k,rfl⟩:=r
    have:Value.int n k=v:=by simpa using e
    exact ⟨k,by rw [← this];rfl⟩
   | succ i =>
    obtain ⟨k,hk⟩:=ints_get t i v (by simpa using e)
    exact ⟨k,by simpa using hk⟩
def rSum (K:PySem.W.Frag):List V→Hp→VK→Prop:=fun xs H Q => ∃ (a:Addr) (ns:List Int),xs=[.ref a]∧(SqL K H a (ns.map V.int)∨SqT K H a (ns.map V.int))∧Q (.int ns.sum) H
theorem call_sum (hc:X.calm=true):CallR X (.builtin "sum") (rSum X.K):=by
 intro pins s σ H xs us Q I r h
 obtain ⟨a,ns,rfl,ha,q⟩:=h
 obtain ⟨u,rfl,rx⟩:=vals1 r
 cases rx
 have fin : ∀ (its:List Value) (h':Heap) (tk t':Nat),its.length=ns.length→(∀ b o,s.heap.get? b=some o→h'.get? b=some o)→EP X pins σ Q (.int (preSum (fun i=>(ns[i]?).getD 0) its.toArray.size) t') { s with heap:=h',toks:=tk }:=fun its h' tk t' hl hk=>by
  have e:preSum (fun i=>(ns[i]?).getD 0) its.toArray.size=ns.sum:=by
   rw [List.size_toArray,hl,preSum_list ns _ (Nat.le_refl _),List.take_length]
  rw [e]
  exact ⟨.int ns.sum,H,I.kept (t':=tk) hk,⟨t',rfl⟩,q⟩
 have old : ∀ {h':Heap}{ob:Obj},(∀ b o,b ∉ [s.heap.objs.size]→(s.heap.push ob).get? b=some o→h'.get? b=some o) → ∀ b o,s.heap.get? b=some o→h'.get? b=some o:=fun hk b o z =>
  hk b o (fun hm=>by rw [List.mem_singleton.mp hm] at z;exact Nat.lt_irrefl _ (Heap.lt_size z)) (Heap.get?_push_of_some _ z)
 rcases ha with ha|ha
 ·obtain ⟨its,rv,pl,_⟩:=I.list ha
  have hl:=pl.isList
  have hlt:a<s.heap.objs.size:=pl.lt
  have hlen:its.length=ns.length:=by rw [← rv.length,List.length_map]
  refine call_sum_walkG (wpAny_pyIter_list hl ?_)
  refine ⟨s.heap.objs.size,[s.heap.objs.size,a],[s.heap.objs.size],its.toArray.size,_,_,fun i=>(ns[i]?).getD 0,rfl,Walks.list (A:=X.A.in1) (I.ok.hd hc) _ a (Nat.ne_of_lt hlt) its.toArray,
   ⟨⟨_,Heap.get?_push_size _ rfl,rfl,rfl⟩,hl.push _⟩,fun b hb=>?_,fun i v hP=>ints_get rv i v (by simpa using hP),fun h' tk t' hk=>fin its h' tk t' hlen (old hk)⟩
  have hb':b=s.heap.objs.size∨b=a:=by simpa using hb
  rw [Heap.size_push]
  rcases hb' with rfl|rfl
  ·exact Nat.lt_succ_self _
  ·exact Nat.lt_succ_of_lt hlt
 ·obtain ⟨its,rv,pl,_⟩:=I.tuple ha
  have hl:s.heap.IsTuple a its.toArray:=pl
  have hlt:a<s.heap.objs.size:=IsTup.lt pl
  have hlen:its.length=ns.length:=by rw [← rv.length,List.length_map]
  refine call_sum_walkG (wpAny_pyIter_tuple hl ?_)
  refine ⟨s.heap.objs.size,[s.heap.objs.size,a],[s.heap.objs.size],its.toArray.size,_,_,fun i=>(ns[i]?).getD 0,rfl,Walks.tuple (A:=X.A.in1) (I.ok.hd hc) _ a (Nat.ne_of_lt hlt) its.toArray,
   ⟨⟨_,Heap.get?_push_size _ rfl,rfl,rfl⟩,pl.push _⟩,fun b hb=>?_,fun i v hP=>ints_get rv i v (by simpa using hP),fun h' tk t' hk=>fin its h' tk t' hlen (old hk)⟩
  have hb':b=s.heap.objs.size∨b=a:=by simpa using hb
  rw [Heap.size_push]
  rcases hb' with rfl|rfl
  ·exact Nat.lt_succ_self _
  ·exact Nat.lt_succ_of_lt hlt
def rSorted (K:PySem.W.Frag):List V→Hp→VK→Prop:=fun xs H Q => ∃ (a:Addr) (ns:List Int),xs=[.ref a]∧SqL K H a (ns.map V.int)∧ns.length<64 ∧ ∀ (p:Addr) (ns':List Int),H p=none→ns'.Perm ns→ns'.Pairwise (· ≤ ·)→Q (.ref p) (upd H p (.lst (ns'.map V.int)))
theorem call_sorted:CallR X (.builtin "sorted") (rSorted X.K):=by
 intro pins s σ H xs us Q I r h
 obtain ⟨a,ns,rfl,ha,h64,q⟩:=h
 obtain ⟨u,rfl,rx⟩:=vals1 r
 cases rx
 obtain ⟨its,rv,pl,_⟩:=I.list ha
 have hlen:its.length=ns.length:=by rw [← rv.length,List.length_map]
 refine sorted_ints pl.isList (intsAre_of rv) (by omega) fun out ns' a1 a2 a3=>?_
 obtain ⟨e,he⟩:=sortedAll_at s.heap its out
 have hl':ns'.length=ns.length:=a2.length_eq
 refine ⟨.ref (s.heap.objs.size+1),_,I.laid (t':=s.toks) (a:=s.heap.objs.size+1) (o :=.lst (ns'.map V.int)) (fun b o z=>sortedAll_old z) (Nat.le_succ _) ?_,rfl,q _ ns' (I.hok.fresh (Nat.le_succ _)) a2 a3⟩
 exact ⟨Nat.le_of_lt (small1000 (by rw [List.length_map];omega)),out.toList,e,vals_ints a1,by rw [Array.toArray_toList];exact he⟩
def iAny (K:PySem.W.Frag) (tl:TE):TI:=fun σ H R=>tl σ H fun x H1 => ∃ a,x = .ref a∧(((∃ xs,SqL K H1 a xs)∧R (Itl K a) H1)∨((∃ xs,SqT K H1 a xs)∧R (Itt K a) H1))
theorem pi_any {tg l:Expr}{tl:TE} (hl:PE X l tl):PI X tg l (iAny X.K tl):=by
 intro pins s σ H R I h
 refine thn (hl pins s σ H _ I h) fun v s1 xx105=>?_
 obtain ⟨x,H1,I1,r1,q1⟩:=xx105
 obtain ⟨a,e,q1⟩:=q1
 subst e
 cases r1
 rcases q1 with ⟨⟨xs,hq⟩,q⟩|⟨⟨xs,hq⟩,q⟩
 ·obtain ⟨its,rv,p,hz⟩:=I1.list hq
  refine wpAny_pyIter_list p.isList ?_
  refine ⟨s1.heap.objs.size,[s1.heap.objs.size],_,_,H1,rfl,I1.kept (t':=s1.toks) fun b o e=>Heap.get?_push_of_some _ e,turn_list a _,⟨_,Heap.get?_push_size _ rfl,rfl,rfl⟩,fun b hb=>?_,q⟩
  have e:b=s1.heap.objs.size:=by simpa using hb
  subst e
  exact I1.fpOk (Nat.le_refl _) (I1.hok.fresh (Nat.le_refl _))
 ·obtain ⟨its,rv,p,hz⟩:=I1.tuple hq
  refine wpAny_pyIter_tuple (show s1.heap.IsTuple a its.toArray from p) ?_
  refine ⟨s1.heap.objs.size,[s1.heap.objs.size],_,_,H1,rfl,I1.kept (t':=s1.toks) fun b o e=>Heap.get?_push_of_some _ e,turn_tuple a _,⟨_,Heap.get?_push_size _ rfl,rfl,rfl⟩,fun b hb=>?_,q⟩
  have e:b=s1.heap.objs.size:=by simpa using hb
  subst e
  exact I1.fpOk (Nat.le_refl _) (I1.hok.fresh (Nat.le_refl _))
end
theorem boot_all:bootBuiltins "all" = some (.builtin "all"):=by decide +kernel
theorem boot_sum:bootBuiltins "sum" = some (.builtin "sum"):=by decide +kernel
theorem boot_sorted:bootBuiltins "sorted" = some (.builtin "sorted"):=by decide +kernel
end L2
namespace L2
open PySem PySem.Spec PyProof.Rows
section
variable {X:Cx}
theorem itd_lst {K:PySem.W.Frag}{F:Hp}{a:Addr}{xs:List V}{l:List PyData} (hs:SqL K F a xs) (hr:Iss K F l xs):ItD K (Itl K a) F l where
 go:=fun i H s hi=>⟨xs,xs[i]'(by rw [hr.len];exact hi),s.seq hs,List.getElem?_eq_getElem _⟩
 stop:=fun H s=>⟨xs,s.seq hs,by rw [hr.len];exact Nat.le_refl _⟩
 yld:=fun i H x H' F1 s1 s2 hi hy=>by
  obtain ⟨rfl,hy⟩:=hy
  obtain ⟨d,e1,e2⟩:=hr.get' (hy xs ((s1.trans s2).seq hs))
  exact ⟨d,F1,e1,.refl s2,e2.mono s1⟩
theorem itd_tup {K:PySem.W.Frag}{F:Hp}{a:Addr}{xs:List V}{l:List PyData} (hs:SqT K F a xs) (hr:Iss K F l xs):ItD K (Itt K a) F l where
 go:=fun i H s hi=>⟨xs,xs[i]'(by rw [hr.len];exact hi),same_seqT s hs,List.getElem?_eq_getElem _⟩
 stop:=fun H s=>⟨xs,same_seqT s hs,by rw [hr.len];exact Nat.le_refl _⟩
 yld:=fun i H x H' F1 s1 s2 hi hy=>by
  obtain ⟨rfl,hy⟩:=hy
  obtain ⟨d,e1,e2⟩:=hr.get' (hy xs (same_seqT (s1.trans s2) hs))
  exact ⟨d,F1,e1,.refl s2,e2.mono s1⟩
def rngD (lo:Int) (n:Nat):List PyData:=(List.range n).map fun (k:Nat) => .int (lo+(k:Int))
theorem rngD_len (lo:Int) (n:Nat):(rngD lo n).length=n:=by simp [rngD]
theorem rngD_get {lo:Int}{n i:Nat} (h:i<n):(rngD lo n)[i]?=some (.int (lo+i)):=by simp [rngD,h]
theorem rngD_inv {lo:Int}{n i:Nat}{d:PyData} (h:(rngD lo n)[i]?=some d):i<n∧d = .int (lo+i):=by
 have hi:i<n:=by
  have:=(List.getElem?_eq_some_iff.mp h).1
  rwa [rngD_len] at this
 rw [rngD_get hi] at h
 exact ⟨hi,(Option.some.inj h).symm⟩
theorem itd_rng {K:PySem.W.Frag}{F:Hp}{lo:Int}{n:Nat}:ItD K (Itr lo n) F (rngD lo n) where
 go:=fun i H s hi=>by rw [rngD_len] at hi;exact hi
 stop:=fun H s=>by rw [rngD_len];exact Nat.le_refl _
 yld:=fun i H x H' F1 s1 s2 hi hy=>by
  obtain ⟨rfl,rfl⟩:=hy
  rw [rngD_len] at hi
  exact ⟨_,F1,rngD_get hi,.refl s2,is_int _⟩
section
variable {tg a b c:Expr}{W:WE}{Wr:WF}{p pos:Pos}
def isTy (T:String):PyData→Bool
 | .none=>false
 | .bool _=>T == "bool" || T == "int"
 | .int _=>T == "int"
 | .str _=>T == "str"
 | .list _=>T == "list"
 | .tuple _=>T == "tuple"
 | .dict _=>T == "dict"
def dSum:DC
 | [.list l],q => ∃ ns:List Int,l=ns.map .int∧q (.int ns.sum)
 | [.tuple l],q => ∃ ns:List Int,l=ns.map .int∧q (.int ns.sum)
 | _,_=>False
def seqD:PyData→Option (List PyData)
 | .list l=>some l
 | .tuple l=>some l
 | _=>none
theorem seq_elim {d:PyData}{l:List PyData}{Q:List PyData→Prop} (h:seqD d=some l) (q:Q l):(seqD d).elim False Q:=by rw [h];exact q
theorem len_seq {d:PyData}{l:List PyData}{q:PyData→Prop} (h:seqD d=some l) (hq:q (.int l.length)):dLen [d] q:=by
 cases d with
 | list m=>cases h;exact hq
 | tuple m=>cases h;exact hq
 | _=>cases h
theorem ix_seqD {d:PyData}{l:List PyData}{i:Int}{x:PyData}{q:PyData→Prop} (h:seqD d=some l) (e:atI l i=some x) (hq:q x):dIx d (.int i) q:=by
 cases d with
 | list m=>cases h;exact ⟨x,e,hq⟩
 | tuple m=>cases h;exact ⟨x,e,hq⟩
 | _=>cases h
theorem sum_seq {d:PyData}{ns:List Int}{q:PyData→Prop} (h:seqD d=some (ns.map .int)) (hq:q (.int ns.sum)):dSum [d] q:=by
 cases d with
 | list m=>cases h;exact ⟨ns,rfl,hq⟩
 | tuple m=>cases h;exact ⟨ns,rfl,hq⟩
 | _=>cases h
theorem isi_seq (d:PyData):(isTy "list" d||isTy "tuple" d)=(seqD d).isSome:=by cases d <;> rfl
def wiSeq (W:WE):WF:=fun env Q=>W env fun d e=>(seqD d).elim False fun l=>Q l e
theorem vi_seq (h:VE X a W):VI X tg a (wiSeq W):=(pi_any h).imp fun σ H R xx106=>by
 obtain ⟨M,env,F,Q,I,h,k⟩:=xx106
 refine ⟨M,env,F,_,I,h,fun d v F1 H1 e1 I1 s1 i1 h1=>?_⟩
 cases d with
 | list l =>
  obtain ⟨b,xs,rfl,hs,hr⟩:=i1.lst_inv
  exact ⟨b,rfl,.inl ⟨⟨xs,I1.fh.seq hs⟩,k l _ F1 H1 e1 I1 s1 (itd_lst hs hr) h1⟩⟩
 | tuple l =>
  obtain ⟨b,xs,rfl,hs,hr⟩:=i1.tup_inv
  exact ⟨b,rfl,.inr ⟨⟨xs,same_seqT I1.fh hs⟩,k l _ F1 H1 e1 I1 s1 (itd_tup hs hr) h1⟩⟩
 | _=>exact False.elim h1
def wiR1 (W:WE):WF:=fun env Q=>W env fun d e=>match d with
 | .int j=>(-(2^62)≤j∧j<2^62)∧Q (rngD 0 j.toNat) e
 | _=>False
theorem vi_range1 (hm:X.mg "range" = none) (ha:VE X a W) (hg:Gl X "range":=by rfl) (hs:starEach [a] X.env=[(false,eval a X.env)]:=by rfl) (hs':starEach [a] X.env=(false,eval a X.env)::starEach [] X.env:=by rfl):VI X tg (.Call (.Name "range" p) [a] [] pos) (wiR1 W) :=
 (pi_range1 hg hm (pa_cons ha pa_nil hs') hs).imp fun σ H R xx107=>by
  obtain ⟨M,env,F,Q,I,h,k⟩:=xx107
  refine ⟨M,env,F,_,I,h,fun d v F1 H1 e1 I1 s1 i1 h1=>?_⟩
  cases d with
  | int j=>exact ⟨j,by rw [i1.int_inv],h1.1.1,h1.1.2,k _ _ F1 H1 e1 I1 s1 itd_rng h1.2⟩
  | _=>exact False.elim h1
end
def Sl.seen:Sl→Sl
 | .val d => .val d
 | .new d => .val d
 | _ => .non
def capE (ix:List Nat) (k:Nat) (env:Sto):Sto:=ix.map (fun i=>(gS env i).seen)++List.replicate k .non
def wComp (ix:List Nat) (k:Nat) (Wi:WF) (G:WG) (We:WE):WF:=fun env Q=>Wi env fun ds e0=>ds.length<sizeLine ∧ ∃ P:Nat→List PyData→Sto→Prop,P 0 [] (capE ix k e0) ∧
 (∀ i d ys e,ds[i]?=some d→P i ys e→G d e fun e1=>We e1 fun y e2=>P (i+1) (ys++[y]) e2) ∧ ∀ ys e,P ds.length ys e→Q ys e0
theorem gS_map : ∀ (ix:List Nat) (f:Nat→Sl) (r:Sto) (j:Nat),gS (ix.map f++r) j=match ix[j]? with|some i=>f i|none=>gS r (j-ix.length)
 | [],f,r,j=>by simp
 | i::ix,f,r,0=>by simp [gS]
 | i::ix,f,r,j+1=>by simp only [List.map_cons,List.cons_append,gS,List.getElem?_cons_succ,List.length_cons,Nat.add_sub_add_right];exact gS_map ix f r j
theorem gS_rep (k j:Nat):gS (List.replicate k .non) j = .non:=by
 induction k generalizing j with
 | zero=>simp [gS]
 | succ k ih=>cases j with
  | zero=>simp [List.replicate_succ,gS]
  | succ j=>simp only [List.replicate_succ,gS];exact ih j
theorem vS_cap (ix:List Nat) (k:Nat) (σ:St) (j i:Nat) (h:ix[j]?=some i):vS (capS ix k σ) j=vS σ i:=by
 have hj:=(List.getElem?_eq_some_iff.mp h).1
 unfold vS capS
 rw [List.getElem?_append_left (by simpa using hj),List.getElem?_map,h]
 rfl
theorem EnvOk.cap {K:PySem.W.Frag}{M:Frm}{F H:Hp}{env:Sto}{σ:St} (I:EnvOk K M F H env σ) (ix:List Nat) (k:Nat):EnvOk K ⟨H,H,F⟩ F H (capE ix k env) (capS ix k σ) where
 len:=by simp [capE,capS]
 slot:=fun j=>by
  unfold capE
  rw [gS_map]
  cases h:ix[j]? with
  | none=>rw [gS_rep];trivial
  | some i =>
   show SlotOk K _ F H (gS env i).seen _
   rw [vS_cap ix k σ j i h]
   have S:=I.slot i
   cases q:gS env i with
   | val d=>rw [q] at S;exact S
   | non=>trivial
   | own ds=>trivial
   | pen ds=>trivial
   | new d=>rw [q] at S;obtain ⟨v,e,j⟩:=S;exact ⟨v,e,j.is newF_le⟩
   | exc C=>trivial
   | obj a0 C nm fs=>trivial
 dis:=fun i j a _ h1=>by
  unfold capE at h1
  rw [gS_map] at h1
  cases h:ix[i]? with
  | none=>rw [h,gS_rep] at h1;cases h1
  | some n =>
   rw [h] at h1
   replace h1:(gS env n).seen.mut=true:=h1
   cases q:gS env n <;> rw [q] at h1 <;> cases h1
 f0 :=.refl _
 fe:=I.fh
 fh:=I.fh
 bh :=.refl _
 new:=fun b o e => .inl e
 dom:=fun b o e=>⟨o,e⟩
theorem EnvOk.goOf {K:PySem.W.Frag}{F H F' H':Hp}{env:Sto}{σ:St} (I:EnvOk K ⟨H,H,F⟩ F' H' env σ):Go F H F' H':=⟨I.f0,I.bh,I.fh,I.new⟩
section
variable {K:PySem.W.Frag}{ix:List Nat}{n:Nat}{Wi:WF}{G:WG}{We:WE}{σ:St}{H:Hp}{R:VK}
theorem comp_lift (h:liftF K (wComp ix n Wi G We) σ H R):tComp ix n (liftI K Wi) (liftG K G) (liftE K We) σ H R:=by
 obtain ⟨M,env,F,Q,I,h,k⟩:=h
 refine ⟨M,env,F,_,I,h,fun ds J F1 H1 e1 I1 s1 jt xx109=>?_⟩
 obtain ⟨hz,P,p0,turn,fin⟩:=xx109
 refine ⟨fun i m ys σ1 H'=>m=ds.length-i∧i≤ds.length ∧ ∃ e' F' l,EnvOk K ⟨H1,H1,F1⟩ F' H' e' σ1∧Iss K F' l ys∧ys.length=i∧P i l e',⟨ds.length,by simp,Nat.zero_le _,capE ix n e1,F1,[],I1.cap ix n,iss_nil,rfl,p0⟩,?_⟩
 rintro i m ys σ1 H2 ⟨hm,hi,e2,F2,l,I2,i2,hl,p2⟩
 have g2:=I2.goOf
 by_cases he:i=ds.length
 ·subst he
  exact .inl ⟨jt.stop H2 (g2.f.trans g2.fh),by omega,new_lst (I1.go g2) (s1.trans g2.f) i2 (fin l e2 p2) k⟩
 ·have hlt:i<ds.length:=by omega
  refine .inr ⟨jt.go i H2 (g2.f.trans g2.fh) hlt,by omega,fun y σ' H' => ∃ e' F' l',EnvOk K ⟨H1,H1,F1⟩ F' H' e' σ'∧Iss K F' l' (ys++[y])∧P (i+1) l' e',
   fun y σ' H' xx108=>by obtain ⟨e',F',l',I',i',p'⟩:=xx108;exact ⟨ds.length-(i+1),by omega,rfl,hlt,e',F',l',I',i',by simp [hl],p'⟩,fun x H3 hy=>?_⟩
  obtain ⟨d,F3,hd,g,j⟩:=jt.yld i H2 x H3 F2 g2.f g2.fh hlt hy
  refine ⟨_,e2,F3,d,_,I2.go g,j,turn i d l e2 hd p2,fun F4 H4 e4 σ4 I4 s4 h4=>⟨_,e4,F4,_,I4,h4,fun d5 v5 F5 H5 e5 I5 s5 i5 h5=>?_⟩⟩
  exact ⟨e5,F5,l++[d5],I5,iss_append ((i2.mono (g.f.trans s4)).mono s5) (iss_cons i5 iss_nil),h5⟩
end
theorem vf_comp {elt target iter:Expr}{scope:Scope}{pos:Pos}{caps own:List Str}{ix:List Nat}{Wi:WF}{G:WG}{We:WE} (hc:X.calm=true) (S:CompScope X.env scope caps) (hi:VI X target iter Wi)
 (hg : ∀ pins s3 H ex,VG (blk X pins scope (caps++own) s3 H ex) target G)
 (he : ∀ pins s3 H ex,VE (blk X pins scope (caps++own) s3 H ex) elt We)
 (hix:caps.length=ix.length:=by rfl) (hcapB:(caps.zip ix).all (fun p=>X.N[p.2]?==some p.1)=true:=by rfl)
  (hs : ∀ x,foldedSetIterable iter X.env x=pure x:=by intro _;rfl):VF X (.ListComp elt [⟨target,iter,[],0⟩] scope pos) (wComp ix own.length Wi G We) :=
  (pe_comp (g:=liftG X.K G) (te:=liftE X.K We) hc S hi hg he hix hcapB hs).imp fun _ _ _ h=>comp_lift h
theorem comp_by {ix:List Nat}{k:Nat}{G:WG}{We:WE}{Q:List PyData→Sto→Prop}{ds:List PyData}{e0:Sto} (L:List PyData) (hl:L.length=ds.length) (hz:L.length<sizeLine) (Iv:Sto→Prop) (h0:Iv (capE ix k e0))
 (h : ∀ (i:Nat) d ys e,ds[i]?=some d→ys=L.take i→Iv e→G d e fun e1=>We e1 fun y e2=>ys++[y]=L.take (i+1)∧Iv e2) (q:Q L e0) :
 ds.length<sizeLine ∧ ∃ P:Nat→List PyData→Sto→Prop,P 0 [] (capE ix k e0)∧(∀ i d ys e,ds[i]?=some d→P i ys e→G d e fun e1=>We e1 fun y e2=>P (i+1) (ys++[y]) e2) ∧ ∀ ys e,P ds.length ys e→Q ys e0 :=
  ⟨by omega,fun i ys e=>ys=L.take i∧Iv e,⟨by simp,h0⟩,fun i d ys e hd hp=>h i d ys e hd hp.1 hp.2,fun ys e hp=>by rw [hp.1,← hl,List.take_length];exact q⟩
theorem snoc_take {α:Type}{L ys:List α}{y:α}{i:Nat} (e:L[i]?=some y) (h:ys=L.take i):ys++[y]=L.take (i+1):=by
 rw [h,List.take_add_one,e];rfl
def wIsi (T:String) (W:WE):WE:=fun env Q=>W env fun d e=>Q (.bool (isTy T d)) e
section
variable {a:Expr}{W:WE}{p pos pT:Pos}{T:String}{t:Str}
theorem ve_isi (hm:X.mg "isinstance" = none) (ht:X.mg t=none) (hv:bootBuiltins t=some (.type T)) (ha:VE X a W) (hk : ∀ d,PySem.W.kitOne X.K (.type (tyD d)) (.type T)=some (isTy T d):=by intro d;cases d <;> rfl)
 (hg:Gl X "isinstance":=by rfl) (hgt:Gl X t:=by rfl) (hn:t ≠ "__name__":=by decide) (hdt:(t==("__debug__" : Str))=false:=by decide)
 (hs:starEach [a,.Name t pT] X.env=(false,eval a X.env)::starEach [.Name t pT] X.env:=by rfl) (hs2:starEach [.Name t pT] X.env=(false,eval (.Name t pT) X.env)::starEach [] X.env:=by rfl) (hpl:(backTo pos (starEach [.Name t pT] X.env)).any (·.1)=false:=by rfl) :
 VE X (.Call (.Name "isinstance" p) [a,.Name t pT] [] pos) (wIsi T W) :=
 (pe_callB call_isi hg hm boot_isinstance (pa_cons ha (pa_cons (pe_bltn (v :=.ty T) hgt ht hv rfl hn hdt) pa_nil hs2) hs) (by decide) (by decide) hs hpl).imp fun σ H R xx110=>by
  obtain ⟨M,env,F,Q,I,h,k⟩:=xx110
  exact ⟨M,env,F,_,I,h,fun d v F1 H1 e1 I1 s1 i1 h1=>⟨d,v,T,isTy T d,rfl,i1.mono I1.fh,hk d,k _ _ F1 H1 e1 I1 s1 (is_bl _) h1⟩⟩
def wIsi2 (T T':String) (W:WE):WE:=fun env Q=>W env fun d e=>Q (.bool (isTy T d||isTy T' d)) e
theorem ve_isi2 {T':String}{t':Str}{pT' ptu:Pos}{x1:Nat} (hm:X.mg "isinstance" = none) (ht:X.mg t=none) (hv:bootBuiltins t=some (.type T)) (ht':X.mg t'=none) (hv':bootBuiltins t'=some (.type T')) (ha:VE X a W)
 (hk : ∀ d,PySem.W.kitAny X.K (.type (tyD d)) ([T,T'].map Value.type)=some (isTy T d||isTy T' d):=by intro d;cases d <;> rfl)
  (hg:Gl X "isinstance":=by rfl) (hgt:Gl X t:=by rfl) (hgt':Gl X t':=by rfl) (hn:t ≠ "__name__":=by decide) (hn':t' ≠ "__name__":=by decide) (hdt:(t==("__debug__" : Str))=false:=by decide) (hdt':(t'==("__debug__" : Str))=false:=by decide)
  (hs:starEach [a,.Tuple [.Name t pT,.Name t' pT'] x1 ptu] X.env=(false,eval a X.env)::starEach [.Tuple [.Name t pT,.Name t' pT'] x1 ptu] X.env:=by rfl)
  (hs2:starEach [.Tuple [.Name t pT,.Name t' pT'] x1 ptu] X.env=(false,eval (.Tuple [.Name t pT,.Name t' pT'] x1 ptu) X.env)::starEach [] X.env:=by rfl)
  (hs3:starEach [.Name t pT,.Name t' pT'] X.env=(false,eval (.Name t pT) X.env)::starEach [.Name t' pT'] X.env:=by rfl)
  (hs4:starEach [.Name t' pT'] X.env=(false,eval (.Name t' pT') X.env)::starEach [] X.env:=by rfl)
  (hpl:(backTo pos (starEach [.Tuple [.Name t pT,.Name t' pT'] x1 ptu] X.env)).any (·.1)=false:=by rfl) :
  VE X (.Call (.Name "isinstance" p) [a,.Tuple [.Name t pT,.Name t' pT'] x1 ptu] [] pos) (wIsi2 T T' W) :=
  (pe_callB call_isAny hg hm boot_isinstance (pa_cons ha (pa_cons (pe_tup (pa_cons (pe_bltn (v :=.ty T) hgt ht hv rfl hn hdt) (pa_cons (pe_bltn (v :=.ty T') hgt' ht' hv' rfl hn' hdt') pa_nil hs4) hs3)) pa_nil hs2) hs) (by decide) (by decide) hs hpl).imp fun σ H R xx111=>by
   obtain ⟨M,env,F,Q,I,h,k⟩:=xx111
   exact ⟨M,env,F,_,I,h,fun d v F1 H1 e1 I1 s1 i1 h1=>⟨szl,fun p hp=>⟨d,v,p,[T,T'],_,rfl,upd_same,(i1.mono I1.fh).mono (same_new hp),hk d,
    k _ _ F1 _ e1 (I1.go (.side I1.fh hp)) s1 (is_bl _) h1⟩⟩⟩
end
theorem c_sum (hc:X.calm=true):CallV X (.builtin "sum") dSum:=(call_sum hc).imp fun xs H Q xx112=>by
 obtain ⟨F,ds,q,s,i,h,k⟩:=xx112
 match ds,h,i with
 | [.list l],h,i =>
  obtain ⟨v,rfl,j⟩:=iss1 i
  obtain ⟨a,xs,rfl,hs,hr⟩:=j.lst_inv
  obtain ⟨ns,rfl,hq⟩:=h
  rw [hr.ints_inv] at hs
  exact ⟨a,ns,rfl,.inl (s.seq hs),k _ _ F H (.refl s) (is_int _) hq⟩
 | [.tuple l],h,i =>
  obtain ⟨v,rfl,j⟩:=iss1 i
  obtain ⟨a,xs,rfl,hs,hr⟩:=j.tup_inv
  obtain ⟨ns,rfl,hq⟩:=h
  rw [hr.ints_inv] at hs
  exact ⟨a,ns,rfl,.inr (same_seqT s hs),k _ _ F H (.refl s) (is_int _) hq⟩
def dSortF:List PyData→(List PyData→Prop)→Prop
 | [.list l],q => ∃ ns:List Int,l=ns.map .int∧ns.length<64 ∧ ∀ ns':List Int,ns'.Perm ns→ns'.Pairwise (· ≤ ·)→q (ns'.map .int)
 | _,_=>False
theorem c_sorted:CallVF X (.builtin "sorted") dSortF:=call_sorted.imp fun xs H Q xx113=>by
 obtain ⟨F,ds,q,s,i,h,k⟩:=xx113
 match ds,h,i with
 | [.list l],h,i =>
  obtain ⟨v,rfl,j⟩:=iss1 i
  obtain ⟨a,xs,rfl,hs,hr⟩:=j.lst_inv
  obtain ⟨ns,rfl,hz,hq⟩:=h
  rw [hr.ints_inv] at hs
  exact ⟨a,ns,rfl,s.seq hs,hz,fun p ns' hp h1 h2=>k _ p _ F _ (.side s hp) hp (same_none s hp) upd_same (iss_ints ns') (hq ns' h1 h2)⟩
def dAll:DC
 | [.list l],q => ∃ bs:List Bool,l=bs.map .bool∧q (.bool (bs.all id))
 | _,_=>False
theorem Iss.bools_inv {K:PySem.W.Frag}{H:Hp} : ∀ {bs:List Bool}{xs:List V},Iss K H (bs.map .bool) xs→xs=bs.map V.bl
 | [],_,h=>h.nil_inv
 | n::ns,_,h=>by
  obtain ⟨x,r,rfl,p,q⟩:=h.cons_inv
  rw [p.bl_inv,Iss.bools_inv q];rfl
theorem c_all (hc:X.calm=true):CallV X (.builtin "all") dAll:=(call_all hc).imp fun xs H Q xx114=>by
 obtain ⟨F,ds,q,s,i,h,k⟩:=xx114
 match ds,h,i with
 | [.list l],h,i =>
  obtain ⟨v,rfl,j⟩:=iss1 i
  obtain ⟨a,xs,rfl,hs,hr⟩:=j.lst_inv
  obtain ⟨bs,rfl,hq⟩:=h
  rw [hr.bools_inv] at hs
  exact ⟨a,bs,rfl,s.seq hs,k _ _ F H (.refl s) (is_bl _) hq⟩
end
def startE (N:List Str) (ds:List PyData):Sto:=ds.map .val++List.replicate (N.length-ds.length) .non
theorem gS_val : ∀ (ds:List PyData) (r:Sto) (j:Nat),gS (ds.map .val++r) j=match ds[j]? with|some d => .val d|none=>gS r (j-ds.length)
 | [],r,j=>by simp
 | i::ix,r,0=>by simp [gS]
 | i::ix,r,j+1=>by simp only [List.map_cons,List.cons_append,gS,List.getElem?_cons_succ,List.length_cons,Nat.add_sub_add_right];exact gS_val ix r j
theorem vS_start {N:List Str}{vs:List V}{j:Nat}{v:V} (h:vs[j]?=some v):vS (start N vs) j=some v:=by
 have hj:=(List.getElem?_eq_some_iff.mp h).1
 unfold vS start
 rw [List.getElem?_append_left (by simpa using hj),List.getElem?_map,h]
 rfl
theorem env_start {K:PySem.W.Frag}{F H:Hp}{N:List Str}{ds:List PyData}{vs:List V} (s:Same F H) (i:Iss K F ds vs):EnvOk K ⟨H,H,F⟩ F H (startE N ds) (start N vs) where
 len:=by simp [startE,start,i.len]
 slot:=fun j=>by
  unfold startE
  rw [gS_val]
  cases h:ds[j]? with
  | none=>rw [gS_rep];trivial
  | some d =>
   obtain ⟨x,e1,e2⟩:=i.get h
   exact ⟨x,vS_start e1,e2⟩
 dis:=fun i j a _ h1=>by
  unfold startE at h1
  rw [gS_val] at h1
  cases h:ds[i]? with
  | none=>rw [h,gS_rep] at h1;cases h1
  | some d=>rw [h] at h1;cases h1
 f0 :=.refl _
 fe:=s
 fh:=s
 bh :=.refl _
 new:=fun b o e => .inl e
 dom:=fun b o e=>⟨o,e⟩
section
variable {P:Program}{w:World}{K:PySem.W.Frag}{mg:Str→Option Value}{base:Heap}
theorem RetOk.is {F H F' H':Hp}{env:Sto}{σ:St}{r:Ret}{v:V} (I:EnvOk K ⟨H,H,F⟩ F' H' env σ) (h:RetOk K ⟨H,H,F⟩ F' H' r v) : ∃ F'',Go F H F'' H'∧Is K F'' r.data v:=by
 have g:=I.goOf
 cases r with
 | val d=>exact ⟨F',g,h⟩
 | new d=>exact ⟨F',g,IsN.is newF_le h⟩
 | own ds =>
  obtain ⟨a,vs,rfl,h1,h2,h3,h4,h5⟩:=h
  have s:Same F' (upd F' a (.lst vs)):=same_new h2
  refine ⟨upd F' a (.lst vs),⟨g.f.trans s,g.h,fun b o e=>?_,fun b o e=>?_⟩,is_lst (SqL.of upd_same) (h5.mono s)⟩
  ·by_cases z:b=a
   ·subst z;rw [upd_same] at e;rw [h1];exact .of e
   ·rw [upd_ne z] at e;exact g.fh b o e
  ·by_cases z:b=a
   ·subst z;exact .inr h4
   ·rw [upd_ne z] at e;exact g.new b o e
theorem Def.vok {x:Str}{st:Stmt}{N ps:List Str}{k:Nat}{sp:DC} (F:Def K mg x st ps) (S:FnScope N ps (defScope st)) (len : ∀ ds q,sp ds q→ds.length=ps.length)
 (hbody : ∀ (f:Addr) (cdv:Value) (A:Around) (outer:List Env) (s:Shared) (H:Hp) (E:XK),Room k (A.deeper (envOfC x (defScope st) s.heap.objs.size f cdv)) → ∀ ds q,sp ds q →
 ∃ W,VSs (cxOf CX0 P w K mg base N x (defScope st) f cdv A outer s H E).nox (defBody st) W∧W { nx:=fun _=>q .none,rt:=fun r _=>q r.data } (startE N ds)):Ok P w K mg base x (k+1) ps (PSp K sp) :=
  F.ok S (fun vs H Q E xx116=>by obtain ⟨F,ds,q,_,i,h,_⟩:=xx116;rw [i.len];exact len ds q h) fun f cdv A outer s H vs Q E hr xx115=>by
   obtain ⟨F,ds,q,sm,i,h,kk⟩:=xx115
   obtain ⟨W,hW,hq⟩:=hbody f cdv A outer s H E hr ds q h
   refine ⟨_,hW,⟨H,H,F⟩,startE N ds,F,_,env_start sm i,hq,⟨fun e1 F1 H1 σ1 I1 s1 q1=>kk _ _ F1 H1 I1.goOf is_non q1,fun r v e1 F1 H1 σ1 I1 s1 r1 q1=>?_,fun _ _ _ _ _ _ h=>h.elim,fun _ _ _ _ _ _ h=>h.elim⟩⟩
   obtain ⟨F2,g,j⟩:=r1.is I1
   exact kk _ _ F2 H1 g j q1
theorem Def.vokF {x:Str}{st:Stmt}{N ps:List Str}{k:Nat}{sp:List PyData→(List PyData→Prop)→Prop} (F:Def K mg x st ps) (S:FnScope N ps (defScope st)) (len : ∀ ds q,sp ds q→ds.length=ps.length)
 (hbody : ∀ (f:Addr) (cdv:Value) (A:Around) (outer:List Env) (s:Shared) (H:Hp) (E:XK),Room k (A.deeper (envOfC x (defScope st) s.heap.objs.size f cdv)) → ∀ ds q,sp ds q →
 ∃ W,VSs (cxOf CX0 P w K mg base N x (defScope st) f cdv A outer s H E).nox (defBody st) W∧W { nx:=fun _=>False,rt:=fun r _ => ∃ l,r = .own l∧q l } (startE N ds)):Ok P w K mg base x (k+1) ps (FSp K sp) :=
  F.ok S (fun vs H Q E xx118=>by obtain ⟨F,ds,q,_,i,h,_⟩:=xx118;rw [i.len];exact len ds q h) fun f cdv A outer s H vs Q E hr xx117=>by
   obtain ⟨F,ds,q,sm,i,h,kk⟩:=xx117
   obtain ⟨W,hW,hq⟩:=hbody f cdv A outer s H E hr ds q h
   refine ⟨_,hW,⟨H,H,F⟩,startE N ds,F,_,env_start sm i,hq,⟨fun e1 F1 H1 σ1 I1 s1 q1=>q1.elim,fun r v e1 F1 H1 σ1 I1 s1 r1 q1=>?_,fun _ _ _ _ _ _ h=>h.elim,fun _ _ _ _ _ _ h=>h.elim⟩⟩
   obtain ⟨l,rfl,q1⟩:=q1
   obtain ⟨a,vs,rfl,h1,h2,h3,h4,h5⟩:=r1
   exact kk l a vs F1 H1 I1.goOf h4 h2 h1 h5 q1
def spLaw (K:PySem.W.Frag):Sp:=fun vs H Q _ => ∃ (a:Addr) (ns:List Int),vs=[.ref a]∧SqL K H a (ns.map V.int)∧ns.length≤63 ∧ ∀ H',Q (.bl true) H'
theorem Fun.vlaw {x:Str}{st:Stmt}{f:Addr}{fd:FuncData}{N ps:List Str}{k:Nat} (F:Fun K x x st f fd) (S:FnScope N ps (defScope st)) (hp:ps.length=1)
 (hbody : ∀ (cdv:Value) (A:Around) (outer:List Env) (s:Shared) (H:Hp) (E:XK),Room k (A.deeper (envOfC x (defScope st) s.heap.objs.size f cdv)) → ∀ ns:List Int,ns.length≤63 →
 ∃ W,VSs (cxOf CX0 P w K mg base N x (defScope st) f cdv A outer s H E).nox (defBody st) W∧W { nx:=fun _=>False,rt:=fun r _=>r.data = .bool true } (startE N [.list (ns.map .int)])):FnOk P w K mg base CX0 (k+1) f fd ps (spLaw K):=by
  refine F.ok S (fun vs H Q E h=>?_) (fun cdv A outer s H vs Q E hr h=>?_)
  ·obtain ⟨a,ns,rfl,_⟩:=h
   exact hp.symm
  ·obtain ⟨a,ns,rfl,hS,hlen,kk⟩:=h
   have hi:Iss K H [.list (ns.map .int)] [.ref a]:=iss_cons (is_lst hS (iss_ints ns)) iss_nil
   obtain ⟨W,hW,hq⟩:=hbody cdv A outer s H E hr ns hlen
   refine ⟨_,hW,⟨H,H,H⟩,startE N _,H,_,env_start (.refl _) hi,hq,⟨fun e1 F1 H1 σ1 I1 s1 q1=>q1.elim,fun r v e1 F1 H1 σ1 I1 s1 r1 q1=>?_,fun _ _ _ _ _ _ h=>h.elim,fun _ _ _ _ _ _ h=>h.elim⟩⟩
   obtain ⟨F2,g,j⟩:=r1.is I1
   have q1:r.data = .bool true:=q1
   rw [q1] at j
   rw [j.bl_inv]
   exact kk H1
end
end L2
namespace L2
open PySem PySem.Spec PyProof.Rows
section
variable (K:PySem.W.Frag)
def liftN (W:WE):TE:=fun σ H R => ∃ M env F Q,EnvOk K M F H env σ∧W env Q ∧ ∀ d v F' H' env',EnvOk K M F' H' env' σ→Same F F'→IsN K (newF M F') d v→Q d env'→R v H'
def liftFN (W:WF):TE:=fun σ H R => ∃ M env F Q,EnvOk K M F H env σ∧W env Q ∧ ∀ a vs ds F' H' env',EnvOk K M F' H' env' σ→Same F F'→H' a=some (.lst vs)→F' a=none→M.B a=none→M.He a=none →
 (∀ i,(gS env' i).mut=true→vS σ i≠some (.ref a))→IssN K (newF M F') ds vs→Q ds env'→R (.ref a) H'
structure EndsT (M:Frm) (DD:WEnds) (D:Ends):Prop where
 nx : ∀ env' F' H' σ',EnvOk K M F' H' env' σ'→DD.nx env'→D.nx σ' H'
 rt : ∀ r v env' F' H' σ',EnvOk K M F' H' env' σ'→RetOk K M F' H' r v→DD.rt r env'→D.rt v H'
 bk : ∀ env' F' H' σ',EnvOk K M F' H' env' σ'→DD.bk env'→D.bk σ' H'
 ct : ∀ env' F' H' σ',EnvOk K M F' H' env' σ'→DD.ct env'→D.ct σ' H'
def liftST (W:WS):TS:=fun D σ H => ∃ M env F DD,EnvOk K M F H env σ∧W DD env∧EndsT K M DD D
end
def VN (X:Cx) (e:Expr) (W:WE):Prop:=PE X e (liftN X.K W)
def VFN (X:Cx) (e:Expr) (W:WF):Prop:=PE X e (liftFN X.K W)
def VST (X:Cx) (st:Stmt) (W:WS):Prop:=PS X st (liftST X.K W)
def VSsT (X:Cx) (st:List Stmt) (W:WS):Prop:=PSs X st (liftST X.K W)
section
variable {X:Cx}{a b e:Expr}{W:WE}{Wf:WF}{pos p:Pos}
end
section
variable {P:Program}{w:World}{K:PySem.W.Frag}{mg:Str→Option Value}{base:Heap}
end
section
variable {X:Cx}{c e:Expr}{Tc:WT}{W:WE}{Wt Wu:WS}{st:Stmt}{sts rest:List Stmt}{pos pos':Pos}
mutual
def immD:PyData→Bool
 | .list _=>false
 | .tuple l=>immAll l
 | .dict _=>false
 | _=>true
def immAll:List PyData→Bool
 | []=>true
 | d::l=>immD d&&immAll l
end
mutual
theorem Is.imm {K:PySem.W.Frag}{F F':Hp} (s : ∀ b o,F b=some o→(∀ xs,o ≠ .lst xs)→F' b=some o) : ∀ {d:PyData}{v:V},immD d=true→Is K F d v→Is K F' d v
 | .none,_,_,h=>by unfold Is at h ⊢;exact h
 | .bool _,_,_,h=>by unfold Is at h ⊢;exact h
 | .int _,_,_,h=>by unfold Is at h ⊢;exact h
 | .str _,_,_,h=>by unfold Is at h ⊢;exact h
 | .list l,_,m,h=>by unfold immD at m;cases m
 | .dict l,_,m,h=>by unfold immD at m;cases m
 | .tuple l,_,m,h=>by
  unfold immD at m
  unfold Is at h ⊢
  obtain ⟨a,xs,e,q,r⟩:=h
  refine ⟨a,xs,e,?_,Iss.imm s m r⟩
  rcases q with (q|⟨o,q⟩)|q
  ·exact .inl (.inl (s _ _ q (fun _ z=>nomatch z)))
  ·exact .inl (.inr ⟨o,s _ _ q (fun _ z=>nomatch z)⟩)
  ·exact .inr q
theorem Iss.imm {K:PySem.W.Frag}{F F':Hp} (s : ∀ b o,F b=some o→(∀ xs,o ≠ .lst xs)→F' b=some o) : ∀ {l:List PyData}{xs:List V},immAll l=true→Iss K F l xs→Iss K F' l xs
 | [],_,_,h=>by unfold Iss at h ⊢;exact h
 | d::l,_,m,h=>by
  unfold immAll at m
  rw [Bool.and_eq_true] at m
  unfold Iss at h ⊢
  obtain ⟨x,r,e,p,q⟩:=h
  exact ⟨x,r,e,Is.imm s m.1 p,Iss.imm s m.2 q⟩
end
end
section
variable {X:Cx}
end
end L2
namespace L2
open PySem PySem.Spec PyProof.Rows
section
variable {X:Cx}{elt target iter:Expr}{scope:Scope}{pos:Pos}{caps own:List Str}{ix:List Nat}{wi:TI}{g:TG}{te:TE}
end
section
variable {K:PySem.W.Frag}{ix:List Nat}{n:Nat}{Wi:WF}{G:WG}{We:WE}{σ:St}{H:Hp}{R:VK}
end
section
variable {X:Cx}{elt target iter:Expr}{scope:Scope}{pos py spos:Pos}{caps own:List Str}{ix:List Nat}{Wi:WF}{G:WG}{We:WE}{i:Nat}{y:Str}
end
end L2
namespace L2
open PySem PySem.Spec PyProof.Rows
section
variable {X:Cx}{tg:Expr}
end
def offA (H:Hp) (a:Addr):Hp:=fun b=>if b=a then none else H b
section
variable {X:Cx}
end
section
variable {P:Program}{w:World}{K:PySem.W.Frag}{mg:Str→Option Value}{base:Heap}
end
end L2
namespace L2
open PySem PySem.Spec PyProof.Rows
section
variable {X:Cx}{elt target iter:Expr}{scope:Scope}{pos py spos:Pos}{caps own:List Str}{ix:List Nat}{Wi:WF}{G:WG}{We:WE}{i i0 j0:Nat}{y:Str}
end
end L2
namespace L2
open PySem PySem.Spec PyProof.Rows
section
variable {X:Cx}{pins:List (Addr×Obj)}{σ:St}{H:Hp}{s:Shared}
end
section
variable {P:Program}{w:World}{K:PySem.W.Frag}{mg:Str→Option Value}{base:Heap}{N:List Str}{qual:Str}{scope:Scope}{f:Addr}{cd:Value}{A:Around}{outer:List Env}{s:Shared}{H:Hp}{E:XK}
end
end L2
namespace L2
open PySem PySem.Spec PyProof.Rows
section
variable {X:Cx}{x:Str}{C:Addr}{E:XK}{e:Expr}{es:List Expr}{t:TA}{np cpos pos:Pos}
end
end L2
namespace L2
open PySem PySem.Spec PyProof.Rows
section
variable {M:Model}{A:Around}{E:Value→Shared→Prop}{C N C' N':Addr}{nm nm' q q':Str}{bs bm bs' bm':List Value}
end
section
variable {X:Cx}{pins:List (Addr×Obj)}{σ:St}{H1 H2:Hp}{s1 s':Shared}{B h5:Heap}
end
section
variable {X:Cx}{pins:List (Addr×Obj)}{σ:St}{H:Hp}{s:Shared}
end
end L2
namespace L2
open PySem PySem.Spec PyProof.Rows
section
variable {X:Cx}{pins pins0:List (Addr×Obj)}{σ:St}{H:Hp}{s:Shared}
end
section
variable {X:Cx}{body suite:List Stmt}{b₀:Stmt}{x n:Str}{np hpos pos:Pos}{C':Addr}{i:Nat}{tb:(St→XK)→TS}{ts:TS}
end
end L2
namespace L2
open PySem PySem.Spec PyProof.Rows
section
variable {K:PySem.W.Frag}{M:Frm}{F H:Hp}{env:Sto}{σ:St}
end
abbrev WX:=Addr→Sto→Prop
def ExOk (K:PySem.W.Frag) (M:Frm) (F:Hp) (Wx:WX) (Ex:St→XK):Prop := ∀ C env' F' H' σ',EnvOk K M F' H' env' σ'→Same F F'→Wx C env'→Ex σ' (.ref C) none H'
def liftEX (K:PySem.W.Frag) (Ex:St→XK) (W:WX→WE):TE:=fun σ H R => ∃ M env F Wx Q,EnvOk K M F H env σ∧W Wx env Q∧ExOk K M F Wx Ex ∧ ∀ d v F' H' env',EnvOk K M F' H' env' σ→Same F F'→Is K F' d v→Q d env'→R v H'
def liftSX (K:PySem.W.Frag) (Ex:St→XK) (W:WX→WS):TS:=fun D σ H => ∃ M env F Wx DD,EnvOk K M F H env σ∧W Wx DD env∧ExOk K M F Wx Ex∧EndsOk K M F DD D
def VEX (X:Cx) (Ex:St→XK) (e:Expr) (W:WX→WE):Prop:=PE X e (liftEX X.K Ex W)
def VSX (X:Cx) (Ex:St→XK) (st:Stmt) (W:WX→WS):Prop:=PS X st (liftSX X.K Ex W)
def VSsX (X:Cx) (Ex:St→XK) (st:List Stmt) (W:WX→WS):Prop:=PSs X st (liftSX X.K Ex W)
abbrev DE:=List PyData→(PyData→Prop)→(Addr→Prop)→Prop
section
variable {X:Cx}{Ex:St→XK}{x:Str}{k:Nat}{ps:List Str}{sp:DE}{e c:Expr}{es:List Expr}{p pos:Pos}{Wr:WF}{st:Stmt}{rest A B:List Stmt}{Tc:WT}{W:WX→WE}{Wt Wu:WX→WS}{W0:WS}
end
end L2
namespace L2
open PySem PySem.Spec PyProof.Rows
section
variable {X:Cx}{Ex:St→XK}{E:XK}{x y n:Str}{k i j:Nat}{ps:List Str}{sp:DE}{e:Expr}{es:List Expr}{p np cpos hpos pos pos':Pos}{Wr:WF}{st b₀:Stmt}{body suite:List Stmt}{C C':Addr}{Wb:WX→WS}{Ws:WS}
end
section
variable {P:Program}{w:World}{K:PySem.W.Frag}{mg:Str→Option Value}{base:Heap}
end
end L2
namespace L2
open PySem PySem.Spec PyProof.Rows
section
variable {prog:Program}{w:World}{A:Around}{E:Value→Shared→Prop}{h:Heap}{g:Array GenState}{d:Drawn}{t:Nat}{os:OsState}{a:Addr}{o:Obj}{K:PySem.W.Frag}
 {nm q:Str}{C N:Addr}{bs bm:List Value}{hdct:Bool}{sn:List Str}{sub:List Value}{ab:Bool}{col:Option Bool}{dd:Option Addr}{k0 k1 k2 k3 k5:Option Value}{newId:String}
end
end L2
namespace L2
open PySem PySem.Spec PyProof.Rows
section
variable {X:Cx}
section
variable {y:Str}{c:Expr}{cs:List Expr}{v:V}{vs:List V}{u:Value}{us:List Value}{p py pt pos:Pos}{x1:Nat}
end
end
end L2
namespace L2
open PySem PySem.Spec PyProof.Rows
section
variable {prog:Program}{w:World}{A:Around}{E:Value→Shared→Prop}{s:Shared}
end
end L2
namespace L2
open PySem PySem.Spec PyProof.Rows
section
variable {X:Cx}{pins:List (Addr×Obj)}{σ:St}{H:Hp}{s:Shared}{b:Bool}{a:Addr}{xs ys:List V}
end
section
variable {X:Cx}{elts:List Expr}{x1:Nat}{tpos:Pos}
end
section
variable {X:Cx}{a b:Expr}{p pos:Pos}{elts:List Expr}{x1:Nat}{tpos:Pos}
end
end L2
namespace L2
open PySem PySem.Spec PyProof.Rows
section
variable {X:Cx}
end
end L2
namespace L2
open PySem PySem.Spec PyProof.Rows
section
variable {X:Cx}{e:Expr}{W:WF}{We:WE}{pos:Pos}
end
end L2
namespace L2
open PySem PySem.Spec PyProof.Rows
section
variable {prog:Program}{w:World}{A:Around}{E:Value→Shared→Prop}{s:Shared}
end
section
variable {X:Cx}
end
end L2
namespace L2
open PySem PySem.Spec PyProof.Rows
section
variable {X:Cx}{a b c d:Expr}{pos:Pos}{ta tb tc td:TE}
variable {Wa Wb Wc Wd:WE}
end
end L2
namespace L2
open PySem PySem.Spec PyProof.Rows
section
variable {X:Cx}{elt target iter cnd:Expr}{scope:Scope}{pos:Pos}{caps own:List Str}{ix:List Nat}{wi:TI}{g:TG}{te:TE}{tt:TT}
section
variable {K:PySem.W.Frag}{ix:List Nat}{n:Nat}{Wi:WF}{G:WG}{Wt:WT}{We:WE}{σ:St}{H:Hp}{R:VK}
end
end
end L2
namespace L2
open PySem PySem.Spec PyProof.Rows
section
variable {X:Cx}
end
section
variable {X:Cx}{e:Expr}{We:WE}{pos:Pos}
variable {x:Str}{px apos cpos:Pos}
end
end L2
namespace L2
open PySem PySem.Spec PyProof.Rows
section
variable {prog:Program}{w:World}{A:Around}{E:Value→Shared→Prop}{s:Shared}
end
section
variable {X:Cx}{elts:List Expr}{x1:Nat}{tpos:Pos}
end
section
variable {X:Cx}{a:Expr}{W:WE}{p pos:Pos}
variable {e1 e2:Expr}{W1 W2:WE}
def wPar (i j:Nat) (Wr:WF):WS:=fun D env=>Wr env fun ds e=>match ds with
 | [d,d']=>D.nx ((e.set i (.val d)).set j (.val d'))
 | _=>False
theorem vs_par {i j:Nat}{x y:Str}{a b:Expr}{Wr:WF}{px py pt pos:Pos}{kt k2 pt2} (hc:X.calm=true) (hN:X.N.Nodup) (ha:VA X [a,b] Wr) (hi:X.N[i]?=some x:=by rfl) (hj:X.N[j]?=some y:=by rfl) (hij:i≠j:=by decide)
 (hx:X.env.scope.names.lookup x=some .local:=by rfl) (hy:X.env.scope.names.lookup y=some .local:=by rfl)
 (hw:swappedStores [.Tuple [.Name x px,.Name y py] kt pt] (.Tuple [a,b] k2 pt2) X.env=pure (some [x,y]):=by rfl)
 (hs:swapsWithSole [.Tuple [.Name x px,.Name y py] kt pt] (.Tuple [a,b] k2 pt2) pos.line X.env=pure false:=by rfl) :
 VS X (.Assign [.Tuple [.Name x px,.Name y py] kt pt] (.Tuple [a,b] k2 pt2) pos) (wPar i j Wr) :=
 (ps_par hc hN hi hj hij hx hy ha hw hs).imp fun D σ H xx120=>by
  obtain ⟨M,env,F,DD,I,h,k⟩:=xx120
  refine ⟨M,env,F,_,I,h,fun ds vs F1 H1 e1 I1 s1 i1 h1=>?_⟩
  cases ds with
  | nil=>exact h1.elim
  | cons d r=>cases r with
   | nil=>exact h1.elim
   | cons d' r=>cases r with
    | cons _ _=>exact h1.elim
    | nil =>
     obtain ⟨v,w',rfl,j1,j2⟩:=iss2 i1
     exact ⟨v,w',rfl,k.nx _ F1 H1 _ ((I1.setv j1).setv j2) s1 h1⟩
end
end L2
namespace L2
open PySem PySem.Spec PyProof.Rows
section
variable {X:Cx}
end
end L2
namespace L2
open PySem PySem.Spec PyProof.Rows
section
variable {X:Cx}
end
end L2
namespace L2
open PySem PySem.Spec PyProof.Rows
section
variable {X:Cx}
end
section
variable {P:Program}{w:World}{K:PySem.W.Frag}{mg:Str→Option Value}{base:Heap}
end
end L2
namespace L2
open PySem PySem.Spec PyProof.Rows
section
variable {X:Cx}{elt target iter cnd:Expr}{scope:Scope}{pos:Pos}{caps own:List Str}{ix:List Nat}{wi:TI}{g:TG}{te:TE}{tt:TT}
end
section
variable {X:Cx}{elt target iter cnd:Expr}{scope:Scope}{pos py spos:Pos}{caps own:List Str}{ix:List Nat}{Wi:WF}{G:WG}{Wt:WT}{We:WE}{i:Nat}{y:Str}
end
end L2
namespace L2
open PySem PySem.Spec PyProof.Rows
section
variable {κ:Type} [DecidableEq κ]
end
section
variable {P:Program}{w:World}{H:Hp}{h:Heap}{a:Addr}
end
section
variable {X:Cx}{pins:List (Addr×Obj)}{σ:St}{H:Hp}{s:Shared}{a:Addr}{y v:V}{u r:Value}{o:Option V}{A:Around}{E:Value→Shared→Prop}
end
section
variable {X:Cx}{pins:List (Addr×Obj)}{σ:St}{H:Hp}{s:Shared}{a:Addr}{kvs:List (Key×V)}{k:Key}{u:Value}{A:Around}{E:Value→Shared→Prop}
end
section
variable {X:Cx}{o i e value:Expr}{pos pos' tpos:Pos}{td ty tv:TE}
end
section
variable {X:Cx}{pos:Pos}
end
section
variable {X:Cx}{pins:List (Addr×Obj)}{σ:St}{H:Hp}{s:Shared}{a:Addr}{y d:V}{u r:Value}{o:Option V}{A:Around}{E:Value→Shared→Prop}
end
section
variable {X:Cx}{o e f:Expr}{apos cpos:Pos}{td ty tx:TE}
end
end L2
namespace L2
open PySem PySem.Spec PyProof.Rows
section
variable {X:Cx}
def dStrI:DC
 | [.int i],q=>i.natAbs.log2<1920∧q (.str (toString i))
 | _,_=>False
theorem c_strI:CallV X (.type "str") dStrI:=call_str_int.imp fun xs H Q xx121=>by
 obtain ⟨F,ds,q,s,i,h,k⟩:=xx121
 match ds,h,i with
 | [.int n],h,i =>
  obtain ⟨v,rfl,j⟩:=iss1 i
  exact ⟨n,by rw [j.int_inv],h.1,k _ _ F H (.refl s) (is_str _) h.2⟩
end
end L2
namespace L2
open PySem PySem.Spec PyProof.Rows
section
variable {P:Program}{w:World}{K:PySem.W.Frag}{mg:Str→Option Value}{base:Heap}
end
section
variable {X:Cx}
end
end L2
namespace L2
open PySem PySem.Spec PyProof.Rows
section
variable {X:Cx}
end
mutual
def flatD:PyData→Bool
 | .list _=>false
 | .dict _=>false
 | .tuple l=>flatDs l
 | _=>true
def flatDs:List PyData→Bool
 | []=>true
 | d::l=>flatD d&&flatDs l
end
mutual
theorem Is.off {K:PySem.W.Frag}{F:Hp}{a:Addr}{xs:List V} (hF:F a=some (.lst xs)) : ∀ {d:PyData}{v:V},flatD d=true→Is K F d v→Is K (offA F a) d v
 | .none,_,_,h=>by unfold Is at h ⊢;exact h
 | .bool _,_,_,h=>by unfold Is at h ⊢;exact h
 | .int _,_,_,h=>by unfold Is at h ⊢;exact h
 | .str _,_,_,h=>by unfold Is at h ⊢;exact h
 | .list l,_,z,h=>by simp [flatD] at z
 | .dict l,_,z,h=>by simp [flatD] at z
 | .tuple l,_,z,h=>by
  unfold Is at h ⊢
  obtain ⟨b,ys,e,q,r⟩:=h
  refine ⟨b,ys,e,?_,Iss.off hF (by simpa [flatD] using z) r⟩
  rcases q with q|q
  ·refine .inl ?_
   rcases q with q|⟨o,q⟩
   ·refine .inl ?_
    unfold offA
    rw [if_neg (fun y=>by subst y;rw [hF] at q;cases q)];exact q
   ·refine .inr ⟨o,?_⟩
    unfold offA
    rw [if_neg (fun y=>by subst y;rw [hF] at q;cases q)];exact q
  ·exact .inr q
theorem Iss.off {K:PySem.W.Frag}{F:Hp}{a:Addr}{xs:List V} (hF:F a=some (.lst xs)) : ∀ {l:List PyData}{vs:List V},flatDs l=true→Iss K F l vs→Iss K (offA F a) l vs
 | [],_,_,h=>by unfold Iss at h ⊢;exact h
 | d::l,_,z,h=>by
  unfold Iss at h ⊢
  obtain ⟨x,r,e,p,q⟩:=h
  have z':flatD d=true∧flatDs l=true:=by simpa [flatDs] using z
  exact ⟨x,r,e,Is.off hF z'.1 p,Iss.off hF z'.2 q⟩
end
section
variable {X:Cx}
end
end L2
namespace L2
open PySem PySem.Spec PyProof.Rows
section
variable {K:PySem.W.Frag}{M:Frm}{F H:Hp}
end
section
variable {X:Cx}
end
section
variable {X:Cx}
end
end L2
namespace L2
open PySem PySem.Spec PyProof.Rows
section
variable {X:Cx}
end
end L2
namespace L2
open PySem PySem.Spec PyProof.Rows
section
variable {X:Cx}
end
end L2
namespace L2
open PySem PySem.Spec PyProof.Rows
section
variable {X:Cx}{e:Expr}{We:WE}{pos:Pos}
end
end L2
namespace L2
open PySem PySem.Spec PyProof.Rows
section
variable {X:Cx}
end
end L2
namespace L2
open PySem PySem.Spec PyProof.Rows
section
variable {X:Cx}{pos:Pos}
end
end L2
namespace L2
open PySem PySem.Spec PyProof.Rows
mutual
def flatN:PyData→Bool
 | .list _=>false
 | .dict _=>false
 | .tuple l=>flatNs l
 | _=>true
def flatNs:List PyData→Bool
 | []=>true
 | d::l=>flatN d&&flatNs l
end
mutual
theorem is_off {K:PySem.W.Frag}{F:Hp}{a:Addr}{vs:List V} (h:F a=some (.lst vs)) : ∀ {d:PyData}{v:V},flatN d=true→Is K F d v→Is K (offA F a) d v
 | .none,_,_,i=>by unfold Is at i ⊢;exact i
 | .bool _,_,_,i=>by unfold Is at i ⊢;exact i
 | .int _,_,_,i=>by unfold Is at i ⊢;exact i
 | .str _,_,_,i=>by unfold Is at i ⊢;exact i
 | .list l,_,z,_=>by unfold flatN at z;cases z
 | .dict l,_,z,_=>by unfold flatN at z;cases z
 | .tuple l,_,z,i=>by
  unfold flatN at z
  unfold Is at i ⊢
  obtain ⟨b,xs,e,q,r⟩:=i
  refine ⟨b,xs,e,?_,iss_off h z r⟩
  rcases q with (q|⟨o,q⟩)|q
  ·exact .inl (.inl (by unfold offA;rw [if_neg (fun c=>by rw [c,h] at q;cases q)];exact q))
  ·exact .inl (.inr ⟨o,by unfold offA;rw [if_neg (fun c=>by rw [c,h] at q;cases q)];exact q⟩)
  ·exact .inr q
theorem iss_off {K:PySem.W.Frag}{F:Hp}{a:Addr}{vs:List V} (h:F a=some (.lst vs)) : ∀ {l:List PyData}{xs:List V},flatNs l=true→Iss K F l xs→Iss K (offA F a) l xs
 | [],_,_,i=>by unfold Iss at i ⊢;exact i
 | d::l,_,z,i=>by
  unfold flatNs at z
  rw [Bool.and_eq_true] at z
  unfold Iss at i ⊢
  obtain ⟨x,r,e,p,q⟩:=i
  exact ⟨x,r,e,is_off h z.1 p,iss_off h z.2 q⟩
end
section
variable {X:Cx}
end
end L2
namespace L2
open PySem PySem.Spec PyProof.Rows
section
variable {X:Cx}{Ex:St→XK}{a b:Expr}{rest:List Expr}{pos:Pos}{Wa Wx2:WX→WE}{Wb:WE}
end
end L2
namespace L2
open PySem PySem.Spec PyProof.Rows
section
variable {X:Cx}
end
section
variable {X:Cx}{elt target iter cnd:Expr}{scope:Scope}{pos py spos:Pos}{caps own:List Str}{ix:List Nat}{Wi:WF}{G:WG}{Wt:WT}{We:WE}{i:Nat}{y:Str}
end
end L2
namespace L2
open PySem PySem.Spec PyProof.Rows
section
variable {X:Cx}{b:Expr}{Wb:WE}{pos px:Pos}
end
end L2
namespace L2
open PySem PySem.Spec PyProof.Rows
section
variable {X:Cx}{Ex:St→XK}{pos:Pos}{Wt:WX→WS}
end
end L2
namespace L2
open PySem PySem.Spec PyProof.Rows PySem.W
section
variable {n:Nat}{lt:Nat→Nat→Bool}{p:Array Nat}
end
section
variable {n:Nat}{lt:Nat→Nat→Bool}{cmp:Nat→Nat→(Bool→Shared→Prop)→Shared→Prop}{s:Shared}
end
end L2
namespace L2
open PySem PySem.Spec PyProof.Rows PySem.W
section
variable {prog:Program}{w:World}{A:Around}{R:Result→Shared→Prop}{s:Shared}
end
section
variable {P:Program}{w:World}{K:PySem.W.Frag}{mg:Str→Option Value}{base:Heap}{q:Str}{scope:Scope}{f cg:Addr}{cd ug u:Value}{x y:Str}{A:Around}{outer:List Env}{s:Shared}{H:Hp}{v vg:V}{h1:Heap}{tk:Nat}
end
end L2
namespace L2
open PySem PySem.Spec PyProof.Rows PySem.W
section
variable {X:Cx}{pins:List (Addr×Obj)}{σ:St}{H:Hp}{s:Shared}{tb c0:Addr}{nm qual:Str}{params:Arguments}{body:Expr}{scope:Scope}{clos:List (Str×Addr)}{pos:Pos}{line:Nat}{Q:Value→Shared→Prop}
end
end L2
namespace L2
open PySem PySem.Spec PyProof.Rows PySem.W
def lexN (x y:Nat→Int):Nat→Nat→Bool
 | 0,_=>false
 | k+1,i=>if x i==y i then lexN x y k (i+1) else decide (x i<y i)
end L2
namespace L2
open PySem PySem.Spec PyProof.Rows PySem.W
section
variable {X:Cx}{pins:List (Addr×Obj)}{σ:St}{H:Hp}{s:Shared}
variable {A:Around}{E:Value→Shared→Prop}{f:Value}{vs:List Value}{kl:Nat→List Int}{G:Hp→Prop}{m:Nat}{a kS:Addr}{e1:Nat}{b:Bool}{P:PySem.Fin→Shared→Prop}
end
end L2
namespace L2
open PySem PySem.Spec PyProof.Rows PySem.W
section
variable {X:Cx}{pins:List (Addr×Obj)}{σ:St}{H:Hp}{s:Shared}
variable {K':Type} [DecidableEq K'] {knd:KeyKind X.prog X.w K'}{E:Value→Shared→Prop}{f:Addr}{kvs:List (K'×Value)}{ep:Nat}{kl:Nat→List Int}{G:Hp→Prop}{m:Nat}{r d:Addr}{Q:Value→Shared→Prop}
end
end L2
namespace L2
open PySem PySem.Spec PyProof.Rows PySem.W
section
variable {prog:Program}{w:World}{A:Around}{E:Value→Shared→Prop}{s:Shared}{it v d:Addr}{es:Array DictEntry}{i ep:Nat}
end
end L2
namespace L2
open PySem PySem.Spec PyProof.Rows PySem.W
section
variable {prog:Program}{w:World}{K:Type} [DecidableEq K] {knd:HeapKind prog w K}{A:Around}{E:Value→Shared→Prop}{s:Shared}{d a:Addr}{xs:List (K×Addr×Value)}{k:K}{dv:Value}
end
section
variable {X:Cx}{pins:List (Addr×Obj)}{σ:St}{H:Hp}{s:Shared}{a b:Addr}{A:Around}{E:Value→Shared→Prop}{kvs:List (List Key×V)}{k:List Key}{dv:V}{r:Value}
end
end L2
namespace L2
open PySem PySem.Spec PyProof.Rows PySem.W
section
variable {X:Cx}{pins:List (Addr×Obj)}{σ:St}{H:Hp}{s:Shared}{E:Value→Shared→Prop}{f:Addr}{es:Array DictEntry}{ep:Nat}{kl:Nat→List Int}{G:Hp→Prop}{m:Nat}{r d:Addr}{Q:Value→Shared→Prop}{vs:List Value}
end
section
variable {X:Cx}{o e f:Expr}{apos cpos:Pos}{td ty tx:TE}
end
end L2
namespace L2
open PySem PySem.Spec PyProof.Rows PySem.W
section
variable {X:Cx}{pins:List (Addr×Obj)}{σ:St}{H:Hp}{s:Shared}{a:Addr}{A:Around}{E:Value→Shared→Prop}{kvs:List (List Key×V)}
end
section
variable {X:Cx}{pins:List (Addr×Obj)}{σ:St}{x y:Str}{scope:Scope}{params:Arguments}{body:Expr}{te:TE}{f cg c:Addr}{pm ct:Value}{vg:V}{vsV:List V}{vs:List Value}{kl:Nat→List Int}{G:Hp→Prop}{oc:Obj}{uu:HO}{fv:Array Value}{q:Str}{t:Tok}{nm qual:Str}{iy:Nat}
end
section
variable {X:Cx}{x y g:Str}{scope:Scope}{params:Arguments}{body:Expr}{te:TE}{cg c0 tb:Addr}{ig iy:Nat}{np gp ap cp lp kp pos:Pos}
end
end L2
namespace L2
open PySem PySem.Spec PyProof.Rows PySem.W
section
variable {P:Program}{w:World}{K:PySem.W.Frag}{mg mb:Str→Option Value}{CX:CXT}{k:Nat}{fa a:Addr}{ts:List Addr}{fd:FuncData}{x:Str}{sp:Sp}{s:Shared}{vs:List Value}{ns:List Int}
end
end L2
namespace L2
open PySem PySem.Spec PyProof.Rows PySem.W
section
variable {P:Program}{w:World}{K:PySem.W.Frag}{mg:Str→Option Value}{base:Heap}{ts:List Addr}
end
end L2
namespace L2
open PySem PySem.Spec PyProof.Rows
section
variable {X:Cx}
end
end L2
namespace L2
open PySem PySem.Spec PyProof.Rows
abbrev Grp:=List Int×Addr×List Nat
section
variable {F0 H0 F H:Hp}{d l p:Addr}{ks:List Grp}{k:List Int}{G:List Nat}{s:Nat}
end
end L2
namespace L2
open PySem PySem.Spec PyProof.Rows PySem.W
section
variable {X:Cx}{t u:TS}
end
section
variable {K:PySem.W.Frag}{M:Frm}{F H:Hp}{env:Sto}{σ:St}{W:WS}{u:TS}
end
section
variable {P:Program}{w:World}{K:PySem.W.Frag}{mg:Str→Option Value}{base:Heap}
end
end L2
namespace L2
open PySem PySem.Spec PyProof.Rows PySem.W
section
variable {a:Addr}{F H F1 H1 F2 H2:Hp}
end
end L2
namespace L2
open PySem PySem.Spec PyProof.Rows PySem.W
section
variable {prog:Program}{w:World}{A:Around}{E:Value→Shared→Prop}{s:Shared}
end
section
variable {X:Cx}{pins:List (Addr×Obj)}{σ:St}{H:Hp}{s:Shared}{A:Around}{E:Value→Shared→Prop}{vs:List Value}{kl:Nat→List Int}{m:Nat}{a:Addr}{P:PySem.Fin→Shared→Prop}
end
end L2
namespace L2
open PySem PySem.Spec PyProof.Rows PySem.W
section
variable {X:Cx}
end
end L2
namespace L2
open PySem PySem.Spec PyProof.Rows PySem.W
section
variable {X:Cx}{elt target iter cnd:Expr}{scope:Scope}{pos py spos:Pos}{caps own:List Str}{ix:List Nat}{Wi:WF}{G:WG}{Wt:WT}{We:WE}{i:Nat}{y:Str}
end
end L2
namespace L2
open PySem PySem.Spec PyProof.Rows PySem.W
end L2
namespace L2
open PySem PySem.Spec PyProof.Rows PySem.W
section
variable {prog:Program}{w:World}{A:Around}{E:Value→Shared→Prop}{s:Shared}{b c f:Bool}{z TI TO j1 j2 l1 l2 a:Addr}{oa:Obj}{k1 k2:Nat}{us vs:Array Value}
end
section
variable {prog:Program}{w:World}{A:Around}{E:Value→Shared→Prop}{s:Shared}{b c:Bool}{z TI TO j1 j2 l1 l2 M S:Addr}{us vs:Array Value}{i:Nat}{h h':Heap}
end
end L2
namespace L2
open PySem PySem.Spec PyProof.Rows PySem.W
section
variable {X:Cx}{pins:List (Addr×Obj)}{σ:St}{s:Shared}
end
end L2
namespace L2
open PySem PySem.Spec PyProof.Rows PySem.W
section
variable {P:Program}{w:World}{K:PySem.W.Frag}{mg:Str→Option Value}{base:Heap}{q:Str}{scope:Scope}{f cg:Addr}{cd ug u:Value}{x y:Str}{A:Around}{outer:List Env}{s:Shared}{H:Hp}{v vg:V}{h1:Heap}{tk:Nat}
end
end L2
namespace L2
open PySem PySem.Spec PyProof.Rows PySem.W
section
variable {X:Cx}{pins:List (Addr×Obj)}{σ:St}{H:Hp}{s:Shared}{E:Value→Shared→Prop}{f a:Addr}{xs:List V}{its:List Value}{b:Bool}{kl:Nat→List Int}{G:Hp→Prop}{m:Nat}{Q:Value→Shared→Prop}
end
section
variable {X:Cx}{pins:List (Addr×Obj)}{σ:St}{x y:Str}{scope:Scope}{params:Arguments}{body:Expr}{te:TE}{f cg c:Addr}{pm ct:Value}{vg:V}{vsV:List V}{vs:List Value}{kn:Nat→Int}{G:Hp→Prop}{oc:Obj}{uu:HO}{fv:Array Value}{q:Str}{t:Tok}{nm qual:Str}{iy:Nat}
end
section
variable {X:Cx}{x y:Str}{scope:Scope}{params:Arguments}{body:Expr}{te:TE}{cg c0 tb:Addr}{iy:Nat}{np gp lp kp pos:Pos}
end
section
variable {X:Cx}{elt target iter cnd:Expr}{scope:Scope}{pos py spos:Pos}{caps own:List Str}{ix:List Nat}{Wi:WF}{G:WG}{Wt:WT}{We:WE}{i:Nat}{y:Str}
end
end L2
namespace HT
open PySem PySem.Spec PyProof.Rows
section
variable {prog:Program}{w:World}{A:Around}{E:Value→Shared→Prop}{s:Shared}
end
end HT
namespace L2
open PySem PySem.Spec PyProof.Rows PySem.W
section
variable {X:Cx}{e:Expr}{te:TE}{p2 pos:Pos}
end
section
variable {X:Cx}{e:Expr}{W:WE}{p2 p3 p4 pos:Pos}
end
section
variable {X:Cx}{x:Str}{px pos p pT:Pos}
end
end L2
namespace L2
open PySem PySem.Spec PyProof.Rows
open Builtin.Int (intBits)
section
variable {X:Cx}
def rStarts (x:V) (xs:List V) (H:Hp) (Q:VK):Prop := ∃ a b,x = .str a∧xs=[.str b]∧Q (.bl (Txt.startswith a b)) H
theorem mt_starts:MtR X "str.startswith" rStarts:=by
 intro pins s σ H x xs v us Q I r rs h
 obtain ⟨a,b,rfl,rfl,q⟩:=h
 obtain ⟨t,rfl⟩:=r
 obtain ⟨u,rfl,ru⟩:=rs.one
 obtain ⟨t2,rfl⟩:=ru
 exact SC.startswith ⟨.bl _,H,I,rfl,q⟩
def partS (x y:Str):List Str:=match Builtin.Str.occurrences x y 0 x.length 1 with
 | i::_=>[Builtin.Str.strSub x 0 i,y,Builtin.Str.strSub x (i+y.length) x.length]
 | []=>[x,Str.empty,Str.empty]
def rPart (x:V) (xs:List V) (H:Hp) (Q:VK):Prop := ∃ a b,x = .str a∧xs=[.str b]∧((b.length==0)=false∧a.length≤sizeLine) ∧ ∀ l,H l=none→Q (.ref l) (upd H l (.tup ((partS a b).map .str)))
theorem mt_part:MtR X "str.partition" rPart:=by
 intro pins s σ H x xs v us Q I r rs h
 obtain ⟨a,b,rfl,rfl,⟨hb,ha⟩,q⟩:=h
 obtain ⟨t,rfl⟩:=r
 obtain ⟨u,rfl,ru⟩:=rs.one
 obtain ⟨t2,rfl⟩:=ru
 refine call_meets F.slot_str_partition (typeIs_str _ _ _) F.entry_str_partition (F.args_str_partition_2 _ _) (meets_str_partition a b t t2 hb ha) ?_
 unfold partS at q
 revert q
 cases Builtin.Str.occurrences a b 0 a.length 1 with
 | nil =>
  intro q
  have I2:Inv X pins σ (upd H s.heap.objs.size (.tup ([a,Str.empty,Str.empty].map .str))) { s with toks:=s.toks+1,heap:=s.heap.push { cls :=.type "tuple",data :=.seq [Value.str a t,.str Str.empty s.toks,.str Str.empty s.toks].toArray } } :=
   I.laid (t':=s.toks+1) (fun b o e=>Heap.get?_push_of_some _ e) (Nat.le_refl _) (show ObjOk X.prog X.w _ _ _ (.tup _) from ⟨by show 3≤sizeLine;decide,[Value.str a t,.str Str.empty s.toks,.str Str.empty s.toks],.cons ⟨_,rfl⟩ (.cons ⟨_,rfl⟩ (.cons ⟨_,rfl⟩ .nil)),IsTup.new _ _⟩)
  exact ⟨.ref s.heap.objs.size,_,I2,rfl,q _ (I.hok.fresh (Nat.le_refl _))⟩
 | cons i r =>
  intro q
  have I2:Inv X pins σ (upd H s.heap.objs.size (.tup ([Builtin.Str.strSub a 0 i,b,Builtin.Str.strSub a (i+b.length) a.length].map .str))) { s with toks:=s.toks+1+1,heap:=s.heap.push { cls :=.type "tuple",data :=.seq [Value.str (Builtin.Str.strSub a 0 i) s.toks,.str b t2,.str (Builtin.Str.strSub a (i+b.length) a.length) (s.toks+1)].toArray } } :=
   I.laid (t':=s.toks+1+1) (fun b o e=>Heap.get?_push_of_some _ e) (Nat.le_refl _) (show ObjOk X.prog X.w _ _ _ (.tup _) from ⟨by show 3≤sizeLine;decide,[Value.str (Builtin.Str.strSub a 0 i) s.toks,.str b t2,.str (Builtin.Str.strSub a (i+b.length) a.length) (s.toks+1)],.cons ⟨_,rfl⟩ (.cons ⟨_,rfl⟩ (.cons ⟨_,rfl⟩ .nil)),IsTup.new _ _⟩)
  exact ⟨.ref s.heap.objs.size,_,I2,rfl,q _ (I.hok.fresh (Nat.le_refl _))⟩
theorem vals_strs : ∀ {ls:List Str}{its:List Value},Vals (ls.map V.str) its → ∃ l:List (Str×Tok),strValues l=its∧l.map (·.1)=ls
 | [],_,.nil=>⟨[],rfl,rfl⟩
 | x::ls,_,.cons r rs=>by
  obtain ⟨t,rfl⟩:=r
  obtain ⟨l,e1,e2⟩:=vals_strs rs
  exact ⟨(x,t)::l,by rw [← e1];rfl,by rw [List.map_cons,e2]⟩
def rJoin (K:PySem.W.Frag) (x:V) (xs:List V) (H:Hp) (Q:VK):Prop := ∃ a p ls,x = .str a∧xs=[.ref p]∧SqL K H p (ls.map V.str)∧JoinOk a ls=true∧Q (.str (Txt.join a ls)) H
theorem mt_join:MtR X "str.join" (rJoin X.K):=by
 intro pins s σ H x xs v us Q I r rs h
 obtain ⟨a,p,ls,rfl,rfl,hq,hok,q⟩:=h
 obtain ⟨t,rfl⟩:=r
 obtain ⟨u,rfl,ru⟩:=rs.one
 cases ru
 obtain ⟨its,rv,pl,hz⟩:=I.list hq
 obtain ⟨l,e1,e2⟩:=vals_strs rv
 rw [← e1] at pl
 exact SC.join pl.isList e2 hok fun t' k=>⟨.str _,H,I.tok _,⟨_,rfl⟩,q⟩
def rSplit (x:V) (xs:List V) (H:Hp) (Q:VK):Prop := ∃ a b,x = .str a∧xs=[.str b]∧((b.length==0)=false∧a.length≤sizeLine∧(Builtin.Str.partsBetween a (Builtin.Str.occurrences a b 0 a.length (a.length+1)) b.length).length≤sizeLine∧(Txt.split a b).length≤sizeLine) ∧ ∀ l,H l=none→Q (.ref l) (upd H l (.lst ((Txt.split a b).map .str)))
theorem strs_vals : ∀ (l:List (Str×Tok)),Vals ((l.map (·.1)).map V.str) (strValues l)
 | [] => .nil
 | (x,t)::l => .cons ⟨t,rfl⟩ (strs_vals l)
theorem mt_split:MtR X "str.split" rSplit:=by
 intro pins s σ H x xs v us Q I r rs h
 obtain ⟨a,b,rfl,rfl,⟨hb,ha,hp,hn⟩,q⟩:=h
 obtain ⟨t,rfl⟩:=r
 obtain ⟨u,rfl,ru⟩:=rs.one
 obtain ⟨t2,rfl⟩:=ru
 have lay : ∀ (l:List (Str×Tok)) (k:Nat),l.map (·.1)=Txt.split a b→EP X pins σ Q (.ref s.heap.objs.size) { s with toks:=k,heap:=s.heap.push { cls :=.type "list",data :=.seq (strValues l).toArray } }:=fun l k e=>by
  have rv:Vals ((Txt.split a b).map V.str) (strValues l):=by rw [← e];exact strs_vals l
  have I2:Inv X pins σ (upd H s.heap.objs.size (.lst ((Txt.split a b).map .str))) { s with toks:=k,heap:=s.heap.push { cls :=.type "list",data :=.seq (strValues l).toArray } } :=
   I.laid (t':=k) (fun b o e=>Heap.get?_push_of_some _ e) (Nat.le_refl _) (show ObjOk X.prog X.w _ _ _ (.lst _) from ⟨by rw [List.length_map];exact hn,strValues l,_,rv,Heap.get?_push_size _ rfl⟩)
  exact ⟨.ref s.heap.objs.size,_,I2,rfl,q _ (I.hok.fresh (Nat.le_refl _))⟩
 cases h1:(decide (a.length<b.length)||decide (Builtin.Str.strKind a<Builtin.Str.strKind b))
 ·cases hf:(Builtin.Str.occurrences a b 0 a.length (a.length+1)).isEmpty
  ·refine call_meets F.slot_str_split (typeIs_str _ _ _) F.entry_str_split (F.args_str_split_2 _ _) (meets_str_split_sep a b t t2 h1 hb hf ha hp) ?_
   show EP X pins σ Q _ { s with toks:=_,heap:=s.heap.push { cls :=.type "list",data :=.seq (strsFrom s.toks (Builtin.Str.partsBetween a (Builtin.Str.occurrences a b 0 a.length (a.length+1)) b.length)).toArray } }
   rw [strsFrom_eq]
   exact lay _ _ ((numbered_texts _ _).trans ((if_neg (ne_true_of_eq_false h1)).trans (if_neg (ne_true_of_eq_false hf))).symm)
  ·exact call_meets F.slot_str_split (typeIs_str _ _ _) F.entry_str_split (F.args_str_split_2 _ _) (meets_str_split_not_found a b t t2 h1 hb hf) (lay [(a,t)] _ ((if_neg (ne_true_of_eq_false h1)).trans (if_pos hf)).symm)
 ·exact call_meets F.slot_str_split (typeIs_str _ _ _) F.entry_str_split (F.args_str_split_2 _ _) (meets_str_split_cannot_occur a b t t2 h1) (lay [(a,t)] _ (if_pos h1).symm)
theorem strInv {K:PySem.W.Frag}{F:Hp}{x:Str}{v:V} (h:Is K F (.str x) v):v = .str x:=h
theorem iss_strs {K:PySem.W.Frag}{F:Hp} : ∀ ls:List Str,Iss K F (ls.map PyData.str) (ls.map V.str)
 | []=>iss_nil
 | x::ls=>iss_cons (is_str x) (iss_strs ls)
theorem iss_strs' {K:PySem.W.Frag}{F:Hp} : ∀ {ls:List Str}{xs:List V},Iss K F (ls.map PyData.str) xs→xs=ls.map V.str
 | [],_,h=>h.nil_inv
 | b::bs,_,h=>by obtain ⟨y,ys,rfl,p,q⟩:=h.cons_inv;rw [strInv p,iss_strs' q];rfl
end
section
variable {X:Cx}{o e:Expr}{Wo We:WE}{apos cpos:Pos}
def wM2 (f:Str→Str→(PyData→Prop)→Prop) (Wo We:WE):WE:=fun env Q=>Wo env fun d e1 => ∃ a,d = .str a∧We e1 fun d2 e2 => ∃ b,d2 = .str b∧f a b fun r=>Q r e2
def dStarts (a b:Str) (q:PyData→Prop):Prop:=q (.bool (Txt.startswith a b))
def dPart (a b:Str) (q:PyData→Prop):Prop:=((b.length==0)=false∧a.length≤sizeLine)∧q (.tuple ((partS a b).map .str))
def dSplit (a b:Str) (q:PyData→Prop):Prop:=((b.length==0)=false∧a.length≤sizeLine∧(Builtin.Str.partsBetween a (Builtin.Str.occurrences a b 0 a.length (a.length+1)) b.length).length≤sizeLine∧(Txt.split a b).length≤sizeLine)∧q (.list ((Txt.split a b).map .str))
theorem ve_starts (ho:VE X o Wo) (he:VE X e We) (hbase:attributeBase o "startswith" X.env (eval o X.env)=eval o X.env:=by rfl)
 (hfew:((backTo cpos (starEach [e] X.env)).all (fun x => !x.1)&&(backToKw cpos (keywordEach [] X.env)).all (fun x=>x.1.isSome)&&decide ([e].length+([]:List Keyword).length+(if ([]:List Keyword).isEmpty then 0 else 1)<30))=true:=by rfl)
 (hline:(apos.endLine==cpos.line)=true:=by rfl) (hst:starEach [e] X.env=(false,eval e X.env)::starEach [] X.env:=by rfl) (hplain:(backTo cpos (starEach [] X.env)).any (·.1)=false:=by rfl) :
 VE X (.Call (.Attribute o "startswith" apos) [e] [] cpos) (wM2 dStarts Wo We) :=
 (pe_bm PySem.F.plainAttrs_str PySem.F.slot_str_startswith PySem.F.type_str_startswith mt_starts ho (pa_cons he pa_nil hst) hbase hfew hline hst hplain).imp fun σ H R xx126=>by
  obtain ⟨M,env,F,Q,I,h,k⟩:=xx126
  refine ⟨M,env,F,_,I,h,fun d v F1 H1 e1 I1 s1 i1 h1=>?_⟩
  obtain ⟨a,rfl,h1⟩:=h1
  rw [strInv i1]
  refine ⟨rfl,M,e1,F1,_,I1,h1,fun d2 v2 F2 H2 e2 I2 s2 i2 h2=>?_⟩
  obtain ⟨b,rfl,h2⟩:=h2
  exact ⟨a,b,rfl,by rw [strInv i2],k _ _ F2 H2 e2 I2 (s1.trans s2) (is_bl _) h2⟩
theorem ve_part (ho:VE X o Wo) (he:VE X e We) (hbase:attributeBase o "partition" X.env (eval o X.env)=eval o X.env:=by rfl)
 (hfew:((backTo cpos (starEach [e] X.env)).all (fun x => !x.1)&&(backToKw cpos (keywordEach [] X.env)).all (fun x=>x.1.isSome)&&decide ([e].length+([]:List Keyword).length+(if ([]:List Keyword).isEmpty then 0 else 1)<30))=true:=by rfl)
 (hline:(apos.endLine==cpos.line)=true:=by rfl) (hst:starEach [e] X.env=(false,eval e X.env)::starEach [] X.env:=by rfl) (hplain:(backTo cpos (starEach [] X.env)).any (·.1)=false:=by rfl) :
 VE X (.Call (.Attribute o "partition" apos) [e] [] cpos) (wM2 dPart Wo We) :=
 (pe_bm PySem.F.plainAttrs_str PySem.F.slot_str_partition PySem.F.type_str_partition mt_part ho (pa_cons he pa_nil hst) hbase hfew hline hst hplain).imp fun σ H R xx127=>by
  obtain ⟨M,env,F,Q,I,h,k⟩:=xx127
  refine ⟨M,env,F,_,I,h,fun d v F1 H1 e1 I1 s1 i1 h1=>?_⟩
  obtain ⟨a,rfl,h1⟩:=h1
  rw [strInv i1]
  refine ⟨rfl,M,e1,F1,_,I1,h1,fun d2 v2 F2 H2 e2 I2 s2 i2 h2=>?_⟩
  obtain ⟨b,rfl,hb,h2⟩:=h2
  refine ⟨a,b,rfl,by rw [strInv i2],hb,fun l hl=>?_⟩
  have g:=Go.put (o:=HO.tup ((partS a b).map V.str)) I2.fh hl
  exact k _ _ _ _ e2 (I2.go g) (s1.trans (s2.trans g.f)) (is_tup (SqT.of upd_same) (iss_strs _)) h2
theorem ve_split (ho:VE X o Wo) (he:VE X e We) (hbase:attributeBase o "split" X.env (eval o X.env)=eval o X.env:=by rfl)
 (hfew:((backTo cpos (starEach [e] X.env)).all (fun x => !x.1)&&(backToKw cpos (keywordEach [] X.env)).all (fun x=>x.1.isSome)&&decide ([e].length+([]:List Keyword).length+(if ([]:List Keyword).isEmpty then 0 else 1)<30))=true:=by rfl)
 (hline:(apos.endLine==cpos.line)=true:=by rfl) (hst:starEach [e] X.env=(false,eval e X.env)::starEach [] X.env:=by rfl) (hplain:(backTo cpos (starEach [] X.env)).any (·.1)=false:=by rfl) :
 VE X (.Call (.Attribute o "split" apos) [e] [] cpos) (wM2 dSplit Wo We) :=
 (pe_bm PySem.F.plainAttrs_str PySem.F.slot_str_split PySem.F.type_str_split mt_split ho (pa_cons he pa_nil hst) hbase hfew hline hst hplain).imp fun σ H R xx128=>by
  obtain ⟨M,env,F,Q,I,h,k⟩:=xx128
  refine ⟨M,env,F,_,I,h,fun d v F1 H1 e1 I1 s1 i1 h1=>?_⟩
  obtain ⟨a,rfl,h1⟩:=h1
  rw [strInv i1]
  refine ⟨rfl,M,e1,F1,_,I1,h1,fun d2 v2 F2 H2 e2 I2 s2 i2 h2=>?_⟩
  obtain ⟨b,rfl,hb,h2⟩:=h2
  refine ⟨a,b,rfl,by rw [strInv i2],hb,fun l hl=>?_⟩
  have g:=Go.put (o:=HO.lst ((Txt.split a b).map V.str)) I2.fh hl
  exact k _ _ _ _ e2 (I2.go g) (s1.trans (s2.trans g.f)) (is_lst (SqL.of upd_same) (iss_strs _)) h2
def wJoin (Wo We:WE):WE:=fun env Q=>Wo env fun d e1 => ∃ a,d = .str a∧We e1 fun d2 e2 => ∃ ls:List Str,d2 = .list (ls.map .str)∧JoinOk a ls=true∧Q (.str (Txt.join a ls)) e2
theorem ve_join (ho:VE X o Wo) (he:VE X e We) (hbase:attributeBase o "join" X.env (eval o X.env)=eval o X.env:=by rfl)
 (hfew:((backTo cpos (starEach [e] X.env)).all (fun x => !x.1)&&(backToKw cpos (keywordEach [] X.env)).all (fun x=>x.1.isSome)&&decide ([e].length+([]:List Keyword).length+(if ([]:List Keyword).isEmpty then 0 else 1)<30))=true:=by rfl)
 (hline:(apos.endLine==cpos.line)=true:=by rfl) (hst:starEach [e] X.env=(false,eval e X.env)::starEach [] X.env:=by rfl) (hplain:(backTo cpos (starEach [] X.env)).any (·.1)=false:=by rfl) :
 VE X (.Call (.Attribute o "join" apos) [e] [] cpos) (wJoin Wo We) :=
 (pe_bm PySem.F.plainAttrs_str PySem.F.slot_str_join PySem.F.type_str_join mt_join ho (pa_cons he pa_nil hst) hbase hfew hline hst hplain).imp fun σ H R xx129=>by
  obtain ⟨M,env,F,Q,I,h,k⟩:=xx129
  refine ⟨M,env,F,_,I,h,fun d v F1 H1 e1 I1 s1 i1 h1=>?_⟩
  obtain ⟨a,rfl,h1⟩:=h1
  rw [strInv i1]
  refine ⟨rfl,M,e1,F1,_,I1,h1,fun d2 v2 F2 H2 e2 I2 s2 i2 h2=>?_⟩
  obtain ⟨ls,rfl,hok,h2⟩:=h2
  obtain ⟨p,xs,rfl,hs,hr⟩:=i2.lst_inv
  have ex:=iss_strs' hr
  subst ex
  exact ⟨a,p,ls,rfl,rfl,I2.fh.seq hs,hok,k _ _ F2 H2 e2 I2 (s1.trans s2) (is_str _) h2⟩
end
section
variable {X:Cx}{a b c e:Expr}{Wa Wb Wc We:WE}{pos:Pos}
theorem pe_fmtI {te:TE} (he:PE X e te):PE X (.FormattedValue e (-1) none pos) (fun σ H Q=>te σ H fun x H1 => ∃ n,x = .int n∧n.natAbs.log2<1920∧Q (.str (toString n)) H1):=by
 intro pins s σ H Q I h
 refine wpAny_FormattedValue_plain (thn (he pins s σ H _ I h) fun v s1 xx130=>?_)
 obtain ⟨x,H1,I1,r1,n,e1,hn,q⟩:=xx130
 subst e1
 obtain ⟨t,rfl⟩:=r1
 exact wpAny_formatField_int hn ⟨.str _,H1,I1.tok _,⟨_,rfl⟩,q⟩
def wFmt (W:WE):WE:=fun env Q=>W env fun d e => ∃ n,d = .int n∧n.natAbs.log2<1920∧Q (.str (toString n)) e
theorem ve_fmtI (he:VE X e We):VE X (.FormattedValue e (-1) none pos) (wFmt We):=(pe_fmtI he).imp fun σ H R xx131=>by
 obtain ⟨M,env,F,Q,I,h,k⟩:=xx131
 refine ⟨M,env,F,_,I,h,fun d v F1 H1 e1 I1 s1 i1 h1=>?_⟩
 obtain ⟨n,rfl,hn,h1⟩:=h1
 exact ⟨n,i1.int_inv,hn,k _ _ F1 H1 e1 I1 s1 (is_str _) h1⟩
theorem ve_fj1 (he:VE X e We):VE X (.JoinedStr [e] pos) We:=fun pins s σ H Q I h=>wpAny_JoinedStr_one (he pins s σ H Q I h)
theorem pe_fj3 {ta tb tc:TE} (ha:PE X a ta) (hb:PE X b tb) (hc:PE X c tc) (he:evalEach [a,b,c] X.env=[eval a X.env,eval b X.env,eval c X.env]:=by rfl) :
 PE X (.JoinedStr [a,b,c] pos) (fun σ H Q=>ta σ H fun x H1 => ∃ u,x = .str u∧(Str.empty++u).length≤sizeLine∧tb σ H1 fun y H2 => ∃ v,y = .str v∧(Str.empty++u++v).length≤sizeLine∧tc σ H2 fun z H3 => ∃ w,z = .str w∧(Str.empty++u++v++w).length≤sizeLine∧Q (.str (Str.empty++u++v++w)) H3):=by
 intro pins s σ H Q I h
 refine wpAny_JoinedStr ?_
 rw [he]
 refine thn (ha pins s σ H _ I h) fun v1 s1 xx134=>?_
 obtain ⟨x,H1,I1,r1,u,e1,l1,h1⟩:=xx134
 subst e1
 obtain ⟨t1,rfl⟩:=r1
 refine ⟨u,t1,rfl,l1,thn (hb pins s1 σ H1 _ I1 h1) fun v2 s2 xx133=>?_⟩
 obtain ⟨y,H2,I2,r2,v,e2,l2,h2⟩:=xx133
 subst e2
 obtain ⟨t2,rfl⟩:=r2
 refine ⟨v,t2,rfl,l2,thn (hc pins s2 σ H2 _ I2 h2) fun v3 s3 xx132=>?_⟩
 obtain ⟨z,H3,I3,r3,w,e3,l3,h3⟩:=xx132
 subst e3
 obtain ⟨t3,rfl⟩:=r3
 exact ⟨w,t3,rfl,l3,l3,.str _,H3,I3.tok _,⟨_,rfl⟩,h3⟩
def wFj3 (Wa Wb Wc:WE):WE:=fun env Q=>Wa env fun d e1 => ∃ u,d = .str u∧(Str.empty++u).length≤sizeLine∧Wb e1 fun d2 e2 => ∃ v,d2 = .str v∧(Str.empty++u++v).length≤sizeLine∧Wc e2 fun d3 e3 => ∃ w,d3 = .str w∧(Str.empty++u++v++w).length≤sizeLine∧Q (.str (Str.empty++u++v++w)) e3
theorem ve_fj3 (ha:VE X a Wa) (hb:VE X b Wb) (hc:VE X c Wc) (he:evalEach [a,b,c] X.env=[eval a X.env,eval b X.env,eval c X.env]:=by rfl):VE X (.JoinedStr [a,b,c] pos) (wFj3 Wa Wb Wc) :=
 (pe_fj3 ha hb hc he).imp fun σ H R xx135=>by
  obtain ⟨M,env,F,Q,I,h,k⟩:=xx135
  refine ⟨M,env,F,_,I,h,fun d v F1 H1 e1 I1 s1 i1 h1=>?_⟩
  obtain ⟨u,rfl,l1,h1⟩:=h1
  refine ⟨u,strInv i1,l1,M,e1,F1,_,I1,h1,fun d2 v2 F2 H2 e2 I2 s2 i2 h2=>?_⟩
  obtain ⟨v,rfl,l2,h2⟩:=h2
  refine ⟨v,strInv i2,l2,M,e2,F2,_,I2,h2,fun d3 v3 F3 H3 e3 I3 s3 i3 h3=>?_⟩
  obtain ⟨w,rfl,l3,h3⟩:=h3
  exact ⟨w,strInv i3,l3,k _ _ F3 H3 e3 I3 (s1.trans (s2.trans s3)) (is_str _) h3⟩
end
section
variable {X:Cx}
theorem op_inT:OpR X (compareOp .In) (fun x y H Q => ∃ u v,x = .str u∧y = .str v∧Q (.bl (Txt.contains v u)) H):=by
 intro pins s σ H x y v u Q I rx ry h
 obtain ⟨a,b,rfl,rfl,q⟩:=h
 obtain ⟨t,rfl⟩:=rx
 obtain ⟨t2,rfl⟩:=ry
 exact SB.contains ⟨.bl _,H,I,rfl,q⟩
def dInT:D2
 | .str u,.str v,q=>q (.bool (Txt.contains v u))
 | _,_,_=>False
theorem o_inT:OpV X (compareOp .In) dInT:=op_inT.imp fun x y H Q xx136=>by
 obtain ⟨F,dx,dy,q,s,i1,i2,h,k⟩:=xx136
 cases dx with
 | str z =>
  cases dy with
  | str n=>exact ⟨z,n,strInv i1,strInv i2,k _ _ F H (.refl s) (is_bl _) h⟩
  | _=>exact (show False from h).elim
 | _=>exact (show False from h).elim
theorem call_intS:CallR X (.type "int") (fun xs H Q => ∃ x n,xs=[.str x]∧PySem.intText? x=some n∧x.length≤640∧Q (.int n) H):=by
 intro pins s σ H xs us Q I r h
 obtain ⟨x,n,rfl,hn,hl,q⟩:=h
 obtain ⟨u,rfl,ru⟩:=vals1 r
 obtain ⟨t,rfl⟩:=ru
 exact PySem.W.KIN.call_text hn hl ⟨.int _,H,I.tok _,⟨_,rfl⟩,q⟩
def dIntS:DC
 | [.str x],q => ∃ n,PySem.intText? x=some n∧x.length≤640∧q (.int n)
 | _,_=>False
theorem c_intS:CallV X (.type "int") dIntS:=call_intS.imp fun xs H Q xx137=>by
 obtain ⟨F,ds,q,s,i,h,k⟩:=xx137
 match ds,h,i with
 | [.str x],⟨n,hn,hl,h⟩,i =>
  obtain ⟨v,rfl,j⟩:=iss1 i
  exact ⟨x,n,by rw [strInv j],hn,hl,k _ _ F H (.refl s) (is_int _) h⟩
end
section
variable {X:Cx}{a:Expr}{Wa:WE}{p2 pos:Pos}
def cutS (x:Str) (lo hi:Option Int):Str:=if (Builtin.Str.strSliceIndices lo hi 1 x.length).length=x.length then x else ⟨((Builtin.Str.strSliceIndices lo hi 1 x.length).filterMap (x.cps[·]?)).toArray⟩
def rSlS (x:V) (lo hi:Option Int) (H:Hp) (Q:VK):Prop := ∃ a,x = .str a∧(cutS a lo hi).length≤sizeLine∧Q (.str (cutS a lo hi)) H
theorem sl_str:SlR X rSlS:=by
 intro pins s σ H x v vl vu lo hi sl Q I rx hs pl pu h
 obtain ⟨a,rfl,hz,q⟩:=h
 obtain ⟨t,rfl⟩:=rx
 have part : ∀ {v:Value}{o:Option Int},IsPart v o → ∃ p:Option (Int×Tok),v=partValue p∧p.map (·.1)=o:=fun {v o} h=>by
  cases h with
  | none=>exact ⟨none,rfl,rfl⟩
  | int i t=>exact ⟨some (i,t),rfl,rfl⟩
 obtain ⟨l,rfl,el⟩:=part pl
 obtain ⟨u,rfl,eu⟩:=part pu
 refine ⟨"str",_,PySem.F.slot_str_getitem.lookup,typeIs_str _ _ _,wpAny_getItem_str_slice (l:=l) (u:=u) (st:=none) hs rfl ?_⟩
 have ep:slicePicked a l u none=Builtin.Str.strSliceIndices lo hi 1 a.length:=by unfold slicePicked;rw [el,eu];rfl
 unfold sliceMade
 unfold cutS at hz q
 rw [ep]
 by_cases c:(Builtin.Str.strSliceIndices lo hi 1 a.length).length=a.length
 ·rw [if_pos c] at q
  rw [if_pos (by simp [c])]
  exact ⟨.str a,H,I,⟨_,rfl⟩,q⟩
 ·rw [if_neg c] at hz q
  rw [if_neg (by simp [c])]
  exact ⟨hz,.str _,H,I.tok _,⟨_,rfl⟩,q⟩
def wSlS (Wa:WE) (Wl Wh:WO):WE:=fun env Q=>Wa env fun d e1=>Wl e1 fun lo e2=>Wh e2 fun hi e3=>match d with
 | .str x=>(cutS x lo hi).length≤sizeLine∧Q (.str (cutS x lo hi)) e3
 | _=>False
theorem ve_sliceS {lo hi:Option Expr}{Wl Wh:WO} (he:VE X a Wa) (hl:VO X lo Wl) (hu:VO X hi Wh):VE X (.Subscript a (.Slice lo hi none p2) pos) (wSlS Wa Wl Wh) :=
 (pe_slice sl_str he hl hu).imp fun σ H R xx138=>by
  obtain ⟨M,env,F,Q,I,h,k⟩:=xx138
  refine ⟨M,env,F,_,I,h,fun d v F1 H1 e1 I1 s1 i1 h1=>⟨M,e1,F1,_,I1,h1,fun lo F2 H2 e2 I2 s2 h2=>⟨M,e2,F2,_,I2,h2,fun hi F3 H3 e3 I3 s3 h3=>?_⟩⟩⟩
  cases d with
  | str x=>exact ⟨x,strInv i1,h3.1,k _ _ F3 H3 e3 I3 (s1.trans (s2.trans s3)) (is_str _) h3.2⟩
  | _=>exact False.elim h3
end
def chS (c:Nat):Str:=⟨#[c]⟩
def Itx (x:Str):It:=⟨fun i _=>i<x.cps.size,fun i H v H'=>H'=H ∧ ∃ c,x.cps[i]?=some c∧v = .str (chS c),fun i _=>x.cps.size≤i⟩
theorem turn_strA {P:Program}{w:World}{K:PySem.W.Frag}{tg:Expr} (it:Addr) (x:Str) (t:Tok):Turn P w K tg (Itx x) [it] it (fun i h=>h.IsStrIter it "str_ascii_iterator" x t i) where
 mem:=by simp
 obj:=fun i h st b hb=>by
  have e:b=it:=by simpa using hb
  subst e
  obtain ⟨o,ho,hc,hd⟩:=st
  exact ⟨o,ho,fun v z=>by rw [hd] at z;cases z⟩
 keep:=fun i h h' xx139 k=>by obtain ⟨o,ho,r⟩:=xx139;exact ⟨o,k it (by simp) o ho,r⟩
 item:=by
  intro X hP hw hK hc i pins s σ H E I hf st hg
  subst hP hw hK
  have hg:i<x.cps.size:=hg
  obtain ⟨f0,f1,f2,f3,f4,f5⟩:=hf it (by simp)
  have hx:x.cps[i]?=some x.cps[i]:=Array.getElem?_eq_getElem hg
  refine wpAny_pyNext_ascii_item st hx fun h' st' sb=>?_
  have I1:Inv X pins σ H { s with heap:=h',toks:=s.toks+1 }:=I.turned (t':=s.toks+1) (fun b o hb e=>(sb.2 b hb).trans e) f0 f1 f3 f4 f5
  obtain ⟨o,e,c,d⟩:=id st'
  exact ⟨_,rfl,go_of (s:={ s with heap:=h',toks:=s.toks+1 }) e c d (by decide) ⟨.str (chS x.cps[i]),H,I1,⟨_,rfl⟩,⟨rfl,_,hx,rfl⟩,st',fun b hb=>(hf b hb).1⟩⟩
 done:=by
  intro X hP hw hK hc i pins s σ H E I hf st hg
  subst hP hw hK
  have hg:x.cps.size≤i:=hg
  obtain ⟨f0,f1,f2,f3,f4,f5⟩:=hf it (by simp)
  exact wpAny_pyNext_ascii_end (I.ok.hd hc) st (Array.getElem?_eq_none hg) fun h' eb=>⟨rfl,I.turned (t':=s.toks) (fun b o hb e=>eb b o hb e) f0 f1 f3 f4 f5⟩
 self:=fun _ _ _ _ _ st h=>wpAny_pyIter_striter_ascii st h
section
variable {X:Cx}{tg a:Expr}{W:WE}
def iStr (tl:TE):TI:=fun σ H R=>tl σ H fun x H1 => ∃ a,x = .str a∧a.cps.all (· < 128)=true∧R (Itx a) H1
theorem pi_str {l:Expr}{tl:TE} (hl:PE X l tl):PI X tg l (iStr tl):=by
 intro pins s σ H R I h
 refine thn (hl pins s σ H _ I h) fun v s1 xx140=>?_
 obtain ⟨x,H1,I1,r1,q1⟩:=xx140
 obtain ⟨a,e,ha,q⟩:=q1
 subst e
 obtain ⟨t,rfl⟩:=r1
 refine wpAny_pyIter_ascii ha ?_
 refine ⟨s1.heap.objs.size,[s1.heap.objs.size],_,_,H1,rfl,I1.kept (t':=s1.toks) fun b o e=>Heap.get?_push_of_some _ e,turn_strA _ a t,⟨_,Heap.get?_push_size _ rfl,rfl,rfl⟩,fun b hb=>?_,q⟩
 have e:b=s1.heap.objs.size:=by simpa using hb
 subst e
 exact I1.fpOk (Nat.le_refl _) (I1.hok.fresh (Nat.le_refl _))
def signsD (x:Str):List PyData:=x.cps.toList.map fun c => .str (chS c)
theorem itd_str {K:PySem.W.Frag}{F:Hp}{x:Str}:ItD K (Itx x) F (signsD x) where
 go:=fun i H _ h=>by
  have:i<x.cps.size:=by simpa [signsD] using h
  exact this
 stop:=fun H _=>by
  show x.cps.size≤(signsD x).length
  simp [signsD]
 yld:=fun i H v H' F1 s1 s2 h xx141=>by
  obtain ⟨e,c,hc,ev⟩:=xx141
  subst e
  refine ⟨.str (chS c),F1,?_,.refl s2,?_⟩
  ·unfold signsD
   rw [List.getElem?_map,Array.getElem?_toList,hc];rfl
  ·rw [ev];exact is_str _
def wiStr (W:WE):WF:=fun env Q=>W env fun d e=>match d with
 | .str x=>x.cps.all (· < 128)=true∧Q (signsD x) e
 | _=>False
theorem vi_str (h:VE X a W):VI X tg a (wiStr W):=(pi_str h).imp fun σ H R xx142=>by
 obtain ⟨M,env,F,Q,I,h,k⟩:=xx142
 refine ⟨M,env,F,_,I,h,fun d v F1 H1 e1 I1 s1 i1 h1=>?_⟩
 cases d with
 | str x=>exact ⟨x,strInv i1,h1.1,k _ _ F1 H1 e1 I1 s1 itd_str h1.2⟩
 | _=>exact False.elim h1
end
theorem ve_globS {X:Cx}{x y:Str}{pos:Pos} (h : ∃ t,X.mg x=some (.str y t)) (hg:Gl X x:=by rfl) (hd:(x==("__debug__" : Str))=false:=by decide):VE X (.Name x pos) (wC (.str y)):=by
 obtain ⟨t,hm⟩:=h
 exact ve_c (pe_glob (v :=.str y) hg hm ⟨t,rfl⟩ hd) fun _=>is_str y
end L2
namespace My
open PySem L2
seal VE VF VA VT VW VS VSs VG VGs VI VO OpV CallV CallVF VN VFN VST VSsT VEX VSX VSsX
def top (i:Nat):Stmt:=PySem.Challenge.pw_dullglass_k51_glasses_written.main.body.getD i (.Pass ⟨0,0,0,0⟩)
abbrev s_is_whole:Stmt:=top 7
abbrev s_divisor:Stmt:=top 8
abbrev s_reduced:Stmt:=top 10
abbrev s_share:Stmt:=top 9
abbrev s_makes_row:Stmt:=top 20
abbrev s_makes_table:Stmt:=top 19
abbrev s_common_divisor:Stmt:=top 22
abbrev s_divided:Stmt:=top 24
abbrev s_lowest_table:Stmt:=top 23
abbrev s_glass_of:Stmt:=top 15
abbrev s_dulling_of:Stmt:=top 16
abbrev s_show_share:Stmt:=top 34
abbrev s_show_row:Stmt:=top 36
abbrev s_laid_out:Stmt:=top 38
abbrev s_show_glass:Stmt:=top 35
abbrev s_show_payoffs:Stmt:=top 37
abbrev s_is_table:Stmt:=top 21
abbrev s_is_glass:Stmt:=top 17
abbrev s_over_bottom:Stmt:=top 26
abbrev s_table_of_shares:Stmt:=top 25
abbrev s_words_in_rows:Stmt:=top 42
abbrev s_is_made_of:Stmt:=top 45
abbrev s_is_number:Stmt:=top 44
abbrev s_read_share:Stmt:=top 43
abbrev s_read_table:Stmt:=top 41
abbrev s_read_glass:Stmt:=top 39
abbrev s_is_dulling:Stmt:=top 18
abbrev s_read_dulling:Stmt:=top 40
abbrev s_read_payoff:Stmt:=top 47
abbrev s_read_payoffs:Stmt:=top 46
abbrev s__law_cell:Stmt:=top 49
abbrev s__law_drawn:Stmt:=top 50
abbrev s__law_glass:Stmt:=top 51
abbrev s__law_divisor:Stmt:=top 52
abbrev s__law_share_text:Stmt:=top 53
abbrev s__law_text:Stmt:=top 54
abbrev s__law_alike:Stmt:=top 55
abbrev s__law_payoffs:Stmt:=top 56
abbrev s_law:Stmt:=top 57
theorem sc0 {N P:List Str}{sc:Scope} (a:sc.kind = .function:=by rfl) (b:sc.isCoroutine=false:=by rfl) (c:sc.isGenerator=false:=by rfl) (d:N.Nodup:=by decide +kernel) (e:N.take P.length=P:=by rfl) (f : ∀ x ∈ P,sc.names.lookup x=some .local∨sc.names.lookup x=some .cell:=by decide +kernel) (g : ∀ y ∈ sc.names,y.2 ≠ .free:=by decide +kernel):FnScope N P sc:=⟨a,b,c,d,e,f,g⟩
structure Txt (mg:Str→Option Value):Prop where
 abs_:mg "abs" = none
 all_:mg "all" = none
 bool_:mg "bool" = none
 int_:mg "int" = none
 isinstance_:mg "isinstance" = none
 len_:mg "len" = none
 list_:mg "list" = none
 range_:mg "range" = none
 sorted_:mg "sorted" = none
 str_:mg "str" = none
 sum_:mg "sum" = none
 tuple_:mg "tuple" = none
 FEWEST_STANDS_ : ∃ t,mg "FEWEST_STANDS" = some (.int 2 t)
 FIGURES_ : ∃ t,mg "FIGURES" = some (.str "0123456789" t)
 MOST_ACTS_ : ∃ t,mg "MOST_ACTS" = some (.int 12 t)
 MOST_BOTTOM_ : ∃ t,mg "MOST_BOTTOM" = some (.int 999999 t)
 MOST_FIGURES_ : ∃ t,mg "MOST_FIGURES" = some (.int 6 t)
 MOST_PAYOFF_ : ∃ t,mg "MOST_PAYOFF" = some (.int 1000000 t)
 MOST_PAYOFF_FIGURES_ : ∃ t,mg "MOST_PAYOFF_FIGURES" = some (.int 7 t)
 MOST_SIGNS_ : ∃ t,mg "MOST_SIGNS" = some (.int 12 t)
 MOST_STANDS_ : ∃ t,mg "MOST_STANDS" = some (.int 4 t)
section
variable {P:Program}{w:World}{K:PySem.W.Frag}{mg:Str→Option Value}{base:Heap}
def wholeD:PyData→Bool
 | .int _=>true
 | _=>false
def sp_is_whole:DC
 | [d],q=>q (.bool (wholeD d))
 | _,_=>False
theorem sc_is_whole:FnScope ["thing"] ["thing"] (defScope s_is_whole):=sc0
theorem ok_is_whole (F:Def K mg "is_whole" s_is_whole ["thing"]) (T:Txt mg)
 : Ok P w K mg base "is_whole" 1 ["thing"] (PSp K sp_is_whole):=by
  refine F.vok sc_is_whole (fun ds q h=>by unfold sp_is_whole at h;split at h;all_goals first|rfl|exact h.elim) fun f cdv A outer s H E hr ds q h=>?_
  match ds,h with
  | [d],h =>
  refine ⟨_,(vss_one (vs_ret (ve_and (ve_isi T.isinstance_ T.int_ L2.boot_int (ve_var 0)) (ve_one (ve_not (ve_isi T.isinstance_ T.bool_ L2.boot_bool (ve_var 0))))))),?_⟩
  cases d <;> exact h
theorem gcd_turn {a b:Int}{g:Nat} (h0:0≤a) (hb:0≤b) (h1:b≠0) (h:Nat.gcd a.toNat b.toNat=g) :
 0≤a%b∧a%b<b∧Nat.gcd b.toNat (a%b).toNat=g:=by
  have hp:0<b:=by omega
  have e1:=Int.emod_nonneg a h1
  have e2:=Int.emod_lt_of_pos a hp
  refine ⟨e1,e2,?_⟩
  have e3:(a%b).toNat=a.toNat%b.toNat:=by
   have:((a.toNat%b.toNat:Nat):Int)=a%b:=by
    rw [Int.natCast_emod,Int.toNat_of_nonneg h0,Int.toNat_of_nonneg hb]
   rw [← this];rfl
  rw [e3,← h,Nat.gcd_comm b.toNat,Nat.gcd_comm a.toNat]
  exact (Nat.gcd_rec _ _).symm
theorem gcd_end {a:Int}{b:Int}{g:Nat} (h0:0≤a) (h1:b=0) (h:Nat.gcd a.toNat b.toNat=g):a=(g:Int):=by
 subst h1
 rw [← h]
 have:Nat.gcd a.toNat (Int.toNat 0)=a.toNat:=Nat.gcd_zero_right _
 rw [this];omega
theorem gcd_start (a b:Int):Nat.gcd (if a<0 then -a else a).toNat (if b<0 then -b else b).toNat=Int.gcd a b:=by
 have e : ∀ x:Int,(if x<0 then -x else x).toNat=x.natAbs:=fun x=>by split <;> omega
 rw [e,e];rfl
structure Shr (p q:Int):Prop where
 pos:1≤q
 gcd:Int.gcd p q=1
def cm (t b:Int):Int:=if b<0 then -(Int.gcd t b:Int) else (Int.gcd t b:Int)
def shT (t b:Int):Int:=t.fdiv (cm t b)
def shB (t b:Int):Int:=b.fdiv (cm t b)
theorem gcd_pos {t b:Int} (hb:b≠0):0<Int.gcd t b:=Int.gcd_pos_of_ne_zero_right t hb
theorem cm_ne {t b:Int} (hb:b≠0):cm t b≠0:=by
 have:=gcd_pos (t:=t) hb
 unfold cm;split <;> omega
theorem cm_dvd_t (t b:Int):cm t b∣t:=by
 have h:(Int.gcd t b:Int)∣t:=Int.gcd_dvd_left ..
 unfold cm;split
 ·exact Int.neg_dvd.mpr h
 ·exact h
theorem cm_dvd_b (t b:Int):cm t b∣b:=by
 have h:(Int.gcd t b:Int)∣b:=Int.gcd_dvd_right ..
 unfold cm;split
 ·exact Int.neg_dvd.mpr h
 ·exact h
theorem fdiv_of_dvd {c t:Int} (h:c∣t):c*(t.fdiv c)=t:=Int.mul_fdiv_cancel' h
theorem shT_mul (t b:Int):cm t b*shT t b=t:=fdiv_of_dvd (cm_dvd_t t b)
theorem shB_mul (t b:Int):cm t b*shB t b=b:=fdiv_of_dvd (cm_dvd_b t b)
theorem natAbs_cm (t b:Int):(cm t b).natAbs=Int.gcd t b:=by unfold cm;split <;> omega
theorem sh_ok {t b:Int} (hb:b≠0):Shr (shT t b) (shB t b)∧shT t b*b=t*shB t b:=by
 have h1:=shT_mul t b
 have h2:=shB_mul t b
 have hc:=cm_ne (t:=t) hb
 have hg:=gcd_pos (t:=t) hb
 refine ⟨⟨?_,?_⟩,?_⟩
 ·by_cases hn:b<0
  ·have hcn:cm t b<0:=by unfold cm;rw [if_pos hn];omega
   have:0<shB t b:=by
    rcases Int.lt_or_le 0 (shB t b) with h|h
    ·exact h
    ·have:=Int.mul_nonneg_of_nonpos_of_nonpos (Int.le_of_lt hcn) h
     omega
   omega
  ·have hcn:0<cm t b:=by unfold cm;rw [if_neg hn];omega
   have hbp:0<b:=by omega
   have:0<shB t b:=by
    rcases Int.lt_or_le 0 (shB t b) with h|h
    ·exact h
    ·have:=Int.mul_nonpos_of_nonneg_of_nonpos (Int.le_of_lt hcn) h
     omega
   omega
 ·have e:Int.gcd (cm t b*shT t b) (cm t b*shB t b)=(cm t b).natAbs*Int.gcd (shT t b) (shB t b):=Int.gcd_mul_left ..
  rw [h1,h2,natAbs_cm] at e
  have e2:Int.gcd t b*1=Int.gcd t b*Int.gcd (shT t b) (shB t b):=by omega
  exact (Nat.eq_of_mul_eq_mul_left hg e2).symm
 ·have e:shT t b*(cm t b*shB t b)=(cm t b*shT t b)*shB t b:=by
   rw [← Int.mul_assoc,Int.mul_comm (shT t b)]
  rw [h2,h1] at e
  exact e
theorem dvd_cop {k m n:Int} (h:Int.gcd m k=1) (e:k∣m*n):k∣n:=by
 have e':k.natAbs∣m.natAbs*n.natAbs:=by rw [← Int.natAbs_mul];exact Int.natAbs_dvd_natAbs.mpr e
 have c:Nat.Coprime k.natAbs m.natAbs:=by
  show Nat.gcd k.natAbs m.natAbs=1
  rw [Nat.gcd_comm];exact h
 exact Int.natAbs_dvd_natAbs.mp (c.dvd_of_dvd_mul_left e')
theorem sh_uniq {p q p' q':Int} (h:Shr p q) (h':Shr p' q') (e:p*q'=p'*q):p=p'∧q=q':=by
 have d1:q∣q':=dvd_cop h.gcd (e ▸ Int.dvd_mul_left p' q)
 have d2:q'∣q:=dvd_cop h'.gcd (e ▸ Int.dvd_mul_left p q')
 have hq:q=q':=Int.dvd_antisymm (by have:=h.pos;omega) (by have:=h'.pos;omega) d1 d2
 subst hq
 exact ⟨Int.eq_of_mul_eq_mul_right (by have:=h.pos;omega) e,rfl⟩
theorem sh_alike {a b c d:Int} (hb:b≠0) (hd:d≠0):(shT a b=shT c d∧shB a b=shB c d)↔a*d=c*b:=by
 obtain ⟨s1,e1⟩:=sh_ok (t:=a) hb
 obtain ⟨s2,e2⟩:=sh_ok (t:=c) hd
 have q1:=s1.pos
 have q2:=s2.pos
 generalize shT a b=p at *
 generalize shB a b=q at *
 generalize shT c d=r at *
 generalize shB c d=s at *
 constructor
 ·rintro ⟨rfl,rfl⟩
  have:(a*d)*q=(c*b)*q:=by grind
  exact Int.eq_of_mul_eq_mul_right (by omega) this
 ·intro e
  apply sh_uniq s1 s2
  have:(p*s)*(b*d)=(r*q)*(b*d):=by grind
  exact Int.eq_of_mul_eq_mul_right (Int.mul_ne_zero hb hd) this
def sp_divisor:DC
 | [.int a,.int b],q=>q (.int (Int.gcd a b))
 | _,_=>False
theorem abs_nn (x:Int):0≤(if x<0 then -x else x):=by split <;> omega
theorem sc_divisor:FnScope ["one","other","rest"] ["one","other"] (defScope s_divisor):=sc0
theorem ok_divisor (F:Def K mg "divisor" s_divisor ["one","other"]) (T:Txt mg)
 : Ok P w K mg base "divisor" 1 ["one","other"] (PSp K sp_divisor):=by
  refine F.vok sc_divisor (fun ds q h=>by unfold sp_divisor at h;split at h;all_goals first|rfl|exact h.elim) fun f cdv A outer s H E hr ds q h=>?_
  match ds,h with
  | [.int a,.int b],h =>
  refine ⟨_,(vss_cons (vs_set (i:=0) sc_divisor.nd (ve_callB c_abs T.abs_ L2.boot_abs (va_cons (ve_var 0) va_nil)))
   (vss_cons (vs_set (i:=1) sc_divisor.nd (ve_callB c_abs T.abs_ L2.boot_abs (va_cons (ve_var 1) va_nil)))
   (vss_cons (vs_while (vt_cmp (o_ne hr.units) (ve_var 1) ve_int) (vss_cons (vs_set (i:=2) sc_divisor.nd (ve_op o_mod (ve_var 0) (ve_var 1)))
   (vss_cons (vs_set (i:=0) sc_divisor.nd (ve_var 1))
   (vss_one (vs_set (i:=1) sc_divisor.nd (ve_var 2))))))
   (vss_one (vs_ret (ve_var 0)))))),?_⟩
  refine ⟨fun m e => ∃ x y r,e=[.val (.int x),.val (.int y),r]∧0≤x∧0≤y∧Nat.gcd x.toNat y.toNat=Int.gcd a b∧m=y.toNat,⟨_,_,_,_,rfl,abs_nn a,abs_nn b,gcd_start a b,rfl⟩,?_⟩
  rintro m e ⟨x,y,r,rfl,hx,hy,hg,rfl⟩
  refine ⟨rfl,rfl,ite_ne (fun hne=>?_) (fun he=>?_)⟩
  ·obtain ⟨t1,t2,t3⟩:=gcd_turn hx hy hne hg
   exact ⟨by omega,(x%y).toNat,by omega,y,x%y,_,rfl,hy,t1,t3,rfl⟩
  ·subst he
   have:=gcd_end hx rfl hg
   rw [this];exact h
open Builtin.Int (intBits)
theorem cm_bits {t b:Int}{m:Nat} (hb:b≠0) (h:intBits b≤m):intBits (cm t b)≤m:=by
 refine intBits_le_of_natAbs ?_ h
 rw [natAbs_cm]
 exact Nat.le_of_dvd (by omega) (Nat.gcd_dvd_right t.natAbs b.natAbs)
theorem shT_bits {t b:Int}{m:Nat} (h:intBits t≤m):intBits (shT t b)≤m:=intBits_fdiv_le h
theorem shB_bits {t b:Int}{m:Nat} (h:intBits b≤m):intBits (shB t b)≤m:=intBits_fdiv_le h
theorem mulok {a b:Int} (ha:intBits a≤4000) (hb:intBits b≤4000):IntMulOk a b :=.of_le ha hb (by decide)
theorem bits_up {x:Int}{m n:Nat} (h:intBits x≤m) (e:m≤n):intBits x≤n:=Nat.le_trans h e
theorem bits_of {x:Int} (h1 : -(2^200)<x) (h2:x<2^200):intBits x≤200:=intBits_le_iff.mpr (by omega)
theorem bits64 {x:Int} (h1 : -(2^64)<x) (h2:x<2^64):intBits x≤64:=intBits_le_64 h1 h2
def dSh (p q:Int):PyData :=.tuple [.int p,.int q]
def sp_reduced:DC
 | [.int t,.int b],q=>(b≠0∧intBits b≤9000)∧q (dSh (shT t b) (shB t b))
 | _,_=>False
theorem sc_reduced:FnScope ["top","bottom","common"] ["top","bottom"] (defScope s_reduced):=sc0
theorem ok_reduced (F:Def K mg "reduced" s_reduced ["top","bottom"]) (T:Txt mg)
 (O_divisor:Ok P w K mg base "divisor" 1 ["one","other"] (PSp K sp_divisor))
 : Ok P w K mg base "reduced" 2 ["top","bottom"] (PSp K sp_reduced):=by
  refine F.vok sc_reduced (fun ds q h=>by unfold sp_reduced at h;split at h;all_goals first|rfl|exact h.elim) fun f cdv A outer s H E hr ds q h=>?_
  match ds,h with
  | [.int t,.int b],⟨⟨hb,hz⟩,h⟩ =>
  refine ⟨_,(vss_cons (vs_set (i:=2) sc_reduced.nd (ve_fn O_divisor.c (hr.mono (by decide)) (va_cons (ve_var 0) (va_cons (ve_var 1) va_nil))))
   (vss_mid (vs_if (vt_cmp o_lt (ve_var 1) ve_int) (vss_one (vs_set (i:=2) sc_reduced.nd (ve_neg (ve_var 2)))) vss_nil)
   (vss_one (vs_ret (ve_tup (va_cons (ve_op o_fdiv (ve_var 0) (ve_var 2)) (va_cons (ve_op o_fdiv (ve_var 1) (ve_var 2)) va_nil))))))),?_⟩
  have hc:=cm_ne (t:=t) hb
  have hcz:=cm_bits (t:=t) hb hz
  refine ⟨fun e=>e=[.val (.int t),.val (.int b),.val (.int (cm t b))],?_,?_⟩
  ·refine iteD (fun hn=>?_) (fun hn=>?_)
   ·show _=_
    unfold cm;rw [if_pos hn];rfl
   ·show _=_
    unfold cm;rw [if_neg hn];rfl
  ·rintro e rfl
   exact ⟨⟨hc,hcz⟩,⟨hc,hcz⟩,szl,h⟩
def sp_share:DC
 | [.int t,.int b],q=>(b≠0∧intBits b≤9000)∧q (dSh (shT t b) (shB t b))
 | _,_=>False
theorem sc_share:FnScope ["top","bottom"] ["top","bottom"] (defScope s_share):=sc0
theorem ok_share (F:Def K mg "share" s_share ["top","bottom"]) (T:Txt mg)
 (O_is_whole:Ok P w K mg base "is_whole" 1 ["thing"] (PSp K sp_is_whole))
 (O_reduced:Ok P w K mg base "reduced" 2 ["top","bottom"] (PSp K sp_reduced))
 : Ok P w K mg base "share" 3 ["top","bottom"] (PSp K sp_share):=by
  refine F.vok sc_share (fun ds q h=>by unfold sp_share at h;split at h;all_goals first|rfl|exact h.elim) fun f cdv A outer s H E hr ds q h=>?_
  match ds,h with
  | [.int t,.int b],h =>
  refine ⟨_,(vss_cons (vs_if (VW.pt (vw_or (vt_not (vt_val (ve_fn O_is_whole.c (hr.mono (by decide)) (va_cons (ve_var 0) va_nil)))) (vw_or (vt_not (vt_val (ve_fn O_is_whole.c (hr.mono (by decide)) (va_cons (ve_var 1) va_nil)))) (vw_or1 (vt_cmp (o_eq hr.units) (ve_var 1) ve_int))))) vss_never vss_nil)
   (vss_one (vs_ret (ve_fn O_reduced.c (hr.mono (by decide)) (va_cons (ve_var 0) (va_cons (ve_var 1) va_nil)))))),?_⟩
  exact ⟨rfl,rfl,ite_eq (fun z=>(h.1.1 z).elim) (fun _=>h)⟩
theorem take_snoc {zs:List Int}{i:Nat}{z:Int} (h:zs[i]?=some z):zs.take (i+1)=zs.take i++[z]:=by
 rw [List.take_add_one,h];rfl
theorem int_get {zs:List Int}{i:Nat}{x:PyData} (h:(zs.map PyData.int)[i]?=some x) : ∃ z,x = .int z∧zs[i]?=some z∧z ∈ zs:=by
 rw [List.getElem?_map] at h
 cases e:zs[i]? with
 | none=>rw [e] at h;cases h
 | some z =>
  rw [e] at h
  exact ⟨z,(Option.some.inj h).symm,rfl,List.mem_of_getElem? e⟩
theorem ints_snoc (xs:List Int) (x:Int):xs.map PyData.int++[PyData.int x]=(xs++[x]).map PyData.int:=by simp
structure Tab (b:Int) (R:List (List Int)) (n:Nat):Prop where
 pos:1≤b
 len : ∀ r ∈ R,r.length=n
 nn : ∀ r ∈ R,∀ x ∈ r,0≤x
 sum : ∀ r ∈ R,r.sum=b
def dRow (r:List Int):PyData :=.list (r.map .int)
def tRow (r:List Int):PyData :=.tuple (r.map .int)
theorem get_mem {α:Type}{l:List α}{i:Nat}{x:α} (h:l[i]?=some x):x ∈ l:=List.mem_of_getElem? h
theorem small_le {n:Nat} (h:n≤1000):n≤sizeLine:=Nat.le_of_lt (small1000 h)
theorem atI_zero {α:Type} (y:α) (l:List α):atI (y::l) 0=some y:=atI_nat (j:=0) rfl
theorem atI_int {α:Type}{l:List α}{i:Int}{x:α} (h0:0≤i) (h:l[i.toNat]?=some x):atI l i=some x:=by
 have:=atI_nat h
 rwa [Int.toNat_of_nonneg h0] at this
theorem iteB {c:Bool}{A B:Prop} (h1:c=true→A) (h2:c=false→B):if c=true then A else B:=by
 cases c with
 | true=>exact iteT (h1 rfl)
 | false=>exact iteF (h2 rfl)
theorem sum_nn : ∀ {r:List Int},(∀ n ∈ r,0≤n)→0≤r.sum
 | [],_=>by simp
 | n::r,h=>by
  rw [List.sum_cons]
  have a:=h n (by simp)
  have b:=sum_nn fun m hm=>h m (List.mem_cons_of_mem _ hm)
  omega
theorem mem_le_sum : ∀ {r:List Int}{x:Int},(∀ n ∈ r,0≤n)→x ∈ r→x≤r.sum
 | n::r,x,h,hx=>by
  rw [List.sum_cons]
  have a:=h n (by simp)
  have b:=sum_nn fun m hm=>h m (List.mem_cons_of_mem _ hm)
  rcases List.mem_cons.mp hx with rfl|hx
  ·omega
  ·have:=mem_le_sum (fun m hm=>h m (List.mem_cons_of_mem _ hm)) hx
   omega
theorem iteN {b:Bool}{A B:Prop} (h:b=true) (k:B):if (!b)=true then A else B:=by rw [h];exact iteF k
theorem iteY {b:Bool}{A B:Prop} (h:b=true) (k:A):if b=true then A else B:=by rw [h];exact iteT k
theorem iteZ {b:Bool}{A B:Prop} (h:b=false) (k:B):if b=true then A else B:=by rw [h];exact iteF k
def gRow (g:Nat) (r:List Int):Nat:=r.foldl (fun (g:Nat) (n:Int)=>Int.gcd g n) g
def gTab (R:List (List Int)):Nat:=R.foldl gRow 0
theorem gRow_dvd_acc : ∀ (r:List Int) (g:Nat),gRow g r∣g
 | [],g=>Nat.dvd_refl _
 | n::r,g=>Nat.dvd_trans (gRow_dvd_acc r (Int.gcd g n)) (by have:=Int.gcd_dvd_natAbs_left (g:Int) n;simpa using this)
theorem gRow_dvd : ∀ (r:List Int) (g:Nat),∀ n ∈ r,(gRow g r:Int)∣n
 | m::r,g,n,h=>by
  rcases List.mem_cons.mp h with rfl|h
  ·exact Int.dvd_trans (Int.natCast_dvd_natCast.mpr (gRow_dvd_acc r (Int.gcd g n))) (Int.gcd_dvd_right ..)
  ·exact gRow_dvd r (Int.gcd g m) n h
theorem gFold_dvd_acc : ∀ (R:List (List Int)) (g:Nat),R.foldl gRow g∣g
 | [],g=>Nat.dvd_refl _
 | r::R,g=>Nat.dvd_trans (gFold_dvd_acc R (gRow g r)) (gRow_dvd_acc r g)
theorem gFold_dvd : ∀ (R:List (List Int)) (g:Nat),∀ r ∈ R,∀ n ∈ r,((R.foldl gRow g:Nat):Int)∣n
 | s::R,g,r,h,n,hn=>by
  rcases List.mem_cons.mp h with rfl|h
  ·exact Int.dvd_trans (Int.natCast_dvd_natCast.mpr (gFold_dvd_acc R (gRow g r))) (gRow_dvd r g n hn)
  ·exact gFold_dvd R (gRow g s) r h n hn
theorem gTab_dvd {R:List (List Int)}{r:List Int}{n:Int} (h:r ∈ R) (hn:n ∈ r):(gTab R:Int)∣n:=gFold_dvd R 0 r h n hn
theorem gRow_mul (k:Nat) : ∀ (r:List Int) (g:Nat),gRow (k*g) (r.map fun n=>(k:Int)*n)=k*gRow g r
 | [],g=>rfl
 | n::r,g=>by
  have e:Int.gcd ((k*g:Nat):Int) ((k:Int)*n)=k*Int.gcd g n:=by
   rw [Int.natCast_mul,Int.gcd_mul_left];rfl
  show gRow (Int.gcd ((k*g:Nat):Int) ((k:Int)*n)) (r.map fun n=>(k:Int)*n)=_
  rw [e]
  exact gRow_mul k r (Int.gcd g n)
theorem gFold_mul (k:Nat) : ∀ (R:List (List Int)) (g:Nat),(R.map fun r=>r.map fun n=>(k:Int)*n).foldl gRow (k*g)=k*R.foldl gRow g
 | [],g=>rfl
 | r::R,g=>by
  show (R.map fun r=>r.map fun n=>(k:Int)*n).foldl gRow (gRow (k*g) (r.map fun n=>(k:Int)*n))=_
  rw [gRow_mul]
  exact gFold_mul k R (gRow g r)
theorem gTab_mul (k:Nat) (R:List (List Int)):gTab (R.map fun r=>r.map fun n=>(k:Int)*n)=k*gTab R:=gFold_mul k R 0
def divT (R:List (List Int)) (g:Int):List (List Int):=R.map fun r=>r.map fun n=>n/g
theorem map_eq_self {α:Type}{f:α→α} : ∀ {l:List α},(∀ x ∈ l,f x=x)→l.map f=l
 | [],_=>rfl
 | x::l,h=>by rw [List.map_cons,h x (by simp),map_eq_self fun y hy=>h y (List.mem_cons_of_mem _ hy)]
theorem divT_mul {R:List (List Int)}:(divT R (gTab R)).map (fun r=>r.map fun n=>(gTab R:Int)*n)=R:=by
 unfold divT
 rw [List.map_map]
 refine map_eq_self fun r hr=>?_
 show (r.map fun n=>n/(gTab R:Int)).map (fun n=>(gTab R:Int)*n)=r
 rw [List.map_map]
 exact map_eq_self fun n hn=>Int.mul_ediv_cancel' (gTab_dvd hr hn)
theorem gTab_low {R:List (List Int)} (h:0<gTab R):gTab (divT R (gTab R))=1:=by
 have e:=gTab_mul (gTab R) (divT R (gTab R))
 rw [divT_mul] at e
 have e2:gTab R*1=gTab R*gTab (divT R (gTab R)):=by omega
 exact (Nat.eq_of_mul_eq_mul_left h e2).symm
theorem sum_zero : ∀ {r:List Int},(∀ n ∈ r,n=0)→r.sum=0
 | [],_=>rfl
 | n::r,h=>by rw [List.sum_cons,h n (by simp),sum_zero fun m hm=>h m (List.mem_cons_of_mem _ hm)];rfl
theorem Tab.gpos {b:Int}{R:List (List Int)}{n:Nat} (h:Tab b R n) (hR:R≠[]):0<gTab R:=by
 rcases Nat.eq_zero_or_pos (gTab R) with e|e
 ·exfalso
  obtain ⟨r,R',rfl⟩:=List.exists_cons_of_ne_nil hR
  have h1:=h.sum r (by simp)
  have h2 : ∀ m ∈ r,m=0:=fun m hm=>by
   have:=gTab_dvd (R:=r::R') (by simp) hm
   rw [e] at this
   exact Int.zero_dvd.mp this
  rw [sum_zero h2] at h1
  have:=h.pos
  omega
 ·exact e
theorem sum_dvd {g:Int} : ∀ {r:List Int},(∀ n ∈ r,g∣n)→g∣r.sum
 | [],_=>by simp
 | n::r,h=>by rw [List.sum_cons];exact Int.dvd_add (h n (by simp)) (sum_dvd fun m hm=>h m (List.mem_cons_of_mem _ hm))
theorem Tab.gdvd {b:Int}{R:List (List Int)}{n:Nat} (h:Tab b R n) (hR:R≠[]):(gTab R:Int)∣b:=by
 obtain ⟨r,R',rfl⟩:=List.exists_cons_of_ne_nil hR
 rw [← h.sum r (by simp)]
 exact sum_dvd fun m hm=>gTab_dvd (by simp) hm
theorem sum_div {g:Int} : ∀ {r:List Int},(∀ n ∈ r,g∣n)→(r.map fun n=>n/g).sum=r.sum/g
 | [],_=>by simp
 | n::r,h=>by
  rw [List.map_cons,List.sum_cons,List.sum_cons,sum_div fun m hm=>h m (List.mem_cons_of_mem _ hm)]
  exact (Int.add_ediv_of_dvd_left (h n (by simp))).symm
theorem Tab.low {b:Int}{R:List (List Int)}{n:Nat} (h:Tab b R n) (hR:R≠[]):Tab (b/gTab R) (divT R (gTab R)) n:=by
 have hp:=h.gpos hR
 have hd:=h.gdvd hR
 have hb:=h.pos
 have hgb:(gTab R:Int)≤b:=Int.le_of_dvd (by omega) hd
 refine ⟨?_,?_,?_,?_⟩
 ·exact (Int.le_ediv_iff_mul_le (by omega)).mpr (by omega)
 ·intro r hr
  obtain ⟨s,hs,rfl⟩:=List.mem_map.mp hr
  rw [List.length_map];exact h.len s hs
 ·intro r hr x hx
  obtain ⟨s,hs,rfl⟩:=List.mem_map.mp hr
  obtain ⟨y,hy,rfl⟩:=List.mem_map.mp hx
  exact Int.ediv_nonneg (h.nn s hs y hy) (by omega)
 ·intro r hr
  obtain ⟨s,hs,rfl⟩:=List.mem_map.mp hr
  rw [sum_div fun m hm=>gTab_dvd hs hm,h.sum s hs]
theorem gRow_snoc (g:Nat) (r:List Int) (n:Int):gRow g (r++[n])=Int.gcd (gRow g r) n:=by unfold gRow;rw [List.foldl_append];rfl
theorem gFold_snoc (R:List (List Int)) (r:List Int):gTab (R++[r])=gRow (gTab R) r:=by unfold gTab;rw [List.foldl_append];rfl
def natD:PyData→Bool
 | .int n=>decide (0≤n)
 | _=>false
def intD:PyData→Int
 | .int n=>n
 | _=>0
def makesRow (d:PyData) (b:Int):Bool:=match seqD d with
 | none=>false
 | some l=>(decide (1≤l.length)&&decide (l.length≤12))&&(l.all natD&&decide ((l.map intD).sum=b))
def lenD (d:PyData):Nat:=((seqD d).getD []).length
def makesTable (bd rd:PyData) (lo hi:Int):Bool:=match bd,seqD rd with
 | .int b,some l=>decide (1≤b)&&((decide (lo≤l.length)&&decide ((l.length:Int)≤hi))&&(l.all (makesRow · b)&&l.all fun r=>lenD r==lenD ((l[0]?).getD .none)))
 | _,_=>false
def RowsD (d:PyData) (R:List (List Int)):Prop := ∃ l,seqD d=some l∧l.map (fun x=>(seqD x).getD [])=R.map (fun r=>r.map PyData.int) ∧ ∀ x ∈ l,(seqD x).isSome=true
theorem RowsD.len {d:PyData}{R:List (List Int)}{l:List PyData} (h:RowsD d R) (e:seqD d=some l):l.length=R.length:=by
 obtain ⟨m,e',h1,_⟩:=h
 rw [e] at e';cases e'
 have:=congrArg List.length h1
 simpa using this
theorem RowsD.get {d:PyData}{R:List (List Int)}{l:List PyData}{i:Nat}{x:PyData} (h:RowsD d R) (e:seqD d=some l) (hx:l[i]?=some x) : ∃ r,R[i]?=some r∧seqD x=some (r.map .int):=by
 obtain ⟨m,e',h1,h2⟩:=h
 rw [e] at e';cases e'
 have h3:(l.map fun x=>(seqD x).getD [])[i]?=some ((seqD x).getD []):=by rw [List.getElem?_map,hx];rfl
 rw [h1,List.getElem?_map] at h3
 obtain ⟨y,hy⟩:=Option.isSome_iff_exists.mp (h2 x (List.mem_of_getElem? hx))
 cases q:R[i]? with
 | none=>rw [q] at h3;cases h3
 | some r =>
  rw [q] at h3
  refine ⟨r,rfl,?_⟩
  rw [hy] at h3 ⊢
  exact h3.symm
theorem RowsD.of {d:PyData}{R:List (List Int)}{f:List PyData→PyData} (hf : ∀ l,seqD (f l)=some l) (e:seqD d=some (R.map fun r=>f (r.map .int))):RowsD d R:=by
 refine ⟨_,e,?_,?_⟩
 ·rw [List.map_map]
  refine List.map_congr_left fun r _=>?_
  simp [hf]
 ·intro x hx
  obtain ⟨r,_,rfl⟩:=List.mem_map.mp hx
  simp [hf]
theorem ints_of_nat : ∀ {l:List PyData},l.all natD=true→l=(l.map intD).map PyData.int ∧ ∀ n ∈ l.map intD,0≤n
 | [],_=>by simp
 | d::l,h=>by
  rw [List.all_cons,Bool.and_eq_true] at h
  obtain ⟨e,g⟩:=ints_of_nat h.2
  cases d with
  | int n =>
   have hn:0≤n:=of_decide_eq_true h.1
   refine ⟨?_,?_⟩
   ·rw [List.map_cons,List.map_cons,← e];rfl
   ·intro m hm
    rcases List.mem_cons.mp hm with rfl|hm
    ·exact hn
    ·exact g m hm
  | _=>exact absurd h.1 (by simp [natD])
theorem nat_of_ints {ns:List Int} (h : ∀ n ∈ ns,0≤n):(ns.map PyData.int).all natD=true∧(ns.map PyData.int).map intD=ns:=by
 refine ⟨?_,?_⟩
 ·rw [List.all_eq_true]
  intro x hx
  obtain ⟨n,hn,rfl⟩:=List.mem_map.mp hx
  exact decide_eq_true (h n hn)
 ·rw [List.map_map];exact map_eq_self fun n _=>rfl
theorem makesRow_iff {d:PyData}{b:Int}:makesRow d b=true ↔ ∃ r:List Int,seqD d=some (r.map .int)∧1≤r.length∧r.length≤12∧(∀ n ∈ r,0≤n)∧r.sum=b:=by
 unfold makesRow
 cases h:seqD d with
 | none=>simp
 | some l =>
  simp only [Bool.and_eq_true,decide_eq_true_eq]
  constructor
  ·rintro ⟨⟨h1,h2⟩,h3,h4⟩
   obtain ⟨e,g⟩:=ints_of_nat h3
   exact ⟨l.map intD,by rw [← e],by simpa using h1,by simpa using h2,g,h4⟩
  ·rintro ⟨r,e,h1,h2,h3,h4⟩
   cases e
   obtain ⟨g1,g2⟩:=nat_of_ints h3
   exact ⟨⟨by simpa using h1,by simpa using h2⟩,g1,by rw [g2];exact h4⟩
theorem makesTable_of {d:PyData}{b lo hi:Int}{R:List (List Int)}{n:Nat} (h:RowsD d R) (hT:Tab b R n) (h1:1≤n) (h2:n≤12) (h3:lo≤R.length) (h4:R.length≤hi):makesTable (.int b) d lo hi=true:=by
 obtain ⟨l,e,_⟩:=id h
 have hl:=h.len e
 have rowOf : ∀ x ∈ l,∃ r ∈ R,seqD x=some (r.map .int):=fun x hx=>by
  obtain ⟨i,hi,rfl⟩:=List.getElem_of_mem hx
  obtain ⟨r,hr,e'⟩:=h.get e (List.getElem?_eq_getElem hi)
  exact ⟨r,List.mem_of_getElem? hr,e'⟩
 have lenOf : ∀ x ∈ l,lenD x=n:=fun x hx=>by
  obtain ⟨r,hr,e'⟩:=rowOf x hx
  unfold lenD
  rw [e']
  simpa using hT.len r hr
 unfold makesTable
 rw [e]
 simp only [Bool.and_eq_true,decide_eq_true_eq,List.all_eq_true,beq_iff_eq]
 refine ⟨hT.pos,⟨by omega,by omega⟩,fun x hx=>?_,fun x hx=>?_⟩
 ·obtain ⟨r,hr,e'⟩:=rowOf x hx
  exact makesRow_iff.mpr ⟨r,e',by rw [hT.len r hr];exact h1,by rw [hT.len r hr];exact h2,hT.nn r hr,hT.sum r hr⟩
 ·rw [lenOf x hx]
  cases l with
  | nil=>simp at hx
  | cons y l=>exact (lenOf y (by simp)).symm
theorem makesTable_inv {bd rd:PyData}{lo hi:Int} (h1:1≤lo) (h:makesTable bd rd lo hi=true) : ∃ (b:Int) (R:List (List Int)) (n:Nat),bd = .int b∧RowsD rd R∧Tab b R n∧1≤n∧n≤12∧lo≤R.length∧R.length≤hi:=by
 unfold makesTable at h
 cases bd with
 | int b =>
  cases e:seqD rd with
  | none=>rw [e] at h;cases h
  | some l =>
   rw [e] at h
   simp only [Bool.and_eq_true,decide_eq_true_eq,List.all_eq_true,beq_iff_eq] at h
   obtain ⟨hb,⟨g1,g2⟩,g3,g4⟩:=h
   have rows : ∀ x ∈ l,∃ r:List Int,seqD x=some (r.map .int)∧1≤r.length∧r.length≤12∧(∀ n ∈ r,0≤n)∧r.sum=b:=fun x hx=>makesRow_iff.mp (g3 x hx)
   have rl : ∀ x ∈ l,((((seqD x).getD []).map intD).map PyData.int)=(seqD x).getD []∧(seqD x).isSome=true∧lenD x=(((seqD x).getD []).map intD).length∧1≤lenD x∧lenD x≤12∧(∀ n ∈ ((seqD x).getD []).map intD,0≤n)∧(((seqD x).getD []).map intD).sum=b:=fun x hx=>by
    obtain ⟨r,e',a1,a2,a3,a4⟩:=rows x hx
    have e2:=(nat_of_ints a3).2
    unfold lenD
    rw [e']
    simp only [Option.getD_some,e2,Option.isSome_some,List.length_map]
    exact ⟨trivial,trivial,trivial,a1,a2,a3,a4⟩
   obtain ⟨y,l',rfl⟩ : ∃ y l',l=y::l':=by
    cases l with
    | nil=>simp at g1;omega
    | cons y l'=>exact ⟨y,l',rfl⟩
   refine ⟨b,(y::l').map (fun x=>((seqD x).getD []).map intD),lenD y,rfl,⟨_,e,?_,fun x hx=>(rl x hx).2.1⟩,⟨hb,?_,?_,?_⟩,(rl y (by simp)).2.2.2.1,(rl y (by simp)).2.2.2.2.1,by simpa using g1,by simpa using g2⟩
   ·rw [List.map_map]
    exact List.map_congr_left fun x hx=>((rl x hx).1).symm
   ·intro r hr
    obtain ⟨x,hx,rfl⟩:=List.mem_map.mp hr
    rw [← (rl x hx).2.2.1]
    exact g4 x hx
   ·intro r hr
    obtain ⟨x,hx,rfl⟩:=List.mem_map.mp hr
    exact (rl x hx).2.2.2.2.2.1
   ·intro r hr
    obtain ⟨x,hx,rfl⟩:=List.mem_map.mp hr
    exact (rl x hx).2.2.2.2.2.2
 | _=>cases h
def dTab (b:Int) (R:List (List Int)):PyData :=.tuple [.int b,.tuple (R.map tRow)]
theorem rowsD_tup (R:List (List Int)):RowsD (.tuple (R.map tRow)) R:=RowsD.of (f :=.tuple) (fun _=>rfl) rfl
theorem rowsD_lst (R:List (List Int)):RowsD (.list (R.map dRow)) R:=RowsD.of (f :=.list) (fun _=>rfl) rfl
def sp_makes_row:DC
 | [d,.int b],q=>q (.bool (makesRow d b))
 | _,_=>False
theorem sc_makes_row:FnScope ["row","bottom"] ["row","bottom"] (defScope s_makes_row):=sc0
theorem ok_makes_row (F:Def K mg "makes_row" s_makes_row ["row","bottom"]) (T:Txt mg)
 (O_is_whole:Ok P w K mg base "is_whole" 1 ["thing"] (PSp K sp_is_whole))
 : Ok P w K mg base "makes_row" 2 ["row","bottom"] (PSp K sp_makes_row):=by
  refine F.vok sc_makes_row (fun ds q h=>by unfold sp_makes_row at h;split at h;all_goals first|rfl|exact h.elim) fun f cdv A outer s H E hr ds q h=>?_
  match ds,h with
  | [d,.int b],h =>
  refine ⟨_,(vss_cons (vs_if (VW.pt (vw_or (vt_not (vt_val (ve_isi2 T.isinstance_ T.list_ L2.boot_list T.tuple_ L2.boot_tuple (ve_var 0)))) (vw_or1 (vt_not (vt_chain o_le o_le ve_int (ve_callB c_len T.len_ L2.boot_len (va_cons (ve_var 0) va_nil)) (ve_globI T.MOST_SIGNS_)))))) (vss_one (vs_ret ve_bl)) vss_nil)
   (vss_one (vs_ret (ve_and (ve_callB (c_all rfl) T.all_ L2.boot_all (va_cons (vf_fz (vf_comp (caps:=[]) (own:=["number"]) (ix:=[]) rfl ⟨rfl,rfl,rfl,rfl,rfl,rfl⟩ (vi_seq (ve_var 0)) (fun _ _ _ _=>(vg_name (i:=0) (show List.Nodup (["number"]:List Str) by decide))) (fun _ _ _ _=>(ve_and (ve_fn O_is_whole.c (hr.mono (by decide)) (va_cons (ve_var 0) va_nil)) (ve_one (ve_cmp o_ge (ve_var 0) ve_int)))))) va_nil)) (ve_one (ve_cmp (o_eq hr.units) (ve_callB (c_sum rfl) T.sum_ L2.boot_sum (va_cons (ve_var 0) va_nil)) (ve_var 1))))))),?_⟩
  have h:q (.bool (makesRow d b)):=h
  cases hs:seqD d with
  | none =>
   have e:(isTy "list" d||isTy "tuple" d)=false:=by rw [isi_seq,hs];rfl
   have h0:makesRow d b=false:=by unfold makesRow;rw [hs]
   rw [h0] at h
   refine iteB (fun _=>?_) (fun z=>?_)
   ·exact h
   ·rw [e] at z;cases z
  | some l =>
   have hm:makesRow d b=((decide (1≤l.length)&&decide (l.length≤12))&&(l.all natD&&decide ((l.map intD).sum=b))):=by unfold makesRow;rw [hs]
   rw [hm] at h
   refine iteB (fun z=>?_) (fun _=>len_seq hs (iteD (fun h1=>iteB (fun h2=>?_) (fun h2=>?_)) (fun h1=>iteT ?_)))
   ·rw [isi_seq,hs] at z;cases z
   ·have e:decide (l.length≤12)=false:=by simp at h2 ⊢;omega
    rw [e,Bool.and_false,Bool.false_and] at h;exact h
   ·have e1:decide (1≤l.length)=true:=by simp;omega
    have e2:decide (l.length≤12)=true:=by simp at h2 ⊢;omega
    rw [e1,e2] at h
    replace h:q (.bool (l.all natD&&decide ((l.map intD).sum=b))):=h
    refine seq_elim hs (comp_by (l.map fun x => .bool (natD x)) (by simp) (small1000 (by simp at e2 ⊢;omega)) (fun e => ∃ s,e=[s]) ⟨_,rfl⟩ ?_ ?_)
    ·rintro i x ys e hx hys ⟨s,rfl⟩
     have hL:(l.map fun x=>PyData.bool (natD x))[i]?=some (.bool (natD x)):=by rw [List.getElem?_map,hx];rfl
     cases x with
     | int n=>exact ⟨snoc_take hL hys,_,rfl⟩
     | _=>exact ⟨snoc_take hL hys,_,rfl⟩
    ·refine ⟨l.map natD,by rw [List.map_map];rfl,?_⟩
     have e:(l.map natD).all id=l.all natD:=by rw [List.all_map];rfl
     rw [e]
     refine iteB (fun z=>?_) (fun z=>?_)
     ·obtain ⟨g1,g2⟩:=ints_of_nat z
      rw [z] at h
      refine sum_seq (ns:=l.map intD) (by rw [hs,← g1]) ⟨rfl,rfl,?_⟩
      have e3:PyData.eqv (.int (l.map intD).sum) (.int b)=decide ((l.map intD).sum=b):=by rw [eqv_int];exact Bool.beq_eq_decide_eq _ _
      rw [e3];exact h
     ·rw [z] at h;exact h
   ·have e1:decide (1≤l.length)=false:=decide_eq_false (by omega)
    rw [e1] at h;exact h
def sp_makes_table:DC
 | [bd,rd,.int lo,.int hi],q=>(1≤lo∧hi≤900)∧q (.bool (makesTable bd rd lo hi))
 | _,_=>False
theorem sc_makes_table:FnScope ["bottom","rows","fewest","most"] ["bottom","rows","fewest","most"] (defScope s_makes_table):=sc0
theorem ok_makes_table (F:Def K mg "makes_table" s_makes_table ["bottom","rows","fewest","most"]) (T:Txt mg)
 (O_is_whole:Ok P w K mg base "is_whole" 1 ["thing"] (PSp K sp_is_whole))
 (O_makes_row:Ok P w K mg base "makes_row" 2 ["row","bottom"] (PSp K sp_makes_row))
 : Ok P w K mg base "makes_table" 3 ["bottom","rows","fewest","most"] (PSp K sp_makes_table):=by
  refine F.vok sc_makes_table (fun ds q h=>by unfold sp_makes_table at h;split at h;all_goals first|rfl|exact h.elim) fun f cdv A outer s H E hr ds q h=>?_
  match ds,h with
  | [bd,rd,.int lo,.int hi],⟨⟨h1,h2⟩,h⟩ =>
  refine ⟨_,(vss_cons (vs_if (VW.pt (vw_or (vt_not (vt_val (ve_fn O_is_whole.c (hr.mono (by decide)) (va_cons (ve_var 0) va_nil)))) (vw_or1 (vt_cmp o_lt (ve_var 0) ve_int)))) (vss_one (vs_ret ve_bl)) vss_nil)
   (vss_cons (vs_if (VW.pt (vw_or (vt_not (vt_val (ve_isi2 T.isinstance_ T.list_ L2.boot_list T.tuple_ L2.boot_tuple (ve_var 1)))) (vw_or1 (vt_not (vt_chain o_le o_le (ve_var 2) (ve_callB c_len T.len_ L2.boot_len (va_cons (ve_var 1) va_nil)) (ve_var 3)))))) (vss_one (vs_ret ve_bl)) vss_nil)
   (vss_cons (vs_if (vt_not (vt_val (ve_callB (c_all rfl) T.all_ L2.boot_all (va_cons (vf_fz (vf_comp (caps:=["bottom"]) (own:=["row"]) (ix:=[0]) rfl ⟨rfl,rfl,rfl,rfl,rfl,rfl⟩ (vi_seq (ve_var 1)) (fun _ _ _ _=>(vg_name (i:=1) (show List.Nodup (["bottom","row"]:List Str) by decide))) (fun _ _ _ _=>(ve_fn O_makes_row.c (hr.mono (by decide)) (va_cons (ve_var 1) (va_cons (ve_var 0) va_nil)))))) va_nil)))) (vss_one (vs_ret ve_bl)) vss_nil)
   (vss_one (vs_ret (ve_callB (c_all rfl) T.all_ L2.boot_all (va_cons (vf_fz (vf_comp (caps:=["rows"]) (own:=["row"]) (ix:=[1]) rfl ⟨rfl,rfl,rfl,rfl,rfl,rfl⟩ (vi_seq (ve_var 1)) (fun _ _ _ _=>(vg_name (i:=1) (show List.Nodup (["rows","row"]:List Str) by decide))) (fun _ _ _ _=>(ve_cmp (o_eq hr.units) (ve_callB c_len T.len_ L2.boot_len (va_cons (ve_var 1) va_nil)) (ve_callB c_len T.len_ L2.boot_len (va_cons (ve_ix (ve_var 0) ve_int) va_nil)))))) va_nil))))))),?_⟩
  have h:q (.bool (makesTable bd rd lo hi)):=h
  cases bd with
  | int b =>
   refine iteD (fun hb=>?_) (fun hb=>?_)
   ·have e:makesTable (.int b) rd lo hi=false:=by
     unfold makesTable
     cases seqD rd with
     | none=>rfl
     | some l=>show (decide (1≤b)&&_)=false;rw [decide_eq_false (by omega)];rfl
    rw [e] at h;exact h
   cases hs:seqD rd with
   | none =>
    have e:(isTy "list" rd||isTy "tuple" rd)=false:=by rw [isi_seq,hs];rfl
    have h0:makesTable (.int b) rd lo hi=false:=by unfold makesTable;rw [hs]
    rw [h0] at h
    refine iteB (fun _=>h) (fun z=>?_)
    rw [e] at z;cases z
   | some l =>
    have hm:makesTable (.int b) rd lo hi=((decide (lo≤l.length)&&decide ((l.length:Int)≤hi))&&(l.all (makesRow · b)&&l.all fun r=>lenD r==lenD ((l[0]?).getD .none))):=by
     unfold makesTable;rw [hs];show (decide (1≤b)&&_)=_;rw [decide_eq_true (by omega)];rfl
    rw [hm] at h
    refine iteB (fun z=>?_) (fun _=>len_seq hs (iteD (fun g1=>iteB (fun g2=>?_) (fun g2=>?_)) (fun g1=>iteT ?_)))
    ·rw [isi_seq,hs] at z;cases z
    ·have e:decide ((l.length:Int)≤hi)=false:=by
      cases q:decide ((l.length:Int)≤hi) with
      | false=>rfl
      | true=>rw [q] at g2;cases g2
     rw [e,Bool.and_false,Bool.false_and] at h;exact h
    ·have e2:decide ((l.length:Int)≤hi)=true:=by
      cases q:decide ((l.length:Int)≤hi) with
      | true=>rfl
      | false=>rw [q] at g2;cases g2
     have g3:=of_decide_eq_true e2
     rw [decide_eq_true g1,e2,Bool.true_and,Bool.true_and] at h
     refine seq_elim hs (comp_by (l.map fun x => .bool (makesRow x b)) (by simp) (small1000 (by simp;omega)) (fun e => ∃ s,e=[.val (.int b),s]) ⟨_,rfl⟩ ?_ ?_)
     ·rintro i x ys e hx hys ⟨s,rfl⟩
      exact ⟨snoc_take (by rw [List.getElem?_map,hx];rfl) hys,_,rfl⟩
     refine ⟨l.map (makesRow · b),by rw [List.map_map];rfl,?_⟩
     have e:(l.map (makesRow · b)).all id=l.all (makesRow · b):=by rw [List.all_map];rfl
     rw [e]
     refine iteB (fun z=>?_) (fun z=>?_)
     ·have z':l.all (makesRow · b)=false:=by
       cases q:l.all (makesRow · b) with
       | false=>rfl
       | true=>rw [q] at z;cases z
      rw [z',Bool.false_and] at h;exact h
     ·have z':l.all (makesRow · b)=true:=by
       cases q:l.all (makesRow · b) with
       | true=>rfl
       | false=>rw [q] at z;cases z
      rw [z',Bool.true_and] at h
      have sq : ∀ x ∈ l,seqD x=some ((seqD x).getD []):=fun x hx=>by
       obtain ⟨r,hr,_⟩:=makesRow_iff.mp (List.all_eq_true.mp z' x hx)
       rw [hr];rfl
      obtain ⟨y,l',rfl⟩ : ∃ y l',l=y::l':=by
       cases l with
       | nil=>simp at g1;omega
       | cons y l'=>exact ⟨y,l',rfl⟩
      refine seq_elim hs (comp_by ((y::l').map fun x => .bool (lenD x==lenD y)) (by simp) (small1000 (by rw [List.length_map];omega)) (fun e => ∃ s,e=[.val rd,s]) ⟨_,rfl⟩ ?_ ?_)
      ·rintro i x ys e hx hys ⟨s,rfl⟩
       refine len_seq (sq x (get_mem hx)) (ix_seqD hs (atI_zero _ _) (len_seq (sq y (by simp)) ⟨rfl,rfl,?_,_,rfl⟩))
       refine snoc_take ?_ hys
       rw [List.getElem?_map,hx]
       have e3:PyData.eqv (.int ((seqD x).getD []).length) (.int ((seqD y).getD []).length)=(lenD x==lenD y):=by
        rw [eqv_int];unfold lenD
        rw [Bool.eq_iff_iff];simp;omega
       rw [e3];rfl
      ·refine ⟨(y::l').map fun x=>lenD x==lenD y,by rw [List.map_map];rfl,?_⟩
       have e:((y::l').map fun x=>lenD x==lenD y).all id=(y::l').all fun x=>lenD x==lenD y:=by rw [List.all_map];rfl
       rw [e];exact h
    ·rw [decide_eq_false g1,Bool.false_and,Bool.false_and] at h;exact h
  | _=>exact h
def sp_common_divisor (ds:List PyData) (q:PyData→Prop):Prop := ∃ d R,ds=[d]∧RowsD d R∧q (.int (gTab R))
theorem sc_common_divisor:FnScope ["rows","common","row","number"] ["rows"] (defScope s_common_divisor):=sc0
theorem ok_common_divisor (F:Def K mg "common_divisor" s_common_divisor ["rows"]) (T:Txt mg)
 (O_divisor:Ok P w K mg base "divisor" 1 ["one","other"] (PSp K sp_divisor))
 : Ok P w K mg base "common_divisor" 2 ["rows"] (PSp K sp_common_divisor):=by
  refine F.vok sc_common_divisor (by rintro ds q ⟨_,_,h,_⟩;rw [h];rfl) fun f cdv A outer s H E hr ds q h=>?_
  obtain ⟨d,R,rfl,hR,h⟩:=h
  refine ⟨_,(vss_cons (vs_set (i:=1) sc_common_divisor.nd ve_int)
   (vss_cons (vs_for rfl (vi_seq (ve_var 0)) (vg_name (i:=2) sc_common_divisor.nd) (vss_one (vs_for rfl (vi_seq (ve_var 2)) (vg_name (i:=3) sc_common_divisor.nd) (vss_one (vs_set (i:=1) sc_common_divisor.nd (ve_fn O_divisor.c (hr.mono (by decide)) (va_cons (ve_var 1) (va_cons (ve_var 3) va_nil))))))))
   (vss_one (vs_ret (ve_var 1))))),?_⟩
  obtain ⟨l,e,_⟩:=id hR
  refine seq_elim e ⟨fun i e => ∃ t1 t2 c,e=[.val d,.val (.int c),t1,t2]∧c=(gTab (R.take i):Int),⟨_,_,_,rfl,rfl⟩,?_,?_⟩
  ·rintro i x e' hx ⟨t1,t2,_,rfl,rfl⟩
   obtain ⟨r,hr,er⟩:=hR.get e hx
   refine seq_elim er ⟨fun j e => ∃ t2 c,e=[.val d,.val (.int c),.val x,t2]∧c=(gRow (gTab (R.take i)) (r.take j):Int),⟨_,_,rfl,rfl⟩,?_,?_⟩
   ·rintro j y e hy ⟨t2,_,rfl,rfl⟩
    obtain ⟨z,rfl,hz,_⟩:=int_get hy
    refine ⟨_,_,rfl,?_⟩
    rw [take_snoc hz,gRow_snoc]
   ·rintro e ⟨t2,_,rfl,rfl⟩
    refine ⟨_,_,_,rfl,?_⟩
    rw [List.length_map,List.take_length,List.take_add_one,hr]
    show _=((gTab (R.take i++[r]):Nat):Int)
    rw [gFold_snoc]
  ·rintro e' ⟨t1,t2,_,rfl,rfl⟩
   rw [hR.len e,List.take_length]
   exact h
def sp_divided (ds:List PyData) (q:PyData→Prop):Prop := ∃ (d:PyData) (r:List Int) (g:Int),ds=[d,.int g]∧(seqD d=some (r.map .int)∧r.length≤900∧0<g∧intBits g≤9000)∧q (tRow (r.map fun n=>n/g))
theorem sc_divided:FnScope ["row","common"] ["row","common"] (defScope s_divided):=sc0
theorem ok_divided (F:Def K mg "divided" s_divided ["row","common"]) (T:Txt mg)
 : Ok P w K mg base "divided" 1 ["row","common"] (PSp K sp_divided):=by
  refine F.vok sc_divided (by rintro ds q ⟨_,_,_,h,_⟩;rw [h];rfl) fun f cdv A outer s H E hr ds q h=>?_
  obtain ⟨d,r,g,rfl,⟨e,hl,g0,g1⟩,h⟩:=h
  refine ⟨_,(vss_one (vs_ret (ve_callTy c_tuple T.tuple_ L2.boot_tuple (va_cons (vf_fz (vf_comp (caps:=["common"]) (own:=["number"]) (ix:=[1]) rfl ⟨rfl,rfl,rfl,rfl,rfl,rfl⟩ (vi_seq (ve_var 0)) (fun _ _ _ _=>(vg_name (i:=1) (show List.Nodup (["common","number"]:List Str) by decide))) (fun _ _ _ _=>(ve_op o_div (ve_var 1) (ve_var 0))))) va_nil)))),?_⟩
  refine seq_elim e (comp_by ((r.map fun n=>n/g).map .int) (by simp) (small1000 (by simp;omega)) (fun e => ∃ s,e=[.val (.int g),s]) ⟨_,rfl⟩ ?_ h)
  rintro i x ys e hx hys ⟨s,rfl⟩
  obtain ⟨z,rfl,hz,_⟩:=int_get hx
  refine ⟨⟨g0,g1⟩,snoc_take ?_ hys,_,rfl⟩
  rw [List.getElem?_map,List.getElem?_map,hz];rfl
def sp_lowest_table (ds:List PyData) (q:PyData→Prop):Prop := ∃ (b:Int) (d:PyData) (R:List (List Int)) (n:Nat),ds=[.int b,d]∧(RowsD d R∧Tab b R n∧R≠[]∧R.length≤900∧n≤900∧intBits b≤9000)∧q (dTab (b/gTab R) (divT R (gTab R)))
theorem bits_dvd {g b:Int}{m:Nat} (hb:0<b) (h:g∣b) (hz:intBits b≤m):intBits g≤m:=by
 refine intBits_le_of_natAbs ?_ hz
 exact Nat.le_of_dvd (by omega) (Int.natAbs_dvd_natAbs.mpr h)
theorem sc_lowest_table:FnScope ["bottom","rows","common"] ["bottom","rows"] (defScope s_lowest_table):=sc0
theorem ok_lowest_table (F:Def K mg "lowest_table" s_lowest_table ["bottom","rows"]) (T:Txt mg)
 (O_common_divisor:Ok P w K mg base "common_divisor" 2 ["rows"] (PSp K sp_common_divisor))
 (O_divided:Ok P w K mg base "divided" 1 ["row","common"] (PSp K sp_divided))
 : Ok P w K mg base "lowest_table" 3 ["bottom","rows"] (PSp K sp_lowest_table):=by
  refine F.vok sc_lowest_table (by rintro ds q ⟨_,_,_,_,h,_⟩;rw [h];rfl) fun f cdv A outer s H E hr ds q h=>?_
  obtain ⟨b,d,R,n,rfl,⟨hR,hT,hn,hl,hn2,hz⟩,h⟩:=h
  refine ⟨_,(vss_cons (vs_set (i:=2) sc_lowest_table.nd (ve_fn O_common_divisor.c (hr.mono (by decide)) (va_cons (ve_var 1) va_nil)))
   (vss_one (vs_ret (ve_tup (va_cons (ve_op o_div (ve_var 0) (ve_var 2)) (va_cons (ve_callTy c_tuple T.tuple_ L2.boot_tuple (va_cons (vf_fz (vf_comp (caps:=["common"]) (own:=["row"]) (ix:=[2]) rfl ⟨rfl,rfl,rfl,rfl,rfl,rfl⟩ (vi_seq (ve_var 1)) (fun _ _ _ _=>(vg_name (i:=1) (show List.Nodup (["common","row"]:List Str) by decide))) (fun _ _ _ _=>(ve_fn O_divided.c (hr.mono (by decide)) (va_cons (ve_var 1) (va_cons (ve_var 0) va_nil)))))) va_nil)) va_nil)))))),?_⟩
  have g0:=hT.gpos hn
  have g1:intBits (gTab R:Int)≤9000:=bits_dvd (by have:=hT.pos;omega) (hT.gdvd hn) hz
  refine ⟨d,R,rfl,hR,⟨by omega,g1⟩,?_⟩
  obtain ⟨l,e,_⟩:=id hR
  refine seq_elim e (comp_by ((divT R (gTab R)).map tRow) (by unfold divT;simp [hR.len e]) (small1000 (by unfold divT;simp;omega)) (fun e => ∃ s,e=[.val (.int (gTab R)),s]) ⟨_,rfl⟩ ?_ ⟨szl,h⟩)
  rintro i x ys e' hx hys ⟨s,rfl⟩
  obtain ⟨r,hr,er⟩:=hR.get e hx
  refine ⟨x,r,gTab R,rfl,⟨er,by rw [hT.len r (get_mem hr)];exact hn2,by omega,g1⟩,snoc_take ?_ hys,_,rfl⟩
  unfold divT
  rw [List.getElem?_map,List.getElem?_map,hr];rfl
def sp_glass_of (ds:List PyData) (q:PyData→Prop):Prop := ∃ (b:Int) (d:PyData) (R:List (List Int)) (n:Nat),ds=[.int b,d]∧(RowsD d R∧Tab b R n∧1≤n∧n≤12∧2≤R.length∧R.length≤4∧intBits b≤9000)∧q (dTab (b/gTab R) (divT R (gTab R)))
theorem sc_glass_of:FnScope ["bottom","rows"] ["bottom","rows"] (defScope s_glass_of):=sc0
theorem ok_glass_of (F:Def K mg "glass_of" s_glass_of ["bottom","rows"]) (T:Txt mg)
 (O_makes_table:Ok P w K mg base "makes_table" 3 ["bottom","rows","fewest","most"] (PSp K sp_makes_table))
 (O_lowest_table:Ok P w K mg base "lowest_table" 3 ["bottom","rows"] (PSp K sp_lowest_table))
 : Ok P w K mg base "glass_of" 4 ["bottom","rows"] (PSp K sp_glass_of):=by
  refine F.vok sc_glass_of (by rintro ds q ⟨_,_,_,_,h,_⟩;rw [h];rfl) fun f cdv A outer s H E hr ds q h=>?_
  obtain ⟨b,d,R,n,rfl,⟨hR,hT,n1,n2,r1,r2,hz⟩,h⟩:=h
  refine ⟨_,(vss_cons (vs_if (vt_not (vt_val (ve_fn O_makes_table.c (hr.mono (by decide)) (va_cons (ve_var 0) (va_cons (ve_var 1) (va_cons (ve_globI T.FEWEST_STANDS_) (va_cons (ve_globI T.MOST_STANDS_) va_nil))))))) vss_never vss_nil)
   (vss_one (vs_ret (ve_fn O_lowest_table.c (hr.mono (by decide)) (va_cons (ve_var 0) (va_cons (ve_var 1) va_nil)))))),?_⟩
  refine ⟨⟨by decide,by decide⟩,?_⟩
  rw [makesTable_of hR hT n1 n2 (by omega) (by omega)]
  exact ⟨b,d,R,n,rfl,⟨hR,hT,fun z=>by rw [z] at r1;simp at r1,by omega,by omega,hz⟩,h⟩
def sp_dulling_of (ds:List PyData) (q:PyData→Prop):Prop := ∃ (b:Int) (d:PyData) (R:List (List Int)) (n:Nat),ds=[.int b,d]∧(RowsD d R∧Tab b R n∧1≤n∧n≤12∧1≤R.length∧R.length≤12∧intBits b≤9000)∧q (dTab (b/gTab R) (divT R (gTab R)))
theorem sc_dulling_of:FnScope ["bottom","rows"] ["bottom","rows"] (defScope s_dulling_of):=sc0
theorem ok_dulling_of (F:Def K mg "dulling_of" s_dulling_of ["bottom","rows"]) (T:Txt mg)
 (O_makes_table:Ok P w K mg base "makes_table" 3 ["bottom","rows","fewest","most"] (PSp K sp_makes_table))
 (O_lowest_table:Ok P w K mg base "lowest_table" 3 ["bottom","rows"] (PSp K sp_lowest_table))
 : Ok P w K mg base "dulling_of" 4 ["bottom","rows"] (PSp K sp_dulling_of):=by
  refine F.vok sc_dulling_of (by rintro ds q ⟨_,_,_,_,h,_⟩;rw [h];rfl) fun f cdv A outer s H E hr ds q h=>?_
  obtain ⟨b,d,R,n,rfl,⟨hR,hT,n1,n2,r1,r2,hz⟩,h⟩:=h
  refine ⟨_,(vss_cons (vs_if (vt_not (vt_val (ve_fn O_makes_table.c (hr.mono (by decide)) (va_cons (ve_var 0) (va_cons (ve_var 1) (va_cons ve_int (va_cons (ve_globI T.MOST_SIGNS_) va_nil))))))) vss_never vss_nil)
   (vss_one (vs_ret (ve_fn O_lowest_table.c (hr.mono (by decide)) (va_cons (ve_var 0) (va_cons (ve_var 1) va_nil)))))),?_⟩
  refine ⟨⟨by decide,by decide⟩,?_⟩
  rw [makesTable_of hR hT n1 n2 (by omega) (by omega)]
  exact ⟨b,d,R,n,rfl,⟨hR,hT,fun z=>by rw [z] at r1;simp at r1,by omega,by omega,hz⟩,h⟩
def nT (n:Int):Str:=Str.ofString (toString n)
theorem nT_log {n:Int}{k:Nat} (h:intBits n≤k) (hk:k≤1900):n.natAbs.log2<1920:=by
 unfold intBits at h
 by_cases z:n=0
 ·subst z;decide
 ·rw [if_neg (by simpa using z)] at h
  omega
theorem nT_len {n:Int}{k:Nat} (h:intBits n≤k) (hk:k≤1900):(nT n).length≤1921:=PyProof.Rows.int_text_len_1921 (nT_log h hk)
def shTx (p q:Int):Str:=if q=1 then nT p else Str.empty++nT p ++ "/" ++ nT q
theorem shTx_len {p q:Int} (hp:intBits p≤400) (hq:intBits q≤400):(Str.empty++nT p).length≤1921∧(Str.empty++nT p ++ "/").length≤1922∧(Str.empty++nT p ++ "/" ++ nT q).length≤3843:=by
 have a:=nT_len hp (by decide)
 have b:=nT_len hq (by decide)
 have e0:Str.empty.length=0:=rfl
 have e1:(Str.ofString "/").length=1:=rfl
 refine ⟨by rw [strLen_append,e0];omega,by rw [strLen_append,strLen_append,e0,e1];omega,by rw [strLen_append,strLen_append,strLen_append,e0,e1];omega⟩
theorem sz_line {n k:Nat} (h:n≤k) (hk:k≤1000000):n≤sizeLine:=by rw [sizeLine_eq];omega
def rTx (b:Int) (r:List Int):List Str:=r.map fun x=>shTx (shT x b) (shB x b)
def layT (L:List (List Str)):Str:=Txt.join " | " (L.map (Txt.join " "))
theorem join_ok {s:Str}{l:List Str}{B:Nat} (hB : ∀ y ∈ l,y.length≤B) (h:l.length*B+l.length*s.length≤16777216):JoinOk s l=true:=by
 unfold JoinOk
 rw [StrLaws.joinFits hB h];rfl
theorem join_le {s:Str}{l:List Str}{B:Nat} (hB : ∀ y ∈ l,y.length≤B):(Txt.join s l).length≤l.length*B+l.length*s.length:=by
 have a:=StrLaws.sumLen_le l hB
 have b:=StrLaws.join_length_le s l
 have e:Txt.join s l=Str.join s l:=StrLaws.glued_eq_join s l
 rw [e]
 omega
theorem shTx_le {p q:Int} (hp:intBits p≤400) (hq:intBits q≤400):(shTx p q).length≤4000:=by
 obtain ⟨_,_,l3⟩:=shTx_len hp hq
 have a:=nT_len hp (by decide)
 unfold shTx
 split
 ·exact Nat.le_trans a (by decide)
 ·exact Nat.le_trans l3 (by decide)
def sp_show_share (ds:List PyData) (k:PyData→Prop):Prop := ∃ p q:Int,ds=[dSh p q]∧(intBits p≤400∧intBits q≤400)∧k (.str (shTx p q))
theorem sc_show_share:FnScope ["one","top","bottom"] ["one"] (defScope s_show_share):=sc0
theorem ok_show_share (F:Def K mg "show_share" s_show_share ["one"]) (T:Txt mg)
 : Ok P w K mg base "show_share" 1 ["one"] (PSp K sp_show_share):=by
  refine F.vok sc_show_share (by rintro ds q ⟨_,_,h,_⟩;rw [h];rfl) fun f cdv A outer s H E hr ds k h=>?_
  obtain ⟨p,q,rfl,⟨zp,zq⟩,h⟩:=h
  refine ⟨_,(vss_cons (vs_set (i:=1) sc_show_share.nd (ve_ix (ve_var 0) ve_int))
   (vss_cons (vs_set (i:=2) sc_show_share.nd (ve_ix (ve_var 0) ve_int))
   (vss_one (vs_ret (ve_ifExp (vt_cmp (o_eq hr.units) (ve_var 2) ve_int) (ve_fj1 (ve_fmtI (ve_var 1))) (ve_fj3 (ve_fmtI (ve_var 1)) ve_str (ve_fmtI (ve_var 2)))))))),?_⟩
  obtain ⟨l1,l2,l3⟩:=shTx_len zp zq
  refine ⟨_,rfl,_,rfl,rfl,rfl,ite_eq (fun z=>?_) (fun z=>?_)⟩
  ·unfold shTx at h
   rw [if_pos z] at h
   exact ⟨p,rfl,nT_log zp (by decide),h⟩
  ·unfold shTx at h
   rw [if_neg z] at h
   exact ⟨p,rfl,nT_log zp (by decide),_,rfl,sz_line l1 (by decide),_,rfl,sz_line l2 (by decide),q,rfl,nT_log zq (by decide),_,rfl,sz_line l3 (by decide),h⟩
def sp_show_row (ds:List PyData) (k:List PyData→Prop):Prop := ∃ (b:Int) (r:List Int),ds=[tRow r,.int b]∧(1≤b∧intBits b≤300∧r.length≤12 ∧ ∀ x ∈ r,intBits x≤300)∧k ((rTx b r).map .str)
theorem sc_show_row:FnScope ["row","bottom"] ["row","bottom"] (defScope s_show_row):=sc0
theorem ok_show_row (F:Def K mg "show_row" s_show_row ["row","bottom"]) (T:Txt mg)
 (O_share:Ok P w K mg base "share" 3 ["top","bottom"] (PSp K sp_share))
 (O_show_share:Ok P w K mg base "show_share" 1 ["one"] (PSp K sp_show_share))
 : Ok P w K mg base "show_row" 4 ["row","bottom"] (FSp K sp_show_row):=by
  refine F.vokF sc_show_row (by rintro ds q ⟨_,_,h,_⟩;rw [h];rfl) fun f cdv A outer s H E hr ds k h=>?_
  obtain ⟨b,r,rfl,⟨b1,zb,lr,zr⟩,h⟩:=h
  refine ⟨_,(vss_one (vs_retF (vf_comp (caps:=["bottom"]) (own:=["number"]) (ix:=[1]) rfl ⟨rfl,rfl,rfl,rfl,rfl,rfl⟩ (vi_seq (ve_var 0)) (fun _ _ _ _=>(vg_name (i:=1) (show List.Nodup (["bottom","number"]:List Str) by decide))) (fun _ _ _ _=>(ve_fn O_show_share.c (hr.mono (by decide)) (va_cons (ve_fn O_share.c (hr.mono (by decide)) (va_cons (ve_var 1) (va_cons (ve_var 0) va_nil))) va_nil)))))),?_⟩
  refine comp_by ((rTx b r).map PyData.str) (by simp [rTx]) (small1000 (by simp [rTx];omega)) (fun e => ∃ s,e=[.val (.int b),s]) ⟨_,rfl⟩ ?_ ⟨_,rfl,h⟩
  rintro i x ys e hx hys ⟨s,rfl⟩
  rw [List.getElem?_map] at hx
  cases er:r[i]? with
  | none=>rw [er] at hx;cases hx
  | some y =>
   rw [er] at hx
   cases hx
   have zy:=zr y (List.mem_of_getElem? er)
   refine ⟨⟨by omega,bits_up zb (by decide)⟩,_,_,rfl,⟨bits_up (shT_bits zy) (by decide),bits_up (shB_bits zb) (by decide)⟩,snoc_take ?_ hys,_,rfl⟩
   unfold rTx
   rw [List.getElem?_map,List.getElem?_map,er];rfl
def sp_laid_out (ds:List PyData) (k:PyData→Prop):Prop := ∃ L:List (List Str),ds=[.list (L.map fun ws => .list (ws.map .str))]∧(L.length≤12∧(∀ ws ∈ L,ws.length≤12) ∧ ∀ ws ∈ L,∀ x ∈ ws,x.length≤4000)∧k (.str (layT L))
theorem sc_laid_out:FnScope ["rows"] ["rows"] (defScope s_laid_out):=sc0
theorem ok_laid_out (F:Def K mg "laid_out" s_laid_out ["rows"]) (T:Txt mg)
 : Ok P w K mg base "laid_out" 1 ["rows"] (PSp K sp_laid_out):=by
  refine F.vok sc_laid_out (by rintro ds q ⟨_,h,_⟩;rw [h];rfl) fun f cdv A outer s H E hr ds k h=>?_
  obtain ⟨L,rfl,⟨l1,l2,l3⟩,h⟩:=h
  refine ⟨_,(vss_one (vs_ret (ve_join ve_str (vf_fz (vf_comp (caps:=[]) (own:=["row"]) (ix:=[]) rfl ⟨rfl,rfl,rfl,rfl,rfl,rfl⟩ (vi_seq (ve_var 0)) (fun _ _ _ _=>(vg_name (i:=0) (show List.Nodup (["row"]:List Str) by decide))) (fun _ _ _ _=>(ve_join ve_str (ve_var 0)))))))),?_⟩
  have inner : ∀ ws ∈ L,JoinOk (" " : String) ws=true∧(Txt.join (" " : String) ws).length≤60000:=fun ws hw=>by
   have a:=l2 ws hw
   have e:(Str.ofString " ").length=1:=rfl
   have m:ws.length*4000≤12*4000:=Nat.mul_le_mul_right _ a
   refine ⟨join_ok (l3 ws hw) (by rw [e];omega),?_⟩
   have:=join_le (s:=(" " : String)) (l3 ws hw)
   rw [e] at this
   omega
  refine ⟨_,rfl,?_⟩
  refine comp_by ((L.map (Txt.join (" " : String))).map PyData.str) (by simp) (small1000 (by simp;omega)) (fun e => ∃ s,e=[s]) ⟨_,rfl⟩ ?_ ?_
  ·rintro i x ys e hx hys ⟨s,rfl⟩
   rw [List.getElem?_map] at hx
   cases er:L[i]? with
   | none=>rw [er] at hx;cases hx
   | some ws =>
    rw [er] at hx
    cases hx
    refine ⟨_,rfl,ws,rfl,(inner ws (List.mem_of_getElem? er)).1,snoc_take ?_ hys,_,rfl⟩
    rw [List.getElem?_map,List.getElem?_map,er];rfl
  ·refine ⟨L.map (Txt.join (" " : String)),rfl,join_ok (B:=60000) (fun y hy=>?_) ?_,h⟩
   ·obtain ⟨ws,hw,rfl⟩:=List.mem_map.mp hy
    exact (inner ws hw).2
   ·have e:(Str.ofString " | ").length=3:=rfl
    rw [List.length_map,e,← Nat.mul_add]
    exact Nat.le_trans (Nat.mul_le_mul_right _ l1) (by decide)
def tTx (b:Int) (R:List (List Int)):Str:=layT (R.map (rTx b))
def sp_show_glass (ds:List PyData) (k:PyData→Prop):Prop := ∃ (b:Int) (R:List (List Int)),ds=[dTab b R]∧(1≤b∧intBits b≤300∧R.length≤12 ∧ ∀ r ∈ R,r.length≤12 ∧ ∀ x ∈ r,intBits x≤300)∧k (.str (tTx b R))
theorem sc_show_glass:FnScope ["glass"] ["glass"] (defScope s_show_glass):=sc0
theorem ok_show_glass (F:Def K mg "show_glass" s_show_glass ["glass"]) (T:Txt mg)
 (O_show_row:Ok P w K mg base "show_row" 4 ["row","bottom"] (FSp K sp_show_row))
 (O_laid_out:Ok P w K mg base "laid_out" 1 ["rows"] (PSp K sp_laid_out))
 : Ok P w K mg base "show_glass" 5 ["glass"] (PSp K sp_show_glass):=by
  refine F.vok sc_show_glass (by rintro ds q ⟨_,_,h,_⟩;rw [h];rfl) fun f cdv A outer s H E hr ds k h=>?_
  obtain ⟨b,R,rfl,⟨b1,zb,lR,hR⟩,h⟩:=h
  refine ⟨_,(vss_one (vs_ret (ve_fn O_laid_out.c (hr.mono (by decide)) (va_cons (vf_fz (vf_comp (caps:=["glass"]) (own:=["row"]) (ix:=[0]) rfl ⟨rfl,rfl,rfl,rfl,rfl,rfl⟩ (vi_seq (ve_ix (ve_var 0) ve_int)) (fun _ _ _ _=>(vg_name (i:=1) (show List.Nodup (["glass","row"]:List Str) by decide))) (fun _ _ _ _=>(vf_fz (vf_fn O_show_row.c (hr.mono (by decide)) (va_cons (ve_var 1) (va_cons (ve_ix (ve_var 0) ve_int) va_nil))))))) va_nil)))),?_⟩
  have sh : ∀ r ∈ R,∀ x ∈ rTx b r,x.length≤4000:=fun r hr x hx=>by
   obtain ⟨y,hy,rfl⟩:=List.mem_map.mp hx
   exact shTx_le (bits_up (shT_bits ((hR r hr).2 y hy)) (by decide)) (bits_up (shB_bits zb) (by decide))
  refine ⟨_,rfl,comp_by ((R.map (rTx b)).map fun ws=>PyData.list (ws.map .str)) (by simp) (small1000 (by simp;omega)) (fun e => ∃ s,e=[.val (dTab b R),s]) ⟨_,rfl⟩ ?_ ?_⟩
  ·rintro i x ys e hx hys ⟨s,rfl⟩
   rw [List.getElem?_map] at hx
   cases er:R[i]? with
   | none=>rw [er] at hx;cases hx
   | some r =>
    rw [er] at hx
    cases hx
    have hr:=hR r (List.mem_of_getElem? er)
    refine ⟨_,rfl,b,r,rfl,⟨b1,zb,hr.1,hr.2⟩,snoc_take ?_ hys,_,rfl⟩
    rw [List.getElem?_map,List.getElem?_map,er];rfl
  ·refine ⟨R.map (rTx b),rfl,⟨by rw [List.length_map];exact lR,fun ws hw=>?_,fun ws hw x hx=>?_⟩,h⟩
   ·obtain ⟨r,hr,rfl⟩:=List.mem_map.mp hw
    unfold rTx
    rw [List.length_map]
    exact (hR r hr).1
   ·obtain ⟨r,hr,rfl⟩:=List.mem_map.mp hw
    exact sh r hr x hx
def pTx (Y:List (List Int)):Str:=layT (Y.map (List.map nT))
def sp_show_payoffs (ds:List PyData) (k:PyData→Prop):Prop := ∃ (Y:List (List Int)),ds=[.tuple (Y.map tRow)]∧(Y.length≤12 ∧ ∀ r ∈ Y,r.length≤12 ∧ ∀ x ∈ r,intBits x≤300)∧k (.str (pTx Y))
theorem sc_show_payoffs:FnScope ["payoffs"] ["payoffs"] (defScope s_show_payoffs):=sc0
theorem ok_show_payoffs (F:Def K mg "show_payoffs" s_show_payoffs ["payoffs"]) (T:Txt mg)
 (O_laid_out:Ok P w K mg base "laid_out" 1 ["rows"] (PSp K sp_laid_out))
 : Ok P w K mg base "show_payoffs" 2 ["payoffs"] (PSp K sp_show_payoffs):=by
  refine F.vok sc_show_payoffs (by rintro ds q ⟨_,h,_⟩;rw [h];rfl) fun f cdv A outer s H E hr ds k h=>?_
  obtain ⟨Y,rfl,⟨lY,hY⟩,h⟩:=h
  refine ⟨_,(vss_one (vs_ret (ve_fn O_laid_out.c (hr.mono (by decide)) (va_cons (vf_fz (vf_comp (caps:=[]) (own:=["row"]) (ix:=[]) rfl ⟨rfl,rfl,rfl,rfl,rfl,rfl⟩ (vi_seq (ve_var 0)) (fun _ _ _ _=>(vg_name (i:=0) (show List.Nodup (["row"]:List Str) by decide))) (fun _ _ _ _=>(vf_fz (vf_comp (caps:=[]) (own:=["number"]) (ix:=[]) rfl ⟨rfl,rfl,rfl,rfl,rfl,rfl⟩ (vi_seq (ve_var 0)) (fun _ _ _ _=>(vg_name (i:=0) (show List.Nodup (["number"]:List Str) by decide))) (fun _ _ _ _=>(ve_callTy c_strI T.str_ L2.boot_str (va_cons (ve_var 0) va_nil)))))))) va_nil)))),?_⟩
  refine comp_by ((Y.map (List.map nT)).map fun ws=>PyData.list (ws.map .str)) (by simp) (small1000 (by simp;omega)) (fun e => ∃ s,e=[s]) ⟨_,rfl⟩ ?_ ?_
  ·rintro i x ys e hx hys ⟨s,rfl⟩
   rw [List.getElem?_map] at hx
   cases er:Y[i]? with
   | none=>rw [er] at hx;cases hx
   | some r =>
    rw [er] at hx
    cases hx
    have hr:=hY r (List.mem_of_getElem? er)
    refine comp_by ((r.map nT).map PyData.str) (by simp) (small1000 (by simp;omega)) (fun e => ∃ s,e=[s]) ⟨_,rfl⟩ ?_ ?_
    ·rintro j y zs e hy hzs ⟨s,rfl⟩
     rw [List.getElem?_map] at hy
     cases ej:r[j]? with
     | none=>rw [ej] at hy;cases hy
     | some n =>
      rw [ej] at hy
      cases hy
      refine ⟨nT_log (hr.2 n (List.mem_of_getElem? ej)) (by decide),snoc_take ?_ hzs,_,rfl⟩
      rw [List.getElem?_map,List.getElem?_map,ej];rfl
    ·refine ⟨snoc_take ?_ hys,_,rfl⟩
     rw [List.getElem?_map,List.getElem?_map,er];rfl
  ·refine ⟨Y.map (List.map nT),rfl,⟨by rw [List.length_map];exact lY,fun ws hw=>?_,fun ws hw x hx=>?_⟩,h⟩
   ·obtain ⟨r,hr,rfl⟩:=List.mem_map.mp hw
    rw [List.length_map]
    exact (hY r hr).1
   ·obtain ⟨r,hr,rfl⟩:=List.mem_map.mp hw
    obtain ⟨n,hn,rfl⟩:=List.mem_map.mp hx
    exact Nat.le_trans (nT_len ((hY r hr).2 n hn) (by decide)) (by decide)
def isTup:PyData→Bool
 | .tuple _=>true
 | _=>false
def rowsI (d:PyData):List (List Int):=((seqD d).getD []).map fun x=>((seqD x).getD []).map intD
def isTable (d:PyData) (lo hi:Int):Bool:=match d with
 | .tuple [b,r]=>makesTable b r lo hi&&(isTup r&&(((seqD r).getD []).all isTup&&decide (gTab (rowsI r)=1)))
 | _=>false
theorem RowsD.rowsI {d:PyData}{R:List (List Int)} (h:RowsD d R):rowsI d=R:=by
 obtain ⟨l,e,h1,h2⟩:=h
 unfold My.rowsI
 rw [e]
 show l.map (fun x=>((seqD x).getD []).map intD)=R
 have e2:l.map (fun x=>((seqD x).getD []).map intD)=(l.map fun x=>(seqD x).getD []).map (fun y=>y.map intD):=by rw [List.map_map];rfl
 rw [e2,h1,List.map_map]
 refine map_eq_self fun r _=>?_
 show (r.map PyData.int).map intD=r
 rw [List.map_map];exact map_eq_self fun n _=>rfl
theorem isTable_low {b:Int}{R:List (List Int)}{n:Nat}{lo hi:Int} (hT:Tab b R n) (hg:gTab R=1) (h1:1≤n) (h2:n≤12) (h3:lo≤R.length) (h4:R.length≤hi):isTable (dTab b R) lo hi=true:=by
 have hR:=rowsD_tup R
 show (makesTable (.int b) (.tuple (R.map tRow)) lo hi&&(true&&((R.map tRow).all isTup&&decide (gTab (rowsI (.tuple (R.map tRow)))=1))))=true
 rw [makesTable_of hR hT h1 h2 h3 h4,hR.rowsI,decide_eq_true hg]
 simp [isTup,tRow]
def sp_is_table:DC
 | [d,.int lo,.int hi],q=>(1≤lo∧hi≤900)∧q (.bool (isTable d lo hi))
 | _,_=>False
theorem notB {b:Bool} (h:(!b)=true):b=false:=by cases b <;> simp_all
theorem notB' {b:Bool} (h:(!b)=false):b=true:=by cases b <;> simp_all
theorem sc_is_table:FnScope ["thing","fewest","most","rows"] ["thing","fewest","most"] (defScope s_is_table):=sc0
theorem ok_is_table (F:Def K mg "is_table" s_is_table ["thing","fewest","most"]) (T:Txt mg)
 (O_makes_table:Ok P w K mg base "makes_table" 3 ["bottom","rows","fewest","most"] (PSp K sp_makes_table))
 (O_common_divisor:Ok P w K mg base "common_divisor" 2 ["rows"] (PSp K sp_common_divisor))
 : Ok P w K mg base "is_table" 4 ["thing","fewest","most"] (PSp K sp_is_table):=by
  refine F.vok sc_is_table (fun ds q h=>by unfold sp_is_table at h;split at h;all_goals first|rfl|exact h.elim) fun f cdv A outer s H E hr ds q h=>?_
  match ds,h with
  | [d,.int lo,.int hi],⟨⟨h1,h2⟩,h⟩ =>
  refine ⟨_,(vss_cons (vs_if (VW.pt (vw_or (vt_not (vt_val (ve_isi T.isinstance_ T.tuple_ L2.boot_tuple (ve_var 0)))) (vw_or1 (vt_cmp (o_ne hr.units) (ve_callB c_len T.len_ L2.boot_len (va_cons (ve_var 0) va_nil)) ve_int)))) (vss_one (vs_ret ve_bl)) vss_nil)
   (vss_cons (vs_set (i:=3) sc_is_table.nd (ve_ix (ve_var 0) ve_int))
   (vss_cons (vs_if (vt_not (vt_val (ve_fn O_makes_table.c (hr.mono (by decide)) (va_cons (ve_ix (ve_var 0) ve_int) (va_cons (ve_var 3) (va_cons (ve_var 1) (va_cons (ve_var 2) va_nil))))))) (vss_one (vs_ret ve_bl)) vss_nil)
   (vss_cons (vs_if (VW.pt (vw_or (vt_not (vt_val (ve_isi T.isinstance_ T.tuple_ L2.boot_tuple (ve_var 3)))) (vw_or1 (vt_not (vt_val (ve_callB (c_all rfl) T.all_ L2.boot_all (va_cons (vf_fz (vf_comp (caps:=[]) (own:=["row"]) (ix:=[]) rfl ⟨rfl,rfl,rfl,rfl,rfl,rfl⟩ (vi_seq (ve_var 3)) (fun _ _ _ _=>(vg_name (i:=0) (show List.Nodup (["row"]:List Str) by decide))) (fun _ _ _ _=>(ve_isi T.isinstance_ T.tuple_ L2.boot_tuple (ve_var 0))))) va_nil))))))) (vss_one (vs_ret ve_bl)) vss_nil)
   (vss_one (vs_ret (ve_cmp (o_eq hr.units) (ve_fn O_common_divisor.c (hr.mono (by decide)) (va_cons (ve_var 3) va_nil)) ve_int))))))),?_⟩
  replace h:q (.bool (isTable d lo hi)):=h
  cases d with
  | tuple l =>
   match l,h with
   | [],h=>exact ⟨rfl,rfl,h⟩
   | [x],h=>exact ⟨rfl,rfl,h⟩
   | x::y::z::t,h =>
    refine ⟨rfl,rfl,ite_ne (fun _=>h) (fun z=>?_)⟩
    simp at z;omega
   | [b,r],h =>
    refine ⟨rfl,rfl,_,rfl,_,rfl,⟨h1,h2⟩,iteB (fun z=>?_) (fun z=>?_)⟩
    ·have e:isTable (.tuple [b,r]) lo hi=false:=by
      show (makesTable b r lo hi&&_)=false
      rw [notB z];rfl
     rw [e] at h;exact h
    ·have em:=notB' z
     have e:isTable (.tuple [b,r]) lo hi=(isTup r&&(((seqD r).getD []).all isTup&&decide (gTab (rowsI r)=1))):=by
      show (makesTable b r lo hi&&_)=_
      rw [em];rfl
     rw [e] at h
     obtain ⟨b',R,n,rfl,hR,hT,n1,n2,r1,r2⟩:=makesTable_inv h1 em
     obtain ⟨m,es,_⟩:=id hR
     cases r with
     | tuple m' =>
      cases es
      replace h:q (.bool (m.all isTup&&decide (gTab (rowsI (.tuple m))=1))):=h
      have hl:=hR.len (l:=m) rfl
      refine comp_by (m.map fun x => .bool (isTup x)) (by simp) (small1000 (by rw [List.length_map];omega)) (fun e => ∃ s,e=[s]) ⟨_,rfl⟩ ?_ ?_
      ·rintro i x ys e hx hys ⟨s,rfl⟩
       refine ⟨snoc_take ?_ hys,_,rfl⟩
       rw [List.getElem?_map,hx]
       cases x <;> rfl
      ·refine ⟨m.map isTup,by rw [List.map_map];rfl,?_⟩
       have e:(m.map isTup).all id=m.all isTup:=by rw [List.all_map];rfl
       rw [e]
       refine iteB (fun z=>?_) (fun z=>?_)
       ·rw [notB z] at h;exact h
       ·rw [notB' z] at h
        refine ⟨_,R,rfl,hR,rfl,rfl,?_⟩
        rw [hR.rowsI] at h
        have e3:PyData.eqv (.int (gTab R:Int)) (.int 1)=decide (gTab R=1):=by
         rw [eqv_int,Bool.eq_iff_iff];simp;omega
        rw [e3];exact h
     | list m'=>exact h
     | _=>cases es
  | _=>exact h
def sp_is_glass:DC
 | [d],q=>q (.bool (isTable d 2 4))
 | _,_=>False
theorem sc_is_glass:FnScope ["thing"] ["thing"] (defScope s_is_glass):=sc0
theorem ok_is_glass (F:Def K mg "is_glass" s_is_glass ["thing"]) (T:Txt mg)
 (O_is_table:Ok P w K mg base "is_table" 4 ["thing","fewest","most"] (PSp K sp_is_table))
 : Ok P w K mg base "is_glass" 5 ["thing"] (PSp K sp_is_glass):=by
  refine F.vok sc_is_glass (fun ds q h=>by unfold sp_is_glass at h;split at h;all_goals first|rfl|exact h.elim) fun f cdv A outer s H E hr ds q h=>?_
  match ds,h with
  | [d],h =>
  refine ⟨_,(vss_one (vs_ret (ve_fn O_is_table.c (hr.mono (by decide)) (va_cons (ve_var 0) (va_cons (ve_globI T.FEWEST_STANDS_) (va_cons (ve_globI T.MOST_STANDS_) va_nil)))))),?_⟩
  exact ⟨⟨by decide,by decide⟩,h⟩
structure Bd (m w:Nat) (Ls:List (List Int)) (ss:List Int):Prop where
 l:Ls.length=m
 s:ss.length=m
 w : ∀ r ∈ Ls,r.length=w
 z : ∀ r ∈ Ls,∀ x ∈ r,intBits x≤2000
section
variable {Ls:List (List Int)}{ss:List Int}{w p i r:Nat}
end
def sumN:Nat→(Nat→Int)→Int
 | 0,_=>0
 | n+1,f=>sumN n f+f n
def enc (B:Nat) (st:Nat→Nat):Nat→Nat
 | 0=>0
 | k+1=>enc B st k+st k*B^k
theorem bot_next {B q d:Int} (hB:0<B) (hq:0<q) (h1:B∣d) (h2:q∣d):0<B*q/(Int.gcd B q:Int)∧B*q/(Int.gcd B q:Int)∣d∧B∣B*q/(Int.gcd B q:Int)∧q∣B*q/(Int.gcd B q:Int):=by
 obtain ⟨x,rfl⟩:=Int.eq_ofNat_of_zero_le (Int.le_of_lt hB)
 obtain ⟨y,rfl⟩:=Int.eq_ofNat_of_zero_le (Int.le_of_lt hq)
 have e:(x:Int)*(y:Int)/(Int.gcd x y:Int)=((Nat.lcm x y:Nat):Int):=by
  unfold Nat.lcm
  rw [Int.gcd_natCast_natCast,Int.natCast_ediv,Int.natCast_mul]
 rw [e]
 have p:0<Nat.lcm x y:=Nat.lcm_pos (by omega) (by omega)
 refine ⟨by omega,?_,Int.natCast_dvd_natCast.mpr (Nat.dvd_lcm_left x y),Int.natCast_dvd_natCast.mpr (Nat.dvd_lcm_right x y)⟩
 rw [Int.ofNat_dvd_left] at h1 h2 ⊢
 exact Nat.lcm_dvd h1 h2
section
variable {b:Int}{R:List (List Int)}{m:Nat}{c:Int}{S:List (List Int)}{n:Nat}
structure LcmB (V:List (List (Int×Int))) (B:Int):Prop where
 pos:0<B
 dv : ∀ r ∈ V,∀ x ∈ r,x.2∣B
 un : ∀ d:Int,(∀ r ∈ V,∀ x ∈ r,x.2∣d)→B∣d
def overB (B:Int) (r:List (Int×Int)):List Int:=r.map fun x=>x.1*(B/x.2)
end
def dS (x:Int×Int):PyData:=dSh x.1 x.2
theorem shG {vs:List (Int×Int)}{i:Nat}{x:PyData} (h:(vs.map dS)[i]?=some x) : ∃ y,vs[i]?=some y∧x=dSh y.1 y.2:=by
 rw [List.getElem?_map] at h
 cases q:vs[i]? with
 | none=>rw [q] at h;cases h
 | some y=>rw [q] at h;exact ⟨y,rfl,(Option.some.inj h).symm⟩
theorem dvdB {x d:Int}{m:Nat} (h:x∣d) (d0:0<d) (z:intBits d≤m):intBits x≤m :=
 intBits_le_of_natAbs (Nat.le_of_dvd (by omega) (Int.natAbs_dvd_natAbs.mpr h)) z
def RowsS (d:PyData) (V:List (List (Int×Int))):Prop := ∃ l,seqD d=some l∧l.length=V.length ∧ ∀ (i:Nat) (x:PyData),l[i]?=some x → ∃ r:List (Int×Int),V[i]?=some r∧seqD x=some (r.map dS)
structure LcmL (xs:List (Int×Int)) (B:Int):Prop where
 pos:0<B
 dv : ∀ x ∈ xs,x.2∣B
 un : ∀ d:Int,(∀ x ∈ xs,x.2∣d)→B∣d
theorem LcmL.nil:LcmL [] 1:=⟨by decide,fun x hx=>by simp at hx,fun d _=>⟨d,by omega⟩⟩
theorem LcmL.snoc {xs:List (Int×Int)}{B:Int}{y:Int×Int} (h:LcmL xs B) (hy:0<y.2):LcmL (xs++[y]) (B*y.2/(Int.gcd B y.2:Int)):=by
 have k:=bot_next (d:=B*y.2) h.pos hy ⟨_,rfl⟩ ⟨B,Int.mul_comm _ _⟩
 refine ⟨k.1,fun x hx=>?_,fun d hd=>(bot_next h.pos hy (h.un d fun x hx=>hd x (List.mem_append.mpr (.inl hx))) (hd y (by simp))).2.1⟩
 rcases List.mem_append.mp hx with q|q
 ·exact Int.dvd_trans (h.dv x q) k.2.2.1
 ·rw [List.mem_singleton.mp q];exact k.2.2.2
theorem LcmL.b {V:List (List (Int×Int))}{B:Int} (h:LcmL V.flatten B):LcmB V B :=
 ⟨h.pos,fun r hr x hx=>h.dv x (List.mem_flatten.mpr ⟨r,hr,hx⟩),fun d hd=>h.un d fun x hx=>by
  obtain ⟨r,hr,hx⟩:=List.mem_flatten.mp hx
  exact hd r hr x hx⟩
theorem takeF {V:List (List (Int×Int))}{i:Nat}{r:List (Int×Int)} (h:V[i]?=some r):(V.take (i+1)).flatten=(V.take i).flatten++r:=by
 rw [List.take_add_one,h];simp
theorem takeS {α:Type}{zs:List α}{i:Nat}{z:α} (h:zs[i]?=some z):zs.take (i+1)=zs.take i++[z]:=by
 rw [List.take_add_one,h];rfl
def sp_over_bottom (ds:List PyData) (q:PyData→Prop):Prop := ∃ (d:PyData) (r:List (Int×Int)) (B:Int),ds=[d,.int B]∧(seqD d=some (r.map dS)∧r.length≤900∧(∀ x ∈ r,Shr x.1 x.2∧intBits x.1≤4000∧x.2∣B)∧0<B∧intBits B≤4000)∧q (tRow (overB B r))
theorem sc_over_bottom:FnScope ["row","bottom"] ["row","bottom"] (defScope s_over_bottom):=sc0
theorem ok_over_bottom (F:Def K mg "over_bottom" s_over_bottom ["row","bottom"]) (T:Txt mg)
 : Ok P w K mg base "over_bottom" 1 ["row","bottom"] (PSp K sp_over_bottom):=by
  refine F.vok sc_over_bottom (by rintro ds q ⟨_,_,_,h,_⟩;rw [h];rfl) fun f cdv A outer s H E hr ds q h=>?_
  obtain ⟨d,r,B,rfl,⟨e,hl,hx,B0,zB⟩,h⟩:=h
  refine ⟨_,(vss_one (vs_ret (ve_callTy c_tuple T.tuple_ L2.boot_tuple (va_cons (vf_fz (vf_comp (caps:=["bottom"]) (own:=["part"]) (ix:=[1]) rfl ⟨rfl,rfl,rfl,rfl,rfl,rfl⟩ (vi_seq (ve_var 0)) (fun _ _ _ _=>(vg_name (i:=1) (show List.Nodup (["bottom","part"]:List Str) by decide))) (fun _ _ _ _=>(ve_op o_mulI (ve_ix (ve_var 1) ve_int) (ve_op o_div (ve_var 0) (ve_ix (ve_var 1) ve_int)))))) va_nil)))),?_⟩
  refine seq_elim e (comp_by ((overB B r).map .int) (by simp [overB]) (small1000 (by simp [overB];omega)) (fun e => ∃ s,e=[.val (.int B),s]) ⟨_,rfl⟩ ?_ h)
  rintro i x ys e hx' hys ⟨s,rfl⟩
  obtain ⟨y,hy,rfl⟩:=shG hx'
  obtain ⟨s1,s2,s3⟩:=hx y (List.mem_of_getElem? hy)
  have q0:=s1.pos
  refine ⟨.int y.1,rfl,.int y.2,rfl,⟨by omega,bits_up (dvdB s3 B0 zB) (by decide)⟩,mulok s2 (dvdB (x:=B/y.2) ⟨y.2,(Int.ediv_mul_cancel s3).symm⟩ B0 zB),snoc_take ?_ hys,_,rfl⟩
  unfold overB
  rw [List.getElem?_map,List.getElem?_map,hy];rfl
def sp_table_of_shares (ds:List PyData) (q:PyData→Prop):Prop := ∃ (d:PyData) (V:List (List (Int×Int))) (D0:Int),ds=[d]∧(RowsS d V∧V.length≤900∧(∀ r ∈ V,r.length≤900 ∧ ∀ x ∈ r,Shr x.1 x.2∧intBits x.1≤4000∧x.2∣D0)∧0<D0∧intBits D0≤4000) ∧ ∀ B,LcmB V B→q (dTab B (V.map (overB B)))
theorem sc_table_of_shares:FnScope ["rows","bottom","row","part"] ["rows"] (defScope s_table_of_shares):=sc0
theorem ok_table_of_shares (F:Def K mg "table_of_shares" s_table_of_shares ["rows"]) (T:Txt mg)
 (O_divisor:Ok P w K mg base "divisor" 1 ["one","other"] (PSp K sp_divisor))
 (O_over_bottom:Ok P w K mg base "over_bottom" 1 ["row","bottom"] (PSp K sp_over_bottom))
 : Ok P w K mg base "table_of_shares" 2 ["rows"] (PSp K sp_table_of_shares):=by
  refine F.vok sc_table_of_shares (by rintro ds q ⟨_,_,_,h,_⟩;rw [h];rfl) fun f cdv A outer s H E hr ds q h=>?_
  obtain ⟨d,V,D0,rfl,⟨⟨l,e,el,hV⟩,hl,hx,d0,zd⟩,h⟩:=h
  refine ⟨_,(vss_cons (vs_set (i:=1) sc_table_of_shares.nd ve_int)
   (vss_cons (vs_for rfl (vi_seq (ve_var 0)) (vg_name (i:=2) sc_table_of_shares.nd) (vss_one (vs_for rfl (vi_seq (ve_var 2)) (vg_name (i:=3) sc_table_of_shares.nd) (vss_one (vs_set (i:=1) sc_table_of_shares.nd (ve_op o_div (ve_op o_mulI (ve_var 1) (ve_ix (ve_var 3) ve_int)) (ve_fn O_divisor.c (hr.mono (by decide)) (va_cons (ve_var 1) (va_cons (ve_ix (ve_var 3) ve_int) va_nil)))))))))
   (vss_one (vs_ret (ve_tup (va_cons (ve_var 1) (va_cons (ve_callTy c_tuple T.tuple_ L2.boot_tuple (va_cons (vf_fz (vf_comp (caps:=["bottom"]) (own:=["row"]) (ix:=[1]) rfl ⟨rfl,rfl,rfl,rfl,rfl,rfl⟩ (vi_seq (ve_var 0)) (fun _ _ _ _=>(vg_name (i:=1) (show List.Nodup (["bottom","row"]:List Str) by decide))) (fun _ _ _ _=>(ve_fn O_over_bottom.c (hr.mono (by decide)) (va_cons (ve_var 1) (va_cons (ve_var 0) va_nil)))))) va_nil)) va_nil))))))),?_⟩
  refine seq_elim e ⟨fun i e => ∃ t1 t2 B,e=[.val d,.val (.int B),t1,t2]∧LcmL (V.take i).flatten B∧B∣D0,⟨_,_,_,rfl,by simpa using LcmL.nil,⟨D0,by omega⟩⟩,?_,?_⟩
  ·rintro i x e' hxi ⟨t1,t2,B,rfl,hB,Bd⟩
   obtain ⟨r,hr,er⟩:=hV i x hxi
   refine seq_elim er ⟨fun j e => ∃ t2 B,e=[.val d,.val (.int B),.val x,t2]∧LcmL ((V.take i).flatten++r.take j) B∧B∣D0,⟨_,_,rfl,by simpa using hB,Bd⟩,?_,?_⟩
   ·rintro j y e hy ⟨t2,B,rfl,hB,Bd⟩
    obtain ⟨z,hz,rfl⟩:=shG hy
    obtain ⟨s1,s2,s3⟩:=(hx r (List.mem_of_getElem? hr)).2 z (List.mem_of_getElem? hz)
    have q0:=s1.pos
    have B0:=hB.pos
    have gp:(0:Int)<(Int.gcd B z.2:Nat):=by have:=Int.gcd_pos_of_ne_zero_right B (show z.2≠0 by omega);omega
    refine ⟨.int z.2,rfl,mulok (dvdB Bd d0 zd) (dvdB s3 d0 zd),.int z.2,rfl,⟨gp,bits_up (dvdB (Int.dvd_trans (Int.gcd_dvd_left ..) Bd) d0 zd) (by decide)⟩,_,_,rfl,?_,(bot_next B0 (show 0<z.2 by omega) Bd s3).2.1⟩
    rw [takeS hz,← List.append_assoc]
    exact hB.snoc (by omega)
   ·rintro e ⟨t2,B,rfl,hB,Bd⟩
    refine ⟨_,_,_,rfl,?_,Bd⟩
    rw [List.length_map,List.take_length] at hB
    rw [takeF hr];exact hB
  rintro e' ⟨t1,t2,B,rfl,hB,Bd⟩
  rw [el,List.take_length] at hB
  have hB':=hB.b
  have B0:=hB.pos
  have zB:=dvdB Bd d0 zd
  refine seq_elim e (comp_by ((V.map (overB B)).map tRow) (by simp [el]) (small1000 (by simp;omega)) (fun e => ∃ s,e=[.val (.int B),s]) ⟨_,rfl⟩ ?_ ⟨szl,h B hB'⟩)
  rintro i x ys e' hxi hys ⟨s,rfl⟩
  obtain ⟨r,hr,er⟩:=hV i x hxi
  obtain ⟨rl,rx⟩:=hx r (List.mem_of_getElem? hr)
  refine ⟨x,r,B,rfl,⟨er,rl,fun y hy=>⟨(rx y hy).1,(rx y hy).2.1,hB'.dv r (List.mem_of_getElem? hr) y hy⟩,B0,zB⟩,snoc_take ?_ hys,_,rfl⟩
  rw [List.getElem?_map,List.getElem?_map,hr];rfl
def Shp (n:Nat) (d:PyData):Prop:=d.canLay0=true∧d.depth≤n
theorem shp_int (i:Int) (n:Nat):Shp n (.int i):=by simp [Shp,PyData.canLay0,PyData.depth]
theorem Shp.ok {n:Nat}{d:PyData} (h:Shp n d) (hn:n≤64:=by decide):SeqAt.shaped d=true:=by
 unfold SeqAt.shaped
 rw [h.1,decide_eq_true (Nat.le_trans h.2 hn)];rfl
theorem Shp.refl {n:Nat}{d:PyData} (h:Shp n d):PyData.eqv d d=true:=SeqAt.eqv_refl d h.1
theorem shpS {x:Str} (n:Nat) (h:PyData.strOk x=true):Shp n (.str x):=by simp [Shp,PyData.canLay0,PyData.depth,h]
def mdo (x y:Str):Bool := !(PyData.eqv (.str x) (.str ""))&&x.cps.toList.all fun c=>Txt.contains y (chS c)
theorem asc_ok {x:Str} (h:x.cps.all (· < 128)=true):PyData.strOk x=true:=by
 unfold PyData.strOk
 rw [Array.all_eq_true'] at h ⊢
 intro c hc
 have:=h c hc
 simp at this ⊢
 omega
def figS (x:Str):Str:=if Txt.startswith x "-" = true then cutS x (some 1) none else x
def numB (x:Str) (m:Int):Bool:=(mdo (figS x) "0123456789" && decide (((figS x).length:Int)≤m))&&(PyData.eqv (.str x) (.str "0") || !Txt.startswith (figS x) "0")
theorem nT_signs {p:Int} (h:0≤p):(nT p).cps.toList=(Nat.toDigits 10 p.toNat).map Char.toNat:=by
 obtain ⟨m,rfl⟩:=Int.eq_ofNat_of_zero_le h
 exact PySem.W.KIN.signs_num m
theorem dig_rng {ch:Char} (h:ch.isDigit=true):48≤ch.toNat∧ch.toNat≤57:=by
 unfold Char.isDigit at h
 rw [Bool.and_eq_true,decide_eq_true_eq,decide_eq_true_eq] at h
 exact ⟨h.1,h.2⟩
theorem nT_digit {p:Int} (h:0≤p) : ∀ c ∈ (nT p).cps.toList,48≤c∧c≤57:=fun c hc=>by
 rw [nT_signs h] at hc
 obtain ⟨ch,hch,rfl⟩:=List.mem_map.mp hc
 exact dig_rng (Nat.isDigit_of_mem_toDigits (by decide) (by decide) hch)
theorem nT_asc {p:Int} (h:0≤p):(nT p).cps.all (· < 128)=true:=by
 rw [Array.all_eq_true']
 intro c hc
 have:=nT_digit h c (by simpa using hc)
 simp
 omega
theorem nT_long {p:Int}{k:Nat} (h:0≤p) (k1:1≤k) (hk:p<10^k):1≤(nT p).length∧(nT p).length≤k:=by
 have e:(nT p).length=(Nat.toDigits 10 p.toNat).length:=by
  have:=congrArg List.length (nT_signs h)
  rw [List.length_map,Array.length_toList] at this
  exact this
 rw [e]
 have hp:p.toNat<10^k:=by
  have:((p.toNat:Nat):Int)<((10^k:Nat):Int):=by rw [Int.toNat_of_nonneg h];simpa using hk
  exact Int.ofNat_lt.mp this
 exact ⟨PySem.toDigits_len_ge 10 _,PySem.toDigits_len_pow (by decide) k1 hp⟩
theorem starts_one {x:Str}{c:Nat}:Txt.startswith x (chS c)=true↔x.cps.toList[0]?=some c:=by
 have:=StrLaws.subAt_one x c 0
 rw [← this]
 unfold Txt.startswith
 rw [Bool.and_eq_true,decide_eq_true_eq]
 rfl
theorem nT_minus {p:Int} (h:0≤p):figS (nT p)=nT p:=by
 unfold figS
 rw [if_neg]
 intro z
 have z:Txt.startswith (nT p) (chS 45)=true:=z
 rw [starts_one] at z
 have:=nT_digit h 45 (List.mem_of_getElem? z)
 omega
theorem has_one (x:Str) (c:Nat):Txt.contains x (chS c)=decide (c ∈ x.cps.toList):=StrLaws.found_one x c
theorem nT_made {p:Int}{k:Nat} (h:0≤p) (k1:1≤k) (hk:p<10^k):mdo (nT p) "0123456789" = true:=by
 have l:=(nT_long h k1 hk).1
 unfold mdo
 have ne:PyData.eqv (.str (nT p)) (.str "")=false:=by
  cases z:PyData.eqv (.str (nT p)) (.str "") with
  | false=>rfl
  | true =>
   exfalso
   rw [PyData.eqv] at z
   have e:nT p=Str.ofString "":=by simpa using z
   rw [e] at l
   exact absurd l (by decide)
 rw [ne]
 show (true&&_)=true
 rw [Bool.true_and,List.all_eq_true]
 intro c hc
 have r:=nT_digit h c hc
 rw [has_one]
 have:c=48∨c=49∨c=50∨c=51∨c=52∨c=53∨c=54∨c=55∨c=56∨c=57:=by omega
 rcases this with rfl|rfl|rfl|rfl|rfl|rfl|rfl|rfl|rfl|rfl <;> decide +kernel
theorem toDig_first : ∀ (n:Nat),0<n→(Nat.toDigits 10 n)[0]?≠some '0':=fun n=>by
 induction n using Nat.strongRecOn with
 | _ n ih =>
  intro hn z
  by_cases s:n<10
  ·rw [Nat.toDigits_of_lt_base s] at z
   have:n=1∨n=2∨n=3∨n=4∨n=5∨n=6∨n=7∨n=8∨n=9:=by omega
   rcases this with rfl|rfl|rfl|rfl|rfl|rfl|rfl|rfl|rfl <;> exact absurd z (by decide)
  ·have hm:n%10<10:=Nat.mod_lt n (by decide)
   have t:Nat.toDigits 10 (n/10)++Nat.toDigits 10 (n%10)=Nat.toDigits 10 (10*(n/10)+n%10):=Nat.toDigits_append_toDigits (by decide) (by omega) hm
   rw [Nat.div_add_mod] at t
   rw [← t,List.getElem?_append_left (by have:=PySem.toDigits_len_ge 10 (n/10);omega)] at z
   exact ih (n/10) (by omega) (by omega) z
theorem nT_zero {p:Int} (h:0≤p):(PyData.eqv (.str (nT p)) (.str "0") || !Txt.startswith (nT p) "0")=true:=by
 by_cases z:p=0
 ·subst z
  decide +kernel
 ·have:Txt.startswith (nT p) (chS 48)=false:=by
   cases y:Txt.startswith (nT p) (chS 48) with
   | false=>rfl
   | true =>
    exfalso
    rw [starts_one,nT_signs h,List.getElem?_map] at y
    cases e:(Nat.toDigits 10 p.toNat)[0]? with
    | none=>rw [e] at y;cases y
    | some ch =>
     rw [e] at y
     have y:ch.toNat=48:=Option.some.inj y
     have ec:ch = '0':=Char.toNat_inj.mp y
     exact toDig_first p.toNat (by omega) (by rw [e,ec])
  have s:Txt.startswith (nT p) "0" = false:=this
  rw [s,Bool.not_false,Bool.or_true]
theorem nT_num {p:Int}{k:Nat} (h:0≤p) (k1:1≤k) (hk:p<10^k):numB (nT p) k=true:=by
 unfold numB
 rw [nT_minus h,nT_made h k1 hk,nT_zero h,decide_eq_true (Int.ofNat_le.mpr (nT_long h k1 hk).2)]
 rfl
theorem str_app (x y:Str):(x++y).cps.toList=x.cps.toList++y.cps.toList:=by
 show (x.cps++y.cps).toList=_
 simp
theorem str_ext {x y:Str} (h:x.cps.toList=y.cps.toList):x=y:=by
 cases x
 cases y
 simp at h
 rw [h]
theorem sub_list (x:Str) (i j:Nat):(Builtin.Str.strSub x i j).cps.toList=(x.cps.toList.drop i).take (j-i):=by
 show (x.cps.extract i j).toList=_
 simp [List.extract]
theorem part_none {x:Str}{c:Nat} (h:c ∉ x.cps.toList):partS x (chS c)=[x,Str.empty,Str.empty]:=by
 unfold partS
 rcases StrLaws.occ_head x (chS c) 1 (Nat.le_refl 1) with ⟨h0,hn⟩|⟨i,r,h0,hi,hn⟩
 ·rw [h0]
 ·exact absurd (List.mem_of_getElem? ((StrLaws.subAt_one x c i).mp hi)) h
theorem part_at {x a b:Str}{c:Nat} (hx:x.cps.toList=a.cps.toList++c::b.cps.toList) (h:c ∉ a.cps.toList):partS x (chS c)=[a,chS c,b]:=by
 unfold partS
 have at_a:x.cps.toList[a.cps.toList.length]?=some c:=by rw [hx,List.getElem?_append_right (Nat.le_refl _)];simp
 rcases StrLaws.occ_head x (chS c) 1 (Nat.le_refl 1) with ⟨h0,hn⟩|⟨i,r,h0,hi,hn⟩
 ·exact absurd ((StrLaws.subAt_one x c _).mpr at_a) (hn _)
 ·have e:i=a.cps.toList.length:=by
   rcases Nat.lt_trichotomy i a.cps.toList.length with z|z|z
   ·exfalso
    have:=(StrLaws.subAt_one x c i).mp hi
    rw [hx,List.getElem?_append_left z] at this
    exact h (List.mem_of_getElem? this)
   ·exact z
   ·exact absurd ((StrLaws.subAt_one x c _).mpr at_a) (hn _ z)
  rw [h0]
  show [Builtin.Str.strSub x 0 i,chS c,Builtin.Str.strSub x (i+1) x.length]=[a,chS c,b]
  have e1:Builtin.Str.strSub x 0 i=a:=str_ext (by rw [sub_list,hx,e,List.drop_zero,Nat.sub_zero,List.take_left])
  have lx:x.length=a.cps.toList.length+(b.cps.toList.length+1):=by
   show x.cps.size=_
   have:=congrArg List.length hx
   rw [Array.length_toList] at this
   simpa using this
  have e2:Builtin.Str.strSub x (i+1) x.length=b:=str_ext (by
   rw [sub_list,hx,e,lx]
   have:(a.cps.toList++c::b.cps.toList).drop (a.cps.toList.length+1)=b.cps.toList:=by
    rw [List.drop_append]
    simp
   rw [this]
   exact List.take_of_length_le (by omega))
  rw [e1,e2]
theorem nT_reads {p:Int} (h:0≤p) (hp:p<10^10):PySem.intText? (nT p)=some p:=PySem.W.KIN.num_reads h hp
theorem shr_self {p q:Int} (h:Shr p q):shT p q=p∧shB p q=q:=by
 have:=h.pos
 obtain ⟨s1,e1⟩:=sh_ok (t:=p) (b:=q) (by omega)
 exact sh_uniq s1 h e1
theorem nT_free {p:Int} (h:0≤p) {c:Nat} (hc:c<48∨57<c):c ∉ (nT p).cps.toList:=fun z=>by
 have:=nT_digit h c z
 omega
theorem shTx_list {p q:Int} (h:q≠1):(shTx p q).cps.toList=(nT p).cps.toList++47::(nT q).cps.toList:=by
 unfold shTx
 rw [if_neg h,str_app,str_app,str_app]
 have e:(Str.ofString "/").cps.toList=[47]:=by decide +kernel
 have e2:Str.empty.cps.toList=[]:=rfl
 rw [e,e2]
 simp
theorem shTx_asc {p q:Int} (p0:0≤p) (q0:0≤q):(shTx p q).cps.all (· < 128)=true:=by
 by_cases h:q=1
 ·unfold shTx
  rw [if_pos h]
  exact nT_asc p0
 ·rw [Array.all_eq_true']
  intro c hc
  have hc:c ∈ (shTx p q).cps.toList:=by simpa using hc
  rw [shTx_list h] at hc
  simp
  rcases List.mem_append.mp hc with hc|hc
  ·have:=nT_digit p0 c hc;omega
  ·rcases List.mem_cons.mp hc with rfl|hc
   ·decide
   ·have:=nT_digit q0 c hc;omega
theorem nT_ne0 {q:Int} (h:1≤q):PyData.eqv (.str (nT q)) (.str "0")=false:=by
 cases z:PyData.eqv (.str (nT q)) (.str "0") with
 | false=>rfl
 | true =>
  exfalso
  rw [PyData.eqv] at z
  have e:nT q=Str.ofString "0":=by simpa using z
  have s:=toDig_first q.toNat (by omega)
  have l:=nT_signs (show 0≤q by omega)
  rw [e] at l
  have e0:(Str.ofString "0").cps.toList=[48]:=by decide +kernel
  rw [e0] at l
  have:=congrArg (fun x=>x[0]?) l
  simp only [List.getElem?_map] at this
  cases c:(Nat.toDigits 10 q.toNat)[0]? with
  | none=>rw [c] at this;cases this
  | some ch =>
   rw [c] at this
   have y:48=ch.toNat:=Option.some.inj this
   have ec:ch = '0':=Char.toNat_inj.mp y.symm
   exact s (by rw [c,ec])
theorem join_two (y r r':Str) (rs:List Str):(Str.join y (r::r'::rs)).cps.toList=r.cps.toList++(y.cps.toList++(Str.join y (r'::rs)).cps.toList):=by
 show (r++y++Str.join y (r'::rs)).cps.toList=_
 rw [str_app,str_app,List.append_assoc]
theorem at_sign {x y:Str}{c o i:Nat} (ho:y.cps.toList[o]?=some c) (h:StrLaws.At x y x.length i):x.cps.toList[i+o]?=some c:=by
 have e:=h.2
 rw [StrLaws.subAt_eq] at e
 have e:=eq_of_beq e
 rw [← e] at ho
 have ol:o<y.length:=by
  have:=(List.getElem?_eq_some_iff.mp ho).1
  rw [List.length_take] at this
  omega
 rw [List.getElem?_take_of_lt ol,List.getElem?_drop] at ho
 exact ho
theorem str_len (x:Str):x.length=x.cps.toList.length:=by rw [Array.length_toList];rfl
theorem at_mk {x y:Str}{i:Nat}{t:List Nat} (h:x.cps.toList.drop i=y.cps.toList++t) (hi:i≤x.length):StrLaws.At x y x.length i:=by
 refine ⟨?_,?_⟩
 ·have:=congrArg List.length h
  rw [List.length_drop,List.length_append,← str_len,← str_len] at this
  omega
 ·rw [StrLaws.subAt_eq,h,str_len,List.take_left]
  exact beq_self_eq_true _
theorem parts_eq {x y:Str}{c o:Nat} (ho:y.cps.toList[o]?=some c) (hf : ∀ j,j<o→y.cps.toList[j]?≠some c) : ∀ (rs:List Str) (r:Str) (a:Nat) (cuts:List Nat) (f:Nat),(∀ p ∈ r::rs,c ∉ p.cps.toList)→x.cps.toList.drop a=(Str.join y (r::rs)).cps.toList→a≤x.length →
 StrLaws.ChainG x y x.length a cuts f→(∀ k,f≤k → ¬ StrLaws.At x y x.length k)→StrLaws.partsFrom x y.length a cuts=r::rs
  | [],r,a,cuts,f,hp,hx,ha,hc,hn=>by
   have hx:x.cps.toList.drop a=r.cps.toList:=hx
   cases cuts with
   | nil =>
    have e:Builtin.Str.strSub x a x.length=r:=str_ext (by
     rw [sub_list,hx]
     refine List.take_of_length_le ?_
     have:=congrArg List.length hx
     rw [List.length_drop,← str_len] at this
     omega)
    show [Builtin.Str.strSub x a x.length]=[r]
    rw [e]
   | cons i cuts =>
    exfalso
    have s:=at_sign ho hc.2.1
    have a1:=hc.1
    have:r.cps.toList[i+o-a]?=some c:=by
     rw [← hx,List.getElem?_drop,show a+(i+o-a)=i+o by omega]
     exact s
    exact hp r (by simp) (List.mem_of_getElem? this)
  | r'::rs,r,a,cuts,f,hp,hx,ha,hc,hn=>by
   rw [join_two] at hx
   have lx:=congrArg List.length hx
   rw [List.length_drop,List.length_append,List.length_append,← str_len,← str_len,← str_len] at lx
   have hd:x.cps.toList.drop (a+r.length)=y.cps.toList++(Str.join y (r'::rs)).cps.toList:=by
    rw [← List.drop_drop,hx,str_len,List.drop_left]
   have at1:StrLaws.At x y x.length (a+r.length):=at_mk hd (by omega)
   have no : ∀ k,a≤k→k<a+r.length → ¬ StrLaws.At x y x.length k:=fun k k1 k2 z=>by
    have s:=at_sign ho z
    have g:(x.cps.toList.drop a)[k+o-a]?=some c:=by
     rw [List.getElem?_drop,show a+(k+o-a)=k+o by omega]
     exact s
    rw [hx] at g
    by_cases q:k+o-a<r.cps.toList.length
    ·rw [List.getElem?_append_left q] at g
     exact hp r (by simp) (List.mem_of_getElem? g)
    ·rw [str_len] at k2
     have ol:=(List.getElem?_eq_some_iff.mp ho).1
     rw [List.getElem?_append_right (by omega),List.getElem?_append_left (by omega)] at g
     exact hf _ (by omega) g
   cases cuts with
   | nil =>
    have e:f=a:=hc
    exact absurd at1 (hn _ (by omega))
   | cons i cuts =>
    obtain ⟨c1,c2,c3,c4⟩:=hc
    have ei:i=a+r.length:=by
     rcases Nat.lt_trichotomy i (a+r.length) with z|z|z
     ·exact absurd c2 (no i c1 z)
     ·exact z
     ·exact absurd at1 (c3 _ (by omega) z)
    subst ei
    have e1:Builtin.Str.strSub x a (a+r.length)=r:=str_ext (by rw [sub_list,hx,show a+r.length-a=r.cps.toList.length by rw [← str_len];omega,List.take_left])
    show Builtin.Str.strSub x a (a+r.length)::StrLaws.partsFrom x y.length (a+r.length+y.length) cuts=_
    rw [e1,parts_eq ho hf rs r' _ cuts f (fun p h=>hp p (List.mem_cons_of_mem _ h)) (by rw [← List.drop_drop,hd,str_len,List.drop_left]) (by omega) c4 hn]
theorem cut_join {y:Str}{c o:Nat} (y1:1≤y.length) (yk:Builtin.Str.strKind y=1) (ho:y.cps.toList[o]?=some c) (hf : ∀ j,j<o→y.cps.toList[j]?≠some c) {rs:List Str} (ne:rs≠[]) (hp : ∀ p ∈ rs,c ∉ p.cps.toList) :
 Builtin.Str.partsBetween (Txt.join y rs) (Builtin.Str.occurrences (Txt.join y rs) y 0 (Txt.join y rs).length ((Txt.join y rs).length+1)) y.length=rs∧Txt.split (Txt.join y rs) y=rs:=by
  have ej:Txt.join y rs=Str.join y rs:=StrLaws.glued_eq_join y rs
  rw [ej]
  obtain ⟨r,rs,rfl⟩:=List.exists_cons_of_ne_nil ne
  obtain ⟨f,hc,hn⟩:=StrLaws.occ_tight (Str.join y (r::rs)) y y1
  have e:=parts_eq ho hf rs r 0 _ f hp (by rw [List.drop_zero]) (Nat.zero_le _) hc hn
  rw [StrLaws.partsBetween_eq]
  refine ⟨e,?_⟩
  unfold Txt.split
  rw [StrLaws.partsBetween_eq,e]
  generalize hcu:Builtin.Str.occurrences (Str.join y (r::rs)) y 0 (Str.join y (r::rs)).length ((Str.join y (r::rs)).length+1)=cuts at hc e
  cases cuts with
  | nil =>
   have e:[Builtin.Str.strSub (Str.join y (r::rs)) 0 (Str.join y (r::rs)).length]=r::rs:=e
   rw [StrLaws.sub_whole] at e
   rw [e,ite_self,ite_self]
  | cons i cuts =>
   have l:=hc.2.1.1
   rw [if_neg,if_neg]
   ·simp
   ·rw [yk,Bool.or_eq_true,decide_eq_true_eq,decide_eq_true_eq]
    have:1≤Builtin.Str.strKind (Str.join y (r::rs)):=by
     unfold Builtin.Str.strKind
     split
     ·decide
     ·split <;> decide
    omega
theorem cut_row {ws:List Str} (ne:ws≠[]) (h : ∀ p ∈ ws,32 ∉ p.cps.toList):Builtin.Str.partsBetween (Txt.join (Str.ofString " ") ws) (Builtin.Str.occurrences (Txt.join (Str.ofString " ") ws) (Str.ofString " ") 0 (Txt.join (Str.ofString " ") ws).length ((Txt.join (Str.ofString " ") ws).length+1)) (Str.ofString " ").length=ws∧Txt.split (Txt.join (Str.ofString " ") ws) (Str.ofString " ")=ws :=
 cut_join (o:=0) (by decide) (by decide +kernel) (by decide +kernel) (fun j hj=>by omega) ne h
theorem cut_rows {ls:List Str} (ne:ls≠[]) (h : ∀ p ∈ ls,124 ∉ p.cps.toList):Builtin.Str.partsBetween (Txt.join (Str.ofString " | ") ls) (Builtin.Str.occurrences (Txt.join (Str.ofString " | ") ls) (Str.ofString " | ") 0 (Txt.join (Str.ofString " | ") ls).length ((Txt.join (Str.ofString " | ") ls).length+1)) (Str.ofString " | ").length=ls∧Txt.split (Txt.join (Str.ofString " | ") ls) (Str.ofString " | ")=ls :=
 cut_join (o:=1) (by decide) (by decide +kernel) (by decide +kernel) (fun j hj=>by
  have:j=0:=by omega
  subst this
  decide +kernel) ne h
theorem join_mem {y:Str}{c:Nat} : ∀ {rs:List Str},c ∈ (Str.join y rs).cps.toList→c ∈ y.cps.toList ∨ ∃ p ∈ rs,c ∈ p.cps.toList
 | [],h=>by
  have h:c ∈ ([]:List Nat):=h
  cases h
 | [r],h => .inr ⟨r,by simp,h⟩
 | r::r'::rs,h=>by
  rw [join_two] at h
  rcases List.mem_append.mp h with h|h
  ·exact .inr ⟨r,by simp,h⟩
  ·rcases List.mem_append.mp h with h|h
   ·exact .inl h
   ·rcases join_mem h with h|⟨p,hp,h⟩
    ·exact .inl h
    ·exact .inr ⟨p,List.mem_cons_of_mem _ hp,h⟩
theorem row_free {ws:List Str} (h : ∀ p ∈ ws,124 ∉ p.cps.toList):124 ∉ (Txt.join (Str.ofString " ") ws).cps.toList:=fun z=>by
 have ej:Txt.join (Str.ofString " ") ws=Str.join (Str.ofString " ") ws:=StrLaws.glued_eq_join _ ws
 rw [ej] at z
 rcases join_mem z with z|⟨p,hp,z⟩
 ·exact absurd z (by decide +kernel)
 ·exact h p hp z
def sp_words_in_rows (ds:List PyData) (k:PyData→Prop):Prop := ∃ L:List (List Str),ds=[.str (layT L)]∧(L≠[]∧L.length≤12 ∧ ∀ ws ∈ L,ws≠[]∧ws.length≤12 ∧ ∀ x ∈ ws,x.length≤4000∧32 ∉ x.cps.toList∧124 ∉ x.cps.toList)∧k (.list (L.map fun ws => .list (ws.map .str)))
theorem sc_words_in_rows:FnScope ["text"] ["text"] (defScope s_words_in_rows):=sc0
theorem ok_words_in_rows (F:Def K mg "words_in_rows" s_words_in_rows ["text"]) (T:Txt mg)
 : Ok P w K mg base "words_in_rows" 1 ["text"] (PSp K sp_words_in_rows):=by
  refine F.vok sc_words_in_rows (by rintro ds q ⟨_,h,_⟩;rw [h];rfl) fun f cdv A outer s H E hr ds k h=>?_
  obtain ⟨L,rfl,⟨ne,lL,hL⟩,h⟩:=h
  refine ⟨_,(vss_cons (vs_if (vt_not (vt_val (ve_isi T.isinstance_ T.str_ L2.boot_str (ve_var 0)))) vss_never vss_nil)
   (vss_one (vs_ret (vf_fz (vf_comp (caps:=[]) (own:=["row"]) (ix:=[]) rfl ⟨rfl,rfl,rfl,rfl,rfl,rfl⟩ (vi_seq (ve_split (ve_var 0) ve_str)) (fun _ _ _ _=>(vg_name (i:=0) (show List.Nodup (["row"]:List Str) by decide))) (fun _ _ _ _=>(ve_split (ve_var 0) ve_str))))))),?_⟩
  have ln : ∀ ws ∈ L,(Txt.join (Str.ofString " ") ws).length≤60000:=fun ws hw=>by
   obtain ⟨_,a,b⟩:=hL ws hw
   have e:(Str.ofString " ").length=1:=rfl
   have m:ws.length*4000≤12*4000:=Nat.mul_le_mul_right _ a
   have:=join_le (s:=Str.ofString " ") fun x hx=>(b x hx).1
   rw [e] at this
   omega
  have c:=cut_rows (ls:=L.map (Txt.join (Str.ofString " "))) (by simpa using ne) fun p hp=>by
   obtain ⟨ws,hw,rfl⟩:=List.mem_map.mp hp
   exact row_free fun x hx=>((hL ws hw).2.2 x hx).2.2
  have big:(layT L).length≤sizeLine:=by
   refine sz_line (k:=1000000) (Nat.le_trans (join_le (B:=60000) fun y hy=>?_) ?_) (Nat.le_refl _)
   ·obtain ⟨ws,hw,rfl⟩:=List.mem_map.mp hy
    exact ln ws hw
   ·have e:(Str.ofString " | ").length=3:=rfl
    rw [List.length_map,← Nat.mul_add]
    exact Nat.le_trans (Nat.mul_le_mul_right _ lL) (by decide)
  refine ⟨_,rfl,_,rfl,⟨rfl,big,?_,?_⟩,?_⟩
  ·show (Builtin.Str.partsBetween (layT L) _ _).length≤sizeLine
   unfold layT
   rw [c.1,List.length_map]
   exact sz_line (Nat.le_trans lL (by decide)) (Nat.le_refl _)
  ·unfold layT
   rw [c.2,List.length_map]
   exact sz_line (Nat.le_trans lL (by decide)) (Nat.le_refl _)
  have e2:Txt.split (layT L) (Str.ofString " | ")=L.map (Txt.join (Str.ofString " ")):=c.2
  rw [e2]
  refine comp_by (L.map fun ws:List Str=>PyData.list (ws.map PyData.str)) (by simp) (small1000 (by simp;omega)) (fun e => ∃ s,e=[s]) ⟨_,rfl⟩ ?_ h
  rintro i x ys e hx hys ⟨s,rfl⟩
  rw [List.getElem?_map,List.getElem?_map] at hx
  cases er:L[i]? with
  | none=>rw [er] at hx;cases hx
  | some ws =>
   rw [er] at hx
   cases hx
   have hw:=List.mem_of_getElem? er
   obtain ⟨n1,n2,n3⟩:=hL ws hw
   have c2:=cut_row n1 fun x hx=>(n3 x hx).2.1
   refine ⟨_,rfl,_,rfl,⟨rfl,sz_line (ln ws hw) (by decide),?_,?_⟩,?_⟩
   ·rw [c2.1]
    exact sz_line (Nat.le_trans n2 (by decide)) (Nat.le_refl _)
   ·rw [c2.2]
    exact sz_line (Nat.le_trans n2 (by decide)) (Nat.le_refl _)
   rw [c2.2]
   refine ⟨snoc_take ?_ hys,_,rfl⟩
   rw [List.getElem?_map,er];rfl
def sp_is_made_of (ds:List PyData) (k:PyData→Prop):Prop := ∃ x y:Str,ds=[.str x,.str y]∧(x.cps.all (· < 128)=true∧x.length≤900)∧k (.bool (mdo x y))
theorem sc_is_made_of:FnScope ["word","letters"] ["word","letters"] (defScope s_is_made_of):=sc0
theorem ok_is_made_of (F:Def K mg "is_made_of" s_is_made_of ["word","letters"]) (T:Txt mg)
 : Ok P w K mg base "is_made_of" 1 ["word","letters"] (PSp K sp_is_made_of):=by
  refine F.vok sc_is_made_of (by rintro ds q ⟨_,_,h,_⟩;rw [h];rfl) fun f cdv A outer s H E hr ds k h=>?_
  obtain ⟨x,y,rfl,⟨ax,lx⟩,h⟩:=h
  refine ⟨_,(vss_one (vs_ret (ve_and (ve_cmp (o_ne hr.units) (ve_var 0) ve_str) (ve_one (ve_callB (c_all rfl) T.all_ L2.boot_all (va_cons (vf_fz (vf_comp (caps:=["letters"]) (own:=["letter"]) (ix:=[1]) rfl ⟨rfl,rfl,rfl,rfl,rfl,rfl⟩ (vi_str (ve_var 0)) (fun _ _ _ _=>(vg_name (i:=1) (show List.Nodup (["letters","letter"]:List Str) by decide))) (fun _ _ _ _=>(ve_cmp o_inT (ve_var 1) (ve_var 0))))) va_nil)))))),?_⟩
  have sx:=shpS (x:=x) 0 (asc_ok ax)
  have se:=shpS (x := "") 0 (by decide +kernel)
  unfold mdo at h
  refine ⟨sx.ok,se.ok,iteB (fun z=>?_) (fun z=>?_)⟩
  ·rw [z,Bool.true_and] at h
   refine ⟨ax,comp_by (x.cps.toList.map fun c=>PyData.bool (Txt.contains y (chS c))) (by simp [signsD]) (small1000 (by rw [List.length_map,Array.length_toList];exact Nat.le_trans lx (by decide))) (fun e => ∃ s,e=[.val (.str y),s]) ⟨_,rfl⟩ ?_ ?_⟩
   ·rintro i d ys e hd hys ⟨s,rfl⟩
    unfold signsD at hd
    rw [List.getElem?_map] at hd
    cases ec:x.cps.toList[i]? with
    | none=>rw [ec] at hd;cases hd
    | some c =>
     rw [ec] at hd
     cases hd
     refine ⟨snoc_take ?_ hys,_,rfl⟩
     rw [List.getElem?_map,ec];rfl
   ·refine ⟨x.cps.toList.map fun c=>Txt.contains y (chS c),by rw [List.map_map];rfl,?_⟩
    rw [List.all_map]
    exact h
  ·rw [z,Bool.false_and] at h
   exact h
def sp_is_number (ds:List PyData) (k:PyData→Prop):Prop := ∃ (x:Str) (m:Int),ds=[.str x,.int m]∧(x.cps.all (· < 128)=true∧x.length≤900∧(figS x).cps.all (· < 128)=true∧(figS x).length≤900)∧k (.bool (numB x m))
theorem sc_is_number:FnScope ["word","most","figures"] ["word","most"] (defScope s_is_number):=sc0
theorem ok_is_number (F:Def K mg "is_number" s_is_number ["word","most"]) (T:Txt mg)
 (O_is_made_of:Ok P w K mg base "is_made_of" 1 ["word","letters"] (PSp K sp_is_made_of))
 : Ok P w K mg base "is_number" 2 ["word","most"] (PSp K sp_is_number):=by
  refine F.vok sc_is_number (by rintro ds q ⟨_,_,h,_⟩;rw [h];rfl) fun f cdv A outer s H E hr ds k h=>?_
  obtain ⟨x,m,rfl,⟨ax,lx,af,lf⟩,h⟩:=h
  refine ⟨_,(vss_cons (vs_set (i:=2) sc_is_number.nd (ve_ifExp (vt_val (ve_starts (ve_var 0) ve_str)) (ve_sliceS (ve_var 0) (vo_some ve_int) vo_none) (ve_var 0)))
   (vss_cons (vs_if (VW.pt (vw_or (vt_not (vt_val (ve_fn O_is_made_of.c (hr.mono (by decide)) (va_cons (ve_var 2) (va_cons (ve_globS T.FIGURES_) va_nil))))) (vw_or1 (vt_cmp o_gt (ve_callB c_len T.len_ L2.boot_len (va_cons (ve_var 2) va_nil)) (ve_var 1))))) (vss_one (vs_ret ve_bl)) vss_nil)
   (vss_one (vs_ret (ve_or (ve_cmp (o_eq hr.units) (ve_var 0) ve_str) (ve_one (ve_not (ve_starts (ve_var 2) ve_str)))))))),?_⟩
  have sx:=shpS (x:=x) 0 (asc_ok ax)
  have s0:=shpS (x := "0") 0 (by decide +kernel)
  unfold numB at h
  refine ⟨x,rfl,_,rfl,iteB (fun z=>?_) (fun z=>?_)⟩
  ·have eg:figS x=cutS x (some 1) none:=if_pos z
   rw [eg] at af lf h
   refine ⟨sz_line lf (by decide),?_⟩
   refine ⟨(cutS x (some 1) none),_,rfl,⟨af,Nat.le_trans lf (by decide)⟩,iteB (fun c1=>?_) (fun c1=>⟨sz_line lf (by decide),iteD (fun c2=>?_) (fun c2=>?_)⟩)⟩
   ·have c1:mdo (cutS x (some 1) none) "0123456789" = false:=by
     cases y:mdo (cutS x (some 1) none) "0123456789" with
     | false=>rfl
     | true=>rw [y] at c1;cases c1
    rw [c1,Bool.false_and,Bool.false_and] at h
    exact h
   ·rw [decide_eq_false (p:=((cutS x (some 1) none).length:Int)≤m) (by omega),Bool.and_false,Bool.false_and] at h
    exact h
   ·have c1:mdo (cutS x (some 1) none) "0123456789" = true:=by
     cases y:mdo (cutS x (some 1) none) "0123456789" with
     | true=>rfl
     | false=>rw [y] at c1;cases c1
    rw [c1,decide_eq_true (p:=((cutS x (some 1) none).length:Int)≤m) (by omega),Bool.true_and,Bool.true_and] at h
    refine ⟨sx.ok,s0.ok,iteB (fun c3=>?_) (fun c3=>?_)⟩
    ·rw [c3,Bool.true_or] at h
     exact h
    ·rw [c3,Bool.false_or] at h
     exact ⟨(cutS x (some 1) none),rfl,_,rfl,h⟩
  ·have eg:figS x=x:=if_neg (by rw [z];exact Bool.false_ne_true)
   rw [eg] at af lf h
   refine ⟨x,_,rfl,⟨af,Nat.le_trans lf (by decide)⟩,iteB (fun c1=>?_) (fun c1=>⟨sz_line lf (by decide),iteD (fun c2=>?_) (fun c2=>?_)⟩)⟩
   ·have c1:mdo x "0123456789" = false:=by
     cases y:mdo x "0123456789" with
     | false=>rfl
     | true=>rw [y] at c1;cases c1
    rw [c1,Bool.false_and,Bool.false_and] at h
    exact h
   ·rw [decide_eq_false (p:=(x.length:Int)≤m) (by omega),Bool.and_false,Bool.false_and] at h
    exact h
   ·have c1:mdo x "0123456789" = true:=by
     cases y:mdo x "0123456789" with
     | true=>rfl
     | false=>rw [y] at c1;cases c1
    rw [c1,decide_eq_true (p:=(x.length:Int)≤m) (by omega),Bool.true_and,Bool.true_and] at h
    refine ⟨sx.ok,s0.ok,iteB (fun c3=>?_) (fun c3=>?_)⟩
    ·rw [c3,Bool.true_or] at h
     exact h
    ·rw [c3,Bool.false_or] at h
     exact ⟨x,rfl,_,rfl,h⟩
def sp_read_share (ds:List PyData) (k:PyData→Prop):Prop := ∃ p q:Int,ds=[.str (shTx p q)]∧(Shr p q∧0≤p∧p<1000000∧q<1000000)∧k (dSh p q)
theorem sc_read_share:FnScope ["word","parts","top","bottom","found"] ["word"] (defScope s_read_share):=sc0
theorem ok_read_share (F:Def K mg "read_share" s_read_share ["word"]) (T:Txt mg)
 (O_share:Ok P w K mg base "share" 3 ["top","bottom"] (PSp K sp_share))
 (O_show_share:Ok P w K mg base "show_share" 1 ["one"] (PSp K sp_show_share))
 (O_is_number:Ok P w K mg base "is_number" 2 ["word","most"] (PSp K sp_is_number))
 : Ok P w K mg base "read_share" 4 ["word"] (PSp K sp_read_share):=by
  refine F.vok sc_read_share (by rintro ds q ⟨_,_,h,_⟩;rw [h];rfl) fun f cdv A outer s H E hr ds k h=>?_
  obtain ⟨p,q,rfl,⟨sh,p0,p1,q1⟩,h⟩:=h
  refine ⟨_,(vss_cons (vs_set (i:=1) sc_read_share.nd (ve_part (ve_var 0) ve_str))
   (vss_cons (vs_set (i:=2) sc_read_share.nd (ve_ix (ve_var 1) ve_int))
   (vss_cons (vs_set (i:=3) sc_read_share.nd (ve_ifExp (vt_cmp (o_eq hr.units) (ve_ix (ve_var 1) ve_int) ve_str) (ve_ix (ve_var 1) ve_int) ve_str))
   (vss_cons (vs_if (VW.pt (vw_or (vt_not (vt_val (ve_fn O_is_number.c (hr.mono (by decide)) (va_cons (ve_var 2) (va_cons (ve_globI T.MOST_FIGURES_) va_nil))))) (vw_or (vt_not (vt_val (ve_fn O_is_number.c (hr.mono (by decide)) (va_cons (ve_var 3) (va_cons (ve_globI T.MOST_FIGURES_) va_nil))))) (vw_or1 (vt_cmp (o_eq hr.units) (ve_var 3) ve_str))))) vss_never vss_nil)
   (vss_cons (vs_set (i:=4) sc_read_share.nd (ve_fn O_share.c (hr.mono (by decide)) (va_cons (ve_callTy c_intS T.int_ L2.boot_int (va_cons (ve_var 2) va_nil)) (va_cons (ve_callTy c_intS T.int_ L2.boot_int (va_cons (ve_var 3) va_nil)) va_nil))))
   (vss_cons (vs_if (vt_cmp (o_ne hr.units) (ve_fn O_show_share.c (hr.mono (by decide)) (va_cons (ve_var 4) va_nil)) (ve_var 0)) vss_never vss_nil)
   (vss_one (vs_ret (ve_var 4))))))))),?_⟩
  have q2:=sh.pos
  have q0:0≤q:=by omega
  obtain ⟨e1,e2⟩:=shr_self sh
  have pl:=nT_long (k:=6) p0 (by decide) (by simpa using p1)
  have ql:=nT_long (k:=6) q0 (by decide) (by simpa using q1)
  have np:numB (nT p) 6=true:=nT_num (k:=6) p0 (by decide) (by simpa using p1)
  have nq:numB (nT q) 6=true:=nT_num (k:=6) q0 (by decide) (by simpa using q1)
  have sx:=shpS (x:=shTx p q) 0 (asc_ok (shTx_asc p0 q0))
  have sq:=shpS (x:=nT q) 0 (asc_ok (nT_asc q0))
  have s0:=shpS (x := "0") 0 (by decide +kernel)
  have ss:=shpS (x := "/") 0 (by decide +kernel)
  have se:=shpS (x:=Str.empty) 0 (by decide +kernel)
  have lx:(shTx p q).length≤sizeLine:=sz_line (shTx_le (bits_up (bits64 (by omega) (by omega)) (by decide)) (bits_up (bits64 (by omega) (by omega)) (by decide))) (by decide)
  refine ⟨_,rfl,_,rfl,⟨by decide +kernel,lx⟩,?_⟩
  by_cases hq:q=1
  ·have ep:partS (shTx p q) (Str.ofString "/")=[nT p,Str.empty,Str.empty]:=by
    have ex:shTx p q=nT p:=if_pos hq
    rw [ex]
    exact part_none (c:=47) (nT_free p0 (by omega))
   rw [ep]
   refine ⟨_,rfl,_,rfl,se.ok,ss.ok,iteZ (by decide +kernel) ?_⟩
   have e1':Str.ofString "1" = nT q:=by rw [hq];rfl
   rw [e1']
   refine ⟨nT p,6,rfl,⟨nT_asc p0,Nat.le_trans pl.2 (by decide),by rw [nT_minus p0];exact nT_asc p0,by rw [nT_minus p0];exact Nat.le_trans pl.2 (by decide)⟩,iteZ (by rw [np];rfl) ?_⟩
   refine ⟨nT q,6,rfl,⟨nT_asc q0,Nat.le_trans ql.2 (by decide),by rw [nT_minus q0];exact nT_asc q0,by rw [nT_minus q0];exact Nat.le_trans ql.2 (by decide)⟩,iteZ (by rw [nq];rfl) ?_⟩
   refine ⟨sq.ok,s0.ok,iteZ (nT_ne0 q2) ?_⟩
   refine ⟨p,nT_reads p0 (by omega),Nat.le_trans pl.2 (by decide),q,nT_reads q0 (by omega),Nat.le_trans ql.2 (by decide),⟨by omega,bits_up (bits64 (by omega) (by omega)) (by decide)⟩,?_⟩
   rw [e1,e2]
   exact ⟨p,q,rfl,⟨bits_up (bits64 (by omega) (by omega)) (by decide),bits_up (bits64 (by omega) (by omega)) (by decide)⟩,sx.ok,sx.ok,iteN sx.refl h⟩
  ·have ep:partS (shTx p q) (Str.ofString "/")=[nT p,chS 47,nT q]:=part_at (c:=47) (shTx_list hq) (nT_free p0 (by omega))
   rw [ep]
   have es:chS 47=Str.ofString "/":=by decide +kernel
   rw [es]
   refine ⟨_,rfl,_,rfl,ss.ok,ss.ok,iteY (by decide +kernel) ⟨_,rfl,?_⟩⟩
   refine ⟨nT p,6,rfl,⟨nT_asc p0,Nat.le_trans pl.2 (by decide),by rw [nT_minus p0];exact nT_asc p0,by rw [nT_minus p0];exact Nat.le_trans pl.2 (by decide)⟩,iteZ (by rw [np];rfl) ?_⟩
   refine ⟨nT q,6,rfl,⟨nT_asc q0,Nat.le_trans ql.2 (by decide),by rw [nT_minus q0];exact nT_asc q0,by rw [nT_minus q0];exact Nat.le_trans ql.2 (by decide)⟩,iteZ (by rw [nq];rfl) ?_⟩
   refine ⟨sq.ok,s0.ok,iteZ (nT_ne0 q2) ?_⟩
   refine ⟨p,nT_reads p0 (by omega),Nat.le_trans pl.2 (by decide),q,nT_reads q0 (by omega),Nat.le_trans ql.2 (by decide),⟨by omega,bits_up (bits64 (by omega) (by omega)) (by decide)⟩,?_⟩
   rw [e1,e2]
   exact ⟨p,q,rfl,⟨bits_up (bits64 (by omega) (by omega)) (by decide),bits_up (bits64 (by omega) (by omega)) (by decide)⟩,sx.ok,sx.ok,iteN sx.refl h⟩
def shR (b:Int) (r:List Int):List (Int×Int):=r.map fun x=>(shT x b,shB x b)
theorem tab_back {b B:Int}{R:List (List Int)}{n:Nat} (hT:Tab b R n) (hR:R≠[]) (hB:LcmB (R.map (shR b)) B):B=b/gTab R∧(R.map (shR b)).map (overB B)=divT R (gTab R):=by
 have g0:=hT.gpos hR
 have gb:=hT.gdvd hR
 have b0:=hT.pos
 have lo:=(hT.low hR).pos
 have B0:=hB.pos
 have ec:(gTab R:Int)*(b/gTab R)=b:=Int.mul_ediv_cancel' gb
 have gl:=gTab_low g0
 have key : ∀ r ∈ R,∀ x ∈ r,Shr (shT x b) (shB x b)∧shT x b*(b/gTab R)=x/gTab R*shB x b:=fun r hr x hx=>by
  obtain ⟨s,e⟩:=sh_ok (t:=x) (b:=b) (by omega)
  refine ⟨s,?_⟩
  have ex:(gTab R:Int)*(x/gTab R)=x:=Int.mul_ediv_cancel' (gTab_dvd hr hx)
  have:(gTab R:Int)*(shT x b*(b/gTab R))=gTab R*(x/gTab R*shB x b):=by
   calc (gTab R:Int)*(shT x b*(b/gTab R))=shT x b*(gTab R*(b/gTab R)):=by grind
    _=x*shB x b:=by rw [ec,e]
    _=(gTab R*(x/gTab R))*shB x b:=by rw [ex]
    _=_:=by grind
  exact Int.eq_of_mul_eq_mul_left (by omega) this
 have hd:B∣b/gTab R:=hB.un _ fun r' hr' z hz=>by
  obtain ⟨r,hr,rfl⟩:=List.mem_map.mp hr'
  obtain ⟨x,hx,rfl⟩:=List.mem_map.mp hz
  obtain ⟨s,e⟩:=key r hr x hx
  exact dvd_cop s.gcd ⟨x/gTab R,by show shT x b*(b/gTab R)=shB x b*_;rw [e,Int.mul_comm]⟩
 obtain ⟨m,hm⟩:=hd
 have m0:0<m:=by
  rcases Int.lt_or_le 0 m with q|q
  ·exact q
  ·have:=Int.mul_nonneg (Int.le_of_lt B0) (show 0 ≤ -m by omega)
   rw [Int.mul_neg] at this
   omega
 obtain ⟨k,rfl⟩:=Int.eq_ofNat_of_zero_le (Int.le_of_lt m0)
 have ent : ∀ r ∈ R,∀ x ∈ r,(k:Int)*(shT x b*(B/shB x b))=x/gTab R:=fun r hr x hx=>by
  obtain ⟨s,e⟩:=key r hr x hx
  have q0:=s.pos
  obtain ⟨u,hu⟩:=hB.dv _ (List.mem_map.mpr ⟨r,hr,rfl⟩) _ (List.mem_map.mpr ⟨x,hx,rfl⟩)
  have hu:B=shB x b*u:=hu
  rw [hm] at e
  have eu:B/shB x b=u:=by rw [hu];exact Int.mul_ediv_cancel_left _ (by omega)
  rw [eu]
  have:(k*(shT x b*u))*shB x b=x/gTab R*shB x b:=by
   rw [← e]
   conv=>rhs;rw [hu]
   grind
  exact Int.eq_of_mul_eq_mul_right (by omega) this
 have eT:divT R (gTab R)=((R.map (shR b)).map (overB B)).map fun r=>r.map fun y=>(k:Int)*y:=by
  unfold divT
  rw [List.map_map,List.map_map]
  refine List.map_congr_left fun r hr=>?_
  show _=((shR b r).map fun z=>z.1*(B/z.2)).map fun y=>(k:Int)*y
  unfold shR
  rw [List.map_map,List.map_map]
  exact List.map_congr_left fun x hx=>(ent r hr x hx).symm
 rw [eT,gTab_mul] at gl
 have k1:k=1:=Nat.dvd_one.mp ⟨_,gl.symm⟩
 subst k1
 refine ⟨by rw [hm];exact (Int.mul_one B).symm,?_⟩
 rw [eT]
 refine (map_eq_self fun r _=>map_eq_self fun y _=>?_).symm
 exact Int.one_mul y
def sp_read_table (ds:List PyData) (k:PyData→Prop):Prop := ∃ (b:Int) (R:List (List Int)) (n:Nat),ds=[.str (layT (R.map (rTx b)))]∧(Tab b R n∧1≤n∧n≤12∧R≠[]∧R.length≤12∧b≤1000)∧k (dTab (b/gTab R) (divT R (gTab R)))
theorem word_free {p q:Int} (p0:0≤p) (q0:0≤q) {c:Nat} (hc:c<47∨57<c):c ∉ (shTx p q).cps.toList:=fun z=>by
 by_cases h:q=1
 ·unfold shTx at z
  rw [if_pos h] at z
  exact nT_free p0 (by omega) z
 ·rw [shTx_list h] at z
  rcases List.mem_append.mp z with z|z
  ·exact nT_free p0 (by omega) z
  ·rcases List.mem_cons.mp z with z|z
   ·omega
   ·exact nT_free q0 (by omega) z
theorem tab_cell {b x:Int}{R:List (List Int)}{n:Nat}{r:List Int} (h:Tab b R n) (hr:r ∈ R) (hx:x ∈ r):0≤x∧x≤b:=by
 refine ⟨h.nn r hr x hx,?_⟩
 rw [← h.sum r hr]
 exact mem_le_sum (h.nn r hr) hx
theorem low_pos' {b:Int}{R:List (List Int)}{n:Nat} (h:Tab b R n) (hR:R≠[]):b/gTab R≤b:=Int.ediv_le_self _ (by have:=h.pos;omega)
theorem sc_read_table:FnScope ["text","table"] ["text"] (defScope s_read_table):=sc0
theorem ok_read_table (F:Def K mg "read_table" s_read_table ["text"]) (T:Txt mg)
 (O_table_of_shares:Ok P w K mg base "table_of_shares" 2 ["rows"] (PSp K sp_table_of_shares))
 (O_words_in_rows:Ok P w K mg base "words_in_rows" 1 ["text"] (PSp K sp_words_in_rows))
 (O_read_share:Ok P w K mg base "read_share" 4 ["word"] (PSp K sp_read_share))
 : Ok P w K mg base "read_table" 5 ["text"] (PSp K sp_read_table):=by
  refine F.vok sc_read_table (by rintro ds q ⟨_,_,_,h,_⟩;rw [h];rfl) fun f cdv A outer s H E hr ds k h=>?_
  obtain ⟨b,R,n,rfl,⟨hT,n1,n2,rn,rl,b1⟩,h⟩:=h
  refine ⟨_,(vss_cons (vs_set (i:=1) sc_read_table.nd (ve_fn O_table_of_shares.c (hr.mono (by decide)) (va_cons (vf_fz (vf_comp (caps:=[]) (own:=["row"]) (ix:=[]) rfl ⟨rfl,rfl,rfl,rfl,rfl,rfl⟩ (vi_seq (ve_fn O_words_in_rows.c (hr.mono (by decide)) (va_cons (ve_var 0) va_nil))) (fun _ _ _ _=>(vg_name (i:=0) (show List.Nodup (["row"]:List Str) by decide))) (fun _ _ _ _=>(vf_fz (vf_comp (caps:=[]) (own:=["word"]) (ix:=[]) rfl ⟨rfl,rfl,rfl,rfl,rfl,rfl⟩ (vi_seq (ve_var 0)) (fun _ _ _ _=>(vg_name (i:=0) (show List.Nodup (["word"]:List Str) by decide))) (fun _ _ _ _=>(ve_fn O_read_share.c (hr.mono (by decide)) (va_cons (ve_var 0) va_nil)))))))) va_nil)))
   (vss_cons (vs_if (vt_cmp o_gt (ve_ix (ve_var 1) ve_int) (ve_globI T.MOST_BOTTOM_)) vss_never vss_nil)
   (vss_one (vs_ret (ve_var 1))))),?_⟩
  have b0:=hT.pos
  have zb:intBits b≤300:=bits_up (bits64 (by omega) (by omega)) (by decide)
  have cell : ∀ r ∈ R,∀ x ∈ r,Shr (shT x b) (shB x b)∧(0≤shT x b∧shT x b≤1000∧shB x b≤1000∧shB x b∣b)∧intBits (shT x b)≤64:=fun r hr x hx=>by
   obtain ⟨x0,x1⟩:=tab_cell hT hr hx
   obtain ⟨s,e⟩:=sh_ok (t:=x) (b:=b) (by omega)
   have q:=s.pos
   have dv:shB x b∣b:=⟨cm x b,by rw [Int.mul_comm];exact (shB_mul x b).symm⟩
   have cp:0<cm x b:=by
    have:=gcd_pos (t:=x) (b:=b) (by omega)
    unfold cm
    rw [if_neg (by omega)]
    omega
   have t:=shT_mul x b
   have t0:0≤shT x b:=by
    rcases Int.lt_or_le (shT x b) 0 with z|z
    ·have:=Int.mul_neg_of_pos_of_neg cp z
     omega
    ·exact z
   have t1:shT x b≤x:=by
    have:=Int.mul_le_mul_of_nonneg_right (show (1:Int)≤cm x b by omega) t0
    omega
   have:=Int.le_of_dvd (by omega) dv
   exact ⟨s,⟨t0,by omega,by omega,dv⟩,bits64 (by omega) (by omega)⟩
  have lw : ∀ r ∈ R,(rTx b r).length=n:=fun r hr=>by unfold rTx;rw [List.length_map];exact hT.len r hr
  refine ⟨R.map (rTx b),rfl,⟨by simpa using rn,by rw [List.length_map];exact rl,fun ws hw=>?_⟩,?_⟩
  ·obtain ⟨r,hr,rfl⟩:=List.mem_map.mp hw
   refine ⟨fun z=>?_,by rw [lw r hr];exact n2,fun x hx=>?_⟩
   ·have:=lw r hr
    rw [z] at this
    simp at this
    omega
   ·obtain ⟨y,hy,rfl⟩:=List.mem_map.mp hx
    obtain ⟨s,⟨c0,c1,c2,_⟩,c3⟩:=cell r hr y hy
    have q:=s.pos
    exact ⟨shTx_le (bits_up c3 (by decide)) (bits_up (bits64 (by omega) (by omega)) (by decide)),word_free c0 (by omega) (by omega),word_free c0 (by omega) (by omega)⟩
  refine comp_by (R.map fun r=>PyData.list ((shR b r).map dS)) (by simp) (small1000 (by simp;omega)) (fun e => ∃ s,e=[s]) ⟨_,rfl⟩ ?_ ?_
  ·rintro i x ys e hx hys ⟨s,rfl⟩
   rw [List.getElem?_map,List.getElem?_map] at hx
   cases er:R[i]? with
   | none=>rw [er] at hx;cases hx
   | some r =>
    rw [er] at hx
    cases hx
    have hr:=List.mem_of_getElem? er
    refine comp_by ((shR b r).map dS) (by simp [shR,rTx]) (small1000 (by simp [shR];have:=hT.len r hr;omega)) (fun e => ∃ s,e=[s]) ⟨_,rfl⟩ ?_ ?_
    ·rintro j y zs e hy hzs ⟨s,rfl⟩
     unfold rTx at hy
     rw [List.getElem?_map,List.getElem?_map] at hy
     cases ej:r[j]? with
     | none=>rw [ej] at hy;cases hy
     | some x =>
      rw [ej] at hy
      cases hy
      obtain ⟨s,⟨c0,c1,c2,_⟩,c3⟩:=cell r hr x (List.mem_of_getElem? ej)
      refine ⟨_,_,rfl,⟨s,c0,by omega,by omega⟩,snoc_take ?_ hzs,_,rfl⟩
      unfold shR
      rw [List.getElem?_map,List.getElem?_map,ej];rfl
    ·refine ⟨snoc_take ?_ hys,_,rfl⟩
     rw [List.getElem?_map,er];rfl
  refine ⟨_,R.map (shR b),b,rfl,⟨⟨_,rfl,by simp,fun i x hx=>?_⟩,by rw [List.length_map];omega,fun r' hr'=>?_,by omega,bits_up zb (by decide)⟩,fun B hB=>?_⟩
  ·rw [List.getElem?_map] at hx
   cases er:R[i]? with
   | none=>rw [er] at hx;cases hx
   | some r =>
    rw [er] at hx
    cases hx
    exact ⟨_,by rw [List.getElem?_map,er];rfl,rfl⟩
  ·obtain ⟨r,hr,rfl⟩:=List.mem_map.mp hr'
   refine ⟨by unfold shR;rw [List.length_map,hT.len r hr];omega,fun z hz=>?_⟩
   obtain ⟨x,hx,rfl⟩:=List.mem_map.mp hz
   obtain ⟨s,⟨_,_,_,c2⟩,c3⟩:=cell r hr x hx
   exact ⟨s,bits_up c3 (by decide),c2⟩
  obtain ⟨e1,e2⟩:=tab_back hT rn hB
  rw [e1] at e2 ⊢
  rw [e2]
  have lo:=low_pos' hT rn
  exact ⟨_,rfl,iteD (fun z=>by omega) (fun _=>h)⟩
def sp_read_glass (ds:List PyData) (k:PyData→Prop):Prop := ∃ (b:Int) (R:List (List Int)) (n:Nat),ds=[.str (layT (R.map (rTx b)))]∧(Tab b R n∧1≤n∧n≤12∧2≤R.length∧R.length≤4∧b≤1000)∧k (dTab (b/gTab R) (divT R (gTab R)))
theorem sc_read_glass:FnScope ["text","table"] ["text"] (defScope s_read_glass):=sc0
theorem ok_read_glass (F:Def K mg "read_glass" s_read_glass ["text"]) (T:Txt mg)
 (O_is_glass:Ok P w K mg base "is_glass" 5 ["thing"] (PSp K sp_is_glass))
 (O_read_table:Ok P w K mg base "read_table" 5 ["text"] (PSp K sp_read_table))
 : Ok P w K mg base "read_glass" 6 ["text"] (PSp K sp_read_glass):=by
  refine F.vok sc_read_glass (by rintro ds q ⟨_,_,_,h,_⟩;rw [h];rfl) fun f cdv A outer s H E hr ds k h=>?_
  obtain ⟨b,R,n,rfl,⟨hT,n1,n2,r1,r2,b1⟩,h⟩:=h
  refine ⟨_,(vss_cons (vs_set (i:=1) sc_read_glass.nd (ve_fn O_read_table.c (hr.mono (by decide)) (va_cons (ve_var 0) va_nil)))
   (vss_cons (vs_if (vt_not (vt_val (ve_fn O_is_glass.c (hr.mono (by decide)) (va_cons (ve_var 1) va_nil)))) vss_never vss_nil)
   (vss_one (vs_ret (ve_var 1))))),?_⟩
  have rn:R≠[]:=fun z=>by rw [z] at r1;simp at r1
  have l:(divT R (gTab R)).length=R.length:=by unfold divT;rw [List.length_map]
  refine ⟨b,R,n,rfl,⟨hT,n1,n2,rn,by omega,b1⟩,iteZ ?_ h⟩
  rw [isTable_low (hT.low rn) (gTab_low (hT.gpos rn)) n1 n2 (by omega) (by omega)]
  rfl
def sp_is_dulling:DC
 | [d],q=>q (.bool (isTable d 1 12))
 | _,_=>False
theorem sc_is_dulling:FnScope ["thing"] ["thing"] (defScope s_is_dulling):=sc0
theorem ok_is_dulling (F:Def K mg "is_dulling" s_is_dulling ["thing"]) (T:Txt mg)
 (O_is_table:Ok P w K mg base "is_table" 4 ["thing","fewest","most"] (PSp K sp_is_table))
 : Ok P w K mg base "is_dulling" 5 ["thing"] (PSp K sp_is_dulling):=by
  refine F.vok sc_is_dulling (fun ds q h=>by unfold sp_is_dulling at h;split at h;all_goals first|rfl|exact h.elim) fun f cdv A outer s H E hr ds q h=>?_
  match ds,h with
  | [d],h =>
  refine ⟨_,(vss_one (vs_ret (ve_fn O_is_table.c (hr.mono (by decide)) (va_cons (ve_var 0) (va_cons ve_int (va_cons (ve_globI T.MOST_SIGNS_) va_nil)))))),?_⟩
  exact ⟨⟨by decide,by decide⟩,h⟩
def sp_read_dulling (ds:List PyData) (k:PyData→Prop):Prop := ∃ (b:Int) (R:List (List Int)) (n:Nat),ds=[.str (layT (R.map (rTx b)))]∧(Tab b R n∧1≤n∧n≤12∧1≤R.length∧R.length≤12∧b≤1000)∧k (dTab (b/gTab R) (divT R (gTab R)))
theorem sc_read_dulling:FnScope ["text","table"] ["text"] (defScope s_read_dulling):=sc0
theorem ok_read_dulling (F:Def K mg "read_dulling" s_read_dulling ["text"]) (T:Txt mg)
 (O_read_table:Ok P w K mg base "read_table" 5 ["text"] (PSp K sp_read_table))
 (O_is_dulling:Ok P w K mg base "is_dulling" 5 ["thing"] (PSp K sp_is_dulling))
 : Ok P w K mg base "read_dulling" 6 ["text"] (PSp K sp_read_dulling):=by
  refine F.vok sc_read_dulling (by rintro ds q ⟨_,_,_,h,_⟩;rw [h];rfl) fun f cdv A outer s H E hr ds k h=>?_
  obtain ⟨b,R,n,rfl,⟨hT,n1,n2,r1,r2,b1⟩,h⟩:=h
  refine ⟨_,(vss_cons (vs_set (i:=1) sc_read_dulling.nd (ve_fn O_read_table.c (hr.mono (by decide)) (va_cons (ve_var 0) va_nil)))
   (vss_cons (vs_if (vt_not (vt_val (ve_fn O_is_dulling.c (hr.mono (by decide)) (va_cons (ve_var 1) va_nil)))) vss_never vss_nil)
   (vss_one (vs_ret (ve_var 1))))),?_⟩
  have rn:R≠[]:=fun z=>by rw [z] at r1;simp at r1
  have l:(divT R (gTab R)).length=R.length:=by unfold divT;rw [List.length_map]
  refine ⟨b,R,n,rfl,⟨hT,n1,n2,rn,by omega,b1⟩,iteZ ?_ h⟩
  rw [isTable_low (hT.low rn) (gTab_low (hT.gpos rn)) n1 n2 (by omega) (by omega)]
  rfl
theorem nT_neg {p:Int} (h:p<0):(nT p).cps.toList=45::(nT (-p)).cps.toList:=by
 cases p with
 | ofNat m=>exact absurd h (by simp)
 | negSucc m =>
  have e : -(Int.negSucc m)=((m+1:Nat):Int):=rfl
  rw [e]
  unfold nT
  rw [PyProof.Rows.signs_ofString,PyProof.Rows.signs_ofString]
  show (("-" ++ Nat.repr (m+1)):String).toList.map Char.toNat=45::(Nat.repr (m+1)).toList.map Char.toNat
  rw [String.toList_append,List.map_append]
  rfl
theorem str_len0 (x:Str):x.length=x.cps.toList.length:=by rw [Array.length_toList];rfl
theorem cut_one {x y:Str} (h:x.cps.toList=45::y.cps.toList):cutS x (some 1) none=y:=by
 have lx:x.length=y.cps.toList.length+1:=by rw [str_len0 x,h,List.length_cons]
 have e:Builtin.Str.strSliceIndices (some 1) none 1 x.length=Builtin.Str.strSliceIndices (some ((1:Nat):Int)) (some (x.length:Int)) 1 x.length:=StrLaws.sliceIdx_none_hi _ _
 unfold cutS
 rw [e,if_neg]
 ·apply str_ext
  show ((Builtin.Str.strSliceIndices (some ((1:Nat):Int)) (some (x.length:Int)) 1 x.length).filterMap (x.cps[·]?))=y.cps.toList
  rw [StrLaws.sliced_plain x (by omega) (Nat.le_refl _),h]
  refine (List.take_of_length_le ?_).trans rfl
  show y.cps.toList.length≤_
  omega
 ·rw [StrLaws.strSliceIndices_plain (by omega) (Nat.le_refl _),List.length_map,List.length_range]
  omega
theorem fig_neg {p:Int} (h:p<0):figS (nT p)=nT (-p):=by
 unfold figS
 rw [if_pos]
 ·exact cut_one (nT_neg h)
 ·show Txt.startswith (nT p) (chS 45)=true
  rw [starts_one,nT_neg h]
  rfl
theorem fig_abs (p:Int):figS (nT p)=nT (p.natAbs:Int):=by
 rcases Int.lt_or_le p 0 with h|h
 ·rw [fig_neg h,show ((p.natAbs:Nat):Int) = -p by omega]
 ·rw [nT_minus h,show ((p.natAbs:Nat):Int)=p by omega]
theorem int_long {p:Int}{k:Nat} (k1:1≤k) (hk:(p.natAbs:Int)<10^k):(nT p).length≤k+1:=by
 rcases Int.lt_or_le p 0 with h|h
 ·have:=(nT_long (p := -p) (by omega) k1 (by rw [show -p=((p.natAbs:Nat):Int) by omega];exact hk)).2
  rw [str_len0,nT_neg h,List.length_cons,← str_len0]
  omega
 ·have:=(nT_long h k1 (by rw [show p=((p.natAbs:Nat):Int) by omega];exact hk)).2
  omega
theorem int_asc (p:Int):(nT p).cps.all (· < 128)=true:=by
 rcases Int.lt_or_le p 0 with h|h
 ·rw [Array.all_eq_true']
  intro c hc
  have hc:c ∈ (nT p).cps.toList:=by simpa using hc
  rw [nT_neg h] at hc
  rcases List.mem_cons.mp hc with rfl|hc
  ·decide
  ·have:=nT_digit (p := -p) (by omega) c hc
   simp
   omega
 ·exact nT_asc h
theorem int_num {p:Int}{k:Nat} (k1:1≤k) (hk:(p.natAbs:Int)<10^k):numB (nT p) k=true:=by
 rcases Int.lt_or_le p 0 with h|h
 ·have hk : -p<10^k:=by rw [show -p=((p.natAbs:Nat):Int) by omega];exact hk
  unfold numB
  have z:=nT_zero (p := -p) (by omega)
  rw [nT_ne0 (q := -p) (by omega),Bool.false_or] at z
  rw [fig_neg h,nT_made (by omega) k1 hk,z,decide_eq_true (Int.ofNat_le.mpr (nT_long (by omega) k1 hk).2),Bool.or_true]
  rfl
 ·exact nT_num h k1 (by rw [show p=((p.natAbs:Nat):Int) by omega];exact hk)
theorem int_reads {p:Int} (h:(p.natAbs:Int)<10^10):PySem.intText? (nT p)=some p:=by
 rcases Int.lt_or_le p 0 with z|z
 ·have hl:=int_long (p:=p) (k:=10) (by decide) h
  have l1:=nT_long (p := -p) (k:=10) (by omega) (by decide) (by rw [show -p=((p.natAbs:Nat):Int) by omega];exact h)
  have e:=PySem.intText_neg (nT_neg z) (nT_digit (p := -p) (by omega)) (fun y=>by rw [str_len0,y] at l1;exact absurd l1.1 (by decide)) (Nat.le_trans hl (by decide))
  rw [nT_signs (p := -p) (by omega),PySem.W.KIN.val_back,Int.toNat_of_nonneg (by omega),Int.neg_neg] at e
  exact e
 ·exact nT_reads z (by rw [show p=((p.natAbs:Nat):Int) by omega];exact h)
theorem int_free {p:Int}{c:Nat} (hc:c≠45∧(c<48∨57<c)):c ∉ (nT p).cps.toList:=fun z=>by
 rcases Int.lt_or_le p 0 with h|h
 ·rw [nT_neg h] at z
  rcases List.mem_cons.mp z with z|z
  ·exact hc.1 z
  ·exact nT_free (p := -p) (by omega) hc.2 z
 ·exact nT_free h hc.2 z
def sp_read_payoff (ds:List PyData) (k:PyData→Prop):Prop := ∃ p:Int,ds=[.str (nT p)]∧(-1000000≤p∧p≤1000000)∧k (.int p)
theorem sc_read_payoff:FnScope ["word"] ["word"] (defScope s_read_payoff):=sc0
theorem ok_read_payoff (F:Def K mg "read_payoff" s_read_payoff ["word"]) (T:Txt mg)
 (O_is_number:Ok P w K mg base "is_number" 2 ["word","most"] (PSp K sp_is_number))
 : Ok P w K mg base "read_payoff" 3 ["word"] (PSp K sp_read_payoff):=by
  refine F.vok sc_read_payoff (by rintro ds q ⟨_,h,_⟩;rw [h];rfl) fun f cdv A outer s H E hr ds k h=>?_
  obtain ⟨p,rfl,⟨p0,p1⟩,h⟩:=h
  refine ⟨_,(vss_cons (vs_if (VW.pt (vw_or (vt_not (vt_val (ve_fn O_is_number.c (hr.mono (by decide)) (va_cons (ve_var 0) (va_cons (ve_globI T.MOST_PAYOFF_FIGURES_) va_nil))))) (vw_or1 (vt_cmp o_gt (ve_callB c_abs T.abs_ L2.boot_abs (va_cons (ve_callTy c_intS T.int_ L2.boot_int (va_cons (ve_var 0) va_nil)) va_nil)) (ve_globI T.MOST_PAYOFF_))))) vss_never vss_nil)
   (vss_one (vs_ret (ve_callTy c_intS T.int_ L2.boot_int (va_cons (ve_var 0) va_nil))))),?_⟩
  have hb:(p.natAbs:Int)<10^7:=by
   have:(10:Int)^7=10000000:=by decide
   omega
  have hl:=int_long (k:=7) (by decide) hb
  have fl:=(nT_long (p:=(p.natAbs:Int)) (k:=7) (by omega) (by decide) hb).2
  have nu:numB (nT p) 7=true:=int_num (k:=7) (by decide) hb
  have rd:PySem.intText? (nT p)=some p:=int_reads (by
   have:(10:Int)^10=10000000000:=by decide
   omega)
  refine ⟨nT p,7,rfl,⟨int_asc p,Nat.le_trans hl (by decide),by rw [fig_abs];exact int_asc _,by rw [fig_abs];exact Nat.le_trans fl (by decide)⟩,iteZ (by rw [nu];rfl) ?_⟩
  have ab : ¬ (if p<0 then -p else p)>1000000:=by split <;> omega
  exact ⟨p,rd,Nat.le_trans hl (by decide),iteD (fun z=>by omega) (fun _=>⟨p,rd,Nat.le_trans hl (by decide),h⟩)⟩
def sp_read_payoffs (ds:List PyData) (k:PyData→Prop):Prop := ∃ (Y:List (List Int)) (n:Nat),ds=[.str (layT (Y.map (List.map nT)))]∧(2≤Y.length∧Y.length≤4∧1≤n∧n≤12 ∧ ∀ r ∈ Y,r.length=n ∧ ∀ x ∈ r,-1000000≤x∧x≤1000000)∧k (.tuple (Y.map tRow))
theorem sc_read_payoffs:FnScope ["text","rows"] ["text"] (defScope s_read_payoffs):=sc0
theorem ok_read_payoffs (F:Def K mg "read_payoffs" s_read_payoffs ["text"]) (T:Txt mg)
 (O_words_in_rows:Ok P w K mg base "words_in_rows" 1 ["text"] (PSp K sp_words_in_rows))
 (O_read_payoff:Ok P w K mg base "read_payoff" 3 ["word"] (PSp K sp_read_payoff))
 : Ok P w K mg base "read_payoffs" 4 ["text"] (PSp K sp_read_payoffs):=by
  refine F.vok sc_read_payoffs (by rintro ds q ⟨_,_,h,_⟩;rw [h];rfl) fun f cdv A outer s H E hr ds k h=>?_
  obtain ⟨Y,n,rfl,⟨y1,y2,n1,n2,hY⟩,h⟩:=h
  refine ⟨_,(vss_cons (vs_set (i:=1) sc_read_payoffs.nd (vf_fz (vf_comp (caps:=[]) (own:=["row"]) (ix:=[]) rfl ⟨rfl,rfl,rfl,rfl,rfl,rfl⟩ (vi_seq (ve_fn O_words_in_rows.c (hr.mono (by decide)) (va_cons (ve_var 0) va_nil))) (fun _ _ _ _=>(vg_name (i:=0) (show List.Nodup (["row"]:List Str) by decide))) (fun _ _ _ _=>(ve_callTy c_tuple T.tuple_ L2.boot_tuple (va_cons (vf_fz (vf_comp (caps:=[]) (own:=["word"]) (ix:=[]) rfl ⟨rfl,rfl,rfl,rfl,rfl,rfl⟩ (vi_seq (ve_var 0)) (fun _ _ _ _=>(vg_name (i:=0) (show List.Nodup (["word"]:List Str) by decide))) (fun _ _ _ _=>(ve_fn O_read_payoff.c (hr.mono (by decide)) (va_cons (ve_var 0) va_nil))))) va_nil))))))
   (vss_cons (vs_if (VW.pt (vw_or (vt_not (vt_chain o_le o_le (ve_globI T.FEWEST_STANDS_) (ve_callB c_len T.len_ L2.boot_len (va_cons (ve_var 1) va_nil)) (ve_globI T.MOST_STANDS_))) (vw_or1 (vt_cmp o_gt (ve_callB c_len T.len_ L2.boot_len (va_cons (ve_ix (ve_var 1) ve_int) va_nil)) (ve_globI T.MOST_ACTS_))))) vss_never vss_nil)
   (vss_cons (vs_if (vt_not (vt_val (ve_callB (c_all rfl) T.all_ L2.boot_all (va_cons (vf_fz (vf_comp (caps:=["rows"]) (own:=["row"]) (ix:=[1]) rfl ⟨rfl,rfl,rfl,rfl,rfl,rfl⟩ (vi_seq (ve_var 1)) (fun _ _ _ _=>(vg_name (i:=1) (show List.Nodup (["rows","row"]:List Str) by decide))) (fun _ _ _ _=>(ve_cmp (o_eq hr.units) (ve_callB c_len T.len_ L2.boot_len (va_cons (ve_var 1) va_nil)) (ve_callB c_len T.len_ L2.boot_len (va_cons (ve_ix (ve_var 0) ve_int) va_nil)))))) va_nil)))) vss_never vss_nil)
   (vss_one (vs_ret (ve_callTy c_tuple T.tuple_ L2.boot_tuple (va_cons (ve_var 1) va_nil))))))),?_⟩
  refine ⟨Y.map (List.map nT),rfl,⟨fun z=>by simp at z;rw [z] at y1;simp at y1,by rw [List.length_map];omega,fun ws hw=>?_⟩,?_⟩
  ·obtain ⟨r,hr,rfl⟩:=List.mem_map.mp hw
   obtain ⟨r1,r2⟩:=hY r hr
   refine ⟨fun z=>by simp at z;rw [z] at r1;simp at r1;omega,by rw [List.length_map,r1];exact n2,fun x hx=>?_⟩
   obtain ⟨y,hy,rfl⟩:=List.mem_map.mp hx
   obtain ⟨b1,b2⟩:=r2 y hy
   exact ⟨Nat.le_trans (nT_len (bits_up (bits64 (by omega) (by omega)) (by decide:64≤300)) (by decide)) (by decide),int_free (by omega),int_free (by omega)⟩
  refine comp_by (Y.map tRow) (by simp) (small1000 (by simp;omega)) (fun e => ∃ s,e=[s]) ⟨_,rfl⟩ ?_ ?_
  ·rintro i x ys e hx hys ⟨s,rfl⟩
   rw [List.getElem?_map,List.getElem?_map] at hx
   cases er:Y[i]? with
   | none=>rw [er] at hx;cases hx
   | some r =>
    rw [er] at hx
    cases hx
    obtain ⟨r1,r2⟩:=hY r (List.mem_of_getElem? er)
    refine comp_by (r.map PyData.int) (by simp) (small1000 (by simp;omega)) (fun e => ∃ s,e=[s]) ⟨_,rfl⟩ ?_ ?_
    ·rintro j y zs e hy hzs ⟨s,rfl⟩
     rw [List.getElem?_map,List.getElem?_map] at hy
     cases ej:r[j]? with
     | none=>rw [ej] at hy;cases hy
     | some x =>
      rw [ej] at hy
      cases hy
      refine ⟨x,rfl,r2 x (List.mem_of_getElem? ej),snoc_take ?_ hzs,_,rfl⟩
      rw [List.getElem?_map,ej];rfl
    ·refine ⟨snoc_take ?_ hys,_,rfl⟩
     rw [List.getElem?_map,er];rfl
  have l0:(Y.map tRow).length=Y.length:=List.length_map ..
  cases Y with
  | nil=>simp at y1
  | cons r0 Y0 =>
  have hr0:=(hY r0 (by simp)).1
  have le0:((r0.map PyData.int).length:Int)=n:=by rw [List.length_map,hr0]
  refine iteY (by rw [decide_eq_true_eq];have:((((r0::Y0).map tRow).length:Nat):Int)=((r0::Y0).length:Nat):=by rw [l0]
                  omega) (iteZ (by rw [Bool.not_eq_false',decide_eq_true_eq];have:((((r0::Y0).map tRow).length:Nat):Int)=((r0::Y0).length:Nat):=by rw [l0]
                                   omega) ?_)
  have a0:atI ((r0::Y0).map tRow) 0=some (.tuple (r0.map PyData.int)):=atI_nat (j:=0) rfl
  refine ⟨.tuple (r0.map PyData.int),a0,iteD (fun z=>by have:=le0;omega) (fun _=>?_)⟩
  refine comp_by ((r0::Y0).map fun _=>PyData.bool true) (by simp) (small1000 (by simp;simp at y2;omega)) (fun e => ∃ s,e=[.val (.list ((r0::Y0).map tRow)),s]) ⟨_,rfl⟩ ?_ ?_
  ·rintro i x ys e hx hys ⟨s,rfl⟩
   rw [List.getElem?_map] at hx
   cases er:(r0::Y0)[i]? with
   | none=>rw [er] at hx;cases hx
   | some r =>
    rw [er] at hx
    cases hx
    have r1:=(hY r (List.mem_of_getElem? er)).1
    refine ⟨.tuple (r0.map PyData.int),a0,rfl,rfl,snoc_take ?_ hys,_,rfl⟩
    rw [List.getElem?_map,er,eqv_int]
    have e1:((r.map PyData.int).length:Int)=n:=by rw [List.length_map,r1]
    rw [e1,le0]
    simp
  ·refine ⟨(r0::Y0).map fun _=>true,by rw [List.map_map];rfl,iteZ ?_ h⟩
   simp
def sp__law_cell (ds:List PyData) (q:PyData→Prop):Prop := ∃ (ns:List Int) (k:Int),ds=[.list (ns.map .int),.int k]∧(0≤k∧k≤1000∧ns.length≤63) ∧ ∀ z:Int,q (.int z)
theorem sc__law_cell:FnScope ["_law_script","_law_k"] ["_law_script","_law_k"] (defScope s__law_cell):=sc0
theorem ok__law_cell (F:Def K mg "_law_cell" s__law_cell ["_law_script","_law_k"]) (T:Txt mg)
 : Ok P w K mg base "_law_cell" 1 ["_law_script","_law_k"] (PSp K sp__law_cell):=by
  refine F.vok sc__law_cell (by rintro ds q ⟨_,_,h,_⟩;rw [h];rfl) fun f cdv A outer s H E hr ds q h=>?_
  obtain ⟨ns,k,rfl,⟨k0,k1,hl⟩,h⟩:=h
  refine ⟨_,(vss_cons (vs_if (vt_cmp o_lt (ve_var 1) (ve_callB c_len T.len_ L2.boot_len (va_cons (ve_var 0) va_nil))) (vss_one (vs_ret (ve_ix (ve_var 0) (ve_var 1)))) vss_nil)
   (vss_cons (vs_if (vt_cmp (o_eq hr.units) (ve_callB c_len T.len_ L2.boot_len (va_cons (ve_var 0) va_nil)) ve_int) (vss_one (vs_ret (ve_op o_add (ve_op o_add (ve_op o_mulI (ve_op o_mulI (ve_var 1) (ve_var 1)) ve_int) (ve_op o_mulI ve_int (ve_var 1))) ve_int))) vss_nil)
   (vss_one (vs_ret (ve_op o_add (ve_op o_mulI (ve_ix (ve_var 0) (ve_op o_mod (ve_var 1) (ve_callB c_len T.len_ L2.boot_len (va_cons (ve_var 0) va_nil)))) (ve_op o_add (ve_var 1) ve_int)) (ve_op o_mulI (ve_op o_mulI (ve_var 1) (ve_var 1)) ve_int)))))),?_⟩
  refine iteD (fun hlt=>?_) (fun hge=>?_)
  ·obtain ⟨n,en⟩:=atI_ints (ns:=ns) k0 (by simpa using hlt)
   exact ⟨_,en,h n⟩
  refine ⟨rfl,rfl,ite_eq (fun z=>?_) (fun z=>?_)⟩
  ·exact ⟨IntMulOk.of_left (bits64 (by omega) (by omega)),IntMulOk.of_right (by decide),IntMulOk.of_left (by decide),h _⟩
  ·have hp:0<(((ns.map PyData.int).length:Nat):Int):=by omega
   obtain ⟨n,en⟩:=atI_ints (ns:=ns) (i:=k%(((ns.map PyData.int).length:Nat):Int)) (Int.emod_nonneg _ (by omega)) (by have:=Int.emod_lt_of_pos k hp;simpa using this)
   exact ⟨hp,_,en,IntMulOk.of_right (bits64 (by omega) (by omega)),IntMulOk.of_left (bits64 (by omega) (by omega)),IntMulOk.of_right (by decide),h _⟩
def sp__law_drawnC (ds:List PyData) (q:PyData→Prop):Prop := ∃ (c base many:Int),ds=[.int c,.int base,.int many]∧(1≤base∧base≤3000000∧0≤many∧many≤60) ∧ ∀ xs:List Int,xs.length=many.toNat→(∀ x ∈ xs,0≤x∧x<base)→q (.list (xs.map .int))
theorem sc__law_drawn:FnScope ["_law_cell_here","_law_base","_law_many","_law_found","_law_left","_law_k","_law_number"] ["_law_cell_here","_law_base","_law_many"] (defScope s__law_drawn):=sc0
theorem ok__law_drawn (F:Def K mg "_law_drawn" s__law_drawn ["_law_cell_here","_law_base","_law_many"]) (T:Txt mg)
 : Ok P w K mg base "_law_drawn" 1 ["_law_cell_here","_law_base","_law_many"] (PSp K sp__law_drawnC):=by
  refine F.vok sc__law_drawn (by rintro ds q ⟨_,_,_,h,_⟩;rw [h];rfl) fun f cdv A outer s H E hr ds q h=>?_
  obtain ⟨c,base,many,rfl,⟨b1,b2,m0,m1⟩,h⟩:=h
  refine ⟨_,(vss_cons (vs_setO (i:=3) sc__law_drawn.nd (vf_lst va_nil))
   (vss_cons (vs_set (i:=4) sc__law_drawn.nd (ve_op o_div (ve_var 0) ve_int))
   (vss_cons (vs_for rfl (vi_range1 T.range_ (ve_var 2)) (vg_name (i:=5) sc__law_drawn.nd) (vss_cons (vs_set (i:=6) sc__law_drawn.nd (ve_var 4))
   (vss_mid (vs_if (vt_cmp (o_eq hr.units) (ve_op o_mod (ve_var 0) ve_int) ve_int) (vss_cons (vs_set (i:=6) sc__law_drawn.nd (ve_op o_add (ve_op o_add (ve_op o_mod (ve_var 0) ve_int) (ve_op o_mulI ve_int (ve_var 5))) ve_int))
   (vss_cons (vs_set (i:=6) sc__law_drawn.nd (ve_op o_mod (ve_op o_mulI (ve_var 6) (ve_op o_add (ve_op o_add (ve_op o_mod (ve_var 0) ve_int) (ve_op o_mulI (ve_var 5) (ve_var 5))) ve_int)) ve_int))
   (vss_one (vs_set (i:=6) sc__law_drawn.nd (ve_op o_mod (ve_op o_add (ve_op o_mulI (ve_var 6) (ve_var 6)) (ve_op o_mulI ve_int (ve_var 5))) ve_int))))) vss_nil)
   (vss_cons (vs_append 3 (ve_op o_mod (ve_var 6) (ve_var 1)))
   (vss_one (vs_set (i:=4) sc__law_drawn.nd (ve_op o_div (ve_var 4) (ve_var 1))))))))
   (vss_one (vs_retO 3))))),?_⟩
  have mb : ∀ x:Int,intBits (x%2147483629)≤64:=fun x=>bits64 (by omega) (by omega)
  have zb:intBits base≤9000:=bits_up (bits64 (by omega) (by omega)) (by decide)
  refine ⟨szl,⟨by decide,by decide⟩,⟨by omega,by omega⟩,?_⟩
  refine ⟨fun i e => ∃ (xs:List Int) (left:Int) (t5 t6:Sl) (l:List PyData),e=[.val (.int c),.val (.int base),.val (.int many),.own l,.val (.int left),t5,t6]∧l=xs.map .int∧xs.length=i∧(∀ x ∈ xs,0≤x∧x<base),⟨[],_,_,_,_,rfl,rfl,rfl,by simp⟩,?_,?_⟩
  ·rintro i d e hd ⟨xs,left,t5,t6,l,rfl,rfl,hx,hb⟩
   obtain ⟨hi,rfl⟩:=rngD_inv hd
   rw [Int.zero_add]
   refine ⟨fun e => ∃ number:Int,e=[.val (.int c),.val (.int base),.val (.int many),.own (xs.map .int),.val (.int left),.val (.int (i:Nat)),.val (.int number)],?_,?_⟩
   ·refine ⟨by decide,rfl,rfl,ite_eq (fun _=>?_) (fun _=>⟨left,rfl⟩)⟩
    exact ⟨by decide,IntMulOk.of_left (by decide),by decide,IntMulOk.of_left (bits64 (by omega) (by omega)),IntMulOk.of_left (bits64 (by omega) (by omega)),by decide,IntMulOk.of_left (mb _),IntMulOk.of_left (by decide),by decide,_,rfl⟩
   ·rintro e ⟨number,rfl⟩
    refine ⟨rfl,by omega,rfl,small1000 (by show (List.map PyData.int xs).length≤1000;rw [List.length_map];omega),⟨by omega,zb⟩,xs++[number%base],_,_,_,_,rfl,ints_snoc _ _,by simp [hx],fun x h=>?_⟩
    rcases List.mem_append.mp h with h|h
    ·exact hb x h
    ·rw [List.mem_singleton.mp h]
     exact ⟨Int.emod_nonneg _ (by omega),Int.emod_lt_of_pos _ (by omega)⟩
  ·rintro e ⟨xs,left,t5,t6,l,rfl,rfl,hx,hb⟩
   rw [rngD_len] at hx
   exact h xs (by omega) hb
def diffs (a:Int) (cs:List Int) (b:Int):List Int:=List.zipWith (fun lo hi=>hi-lo) (a::cs) (cs++[b])
theorem diffs_ok : ∀ (cs:List Int) (a b:Int),cs.Pairwise (· ≤ ·)→(∀ c ∈ cs,a≤c∧c≤b)→a≤b→(diffs a cs b).length=cs.length+1∧(∀ x ∈ diffs a cs b,0≤x)∧(diffs a cs b).sum=b-a
 | [],a,b,_,_,hab=>by simp [diffs];omega
 | c::cs,a,b,hp,h,hab=>by
  have e:diffs a (c::cs) b=(c-a)::diffs c cs b:=rfl
  obtain ⟨h1,h2⟩:=List.pairwise_cons.mp hp
  obtain ⟨q1,q2⟩:=h c (by simp)
  obtain ⟨i1,i2,i3⟩:=diffs_ok cs c b h2 (fun x hx=>⟨h1 x hx,(h x (List.mem_cons_of_mem _ hx)).2⟩) q2
  rw [e]
  refine ⟨by simp [i1],fun x hx=>?_,by rw [List.sum_cons,i3];omega⟩
  rcases List.mem_cons.mp hx with rfl|hx
  ·omega
  ·exact i2 x hx
def sp__law_glassC (ds:List PyData) (q:PyData→Prop):Prop := ∃ (ns:List Int) (at' world many:Int),ds=[.list (ns.map .int),.int at',.int world,.int many]∧(ns.length≤63∧0≤at'∧at'≤100∧1≤world∧world≤12∧1≤many∧many≤12) ∧
 ∀ (b:Int) (R:List (List Int)),Tab b R many.toNat→R.length=world→b≤1000→q (.tuple [.int b,.list (R.map dRow)])
theorem sc__law_glass:FnScope ["_law_script","_law_at","_law_world","_law_many","_law_cell_here","_law_bottom","_law_rows","_law_stand","_law_cuts","_law_ends"] ["_law_script","_law_at","_law_world","_law_many"] (defScope s__law_glass):=sc0
theorem ok__law_glass (F:Def K mg "_law_glass" s__law_glass ["_law_script","_law_at","_law_world","_law_many"]) (T:Txt mg)
 (O__law_cell:Ok P w K mg base "_law_cell" 1 ["_law_script","_law_k"] (PSp K sp__law_cell))
 (O__law_drawn:Ok P w K mg base "_law_drawn" 1 ["_law_cell_here","_law_base","_law_many"] (PSp K sp__law_drawnC))
 : Ok P w K mg base "_law_glass" 2 ["_law_script","_law_at","_law_world","_law_many"] (PSp K sp__law_glassC):=by
  refine F.vok sc__law_glass (by rintro ds q ⟨_,_,_,_,h,_⟩;rw [h];rfl) fun f cdv A outer s H E hr ds q h=>?_
  obtain ⟨ns,at',world,many,rfl,⟨hl,t0,t1,w0,w1,m0,m1⟩,h⟩:=h
  refine ⟨_,(vss_cons (vs_set (i:=4) sc__law_glass.nd (ve_fn O__law_cell.c (hr.mono (by decide)) (va_cons (ve_var 0) (va_cons (ve_var 1) va_nil))))
   (vss_cons (vs_set (i:=5) sc__law_glass.nd (ve_op o_add ve_int (ve_op o_mod (ve_var 4) ve_int)))
   (vss_mid (vs_if (vt_cmp (o_eq hr.units) (ve_op o_mod (ve_op o_div (ve_var 4) ve_int) ve_int) ve_int) (vss_one (vs_set (i:=5) sc__law_glass.nd (ve_op o_add ve_int (ve_op o_mod (ve_op o_div (ve_var 4) ve_int) ve_int)))) vss_nil)
   (vss_cons (vs_setO (i:=6) sc__law_glass.nd (vf_lst va_nil))
   (vss_cons (vs_for rfl (vi_range1 T.range_ (ve_var 2)) (vg_name (i:=7) sc__law_glass.nd) (vss_cons (vs_set (i:=8) sc__law_glass.nd (vf_fz (vf_callB c_sorted T.sorted_ L2.boot_sorted (va_cons (ve_fn O__law_drawn.c (hr.mono (by decide)) (va_cons (ve_fn O__law_cell.c (hr.mono (by decide)) (va_cons (ve_var 0) (va_cons (ve_op o_add (ve_op o_add (ve_var 1) ve_int) (ve_var 7)) va_nil))) (va_cons (ve_op o_add (ve_var 5) ve_int) (va_cons (ve_op o_sub (ve_var 3) ve_int) va_nil)))) va_nil))))
   (vss_cons (vs_set (i:=9) sc__law_glass.nd (vf_fz (vf_cat (vf_fz (vf_cat (vf_fz (vf_lst (va_cons ve_int va_nil))) (ve_var 8))) (vf_fz (vf_lst (va_cons (ve_var 5) va_nil))))))
   (vss_one (vs_append 6 (vf_fz (vf_comp (caps:=["_law_ends"]) (own:=["_law_k"]) (ix:=[9]) rfl ⟨rfl,rfl,rfl,rfl,rfl,rfl⟩ (vi_range1 T.range_ (ve_var 3)) (fun _ _ _ _=>(vg_name (i:=1) (show List.Nodup (["_law_ends","_law_k"]:List Str) by decide))) (fun _ _ _ _=>(ve_op o_sub (ve_ix (ve_var 0) (ve_op o_add (ve_var 1) ve_int)) (ve_ix (ve_var 0) (ve_var 1)))))))))))
   (vss_fz 6 (vss_one (vs_ret (ve_tup (va_cons (ve_var 5) (va_cons (ve_var 6) va_nil))))))))))),?_⟩
  refine ⟨ns,at',rfl,⟨t0,by omega,hl⟩,fun c=>?_⟩
  refine ⟨by decide,?_⟩
  refine ⟨fun e => ∃ (b:Int) (t6 t7 t8 t9:Sl),e=[.val (.list (ns.map .int)),.val (.int at'),.val (.int world),.val (.int many),.val (.int c),.val (.int b),t6,t7,t8,t9]∧1≤b∧b≤1000,?_,?_⟩
  ·refine ⟨⟨by decide,by decide⟩,by decide,rfl,rfl,ite_eq (fun _=>?_) (fun _=>⟨_,_,_,_,_,rfl,by omega,by omega⟩)⟩
   exact ⟨⟨by decide,by decide⟩,by decide,_,_,_,_,_,rfl,by omega,by omega⟩
  ·rintro e ⟨b,t6,t7,t8,t9,rfl,hb1,hb2⟩
   refine ⟨szl,⟨by omega,by omega⟩,?_⟩
   refine ⟨fun i e => ∃ (R:List (List Int)) (t7 t8 t9:Sl) (l:List PyData),e=[.val (.list (ns.map .int)),.val (.int at'),.val (.int world),.val (.int many),.val (.int c),.val (.int b),.own l,t7,t8,t9]∧l=R.map dRow∧R.length=i∧Tab b R many.toNat,⟨[],_,_,_,_,rfl,rfl,rfl,⟨hb1,by simp,by simp,by simp⟩⟩,?_,?_⟩
   ·rintro i d e hd ⟨R,t7,t8,t9,l,rfl,rfl,hR,hT⟩
    obtain ⟨hi,rfl⟩:=rngD_inv hd
    rw [Int.zero_add]
    refine ⟨ns,_,rfl,⟨by omega,by omega,hl⟩,fun c2=>?_⟩
    refine ⟨c2,b+1,many-1,rfl,⟨by omega,by omega,by omega,by omega⟩,fun cs hcl hcb=>?_⟩
    refine ⟨cs,rfl,by omega,fun ms hperm hsort=>?_⟩
    have hn : ∀ c ∈ ms,0≤c∧c≤b:=fun c hc=>by have:=hcb c (hperm.mem_iff.mp hc);omega
    have hml:=hperm.length_eq
    obtain ⟨d1,d2,d3⟩:=diffs_ok ms 0 b hsort hn (by omega)
    refine ⟨szl,?_,szl,?_,?_⟩
    ·simp only [List.length_map,List.length_cons,List.length_nil];exact small_le (by omega)
    ·simp only [List.length_map,List.length_cons,List.length_nil,List.length_append];exact small_le (by omega)
    have ea:[PyData.int 0]++ms.map PyData.int++[PyData.int b]=(0::ms++[b]).map PyData.int:=by simp
    rw [ea]
    refine ⟨rfl,⟨by omega,by omega⟩,?_⟩
    refine comp_by ((diffs 0 ms b).map .int) (by rw [rngD_len,List.length_map,d1];omega) (small1000 (by rw [List.length_map,d1];omega)) (fun e => ∃ t,e=[.val (.list ((0::ms++[b]).map .int)),t]) ⟨_,rfl⟩ ?_ ?_
    ·rintro j d ys e hd hys ⟨t,rfl⟩
     obtain ⟨hj,rfl⟩:=rngD_inv hd
     rw [Int.zero_add]
     have hj1:j<(0::ms).length:=by simp;omega
     have hj2:j<(ms++[b]).length:=by simp;omega
     have g1:(0::ms++[b])[j]?=some ((0::ms)[j]):=by rw [List.getElem?_append_left hj1,List.getElem?_eq_getElem hj1]
     have g2:(0::ms++[b])[j+1]?=some ((ms++[b])[j]):=by rw [List.cons_append,List.getElem?_cons_succ,List.getElem?_eq_getElem hj2]
     have x1:atI ((0::ms++[b]).map PyData.int) (j:Nat)=some (.int ((0::ms)[j])):=atI_nat (by rw [List.getElem?_map,g1];rfl)
     have x2:atI ((0::ms++[b]).map PyData.int) ((j:Nat)+1:Int)=some (.int ((ms++[b])[j])):=atI_int (by omega) (by rw [List.getElem?_map,show ((j:Nat)+1:Int).toNat=j+1 by omega,g2];rfl)
     refine ⟨_,x2,_,x1,snoc_take ?_ hys,_,rfl⟩
     unfold diffs
     rw [List.getElem?_map,List.getElem?_zipWith,List.getElem?_eq_getElem hj1,List.getElem?_eq_getElem hj2];rfl
    ·refine ⟨rfl,small1000 (by show (List.map dRow R).length≤1000;rw [List.length_map];omega),R++[diffs 0 ms b],_,_,_,_,rfl,by simp [dRow];rfl,by simp [hR],⟨hb1,?_,?_,?_⟩⟩
     ·intro r' hr'
      rcases List.mem_append.mp hr' with h|h
      ·exact hT.len r' h
      ·rw [List.mem_singleton.mp h,d1];omega
     ·intro r' hr'
      rcases List.mem_append.mp hr' with h|h
      ·exact hT.nn r' h
      ·rw [List.mem_singleton.mp h];exact d2
     ·intro r' hr'
      rcases List.mem_append.mp hr' with h|h
      ·exact hT.sum r' h
      ·rw [List.mem_singleton.mp h,d3];omega
   ·rintro e ⟨R,t7,t8,t9,l,rfl,rfl,hR,hT⟩
    rw [rngD_len] at hR
    exact ⟨szl,h b R hT (by omega) hb2⟩
def sp__law_divisor (ds:List PyData) (q:PyData→Prop):Prop := ∃ a b:Int,ds=[.int a,.int b]∧0≤b∧q (.int (Int.gcd a b:Nat))
theorem sc__law_divisor:FnScope ["_law_one","_law_other"] ["_law_one","_law_other"] (defScope s__law_divisor):=sc0
theorem ok__law_divisor (F:Def K mg "_law_divisor" s__law_divisor ["_law_one","_law_other"]) (T:Txt mg)
 : Ok P w K mg base "_law_divisor" 1 ["_law_one","_law_other"] (PSp K sp__law_divisor):=by
  refine F.vok sc__law_divisor (by rintro ds q ⟨_,_,h,_⟩;rw [h];rfl) fun f cdv A outer s H E hr ds q h=>?_
  obtain ⟨a,b,rfl,hb,h⟩:=h
  refine ⟨_,(vss_cons (vs_while (vt_cmp (o_ne hr.units) (ve_var 1) ve_int) (vss_one (vs_par (i:=0) (j:=1) rfl sc__law_divisor.nd (va_cons (ve_var 1) (va_cons (ve_op o_mod (ve_var 0) (ve_var 1)) va_nil)))))
   (vss_one (vs_ret (ve_callB c_abs T.abs_ L2.boot_abs (va_cons (ve_var 0) va_nil))))),?_⟩
  refine ⟨fun m e => ∃ x y:Int,e=[.val (.int x),.val (.int y)]∧0≤y∧Int.gcd x y=Int.gcd a b∧m=y.toNat,⟨_,_,_,rfl,hb,rfl,rfl⟩,?_⟩
  rintro m e ⟨x,y,rfl,hy,hg,rfl⟩
  refine ⟨rfl,rfl,ite_ne (fun hne=>?_) (fun he=>?_)⟩
  ·have m0:=Int.emod_nonneg x hne
   have m1:=Int.emod_lt_of_pos x (show 0<y by omega)
   refine ⟨by omega,(x%y).toNat,by omega,y,x%y,rfl,m0,?_,rfl⟩
   rw [← hg,Int.gcd_comm x y]
   have e:x=x%y+x/y*y:=by have:=Int.emod_add_mul_ediv x y;rw [Int.mul_comm] at this;omega
   conv=>rhs;rw [e]
   rw [Int.gcd_add_mul_right_right]
  ·subst he
   show q (.int (if x<0 then -x else x))
   rw [Int.gcd_zero_right] at hg
   rw [← hg] at h
   have:(if x<0 then -x else x)=((x.natAbs:Nat):Int):=by split <;> omega
   rw [this];exact h
def sp__law_share_text (ds:List PyData) (k:PyData→Prop):Prop := ∃ t b:Int,ds=[.int t,.int b]∧(1≤b∧intBits b≤300∧intBits t≤300)∧k (.str (shTx (shT t b) (shB t b)))
theorem sh_pos {t b:Int} (h:1≤b):shT t b=t/(Int.gcd t b:Int)∧shB t b=b/(Int.gcd t b:Int):=by
 unfold shT shB cm
 rw [if_neg (by omega)]
 exact ⟨Int.fdiv_eq_ediv_of_nonneg _ (by omega),Int.fdiv_eq_ediv_of_nonneg _ (by omega)⟩
theorem emp_app (x:Str):Str.empty++x=x:=by
 show (⟨#[]++x.cps⟩:Str)=x
 simp
theorem sc__law_share_text:FnScope ["_law_top","_law_bottom","_law_by"] ["_law_top","_law_bottom"] (defScope s__law_share_text):=sc0
theorem ok__law_share_text (F:Def K mg "_law_share_text" s__law_share_text ["_law_top","_law_bottom"]) (T:Txt mg)
 (O__law_divisor:Ok P w K mg base "_law_divisor" 1 ["_law_one","_law_other"] (PSp K sp__law_divisor))
 : Ok P w K mg base "_law_share_text" 2 ["_law_top","_law_bottom"] (PSp K sp__law_share_text):=by
  refine F.vok sc__law_share_text (by rintro ds q ⟨_,_,h,_⟩;rw [h];rfl) fun f cdv A outer s H E hr ds k h=>?_
  obtain ⟨t,b,rfl,⟨b1,zb,zt⟩,h⟩:=h
  refine ⟨_,(vss_cons (vs_set (i:=2) sc__law_share_text.nd (ve_fn O__law_divisor.c (hr.mono (by decide)) (va_cons (ve_var 0) (va_cons (ve_var 1) va_nil))))
   (vss_cons (vs_if (vt_cmp (o_eq hr.units) (ve_var 1) (ve_var 2)) (vss_one (vs_ret (ve_callTy c_strI T.str_ L2.boot_str (va_cons (ve_op o_div (ve_var 0) (ve_var 2)) va_nil)))) vss_nil)
   (vss_one (vs_ret (ve_op o_add (ve_op o_add (ve_callTy c_strI T.str_ L2.boot_str (va_cons (ve_op o_div (ve_var 0) (ve_var 2)) va_nil)) ve_str) (ve_callTy c_strI T.str_ L2.boot_str (va_cons (ve_op o_div (ve_var 1) (ve_var 2)) va_nil))))))),?_⟩
  obtain ⟨e1,e2⟩:=sh_pos (t:=t) b1
  have z1:intBits (shT t b)≤400:=bits_up (shT_bits zt) (by decide)
  have z2:intBits (shB t b)≤400:=bits_up (shB_bits zb) (by decide)
  obtain ⟨l1,l2,l3⟩:=shTx_len z1 z2
  rw [emp_app] at l1 l2 l3
  have g0:=gcd_pos (t:=t) (b:=b) (by omega)
  have g1:(Int.gcd t b:Int)∣b:=Int.gcd_dvd_right t b
  have one:b=(Int.gcd t b:Int)↔shB t b=1:=by
   rw [e2]
   constructor
   ·intro z
    conv=>lhs;arg 1;rw [z]
    exact Int.ediv_self (by omega)
   ·intro z
    have:=Int.ediv_mul_cancel g1
    rw [z] at this
    omega
  have zg:intBits (Int.gcd t b:Int)≤9000:=bits_up (intBits_le_of_natAbs (Nat.le_of_dvd (by omega) (Nat.gcd_dvd_right t.natAbs b.natAbs)) zb) (by decide)
  refine ⟨t,b,rfl,by omega,rfl,rfl,ite_eq (fun z=>?_) (fun z=>?_)⟩
  ·unfold shTx at h
   rw [if_pos (one.mp z),e1] at h
   have lg:=nT_log z1 (by decide)
   rw [e1] at lg
   exact ⟨⟨by omega,zg⟩,lg,h⟩
  ·unfold shTx at h
   rw [if_neg (fun y=>z (one.mpr y)),emp_app,e1,e2] at h
   have lg:=nT_log z1 (by decide)
   have lh:=nT_log z2 (by decide)
   rw [strLen_append] at l2
   rw [strLen_append] at l3
   rw [e1] at lg l2 l3
   rw [e2] at lh l3
   exact ⟨⟨by omega,zg⟩,lg,sz_line l2 (by decide),⟨by omega,zg⟩,lh,sz_line l3 (by decide),h⟩
def sp__law_text (ds:List PyData) (k:PyData→Prop):Prop := ∃ (b:Int) (R:List (List Int)),ds=[.int b,.list (R.map fun r => .list (r.map .int))]∧(1≤b∧intBits b≤300∧R.length≤12 ∧ ∀ r ∈ R,r.length≤12 ∧ ∀ x ∈ r,intBits x≤300)∧k (.str (layT (R.map (rTx b))))
theorem sc__law_text:FnScope ["_law_bottom","_law_rows"] ["_law_bottom","_law_rows"] (defScope s__law_text):=sc0
theorem ok__law_text (F:Def K mg "_law_text" s__law_text ["_law_bottom","_law_rows"]) (T:Txt mg)
 (O__law_share_text:Ok P w K mg base "_law_share_text" 2 ["_law_top","_law_bottom"] (PSp K sp__law_share_text))
 : Ok P w K mg base "_law_text" 3 ["_law_bottom","_law_rows"] (PSp K sp__law_text):=by
  refine F.vok sc__law_text (by rintro ds q ⟨_,_,h,_⟩;rw [h];rfl) fun f cdv A outer s H E hr ds k h=>?_
  obtain ⟨b,R,rfl,⟨b1,zb,lR,hR⟩,h⟩:=h
  refine ⟨_,(vss_one (vs_ret (ve_join ve_str (vf_fz (vf_comp (caps:=["_law_bottom"]) (own:=["_law_row"]) (ix:=[0]) rfl ⟨rfl,rfl,rfl,rfl,rfl,rfl⟩ (vi_seq (ve_var 1)) (fun _ _ _ _=>(vg_name (i:=1) (show List.Nodup (["_law_bottom","_law_row"]:List Str) by decide))) (fun _ _ _ _=>(ve_join ve_str (vf_fz (vf_comp (caps:=["_law_bottom"]) (own:=["_law_number"]) (ix:=[0]) rfl ⟨rfl,rfl,rfl,rfl,rfl,rfl⟩ (vi_seq (ve_var 1)) (fun _ _ _ _=>(vg_name (i:=1) (show List.Nodup (["_law_bottom","_law_number"]:List Str) by decide))) (fun _ _ _ _=>(ve_fn O__law_share_text.c (hr.mono (by decide)) (va_cons (ve_var 1) (va_cons (ve_var 0) va_nil))))))))))))),?_⟩
  have sh : ∀ r ∈ R,∀ x ∈ rTx b r,x.length≤4000:=fun r hr x hx=>by
   obtain ⟨y,hy,rfl⟩:=List.mem_map.mp hx
   exact shTx_le (bits_up (shT_bits ((hR r hr).2 y hy)) (by decide)) (bits_up (shB_bits zb) (by decide))
  have inner : ∀ r ∈ R,JoinOk (" " : String) (rTx b r)=true∧(Txt.join (" " : String) (rTx b r)).length≤60000:=fun r hr=>by
   have a:(rTx b r).length≤12:=by unfold rTx;rw [List.length_map];exact (hR r hr).1
   have e:(Str.ofString " ").length=1:=rfl
   have m:(rTx b r).length*4000≤12*4000:=Nat.mul_le_mul_right _ a
   refine ⟨join_ok (sh r hr) (by rw [e];omega),?_⟩
   have:=join_le (s:=(" " : String)) (sh r hr)
   rw [e] at this
   omega
  refine ⟨_,rfl,comp_by ((R.map fun r=>Txt.join (" " : String) (rTx b r)).map PyData.str) (by simp) (small1000 (by simp;omega)) (fun e => ∃ s,e=[.val (.int b),s]) ⟨_,rfl⟩ ?_ ?_⟩
  ·rintro i x ys e hx hys ⟨s,rfl⟩
   rw [List.getElem?_map] at hx
   cases er:R[i]? with
   | none=>rw [er] at hx;cases hx
   | some r =>
    rw [er] at hx
    cases hx
    have hr:=hR r (List.mem_of_getElem? er)
    refine ⟨_,rfl,comp_by ((rTx b r).map PyData.str) (by simp [rTx]) (small1000 (by simp [rTx];omega)) (fun e => ∃ s,e=[.val (.int b),s]) ⟨_,rfl⟩ ?_ ?_⟩
    ·rintro j y zs e hy hzs ⟨s,rfl⟩
     rw [List.getElem?_map] at hy
     cases ej:r[j]? with
     | none=>rw [ej] at hy;cases hy
     | some n =>
      rw [ej] at hy
      cases hy
      refine ⟨n,b,rfl,⟨b1,zb,hr.2 n (List.mem_of_getElem? ej)⟩,snoc_take ?_ hzs,_,rfl⟩
      unfold rTx
      rw [List.getElem?_map,List.getElem?_map,ej];rfl
    ·refine ⟨rTx b r,rfl,(inner r (List.mem_of_getElem? er)).1,snoc_take ?_ hys,_,rfl⟩
     rw [List.getElem?_map,List.getElem?_map,er];rfl
  ·refine ⟨R.map fun r=>Txt.join (" " : String) (rTx b r),rfl,join_ok (B:=60000) (fun y hy=>?_) ?_,?_⟩
   ·obtain ⟨r,hr,rfl⟩:=List.mem_map.mp hy
    exact (inner r hr).2
   ·have e:(Str.ofString " | ").length=3:=rfl
    rw [List.length_map,e,← Nat.mul_add]
    exact Nat.le_trans (Nat.mul_le_mul_right _ lR) (by decide)
   ·unfold layT at h
    rw [List.map_map] at h
    exact h
def TDp:Nat→PyData→Prop
 | 0,d => ∃ n,d = .int n
 | k+1,d=>(∃ n,d = .int n) ∨ ∃ l,d = .tuple l∧l.length≤900 ∧ ∀ x ∈ l,TDp k x
def spA:Nat→DC
 | 0=>fun _ _=>False
 | k+1=>fun ds q => ∃ d,ds=[d,d]∧TDp k d∧q (.bool true)
theorem sc__law_alike:FnScope ["_law_found","_law_due","_law_k"] ["_law_found","_law_due"] (defScope s__law_alike):=sc0
theorem ok__law_alike (F:Def K mg "_law_alike" s__law_alike ["_law_found","_law_due"]) (T:Txt mg)
 : Ok P w K mg base "_law_alike" 5 ["_law_found","_law_due"] (PSp K (spA 4)):=by
  have O0:Ok P w K mg base "_law_alike" 1 ["_law_found","_law_due"] (PSp K (spA 0)):=F.vok sc__law_alike (fun ds q h=>h.elim) fun f cdv A outer s H E hr ds q h=>h.elim
  have step : ∀ {k L:Nat},1≤L→Ok P w K mg base "_law_alike" L ["_law_found","_law_due"] (PSp K (spA k))→Ok P w K mg base "_law_alike" (L+1) ["_law_found","_law_due"] (PSp K (spA (k+1))):=fun {k L} hL O__law_alike=>by
   refine F.vok sc__law_alike (by rintro ds q ⟨_,h,_⟩;rw [h];rfl) fun f cdv A outer s H E hr ds q h=>?_
   obtain ⟨d,rfl,hd,h⟩:=h
   refine ⟨_,(vss_cons (vs_if (vt_val (ve_isi T.isinstance_ T.tuple_ L2.boot_tuple (ve_var 1))) (vss_cons (vs_if (VW.pt (vw_or (vt_not (vt_val (ve_isi T.isinstance_ T.tuple_ L2.boot_tuple (ve_var 0)))) (vw_or1 (vt_cmp (o_ne hr.units) (ve_callB c_len T.len_ L2.boot_len (va_cons (ve_var 0) va_nil)) (ve_callB c_len T.len_ L2.boot_len (va_cons (ve_var 1) va_nil)))))) (vss_one (vs_ret ve_bl)) vss_nil)
    (vss_cons (vs_for rfl (vi_range1 T.range_ (ve_callB c_len T.len_ L2.boot_len (va_cons (ve_var 1) va_nil))) (vg_name (i:=2) sc__law_alike.nd) (vss_one (vs_if (vt_not (vt_val (ve_fn O__law_alike.c (hr.mono (by omega)) (va_cons (ve_ix (ve_var 0) (ve_var 2)) (va_cons (ve_ix (ve_var 1) (ve_var 2)) va_nil))))) (vss_one (vs_ret ve_bl)) vss_nil)))
    (vss_one (vs_ret ve_bl)))) vss_nil)
    (vss_one (vs_ret (ve_and (ve_isi T.isinstance_ T.int_ L2.boot_int (ve_var 0)) (ve_and (ve_not (ve_isi T.isinstance_ T.bool_ L2.boot_bool (ve_var 0))) (ve_one (ve_cmp (o_eq hr.units) (ve_var 0) (ve_var 1)))))))),?_⟩
   have eI : ∀ n:Int,Shp 0 (.int n):=fun n=>shp_int n 0
   cases k with
   | zero =>
    obtain ⟨n,rfl⟩:=hd
    exact ⟨rfl,rfl,by rw [(eI n).refl];exact h⟩
   | succ k =>
    rcases hd with ⟨n,rfl⟩|⟨l,rfl,l9,hx⟩
    ·exact ⟨rfl,rfl,by rw [(eI n).refl];exact h⟩
    ·refine ⟨rfl,rfl,ite_ne (fun z=>(z rfl).elim) (fun _=>?_)⟩
     refine ⟨⟨by omega,by omega⟩,fun j e => ∃ s,e=[.val (.tuple l),.val (.tuple l),s],⟨_,rfl⟩,?_,?_⟩
     ·rintro i x e hx' ⟨s,rfl⟩
      obtain ⟨hi,rfl⟩:=rngD_inv hx'
      rw [Int.zero_add]
      have hi':i<l.length:=by omega
      have el:l[i]?=some l[i]:=List.getElem?_eq_getElem hi'
      exact ⟨_,atI_nat el,_,atI_nat el,l[i],rfl,hx _ (List.getElem_mem hi'),_,rfl⟩
     ·rintro e ⟨s,rfl⟩
      exact h
  exact step (by decide) (step (by decide) (step (by decide) (step (by decide) O0)))
def sp__law_payoffsD (ds:List PyData) (q:PyData→Prop):Prop := ∃ (ns:List Int),ds=[.list (ns.map .int)]∧ns.length≤63 ∧
 ∀ (Y:List (List Int)) (a:Nat),2≤Y.length→Y.length≤4→1≤a→a≤12→(∀ y ∈ Y,y.length=a ∧ ∀ x ∈ y,-1000000≤x∧x≤1000000)→q (.tuple (Y.map tRow))
theorem sc__law_payoffs:FnScope ["_law_script","_law_cell_here","_law_acts","_law_base","_law_found","_law_stand","_law_numbers"] ["_law_script"] (defScope s__law_payoffs):=sc0
theorem ok__law_payoffs (F:Def K mg "_law_payoffs" s__law_payoffs ["_law_script"]) (T:Txt mg)
 (O__law_cell:Ok P w K mg base "_law_cell" 1 ["_law_script","_law_k"] (PSp K sp__law_cell))
 (O__law_drawn:Ok P w K mg base "_law_drawn" 1 ["_law_cell_here","_law_base","_law_many"] (PSp K sp__law_drawnC))
 : Ok P w K mg base "_law_payoffs" 2 ["_law_script"] (PSp K sp__law_payoffsD):=by
  refine F.vok sc__law_payoffs (by rintro ds q ⟨_,h,_⟩;rw [h];rfl) fun f cdv A outer s H E hr ds q h=>?_
  obtain ⟨ns,rfl,hl,h⟩:=h
  refine ⟨_,(vss_cons (vs_set (i:=1) sc__law_payoffs.nd (ve_fn O__law_cell.c (hr.mono (by decide)) (va_cons (ve_var 0) (va_cons ve_int va_nil))))
   (vss_cons (vs_set (i:=2) sc__law_payoffs.nd (ve_op o_add ve_int (ve_op o_mod (ve_var 1) ve_int)))
   (vss_cons (vs_set (i:=3) sc__law_payoffs.nd (ve_ix (vf_fz (vf_lst (va_cons ve_int (va_cons ve_int va_nil)))) (ve_op o_mod (ve_op o_div (ve_var 1) ve_int) ve_int)))
   (vss_cons (vs_setO (i:=4) sc__law_payoffs.nd (vf_lst va_nil))
   (vss_cons (vs_for rfl (vi_range1 T.range_ (ve_op o_add ve_int (ve_op o_mod (ve_op o_div (ve_var 1) ve_int) ve_int))) (vg_name (i:=5) sc__law_payoffs.nd) (vss_cons (vs_set (i:=6) sc__law_payoffs.nd (ve_fn O__law_drawn.c (hr.mono (by decide)) (va_cons (ve_fn O__law_cell.c (hr.mono (by decide)) (va_cons (ve_var 0) (va_cons (ve_op o_add ve_int (ve_var 5)) va_nil))) (va_cons (ve_var 3) (va_cons (ve_var 2) va_nil)))))
   (vss_one (vs_append 4 (ve_callTy c_tuple T.tuple_ L2.boot_tuple (va_cons (vf_fz (vf_comp (caps:=["_law_base"]) (own:=["_law_number"]) (ix:=[3]) rfl ⟨rfl,rfl,rfl,rfl,rfl,rfl⟩ (vi_seq (ve_var 6)) (fun _ _ _ _=>(vg_name (i:=1) (show List.Nodup (["_law_base","_law_number"]:List Str) by decide))) (fun _ _ _ _=>(ve_op o_sub (ve_var 1) (ve_op o_div (ve_var 0) ve_int))))) va_nil))))))
   (vss_fz 4 (vss_one (vs_ret (ve_callTy c_tuple T.tuple_ L2.boot_tuple (va_cons (ve_var 4) va_nil)))))))))),?_⟩
  refine ⟨ns,30,rfl,⟨by decide,by decide,hl⟩,fun c=>?_⟩
  obtain ⟨a,ea⟩:=Int.eq_ofNat_of_zero_le (show 0≤1+c%12 by omega)
  have pick : ∃ m:Int,atI [PyData.int 19,.int 2000001] (c/12%2)=some (.int m)∧19≤m∧m≤2000001:=by
   have:c/12%2=0∨c/12%2=1:=by omega
   rcases this with z|z
   ·rw [z];exact ⟨19,rfl,by decide,by decide⟩
   ·rw [z];exact ⟨2000001,rfl,by decide,by decide⟩
  obtain ⟨m,em,m1,m2⟩:=pick
  refine ⟨by decide,szl,⟨by decide,by decide⟩,by decide,.int m,em,szl,⟨by decide,by decide⟩,by decide,⟨by omega,by omega⟩,?_⟩
  refine ⟨fun i e => ∃ (Y:List (List Int)) (t5 t6:Sl) (l:List PyData),e=[.val (.list (ns.map .int)),.val (.int c),.val (.int (1+c%12)),.val (.int m),.own l,t5,t6]∧l=Y.map tRow∧Y.length=i∧(∀ y ∈ Y,y.length=a ∧ ∀ x ∈ y,-1000000≤x∧x≤1000000),⟨[],_,_,_,rfl,rfl,rfl,by simp⟩,?_,?_⟩
  ·rintro i d e hd ⟨Y,t5,t6,l,rfl,rfl,hY,h1⟩
   obtain ⟨hi,rfl⟩:=rngD_inv hd
   rw [Int.zero_add]
   refine ⟨ns,_,rfl,⟨by omega,by omega,hl⟩,fun c2=>?_⟩
   refine ⟨c2,m,1+c%12,rfl,⟨by omega,by omega,by omega,by omega⟩,fun xs hxl hxb=>?_⟩
   refine ⟨rfl,comp_by ((xs.map fun x=>x-m/2).map .int) (by simp) (small1000 (by simp;omega)) (fun e => ∃ t,e=[.val (.int m),t]) ⟨_,rfl⟩ ?_ ?_⟩
   ·rintro j d ys e hd hys ⟨t,rfl⟩
    obtain ⟨x,rfl,hx,_⟩:=int_get hd
    refine ⟨⟨by decide,by decide⟩,snoc_take ?_ hys,_,rfl⟩
    rw [List.getElem?_map,List.getElem?_map,hx];rfl
   ·refine ⟨rfl,small1000 (by show (List.map tRow Y).length≤1000;rw [List.length_map];omega),Y++[xs.map fun x=>x-m/2],_,_,_,rfl,by simp [tRow];rfl,by simp [hY],fun y hy=>?_⟩
    rcases List.mem_append.mp hy with hy|hy
    ·exact h1 y hy
    ·rw [List.mem_singleton.mp hy,List.length_map]
     refine ⟨by omega,fun x hx=>?_⟩
     obtain ⟨z,hz,rfl⟩:=List.mem_map.mp hx
     have:=hxb z hz
     omega
  ·rintro e ⟨Y,t5,t6,l,rfl,rfl,hY,h1⟩
   rw [rngD_len] at hY
   exact h Y a (by omega) (by omega) (by omega) (by omega) h1
theorem join_asc {y:Str}{rs:List Str} (hy : ∀ c ∈ y.cps.toList,c<128) (h : ∀ p ∈ rs,∀ c ∈ p.cps.toList,c<128) : ∀ c ∈ (Txt.join y rs).cps.toList,c<128:=fun c hc=>by
 have ej:Txt.join y rs=Str.join y rs:=StrLaws.glued_eq_join y rs
 rw [ej] at hc
 rcases join_mem hc with z|⟨p,hp,z⟩
 ·exact hy c z
 ·exact h p hp c z
theorem asc_all {x:Str}:x.cps.all (· < 128)=true ↔ ∀ c ∈ x.cps.toList,c<128:=by
 rw [Array.all_eq_true']
 constructor
 ·intro h c hc
  simpa using h c (by simpa using hc)
 ·intro h c hc
  have:=h c (by simpa using hc)
  simpa using this
theorem lay_asc {L:List (List Str)} (h : ∀ ws ∈ L,∀ x ∈ ws,x.cps.all (· < 128)=true):(layT L).cps.all (· < 128)=true:=by
 refine asc_all.mpr (join_asc (by decide +kernel) fun p hp=>?_)
 obtain ⟨ws,hw,rfl⟩:=List.mem_map.mp hp
 exact join_asc (by decide +kernel) fun x hx=>asc_all.mp (h ws hw x hx)
theorem text_low {b:Int}{R:List (List Int)}{n:Nat} (hT:Tab b R n) (hR:R≠[]):(divT R (gTab R)).map (rTx (b/gTab R))=R.map (rTx b):=by
 have g0:=hT.gpos hR
 have b0:=hT.pos
 have ec:(gTab R:Int)*(b/gTab R)=b:=Int.mul_ediv_cancel' (hT.gdvd hR)
 have lo:=(hT.low hR).pos
 unfold divT
 rw [List.map_map]
 refine List.map_congr_left fun r hr=>?_
 show (r.map fun x=>x/(gTab R:Int)).map (fun x=>shTx (shT x (b/gTab R)) (shB x (b/gTab R)))=r.map fun x=>shTx (shT x b) (shB x b)
 rw [List.map_map]
 refine List.map_congr_left fun x hx=>?_
 have ex:(gTab R:Int)*(x/gTab R)=x:=Int.mul_ediv_cancel' (gTab_dvd hr hx)
 obtain ⟨e1,e2⟩:=(sh_alike (a:=x/gTab R) (b:=b/gTab R) (c:=x) (d:=b) (by omega) (by omega)).mpr (by
  conv=>lhs;arg 2;rw [← ec]
  conv=>rhs;arg 1;rw [← ex]
  grind)
 show shTx (shT (x/gTab R) (b/gTab R)) (shB (x/gTab R) (b/gTab R))=_
 rw [e1,e2]
theorem sh_sign {t b:Int} (t0:0≤t) (b1:1≤b):0≤shT t b∧0≤shB t b:=by
 obtain ⟨s,e⟩:=sh_ok (t:=t) (b:=b) (by omega)
 have q:=s.pos
 refine ⟨?_,by omega⟩
 rcases Int.lt_or_le (shT t b) 0 with z|z
 ·have h1:=Int.mul_neg_of_neg_of_pos z (show 0<b by omega)
  have h2:=Int.mul_nonneg t0 (show 0≤shB t b by omega)
  omega
 ·exact z
theorem tab_asc {b:Int}{R:List (List Int)}{n:Nat} (hT:Tab b R n):(layT (R.map (rTx b))).cps.all (· < 128)=true:=lay_asc fun ws hw x hx=>by
 obtain ⟨r,hr,rfl⟩:=List.mem_map.mp hw
 obtain ⟨y,hy,rfl⟩:=List.mem_map.mp hx
 have:=sh_sign (hT.nn r hr y hy) hT.pos
 exact shTx_asc this.1 this.2
theorem td_tab (b:Int) {R:List (List Int)} (h:R.length≤12) (hr : ∀ r ∈ R,r.length≤12):TDp 3 (dTab b R):=by
 refine .inr ⟨_,rfl,by show 2≤900;decide,fun x hx=>?_⟩
 rcases List.mem_cons.mp hx with rfl|hx
 ·exact .inl ⟨_,rfl⟩
 ·rw [List.mem_singleton.mp hx]
  refine .inr ⟨_,rfl,by rw [List.length_map];omega,fun y hy=>?_⟩
  obtain ⟨r,hr',rfl⟩:=List.mem_map.mp hy
  refine .inr ⟨_,rfl,by rw [List.length_map];have:=hr r hr';omega,fun z hz=>?_⟩
  obtain ⟨n,_,rfl⟩:=List.mem_map.mp hz
  exact ⟨_,rfl⟩
theorem td_pays {Y:List (List Int)} (h:Y.length≤12) (hr : ∀ r ∈ Y,r.length≤12):TDp 3 (.tuple (Y.map tRow)):=by
 refine .inr ⟨_,rfl,by rw [List.length_map];omega,fun y hy=>?_⟩
 obtain ⟨r,hr',rfl⟩:=List.mem_map.mp hy
 refine .inr ⟨_,rfl,by rw [List.length_map];have:=hr r hr';omega,fun z hz=>?_⟩
 obtain ⟨n,_,rfl⟩:=List.mem_map.mp hz
 exact .inl ⟨_,rfl⟩
def ten60:Int:=10^(60:Int).toNat
def ten59:Int:=10^(59:Int).toNat
theorem t60:ten60<2^200∧0<ten60∧0≤ten59∧5*ten59<2^200:=by decide
theorem pick60 (c:Int) : ∃ m:Int,atI [PyData.int 12,.int (ten60-1)] (c%2)=some (.int m)∧12≤m∧m<ten60:=by
 have:c%2=0∨c%2=1:=by omega
 rcases this with z|z
 ·rw [z];exact ⟨12,rfl,by decide,by decide⟩
 ·rw [z];exact ⟨ten60-1,rfl,by decide,by decide⟩
theorem sh_asc {p q:Int} (q0:0≤q):(shTx p q).cps.all (· < 128)=true:=by
 by_cases h:q=1
 ·unfold shTx
  rw [if_pos h]
  exact int_asc p
 ·refine asc_all.mpr fun c hc=>?_
  rw [shTx_list h] at hc
  rcases List.mem_append.mp hc with hc|hc
  ·exact asc_all.mp (int_asc p) c hc
  ·rcases List.mem_cons.mp hc with rfl|hc
   ·decide
   ·exact asc_all.mp (nT_asc q0) c hc
theorem last51 (c40 c41:Int) {m:Int} (m1:12≤m) (m2:m<ten60):1≤1+c41%m∧1+c41%m≠0∧intBits (1+c41%m)≤9000∧(intBits (1+c41%m)≤300∧intBits (c40%ten60-5*ten59)≤300)∧intBits (shT (c40%ten60-5*ten59) (1+c41%m))≤400∧intBits (shB (c40%ten60-5*ten59) (1+c41%m))≤400∧Shp 0 (.str (shTx (shT (c40%ten60-5*ten59) (1+c41%m)) (shB (c40%ten60-5*ten59) (1+c41%m)))):=by
 have B:1≤1+c41%m∧1+c41%m<2^200:=by
  have:=Int.emod_nonneg c41 (show m≠0 by omega)
  have:=Int.emod_lt_of_pos c41 (show 0<m by omega)
  have:=t60.1
  omega
 have Tb : -(2^200)<c40%ten60-5*ten59∧c40%ten60-5*ten59<2^200:=by
  have:=t60
  have:=Int.emod_nonneg c40 (show ten60≠0 by omega)
  have:=Int.emod_lt_of_pos c40 (show 0<ten60 by omega)
  omega
 generalize c40%ten60-5*ten59=t at *
 generalize 1+c41%m=u at *
 have zt:intBits t≤300:=bits_up (bits_of Tb.1 Tb.2) (by decide)
 have zu:intBits u≤300:=bits_up (bits_of (by omega) B.2) (by decide)
 exact ⟨B.1,by omega,bits_up zu (by decide),⟨zu,zt⟩,bits_up (shT_bits zt) (by decide),bits_up (shB_bits zu) (by decide),shpS 0 (asc_ok (sh_asc (by have:=(sh_ok (t:=t) (b:=u) (by omega)).1.pos;omega)))⟩
theorem sc_law:FnScope ["_law_script","_law_cell_here","_law_bottom","_law_rows","_law_glass_here","_law_text_here","_law_dulling","_law_payoffs_here","_law_top","_law_below_one"] ["_law_script"] (defScope s_law):=sc0
theorem law_fn {f:Addr}{fd:FuncData} (F:Fun K "law" "law" s_law f fd) (T:Txt mg)
 (O_share:Ok P w K mg base "share" 3 ["top","bottom"] (PSp K sp_share))
 (O_glass_of:Ok P w K mg base "glass_of" 4 ["bottom","rows"] (PSp K sp_glass_of))
 (O_dulling_of:Ok P w K mg base "dulling_of" 4 ["bottom","rows"] (PSp K sp_dulling_of))
 (O_show_share:Ok P w K mg base "show_share" 1 ["one"] (PSp K sp_show_share))
 (O_show_glass:Ok P w K mg base "show_glass" 5 ["glass"] (PSp K sp_show_glass))
 (O_show_payoffs:Ok P w K mg base "show_payoffs" 2 ["payoffs"] (PSp K sp_show_payoffs))
 (O_read_glass:Ok P w K mg base "read_glass" 6 ["text"] (PSp K sp_read_glass))
 (O_read_dulling:Ok P w K mg base "read_dulling" 6 ["text"] (PSp K sp_read_dulling))
 (O_read_payoffs:Ok P w K mg base "read_payoffs" 4 ["text"] (PSp K sp_read_payoffs))
 (O__law_cell:Ok P w K mg base "_law_cell" 1 ["_law_script","_law_k"] (PSp K sp__law_cell))
 (O__law_glass:Ok P w K mg base "_law_glass" 2 ["_law_script","_law_at","_law_world","_law_many"] (PSp K sp__law_glassC))
 (O__law_share_text:Ok P w K mg base "_law_share_text" 2 ["_law_top","_law_bottom"] (PSp K sp__law_share_text))
 (O__law_text:Ok P w K mg base "_law_text" 3 ["_law_bottom","_law_rows"] (PSp K sp__law_text))
 (O__law_alike:Ok P w K mg base "_law_alike" 5 ["_law_found","_law_due"] (PSp K (spA 4)))
 (O__law_payoffs:Ok P w K mg base "_law_payoffs" 2 ["_law_script"] (PSp K sp__law_payoffsD))
 : FnOk P w K mg base CX0 7 f fd ["_law_script"] (spLaw K):=by
  refine F.vlaw sc_law rfl fun cdv A outer s H E hr ns hlen=>?_
  refine ⟨_,(vss_cons (vs_set (i:=1) sc_law.nd (ve_fn O__law_cell.c (hr.mono (by decide)) (va_cons (ve_var 0) (va_cons ve_int va_nil))))
   (vss_cons (vs_asg (ve_fn O__law_glass.c (hr.mono (by decide)) (va_cons (ve_var 0) (va_cons ve_int (va_cons (ve_op o_add ve_int (ve_op o_mod (ve_var 1) ve_int)) (va_cons (ve_op o_add ve_int (ve_op o_mod (ve_op o_div (ve_var 1) ve_int) ve_int)) va_nil))))) (vg_tup (n:=2) rfl (vgs_cons (vg_name (i:=2) sc_law.nd) (vgs_cons (vg_name (i:=3) sc_law.nd) vgs_nil))))
   (vss_cons (vs_set (i:=4) sc_law.nd (ve_fn O_glass_of.c (hr.mono (by decide)) (va_cons (ve_var 2) (va_cons (ve_var 3) va_nil))))
   (vss_cons (vs_set (i:=5) sc_law.nd (ve_fn O__law_text.c (hr.mono (by decide)) (va_cons (ve_var 2) (va_cons (ve_var 3) va_nil))))
   (vss_cons (vs_if (VW.pt (vw_or (vt_cmp (o_ne hr.units) (ve_fn O_show_glass.c (hr.mono (by decide)) (va_cons (ve_var 4) va_nil)) (ve_var 5)) (vw_or1 (vt_not (vt_val (ve_fn O__law_alike.c (hr.mono (by decide)) (va_cons (ve_fn O_read_glass.c (hr.mono (by decide)) (va_cons (ve_var 5) va_nil)) (va_cons (ve_var 4) va_nil)))))))) (vss_one (vs_ret ve_bl)) vss_nil)
   (vss_cons (vs_asg (ve_fn O__law_glass.c (hr.mono (by decide)) (va_cons (ve_var 0) (va_cons ve_int (va_cons (ve_op o_add ve_int (ve_op o_mod (ve_op o_div (ve_var 1) ve_int) ve_int)) (va_cons (ve_op o_add ve_int (ve_op o_mod (ve_op o_div (ve_var 1) ve_int) ve_int)) va_nil))))) (vg_tup (n:=2) rfl (vgs_cons (vg_name (i:=2) sc_law.nd) (vgs_cons (vg_name (i:=3) sc_law.nd) vgs_nil))))
   (vss_cons (vs_set (i:=6) sc_law.nd (ve_fn O_dulling_of.c (hr.mono (by decide)) (va_cons (ve_var 2) (va_cons (ve_var 3) va_nil))))
   (vss_cons (vs_set (i:=5) sc_law.nd (ve_fn O__law_text.c (hr.mono (by decide)) (va_cons (ve_var 2) (va_cons (ve_var 3) va_nil))))
   (vss_cons (vs_if (VW.pt (vw_or (vt_cmp (o_ne hr.units) (ve_fn O_show_glass.c (hr.mono (by decide)) (va_cons (ve_var 6) va_nil)) (ve_var 5)) (vw_or1 (vt_not (vt_val (ve_fn O__law_alike.c (hr.mono (by decide)) (va_cons (ve_fn O_read_dulling.c (hr.mono (by decide)) (va_cons (ve_var 5) va_nil)) (va_cons (ve_var 6) va_nil)))))))) (vss_one (vs_ret ve_bl)) vss_nil)
   (vss_cons (vs_set (i:=7) sc_law.nd (ve_fn O__law_payoffs.c (hr.mono (by decide)) (va_cons (ve_var 0) va_nil)))
   (vss_cons (vs_set (i:=5) sc_law.nd (ve_join ve_str (vf_fz (vf_comp (caps:=[]) (own:=["_law_row"]) (ix:=[]) rfl ⟨rfl,rfl,rfl,rfl,rfl,rfl⟩ (vi_seq (ve_var 7)) (fun _ _ _ _=>(vg_name (i:=0) (show List.Nodup (["_law_row"]:List Str) by decide))) (fun _ _ _ _=>(ve_join ve_str (vf_fz (vf_comp (caps:=[]) (own:=["_law_number"]) (ix:=[]) rfl ⟨rfl,rfl,rfl,rfl,rfl,rfl⟩ (vi_seq (ve_var 0)) (fun _ _ _ _=>(vg_name (i:=0) (show List.Nodup (["_law_number"]:List Str) by decide))) (fun _ _ _ _=>(ve_callTy c_strI T.str_ L2.boot_str (va_cons (ve_var 0) va_nil)))))))))))
   (vss_cons (vs_if (VW.pt (vw_or (vt_cmp (o_ne hr.units) (ve_fn O_show_payoffs.c (hr.mono (by decide)) (va_cons (ve_var 7) va_nil)) (ve_var 5)) (vw_or1 (vt_not (vt_val (ve_fn O__law_alike.c (hr.mono (by decide)) (va_cons (ve_fn O_read_payoffs.c (hr.mono (by decide)) (va_cons (ve_var 5) va_nil)) (va_cons (ve_var 7) va_nil)))))))) (vss_one (vs_ret ve_bl)) vss_nil)
   (vss_cons (vs_set (i:=8) sc_law.nd (ve_op o_sub (ve_op o_mod (ve_fn O__law_cell.c (hr.mono (by decide)) (va_cons (ve_var 0) (va_cons ve_int va_nil))) (ve_op o_pow ve_int ve_int)) (ve_op o_mulI ve_int (ve_op o_pow ve_int ve_int))))
   (vss_cons (vs_set (i:=9) sc_law.nd (ve_op o_add ve_int (ve_op o_mod (ve_fn O__law_cell.c (hr.mono (by decide)) (va_cons (ve_var 0) (va_cons ve_int va_nil))) (ve_ix (vf_fz (vf_lst (va_cons ve_int (va_cons (ve_op o_sub (ve_op o_pow ve_int ve_int) ve_int) va_nil)))) (ve_op o_mod (ve_fn O__law_cell.c (hr.mono (by decide)) (va_cons (ve_var 0) (va_cons ve_int va_nil))) ve_int)))))
   (vss_one (vs_ret (ve_cmp (o_eq hr.units) (ve_fn O_show_share.c (hr.mono (by decide)) (va_cons (ve_fn O_share.c (hr.mono (by decide)) (va_cons (ve_var 8) (va_cons (ve_var 9) va_nil))) va_nil)) (ve_fn O__law_share_text.c (hr.mono (by decide)) (va_cons (ve_var 8) (va_cons (ve_var 9) va_nil)))))))))))))))))))),?_⟩
  refine ⟨ns,0,rfl,⟨by decide,by decide,hlen⟩,fun z0=>?_⟩
  obtain ⟨n1,en1⟩:=Int.eq_ofNat_of_zero_le (show 0≤1+z0/3%12 by omega)
  obtain ⟨n2,en2⟩:=Int.eq_ofNat_of_zero_le (show 0≤1+z0/432%12 by omega)
  have small : ∀ {b:Int}{R:List (List Int)}{n:Nat},Tab b R n→n≤12→b≤1000→intBits b≤300 ∧ ∀ r ∈ R,r.length≤12 ∧ ∀ x ∈ r,intBits x≤300:=fun {b R n} hT hn hb=>by
   have b0:=hT.pos
   refine ⟨bits_up (bits64 (by omega) (by omega)) (by decide),fun r hr=>⟨by rw [hT.len r hr];exact hn,fun x hx=>?_⟩⟩
   have:=tab_cell hT hr hx
   exact bits_up (bits64 (by omega) (by omega)) (by decide)
  refine ⟨by decide,⟨by decide,by decide⟩,by decide,ns,1,_,_,rfl,⟨hlen,by decide,by decide,by omega,by omega,by omega,by omega⟩,fun b R hT hl hb=>?_⟩
  rw [en1,Int.toNat_natCast] at hT
  have b0:=hT.pos
  have rn:R≠[]:=fun z=>by rw [z] at hl;simp at hl;omega
  obtain ⟨s1,s2⟩:=small hT (by omega) hb
  obtain ⟨s3,s4⟩:=small (hT.low rn) (by omega) (Int.le_trans (low_pos' hT rn) hb)
  have ld:(divT R (gTab R)).length=R.length:=by unfold divT;rw [List.length_map]
  have sx:=shpS (x:=layT (R.map (rTx b))) 0 (asc_ok (tab_asc hT))
  refine ⟨rfl,rfl,b,_,R,n1,rfl,⟨rowsD_lst _,hT,by omega,by omega,by omega,by omega,bits_up s1 (by decide)⟩,?_⟩
  refine ⟨b,R,rfl,⟨by omega,s1,by omega,s2⟩,?_⟩
  refine ⟨_,_,rfl,⟨by have:=(hT.low rn).pos;omega,s3,by omega,s4⟩,?_⟩
  unfold tTx
  rw [text_low hT rn]
  refine ⟨sx.ok,sx.ok,iteZ (by rw [sx.refl];rfl) ?_⟩
  refine ⟨b,R,n1,rfl,⟨hT,by omega,by omega,by omega,by omega,hb⟩,?_⟩
  refine ⟨_,rfl,td_tab _ (by omega) fun r hr=>(s4 r hr).1,iteZ rfl ?_⟩
  clear s1 s2 s3 s4 sx ld
  refine ⟨⟨by decide,by decide⟩,by decide,⟨by decide,by decide⟩,by decide,ns,10,_,_,rfl,⟨hlen,by decide,by decide,by omega,by omega,by omega,by omega⟩,fun c D hD hl2 hc=>?_⟩
  rw [en2,Int.toNat_natCast] at hD
  have c0:=hD.pos
  have dn:D≠[]:=fun z=>by rw [z] at hl2;simp at hl2;omega
  obtain ⟨s1,s2⟩:=small hD (by omega) hc
  obtain ⟨s3,s4⟩:=small (hD.low dn) (by omega) (Int.le_trans (low_pos' hD dn) hc)
  have ld:(divT D (gTab D)).length=D.length:=by unfold divT;rw [List.length_map]
  have sx:=shpS (x:=layT (D.map (rTx c))) 0 (asc_ok (tab_asc hD))
  refine ⟨rfl,rfl,c,_,D,n2,rfl,⟨rowsD_lst _,hD,by omega,by omega,by omega,by omega,bits_up s1 (by decide)⟩,?_⟩
  refine ⟨c,D,rfl,⟨by omega,s1,by omega,s2⟩,?_⟩
  refine ⟨_,_,rfl,⟨by have:=(hD.low dn).pos;omega,s3,by omega,s4⟩,?_⟩
  unfold tTx
  rw [text_low hD dn]
  refine ⟨sx.ok,sx.ok,iteZ (by rw [sx.refl];rfl) ?_⟩
  refine ⟨c,D,n2,rfl,⟨hD,by omega,by omega,by omega,by omega,hc⟩,?_⟩
  refine ⟨_,rfl,td_tab _ (by omega) fun r hr=>(s4 r hr).1,iteZ rfl ?_⟩
  clear s1 s2 s3 s4 sx ld small
  refine ⟨ns,rfl,hlen,fun Y a y1 y2 a1 a2 hY=>?_⟩
  have nb : ∀ r ∈ Y,∀ x ∈ r,intBits x≤300:=fun r hr x hx=>by
   have:=(hY r hr).2 x hx
   exact bits_up (bits64 (by omega) (by omega)) (by decide)
  have inner : ∀ r ∈ Y,JoinOk (Str.ofString " ") (r.map nT)=true∧(Txt.join (Str.ofString " ") (r.map nT)).length≤60000:=fun r hr=>by
   have hB : ∀ y ∈ r.map nT,y.length≤4000:=fun y hy=>by
    obtain ⟨x,hx,rfl⟩:=List.mem_map.mp hy
    exact Nat.le_trans (nT_len (nb r hr x hx) (by decide)) (by decide)
   have l:(r.map nT).length≤12:=by rw [List.length_map,(hY r hr).1];exact a2
   have e:(Str.ofString " ").length=1:=rfl
   have m:(r.map nT).length*4000≤12*4000:=Nat.mul_le_mul_right _ l
   refine ⟨join_ok hB (by rw [e];omega),?_⟩
   have:=join_le (s:=Str.ofString " ") hB
   rw [e] at this
   omega
  have py:=shpS (x:=pTx Y) 0 (asc_ok (lay_asc fun ws hw x hx=>by
   obtain ⟨r,hr,rfl⟩:=List.mem_map.mp hw
   obtain ⟨y,hy,rfl⟩:=List.mem_map.mp hx
   exact int_asc y))
  have et:Txt.join (Str.ofString " | ") (Y.map fun r=>Txt.join (Str.ofString " ") (r.map nT))=pTx Y:=by
   unfold pTx layT
   rw [List.map_map]
   rfl
  refine ⟨_,rfl,comp_by ((Y.map fun r=>Txt.join (Str.ofString " ") (r.map nT)).map PyData.str) (by simp) (small1000 (by simp;omega)) (fun e => ∃ s,e=[s]) ⟨_,rfl⟩ ?_ ?_⟩
  ·rintro i x ys e hx hys ⟨s,rfl⟩
   rw [List.getElem?_map] at hx
   cases er:Y[i]? with
   | none=>rw [er] at hx;cases hx
   | some r =>
    rw [er] at hx
    cases hx
    have hr:=List.mem_of_getElem? er
    have rl:=(hY r hr).1
    refine ⟨_,rfl,comp_by ((r.map nT).map PyData.str) (by simp) (small1000 (by simp;omega)) (fun e => ∃ s,e=[s]) ⟨_,rfl⟩ ?_ ?_⟩
    ·rintro j y zs e hy hzs ⟨s,rfl⟩
     rw [List.getElem?_map] at hy
     cases ej:r[j]? with
     | none=>rw [ej] at hy;cases hy
     | some n =>
      rw [ej] at hy
      cases hy
      refine ⟨nT_log (nb r hr n (List.mem_of_getElem? ej)) (by decide),snoc_take ?_ hzs,_,rfl⟩
      rw [List.getElem?_map,List.getElem?_map,ej];rfl
    ·refine ⟨r.map nT,rfl,(inner r hr).1,snoc_take ?_ hys,_,rfl⟩
     rw [List.getElem?_map,List.getElem?_map,er];rfl
  refine ⟨Y.map fun r=>Txt.join (Str.ofString " ") (r.map nT),rfl,join_ok (B:=60000) (fun y hy=>?_) ?_,?_⟩
  ·obtain ⟨r,hr,rfl⟩:=List.mem_map.mp hy
   exact (inner r hr).2
  ·have e:(Str.ofString " | ").length=3:=rfl
   rw [List.length_map,e,← Nat.mul_add]
   exact Nat.le_trans (Nat.mul_le_mul_right _ y2) (by decide)
  rw [et]
  refine ⟨Y,rfl,⟨by omega,fun r hr=>⟨by rw [(hY r hr).1];exact a2,nb r hr⟩⟩,?_⟩
  refine ⟨py.ok,py.ok,iteZ (by rw [py.refl];rfl) ?_⟩
  refine ⟨Y,a,rfl,⟨y1,y2,a1,a2,hY⟩,?_⟩
  refine ⟨_,rfl,td_pays (by omega) fun r hr=>by rw [(hY r hr).1];exact a2,iteZ rfl ?_⟩
  clear hT hl hb b0 rn hD hl2 hc c0 dn nb inner py et hY y1 y2 a1 a2 en1 en2
  refine ⟨ns,40,rfl,⟨by decide,by decide,hlen⟩,fun c40=>?_⟩
  refine ⟨⟨by decide,by decide,by decide⟩,by decide,⟨by decide,by decide,by decide⟩,IntMulOk.of_left (by decide),?_⟩
  refine ⟨ns,41,rfl,⟨by decide,by decide,hlen⟩,fun c41=>?_⟩
  refine ⟨⟨by decide,by decide,by decide⟩,szl,ns,42,rfl,⟨by decide,by decide,hlen⟩,fun c42=>?_⟩
  obtain ⟨m,em,m1,m2⟩:=pick60 c42
  refine ⟨by decide,.int m,em,by omega,?_⟩
  obtain ⟨u1,u2,zu,zt,zT,zB,sx⟩:=last51 c40 c41 m1 m2
  exact ⟨⟨u2,zu⟩,_,_,rfl,⟨zT,zB⟩,_,_,rfl,⟨u1,bits_up zt.1 (by decide),zt.2⟩,sx.ok,sx.ok,congrArg PyData.bool sx.refl⟩
end
theorem us_s {α:Type}{n:Nat}{us:List α} (h:us.length=n+1) : ∃ a r,us=a::r∧r.length=n:=by
 cases us with
 | nil=>cases h
 | cons a r=>exact ⟨a,r,rfl,Nat.succ.inj h⟩
theorem us1 {α:Type}{us:List α} (h:us.length=1) : ∃ a0:α,us=[a0]:=by
 obtain ⟨a0,u0,rfl,h0⟩:=us_s h
 cases u0 with
 | nil=>exact ⟨a0,rfl⟩
 | cons _ _=>cases h0
theorem us2 {α:Type}{us:List α} (h:us.length=2) : ∃ a0 a1:α,us=[a0,a1]:=by
 obtain ⟨a0,u0,rfl,h0⟩:=us_s h
 obtain ⟨a1,u1,rfl,h1⟩:=us_s h0
 cases u1 with
 | nil=>exact ⟨a0,a1,rfl⟩
 | cons _ _=>cases h1
theorem us3 {α:Type}{us:List α} (h:us.length=3) : ∃ a0 a1 a2:α,us=[a0,a1,a2]:=by
 obtain ⟨a0,u0,rfl,h0⟩:=us_s h
 obtain ⟨a1,u1,rfl,h1⟩:=us_s h0
 obtain ⟨a2,u2,rfl,h2⟩:=us_s h1
 cases u2 with
 | nil=>exact ⟨a0,a1,a2,rfl⟩
 | cons _ _=>cases h2
theorem us4 {α:Type}{us:List α} (h:us.length=4) : ∃ a0 a1 a2 a3:α,us=[a0,a1,a2,a3]:=by
 obtain ⟨a0,u0,rfl,h0⟩:=us_s h
 obtain ⟨a1,u1,rfl,h1⟩:=us_s h0
 obtain ⟨a2,u2,rfl,h2⟩:=us_s h1
 obtain ⟨a3,u3,rfl,h3⟩:=us_s h2
 cases u3 with
 | nil=>exact ⟨a0,a1,a2,a3,rfl⟩
 | cons _ _=>cases h3
inductive LK (K:PySem.W.Frag) (x q:Str) (st:Stmt) (f:Addr):Prop
 | mk {oc kV dc pm cd ct:Value}{od an:Option Addr}{sl:Array (Option Value)} (l:K.lookup f=some ⟨oc,od,.func (PySem.W.fnOf x q (defArgs st) (defBody st) (defScope st) .none kV dc pm an cd ct),sl⟩) (c:PySem.W.codeIn K cd q=true) (k:PySem.W.keepIn K (.ref f)=true):LK K x q st f
theorem LK.fn {K:PySem.W.Frag}{x q:Str}{st:Stmt}{f:Addr} (h:LK K x q st f):(∃ fd,Fun K x q st f fd)∧PySem.W.keepIn K (.ref f)=true:=by
 cases h with
 | mk l c k=>exact ⟨⟨_,fun_mk l c k⟩,k⟩
inductive DK (K:PySem.W.Frag) (x:Str) (st:Stmt):Prop
 | mk {f:Addr} (a:PySem.W.nsIn K mainGlobals x=some (some (.ref f))) (l:LK K x x st f):DK K x st
theorem DK.df {K:PySem.W.Frag}{x:Str}{st:Stmt}{ps:List Str}{h:Heap}{mg:Str→Option Value} (d:DK K x st) (X:K.In h) (G:h.Ns mainGlobals mg)
 (hb : ∀ (kV doc pm:Value) (an:Option Addr) (cdv ct:Value) (us:List Value),us.length=ps.length→bindArgs (PySem.W.fnOf x x (defArgs st) (defBody st) (defScope st) .none kV doc pm an cdv ct) ⟨us,[]⟩=pure (ps.zip us):=by (intro _ _ _ _ _ _ us hl;first|(obtain ⟨_,rfl⟩:=us1 hl;rfl)|(obtain ⟨_,_,rfl⟩:=us2 hl;rfl)|(obtain ⟨_,_,_,rfl⟩:=us3 hl;rfl)|(obtain ⟨_,_,_,_,rfl⟩:=us4 hl;rfl))):Def K mg x st ps:=by
  cases d with
  | mk a l =>
   obtain ⟨⟨_,F⟩,_⟩:=l.fn
   exact ⟨_,_,F,PySem.W.mg_of X G a,F.binds hb⟩
theorem all_mk {l:PySem.W.OpenLaw}{w:World}{K:PySem.W.Frag}{h:Heap}{mg:Str→Option Value}{fa:Addr} (X:K.In h) (G:h.Ns mainGlobals mg) (hfa:mg "law" = some (.ref fa))
 (l0:DK K "is_whole" s_is_whole)
 (l1:DK K "divisor" s_divisor)
 (l2:DK K "reduced" s_reduced)
 (l3:DK K "share" s_share)
 (l4:DK K "makes_row" s_makes_row)
 (l5:DK K "makes_table" s_makes_table)
 (l6:DK K "common_divisor" s_common_divisor)
 (l7:DK K "divided" s_divided)
 (l8:DK K "lowest_table" s_lowest_table)
 (l9:DK K "glass_of" s_glass_of)
 (l10:DK K "dulling_of" s_dulling_of)
 (l11:DK K "show_share" s_show_share)
 (l12:DK K "show_row" s_show_row)
 (l13:DK K "laid_out" s_laid_out)
 (l14:DK K "show_glass" s_show_glass)
 (l15:DK K "show_payoffs" s_show_payoffs)
 (l16:DK K "is_table" s_is_table)
 (l17:DK K "is_glass" s_is_glass)
 (l18:DK K "over_bottom" s_over_bottom)
 (l19:DK K "table_of_shares" s_table_of_shares)
 (l20:DK K "words_in_rows" s_words_in_rows)
 (l21:DK K "is_made_of" s_is_made_of)
 (l22:DK K "is_number" s_is_number)
 (l23:DK K "read_share" s_read_share)
 (l24:DK K "read_table" s_read_table)
 (l25:DK K "read_glass" s_read_glass)
 (l26:DK K "is_dulling" s_is_dulling)
 (l27:DK K "read_dulling" s_read_dulling)
 (l28:DK K "read_payoff" s_read_payoff)
 (l29:DK K "read_payoffs" s_read_payoffs)
 (l30:DK K "_law_cell" s__law_cell)
 (l31:DK K "_law_drawn" s__law_drawn)
 (l32:DK K "_law_glass" s__law_glass)
 (l33:DK K "_law_divisor" s__law_divisor)
 (l34:DK K "_law_share_text" s__law_share_text)
 (l35:DK K "_law_text" s__law_text)
 (l36:DK K "_law_alike" s__law_alike)
 (l37:DK K "_law_payoffs" s__law_payoffs)
 {f38:Addr}{od38 an38:Option Addr}{sl38:Array (Option Value)}{oc38 kV38 dc38 pm38 cd38 ct38:Value}
 (a38:PySem.W.nsIn K mainGlobals "law" = some (some (.ref f38))) (l38:K.lookup f38=some ⟨oc38,od38,.func (PySem.W.fnOf "law" "law" (defArgs s_law) (defBody s_law) (defScope s_law) .none kV38 dc38 pm38 an38 cd38 ct38),sl38⟩) (c38:PySem.W.codeIn K cd38 "law" = true) (k38:PySem.W.keepIn K (.ref f38)=true)
 (z_abs:PySem.W.nsIn K mainGlobals "abs" = some none)
 (z_all:PySem.W.nsIn K mainGlobals "all" = some none)
 (z_bool:PySem.W.nsIn K mainGlobals "bool" = some none)
 (z_int:PySem.W.nsIn K mainGlobals "int" = some none)
 (z_isinstance:PySem.W.nsIn K mainGlobals "isinstance" = some none)
 (z_len:PySem.W.nsIn K mainGlobals "len" = some none)
 (z_list:PySem.W.nsIn K mainGlobals "list" = some none)
 (z_range:PySem.W.nsIn K mainGlobals "range" = some none)
 (z_sorted:PySem.W.nsIn K mainGlobals "sorted" = some none)
 (z_str:PySem.W.nsIn K mainGlobals "str" = some none)
 (z_sum:PySem.W.nsIn K mainGlobals "sum" = some none)
 (z_tuple:PySem.W.nsIn K mainGlobals "tuple" = some none)
 {t_FEWEST_STANDS:Tok} (y_FEWEST_STANDS:PySem.W.nsIn K mainGlobals "FEWEST_STANDS" = some (some (.int 2 t_FEWEST_STANDS)))
 {t_FIGURES:Tok} (y_FIGURES:PySem.W.nsIn K mainGlobals "FIGURES" = some (some (.str "0123456789" t_FIGURES)))
 {t_MOST_ACTS:Tok} (y_MOST_ACTS:PySem.W.nsIn K mainGlobals "MOST_ACTS" = some (some (.int 12 t_MOST_ACTS)))
 {t_MOST_BOTTOM:Tok} (y_MOST_BOTTOM:PySem.W.nsIn K mainGlobals "MOST_BOTTOM" = some (some (.int 999999 t_MOST_BOTTOM)))
 {t_MOST_FIGURES:Tok} (y_MOST_FIGURES:PySem.W.nsIn K mainGlobals "MOST_FIGURES" = some (some (.int 6 t_MOST_FIGURES)))
 {t_MOST_PAYOFF:Tok} (y_MOST_PAYOFF:PySem.W.nsIn K mainGlobals "MOST_PAYOFF" = some (some (.int 1000000 t_MOST_PAYOFF)))
 {t_MOST_PAYOFF_FIGURES:Tok} (y_MOST_PAYOFF_FIGURES:PySem.W.nsIn K mainGlobals "MOST_PAYOFF_FIGURES" = some (some (.int 7 t_MOST_PAYOFF_FIGURES)))
 {t_MOST_SIGNS:Tok} (y_MOST_SIGNS:PySem.W.nsIn K mainGlobals "MOST_SIGNS" = some (some (.int 12 t_MOST_SIGNS)))
 {t_MOST_STANDS:Tok} (y_MOST_STANDS:PySem.W.nsIn K mainGlobals "MOST_STANDS" = some (some (.int 4 t_MOST_STANDS)))
 : ∃ fd:FuncData,(∀ (s:Shared) (v:Value),BindsTo s fd ⟨[v],[]⟩ [("_law_script",v)]) ∧ ∀ base:Heap,K.In base→base.Ns mainGlobals mg→FnOk l.prog w K mg base CX0 7 fa fd ["_law_script"] (spLaw K):=by
  have e:=hfa.symm.trans (PySem.W.mg_of X G a38)
  cases e
  have T:Txt mg:=⟨PySem.W.mg_none_of X G z_abs,PySem.W.mg_none_of X G z_all,PySem.W.mg_none_of X G z_bool,PySem.W.mg_none_of X G z_int,PySem.W.mg_none_of X G z_isinstance,PySem.W.mg_none_of X G z_len,PySem.W.mg_none_of X G z_list,PySem.W.mg_none_of X G z_range,PySem.W.mg_none_of X G z_sorted,PySem.W.mg_none_of X G z_str,PySem.W.mg_none_of X G z_sum,PySem.W.mg_none_of X G z_tuple,⟨_,PySem.W.mg_of X G y_FEWEST_STANDS⟩,⟨_,PySem.W.mg_of X G y_FIGURES⟩,⟨_,PySem.W.mg_of X G y_MOST_ACTS⟩,⟨_,PySem.W.mg_of X G y_MOST_BOTTOM⟩,⟨_,PySem.W.mg_of X G y_MOST_FIGURES⟩,⟨_,PySem.W.mg_of X G y_MOST_PAYOFF⟩,⟨_,PySem.W.mg_of X G y_MOST_PAYOFF_FIGURES⟩,⟨_,PySem.W.mg_of X G y_MOST_SIGNS⟩,⟨_,PySem.W.mg_of X G y_MOST_STANDS⟩⟩
  have D0:Def K mg "is_whole" s_is_whole ["thing"]:=l0.df X G
  have D1:Def K mg "divisor" s_divisor ["one","other"]:=l1.df X G
  have D2:Def K mg "reduced" s_reduced ["top","bottom"]:=l2.df X G
  have D3:Def K mg "share" s_share ["top","bottom"]:=l3.df X G
  have D4:Def K mg "makes_row" s_makes_row ["row","bottom"]:=l4.df X G
  have D5:Def K mg "makes_table" s_makes_table ["bottom","rows","fewest","most"]:=l5.df X G
  have D6:Def K mg "common_divisor" s_common_divisor ["rows"]:=l6.df X G
  have D7:Def K mg "divided" s_divided ["row","common"]:=l7.df X G
  have D8:Def K mg "lowest_table" s_lowest_table ["bottom","rows"]:=l8.df X G
  have D9:Def K mg "glass_of" s_glass_of ["bottom","rows"]:=l9.df X G
  have D10:Def K mg "dulling_of" s_dulling_of ["bottom","rows"]:=l10.df X G
  have D11:Def K mg "show_share" s_show_share ["one"]:=l11.df X G
  have D12:Def K mg "show_row" s_show_row ["row","bottom"]:=l12.df X G
  have D13:Def K mg "laid_out" s_laid_out ["rows"]:=l13.df X G
  have D14:Def K mg "show_glass" s_show_glass ["glass"]:=l14.df X G
  have D15:Def K mg "show_payoffs" s_show_payoffs ["payoffs"]:=l15.df X G
  have D16:Def K mg "is_table" s_is_table ["thing","fewest","most"]:=l16.df X G
  have D17:Def K mg "is_glass" s_is_glass ["thing"]:=l17.df X G
  have D18:Def K mg "over_bottom" s_over_bottom ["row","bottom"]:=l18.df X G
  have D19:Def K mg "table_of_shares" s_table_of_shares ["rows"]:=l19.df X G
  have D20:Def K mg "words_in_rows" s_words_in_rows ["text"]:=l20.df X G
  have D21:Def K mg "is_made_of" s_is_made_of ["word","letters"]:=l21.df X G
  have D22:Def K mg "is_number" s_is_number ["word","most"]:=l22.df X G
  have D23:Def K mg "read_share" s_read_share ["word"]:=l23.df X G
  have D24:Def K mg "read_table" s_read_table ["text"]:=l24.df X G
  have D25:Def K mg "read_glass" s_read_glass ["text"]:=l25.df X G
  have D26:Def K mg "is_dulling" s_is_dulling ["thing"]:=l26.df X G
  have D27:Def K mg "read_dulling" s_read_dulling ["text"]:=l27.df X G
  have D28:Def K mg "read_payoff" s_read_payoff ["word"]:=l28.df X G
  have D29:Def K mg "read_payoffs" s_read_payoffs ["text"]:=l29.df X G
  have D30:Def K mg "_law_cell" s__law_cell ["_law_script","_law_k"]:=l30.df X G
  have D31:Def K mg "_law_drawn" s__law_drawn ["_law_cell_here","_law_base","_law_many"]:=l31.df X G
  have D32:Def K mg "_law_glass" s__law_glass ["_law_script","_law_at","_law_world","_law_many"]:=l32.df X G
  have D33:Def K mg "_law_divisor" s__law_divisor ["_law_one","_law_other"]:=l33.df X G
  have D34:Def K mg "_law_share_text" s__law_share_text ["_law_top","_law_bottom"]:=l34.df X G
  have D35:Def K mg "_law_text" s__law_text ["_law_bottom","_law_rows"]:=l35.df X G
  have D36:Def K mg "_law_alike" s__law_alike ["_law_found","_law_due"]:=l36.df X G
  have D37:Def K mg "_law_payoffs" s__law_payoffs ["_law_script"]:=l37.df X G
  have F38:=fun_mk (st:=s_law) l38 c38 k38
  refine ⟨PySem.W.fnOf "law" "law" (defArgs s_law) (defBody s_law) (defScope s_law) .none kV38 dc38 pm38 an38 cd38 ct38,fun s v => .of_eq rfl,fun base KB _=>?_⟩
  have O0:=ok_is_whole (P:=l.prog) (w:=w) (base:=base) D0 T
  have O1:=ok_divisor (P:=l.prog) (w:=w) (base:=base) D1 T
  have O2:=ok_reduced D2 T O1
  have O3:=ok_share D3 T O0 O2
  have O4:=ok_makes_row D4 T O0
  have O5:=ok_makes_table D5 T O0 O4
  have O6:=ok_common_divisor D6 T O1
  have O7:=ok_divided (P:=l.prog) (w:=w) (base:=base) D7 T
  have O8:=ok_lowest_table D8 T O6 O7
  have O9:=ok_glass_of D9 T O5 O8
  have O10:=ok_dulling_of D10 T O5 O8
  have O11:=ok_show_share (P:=l.prog) (w:=w) (base:=base) D11 T
  have O12:=ok_show_row D12 T O3 O11
  have O13:=ok_laid_out (P:=l.prog) (w:=w) (base:=base) D13 T
  have O14:=ok_show_glass D14 T O12 O13
  have O15:=ok_show_payoffs D15 T O13
  have O16:=ok_is_table D16 T O5 O6
  have O17:=ok_is_glass D17 T O16
  have O18:=ok_over_bottom (P:=l.prog) (w:=w) (base:=base) D18 T
  have O19:=ok_table_of_shares D19 T O1 O18
  have O20:=ok_words_in_rows (P:=l.prog) (w:=w) (base:=base) D20 T
  have O21:=ok_is_made_of (P:=l.prog) (w:=w) (base:=base) D21 T
  have O22:=ok_is_number D22 T O21
  have O23:=ok_read_share D23 T O3 O11 O22
  have O24:=ok_read_table D24 T O19 O20 O23
  have O25:=ok_read_glass D25 T O17 O24
  have O26:=ok_is_dulling D26 T O16
  have O27:=ok_read_dulling D27 T O24 O26
  have O28:=ok_read_payoff D28 T O22
  have O29:=ok_read_payoffs D29 T O20 O28
  have O30:=ok__law_cell (P:=l.prog) (w:=w) (base:=base) D30 T
  have O31:=ok__law_drawn (P:=l.prog) (w:=w) (base:=base) D31 T
  have O32:=ok__law_glass D32 T O30 O31
  have O33:=ok__law_divisor (P:=l.prog) (w:=w) (base:=base) D33 T
  have O34:=ok__law_share_text D34 T O33
  have O35:=ok__law_text D35 T O34
  have O36:=ok__law_alike (P:=l.prog) (w:=w) (base:=base) D36 T
  have O37:=ok__law_payoffs D37 T O30 O31
  exact law_fn (P:=l.prog) (w:=w) (K:=K) (mg:=mg) (base:=base) F38 T O3 O9 O10 O11 O14 O15 O25 O27 O29 O30 O32 O34 O35 O36 O37
theorem walk {l:PySem.W.OpenLaw}{q:Program}{loose:List Str}{XP:(Str→Option Value)→Heap→Prop}{YP:World→Heap→Prop}{d:DefRec}{K:Params→PySem.W.Frag} (hn:l.most=some 63) (hdf:d.params.defaults=[])
 (hY : ∀ (w:World) (h:Heap),YP w h→(K w.params).In h)
 (F : ∀ (w:World) (mg:Str→Option Value) (fa:Addr) (h:Heap),(K w.params).In h→h.Ns mainGlobals mg→mg d.name=some (.ref fa) →
 ∃ fd:FuncData,(∀ (s:Shared) (u:Value),BindsTo s fd ⟨[u],[]⟩ [("_law_script",u)]) ∧ ∀ base:Heap,(K w.params).In base→base.Ns mainGlobals mg→FnOk l.prog w (K w.params) mg base CX0 7 fa fd ["_law_script"] (spLaw (K w.params))) :
 PySem.W.WalkO q loose XP YP l.row.toRowW d [] (fun f vs=>PySem.call f vs) :=
  L2.walk_of (n:=63) (k:=7) (x := "_law_script") (CX:=fun _=>CX0) (sp:=fun w=>spLaw (K w.params)) hn (by decide) hdf ⟨rfl,by decide,by decide⟩ hY F (fun _ _ a ns hl _ hS=>⟨a,ns,rfl,hS,hl,fun _=>rfl⟩) fun _ _ _ _ _ z=>z
noncomputable section
open PySem PySem.W PySem.Calls PyProof.Rows
abbrev N0:=BT.node
abbrev nl0:=BT.nil
def en0 (P:Params) (x:Str) (t:Nat) (v:Value):DictEntry:=⟨PyData.keyHash P x,.str x t,v⟩
def tu0 (vs:List Value):Obj:=⟨.type "tuple",none,.seq vs.toArray 0,#[]⟩
def em0:Obj:=⟨.none,none,.fields #[],#[]⟩
def fo0 (n q:Str) (s:Stmt) (pm:Value) (c:Nat):Obj:=⟨.type "function",none,.func (PySem.W.fnOf n q (L2.defArgs s) (L2.defBody s) (L2.defScope s) .none .none .none pm none (.ref c) .none),#[]⟩
def pr0 (n q:Str) (s:Stmt):Obj:=⟨.none,none,.func ⟨n,q,L2.defArgs s,.stmts (L2.defBody s),L2.defScope s,0,[],.none,.none,.none,.none,none,.none,.none,0⟩,#[]⟩
def co0 (n q:Str) (t:Nat) (l ac fl:Int) (a:Nat) (b:Bool) (x y z:Value) (u:Nat):Obj:=⟨.type "code",none,.fields #[.str n t,.str q (t+1),.str "/claim/cut.py" (t+2),.int l 0,.int ac 0,.int 0 0,.int 0 0,.int fl 0,.ref a,.bool b,.int 181 0,.ref (a+1),.none,x,y,z,.int u 0,.int l 0,.str "/claim/cut.py" (u+1)],#[]⟩
def co1 (n:Str) (t:Nat) (l ac fl:Int) (a:Nat) (b:Bool) (u:Nat):Obj:=co0 n n t l ac fl a b (.ref (a+2)) (.ref (a+3)) (.ref (a+4)) u
def fo1 (n:Str) (s:Nat) (pm:Value) (c:Nat):Obj:=fo0 n n (top s) pm c
lay_quick PySem.Challenge.pw_dullglass_k51_glasses_written
def env0:Env:={ scope:=PySem.Challenge.pw_dullglass_k51_glasses_written.main.scope,locals:=mainNs,globals:=mainNs,cells:=[],code:=(.ref 13),frame:=some 14 }
def cE0:Code :=.body (behindTheImports PySem.Challenge.pw_dullglass_k51_glasses_written) env0
def ls0:List Str:=[Str.ofString "GlassError",Str.ofString "NoShare",Str.ofString "NoGlass",Str.ofString "NoDulling",Str.ofString "NoText",Str.ofString "is_whole",Str.ofString "divisor",Str.ofString "share",Str.ofString "reduced",Str.ofString "FEWEST_STANDS",Str.ofString "MOST_STANDS",Str.ofString "MOST_SIGNS",Str.ofString "glass_of",Str.ofString "dulling_of",Str.ofString "is_glass",Str.ofString "is_dulling",Str.ofString "makes_table",Str.ofString "makes_row",Str.ofString "is_table",Str.ofString "common_divisor",Str.ofString "lowest_table",Str.ofString "divided",Str.ofString "table_of_shares",Str.ofString "over_bottom",Str.ofString "FIGURES",Str.ofString "MOST_FIGURES",Str.ofString "MOST_BOTTOM",Str.ofString "MOST_PAYOFF",Str.ofString "MOST_PAYOFF_FIGURES",Str.ofString "MOST_ACTS",Str.ofString "show_share",Str.ofString "show_glass",Str.ofString "show_row",Str.ofString "show_payoffs",Str.ofString "laid_out",Str.ofString "read_glass",Str.ofString "read_dulling",Str.ofString "read_table",Str.ofString "words_in_rows",Str.ofString "read_share",Str.ofString "is_number",Str.ofString "is_made_of",Str.ofString "read_payoffs",Str.ofString "read_payoff",Str.ofString "_law_cell",Str.ofString "_law_drawn",Str.ofString "_law_glass",Str.ofString "_law_divisor",Str.ofString "_law_share_text",Str.ofString "_law_text",Str.ofString "_law_alike",Str.ofString "_law_payoffs"]
def lf0:Life:=⟨[],[],[],0,[],[],false,#[],[],0,false,false,false,0,[2000,10,10],false,0,true,[],[],0,false⟩
def o13a:Obj:=co0 "<module>" "<module>" 182 1 0 0 11 false .none .none .none 185
def o14a:Obj:=⟨(.type "frame"),none,.plain,#[(some (.ref 13)),(some (.ref 3)),(some (.ref 3)),none,(some (.str "__main__" 164)),none,(some (.ref 0))]⟩
def o3 (P:Params):Obj:=⟨(.type "dict"),none,(.dict #[en0 P "__name__" 165 (.str "law_dullglass_k51_glasses_written" 510),en0 P "__doc__" 166 .none,en0 P "__package__" 167 .none,en0 P "__loader__" 168 (.builtin "__main__.__loader__#opaque"),en0 P "__spec__" 169 .none,en0 P "__annotations__" 170 (.ref 6),en0 P "__builtins__" 171 (.ref 4),en0 P "__file__" 173 (.str "/claim/cut.py" 172),en0 P "__cached__" 174 .none,en0 P "GlassError" 206 (.ref 24),en0 P "NoShare" 222 (.ref 37),en0 P "NoGlass" 238 (.ref 49),en0 P "NoDulling" 254 (.ref 61),en0 P "NoText" 270 (.ref 73),en0 P "is_whole" 279 (.ref 82),en0 P "divisor" 288 (.ref 89),en0 P "share" 296 (.ref 96),en0 P "reduced" 305 (.ref 103),en0 P "FEWEST_STANDS" 309 (.int (2) 308),en0 P "MOST_STANDS" 311 (.int (4) 310),en0 P "MOST_SIGNS" 313 (.int (12) 312),en0 P "glass_of" 321 (.ref 110),en0 P "dulling_of" 329 (.ref 117),en0 P "is_glass" 336 (.ref 124),en0 P "is_dulling" 343 (.ref 131),en0 P "makes_table" 349 (.ref 136),en0 P "makes_row" 355 (.ref 141),en0 P "is_table" 361 (.ref 146),en0 P "common_divisor" 371 (.ref 153),en0 P "lowest_table" 377 (.ref 158),en0 P "divided" 383 (.ref 163),en0 P "table_of_shares" 389 (.ref 168),en0 P "over_bottom" 395 (.ref 173),en0 P "FIGURES" 399 (.str "0123456789" 398),en0 P "MOST_FIGURES" 401 (.int (6) 400),en0 P "MOST_BOTTOM" 403 (.int (999999) 402),en0 P "MOST_PAYOFF" 405 (.int (1000000) 404),en0 P "MOST_PAYOFF_FIGURES" 407 (.int (7) 406),en0 P "MOST_ACTS" 409 (.int (12) 408),en0 P "show_share" 418 (.ref 180),en0 P "show_glass" 424 (.ref 185),en0 P "show_row" 430 (.ref 190),en0 P "show_payoffs" 436 (.ref 195),en0 P "laid_out" 442 (.ref 200),en0 P "read_glass" 450 (.ref 207),en0 P "read_dulling" 458 (.ref 214),en0 P "read_table" 464 (.ref 219),en0 P "words_in_rows" 470 (.ref 224),en0 P "read_share" 481 (.ref 231),en0 P "is_number" 490 (.ref 238),en0 P "is_made_of" 496 (.ref 243),en0 P "read_payoffs" 502 (.ref 248),en0 P "read_payoff" 509 (.ref 255),en0 P "_law_cell" 519 (.ref 262),en0 P "_law_drawn" 532 (.ref 269),en0 P "_law_glass" 538 (.ref 274),en0 P "_law_divisor" 546 (.ref 281),en0 P "_law_share_text" 555 (.ref 288),en0 P "_law_text" 561 (.ref 293),en0 P "_law_alike" 570 (.ref 300),en0 P "_law_payoffs" 576 (.ref 305),en0 P "law" 582 (.ref 310)] 62),#[]⟩
def o12:Obj:=⟨.none,none,(.fields #[(.int (2) 0),(.int (0) 0),(.ref 20),(.int (4) 0),(.int (0) 0),(.ref 33),(.int (6) 0),(.int (0) 0),(.ref 45),(.int (8) 0),(.int (0) 0),(.ref 57),(.int (10) 0),(.int (0) 0),(.ref 69),(.int (13) 0),(.int (0) 0),(.ref 81),(.int (15) 0),(.int (0) 0),(.ref 88),(.int (23) 0),(.int (0) 0),(.ref 95),(.int (27) 0),(.int (0) 0),(.ref 102),(.int (36) 0),(.int (0) 0),(.ref 109),(.int (40) 0),(.int (0) 0),(.ref 116),(.int (44) 0),(.int (0) 0),(.ref 123),(.int (46) 0),(.int (0) 0),(.ref 130),(.int (48) 0),(.int (0) 0),(.ref 135),(.int (56) 0),(.int (0) 0),(.ref 140),(.int (60) 0),(.int (0) 0),(.ref 145),(.int (69) 0),(.int (0) 0),(.ref 152),(.int (75) 0),(.int (0) 0),(.ref 157),(.int (78) 0),(.int (0) 0),(.ref 162),(.int (80) 0),(.int (0) 0),(.ref 167),(.int (86) 0),(.int (0) 0),(.ref 172),(.int (95) 0),(.int (0) 0),(.ref 179),(.int (99) 0),(.int (0) 0),(.ref 184),(.int (101) 0),(.int (0) 0),(.ref 189),(.int (103) 0),(.int (0) 0),(.ref 194),(.int (105) 0),(.int (0) 0),(.ref 199),(.int (107) 0),(.int (0) 0),(.ref 206),(.int (112) 0),(.int (0) 0),(.ref 213),(.int (117) 0),(.int (0) 0),(.ref 218),(.int (122) 0),(.int (0) 0),(.ref 223),(.int (126) 0),(.int (0) 0),(.ref 230),(.int (136) 0),(.int (0) 0),(.ref 237),(.int (141) 0),(.int (0) 0),(.ref 242),(.int (143) 0),(.int (0) 0),(.ref 247),(.int (150) 0),(.int (0) 0),(.ref 254),(.int (155) 0),(.int (0) 0),(.ref 261),(.int (161) 0),(.int (0) 0),(.ref 268),(.int (173) 0),(.int (0) 0),(.ref 273),(.int (184) 0),(.int (0) 0),(.ref 280),(.int (188) 0),(.int (0) 0),(.ref 287),(.int (193) 0),(.int (0) 0),(.ref 292),(.int (195) 0),(.int (0) 0),(.ref 299),(.int (204) 0),(.int (0) 0),(.ref 304),(.int (213) 0),(.int (0) 0),(.ref 309)]),#[]⟩
def o16:Obj:=⟨(.type "builtin_function_or_method"),none,(.fields #[(.builtin "type.__prepare__"),(.type "type")]),#[]⟩
def o17 (P:Params):Obj:=⟨(.type "dict"),none,(.dict #[en0 P "__module__" 196 (.str "dullglass.errors" 187),en0 P "__qualname__" 198 (.str "GlassError" 197),en0 P "__firstlineno__" 200 (.int (2) 199),en0 P "__static_attributes__" 201 (.ref 22)] 4),#[]⟩
def o20:Obj:=co0 "GlassError" "GlassError" 191 2 0 0 18 false .none .none .none 194
def o21:Obj:=⟨(.type "frame"),none,.plain,#[(some (.ref 20)),(some (.ref 3)),(some (.ref 17)),none,(some (.str "dullglass.errors" 187)),none,(some (.ref 0))]⟩
def o23 (P:Params):Obj:=⟨(.type "dict"),none,(.dict #[en0 P "__module__" 196 (.str "dullglass.errors" 187),en0 P "__firstlineno__" 200 (.int (2) 199),en0 P "__static_attributes__" 201 (.ref 22),en0 P "__weakref__" 203 (.ref 25),en0 P "__doc__" 204 .none] 3),#[]⟩
def o24:Obj:=⟨(.type "type"),none,(.cls ⟨"GlassError",[(.type "ValueError")],[(.ref 24),(.type "ValueError"),(.type "Exception"),(.type "BaseException"),(.type "object")],23,"GlassError",true,[],[(.ref 37),(.ref 49),(.ref 61),(.ref 73)],false,none,false⟩),#[(some (.ref 15)),none,(some (.str "GlassError" 189)),(some (.str "GlassError" 197)),(some (.builtin "ValueError.__new__")),(some (.bool true))]⟩
def o25:Obj:=⟨(.type "getset_descriptor"),none,(.fields #[(.str "__weakref__" 202),(.ref 24),(.builtin "ExceptionGroup.__weakref__"),.none]),#[]⟩
def o26:Obj:=⟨(.type "super"),none,(.fields #[(.ref 24),(.ref 24),(.ref 24)]),#[]⟩
def o27:Obj:=⟨(.type "builtin_function_or_method"),none,(.fields #[(.builtin "object.__init_subclass__"),(.ref 24)]),#[]⟩
def o29:Obj:=⟨(.type "builtin_function_or_method"),none,(.fields #[(.builtin "type.__prepare__"),(.type "type")]),#[]⟩
def o30 (P:Params):Obj:=⟨(.type "dict"),none,(.dict #[en0 P "__module__" 214 (.str "dullglass.errors" 187),en0 P "__qualname__" 216 (.str "NoShare" 215),en0 P "__firstlineno__" 218 (.int (4) 217),en0 P "__static_attributes__" 219 (.ref 35)] 4),#[]⟩
def o33:Obj:=co0 "NoShare" "NoShare" 209 4 0 0 31 false .none .none .none 212
def o34:Obj:=⟨(.type "frame"),none,.plain,#[(some (.ref 33)),(some (.ref 3)),(some (.ref 30)),none,(some (.str "dullglass.errors" 187)),none,(some (.ref 0))]⟩
def o36 (P:Params):Obj:=⟨(.type "dict"),none,(.dict #[en0 P "__module__" 214 (.str "dullglass.errors" 187),en0 P "__firstlineno__" 218 (.int (4) 217),en0 P "__static_attributes__" 219 (.ref 35),en0 P "__doc__" 220 .none] 2),#[]⟩
def o37:Obj:=⟨(.type "type"),none,(.cls ⟨"NoShare",[(.ref 24)],[(.ref 37),(.ref 24),(.type "ValueError"),(.type "Exception"),(.type "BaseException"),(.type "object")],36,"NoShare",true,[],[],false,none,false⟩),#[(some (.ref 28)),none,(some (.str "NoShare" 207)),(some (.str "NoShare" 215)),(some (.builtin "ValueError.__new__")),(some (.bool true))]⟩
def o38:Obj:=⟨(.type "super"),none,(.fields #[(.ref 37),(.ref 37),(.ref 37)]),#[]⟩
def o39:Obj:=⟨(.type "builtin_function_or_method"),none,(.fields #[(.builtin "object.__init_subclass__"),(.ref 37)]),#[]⟩
def o41:Obj:=⟨(.type "builtin_function_or_method"),none,(.fields #[(.builtin "type.__prepare__"),(.type "type")]),#[]⟩
def o42 (P:Params):Obj:=⟨(.type "dict"),none,(.dict #[en0 P "__module__" 230 (.str "dullglass.errors" 187),en0 P "__qualname__" 232 (.str "NoGlass" 231),en0 P "__firstlineno__" 234 (.int (6) 233),en0 P "__static_attributes__" 235 (.ref 47)] 4),#[]⟩
def o45:Obj:=co0 "NoGlass" "NoGlass" 225 6 0 0 43 false .none .none .none 228
def o46:Obj:=⟨(.type "frame"),none,.plain,#[(some (.ref 45)),(some (.ref 3)),(some (.ref 42)),none,(some (.str "dullglass.errors" 187)),none,(some (.ref 0))]⟩
def o48 (P:Params):Obj:=⟨(.type "dict"),none,(.dict #[en0 P "__module__" 230 (.str "dullglass.errors" 187),en0 P "__firstlineno__" 234 (.int (6) 233),en0 P "__static_attributes__" 235 (.ref 47),en0 P "__doc__" 236 .none] 2),#[]⟩
def o49:Obj:=⟨(.type "type"),none,(.cls ⟨"NoGlass",[(.ref 24)],[(.ref 49),(.ref 24),(.type "ValueError"),(.type "Exception"),(.type "BaseException"),(.type "object")],48,"NoGlass",true,[],[],false,none,false⟩),#[(some (.ref 40)),none,(some (.str "NoGlass" 223)),(some (.str "NoGlass" 231)),(some (.builtin "ValueError.__new__")),(some (.bool true))]⟩
def o50:Obj:=⟨(.type "super"),none,(.fields #[(.ref 49),(.ref 49),(.ref 49)]),#[]⟩
def o51:Obj:=⟨(.type "builtin_function_or_method"),none,(.fields #[(.builtin "object.__init_subclass__"),(.ref 49)]),#[]⟩
def o53:Obj:=⟨(.type "builtin_function_or_method"),none,(.fields #[(.builtin "type.__prepare__"),(.type "type")]),#[]⟩
def o54 (P:Params):Obj:=⟨(.type "dict"),none,(.dict #[en0 P "__module__" 246 (.str "dullglass.errors" 187),en0 P "__qualname__" 248 (.str "NoDulling" 247),en0 P "__firstlineno__" 250 (.int (8) 249),en0 P "__static_attributes__" 251 (.ref 59)] 4),#[]⟩
def o57:Obj:=co0 "NoDulling" "NoDulling" 241 8 0 0 55 false .none .none .none 244
def o58:Obj:=⟨(.type "frame"),none,.plain,#[(some (.ref 57)),(some (.ref 3)),(some (.ref 54)),none,(some (.str "dullglass.errors" 187)),none,(some (.ref 0))]⟩
def o60 (P:Params):Obj:=⟨(.type "dict"),none,(.dict #[en0 P "__module__" 246 (.str "dullglass.errors" 187),en0 P "__firstlineno__" 250 (.int (8) 249),en0 P "__static_attributes__" 251 (.ref 59),en0 P "__doc__" 252 .none] 2),#[]⟩
def o61:Obj:=⟨(.type "type"),none,(.cls ⟨"NoDulling",[(.ref 24)],[(.ref 61),(.ref 24),(.type "ValueError"),(.type "Exception"),(.type "BaseException"),(.type "object")],60,"NoDulling",true,[],[],false,none,false⟩),#[(some (.ref 52)),none,(some (.str "NoDulling" 239)),(some (.str "NoDulling" 247)),(some (.builtin "ValueError.__new__")),(some (.bool true))]⟩
def o62:Obj:=⟨(.type "super"),none,(.fields #[(.ref 61),(.ref 61),(.ref 61)]),#[]⟩
def o63:Obj:=⟨(.type "builtin_function_or_method"),none,(.fields #[(.builtin "object.__init_subclass__"),(.ref 61)]),#[]⟩
def o65:Obj:=⟨(.type "builtin_function_or_method"),none,(.fields #[(.builtin "type.__prepare__"),(.type "type")]),#[]⟩
def o66 (P:Params):Obj:=⟨(.type "dict"),none,(.dict #[en0 P "__module__" 262 (.str "dullglass.errors" 187),en0 P "__qualname__" 264 (.str "NoText" 263),en0 P "__firstlineno__" 266 (.int (10) 265),en0 P "__static_attributes__" 267 (.ref 71)] 4),#[]⟩
def o69:Obj:=co0 "NoText" "NoText" 257 10 0 0 67 false .none .none .none 260
def o70:Obj:=⟨(.type "frame"),none,.plain,#[(some (.ref 69)),(some (.ref 3)),(some (.ref 66)),none,(some (.str "dullglass.errors" 187)),none,(some (.ref 0))]⟩
def o72 (P:Params):Obj:=⟨(.type "dict"),none,(.dict #[en0 P "__module__" 262 (.str "dullglass.errors" 187),en0 P "__firstlineno__" 266 (.int (10) 265),en0 P "__static_attributes__" 267 (.ref 71),en0 P "__doc__" 268 .none] 2),#[]⟩
def o73:Obj:=⟨(.type "type"),none,(.cls ⟨"NoText",[(.ref 24)],[(.ref 73),(.ref 24),(.type "ValueError"),(.type "Exception"),(.type "BaseException"),(.type "object")],72,"NoText",true,[],[],false,none,false⟩),#[(some (.ref 64)),none,(some (.str "NoText" 255)),(some (.str "NoText" 263)),(some (.builtin "ValueError.__new__")),(some (.bool true))]⟩
def o74:Obj:=⟨(.type "super"),none,(.fields #[(.ref 73),(.ref 73),(.ref 73)]),#[]⟩
def o75:Obj:=⟨(.type "builtin_function_or_method"),none,(.fields #[(.builtin "object.__init_subclass__"),(.ref 73)]),#[]⟩
def o81:Obj:=co1 "is_whole" 273 13 1 3 76 true 277
def o82:Obj:=fo1 "is_whole" 7 (.str "dullglass.shares" 271) 81
def o88:Obj:=co1 "divisor" 280 15 2 3 83 true 286
def o89:Obj:=fo1 "divisor" 8 (.str "dullglass.shares" 271) 88
def o95:Obj:=co1 "share" 289 23 2 3 90 true 294
def o96:Obj:=fo1 "share" 9 (.str "dullglass.shares" 271) 95
def o102:Obj:=co1 "reduced" 297 27 2 3 97 true 303
def o103:Obj:=fo1 "reduced" 10 (.str "dullglass.shares" 271) 102
def o109:Obj:=co1 "glass_of" 314 36 2 3 104 true 319
def o110:Obj:=fo1 "glass_of" 15 (.str "dullglass.glasses" 306) 109
def o116:Obj:=co1 "dulling_of" 322 40 2 3 111 true 327
def o117:Obj:=fo1 "dulling_of" 16 (.str "dullglass.glasses" 306) 116
def o123:Obj:=co1 "is_glass" 330 44 1 3 118 true 334
def o124:Obj:=fo1 "is_glass" 17 (.str "dullglass.glasses" 306) 123
def o130:Obj:=co1 "is_dulling" 337 46 1 3 125 true 341
def o131:Obj:=fo1 "is_dulling" 18 (.str "dullglass.glasses" 306) 130
def o135:Obj:=co0 "makes_table" "makes_table" 344 48 4 3 132 true .none .none (.ref 134) 347
def o136:Obj:=fo1 "makes_table" 19 (.str "dullglass.glasses" 306) 135
def o140:Obj:=co0 "makes_row" "makes_row" 350 56 2 3 137 true .none .none (.ref 139) 353
def o141:Obj:=fo1 "makes_row" 20 (.str "dullglass.glasses" 306) 140
def o145:Obj:=co0 "is_table" "is_table" 356 60 3 3 142 true .none .none (.ref 144) 359
def o146:Obj:=fo1 "is_table" 21 (.str "dullglass.glasses" 306) 145
def o152:Obj:=co1 "common_divisor" 362 69 1 3 147 true 369
def o153:Obj:=fo1 "common_divisor" 22 (.str "dullglass.glasses" 306) 152
def o157:Obj:=co0 "lowest_table" "lowest_table" 372 75 2 3 154 true .none .none (.ref 156) 375
def o158:Obj:=fo1 "lowest_table" 23 (.str "dullglass.glasses" 306) 157
def o162:Obj:=co0 "divided" "divided" 378 78 2 3 159 true .none .none (.ref 161) 381
def o163:Obj:=fo1 "divided" 24 (.str "dullglass.glasses" 306) 162
def o167:Obj:=co0 "table_of_shares" "table_of_shares" 384 80 1 3 164 true .none .none (.ref 166) 387
def o168:Obj:=fo1 "table_of_shares" 25 (.str "dullglass.glasses" 306) 167
def o172:Obj:=co0 "over_bottom" "over_bottom" 390 86 2 3 169 true .none .none (.ref 171) 393
def o173:Obj:=fo1 "over_bottom" 26 (.str "dullglass.glasses" 306) 172
def o179:Obj:=co1 "show_share" 410 95 1 3 174 true 416
def o180:Obj:=fo1 "show_share" 34 (.str "dullglass.texts" 396) 179
def o184:Obj:=co0 "show_glass" "show_glass" 419 99 1 3 181 true .none .none (.ref 183) 422
def o185:Obj:=fo1 "show_glass" 35 (.str "dullglass.texts" 396) 184
def o189:Obj:=co0 "show_row" "show_row" 425 101 2 3 186 true .none .none (.ref 188) 428
def o190:Obj:=fo1 "show_row" 36 (.str "dullglass.texts" 396) 189
def o194:Obj:=co0 "show_payoffs" "show_payoffs" 431 103 1 3 191 true .none .none (.ref 193) 434
def o195:Obj:=fo1 "show_payoffs" 37 (.str "dullglass.texts" 396) 194
def o199:Obj:=co0 "laid_out" "laid_out" 437 105 1 3 196 true .none .none (.ref 198) 440
def o200:Obj:=fo1 "laid_out" 38 (.str "dullglass.texts" 396) 199
def o206:Obj:=co1 "read_glass" 443 107 1 3 201 true 448
def o207:Obj:=fo1 "read_glass" 39 (.str "dullglass.texts" 396) 206
def o213:Obj:=co1 "read_dulling" 451 112 1 3 208 true 456
def o214:Obj:=fo1 "read_dulling" 40 (.str "dullglass.texts" 396) 213
def o218:Obj:=co0 "read_table" "read_table" 459 117 1 3 215 true .none .none (.ref 217) 462
def o219:Obj:=fo1 "read_table" 41 (.str "dullglass.texts" 396) 218
def o223:Obj:=co0 "words_in_rows" "words_in_rows" 465 122 1 3 220 true .none .none (.ref 222) 468
def o224:Obj:=fo1 "words_in_rows" 42 (.str "dullglass.texts" 396) 223
def o230:Obj:=co1 "read_share" 471 126 1 3 225 true 479
def o231:Obj:=fo1 "read_share" 43 (.str "dullglass.texts" 396) 230
def o237:Obj:=co1 "is_number" 482 136 2 3 232 true 488
def o238:Obj:=fo1 "is_number" 44 (.str "dullglass.texts" 396) 237
def o242:Obj:=co0 "is_made_of" "is_made_of" 491 141 2 3 239 true .none .none (.ref 241) 494
def o243:Obj:=fo1 "is_made_of" 45 (.str "dullglass.texts" 396) 242
def o247:Obj:=co0 "read_payoffs" "read_payoffs" 497 143 1 3 244 true .none .none (.ref 246) 500
def o248:Obj:=fo1 "read_payoffs" 46 (.str "dullglass.texts" 396) 247
def o254:Obj:=co1 "read_payoff" 503 150 1 3 249 true 507
def o255:Obj:=fo1 "read_payoff" 47 (.str "dullglass.texts" 396) 254
def o261:Obj:=co1 "_law_cell" 512 155 2 3 256 true 517
def o262:Obj:=fo1 "_law_cell" 49 (.str "law_dullglass_k51_glasses_written" 510) 261
def o268:Obj:=co1 "_law_drawn" 520 161 3 3 263 true 530
def o269:Obj:=fo1 "_law_drawn" 50 (.str "law_dullglass_k51_glasses_written" 510) 268
def o273:Obj:=co0 "_law_glass" "_law_glass" 533 173 4 3 270 true .none .none (.ref 272) 536
def o274:Obj:=fo1 "_law_glass" 51 (.str "law_dullglass_k51_glasses_written" 510) 273
def o280:Obj:=co1 "_law_divisor" 539 184 2 3 275 true 544
def o281:Obj:=fo1 "_law_divisor" 52 (.str "law_dullglass_k51_glasses_written" 510) 280
def o287:Obj:=co1 "_law_share_text" 547 188 2 3 282 true 553
def o288:Obj:=fo1 "_law_share_text" 53 (.str "law_dullglass_k51_glasses_written" 510) 287
def o292:Obj:=co0 "_law_text" "_law_text" 556 193 2 3 289 true .none .none (.ref 291) 559
def o293:Obj:=fo1 "_law_text" 54 (.str "law_dullglass_k51_glasses_written" 510) 292
def o299:Obj:=co1 "_law_alike" 562 195 2 3 294 true 568
def o300:Obj:=fo1 "_law_alike" 55 (.str "law_dullglass_k51_glasses_written" 510) 299
def o304:Obj:=co0 "_law_payoffs" "_law_payoffs" 571 204 1 3 301 true .none .none (.ref 303) 574
def o305:Obj:=fo1 "_law_payoffs" 56 (.str "law_dullglass_k51_glasses_written" 510) 304
def o309:Obj:=co0 "law" "law" 577 213 1 3 306 true .none .none (.ref 308) 580
def o310:Obj:=fo1 "law" 57 (.str "law_dullglass_k51_glasses_written" 510) 309
def tA0 (P:Params):BT:=(N0 (boot_o_0 P) (N0 (boot_o_1 P) (N0 (boot_o_3 P) (N0 (boot_o_7 P) nl0 nl0) (N0 (tu0 []) nl0 nl0)) (N0 (boot_o_5 P) (N0 (boot_o_9 P) nl0 nl0) (N0 o13a nl0 nl0))) (N0 (boot_o_2 P) (N0 (boot_o_4 P) (N0 (boot_o_8 P) nl0 nl0) (N0 em0 nl0 nl0)) (N0 (boot_o_6 P) (N0 (boot_o_10 P) nl0 nl0) (N0 o14a nl0 nl0))))
def tE0 (P:Params):BT:=(N0 (boot_o_0 P) (N0 (boot_o_1 P) (N0 (o3 P) (N0 (boot_o_7 P) (N0 (tu0 [(.type "ValueError")]) (N0 (tu0 []) (N0 o63 (N0 (tu0 [(.str "thing" 340)]) (N0 o255 nl0 nl0) nl0) (N0 (tu0 []) nl0 nl0)) (N0 o95 (N0 (tu0 []) (N0 o287 nl0 nl0) nl0) (N0 o223 nl0 nl0))) (N0 (tu0 []) (N0 (tu0 []) (N0 em0 (N0 em0 nl0 nl0) nl0) (N0 o207 nl0 nl0)) (N0 (tu0 []) (N0 em0 (N0 (pr0 "_law_payoffs" "_law_payoffs" (top 56)) nl0 nl0) nl0) (N0 (tu0 []) nl0 nl0)))) (N0 (o23 P) (N0 o39 (N0 (tu0 []) (N0 o135 (N0 (tu0 []) nl0 nl0) nl0) (N0 o199 nl0 nl0)) (N0 o103 (N0 o167 (N0 em0 nl0 nl0) nl0) (N0 o231 nl0 nl0))) (N0 (tu0 []) (N0 (pr0 "divisor" "divisor" (top 8)) (N0 (pr0 "common_divisor" "common_divisor" (top 22)) (N0 (pr0 "_law_divisor" "_law_divisor" (top 52)) nl0 nl0) nl0) (N0 (tu0 []) nl0 nl0)) (N0 em0 (N0 (pr0 "show_glass" "show_glass" (top 35)) nl0 nl0) (N0 o247 nl0 nl0))))) (N0 (tu0 []) (N0 em0 (N0 (tu0 []) (N0 (tu0 []) (N0 o131 (N0 (tu0 []) nl0 nl0) nl0) (N0 o195 nl0 nl0)) (N0 (tu0 [(.str "top" 300),(.str "bottom" 301),(.str "common" 302)]) (N0 o163 (N0 (pr0 "_law_text" "_law_text" (top 54)) nl0 nl0) nl0) (N0 (tu0 [(.str "word" 474),(.str "parts" 475),(.str "top" 476),(.str "bottom" 477),(.str "found" 478)]) nl0 nl0))) (N0 o51 (N0 (tu0 []) (N0 (tu0 []) (N0 (tu0 []) nl0 nl0) nl0) (N0 (tu0 []) nl0 nl0)) (N0 (pr0 "dulling_of" "dulling_of" (top 16)) (N0 o179 (N0 em0 nl0 nl0) nl0) (N0 o243 nl0 nl0)))) (N0 o27 (N0 (tu0 []) (N0 o75 (N0 (pr0 "makes_row" "makes_row" (top 20)) (N0 (pr0 "_law_drawn" "_law_drawn" (top 50)) nl0 nl0) nl0) (N0 (tu0 [(.str "text" 446),(.str "table" 447)]) nl0 nl0)) (N0 (tu0 []) (N0 (pr0 "over_bottom" "over_bottom" (top 26)) (N0 o299 nl0 nl0) nl0) (N0 (tu0 []) nl0 nl0))) (N0 (tu0 []) (N0 em0 (N0 em0 (N0 em0 nl0 nl0) nl0) (N0 o219 nl0 nl0)) (N0 o123 (N0 em0 nl0 nl0) (N0 (tu0 [(.str "word" 506)]) nl0 nl0)))))) (N0 (boot_o_5 P) (N0 (boot_o_9 P) (N0 (o17 P) (N0 o33 (N0 o65 (N0 (pr0 "is_dulling" "is_dulling" (top 18)) (N0 em0 nl0 nl0) nl0) (N0 (pr0 "show_payoffs" "show_payoffs" (top 37)) nl0 nl0)) (N0 (tu0 []) (N0 (pr0 "divided" "divided" (top 24)) (N0 (tu0 []) nl0 nl0) nl0) (N0 (tu0 []) nl0 nl0))) (N0 o49 (N0 o81 (N0 o145 (N0 o273 nl0 nl0) nl0) (N0 em0 nl0 nl0)) (N0 (tu0 [(.str "bottom" 325),(.str "rows" 326)]) (N0 (tu0 []) (N0 o305 nl0 nl0) nl0) (N0 (pr0 "is_made_of" "is_made_of" (top 45)) nl0 nl0)))) (N0 o25 (N0 o41 (N0 o73 (N0 (tu0 []) (N0 (tu0 [(.str "_law_cell_here" 523),(.str "_law_base" 524),(.str "_law_many" 525),(.str "_law_found" 526),(.str "_law_left" 527),(.str "_law_k" 528),(.str "_law_number" 529)]) nl0 nl0) nl0) (N0 (tu0 []) nl0 nl0)) (N0 em0 (N0 (tu0 []) (N0 (tu0 []) nl0 nl0) nl0) (N0 em0 nl0 nl0))) (N0 o57 (N0 o89 (N0 o153 (N0 o281 nl0 nl0) nl0) (N0 (pr0 "read_table" "read_table" (top 41)) nl0 nl0)) (N0 (tu0 []) (N0 o185 nl0 nl0) (N0 (tu0 []) nl0 nl0))))) (N0 o13a (N0 o21 (N0 o37 (N0 o69 (N0 em0 (N0 o261 nl0 nl0) nl0) (N0 em0 nl0 nl0)) (N0 (pr0 "reduced" "reduced" (top 10)) (N0 em0 (N0 o293 nl0 nl0) nl0) (N0 (pr0 "read_share" "read_share" (top 43)) nl0 nl0))) (N0 o53 (N0 (tu0 [(.str "one" 283),(.str "other" 284),(.str "rest" 285)]) (N0 (tu0 [(.str "rows" 365),(.str "common" 366),(.str "row" 367),(.str "number" 368)]) (N0 (tu0 [(.str "_law_one" 542),(.str "_law_other" 543)]) nl0 nl0) nl0) (N0 o213 nl0 nl0)) (N0 o117 (N0 (tu0 []) (N0 o309 nl0 nl0) nl0) (N0 em0 nl0 nl0)))) (N0 o29 (N0 o45 (N0 em0 (N0 o141 (N0 o269 nl0 nl0) nl0) (N0 (pr0 "read_glass" "read_glass" (top 39)) nl0 nl0)) (N0 o109 (N0 o173 (N0 (tu0 []) nl0 nl0) nl0) (N0 o237 nl0 nl0))) (N0 o61 (N0 (tu0 []) (N0 o157 (N0 (tu0 []) nl0 nl0) nl0) (N0 em0 nl0 nl0)) (N0 (tu0 []) (N0 o189 nl0 nl0) (N0 (pr0 "read_payoff" "read_payoff" (top 47)) nl0 nl0))))))) (N0 (boot_o_2 P) (N0 (boot_o_4 P) (N0 (boot_o_8 P) (N0 o16 (N0 em0 (N0 (tu0 [(.ref 24)]) (N0 (tu0 []) (N0 (tu0 []) nl0 nl0) nl0) (N0 em0 nl0 nl0)) (N0 o96 (N0 em0 (N0 o288 nl0 nl0) nl0) (N0 o224 nl0 nl0))) (N0 (o48 P) (N0 (pr0 "is_whole" "is_whole" (top 7)) (N0 (pr0 "is_table" "is_table" (top 21)) (N0 (pr0 "_law_glass" "_law_glass" (top 51)) nl0 nl0) nl0) (N0 (tu0 []) nl0 nl0)) (N0 em0 (N0 (tu0 [(.str "one" 413),(.str "top" 414),(.str "bottom" 415)]) (N0 o304 nl0 nl0) nl0) (N0 em0 nl0 nl0)))) (N0 o24 (N0 (tu0 [(.ref 24)]) (N0 (o72 P) (N0 o136 (N0 em0 nl0 nl0) nl0) (N0 o200 nl0 nl0)) (N0 (tu0 []) (N0 o168 (N0 (tu0 [(.str "_law_found" 565),(.str "_law_due" 566),(.str "_law_k" 567)]) nl0 nl0) nl0) (N0 (tu0 []) nl0 nl0))) (N0 em0 (N0 o88 (N0 o152 (N0 o280 nl0 nl0) nl0) (N0 em0 nl0 nl0)) (N0 (tu0 [(.str "thing" 333)]) (N0 o184 nl0 nl0) (N0 o248 nl0 nl0))))) (N0 o12 (N0 o20 (N0 (o36 P) (N0 em0 (N0 (tu0 []) (N0 (pr0 "_law_cell" "_law_cell" (top 49)) nl0 nl0) nl0) (N0 (tu0 []) nl0 nl0)) (N0 (tu0 []) (N0 (tu0 []) (N0 o292 nl0 nl0) nl0) (N0 (tu0 []) nl0 nl0))) (N0 (tu0 [(.ref 24)]) (N0 em0 (N0 em0 (N0 em0 nl0 nl0) nl0) (N0 (pr0 "read_dulling" "read_dulling" (top 40)) nl0 nl0)) (N0 o116 (N0 o180 (N0 (pr0 "law" "law" (top 57)) nl0 nl0) nl0) (N0 (tu0 []) nl0 nl0)))) (N0 (tu0 [(.ref 24)]) (N0 em0 (N0 (tu0 []) (N0 o140 (N0 o268 nl0 nl0) nl0) (N0 (tu0 []) nl0 nl0)) (N0 (pr0 "glass_of" "glass_of" (top 15)) (N0 o172 (N0 o300 nl0 nl0) nl0) (N0 (pr0 "is_number" "is_number" (top 44)) nl0 nl0))) (N0 (o60 P) (N0 (tu0 [(.str "top" 292),(.str "bottom" 293)]) (N0 (pr0 "lowest_table" "lowest_table" (top 23)) (N0 (tu0 [(.str "_law_top" 550),(.str "_law_bottom" 551),(.str "_law_by" 552)]) nl0 nl0) nl0) (N0 (tu0 []) nl0 nl0)) (N0 o124 (N0 (pr0 "show_row" "show_row" (top 36)) nl0 nl0) (N0 (tu0 []) nl0 nl0)))))) (N0 (boot_o_6 P) (N0 (boot_o_10 P) (N0 (tu0 []) (N0 o34 (N0 (o66 P) (N0 o130 (N0 (tu0 [(.str "_law_script" 515),(.str "_law_k" 516)]) nl0 nl0) nl0) (N0 o194 nl0 nl0)) (N0 em0 (N0 o162 (N0 em0 nl0 nl0) nl0) (N0 em0 nl0 nl0))) (N0 o50 (N0 o82 (N0 o146 (N0 o274 nl0 nl0) nl0) (N0 (tu0 [(.str "text" 454),(.str "table" 455)]) nl0 nl0)) (N0 (tu0 []) (N0 (pr0 "show_share" "show_share" (top 34)) (N0 (tu0 []) nl0 nl0) nl0) (N0 o242 nl0 nl0)))) (N0 o26 (N0 (o42 P) (N0 o74 (N0 em0 (N0 (tu0 []) nl0 nl0) nl0) (N0 em0 nl0 nl0)) (N0 (tu0 [(.str "bottom" 317),(.str "rows" 318)]) (N0 em0 (N0 (pr0 "_law_alike" "_law_alike" (top 55)) nl0 nl0) nl0) (N0 (tu0 [(.str "word" 485),(.str "most" 486),(.str "figures" 487)]) nl0 nl0))) (N0 o58 (N0 (tu0 []) (N0 (tu0 []) (N0 (tu0 []) nl0 nl0) nl0) (N0 o218 nl0 nl0)) (N0 (pr0 "is_glass" "is_glass" (top 17)) (N0 (tu0 []) nl0 nl0) (N0 em0 nl0 nl0))))) (N0 o14a (N0 (tu0 []) (N0 o38 (N0 o70 (N0 (pr0 "makes_table" "makes_table" (top 19)) (N0 o262 nl0 nl0) nl0) (N0 (pr0 "laid_out" "laid_out" (top 38)) nl0 nl0)) (N0 o102 (N0 (pr0 "table_of_shares" "table_of_shares" (top 25)) (N0 (tu0 []) nl0 nl0) nl0) (N0 o230 nl0 nl0))) (N0 (o54 P) (N0 (tu0 []) (N0 (tu0 []) (N0 (tu0 []) nl0 nl0) nl0) (N0 o214 nl0 nl0)) (N0 (tu0 []) (N0 em0 (N0 o310 nl0 nl0) nl0) (N0 (pr0 "read_payoffs" "read_payoffs" (top 46)) nl0 nl0)))) (N0 (o30 P) (N0 o46 (N0 (tu0 [(.str "thing" 276)]) (N0 (tu0 []) (N0 (tu0 []) nl0 nl0) nl0) (N0 o206 nl0 nl0)) (N0 o110 (N0 (tu0 []) (N0 em0 nl0 nl0) nl0) (N0 o238 nl0 nl0))) (N0 o62 (N0 (pr0 "share" "share" (top 9)) (N0 o158 (N0 (pr0 "_law_share_text" "_law_share_text" (top 53)) nl0 nl0) nl0) (N0 (pr0 "words_in_rows" "words_in_rows" (top 42)) nl0 nl0)) (N0 em0 (N0 o190 nl0 nl0) (N0 o254 nl0 nl0))))))))
lay_quick My.cE0 My.env0 My.ls0
theorem r_pre (w:World):(fun os=>topGo treeTable PySem.Challenge.pw_dullglass_k51_glasses_written w 11 (some (.ref 6)) 12 (Shared.mk (boot_heap w.params) (Array.mk []) boot_drawn boot_toks os) (topStub PySem.Challenge.pw_dullglass_k51_glasses_written))=fun os=>some ((SharedT.mk (tA0 w.params) 15 lf0 (Array.mk []) boot_drawn 187 os).abs,Thread.mk (denote treeTable cE0) cE0 ⟨0,0,0,0⟩ [topFrame ⟨0,0,0,0⟩]):=by
 rewrite [PySem.W.Fast.te15667345088766844465,PySem.W.Fast.te14364793385576792824,PySem.W.Fast.te14158717745667963267,PySem.W.Fast.te11892475500146522536,PySem.W.Fast.te2665708160071446767]
 kernel_rfl
theorem r_block (w:World):(fun os=>segRun treeTable PySem.Challenge.pw_dullglass_k51_glasses_written w 11 (some (.ref 6)) 1 1 (SharedT.mk (tA0 w.params) 15 lf0 (Array.mk []) boot_drawn 187 os).abs (blockOf (behindTheImports PySem.Challenge.pw_dullglass_k51_glasses_written) env0 cE0 ⟨0,0,0,0⟩ [topFrame ⟨0,0,0,0⟩]))=fun os=>some (.next,(SharedT.mk (tA0 w.params) 15 lf0 (Array.mk []) boot_drawn 187 os).abs,cE0,⟨0,0,0,0⟩):=by
 rewrite [PySem.W.Fast.te14374325043358763698,PySem.W.Fast.te14364793385576792824,PySem.W.Fast.te14158717745667963267,PySem.W.Fast.te2665708160071446767,PySem.W.Fast.te13849342267361746138]
 kernel_rfl
theorem r_all (w:World):(fun os=>segRunT treeTable PySem.Challenge.pw_dullglass_k51_glasses_written w 11 (some (.ref 6)) 1 2271 (SharedT.mk (tA0 w.params) 15 lf0 (Array.mk []) boot_drawn 187 os) (piecesOf (behindTheImports PySem.Challenge.pw_dullglass_k51_glasses_written) env0 cE0 ⟨0,0,0,0⟩ [topFrame ⟨0,0,0,0⟩]))=fun os=>some (.next,(SharedT.mk (tE0 w.params) 311 lf0 (Array.mk []) boot_drawn 583 os),cE0,⟨213,0,231,99⟩):=by
 rewrite [PySem.W.Fast.te10110043849684766642,PySem.W.Fast.te14364793385576792824,PySem.W.Fast.te14158717745667963267,PySem.W.Fast.te2665708160071446767,PySem.W.Fast.te13849342267361746138]
 kernel_rfl
theorem r_fin (w:World):(fun os=>topRun treeTable PySem.Challenge.pw_dullglass_k51_glasses_written w 11 (some (.ref 6)) 2 (SharedT.mk (tE0 w.params) 311 lf0 (Array.mk []) boot_drawn 583 os).abs ⟨doneF .next,cE0,⟨213,0,231,99⟩,[topFrame ⟨0,0,0,0⟩]⟩)=fun os=>some (SharedT.mk (tE0 w.params) 311 lf0 (Array.mk []) boot_drawn 583 os).abs:=by
 rewrite [PySem.W.Fast.te14082659384304107361,PySem.W.Fast.te14364793385576792824,PySem.W.Fast.te14158717745667963267,PySem.W.Fast.te2665708160071446767]
 kernel_rfl
theorem r_run (w:World) (os:OsState):topRun treeTable PySem.Challenge.pw_dullglass_k51_glasses_written w 11 (some (.ref 6)) (12+(1+(2271+2))) (Shared.mk (boot_heap w.params) (Array.mk []) boot_drawn boot_toks os) (topStub PySem.Challenge.pw_dullglass_k51_glasses_written)=some (SharedT.mk (tE0 w.params) 311 lf0 (Array.mk []) boot_drawn 583 os).abs :=
 go_top (congrFun (r_pre w) os) (piece_block (congrFun (r_block w) os) (by
  have q:=piece_app (rest:=[]) (segRun_of (congrFun (r_all w) os)) (piece_nil (congrFun (r_fin w) os))
  rwa [List.append_nil] at q))
theorem r_open:opening PySem.Challenge.pw_dullglass_k51_glasses_written=plainProg PySem.Challenge.pw_dullglass_k51_glasses_written.main.scope.names:=by kernel_rfl
theorem r_fence (s:Shared):fenceModules? PySem.Challenge.pw_dullglass_k51_glasses_written s=some s:=by kernel_rfl
theorem r_size (w:World):((boot_heap w.params).isNs mainGlobals&&(Array.mk []:Array GenState).size==0,(boot_heap w.params).objs.size,(boot_heap w.params).nsMap mainGlobals "__annotations__")=(true,11,(some (.ref 6))):=by kernel_rfl
theorem l_one (w:World):(fun os=>(staticsOk (importedModules PySem.Challenge.pw_dullglass_k51_glasses_written.main.body) (boot_heap w.params) (absHeap (tE0 w.params) 311 lf0)&&namesBound PySem.Challenge.pw_dullglass_k51_glasses_written (absHeap (tE0 w.params) 311 lf0)&&gensDone (Shared.mk (absHeap (tE0 w.params) 311 lf0) (Array.mk []) boot_drawn 583 os)&&laidKept (boot_heap w.params) (absHeap (tE0 w.params) 311 lf0)))=fun _=>true:=by
 rewrite [PySem.W.Fast.te5923862056798008813,PySem.W.Fast.te14158717745667963267]
 kernel_rfl
theorem l_two (w:World):(fun os=>openSeen (view PySem.Challenge.pw_dullglass_k51_glasses_written [57]) ls0 (importedModules PySem.Challenge.pw_dullglass_k51_glasses_written.main.body) (fun _=>true) true (Shared.mk (absHeap (tE0 w.params) 311 lf0) (Array.mk []) boot_drawn 583 os))=fun _=>openGood (view PySem.Challenge.pw_dullglass_k51_glasses_written [57]) ls0:=by
 rewrite [PySem.W.Fast.te4187177175401517315,PySem.W.Fast.te5923862056798008813,PySem.W.Fast.te14158717745667963267,PySem.W.Fast.te4294247251607483543]
 kernel_rfl
def K0 (P:Params):Frag:=(nat_lit 2,(boot_o_2 P))::(nat_lit 3,(o3 P))::(nat_lit 23,(o23 P))::(nat_lit 24,o24)::(nat_lit 25,o25)::(nat_lit 36,(o36 P))::(nat_lit 37,o37)::(nat_lit 48,(o48 P))::(nat_lit 49,o49)::(nat_lit 60,(o60 P))::(nat_lit 61,o61)::(nat_lit 72,(o72 P))::(nat_lit 73,o73)::(nat_lit 81,o81)::(nat_lit 82,o82)::(nat_lit 88,o88)::(nat_lit 89,o89)::(nat_lit 95,o95)::(nat_lit 96,o96)::(nat_lit 102,o102)::(nat_lit 103,o103)::(nat_lit 109,o109)::(nat_lit 110,o110)::(nat_lit 116,o116)::(nat_lit 117,o117)::(nat_lit 123,o123)::(nat_lit 124,o124)::(nat_lit 130,o130)::(nat_lit 131,o131)::(nat_lit 135,o135)::(nat_lit 136,o136)::(nat_lit 140,o140)::(nat_lit 141,o141)::(nat_lit 145,o145)::(nat_lit 146,o146)::(nat_lit 152,o152)::(nat_lit 153,o153)::(nat_lit 157,o157)::(nat_lit 158,o158)::(nat_lit 162,o162)::(nat_lit 163,o163)::(nat_lit 167,o167)::(nat_lit 168,o168)::(nat_lit 172,o172)::(nat_lit 173,o173)::(nat_lit 179,o179)::(nat_lit 180,o180)::(nat_lit 184,o184)::(nat_lit 185,o185)::(nat_lit 189,o189)::(nat_lit 190,o190)::(nat_lit 194,o194)::(nat_lit 195,o195)::(nat_lit 199,o199)::(nat_lit 200,o200)::(nat_lit 206,o206)::(nat_lit 207,o207)::(nat_lit 213,o213)::(nat_lit 214,o214)::(nat_lit 218,o218)::(nat_lit 219,o219)::(nat_lit 223,o223)::(nat_lit 224,o224)::(nat_lit 230,o230)::(nat_lit 231,o231)::(nat_lit 237,o237)::(nat_lit 238,o238)::(nat_lit 242,o242)::(nat_lit 243,o243)::(nat_lit 247,o247)::(nat_lit 248,o248)::(nat_lit 254,o254)::(nat_lit 255,o255)::(nat_lit 261,o261)::(nat_lit 262,o262)::(nat_lit 268,o268)::(nat_lit 269,o269)::(nat_lit 273,o273)::(nat_lit 274,o274)::(nat_lit 280,o280)::(nat_lit 281,o281)::(nat_lit 287,o287)::(nat_lit 288,o288)::(nat_lit 292,o292)::(nat_lit 293,o293)::(nat_lit 299,o299)::(nat_lit 300,o300)::(nat_lit 304,o304)::(nat_lit 305,o305)::(nat_lit 309,o309)::(nat_lit 310,o310)::[]
def as0:List Addr:=[2,3,23,24,25,36,37,48,49,60,61,72,73,81,82,88,89,95,96,102,103,109,110,116,117,123,124,130,131,135,136,140,141,145,146,152,153,157,158,162,163,167,168,172,173,179,180,184,185,189,190,194,195,199,200,206,207,213,214,218,219,223,224,230,231,237,238,242,243,247,248,254,255,261,262,268,269,273,274,280,281,287,288,292,293,299,300,304,305,309,310]
theorem l_three (w:World):(fun (os:OsState)=>as0.map (absHeap (tE0 w.params) 311 lf0).get?)=fun _=>(K0 w.params).map fun p=>some p.2:=by kernel_rfl
theorem left0:LeftO PySem.Challenge.pw_dullglass_k51_glasses_written (view PySem.Challenge.pw_dullglass_k51_glasses_written [57]) ls0 (fun _=>true) (fun s=>as0.map s.heap.get?) (fun w=>(K0 w.params).map fun p=>some p.2) 100000 :=
 LeftO.of_pieces (H₀:=boot_heap) (H₁:=fun P=>absHeap (tE0 P) 311 lf0) (gs₁:=Array.mk []) (d₁:=boot_drawn) (k₁:=583) (boot_open r_open rfl r_fence) r_size r_run rfl fun w=>by
  funext os
  exact congr (congrArg Prod.mk (congrFun (l_one w) os)) (congr (congrArg Prod.mk (congrFun (l_two w) os)) (congrFun (l_three w) os))
end
end My
open PySem PySem.W PyProof.Rows
set_option maxRecDepth 100000 in
set_option maxHeartbeats 0 in
theorem PySem.Challenge.cw_dullglass_k51_glasses_written_holds : PySem.Challenge.rw_dullglass_k51_glasses_written.Holds := by
 w_on;o_law
 refine holds_open (q:=view PySem.Challenge.pw_dullglass_k51_glasses_written [57]) (XP:=fun _ _=>True) (YP:=InK My.K0) My.left0 (InK.of fun _=>by kernel_rfl) InK.keeps (fun _ _=>True.intro) (fun _ _ _ _ _=>True.intro) (by rfl) (by rfl) (by rfl) (fun s _=>recFacts_nil rfl) (by rfl) (by assumption) (by decide +kernel) ⟨rfl,rfl,rfl,rfl,rfl,by decide +kernel⟩ ?hw ?hc
 case hw=>w_witness2
 k_fill
 refine My.walk (l:=PySem.Challenge.rw_dullglass_k51_glasses_written) rfl rfl (fun w h Y=>Y) ?F
 case F =>
  intro w mg fa h KX G hmg
  refine' My.all_mk KX G hmg ..
  iterate 3 all_goals try first|k_is|k_exc|rfl|(refine' My.DK.mk ?a (My.LK.mk ?l ?c ?k); (case a=>k_is); (case l=>k_is); (case c=>k_is); (case k=>k_is))|(refine' My.LK.mk ?l ?c ?k; (case l=>k_is); (case c=>k_is); (case k=>k_is))
