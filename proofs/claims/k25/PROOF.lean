import PyProof.Rows.All
import Wide.All
import OpenK.AllK
import Wide.FinOn
import Lean
import PyProof.EqAt
import PyProof.EqKinds
import PyProof.TupleCall
import PySem.Challenge.RW_dullglass_k25_too_many_equations
set_option Elab.async false
set_option linter.all false
set_option maxRecDepth 100000
set_option maxHeartbeats 4000000
set_option genSizeOf false
set_option genInjectivity false
namespace L2
open PySem PySem.Spec PyProof.Rows
abbrev Key:=Sum Int Str
def keyIs:Key→Value→Bool
 | .inl k,v=>Value.isInt k v
 | .inr x,v=>Value.isStrOf x v
def keyH (w:World):Key→Int
 | .inl k=>hashInt k
 | .inr x=>hashStr w x
theorem keyIs_shape : ∀ {k:Key}{v:Value},keyIs k v=true→(∃ i t,k=Sum.inl i∧v=Value.int i t)∨(∃ x t,k=Sum.inr x∧v=Value.str x t)
 | .inl i,v,h=>by
  obtain ⟨t,e⟩:=Value.isInt_shape (k:=i) (v:=v) h
  exact .inl ⟨i,t,rfl,e⟩
 | .inr x,v,h=>by
  obtain ⟨t,e⟩:=Value.isStrOf_shape (x:=x) (v:=v) h
  exact .inr ⟨x,t,rfl,e⟩
theorem key_ll (a b:Int):decide ((Sum.inl a:Key)=Sum.inl b)=(a==b):=by
 by_cases e:a=b
 ·subst e;simp
 ·have h : ¬ (Sum.inl a:Key)=Sum.inl b:=fun q=>e (Sum.inl.inj q)
  rw [decide_eq_false h]
  exact (beq_eq_false_iff_ne.mpr e).symm
theorem key_rr (a b:Str):decide ((Sum.inr a:Key)=Sum.inr b)=decide (a=b):=by
 by_cases e:a=b
 ·subst e;simp
 ·have h : ¬ (Sum.inr a:Key)=Sum.inr b:=fun q=>e (Sum.inr.inj q)
  rw [decide_eq_false h,decide_eq_false e]
theorem key_lr (a:Int) (b:Str):decide ((Sum.inl a:Key)=Sum.inr b)=false:=decide_eq_false (fun q=>nomatch q)
theorem key_rl (a:Str) (b:Int):decide ((Sum.inr a:Key)=Sum.inl b)=false:=decide_eq_false (fun q=>nomatch q)
def mixKind (prog:Program) (w:World):PySem.KeyKind prog w Key where
 is:=keyIs
 hash:=keyH w
 inj:=fun v a b ha hb=>by
  rcases keyIs_shape ha with ⟨i,t,rfl,rfl⟩|⟨x,t,rfl,rfl⟩
  ·rcases keyIs_shape hb with ⟨j,u,rfl,e⟩|⟨y,u,rfl,e⟩
   ·injection e with e1 _;rw [e1]
   ·exact nomatch e
  ·rcases keyIs_shape hb with ⟨j,u,rfl,e⟩|⟨y,u,rfl,e⟩
   ·exact nomatch e
   ·injection e with e1 _;rw [e1]
 byValue:=fun k v h=>by
  rcases keyIs_shape h with ⟨i,t,rfl,rfl⟩|⟨x,t,rfl,rfl⟩ <;> rfl
 pyHash:=fun hv h=>by
  rcases keyIs_shape hv with ⟨i,t,rfl,rfl⟩|⟨x,t,rfl,rfl⟩
  ·exact wpAny_pyHash_int h
  ·exact wpAny_pyHash_str h
 eqBool:=fun hu hv h=>by
  rcases keyIs_shape hu with ⟨i,t,rfl,rfl⟩|⟨x,t,rfl,rfl⟩
  ·rcases keyIs_shape hv with ⟨j,u,rfl,rfl⟩|⟨y,u,rfl,rfl⟩
   ·rw [key_ll] at h;exact wpAny_eqBool_int h
   ·rw [key_lr] at h;exact SeqAt.EqAt.int_str i t y u _ _ _ _ h
  ·rcases keyIs_shape hv with ⟨j,u,rfl,rfl⟩|⟨y,u,rfl,rfl⟩
   ·rw [key_rl] at h;exact SeqAt.EqAt.str_int x t j u _ _ _ _ h
   ·rw [key_rr] at h;exact wpAny_eqBool_str h
 «strs»:=fun k x t v h=>by
  rcases keyIs_shape h with ⟨i,u,rfl,e⟩|⟨y,u,rfl,e⟩
  ·exact nomatch e
  ·injection e with e1 _
   subst e1
   cases v <;> rfl
end L2
namespace L2
open PySem PySem.Spec PyProof.Rows
inductive V where
 | non|bl (b:Bool)|int (i:Int)|str (x:Str)|byt (b:Array UInt8)|flt (b:UInt64)|ref (a:Addr)|ty (n:String)
 deriving DecidableEq
def RelV:V→Value→Prop
 | .non,u=>u=Value.none
 | .bl b,u=>u=Value.bool b
 | .int i,u => ∃ t,u=Value.int i t
 | .str x,u => ∃ t,u=Value.str x t
 | .byt b,u => ∃ t,u=Value.bytes b t
 | .flt b,u => ∃ t,u=Value.float b t
 | .ref a,u=>u=Value.ref a
 | .ty n,u=>u=Value.type n
abbrev Vals:List V→List Value→Prop:=Paired RelV
theorem Vals.length {xs:List V}{us:List Value} (r:Vals xs us):xs.length=us.length:=Paired.length r
theorem Vals.get : ∀ {xs:List V}{us:List Value}{i:Nat}{x:V},Vals xs us→xs[i]?=some x → ∃ u,us[i]?=some u∧RelV x u
 | _,_,_,_,.nil,e=>by simp at e
 | _,_,0,_,.cons r _,e=>by simp at e;subst e;exact ⟨_,rfl,r⟩
 | _,_,i+1,x,.cons _ t,e=>by
  obtain ⟨u,h1,h2⟩:=Vals.get (i:=i) (x:=x) t (by simpa using e)
  exact ⟨u,by simpa using h1,h2⟩
theorem Vals.set {x:V}{u:Value} (r:RelV x u) : ∀ {xs:List V}{us:List Value} (i:Nat),Vals xs us→Vals (xs.set i x) (us.set i u)
 | _,_,_,.nil => .nil
 | _,_,0,.cons _ t => .cons r t
 | _,_,i+1,.cons q t => .cons q (Vals.set r i t)
theorem Vals.append : ∀ {xs ys:List V}{us ws:List Value},Vals xs us→Vals ys ws→Vals (xs++ys) (us++ws)
 | _,_,_,_,.nil,s=>s
 | _,_,_,_,.cons r t,s => .cons r (Vals.append t s)
theorem Vals.take : ∀ {xs:List V}{us:List Value} (n:Nat),Vals xs us→Vals (xs.take n) (us.take n)
 | _,_,0,_ => .nil
 | _,_,_+1,.nil => .nil
 | _,_,n+1,.cons r t => .cons r (Vals.take n t)
theorem Vals.drop : ∀ {xs:List V}{us:List Value} (n:Nat),Vals xs us→Vals (xs.drop n) (us.drop n)
 | _,_,0,r=>r
 | _,_,_+1,.nil => .nil
 | _,_,n+1,.cons _ t=>Vals.drop n t
def RelO:Option V→Option Value→Prop
 | some v,some u=>RelV v u
 | none,none=>True
 | _,_=>False
def KV {κ:Type}:List (κ×V)→List (κ×Value)→Prop:=Paired fun (p:κ×V) (q:κ×Value)=>p.1=q.1∧RelV p.2 q.2
def kV:Key→V
 | .inl i => .int i
 | .inr x => .str x
inductive HO where
 | lst (xs:List V)
 | tup (xs:List V)
 | dK (kvs:List (Key×V))|dT (kvs:List (List Key×V))
 | set (S:Int→Bool) (n:Nat)
 | ins (C dx:Addr) (fs:List (Str×V))
 | own (x:Addr)
 | xd (fs:List (Str×V))
 | met (f x:Addr)
 | rng (lo hi:Int)
 | frz (o:Obj) (u:HO)
 | tbl (ps:Array Value)
 | ext (φ:Heap→Prop)
abbrev Hp:=Addr→Option HO
def upd (H:Hp) (a:Addr) (o:HO):Hp:=fun b=>if b=a then some o else H b
theorem upd_same {H:Hp}{a:Addr}{o:HO}:upd H a o a=some o:=by unfold upd;rw [if_pos rfl]
theorem upd_ne {H:Hp}{a b:Addr}{o:HO} (h:b≠a):upd H a o b=H b:=by unfold upd;rw [if_neg h]
theorem upd_upd {H:Hp}{a:Addr}{o u:HO}:upd (upd H a o) a u=upd H a u:=by
 funext b;unfold upd;split <;> rfl
theorem ne_of_none {H:Hp}{a b:Addr}{o:HO} (h:H a=some o) (h':H b=none):a≠b:=by
 intro e;subst e;rw [h] at h';cases h'
section
variable (P:Program) (w:World)
def ObjOk (H:Hp) (h:Heap) (a:Addr):HO→Prop
 | .lst xs=>xs.length≤sizeLine ∧ ∃ (its:List Value) (n:Nat),Vals xs its∧h.get? a=some { cls :=.type "list",data :=.seq its.toArray n }
 | .tup xs=>xs.length≤sizeLine ∧ ∃ its:List Value,Vals xs its∧IsTup h a its.toArray
 | .dK kvs=>kvs.length≤sizeLine∧(a==sysModules)=false ∧ ∃ vs,KV kvs vs∧h.DictOf (mixKind P w) a vs
 | .dT kvs=>kvs.length≤sizeLine∧(a==sysModules)=false ∧ ∃ xs:List (List Key×Addr×Value),
  Paired (fun (p:List Key×V) (q:List Key×Addr×Value)=>p.1=q.1∧H q.2.1=some (.tup (p.1.map kV))∧RelV p.2 q.2.2) kvs xs ∧
  ∃ o es ep,h.get? a=some o∧o.ExactDict∧o.data = .dict es ep∧es.toList=xs.map (entryOfKey (tupleKind (mixKind P w)))∧(xs.map (·.1)).Nodup
 | .set S n=>h.SetOf (intKind P w) a S n
 | .ins C dx fs=>H dx=some (.own a)∧fs.length≤1000∧dx≠a∧h.get? a=some (PySem.W.instObj C dx) ∧
  ∃ mA,h.Ns1 dx mA∧(∀ f,RelO (fs.lookup f) (mA f))∧PySem.Within mA (fs.map (·.1))
 | .own _ => ∃ o,h.get? a=some o
 | .xd fs => ∃ mA,h.Ns1 a mA ∧ ∀ f,RelO (fs.lookup f) (mA f)
 | .rng lo hi => ∃ t u v,h.get? a=some { cls :=.type "range",data :=.fields #[.int lo t,.int hi u,.int 1 v] }
 | .frz o u=>h.get? a=some o∧ObjOk H h a u
 | .tbl ps=>h.get? a=some { cls :=.none,data :=.fields ps }
 | .met f x=>h.get? a=some (PySem.W.methodObj (.ref f) (.ref x))
 | .ext φ=>φ h∧(∃ o,h.get? a=some o) ∧ ∀ h1 h2:Heap,φ h1→(∀ o,h1.get? a=some o→h2.get? a=some o)→φ h2
def HOk (H:Hp) (h:Heap):Prop := ∀ a o,H a=some o→ObjOk P w H h a o
end
section
variable {P:Program}{w:World}{H H':Hp}{h h':Heap}{a:Addr}{o:HO}
theorem ObjOk.lt (x:ObjOk P w H h a o):a<h.objs.size:=by
 cases o with
 | lst xs=>obtain ⟨_,_,_,_,e⟩:=x;exact Heap.lt_size e
 | tup xs=>obtain ⟨_,_,_,p⟩:=x;exact p.lt
 | dK kvs=>obtain ⟨_,_,_,_,o,_,_,e,_⟩:=x;exact Heap.lt_size e
 | dT kvs=>obtain ⟨_,_,_,_,o,_,_,e,_⟩:=x;exact Heap.lt_size e
 | set S n=>obtain ⟨o,_,_,_,e,_⟩:=x;exact Heap.lt_size e
 | ins C dx fs=>obtain ⟨_,_,_,e,_⟩:=x;exact Heap.lt_size e
 | own y=>obtain ⟨_,e⟩:=x;exact Heap.lt_size e
 | xd fs=>obtain ⟨_,⟨_,_,_,e,_⟩,_⟩:=x;exact Heap.lt_size e
 | rng lo hi=>obtain ⟨_,_,_,e⟩:=x;exact Heap.lt_size e
 | frz ob u=>obtain ⟨e,_⟩:=x;exact Heap.lt_size e
 | tbl ps=>exact Heap.lt_size (show h.get? a=some _ from x)
 | met f y=>exact Heap.lt_size (show h.get? a=some _ from x)
 | ext φ=>obtain ⟨_,⟨_,e⟩,_⟩:=x;exact Heap.lt_size e
theorem Paired.mapP {α β:Type}{F G:α→β→Prop} : ∀ {l₁:List α}{l₂:List β},Paired F l₁ l₂→(∀ a b,F a b→G a b)→Paired G l₁ l₂
 | _,_,.nil,_ => .nil
 | _,_,.cons r t,f => .cons (f _ _ r) (Paired.mapP t f)
theorem ObjOk.stay (x:ObjOk P w H h a o) (k : ∀ b u,(b=a∨H b=some (.own a))→h.get? b=some u→h'.get? b=some u)
 (ho : ∀ b,H b=some (.own a)→H' b=some (.own a)) (ht : ∀ b xs,H b=some (.tup xs)→H' b=some (.tup xs)):ObjOk P w H' h' a o:=by
  induction o with
  | lst xs=>obtain ⟨z,its,n,r,e⟩:=x;exact ⟨z,its,n,r,k _ _ (.inl rfl) e⟩
  | tup xs=>obtain ⟨z,its,r,ob,e,c⟩:=x;exact ⟨z,its,r,ob,k _ _ (.inl rfl) e,c⟩
  | dK kvs=>obtain ⟨z,y,vs,r,ob,es,ep,e,c⟩:=x;exact ⟨z,y,vs,r,ob,es,ep,k _ _ (.inl rfl) e,c⟩
  | dT kvs =>
   obtain ⟨z,y,xs,r,ob,es,ep,e,c⟩:=x
   exact ⟨z,y,xs,Paired.mapP r fun p q z=>⟨z.1,ht _ _ z.2.1,z.2.2⟩,ob,es,ep,k _ _ (.inl rfl) e,c⟩
  | set S n=>obtain ⟨ob,es,ep,t,e,c⟩:=x;exact ⟨ob,es,ep,t,k _ _ (.inl rfl) e,c⟩
  | ins C dx fs =>
   obtain ⟨d,z,ne,e,mA,⟨od,es,ep,e2,c⟩,r⟩:=x
   exact ⟨ho _ d,z,ne,k _ _ (.inl rfl) e,mA,⟨od,es,ep,k _ _ (.inr d) e2,c⟩,r⟩
  | own y=>obtain ⟨ob,e⟩:=x;exact ⟨ob,k _ _ (.inl rfl) e⟩
  | xd fs=>obtain ⟨mA,⟨od,es,ep,e,c⟩,r⟩:=x;exact ⟨mA,⟨od,es,ep,k _ _ (.inl rfl) e,c⟩,r⟩
  | rng lo hi=>obtain ⟨t,u,v,e⟩:=x;exact ⟨t,u,v,k _ _ (.inl rfl) e⟩
  | frz ob u ih=>obtain ⟨e,q⟩:=x;exact ⟨k _ _ (.inl rfl) e,ih q⟩
  | tbl ps =>
   have e:h.get? a=some { cls :=.none,data :=.fields ps }:=x
   show h'.get? a=some { cls :=.none,data :=.fields ps }
   exact k a _ (.inl rfl) e
  | met f y =>
   have e:h.get? a=some (PySem.W.methodObj (.ref f) (.ref y)):=x
   show h'.get? a=some (PySem.W.methodObj (.ref f) (.ref y))
   exact k a _ (.inl rfl) e
  | ext φ=>obtain ⟨p,⟨o,e⟩,st⟩:=x;exact ⟨st _ _ p fun o q=>k _ _ (.inl rfl) q,⟨o,k _ _ (.inl rfl) e⟩,st⟩
theorem HOk.lt (x:HOk P w H h) (e:H a=some o):a<h.objs.size:=(x a o e).lt
theorem HOk.fresh (x:HOk P w H h) (e:h.objs.size≤a):H a=none:=by
 cases q:H a with
 | none=>rfl
 | some u=>exact absurd (Nat.lt_of_lt_of_le (x.lt q) e) (Nat.lt_irrefl _)
theorem HOk.kept (x:HOk P w H h) (k : ∀ b u,h.get? b=some u→h'.get? b=some u):HOk P w H h':=fun a o e =>
 (x a o e).stay (fun b u _ q=>k b u q) (fun _ q=>q) fun _ _ q=>q
theorem HOk.laid (x:HOk P w H h) (k : ∀ b u,h.get? b=some u→h'.get? b=some u) (hp:h.objs.size≤a) (new:ObjOk P w (upd H a o) h' a o):HOk P w (upd H a o) h':=fun b u e=>by
 have hn:=x.fresh hp
 by_cases hb:b=a
 ·subst hb;rw [upd_same] at e;cases e;exact new
 ·rw [upd_ne hb] at e
  exact (x b u e).stay (fun c v _ q=>k c v q) (fun c q=>by rw [upd_ne (ne_of_none q hn)];exact q) fun c xs q=>by rw [upd_ne (ne_of_none q hn)];exact q
end
def Rd (H:Hp) (a:Addr) (u:HO):Prop:=H a=some u ∨ ∃ o,H a=some (.frz o u)
theorem Rd.ok {P:Program}{w:World}{H:Hp}{h:Heap}{a:Addr}{u:HO} (r:Rd H a u) (x:HOk P w H h):ObjOk P w H h a u:=by
 rcases r with r|⟨o,r⟩
 ·exact x a u r
 ·obtain ⟨_,q⟩:=x a _ r
  exact q
def Mut:Option HO→Prop
 | some (.lst _)=>True
 | some (.dK _)=>True
 | some (.dT _)=>True
 | some (.set _ _)=>True
 | some (.ins _ _ _)=>True
 | some (.ext _)=>True
 | _=>False
section
variable {P:Program}{w:World}{H:Hp}{h h':Heap}{x e:Addr}{o':HO}
theorem HOk.write (ok:HOk P w H h) (mu:Mut (H x)) (he:e=x∨H e=some (.own x)) (k : ∀ b u,b≠e→h.get? b=some u→h'.get? b=some u) (heo : ∃ u,h'.get? e=some u)
 (new:ObjOk P w (upd H x o') h' x o'):HOk P w (upd H x o') h':=fun b u q=>by
  have nown : ∀ c y,H c=some (.own y)→c≠x:=fun c y r z=>by subst z;rw [r] at mu;exact mu
  have ntup : ∀ c xs,H c=some (.tup xs)→c≠x:=fun c xs r z=>by subst z;rw [r] at mu;exact mu
  by_cases hb:b=x
  ·subst hb;rw [upd_same] at q;cases q;exact new
  ·rw [upd_ne hb] at q
   by_cases hbe:b=e
   ·have q':H b=some (.own x):=by
     rcases he with z|z
     ·exact absurd (hbe.trans z) hb
     ·rw [hbe];exact z
    rw [q] at q';cases q'
    obtain ⟨v,hv⟩:=heo
    exact ⟨v,by rw [hbe];exact hv⟩
   ·refine (ok b u q).stay (fun c v hc r=>k c v ?_ r) (fun c r=>by rw [upd_ne (nown c b r)];exact r) fun c xs r=>by rw [upd_ne (ntup c xs r)];exact r
    rcases hc with rfl|hc
    ·exact hbe
    ·rintro rfl
     rcases he with z|z
     ·exact nown c b hc z
     ·rw [hc] at z;cases z;exact hb rfl
end
def CodeO (o:Obj):Prop := ∃ vs q t,o.data = .fields vs∧vs[1]?=some (.str q t)
structure GoodT (H:Hp) (ps:Array Value):Prop where
 tr:TriplesOk ps.toList
 co : ∀ (pos:Pos) (v:Value),codeAmong pos ps.toList=some v → ∃ c o u,v = .ref c∧H c=some (.frz o u)∧CodeO o
theorem GoodT.nil {H:Hp}:GoodT H #[]:=⟨trivial,fun pos v h=>by simp [codeAmong] at h⟩
theorem GoodT.mono {H H':Hp}{ps:Array Value} (g:GoodT H ps) (f : ∀ b o u,H b=some (.frz o u)→H' b=some (.frz o u)):GoodT H' ps:=⟨g.tr,fun pos v h=>by
 obtain ⟨c,o,u,z,e,k⟩:=g.co pos v h
 exact ⟨c,o,u,z,f _ _ _ e,k⟩⟩
theorem triples_app : ∀ {a b:List Value},TriplesOk a→TriplesOk b→TriplesOk (a++b)
 | [],_,_,h=>h
 | .int _ _ :: .int _ _::_::r,_,g,h=>triples_app (a:=r) g h
theorem among_app {pos:Pos}{v:Value} : ∀ {a b:List Value},TriplesOk a→codeAmong pos (a++b)=some v→codeAmong pos a=some v∨codeAmong pos b=some v
 | [],_,_,h => .inr h
 | .int i _ :: .int j _::x::r,b,g,h=>by
  have h:(if i==pos.line&&j==pos.col then some x else codeAmong pos (r++b))=some v:=h
  show (if i==pos.line&&j==pos.col then some x else codeAmong pos r)=some v∨_
  split at h
  ·left;rw [if_pos (by assumption)];exact h
  ·rw [if_neg (by assumption)];exact among_app (a:=r) g h
theorem GoodT.app {H:Hp}{a b:Array Value} (g:GoodT H a) (k:GoodT H b):GoodT H (a++b):=⟨by rw [Array.toList_append];exact triples_app g.tr k.tr,fun pos v h=>by
 rw [Array.toList_append] at h
 rcases among_app g.tr h with h|h
 ·exact g.co pos v h
 ·exact k.co pos v h⟩
structure Un (fs ex:List Addr) (H H':Hp) (h h':Heap):Prop where
 keep : ∀ b o,h.get? b=some o→H b=none→b ∉ fs→b ∉ ex→h'.get? b=some o
 slot : ∀ b o,h.get? b=some o→H b=none→b ∈ fs→b ∉ ex → ∃ sl,h'.get? b=some { o with slots:=sl }
 free : ∀ b o,h.get? b=some o→H b=none→b ∉ ex→H' b=none
 there : ∀ b o,h.get? b=some o→b ∉ ex → ∃ o',h'.get? b=some o'
 tups : ∀ b xs,H b=some (.tup xs)→H' b=some (.tup xs)
 frzs : ∀ b o u,H b=some (.frz o u)→H' b=some (.frz o u)
 tbls : ∀ b ps,H b=some (.tbl ps) → ∃ more,H' b=some (.tbl (ps++more))∧GoodT H' more
section
variable {fs fs' ex ex':List Addr}{H H1 H2:Hp}{h h1 h2 h':Heap}{a x e:Addr}{o:HO}
theorem Un.any (u:Un fs ex H H1 h h1) {b:Addr}{ob:Obj} (q:h.get? b=some ob) (n:H b=none) (hx:b ∉ ex) : ∃ sl,h1.get? b=some { ob with slots:=sl }:=by
 by_cases hb:b ∈ fs
 ·exact u.slot b ob q n hb hx
 ·exact ⟨ob.slots,u.keep b ob q n hb hx⟩
theorem Un.kept (k : ∀ b u,h.get? b=some u→h'.get? b=some u):Un fs ex H H h h' :=
 ⟨fun b ob q _ _ _=>k b ob q,fun b ob q _ _ _=>⟨ob.slots,k b ob q⟩,fun _ _ _ n _=>n,fun b ob q _=>⟨ob,k b ob q⟩,fun _ _ q=>q,fun _ _ _ q=>q,fun _ ps q=>⟨#[],by rw [q];simp,.nil⟩⟩
theorem Un.refl:Un fs ex H H h h:=Un.kept fun _ _ q=>q
theorem Un.laid (k : ∀ b u,h.get? b=some u→h'.get? b=some u) (hp:h.objs.size≤a) (hn:H a=none):Un fs ex H (upd H a o) h h' where
 keep:=fun b u q _ _ _=>k b u q
 slot:=fun b u q _ _ _=>⟨u.slots,k b u q⟩
 free:=fun b u q n _=>by rw [upd_ne (Nat.ne_of_lt (Nat.lt_of_lt_of_le (Heap.lt_size q) hp))];exact n
 there:=fun b u q _=>⟨u,k b u q⟩
 tups:=fun b xs q=>by rw [upd_ne (ne_of_none q hn)];exact q
 frzs:=fun b u xs q=>by rw [upd_ne (ne_of_none q hn)];exact q
 tbls:=fun b ps q=>⟨#[],by rw [upd_ne (ne_of_none q hn),q];simp,.nil⟩
theorem Un.write (mu:Mut (H x)) (he:e=x∨H e=some (.own x)) (k : ∀ b u,b≠e→h.get? b=some u→h'.get? b=some u) (heo : ∃ u,h'.get? e=some u):Un fs ex H (upd H x o) h h':=by
 have hx : ∀ b,H b=none→b≠x:=fun b n z=>by subst z;rw [n] at mu;exact mu
 have hb : ∀ b,H b=none→b≠e:=fun b n z=>by
  subst z
  rcases he with r|r
  ·exact hx b n r
  ·rw [n] at r;cases r
 have hm : ∀ b u,H b=some u → ¬ Mut (some u)→b≠x:=fun b u q nm z=>by subst z;rw [q] at mu;exact nm mu
 refine ⟨fun b u q n _ _=>k b u (hb b n) q,fun b u q n _ _=>⟨u.slots,k b u (hb b n) q⟩,fun b u q n _=>by rw [upd_ne (hx b n)];exact n,fun b u q _=>?_,
  fun b xs q=>by rw [upd_ne (hm b _ q fun z=>z)];exact q,fun b u xs q=>by rw [upd_ne (hm b _ q fun z=>z)];exact q,fun b ps q=>⟨#[],by rw [upd_ne (hm b _ q fun z=>z),q];simp,.nil⟩⟩
 by_cases hbe:b=e
 ·subst hbe;exact heo
 ·exact ⟨u,k b u hbe q⟩
end
def trk (h:Heap) (H:Hp):List Addr:=(List.range h.objs.size).filter fun a=>(H a).isSome
def hidT (h:Heap) (H:Hp):Heap:=PySem.W.hideAll h (trk h H)
theorem hidT_size (h:Heap) (H:Hp):(hidT h H).objs.size=h.objs.size:=PySem.W.hideAll_size _ _
theorem hidT_get {h:Heap}{H:Hp}{b:Addr}{o:Obj} (e:h.get? b=some o) (n:H b=none):(hidT h H).get? b=some o :=
 PySem.W.hideAll_get _ e fun hm=>by
  have q:(H b).isSome=true:=(List.mem_filter.mp hm).2
  rw [n] at q;simp at q
theorem of_hidT {h:Heap}{H:Hp}{b:Addr}{o:Obj} (e:(hidT h H).get? b=some o):h.get? b=some o∧H b=none:=by
 have e':h.get? b=some o:=PySem.W.of_hideAll (trk h H) e
 refine ⟨e',?_⟩
 cases q:H b with
 | none=>rfl
 | some x =>
  have hm:b ∈ trk h H:=List.mem_filter.mpr ⟨List.mem_range.mpr (Heap.lt_size e'),by simp [q]⟩
  have z:(hidT h H).get? b=none:=PySem.W.hideAll_none (trk h H) hm
  rw [z] at e;cases e
def allNews (g h:Heap) (L:Addr):List (Addr×Obj):=(List.range h.objs.size).filterMap fun a=>if a=L∨(g.get? a).isSome=true then none else (h.get? a).map fun o=>(a,o)
def rest (g h:Heap) (L d:Addr):List (Addr×Obj):=(allNews g h L).filter fun p=>decide (p.1≠d)
end L2
namespace L2
open PySem PySem.Spec PyProof.Rows
structure Mod (K:PySem.W.Frag) (mg:Str→Option Value) (base:Heap):Prop where
 kin:K.In base
 glob:base.Ns mainGlobals mg
 blt : ∃ mb,base.Ns builtinsNs mb ∧ ∀ x:Str,x ≠ "__name__" → mb x=bootBuiltins x
 nolimit:base.NoLimit
structure Cx where
 prog:Program
 w:World
 K:PySem.W.Frag
 mg:Str→Option Value
 base:Heap
 A:Around
 N:List Str
 s₀:Shared
 H₀:Hp
 env:Env
 outer:List Env
 stack:List Env
 ex:List Addr
 fn:Str→Bool
 calm:Bool
 pn:List (Addr×Obj)
 xe:Value→Shared→Prop
def frs (l:List Env):List Addr:=l.filterMap (·.frame)
abbrev Cx.fs (X:Cx):List Addr:=frs X.outer
def Vis (sc:Scope) (x:Str):Prop:=sc.names.lookup x=some .local∨sc.names.lookup x=some .cell∨sc.names.lookup x=some .free
def Loc (sc:Scope) (x:Str):Prop:=sc.names.lookup x=some .local∨sc.names.lookup x=some .cell
def Look (env:Env) (h:Heap) (m:Str→Option Value) (x:Str) (u:Value):Prop :=
 (env.kindOf x=some .local∧m x=some u)∨((env.kindOf x=some .cell∨env.kindOf x=some .free) ∧ ∃ c,env.cells.lookup x=some c∧h.IsCell c (some u))
structure Cx.Ok (X:Cx):Prop where
 mod:Mod X.K X.mg X.base
 kind:X.env.scope.kind = .function
 glob:X.env.globals=mainGlobals
 blt:X.env.builtins=builtinsNs
 above:X.s₀.heap.objs.size≤X.env.locals
 inj : ∀ x y c,X.env.cells.lookup x=some c→X.env.cells.lookup y=some c→x=y
 has : ∀ x,(X.env.kindOf x=some .cell∨X.env.kindOf x=some .free) → ∃ c,X.env.cells.lookup x=some c
 cab : ∀ x c,X.fn x=true→X.env.cells.lookup x=some c→X.s₀.heap.objs.size≤c
 hd:X.calm=true→X.A.handled=none
 frames:X.A.frames=some X.stack
 stk:X.stack=X.outer∨(X.stack=X.env::X.outer∧X.env.frame=some X.env.locals)
 exf : ∀ b ∈ X.ex,b≠X.env.locals ∧ ∀ x c,X.env.cells.lookup x=some c→c≠b
 bs : ∀ b o,X.base.get? b=some o→X.s₀.heap.get? b=some o∧X.H₀ b=none
 bsz:X.base.objs.size≤X.s₀.heap.objs.size
 noex : ∀ b o,X.base.get? b=some o→b ∉ X.ex
 exfs : ∀ b ∈ X.ex,b ∉ X.fs
 funs:X.s₀.heap.FunFrames X.base X.outer
 frf : ∀ b ∈ X.fs,X.H₀ b=none
structure Inv (X:Cx) (pins:List (Addr×Obj)) (σ:List (Option V)) (H:Hp) (s:Shared):Prop where
 ok:X.Ok
 os:s.os=X.s₀.os
 bare:AllBare s.gens
 base:Un X.fs X.ex X.H₀ H X.s₀.heap s.heap
 loc : ∃ m,s.heap.Ns X.env.locals m ∧ ∀ (i:Nat) (x:Str) (v:V),X.N[i]?=some x→σ[i]?=some (some v)→Vis X.env.scope x → ∃ u,RelV v u∧Look X.env s.heap m x u
 cell : ∀ x c,X.env.cells.lookup x=some c → ∃ v,s.heap.IsCell c v
 free:H X.env.locals=none
 freeC : ∀ x c,X.env.cells.lookup x=some c→H c=none
 pin : ∀ p ∈ X.pn++pins,s.heap.get? p.1=some p.2∧H p.1=none∧p.1≠X.env.locals∧p.1 ∉ X.fs ∧ ∀ v,p.2.data ≠ .cell v
 hok:HOk X.prog X.w H s.heap
 len:σ.length=X.N.length
section
variable {X:Cx}{pins:List (Addr×Obj)}{σ:List (Option V)}{H H':Hp}{s:Shared}{h':Heap}
theorem Cx.Ok.nofr (ok:X.Ok) {b:Addr}{o:Obj} (e:X.base.get? b=some o):b ∉ X.fs:=fun hb=>by
 have:=(ok.funs.mem hb).1
 rw [e] at this;cases this
theorem Inv.bs (I:Inv X pins σ H s) : ∀ b o,X.base.get? b=some o→s.heap.get? b=some o∧H b=none:=fun b o e =>
 ⟨I.base.keep b o (I.ok.bs b o e).1 (I.ok.bs b o e).2 (I.ok.nofr e) (I.ok.noex b o e),I.base.free b o (I.ok.bs b o e).1 (I.ok.bs b o e).2 (I.ok.noex b o e)⟩
theorem Inv.bk (I:Inv X pins σ H s) : ∀ b o,X.base.get? b=some o→s.heap.get? b=some o:=fun b o e=>(I.bs b o e).1
theorem Inv.mod (I:Inv X pins σ H s):Mod X.K X.mg X.base:=I.ok.mod
theorem Inv.kIn (I:Inv X pins σ H s):X.K.In s.heap:=I.ok.mod.kin.keeps I.bk
theorem Inv.lt (I:Inv X pins σ H s):X.env.locals<s.heap.objs.size:=let ⟨_,hn,_⟩:=I.loc;hn.lt
theorem Inv.sz (I:Inv X pins σ H s):X.s₀.heap.objs.size≤s.heap.objs.size:=Nat.le_trans I.ok.above (Nat.le_of_lt I.lt)
theorem Inv.nofs (I:Inv X pins σ H s) {a:Addr} (h:s.heap.objs.size≤a):a ∉ X.fs:=fun hb=>by
 obtain ⟨_,o,ho,_⟩:=I.ok.funs.mem hb
 exact absurd (Nat.lt_of_lt_of_le (Heap.lt_size ho) (Nat.le_trans I.sz h)) (Nat.lt_irrefl _)
theorem Inv.cne (I:Inv X pins σ H s) : ∀ x c,X.env.cells.lookup x=some c→c≠X.env.locals:=fun x c e z=>by
 obtain ⟨v,o,ho,hd⟩:=I.cell x c e
 obtain ⟨m,⟨o',es,ep,ho',hd',_⟩,_⟩:=I.loc
 rw [z,ho'] at ho;cases ho;rw [hd'] at hd;cases hd
theorem Inv.funs (I:Inv X pins σ H s):s.heap.FunFrames X.base X.outer:=by
 have all : ∀ (l:List Env),(∀ b ∈ frs l,b ∈ X.fs)→X.s₀.heap.FunFrames X.base l→s.heap.FunFrames X.base l:=by
  intro l
  induction l with
  | nil=>intro _ _;trivial
  | cons env r ih =>
   intro hs hl
   obtain ⟨hk,⟨L,o,hf,hn,ho,hd⟩,hr⟩:=hl
   have hL:L ∈ X.fs:=hs L (by unfold frs;rw [List.filterMap_cons,hf];exact List.mem_cons_self)
   obtain ⟨sl,e⟩:=I.base.slot L o ho (I.ok.frf L hL) hL fun z=>I.ok.exfs L z hL
   exact ⟨hk,⟨L,_,hf,hn,e,hd⟩,ih (fun b hb=>hs b (by unfold frs;rw [List.filterMap_cons,hf];exact List.mem_cons_of_mem _ hb)) hr⟩
 exact all X.outer (fun _ hb=>hb) I.ok.funs
theorem Inv.stack (I:Inv X pins σ H s):s.heap.FunFrames X.base X.stack:=by
 rcases I.ok.stk with e|⟨e,hf⟩
 ·rw [e];exact I.funs
 ·rw [e]
  obtain ⟨m,hn,_⟩:=I.loc
  refine .cons (by rw [I.ok.kind];decide) hf hn ?_ I.funs
  exact Heap.get?_none_of_le (Nat.le_trans I.ok.bsz I.ok.above)
theorem Inv.stkSub (I:Inv X pins σ H s) : ∀ b ∈ frs X.stack,b ∈ X.env.locals::X.fs:=fun b hb=>by
 rcases I.ok.stk with e|⟨e,hf⟩
 ·rw [e] at hb;exact List.mem_cons_of_mem _ hb
 ·rw [e] at hb
  unfold frs at hb
  rw [List.filterMap_cons,hf] at hb
  exact hb
theorem Inv.stkFree (I:Inv X pins σ H s) : ∀ b ∈ frs X.stack,H b=none:=fun b hb=>by
 rcases List.mem_cons.mp (I.stkSub b hb) with e|hb
 ·rw [e];exact I.free
 ·obtain ⟨_,o,ho,_⟩:=I.ok.funs.mem hb
  exact I.base.free b o ho (I.ok.frf b hb) fun z=>I.ok.exfs b z hb
theorem Inv.step {g':Array GenState}{t':Nat}{d':Drawn}{ch:List Addr} (I:Inv X pins σ H s)
 (hch : ∀ b ∈ ch,(b ∈ X.ex∨X.s₀.heap.objs.size≤b)∧b≠X.env.locals∧(∀ x c,X.env.cells.lookup x=some c→c≠b) ∧ ∀ p ∈ X.pn++pins,p.1≠b)
 (keep : ∀ b o,b≠X.env.locals→b ∉ X.fs→b ∉ ch→s.heap.get? b=some o→H b=none→h'.get? b=some o)
 (slot : ∀ b o,b≠X.env.locals→b ∈ X.fs→b ∉ ch→s.heap.get? b=some o→H b=none → ∃ sl,h'.get? b=some { o with slots:=sl }) (free : ∀ b o,b ∉ ch→s.heap.get? b=some o→H b=none→H' b=none)
  (there : ∀ b o,b ∉ ch→s.heap.get? b=some o → ∃ o',h'.get? b=some o')
  (tups : ∀ b xs,H b=some (.tup xs)→H' b=some (.tup xs)) (frzs : ∀ b o u,H b=some (.frz o u)→H' b=some (.frz o u)) (tbls : ∀ b ps,H b=some (.tbl ps) → ∃ more,H' b=some (.tbl (ps++more))∧GoodT H' more)
  (ns : ∀ m,s.heap.Ns X.env.locals m→h'.Ns X.env.locals m) (hok:HOk X.prog X.w H' h') (hg:AllBare g') :
  Inv X pins σ H' { s with heap:=h',gens:=g',drawn:=d',toks:=t' }:=by
  have neL : ∀ b o,X.s₀.heap.get? b=some o→b≠X.env.locals:=fun b o e=>Nat.ne_of_lt (Nat.lt_of_lt_of_le (Heap.lt_size e) I.ok.above)
  have neC : ∀ b o,X.s₀.heap.get? b=some o→b ∉ X.ex→b ∉ ch:=fun b o e hx hb=>by
   rcases (hch b hb).1 with z|z
   ·exact hx z
   ·exact absurd (Nat.lt_of_lt_of_le (Heap.lt_size e) z) (Nat.lt_irrefl _)
  have cellK : ∀ x c,X.env.cells.lookup x=some c → ∀ v,s.heap.IsCell c v→h'.IsCell c v:=fun x c e v xx1=>by
   obtain ⟨o,ho,hd⟩:=xx1
   have nch:c ∉ ch:=fun z=>(hch c z).2.2.1 x c e rfl
   by_cases hc:c ∈ X.fs
   ·obtain ⟨sl,q⟩:=slot c o (I.cne x c e) hc nch ho (I.freeC x c e)
    exact ⟨_,q,hd⟩
   ·exact ⟨o,keep c o (I.cne x c e) hc nch ho (I.freeC x c e),hd⟩
  refine ⟨I.ok,I.os,hg,⟨fun b o e n hb hx=>?_,fun b o e n hb hx=>?_,fun b o e n hx=>?_,fun b o e hx=>?_,fun b xs e=>tups b xs (I.base.tups b xs e),fun b o xs e=>frzs b o xs (I.base.frzs b o xs e),fun b ps e=>?_⟩,?_,fun x c e=>?_,?_,fun x c e=>?_,fun p hp=>?_,hok,I.len⟩
  ·exact keep b o (neL b o e) hb (neC b o e hx) (I.base.keep b o e n hb hx) (I.base.free b o e n hx)
  ·obtain ⟨sl,e1⟩:=I.base.slot b o e n hb hx
   obtain ⟨sl',e2⟩:=slot b _ (neL b o e) hb (neC b o e hx) e1 (I.base.free b o e n hx)
   exact ⟨sl',e2⟩
  ·obtain ⟨o',e1⟩:=I.base.there b o e hx
   exact free b o' (neC b o e hx) e1 (I.base.free b o e n hx)
  ·obtain ⟨o',e1⟩:=I.base.there b o e hx
   exact there b o' (neC b o e hx) e1
  ·obtain ⟨m1,e1,g1⟩:=I.base.tbls b ps e
   obtain ⟨m2,e2,g2⟩:=tbls b _ e1
   exact ⟨m1++m2,by rw [e2,Array.append_assoc],(g1.mono frzs).app g2⟩
  ·obtain ⟨m,hn,hl⟩:=I.loc
   refine ⟨m,ns m hn,fun i x v e1 e2 e3=>?_⟩
   obtain ⟨u,r,l⟩:=hl i x v e1 e2 e3
   refine ⟨u,r,?_⟩
   rcases l with l|⟨k,c,e,z⟩
   ·exact .inl l
   ·exact .inr ⟨k,c,e,cellK x c e _ z⟩
  ·obtain ⟨v,z⟩:=I.cell x c e
   exact ⟨v,cellK x c e v z⟩
  ·obtain ⟨m,⟨o,_,_,ho,_⟩,_⟩:=I.loc
   exact free _ o (fun z=>(hch _ z).2.1 rfl) ho I.free
  ·obtain ⟨v,o,ho,hd⟩:=I.cell x c e
   exact free c o (fun z=>(hch c z).2.2.1 x c e rfl) ho (I.freeC x c e)
  ·obtain ⟨e,n,ne,nf,d⟩:=I.pin p hp
   have nch:p.1 ∉ ch:=fun z=>(hch p.1 z).2.2.2 p hp rfl
   exact ⟨keep p.1 p.2 ne nf nch e n,free p.1 p.2 nch e n,ne,nf,d⟩
theorem Inv.un {t':Nat} (I:Inv X pins σ H s) (u:Un X.fs [] H H' s.heap h') (hok:HOk X.prog X.w H' h'):Inv X pins σ H' { s with heap:=h',toks:=t' }:=by
 obtain ⟨m,⟨o,es,ep,ho,r⟩,_⟩:=id I.loc
 obtain ⟨sl,hL⟩:=u.any ho I.free (by simp)
 exact I.step (g':=s.gens) (d':=s.drawn) (ch:=[]) (fun _ z=>nomatch z) (fun b o _ hb _ e n=>u.keep b o e n hb (by simp)) (fun b o _ hb _ e n=>u.slot b o e n hb (by simp)) (fun b o _ e n=>u.free b o e n (by simp)) (fun b o _ e=>u.there b o e (by simp)) u.tups u.frzs u.tbls (fun m' hm=>by
  obtain ⟨o',es',ep',ho',r'⟩:=hm
  rw [ho] at ho';cases ho'
  exact ⟨_,es',ep',hL,r'⟩) hok I.bare
theorem Inv.call {g':Array GenState}{t':Nat}{d':Drawn}{ch:List Addr} (I:Inv X pins σ H s) (u:Un (frs X.stack) ch H H' s.heap h') (hok:HOk X.prog X.w H' h') (hg:AllBare g')
 (hch : ∀ b ∈ ch,(b ∈ X.ex∨X.s₀.heap.objs.size≤b)∧b≠X.env.locals∧(∀ x c,X.env.cells.lookup x=some c→c≠b) ∧ ∀ p ∈ X.pn++pins,p.1≠b) :
 Inv X pins σ H' { s with heap:=h',gens:=g',drawn:=d',toks:=t' }:=by
  obtain ⟨m,⟨o,es,ep,ho,r⟩,_⟩:=id I.loc
  obtain ⟨sl,hL⟩:=u.any ho I.free fun z=>(hch _ z).2.1 rfl
  exact I.step (ch:=ch) hch (fun b o hL hb hc e n=>u.keep b o e n (fun z=>(List.mem_cons.mp (I.stkSub b z)).elim hL hb) hc) (fun b o _ _ hc e n=>u.any e n hc) (fun b o hc e n=>u.free b o e n hc) (fun b o hc e=>u.there b o e hc) u.tups u.frzs u.tbls (fun m' hm=>by
   obtain ⟨o',es',ep',ho',r'⟩:=hm
   rw [ho] at ho';cases ho'
   exact ⟨_,es',ep',hL,r'⟩) hok hg
theorem Inv.turned {t':Nat}{it:Addr} (I:Inv X pins σ H s) (k : ∀ b o,b≠it→s.heap.get? b=some o→h'.get? b=some o) (hn:H it=none) (hL:it≠X.env.locals)
 (h1:it ∈ X.ex∨X.s₀.heap.objs.size≤it) (h2 : ∀ x c,X.env.cells.lookup x=some c→c≠it) (h3 : ∀ p ∈ X.pn++pins,p.1≠it):Inv X pins σ H { s with heap:=h',toks:=t' }:=by
  have nit : ∀ b u,H b=some u→b≠it:=fun b u e z=>by rw [z,hn] at e;cases e
  refine I.step (g':=s.gens) (d':=s.drawn) (ch:=[it]) (fun b hb=>?_) (fun b o _ _ hc e _=>k b o (fun z=>hc (by simp [z])) e) (fun b o _ _ hc e _=>⟨o.slots,k b o (fun z=>hc (by simp [z])) e⟩) (fun _ _ _ _ n=>n)
   (fun b o hc e=>⟨o,k b o (fun z=>hc (by simp [z])) e⟩) (fun _ _ e=>e) (fun _ _ _ e=>e) (fun b ps e=>⟨#[],by rw [e];simp,.nil⟩) (fun m hm=>?_) (fun b u e=>?_) I.bare
  ·have e:b=it:=by simpa using hb
   subst e
   exact ⟨h1,hL,h2,h3⟩
  ·obtain ⟨o,es,ep,ho,r⟩:=hm
   exact ⟨o,es,ep,k _ o (Ne.symm hL) ho,r⟩
  ·refine (I.hok b u e).stay (fun c v hc q=>k c v ?_ q) (fun _ q=>q) fun _ _ q=>q
   rcases hc with z|z
   ·rw [z];exact nit b u e
   ·exact nit c _ z
theorem Inv.tok (I:Inv X pins σ H s) (t:Nat):Inv X pins σ H { s with toks:=t }:=I.un (h':=s.heap) (t':=t) Un.refl I.hok
theorem Inv.kept {t':Nat} (I:Inv X pins σ H s) (k : ∀ b u,s.heap.get? b=some u→h'.get? b=some u):Inv X pins σ H { s with heap:=h',toks:=t' }:=I.un (Un.kept k) (I.hok.kept k)
theorem Inv.laid {a:Addr}{o:HO}{t':Nat} (I:Inv X pins σ H s) (k : ∀ b u,s.heap.get? b=some u→h'.get? b=some u) (hp:s.heap.objs.size≤a) (new:ObjOk X.prog X.w (upd H a o) h' a o) :
 Inv X pins σ (upd H a o) { s with heap:=h',toks:=t' }:=I.un (Un.laid k hp (I.hok.fresh hp)) (I.hok.laid k hp new)
theorem Inv.write {x e:Addr}{o:HO}{t':Nat} (I:Inv X pins σ H s) (mu:Mut (H x)) (he:e=x∨H e=some (.own x)) (k : ∀ b u,b≠e→s.heap.get? b=some u→h'.get? b=some u) (heo : ∃ u,h'.get? e=some u)
 (new:ObjOk X.prog X.w (upd H x o) h' x o):Inv X pins σ (upd H x o) { s with heap:=h',toks:=t' }:=I.un (Un.write mu he k heo) (I.hok.write mu he k heo new)
theorem Inv.pins_of {pins':List (Addr×Obj)} (I:Inv X pins σ H s) (h : ∀ p ∈ pins',s.heap.get? p.1=some p.2∧H p.1=none∧p.1≠X.env.locals∧p.1 ∉ X.fs ∧ ∀ v,p.2.data ≠ .cell v):Inv X pins' σ H s :=
 ⟨I.ok,I.os,I.bare,I.base,I.loc,I.cell,I.free,I.freeC,fun p hp=>(List.mem_append.mp hp).elim (fun z=>I.pin p (List.mem_append_left _ z)) (h p),I.hok,I.len⟩
theorem nodup_ix {N:List Str} (hN:N.Nodup) {i j:Nat}{x:Str} (a:N[i]?=some x) (b:N[j]?=some x):i=j:=by
 obtain ⟨h1,e1⟩:=List.getElem?_eq_some_iff.mp a
 obtain ⟨h2,e2⟩:=List.getElem?_eq_some_iff.mp b
 exact (List.getElem_inj hN).mp (e1.trans e2.symm)
theorem store_ok2 {M:Model}{A:Around}{E:Value→Shared→Prop}{i:Nat}{x:Str}{v:V}{u:Value}{Q:Unit→Shared→Prop} (I:Inv X pins σ H s) (hN:X.N.Nodup) (hi:X.N[i]?=some x) (hx:Loc X.env.scope x) (r:RelV v u)
 (h : ∀ s',Inv X pins (σ.set i (some v)) H s'→(∃ a,Heap.SameBut a s.heap s'.heap∧(a=X.env.locals∨X.env.cells.lookup x=some a))→Q () s') (hf:X.fn x=true∨X.env.scope.names.lookup x=some .local:=by first|exact .inl rfl|exact .inr rfl|assumption):wpAny M A (storeName X.env x u) Q E s:=by
  obtain ⟨m,hn,hl⟩:=id I.loc
  have hcls:(X.env.scope.kind == .class||(X.env.scope.kind == .module&&X.env.locals != X.env.globals))=false:=by rw [I.ok.kind];rfl
  have hiσ:i<σ.length:=by rw [I.len];exact (List.getElem?_eq_some_iff.mp hi).1
  have cne:=I.cne
  have tracked : ∀ {a:Addr}{h':Heap},(∃ o,s.heap.get? a=some o∧H a=none)→Heap.SameBut a s.heap h'→HOk X.prog X.w H h':=fun {a h'} ha hs b ob e=>by
   obtain ⟨_,_,hfree⟩:=ha
   refine (I.hok b ob e).stay (fun c w' hc q=>(hs.2 c ?_).trans q) (fun _ q=>q) fun _ _ q=>q
   rintro rfl
   rcases hc with rfl|hc
   ·rw [hfree] at e;cases e
   ·rw [hfree] at hc;cases hc
  rcases hx with hk|hk
  ·refine wpAny_storeName_local hk hn (fun h' hn' hs=>?_) hcls
   obtain ⟨oL,_,_,hoL,_⟩:=id hn
   refine h _ ⟨I.ok,I.os,I.bare,⟨fun b o e n hb hx=>?_,fun b o e n hb hx=>?_,I.base.free,fun b o e hx=>?_,I.base.tups,I.base.frzs,I.base.tbls⟩,⟨_,hn',fun j y v' e1 e2 e3=>?_⟩,fun y c e=>?_,I.free,I.freeC,fun p hp=>?_,tracked ⟨oL,hoL,I.free⟩ hs,by simpa using I.len⟩ ⟨_,hs,.inl rfl⟩
   ·exact (hs.2 b (Nat.ne_of_lt (Nat.lt_of_lt_of_le (Heap.lt_size e) I.ok.above))).trans (I.base.keep b o e n hb hx)
   ·obtain ⟨sl,e1⟩:=I.base.slot b o e n hb hx
    exact ⟨sl,(hs.2 b (Nat.ne_of_lt (Nat.lt_of_lt_of_le (Heap.lt_size e) I.ok.above))).trans e1⟩
   ·obtain ⟨o',e1⟩:=I.base.there b o e hx
    exact ⟨o',(hs.2 b (Nat.ne_of_lt (Nat.lt_of_lt_of_le (Heap.lt_size e) I.ok.above))).trans e1⟩
   ·by_cases hj:j=i
    ·subst hj
     rw [hi] at e1;cases e1
     rw [List.getElem?_set_self hiσ] at e2
     cases e2
     exact ⟨u,r,.inl ⟨hk,by simp⟩⟩
    ·rw [List.getElem?_set_ne (Ne.symm hj)] at e2
     obtain ⟨u',r',q⟩:=hl j y v' e1 e2 e3
     refine ⟨u',r',?_⟩
     rcases q with ⟨k,e⟩|⟨k,c,e,z⟩
     ·refine .inl ⟨k,?_⟩
      have:y≠x:=fun e=>hj (nodup_ix hN e1 (e ▸ hi))
      simp [this,e]
     ·exact .inr ⟨k,c,e,z.sameBut hs (cne y c e)⟩
   ·obtain ⟨w',z⟩:=I.cell y c e
    exact ⟨w',z.sameBut hs (cne y c e)⟩
   ·obtain ⟨e,n,ne,nf,d⟩:=I.pin p hp
    exact ⟨(hs.2 p.1 ne).trans e,n,ne,nf,d⟩
  ·have hfn:X.fn x=true:=by
    rcases hf with z|z
    ·exact z
    ·rw [z] at hk;cases hk
   obtain ⟨c,hc⟩:=I.ok.has x (.inl hk)
   obtain ⟨w',z⟩:=I.cell x c hc
   refine wpAny_storeName_cell I.ok.kind hk hc z (fun h' hc' hs=>?_)
   obtain ⟨oc,hoc,hocd⟩:=id z
   refine h { s with heap:=h' } ⟨I.ok,I.os,I.bare,⟨fun b o e n hb hx=>?_,fun b o e n hb hx=>?_,I.base.free,fun b o e hx=>?_,I.base.tups,I.base.frzs,I.base.tbls⟩,⟨m,hn.sameBut hs (Ne.symm (cne x c hc)),fun j y v' e1 e2 e3=>?_⟩,fun y c' e=>?_,I.free,I.freeC,fun p hp=>?_,tracked ⟨oc,hoc,I.freeC x c hc⟩ hs,by simpa using I.len⟩ ⟨c,hs,.inr hc⟩
   ·exact (hs.2 b (Nat.ne_of_lt (Nat.lt_of_lt_of_le (Heap.lt_size e) (I.ok.cab x c hfn hc)))).trans (I.base.keep b o e n hb hx)
   ·obtain ⟨sl,e1⟩:=I.base.slot b o e n hb hx
    exact ⟨sl,(hs.2 b (Nat.ne_of_lt (Nat.lt_of_lt_of_le (Heap.lt_size e) (I.ok.cab x c hfn hc)))).trans e1⟩
   ·obtain ⟨o',e1⟩:=I.base.there b o e hx
    exact ⟨o',(hs.2 b (Nat.ne_of_lt (Nat.lt_of_lt_of_le (Heap.lt_size e) (I.ok.cab x c hfn hc)))).trans e1⟩
   ·by_cases hj:j=i
    ·subst hj
     rw [hi] at e1;cases e1
     rw [List.getElem?_set_self hiσ] at e2
     cases e2
     exact ⟨u,r,.inr ⟨.inl hk,c,hc,hc'⟩⟩
    ·rw [List.getElem?_set_ne (Ne.symm hj)] at e2
     obtain ⟨u',r',q⟩:=hl j y v' e1 e2 e3
     refine ⟨u',r',?_⟩
     rcases q with q|⟨k,c',e,z'⟩
     ·exact .inl q
     ·refine .inr ⟨k,c',e,z'.sameBut hs ?_⟩
      rintro rfl
      exact hj (nodup_ix hN e1 (I.ok.inj _ _ _ e hc ▸ hi))
   ·by_cases hcc:c'=c
    ·subst hcc;exact ⟨_,hc'⟩
    ·obtain ⟨w2,z2⟩:=I.cell y c' e
     exact ⟨w2,z2.sameBut hs hcc⟩
   ·obtain ⟨e,n,ne,nf,d⟩:=I.pin p hp
    refine ⟨(hs.2 p.1 ?_).trans e,n,ne,nf,d⟩
    intro q
    rw [q,hoc] at e
    have q':oc=p.2:=Option.some.inj e
    exact d w' (by rw [← q'];exact hocd)
theorem store_ok {M:Model}{A:Around}{E:Value→Shared→Prop}{i:Nat}{x:Str}{v:V}{u:Value}{Q:Unit→Shared→Prop} (I:Inv X pins σ H s) (hN:X.N.Nodup) (hi:X.N[i]?=some x) (hx:Loc X.env.scope x) (r:RelV v u)
 (h : ∀ s',Inv X pins (σ.set i (some v)) H s'→Q () s') (hf:X.fn x=true∨X.env.scope.names.lookup x=some .local:=by first|exact .inl rfl|exact .inr rfl|assumption):wpAny M A (storeName X.env x u) Q E s :=
  store_ok2 I hN hi hx r (fun s' I' _=>h s' I') hf
theorem Inv.call' {s':Shared}{ch:List Addr} (I:Inv X pins σ H s) (ho:s'.os=s.os) (u:Un (frs X.stack) ch H H' s.heap s'.heap) (hok:HOk X.prog X.w H' s'.heap) (hg:AllBare s'.gens)
 (hch : ∀ b ∈ ch,(b ∈ X.ex∨X.s₀.heap.objs.size≤b)∧b≠X.env.locals∧(∀ x c,X.env.cells.lookup x=some c→c≠b) ∧ ∀ p ∈ X.pn++pins,p.1≠b):Inv X pins σ H' s':=by
  obtain ⟨h',g',d',t',o'⟩:=s'
  have e:o'=s.os:=ho
  subst e
  exact I.call (g':=g') (t':=t') (d':=d') u hok hg hch
end
abbrev XK:=Value→Option Addr→Hp→Prop
abbrev St:=List (Option V)
abbrev VK:=V→Hp→Prop
abbrev TE:=St→Hp→VK→Prop
abbrev TT:=St→Hp→(Bool→Hp→Prop)→Prop
abbrev TA:=St→Hp→(List V→Hp→Prop)→Prop
structure Ends where
 nx:St→Hp→Prop
 rt:VK
 bk:St→Hp→Prop:=fun _ _=>False
 ct:St→Hp→Prop:=fun _ _=>False
abbrev TS:=Ends→St→Hp→Prop
def EP (X:Cx) (pins:List (Addr×Obj)) (σ:St) (Q:VK) (u:Value) (s':Shared):Prop := ∃ v H',Inv X pins σ H' s'∧RelV v u∧Q v H'
def TP (X:Cx) (pins:List (Addr×Obj)) (σ:St) (Q:Bool→Hp→Prop) (b:Bool) (s':Shared):Prop := ∃ H',Inv X pins σ H' s'∧Q b H'
def AP (X:Cx) (pins:List (Addr×Obj)) (σ:St) (Q:List V→Hp→Prop) (us:List Value) (s':Shared):Prop := ∃ vs H',Inv X pins σ H' s'∧Vals vs us∧Q vs H'
def SP (X:Cx) (pins:List (Addr×Obj)) (D:Ends) (f:Flow) (s':Shared):Prop :=
 match f with
 | .next => ∃ σ' H',Inv X pins σ' H' s'∧D.nx σ' H'
 | .brk => ∃ σ' H',Inv X pins σ' H' s'∧D.bk σ' H'
 | .cont => ∃ σ' H',Inv X pins σ' H' s'∧D.ct σ' H'
 | .ret u => ∃ v σ' H',Inv X pins σ' H' s'∧RelV v u∧D.rt v H'
def PE (X:Cx) (e:Expr) (t:TE):Prop :=
 ∀ (pins:List (Addr×Obj)) (s:Shared) (σ:St) (H:Hp) (Q:VK),Inv X pins σ H s→t σ H Q→wpAny (model X.prog X.w) X.A (eval e X.env) (EP X pins σ Q) X.xe s
def PT (X:Cx) (e:Expr) (t:TT):Prop :=
 ∀ (pins:List (Addr×Obj)) (s:Shared) (σ:St) (H:Hp) (Q:Bool→Hp→Prop),Inv X pins σ H s→t σ H Q→wpAny (model X.prog X.w) X.A (isTrue e X.env (eval e X.env)) (TP X pins σ Q) X.xe s
def PW (X:Cx) (e:Expr) (t:TT):Prop :=
 ∀ (whole:Sem Value) (pins:List (Addr×Obj)) (s:Shared) (σ:St) (H:Hp) (Q:Bool→Hp→Prop),Inv X pins σ H s→t σ H Q→wpAny (model X.prog X.w) X.A (isTrue e X.env whole) (TP X pins σ Q) X.xe s
theorem PW.pt {X:Cx}{e:Expr}{t:TT} (h:PW X e t):PT X e t:=h _
def PA (X:Cx) (es:List Expr) (t:TA):Prop :=
 ∀ (pos:Pos) (pins:List (Addr×Obj)) (s:Shared) (σ:St) (H:Hp) (Q:List V→Hp→Prop),Inv X pins σ H s→t σ H Q→wpAny (model X.prog X.w) X.A (spliced (backTo pos (starEach es X.env))) (AP X pins σ Q) X.xe s
def PS (X:Cx) (st:Stmt) (t:TS):Prop :=
 ∀ (pins:List (Addr×Obj)) (s:Shared) (σ:St) (H:Hp) (D:Ends),Inv X pins σ H s→t D σ H→wpAny (model X.prog X.w) X.A (exec st X.env) (SP X pins D) X.xe s
def PSs (X:Cx) (st:List Stmt) (t:TS):Prop :=
 ∀ (pins:List (Addr×Obj)) (s:Shared) (σ:St) (H:Hp) (D:Ends),Inv X pins σ H s→t D σ H→wpAny (model X.prog X.w) X.A (execs st X.env) (SP X pins D) X.xe s
theorem thn {α:Type}{t:Sem α}{Q Q':α→Shared→Prop}{M:Model}{A:Around}{E:Value→Shared→Prop}{s:Shared} (h:wpAny M A t Q E s) (hQ : ∀ a s,Q a s→Q' a s):wpAny M A t Q' E s:=wpAny_mono h hQ fun _ _ x=>x
end L2
namespace L2
open PySem PySem.Spec PyProof.Rows
section
variable {X:Cx}
def tVar (i:Nat):TE:=fun σ H Q => ∃ v,σ[i]?=some (some v)∧Q v H
def tC (v:V):TE:=fun _ H Q=>Q v H
theorem pe_var {i:Nat}{x:Str}{pos:Pos} (hN:X.N[i]?=some x) (hv:Vis X.env.scope x) (hd:(x==("__debug__" : Str))=false:=by decide) (hcd:(x==("__classdict__" : Str))=false:=by decide):PE X (.Name x pos) (tVar i):=by
 intro pins s σ H Q I h
 obtain ⟨v,e,h⟩:=h
 obtain ⟨m,hn,hl⟩:=I.loc
 obtain ⟨u,r,l⟩:=hl i x v hN e hv
 have fin:EP X pins σ Q u s:=⟨v,H,I,r,h⟩
 rcases l with ⟨hk,hm⟩|⟨hk,c,hc,hcell⟩
 ·exact wpAny_Name (wpAny_loadName_local I.ok.kind hk hn hm fin) hd
 ·rcases hk with hk|hk
  ·exact wpAny_Name (wpAny_loadName_cell I.ok.kind hk hc hcell fin) hd
  ·exact wpAny_Name (wpAny_loadName_free I.ok.kind hk hc hcell fin hcd) hd
theorem pe_int {i j pos}:PE X (.Constant (.int i) j pos) (tC (.int i)):=fun _ _ _ H _ I h=>wpAny_Constant_int ⟨.int i,H,I.tok _,⟨_,rfl⟩,h⟩
theorem pe_bl {b j pos}:PE X (.Constant (.bool b) j pos) (tC (.bl b)):=fun _ _ _ H _ I h=>Constant_bool ⟨.bl b,H,I,rfl,h⟩
theorem pe_non {j pos}:PE X (.Constant .none j pos) (tC .non):=fun _ _ _ H _ I h=>Constant_none ⟨.non,H,I,rfl,h⟩
theorem pe_str {x j pos}:PE X (.Constant (.str x) j pos) (tC (.str x)):=fun _ _ _ H _ I h=>Calls.Constant_str ⟨.str x,H,I.tok _,⟨_,rfl⟩,h⟩
def Gl (X:Cx) (x:Str):Prop:=X.env.kindOf x=some .globalImplicit
theorem ld_glob {E:Value→Shared→Prop}{pins:List (Addr×Obj)}{s:Shared}{σ:St}{H:Hp}{x:Str}{u:Value}{pos:Pos}{Q:Value→Shared→Prop} (I:Inv X pins σ H s) (hg:Gl X x) (hm:X.mg x=some u) (h:Q u s)
 (hd:(x==("__debug__" : Str))=false:=by decide):wpAny (model X.prog X.w) X.A (eval (.Name x pos) X.env) Q E s :=
  Calls.Name_function_global I.ok.kind hg (Calls.loadGlobal_global (by rw [I.ok.glob];exact I.mod.glob.keeps I.bk) hm h) hd
theorem ld_blt {E:Value→Shared→Prop}{pins:List (Addr×Obj)}{s:Shared}{σ:St}{H:Hp}{x:Str}{u:Value}{pos:Pos}{Q:Value→Shared→Prop} (I:Inv X pins σ H s) (hg:Gl X x) (hm:X.mg x=none) (hv:bootBuiltins x=some u) (h:Q u s)
 (hn:x ≠ "__name__":=by decide) (hd:(x==("__debug__" : Str))=false:=by decide):wpAny (model X.prog X.w) X.A (eval (.Name x pos) X.env) Q E s:=by
  obtain ⟨mb,h1,h2⟩:=I.mod.blt
  exact Calls.Name_function_global I.ok.kind hg (Calls.loadGlobal_builtin (by rw [I.ok.glob];exact I.mod.glob.keeps I.bk) hm (by rw [I.ok.blt];exact h1.keeps I.bk) ((h2 x hn).trans hv) h) hd
theorem pe_glob {x:Str}{v:V}{u:Value}{pos:Pos} (hg:Gl X x) (hm:X.mg x=some u) (r:RelV v u) (hd:(x==("__debug__" : Str))=false:=by decide):PE X (.Name x pos) (tC v) :=
 fun _ _ _ H _ I h=>ld_glob I hg hm ⟨v,H,I,r,h⟩ hd
theorem pe_bltn {x:Str}{v:V}{u:Value}{pos:Pos} (hg:Gl X x) (hm:X.mg x=none) (hv:bootBuiltins x=some u) (r:RelV v u) (hn:x ≠ "__name__":=by decide) (hd:(x==("__debug__" : Str))=false:=by decide):PE X (.Name x pos) (tC v) :=
 fun _ _ _ H _ I h=>ld_blt I hg hm hv ⟨v,H,I,r,h⟩ hn hd
variable {a b:Expr}{ta tb:TE}{pos:Pos}
def tB (t:TE):TT:=fun σ H Q=>t σ H fun x H1 => ∃ c,x = .bl c∧Q c H1
theorem pt_val {e:Expr}{t:TE} (h:PE X e t) (he : ∀ whole,isTrue e X.env whole=(do let v ← whole;standAt e.pos;holding [v] (truthy v)):=by intro _;rfl):PT X e (tB t):=by
 intro pins s σ H Q I hw
 refine isTrue_plain (thn (h pins s σ H _ I hw) fun v s1 xx2=>?_) (he _)
 obtain ⟨x,H1,I1,r1,q1⟩:=xx2
 obtain ⟨d,rfl,q⟩:=q1
 cases r1
 exact wpAny_truthy_bool ⟨H1,I1,q⟩
variable {tA tB':TT}{rest:List Expr}
def tAnd (t u:TT):TT:=fun σ H Q=>t σ H fun c H1=>if c=true then u σ H1 Q else Q false H1
def tOr (t u:TT):TT:=fun σ H Q=>t σ H fun c H1=>if c=true then Q true H1 else u σ H1 Q
def tNot (t:TT):TT:=fun σ H Q=>t σ H fun c H1=>Q (!c) H1
theorem pw_and1 (ha:PT X a tA):PW X (.BoolOp .And [a] pos) tA:=by
 intro wh pins s σ H Q I h
 refine isTrue_and (thn (ha pins s σ H Q I h) fun c s1 e=>?_)
 cases c with
 | true=>exact isTrue_and_nil e
 | false=>exact e
theorem pw_or1 (ha:PT X a tA):PW X (.BoolOp .Or [a] pos) tA:=by
 intro wh pins s σ H Q I h
 refine isTrue_or (thn (ha pins s σ H Q I h) fun c s1 e=>?_)
 cases c with
 | false=>exact isTrue_or_nil e
 | true=>exact e
theorem pw_and (ha:PT X a tA) (hb:PW X (.BoolOp .And (b::rest) pos) tB'):PW X (.BoolOp .And (a::b::rest) pos) (tAnd tA tB'):=by
 intro wh pins s σ H Q I h
 refine isTrue_and (thn (ha pins s σ H _ I h) fun c s1 xx3=>?_)
 obtain ⟨H1,I1,q1⟩:=xx3
 cases c with
 | true=>exact hb wh pins s1 σ H1 Q I1 q1
 | false=>exact ⟨H1,I1,q1⟩
theorem pw_or (ha:PT X a tA) (hb:PW X (.BoolOp .Or (b::rest) pos) tB'):PW X (.BoolOp .Or (a::b::rest) pos) (tOr tA tB'):=by
 intro wh pins s σ H Q I h
 refine isTrue_or (thn (ha pins s σ H _ I h) fun c s1 xx4=>?_)
 obtain ⟨H1,I1,q1⟩:=xx4
 cases c with
 | true=>exact ⟨H1,I1,q1⟩
 | false=>exact hb wh pins s1 σ H1 Q I1 q1
theorem pt_not (ha:PT X a tA):PT X (.UnaryOp .Not a pos) (tNot tA):=by
 intro pins s σ H Q I h
 exact isTrue_not (ha pins s σ H (fun c H1=>Q (!c) H1) I h)
def tAndV (ta tb:TE):TE:=fun σ H Q=>ta σ H fun x H1 => ∃ c,x = .bl c∧if c=true then tb σ H1 Q else Q (.bl false) H1
def tOrV (ta tb:TE):TE:=fun σ H Q=>ta σ H fun x H1 => ∃ c,x = .bl c∧if c=true then Q (.bl true) H1 else tb σ H1 Q
def tNotV (ta:TE):TE:=fun σ H Q=>ta σ H fun x H1 => ∃ c,x = .bl c∧Q (.bl (!c)) H1
theorem pe_one {op}{t:TE} (h:PE X a t):PE X (.BoolOp op [a] pos) t:=fun pins s σ H Q I hw=>BoolOp_one (h pins s σ H Q I hw)
theorem pe_and (ha:PE X a ta) (hb:PE X (.BoolOp .And (b::rest) pos) tb):PE X (.BoolOp .And (a::b::rest) pos) (tAndV ta tb):=by
 intro pins s σ H Q I h
 refine BoolOp_and (thn (ha pins s σ H _ I h) fun v s1 xx5=>?_)
 obtain ⟨x,H1,I1,r1,q1⟩:=xx5
 obtain ⟨c,rfl,q1⟩:=q1
 cases r1
 refine wpAny_truthy_bool ?_
 cases c with
 | true=>exact hb pins s1 σ H1 Q I1 q1
 | false=>exact ⟨.bl false,H1,I1,rfl,q1⟩
theorem pe_or (ha:PE X a ta) (hb:PE X (.BoolOp .Or (b::rest) pos) tb):PE X (.BoolOp .Or (a::b::rest) pos) (tOrV ta tb):=by
 intro pins s σ H Q I h
 refine BoolOp_or (thn (ha pins s σ H _ I h) fun v s1 xx6=>?_)
 obtain ⟨x,H1,I1,r1,q1⟩:=xx6
 obtain ⟨c,rfl,q1⟩:=q1
 cases r1
 refine wpAny_truthy_bool ?_
 cases c with
 | false=>exact hb pins s1 σ H1 Q I1 q1
 | true=>exact ⟨.bl true,H1,I1,rfl,q1⟩
theorem pe_not (ha:PE X a ta):PE X (.UnaryOp .Not a pos) (tNotV ta):=by
 intro pins s σ H Q I h
 refine UnaryOp_ (thn (ha pins s σ H _ I h) fun v s1 xx7=>?_)
 obtain ⟨x,H1,I1,r1,q1⟩:=xx7
 obtain ⟨c,rfl,q1⟩:=q1
 cases r1
 exact not_of (wpAny_truthy_bool ⟨.bl (!c),H1,I1,rfl,q1⟩)
def tIf (t:TT) (ta tb:TE):TE:=fun σ H Q=>t σ H fun c H1=>if c=true then ta σ H1 Q else tb σ H1 Q
theorem pe_ifExp {c:Expr} (hc:PT X c tA) (ha:PE X a ta) (hb:PE X b tb):PE X (.IfExp c a b pos) (tIf tA ta tb):=by
 intro pins s σ H Q I h
 refine wpAny_IfExp (thn (hc pins s σ H _ I h) fun d s1 xx8=>?_)
 obtain ⟨H1,I1,q1⟩:=xx8
 cases d with
 | true=>exact ha pins s1 σ H1 Q I1 q1
 | false=>exact hb pins s1 σ H1 Q I1 q1
end
end L2
namespace L2
open PySem PySem.Spec PyProof.Rows
def SqL (K:PySem.W.Frag) (H:Hp) (a:Addr) (xs:List V):Prop :=
 Rd H a (.lst xs) ∨
  ∃ (o:Obj) (its:Array Value) (n:Nat),K.lookup a=some o∧o.cls = .type "list" ∧ o.dict=none∧o.data = .seq its n∧its.size≤sizeLine∧Vals xs its.toList
def SqT (K:PySem.W.Frag) (H:Hp) (a:Addr) (xs:List V):Prop :=
 Rd H a (.tup xs) ∨
  ∃ (o:Obj) (its:Array Value) (n:Nat),K.lookup a=some o∧o.cls = .type "tuple" ∧ o.data = .seq its n∧its.size≤sizeLine∧Vals xs its.toList
def absV:Value→Option V
 | .none=>some .non
 | .bool b=>some (.bl b)
 | .int i _=>some (.int i)
 | .str x _=>some (.str x)
 | .bytes b _=>some (.byt b)
 | .float b _=>some (.flt b)
 | .ref a=>some (.ref a)
 | .type n=>some (.ty n)
 | _=>none
theorem RelV.abs {x:V}{u:Value} (r:RelV x u):absV u=some x:=by
 cases x with
 | non=>cases r;rfl
 | bl _=>cases r;rfl
 | int _=>obtain ⟨t,rfl⟩:=r;rfl
 | str _=>obtain ⟨t,rfl⟩:=r;rfl
 | byt _=>obtain ⟨t,rfl⟩:=r;rfl
 | flt _=>obtain ⟨t,rfl⟩:=r;rfl
 | ref _=>cases r;rfl
 | ty _=>cases r;rfl
theorem RelV.inj {x y:V}{u:Value} (r:RelV x u) (q:RelV y u):x=y:=Option.some.inj (r.abs.symm.trans q.abs)
theorem Vals.inj : ∀ {xs ys:List V}{us:List Value},Vals xs us→Vals ys us→xs=ys
 | _,_,_,.nil,.nil=>rfl
 | _,_,_,.cons r t,.cons r' t'=>by rw [r.inj r',Vals.inj t t']
section
variable {X:Cx}{pins:List (Addr×Obj)}{σ:St}{H:Hp}{s:Shared}{a:Addr}{xs ys:List V}
theorem SqL.of {K:PySem.W.Frag} (h:H a=some (.lst xs)):SqL K H a xs :=.inl (.inl h)
theorem SqT.of {K:PySem.W.Frag} (h:H a=some (.tup xs)):SqT K H a xs :=.inl (.inl h)
theorem Inv.list (I:Inv X pins σ H s) (h:SqL X.K H a xs) : ∃ its:List Value,Vals xs its∧PlainL s.heap a its.toArray∧xs.length≤sizeLine:=by
 rcases h with h|⟨o,its,n,hk,hc,hd,hs,hz,r⟩
 ·obtain ⟨z,its,n,r,e⟩:=h.ok I.hok
  exact ⟨its,r,⟨_,n,e,rfl,rfl,rfl⟩,z⟩
 ·refine ⟨its.toList,r,⟨o,n,I.kIn a o hk,hc,hd,by simpa using hs⟩,?_⟩
  have e:=r.length
  simp only [Array.length_toList] at e
  omega
theorem Inv.tuple (I:Inv X pins σ H s) (h:SqT X.K H a xs) : ∃ its:List Value,Vals xs its∧IsTup s.heap a its.toArray∧xs.length≤sizeLine:=by
 rcases h with h|⟨o,its,n,hk,hc,hs,hz,r⟩
 ·obtain ⟨z,its,r,p⟩:=h.ok I.hok
  exact ⟨its,r,p,z⟩
 ·refine ⟨its.toList,r,⟨o,I.kIn a o hk,hc,n,by simpa using hs⟩,?_⟩
  have e:=r.length
  simp only [Array.length_toList] at e
  omega
theorem Inv.list_inj (I:Inv X pins σ H s) (h:SqL X.K H a xs) (h':SqL X.K H a ys):xs=ys:=by
 obtain ⟨its,r,⟨o,n,e,_,_,d⟩,_⟩:=I.list h
 obtain ⟨its',r',⟨o',n',e',_,_,d'⟩,_⟩:=I.list h'
 rw [e] at e';cases e'
 rw [d] at d'
 injection d' with d1 _
 have:its=its':=by simpa using congrArg Array.toList d1
 subst this
 exact r.inj r'
theorem Inv.tuple_inj (I:Inv X pins σ H s) (h:SqT X.K H a xs) (h':SqT X.K H a ys):xs=ys:=by
 obtain ⟨its,r,⟨o,e,_,n,d⟩,_⟩:=I.tuple h
 obtain ⟨its',r',⟨o',e',_,n',d'⟩,_⟩:=I.tuple h'
 rw [e] at e';cases e'
 rw [d] at d'
 injection d' with d1 _
 have:its=its':=by simpa using congrArg Array.toList d1
 subst this
 exact r.inj r'
end
abbrev Cx.wish (X:Cx) (E:Value→Shared→Prop):Cx:={ X with xe:=E }
abbrev Cx.nox (X:Cx):Cx:=X.wish fun _ _=>False
theorem Cx.Ok.wish {X:Cx} (ok:X.Ok) (E:Value→Shared→Prop):(X.wish E).Ok :=
 ⟨ok.mod,ok.kind,ok.glob,ok.blt,ok.above,ok.inj,ok.has,ok.cab,ok.hd,ok.frames,ok.stk,ok.exf,ok.bs,ok.bsz,ok.noex,ok.exfs,ok.funs,ok.frf⟩
theorem Cx.Ok.unwish {X:Cx}{E:Value→Shared→Prop} (ok:(X.wish E).Ok):X.Ok :=
 ⟨ok.mod,ok.kind,ok.glob,ok.blt,ok.above,ok.inj,ok.has,ok.cab,ok.hd,ok.frames,ok.stk,ok.exf,ok.bs,ok.bsz,ok.noex,ok.exfs,ok.funs,ok.frf⟩
section
variable {X:Cx}{pins:List (Addr×Obj)}{σ:St}{H:Hp}{s:Shared}{E:Value→Shared→Prop}
theorem Inv.wish (I:Inv X pins σ H s) (E:Value→Shared→Prop):Inv (X.wish E) pins σ H s:=⟨I.ok.wish E,I.os,I.bare,I.base,I.loc,I.cell,I.free,I.freeC,I.pin,I.hok,I.len⟩
theorem Inv.unwish (I:Inv (X.wish E) pins σ H s):Inv X pins σ H s:=⟨I.ok.unwish,I.os,I.bare,I.base,I.loc,I.cell,I.free,I.freeC,I.pin,I.hok,I.len⟩
theorem SP.unwish {D:Ends}{f:Flow}{s':Shared} (h:SP (X.wish E) pins D f s'):SP X pins D f s':=by
 cases f with
 | next=>obtain ⟨σ',H',I,q⟩:=h;exact ⟨σ',H',I.unwish,q⟩
 | brk=>obtain ⟨σ',H',I,q⟩:=h;exact ⟨σ',H',I.unwish,q⟩
 | cont=>obtain ⟨σ',H',I,q⟩:=h;exact ⟨σ',H',I.unwish,q⟩
 | ret u=>obtain ⟨v,σ',H',I,r,q⟩:=h;exact ⟨v,σ',H',I.unwish,r,q⟩
theorem PSs.nox {st:List Stmt}{t:TS} (h:PSs X.nox st t):PSs X st t:=fun pins s σ H D I hw =>
 wpAny_mono (h pins s σ H D (I.wish _) hw) (fun _ _ q=>q.unwish) fun _ _ z=>False.elim z
end
section
variable {X:Cx}{st:Stmt}{rest:List Stmt}{t u:TS}{e:Expr}{te:TE}{pos:Pos}
def tNext:TS:=fun D σ H=>D.nx σ H
def tSeq (t u:TS):TS:=fun D σ H=>t { D with nx:=u D } σ H
theorem pss_nil:PSs X [] tNext:=fun _ _ σ H _ I h=>wpAny_execs_nil ⟨σ,H,I,h⟩
theorem pss_cons (h1:PS X st t) (h2:PSs X rest u):PSs X (st::rest) (tSeq t u):=by
 intro pins s σ H D I h
 refine wpAny_execs_cons (thn (h1 pins s σ H { D with nx:=u D } I h) fun f s1 q=>?_)
 cases f with
 | next =>
  obtain ⟨σ',H',I',q⟩:=q
  exact h2 pins s1 σ' H' D I' q
 | ret v=>exact q
 | brk=>exact q
 | cont=>exact q
theorem pss_one (h1:PS X st t):PSs X [st] t:=by
 intro pins s σ H D I h
 refine wpAny_execs_cons (thn (h1 pins s σ H D I h) fun f s1 q=>?_)
 cases f with
 | next=>exact wpAny_execs_nil q
 | ret v=>exact q
 | brk=>exact q
 | cont=>exact q
theorem Inv.quiet {pins:List (Addr×Obj)}{σ:St}{H:Hp}{s:Shared} (I:Inv X pins σ H s):interactive X.env=false:=by simp [interactive,I.ok.kind]
def tDrop (te:TE):TS:=fun D σ H=>te σ H fun _ H1=>D.nx σ H1
theorem ps_expr (he:PE X e te) (hs:swapsWith e none pos.line X.env=pure false:=by rfl):PS X (.Expr e pos) (tDrop te):=by
 intro pins s σ H D I h
 exact wpAny_Expr_any (thn (he pins s σ H _ I h) fun v s1 xx11=>by obtain ⟨x,H1,I1,r1,q1⟩:=xx11;exact ⟨σ,H1,I1,q1⟩) I.quiet hs
def tRet (te:TE):TS:=fun D σ H=>te σ H D.rt
theorem ps_ret (he:PE X e te):PS X (.Return (some e) pos) (tRet te):=by
 intro pins s σ H D I h
 exact wpAny_Return_some (thn (he pins s σ H _ I h) fun v s1 xx12=>by obtain ⟨x,H1,I1,r1,q1⟩:=xx12;exact ⟨x,σ,H1,I1,r1,q1⟩)
def tIfS (c:TT) (t u:TS):TS:=fun D σ H=>c σ H fun b H1=>if b=true then t D σ H1 else u D σ H1
theorem ps_if {c:Expr}{a b:List Stmt}{tc:TT} (hc:PT X c tc) (ha:PSs X a t) (hb:PSs X b u):PS X (.If c a b pos) (tIfS tc t u):=by
 intro pins s σ H D I h
 refine wpAny_If (thn (hc pins s σ H _ I h) fun d s1 xx13=>?_)
 obtain ⟨H1,I1,q1⟩:=xx13
 cases d with
 | true=>exact ha pins s1 σ H1 D I1 q1
 | false=>exact hb pins s1 σ H1 D I1 q1
def tNever:TS:=fun _ _ _=>False
theorem pss_never {sts:List Stmt}:PSs X sts tNever:=fun _ _ _ _ _ _ h=>h.elim
end
abbrev TG:=V→St→Hp→(St→Hp→Prop)→Prop
abbrev TGs:=List V→St→Hp→(St→Hp→Prop)→Prop
def PG (X:Cx) (target:Expr) (t:TG):Prop :=
 ∀ (pins:List (Addr×Obj)) (s:Shared) (σ:St) (H:Hp) (v:V) (u:Value) (Q:St→Hp→Prop),Inv X pins σ H s→RelV v u→t v σ H Q →
  wpAny (model X.prog X.w) X.A (assign target X.env u) (fun _ s' => ∃ σ' H',Inv X pins σ' H' s'∧Q σ' H') X.xe s
def PGs (X:Cx) (ts:List Expr) (t:TGs):Prop :=
 ∀ (pins:List (Addr×Obj)) (s:Shared) (σ:St) (H:Hp) (vs:List V) (us:List Value) (Q:St→Hp→Prop),Inv X pins σ H s→Vals vs us→t vs σ H Q →
  wpAny (model X.prog X.w) X.A (assignInOrder ((assignEach ts X.env).map (·.2)) us) (fun _ s' => ∃ σ' H',Inv X pins σ' H' s'∧Q σ' H') X.xe s
abbrev TSet:=V→V→V→Hp→(Hp→Prop)→Prop
def PSet (X:Cx) (t:TSet):Prop :=
 ∀ (pins:List (Addr×Obj)) (s:Shared) (σ:St) (H:Hp) (o i v:V) (ov iv u:Value) (Q:Hp→Prop),Inv X pins σ H s→RelV o ov→RelV i iv→RelV v u→t o i v H Q →
  wpAny (model X.prog X.w) X.A (setItem ov iv u) (fun _ s' => ∃ H',Inv X pins σ H' s'∧Q H') X.xe s
section
variable {X:Cx}{pos:Pos}
def gName (i:Nat):TG:=fun v σ H Q=>Q (σ.set i (some v)) H
theorem pg_name {i:Nat}{x:Str} (hN:X.N.Nodup) (hi:X.N[i]?=some x) (hx:Loc X.env.scope x) (hf:X.fn x=true∨X.env.scope.names.lookup x=some .local:=by first|exact .inl rfl|exact .inr rfl|assumption):PG X (.Name x pos) (gName i):=by
 intro pins s σ H v u Q I r h
 exact wpAny_assign_Name (store_ok I hN hi hx r (fun s' I'=>⟨_,H,I',h⟩) hf)
def gNil:TGs:=fun vs σ H Q=>vs=[]∧Q σ H
def gCons (t:TG) (u:TGs):TGs:=fun vs σ H Q => ∃ v r,vs=v::r∧t v σ H fun σ' H'=>u r σ' H' Q
theorem pgs_nil:PGs X [] gNil:=by
 intro pins s σ H vs us Q I r h
 obtain ⟨e,h⟩:=h
 subst e
 cases r
 exact assignInOrder_nil ⟨σ,H,I,h⟩
theorem pgs_cons {e:Expr}{es:List Expr}{t:TG}{u:TGs} (h1:PG X e t) (h2:PGs X es u)
 (hs:(assignEach (e::es) X.env).map (·.2)=assign e X.env::(assignEach es X.env).map (·.2):=by rfl):PGs X (e::es) (gCons t u):=by
  intro pins s σ H vs us Q I r h
  obtain ⟨v,vr,e1,h⟩:=h
  subst e1
  cases r with
  | cons r rr =>
   rw [hs]
   refine assignInOrder_cons (thn (h1 pins s σ H _ _ _ I r h) fun _ s1 xx14=>?_)
   obtain ⟨σ1,H1,I1,q1⟩:=xx14
   exact h2 pins s1 σ1 H1 _ _ Q I1 rr q1
def gTup (K:PySem.W.Frag) (n:Nat) (t:TGs):TG:=fun v σ H Q => ∃ a xs,v = .ref a∧SqT K H a xs∧xs.length=n∧t xs σ H Q
theorem pg_tup {es:List Expr}{k:Nat}{t:TGs}{n:Nat} (hc:X.calm=true) (h:PGs X es t)
 (hn:(assignEach es X.env).length=n:=by rfl) (hst:(assignEach es X.env).findIdx? (·.1)=none:=by rfl):PG X (.Tuple es k pos) (gTup X.K n t):=by
  intro pins s σ H v u Q I r hw
  obtain ⟨a,xs,e1,hq,hl,hw⟩:=hw
  subst e1
  cases r
  obtain ⟨its,rv,ht,hz⟩:=I.tuple hq
  refine assign_Tuple_tuple (I.ok.hd hc) ht (by simp [hn,← hl,rv.length]) hst fun h' hx=>?_
  have I1:Inv X pins σ H { s with heap:=h' }:=I.kept (t':=s.toks) fun b o e=>hx b o (Nat.ne_of_lt (Heap.lt_size e)) e
  exact h pins _ σ H xs _ Q I1 (by simpa using rv) hw
def gSub (to ti:TE) (t:TSet):TG:=fun v σ H Q=>to σ H fun o H1=>ti σ H1 fun i H2=>t o i v H2 fun H3=>Q σ H3
theorem pg_sub {o i:Expr}{to ti:TE}{t:TSet} (ho:PE X o to) (hi:PE X i ti) (hs:PSet X t)
 (ha : ∀ v,assign (.Subscript o i pos) X.env v=(do
 let ov ← holding [v] (eval o X.env)
 let iv ← holding [v,ov] (eval i X.env)
 standAt pos
 holding [v,ov,iv] (setItem ov iv v)
 release [v,ov,iv] []):=by intro _;rfl):PG X (.Subscript o i pos) (gSub to ti t):=by
  intro pins s σ H v u Q I r h
  rw [ha]
  refine wpAny_bind (wpAny_holding (thn (ho pins s σ H _ I h) fun ov s1 xx17=>?_))
  obtain ⟨x,H1,I1,r1,q1⟩:=xx17
  refine wpAny_bind (wpAny_holding (thn (hi pins s1 σ H1 _ I1 q1) fun iv s2 xx16=>?_))
  obtain ⟨y,H2,I2,r2,q2⟩:=xx16
  refine wpAny_bind (wpAny_standAt (wpAny_bind (wpAny_holding (thn (hs pins s2 σ H2 x y v ov iv u _ I2 r1 r2 r q2) fun _ s3 xx15=>?_))))
  obtain ⟨H3,I3,q3⟩:=xx15
  exact wpAny_release ⟨σ,H3,I3,q3⟩
def tAsg (te:TE) (g:TG):TS:=fun D σ H=>te σ H fun x H1=>g x σ H1 D.nx
theorem ps_asg {tg e:Expr}{te:TE}{g:TG} (he:PE X e te) (hg:PG X tg g) (hs:swapsWithSole [tg] e pos.line X.env=pure false:=by rfl) (hw:swappedStores [tg] e X.env=pure none:=by rfl)
 (h1:(assignEach [tg] X.env).map (·.2)=[assign tg X.env]:=by rfl):PS X (.Assign [tg] e pos) (tAsg te g):=by
 intro pins s σ H D I h
 refine wpAny_Assign_stores (thn (he pins s σ H _ I h) fun v s1 xx18=>?_) hs hw
 obtain ⟨x,H1,I1,r1,q1⟩:=xx18
 rw [h1]
 exact thn (hg pins s1 σ H1 x v _ I1 r1 q1) fun _ s2 q=>q
theorem ps_set {i:Nat}{x:Str}{e:Expr}{te:TE}{pos':Pos} (hN:X.N.Nodup) (hi:X.N[i]?=some x) (hx:Loc X.env.scope x) (he:PE X e te) (hs:swapsWith e (some (.Name x pos')) pos.line X.env=pure false:=by rfl) (hf:X.fn x=true∨X.env.scope.names.lookup x=some .local:=by first|exact .inl rfl|exact .inr rfl|assumption) :
 PS X (.Assign [.Name x pos'] e pos) (tAsg te (gName i)):=by
 intro pins s σ H D I h
 refine wpAny_Assign_Name (thn (he pins s σ H _ I h) fun v s1 xx19=>?_) hs
 obtain ⟨y,H1,I1,r1,q1⟩:=xx19
 exact store_ok I1 hN hi hx r1 (fun s2 I2=>⟨_,H1,I2,q1⟩) hf
def tPar (i j:Nat) (ta:TA):TS:=fun D σ H=>ta σ H fun vs H1 => ∃ v w,vs=[v,w]∧D.nx ((σ.set i (some v)).set j (some w)) H1
theorem ps_par {i j:Nat}{x y:Str}{a b:Expr}{ta:TA}{px py pt:Pos}{kt k2 pt2} (hc:X.calm=true) (hN:X.N.Nodup) (hi:X.N[i]?=some x) (hj:X.N[j]?=some y) (hij:i≠j)
 (hx:X.env.scope.names.lookup x=some .local) (hy:X.env.scope.names.lookup y=some .local) (ha:PA X [a,b] ta)
 (hw:swappedStores [.Tuple [.Name x px,.Name y py] kt pt] (.Tuple [a,b] k2 pt2) X.env=pure (some [x,y]))
 (hs:swapsWithSole [.Tuple [.Name x px,.Name y py] kt pt] (.Tuple [a,b] k2 pt2) pos.line X.env=pure false:=by rfl) :
  PS X (.Assign [.Tuple [.Name x px,.Name y py] kt pt] (.Tuple [a,b] k2 pt2) pos) (tPar i j ta):=by
  intro pins s σ H D I h
  rw [exec_Assign_arm]
  refine wpAny_bind (wpAny_standAt ?_)
  rw [hs]
  refine wpAny_bind (wpAny_pure ?_)
  rw [if_neg (by decide)]
  refine wpAny_bind (Tuple_ (thn (ha _ pins s σ H _ I h) fun us s1 xx20=>?_))
  obtain ⟨vs,H1,I1,r1,q1⟩:=xx20
  obtain ⟨v,w,e1,q1⟩:=q1
  subst e1
  obtain ⟨u1,u2,rfl,rv,rw'⟩ : ∃ u1 u2,us=[u1,u2]∧RelV v u1∧RelV w u2:=by
   cases r1 with
   | cons p q =>
    cases q with
    | cons p' q' =>
     cases q'
     exact ⟨_,_,rfl,p,p'⟩
  refine wpAny_newObj_type ?_ (by show 2≤sizeLine;decide)
  have I2:Inv X pins σ H1 { s1 with heap:=s1.heap.push { cls :=.type "tuple",data :=.seq [u1,u2].toArray } }:=I1.kept (t':=s1.toks) fun b o e=>Heap.get?_push_of_some _ e
  rw [hw]
  refine wpAny_bind (wpAny_pure ?_)
  show wpAny (model X.prog X.w) X.A (do rule "assign.swapped-stores";let items ← unpackItems (.ref s1.heap.objs.size) 2 none;assignInOrder [fun v=>bindName X.env y v,fun v=>bindName X.env x v] items.reverse;pure Flow.next) _ _ _
  refine wpAny_bind (wpAny_rule (wpAny_bind (unpackItems_tuple (items := #[u1,u2]) (I.ok.hd hc) (IsTup.new s1.heap _) fun h' hx'=>?_)))
  have I3:=I2.kept (h':=h') (t':=s1.toks) fun b o e=>hx' b o (Nat.ne_of_lt (Heap.lt_size e)) e
  show wpAny _ _ (assignInOrder [fun v=>bindName X.env y v,fun v=>bindName X.env x v] [u2,u1] >>= fun _=>pure Flow.next) _ _ _
  refine wpAny_bind (assignInOrder_cons (wpAny_bindName (store_ok I3 hN hj (.inl hy) rw' (fun s2 I4=>?_) (.inr hy))))
  refine assignInOrder_cons (wpAny_bindName (store_ok I4 hN hi (.inl hx) rv (fun s3 I5=>assignInOrder_nil (wpAny_pure ?_)) (.inr hx)))
  rw [List.set_comm _ _ (Ne.symm hij)] at I5
  exact ⟨_,H1,I5,q1⟩
end
section
variable {X:Cx}{pos:Pos}
def tWhile (c:TT) (tb:TS):TS:=fun D σ H => ∃ W:Nat→St→Hp→Prop,(∃ m,W m σ H) ∧ ∀ m σ H,W m σ H →
 c σ H fun b H1=>if b=true then ∃ N:St→Hp→Prop,(∀ σ' H',N σ' H' → ∃ m',m'<m∧W m' σ' H')∧tb { D with nx:=N,ct:=N,bk:=D.nx } σ H1 else D.nx σ H1
theorem ps_while {c:Expr}{body:List Stmt}{tc:TT}{tb:TS} (hp:PassesOwn (model X.prog X.w) X.A X.env X.xe) (hc:PT X c tc) (hb:PSs X body tb):PS X (.While c body [] pos) (tWhile tc tb):=by
 intro pins s σ H D I h
 obtain ⟨W,⟨m0,w0⟩,turn⟩:=h
 refine wpAny_While (codeAny_whileLoop (fun n s' => ∃ σ' H',Inv X pins σ' H' s'∧W n σ' H') ?_ m0 ⟨σ,H,I,w0⟩)
 rintro n s1 ⟨σ1,H1,I1,w1⟩
 refine wpAny_passesOwn hp (thn (hc pins s1 σ1 H1 _ I1 (turn n σ1 H1 w1)) fun b s2 xx21=>?_)
 obtain ⟨H2,I2,q2⟩:=xx21
 cases b with
 | true =>
  obtain ⟨N,hN,q2⟩:=q2
  rw [if_pos rfl]
  refine wpAny_passesOwn hp (thn (hb pins s2 σ1 H2 _ I2 q2) fun f s3 q3=>?_)
  cases f with
  | next =>
   obtain ⟨σ3,H3,I3,n3⟩:=q3
   obtain ⟨m',hm,w3⟩:=hN σ3 H3 n3
   exact ⟨m',hm,σ3,H3,I3,w3⟩
  | cont =>
   obtain ⟨σ3,H3,I3,n3⟩:=q3
   obtain ⟨m',hm,w3⟩:=hN σ3 H3 n3
   exact ⟨m',hm,σ3,H3,I3,w3⟩
  | brk=>exact q3
  | ret v=>exact q3
 | false =>
  rw [if_neg Bool.false_ne_true]
  exact wpAny_execs_nil ⟨σ1,H2,I2,q2⟩
end
structure It where
 go:Nat→Hp→Prop
 yld:Nat→Hp→V→Hp→Prop
 stop:Nat→Hp→Prop
def FpOk (X:Cx) (pins:List (Addr×Obj)) (H:Hp) (b:Addr):Prop :=
 H b=none∧b≠X.env.locals∧b ∉ X.fs∧(b ∈ X.ex∨X.s₀.heap.objs.size≤b)∧(∀ x c,X.env.cells.lookup x=some c→c≠b) ∧ ∀ p ∈ X.pn++pins,p.1≠b
theorem Inv.fpOk {X:Cx}{pins:List (Addr×Obj)}{σ:St}{H H':Hp}{s:Shared}{b:Addr} (I:Inv X pins σ H s) (hb:s.heap.objs.size≤b) (hn:H' b=none):FpOk X pins H' b:=by
 refine ⟨hn,Nat.ne_of_gt (Nat.lt_of_lt_of_le I.lt hb),I.nofs hb,.inr (Nat.le_trans I.sz hb),fun x c e z=>?_,fun p hp z=>?_⟩
 ·obtain ⟨v,q⟩:=I.cell x c e
  exact absurd (Nat.lt_of_lt_of_le q.lt (by rw [z];exact hb)) (Nat.lt_irrefl _)
 ·exact absurd (Nat.lt_of_lt_of_le (Heap.lt_size (I.pin p hp).1) (by rw [z];exact hb)) (Nat.lt_irrefl _)
structure Turn (P:Program) (w:World) (K:PySem.W.Frag) (tg:Expr) (J:It) (fp:List Addr) (it:Addr) (tn:Nat→Heap→Prop):Prop where
 mem:it ∈ fp
 obj : ∀ i h,tn i h → ∀ b ∈ fp,∃ o,h.get? b=some o ∧ ∀ v,o.data ≠ .cell v
 keep : ∀ i h h',tn i h→(∀ b ∈ fp,∀ o,h.get? b=some o→h'.get? b=some o)→tn i h'
 item : ∀ (X:Cx),X.prog=P→X.w=w→X.K=K→X.calm=true → ∀ (i:Nat) (pins:List (Addr×Obj)) (s:Shared) (σ:St) (H:Hp) (E:Value→Shared→Prop),Inv X pins σ H s→(∀ b ∈ fp,FpOk X pins H b)→tn i s.heap→J.go i H →
  wpAny (model P w) X.A (pyNext (.ref it)) (fun r s1 => ∃ u,r=some u ∧
   wpAny (model P w) X.A (letOwnedTupleGo tg (.ref it) u) (fun _ s2 => ∃ x H',Inv X pins σ H' s2∧RelV x u∧J.yld i H x H'∧tn (i+1) s2.heap ∧ ∀ b ∈ fp,H' b=none) E s1) E s
 done : ∀ (X:Cx),X.prog=P→X.w=w→X.K=K→X.calm=true → ∀ (i:Nat) (pins:List (Addr×Obj)) (s:Shared) (σ:St) (H:Hp) (E:Value→Shared→Prop),Inv X pins σ H s→(∀ b ∈ fp,FpOk X pins H b)→tn i s.heap→J.stop i H →
  wpAny (model P w) X.A (pyNext (.ref it)) (fun r s1=>r=none∧Inv X pins σ H s1) E s
 self : ∀ (A:Around) (i:Nat) (s:Shared) (Q:Value→Shared→Prop) (E:Value→Shared→Prop),tn i s.heap→Q (.ref it) s→wpAny (model P w) A (pyIter (.ref it)) Q E s
abbrev TI:=St→Hp→(It→Hp→Prop)→Prop
def PIE (X:Cx) (pins:List (Addr×Obj)) (σ:St) (tg:Expr) (R:It→Hp→Prop) (itv:Value) (s2:Shared):Prop :=
 ∃ (it:Addr) (fp:List Addr) (tn:Nat→Heap→Prop) (J:It) (H':Hp),itv = .ref it∧Inv X pins σ H' s2∧Turn X.prog X.w X.K tg J fp it tn∧tn 0 s2.heap∧(∀ b ∈ fp,FpOk X pins H' b)∧R J H'
def PI (X:Cx) (tg iter:Expr) (wi:TI):Prop :=
 ∀ (pins:List (Addr×Obj)) (s:Shared) (σ:St) (H:Hp) (R:It→Hp→Prop),Inv X pins σ H s→wi σ H R →
  wpAny (model X.prog X.w) X.A (eval iter X.env) (fun v s1=>wpAny (model X.prog X.w) X.A (pyIter v) (PIE X pins σ tg R) X.xe s1) X.xe s
theorem go_of {M:Model}{A:Around}{E:Value→Shared→Prop}{s:Shared}{tg:Expr}{it:Addr}{u:Value}{o:Obj}{n:String}{vs:Array Value}{Q:Unit→Shared→Prop} (ho:s.heap.get? it=some o) (hc:o.cls = .type n) (hd:o.data = .fields vs)
 (hn:["enumerate","zip","dict_itemiterator","dict_reverseitemiterator","odict_iterator","itertools.zip_longest","itertools.pairwise"].contains n=false) (hQ:Q () s):wpAny M A (letOwnedTupleGo tg (.ref it) u) Q E s:=by
  unfold letOwnedTupleGo
  cases tg <;> first
   | exact wpAny_pure hQ
   | (cases u <;> first
    | exact wpAny_pure hQ
    | (refine wpAny_bind (wpAny_load ho ?_)
       rw [hc,hd]
       show wpAny M A (if (["enumerate","zip","dict_itemiterator","dict_reverseitemiterator","odict_iterator","itertools.zip_longest","itertools.pairwise"].contains n&&vs[0]?==some (rawInt _))=true then _ else _) Q E s
       rw [if_neg (by intro h;rw [hn,Bool.false_and] at h;cases h)]
       exact wpAny_pure hQ))
def Itl (K:PySem.W.Frag) (a:Addr):It :=
 ⟨fun i H => ∃ xs x,SqL K H a xs∧xs[i]?=some x,fun i H x H'=>H'=H ∧ ∀ xs,SqL K H a xs→xs[i]?=some x,fun i H => ∃ xs,SqL K H a xs∧xs.length≤i⟩
def Itt (K:PySem.W.Frag) (a:Addr):It :=
 ⟨fun i H => ∃ xs x,SqT K H a xs∧xs[i]?=some x,fun i H x H'=>H'=H ∧ ∀ xs,SqT K H a xs→xs[i]?=some x,fun i H => ∃ xs,SqT K H a xs∧xs.length≤i⟩
def Itr (lo:Int) (n:Nat):It:=⟨fun i _=>i<n,fun i H x H'=>H'=H∧x = .int (lo+i),fun i _=>n≤i⟩
theorem turn_list {P:Program}{w:World}{K:PySem.W.Frag}{tg:Expr} (a it:Addr):Turn P w K tg (Itl K a) [it] it (fun i h=>h.IsListIter it a i) where
 mem:=by simp
 obj:=fun i h st b hb=>by
  have e:b=it:=by simpa using hb
  subst e
  obtain ⟨o,e,c,d⟩:=st
  exact ⟨o,e,fun v z=>by rw [d] at z;cases z⟩
 keep:=fun i h h' st k=>st.at fun o e=>k it (by simp) o e
 item:=by
  intro X hP hw hK hc i pins s σ H E I hf st hg
  subst hP hw hK
  obtain ⟨xs,x,hq,hx⟩:=hg
  obtain ⟨its,rv,p,hz⟩:=I.list hq
  obtain ⟨u,hu,ru⟩:=rv.get hx
  obtain ⟨f0,f1,f2,f3,f4,f5⟩:=hf it (by simp)
  refine wpAny_pyNext_list_item st p.isList (x:=u) (by simpa using hu) fun h' st' sb=>?_
  have I1:Inv X pins σ H { s with heap:=h' }:=I.turned (t':=s.toks) (fun b o hb e=>(sb.2 b hb).trans e) f0 f1 f3 f4 f5
  obtain ⟨o,e,c,d⟩:=id st'
  exact ⟨u,rfl,go_of (s:={ s with heap:=h' }) e c d (by decide) ⟨x,H,I1,ru,⟨rfl,fun ys hy=>by rw [I.list_inj hy hq];exact hx⟩,st',fun b hb=>(hf b hb).1⟩⟩
 done:=by
  intro X hP hw hK hc i pins s σ H E I hf st hg
  subst hP hw hK
  obtain ⟨xs,hq,hx⟩:=hg
  obtain ⟨its,rv,p,hz⟩:=I.list hq
  obtain ⟨f0,f1,f2,f3,f4,f5⟩:=hf it (by simp)
  have hl:=rv.length
  exact wpAny_pyNext_list_end (I.ok.hd hc) st p.isList (by simp;omega) fun h' eb=>⟨rfl,I.turned (t':=s.toks) (fun b o hb e=>eb b o hb e) f0 f1 f3 f4 f5⟩
 self:=fun _ _ _ _ _ st h=>wpAny_pyIter_listiter st h
theorem turn_tuple {P:Program}{w:World}{K:PySem.W.Frag}{tg:Expr} (a it:Addr):Turn P w K tg (Itt K a) [it] it (fun i h=>h.IsTupleIter it a i) where
 mem:=by simp
 obj:=fun i h st b hb=>by
  have e:b=it:=by simpa using hb
  subst e
  obtain ⟨o,e,c,d⟩:=st
  exact ⟨o,e,fun v z=>by rw [d] at z;cases z⟩
 keep:=fun i h h' st k=>st.at fun o e=>k it (by simp) o e
 item:=by
  intro X hP hw hK hc i pins s σ H E I hf st hg
  subst hP hw hK
  obtain ⟨xs,x,hq,hx⟩:=hg
  obtain ⟨its,rv,p,hz⟩:=I.tuple hq
  obtain ⟨u,hu,ru⟩:=rv.get hx
  obtain ⟨f0,f1,f2,f3,f4,f5⟩:=hf it (by simp)
  refine wpAny_pyNext_tuple_item st (show s.heap.IsTuple a its.toArray from p) (x:=u) (by simpa using hu) fun h' st' sb=>?_
  have I1:Inv X pins σ H { s with heap:=h' }:=I.turned (t':=s.toks) (fun b o hb e=>(sb.2 b hb).trans e) f0 f1 f3 f4 f5
  obtain ⟨o,e,c,d⟩:=id st'
  exact ⟨u,rfl,go_of (s:={ s with heap:=h' }) e c d (by decide) ⟨x,H,I1,ru,⟨rfl,fun ys hy=>by rw [I.tuple_inj hy hq];exact hx⟩,st',fun b hb=>(hf b hb).1⟩⟩
 done:=by
  intro X hP hw hK hc i pins s σ H E I hf st hg
  subst hP hw hK
  obtain ⟨xs,hq,hx⟩:=hg
  obtain ⟨its,rv,p,hz⟩:=I.tuple hq
  obtain ⟨f0,f1,f2,f3,f4,f5⟩:=hf it (by simp)
  have hl:=rv.length
  exact wpAny_pyNext_tuple_end (I.ok.hd hc) st (show s.heap.IsTuple a its.toArray from p) (by simp;omega) fun h' eb=>⟨rfl,I.turned (t':=s.toks) (fun b o hb e=>eb b o hb e) f0 f1 f3 f4 f5⟩
 self:=fun _ _ _ _ _ st h=>wpAny_pyIter_tupleiter st h
theorem turn_range {P:Program}{w:World}{K:PySem.W.Frag}{tg:Expr} (it:Addr) (lo:Int) (n:Nat):Turn P w K tg (Itr lo n) [it] it (fun i h=>IsRangeIter h it (lo+(i:Nat)*1) ((n:Int)-(i:Nat)) 1) where
 mem:=by simp
 obj:=fun i h st b hb=>by
  have e:b=it:=by simpa using hb
  subst e
  exact ⟨_,st,fun v z=>by
   have z':Data.fields _=Data.cell v:=z
   cases z'⟩
 keep:=fun i h h' st k=>k it (by simp) _ st
 item:=by
  intro X hP hw hK hc i pins s σ H E I hf st hg
  subst hP hw hK
  obtain ⟨f0,f1,f2,f3,f4,f5⟩:=hf it (by simp)
  have W:=Walks.range (prog:=X.prog) (w:=X.w) (I.ok.hd hc) it lo 1 n
  refine W.item i s _ _ hg st fun v h' tk hv st' kk=>?_
  obtain ⟨t,rfl⟩:=hv
  have I1:Inv X pins σ H { s with heap:=h',toks:=tk }:=I.turned (fun b o hb e=>kk b o (by simpa using hb) e) f0 f1 f3 f4 f5
  refine ⟨_,rfl,go_of (s:={ s with heap:=h',toks:=tk }) (n := "range_iterator") st' rfl rfl (by decide) ⟨.int (lo+i),H,I1,⟨t,?_⟩,⟨rfl,rfl⟩,st',fun b hb=>(hf b hb).1⟩⟩
  rw [Int.mul_one]
 done:=by
  intro X hP hw hK hc i pins s σ H E I hf st hg
  subst hP hw hK
  obtain ⟨f0,f1,f2,f3,f4,f5⟩:=hf it (by simp)
  exact wpAny_pyNext_range_end (I.ok.hd hc) st (by have:n≤i:=hg;omega) fun h' eb=>⟨rfl,I.turned (t':=s.toks) (fun b o hb e=>eb b o hb e) f0 f1 f3 f4 f5⟩
 self:=fun _ _ _ _ _ st h=>wpAny_pyIter_rangeiter st h
end L2
namespace L2
open PySem PySem.Spec PyProof.Rows
section
variable {X:Cx}{tg:Expr}
theorem range_it {pins:List (Addr×Obj)}{σ:St}{H:Hp}{s:Shared}{R:It→Hp→Prop}{E:Value→Shared→Prop}{lo hi:Int}{t u v:Tok}{tk:Nat} (I:Inv X pins σ H s) (h1 : -(2^62)≤lo) (h2:lo<2^62) (h3 : -(2^62)≤hi) (h4:hi<2^62)
 (q:R (Itr lo (hi-lo).toNat) H):wpAny (model X.prog X.w) X.A (pyIter (.ref s.heap.objs.size)) (PIE X pins σ tg R) E { s with heap:=s.heap.push { cls :=.type "range",data :=.fields #[.int lo t,.int hi u,.int 1 v] },toks:=tk }:=by
  refine wpAny_pyIter_range (IsRange.new ..) (small_one h1 h2 h3 h4) ?_
  have I1:Inv X pins σ H { s with heap:=s.heap.push { cls :=.type "range",data :=.fields #[.int lo t,.int hi u,.int 1 v] },toks:=tk }:=I.kept fun b o e=>Heap.get?_push_of_some _ e
  refine ⟨(s.heap.push { cls :=.type "range",data :=.fields #[.int lo t,.int hi u,.int 1 v] }).objs.size,[(s.heap.push { cls :=.type "range",data :=.fields #[.int lo t,.int hi u,.int 1 v] }).objs.size],_,_,H,rfl,
   I1.kept (t':=tk) fun b o e=>Heap.get?_push_of_some _ e,turn_range _ lo (hi-lo).toNat,?_,fun b hb=>?_,q⟩
  ·have e1:lo+((0:Nat):Int)*1=lo:=by simp
   have e2:(((hi-lo).toNat:Nat):Int)-((0:Nat):Int)=Builtin.Range.rangeSize lo hi 1:=by rw [rangeSize_one];split <;> omega
   show IsRangeIter _ _ (lo+((0:Nat):Int)*1) ((((hi-lo).toNat:Nat):Int)-((0:Nat):Int)) 1
   rw [e1,e2]
   exact Heap.get?_push_size _ rfl
  ·have e:b=(s.heap.push { cls :=.type "range",data :=.fields #[.int lo t,.int hi u,.int 1 v] }).objs.size:=by simpa using hb
   subst e
   exact I1.fpOk (Nat.le_refl _) (I1.hok.fresh (Nat.le_refl _))
def iRng1 (ta:TA):TI:=fun σ H R=>ta σ H fun vs H1 => ∃ j:Int,vs=[.int j] ∧ -(2^62)≤j∧j<2^62∧R (Itr 0 j.toNat) H1
theorem pi_range1 {a:Expr}{ta:TA}{p pos:Pos} (hg:Gl X "range") (hm:X.mg "range" = none) (ha:PA X [a] ta) (hs:starEach [a] X.env=[(false,eval a X.env)]:=by rfl):PI X tg (.Call (.Name "range" p) [a] [] pos) (iRng1 ta):=by
 intro pins s σ H R I h
 refine Call_ (ld_blt I hg hm boot_range (PyProof.Rows.callWith_type1 (thn (ha pos pins s σ H _ I h) fun us s1 xx22=>?_) hs rfl))
 obtain ⟨vs,H1,I1,r1,q1⟩:=xx22
 obtain ⟨j,e,q1,q2,q⟩:=q1
 subst e
 cases r1 with
 | cons r rr =>
  cases rr
  obtain ⟨t,rfl⟩:=r
  exact call_range_1 (range_it I1 (by omega) (by omega) q1 q2 (by simpa using q))
def tFor (wi:TI) (g:TG) (tb:TS):TS:=fun D σ H=>wi σ H fun J H1 => ∃ W:Nat→Nat→St→Hp→Prop,(∃ m,W 0 m σ H1) ∧ ∀ i m σ H,W i m σ H →
 (J.stop i H∧D.nx σ H)∨(J.go i H ∧ ∃ N:St→Hp→Prop,(∀ σ' H',N σ' H' → ∃ m',m'<m∧W (i+1) m' σ' H') ∧ ∀ x H',J.yld i H x H'→g x σ H' fun σ2 H2=>tb { D with nx:=N,ct:=N,bk:=D.nx } σ2 H2)
def pinsAt (fp:List Addr) (h:Heap):List (Addr×Obj):=fp.filterMap fun b=>(h.get? b).map fun o=>(b,o)
theorem mem_pinsAt {fp:List Addr}{h:Heap}{b:Addr}{o:Obj} (hb:b ∈ fp) (e:h.get? b=some o):(b,o) ∈ pinsAt fp h:=List.mem_filterMap.mpr ⟨b,hb,by rw [e];rfl⟩
theorem of_pinsAt {fp:List Addr}{h:Heap}{p:Addr×Obj} (hp:p ∈ pinsAt fp h):p.1 ∈ fp∧h.get? p.1=some p.2:=by
 obtain ⟨b,hb,e⟩:=List.mem_filterMap.mp hp
 cases q:h.get? b with
 | none=>rw [q] at e;cases e
 | some o =>
  rw [q] at e
  have e':(b,o)=p:=Option.some.inj e
  subst e'
  exact ⟨hb,q⟩
theorem Inv.pinned {pins:List (Addr×Obj)}{σ:St}{H:Hp}{s:Shared}{fp:List Addr} (I:Inv X pins σ H s) (hf : ∀ b ∈ fp,FpOk X pins H b) (ho : ∀ b ∈ fp,∃ o,s.heap.get? b=some o ∧ ∀ v,o.data ≠ .cell v):Inv X (pins++pinsAt fp s.heap) σ H s :=
 I.pins_of fun p hp=>(List.mem_append.mp hp).elim (fun z=>I.pin p (List.mem_append_right _ z)) fun z=>by
  obtain ⟨hb,e⟩:=of_pinsAt z
  obtain ⟨f0,f1,f2,_⟩:=hf p.1 hb
  obtain ⟨o,e',d⟩:=ho p.1 hb
  rw [e] at e';cases e'
  exact ⟨e,f0,f1,f2,d⟩
theorem Inv.unpinned {pins pl:List (Addr×Obj)}{σ:St}{H:Hp}{s:Shared} (I:Inv X (pins++pl) σ H s):Inv X pins σ H s:=I.pins_of fun p hp=>I.pin p (List.mem_append_right _ (List.mem_append_left _ hp))
theorem ps_for {iter:Expr}{body:List Stmt}{wi:TI}{g:TG}{tb:TS}{pos:Pos} (hp:PassesOwn (model X.prog X.w) X.A X.env X.xe) (hc:X.calm=true) (hi:PI X tg iter wi) (hg:PG X tg g) (hb:PSs X body tb)
 (hs : ∀ x,foldedSetIterable iter X.env x=pure x:=by intro _;rfl):PS X (.For tg iter body [] pos) (tFor wi g tb):=by
  intro pins s σ H D I h
  refine wpAny_For (thn (hi pins s σ H _ I h) fun v s1 h1=>thn h1 fun itv s2 h2=>?_) hs
  obtain ⟨it,fp,tn,J,H2,e,I2,T,st2,f2,W,⟨m0,w0⟩,turn⟩:=h2
  subst e
  have stat : ∀ {H':Hp},(∀ b ∈ fp,H' b=none) → ∀ b ∈ fp,FpOk X pins H' b:=fun hn b hb=>⟨hn b hb,(f2 b hb).2⟩
  refine codeAny_forLoop_any (fun n s' => ∃ i σ' H',Inv X pins σ' H' s'∧tn i s'.heap∧(∀ b ∈ fp,H' b=none)∧W i n σ' H') ?_ m0 ⟨0,σ,H2,I2,st2,fun b hb=>(f2 b hb).1,w0⟩
  rintro n s3 ⟨i,σ3,H3,I3,st3,fr3,w3⟩
  rcases turn i n σ3 H3 w3 with ⟨stop,qn⟩|⟨go,N,hN,step⟩
  ·refine wpAny_passesOwn hp (thn (T.done X rfl rfl rfl hc i pins s3 σ3 H3 X.xe I3 (stat fr3) st3 stop) fun r s4 xx26=>?_)
   obtain ⟨hr,I4⟩:=xx26
   subst hr
   exact wpAny_execs_nil ⟨σ3,H3,I4,qn⟩
  ·refine wpAny_passesOwn hp (thn (T.item X rfl rfl rfl hc i pins s3 σ3 H3 X.xe I3 (stat fr3) st3 go) fun r s4 xx25=>?_)
   obtain ⟨u,hr,h4⟩:=xx25
   subst hr
   refine wpAny_passesOwn hp (thn h4 fun _ s5 xx24=>?_)
   obtain ⟨x,H5,I5,r5,y5,st5,fr5⟩:=xx24
   have I5':=I5.pinned (stat fr5) (T.obj _ _ st5)
   refine wpAny_passesOwn hp (thn (hg _ s5 σ3 H5 x u _ I5' r5 (step x H5 y5)) fun _ s6 xx23=>?_)
   obtain ⟨σ6,H6,I6,q6⟩:=xx23
   refine wpAny_passesOwn hp (thn (hb _ s6 σ6 H6 _ I6 q6) fun f s7 q7=>?_)
   have again : ∀ {σ7:St}{H7:Hp},Inv X (pins++pinsAt fp s5.heap) σ7 H7 s7→N σ7 H7 → ∃ m,m<n ∧ ∃ i σ' H',Inv X pins σ' H' s7∧tn i s7.heap∧(∀ b ∈ fp,H' b=none)∧W i m σ' H':=fun {σ7 H7} I7 n7=>by
    obtain ⟨m',hm,w7⟩:=hN σ7 H7 n7
    refine ⟨m',hm,i+1,σ7,H7,I7.unpinned,T.keep _ _ _ st5 fun b hb o e=>(I7.pin (b,o) (List.mem_append_right _ (List.mem_append_right _ (mem_pinsAt hb e)))).1,fun b hb=>?_,w7⟩
    obtain ⟨o,e,d⟩:=T.obj _ _ st5 b hb
    exact (I7.pin (b,o) (List.mem_append_right _ (List.mem_append_right _ (mem_pinsAt hb e)))).2.1
   cases f with
   | next=>obtain ⟨σ7,H7,I7,n7⟩:=q7;exact again I7 n7
   | cont=>obtain ⟨σ7,H7,I7,n7⟩:=q7;exact again I7 n7
   | brk=>obtain ⟨σ7,H7,I7,q7⟩:=q7;exact ⟨σ7,H7,I7.unpinned,q7⟩
   | ret v=>obtain ⟨x7,σ7,H7,I7,r7,q7⟩:=q7;exact ⟨x7,σ7,H7,I7.unpinned,r7,q7⟩
end
end L2
namespace L2
open PySem PySem.Spec PyProof.Rows
abbrev R2:=V→V→Hp→VK→Prop
def OpR (X:Cx) (f:Value→Value→Sem Value) (r:R2):Prop :=
 ∀ (pins:List (Addr×Obj)) (s:Shared) (σ:St) (H:Hp) (x y:V) (v u:Value) (Q:VK),Inv X pins σ H s→RelV x v→RelV y u→r x y H Q →
  wpAny (model X.prog X.w) X.A (f v u) (EP X pins σ Q) X.xe s
def UnR (X:Cx) (f:Value→Sem Value) (r:V→Hp→VK→Prop):Prop :=
 ∀ (pins:List (Addr×Obj)) (s:Shared) (σ:St) (H:Hp) (x:V) (v:Value) (Q:VK),Inv X pins σ H s→RelV x v→r x H Q →
  wpAny (model X.prog X.w) X.A (f v) (EP X pins σ Q) X.xe s
def CallR (X:Cx) (f:Value) (r:List V→Hp→VK→Prop):Prop :=
 ∀ (pins:List (Addr×Obj)) (s:Shared) (σ:St) (H:Hp) (xs:List V) (us:List Value) (Q:VK),Inv X pins σ H s→Vals xs us→r xs H Q →
  wpAny (model X.prog X.w) X.A (call f us) (EP X pins σ Q) X.xe s
def TruR (X:Cx) (r:V→Hp→(Bool→Hp→Prop)→Prop):Prop :=
 ∀ (pins:List (Addr×Obj)) (s:Shared) (σ:St) (H:Hp) (x:V) (v:Value) (Q:Bool→Hp→Prop),Inv X pins σ H s→RelV x v→r x H Q →
  wpAny (model X.prog X.w) X.A (truthy v) (TP X pins σ Q) X.xe s
def tOp (r:R2) (ta tb:TE):TE:=fun σ H Q=>ta σ H fun x H1=>tb σ H1 fun y H2=>r x y H2 Q
def tUn (r:V→Hp→VK→Prop) (ta:TE):TE:=fun σ H Q=>ta σ H fun x H1=>r x H1 Q
def rI (C:Int→Int→Prop) (g:Int→Int→V):R2:=fun x y H Q => ∃ i j,x = .int i∧y = .int j∧C i j∧Q (g i j) H
def rI0 (g:Int→Int→V):R2:=fun x y H Q => ∃ i j,x = .int i∧y = .int j∧Q (g i j) H
def rU (g:Int→V):V→Hp→VK→Prop:=fun x H Q => ∃ i,x = .int i∧Q (g i) H
section
variable {X:Cx}{a b c:Expr}{ta tb tc:TE}{pos:Pos}
theorem binT (ha:PE X a ta) (hb:PE X b tb) {pins:List (Addr×Obj)}{s:Shared}{σ:St}{H:Hp}{R:V→V→Hp→Prop} (I:Inv X pins σ H s)
 (h:ta σ H fun x H1=>tb σ H1 fun y H2=>R x y H2) {Q:Value→Shared→Prop}{f:Value→Value→Sem Value}
 (hf : ∀ v u s2 x y H2,Inv X pins σ H2 s2→RelV x v→RelV y u→R x y H2→wpAny (model X.prog X.w) X.A (f v u) Q X.xe s2) :
 wpAny (model X.prog X.w) X.A (eval a X.env) (fun v s₁=>wpAny (model X.prog X.w) X.A (eval b X.env) (fun u s₂=>wpAny (model X.prog X.w) X.A (f v u) Q X.xe s₂) X.xe s₁) X.xe s:=by
  refine thn (ha pins s σ H _ I h) fun v s1 xx28=>?_
  obtain ⟨x,H1,I1,r1,q1⟩:=xx28
  refine thn (hb pins s1 σ H1 _ I1 q1) fun u s2 xx27=>?_
  obtain ⟨y,H2,I2,r2,q2⟩:=xx27
  exact hf v u s2 x y H2 I2 r1 r2 q2
theorem pe_op {op:Operator}{r:R2} (ho:OpR X (binaryOp op) r) (ha:PE X a ta) (hb:PE X b tb):PE X (.BinOp a op b pos) (tOp r ta tb):=by
 intro pins s σ H Q I h
 exact wpAny_BinOp (binT ha hb I h fun v u s2 x y H2 I2 rx ry q=>ho pins s2 σ H2 x y v u Q I2 rx ry q)
theorem pe_un {op:UnaryOp}{r:V→Hp→VK→Prop} (ho:UnR X (unaryOp op) r) (ha:PE X a ta):PE X (.UnaryOp op a pos) (tUn r ta):=by
 intro pins s σ H Q I h
 exact UnaryOp_ (thn (ha pins s σ H _ I h) fun v s1 xx29=>by obtain ⟨x,H1,I1,r1,q1⟩:=xx29;exact ho pins s1 σ H1 x v Q I1 r1 q1)
theorem opI {f:Value→Value→Sem Value}{C:Int→Int→Prop}{g:Int→Int→Int}
 (rule : ∀ (i j:Int) (t u:Tok) (s:Shared) (Q:Value→Shared→Prop) (E:Value→Shared→Prop),C i j→Q (.int (g i j) s.toks) { s with toks:=s.toks+1 }→wpAny (model X.prog X.w) X.A (f (.int i t) (.int j u)) Q E s) :
  OpR X f (rI C fun i j => .int (g i j)):=by
  intro pins s σ H x y v u Q I rx ry h
  obtain ⟨i,j,rfl,rfl,hc,q⟩:=h
  obtain ⟨t,rfl⟩:=rx
  obtain ⟨t',rfl⟩:=ry
  exact rule i j t t' s _ _ hc ⟨.int (g i j),H,I.tok _,⟨_,rfl⟩,q⟩
theorem opI0 {f:Value→Value→Sem Value}{g:Int→Int→Int}
 (rule : ∀ (i j:Int) (t u:Tok) (s:Shared) (Q:Value→Shared→Prop) (E:Value→Shared→Prop),Q (.int (g i j) s.toks) { s with toks:=s.toks+1 }→wpAny (model X.prog X.w) X.A (f (.int i t) (.int j u)) Q E s) :
  OpR X f (rI0 fun i j => .int (g i j)):=by
  intro pins s σ H x y v u Q I rx ry h
  obtain ⟨i,j,rfl,rfl,q⟩:=h
  obtain ⟨t,rfl⟩:=rx
  obtain ⟨t',rfl⟩:=ry
  exact rule i j t t' s _ _ ⟨.int (g i j),H,I.tok _,⟨_,rfl⟩,q⟩
theorem opB0 {f:Value→Value→Sem Value}{g:Int→Int→Bool}
 (rule : ∀ (i j:Int) (t u:Tok) (s:Shared) (Q:Value→Shared→Prop) (E:Value→Shared→Prop),Q (.bool (g i j)) s→wpAny (model X.prog X.w) X.A (f (.int i t) (.int j u)) Q E s) :
 OpR X f (rI0 fun i j => .bl (g i j)):=by
  intro pins s σ H x y v u Q I rx ry h
  obtain ⟨i,j,rfl,rfl,q⟩:=h
  obtain ⟨t,rfl⟩:=rx
  obtain ⟨t',rfl⟩:=ry
  exact rule i j t t' s _ _ ⟨.bl (g i j),H,I,rfl,q⟩
theorem op_add:OpR X (binaryOp .Add) (rI0 fun i j => .int (i+j)):=opI0 fun _ _ _ _ _ _ _ q=>add_int q
theorem op_sub:OpR X (binaryOp .Sub) (rI0 fun i j => .int (i-j)):=opI0 fun _ _ _ _ _ _ _ q=>sub_int q
theorem op_mod:OpR X (binaryOp .Mod) (rI (fun _ j=>0<j) fun i j => .int (i%j)):=opI fun i j _ _ _ _ _ hc q=>by
 have h1:(0:Int)<j:=hc
 exact mod_int' (by omega) (by rw [Int.fmod_eq_emod_of_nonneg i (by omega)];exact q)
theorem unI {f:Value→Sem Value}{g:Int→Int}
 (rule : ∀ (i:Int) (t:Tok) (s:Shared) (Q:Value→Shared→Prop) (E:Value→Shared→Prop),Q (.int (g i) s.toks) { s with toks:=s.toks+1 }→wpAny (model X.prog X.w) X.A (f (.int i t)) Q E s) :
  UnR X f (rU fun i => .int (g i)):=by
  intro pins s σ H x v Q I rx h
  obtain ⟨i,rfl,q⟩:=h
  obtain ⟨t,rfl⟩:=rx
  exact rule i t s _ _ ⟨.int (g i),H,I.tok _,⟨_,rfl⟩,q⟩
theorem un_neg:UnR X (unaryOp .USub) (rU fun i => .int (-i)):=unI fun _ _ _ _ _ q=>neg_int q
end
section
variable {X:Cx}{a b c:Expr}{ta tb tc:TE}{pos:Pos}
theorem fin_bl {pins:List (Addr×Obj)}{σ:St}{H:Hp}{s:Shared}{Q:VK}{k k':Bool} (I:Inv X pins σ H s) (q:Q (.bl k) H) (e:k=k'):EP X pins σ Q (.bool k') s:=by
 subst e
 exact ⟨.bl k,H,I,rfl,q⟩
theorem op_lt:OpR X (compareOp .Lt) (rI0 fun i j => .bl (decide (i<j))):=opB0 fun _ _ _ _ _ _ _ q=>lt_int q
theorem op_gt:OpR X (compareOp .Gt) (rI0 fun i j => .bl (decide (j<i))):=opB0 fun _ _ _ _ _ _ _ q=>gt_int q
theorem op_ge:OpR X (compareOp .GtE) (rI0 fun i j => .bl (decide (j≤i))):=opB0 fun _ _ _ _ _ _ _ q=>ge_int q
theorem op_isN:OpR X (compareOp .Is) (fun x y H Q=>y = .non∧Q (.bl (decide (x = .non))) H):=by
 intro pins s σ H x y v u Q I rx ry h
 obtain ⟨rfl,q⟩:=h
 cases ry
 refine is_none_gen (fin_bl I q ?_)
 cases x <;> first
  | (cases rx;rfl)
  | (obtain ⟨t,rfl⟩:=rx;rfl)
theorem nomark (b:Expr) {op:CmpOp} (h:op ≠ .In:=by decide) (h2:op ≠ .NotIn:=by decide):behindInMarks op b=false:=by
 have e1:(op==CmpOp.In)=false:=by cases op <;> first|rfl|exact absurd rfl h
 have e2:(op==CmpOp.NotIn)=false:=by cases op <;> first|rfl|exact absurd rfl h2
 cases b <;> simp [behindInMarks,e1,e2]
theorem pe_cmpR {op:CmpOp}{r:R2} (ho:OpR X (compareOp op) r) (ha:PE X a ta) (hb:PE X b tb) (hm:behindInMarks op b=false):PE X (.Compare a [op] [b] pos) (tOp r ta tb):=by
 intro pins s σ H Q I h
 exact wpAny_Compare1 (binT ha hb I h fun v u s2 x y H2 I2 rx ry q=>ho pins s2 σ H2 x y v u Q I2 rx ry q) hm
def tTest (t:TE):TT:=fun σ H Q=>t σ H fun x H' => ∃ k,x = .bl k∧Q k H'
theorem pt_cmpR {op:CmpOp}{r:R2} (ho:OpR X (compareOp op) r) (ha:PE X a ta) (hb:PE X b tb) (hm:behindInMarks op b=false):PT X (.Compare a [op] [b] pos) (tTest (tOp r ta tb)):=by
 intro pins s σ H Q I h
 refine wpAny_isTrue_Compare1 (thn (ha pins s σ H _ I h) fun v s1 ⟨x,H1,I1,r1,q1⟩=>thn (hb pins s1 σ H1 _ I1 q1) fun u s2 ⟨y,H2,I2,r2,q2⟩ =>
  thn (ho pins s2 σ H2 x y v u _ I2 r1 r2 q2) fun c s3 ⟨z,H3,I3,r3,k,e,q3⟩=>?_) hm
 subst e
 cases r3
 exact wpAny_truthy_bool ⟨H3,I3,q3⟩
def TruV (K:PySem.W.Frag) (x:V) (H:Hp) (k:Bool):Prop :=
 match x with
 | .non=>k=false
 | .bl b=>k=b
 | .int i=>k=(i != 0)
 | .str y=>y.length≤sizeLine∧k=((y.length:Int) != 0)
 | .byt y=>y.size≤sizeLine∧k=((y.size:Int) != 0)
 | .ref p=>(∃ xs,SqL K H p xs∧k = !xs.isEmpty)∨(∃ xs,SqT K H p xs∧k = !xs.isEmpty) ∨ ∃ kvs,H p=some (.dK kvs)∧k = !kvs.isEmpty
 | _=>False
theorem isEmpty_kv {κ:Type}{kvs:List (κ×V)}{vs:List (κ×Value)} (r:KV kvs vs):(!vs.isEmpty) = !kvs.isEmpty:=by
 cases r <;> rfl
theorem isEmpty_of {xs:List V}{its:List Value} (r:Vals xs its):(!its.toArray.isEmpty) = !xs.isEmpty:=by
 cases r <;> simp
theorem line63:(sizeLine:Nat)<2^63:=by rw [sizeLine_eq];decide
theorem tru_ok:TruR X (fun x H Q => ∃ k,TruV X.K x H k∧Q k H):=by
 intro pins s σ H x v Q I rx h
 obtain ⟨k,e,q⟩:=h
 have hl:=line63
 have hs:sizeLine=16777216:=sizeLine_eq
 cases x with
 | non =>
  cases rx
  have e':k=false:=e
  subst e'
  exact truthy_none ⟨H,I,q⟩
 | bl b =>
  cases rx
  have e':k=b:=e
  subst e'
  exact wpAny_truthy_bool ⟨H,I,q⟩
 | int i =>
  obtain ⟨t,rfl⟩:=rx
  have e':k=(i != 0):=e
  subst e'
  exact PySem.P.truthy_int ⟨H,I,q⟩
 | str y =>
  obtain ⟨t,rfl⟩:=rx
  obtain ⟨hy,e'⟩:y.length≤sizeLine∧k=((y.length:Int) != 0):=e
  subst e'
  exact PySem.P.truthy_str (by omega) ⟨H,I.tok _,q⟩
 | byt y =>
  obtain ⟨t,rfl⟩:=rx
  obtain ⟨hy,e'⟩:y.size≤sizeLine∧k=((y.size:Int) != 0):=e
  subst e'
  exact PySem.W.truthy_bytes (by omega) ⟨H,I.tok _,q⟩
 | ref p =>
  cases rx
  have e':(∃ xs,SqL X.K H p xs∧k = !xs.isEmpty)∨(∃ xs,SqT X.K H p xs∧k = !xs.isEmpty) ∨ ∃ kvs,H p=some (.dK kvs)∧k = !kvs.isEmpty:=e
  rcases e' with ⟨xs,hx,e'⟩|⟨xs,hx,e'⟩|⟨kvs,hx,e'⟩
  ·subst e'
   obtain ⟨its,r,pl,hz⟩:=I.list hx
   have hlen:=r.length
   exact wpAny_truthy_list pl.isList (by simp only [List.size_toArray];omega) ⟨H,I.tok _,by rw [isEmpty_of r];exact q⟩
  ·subst e'
   obtain ⟨its,r,pl,hz⟩:=I.tuple hx
   have hlen:=r.length
   exact truthy_tuple pl (by simp only [List.size_toArray];omega) ⟨H,I.tok _,by rw [isEmpty_of r];exact q⟩
  ·subst e'
   obtain ⟨hz,hS,vs,r,m⟩:kvs.length≤sizeLine∧(p==sysModules)=false ∧ ∃ vs,KV kvs vs∧s.heap.DictOf (mixKind X.prog X.w) p vs:=I.hok p _ hx
   have hlen:kvs.length=vs.length:=Paired.length r
   exact wpAny_truthy_dict hS m (by omega) ⟨H,I.tok _,by rw [isEmpty_kv r];exact q⟩
 | _=>exact (show False from e).elim
theorem pt_truth (ha:PE X a ta) (he : ∀ whole,isTrue a X.env whole=(do let v ← whole;standAt a.pos;holding [v] (truthy v))) :
 PT X a (fun σ H Q=>ta σ H fun x H' => ∃ k,TruV X.K x H' k∧Q k H'):=by
  intro pins s σ H Q I h
  exact isTrue_plain (thn (ha pins s σ H _ I h) fun v s1 xx33=>by obtain ⟨x,H1,I1,r1,q1⟩:=xx33;exact tru_ok pins s1 σ H1 x v Q I1 r1 q1) (he _)
theorem op_add_str:OpR X (binaryOp .Add) (fun x y H Q => ∃ i j,x = .str i∧y = .str j∧i.length+j.length≤sizeLine∧Q (.str (i++j)) H):=by
 intro pins s σ H x y v u Q I rx ry h
 obtain ⟨i,j,rfl,rfl,hz,q⟩:=h
 obtain ⟨t,rfl⟩:=rx
 obtain ⟨t',rfl⟩:=ry
 exact add_str (fun t' tk=>⟨.str (i++j),H,I.tok _,⟨_,rfl⟩,q⟩) hz
theorem vals1 {x:V}{us:List Value} (r:Vals [x] us) : ∃ u,us=[u]∧RelV x u:=by
 cases r with
 | cons r1 r2=>cases r2;exact ⟨_,rfl,r1⟩
theorem vals2 {x y:V}{us:List Value} (r:Vals [x,y] us) : ∃ u w',us=[u,w']∧RelV x u∧RelV y w':=by
 cases r with
 | cons r1 r2 =>
  cases r2 with
  | cons r3 r4=>cases r4;exact ⟨_,_,rfl,r1,r3⟩
theorem call_abs:CallR X (.builtin "abs") (fun xs H Q => ∃ i,xs=[.int i]∧Q (.int (if i<0 then -i else i)) H):=by
 intro pins s σ H xs us Q I r h
 obtain ⟨i,rfl,q⟩:=h
 obtain ⟨u,rfl,t,rfl⟩:=vals1 r
 exact call_abs_int fun u tk=>⟨.int (if i<0 then -i else i),H,I.tok _,⟨_,rfl⟩,q⟩
end
end L2
namespace L2
open PySem PySem.Spec PyProof.Rows
structure ObjM (h:Heap) (x dx C:Addr) (mA:Str→Option Value):Prop where
 obj:h.get? x=some (PySem.W.instObj C dx)
 ns:h.Ns1 dx mA
 ne:dx≠x
theorem lookIn_ns {h:Heap}{dx:Addr}{mA:Str→Option Value} (n:h.Ns1 dx mA) : ∃ od,h.get? dx=some od ∧ ∀ name,PySem.W.lookIn name od=some (mA name):=by
 obtain ⟨o,es,ep,ho,hd,hk,_,hm⟩:=n
 refine ⟨o,ho,fun name=>?_⟩
 have e:=hm name
 unfold nsFind findBy at e
 rw [← Array.find?_toList] at e
 unfold PySem.W.lookIn
 rw [hd]
 dsimp only
 split
 ·rename_i y q
  rw [q] at e
  exact congrArg some e
 ·rename_i q
  rw [q] at e
  have a:es.toList.any (·.refKey)=false:=by
   rw [List.any_eq_false]
   intro y hy
   obtain ⟨z,t,hkey⟩:=hk y (Array.mem_toList_iff.mp hy)
   simp [DictEntry.refKey,hkey]
  have a' : ¬ es.toList.any (·.refKey)=true:=by rw [a];exact Bool.false_ne_true
  rw [if_neg a']
  exact congrArg some e
theorem ObjM.look {h:Heap}{x dx C:Addr}{mA:Str→Option Value} (I:ObjM h x dx C mA) : ∃ od,PySem.W.InstAt h x (PySem.W.instObj C dx) C (some od) ∧ ∀ name,PySem.W.lookIn name od=some (mA name) :=
 let ⟨od,ho,hl⟩:=lookIn_ns I.ns
 ⟨od,⟨I.obj,rfl,rfl,ho⟩,hl⟩
section
variable {prog:Program}{w:World}{A:Around}{E:Value→Shared→Prop}{s:Shared}{K:PySem.W.Frag}{x dx C f:Addr}{mA:Str→Option Value}{name:Str}{v:Value}
theorem get_map {expr:Bool}{Q:Value→Shared→Prop} (X:K.In s.heap) (I:ObjM s.heap x dx C mA) (hg:PySem.W.plainGet K C name=true) (hh:PySem.W.hasDictIn K C=true)
 (ha:PySem.W.findIn K (.ref C) name=some none) (hv:mA name=some v) (hv':PySem.W.handedIn v=true) (h:Q v { s with toks:=s.toks+1 }) :
  wpAny (model prog w) A (getAttr (.ref x) name expr) Q E s:=by
  obtain ⟨od,J,hl⟩:=I.look
  exact PySem.W.get_value X J (PySem.W.plainGet_of hg).1 (PySem.W.findObj_own hh ha rfl (by rw [hl,hv])) hv' h
theorem get_meth {pl:Sem Bool}{Q:Value×List Value→Shared→Prop} (X:K.In s.heap) (I:ObjM s.heap x dx C mA) (hg:PySem.W.plainGet K C name=true)
 (hf:PySem.W.findIn K (.ref C) name=some (some (.ref f))) (ht:PySem.W.isFn K (.ref f)=true) (hv:mA name=none) (h:Q (.ref f,[.ref x]) s) :
 wpAny (model prog w) A (getMethod (.ref x) name pl) Q E s:=by
  obtain ⟨od,J,hl⟩:=I.look
  exact PySem.W.method_fn X J (PySem.W.plainGet_of hg).1 (PySem.W.plainGet_of hg).2 hf (beq_iff_eq.mp ht) (by show (PySem.W.lookIn name od).map (·.isSome)=some false;rw [hl,hv];rfl) h
theorem set_map {ns:List Str}{Q:Unit→Shared→Prop} (X:K.In s.heap) (I:ObjM s.heap x dx C mA)
 (hs:PySem.W.findIn K (.ref C) "__setattr__" = some (some (.builtin "object.__setattr__"))) (hp:PySem.W.plainOver K C=true) (ht:PySem.W.takerIn K C name=some none) (hh:PySem.W.hasDictIn K C=true)
 (hw:PySem.Within mA ns) (hsz:ns.length≤sizeLine)
 (h : ∀ h',ObjM h' x dx C (fun y=>if y=name then some v else mA y)→Heap.SameBut dx s.heap h'→Q () { s with heap:=h',toks:=s.toks+2 }) :
  wpAny (model prog w) A (setAttr (.ref x) name v) Q E s:=by
  obtain ⟨od,J,hl⟩:=I.look
  refine PySem.W.set_plain X J hs (PySem.W.osa_open (s:={ s with toks:=s.toks+1 }) (r:=none) X J hp ht fun b=>?_)
  obtain ⟨cd,hc,hd'⟩:=PySem.W.any_some hh
  have hx:s.heap.get? x=some ⟨.ref C,some dx,.plain,#[]⟩:=I.obj
  refine wpAny_bind (wpAny_pure (wpAny_bind (wpAny_bind (wpAny_loadPart hx (wpAny_bind (PySem.W.Looks.here (s:={ s with toks:=s.toks+1 }) (PySem.W.looks_clsIn X hc) ?_))))))
  rw [hd']
  refine wpAny_pure (a:=some dx) (wpAny_bind (wpAny_pure (wpAny_bind ?_)))
  refine wpAny_nsSet1 (s:={ s with toks:=s.toks+1 }) I.ns fun h' hn2 hs2=>?_
  obtain ⟨oD,esD,epD,hoD,hdD,hcD⟩:=hn2.count (PySem.Within.cons name v hw)
  refine wpAny_bind (wpAny_lookBehind hoD (by rw [hdD];exact pastItsLine_dict (Nat.le_trans hcD (by rw [List.length_cons];omega))) ?_)
  exact wpAny_pure (h _ ⟨(hs2.2 _ (Ne.symm I.ne)).trans I.obj,hn2,I.ne⟩ hs2)
theorem make_map {R:Result→Shared→Prop}{vs:List Value}{kw:List (Str×Value)} (X:K.In s.heap) (hm:PySem.W.makesIn K C=true)
 (hi:PySem.W.findIn K (.ref C) "__init__" = some (some (.ref f))) (hf:PySem.W.typeIn K (.ref f)=some (.type "function"))
 (h:codeAny (model prog w) (A.under (.builtin "type.__call__" ⟨.ref C::vs,kw⟩)) (.call (.ref f) ⟨.ref (s.heap.objs.size+1)::vs,kw⟩) (PySem.W.InitBack (s.heap.objs.size+1) R)
 { s with heap:=(s.heap.push PySem.W.emptyDict).push (PySem.W.instObj C s.heap.objs.size) }) :
  codeAny (model prog w) A (.call (.ref C) ⟨vs,kw⟩) R s:=by
  obtain ⟨hh,g,d,t,os⟩:=s
  exact PySem.W.make_core (PySem.W.makes_of X hm) (PySem.W.looks_findIn X hi) (fun self=>PySem.W.bind_fn X self hf) (.inl rfl) h
end
def putF (f:Str) (v:V):List (Str×V)→List (Str×V)
 | []=>[(f,v)]
 | (g,x)::r=>if g=f then (g,v)::r else (g,x)::putF f v r
theorem lookup_putF (f g:Str) (v:V) : ∀ fs:List (Str×V),(putF f v fs).lookup g=if g=f then some v else fs.lookup g
 | []=>by
  show List.lookup g [(f,v)]=_
  by_cases h:g=f
  ·have hb:(g==f)=true:=beq_iff_eq.mpr h
   simp only [List.lookup,hb,if_pos h]
  ·have hb:(g==f)=false:=beq_eq_false_iff_ne.mpr h
   simp only [List.lookup,hb,if_neg h]
 | (k,x)::r=>by
  have ih:=lookup_putF f g v r
  rw [show putF f v ((k,x)::r)=(if k=f then (k,v)::r else (k,x)::putF f v r) from rfl]
  by_cases hk:k=f
  ·rw [if_pos hk]
   by_cases h:g=k
   ·have hb:(g==k)=true:=beq_iff_eq.mpr h
    simp only [List.lookup,hb,if_pos (h.trans hk)]
   ·have hb:(g==k)=false:=beq_eq_false_iff_ne.mpr h
    simp only [List.lookup,hb,if_neg (fun e:g=f=>h (e.trans hk.symm))]
  ·rw [if_neg hk]
   by_cases h:g=k
   ·have hb:(g==k)=true:=beq_iff_eq.mpr h
    simp only [List.lookup,hb,if_neg (fun e:g=f=>hk (h.symm.trans e))]
   ·have hb:(g==k)=false:=beq_eq_false_iff_ne.mpr h
    simp only [List.lookup,hb]
    exact ih
theorem keys_putF (f:Str) (v:V) : ∀ fs:List (Str×V),f ∈ (putF f v fs).map (·.1) ∧ ∀ g,g ∈ fs.map (·.1)→g ∈ (putF f v fs).map (·.1)
 | []=>⟨by simp [putF],fun g h=>by simp at h⟩
 | (k,x)::r=>by
  obtain ⟨i1,i2⟩:=keys_putF f v r
  rw [show putF f v ((k,x)::r)=(if k=f then (k,v)::r else (k,x)::putF f v r) from rfl]
  by_cases hk:k=f
  ·rw [if_pos hk]
   subst hk
   exact ⟨by simp,fun g h=>by simpa using h⟩
  ·rw [if_neg hk]
   refine ⟨?_,fun g h=>?_⟩
   ·rw [List.map_cons]
    exact List.mem_cons_of_mem _ i1
   ·rw [List.map_cons] at h ⊢
    rcases List.mem_cons.mp h with e|e
    ·exact List.mem_cons.mpr (.inl e)
    ·exact List.mem_cons_of_mem _ (i2 g e)
theorem length_putF (f:Str) (v:V) : ∀ fs:List (Str×V),(putF f v fs).length≤fs.length+1
 | []=>by simp [putF]
 | (k,x)::r=>by
  have ih:=length_putF f v r
  rw [show putF f v ((k,x)::r)=(if k=f then (k,v)::r else (k,x)::putF f v r) from rfl]
  by_cases hk:k=f
  ·rw [if_pos hk,List.length_cons,List.length_cons];omega
  ·rw [if_neg hk,List.length_cons,List.length_cons];omega
theorem RelO.some_of {v:V}{o:Option Value} (r:RelO (some v) o) : ∃ u,o=some u∧RelV v u:=by
 cases o with
 | none=>exact (show False from r).elim
 | some u=>exact ⟨u,rfl,r⟩
theorem RelO.none_of {o:Option Value} (r:RelO none o):o=none:=by
 cases o with
 | none=>rfl
 | some u=>exact (show False from r).elim
theorem handed_of {v:V}{u:Value} (r:RelV v u):PySem.W.handedIn u=true:=by
 cases v with
 | non=>cases (show u=Value.none from r);rfl
 | bl b=>cases (show u=Value.bool b from r);rfl
 | int i=>obtain ⟨t,e⟩:=(show ∃ t,u=Value.int i t from r);cases e;rfl
 | str x=>obtain ⟨t,e⟩:=(show ∃ t,u=Value.str x t from r);cases e;rfl
 | byt b=>obtain ⟨t,e⟩:=(show ∃ t,u=Value.bytes b t from r);cases e;rfl
 | flt b=>obtain ⟨t,e⟩:=(show ∃ t,u=Value.float b t from r);cases e;rfl
 | ref a=>cases (show u=Value.ref a from r);rfl
 | ty n=>cases (show u=Value.type n from r);rfl
section
variable {P:Program}{w:World}{H H':Hp}{h h':Heap}{a C dx:Addr}{fs fs':List (Str×V)}
theorem ins_get (hok:HOk P w H h) (e:H a=some (.ins C dx fs)) : ∃ mA,ObjM h a dx C mA∧(∀ f,RelO (fs.lookup f) (mA f))∧PySem.Within mA (fs.map (·.1))∧fs.length≤1000∧H dx=some (.own a):=by
 obtain ⟨d,z,ne,ob,mA,n,r,q⟩:=(show ObjOk P w H h a (.ins C dx fs) from hok a _ e)
 exact ⟨mA,⟨ob,n,ne⟩,r,q,z,d⟩
end
structure Cls (K:PySem.W.Frag) (C:Addr):Prop where
 pg:PySem.W.plainGet K C Str.empty=true
 hd:PySem.W.hasDictIn K C=true
 po:PySem.W.plainOver K C=true
 sa:PySem.W.findIn K (.ref C) "__setattr__" = some (some (.builtin "object.__setattr__"))
theorem Cls.get {K:PySem.W.Frag}{C:Addr} (c:Cls K C) (f:Str):PySem.W.plainGet K C f=true:=c.pg
def NoAttr (K:PySem.W.Frag) (C:Addr) (f:Str):Prop:=PySem.W.findIn K (.ref C) f=some none
theorem NoAttr.taker {K:PySem.W.Frag}{C:Addr}{f:Str} (n:NoAttr K C f):PySem.W.takerIn K C f=some none:=by
 unfold PySem.W.takerIn
 rw [show PySem.W.findIn K (.ref C) f=some none from n]
 rfl
structure Meth (K:PySem.W.Frag) (C:Addr) (m:Str) (f:Addr):Prop where
 at_:PySem.W.findIn K (.ref C) m=some (some (.ref f))
 fn:PySem.W.isFn K (.ref f)=true
 kp:PySem.W.keepIn K (.ref f)=true
section
variable {X:Cx}{pins:List (Addr×Obj)}{σ:St}{H:Hp}{s:Shared}{a C dx:Addr}{fs:List (Str×V)}{f:Str}{v:V}{A:Around}{E:Value→Shared→Prop}
theorem getattr_ok {b:Bool}{Q:Value→Shared→Prop} (I:Inv X pins σ H s) (e:H a=some (.ins C dx fs)) (c:Cls X.K C) (n:NoAttr X.K C f) (l:fs.lookup f=some v)
 (h : ∀ u s',Inv X pins σ H s'→RelV v u→Q u s'):wpAny (model X.prog X.w) A (getAttr (.ref a) f b) Q E s:=by
  obtain ⟨mA,O,r,_,_,_⟩:=ins_get I.hok e
  obtain ⟨u,hu,ru⟩:=RelO.some_of (v:=v) (o:=mA f) (by rw [← l];exact r f)
  exact get_map I.kIn O (c.get f) c.hd n hu (handed_of ru) (h u _ (I.tok _) ru)
theorem getmeth_ok {m:Str}{g:Addr}{pl:Sem Bool}{Q:Value×List Value→Shared→Prop} (I:Inv X pins σ H s) (e:H a=some (.ins C dx fs)) (c:Cls X.K C) (k:Meth X.K C m g) (l:fs.lookup m=none)
 (h:Q (.ref g,[.ref a]) s):wpAny (model X.prog X.w) A (getMethod (.ref a) m pl) Q E s:=by
  obtain ⟨mA,O,r,_,_,_⟩:=ins_get I.hok e
  have hn:mA m=none:=RelO.none_of (by rw [← l];exact r m)
  exact get_meth I.kIn O (c.get m) k.at_ k.fn hn h
theorem setattr_ok {y:V}{u:Value}{Q:Unit→Shared→Prop} (I:Inv X pins σ H s) (e:H a=some (.ins C dx fs)) (c:Cls X.K C) (n:NoAttr X.K C f) (hl:fs.length<1000) (ry:RelV y u)
 (h : ∀ s',Inv X pins σ (upd H a (.ins C dx (putF f y fs))) s'→Q () s'):wpAny (model X.prog X.w) A (setAttr (.ref a) f u) Q E s:=by
  obtain ⟨mA,O,r,wi,_,ho⟩:=ins_get I.hok e
  have hz:(fs.map (·.1)).length≤sizeLine:=by rw [List.length_map,sizeLine_eq];omega
  refine set_map I.kIn O c.sa c.po n.taker c.hd wi hz fun h' O' sb=>h _ ?_
  have hd : ∃ o,h'.get? dx=some o:=let ⟨o,_,_,e',_⟩:=O'.ns; ⟨o,e'⟩
  refine I.write (x:=a) (e:=dx) (by rw [e];exact True.intro) (.inr ho) (fun b q hb z=>(sb.2 b hb).trans z) hd ?_
  refine ⟨by rw [upd_ne O.ne];exact ho,?_,O.ne,O'.obj,_,O'.ns,fun g=>?_,fun g hg=>?_⟩
  ·have:=length_putF f y fs;omega
  ·show RelO ((putF f y fs).lookup g) (if g=f then some u else mA g)
   rw [lookup_putF]
   by_cases q:g=f
   ·rw [if_pos q,if_pos q];exact ry
   ·rw [if_neg q,if_neg q];exact r g
  ·by_cases q:g=f
   ·rw [q];exact (keys_putF f y fs).1
   ·refine (keys_putF f y fs).2 g (wi g fun z=>hg ?_)
    show (if g=f then some u else mA g)=none
    rw [if_neg q];exact z
theorem Inv.made (I:Inv X pins σ H s):Inv X pins σ (upd (upd H s.heap.objs.size (.own (s.heap.objs.size+1))) (s.heap.objs.size+1) (.ins C s.heap.objs.size []))
 { s with heap:=(s.heap.push PySem.W.emptyDict).push (PySem.W.instObj C s.heap.objs.size) }:=by
  have e1:(s.heap.push PySem.W.emptyDict).get? s.heap.objs.size=some PySem.W.emptyDict:=Heap.get?_push_size s.heap rfl
  have e2:((s.heap.push PySem.W.emptyDict).push (PySem.W.instObj C s.heap.objs.size)).get? (s.heap.objs.size+1)=some (PySem.W.instObj C s.heap.objs.size):=by
   have:=Heap.get?_push_size (s.heap.push PySem.W.emptyDict) (o:=PySem.W.instObj C s.heap.objs.size) rfl
   rwa [Heap.size_push] at this
  have e3:(s.heap.push PySem.W.emptyDict).Ns s.heap.objs.size (fun _=>none):=⟨PySem.W.emptyDict,#[],_,e1,rfl,(fun e he=>absurd he (by simp)),fun _=>rfl⟩
  have I1:=I.laid (a:=s.heap.objs.size) (o :=.own (s.heap.objs.size+1)) (h':=s.heap.push PySem.W.emptyDict) (t':=s.toks) (fun b u q=>Heap.get?_push_of_some _ q) (Nat.le_refl _) ⟨_,e1⟩
  refine I1.laid (a:=s.heap.objs.size+1) (o :=.ins C s.heap.objs.size []) (t':=s.toks) (fun b u q=>Heap.get?_push_of_some _ q) (Nat.le_of_eq (Heap.size_push _ _)) ?_
  have ne:s.heap.objs.size≠s.heap.objs.size+1:=Nat.ne_of_lt (Nat.lt_succ_self _)
  refine ⟨by rw [upd_ne ne,upd_same],Nat.zero_le _,ne,e2,fun _=>none,(Heap.Ns1.of_empty e3).at fun o q=>Heap.get?_push_of_some _ q,fun _=>True.intro,fun y hy=>absurd rfl hy⟩
theorem attr_of {prog:Program}{w:World}{env:Env}{e:Expr}{f:Str}{pos:Pos}{s:Shared}{Q:Value→Shared→Prop} (hb:attributeBase e f env (eval e env)=eval e env)
 (h:wpAny (model prog w) A (eval e env) (fun o s₁=>wpAny (model prog w) A (getAttr o f true) Q E s₁) E s):wpAny (model prog w) A (eval (.Attribute e f pos) env) Q E s :=
  Attribute_any_ h (by rw [arm_eval_Attribute,hb])
end
def tFld (K:PySem.W.Frag) (ta:TE) (f:Str):TE:=fun σ H Q=>ta σ H fun x H1 => ∃ a C dx fs v,x = .ref a∧H1 a=some (.ins C dx fs)∧Cls K C∧NoAttr K C f∧fs.lookup f=some v∧Q v H1
def sFld (K:PySem.W.Frag) (ta tv:TE) (f:Str):TS:=fun D σ H=>tv σ H fun y H1=>ta σ H1 fun x H2 => ∃ a C dx fs,x = .ref a∧H2 a=some (.ins C dx fs)∧Cls K C∧NoAttr K C f∧fs.length<1000 ∧
 D.nx σ (upd H2 a (.ins C dx (putF f y fs)))
section
variable {X:Cx}{o e value:Expr}{f:Str}{pos pos' tpos:Pos}{ta tv:TE}
theorem pe_fld (he:PE X e ta) (hb:attributeBase e f X.env (eval e X.env)=eval e X.env):PE X (.Attribute e f pos) (tFld X.K ta f):=by
 intro pins s σ H Q I h
 refine attr_of hb (thn (he pins s σ H _ I h) fun u s1 xx34=>?_)
 obtain ⟨x,H1,I1,rx,a,C,dx,fs,v,ex,ea,c,n,l,q⟩:=xx34
 subst ex
 obtain rfl:u=Value.ref a:=rx
 exact getattr_ok I1 ea c n l fun u' s2 I2 ru=>⟨v,H1,I2,ru,q⟩
theorem ps_fld (ha:PE X o ta) (hv:PE X value tv) (hs:swapsWith value (some (.Attribute o f pos')) pos.line X.env=pure false):PS X (.Assign [.Attribute o f pos'] value pos) (sFld X.K ta tv f):=by
 intro pins s σ H D I h
 refine plainObj_wpAny_Assign_Attribute (thn (hv pins s σ H _ I h) fun u s1 ⟨y,H1,I1,ry,q⟩=>thn (ha pins s1 σ H1 _ I1 q) fun ov s2 xx35=>?_) hs
 obtain ⟨x,H2,I2,rx,a,C,dx,fs,ex,ea,c,n,l,q2⟩:=xx35
 subst ex
 obtain rfl:ov=Value.ref a:=rx
 exact setattr_ok I2 ea c n l ry fun s3 I3=>⟨σ,_,I3,q2⟩
end
section
variable {X:Cx}{pins:List (Addr×Obj)}{σ:St}{H:Hp}{s:Shared}{A:Around}{E:Value→Shared→Prop}{Q:Value→Shared→Prop}{c:Value}{b:Bool}
end
end L2
namespace L2
open PySem PySem.Spec PyProof.Rows
structure Room (k:Nat) (A:Around):Prop where
 hd:A.handled=none
 dp:A.depth+3*k+5<recursionLimit
 un:A.units+16*k+200<cLine
theorem Room.mono {j k:Nat}{A:Around} (r:Room k A) (h:j≤k):Room j A:=⟨r.hd,by have:=r.dp;omega,by have:=r.un;omega⟩
theorem Room.deeper {k:Nat}{A:Around} (r:Room (k+1) A) (env:Env):Room k (A.deeper env) :=
 ⟨r.hd,by have:=r.dp;show A.depth+1+3*k+5<_;omega,by have:=r.un;show A.units+3+16*k+200<_;omega⟩
theorem make_depth {A:Around}{C:Addr}{us:List Value}{kw:List (Str×Value)}:(A.under (.builtin "type.__call__" ⟨.ref C::us,kw⟩)).depth=A.depth+1:=by
 first|rfl|simp [Around.under,Code.weight,Code.isCreation,Code.isGuard,Code.isCaller,Code.frames,Code.isFrame,guardIds]
theorem make_units {A:Around}{C:Addr}{us:List Value}{kw:List (Str×Value)}:(A.under (.builtin "type.__call__" ⟨.ref C::us,kw⟩)).units=A.units+1:=by
 first|rfl|simp [Around.under,Code.cUnits,Code.frames,Code.isFrame]
theorem Room.make {k:Nat}{A:Around} (r:Room (k+1) A) (C:Addr) (us:List Value) (kw:List (Str×Value)):Room k (A.under (.builtin "type.__call__" ⟨.ref C::us,kw⟩)) :=
 ⟨r.hd,by have:=r.dp;rw [make_depth];omega,by have:=r.un;rw [make_units];omega⟩
theorem Room.depth {k:Nat}{A:Around} (r:Room k A):A.depth<recursionLimit:=by have:=r.dp;omega
theorem Room.units {k:Nat}{A:Around} (r:Room k A):A.units+64<cLine:=by have:=r.un;omega
def tNil:TA:=fun _ H Q=>Q [] H
def tCons (ta:TE) (tr:TA):TA:=fun σ H Q=>ta σ H fun x H1=>tr σ H1 fun xs H2=>Q (x::xs) H2
section
variable {X:Cx}{e:Expr}{es:List Expr}{te:TE}{t:TA}{pos:Pos}
theorem pa_nil:PA X [] tNil:=fun _ _ _ _ H Q I h=>Calls.spliced_nil ⟨[],H,I,.nil,h⟩
theorem pa_cons (ha:PE X e te) (hr:PA X es t) (hs:starEach (e::es) X.env=(false,eval e X.env)::starEach es X.env:=by rfl):PA X (e::es) (tCons te t):=by
 intro pos pins s σ H Q I h
 rw [hs]
 show wpAny _ _ (spliced ((false,eval e X.env)::backTo pos (starEach es X.env))) _ _ s
 refine Calls.spliced_cons (thn (ha pins s σ H _ I h) fun u s1 xx38=>?_)
 obtain ⟨x,H1,I1,r1,q1⟩:=xx38
 exact thn (hr pos pins s1 σ H1 _ I1 q1) fun us s2 xx37=>by obtain ⟨xs,H2,I2,r2,q2⟩:=xx37;exact ⟨x::xs,H2,I2,.cons r1 r2,q2⟩
def tTup (t:TA):TE:=fun σ H Q=>t σ H fun xs H1=>xs.length≤sizeLine ∧ ∀ p,H1 p=none→Q (.ref p) (upd H1 p (.tup xs))
def tLst (t:TA):TE:=fun σ H Q=>t σ H fun xs H1=>xs.length≤sizeLine ∧ ∀ p,H1 p=none→Q (.ref p) (upd H1 p (.lst xs))
theorem pe_tup {x1} (h:PA X es t):PE X (.Tuple es x1 pos) (tTup t):=by
 intro pins s σ H Q I hq
 refine wpAny_Tuple_spliced (thn (h pos pins s σ H _ I hq) fun us s1 ⟨xs,H1,I1,r,z,q⟩=>⟨by rw [← r.length];exact z,?_⟩)
 have hf:H1 s1.heap.objs.size=none:=I1.hok.fresh (Nat.le_refl _)
 refine ⟨.ref s1.heap.objs.size,upd H1 s1.heap.objs.size (.tup xs),I1.laid (t':=s1.toks) (fun b u e=>Heap.get?_push_of_some _ e) (Nat.le_refl _) ?_,rfl,q _ hf⟩
 exact ⟨z,us,r,⟨_,Heap.get?_push_size _ rfl,rfl,_,rfl⟩⟩
theorem pe_lst (h:PA X es t):PE X (.List es pos) (tLst t):=by
 intro pins s σ H Q I hq
 refine wpAny_List_spliced (thn (h pos pins s σ H _ I hq) fun us s1 ⟨xs,H1,I1,r,z,q⟩=>⟨by rw [← r.length];exact z,?_⟩)
 have hf:H1 s1.heap.objs.size=none:=I1.hok.fresh (Nat.le_refl _)
 refine ⟨.ref s1.heap.objs.size,upd H1 s1.heap.objs.size (.lst xs),I1.laid (t':=s1.toks) (fun b u e=>Heap.get?_push_of_some _ e) (Nat.le_refl _) ?_,rfl,q _ hf⟩
 exact ⟨z,us,0,r,Heap.get?_push_size _ rfl⟩
end
abbrev Sp:=List V→Hp→VK→XK→Prop
abbrev CXT:=List Env→Hp→Shared→XK→Value→Shared→Prop
structure Env0 (P:Program) (w:World) (K:PySem.W.Frag) (mg:Str→Option Value) (base:Heap) (A:Around) (outer:List Env) (s:Shared) (H:Hp):Prop where
 frames:A.frames=some outer
 mod:Mod K mg base
 bs : ∀ b o,base.get? b=some o→s.heap.get? b=some o∧H b=none
 bsz:base.objs.size≤s.heap.objs.size
 funs:s.heap.FunFrames base outer
 frf : ∀ b ∈ frs outer,H b=none
 hok:HOk P w H s.heap
 bare:AllBare s.gens
def CE (outer:List Env) (P:Program) (w:World) (H:Hp) (s:Shared) (Q:VK) (u:Value) (s':Shared):Prop :=
 ∃ v H',s'.os=s.os∧AllBare s'.gens∧Un (frs outer) [] H H' s.heap s'.heap∧HOk P w H' s'.heap∧RelV v u∧Q v H'
def CR (CX:CXT) (outer:List Env) (P:Program) (w:World) (H:Hp) (s:Shared) (Q:VK) (E:XK) (r:Result) (s':Shared):Prop :=
 match r with
 | .ok (.ret u)=>CE outer P w H s Q u s'
 | .ok _=>False
 | .error e=>CX outer H s E e s'
structure FnOk (P:Program) (w:World) (K:PySem.W.Frag) (mg:Str→Option Value) (base:Heap) (CX:CXT) (k:Nat) (f:Addr) (fd:FuncData) (ps:List Str) (sp:Sp):Prop where
 len : ∀ vs H Q E,sp vs H Q E→vs.length=ps.length
 run : ∀ (A:Around) (outer:List Env) (s:Shared) (H:Hp) (args:Args) (us:List Value) (vs:List V) (Q:VK) (E:XK),Room k A→Env0 P w K mg base A outer s H→BindsTo s fd args (ps.zip us)→Vals vs us→sp vs H Q E →
  codeAny (model P w) A (.call (.ref f) args) (CR CX outer P w H s Q E) s
theorem FnOk.imp {P:Program}{w:World}{K:PySem.W.Frag}{mg:Str→Option Value}{base:Heap}{CX:CXT}{k:Nat}{f:Addr}{fd:FuncData}{ps:List Str}{sp sp':Sp} (F:FnOk P w K mg base CX k f fd ps sp)
 (h : ∀ vs H Q E,sp' vs H Q E→sp vs H Q E):FnOk P w K mg base CX k f fd ps sp' :=
  ⟨fun vs H Q E q=>F.len vs H Q E (h _ _ _ _ q),fun A outer s H args us vs Q E hr he hb hv hs=>F.run A outer s H args us vs Q E hr he hb hv (h _ _ _ _ hs)⟩
theorem Env0.make {P:Program}{w:World}{K:PySem.W.Frag}{mg:Str→Option Value}{base:Heap}{A:Around}{outer:List Env}{s:Shared}{H:Hp} (e:Env0 P w K mg base A outer s H) (C:Addr) (us:List Value) (kw:List (Str×Value)) :
 Env0 P w K mg base (A.under (.builtin "type.__call__" ⟨.ref C::us,kw⟩)) outer s H:=⟨by first|exact e.frames|(simpa [Around.under,Code.envs,Code.isFrame,pushEnvs] using e.frames),e.mod,e.bs,e.bsz,e.funs,e.frf,e.hok,e.bare⟩
section
variable {X:Cx}{pins:List (Addr×Obj)}{σ:St}{H:Hp}{s s':Shared}
theorem Inv.env0 (I:Inv X pins σ H s):Env0 X.prog X.w X.K X.mg X.base X.A X.stack s H :=
 ⟨I.ok.frames,I.ok.mod,I.bs,Nat.le_trans I.ok.bsz I.sz,I.stack,I.stkFree,I.hok,I.bare⟩
theorem Inv.after {Q:VK}{u:Value} (I:Inv X pins σ H s) (h:CE X.stack X.prog X.w H s Q u s'):EP X pins σ Q u s':=by
 obtain ⟨v,H',os,bare,un,hok,r,q⟩:=h
 obtain ⟨hh,g,d,t,os'⟩:=s'
 obtain rfl:os'=s.os:=os
 exact ⟨v,H',I.call (h':=hh) (g':=g) (d':=d) (t':=t) (ch:=[]) un hok bare (fun b z=>absurd z (by simp)),r,q⟩
end
def tCall (sp:Sp) (dvs:List V) (E:XK) (t:TA):TE:=fun σ H Q=>t σ H fun vs H1=>sp (vs++dvs) H1 Q E
def tMeth (C:Addr) (m:Str) (sp:Sp) (dvs:List V) (E:XK) (ta:TE) (t:TA):TE:=fun σ H Q=>ta σ H fun x H1 => ∃ a dx fs,x = .ref a∧H1 a=some (.ins C dx fs)∧fs.lookup m=none ∧
 t σ H1 fun vs H2=>sp (x::(vs++dvs)) H2 Q E
def tMake (C:Addr) (sp:Sp) (dvs:List V) (E:XK) (t:TA):TE:=fun σ H Q=>t σ H fun vs H1 => ∀ x dx,H1 x=none→H1 dx=none→dx≠x →
 sp (.ref x::(vs++dvs)) (upd (upd H1 dx (.own x)) x (.ins C dx [])) (fun v H2=>v = .non∧Q (.ref x) H2) E
def Binds (K:PySem.W.Frag) (fd:FuncData) (ps:List Str) (ds:List Value):Prop :=
 ∀ (s:Shared) (us:List Value),K.In s.heap→(us++ds).length=ps.length→BindsTo s fd ⟨us,[]⟩ (ps.zip (us++ds))
theorem Binds.all {K:PySem.W.Frag}{fd:FuncData}{ps:List Str} (h : ∀ us:List Value,us.length=ps.length→bindArgs fd ⟨us,[]⟩=pure (ps.zip us)):Binds K fd ps []:=fun s us _ hl=>by
 rw [List.append_nil] at hl ⊢
 exact .of_eq (h us hl)
def Passes (CX:CXT) (X:Cx) (E:XK):Prop := ∀ (pins:List (Addr×Obj)) (σ:St) (H:Hp) (s:Shared) (e:Value) (s':Shared),Inv X pins σ H s→CX X.stack H s E e s'→X.xe e s'
section
variable {X:Cx}{CX:CXT}{k:Nat}{f C:Addr}{fd:FuncData}{ps:List Str}{sp:Sp}{dvs:List V}{ds:List Value}{E:XK}{x m:Str}{p pos apos:Pos}{e o:Expr}{es:List Expr}{ta:TE}{t:TA}
theorem run_fn {pins:List (Addr×Obj)}{σ:St}{H:Hp}{s:Shared}{Q:VK}{us:List Value}{vs:List V} (F:FnOk X.prog X.w X.K X.mg X.base CX k f fd ps sp) (hr:Room k X.A) (hb:Binds X.K fd ps ds) (hd:Vals dvs ds) (hx:Passes CX X E)
 (I:Inv X pins σ H s) (r:Vals vs us) (h:sp (vs++dvs) H Q E):wpAny (model X.prog X.w) X.A (call (.ref f) us) (EP X pins σ Q) X.xe s:=by
  have r2:Vals (vs++dvs) (us++ds):=r.append hd
  have hl:(us++ds).length=ps.length:=by rw [← r2.length];exact F.len _ _ _ _ h
  refine wpAny_call (codeAny_mono (F.run X.A X.stack s H ⟨us,[]⟩ (us++ds) (vs++dvs) Q E hr I.env0 (hb s us I.kIn hl) r2 h) fun r s' hq=>?_)
  cases r with
  | error e=>exact hx pins σ H s e s' I hq
  | ok fl =>
   cases fl with
   | ret u=>exact I.after hq
   | next=>exact False.elim hq
   | brk=>exact False.elim hq
   | cont=>exact False.elim hq
theorem pe_meth {pl:Sem Bool} (he:PE X o ta) (c:Cls X.K C) (hm:Meth X.K C m f) (F:FnOk X.prog X.w X.K X.mg X.base CX k f fd ps sp) (hr:Room k X.A) (hb:Binds X.K fd ps ds) (hd:Vals dvs ds) (hx:Passes CX X E) (ha:PA X (e::es) t)
 (hst:starEach (e::es) X.env=(false,eval e X.env)::starEach es X.env:=by rfl) (hpl:(backTo pos (starEach es X.env)).any (·.1)=false:=by rfl)
  (ht:eval (.Call (.Attribute o m apos) (e::es) [] pos) X.env=(do
   let ov ← eval o X.env
   standAt apos.atName
   let (f,first) ← holding [ov] (getMethod ov m pl)
   callWith pos f first (backTo pos (starEach (e::es) X.env)) (backToKw pos (keywordEach [] X.env))):=by rfl) :
  PE X (.Call (.Attribute o m apos) (e::es) [] pos) (tMeth C m sp dvs E ta t):=by
  intro pins s σ H Q I h
  refine PySem.W.methodCall_KW (pl:=pl) (thn (he pins s σ H _ I h) fun u s1 xx42=>?_) ht
  obtain ⟨x,H1,I1,rx,a,dx,fs,ex,ea,l,q⟩:=xx42
  subst ex
  obtain rfl:u=Value.ref a:=rx
  refine getmeth_ok I1 ea c hm l ?_
  refine PySem.W.callWith_K (first:=[.ref a]) (h₀:=X.base) I.ok.mod.kin hm.kp (thn (ha pos pins s1 σ H1 _ I1 q) fun us s2 ⟨vs,H2,I2,r,q2⟩=>⟨I2.kIn,?_⟩) hst hpl
  exact run_fn (us :=.ref a::us) (vs :=.ref a::vs) F hr hb hd hx I2 (.cons rfl r) q2
theorem pe_meth0 {pl:Sem Bool} (he:PE X o ta) (c:Cls X.K C) (hm:Meth X.K C m f) (F:FnOk X.prog X.w X.K X.mg X.base CX k f fd ps sp) (hr:Room k X.A) (hb:Binds X.K fd ps ds) (hd:Vals dvs ds) (hx:Passes CX X E)
 (ht:eval (.Call (.Attribute o m apos) [] [] pos) X.env=(do
 let ov ← eval o X.env
 standAt apos.atName
 let (f,first) ← holding [ov] (getMethod ov m pl)
 callWith pos f first (backTo pos (starEach [] X.env)) (backToKw pos (keywordEach [] X.env))):=by rfl) :
  PE X (.Call (.Attribute o m apos) [] [] pos) (tMeth C m sp dvs E ta tNil):=by
  intro pins s σ H Q I h
  refine PySem.W.methodCall_KW (pl:=pl) (thn (he pins s σ H _ I h) fun u s1 xx43=>?_) ht
  obtain ⟨x,H1,I1,rx,a,dx,fs,ex,ea,l,q⟩:=xx43
  subst ex
  obtain rfl:u=Value.ref a:=rx
  refine getmeth_ok I1 ea c hm l ?_
  exact PySem.W.callWith_K0 (first:=[.ref a]) I1.kIn hm.kp (run_fn (us:=[.ref a]) (vs:=[.ref a]) F hr hb hd hx I1 (.cons rfl .nil) q)
structure Mk (K:PySem.W.Frag) (C f:Addr):Prop where
 makes:PySem.W.makesIn K C=true
 init:PySem.W.findIn K (.ref C) "__init__" = some (some (.ref f))
 fn:PySem.W.isFn K (.ref f)=true
 kp:PySem.W.keepIn K (.ref C)=true
theorem run_make {pins:List (Addr×Obj)}{σ:St}{H:Hp}{s:Shared}{Q:VK}{us:List Value}{vs:List V} (M:Mk X.K C f) (F:FnOk X.prog X.w X.K X.mg X.base CX k f fd ps sp) (hr:Room (k+1) X.A) (hb:Binds X.K fd ps ds) (hd:Vals dvs ds)
 (hx:Passes CX X E) (I:Inv X pins σ H s) (r:Vals vs us)
 (h : ∀ x dx,H x=none→H dx=none→dx≠x→sp (.ref x::(vs++dvs)) (upd (upd H dx (.own x)) x (.ins C dx [])) (fun v H2=>v = .non∧Q (.ref x) H2) E) :
 wpAny (model X.prog X.w) X.A (call (.ref C) us) (EP X pins σ Q) X.xe s:=by
  have hq:=h (s.heap.objs.size+1) s.heap.objs.size (I.hok.fresh (Nat.le_succ _)) (I.hok.fresh (Nat.le_refl _)) (Nat.ne_of_lt (Nat.lt_succ_self _))
  have I2:=Inv.made (C:=C) I
  have r2:Vals (V.ref (s.heap.objs.size+1)::(vs++dvs)) (Value.ref (s.heap.objs.size+1)::(us++ds)) :=.cons rfl (r.append hd)
  have hl:(Value.ref (s.heap.objs.size+1)::us++ds).length=ps.length:=by
   have e:=r2.length
   rw [F.len _ _ _ _ hq] at e
   exact e.symm
  refine wpAny_call (make_map (f:=f) I.kIn M.makes M.init (beq_iff_eq.mp M.fn) (codeAny_mono (F.run _ X.stack _ _ ⟨Value.ref (s.heap.objs.size+1)::us,[]⟩ (Value.ref (s.heap.objs.size+1)::(us++ds)) _ _ E (hr.make C us [])
   (I2.env0.make C us []) (hb _ (Value.ref (s.heap.objs.size+1)::us) I2.kIn hl) r2 hq) fun r s' hq'=>?_))
  cases r with
  | error e=>exact hx pins σ _ _ e s' I2 hq'
  | ok fl =>
   cases fl with
   | ret u =>
    obtain ⟨v,H',I3,rv,ev,q3⟩:=I2.after hq'
    subst ev
    exact ⟨rv,⟨V.ref (s.heap.objs.size+1),H',I3,rfl,q3⟩⟩
   | next=>exact False.elim hq'
   | brk=>exact False.elim hq'
   | cont=>exact False.elim hq'
theorem pe_make (M:Mk X.K C f) (F:FnOk X.prog X.w X.K X.mg X.base CX k f fd ps sp) (hr:Room (k+1) X.A) (hg:Gl X x) (hm:X.mg x=some (.ref C)) (hb:Binds X.K fd ps ds) (hd:Vals dvs ds) (hx:Passes CX X E)
 (ha:PA X (e::es) t) (hdb:(x==("__debug__" : Str))=false:=by decide) (he:starEach (e::es) X.env=(false,eval e X.env)::starEach es X.env:=by rfl) (hpl:(backTo pos (starEach es X.env)).any (·.1)=false:=by rfl) :
  PE X (.Call (.Name x p) (e::es) [] pos) (tMake C sp dvs E t):=by
  intro pins s σ H Q I h
  refine wpAny_Call_Name_kw (ld_glob I hg hm ?_ hdb)
  refine PySem.W.callWith_K (h₀:=X.base) I.ok.mod.kin M.kp (thn (ha pos pins s σ H _ I h) fun us s1 ⟨vs,H1,I1,r,q⟩=>⟨I1.kIn,?_⟩) he hpl
  exact run_make M F hr hb hd hx I1 r q
end
section
variable {X:Cx}{CX:CXT}{k:Nat}{f C:Addr}{fd:FuncData}{ps ks:List Str}{sp:Sp}{E:XK}{x m:Str}{p pos apos kpos:Pos}{e o:Expr}{es:List Expr}{kws:List Keyword}{te ta:TE}{t tk:TA}{nm:Option Str}
variable {g:List Value→List Value→List Value}{gV:List V→List V→List V}
end
structure FnScope (N P:List Str) (sc:Scope):Prop where
 kind:sc.kind = .function
 co:sc.isCoroutine=false
 gen:sc.isGenerator=false
 nd:N.Nodup
 pre:N.take P.length=P
 par : ∀ x ∈ P,sc.names.lookup x=some .local∨sc.names.lookup x=some .cell
 nofree : ∀ y ∈ sc.names,y.2 ≠ .free
theorem bindL_out {kindOf:Str→Option NameKind}{x:Str} : ∀ {binds:List (Str×Value)}{m:Str→Option Value},(∀ v,(x,v) ∉ binds)→bindL kindOf binds m x=m x
 | [],_,_=>rfl
 | (n,v)::r,m,h=>by
  unfold bindL
  rw [bindL_out fun w hw=>h w (List.mem_cons_of_mem _ hw)]
  split
  ·have:x≠n:=by rintro rfl;exact h v List.mem_cons_self
   simp [this]
  ·rfl
theorem bindC_out {kindOf:Str→Option NameKind}{x:Str} : ∀ {binds:List (Str×Value)}{m:Str→Option Value},(∀ v,(x,v) ∉ binds)→bindC kindOf binds m x=m x
 | [],_,_=>rfl
 | (n,v)::r,m,h=>by
  unfold bindC
  rw [bindC_out fun w hw=>h w (List.mem_cons_of_mem _ hw)]
  split
  ·rfl
  ·have:x≠n:=by rintro rfl;exact h v List.mem_cons_self
   simp [this]
theorem bindL_get {kindOf:Str→Option NameKind}{x:Str}{v:Value} : ∀ {P:List Str}{vs:List Value}{i:Nat}{m:Str→Option Value},P.Nodup→P[i]?=some x→vs[i]?=some v→kindOf x=some .local →
 bindL kindOf (P.zip vs) m x=some v
  | [],_,_,_,_,h,_,_=>by simp at h
  | _::_,[],_,_,_,_,h,_=>by simp at h
  | p::P,w::vs,0,m,nd,h1,h2,hk=>by
   simp at h1 h2;subst h1;subst h2
   show bindL kindOf ((p,w)::P.zip vs) m p=_
   unfold bindL
   rw [bindL_out fun v hv=>(List.nodup_cons.mp nd).1 (List.of_mem_zip hv).1,if_pos hk]
   simp
  | p::P,w::vs,i+1,m,nd,h1,h2,hk=>by
   show bindL kindOf ((p,w)::P.zip vs) m x=_
   unfold bindL
   exact bindL_get (i:=i) (List.nodup_cons.mp nd).2 (by simpa using h1) (by simpa using h2) hk
theorem bindC_get {kindOf:Str→Option NameKind}{x:Str}{v:Value} : ∀ {P:List Str}{vs:List Value}{i:Nat}{m:Str→Option Value},P.Nodup→P[i]?=some x→vs[i]?=some v→kindOf x≠some .local →
 bindC kindOf (P.zip vs) m x=some v
  | [],_,_,_,_,h,_,_=>by simp at h
  | _::_,[],_,_,_,_,h,_=>by simp at h
  | p::P,w::vs,0,m,nd,h1,h2,hk=>by
   simp at h1 h2;subst h1;subst h2
   show bindC kindOf ((p,w)::P.zip vs) m p=_
   unfold bindC
   rw [bindC_out fun v hv=>(List.nodup_cons.mp nd).1 (List.of_mem_zip hv).1,if_neg hk]
   simp
  | p::P,w::vs,i+1,m,nd,h1,h2,hk=>by
   show bindC kindOf ((p,w)::P.zip vs) m x=_
   unfold bindC
   exact bindC_get (i:=i) (List.nodup_cons.mp nd).2 (by simpa using h1) (by simpa using h2) hk
def start (N:List Str) (vs:List V):St:=vs.map some++List.replicate (N.length-vs.length) none
def cxOf (CX:CXT) (P:Program) (w:World) (K:PySem.W.Frag) (mg:Str→Option Value) (base:Heap) (N:List Str) (qual:Str) (scope:Scope) (f:Addr) (cd:Value) (A:Around) (outer:List Env) (s:Shared) (H:Hp) (E:XK):Cx where
 prog:=P
 w:=w
 K:=K
 mg:=mg
 base:=base
 A:=A.deeper (envOfC qual scope s.heap.objs.size f cd)
 N:=N
 s₀:=s
 H₀:=H
 env:=envOfC qual scope s.heap.objs.size f cd
 outer:=outer
 stack:=envOfC qual scope s.heap.objs.size f cd::outer
 ex:=[]
 calm:=true
 fn:=fun _=>true
 pn:=[]
 xe:=fun e s'=>wpAny (model P w) (A.deeper (envOfC qual scope s.heap.objs.size f cd)) (leaving (envOfC qual scope s.heap.objs.size f cd) e) (fun _ s''=>CX outer H s E e s'') (fun e' s''=>CX outer H s E e' s'') s'
theorem cell_has {sc:Scope}{n:Nat}{x:Str} (h:sc.names.lookup x=some .cell) : ∃ c,(cellsFrom n sc.names []).lookup x=some c:=by
 have q:=PySem.W.cellsFrom_some sc.names n [] (.inl h)
 exact Option.isSome_iff_exists.mp q
theorem inv_start {CX:CXT}{P:Program}{w:World}{K:PySem.W.Frag}{mg:Str→Option Value}{base:Heap}{N ps:List Str}{qual:Str}{scope:Scope}{f:Addr}{cd:Value}{A:Around}{outer:List Env}{s s1:Shared}{H:Hp}{E:XK}{us:List Value}{vs:List V}
 (S:FnScope N ps scope) (hd:A.handled=none) (e0:Env0 P w K mg base A outer s H) (hl:vs.length=ps.length) (r:Vals vs us)
 (x:InCallC s s.heap.objs.size (bindL (envOfC qual scope s.heap.objs.size f cd).kindOf (ps.zip us) fun _=>none) (cellsFrom (s.heap.objs.size+1) scope.names []) (bindC (envOfC qual scope s.heap.objs.size f cd).kindOf (ps.zip us) fun _=>none) s1) :
 Inv (cxOf CX P w K mg base N qual scope f cd A outer s H E) [] (start N vs) H s1:=by
  have hpl:ps.length≤N.length:=by have:=congrArg List.length S.pre;rw [List.length_take] at this;omega
  obtain ⟨h1,tk,rfl,hk⟩:=x.done
  have noA : ∀ b:Addr,b ∉ (cxOf CX P w K mg base N qual scope f cd A outer s H E).ex:=fun b z=>absurd (show b ∈ ([]:List Addr) from z) (by simp)
  refine ⟨⟨e0.mod,S.kind,rfl,rfl,Nat.le_refl _,fun y z c h1 h2=>?_,fun y hy=>?_,fun y c _ h=>?_,fun _=>hd,Around.frames_deeper e0.frames,.inr ⟨rfl,rfl⟩,fun b z=>absurd z (noA b),e0.bs,e0.bsz,fun b _ _=>noA b,fun b z=>absurd z (noA b),e0.funs,e0.frf⟩,
   rfl,e0.bare,Un.kept hk,⟨_,x.toInCall.ns,fun i y v h1 h2 h3=>?_⟩,fun y c h=>⟨_,x.cell y c h⟩,e0.hok.fresh (Nat.le_refl _),fun y c h=>?_,fun p hp=>absurd (show p ∈ ([]:List (Addr×Obj)) from hp) (by simp),e0.hok.kept hk,?_⟩
  ·exact name_of_addr x.apart (PySem.mem_of_lookup h1) (PySem.mem_of_lookup h2)
  ·have hy:scope.names.lookup y=some .cell∨scope.names.lookup y=some .free:=hy
   rcases hy with hy|hy
   ·exact cell_has hy
   ·exact absurd rfl (S.nofree _ (PySem.mem_of_lookup hy))
  ·exact Nat.le_of_lt (x.above y c (PySem.mem_of_lookup h))
  ·have hi:i<vs.length:=by
    unfold start at h2
    by_cases hi:i<vs.length
    ·exact hi
    ·rw [List.getElem?_append_right (by simpa using hi)] at h2
     rw [List.getElem?_replicate] at h2
     split at h2 <;> cases h2
   have ha:vs[i]?=some v:=by
    unfold start at h2
    rw [List.getElem?_append_left (by simpa using hi),List.getElem?_map] at h2
    cases e:vs[i]? with
    | none=>rw [e] at h2;cases h2
    | some a=>rw [e] at h2;cases h2;rfl
   obtain ⟨u,hu,rv⟩:=r.get ha
   have hp:ps[i]?=some y:=by
    rw [← S.pre,List.getElem?_take_of_lt (by omega)];exact h1
   have ndP:ps.Nodup:=by rw [← S.pre];exact S.nd.sublist (List.take_sublist _ _)
   refine ⟨u,rv,?_⟩
   rcases S.par y (List.mem_of_getElem? hp) with k|k
   ·exact .inl ⟨k,bindL_get ndP hp hu k⟩
   ·obtain ⟨c,e⟩:=cell_has (n:=s.heap.objs.size+1) k
    refine .inr ⟨.inl k,c,e,?_⟩
    have q:=x.cell y c e
    rw [bindC_get ndP hp hu (by show scope.names.lookup y≠_;rw [k];decide)] at q
    exact q
  ·exact e0.hok.fresh (Nat.le_of_lt (x.above y c (PySem.mem_of_lookup h)))
  ·unfold start
   show _=N.length
   rw [List.length_append,List.length_map,List.length_replicate]
   omega
theorem fn_of {CX:CXT}{P:Program}{w:World}{K:PySem.W.Frag}{mg:Str→Option Value}{base:Heap}{k:Nat}{f:Addr}{name qual:Str}{params:Arguments}{body:List Stmt}{scope:Scope}{dV kV doc pm cdv ct oc:Value}{an od:Option Addr}
 {osl:Array (Option Value)}{N ps:List Str}{sp:Sp} (lk:K.lookup f=some ⟨oc,od,.func (PySem.W.fnOf name qual params body scope dV kV doc pm an cdv ct),osl⟩) (hcd:PySem.W.codeIn K cdv qual=true) (S:FnScope N ps scope)
 (len : ∀ vs H Q E,sp vs H Q E→vs.length=ps.length)
 (hbody : ∀ (A:Around) (outer:List Env) (s:Shared) (H:Hp) (vs:List V) (Q:VK) (E:XK),Room k (A.deeper (envOfC qual scope s.heap.objs.size f cdv))→sp vs H Q E →
 ∃ t,PSs (cxOf CX P w K mg base N qual scope f cdv A outer s H E) body t∧t { nx:=fun _ H'=>Q .non H',rt:=Q } (start N vs) H) :
  FnOk P w K mg base CX (k+1) f (PySem.W.fnOf name qual params body scope dV kV doc pm an cdv ct) ps sp:=by
  refine ⟨len,fun A outer s H args us vs Q E hr e0 hb r hsp=>?_⟩
  have hl:=len _ _ _ _ hsp
  have KX:K.In s.heap:=e0.mod.kin.keeps fun b o e=>(e0.bs b o e).1
  have lim:s.heap.NoLimit:=e0.mod.nolimit.keeps fun b o e=>(e0.bs b o e).1
  have hkind : ∀ y ∈ ps.zip us,scope.names.lookup y.1=some .local∨(scope.names.lookup y.1=some .cell∧((cellsFrom (s.heap.objs.size+1) scope.names []).lookup y.1).isSome=true):=fun xx45 hy=>by
   obtain ⟨n,v⟩:=xx45
   rcases S.par n (List.of_mem_zip hy).1 with q|q
   ·exact .inl q
   ·exact .inr ⟨q,PySem.W.cellsFrom_some _ _ _ (.inl q)⟩
  refine codeAny_call_function hr.depth (KX _ _ lk) rfl S.co S.gen rfl (PySem.W.codeRec_of KX hcd) (hb _ _ _ _ ?_)
  refine wpAny_newFunctionEnv_cells S.kind hkind fun env he s1 x=>?_
  subst he
  refine ⟨lim.keeps x.toInCall.keep,codeAny_func ?_⟩
  obtain ⟨t,ht,hq⟩:=hbody A outer s H vs Q E (hr.deeper _) hsp
  have I:Inv (cxOf CX P w K mg base N qual scope f cdv A outer s H E) [] (start N vs) H s1:=inv_start S hr.hd e0 hl r x
  refine wpAny_mono (ht [] s1 (start N vs) H _ I hq) (fun fl s' hs=>?_) fun e s' hs=>hs
  have fin : ∀ {σ':St}{H':Hp}{v:V}{u:Value},Inv (cxOf CX P w K mg base N qual scope f cdv A outer s H E) [] σ' H' s'→RelV v u→Q v H'→CE outer P w H s Q u s' :=
   fun {σ' H' v u} J rv q=>⟨v,H',J.os,J.bare,J.base,J.hok,rv,q⟩
  cases fl with
  | ret u =>
   obtain ⟨v,σ',H',J,rv,q⟩:=hs
   exact fin J rv q
  | next =>
   obtain ⟨σ',H',J,q⟩:=hs
   exact fin (v:=V.non) (u:=Value.none) J rfl q
  | brk =>
   obtain ⟨_,_,_,q⟩:=hs
   exact False.elim q
  | cont =>
   obtain ⟨_,_,_,q⟩:=hs
   exact False.elim q
end L2
namespace L2
open PySem PySem.Spec PyProof.Rows
section
variable {X:Cx}{x:Str}{p pos:Pos}{e:Expr}{es:List Expr}{t:TA}{id T:String}{r:List V→Hp→VK→Prop}
def tCB (r:List V→Hp→VK→Prop) (t:TA):TE:=fun σ H Q=>t σ H fun vs H1=>r vs H1 Q
theorem pe_callB (hc:CallR X (.builtin id) r) (hg:Gl X x) (hm:X.mg x=none) (hv:bootBuiltins x=some (.builtin id)) (ha:PA X (e::es) t) (hn:x ≠ "__name__":=by decide) (hdb:(x==("__debug__" : Str))=false:=by decide)
 (he:starEach (e::es) X.env=(false,eval e X.env)::starEach es X.env:=by rfl) (hpl:(backTo pos (starEach es X.env)).any (·.1)=false:=by rfl):PE X (.Call (.Name x p) (e::es) [] pos) (tCB r t):=by
 intro pins s σ H Q I h
 refine wpAny_Call_Name_kw (ld_blt I hg hm hv ?_ hn hdb)
 exact PyProof.Rows.callWith_builtin1 (thn (ha pos pins s σ H _ I h) fun us s1 xx46=>by obtain ⟨vs,H1,I1,r1,q1⟩:=xx46;exact hc pins s1 σ H1 vs us Q I1 r1 q1) he hpl
theorem pe_callTy (hc:CallR X (.type T) r) (hg:Gl X x) (hm:X.mg x=none) (hv:bootBuiltins x=some (.type T)) (ha:PA X (e::es) t) (hn:x ≠ "__name__":=by decide) (hdb:(x==("__debug__" : Str))=false:=by decide)
 (he:starEach (e::es) X.env=(false,eval e X.env)::starEach es X.env:=by rfl) (hpl:(backTo pos (starEach es X.env)).any (·.1)=false:=by rfl):PE X (.Call (.Name x p) (e::es) [] pos) (tCB r t):=by
 intro pins s σ H Q I h
 refine wpAny_Call_Name_kw (ld_blt I hg hm hv ?_ hn hdb)
 exact PyProof.Rows.callWith_type1 (thn (ha pos pins s σ H _ I h) fun us s1 xx47=>by obtain ⟨vs,H1,I1,r1,q1⟩:=xx47;exact hc pins s1 σ H1 vs us Q I1 r1 q1) he hpl
end
end L2
namespace HT
open PySem PyProof.Rows
section
open PySem.SeqAt
open PySem.AutoSeq1 (wpAny_loadPart')
open PySem.MeetsSeq PySem.MeetsSeq2 PySem.MeetsSeq3
end
section
variable {prog:Program}{w:World}{A:Around}{E:Value→Shared→Prop}{s:Shared}
theorem cat_tup {t b:Addr}{vs ws:List Value}{Q:Value→Shared→Prop} (ht:IsTup s.heap t vs.toArray) (hb:IsTup s.heap b ws.toArray) (hv:vs≠[])
 (h1:ws=[]→Q (.ref t) s) (h2:ws≠[]→Q (.ref s.heap.objs.size) { s with heap:=s.heap.push { cls :=.type "tuple",data :=.seq (vs++ws).toArray } })
  (hsz:vs.length+ws.length≤sizeLine):wpAny (model prog w) A (binaryOp .Add (.ref t) (.ref b)) Q E s:=by
  obtain ⟨⟨cls,dd,data,sl⟩,ho,hc,n,hd⟩:=id ht
  obtain ⟨⟨cls2,dd2,data2,sl2⟩,ho2,hc2,n2,hd2⟩:=id hb
  simp only at hc hd hc2 hd2
  subst hc hd hc2 hd2
  have e:vs.toArray++ws.toArray=(vs++ws).toArray:=by simp
  by_cases hw:ws=[]
  ·exact concat_meets ⟨_,ho,rfl⟩ ⟨_,ho2,rfl⟩ noFill_tuple_add seq_tuple_add PySem.F.slot_tuple_add PySem.F.entry_tuple_add (PySem.F.args_tuple_add_2 _ _)
    (tuple_addW1 t b vs.toArray ws.toArray n n2 dd dd2 sl sl2 (by simpa using hv) (by simp [hw])) ⟨ho,ho2,h1 hw⟩
  ·refine concat_meets ⟨_,ho,rfl⟩ ⟨_,ho2,rfl⟩ noFill_tuple_add seq_tuple_add PySem.F.slot_tuple_add PySem.F.entry_tuple_add (PySem.F.args_tuple_add_2 _ _)
    (tuple_addW2 t b vs.toArray ws.toArray n n2 dd dd2 sl sl2 (by simpa using hv) (by simpa using hw) (by rw [List.size_toArray,List.size_toArray];exact hsz)) ⟨ho,ho2,?_⟩
   rw [e]
   exact h2 hw
def sIx (n d:Nat):Option Int→Nat
 | none=>d
 | some v=>if v<0 then (v+(n:Int)).toNat else min v.toNat n
theorem sIx_none (n d:Nat):sIx n d none=d:=rfl
theorem sIx_nat (n d k:Nat):sIx n d (some (k:Int))=min k n:=by
 show (if (k:Int)<0 then ((k:Int)+(n:Int)).toNat else min (k:Int).toNat n)=min k n
 rw [if_neg (by omega),Int.toNat_natCast]
end
end HT
namespace L2
open PySem PySem.Spec PyProof.Rows
abbrev TO:=St→Hp→(Option Int→Hp→Prop)→Prop
def PO (X:Cx) (e:Option Expr) (t:TO):Prop :=
 ∀ (pins:List (Addr×Obj)) (s:Shared) (σ:St) (H:Hp) (Q:Option Int→Hp→Prop),Inv X pins σ H s→t σ H Q →
  wpAny (model X.prog X.w) X.A (evalPart e X.env) (fun u s' => ∃ o H',Inv X pins σ H' s'∧IsPart u o∧Q o H') X.xe s
def tNoPart:TO:=fun _ H Q=>Q none H
def tPart (t:TE):TO:=fun σ H Q=>t σ H fun x H1 => ∃ i,x = .int i∧Q (some i) H1
section
variable {X:Cx}{e:Expr}{te:TE}{lo hi:Option Expr}{tl th:TO}{pos p2:Pos}
theorem po_none:PO X none tNoPart:=by
 intro pins s σ H Q I h
 rw [evalPart_none]
 exact wpAny_pure ⟨none,H,I,.none,h⟩
theorem po_some (h:PE X e te):PO X (some e) (tPart te):=by
 intro pins s σ H Q I hw
 rw [evalPart_some]
 refine thn (h pins s σ H _ I hw) fun u s1 xx48=>?_
 obtain ⟨x,H1,I1,r1,q1⟩:=xx48
 obtain ⟨i,rfl,q⟩:=q1
 obtain ⟨t,rfl⟩:=r1
 exact ⟨some i,H1,I1,.int i t,q⟩
def SlR (X:Cx) (r:V→Option Int→Option Int→Hp→VK→Prop):Prop :=
 ∀ (pins:List (Addr×Obj)) (s:Shared) (σ:St) (H:Hp) (x:V) (v vl vu:Value) (lo hi:Option Int) (sl:Addr) (Q:VK),Inv X pins σ H s→RelV x v→s.heap.IsSliceOf sl vl vu .none→IsPart vl lo→IsPart vu hi→r x lo hi H Q →
  ∃ T id,typeLookup (.type T) "__getitem__" = pure (some (.builtin id))∧s.TypeIs v T∧wpAny (model X.prog X.w) X.A (getItem v (.ref sl)) (EP X pins σ Q) X.xe s
def tSl (r:V→Option Int→Option Int→Hp→VK→Prop) (te:TE) (tl th:TO):TE:=fun σ H Q=>te σ H fun x H1=>tl σ H1 fun l H2=>th σ H2 fun u H3=>r x l u H3 Q
theorem pe_slice {r:V→Option Int→Option Int→Hp→VK→Prop} (hr:SlR X r) (he:PE X e te) (hl:PO X lo tl) (hu:PO X hi th):PE X (.Subscript e (.Slice lo hi none p2) pos) (tSl r te tl th):=by
 intro pins s σ H Q I h
 refine Subscript_ (thn (he pins s σ H _ I h) fun v s1 xx51=>?_)
 obtain ⟨x,H1,I1,r1,q1⟩:=xx51
 refine wpAny_Slice (thn (hl pins s1 σ H1 _ I1 q1) fun vl s2 ⟨l,H2,I2,pl,q2⟩=>thn (hu pins s2 σ H2 _ I2 q2) fun vu s3 xx49=>?_)
 obtain ⟨u,H3,I3,pu,q3⟩:=xx49
 rw [evalPart_none]
 refine wpAny_pure ?_
 have I4:Inv X pins σ H3 { s3 with heap:=s3.heap.push { cls :=.type "slice",data :=.fields #[vl,vu,.none] } }:=I3.kept (t':=s3.toks) fun b ob q=>Heap.get?_push_of_some _ q
 obtain ⟨T,id,hT,ht,hg⟩:=hr pins { s3 with heap:=s3.heap.push { cls :=.type "slice",data :=.fields #[vl,vu,.none] } } σ H3 x v vl vu l u s3.heap.objs.size Q I4 r1 (Heap.IsSliceOf.new ..) pl pu q3
 show wpAny (model X.prog X.w) X.A (subscriptTail e (.Slice lo hi none p2) v (.ref s3.heap.objs.size)) (EP X pins σ Q) X.xe { s3 with heap:=s3.heap.push { cls :=.type "slice",data :=.fields #[vl,vu,.none] } }
 exact tail_any (ops:=[.ref s3.heap.objs.size,v]) ht hT hg (by with_unfolding_all rfl)
def cutV (xs:List V) (lo hi:Option Int):List V:=(xs.drop (HT.sIx xs.length 0 lo)).take (HT.sIx xs.length xs.length hi-HT.sIx xs.length 0 lo)
theorem cutV_length (xs:List V) (lo hi:Option Int):(cutV xs lo hi).length≤xs.length:=by
 unfold cutV
 rw [List.length_take,List.length_drop]
 omega
def rCatT (K:PySem.W.Frag):R2:=fun x y H Q => ∃ a b xs ys,x = .ref a∧y = .ref b∧SqT K H a xs∧SqT K H b ys∧xs≠[]∧xs.length+ys.length≤sizeLine ∧
 (ys=[]→Q (.ref a) H)∧(ys≠[] → ∀ p,H p=none→Q (.ref p) (upd H p (.tup (xs++ys))))
theorem Vals.nil_iff {xs:List V}{us:List Value} (r:Vals xs us):us=[]↔xs=[]:=by
 cases r with
 | nil=>simp
 | cons _ _=>simp
theorem op_catT:OpR X (binaryOp .Add) (rCatT X.K):=by
 intro pins s σ H x y v u Q I rx ry h
 obtain ⟨a,b,xs,ys,rfl,rfl,ha,hb,hx,hz,q1,q2⟩:=h
 cases rx
 cases ry
 obtain ⟨its,r1,p1,_⟩:=I.tuple ha
 obtain ⟨its2,r2,p2,_⟩:=I.tuple hb
 refine HT.cat_tup p1 p2 (fun z=>hx (r1.nil_iff.mp z)) (fun z=>⟨.ref a,H,I,rfl,q1 (r2.nil_iff.mp z)⟩) (fun z=>?_) (by rw [← r1.length,← r2.length];exact hz)
 refine ⟨.ref s.heap.objs.size,_,I.laid (t':=s.toks) (o :=.tup (xs++ys)) (fun b ob q=>Heap.get?_push_of_some _ q) (Nat.le_refl _) ?_,rfl,q2 (fun w=>z (r2.nil_iff.mpr w)) _ (I.hok.fresh (Nat.le_refl _))⟩
 exact ⟨by rw [List.length_append];exact hz,_,r1.append r2,IsTup.new _ _⟩
end
end L2
namespace L2
open PySem PySem.Spec PyProof.Rows
def ixN (n:Nat) (i:Int):Option Nat:=if 0≤i then (if i<n then some i.toNat else none) else if -(n:Int)≤i then some (i+n).toNat else none
def atI {α:Type} (xs:List α) (i:Int):Option α:=(ixN xs.length i).bind fun j=>xs[j]?
theorem ixN_seq {n:Nat}{i:Int}{j:Nat} (h:ixN n i=some j):seqIndex? i n=some j∧j<n ∧ -(n:Int)≤i∧i<n:=by
 unfold ixN at h
 by_cases h0:0≤i
 ·rw [if_pos h0] at h
  by_cases h1:i<n
  ·rw [if_pos h1] at h
   have e:i.toNat=j:=Option.some.inj h
   exact ⟨by rw [seqIndex_of h0 h1,e],by omega,by omega,h1⟩
  ·rw [if_neg h1] at h;cases h
 ·rw [if_neg h0] at h
  by_cases h1 : -(n:Int)≤i
  ·rw [if_pos h1] at h
   have e:(i+n).toNat=j:=Option.some.inj h
   exact ⟨by rw [seqIndex_neg (by omega) h1,e],by omega,h1,by omega⟩
  ·rw [if_neg h1] at h;cases h
theorem atI_get {α:Type}{xs:List α}{i:Int}{v:α} (h:atI xs i=some v) : ∃ j,seqIndex? i xs.length=some j∧xs[j]?=some v∧j<xs.length ∧ -(xs.length:Int)≤i∧i<xs.length:=by
 unfold atI at h
 cases e:ixN xs.length i with
 | none=>rw [e] at h;cases h
 | some j =>
  rw [e] at h
  obtain ⟨h1,h2,h3,h4⟩:=ixN_seq e
  exact ⟨j,h1,h,h2,h3,h4⟩
theorem atI_nat {α:Type}{xs:List α}{j:Nat}{v:α} (h:xs[j]?=some v):atI xs (j:Int)=some v:=by
 have hj:j<xs.length:=(List.getElem?_eq_some_iff.mp h).1
 have e:ixN xs.length (j:Int)=some j:=by
  unfold ixN
  rw [if_pos (by omega),if_pos (by omega)];simp
 unfold atI;rw [e];exact h
theorem atI_last {α:Type} (xs:List α) (v:α):atI (xs++[v]) (-1)=some v:=by
 have hl:(xs++[v]).length=xs.length+1:=by simp
 have e:ixN (xs++[v]).length (-1)=some xs.length:=by
  unfold ixN
  rw [hl,if_neg (by decide),if_pos (by omega)]
  congr 1
  omega
 unfold atI
 rw [e]
 show (xs++[v])[xs.length]?=some v
 simp
def PlainIx (b:Expr):Prop := ∀ o i,subscripted b false o i=operate [o,i] (getItem o i)
def IxR (X:Cx) (r:R2):Prop :=
 ∀ (value slice:Expr) (pins:List (Addr×Obj)) (s:Shared) (σ:St) (H:Hp) (x y:V) (v u:Value) (Q:VK),Inv X pins σ H s→RelV x v→RelV y u→r x y H Q →
  subscripted slice false v u=operate [v,u] (getItem v u)→wpAny (model X.prog X.w) X.A (subscriptTail value slice v u) (EP X pins σ Q) X.xe s
def MtR (X:Cx) (id:String) (r:V→List V→Hp→VK→Prop):Prop :=
 ∀ (pins:List (Addr×Obj)) (s:Shared) (σ:St) (H:Hp) (x:V) (xs:List V) (v:Value) (us:List Value) (Q:VK),Inv X pins σ H s→RelV x v→Vals xs us→r x xs H Q →
  wpAny (model X.prog X.w) X.A (call (.builtin id) (v::us)) (EP X pins σ Q) X.xe s
section
variable {X:Cx}{a b:Expr}{ta tb:TE}{pos:Pos}
theorem IxR.or {r r':R2} (h:IxR X r) (h':IxR X r'):IxR X (fun x y H Q=>r x y H Q∨r' x y H Q):=by
 intro value slice pins s σ H x y v u Q I rx ry q hs
 rcases q with q|q
 ·exact h value slice pins s σ H x y v u Q I rx ry q hs
 ·exact h' value slice pins s σ H x y v u Q I rx ry q hs
theorem pe_ix {r:R2} (hr:IxR X r) (ha:PE X a ta) (hb:PE X b tb) (hs:PlainIx b):PE X (.Subscript a b pos) (tOp r ta tb):=by
 intro pins s σ H Q I h
 exact Subscript_ (binT ha hb I h fun v u s2 x y H2 I2 rx ry q=>hr a b pins s2 σ H2 x y v u Q I2 rx ry q (hs _ _))
def rIxL (K:PySem.W.Frag):R2:=fun x y H Q => ∃ p xs i v,x = .ref p∧y = .int i∧SqL K H p xs∧atI xs i=some v∧Q v H
def rIxT (K:PySem.W.Frag):R2:=fun x y H Q => ∃ p xs i v,x = .ref p∧y = .int i∧SqT K H p xs∧atI xs i=some v∧Q v H
def rIxS:R2:=fun x y H Q => ∃ z i c,x = .str z∧y = .int i∧z.length≤sizeLine∧atI z.cps.toList i=some c∧Q (.str ⟨#[c]⟩) H
theorem ix_list:IxR X (rIxL X.K):=by
 intro value slice pins s σ H x y v u Q I rx ry h hs
 obtain ⟨p,xs,i,z,rfl,rfl,hq,he,q⟩:=h
 cases rx
 obtain ⟨t,rfl⟩:=ry
 obtain ⟨its,r,pl,hz⟩:=I.list hq
 obtain ⟨j,h1,h2,h3,h4,h5⟩:=atI_get he
 obtain ⟨w,ew,rw'⟩:=r.get h2
 have hl:=r.length
 have hn:=line63
 have fin:EP X pins σ Q w s:=⟨z,H,I,rw',q⟩
 by_cases h0:0≤i
 ·have hj:i.toNat=j:=by
   rw [seqIndex_of h0 h5] at h1
   exact Option.some.inj h1
  exact item_listR pl.isList h0 (by omega) (by rw [hj];simpa using ew) fin hs
 ·have hj:(i+(its.toArray.size:Int)).toNat=j:=by
   rw [seqIndex_neg (by omega) h4] at h1
   rw [List.size_toArray,← hl]
   exact Option.some.inj h1
  exact subscriptTail_builtinR (x:=w) pl.isList.typeIs slot_list_getitem.lookup
   (wpAny_getItem_list_neg (Q:=fun r s'=>r=w∧EP X pins σ Q r s') pl.isList (by omega) (by rw [List.size_toArray] <;> omega) (by omega) (by rw [hj];simpa using ew) ⟨rfl,fin⟩) hs
theorem ix_tup:IxR X (rIxT X.K):=by
 intro value slice pins s σ H x y v u Q I rx ry h hs
 obtain ⟨p,xs,i,z,rfl,rfl,hq,he,q⟩:=h
 cases rx
 obtain ⟨t,rfl⟩:=ry
 obtain ⟨its,r,pl,hz⟩:=I.tuple hq
 obtain ⟨j,h1,h2,h3,h4,h5⟩:=atI_get he
 obtain ⟨w,ew,rw'⟩:=r.get h2
 have hl:=r.length
 have hn:=line63
 have fin:EP X pins σ Q w s:=⟨z,H,I,rw',q⟩
 exact subscriptTail_builtinR (x:=w) pl.typeIs slot_tuple_getitem.lookup
  (getItem_tuple (j:=j) (Q:=fun r s'=>r=w∧EP X pins σ Q r s') pl (by omega) (by omega) (by rw [List.size_toArray,← hl];exact h1) (by simpa using ew) ⟨rfl,fin⟩) hs
theorem ix_str:IxR X rIxS:=by
 intro value slice pins s σ H x y v u Q I rx ry h hs
 obtain ⟨z,i,c,rfl,rfl,hz,he,q⟩:=h
 obtain ⟨t,rfl⟩:=rx
 obtain ⟨t',rfl⟩:=ry
 obtain ⟨j,h1,h2,h3,h4,h5⟩:=atI_get he
 have hl:z.cps.toList.length=z.length:=by simp [Str.length]
 rw [hl] at h1 h4 h5
 have hn:=line63
 exact tail_any (typeIs_str s z t) slot_str_getitem.lookup (getItem_str (c:=c) (by
  have e1:decide (i < -(2^63:Int))=false:=decide_eq_false (by omega)
  have e2:decide (i≥2^63)=false:=decide_eq_false (by omega)
  rw [e1,e2,Bool.or_false]) (by rw [h1];simpa using h2) ⟨.str ⟨#[c]⟩,H,I.tok _,⟨_,rfl⟩,q⟩) hs
def rIx (K:PySem.W.Frag):R2:=fun x y H Q=>rIxL K x y H Q∨rIxT K x y H Q∨rIxS x y H Q
theorem ix_seq:IxR X (rIx X.K):=ix_list.or (ix_tup.or ix_str)
theorem mapSeq_set (its:List Value) (n j:Nat) (u:Value):Obj.mapSeq (·.setIfInBounds j u) { cls :=.type "list",data :=.seq its.toArray n }={ cls :=.type "list",data :=.seq (its.set j u).toArray n }:=by
 simp [Obj.mapSeq]
theorem Inv.lst {pins:List (Addr×Obj)}{σ:St}{H:Hp}{s:Shared}{p:Addr}{xs:List V} (I:Inv X pins σ H s) (h:H p=some (.lst xs)) :
 ∃ (its:List Value) (n:Nat),Vals xs its∧s.heap.get? p=some { cls :=.type "list",data :=.seq its.toArray n }∧xs.length≤sizeLine:=by
  obtain ⟨z,its,n,r,e⟩:=I.hok p _ h
  exact ⟨its,n,r,e,z⟩
theorem Inv.lstUpd {pins:List (Addr×Obj)}{σ:St}{H:Hp}{s:Shared}{p:Addr}{xs ys:List V}{its its':List Value}{n n':Nat}{f:Obj→Obj} (I:Inv X pins σ H s) (h:H p=some (.lst xs))
 (ho:s.heap.get? p=some { cls :=.type "list",data :=.seq its.toArray n }) (hf:f { cls :=.type "list",data :=.seq its.toArray n }={ cls :=.type "list",data :=.seq its'.toArray n' }) (r:Vals ys its') (hz:ys.length≤sizeLine) (t:Nat) :
  Inv X pins σ (upd H p (.lst ys)) { s with heap:=s.heap.update p f,toks:=t }:=by
  have e:(s.heap.update p f).get? p=some { cls :=.type "list",data :=.seq its'.toArray n' }:=by
   rw [Heap.get?_update_self f ho (by rw [hf] <;> rfl),hf]
  refine I.write (x:=p) (e:=p) (by rw [h];trivial) (.inl rfl) (fun b u hb q=>(Heap.get?_update_other _ _ (Ne.symm hb)).trans q) ⟨_,e⟩ ?_
  exact ⟨hz,its',n',r,e⟩
def rSetL:V→V→V→Hp→(Hp→Prop)→Prop:=fun o i v H Q => ∃ p xs k j,o = .ref p∧i = .int k∧H p=some (.lst xs)∧ixN xs.length k=some j∧Q (upd H p (.lst (xs.set j v)))
theorem set_list:PSet X rSetL:=by
 intro pins s σ H o i v ov iv u Q I ro ri rv h
 obtain ⟨p,xs,k,j,rfl,rfl,hp,hj,q⟩:=h
 cases ro
 obtain ⟨t,rfl⟩:=ri
 obtain ⟨its,n,r,ho,hz⟩:=I.lst hp
 obtain ⟨h1,h2,h3,h4⟩:=ixN_seq hj
 have hl:=r.length
 have hn:=line63
 have I':Inv X pins σ (upd H p (.lst (xs.set j v))) { s with heap:=s.heap.update p (Obj.mapSeq (·.setIfInBounds j u)) } :=
  I.lstUpd hp ho (mapSeq_set its n j u) (r.set rv j) (by rw [List.length_set];exact hz) s.toks
 by_cases h0:0≤k
 ·have hk:k.toNat=j:=by
   rw [seqIndex_of h0 h4] at h1
   exact Option.some.inj h1
  exact PySem.W.ki_setAt ho h0 (by omega) (by rw [List.size_toArray,← hl];exact h4) (by rw [hk];exact ⟨_,I',q⟩)
 ·have hk:(k+(its.toArray.size:Int)).toNat=j:=by
   rw [seqIndex_neg (by omega) h3] at h1
   rw [List.size_toArray,← hl]
   exact Option.some.inj h1
  exact PySem.W.ki_setBack ho (by omega) (by rw [List.size_toArray,← hl];exact h3) (by omega) (by rw [hk];exact ⟨_,I',q⟩)
theorem slice_bounds (lo hi:Option Int) (n:Nat):(sliceBounds lo hi none n).1=((HT.sIx n 0 lo:Nat):Int)∧(sliceBounds lo hi none n).2.1=((HT.sIx n n hi:Nat):Int)∧(sliceBounds lo hi none n).2.2=1:=by
 refine ⟨?_,?_,rfl⟩
 ·cases lo with
  | none=>simp [sliceBounds,HT.sIx]
  | some i =>
   simp only [sliceBounds,HT.sIx,Option.getD_none,show (1:Int)>0 by decide,if_true]
   by_cases h:i<0
   ·simp only [h,if_true] <;> omega
   ·simp only [h,if_false] <;> omega
 ·cases hi with
  | none=>simp [sliceBounds,HT.sIx]
  | some i =>
   simp only [sliceBounds,HT.sIx,Option.getD_none,show (1:Int)>0 by decide,if_true]
   by_cases h:i<0
   ·simp only [h,if_true] <;> omega
   ·simp only [h,if_false] <;> omega
theorem slicePick_cut (its:List Value) (lo hi:Option Int):slicePick its.toArray lo hi none=((its.drop (HT.sIx its.length 0 lo)).take (HT.sIx its.length its.length hi-HT.sIx its.length 0 lo)).toArray:=by
 obtain ⟨h1,h2,h3⟩:=slice_bounds lo hi its.toArray.size
 unfold slicePick
 rw [h1,h2,h3]
 simp only [sliceRange_one,pick_run,List.size_toArray] <;> rfl
def rSlL (K:PySem.W.Frag):V→Option Int→Option Int→Hp→VK→Prop:=fun x lo hi H Q => ∃ a xs,x = .ref a∧SqL K H a xs ∧ ∀ p,H p=none→Q (.ref p) (upd H p (.lst (cutV xs lo hi)))
theorem sl_list:SlR X (rSlL X.K):=by
 intro pins s σ H x v vl vu lo hi sl Q I rx hs pl pu h
 obtain ⟨a,xs,rfl,hx,q⟩:=h
 cases rx
 obtain ⟨its,r,ht,hz⟩:=I.list hx
 have hlen:=r.length
 refine ⟨"list",_,slot_list_getitem.lookup,ht.isList.typeIs,?_⟩
 refine wpAny_getItem_list_slice ht.isList hs pl pu .none (by simp) ?_ (by rw [List.size_toArray] <;> omega)
 rw [slicePick_cut,← hlen]
 refine ⟨.ref s.heap.objs.size,_,I.laid (t':=s.toks) (o :=.lst (cutV xs lo hi)) (fun b ob q=>Heap.get?_push_of_some _ q) (Nat.le_refl _) ?_,rfl,q _ (I.hok.fresh (Nat.le_refl _))⟩
 exact ⟨Nat.le_trans (cutV_length xs lo hi) hz,_,0,(r.drop (HT.sIx xs.length 0 lo)).take (HT.sIx xs.length xs.length hi-HT.sIx xs.length 0 lo),Heap.get?_push_size _ rfl⟩
theorem call_len_seq:CallR X (.builtin "len") (fun xs H Q => ∃ p ys,xs=[.ref p]∧(SqL X.K H p ys∨SqT X.K H p ys)∧Q (.int ys.length) H):=by
 intro pins s σ H xs us Q I r h
 obtain ⟨p,ys,rfl,hq,q⟩:=h
 obtain ⟨u,rfl,rx⟩:=vals1 r
 cases rx
 have hn:=line63
 rcases hq with hq|hq
 ·obtain ⟨its,r',pl,hz⟩:=I.list hq
  have hlen:=r'.length
  exact Calls.call_len_list pl.isList (by simp only [List.size_toArray] <;> omega) ⟨.int ys.length,H,I.tok _,⟨s.toks+1,by rw [List.size_toArray,hlen]⟩,q⟩
 ·obtain ⟨its,r',pl,hz⟩:=I.tuple hq
  have hlen:=r'.length
  exact len_tuple pl (by simp only [List.size_toArray] <;> omega) ⟨.int ys.length,H,I.tok _,⟨s.toks+1,by rw [List.size_toArray,hlen]⟩,q⟩
theorem call_len_str:CallR X (.builtin "len") (fun xs H Q => ∃ z,xs=[.str z]∧z.length≤sizeLine∧Q (.int z.length) H):=by
 intro pins s σ H xs us Q I r h
 obtain ⟨z,rfl,hz,q⟩:=h
 obtain ⟨u,rfl,t,rfl⟩:=vals1 r
 have hn:=line63
 exact len_str (by omega) ⟨.int z.length,H,I.tok _,⟨_,rfl⟩,q⟩
theorem CallR.or {f:Value}{r r':List V→Hp→VK→Prop} (h:CallR X f r) (h':CallR X f r'):CallR X f (fun xs H Q=>r xs H Q∨r' xs H Q):=by
 intro pins s σ H xs us Q I rs q
 rcases q with q|q
 ·exact h pins s σ H xs us Q I rs q
 ·exact h' pins s σ H xs us Q I rs q
theorem call_list_of:CallR X (.type "list") (fun xs H Q => ∃ p ys,xs=[.ref p]∧(SqL X.K H p ys∨SqT X.K H p ys) ∧ ∀ l,H l=none→Q (.ref l) (upd H l (.lst ys))):=by
 intro pins s σ H xs us Q I r h
 obtain ⟨p,ys,rfl,hq,q⟩:=h
 obtain ⟨u,rfl,rx⟩:=vals1 r
 cases rx
 have fin : ∀ (its:List Value),Vals ys its→ys.length≤sizeLine → ∀ (h':Heap) (c':Nat),(∀ b o',s.heap.get? b=some o'→h'.get? b=some o') →
  h'.get? s.heap.objs.size=some { cls :=.type "list",dict:=none,data :=.seq its.toArray c',slots := #[] }→EP X pins σ Q (.ref s.heap.objs.size) { s with heap:=h' }:=fun its r' hz h' c' kp e =>
  ⟨.ref s.heap.objs.size,_,I.laid (t':=s.toks) kp (Nat.le_refl _) (show ObjOk X.prog X.w _ h' _ (.lst ys) from ⟨hz,its,c',r',e⟩),rfl,q _ (I.hok.fresh (Nat.le_refl _))⟩
 rcases hq with hq|hq
 ·obtain ⟨its,r',pl,hz⟩:=I.list hq
  have hlen:=r'.length
  obtain ⟨o,ho,hc,n,hd⟩:=pl.isList
  exact call_list_seq p (.inl rfl) ho hc hd (fun h' c' kp e=>fin its r' hz h' c' kp e) (by simp only [List.size_toArray] <;> omega)
 ·obtain ⟨its,r',pl,hz⟩:=I.tuple hq
  have hlen:=r'.length
  obtain ⟨o,ho,hc,n,hd⟩:=pl
  exact call_list_seq p (.inr rfl) ho hc hd (fun h' c' kp e=>fin its r' hz h' c' kp e) (by simp only [List.size_toArray] <;> omega)
def tyV (K:PySem.W.Frag) (T:String) (x:V) (H:Hp):Prop:=match x with
 | .str _=>T = "str"
 | .int _=>T = "int"
 | .ref p=>(T = "list" ∧ ∃ xs,SqL K H p xs)∨(T = "tuple" ∧ ∃ o,K.lookup p=some o∧o.cls = .type "tuple" ∧ o.dict=none) ∨
  (T = "dict" ∧ ((∃ kvs,H p=some (.dK kvs)) ∨ ∃ kvs,H p=some (.dT kvs)))∨(T = "set" ∧ ∃ S n,H p=some (.set S n))
 | _=>False
theorem tyV_is {pins:List (Addr×Obj)}{σ:St}{H:Hp}{s:Shared}{T:String}{x:V}{v:Value} (I:Inv X pins σ H s) (r:RelV x v) (ty:tyV X.K T x H) :
 s.TypeIs v T ∧ ∀ a,v = .ref a → ∃ ob,s.heap.get? a=some ob∧ob.dict=none:=by
  cases x with
  | str z =>
   obtain ⟨t,rfl⟩:=r
   cases (show T = "str" from ty)
   exact ⟨typeIs_str s z t,fun _ e=>nomatch e⟩
  | int i =>
   obtain ⟨t,rfl⟩:=r
   cases (show T = "int" from ty)
   exact ⟨typeIs_int s i t,fun _ e=>nomatch e⟩
  | ref p =>
   cases r
   rcases ty with ⟨rfl,xs,hq⟩|⟨rfl,o,hk,hc,hd⟩|⟨rfl,hk⟩|⟨rfl,S,n,hk⟩
   ·obtain ⟨its,_,pl,_⟩:=I.list hq
    refine ⟨pl.isList.typeIs,fun a e=>?_⟩
    cases e
    obtain ⟨o,n,e,c,hd,_⟩:=pl
    exact ⟨o,e,hd⟩
   ·refine ⟨⟨o,I.kIn p o hk,hc⟩,fun a e=>?_⟩
    cases e
    exact ⟨o,I.kIn _ o hk,hd⟩
   ·have z : ∃ o,s.heap.get? p=some o∧o.ExactDict:=by
     rcases hk with ⟨kvs,hk⟩|⟨kvs,hk⟩
     ·obtain ⟨_,_,_,_,o,_,_,e,ex,_⟩:=I.hok p _ hk
      exact ⟨o,e,ex⟩
     ·obtain ⟨_,_,_,_,o,_,_,e,ex,_⟩:=I.hok p _ hk
      exact ⟨o,e,ex⟩
    obtain ⟨o,e,ex⟩:=z
    refine ⟨⟨o,e,ex.1⟩,fun a e2=>?_⟩
    cases e2
    exact ⟨o,e,ex.2.1⟩
   ·obtain ⟨o,_,_,_,e,ex,_⟩:=I.hok p _ hk
    refine ⟨⟨o,e,ex.1⟩,fun a e2=>?_⟩
    cases e2
    exact ⟨o,e,ex.2.1⟩
  | _=>exact False.elim ty
def tBM (K:PySem.W.Frag) (T:String) (r:V→List V→Hp→VK→Prop) (to:TE) (t:TA):TE:=fun σ H Q=>to σ H fun x H1=>tyV K T x H1∧t σ H1 fun xs H2=>r x xs H2 Q
variable {o e:Expr}{es:List Expr}{to:TE}{t:TA}{name:Str}{apos cpos:Pos}{T id:String}{r:V→List V→Hp→VK→Prop}
theorem pe_bm (pa:PlainAttrs T) (slot:Slot T name id) (hty:typeOf (.builtin id)=pure (.type "method_descriptor")) (hm:MtR X id r) (ho:PE X o to) (ha:PA X (e::es) t)
 (hbase:attributeBase o name X.env (eval o X.env)=eval o X.env:=by rfl)
  (hfew:((backTo cpos (starEach (e::es) X.env)).all (fun x => !x.1)&&(backToKw cpos (keywordEach [] X.env)).all (fun x=>x.1.isSome)
   && decide ((e::es).length+([]:List Keyword).length+(if ([]:List Keyword).isEmpty then 0 else 1)<30))=true:=by rfl)
  (hline:(apos.endLine==cpos.line)=true:=by rfl) (hs:starEach (e::es) X.env=(false,eval e X.env)::starEach es X.env:=by rfl) (hplain:(backTo cpos (starEach es X.env)).any (·.1)=false:=by rfl) :
  PE X (.Call (.Attribute o name apos) (e::es) [] cpos) (tBM X.K T r to t):=by
  intro pins s σ H Q I h
  refine wpAny_Call_method_late hbase hfew hline rfl (thn (ho pins s σ H _ I h) fun v s1 xx53=>?_)
  obtain ⟨x,H1,I1,r1,ty,q1⟩:=xx53
  obtain ⟨h1,h2⟩:=tyV_is I1 r1 ty
  refine ⟨T,id,pa,slot,hty,h1,h2,?_⟩
  have hA:=ha cpos pins s1 σ H1 _ I1 q1
  rw [hs] at hA ⊢
  refine Calls.callWith_builtin (by show (false||(backTo cpos (starEach es X.env)).any (·.1))=false;rw [hplain] <;> rfl) (Calls.evalArgs_plain ?_)
  exact thn hA fun us s2 xx52=>by obtain ⟨vs,H2,I2,r2,q2⟩:=xx52;exact hm pins s2 σ H2 x vs v us Q I2 r1 r2 q2
/- xs.append(e),list.index on a module's tuple .. are MtR facts of 06m -/
end
end L2
namespace L2
open PySem PySem.Spec PyProof.Rows
def MtM (X:Cx) (id:String) (r:V→List V→Hp→VK→Prop):Prop :=
 ∀ (pins:List (Addr×Obj)) (s:Shared) (σ:St) (H:Hp) (x:V) (xs:List V) (v:Value) (us:List Value) (Q:VK),Inv X pins σ H s→RelV x v→Vals xs us→r x xs H Q →
  wpAny (model X.prog X.w) X.A (call (.builtin id) (v::us)) (EP X pins σ Q) X.xe s
theorem Vals.one : ∀ {x:V}{us:List Value},Vals [x] us → ∃ u,us=[u]∧RelV x u
 | _,_,.cons r .nil=>⟨_,rfl,r⟩
theorem Vals.rep {xs:List V}{us:List Value} (h:Vals xs us) : ∀ k:Nat,Vals (List.replicate k xs).flatten (List.replicate k us).flatten
 | 0 => .nil
 | k+1=>by
  rw [List.replicate_succ,List.replicate_succ,List.flatten_cons,List.flatten_cons]
  exact Vals.append h (Vals.rep h k)
section
variable {X:Cx}{pins:List (Addr×Obj)}{σ:St}{H:Hp}{s:Shared}{l b:Addr}{xs ys zs:List V}
theorem Inv.lset {its its':List Value}{n:Nat}{f:Array Value→Array Value}{t':Nat} (I:Inv X pins σ H s) (hH:H l=some (.lst xs))
 (e:s.heap.get? l=some { cls :=.type "list",data :=.seq its.toArray n }) (hf:f its.toArray=its'.toArray) (hv:Vals ys its') (hz:ys.length≤sizeLine) :
  Inv X pins σ (upd H l (.lst ys)) { s with heap:=s.heap.update l (Obj.mapSeq f),toks:=t' }:=by
  have q:=PySem.IsL.update e f
  rw [hf] at q
  refine I.write (x:=l) (e:=l) (by rw [hH];exact trivial) (.inl rfl) (fun b' u hb hu=>(Heap.get?_update_other s.heap (Obj.mapSeq f) (Ne.symm hb)).trans hu) ⟨_,q⟩ ?_
  exact ⟨hz,its',_,hv,q⟩
theorem Inv.lnew {its:List Value}{t':Nat} (I:Inv X pins σ H s) (hv:Vals ys its) (hz:ys.length≤sizeLine) :
 Inv X pins σ (upd H s.heap.objs.size (.lst ys)) { s with heap:=s.heap.push { cls :=.type "list",data :=.seq its.toArray },toks:=t' } :=
  I.laid (fun _ _ q=>Heap.get?_push_of_some _ q) (Nat.le_refl _) ⟨hz,its,0,hv,Heap.get?_push_size _ rfl⟩
theorem Inv.fresh (I:Inv X pins σ H s):H s.heap.objs.size=none:=I.hok.fresh (Nat.le_refl _)
theorem Inv.lstM (I:Inv X pins σ H s) (hH:H l=some (.lst xs)):xs.length≤sizeLine ∧ ∃ (its:List Value) (n:Nat),Vals xs its∧xs.length=its.length∧s.heap.get? l=some { cls :=.type "list",data :=.seq its.toArray n }:=by
 obtain ⟨z,its,n,r,e⟩:=I.hok l _ hH
 exact ⟨z,its,n,r,r.length,e⟩
end
section
variable {X:Cx}
def rAppend:V→List V→Hp→VK→Prop:=fun x vs H Q => ∃ l xs y,x = .ref l∧vs=[y]∧H l=some (.lst xs)∧xs.length<sizeLine∧Q .non (upd H l (.lst (xs++[y])))
theorem mt_append:MtM X "list.append" rAppend:=by
 intro pins s σ H x vs v us Q I rx rv h
 obtain ⟨l,xs,y,rfl,rfl,hH,hz,q⟩:=h
 cases rx
 obtain ⟨u,rfl,ru⟩:=rv.one
 obtain ⟨z,its,n,r,hl,e⟩:=I.lstM hH
 refine call_meets F.slot_list_append ⟨_,e,rfl⟩ F.entry_list_append (F.args_list_append_2 _ _) (PySem.list_append l its.toArray n u (by rw [List.size_toArray];omega)) ⟨e,?_⟩
 refine ⟨.non,_,I.lset (its':=its++[u]) hH e (by simp) (r.append (.cons ru .nil)) ?_,rfl,q⟩
 rw [List.length_append,List.length_singleton]
 omega
end
section
variable {prog:Program}{w:World}{A:Around}{E:Value→Shared→Prop}{s:Shared}
set_option maxRecDepth 100000 in
end
section
variable {X:Cx}
end
end L2
namespace Att
open PySem PySem.W PySem.Calls PyProof.Rows
theorem ints_of_wellAll {P:Params}{h:Heap} : ∀ (ns:List Int) (vs:List Value),WellAll P h vs (ns.map WData.int)→IntsAre vs ns:=by
 intro ns
 induction ns with
 | nil =>
  intro vs w
  rw [List.map_nil] at w
  cases w
  exact .nil
 | cons n ns ih =>
  intro vs w
  rw [List.map_cons] at w
  cases w with
  | cons a b =>
   cases a
   exact .cons _ _ (ih _ b)
theorem script_of {l:OpenLaw}{n:Nat} (hn:l.most=some n) {P:Params}{h:Heap}{args:List WData}{vals:List Value}
 (hpre:l.row.toRowW.claim.pre args=true) (hwl:WellAll P h vals args) :
 ∃ a vs ns,vals=[Value.ref a]∧args=[WData.list (ns.map WData.int)]∧h.get? a=some { cls :=.type "list",data :=.seq vs.toArray }∧IntsAre vs ns∧ns.length≤n:=by
  have hsh:WShape.hasAll [] args [.list .int]=true:=(pre_splitW hpre).1
  have hc:l.pre.holds [] { args:=args }=true:=(pre_splitW hpre).2
  obtain ⟨d,r,rfl,h1,h2⟩:=hasAllW_cons hsh
  obtain rfl:=hasAllW_nil h2
  obtain ⟨xs,rfl,h3⟩:=hasW_list h1
  obtain ⟨ns,rfl⟩:=items_int h3
  have hlen:ns.length≤n:=by
   unfold OpenLaw.pre at hc
   have h4:(WTm.not (.lt (.lit (.int (n:Int))) (.len (.arg 0)))).holds [] { args:=[.list (ns.map .int)] }=true:=by
    have h4:=(holds_andW hc).1
    rw [hn] at h4
    exact h4
   have h5:=condW_of h4 (w_not (w_lt w_lit (w_len_list (w_arg rfl))))
   rw [List.length_map] at h5
   refine Nat.le_of_not_lt fun q=>?_
   have q':(n:Int)<((ns.length:Nat):Int):=by omega
   first
    | (rw [decide_eq_true q'] at h5;exact absurd h5 (by decide))
    | (simp at h5;omega)
  cases hwl with
  | cons w1 w2 =>
   cases w2
   cases w1 with
   | list ho hall=>exact ⟨_,_,ns,rfl,rfl,ho,ints_of_wellAll ns _ hall,hlen⟩
theorem post_true (l:OpenLaw) (args:List WData):l.row.toRowW.claim.post args (.bool true) args=true :=
 postW_of (r:=l.row.toRowW) (X:=(true==true))
  (show WShape.has [] (.bool true) .bool=true by first|rfl|decide|simp [WShape.has,WShape.arms,WShape.armsAll])
  (show (WTm.eq .res (.lit (.bool true))).value [] { args:=args,res:=some (.bool true),after:=args }=some (.bool (true==true)) from w_eq_bool (w_res rfl) w_lit) rfl
theorem attach_call {l:OpenLaw}{n:Nat}{q:Program}{loose:List Str}{XP:(Str→Option Value)→Heap→Prop}{YP:World→Heap→Prop}{d:DefRec}
 (hn:l.most=some n) (hdf:d.params.defaults=[])
 (call : ∀ (w:World) (s₀ s₁:Shared) (mg mb:Str→Option Value) (fa:Addr) (o:Obj) (pm cd doc:Value) (a:Addr) (vs:List Value) (ns:List Int),
 Ground q loose [] XP w s₀ mg mb s₁.heap→YP w s₁.heap →
 s₁.heap.get? fa=some o→o.data = .func (docDef d.name d.params d.body d.scope pm cd doc)→s₁.heap.CodeRec cd d.name→mg d.name=some (.ref fa) →
 s₁.heap.get? a=some { cls :=.type "list",data :=.seq vs.toArray }→IntsAre vs ns→ns.length≤n→s₁.gens = #[] →
  codeAny (model l.prog w) callerA (.call (.ref fa) ⟨[.ref a],[]⟩) (fun r s'=>r = .ok (.ret (.bool true))∧OldK s₁.heap s'.heap∧s'.os=s₁.os∧AllBare s'.gens) s₁) :
  WalkO q loose XP YP l.row.toRowW d [] (fun f vs=>PySem.call f vs):=by
  intro w s₀ s₁ mg mb G Y fa o pm cd doc dV kV ho hd hcd hD hmg hg args vals as hpre hlay hrd hwl hlo
  obtain rfl:dV = .none:=Dflts.none hD hdf
  obtain rfl:kV = .none:=Dflts.noKw hD
  obtain ⟨a,vs,ns,rfl,rfl,hobj,hints,hlen⟩:=script_of hn hpre hwl
  refine enter_call (codeAny_mono (call w s₀ s₁ mg mb fa o pm cd doc a vs ns G Y ho (fd_plain hd) hcd hmg hobj hints hlen hg) fun r s' hq=>?_)
  obtain ⟨rfl,h2,h3,h4⟩:=hq
  exact ⟨.inl ⟨.bool true,.bool true,[],rfl,fun _=>rfl,.bool true,post_true l _,fun _=>⟨List.Pairwise.nil,fun _ hm=>(nomatch hm)⟩⟩,h2,h3,h4⟩
section
variable {prog:Program}{w:World}{A:Around}{E:Value→Shared→Prop}{s:Shared}{K:Frag}
end
end Att
namespace L2
open PySem PySem.Spec PyProof.Rows
theorem vals_ints : ∀ {vs:List Value}{ns:List Int},IntsAre vs ns→Vals (ns.map V.int) vs
 | _,_,.nil => .nil
 | _,_,.cons n t h => .cons ⟨t,rfl⟩ (vals_ints h)
def Only (H:Hp):Prop := ∀ b,H b=none ∨ ∃ o xs,H b=some (.frz o (.lst xs))
theorem law_call {P:Program}{w:World}{K:PySem.W.Frag}{mg mb:Str→Option Value}{CX:CXT}{k:Nat}{fa a:Addr}{fd:FuncData}{x:Str}{sp:Sp}{s₁:Shared}{vs:List Value}{ns:List Int}
 (KX:K.In s₁.heap) (hns:s₁.heap.Ns mainGlobals mg) (hb:s₁.heap.Ns builtinsNs mb) (hbb : ∀ x:Str,x ≠ "__name__" → mb x=bootBuiltins x) (hlim:s₁.heap.NoLimit) (hg:s₁.gens = #[])
 (ha:s₁.heap.get? a=some { cls :=.type "list",data :=.seq vs.toArray }) (hi:IntsAre vs ns) (hl:ns.length≤sizeLine) (hr:Room k callerA)
  (F : ∀ base:Heap,K.In base→base.Ns mainGlobals mg→FnOk P w K mg base CX k fa fd [x] sp) (hbind : ∀ (s:Shared) (u:Value),BindsTo s fd ⟨[u],[]⟩ [(x,u)])
  (hsp : ∀ H:Hp,Only H→SqL K H a (ns.map V.int)→sp [.ref a] H (fun v _=>v = .bl true) fun _ _ _=>False)
  (hCX : ∀ H e s',CX [] H s₁ (fun _ _ _=>False) e s'→False) :
  codeAny (model P w) callerA (.call (.ref fa) ⟨[.ref a],[]⟩) (fun r s'=>r = .ok (.ret (.bool true))∧OldK s₁.heap s'.heap∧s'.os=s₁.os∧AllBare s'.gens) s₁:=by
  have rv:=vals_ints hi
  have lenV:=hi.length
  have core : ∀ H:Hp,Only H→SqL K H a (ns.map V.int)→HOk P w H s₁.heap→(∀ b,H b≠none→b=a)→(H a≠none→K.lookup a=none) →
   codeAny (model P w) callerA (.call (.ref fa) ⟨[.ref a],[]⟩) (fun r s'=>r = .ok (.ret (.bool true))∧OldK s₁.heap s'.heap∧s'.os=s₁.os∧AllBare s'.gens) s₁:=by
   intro H hO hS hok hA hK
   have base_of : ∀ {b:Addr}{o:Obj},s₁.heap.get? b=some o→H b=none→(hidT s₁.heap H).get? b=some o:=fun e n=>hidT_get e n
   have noA : ∀ {b:Addr}{o:Obj}{es:Array DictEntry}{ep:Nat},s₁.heap.get? b=some o→o.data = .dict es ep→H b=none:=fun {b o es ep} e d=>by
    cases q:H b with
    | none=>rfl
    | some u =>
     have e':b=a:=hA b (by rw [q];simp)
     subst e'
     rw [ha] at e;cases e
     have d':Data.seq vs.toArray _=Data.dict es ep:=d
     cases d'
   have nsK : ∀ {b:Addr}{m:Str→Option Value},s₁.heap.Ns b m→(hidT s₁.heap H).Ns b m:=fun {b m} ⟨o,es,ep,e,d,r⟩=>⟨o,es,ep,base_of e (noA e d),d,r⟩
   have hKb:K.In (hidT s₁.heap H):=fun b o e=>base_of (KX b o e) (by
    cases q:H b with
    | none=>rfl
    | some u =>
     have e':b=a:=hA b (by rw [q];simp)
     subst e'
     rw [hK (by rw [q];simp)] at e;cases e)
   have hM:Mod K mg (hidT s₁.heap H):=⟨hKb,nsK hns,⟨mb,nsK hb,hbb⟩,let ⟨mc,h1,h2⟩:=hlim; ⟨mc,nsK h1,h2⟩⟩
   have e0:Env0 P w K mg (hidT s₁.heap H) callerA [] s₁ H:=⟨rfl,hM,fun b o e=>of_hidT e,Nat.le_of_eq (hidT_size _ _),trivial,fun b hb=>absurd (show b ∈ ([]:List Addr) from hb) (by simp),hok,.of_eq hg⟩
   refine codeAny_mono ((F _ hKb (nsK hns)).run callerA [] s₁ H ⟨[.ref a],[]⟩ [.ref a] [.ref a] _ _ hr e0 (hbind s₁ (.ref a)) (.cons rfl .nil) (hsp H hO hS)) fun r s' h=>?_
   cases r with
   | error e=>exact (hCX H e s' h).elim
   | ok fl =>
    cases fl with
    | next=>exact False.elim h
    | brk=>exact False.elim h
    | cont=>exact False.elim h
    | ret u =>
     obtain ⟨v,H',os,bare,un,hok',r',q⟩:=h
     have q':v = .bl true:=q
     subst q'
     obtain rfl:u=Value.bool true:=r'
     refine ⟨rfl,OldK.of_keep fun b o e=>?_,os,bare⟩
     cases q:H b with
     | none=>exact un.keep b o e q (by intro z;exact absurd (show b ∈ ([]:List Addr) from z) (by simp)) (by simp)
     | some u =>
      rcases hO b with z|⟨ob,xs,z⟩
      ·rw [q] at z;cases z
      ·have z2:=un.frzs b ob _ z
       obtain ⟨e1,_⟩:=hok b _ z
       obtain ⟨e2,_⟩:=hok' b _ z2
       rw [e] at e1;cases e1
       exact e2
  cases hk:K.lookup a with
  | some o =>
   have e:=KX a o hk
   rw [ha] at e
   cases e
   refine core (fun _=>none) (fun _ => .inl rfl) (.inr ⟨_,vs.toArray,_,hk,rfl,rfl,rfl,by rw [List.size_toArray,lenV];exact hl,by simpa using rv⟩) (fun b u z=>by have z':(none:Option HO)=some u:=z;cases z') (fun b z=>absurd rfl z) fun z=>absurd rfl z
  | none =>
   refine core (fun b=>if b=a then some (.frz { cls :=.type "list",data :=.seq vs.toArray } (.lst (ns.map V.int))) else none) (fun b=>?_) (.inl (.inr ⟨{ cls :=.type "list",data :=.seq vs.toArray },if_pos rfl⟩)) (fun b u z=>?_) (fun b z=>?_) fun _=>hk
   ·by_cases hb:b=a
    ·exact .inr ⟨_,_,if_pos hb⟩
    ·exact .inl (if_neg hb)
   ·by_cases hb:b=a
    ·have z':=(if_pos hb).symm.trans z
     cases z'
     subst hb
     exact ⟨ha,by rw [List.length_map];exact hl,vs,_,rv,ha⟩
    ·have z':=(if_neg hb).symm.trans z
     cases z'
   ·by_cases hb:b=a
    ·exact hb
    ·exact absurd (if_neg hb) z
end L2
namespace L2
open PySem PySem.Spec PyProof.Rows
theorem walk_of {l:PySem.W.OpenLaw}{n k:Nat}{q:Program}{loose:List Str}{XP:(Str→Option Value)→Heap→Prop}{YP:World→Heap→Prop}{d:DefRec}{K:Params→PySem.W.Frag}{CX:World→CXT}{sp:World→Sp}{x:Str}
 (hn:l.most=some n) (hn2:n≤sizeLine) (hdf:d.params.defaults=[]) (hr:Room k callerA)
 (hY : ∀ (w:World) (h:Heap),YP w h→(K w.params).In h)
 (F : ∀ (w:World) (mg:Str→Option Value) (fa:Addr) (h:Heap),(K w.params).In h→h.Ns mainGlobals mg→mg d.name=some (.ref fa) →
 ∃ fd:FuncData,(∀ (s:Shared) (u:Value),BindsTo s fd ⟨[u],[]⟩ [(x,u)]) ∧
 ∀ base:Heap,(K w.params).In base→base.Ns mainGlobals mg→FnOk l.prog w (K w.params) mg base (CX w) k fa fd [x] (sp w))
 (hsp : ∀ (w:World) (H:Hp) (a:Addr) (ns:List Int),ns.length≤n→Only H→SqL (K w.params) H a (ns.map V.int)→sp w [.ref a] H (fun v _=>v = .bl true) fun _ _ _=>False)
 (hCX : ∀ (w:World) (H:Hp) (s:Shared) (e:Value) (s':Shared),CX w [] H s (fun _ _ _=>False) e s'→False) :
 PySem.W.WalkO q loose XP YP l.row.toRowW d [] (fun f vs=>PySem.call f vs):=by
  refine Att.attach_call hn hdf fun w s₀ s₁ mg mb fa o pm cd doc a vs ns G Y ho hd hcd hmg hobj hints hlen hg=>?_
  have KX:=hY w _ Y
  obtain ⟨fd,hb,hF⟩:=F w mg fa _ KX G.T.g hmg
  exact law_call KX G.T.g G.T.b G.T.builtins G.T.nolimit hg hobj hints (Nat.le_trans hlen hn2) hr hF hb (fun H hO hS=>hsp w H a ns hlen hO hS) fun H e s'=>hCX w H s₁ e s'
end L2
namespace L2
open PySem PySem.Spec PyProof.Rows
def defArgs (s:Stmt):Arguments:=match s with
 | .FunctionDef _ a _ _ _ _ _ _ _ _=>a
 | _=>{ posonlyargs:=[],args:=[],vararg:=none,kwonlyargs:=[],kw_defaults:=[],kwarg:=none,defaults:=[] }
def defBody (s:Stmt):List Stmt:=match s with
 | .FunctionDef _ _ b _ _ _ _ _ _ _=>b
 | _=>[]
def defScope (s:Stmt):Scope:=match s with
 | .FunctionDef _ _ _ _ _ _ sc _ _ _=>sc
 | _=>{ kind :=.function,names:=[],isGenerator:=false,isCoroutine:=false }
abbrev CX0:CXT:=fun _ _ _ _ _ _=>False
abbrev E0:XK:=fun _ _ _=>False
theorem pass0 {X:Cx}:Passes CX0 X E0:=fun _ _ _ _ _ _ _ h=>h.elim
structure Fun (K:PySem.W.Frag) (x qual:Str) (st:Stmt) (f:Addr) (fd:FuncData):Prop where
 ex : ∃ (oc:Value) (od:Option Addr) (kV doc pm:Value) (an:Option Addr) (cdv ct:Value) (osl:Array (Option Value)),
  fd=PySem.W.fnOf x qual (defArgs st) (defBody st) (defScope st) .none kV doc pm an cdv ct∧K.lookup f=some ⟨oc,od,.func fd,osl⟩∧PySem.W.codeIn K cdv qual=true
 kp:PySem.W.keepIn K (.ref f)=true
section
variable {P:Program}{w:World}{K:PySem.W.Frag}{mg:Str→Option Value}{base:Heap}
theorem Fun.ok {x qual:Str}{st:Stmt}{f:Addr}{fd:FuncData}{N ps:List Str}{k:Nat}{sp:Sp} (F:Fun K x qual st f fd) (S:FnScope N ps (defScope st)) (len : ∀ vs H Q E,sp vs H Q E→vs.length=ps.length)
 (hbody : ∀ (cdv:Value) (A:Around) (outer:List Env) (s:Shared) (H:Hp) (vs:List V) (Q:VK) (E:XK),Room k (A.deeper (envOfC qual (defScope st) s.heap.objs.size f cdv))→sp vs H Q E →
 ∃ t,PSs (cxOf CX0 P w K mg base N qual (defScope st) f cdv A outer s H E).nox (defBody st) t∧t { nx:=fun _ H'=>Q .non H',rt:=Q } (start N vs) H):FnOk P w K mg base CX0 (k+1) f fd ps sp:=by
  obtain ⟨oc,od,kV,doc,pm,an,cdv,ct,osl,rfl,lk,hcd⟩:=F.ex
  refine fn_of lk hcd S len fun A outer s H vs Q E hr hsp=>?_
  obtain ⟨t,h,q⟩:=hbody cdv A outer s H vs Q E hr hsp
  exact ⟨t,h.nox,q⟩
theorem Fun.binds {x qual:Str}{st:Stmt}{f:Addr}{fd:FuncData}{ps:List Str} (F:Fun K x qual st f fd)
 (h : ∀ (kV doc pm:Value) (an:Option Addr) (cdv ct:Value) (us:List Value),us.length=ps.length→bindArgs (PySem.W.fnOf x qual (defArgs st) (defBody st) (defScope st) .none kV doc pm an cdv ct) ⟨us,[]⟩=pure (ps.zip us)):Binds K fd ps []:=by
  obtain ⟨oc,od,kV,doc,pm,an,cdv,ct,osl,rfl,lk,hcd⟩:=F.ex
  exact .all (h kV doc pm an cdv ct)
theorem fun_mk {x qual:Str}{st:Stmt}{f:Addr}{oc:Value}{od an:Option Addr}{osl:Array (Option Value)}{kV doc pm cdv ct:Value} (l:K.lookup f=some ⟨oc,od,.func (PySem.W.fnOf x qual (defArgs st) (defBody st) (defScope st) .none kV doc pm an cdv ct),osl⟩)
 (c:PySem.W.codeIn K cdv qual=true) (k:PySem.W.keepIn K (.ref f)=true):Fun K x qual st f (PySem.W.fnOf x qual (defArgs st) (defBody st) (defScope st) .none kV doc pm an cdv ct):=⟨⟨oc,od,kV,doc,pm,an,cdv,ct,osl,rfl,l,c⟩,k⟩
end
theorem small1000 {n:Nat} (h:n≤1000):n<sizeLine:=Nat.lt_of_le_of_lt h (by decide)
section
variable {X:Cx}
theorem pv (i:Nat) {x:Str}{pos:Pos} (hN:X.N[i]?=some x:=by rfl) (hv:Vis X.env.scope x:=by first|exact Or.inl rfl|exact Or.inr (Or.inl rfl)|exact Or.inr (Or.inr rfl)) (hd:(x==("__debug__" : Str))=false:=by decide)
 (hcd:(x==("__classdict__" : Str))=false:=by decide):PE X (.Name x pos) (tVar i):=pe_var hN hv hd hcd
end
theorem iteF {A B:Prop} (h:B):if false=true then A else B:=by
 rw [if_neg Bool.false_ne_true]
 exact h
theorem iteT {A B:Prop} (h:A):if true=true then A else B:=by
 rw [if_pos rfl]
 exact h
def NoT:HO→Prop
 | .tbl _=>False
 | _=>True
structure Kp (o:HO) (x:Option HO):Prop where
 to:NoT o→x=some o
 tb : ∀ ps,o = .tbl ps → ∃ ps',x=some (.tbl ps')
theorem Kp.of {o:HO}{x:Option HO} (h:x=some o):Kp o x:=⟨fun _=>h,fun ps e=>⟨ps,by rw [h,e]⟩⟩
def Same (H H':Hp):Prop := ∀ b o,H b=some o→Kp o (H' b)
theorem tbl_or (o:HO):NoT o ∨ ∃ ps,o = .tbl ps:=by
 cases o <;> first|exact .inr ⟨_,rfl⟩|exact .inl trivial
theorem Same.of {H H':Hp} (h : ∀ b o,H b=some o→H' b=some o):Same H H':=fun b o e => .of (h b o e)
theorem Same.at {H H':Hp} (s:Same H H') {b:Addr}{o:HO} (e:H b=some o) (n:NoT o:=by trivial):H' b=some o:=(s b o e).to n
theorem Same.any {H H':Hp} (s:Same H H') {b:Addr}{o:HO} (e:H b=some o) : ∃ o',H' b=some o':=by
 rcases tbl_or o with n|⟨ps,rfl⟩
 ·exact ⟨o,(s b o e).to n⟩
 ·obtain ⟨ps',e'⟩:=(s b _ e).tb ps rfl
  exact ⟨_,e'⟩
theorem Same.refl (H:Hp):Same H H :=.of fun _ _ h=>h
theorem Same.trans {H H1 H2:Hp} (a:Same H H1) (b:Same H1 H2):Same H H2:=fun c o h=>⟨fun n=>(b c o ((a c o h).to n)).to n,fun ps e=>let ⟨ps',e'⟩:=(a c o h).tb ps e; (b c _ e').tb ps' rfl⟩
theorem Same.free {H H':Hp} (e:Same H H') {l:Addr} (h:H' l=Option.none):H l=Option.none:=by
 cases q:H l with
 | none=>rfl
 | some o =>
  obtain ⟨o',z⟩:=e.any q
  rw [z] at h
  cases h
theorem Same.seq {K:PySem.W.Frag}{H H':Hp}{a:Addr}{xs:List V} (e:Same H H') (h:SqL K H a xs):SqL K H' a xs:=by
 rcases h with (h|⟨o,h⟩)|h
 ·exact .inl (.inl (e.at h))
 ·exact .inl (.inr ⟨o,e.at h⟩)
 ·exact .inr h
end L2
namespace L2
open PySem PySem.Spec PyProof.Rows
mutual
def Is (K:PySem.W.Frag) (H:Hp):PyData→V→Prop
 | .none,v=>v = .non
 | .bool b,v=>v = .bl b
 | .int i,v=>v = .int i
 | .str x,v=>v = .str x
 | .list l,v => ∃ a xs,v = .ref a∧SqL K H a xs∧Iss K H l xs
 | .tuple l,v => ∃ a xs,v = .ref a∧SqT K H a xs∧Iss K H l xs
 | .dict l,v => ∃ a kvs,v = .ref a∧H a=some (.dK kvs)∧(!l.isEmpty) = !kvs.isEmpty
def Iss (K:PySem.W.Frag) (H:Hp):List PyData→List V→Prop
 | [],xs=>xs=[]
 | d::l,xs => ∃ x r,xs=x::r∧Is K H d x∧Iss K H l r
end
instance {o:HO}{x:Option HO}:Coe (x=some o) (Kp o x):=⟨Kp.of⟩
instance {l:List V}{x:Option HO}:CoeOut (Kp (.lst l) x) (x=some (.lst l)):=⟨fun k=>k.to trivial⟩
instance {l:List V}{x:Option HO}:CoeOut (Kp (.tup l) x) (x=some (.tup l)):=⟨fun k=>k.to trivial⟩
instance {l:List (Key×V)}{x:Option HO}:CoeOut (Kp (.dK l) x) (x=some (.dK l)):=⟨fun k=>k.to trivial⟩
instance {l:List (List Key×V)}{x:Option HO}:CoeOut (Kp (.dT l) x) (x=some (.dT l)):=⟨fun k=>k.to trivial⟩
instance {C d:Addr}{l:List (Str×V)}{x:Option HO}:CoeOut (Kp (.ins C d l) x) (x=some (.ins C d l)):=⟨fun k=>k.to trivial⟩
instance {f:Heap→Prop}{x:Option HO}:CoeOut (Kp (.ext f) x) (x=some (.ext f)):=⟨fun k=>k.to trivial⟩
theorem Kp.tr {o:HO}{x y:Option HO} (k:Kp o x) (h : ∀ u,x=some u→Kp u y):Kp o y:=⟨fun n=>(h _ (k.to n)).to n,fun ps e=>let ⟨ps',z⟩:=k.tb ps e; (h _ z).tb ps' rfl⟩
theorem same_rd {H H':Hp}{a:Addr}{u:HO} (s:Same H H') (h:Rd H a u) (n:NoT u:=by trivial):Rd H' a u:=by
 rcases h with h|⟨o,h⟩
 ·exact .inl (s.at h n)
 ·exact .inr ⟨o,s.at h⟩
theorem same_seqT {K:PySem.W.Frag}{H H':Hp}{a:Addr}{xs:List V} (s:Same H H') (h:SqT K H a xs):SqT K H' a xs:=by
 rcases h with h|h
 ·exact .inl (same_rd s h)
 ·exact .inr h
theorem same_new {H:Hp}{p:Addr}{o:HO} (h:H p=none):Same H (upd H p o) :=.of fun b u e=>by
 rw [upd_ne (ne_of_none e h)];exact e
mutual
theorem Is.mono {K:PySem.W.Frag}{H H':Hp} (s:Same H H') : ∀ {d:PyData}{v:V},Is K H d v→Is K H' d v
 | .none,_,h=>by unfold Is at h ⊢;exact h
 | .bool _,_,h=>by unfold Is at h ⊢;exact h
 | .int _,_,h=>by unfold Is at h ⊢;exact h
 | .str _,_,h=>by unfold Is at h ⊢;exact h
 | .list l,_,h=>by
  unfold Is at h ⊢
  obtain ⟨a,xs,e,q,r⟩:=h
  exact ⟨a,xs,e,s.seq q,Iss.mono s r⟩
 | .tuple l,_,h=>by
  unfold Is at h ⊢
  obtain ⟨a,xs,e,q,r⟩:=h
  exact ⟨a,xs,e,same_seqT s q,Iss.mono s r⟩
 | .dict _,_,h=>by
  unfold Is at h ⊢
  obtain ⟨a,kvs,e,q,m⟩:=h
  exact ⟨a,kvs,e,s.at q,m⟩
theorem Iss.mono {K:PySem.W.Frag}{H H':Hp} (s:Same H H') : ∀ {l:List PyData}{xs:List V},Iss K H l xs→Iss K H' l xs
 | [],_,h=>by unfold Iss at h ⊢;exact h
 | d::l,_,h=>by
  unfold Iss at h ⊢
  obtain ⟨x,r,e,p,q⟩:=h
  exact ⟨x,r,e,Is.mono s p,Iss.mono s q⟩
end
section
variable {K:PySem.W.Frag}{H H':Hp}
theorem is_non:Is K H .none .non:=by unfold Is;rfl
theorem is_bl (b:Bool):Is K H (.bool b) (.bl b):=by unfold Is;rfl
theorem is_int (i:Int):Is K H (.int i) (.int i):=by unfold Is;rfl
theorem is_str (x:Str):Is K H (.str x) (.str x):=by unfold Is;rfl
theorem is_lst {a:Addr}{xs:List V}{l:List PyData} (h:SqL K H a xs) (r:Iss K H l xs):Is K H (.list l) (.ref a):=by unfold Is;exact ⟨a,xs,rfl,h,r⟩
theorem is_tup {a:Addr}{xs:List V}{l:List PyData} (h:SqT K H a xs) (r:Iss K H l xs):Is K H (.tuple l) (.ref a):=by unfold Is;exact ⟨a,xs,rfl,h,r⟩
theorem iss_nil:Iss K H [] []:=by unfold Iss;rfl
theorem iss_cons {d:PyData}{l:List PyData}{x:V}{xs:List V} (h:Is K H d x) (r:Iss K H l xs):Iss K H (d::l) (x::xs):=by unfold Iss;exact ⟨x,xs,rfl,h,r⟩
theorem Is.bl_inv {b:Bool}{v:V} (h:Is K H (.bool b) v):v = .bl b:=by unfold Is at h;exact h
theorem Is.int_inv {i:Int}{v:V} (h:Is K H (.int i) v):v = .int i:=by unfold Is at h;exact h
theorem Is.non_inv {v:V} (h:Is K H .none v):v = .non:=by unfold Is at h;exact h
theorem Is.lst_inv {l:List PyData}{v:V} (h:Is K H (.list l) v) : ∃ a xs,v = .ref a∧SqL K H a xs∧Iss K H l xs:=by unfold Is at h;exact h
theorem Is.tup_inv {l:List PyData}{v:V} (h:Is K H (.tuple l) v) : ∃ a xs,v = .ref a∧SqT K H a xs∧Iss K H l xs:=by unfold Is at h;exact h
theorem Is.dct_inv {l:List (PyData×PyData)}{v:V} (h:Is K H (.dict l) v) : ∃ a kvs,v = .ref a∧H a=some (.dK kvs)∧(!l.isEmpty) = !kvs.isEmpty:=by unfold Is at h;exact h
theorem Iss.nil_inv {xs:List V} (h:Iss K H [] xs):xs=[]:=by unfold Iss at h;exact h
theorem Iss.cons_inv {d:PyData}{l:List PyData}{xs:List V} (h:Iss K H (d::l) xs) : ∃ x r,xs=x::r∧Is K H d x∧Iss K H l r:=by unfold Iss at h;exact h
theorem Iss.len : ∀ {l:List PyData}{xs:List V},Iss K H l xs→xs.length=l.length
 | [],_,h=>by rw [h.nil_inv];rfl
 | d::l,_,h=>by
  obtain ⟨x,r,rfl,_,q⟩:=h.cons_inv
  simp [Iss.len q]
theorem Iss.get : ∀ {l:List PyData}{xs:List V}{i:Nat}{d:PyData},Iss K H l xs→l[i]?=some d → ∃ x,xs[i]?=some x∧Is K H d x
 | [],_,i,d,h,e=>by simp at e
 | d'::l,_,0,d,h,e=>by
  obtain ⟨x,r,rfl,p,q⟩:=h.cons_inv
  simp at e;subst e
  exact ⟨x,rfl,p⟩
 | d'::l,_,i+1,d,h,e=>by
  obtain ⟨x,r,rfl,p,q⟩:=h.cons_inv
  obtain ⟨y,e1,e2⟩:=Iss.get q (show l[i]?=some d by simpa using e)
  exact ⟨y,by simpa using e1,e2⟩
theorem Iss.get' : ∀ {l:List PyData}{xs:List V}{i:Nat}{x:V},Iss K H l xs→xs[i]?=some x → ∃ d,l[i]?=some d∧Is K H d x:=fun {l xs i x} h e=>by
 have hl:=h.len
 have hi:i<xs.length:=(List.getElem?_eq_some_iff.mp e).1
 obtain ⟨d,hd⟩ : ∃ d,l[i]?=some d:=⟨l[i]'(by omega),List.getElem?_eq_getElem _⟩
 obtain ⟨y,e1,e2⟩:=h.get hd
 rw [e] at e1;cases e1
 exact ⟨d,hd,e2⟩
theorem iss_append : ∀ {l m:List PyData}{xs ys:List V},Iss K H l xs→Iss K H m ys→Iss K H (l++m) (xs++ys)
 | [],m,_,ys,h,h'=>by rw [h.nil_inv];exact h'
 | d::l,m,_,ys,h,h'=>by
  obtain ⟨x,r,rfl,p,q⟩:=h.cons_inv
  exact iss_cons p (iss_append q h')
theorem iss_take : ∀ {l:List PyData}{xs:List V} (n:Nat),Iss K H l xs→Iss K H (l.take n) (xs.take n)
 | _,_,0,_=>iss_nil
 | [],_,n+1,h=>by rw [h.nil_inv];exact iss_nil
 | d::l,_,n+1,h=>by
  obtain ⟨x,r,rfl,p,q⟩:=h.cons_inv
  exact iss_cons p (iss_take n q)
theorem iss_drop : ∀ {l:List PyData}{xs:List V} (n:Nat),Iss K H l xs→Iss K H (l.drop n) (xs.drop n)
 | _,_,0,h=>h
 | [],_,n+1,h=>by rw [h.nil_inv];exact iss_nil
 | d::l,_,n+1,h=>by
  obtain ⟨x,r,rfl,p,q⟩:=h.cons_inv
  exact iss_drop n q
theorem iss_ints : ∀ ns:List Int,Iss K H (ns.map .int) (ns.map V.int)
 | []=>iss_nil
 | n::ns=>iss_cons (is_int n) (iss_ints ns)
theorem Iss.ints_inv : ∀ {ns:List Int}{xs:List V},Iss K H (ns.map .int) xs→xs=ns.map V.int
 | [],_,h=>h.nil_inv
 | n::ns,_,h=>by
  obtain ⟨x,r,rfl,p,q⟩:=h.cons_inv
  rw [p.int_inv,Iss.ints_inv q];rfl
end
section
variable {X:Cx}{pins:List (Addr×Obj)}{σ:St}{H:Hp}{s:Shared}
mutual
theorem Is.reads (I:Inv X pins σ H s) : ∀ {d:PyData}{x:V}{u:Value},d.canLay0=true→Is X.K H d x→RelV x u → ∃ as,Reads s.heap u d as
 | .none,_,u,_,h,r=>by
  rw [h.non_inv] at r;cases r;exact ⟨_,.none⟩
 | .bool b,_,u,_,h,r=>by
  rw [h.bl_inv] at r;cases r;exact ⟨_,.bool b⟩
 | .int i,_,u,_,h,r=>by
  rw [h.int_inv] at r;obtain ⟨t,rfl⟩:=r;exact ⟨_,.int i t⟩
 | .str x,_,u,_,h,r=>by
  unfold Is at h
  subst h
  obtain ⟨t,rfl⟩:=r;exact ⟨_,.str x t⟩
 | .list l,_,u,z,h,r=>by
  obtain ⟨a,xs,rfl,q,p⟩:=h.lst_inv
  cases r
  obtain ⟨its,rv,pl,_⟩:=I.list q
  obtain ⟨o,ho,hc,n,hd⟩:=pl.isList
  obtain ⟨as,ra⟩:=Iss.reads I (by simpa [PyData.canLay0] using z) p rv
  exact ⟨_,.list ho hc hd (by rw [List.toList_toArray];exact ra)⟩
 | .tuple l,_,u,z,h,r=>by
  obtain ⟨a,xs,rfl,q,p⟩:=h.tup_inv
  cases r
  obtain ⟨its,rv,pl,_⟩:=I.tuple q
  obtain ⟨o,ho,hc,n,hd⟩:=pl
  obtain ⟨as,ra⟩:=Iss.reads I (by simpa [PyData.canLay0] using z) p rv
  exact ⟨_,.tuple ho hc hd (by rw [List.toList_toArray];exact ra)⟩
 | .dict _,_,u,z,h,r=>by simp [PyData.canLay0] at z
theorem Iss.reads (I:Inv X pins σ H s) : ∀ {l:List PyData}{xs:List V}{us:List Value},PyData.canLayAll0 l=true→Iss X.K H l xs→Vals xs us → ∃ as,ReadsAll s.heap us l as
 | [],_,us,_,h,r=>by
  rw [h.nil_inv] at r;cases r;exact ⟨_,.nil⟩
 | d::l,_,us,z,h,r=>by
  have z':d.canLay0=true∧PyData.canLayAll0 l=true:=by simpa [PyData.canLayAll0] using z
  obtain ⟨x,y,rfl,p,q⟩:=h.cons_inv
  cases r with
  | cons r1 r2 =>
   obtain ⟨as,ra⟩:=Is.reads I z'.1 p r1
   obtain ⟨bs,rb⟩:=Iss.reads I z'.2 q r2
   exact ⟨_,.cons ra rb⟩
end
end
section
variable {X:Cx}
def rEqD (K:PySem.W.Frag):R2:=fun x y H Q => ∃ d e,Is K H d x∧Is K H e y∧SeqAt.shaped d=true∧SeqAt.shaped e=true∧Q (.bl (PyData.eqv d e)) H
def rNeD (K:PySem.W.Frag):R2:=fun x y H Q => ∃ d e,Is K H d x∧Is K H e y∧SeqAt.shaped d=true∧SeqAt.shaped e=true∧Q (.bl (!PyData.eqv d e)) H
theorem op_eqD (hu:X.A.units+64<cLine):OpR X (compareOp .Eq) (rEqD X.K):=by
 intro pins s σ H x y v u Q I rx ry h
 obtain ⟨d,e,h1,h2,z1,z2,q⟩:=h
 obtain ⟨as,ra⟩:=Is.reads I (Bool.and_eq_true_iff.mp z1).1 h1 rx
 obtain ⟨bs,rb⟩:=Is.reads I (Bool.and_eq_true_iff.mp z2).1 h2 ry
 exact SeqAt.compareEq_shaped ra rb z1 z2 hu ⟨.bl (PyData.eqv d e),H,I,rfl,q⟩
theorem op_neD (hu:X.A.units+64<cLine):OpR X (compareOp .NotEq) (rNeD X.K):=by
 intro pins s σ H x y v u Q I rx ry h
 obtain ⟨d,e,h1,h2,z1,z2,q⟩:=h
 obtain ⟨as,ra⟩:=Is.reads I (Bool.and_eq_true_iff.mp z1).1 h1 rx
 obtain ⟨bs,rb⟩:=Is.reads I (Bool.and_eq_true_iff.mp z2).1 h2 ry
 exact SeqAt.compareNe_shaped ra rb z1 z2 hu ⟨.bl (!PyData.eqv d e),H,I,rfl,q⟩
theorem op_mulB:OpR X (binaryOp .Mult) (rI IntMulOk fun i j => .int (i*j)):=opI fun _ _ _ _ _ _ _ hc q=>mul_int q hc
def CDivB (_ j:Int):Prop:=j≠0∧Builtin.Int.intBits j≤9000
theorem op_fdivB:OpR X (binaryOp .FloorDiv) (rI CDivB fun i j => .int (i.fdiv j)):=opI fun i j _ _ _ _ _ hc q=>by
 refine floordiv_int hc.1 q (.inl (PyProof.noPylong_of_log2 ?_))
 have h:=hc.2
 unfold Builtin.Int.intBits at h
 rw [if_neg (by simpa using hc.1)] at h
 omega
def rCatS (K:PySem.W.Frag):R2:=fun x y H Q => ∃ a b xs zs,x = .ref a∧y = .ref b∧SqL K H a xs∧SqL K H b zs∧xs.length+zs.length≤sizeLine ∧
 ∀ p,H p=none→Q (.ref p) (upd H p (.lst (xs++zs)))
theorem op_catS:OpR X (binaryOp .Add) (rCatS X.K):=by
 intro pins s σ H x y v u Q I rx ry h
 obtain ⟨a,b,xs,zs,rfl,rfl,hA,hB,hz,q⟩:=h
 cases rx
 cases ry
 obtain ⟨its,r,pl,z1⟩:=I.list hA
 obtain ⟨its2,r2,pl2,z2⟩:=I.list hB
 have l1:=r.length
 have l2:=r2.length
 obtain ⟨⟨cls,dd,data,sl⟩,ho,hc,n,hd⟩:=pl.isList
 obtain ⟨⟨cls2,dd2,data2,sl2⟩,ho2,hc2,n2,hd2⟩:=pl2.isList
 simp only at hc hd hc2 hd2
 subst hc hd hc2 hd2
 have e:its.toArray++its2.toArray=(its++its2).toArray:=by simp
 refine concat_meets ⟨_,ho,rfl⟩ ⟨_,ho2,rfl⟩ noFill_list_add seq_list_add PySem.F.slot_list_add PySem.F.entry_list_add (PySem.F.args_list_add_2 _ _) (list_addW a b its.toArray its2.toArray n n2 dd dd2 sl sl2 (by simp only [List.size_toArray];omega)) ⟨ho,ho2,?_⟩
 rw [e]
 exact ⟨.ref _,_,I.lnew (t':=s.toks) (r.append r2) (by rw [List.length_append];omega),rfl,q _ I.fresh⟩
def tyD:PyData→String
 | .none => "NoneType"
 | .bool _ => "bool"
 | .int _ => "int"
 | .str _ => "str"
 | .list _ => "list"
 | .tuple _ => "tuple"
 | .dict _ => "dict"
theorem isinst_D {pins:List (Addr×Obj)}{σ:St}{H:Hp}{s:Shared}{A:Around}{E:Value→Shared→Prop}{Q:Value→Shared→Prop}{c:Value}{b:Bool}{d:PyData}{x:V}{u:Value}
 (I:Inv X pins σ H s) (hd:Is X.K H d x) (rx:RelV x u) (e:PySem.W.kitOne X.K (.type (tyD d)) c=some b) (h : ∀ tk,Q (.bool b) { s with toks:=tk }) :
  wpAny (model X.prog X.w) A (call (.builtin "isinstance") [u,c]) Q E s:=by
  cases d with
  | none=>rw [hd.non_inv] at rx;cases rx;exact PySem.W.kia_one PySem.W.kitx_none I.kIn True.intro e (fun z=>nomatch z) h
  | bool y=>rw [hd.bl_inv] at rx;cases rx;exact PySem.W.kia_one PySem.W.kitx_bool I.kIn True.intro e (fun z=>nomatch z) h
  | int i=>rw [hd.int_inv] at rx;obtain ⟨t,rfl⟩:=rx;exact PySem.W.kia_one PySem.W.kitx_int I.kIn True.intro e (fun z=>nomatch z) h
  | str y =>
   unfold Is at hd
   subst hd
   obtain ⟨t,rfl⟩:=rx;exact PySem.W.kia_one PySem.W.kitx_str I.kIn True.intro e (fun z=>nomatch z) h
  | list l =>
   obtain ⟨a,xs,rfl,q,_⟩:=hd.lst_inv
   cases rx
   obtain ⟨its,_,pl,_⟩:=I.list q
   obtain ⟨o,ho,hc,_⟩:=pl.isList
   exact PySem.W.kia_one PySem.W.kitx_list I.kIn ⟨o,ho,hc⟩ e (fun z=>nomatch z) h
  | tuple l =>
   obtain ⟨a,xs,rfl,q,_⟩:=hd.tup_inv
   cases rx
   obtain ⟨its,_,pl,_⟩:=I.tuple q
   obtain ⟨o,ho,hc,_⟩:=pl
   exact PySem.W.kia_one PySem.W.kitx_tuple I.kIn ⟨o,ho,hc⟩ e (fun z=>nomatch z) h
  | dict l =>
   obtain ⟨a,kvs,rfl,q,_⟩:=hd.dct_inv
   cases rx
   obtain ⟨_,_,vs,_,p⟩:=(show ObjOk X.prog X.w H s.heap a (.dK kvs) from I.hok a _ q)
   obtain ⟨o,es,ep,h1,h2,_⟩:=p
   exact PySem.W.kia_one PySem.W.kitx_dict I.kIn ⟨o,h1,h2.1⟩ e (fun z=>nomatch z) h
def rIsD (K:PySem.W.Frag):List V→Hp→VK→Prop:=fun xs H Q => ∃ d x n b,xs=[x,.ty n]∧Is K H d x∧PySem.W.kitOne K (.type (tyD d)) (.type n)=some b∧Q (.bl b) H
theorem call_isi:CallR X (.builtin "isinstance") (rIsD X.K):=by
 intro pins s σ H xs us Q I r h
 obtain ⟨d,x,n,b,rfl,hd,e,q⟩:=h
 obtain ⟨u,c,rfl,rx,rc⟩:=vals2 r
 cases rc
 exact isinst_D I hd rx e fun tk=>⟨.bl b,H,I.tok tk,rfl,q⟩
theorem Iss.atI {K:PySem.W.Frag}{H:Hp}{l:List PyData}{xs:List V}{i:Int}{d:PyData} (h:Iss K H l xs) (e:L2.atI l i=some d) : ∃ x,L2.atI xs i=some x∧Is K H d x:=by
 unfold L2.atI at e ⊢
 rw [h.len]
 cases q:ixN l.length i with
 | none=>rw [q] at e;cases e
 | some j =>
  rw [q] at e
  exact h.get e
end
def Ite (K:PySem.W.Frag) (a:Addr):It :=
 ⟨fun i H => ∃ xs x,SqL K H a xs∧xs[i]?=some x,fun i H v H' => ∃ p x,(∀ xs,SqL K H a xs→xs[i]?=some x)∧H p=none∧v = .ref p∧H'=upd H p (.tup [.int i,x]),fun i H => ∃ xs,SqL K H a xs∧xs.length≤i⟩
theorem turn_enum {P:Program}{w:World}{K:PySem.W.Frag}{elts:List Expr}{x1:Nat}{tpos:Pos} (a e it:Addr) (hne:e≠it) :
 Turn P w K (.Tuple elts x1 tpos) (Ite K a) [e,it] e (fun i h=>(∃ old,IsEnum h e it (i:Nat) old)∧h.IsListIter it a i) where
  mem:=by simp
  obj:=fun i h st b hb=>by
   obtain ⟨⟨old,s1⟩,s2⟩:=st
   have hb':b=e∨b=it:=by simpa using hb
   rcases hb' with rfl|rfl
   ·exact ⟨_,s1,fun v z=>by have z':Data.fields _=Data.cell v:=z;cases z'⟩
   ·obtain ⟨o,q,c,d⟩:=s2
    exact ⟨o,q,fun v z=>by rw [d] at z;cases z⟩
  keep:=fun i h h' st k=>by
   obtain ⟨⟨old,s1⟩,s2⟩:=st
   exact ⟨⟨old,k e (by simp) _ s1⟩,s2.at fun o q=>k it (by simp) o q⟩
  item:=by
   intro X hP hw hK hc i pins s σ H E I hf st hg
   subst hP hw hK
   obtain ⟨xs,x,hq,hx⟩:=hg
   obtain ⟨its,rv,p,hz⟩:=I.list hq
   obtain ⟨u,hu,ru⟩:=rv.get hx
   obtain ⟨⟨old,s1⟩,s2⟩:=st
   obtain ⟨f0,f1,f2,f3,f4,f5⟩:=hf e (by simp)
   obtain ⟨g0,g1,g2,g3,g4,g5⟩:=hf it (by simp)
   have hel:e<s.heap.objs.size:=Heap.lt_size s1
   refine wpAny_pyNext_enum_item s1 s2 p.isList (x:=u) (by simpa using hu) hne fun h₁ ho hi ht hz₁ hk=>⟨_,rfl,?_⟩
   refine wpAny_letOwnedTupleGo_enum (s:={ s with heap:=h₁,toks:=s.toks+1 }) ho fun h₂ he₂ hs₂=>?_
   replace hs₂:Heap.SameBut e h₁ h₂:=hs₂
   have fresh:H s.heap.objs.size=none:=I.hok.fresh (Nat.le_refl _)
   have kk : ∀ b o,b≠e→b≠it→s.heap.get? b=some o→h₂.get? b=some o:=fun b o b1 b2 q=>hs₂.extBut b o b1 (hk b o b1 b2 q)
   have nb : ∀ b v,H b=some v→b≠e∧b≠it:=fun b v q=>⟨fun z=>(by rw [z,f0] at q;cases q),fun z=>(by rw [z,g0] at q;cases q)⟩
   have ht₂:h₂.get? s.heap.objs.size=some { cls :=.type "tuple",data :=.seq #[.int i s.toks,u] }:=(hs₂.2 _ (Nat.ne_of_gt hel)).trans ht
   have I1:Inv X pins σ (upd H s.heap.objs.size (.tup [.int i,x])) { s with heap:=h₂,toks:=s.toks+1 }:=by
    refine I.step (g':=s.gens) (d':=s.drawn) (ch:=[e,it]) (fun b hb=>?_) (fun b o _ _ hc q _=>kk b o (fun z=>hc (by simp [z])) (fun z=>hc (by simp [z])) q)
     (fun b o _ _ hc q _=>⟨o.slots,kk b o (fun z=>hc (by simp [z])) (fun z=>hc (by simp [z])) q⟩) (fun b o _ q n=>by rw [upd_ne (Nat.ne_of_lt (Heap.lt_size q))];exact n)
     (fun b o hc q=>⟨o,kk b o (fun z=>hc (by simp [z])) (fun z=>hc (by simp [z])) q⟩) (fun b ys q=>by rw [upd_ne (ne_of_none q fresh)];exact q) (fun b o v q=>by rw [upd_ne (ne_of_none q fresh)];exact q)
     (fun b ps q=>⟨#[],by rw [upd_ne (ne_of_none q fresh),q];simp,.nil⟩) (fun m hm=>?_) (fun b v q=>?_) I.bare
    ·have hb':b=e∨b=it:=by simpa using hb
     rcases hb' with rfl|rfl
     ·exact ⟨f3,f1,f4,f5⟩
     ·exact ⟨g3,g1,g4,g5⟩
    ·obtain ⟨o,es,ep,ho',r⟩:=hm
     exact ⟨o,es,ep,kk _ o (Ne.symm f1) (Ne.symm g1) ho',r⟩
    ·by_cases hb:b=s.heap.objs.size
     ·subst hb
      rw [upd_same] at q
      cases q
      exact ⟨(by show 2≤sizeLine;decide),[.int i s.toks,u],.cons ⟨s.toks,rfl⟩ (.cons ru .nil),⟨_,ht₂,rfl,_,rfl⟩⟩
     ·rw [upd_ne hb] at q
      refine (I.hok b v q).stay (fun c ob hc z=>?_) (fun c z=>by rw [upd_ne (ne_of_none z fresh)];exact z) fun c ys z=>by rw [upd_ne (ne_of_none z fresh)];exact z
      rcases hc with hc|hc
      ·subst hc;exact kk _ _ (nb _ _ q).1 (nb _ _ q).2 z
      ·exact kk _ _ (nb _ _ hc).1 (nb _ _ hc).2 z
   refine ⟨.ref s.heap.objs.size,_,I1,rfl,⟨s.heap.objs.size,x,fun ys hy=>by rw [I.list_inj hy hq];exact hx,fresh,rfl,rfl⟩,⟨⟨u,?_⟩,?_⟩,fun b hb=>?_⟩
   ·have e1:((i+1:Nat):Int)=(i:Int)+1:=by push_cast;rfl
    rw [e1];exact he₂
   ·exact hi.extBut hs₂.extBut (Ne.symm hne)
   ·have hb':b=e∨b=it:=by simpa using hb
    have hlt:b<s.heap.objs.size:=by
     rcases hb' with rfl|rfl
     ·exact hel
     ·obtain ⟨o,q,_⟩:=s2;exact Heap.lt_size q
    rw [upd_ne (Nat.ne_of_lt hlt)]
    exact (hf b hb).1
  done:=by
   intro X hP hw hK hc i pins s σ H E I hf st hg
   subst hP hw hK
   obtain ⟨xs,hq,hx⟩:=hg
   obtain ⟨its,rv,p,hz⟩:=I.list hq
   obtain ⟨⟨old,s1⟩,s2⟩:=st
   obtain ⟨g0,g1,g2,g3,g4,g5⟩:=hf it (by simp)
   have hl:=rv.length
   exact wpAny_pyNext_enum_end (I.ok.hd hc) s1 s2 p.isList (by simp;omega) fun h' eb=>⟨rfl,I.turned (t':=s.toks) (fun b o hb q=>eb b o hb q) g0 g1 g3 g4 g5⟩
  self:=fun A i s Q E st h=>by
   obtain ⟨⟨old,s1⟩,s2⟩:=st
   exact wpAny_pyIter_enum s1 h
section
variable {X:Cx}{elts:List Expr}{x1:Nat}{tpos:Pos}
def iEnum (K:PySem.W.Frag) (ta:TA):TI:=fun σ H R=>ta σ H fun vs H1 => ∃ a,vs=[.ref a]∧(∃ xs,SqL K H1 a xs)∧R (Ite K a) H1
theorem pi_enum {a:Expr}{ta:TA}{p pos:Pos} (hg:Gl X "enumerate") (hm:X.mg "enumerate" = none) (ha:PA X [a] ta) (hs:starEach [a] X.env=[(false,eval a X.env)]:=by rfl) :
 PI X (.Tuple elts x1 tpos) (.Call (.Name "enumerate" p) [a] [] pos) (iEnum X.K ta):=by
 intro pins s σ H R I h
 refine Call_ (ld_blt I hg hm boot_enumerate (PyProof.Rows.callWith_type1 (thn (ha pos pins s σ H _ I h) fun us s1 xx54=>?_) hs rfl))
 obtain ⟨vs,H1,I1,r1,q1⟩:=xx54
 obtain ⟨l,e,⟨xs,hq⟩,q⟩:=q1
 subst e
 cases r1 with
 | cons r rr =>
  cases rr
  cases r
  obtain ⟨its,rv,pl,hz⟩:=I1.list hq
  refine call_enumerate_list pl.isList fun h' he hi hz' hk=>?_
  refine wpAny_pyIter_enum he ?_
  have I2:Inv X pins σ H1 { s1 with heap:=h' }:=I1.kept (t':=s1.toks) hk
  refine ⟨s1.heap.objs.size+1,[s1.heap.objs.size+1,s1.heap.objs.size],_,_,H1,rfl,I2,turn_enum l _ _ (Nat.succ_ne_self _),⟨⟨_,he⟩,hi⟩,fun b hb=>?_,q⟩
  have hb':b=s1.heap.objs.size+1∨b=s1.heap.objs.size:=by simpa using hb
  have hle:s1.heap.objs.size≤b:=by
   rcases hb' with rfl|rfl
   ·exact Nat.le_succ _
   ·exact Nat.le_refl _
  exact I1.fpOk hle (I1.hok.fresh hle)
end
theorem szl {α:Type}{l:List α} (h:decide (l.length≤1000)=true:=by rfl):l.length≤sizeLine:=Nat.le_of_lt (small1000 (of_decide_eq_true h))
theorem eqv_int (i j:Int):PyData.eqv (.int i) (.int j)=(i==j):=by simp only [PyData.eqv]
theorem ite_ne {i j:Int}{A B:Prop} (h1:i≠j→A) (h2:i=j→B):if (!PyData.eqv (.int i) (.int j))=true then A else B:=by
 rw [eqv_int]
 by_cases h:i=j
 ·subst h;simpa using h2 rfl
 ·have e:(i==j)=false:=by simpa using h
  rw [e];simpa using h1 h
theorem ite_eq {i j:Int}{A B:Prop} (h1:i=j→A) (h2:i≠j→B):if (PyData.eqv (.int i) (.int j))=true then A else B:=by
 rw [eqv_int]
 by_cases h:i=j
 ·subst h;simpa using h1 rfl
 ·have e:(i==j)=false:=by simpa using h
  rw [e];simpa using h2 h
theorem iteD {p A B:Prop} [Decidable p] (h1:p→A) (h2 : ¬ p→B):if decide p=true then A else B:=by
 by_cases h:p
 ·simpa [h] using h1 h
 ·simpa [h] using h2 h
theorem atI_ints {ns:List Int}{i:Int} (h0:0≤i) (h1:i<ns.length) : ∃ n,L2.atI (ns.map PyData.int) i=some (.int n):=by
 have hi:i.toNat<ns.length:=by omega
 refine ⟨ns[i.toNat],?_⟩
 have e:(ns.map PyData.int)[i.toNat]?=some (.int ns[i.toNat]):=by simp [hi]
 have:=atI_nat e
 rwa [Int.toNat_of_nonneg h0] at this
theorem boot_abs:bootBuiltins "abs" = some (.builtin "abs"):=by decide +kernel
theorem boot_len:bootBuiltins "len" = some (.builtin "len"):=by decide +kernel
theorem boot_isinstance:bootBuiltins "isinstance" = some (.builtin "isinstance"):=by decide +kernel
theorem boot_int:bootBuiltins "int" = some (.type "int"):=by decide +kernel
theorem boot_bool:bootBuiltins "bool" = some (.type "bool"):=by decide +kernel
theorem boot_tuple:bootBuiltins "tuple" = some (.type "tuple"):=by decide +kernel
theorem boot_list:bootBuiltins "list" = some (.type "list"):=by decide +kernel
section
variable {K:PySem.W.Frag}
end
structure Def (K:PySem.W.Frag) (mg:Str→Option Value) (x:Str) (st:Stmt) (ps:List Str):Prop where
 ex : ∃ (f:Addr) (fd:FuncData),Fun K x x st f fd∧mg x=some (.ref f)∧Binds K fd ps []
structure Ok (P:Program) (w:World) (K:PySem.W.Frag) (mg:Str→Option Value) (base:Heap) (x:Str) (k:Nat) (ps:List Str) (sp:Sp):Prop where
 ex : ∃ (f:Addr) (fd:FuncData),FnOk P w K mg base CX0 k f fd ps sp∧mg x=some (.ref f)∧PySem.W.keepIn K (.ref f)=true∧Binds K fd ps []
section
variable {P:Program}{w:World}{K:PySem.W.Frag}{mg:Str→Option Value}{base:Heap}
theorem Def.ok {x:Str}{st:Stmt}{N ps:List Str}{k:Nat}{sp:Sp} (F:Def K mg x st ps) (S:FnScope N ps (defScope st)) (len : ∀ vs H Q E,sp vs H Q E→vs.length=ps.length)
 (hbody : ∀ (f:Addr) (cdv:Value) (A:Around) (outer:List Env) (s:Shared) (H:Hp) (vs:List V) (Q:VK) (E:XK),Room k (A.deeper (envOfC x (defScope st) s.heap.objs.size f cdv))→sp vs H Q E →
 ∃ t,PSs (cxOf CX0 P w K mg base N x (defScope st) f cdv A outer s H E).nox (defBody st) t∧t { nx:=fun _ H'=>Q .non H',rt:=Q } (start N vs) H):Ok P w K mg base x (k+1) ps sp:=by
  obtain ⟨f,fd,Fn,hm,hb⟩:=F.ex
  exact ⟨f,fd,Fn.ok S len (hbody f),hm,Fn.kp,hb⟩
end
section
variable {X:Cx}{x:Str}{k:Nat}{ps:List Str}{sp:Sp}{p pos:Pos}{e:Expr}{es:List Expr}{t:TA}
structure OkC (X:Cx) (x:Str) (k:Nat) (ps:List Str) (sp:Sp):Prop where
 ex : ∃ sp0,Ok X.prog X.w X.K X.mg X.base x k ps sp0 ∧ ∀ (pins:List (Addr×Obj)) (σ:St) (H:Hp) (s:Shared) (vs:List V) (Q:VK) (E:XK),Inv X pins σ H s→sp vs H Q E→sp0 vs H Q E
theorem Ok.c (O:Ok X.prog X.w X.K X.mg X.base x k ps sp):OkC X x k ps sp:=⟨sp,O,fun _ _ _ _ _ _ _ _ h=>h⟩
theorem pe_fn (O:OkC X x k ps sp) (hr:Room k X.A) (ha:PA X (e::es) t) (hg:Gl X x:=by rfl) (hdb:(x==("__debug__" : Str))=false:=by decide)
 (he:starEach (e::es) X.env=(false,eval e X.env)::starEach es X.env:=by rfl) (hpl:(backTo pos (starEach es X.env)).any (·.1)=false:=by rfl):PE X (.Call (.Name x p) (e::es) [] pos) (tCall sp [] E0 t):=by
 obtain ⟨sp0,⟨f,fd,F,hm,hk,hb⟩,up⟩:=O.ex
 intro pins s σ H Q I h
 refine wpAny_Call_Name_kw (ld_glob I hg hm ?_ hdb)
 refine PySem.W.callWith_K (h₀:=X.base) I.ok.mod.kin hk (thn (ha pos pins s σ H _ I h) fun us s1 ⟨vs,H1,I1,r,q⟩=>⟨I1.kIn,?_⟩) he hpl
 exact run_fn F hr hb .nil pass0 I1 r (up _ _ _ _ _ _ _ I1 q)
theorem pe_append {o:Expr}{to:TE}{te:TE}{apos cpos:Pos} (ho:PE X o to) (he:PE X e te) (hbase:attributeBase o "append" X.env (eval o X.env)=eval o X.env:=by rfl)
 (hfew:((backTo cpos (starEach [e] X.env)).all (fun x => !x.1)&&(backToKw cpos (keywordEach [] X.env)).all (fun x=>x.1.isSome)
  && decide ([e].length+([]:List Keyword).length+(if ([]:List Keyword).isEmpty then 0 else 1)<30))=true:=by rfl)
 (hline:(apos.endLine==cpos.line)=true:=by rfl) (hs:starEach [e] X.env=(false,eval e X.env)::starEach [] X.env:=by rfl) (hplain:(backTo cpos (starEach [] X.env)).any (·.1)=false:=by rfl) :
 PE X (.Call (.Attribute o "append" apos) [e] [] cpos) (tBM X.K "list" rAppend to (tCons te tNil)) :=
 pe_bm PySem.F.plainAttrs_list PySem.F.slot_list_append PySem.F.type_list_append mt_append ho (pa_cons he pa_nil hs) hbase hfew hline hs hplain
end
end L2
namespace L2
open PySem PySem.Spec PyProof.Rows
def closL (cells:List (Str×Addr)):List (Str×NameKind)→List (Str×Addr)→List (Str×Addr)
 | [],acc=>acc
 | (n,k)::r,acc=>if (k == .free)=true then (match cells.lookup n with|some c=>closL cells r ((n,c)::acc)|none=>closL cells r acc) else closL cells r acc
theorem closL_mem {cells:List (Str×Addr)} : ∀ {names:List (Str×NameKind)}{acc:List (Str×Addr)}{p:Str×Addr},p ∈ closL cells names acc→p ∈ acc∨cells.lookup p.1=some p.2
 | [],acc,p,h => .inl h
 | (n,k)::r,acc,p,h=>by
  unfold closL at h
  split at h
  ·split at h
   ·rename_i c hc
    rcases closL_mem h with h|h
    ·rcases List.mem_cons.mp h with h|h
     ·subst h;exact .inr hc
     ·exact .inl h
    ·exact .inr h
   ·exact closL_mem h
  ·exact closL_mem h
theorem closL_has {cells:List (Str×Addr)} : ∀ {names:List (Str×NameKind)}{acc:List (Str×Addr)}{x:Str},((∃ c,(x,c) ∈ acc)∨((x,NameKind.free) ∈ names ∧ ∃ c,cells.lookup x=some c)) → ∃ c,(x,c) ∈ closL cells names acc
 | [],acc,x,h=>by
  rcases h with h|h
  ·exact h
  ·exact absurd h.1 (by simp)
 | (n,k)::r,acc,x,h=>by
  unfold closL
  split
  ·rename_i hk
   split
   ·rename_i c hc
    refine closL_has ?_
    rcases h with ⟨d,h⟩|⟨h,d,hd⟩
    ·exact .inl ⟨d,List.mem_cons_of_mem _ h⟩
    ·rcases List.mem_cons.mp h with h|h
     ·cases h;exact .inl ⟨c,by simp⟩
     ·exact .inr ⟨h,d,hd⟩
   ·rename_i hc
    refine closL_has ?_
    rcases h with h|⟨h,d,hd⟩
    ·exact .inl h
    ·rcases List.mem_cons.mp h with h|h
     ·cases h;rw [hd] at hc;cases hc
     ·exact .inr ⟨h,d,hd⟩
  ·rename_i hk
   refine closL_has ?_
   rcases h with h|⟨h,d,hd⟩
   ·exact .inl h
   ·rcases List.mem_cons.mp h with h|h
    ·cases h;exact absurd rfl hk
    ·exact .inr ⟨h,d,hd⟩
theorem cf_new {x:Str}{c:Addr} : ∀ {names:List (Str×NameKind)}{n:Nat}{acc:List (Str×Addr)},(cellsFrom n names acc).lookup x=some c→(n≤c∧(x,NameKind.cell) ∈ names)∨acc.lookup x=some c
 | [],_,_,h => .inr h
 | (y,k)::r,n,acc,h=>by
  unfold cellsFrom at h
  split at h
  ·rename_i hk
   rcases cf_new h with ⟨h1,h2⟩|h1
   ·exact .inl ⟨by omega,List.mem_cons_of_mem _ h2⟩
   ·by_cases e:x=y
    ·subst e
     have hb:(x==x)=true:=by simp
     rw [List.lookup_cons,hb] at h1
     have hk':k = .cell:=by simpa using hk
     subst hk'
     cases h1
     exact .inl ⟨Nat.le_refl _,by simp⟩
    ·have hb:(x==y)=false:=by simpa using e
     rw [List.lookup_cons,hb] at h1
     exact .inr h1
  ·rcases cf_new h with ⟨h1,h2⟩|h1
   ·exact .inl ⟨h1,List.mem_cons_of_mem _ h2⟩
   ·exact .inr h1
theorem cf_old {x:Str} : ∀ {names:List (Str×NameKind)}{n:Nat}{acc:List (Str×Addr)},(x,NameKind.cell) ∉ names→(cellsFrom n names acc).lookup x=acc.lookup x
 | [],_,_,_=>rfl
 | (y,k)::r,n,acc,h=>by
  have hr:(x,NameKind.cell) ∉ r:=fun z=>h (List.mem_cons_of_mem _ z)
  unfold cellsFrom
  split
  ·rename_i hk
   have hk':k = .cell:=by simpa using hk
   subst hk'
   have e:x≠y:=fun z=>h (by rw [z];simp)
   have hb:(x==y)=false:=by simpa using e
   rw [cf_old hr,List.lookup_cons,hb]
  ·exact cf_old hr
theorem cf_above {x:Str}{c lo:Nat} : ∀ {names:List (Str×NameKind)}{n:Nat}{acc:List (Str×Addr)},lo≤n→((x,NameKind.cell) ∈ names ∨ ∃ a,acc.lookup x=some a∧lo≤a)→(cellsFrom n names acc).lookup x=some c→lo≤c
 | [],_,acc,_,h,e=>by
  rcases h with h|⟨a,h1,h2⟩
  ·simp at h
  ·have e:acc.lookup x=some c:=e
   rw [h1] at e
   cases e
   exact h2
 | (y,k)::r,n,acc,hn,h,e=>by
  unfold cellsFrom at e
  split at e
  ·rename_i hk
   refine cf_above (lo:=lo) (by omega) ?_ e
   by_cases z:x=y
   ·subst z
    have hb:(x==x)=true:=by simp
    exact .inr ⟨n,by rw [List.lookup_cons,hb],hn⟩
   ·have hb:(x==y)=false:=by simpa using z
    rcases h with h|⟨a,h1,h2⟩
    ·rcases List.mem_cons.mp h with h|h
     ·cases h;exact absurd rfl z
     ·exact .inl h
    ·exact .inr ⟨a,by rw [List.lookup_cons,hb];exact h1,h2⟩
  ·rename_i hk
   refine cf_above hn ?_ e
   rcases h with h|h
   ·rcases List.mem_cons.mp h with h|h
    ·cases h;exact absurd rfl hk
    ·exact .inl h
   ·exact .inr h
theorem cf_inj {x y:Str}{c:Addr} : ∀ {names:List (Str×NameKind)}{n:Nat}{acc:List (Str×Addr)},(∀ z a,acc.lookup z=some a→a<n)→n≤c→(cellsFrom n names acc).lookup x=some c→(cellsFrom n names acc).lookup y=some c→x=y
 | [],n,acc,hA,hn,h,_=>absurd (hA x c h) (Nat.not_lt.mpr hn)
 | (w,k)::r,n,acc,hA,hn,h,h'=>by
  unfold cellsFrom at h h'
  split at h
  ·rename_i hk
   rw [if_pos hk] at h'
   have hA' : ∀ z a,((w,n)::acc).lookup z=some a→a<n+1:=fun z a q=>by
    rw [List.lookup_cons] at q
    split at q
    ·cases q;exact Nat.lt_succ_self _
    ·exact Nat.lt_succ_of_lt (hA z a q)
   have at_n : ∀ z,((w,n)::acc).lookup z=some n→z=w:=fun z q=>by
    rw [List.lookup_cons] at q
    split at q
    ·rename_i hb;exact beq_iff_eq.mp hb
    ·exact absurd (hA z n q) (Nat.lt_irrefl _)
   by_cases e:c=n
   ·subst e
    have a1:x=w:=by
     rcases cf_new h with ⟨q,_⟩|q
     ·exact absurd q (Nat.not_succ_le_self _)
     ·exact at_n x q
    have a2:y=w:=by
     rcases cf_new h' with ⟨q,_⟩|q
     ·exact absurd q (Nat.not_succ_le_self _)
     ·exact at_n y q
    rw [a1,a2]
   ·exact cf_inj hA' (Nat.lt_of_le_of_ne hn (Ne.symm e)) h h'
  ·rename_i hk
   rw [if_neg hk] at h'
   exact cf_inj hA hn h h'
theorem cf_cell {x:Str}{c:Addr} : ∀ {names:List (Str×NameKind)}{h:Heap}{acc:List (Str×Addr)},(cellsFrom h.objs.size names acc).lookup x=some c→acc.lookup x=some c∨(pushCells h names).IsCell c none
 | [],_,_,e => .inl e
 | (y,k)::r,h,acc,e=>by
  unfold cellsFrom at e
  unfold pushCells
  split at e
  ·rename_i hk
   rw [if_pos hk]
   have e':(cellsFrom (h.push { cls :=.type "cell",data :=.cell none }).objs.size r ((y,h.objs.size)::acc)).lookup x=some c:=by rw [Heap.size_push];exact e
   rcases cf_cell e' with q|q
   ·rw [List.lookup_cons] at q
    split at q
    ·have q:=Option.some.inj q
     subst q
     exact .inr ⟨_,pushCells_keeps _ _ _ _ (Heap.get?_push_size _ rfl),rfl⟩
    ·exact .inl q
   ·exact .inr q
  ·rename_i hk
   rw [if_neg hk]
   exact cf_cell e
theorem nfe_cells {M:Model}{A:Around}{E:Value→Shared→Prop}{s:Shared}{scope:Scope}{globals:Addr}{cl:List (Str×Addr)}{qual:Str}{outer:Env}{Q:Env→Shared→Prop}
 (hQ:Q (newEnv scope s.heap.objs.size globals (cellsFrom (s.heap.objs.size+1) scope.names cl) qual none .none (some outer) builtinsNs) { s with heap:=pushCells (s.heap.push { cls :=.type "dict",data :=.dict #[] }) scope.names }) :
  wpAny M A (newFunctionEnv scope globals cl [] qual none .none (some outer)) Q E s:=by
  simp only [newFunctionEnv,Option.isSome_some,if_true]
  refine wpAny_bind (wpAny_alloc ?_)
  refine wpAny_bind (wpAny_layCells _ (fun name kind cells=>by cases hkc:kind==NameKind.cell <;> simp [hkc]) _ _ _ _ ?_)
  rw [show ({ s with heap:=s.heap.push { cls :=.type "dict",data :=.dict #[] } }:Shared).heap.objs.size=s.heap.objs.size+1 from Heap.size_push ..]
  rw [List.forIn_nil]
  exact wpAny_bind (wpAny_pure (wpAny_pure hQ))
structure CompScope (env:Env) (scope:Scope) (caps:List Str):Prop where
 clos:closureFor scope env=pure (closL env.cells scope.names [])
 kind:scope.kind = .function
 cells:scope.names.all (fun y => !(y.2 == .cell)||scope.names.lookup y.1==some .cell)=true
 names:scope.names.all (fun y => !(y.2 == .local)||scope.names.lookup y.1==some .local)=true
 free:scope.names.all (fun y => !(y.2 == .free)||(env.cells.lookup y.1).isSome)=true
 cap:caps.all (fun x=>scope.names.lookup x==some .free&&(env.scope.names.lookup x==some .cell||env.scope.names.lookup x==some .free))=true
theorem mem_lookup {β:Type} : ∀ {l:List (Str×β)}{x:Str}{c:β},l.lookup x=some c→(x,c) ∈ l:=fun h=>PySem.mem_of_lookup h
theorem lookup_mem : ∀ {l:List (Str×Addr)}{x:Str}{c:Addr},(x,c) ∈ l → ∃ d,l.lookup x=some d
 | [],_,_,h=>by simp at h
 | (y,d)::r,x,c,h=>by
  by_cases e:x=y
  ·subst e;exact ⟨d,by simp⟩
  ·have hb:(x==y)=false:=by simpa using e
   rcases List.mem_cons.mp h with h|h
   ·cases h;exact absurd rfl e
   ·obtain ⟨d',hd⟩:=lookup_mem h
    exact ⟨d',by rw [List.lookup_cons,hb];exact hd⟩
section
variable {env:Env}{scope:Scope}{caps:List Str}
abbrev clOf (scope:Scope) (env:Env):List (Str×Addr):=closL env.cells scope.names []
theorem CompScope.sub (S:CompScope env scope caps) {x:Str}{c:Addr} (h:(clOf scope env).lookup x=some c):env.cells.lookup x=some c:=by
 rcases closL_mem (mem_lookup h) with h|h
 ·simp at h
 ·exact h
theorem relabel_mem {x:Str}{k:NameKind} (h:(relabel scope env).names.lookup x=some k) : ∃ k',(x,k') ∈ scope.names∧(k'=k∨(k' = .free∧k = .cell)):=by
 have hm:=mem_lookup h
 obtain ⟨⟨n,k0⟩,h1,h2⟩:=List.mem_map.mp hm
 dsimp only at h2
 split at h2
 ·rename_i hc
  cases h2
  have:k0 = .free:=by
   have:=(Bool.and_eq_true_iff.mp (Bool.and_eq_true_iff.mp hc).1).1
   simpa using this
  subst this
  exact ⟨_,h1,.inr ⟨rfl,rfl⟩⟩
 ·cases h2
  exact ⟨_,h1,.inl rfl⟩
abbrev nclOf (scope:Scope) (env:Env) (n:Nat):List (Str×Addr):=cellsFrom n scope.names (clOf scope env)
theorem CompScope.hasF (S:CompScope env scope caps) {x:Str} (key:(x,NameKind.free) ∈ scope.names) : ∃ c,(clOf scope env).lookup x=some c:=by
 have:=List.all_eq_true.mp S.free _ key
 have hs:(env.cells.lookup x).isSome=true:=by simpa using this
 obtain ⟨c,hc⟩:=Option.isSome_iff_exists.mp hs
 obtain ⟨d,hd⟩:=closL_has (cells:=env.cells) (names:=scope.names) (acc:=[]) (.inr ⟨key,c,hc⟩)
 exact lookup_mem hd
theorem CompScope.isC (S:CompScope env scope caps) {x:Str} (h:(x,NameKind.cell) ∈ scope.names):scope.names.lookup x=some .cell:=by
 have:=List.all_eq_true.mp S.cells _ h
 simpa using this
theorem CompScope.has (S:CompScope env scope caps) {x:Str} (n:Nat) (h:(relabel scope env).names.lookup x=some .cell∨(relabel scope env).names.lookup x=some .free) : ∃ c,(nclOf scope env n).lookup x=some c:=by
 have key:scope.names.lookup x=some .cell∨(x,NameKind.free) ∈ scope.names:=by
  rcases h with h|h
  ·obtain ⟨k',h1,h2⟩:=relabel_mem h
   rcases h2 with rfl|⟨rfl,_⟩
   ·exact .inl (S.isC h1)
   ·exact .inr h1
  ·obtain ⟨k',h1,h2⟩:=relabel_mem h
   rcases h2 with rfl|⟨_,h2⟩
   ·exact .inr h1
   ·cases h2
 refine Option.isSome_iff_exists.mp (PySem.W.cellsFrom_some scope.names n _ ?_)
 rcases key with k|k
 ·exact .inl k
 ·obtain ⟨c,hc⟩:=S.hasF k
  exact .inr (by rw [hc];rfl)
theorem CompScope.look (S:CompScope env scope caps) {x:Str}{n:Nat}{c:Addr} (h:(nclOf scope env n).lookup x=some c):(n≤c∧(x,NameKind.cell) ∈ scope.names)∨env.cells.lookup x=some c:=by
 rcases cf_new h with q|q
 ·exact .inl q
 ·exact .inr (S.sub q)
end
def blk (X:Cx) (pins:List (Addr×Obj)) (scope:Scope) (N':List Str) (s3:Shared) (H:Hp) (ex:List Addr):Cx where
 prog:=X.prog
 w:=X.w
 K:=X.K
 mg:=X.mg
 base:=X.base
 A:=X.A
 N:=N'
 s₀:=s3
 H₀:=H
 env:=compEnvC scope (nclOf scope X.env (s3.heap.objs.size+1)) s3.heap.objs.size X.env
 outer:=X.stack
 stack:=X.stack
 ex:=ex
 fn:=fun x=>scope.names.lookup x==some .cell
 calm:=X.calm
 pn:=X.pn++pins
 xe:=fun _ _=>False
def capS (ix:List Nat) (k:Nat) (σ:St):St:=ix.map (fun i=>(σ[i]?).join)++List.replicate k none
def tComp (ix:List Nat) (k:Nat) (wi:TI) (g:TG) (te:TE):TE:=fun σ H Q=>wi σ H fun J H1 => ∃ W:Nat→Nat→List V→St→Hp→Prop,(∃ m,W 0 m [] (capS ix k σ) H1) ∧ ∀ i m ys σ1 H2,W i m ys σ1 H2 →
 (J.stop i H2∧ys.length≤sizeLine ∧ ∀ p,H2 p=none→Q (.ref p) (upd H2 p (.lst ys))) ∨
 (J.go i H2∧ys.length<sizeLine ∧ ∃ N:V→St→Hp→Prop,(∀ y σ2 H5,N y σ2 H5 → ∃ m',m'<m∧W (i+1) m' (ys++[y]) σ2 H5) ∧ ∀ x H3,J.yld i H2 x H3→g x σ1 H3 fun σ2 H4=>te σ2 H4 fun y H5=>N y σ2 H5)
theorem codeAny_compLoop_any {prog:Program}{w:World}{A:Around}{R:Result→Shared→Prop}{s:Shared}{elt target iter:Expr}{scope:Scope}{pos:Pos}{it acc:Value}{env:Env} (I:Nat→Shared→Prop)
 (turn : ∀ n s,I n s→wpAny (model prog w) A (pyNext it) (fun r s₁=>match r with
  | none=>R (.ok .next) s₁
  | some v=>wpAny (model prog w) A (letOwnedTupleGo target it v) (fun _ s₁'=>wpAny (model prog w) A (assign target env v) (fun _ s₂=>wpAny (model prog w) A (eval elt env) (fun x s₃ =>
   wpAny (model prog w) A (call (.builtin "list.append") [acc,x]) (fun _ s₄ => ∃ m,m<n∧I m s₄) (notedBy (model prog w) A env fun e s'=>R (.error e) s') s₃)
   (notedBy (model prog w) A env fun e s'=>R (.error e) s') s₂) (notedBy (model prog w) A env fun e s'=>R (.error e) s') s₁') (notedBy (model prog w) A env fun e s'=>R (.error e) s') s₁) (notedBy (model prog w) A env fun e s'=>R (.error e) s') s)
  (n:Nat) (h:I n s):codeAny (model prog w) A (.compLoop (.ListComp elt [⟨target,iter,[],0⟩] scope pos) 0 it acc env) R s:=by
  refine codeAny_loop rfl I (fun n s hI=>?_) n h
  show wpAny _ _ ((compTurn (.ListComp elt [⟨target,iter,[],0⟩] scope pos) 0 it acc env).onRaise (fun x=>do noteFrame x env;theTreesLotGoes x)) _ _ s
  refine wpAny_noted ?_
  rw [compTurn_list1]
  refine wpAny_bind (wpAny_standAt (wpAny_bind (wpAny_mono (turn n s hI) (fun r s₁ h₁=>?_) fun _ _ h'=>h')))
  cases r with
  | none=>exact wpAny_pure h₁
  | some v =>
   exact wpAny_bind (wpAny_mono h₁ (fun _ s₁' h₁'=>wpAny_bind (wpAny_mono h₁' (fun _ s₂ h₂=>wpAny_bind (wpAny_bind (wpAny_mono h₂ (fun x s₃ h₃=>wpAny_bind (wpAny_mono h₃
    (fun _ s₄ h₄=>wpAny_pure (wpAny_pure ⟨rfl,h₄⟩)) fun _ _ h'=>h')) fun _ _ h'=>h'))) fun _ _ h'=>h')) fun _ _ h'=>h')
section
variable {X:Cx}{elt target iter:Expr}{scope:Scope}{pos:Pos}{caps own:List Str}{ix:List Nat}{wi:TI}{g:TG}{te:TE}
def tYes:TT:=fun _ H Q=>Q true H
abbrev TstT:=Env→(Bool→Shared→Prop)→(Value→Shared→Prop)→Shared→Prop
def LoopR (prog:Program) (w:World) (A:Around) (elt target iter:Expr) (cs:List Expr) (scope:Scope) (pos:Pos) (Tst:TstT):Prop := ∀ {R:Result→Shared→Prop}{s:Shared}{it acc:Value}{env:Env} (I:Nat→Shared→Prop)
 (turn : ∀ n s,I n s→wpAny (model prog w) A (pyNext it) (fun r s₁=>match r with
  | none=>R (.ok .next) s₁
  | some v=>wpAny (model prog w) A (letOwnedTupleGo target it v) (fun _ s₁'=>wpAny (model prog w) A (assign target env v) (fun _ s₂=>Tst env (fun b s₂'=>match b with
   | true=>wpAny (model prog w) A (eval elt env) (fun x s₃ =>
    wpAny (model prog w) A (call (.builtin "list.append") [acc,x]) (fun _ s₄ => ∃ m,m<n∧I m s₄) (notedBy (model prog w) A env fun e s'=>R (.error e) s') s₃)
    (notedBy (model prog w) A env fun e s'=>R (.error e) s') s₂'
   | false => ∃ m,m<n∧I m s₂') (notedBy (model prog w) A env fun e s'=>R (.error e) s') s₂) (notedBy (model prog w) A env fun e s'=>R (.error e) s') s₁') (notedBy (model prog w) A env fun e s'=>R (.error e) s') s₁) (notedBy (model prog w) A env fun e s'=>R (.error e) s') s)
 (n:Nat) (h:I n s),codeAny (model prog w) A (.compLoop (.ListComp elt [⟨target,iter,cs,0⟩] scope pos) 0 it acc env) R s
theorem comp_core {cs:List Expr}{tt:TT}{Tst:TstT} (hloop:LoopR X.prog X.w X.A elt target iter cs scope pos Tst) (hc:X.calm=true) (S:CompScope X.env scope caps) (hi:PI X target iter wi)
 (hg : ∀ pins s3 H ex,PG (blk X pins scope (caps++own) s3 H ex) target g)
 (he : ∀ pins s3 H ex,PE (blk X pins scope (caps++own) s3 H ex) elt te)
 (htst : ∀ pins s3 H ex pins' s σ H' Qb P E,Inv (blk X pins scope (caps++own) s3 H ex) pins' σ H' s→tt σ H' Qb→(∀ b s' H'',Inv (blk X pins scope (caps++own) s3 H ex) pins' σ H'' s'→Qb b H''→P b s')→Tst (blk X pins scope (caps++own) s3 H ex).env P E s)
 (hix:caps.length=ix.length) (hcapB:(caps.zip ix).all (fun p=>X.N[p.2]?==some p.1)=true)
 (hs : ∀ x,foldedSetIterable iter X.env x=pure x) {use:Option (Value→Sem Unit)}{Q0:Value→Shared→Prop}{Qv:VK}{pins:List (Addr×Obj)}{s:Shared}{σ:St}{H:Hp}{pos':Pos} (I:Inv X pins σ H s) {Inner:It→Hp→Prop} (h:wi σ H Inner)
 (hin : ∀ J H1,Inner J H1 → ∃ W:Nat→Nat→List V→St→Hp→Prop,(∃ m,W 0 m [] (capS ix own.length σ) H1) ∧ ∀ i m ys σ1 H2,W i m ys σ1 H2 →
 (J.stop i H2∧ys.length≤sizeLine ∧ ∀ p,H2 p=none→Qv (.ref p) (upd H2 p (.lst ys))) ∨
 (J.go i H2∧ys.length<sizeLine ∧ ∃ (N:V→St→Hp→Prop) (N0:St→Hp→Prop),(∀ y σ2 H5,N y σ2 H5 → ∃ m',m'<m∧W (i+1) m' (ys++[y]) σ2 H5)∧(∀ σ2 H5,N0 σ2 H5 → ∃ m',m'<m∧W (i+1) m' ys σ2 H5) ∧
 ∀ x H3,J.yld i H2 x H3→g x σ1 H3 fun σ2 H4=>tt σ2 H4 fun b H5=>match b with|true=>te σ2 H5 fun y H6=>N y σ2 H6|false=>N0 σ2 H5))
 (fin : ∀ (D C:Addr) (s6:Shared) (H6:Hp) (m6:Str→Option Value),s6.heap.Ns C m6→Inv X pins σ H6 s6→H6 C=none→C≠X.env.locals→C ∉ X.fs→(C ∈ X.ex∨X.s₀.heap.objs.size≤C)→(∀ x c,X.env.cells.lookup x=some c→c≠C)→(∀ p ∈ X.pn++pins,p.1≠C)→Qv (.ref D) H6 →
 compPost (model X.prog X.w) X.A X.xe use Q0 (.ref D) C (.ok .next) s6) :
 wpAny (model X.prog X.w) X.A (comprehension (.ListComp elt [⟨target,iter,cs,0⟩] scope pos) scope X.env pos' (newList []) false (eval iter X.env) use) Q0 X.xe s:=by
  have hcap : ∀ (j:Nat) (x:Str) (i:Nat),caps[j]?=some x→ix[j]?=some i→X.N[i]?=some x:=fun j x i h1 h2=>by
   have hm:(x,i) ∈ caps.zip ix:=by
    have:(caps.zip ix)[j]?=some (x,i):=by rw [List.getElem?_zip_eq_some];exact ⟨h1,h2⟩
    exact List.mem_of_getElem? this
   have:=List.all_eq_true.mp hcapB _ hm
   simpa using this
  have hnm : ∀ y ∈ scope.names,y.2 = .local→scope.names.lookup y.1=some .local:=fun y hy hl=>by
   have:=List.all_eq_true.mp S.names y hy
   rw [hl] at this
   simpa using this
  refine wpAny_comprehension_free (use:=use) rfl hs S.clos S.kind hnm (thn (hi pins s σ H _ I h) fun v s1 h1=>thn h1 fun itv s2 h2=>?_)
  obtain ⟨it,fp,tn,J,H2,e,I2,T,st2,f2,hJ⟩:=h2
  obtain ⟨W,⟨m0,w0⟩,turn⟩:=hin J H2 hJ
  subst e
  refine wpAny_newObj_type (nfe_cells ?_)
  dsimp only
  generalize eh0:s2.heap.push { cls :=.type "list",data :=.seq #[] }=h3
  have hns₁:(pushCells (h3.push { cls :=.type "dict",data :=.dict #[] }) scope.names).Ns h3.objs.size (fun _=>none):=(Heap.Ns.new h3 (.type "dict")).keeps (pushCells_keeps _ _)
  have hkp : ∀ b o,h3.get? b=some o→(pushCells (h3.push { cls :=.type "dict",data :=.dict #[] }) scope.names).get? b=some o:=fun b o q=>pushCells_keeps _ _ b o (Heap.get?_push_of_some _ q)
  have hcl₁ : ∀ x c,(nclOf scope X.env (h3.objs.size+1)).lookup x=some c→(clOf scope X.env).lookup x=some c∨(pushCells (h3.push { cls :=.type "dict",data :=.dict #[] }) scope.names).IsCell c none:=fun x c q=>by
   refine cf_cell (h:=h3.push { cls :=.type "dict",data :=.dict #[] }) ?_
   rw [Heap.size_push];exact q
  generalize pushCells (h3.push { cls :=.type "dict",data :=.dict #[] }) scope.names=h₁ at hns₁ hkp hcl₁ ⊢
  obtain ⟨s3,hs3⟩ : ∃ s3:Shared,s3={ s2 with heap:=h3 }:=⟨_,rfl⟩
  have e3:h3=s3.heap:=by rw [hs3]
  subst e3
  have eh:s3.heap=s2.heap.push { cls :=.type "list",data :=.seq ([]:List Value).toArray }:=eh0.symm
  have hC:s3.heap.objs.size=s2.heap.objs.size+1:=by rw [eh,Heap.size_push]
  have hDlt:s2.heap.objs.size<s3.heap.objs.size:=by omega
  have k23 : ∀ b o,s2.heap.get? b=some o→s3.heap.get? b=some o:=fun b o q=>by rw [eh];exact Heap.get?_push_of_some _ q
  have hD3:s3.heap.get? s2.heap.objs.size=some { cls :=.type "list",data :=.seq ([]:List Value).toArray }:=by rw [eh];exact Heap.get?_push_size _ rfl
  have I3:Inv X pins σ H2 s3:=by rw [hs3];exact I2.kept (t':=s2.toks) k23
  have k34 : ∀ b o,s3.heap.get? b=some o→h₁.get? b=some o:=hkp
  have fpl : ∀ b ∈ fp,b<s2.heap.objs.size:=fun b hb=>by
   obtain ⟨o,q,_⟩:=T.obj 0 _ st2 b hb
   exact Heap.lt_size q
  have cel : ∀ x c,X.env.cells.lookup x=some c→c<s2.heap.objs.size:=fun x c q=>by
   obtain ⟨v,o,z,_⟩:=I2.cell x c q
   exact Heap.lt_size z
  have ncl : ∀ x c,(nclOf scope X.env (s3.heap.objs.size+1)).lookup x=some c→X.env.cells.lookup x=some c∨s3.heap.objs.size<c:=fun x c q=>(S.look q).elim (fun z => .inr z.1) .inl
  have pnl : ∀ p ∈ X.pn++pins,p.1<s2.heap.objs.size:=fun p hp=>Heap.lt_size (I2.pin p hp).1
  have hDn:H2 s2.heap.objs.size=none:=I2.hok.fresh (Nat.le_refl _)
  have ok:(blk X pins scope (caps++own) s3 H2 (s2.heap.objs.size::fp)).Ok:=by
   refine ⟨I2.mod,S.kind,I2.ok.glob,I2.ok.blt,Nat.le_refl _,fun x y c h1 h2=>?_,fun x hx=>S.has _ hx,fun x c hf q=>?_,I2.ok.hd,I2.ok.frames,.inl rfl,fun b hb=>?_,I3.bs,?_,fun b o q hb=>?_,fun b hb=>?_,I3.stack,I3.stkFree⟩
   ·rcases ncl x c h1 with q1|q1
    ·rcases ncl y c h2 with q2|q2
     ·exact I2.ok.inj x y c q1 q2
     ·exact absurd (Nat.lt_trans (cel x c q1) hDlt) (Nat.not_lt.mpr (Nat.le_of_lt q2))
    ·exact cf_inj (n:=s3.heap.objs.size+1) (acc:=clOf scope X.env) (fun z a q=>Nat.lt_succ_of_lt (Nat.lt_trans (cel z a (S.sub q)) hDlt)) q1 h1 h2
   ·exact Nat.le_trans (Nat.le_succ _) (cf_above (lo:=s3.heap.objs.size+1) (Nat.le_refl _) (.inl (mem_lookup (beq_iff_eq.mp hf))) q)
   ·have hb':b=s2.heap.objs.size∨b ∈ fp:=List.mem_cons.mp hb
    rcases hb' with rfl|hb'
    ·exact ⟨Nat.ne_of_lt hDlt,fun x c q=>(ncl x c q).elim (fun z=>Nat.ne_of_lt (cel x c z)) fun z=>Nat.ne_of_gt (Nat.lt_trans hDlt z)⟩
    ·exact ⟨Nat.ne_of_lt (Nat.lt_trans (fpl b hb') hDlt),fun x c q=>(ncl x c q).elim (fun z=>(f2 b hb').2.2.2.2.1 x c z) fun z=>Nat.ne_of_gt (Nat.lt_trans (fpl b hb') (Nat.lt_trans hDlt z))⟩
   ·exact Nat.le_trans I2.ok.bsz I3.sz
   ·have hlt:b<X.base.objs.size:=Heap.lt_size q
    have hb':b=s2.heap.objs.size∨b ∈ fp:=List.mem_cons.mp hb
    have h1:=I2.ok.bsz
    have h2:=I2.sz
    rcases hb' with rfl|hb'
    ·exact absurd hlt (Nat.not_lt.mpr (Nat.le_trans h1 h2))
    ·rcases (f2 b hb').2.2.2.1 with z|z
     ·exact I2.ok.noex b o q z
     ·exact absurd hlt (Nat.not_lt.mpr (Nat.le_trans h1 z))
   ·have hb':b=s2.heap.objs.size∨b ∈ fp:=List.mem_cons.mp hb
    intro z
    have z':=I2.stkSub b z
    rcases hb' with rfl|hb'
    ·rcases List.mem_cons.mp z' with z'|z'
     ·exact Nat.ne_of_gt I2.lt z'
     ·exact I2.nofs (Nat.le_refl _) z'
    ·rcases List.mem_cons.mp z' with z'|z'
     ·exact (f2 b hb').2.1 z'
     ·exact (f2 b hb').2.2.1 z'
  have len0:(capS ix own.length σ).length=(caps++own).length:=by unfold capS;simp [hix]
  have I4:Inv (blk X pins scope (caps++own) s3 H2 (s2.heap.objs.size::fp)) [] (capS ix own.length σ) H2 { s2 with heap:=h₁ }:=by
   obtain ⟨mX,nsX,lkX⟩:=I3.loc
   refine ⟨ok,(by show s2.os=s3.os;rw [hs3]),I2.bare,Un.kept k34,⟨_,hns₁,fun j x v h1 h2 h3=>?_⟩,fun x c q=>?_,I3.hok.fresh (Nat.le_refl _),fun x c q=>(ncl x c q).elim (fun z=>I3.freeC x c z) fun z=>I3.hok.fresh (Nat.le_of_lt z),fun p hp=>?_,I3.hok.kept k34,len0⟩
   ·-- a captured name
    have hj:j<ix.length:=by
     unfold capS at h2
     by_cases hj:j<ix.length
     ·exact hj
     ·rw [List.getElem?_append_right (by simpa using hj),List.getElem?_replicate] at h2
      split at h2 <;> cases h2
    have h1':caps[j]?=some x:=by
     have:(caps++own)[j]?=some x:=h1
     rwa [List.getElem?_append_left (by omega)] at this
    have hij:ix[j]?=some ix[j]:=List.getElem?_eq_getElem hj
    have hv:σ[ix[j]]?=some (some v):=by
     unfold capS at h2
     rw [List.getElem?_append_left (by simpa using hj),List.getElem?_map,hij] at h2
     have h2':(σ[ix[j]]?).join=some v:=by simpa using h2
     cases q:σ[ix[j]]? with
     | none=>rw [q] at h2';cases h2'
     | some o=>rw [q] at h2';cases o with
      | none=>cases h2'
      | some y=>have:y=v:=by simpa using h2'
                rw [this]
    have hk:=List.all_eq_true.mp S.cap x (List.mem_of_getElem? h1')
    obtain ⟨k1,k2⟩:=Bool.and_eq_true_iff.mp hk
    have k1':scope.names.lookup x=some .free:=by simpa using k1
    have k2':X.env.scope.names.lookup x=some .cell∨X.env.scope.names.lookup x=some .free:=by simpa using k2
    obtain ⟨u,ru,lk⟩:=lkX ix[j] x v (hcap j x _ h1' hij) hv (k2'.elim (fun z => .inr (.inl z)) (fun z => .inr (.inr z)))
    refine ⟨u,ru,?_⟩
    have hrel:(relabel scope X.env).names.lookup x=some .cell∨(relabel scope X.env).names.lookup x=some .free:=by
     rcases h3 with h3|h3|h3
     ·have h3':(relabel scope X.env).names.lookup x=some NameKind.local:=h3
      obtain ⟨k',m1,m2⟩:=relabel_mem h3'
      rcases m2 with rfl|⟨_,m2⟩
      ·have:=hnm _ m1 rfl
       rw [k1'] at this;cases this
      ·cases m2
     ·exact .inl h3
     ·exact .inr h3
    have hxc:(x,NameKind.cell) ∉ scope.names:=fun z=>by
     have:=S.isC z
     rw [k1'] at this;cases this
    obtain ⟨c,hcl⟩:=S.hasF (mem_lookup k1')
    have hcl':(nclOf scope X.env (s3.heap.objs.size+1)).lookup x=some c:=(cf_old hxc).trans hcl
    rcases lk with ⟨kl,_⟩|⟨_,c',ec,ic⟩
    ·have kl':X.env.scope.names.lookup x=some .local:=kl
     rcases k2' with z|z <;> (rw [kl'] at z;cases z)
    ·have:=S.sub hcl
     have ee:c'=c:=by rw [ec] at this;exact Option.some.inj this
     exact .inr ⟨hrel,c,hcl',ee ▸ ic.keeps k34⟩
   ·rcases hcl₁ x c q with z|z
    ·obtain ⟨v,ic⟩:=I3.cell x c (S.sub z)
     exact ⟨v,ic.keeps k34⟩
    ·exact ⟨_,z⟩
   ·have hp':p ∈ X.pn++pins:=by simpa [blk] using hp
    obtain ⟨q1,q2,q3,q4,q5⟩:=I3.pin p hp'
    refine ⟨k34 _ _ q1,q2,Nat.ne_of_lt (Nat.lt_trans (pnl p hp') hDlt),fun z=>?_,q5⟩
    rcases List.mem_cons.mp (I3.stkSub p.1 z) with z'|z'
    ·exact q3 z'
    ·exact q4 z'
  have hD4:h₁.get? s2.heap.objs.size=some { cls :=.type "list",data :=.seq ([]:List Value).toArray }:=k34 _ _ hD3
  have st4:tn 0 h₁:=T.keep _ _ _ st2 fun b _ o q=>k34 b o (k23 b o q)
  have fpk : ∀ {H':Hp}{ob:Obj},(∀ b ∈ fp,H' b=none) → ∀ b ∈ fp,FpOk (blk X pins scope (caps++own) s3 H2 (s2.heap.objs.size::fp)) [(s2.heap.objs.size,ob)] H' b:=fun {H' ob} hn b hb=>by
   obtain ⟨_,a1,a2,a3,a4,a5⟩:=f2 b hb
   refine ⟨hn b hb,Nat.ne_of_lt (Nat.lt_trans (fpl b hb) hDlt),fun z=>?_,.inl (List.mem_cons_of_mem _ hb),fun x c q=>(ncl x c q).elim (fun z=>a4 x c z) fun z=>Nat.ne_of_gt (Nat.lt_trans (fpl b hb) (Nat.lt_trans hDlt z)),fun p hp=>?_⟩
   ·rcases List.mem_cons.mp (I2.stkSub b z) with z'|z'
    ·exact a1 z'
    ·exact a2 z'
   ·have hp':p ∈ X.pn++pins∨p=(s2.heap.objs.size,ob):=by simpa [blk,or_assoc] using hp
    rcases hp' with hp'|rfl
    ·exact a5 p hp'
    ·exact Nat.ne_of_gt (fpl b hb)
  have loop : ∀ s5:Shared,s5=({ s2 with heap:=h₁ }:Shared) →
   codeAny (model X.prog X.w) X.A (.compLoop (.ListComp elt [⟨target,iter,cs,0⟩] scope pos) 0 (.ref it) (.ref s2.heap.objs.size) (compEnvC scope (nclOf scope X.env (s3.heap.objs.size+1)) s3.heap.objs.size X.env))
    (compPost (model X.prog X.w) X.A X.xe use Q0 (.ref s2.heap.objs.size) s3.heap.objs.size) s5:=by
   rintro s5 rfl
   refine hloop (fun n s' => ∃ i ys its cp σ' H',Inv (blk X pins scope (caps++own) s3 H2 (s2.heap.objs.size::fp)) [] σ' H' s'∧tn i s'.heap∧(∀ b ∈ fp,H' b=none)∧H' s2.heap.objs.size=none ∧
    s'.heap.get? s2.heap.objs.size=some { cls :=.type "list",data :=.seq (its:List Value).toArray cp }∧Vals ys its∧W i n ys σ' H') ?_ m0 ⟨0,[],[],_,_,H2,I4,st4,fun b hb=>(f2 b hb).1,hDn,hD4,.nil,w0⟩
   rintro n s5 ⟨i,ys,its,cp,σ5,H5,I5,st5,fr5,hD5,gD5,rv5,w5⟩
   have Dfs:s2.heap.objs.size ∉ (blk X pins scope (caps++own) s3 H2 (s2.heap.objs.size::fp)).fs:=fun z=>by
    rcases List.mem_cons.mp (I2.stkSub _ z) with z'|z'
    ·exact Nat.ne_of_gt I2.lt z'
    ·exact I2.nofs (Nat.le_refl _) z'
   have I5':Inv (blk X pins scope (caps++own) s3 H2 (s2.heap.objs.size::fp)) [(s2.heap.objs.size,{ cls :=.type "list",data :=.seq its.toArray cp })] σ5 H5 s5:=by
    refine I5.pins_of fun p hp=>?_
    have hp':p ∈ (blk X pins scope (caps++own) s3 H2 (s2.heap.objs.size::fp)).pn++[]∨p=(s2.heap.objs.size,{ cls :=.type "list",data :=.seq its.toArray cp }):=by
     first
      | exact .inr (List.mem_singleton.mp hp)
      | (rcases List.mem_append.mp hp with z|z
         ·exact .inl (List.mem_append_left _ z)
         ·exact .inr (List.mem_singleton.mp z))
    rcases hp' with z|rfl
    ·exact I5.pin p z
    ·exact ⟨gD5,hD5,Nat.ne_of_lt hDlt,Dfs,fun v z=>by cases z⟩
   rcases turn i n ys σ5 H5 w5 with ⟨stop,hz,qn⟩|⟨go,hz,N,N0,hN,hN0,step⟩
   ·refine thn (T.done (blk X pins scope (caps++own) s3 H2 (s2.heap.objs.size::fp)) rfl rfl rfl hc i _ s5 σ5 H5 _ I5' (fpk fr5) st5 stop) fun r s6 ⟨hr,I6⟩=>?_
    subst hr
    obtain ⟨m6,ns6,_⟩:=id I6.loc
    have gD6:=(I6.pin _ (List.mem_append_right _ (List.mem_singleton.mpr rfl))).1
    have kC : ∀ b o,b≠s3.heap.objs.size→s6.heap.get? b=some o→s6.heap.get? b=some o:=fun b o _ q=>q
    have bne : ∀ b o,s2.heap.get? b=some o→b≠s3.heap.objs.size:=fun b o q=>Nat.ne_of_lt (Nat.lt_trans (Heap.lt_size q) hDlt)
    have bnD : ∀ b o,s2.heap.get? b=some o→b≠s2.heap.objs.size:=fun b o q=>Nat.ne_of_lt (Heap.lt_size q)
    have nC : ∀ b u,H5 b=some u→b≠s3.heap.objs.size:=fun b u q z=>by
     have z1:H5 s3.heap.objs.size=none:=I6.free
     rw [z,z1] at q;cases q
    have U:=I6.base
    have IX:Inv X pins σ (upd H5 s2.heap.objs.size (.lst ys)) s6:=by
     refine I2.call' (ch:=s2.heap.objs.size::fp) ?_ ?_ ?_ I6.bare ?_
     ·show s6.os=s2.os
      rw [I6.os];show s3.os=s2.os;rw [hs3]
     ·refine ⟨fun b o q n hb hx=>kC b o (bne b o q) (U.keep b o (k23 b o q) n hb hx),fun b o q n hb hx=>?_,fun b o q n hx=>?_,fun b o q hx=>?_,fun b xs q=>?_,fun b o u q=>?_,fun b ps q=>?_⟩
      ·obtain ⟨sl,z⟩:=U.slot b o (k23 b o q) n hb hx
       exact ⟨sl,kC b _ (bne b o q) z⟩
      ·rw [upd_ne (bnD b o q)];exact U.free b o (k23 b o q) n hx
      ·obtain ⟨o',z⟩:=U.there b o (k23 b o q) hx
       exact ⟨o',kC b _ (bne b o q) z⟩
      ·have:=U.tups b xs q
       rw [upd_ne (ne_of_none this hD5)];exact this
      ·have:=U.frzs b o u q
       rw [upd_ne (ne_of_none this hD5)];exact this
      ·obtain ⟨more,z,gm⟩:=U.tbls b ps q
       exact ⟨more,by rw [upd_ne (ne_of_none z hD5)];exact z,gm.mono fun b o u q=>by rw [upd_ne (ne_of_none q hD5)];exact q⟩
     ·intro b u q
      by_cases hb:b=s2.heap.objs.size
      ·subst hb
       rw [upd_same] at q
       cases q
       exact ⟨hz,its,cp,rv5,kC _ _ (Nat.ne_of_lt hDlt) gD6⟩
      ·rw [upd_ne hb] at q
       refine (I6.hok b u q).stay (fun c ob hc z=>kC c ob ?_ z) (fun c z=>by rw [upd_ne (ne_of_none z hD5)];exact z) fun c xs z=>by rw [upd_ne (ne_of_none z hD5)];exact z
       rcases hc with hc|hc
       ·rw [hc];exact nC b u q
       ·exact nC c _ hc
     ·intro b hb
      have hb':b=s2.heap.objs.size∨b ∈ fp:=List.mem_cons.mp hb
      rcases hb' with rfl|hb'
      ·exact ⟨.inr I2.sz,Nat.ne_of_gt I2.lt,fun x c q=>Nat.ne_of_lt (cel x c q),fun p hp=>Nat.ne_of_lt (pnl p hp)⟩
      ·obtain ⟨_,a1,_,a3,a4,a5⟩:=f2 b hb'
       exact ⟨a3,a1,a4,a5⟩
    have hCH:(upd H5 s2.heap.objs.size (.lst ys)) s3.heap.objs.size=none:=by
     rw [upd_ne (Nat.ne_of_gt hDlt)];exact I6.free
    exact fin _ _ s6 _ m6 ns6 IX hCH (Nat.ne_of_gt (Nat.lt_trans I2.lt hDlt)) (I2.nofs (Nat.le_of_lt hDlt)) (.inr (Nat.le_trans I2.sz (Nat.le_of_lt hDlt))) (fun x c q=>Nat.ne_of_lt (Nat.lt_trans (cel x c q) hDlt)) (fun p hp=>Nat.ne_of_lt (Nat.lt_trans (pnl p hp) hDlt)) (qn _ hD5)
   ·refine thn (T.item (blk X pins scope (caps++own) s3 H2 (s2.heap.objs.size::fp)) rfl rfl rfl hc i _ s5 σ5 H5 _ I5' (fpk fr5) st5 go) fun r s6 ⟨u,hr,h6⟩=>?_
    subst hr
    refine thn h6 fun _ s7 xx60=>?_
    obtain ⟨x,H7,I7,r7,y7,st7,fr7⟩:=xx60
    have I7':=I7.pinned (fpk fr7) (T.obj _ _ st7)
    refine wpAny_mono (hg pins s3 H2 _ _ s7 σ5 H7 x u _ I7' r7 (step x H7 y7)) (fun _ s8 xx59=>?_) fun _ _ z=>z.elim
    obtain ⟨σ8,H8,I8,q8⟩:=xx59
    refine htst pins s3 H2 _ _ s8 σ8 H8 _ _ _ I8 q8 fun bt s8' H8' I8' q8'=>?_
    cases bt with
    | false =>
     have q9:N0 σ8 H8':=q8'
     obtain ⟨m',hm',w9⟩:=hN0 σ8 H8' q9
     have gD9:=(I8'.pin (s2.heap.objs.size,{ cls :=.type "list",data :=.seq its.toArray cp }) (List.mem_append_right _ (List.mem_append_left _ (List.mem_singleton.mpr rfl))))
     have pin8 : ∀ b ∈ fp,∀ o,s7.heap.get? b=some o→s8'.heap.get? b=some o∧H8' b=none:=fun b hb o q=>by
      have z:=I8'.pin (b,o) (List.mem_append_right _ (List.mem_append_right _ (mem_pinsAt hb q)))
      exact ⟨z.1,z.2.1⟩
     refine ⟨m',hm',i+1,ys,its,cp,σ8,H8',?_,?_,fun b hb=>?_,gD9.2.1,gD9.1,rv5,w9⟩
     ·exact (I8'.pins_of (pins':=[]) (fun p hp=>by
       first
        | exact absurd hp (by simp)
        | (rw [List.append_nil] at hp;exact I8'.pin p (List.mem_append_left _ hp))))
     ·exact T.keep _ _ _ st7 fun b hb o q=>(pin8 b hb o q).1
     ·obtain ⟨o,q,_⟩:=T.obj _ _ st7 b hb
      exact (pin8 b hb o q).2
    | true =>
     refine wpAny_mono (he pins s3 H2 _ _ s8' σ8 H8' _ I8' q8') (fun uy s9 xx58=>?_) fun _ _ z=>z.elim
     obtain ⟨y,H9,I9,r9,n9⟩:=xx58
     obtain ⟨m',hm',w9⟩:=hN y σ8 H9 n9
     have gD9:=(I9.pin (s2.heap.objs.size,{ cls :=.type "list",data :=.seq its.toArray cp }) (List.mem_append_right _ (List.mem_append_left _ (List.mem_singleton.mpr rfl))))
     have pin9 : ∀ b ∈ fp,∀ o,s7.heap.get? b=some o→s9.heap.get? b=some o∧H9 b=none:=fun b hb o q=>by
      have z:=I9.pin (b,o) (List.mem_append_right _ (List.mem_append_right _ (mem_pinsAt hb q)))
      exact ⟨z.1,z.2.1⟩
     have hl9:=rv5.length
     refine call_meets PySem.F.slot_list_append ⟨_,gD9.1,rfl⟩ PySem.F.entry_list_append (PySem.F.args_list_append_2 _ _) (PySem.list_append s2.heap.objs.size its.toArray cp uy (by rw [List.size_toArray];omega)) ⟨gD9.1,?_⟩
     have qD:=PySem.IsL.update gD9.1 (fun xs=>xs.push uy)
     have ep:its.toArray.push uy=(its++[uy]).toArray:=by simp
     rw [ep] at qD
     have up : ∀ b o,b≠s2.heap.objs.size→s9.heap.get? b=some o→(s9.heap.update s2.heap.objs.size (Obj.mapSeq fun xs=>xs.push uy)).get? b=some o:=fun b o hb q=>(Heap.get?_update_other s9.heap _ (Ne.symm hb)).trans q
     refine ⟨m',hm',i+1,ys++[y],its++[uy],_,σ8,H9,?_,?_,fun b hb=>?_,gD9.2.1,qD,rv5.append (.cons r9 .nil),w9⟩
     ·refine (I9.pins_of (pins':=[]) (fun p hp=>by
       first
        | exact absurd hp (by simp)
        | (rw [List.append_nil] at hp;exact I9.pin p (List.mem_append_left _ hp)))).turned (it:=s2.heap.objs.size) up gD9.2.1 (Nat.ne_of_lt hDlt) (.inl (List.mem_cons_self ..)) (fun x c q=>(ncl x c q).elim (fun z=>Nat.ne_of_lt (cel x c z)) fun z=>Nat.ne_of_gt (Nat.lt_trans hDlt z)) fun p hp=>?_
      have hp':p ∈ X.pn++pins:=by simpa [blk] using hp
      exact Nat.ne_of_lt (pnl p hp')
     ·exact T.keep _ _ _ st7 fun b hb o q=>up b o (Nat.ne_of_lt (fpl b hb)) (pin9 b hb o q).1
     ·obtain ⟨o,q,_⟩:=T.obj _ _ st7 b hb
      exact (pin9 b hb o q).2
  exact codeAny_compStart_list (loop _ rfl) (T.self _ 0 _ _ _ st4 (loop _ rfl))
theorem comp_core0 (hc:X.calm=true) (S:CompScope X.env scope caps) (hi:PI X target iter wi)
 (hg : ∀ pins s3 H ex,PG (blk X pins scope (caps++own) s3 H ex) target g)
 (he : ∀ pins s3 H ex,PE (blk X pins scope (caps++own) s3 H ex) elt te)
 (hix:caps.length=ix.length) (hcapB:(caps.zip ix).all (fun p=>X.N[p.2]?==some p.1)=true)
 (hs : ∀ x,foldedSetIterable iter X.env x=pure x) {use:Option (Value→Sem Unit)}{Q0:Value→Shared→Prop}{Qv:VK}{pins:List (Addr×Obj)}{s:Shared}{σ:St}{H:Hp}{pos':Pos} (I:Inv X pins σ H s) (h:tComp ix own.length wi g te σ H Qv)
 (fin : ∀ (D C:Addr) (s6:Shared) (H6:Hp) (m6:Str→Option Value),s6.heap.Ns C m6→Inv X pins σ H6 s6→H6 C=none→C≠X.env.locals→C ∉ X.fs→(C ∈ X.ex∨X.s₀.heap.objs.size≤C)→(∀ x c,X.env.cells.lookup x=some c→c≠C)→(∀ p ∈ X.pn++pins,p.1≠C)→Qv (.ref D) H6 →
 compPost (model X.prog X.w) X.A X.xe use Q0 (.ref D) C (.ok .next) s6) :
 wpAny (model X.prog X.w) X.A (comprehension (.ListComp elt [⟨target,iter,[],0⟩] scope pos) scope X.env pos' (newList []) false (eval iter X.env) use) Q0 X.xe s:=by
  refine comp_core (cs:=[]) (tt:=tYes) (Tst:=fun _ P _ s=>P true s) (fun J turn n h=>codeAny_compLoop_any J turn n h) hc S hi hg he (fun _ _ _ _ _ s _ H' _ _ _ I q k=>k true s H' I q) hix hcapB hs I h (fun J H1 z=>?_) fin
  obtain ⟨W,w0,turn⟩:=z
  refine ⟨W,w0,fun i m ys σ1 H2 w=>?_⟩
  rcases turn i m ys σ1 H2 w with z|z
  ·exact .inl z
  ·obtain ⟨go,hz,N,hN,step⟩:=z
   exact .inr ⟨go,hz,N,fun _ _=>False,hN,fun _ _ z=>z.elim,step⟩
theorem pe_comp (hc:X.calm=true) (S:CompScope X.env scope caps) (hi:PI X target iter wi)
 (hg : ∀ pins s3 H ex,PG (blk X pins scope (caps++own) s3 H ex) target g)
 (he : ∀ pins s3 H ex,PE (blk X pins scope (caps++own) s3 H ex) elt te)
 (hix:caps.length=ix.length:=by rfl) (hcapB:(caps.zip ix).all (fun p=>X.N[p.2]?==some p.1)=true:=by rfl)
  (hs : ∀ x,foldedSetIterable iter X.env x=pure x:=by intro _;rfl):PE X (.ListComp elt [⟨target,iter,[],0⟩] scope pos) (tComp ix own.length wi g te):=by
  intro pins s σ H Q I h
  rw [eval_ListComp]
  exact comp_core0 (use:=none) (Q0:=EP X pins σ Q) hc S hi hg he hix hcapB hs I h fun D C s6 H6 m6 ns6 IX c1 c2 c3 c4 c5 c6 q=>⟨m6,ns6,fun h' sb=>⟨.ref D,H6,IX.turned (t':=s6.toks) (it:=C) (fun b o hb q=>sb.extBut b o hb q) c1 c2 c4 c5 c6,rfl,q⟩⟩
end
end L2
namespace L2
open PySem PySem.Spec PyProof.Rows
inductive Sl where
 | non
 | val (d:PyData)
 | own (ds:List PyData)
 | pen (ds:List PyData)
 | new (d:PyData)
 | exc (C:Addr)
  | obj (a C:Addr) (nm:List Str) (fs:List (Str×PyData))
abbrev Sto:=List Sl
def gS:Sto→Nat→Sl
 | [],_ => .non
 | s::_,0=>s
 | _::r,i+1=>gS r i
def Sl.mut:Sl→Bool
 | .own _=>true
 | .pen _=>true
 | _=>false
def vS (σ:St) (i:Nat):Option V:=(σ[i]?).join
theorem gS_set : ∀ (e:Sto) (i j:Nat) (s:Sl),gS (e.set i s) j=if i=j∧i<e.length then s else gS e j
 | [],i,j,s=>by simp [gS]
 | x::e,0,0,s=>by simp [gS]
 | x::e,0,j+1,s=>by simp [gS]
 | x::e,i+1,0,s=>by simp [gS]
 | x::e,i+1,j+1,s=>by
  simp only [List.set_cons_succ,gS,gS_set e i j s,List.length_cons,Nat.add_right_cancel_iff,Nat.add_lt_add_iff_right]
theorem gS_out : ∀ {e:Sto}{i:Nat},e.length≤i→gS e i = .non
 | [],_,_=>by simp [gS]
 | x::e,0,h=>by simp at h
 | x::e,i+1,h=>by simp only [gS];exact gS_out (by simpa using h)
theorem vS_set (σ:St) (i j:Nat) (v:Option V):vS (σ.set i v) j=if i=j∧i<σ.length then v else vS σ j:=by
 unfold vS
 rw [List.getElem?_set]
 by_cases h:i=j
 ·subst h
  by_cases h2:i<σ.length
  ·simp [h2]
  ·simp [h2]
 ·simp [h]
theorem vS_some {σ:St}{i:Nat}{v:V} (h:vS σ i=some v):σ[i]?=some (some v):=by
 unfold vS at h
 cases e:σ[i]? with
 | none=>rw [e] at h;cases h
 | some o=>rw [e] at h;cases o with
  | none=>cases h
  | some u=>simpa using h
structure Frm where
 B:Hp
 He:Hp
 F0:Hp
mutual
def IsN (K:PySem.W.Frag) (H:Hp):PyData→V→Prop
 | .none,v=>v = .non
 | .bool b,v=>v = .bl b
 | .int i,v=>v = .int i
 | .str x,v=>v = .str x
 | .list l,v => ∃ a xs,v = .ref a∧H a=some (.lst xs)∧IssN K H l xs
 | .tuple l,v => ∃ a xs,v = .ref a∧H a=some (.tup xs)∧IssN K H l xs
 | .dict _,_=>False
def IssN (K:PySem.W.Frag) (H:Hp):List PyData→List V→Prop
 | [],xs=>xs=[]
 | d::l,xs => ∃ x r,xs=x::r∧IsN K H d x∧IssN K H l r
end
mutual
theorem IsN.is {K:PySem.W.Frag}{H H':Hp} (s:Same H H') : ∀ {d:PyData}{v:V},IsN K H d v→Is K H' d v
 | .none,_,h=>by unfold IsN at h;unfold Is;exact h
 | .bool _,_,h=>by unfold IsN at h;unfold Is;exact h
 | .int _,_,h=>by unfold IsN at h;unfold Is;exact h
 | .str _,_,h=>by unfold IsN at h;unfold Is;exact h
 | .list l,_,h=>by
  unfold IsN at h;unfold Is
  obtain ⟨a,xs,e,q,r⟩:=h
  exact ⟨a,xs,e,SqL.of (s _ _ q),IssN.is s r⟩
 | .tuple l,_,h=>by
  unfold IsN at h;unfold Is
  obtain ⟨a,xs,e,q,r⟩:=h
  exact ⟨a,xs,e,SqT.of (s _ _ q),IssN.is s r⟩
 | .dict _,_,h=>by unfold IsN at h;exact h.elim
theorem IssN.is {K:PySem.W.Frag}{H H':Hp} (s:Same H H') : ∀ {l:List PyData}{xs:List V},IssN K H l xs→Iss K H' l xs
 | [],_,h=>by unfold IssN at h;unfold Iss;exact h
 | d::l,_,h=>by
  unfold IssN at h;unfold Iss
  obtain ⟨x,r,e,p,q⟩:=h
  exact ⟨x,r,e,IsN.is s p,IssN.is s q⟩
end
mutual
theorem IsN.mono {K:PySem.W.Frag}{H H':Hp} (s:Same H H') : ∀ {d:PyData}{v:V},IsN K H d v→IsN K H' d v
 | .none,_,h=>by unfold IsN at h ⊢;exact h
 | .bool _,_,h=>by unfold IsN at h ⊢;exact h
 | .int _,_,h=>by unfold IsN at h ⊢;exact h
 | .str _,_,h=>by unfold IsN at h ⊢;exact h
 | .list l,_,h=>by
  unfold IsN at h ⊢
  obtain ⟨a,xs,e,q,r⟩:=h
  exact ⟨a,xs,e,s _ _ q,IssN.mono s r⟩
 | .tuple l,_,h=>by
  unfold IsN at h ⊢
  obtain ⟨a,xs,e,q,r⟩:=h
  exact ⟨a,xs,e,s _ _ q,IssN.mono s r⟩
 | .dict _,_,h=>by unfold IsN at h;exact h.elim
theorem IssN.mono {K:PySem.W.Frag}{H H':Hp} (s:Same H H') : ∀ {l:List PyData}{xs:List V},IssN K H l xs→IssN K H' l xs
 | [],_,h=>by unfold IssN at h ⊢;exact h
 | d::l,_,h=>by
  unfold IssN at h ⊢
  obtain ⟨x,r,e,p,q⟩:=h
  exact ⟨x,r,e,IsN.mono s p,IssN.mono s q⟩
end
def newF (M:Frm) (F:Hp):Hp:=fun b=>if (M.He b).isNone=true∧(M.B b).isNone=true then F b else none
theorem newF_le {M:Frm}{F:Hp}:Same (newF M F) F:=fun b o e=>by
 unfold newF at e;split at e
 ·exact .of e
 ·cases e
theorem newF_mono {M:Frm}{F F':Hp} (s:Same F F'):Same (newF M F) (newF M F'):=fun b o e=>by
 unfold newF at e ⊢;split at e
 ·rename_i h;rw [if_pos h];exact s b o e
 ·cases e
def excO (C ea:Addr):HO :=.ext fun h => ∃ o,h.get? ea=some o∧o.cls = .ref C
section
variable (K:PySem.W.Frag) (M:Frm) (F H:Hp)
def SlotOk:Sl→Option V→Prop
 | .non,_=>True
 | .val d,x => ∃ v,x=some v∧Is K F d v
 | .own ds,x => ∃ a vs,x=some (.ref a)∧H a=some (.lst vs)∧F a=none∧M.B a=none∧M.He a=none∧Iss K F ds vs
 | .pen ds,x => ∃ a vs,x=some (.ref a)∧H a=some (.lst vs)∧F a=none∧M.B a=none∧(∃ o,M.He a=some o)∧Iss K F ds vs
 | .new d,x => ∃ v,x=some v∧IsN K (newF M F) d v
 | .exc C,x => ∃ ea,x=some (.ref ea)∧F ea=some (excO C ea)
 | .obj a C nm fs,x => ∃ dx vs,x=some (.ref a)∧M.B a=some (.ins C dx vs)∧vs.map (·.1)=nm ∧ ∀ f d,(f,d) ∈ fs → ∃ v,vs.lookup f=some v∧Is K F d v
structure EnvOk (env:Sto) (σ:St):Prop where
 len:env.length=σ.length
 slot : ∀ i,SlotOk K M F H (gS env i) (vS σ i)
 dis : ∀ i j a,i≠j→(gS env i).mut=true→(gS env j).mut=true→vS σ i=some (.ref a)→vS σ j=some (.ref a)→False
 f0:Same M.F0 F
 fe:Same M.F0 M.He
 fh:Same F H
 bh:Same M.B H
 new : ∀ b o,F b=some o→M.F0 b=some o∨M.He b=none
 dom : ∀ b o,M.He b=some o → ∃ o',H b=some o'
end
structure Go (F H F' H':Hp):Prop where
 f:Same F F'
 h:Same H H'
 fh:Same F' H'
 new : ∀ b o,F' b=some o→F b=some o∨H b=none
theorem same_none {H H':Hp} (s:Same H H') {b:Addr} (h:H' b=none):H b=none:=s.free h
theorem Go.refl {F H:Hp} (s:Same F H):Go F H F H:=⟨.refl _,.refl _,s,fun _ _ h => .inl h⟩
theorem Go.trans {F H F1 H1 F2 H2:Hp} (a:Go F H F1 H1) (b:Go F1 H1 F2 H2):Go F H F2 H2 :=
 ⟨a.f.trans b.f,a.h.trans b.h,b.fh,fun c o h=>(b.new c o h).elim (fun q=>a.new c o q) fun q => .inr (same_none a.h q)⟩
theorem Go.put {F H:Hp}{p:Addr}{o:HO} (s:Same F H) (h:H p=none):Go F H (upd F p o) (upd H p o):=by
 refine ⟨same_new (same_none s h),same_new h,fun b u e=>?_,fun b u e=>?_⟩
 ·unfold upd at e ⊢
  split at e
  ·rename_i z;rw [if_pos z];exact .of e
  ·rename_i z;rw [if_neg z];exact s b u e
 ·unfold upd at e
  split at e
  ·rename_i z;subst z;exact .inr h
  ·exact .inl e
theorem Go.side {F H:Hp}{p:Addr}{o:HO} (s:Same F H) (h:H p=none):Go F H F (upd H p o) :=
 ⟨.refl _,same_new h,s.trans (same_new h),fun _ _ e => .inl e⟩
section
variable {K:PySem.W.Frag}{M:Frm}{F H F' H':Hp}{env:Sto}{σ:St}
theorem SlotOk.go {s:Sl}{x:Option V} (h:SlotOk K M F H s x) (g:Go F H F' H'):SlotOk K M F' H' s x:=by
 have nf : ∀ {a:Addr}{o:HO},H a=some o→F a=none→F' a=none:=fun {a o} h1 h2=>by
  cases e:F' a with
  | none=>rfl
  | some u=>rcases g.new a u e with q|q
            ·rw [h2] at q;cases q
            ·rw [h1] at q;cases q
 cases s with
 | non=>trivial
 | val d=>obtain ⟨v,e,i⟩:=h;exact ⟨v,e,i.mono g.f⟩
 | own ds=>obtain ⟨a,vs,e,h1,h2,h3,h4,h5⟩:=h;exact ⟨a,vs,e,g.h _ _ h1,nf h1 h2,h3,h4,h5.mono g.f⟩
 | pen ds=>obtain ⟨a,vs,e,h1,h2,h3,hx,h5⟩:=h;exact ⟨a,vs,e,g.h _ _ h1,nf h1 h2,h3,hx,h5.mono g.f⟩
 | new d=>obtain ⟨v,e,i⟩:=h;exact ⟨v,e,i.mono (newF_mono g.f)⟩
 | exc C=>obtain ⟨ea,e,i⟩:=h;exact ⟨ea,e,g.f.at i⟩
 | obj a0 C nm fs=>obtain ⟨dx,vs,e,b,hn,i⟩:=h;exact ⟨dx,vs,e,b,hn,fun f d m=>let ⟨v,l,j⟩:=i f d m; ⟨v,l,j.mono g.f⟩⟩
theorem EnvOk.go (I:EnvOk K M F H env σ) (g:Go F H F' H'):EnvOk K M F' H' env σ where
 len:=I.len
 slot:=fun i=>(I.slot i).go g
 dis:=I.dis
 f0:=I.f0.trans g.f
 fe:=I.fe
 fh:=g.fh
 bh:=I.bh.trans g.h
 new:=fun b o e=>(g.new b o e).elim (fun q=>I.new b o q) fun q=>by
  refine .inr ?_
  cases z:M.He b with
  | none=>rfl
  | some u=>obtain ⟨o',q'⟩:=I.dom b u z;rw [q] at q';cases q'
 dom:=fun b o e=>let ⟨o',q⟩:=I.dom b o e;g.h.any q
theorem EnvOk.he (I:EnvOk K M F H env σ) {a:Addr} (h:H a=none):M.He a=none:=by
 cases z:M.He a with
 | none=>rfl
 | some u=>obtain ⟨o',q'⟩:=I.dom a u z;rw [h] at q';cases q'
theorem EnvOk.setv (I:EnvOk K M F H env σ) {i:Nat}{d:PyData}{v:V} (h:Is K F d v):EnvOk K M F H (env.set i (.val d)) (σ.set i (some v)) where
 len:=by rw [List.length_set,List.length_set];exact I.len
 slot:=fun j=>by
  rw [gS_set,vS_set,I.len]
  split
  ·exact ⟨v,rfl,h⟩
  ·exact I.slot j
 dis:=fun j k a hjk h1 h2 h3 h4=>by
  rw [gS_set] at h1 h2
  rw [vS_set] at h3 h4
  rw [I.len] at h1 h2
  split at h1
  ·cases h1
  ·rename_i z1
   split at h2
   ·cases h2
   ·rename_i z2
    rw [if_neg z1] at h3
    rw [if_neg z2] at h4
    exact I.dis j k a hjk h1 h2 h3 h4
 f0:=I.f0
 fe:=I.fe
 fh:=I.fh
 bh:=I.bh
 new:=I.new
 dom:=I.dom
theorem EnvOk.seto (I:EnvOk K M F H env σ) {i:Nat}{ds:List PyData}{a:Addr}{vs:List V} (h1:H a=some (.lst vs)) (h2:F a=none) (h3:M.B a=none) (h4:M.He a=none)
 (h5 : ∀ j,(gS env j).mut=true→vS σ j≠some (.ref a)) (h6:Iss K F ds vs):EnvOk K M F H (env.set i (.own ds)) (σ.set i (some (.ref a))) where
  len:=by rw [List.length_set,List.length_set];exact I.len
  slot:=fun j=>by
   rw [gS_set,vS_set,I.len]
   split
   ·exact ⟨a,vs,rfl,h1,h2,h3,h4,h6⟩
   ·exact I.slot j
  dis:=fun j k b hjk m1 m2 e1 e2=>by
   rw [gS_set] at m1 m2
   rw [vS_set] at e1 e2
   rw [I.len] at m1 m2
   by_cases z1:i=j∧i<σ.length
   ·rw [if_pos z1] at m1 e1
    have z2 : ¬ (i=k∧i<σ.length):=fun z=>hjk (z1.1.symm.trans z.1)
    rw [if_neg z2] at m2 e2
    injection e1 with e1;injection e1 with e1;subst e1
    exact h5 k m2 e2
   ·rw [if_neg z1] at m1 e1
    by_cases z2:i=k∧i<σ.length
    ·rw [if_pos z2] at m2 e2
     injection e2 with e2;injection e2 with e2;subst e2
     exact h5 j m1 e1
    ·rw [if_neg z2] at m2 e2
     exact I.dis j k b hjk m1 m2 e1 e2
  f0:=I.f0
  fe:=I.fe
  fh:=I.fh
  bh:=I.bh
  new:=I.new
  dom:=I.dom
def Sl.upd:Sl→List PyData→Sl
 | .own _,ds => .own ds
 | .pen _,ds => .pen ds
 | s,_=>s
def Sl.cnt:Sl→List PyData
 | .own ds=>ds
 | .pen ds=>ds
 | _=>[]
theorem SlotOk.addr {s:Sl}{x:Option V} (h:SlotOk K M F H s x) (m:s.mut=true) : ∃ a vs,x=some (.ref a)∧H a=some (.lst vs)∧F a=none∧M.B a=none∧Iss K F s.cnt vs:=by
 cases s with
 | non=>cases m
 | val d=>cases m
 | own ds=>obtain ⟨a,vs,e,h1,h2,h3,h4,h5⟩:=h;exact ⟨a,vs,e,h1,h2,h3,h5⟩
 | pen ds=>obtain ⟨a,vs,e,h1,h2,h3,hx,h5⟩:=h;exact ⟨a,vs,e,h1,h2,h3,h5⟩
 | new d=>cases m
 | exc C=>cases m
 | obj a0 C nm fs=>cases m
theorem gS_lt {e:Sto}{i:Nat} (h:(gS e i).mut=true):i<e.length:=by
 by_cases z:i<e.length
 ·exact z
 ·rw [gS_out (by omega)] at h;cases h
theorem EnvOk.chg (I:EnvOk K M F H env σ) {i:Nat}{a:Addr}{ds:List PyData}{vs:List V} (m:(gS env i).mut=true) (ea:vS σ i=some (.ref a)) (h:Iss K F ds vs):EnvOk K M F (upd H a (.lst vs)) (env.set i ((gS env i).upd ds)) σ:=by
 obtain ⟨a',vs0,e,h1,h2,h3,h5⟩:=(I.slot i).addr m
 rw [ea] at e;injection e with e;injection e with e;subst e
 have hi:=gS_lt m
 have mu:((gS env i).upd ds).mut=true:=by
  cases q:gS env i with
  | non=>rw [q] at m;cases m
  | val d=>rw [q] at m;cases m
  | own d=>rfl
  | pen d=>rfl
  | new d=>rw [q] at m;cases m
  | exc C=>rw [q] at m;cases m
  | obj a0 C nm fs=>rw [q] at m;cases m
 have muj : ∀ j,(gS (env.set i ((gS env i).upd ds)) j).mut=(gS env j).mut:=fun j=>by
  rw [gS_set]
  split
  ·rename_i z;rw [mu,← z.1,m]
  ·rfl
 refine ⟨by rw [List.length_set];exact I.len,fun j=>?_,fun j k b hjk m1 m2 e1 e2=>I.dis j k b hjk (muj j ▸ m1) (muj k ▸ m2) e1 e2,I.f0,I.fe,fun b o e=>?_,fun b o e=>?_,I.new,fun b o e=>?_⟩
 ·rw [gS_set]
  by_cases z:i=j
  ·subst z
   rw [if_pos ⟨rfl,hi⟩]
   have S:=I.slot i
   cases q:gS env i with
   | non=>rw [q] at m;cases m
   | val d=>rw [q] at m;cases m
   | own ds0 =>
    rw [q] at S
    obtain ⟨a',vs',e,g1,g2,g3,g4,g5⟩:=S
    rw [ea] at e;injection e with e;injection e with e;subst e
    exact ⟨a,vs,ea,upd_same,g2,g3,g4,h⟩
   | pen ds0 =>
    rw [q] at S
    obtain ⟨a',vs',e,g1,g2,g3,gx,g5⟩:=S
    rw [ea] at e;injection e with e;injection e with e;subst e
    exact ⟨a,vs,ea,upd_same,g2,g3,gx,h⟩
   | new d=>rw [q] at m;cases m
   | exc C=>rw [q] at m;cases m
   | obj a0 C nm fs=>rw [q] at m;cases m
  ·rw [if_neg (fun y=>z y.1)]
   have S:=I.slot j
   cases q:gS env j with
   | non=>trivial
   | val d=>rw [q] at S;exact S
   | own ds0 =>
    rw [q] at S
    obtain ⟨b,vs',e,g1,g2,g3,g4,g5⟩:=S
    have hb:b≠a:=fun y=>by subst y;exact I.dis i j b z m (by rw [q];rfl) ea e
    exact ⟨b,vs',e,by rw [upd_ne hb];exact g1,g2,g3,g4,g5⟩
   | pen ds0 =>
    rw [q] at S
    obtain ⟨b,vs',e,g1,g2,g3,gx,g5⟩:=S
    have hb:b≠a:=fun y=>by subst y;exact I.dis i j b z m (by rw [q];rfl) ea e
    exact ⟨b,vs',e,by rw [upd_ne hb];exact g1,g2,g3,gx,g5⟩
   | new d=>rw [q] at S;exact S
   | exc C=>rw [q] at S;exact S
   | obj a0 C nm fs=>rw [q] at S;exact S
 ·rw [upd_ne (ne_of_none e h2)];exact I.fh b o e
 ·rw [upd_ne (ne_of_none e h3)];exact I.bh b o e
 ·obtain ⟨o',q⟩:=I.dom b o e
  by_cases z:b=a
  ·subst z;exact ⟨_,upd_same⟩
  ·exact ⟨o',by rw [upd_ne z];exact q⟩
theorem EnvOk.frz (I:EnvOk K M F H env σ) {a:Addr}{vs:List V} (h1:H a=some (.lst vs)) (h2:F a=none) (h4:M.He a=none) (h5 : ∀ j,(gS env j).mut=true→vS σ j≠some (.ref a)) :
 EnvOk K M (upd F a (.lst vs)) H env σ∧Same F (upd F a (.lst vs)):=by
  have sF:Same F (upd F a (.lst vs)):=same_new h2
  refine ⟨⟨I.len,fun j=>?_,I.dis,I.f0.trans sF,I.fe,fun b o e=>?_,I.bh,fun b o e=>?_,I.dom⟩,sF⟩
  ·have S:=I.slot j
   have n5:=h5 j
   cases q:gS env j with
   | non=>trivial
   | val d=>rw [q] at S;obtain ⟨v,e,i⟩:=S;exact ⟨v,e,i.mono sF⟩
   | own ds0 =>
    rw [q] at S n5
    obtain ⟨b,vs',e,g1,g2,g3,g4,g5⟩:=S
    have hb:b≠a:=fun y=>by subst y;exact n5 rfl e
    exact ⟨b,vs',e,g1,by rw [upd_ne hb];exact g2,g3,g4,g5.mono sF⟩
   | pen ds0 =>
    rw [q] at S n5
    obtain ⟨b,vs',e,g1,g2,g3,gx,g5⟩:=S
    have hb:b≠a:=fun y=>by subst y;exact n5 rfl e
    exact ⟨b,vs',e,g1,by rw [upd_ne hb];exact g2,g3,gx,g5.mono sF⟩
   | new d=>rw [q] at S;obtain ⟨v,e,i⟩:=S;exact ⟨v,e,i.mono (newF_mono sF)⟩
   | exc C=>rw [q] at S;obtain ⟨ea,e,i⟩:=S;exact ⟨ea,e,sF.at i⟩
   | obj a0 C nm fs=>rw [q] at S;obtain ⟨dx,vs',e,b',hn,i⟩:=S;exact ⟨dx,vs',e,b',hn,fun f d m=>let ⟨v,l,j⟩:=i f d m; ⟨v,l,j.mono sF⟩⟩
  ·by_cases z:b=a
   ·subst z;rw [upd_same] at e;rw [h1];exact .of e
   ·rw [upd_ne z] at e;exact I.fh b o e
  ·by_cases z:b=a
   ·subst z;exact .inr h4
   ·rw [upd_ne z] at e;exact I.new b o e
theorem EnvOk.drop (I:EnvOk K M F H env σ) (i:Nat):EnvOk K M F H (env.set i .non) σ where
 len:=by rw [List.length_set];exact I.len
 slot:=fun j=>by
  rw [gS_set]
  split
  ·trivial
  ·exact I.slot j
 dis:=fun j k a hjk h1 h2 h3 h4=>by
  rw [gS_set] at h1 h2
  split at h1
  ·cases h1
  ·split at h2
   ·cases h2
   ·exact I.dis j k a hjk h1 h2 h3 h4
 f0:=I.f0
 fe:=I.fe
 fh:=I.fh
 bh:=I.bh
 new:=I.new
 dom:=I.dom
theorem EnvOk.tell (I:EnvOk K M F H env σ) {i:Nat}{d:PyData}{v:V} (e:vS σ i=some v) (h:Is K F d v):EnvOk K M F H (env.set i (.val d)) σ where
 len:=by rw [List.length_set];exact I.len
 slot:=fun j=>by
  rw [gS_set]
  split
  ·rename_i z;rw [← z.1];exact ⟨v,e,h⟩
  ·exact I.slot j
 dis:=fun j k a hjk h1 h2 h3 h4=>by
  rw [gS_set] at h1 h2
  split at h1
  ·cases h1
  ·split at h2
   ·cases h2
   ·exact I.dis j k a hjk h1 h2 h3 h4
 f0:=I.f0
 fe:=I.fe
 fh:=I.fh
 bh:=I.bh
 new:=I.new
 dom:=I.dom
def Sl.fz:Sl→Sl
 | .own ds => .val (.list ds)
 | s=>s
theorem EnvOk.freeze (I:EnvOk K M F H env σ) (i:Nat) : ∃ F',EnvOk K M F' H (env.set i (gS env i).fz) σ∧Same F F':=by
 have same : ∀ s,gS env i=s→env.set i s=env:=fun s h=>by
  subst h
  apply List.ext_getElem?
  intro j
  rw [List.getElem?_set]
  split
  ·rename_i z
   subst z
   split
   ·rename_i hi
    have : ∀ (e:Sto) (n:Nat) (h:n<e.length),some (gS e n)=e[n]?:=by
     intro e
     induction e with
     | nil=>intro n h;simp at h
     | cons x e ih=>intro n h;cases n with
      | zero=>rfl
      | succ n=>simp only [gS,List.getElem?_cons_succ];exact ih n (by simpa using h)
    exact this env i hi
   ·rename_i hi
    rw [List.getElem?_eq_none (by omega)]
  ·rfl
 cases q:gS env i with
 | non=>exact ⟨F,by rw [show Sl.fz .non = .non from rfl,same _ q];exact I,.refl _⟩
 | val d=>exact ⟨F,by rw [show Sl.fz (.val d) = .val d from rfl,same _ q];exact I,.refl _⟩
 | pen ds=>exact ⟨F,by rw [show Sl.fz (.pen ds) = .pen ds from rfl,same _ q];exact I,.refl _⟩
 | new d=>exact ⟨F,by rw [show Sl.fz (.new d) = .new d from rfl,same _ q];exact I,.refl _⟩
 | exc C=>exact ⟨F,by rw [show Sl.fz (.exc C) = .exc C from rfl,same _ q];exact I,.refl _⟩
 | obj a0 C nm fs=>exact ⟨F,by rw [show Sl.fz (.obj a0 C nm fs) = .obj a0 C nm fs from rfl,same _ q];exact I,.refl _⟩
 | own ds =>
  have S:=I.slot i
  rw [q] at S
  obtain ⟨a,vs,e,h1,h2,h3,h4,h5⟩:=S
  obtain ⟨J,s⟩:=(I.drop i).frz h1 h2 h4 (fun j m z=>by
   rw [gS_set] at m
   split at m
   ·cases m
   ·rename_i hn
    by_cases hij:i=j
    ·subst hij
     exact hn ⟨rfl,gS_lt (by rw [q];rfl)⟩
    ·exact I.dis i j a hij (by rw [q];rfl) m e z)
  have T:=J.tell (i:=i) (d :=.list ds) e (is_lst (SqL.of upd_same) (h5.mono s))
  rw [List.set_set] at T
  exact ⟨_,T,s⟩
end
end L2
namespace L2
open PySem PySem.Spec PyProof.Rows
abbrev WE:=Sto→(PyData→Sto→Prop)→Prop
abbrev WF:=Sto→(List PyData→Sto→Prop)→Prop
abbrev WT:=Sto→(Bool→Sto→Prop)→Prop
inductive Ret where
 | val (d:PyData)
 | own (ds:List PyData)
 | new (d:PyData)
def Ret.data:Ret→PyData
 | .val d=>d
 | .own ds => .list ds
 | .new d=>d
structure WEnds where
 nx:Sto→Prop
 rt:Ret→Sto→Prop
 bk:Sto→Prop:=fun _=>False
 ct:Sto→Prop:=fun _=>False
abbrev WS:=WEnds→Sto→Prop
abbrev WG:=PyData→Sto→(Sto→Prop)→Prop
abbrev WGs:=List PyData→Sto→(Sto→Prop)→Prop
abbrev D2:=PyData→PyData→(PyData→Prop)→Prop
abbrev DC:=List PyData→(PyData→Prop)→Prop
section
variable (K:PySem.W.Frag)
def liftE (W:WE):TE:=fun σ H R => ∃ M env F Q,EnvOk K M F H env σ∧W env Q ∧ ∀ d v F' H' env',EnvOk K M F' H' env' σ→Same F F'→Is K F' d v→Q d env'→R v H'
def liftF (W:WF):TE:=fun σ H R => ∃ M env F Q,EnvOk K M F H env σ∧W env Q ∧ ∀ a vs ds F' H' env',EnvOk K M F' H' env' σ→Same F F'→H' a=some (.lst vs)→F' a=none→M.B a=none→M.He a=none →
 (∀ i,(gS env' i).mut=true→vS σ i≠some (.ref a))→Iss K F' ds vs→Q ds env'→R (.ref a) H'
def liftA (W:WF):TA:=fun σ H R => ∃ M env F Q,EnvOk K M F H env σ∧W env Q ∧ ∀ ds vs F' H' env',EnvOk K M F' H' env' σ→Same F F'→Iss K F' ds vs→Q ds env'→R vs H'
def liftT (W:WT):TT:=fun σ H R => ∃ M env F Q,EnvOk K M F H env σ∧W env Q ∧ ∀ b F' H' env',EnvOk K M F' H' env' σ→Same F F'→Q b env'→R b H'
def RetOk (M:Frm) (F H:Hp):Ret→V→Prop
 | .val d,v=>Is K F d v
 | .own ds,v => ∃ a vs,v = .ref a∧H a=some (.lst vs)∧F a=none∧M.B a=none∧M.He a=none∧Iss K F ds vs
 | .new d,v=>IsN K (newF M F) d v
structure EndsOk (M:Frm) (F:Hp) (DD:WEnds) (D:Ends):Prop where
 nx : ∀ env' F' H' σ',EnvOk K M F' H' env' σ'→Same F F'→DD.nx env'→D.nx σ' H'
 rt : ∀ r v env' F' H' σ',EnvOk K M F' H' env' σ'→Same F F'→RetOk K M F' H' r v→DD.rt r env'→D.rt v H'
 bk : ∀ env' F' H' σ',EnvOk K M F' H' env' σ'→Same F F'→DD.bk env'→D.bk σ' H'
 ct : ∀ env' F' H' σ',EnvOk K M F' H' env' σ'→Same F F'→DD.ct env'→D.ct σ' H'
def liftS (W:WS):TS:=fun D σ H => ∃ M env F DD,EnvOk K M F H env σ∧W DD env∧EndsOk K M F DD D
def liftG (W:WG):TG:=fun v σ H R => ∃ M env F d Q,EnvOk K M F H env σ∧Is K F d v∧W d env Q ∧ ∀ F' H' env' σ',EnvOk K M F' H' env' σ'→Same F F'→Q env'→R σ' H'
def liftGs (W:WGs):TGs:=fun vs σ H R => ∃ M env F ds Q,EnvOk K M F H env σ∧Iss K F ds vs∧W ds env Q ∧ ∀ F' H' env' σ',EnvOk K M F' H' env' σ'→Same F F'→Q env'→R σ' H'
def lift2 (r:D2):R2:=fun x y H Q => ∃ F dx dy q,Same F H∧Is K F dx x∧Is K F dy y∧r dx dy q ∧ ∀ d v F' H',Go F H F' H'→Is K F' d v→q d→Q v H'
def liftC (r:DC):List V→Hp→VK→Prop:=fun vs H Q => ∃ F ds q,Same F H∧Iss K F ds vs∧r ds q ∧ ∀ d v F' H',Go F H F' H'→Is K F' d v→q d→Q v H'
def liftCF (r:List PyData→(List PyData→Prop)→Prop):List V→Hp→VK→Prop:=fun vs H Q => ∃ F ds q,Same F H∧Iss K F ds vs∧r ds q ∧ ∀ l a xs F' H',Go F H F' H'→H a=none→F' a=none→H' a=some (.lst xs)→Iss K F' l xs→q l→Q (.ref a) H'
structure ItD (J:It) (F:Hp) (ds:List PyData):Prop where
 go : ∀ i H,Same F H→i<ds.length→J.go i H
 stop : ∀ H,Same F H→J.stop ds.length H
 yld : ∀ i H x H' F1,Same F F1→Same F1 H→i<ds.length→J.yld i H x H' → ∃ d F2,ds[i]?=some d∧Go F1 H F2 H'∧Is K F2 d x
def liftI (W:WF):TI:=fun σ H R => ∃ M env F Q,EnvOk K M F H env σ∧W env Q ∧ ∀ ds J F' H' env',EnvOk K M F' H' env' σ→Same F F'→ItD K J F' ds→Q ds env'→R J H'
end
section
variable {K:PySem.W.Frag}{M:Frm}{F F':Hp}{DD:WEnds}{D:Ends}
theorem EndsOk.mono (h:EndsOk K M F DD D) (s:Same F F'):EndsOk K M F' DD D :=
 ⟨fun e f g i j k=>h.nx e f g i j (s.trans k),fun r v e f g i j k=>h.rt r v e f g i j (s.trans k),fun e f g i j k=>h.bk e f g i j (s.trans k),fun e f g i j k=>h.ct e f g i j (s.trans k)⟩
end
def VE (X:Cx) (e:Expr) (W:WE):Prop:=PE X e (liftE X.K W)
def VF (X:Cx) (e:Expr) (W:WF):Prop:=PE X e (liftF X.K W)
def VA (X:Cx) (e:List Expr) (W:WF):Prop:=PA X e (liftA X.K W)
def VT (X:Cx) (e:Expr) (W:WT):Prop:=PT X e (liftT X.K W)
def VW (X:Cx) (e:Expr) (W:WT):Prop:=PW X e (liftT X.K W)
theorem VW.pt {X:Cx}{e:Expr}{W:WT} (h:VW X e W):VT X e W:=PW.pt h
def VS (X:Cx) (st:Stmt) (W:WS):Prop:=PS X st (liftS X.K W)
def VSs (X:Cx) (st:List Stmt) (W:WS):Prop:=PSs X st (liftS X.K W)
def VG (X:Cx) (e:Expr) (W:WG):Prop:=PG X e (liftG X.K W)
def VGs (X:Cx) (e:List Expr) (W:WGs):Prop:=PGs X e (liftGs X.K W)
def VI (X:Cx) (tg e:Expr) (W:WF):Prop:=PI X tg e (liftI X.K W)
def OpV (X:Cx) (f:Value→Value→Sem Value) (r:D2):Prop:=OpR X f (lift2 X.K r)
def CallV (X:Cx) (f:Value) (r:DC):Prop:=CallR X f (liftC X.K r)
def CallVF (X:Cx) (f:Value) (r:List PyData→(List PyData→Prop)→Prop):Prop:=CallR X f (liftCF X.K r)
section
variable {X:Cx}
theorem PE.imp {e:Expr}{t t':TE} (h:PE X e t) (i : ∀ σ H Q,t' σ H Q→t σ H Q):PE X e t':=fun pins s σ H Q I q=>h pins s σ H Q I (i σ H Q q)
theorem PA.imp {e:List Expr}{t t':TA} (h:PA X e t) (i : ∀ σ H Q,t' σ H Q→t σ H Q):PA X e t':=fun pos pins s σ H Q I q=>h pos pins s σ H Q I (i σ H Q q)
theorem PT.imp {e:Expr}{t t':TT} (h:PT X e t) (i : ∀ σ H Q,t' σ H Q→t σ H Q):PT X e t':=fun pins s σ H Q I q=>h pins s σ H Q I (i σ H Q q)
theorem PW.imp {e:Expr}{t t':TT} (h:PW X e t) (i : ∀ σ H Q,t' σ H Q→t σ H Q):PW X e t':=fun wh pins s σ H Q I q=>h wh pins s σ H Q I (i σ H Q q)
theorem PS.imp {e:Stmt}{t t':TS} (h:PS X e t) (i : ∀ D σ H,t' D σ H→t D σ H):PS X e t':=fun pins s σ H D I q=>h pins s σ H D I (i D σ H q)
theorem PSs.imp {e:List Stmt}{t t':TS} (h:PSs X e t) (i : ∀ D σ H,t' D σ H→t D σ H):PSs X e t':=fun pins s σ H D I q=>h pins s σ H D I (i D σ H q)
theorem PG.imp {e:Expr}{t t':TG} (h:PG X e t) (i : ∀ v σ H Q,t' v σ H Q→t v σ H Q):PG X e t':=fun pins s σ H v u Q I r q=>h pins s σ H v u Q I r (i v σ H Q q)
theorem PGs.imp {e:List Expr}{t t':TGs} (h:PGs X e t) (i : ∀ v σ H Q,t' v σ H Q→t v σ H Q):PGs X e t':=fun pins s σ H v u Q I r q=>h pins s σ H v u Q I r (i v σ H Q q)
theorem PI.imp {tg e:Expr}{t t':TI} (h:PI X tg e t) (i : ∀ σ H Q,t' σ H Q→t σ H Q):PI X tg e t':=fun pins s σ H Q I q=>h pins s σ H Q I (i σ H Q q)
theorem OpR.imp {f:Value→Value→Sem Value}{r r':R2} (h:OpR X f r) (i : ∀ x y H Q,r' x y H Q→r x y H Q):OpR X f r':=fun pins s σ H x y v u Q I a b q=>h pins s σ H x y v u Q I a b (i x y H Q q)
theorem CallR.imp {f:Value}{r r':List V→Hp→VK→Prop} (h:CallR X f r) (i : ∀ x H Q,r' x H Q→r x H Q):CallR X f r':=fun pins s σ H x u Q I a q=>h pins s σ H x u Q I a (i x H Q q)
theorem IxR.imp {r r':R2} (h:IxR X r) (i : ∀ x y H Q,r' x y H Q→r x y H Q):IxR X r':=fun value slice pins s σ H x y v u Q I a b q=>h value slice pins s σ H x y v u Q I a b (i x y H Q q)
def wVar (i:Nat):WE:=fun env Q=>match gS env i with | .val d=>Q d env | .new d=>Q d env|_=>False
theorem ve_var (i:Nat) {x:Str}{pos:Pos} (hN:X.N[i]?=some x:=by rfl) (hv:Vis X.env.scope x:=by first|exact Or.inl rfl|exact Or.inr (Or.inl rfl)|exact Or.inr (Or.inr rfl)) (hd:(x==("__debug__" : Str))=false:=by decide)
 (hcd:(x==("__classdict__" : Str))=false:=by decide):VE X (.Name x pos) (wVar i):=(pe_var hN hv hd hcd).imp fun σ H R xx63=>by
 obtain ⟨M,env,F,Q,I,h,k⟩:=xx63
 have S:=I.slot i
 unfold wVar at h
 cases q:gS env i with
 | val d =>
  rw [q] at S h
  obtain ⟨v,e,j⟩:=S
  exact ⟨v,vS_some e,k d v F H env I (.refl _) j h⟩
 | new d =>
  rw [q] at S h
  obtain ⟨v,e,j⟩:=S
  exact ⟨v,vS_some e,k d v F H env I (.refl _) (j.is newF_le) h⟩
 | non=>rw [q] at h;exact h.elim
 | own ds=>rw [q] at h;exact h.elim
 | pen ds=>rw [q] at h;exact h.elim
 | exc C=>rw [q] at h;exact h.elim
 | obj a0 C nm fs=>rw [q] at h;exact h.elim
def wC (d:PyData):WE:=fun env Q=>Q d env
theorem ve_c {e:Expr}{v:V}{d:PyData} (h:PE X e (tC v)) (i : ∀ F,Is X.K F d v):VE X e (wC d):=h.imp fun σ H R xx64=>by obtain ⟨M,env,F,Q,I,h,k⟩:=xx64;exact k d v F H env I (.refl _) (i F) h
theorem ve_int {i j pos}:VE X (.Constant (.int i) j pos) (wC (.int i)):=ve_c pe_int fun _=>is_int i
theorem ve_bl {b j pos}:VE X (.Constant (.bool b) j pos) (wC (.bool b)):=ve_c pe_bl fun _=>is_bl b
theorem ve_non {j pos}:VE X (.Constant .none j pos) (wC .none):=ve_c pe_non fun _=>is_non
theorem ve_str {x j pos}:VE X (.Constant (.str x) j pos) (wC (.str x)):=ve_c pe_str fun _=>is_str x
theorem ve_globI {x:Str}{i:Int}{pos:Pos} (h : ∃ t,X.mg x=some (.int i t)) (hg:Gl X x:=by rfl) (hd:(x==("__debug__" : Str))=false:=by decide):VE X (.Name x pos) (wC (.int i)):=by
 obtain ⟨t,hm⟩:=h
 exact ve_c (pe_glob (v :=.int i) hg hm ⟨t,rfl⟩ hd) fun _=>is_int i
def wOp (r:D2) (Wa Wb:WE):WE:=fun env Q=>Wa env fun x e1=>Wb e1 fun y e2=>r x y fun d=>Q d e2
theorem op_lift {r:D2}{Wa Wb:WE}{σ:St}{H:Hp}{R:VK} (h:liftE X.K (wOp r Wa Wb) σ H R):tOp (lift2 X.K r) (liftE X.K Wa) (liftE X.K Wb) σ H R:=by
 obtain ⟨M,env,F,Q,I,h,k⟩:=h
 exact ⟨M,env,F,_,I,h,fun d v F1 H1 e1 I1 s1 i1 h1=>⟨M,e1,F1,_,I1,h1,fun d2 v2 F2 H2 e2 I2 s2 i2 h2 =>
  ⟨F2,d,d2,_,I2.fh,i1.mono s2,i2,h2,fun d3 v3 F3 H3 g i3 q=>k d3 v3 F3 H3 e2 (I2.go g) (s1.trans (s2.trans g.f)) i3 q⟩⟩⟩
section
variable {a b c:Expr}{Wa Wb Wc:WE}{pos:Pos}
theorem ve_op {op:Operator}{r:D2} (ho:OpV X (binaryOp op) r) (ha:VE X a Wa) (hb:VE X b Wb):VE X (.BinOp a op b pos) (wOp r Wa Wb) :=
 (pe_op ho ha hb).imp fun _ _ _ h=>op_lift h
theorem ve_cmp {op:CmpOp}{r:D2} (ho:OpV X (compareOp op) r) (ha:VE X a Wa) (hb:VE X b Wb) (hm:behindInMarks op b=false:=by first|exact nomark _|with_unfolding_all rfl):VE X (.Compare a [op] [b] pos) (wOp r Wa Wb) :=
 (pe_cmpR ho ha hb hm).imp fun _ _ _ h=>op_lift h
def wTest (W:WE):WT:=fun env Q=>W env fun d e=>match d with | .bool b=>Q b e|_=>False
theorem test_lift {W:WE}{σ:St}{H:Hp}{R:Bool→Hp→Prop} (h:liftT X.K (wTest W) σ H R):liftE X.K W σ H fun x H' => ∃ k,x = .bl k∧R k H':=by
 obtain ⟨M,env,F,Q,I,h,k⟩:=h
 refine ⟨M,env,F,_,I,h,fun d v F1 H1 e1 I1 s1 i1 h1=>?_⟩
 cases d with
 | bool b=>exact ⟨b,i1.bl_inv,k b F1 H1 e1 I1 s1 h1⟩
 | _=>exact False.elim h1
theorem vt_cmp {op:CmpOp}{r:D2} (ho:OpV X (compareOp op) r) (ha:VE X a Wa) (hb:VE X b Wb) (hm:behindInMarks op b=false:=by first|exact nomark _|with_unfolding_all rfl):VT X (.Compare a [op] [b] pos) (wTest (wOp r Wa Wb)) :=
 (pt_cmpR ho ha hb hm).imp fun σ H R h=>op_lift (test_lift h)
theorem vt_val {e:Expr}{W:WE} (h:VE X e W) (he : ∀ whole,isTrue e X.env whole=(do let v ← whole;standAt e.pos;holding [v] (truthy v)):=by intro _;rfl):VT X e (wTest W) :=
 (pt_val h he).imp fun σ H R h=>test_lift h
def truD:PyData→Bool
 | .none=>false
 | .bool b=>b
 | .int i=>i != 0
 | .str x=>(x.length:Int) != 0
 | .list l => !l.isEmpty
 | .tuple l => !l.isEmpty
 | .dict l => !l.isEmpty
def wTru (W:WE):WT:=fun env Q=>W env fun d e=>(∀ x,d = .str x→x.length≤sizeLine)∧Q (truD d) e
theorem Iss.emp {K:PySem.W.Frag}{H:Hp}{l:List PyData}{xs:List V} (h:Iss K H l xs):(!l.isEmpty) = !xs.isEmpty:=by
 cases l with
 | nil=>rw [h.nil_inv];rfl
 | cons d l=>obtain ⟨x,r,rfl,_⟩:=h.cons_inv;rfl
theorem vt_tru {e:Expr}{W:WE} (h:VE X e W) (he : ∀ whole,isTrue e X.env whole=(do let v ← whole;standAt e.pos;holding [v] (truthy v)):=by intro _;rfl):VT X e (wTru W) :=
 (pt_truth h he).imp fun σ H R xx65=>by
  obtain ⟨M,env,F,Q,I,h,k⟩:=xx65
  refine ⟨M,env,F,_,I,h,fun d v F1 H1 e1 I1 s1 i1 h1=>⟨truD d,?_,k _ F1 H1 e1 I1 s1 h1.2⟩⟩
  replace i1:=i1.mono I1.fh
  cases d with
  | none=>rw [i1.non_inv];rfl
  | bool b=>rw [i1.bl_inv];rfl
  | int i=>rw [i1.int_inv];rfl
  | str x=>unfold Is at i1;subst i1;exact ⟨h1.1 x rfl,rfl⟩
  | list l=>obtain ⟨a,xs,rfl,q,r⟩:=i1.lst_inv;exact .inl ⟨xs,q,r.emp⟩
  | tuple l=>obtain ⟨a,xs,rfl,q,r⟩:=i1.tup_inv;exact .inr (.inl ⟨xs,q,r.emp⟩)
  | dict l=>obtain ⟨a,kvs,rfl,q,m⟩:=i1.dct_inv;exact .inr (.inr ⟨kvs,q,m⟩)
end
section
variable {a b c:Expr}{Wa Wb Wc:WE}{Ta Tb Tc:WT}{pos:Pos}{rest:List Expr}
def wAnd (t u:WT):WT:=fun env Q=>t env fun k e=>if k=true then u e Q else Q false e
def wOr (t u:WT):WT:=fun env Q=>t env fun k e=>if k=true then Q true e else u e Q
def wNot (t:WT):WT:=fun env Q=>t env fun k e=>Q (!k) e
theorem vw_and1 (ha:VT X a Ta):VW X (.BoolOp .And [a] pos) Ta:=pw_and1 ha
theorem vw_or1 (ha:VT X a Ta):VW X (.BoolOp .Or [a] pos) Ta:=pw_or1 ha
theorem vw_and (ha:VT X a Ta) (hb:VW X (.BoolOp .And (b::rest) pos) Tb):VW X (.BoolOp .And (a::b::rest) pos) (wAnd Ta Tb):=(pw_and ha hb).imp fun σ H R xx66=>by
 obtain ⟨M,env,F,Q,I,h,k⟩:=xx66
 refine ⟨M,env,F,_,I,h,fun x F1 H1 e1 I1 s1 h1=>?_⟩
 cases x with
 | true=>exact iteT ⟨M,e1,F1,Q,I1,h1,fun y F2 H2 e2 I2 s2 h2=>k y F2 H2 e2 I2 (s1.trans s2) h2⟩
 | false=>exact iteF (k false F1 H1 e1 I1 s1 h1)
theorem vw_or (ha:VT X a Ta) (hb:VW X (.BoolOp .Or (b::rest) pos) Tb):VW X (.BoolOp .Or (a::b::rest) pos) (wOr Ta Tb):=(pw_or ha hb).imp fun σ H R xx67=>by
 obtain ⟨M,env,F,Q,I,h,k⟩:=xx67
 refine ⟨M,env,F,_,I,h,fun x F1 H1 e1 I1 s1 h1=>?_⟩
 cases x with
 | true=>exact iteT (k true F1 H1 e1 I1 s1 h1)
 | false=>exact iteF ⟨M,e1,F1,Q,I1,h1,fun y F2 H2 e2 I2 s2 h2=>k y F2 H2 e2 I2 (s1.trans s2) h2⟩
theorem vt_not (ha:VT X a Ta):VT X (.UnaryOp .Not a pos) (wNot Ta):=(pt_not ha).imp fun σ H R xx68=>by
 obtain ⟨M,env,F,Q,I,h,k⟩:=xx68
 exact ⟨M,env,F,_,I,h,fun x F1 H1 e1 I1 s1 h1=>k (!x) F1 H1 e1 I1 s1 h1⟩
def wAndV (Wa Wb:WE):WE:=fun env Q=>Wa env fun d e=>match d with | .bool k=>if k=true then Wb e Q else Q (.bool false) e|_=>False
def wOrV (Wa Wb:WE):WE:=fun env Q=>Wa env fun d e=>match d with | .bool k=>if k=true then Q (.bool true) e else Wb e Q|_=>False
def wNotV (Wa:WE):WE:=fun env Q=>Wa env fun d e=>match d with | .bool k=>Q (.bool (!k)) e|_=>False
theorem ve_one {op} (h:VE X a Wa):VE X (.BoolOp op [a] pos) Wa:=pe_one h
theorem ve_and (ha:VE X a Wa) (hb:VE X (.BoolOp .And (b::rest) pos) Wb):VE X (.BoolOp .And (a::b::rest) pos) (wAndV Wa Wb):=(pe_and ha hb).imp fun σ H R xx69=>by
 obtain ⟨M,env,F,Q,I,h,k⟩:=xx69
 refine ⟨M,env,F,_,I,h,fun d v F1 H1 e1 I1 s1 i1 h1=>?_⟩
 cases d with
 | bool x =>
  refine ⟨x,i1.bl_inv,?_⟩
  cases x with
  | true=>exact iteT ⟨M,e1,F1,Q,I1,h1,fun d2 v2 F2 H2 e2 I2 s2 i2 h2=>k d2 v2 F2 H2 e2 I2 (s1.trans s2) i2 h2⟩
  | false=>exact iteF (k _ _ F1 H1 e1 I1 s1 (is_bl false) h1)
 | _=>exact False.elim h1
theorem ve_or (ha:VE X a Wa) (hb:VE X (.BoolOp .Or (b::rest) pos) Wb):VE X (.BoolOp .Or (a::b::rest) pos) (wOrV Wa Wb):=(pe_or ha hb).imp fun σ H R xx70=>by
 obtain ⟨M,env,F,Q,I,h,k⟩:=xx70
 refine ⟨M,env,F,_,I,h,fun d v F1 H1 e1 I1 s1 i1 h1=>?_⟩
 cases d with
 | bool x =>
  refine ⟨x,i1.bl_inv,?_⟩
  cases x with
  | false=>exact iteF ⟨M,e1,F1,Q,I1,h1,fun d2 v2 F2 H2 e2 I2 s2 i2 h2=>k d2 v2 F2 H2 e2 I2 (s1.trans s2) i2 h2⟩
  | true=>exact iteT (k _ _ F1 H1 e1 I1 s1 (is_bl true) h1)
 | _=>exact False.elim h1
theorem ve_not (ha:VE X a Wa):VE X (.UnaryOp .Not a pos) (wNotV Wa):=(pe_not ha).imp fun σ H R xx71=>by
 obtain ⟨M,env,F,Q,I,h,k⟩:=xx71
 refine ⟨M,env,F,_,I,h,fun d v F1 H1 e1 I1 s1 i1 h1=>?_⟩
 cases d with
 | bool x=>exact ⟨x,i1.bl_inv,k _ _ F1 H1 e1 I1 s1 (is_bl _) h1⟩
 | _=>exact False.elim h1
def wIfE (t:WT) (Wa Wb:WE):WE:=fun env Q=>t env fun k e=>if k=true then Wa e Q else Wb e Q
theorem ve_ifExp (hc:VT X c Tc) (ha:VE X a Wa) (hb:VE X b Wb):VE X (.IfExp c a b pos) (wIfE Tc Wa Wb):=(pe_ifExp hc ha hb).imp fun σ H R xx72=>by
 obtain ⟨M,env,F,Q,I,h,k⟩:=xx72
 refine ⟨M,env,F,_,I,h,fun x F1 H1 e1 I1 s1 h1=>?_⟩
 cases x with
 | true=>exact iteT ⟨M,e1,F1,Q,I1,h1,fun d2 v2 F2 H2 e2 I2 s2 i2 h2=>k d2 v2 F2 H2 e2 I2 (s1.trans s2) i2 h2⟩
 | false=>exact iteF ⟨M,e1,F1,Q,I1,h1,fun d2 v2 F2 H2 e2 I2 s2 i2 h2=>k d2 v2 F2 H2 e2 I2 (s1.trans s2) i2 h2⟩
end
section
variable {a b:Expr}{Wa Wb:WE}{pos p2:Pos}
def wUn (r:PyData→(PyData→Prop)→Prop) (W:WE):WE:=fun env Q=>W env fun d e=>r d fun y=>Q y e
def dNeg:PyData→(PyData→Prop)→Prop
 | .int i,q=>q (.int (-i))
 | _,_=>False
theorem ve_neg (ha:VE X a Wa):VE X (.UnaryOp .USub a pos) (wUn dNeg Wa):=(pe_un un_neg ha).imp fun σ H R xx73=>by
 obtain ⟨M,env,F,Q,I,h,k⟩:=xx73
 refine ⟨M,env,F,_,I,h,fun d v F1 H1 e1 I1 s1 i1 h1=>?_⟩
 cases d with
 | int i=>exact ⟨i,i1.int_inv,k _ _ F1 H1 e1 I1 s1 (is_int _) h1⟩
 | _=>exact False.elim h1
def dIx:D2
 | .list l,.int i,q => ∃ d,atI l i=some d∧q d
 | .tuple l,.int i,q => ∃ d,atI l i=some d∧q d
 | _,_,_=>False
theorem ix_V:IxR X (lift2 X.K dIx):=ix_seq.imp fun x y H Q xx74=>by
 obtain ⟨F,dx,dy,q,s,i1,i2,h,k⟩:=xx74
 cases dx with
 | list l=>cases dy with
  | int i =>
   obtain ⟨d,e,hq⟩:=h
   obtain ⟨a,xs,rfl,hs,hr⟩:=i1.lst_inv
   obtain ⟨z,ez,hz⟩:=hr.atI e
   exact .inl ⟨a,xs,i,z,rfl,i2.int_inv,s.seq hs,ez,k d z F H (.refl s) hz hq⟩
  | _=>exact False.elim h
 | tuple l=>cases dy with
  | int i =>
   obtain ⟨d,e,hq⟩:=h
   obtain ⟨a,xs,rfl,hs,hr⟩:=i1.tup_inv
   obtain ⟨z,ez,hz⟩:=hr.atI e
   exact .inr (.inl ⟨a,xs,i,z,rfl,i2.int_inv,same_seqT s hs,ez,k d z F H (.refl s) hz hq⟩)
  | _=>exact False.elim h
 | _=>exact False.elim h
theorem ve_ix (ha:VE X a Wa) (hb:VE X b Wb) (hs:PlainIx b:=by exact (fun _ _=>rfl)):VE X (.Subscript a b pos) (wOp dIx Wa Wb):=(pe_ix ix_V ha hb hs).imp fun _ _ _ h=>op_lift h
abbrev WO:=Sto→(Option Int→Sto→Prop)→Prop
def liftO (K:PySem.W.Frag) (W:WO):TO:=fun σ H R => ∃ M env F Q,EnvOk K M F H env σ∧W env Q ∧ ∀ o F' H' env',EnvOk K M F' H' env' σ→Same F F'→Q o env'→R o H'
def wNoPart:WO:=fun env Q=>Q none env
def wPart (W:WE):WO:=fun env Q=>W env fun d e=>match d with | .int i=>Q (some i) e|_=>False
def VO (X:Cx) (e:Option Expr) (W:WO):Prop:=PO X e (liftO X.K W)
theorem PO.imp {e:Option Expr}{t t':TO} (h:PO X e t) (i : ∀ σ H Q,t' σ H Q→t σ H Q):PO X e t':=fun pins s σ H Q I q=>h pins s σ H Q I (i σ H Q q)
theorem vo_none:VO X none wNoPart:=po_none.imp fun σ H R xx75=>by obtain ⟨M,env,F,Q,I,h,k⟩:=xx75;exact k none F H env I (.refl _) h
theorem vo_some (ha:VE X a Wa):VO X (some a) (wPart Wa):=(po_some ha).imp fun σ H R xx76=>by
 obtain ⟨M,env,F,Q,I,h,k⟩:=xx76
 refine ⟨M,env,F,_,I,h,fun d v F1 H1 e1 I1 s1 i1 h1=>?_⟩
 cases d with
 | int i=>exact ⟨i,i1.int_inv,k (some i) F1 H1 e1 I1 s1 h1⟩
 | _=>exact False.elim h1
def cutL {α:Type} (ds:List α) (lo hi:Option Int):List α:=(ds.drop (HT.sIx ds.length 0 lo)).take (HT.sIx ds.length ds.length hi-HT.sIx ds.length 0 lo)
theorem iss_cut {K:PySem.W.Frag}{H:Hp}{l:List PyData}{xs:List V} (h:Iss K H l xs) (lo hi:Option Int):Iss K H (cutL l lo hi) (cutV xs lo hi):=by
 have e:cutV xs lo hi=(xs.drop (HT.sIx l.length 0 lo)).take (HT.sIx l.length l.length hi-HT.sIx l.length 0 lo):=by unfold cutV;rw [h.len]
 rw [e]
 exact iss_take _ (iss_drop _ h)
def wSlL (Wa:WE) (Wl Wh:WO):WF:=fun env Q=>Wa env fun d e1=>Wl e1 fun lo e2=>Wh e2 fun hi e3=>match d with | .list l => ∀ r,r=cutL l lo hi→Q r e3|_=>False
theorem vf_slice {lo hi:Option Expr}{Wl Wh:WO} (he:VE X a Wa) (hl:VO X lo Wl) (hu:VO X hi Wh):VF X (.Subscript a (.Slice lo hi none p2) pos) (wSlL Wa Wl Wh) :=
 (pe_slice sl_list he hl hu).imp fun σ H R xx77=>by
  obtain ⟨M,env,F,Q,I,h,k⟩:=xx77
  refine ⟨M,env,F,_,I,h,fun d v F1 H1 e1 I1 s1 i1 h1=>⟨M,e1,F1,_,I1,h1,fun lo F2 H2 e2 I2 s2 h2=>⟨M,e2,F2,_,I2,h2,fun hi F3 H3 e3 I3 s3 h3=>?_⟩⟩⟩
  cases d with
  | list l =>
   obtain ⟨a,xs,rfl,hs,hr⟩:=(i1.mono (s2.trans s3)).lst_inv
   refine ⟨a,xs,rfl,I3.fh.seq hs,fun p hp=>?_⟩
   have g:=Go.side (o:=HO.lst (cutV xs lo hi)) I3.fh hp
   refine k p _ _ F3 _ e3 (I3.go g) (s1.trans (s2.trans s3)) upd_same (same_none I3.fh hp) (same_none I3.bh hp) (I3.he hp) (fun i m z=>?_) (iss_cut hr lo hi) (h3 _ rfl)
   obtain ⟨b,vs,e,q,_⟩:=(I3.slot i).addr m
   rw [z] at e;injection e with e;injection e with e;subst e
   rw [hp] at q;cases q
  | _=>exact False.elim h3
end
def wL (W:WF):WE:=fun env Q=>W env fun ds e=>Q (.list ds) e
theorem vf_fz {e:Expr}{W:WF} (h:VF X e W):VE X e (wL W):=h.imp fun σ H R xx78=>by
 obtain ⟨M,env,F,Q,I,h,k⟩:=xx78
 refine ⟨M,env,F,_,I,h,fun a vs ds F1 H1 e1 I1 s1 h1 h2 h3 h4 h5 h6 h7=>?_⟩
 obtain ⟨J,s⟩:=I1.frz h1 h2 h4 h5
 exact k _ _ _ H1 e1 J (s1.trans s) (is_lst (SqL.of upd_same) (h6.mono s)) h7
theorem fresh_apart {K:PySem.W.Frag}{M:Frm}{F H:Hp}{env:Sto}{σ:St} (I:EnvOk K M F H env σ) {p:Addr} (hp:H p=none) : ∀ i,(gS env i).mut=true→vS σ i≠some (.ref p):=fun i m z=>by
 obtain ⟨b,vs,e,q,_⟩:=(I.slot i).addr m
 rw [z] at e;injection e with e;injection e with e;subst e
 rw [hp] at q;cases q
theorem new_lst {K:PySem.W.Frag}{M:Frm}{F H:Hp}{env:Sto}{σ:St}{R:VK}{Q:List PyData→Sto→Prop}{F0:Hp}{l:List PyData}{xs:List V} (I:EnvOk K M F H env σ) (s:Same F0 F) (hi:Iss K F l xs) (h:Q l env)
 (k : ∀ a vs ds F' H' env',EnvOk K M F' H' env' σ→Same F0 F'→H' a=some (.lst vs)→F' a=none→M.B a=none→M.He a=none→(∀ i,(gS env' i).mut=true→vS σ i≠some (.ref a))→Iss K F' ds vs→Q ds env'→R (.ref a) H') :
 ∀ p,H p=none→R (.ref p) (upd H p (.lst xs)):=fun p hp =>
  k p xs l F _ env (I.go (.side I.fh hp)) s upd_same (same_none I.fh hp) (same_none I.bh hp) (I.he hp) (fresh_apart I hp) hi h
section
variable {e:Expr}{es:List Expr}{W:WE}{Wr:WF}{pos:Pos}
def wNil:WF:=fun env Q=>Q [] env
def wCons (W:WE) (Wr:WF):WF:=fun env Q=>W env fun d e1=>Wr e1 fun ds e2=>Q (d::ds) e2
theorem va_nil:VA X [] wNil:=pa_nil.imp fun σ H R xx79=>by obtain ⟨M,env,F,Q,I,h,k⟩:=xx79;exact k [] [] F H env I (.refl _) iss_nil h
theorem va_cons (ha:VE X e W) (hr:VA X es Wr) (hs:starEach (e::es) X.env=(false,eval e X.env)::starEach es X.env:=by rfl):VA X (e::es) (wCons W Wr) :=
 (pa_cons ha hr hs).imp fun σ H R xx80=>by obtain ⟨M,env,F,Q,I,h,k⟩:=xx80;exact ⟨M,env,F,_,I,h,fun d v F1 H1 e1 I1 s1 i1 h1=>⟨M,e1,F1,_,I1,h1,fun ds vs F2 H2 e2 I2 s2 i2 h2=>k (d::ds) (v::vs) F2 H2 e2 I2 (s1.trans s2) (iss_cons (i1.mono s2) i2) h2⟩⟩
def wTup (Wr:WF):WE:=fun env Q=>Wr env fun ds e=>ds.length≤sizeLine∧Q (.tuple ds) e
theorem ve_tup {x1} (h:VA X es Wr):VE X (.Tuple es x1 pos) (wTup Wr):=(pe_tup h).imp fun σ H R xx81=>by
 obtain ⟨M,env,F,Q,I,h,k⟩:=xx81
 refine ⟨M,env,F,_,I,h,fun ds vs F1 H1 e1 I1 s1 i1 h1=>⟨by rw [i1.len];exact h1.1,fun p hp=>?_⟩⟩
 have g:=Go.put (o:=HO.tup vs) I1.fh hp
 exact k _ _ _ _ e1 (I1.go g) (s1.trans g.f) (is_tup (SqT.of upd_same) (i1.mono g.f)) h1.2
def wLst (Wr:WF):WF:=fun env Q=>Wr env fun ds e=>ds.length≤sizeLine∧Q ds e
theorem vf_lst (h:VA X es Wr):VF X (.List es pos) (wLst Wr):=(pe_lst h).imp fun σ H R xx82=>by
 obtain ⟨M,env,F,Q,I,h,k⟩:=xx82
 exact ⟨M,env,F,_,I,h,fun ds vs F1 H1 e1 I1 s1 i1 h1=>⟨by rw [i1.len];exact h1.1,new_lst I1 s1 i1 h1.2 k⟩⟩
end
end
end L2
namespace L2
open PySem PySem.Spec PyProof.Rows
section
variable {X:Cx}
def dI2 (g:Int→Int→(PyData→Prop)→Prop):D2
 | .int i,.int j,q=>g i j q
 | _,_,_=>False
theorem i2_of {g:Int→Int→(PyData→Prop)→Prop}{x y:PyData}{q:PyData→Prop} (h:dI2 g x y q) : ∃ i j,x = .int i∧y = .int j∧g i j q:=by
 cases x with
 | int i=>cases y with
  | int j=>exact ⟨i,j,rfl,rfl,h⟩
  | _=>exact False.elim h
 | _=>exact False.elim h
theorem opI_V {f:Value→Value→Sem Value}{C:Int→Int→Prop}{g:Int→Int→PyData}{gv:Int→Int→V} (h:OpR X f (rI C gv)) (hg : ∀ i j F,Is X.K F (g i j) (gv i j)):OpV X f (dI2 fun i j q=>C i j∧q (g i j)):=h.imp fun x y H Q xx83=>by
 obtain ⟨F,dx,dy,q,s,i1,i2,h,k⟩:=xx83
 obtain ⟨i,j,rfl,rfl,c,hq⟩:=i2_of h
 exact ⟨i,j,i1.int_inv,i2.int_inv,c,k _ _ F H (.refl s) (hg i j F) hq⟩
theorem opI0_V {f:Value→Value→Sem Value}{g:Int→Int→PyData}{gv:Int→Int→V} (h:OpR X f (rI0 gv)) (hg : ∀ i j F,Is X.K F (g i j) (gv i j)):OpV X f (dI2 fun i j q=>q (g i j)):=h.imp fun x y H Q xx84=>by
 obtain ⟨F,dx,dy,q,s,i1,i2,h,k⟩:=xx84
 obtain ⟨i,j,rfl,rfl,hq⟩:=i2_of h
 exact ⟨i,j,i1.int_inv,i2.int_inv,k _ _ F H (.refl s) (hg i j F) hq⟩
abbrev dSub:D2:=dI2 fun i j q=>q (.int (i-j))
abbrev dMulI:D2:=dI2 fun i j q=>IntMulOk i j∧q (.int (i*j))
abbrev dFdiv:D2:=dI2 fun i j q=>CDivB i j∧q (.int (i.fdiv j))
abbrev dDiv:D2:=dI2 fun i j q=>(0<j∧Builtin.Int.intBits j≤9000)∧q (.int (i/j))
abbrev dMod:D2:=dI2 fun i j q=>0<j∧q (.int (i%j))
abbrev dLt:D2:=dI2 fun i j q=>q (.bool (decide (i<j)))
abbrev dGt:D2:=dI2 fun i j q=>q (.bool (decide (j<i)))
abbrev dGe:D2:=dI2 fun i j q=>q (.bool (decide (j≤i)))
theorem o_sub:OpV X (binaryOp .Sub) dSub:=opI0_V op_sub fun _ _ _=>is_int _
theorem o_mulI:OpV X (binaryOp .Mult) dMulI:=opI_V op_mulB fun _ _ _=>is_int _
theorem o_fdiv:OpV X (binaryOp .FloorDiv) dFdiv:=opI_V op_fdivB fun _ _ _=>is_int _
theorem op_divP:OpR X (binaryOp .FloorDiv) (rI (fun _ j=>0<j∧Builtin.Int.intBits j≤9000) fun i j => .int (i/j)):=op_fdivB.imp fun x y H Q xx85=>by
 obtain ⟨i,j,e1,e2,c,q⟩:=xx85
 exact ⟨i,j,e1,e2,⟨by have:=c.1;omega,c.2⟩,by show Q (V.int (i.fdiv j)) H;rw [Int.fdiv_eq_ediv_of_nonneg _ (Int.le_of_lt c.1)];exact q⟩
theorem o_div:OpV X (binaryOp .FloorDiv) dDiv:=opI_V op_divP fun _ _ _=>is_int _
theorem o_mod:OpV X (binaryOp .Mod) dMod:=opI_V op_mod fun _ _ _=>is_int _
theorem o_lt:OpV X (compareOp .Lt) dLt:=opI0_V op_lt fun _ _ _=>is_bl _
theorem o_gt:OpV X (compareOp .Gt) dGt:=opI0_V op_gt fun _ _ _=>is_bl _
theorem o_ge:OpV X (compareOp .GtE) dGe:=opI0_V op_ge fun _ _ _=>is_bl _
def dEq:D2:=fun d e q=>SeqAt.shaped d=true∧SeqAt.shaped e=true∧q (.bool (PyData.eqv d e))
def dNe:D2:=fun d e q=>SeqAt.shaped d=true∧SeqAt.shaped e=true∧q (.bool (!PyData.eqv d e))
theorem o_eq (hu:X.A.units+64<cLine):OpV X (compareOp .Eq) dEq:=(op_eqD hu).imp fun x y H Q xx86=>by
 obtain ⟨F,dx,dy,q,s,i1,i2,h,k⟩:=xx86
 exact ⟨dx,dy,i1.mono s,i2.mono s,h.1,h.2.1,k _ _ F H (.refl s) (is_bl _) h.2.2⟩
theorem o_ne (hu:X.A.units+64<cLine):OpV X (compareOp .NotEq) dNe:=(op_neD hu).imp fun x y H Q xx87=>by
 obtain ⟨F,dx,dy,q,s,i1,i2,h,k⟩:=xx87
 exact ⟨dx,dy,i1.mono s,i2.mono s,h.1,h.2.1,k _ _ F H (.refl s) (is_bl _) h.2.2⟩
def isNoneD:PyData→Bool
 | .none=>true
 | _=>false
def dIsN:D2:=fun d e q=>e = .none∧q (.bool (isNoneD d))
theorem is_none_iff {K:PySem.W.Frag}{F:Hp}{d:PyData}{x:V} (h:Is K F d x):decide (x = .non)=isNoneD d:=by
 cases d with
 | none=>rw [h.non_inv];rfl
 | bool b=>rw [h.bl_inv];rfl
 | int b=>rw [h.int_inv];rfl
 | str b=>unfold Is at h;rw [h];rfl
 | list l=>obtain ⟨a,xs,rfl,_⟩:=h.lst_inv;rfl
 | tuple l=>obtain ⟨a,xs,rfl,_⟩:=h.tup_inv;rfl
 | dict l=>obtain ⟨a,xs,rfl,_⟩:=h.dct_inv;rfl
theorem o_isN:OpV X (compareOp .Is) dIsN:=op_isN.imp fun x y H Q xx88=>by
 obtain ⟨F,dx,dy,q,s,i1,i2,h,k⟩:=xx88
 obtain ⟨rfl,hq⟩:=h
 exact ⟨i2.non_inv,by rw [is_none_iff i1];exact k _ _ F H (.refl s) (is_bl _) hq⟩
def dAdd:D2
 | .int i,.int j,q=>q (.int (i+j))
 | .list l,.list m,q=>l.length+m.length≤sizeLine∧q (.list (l++m))
 | .tuple l,.tuple m,q=>l≠[]∧l.length+m.length≤sizeLine∧q (.tuple (l++m))
 | .str x,.str y,q=>x.length+y.length≤sizeLine∧q (.str (x++y))
 | _,_,_=>False
theorem o_add:OpV X (binaryOp .Add) dAdd:=by
 rintro pins s σ H x y v u Q I rx ry ⟨F,dx,dy,q,sm,i1,i2,h,k⟩
 cases dx with
 | int i=>cases dy with
  | int j=>exact op_add pins s σ H x y v u Q I rx ry ⟨i,j,i1.int_inv,i2.int_inv,k _ _ F H (.refl sm) (is_int _) h⟩
  | _=>exact False.elim h
 | list l=>cases dy with
  | list m =>
   obtain ⟨a,xs,rfl,hs,hr⟩:=i1.lst_inv
   obtain ⟨b,ys,rfl,ht,hq⟩:=i2.lst_inv
   refine op_catS pins s σ H _ _ v u Q I rx ry ⟨a,b,xs,ys,rfl,rfl,sm.seq hs,sm.seq ht,by rw [hr.len,hq.len];exact h.1,fun p hp=>?_⟩
   have g:=Go.put (o:=HO.lst (xs++ys)) sm hp
   exact k _ _ _ _ g (is_lst (SqL.of upd_same) ((iss_append hr hq).mono g.f)) h.2
  | _=>exact False.elim h
 | tuple l=>cases dy with
  | tuple m =>
   obtain ⟨a,xs,rfl,hs,hr⟩:=i1.tup_inv
   obtain ⟨b,ys,rfl,ht,hq⟩:=i2.tup_inv
   refine op_catT pins s σ H _ _ v u Q I rx ry ⟨a,b,xs,ys,rfl,rfl,same_seqT sm hs,same_seqT sm ht,fun z=>h.1 (List.length_eq_zero_iff.mp (by rw [← hr.len,z];rfl)),by rw [hr.len,hq.len];exact h.2.1,fun z=>?_,fun _ p hp=>?_⟩
   ·have hm:m=[]:=List.length_eq_zero_iff.mp (by rw [← hq.len,z];rfl)
    subst hm
    refine k _ _ F H (.refl sm) i1 ?_
    have:=h.2.2;rw [List.append_nil] at this;exact this
   ·have g:=Go.put (o:=HO.tup (xs++ys)) sm hp
    exact k _ _ _ _ g (is_tup (SqT.of upd_same) ((iss_append hr hq).mono g.f)) h.2.2
  | _=>exact False.elim h
 | str x0=>cases dy with
  | str y0 =>
   unfold Is at i1 i2
   exact op_add_str pins s σ H x y v u Q I rx ry ⟨x0,y0,i1,i2,h.1,k _ _ F H (.refl sm) (is_str _) h.2⟩
  | _=>exact False.elim h
 | _=>exact False.elim h
def wCat (Wa Wb:WE):WF:=fun env Q=>Wa env fun x e1=>Wb e1 fun y e2=>match x,y with
 | .list l,.list m=>l.length+m.length≤sizeLine∧Q (l++m) e2
 | _,_=>False
theorem vf_cat {a b:Expr}{Wa Wb:WE}{pos:Pos} (ha:VE X a Wa) (hb:VE X b Wb):VF X (.BinOp a .Add b pos) (wCat Wa Wb):=(pe_op op_catS ha hb).imp fun σ H R xx89=>by
 obtain ⟨M,env,F,Q,I,h,k⟩:=xx89
 refine ⟨M,env,F,_,I,h,fun d v F1 H1 e1 I1 s1 i1 h1=>⟨M,e1,F1,_,I1,h1,fun d2 v2 F2 H2 e2 I2 s2 i2 h2=>?_⟩⟩
 cases d with
 | list l=>cases d2 with
  | list m =>
   obtain ⟨a,xs,rfl,hs,hr⟩:=(i1.mono s2).lst_inv
   obtain ⟨b,ys,rfl,ht,hq⟩:=i2.lst_inv
   exact ⟨a,b,xs,ys,rfl,rfl,I2.fh.seq hs,I2.fh.seq ht,by rw [hr.len,hq.len];exact h2.1,new_lst I2 (s1.trans s2) (iss_append hr hq) h2.2 k⟩
  | _=>exact False.elim h2
 | _=>exact False.elim h2
section
variable {x:Str}{p pos:Pos}{e:Expr}{es:List Expr}{Wr:WF}{id T:String}{r:DC}{rf:List PyData→(List PyData→Prop)→Prop}
def wCall (r:DC) (Wr:WF):WE:=fun env Q=>Wr env fun ds e=>r ds fun d=>Q d e
def wCallF (r:List PyData→(List PyData→Prop)→Prop) (Wr:WF):WF:=fun env Q=>Wr env fun ds e=>r ds fun l=>Q l e
theorem call_lift {σ:St}{H:Hp}{R:VK} (h:liftE X.K (wCall r Wr) σ H R):liftA X.K Wr σ H fun vs H1=>liftC X.K r vs H1 R:=by
 obtain ⟨M,env,F,Q,I,h,k⟩:=h
 exact ⟨M,env,F,_,I,h,fun ds vs F1 H1 e1 I1 s1 i1 h1=>⟨F1,ds,_,I1.fh,i1,h1,fun d v F2 H2 g i2 q=>k d v F2 H2 e1 (I1.go g) (s1.trans g.f) i2 q⟩⟩
theorem callF_lift {σ:St}{H:Hp}{R:VK} (h:liftF X.K (wCallF rf Wr) σ H R):liftA X.K Wr σ H fun vs H1=>liftCF X.K rf vs H1 R:=by
 obtain ⟨M,env,F,Q,I,h,k⟩:=h
 refine ⟨M,env,F,_,I,h,fun ds vs F1 H1 e1 I1 s1 i1 h1=>⟨F1,ds,_,I1.fh,i1,h1,fun l a xs F2 H2 g ha hf hh hi q=>?_⟩⟩
 exact k a xs l F2 H2 e1 (I1.go g) (s1.trans g.f) hh hf (same_none I1.bh ha) (I1.he ha) (fresh_apart I1 ha) hi q
theorem ve_callB (hc:CallV X (.builtin id) r) (hm:X.mg x=none) (hv:bootBuiltins x=some (.builtin id)) (ha:VA X (e::es) Wr) (hg:Gl X x:=by rfl) (hn:x ≠ "__name__":=by decide) (hdb:(x==("__debug__" : Str))=false:=by decide)
 (he:starEach (e::es) X.env=(false,eval e X.env)::starEach es X.env:=by rfl) (hpl:(backTo pos (starEach es X.env)).any (·.1)=false:=by rfl):VE X (.Call (.Name x p) (e::es) [] pos) (wCall r Wr) :=
 (pe_callB hc hg hm hv ha hn hdb he hpl).imp fun _ _ _ h=>call_lift h
theorem vf_callTy (hc:CallVF X (.type T) rf) (hm:X.mg x=none) (hv:bootBuiltins x=some (.type T)) (ha:VA X (e::es) Wr) (hg:Gl X x:=by rfl) (hn:x ≠ "__name__":=by decide) (hdb:(x==("__debug__" : Str))=false:=by decide)
 (he:starEach (e::es) X.env=(false,eval e X.env)::starEach es X.env:=by rfl) (hpl:(backTo pos (starEach es X.env)).any (·.1)=false:=by rfl):VF X (.Call (.Name x p) (e::es) [] pos) (wCallF rf Wr) :=
 (pe_callTy hc hg hm hv ha hn hdb he hpl).imp fun _ _ _ h=>callF_lift h
def PSp (K:PySem.W.Frag) (sp:DC):Sp:=fun vs H Q _=>liftC K sp vs H Q
def FSp (K:PySem.W.Frag) (sp:List PyData→(List PyData→Prop)→Prop):Sp:=fun vs H Q _=>liftCF K sp vs H Q
theorem ve_fn {k:Nat}{ps:List Str}{sp:DC} (O:OkC X x k ps (PSp X.K sp)) (hr:Room k X.A) (ha:VA X (e::es) Wr) (hg:Gl X x:=by rfl) (hdb:(x==("__debug__" : Str))=false:=by decide)
 (he:starEach (e::es) X.env=(false,eval e X.env)::starEach es X.env:=by rfl) (hpl:(backTo pos (starEach es X.env)).any (·.1)=false:=by rfl):VE X (.Call (.Name x p) (e::es) [] pos) (wCall sp Wr) :=
 (pe_fn O hr ha hg hdb he hpl).imp fun σ H R h=>by
  have e:tCall (PSp X.K sp) [] E0 (liftA X.K Wr) σ H R=liftA X.K Wr σ H fun vs H1=>liftC X.K sp vs H1 R:=by unfold tCall PSp;simp only [List.append_nil]
  rw [e]
  exact call_lift h
theorem vf_fn {k:Nat}{ps:List Str}{sp:List PyData→(List PyData→Prop)→Prop} (O:OkC X x k ps (FSp X.K sp)) (hr:Room k X.A) (ha:VA X (e::es) Wr) (hg:Gl X x:=by rfl) (hdb:(x==("__debug__" : Str))=false:=by decide)
 (he:starEach (e::es) X.env=(false,eval e X.env)::starEach es X.env:=by rfl) (hpl:(backTo pos (starEach es X.env)).any (·.1)=false:=by rfl):VF X (.Call (.Name x p) (e::es) [] pos) (wCallF sp Wr) :=
 (pe_fn O hr ha hg hdb he hpl).imp fun σ H R h=>by
  have e:tCall (FSp X.K sp) [] E0 (liftA X.K Wr) σ H R=liftA X.K Wr σ H fun vs H1=>liftCF X.K sp vs H1 R:=by unfold tCall FSp;simp only [List.append_nil]
  rw [e]
  exact callF_lift h
end
def dAbs:DC
 | [.int i],q=>q (.int (if i<0 then -i else i))
 | _,_=>False
def dLen:DC
 | [.list l],q=>q (.int l.length)
 | [.tuple l],q=>q (.int l.length)
 | [.str x],q=>x.length≤sizeLine∧q (.int x.length)
 | _,_=>False
theorem iss1 {K:PySem.W.Frag}{H:Hp}{d:PyData}{vs:List V} (h:Iss K H [d] vs) : ∃ v,vs=[v]∧Is K H d v:=by
 obtain ⟨x,r,rfl,p,q⟩:=h.cons_inv
 rw [q.nil_inv];exact ⟨x,rfl,p⟩
theorem iss2 {K:PySem.W.Frag}{H:Hp}{d e:PyData}{vs:List V} (h:Iss K H [d,e] vs) : ∃ v u,vs=[v,u]∧Is K H d v∧Is K H e u:=by
 obtain ⟨x,r,rfl,p,q⟩:=h.cons_inv
 obtain ⟨y,rfl,q'⟩:=iss1 q
 exact ⟨x,y,rfl,p,q'⟩
theorem c_abs:CallV X (.builtin "abs") dAbs:=call_abs.imp fun xs H Q xx90=>by
 obtain ⟨F,ds,q,s,i,h,k⟩:=xx90
 match ds,h,i with
 | [.int n],h,i =>
  obtain ⟨v,rfl,j⟩:=iss1 i
  exact ⟨n,by rw [j.int_inv],k _ _ F H (.refl s) (is_int _) h⟩
theorem c_len:CallV X (.builtin "len") dLen:=(call_len_seq.or call_len_str).imp fun xs H Q xx91=>by
 obtain ⟨F,ds,q,s,i,h,k⟩:=xx91
 match ds,h,i with
 | [.list l],h,i =>
  obtain ⟨v,rfl,j⟩:=iss1 i
  obtain ⟨a,xs,rfl,hs,hr⟩:=j.lst_inv
  exact .inl ⟨a,xs,rfl,.inl (s.seq hs),k _ _ F H (.refl s) (by rw [hr.len];exact is_int _) h⟩
 | [.tuple l],h,i =>
  obtain ⟨v,rfl,j⟩:=iss1 i
  obtain ⟨a,xs,rfl,hs,hr⟩:=j.tup_inv
  exact .inl ⟨a,xs,rfl,.inr (same_seqT s hs),k _ _ F H (.refl s) (by rw [hr.len];exact is_int _) h⟩
 | [.str z],h,i =>
  obtain ⟨v,rfl,j⟩:=iss1 i
  unfold Is at j
  subst j
  exact .inr ⟨z,rfl,h.1,k _ _ F H (.refl s) (is_int _) h.2⟩
def dListF:List PyData→(List PyData→Prop)→Prop
 | [.list l],q=>q l
 | [.tuple l],q=>q l
 | _,_=>False
theorem c_list:CallVF X (.type "list") dListF:=call_list_of.imp fun xs H Q xx92=>by
 obtain ⟨F,ds,q,s,i,h,k⟩:=xx92
 match ds,h,i with
 | [.list l],h,i =>
  obtain ⟨v,rfl,j⟩:=iss1 i
  obtain ⟨a,xs,rfl,hs,hr⟩:=j.lst_inv
  exact ⟨a,xs,rfl,.inl (s.seq hs),fun p hp=>k l p xs F _ (.side s hp) hp (same_none s hp) upd_same hr h⟩
 | [.tuple l],h,i =>
  obtain ⟨v,rfl,j⟩:=iss1 i
  obtain ⟨a,xs,rfl,hs,hr⟩:=j.tup_inv
  exact ⟨a,xs,rfl,.inr (same_seqT s hs),fun p hp=>k l p xs F _ (.side s hp) hp (same_none s hp) upd_same hr h⟩
end
end L2
namespace L2
open PySem PySem.Spec PyProof.Rows
section
variable {X:Cx}
section
variable {a b c e o:Expr}{W Wa Wb:WE}{Tc:WT}{pos pos':Pos}{st:Stmt}{sts rest:List Stmt}{Wt Wu:WS}{WfF:WF}
def wNext:WS:=fun D env=>D.nx env
def wSeq (t u:WS):WS:=fun D env=>t { D with nx:=u D } env
def wMid (t u:WS):WS:=fun D env => ∃ Md:Sto→Prop,t { D with nx:=Md } env ∧ ∀ e,Md e→u D e
def wNever:WS:=fun _ _=>False
theorem vss_nil:VSs X [] wNext:=pss_nil.imp fun D σ H xx93=>by obtain ⟨M,env,F,DD,I,h,k⟩:=xx93;exact k.nx env F H σ I (.refl _) h
theorem vss_one (h:VS X st Wt):VSs X [st] Wt:=pss_one h
theorem vss_cons (h1:VS X st Wt) (h2:VSs X rest Wu):VSs X (st::rest) (wSeq Wt Wu):=(pss_cons h1 h2).imp fun D σ H xx94=>by
 obtain ⟨M,env,F,DD,I,h,k⟩:=xx94
 exact ⟨M,env,F,{ DD with nx:=Wu DD },I,h,fun e' F' H' σ' I' s' h'=>⟨M,e',F',DD,I',h',k.mono s'⟩,k.rt,k.bk,k.ct⟩
theorem vss_mid (h1:VS X st Wt) (h2:VSs X rest Wu):VSs X (st::rest) (wMid Wt Wu):=(pss_cons h1 h2).imp fun D σ H xx95=>by
 obtain ⟨M,env,F,DD,I,⟨Md,h,hm⟩,k⟩:=xx95
 exact ⟨M,env,F,{ DD with nx:=Md },I,h,fun e' F' H' σ' I' s' h'=>⟨M,e',F',DD,I',hm e' h',k.mono s'⟩,k.rt,k.bk,k.ct⟩
theorem vss_never:VSs X sts wNever:=pss_never.imp fun D σ H xx96=>by obtain ⟨M,env,F,DD,I,h,k⟩:=xx96;exact h.elim
def wFz (i:Nat) (t:WS):WS:=fun D env=>t D (env.set i (gS env i).fz)
theorem vss_fz (i:Nat) (h:VSs X sts Wt):VSs X sts (wFz i Wt):=h.imp fun D σ H xx97=>by
 obtain ⟨M,env,F,DD,I,h,k⟩:=xx97
 obtain ⟨F',J,s⟩:=I.freeze i
 exact ⟨M,_,F',DD,J,h,k.mono s⟩
def wDrop (W:WE):WS:=fun D env=>W env fun _ e=>D.nx e
def wRet (W:WE):WS:=fun D env=>W env fun d e=>D.rt (.val d) e
theorem vs_ret (he:VE X e W):VS X (.Return (some e) pos) (wRet W):=(ps_ret he).imp fun D σ H xx98=>by
 obtain ⟨M,env,F,DD,I,h,k⟩:=xx98
 exact ⟨M,env,F,_,I,h,fun d v F1 H1 e1 I1 s1 i1 h1=>k.rt (.val d) v e1 F1 H1 σ I1 s1 i1 h1⟩
def wRetF (W:WF):WS:=fun D env=>W env fun l e=>D.rt (.own l) e
theorem vs_retF (he:VF X e WfF):VS X (.Return (some e) pos) (wRetF WfF):=(ps_ret he).imp fun D σ H xx99=>by
 obtain ⟨M,env,F,DD,I,h,k⟩:=xx99
 exact ⟨M,env,F,_,I,h,fun p vs l F1 H1 e1 I1 s1 g1 g2 g3 g4 g5 g6 h1=>k.rt (.own l) _ e1 F1 H1 σ I1 s1 ⟨p,vs,rfl,g1,g2,g3,g4,g6⟩ h1⟩
def wRetO (i:Nat):WS:=fun D env=>match gS env i with | .own ds=>D.rt (.own ds) env|_=>False
theorem vs_retO (i:Nat) {x:Str}{px:Pos} (hN:X.N[i]?=some x:=by rfl) (hv:Vis X.env.scope x:=by first|exact Or.inl rfl|exact Or.inr (Or.inl rfl)|exact Or.inr (Or.inr rfl)) (hd:(x==("__debug__" : Str))=false:=by decide)
 (hcd:(x==("__classdict__" : Str))=false:=by decide):VS X (.Return (some (.Name x px)) pos) (wRetO i):=(ps_ret (pe_var hN hv hd hcd)).imp fun D σ H xx100=>by
 obtain ⟨M,env,F,DD,I,h,k⟩:=xx100
 have S:=I.slot i
 unfold wRetO at h
 cases q:gS env i with
 | own ds =>
  rw [q] at S h
  obtain ⟨p,vs,e,g1,g2,g3,g4,g5⟩:=S
  exact ⟨_,vS_some e,k.rt (.own ds) _ env F H σ I (.refl _) ⟨p,vs,rfl,g1,g2,g3,g4,g5⟩ h⟩
 | non=>rw [q] at h;exact h.elim
 | val d=>rw [q] at h;exact h.elim
 | pen ds=>rw [q] at h;exact h.elim
 | new d=>rw [q] at h;exact h.elim
 | exc C=>rw [q] at h;exact h.elim
 | obj a0 C nm fs=>rw [q] at h;exact h.elim
def wIf (Tc:WT) (t u:WS):WS:=fun D env=>Tc env fun k e=>if k=true then t D e else u D e
theorem vs_if {A B:List Stmt} (hc:VT X c Tc) (ha:VSs X A Wt) (hb:VSs X B Wu):VS X (.If c A B pos) (wIf Tc Wt Wu):=(ps_if hc ha hb).imp fun D σ H xx101=>by
 obtain ⟨M,env,F,DD,I,h,k⟩:=xx101
 refine ⟨M,env,F,_,I,h,fun x F1 H1 e1 I1 s1 h1=>?_⟩
 cases x with
 | true=>exact iteT ⟨M,e1,F1,DD,I1,h1,k.mono s1⟩
 | false=>exact iteF ⟨M,e1,F1,DD,I1,h1,k.mono s1⟩
def wSet (i:Nat) (W:WE):WS:=fun D env=>W env fun d e=>D.nx (e.set i (.val d))
theorem vs_set {i:Nat}{x:Str} (hN:X.N.Nodup) (he:VE X e W) (hi:X.N[i]?=some x:=by rfl) (hx:Loc X.env.scope x:=by first|exact Or.inl rfl|exact Or.inr rfl) (hs:swapsWith e (some (.Name x pos')) pos.line X.env=pure false:=by rfl)
 (hf:X.fn x=true∨X.env.scope.names.lookup x=some .local:=by first|exact .inl rfl|exact .inr rfl):VS X (.Assign [.Name x pos'] e pos) (wSet i W):=(ps_set hN hi hx he hs hf).imp fun D σ H xx102=>by
 obtain ⟨M,env,F,DD,I,h,k⟩:=xx102
 exact ⟨M,env,F,_,I,h,fun d v F1 H1 e1 I1 s1 i1 h1=>k.nx _ F1 H1 _ (I1.setv i1) s1 h1⟩
def wSetO (i:Nat) (W:WF):WS:=fun D env=>W env fun l e=>D.nx (e.set i (.own l))
theorem vs_setO {i:Nat}{x:Str} (hN:X.N.Nodup) (he:VF X e WfF) (hi:X.N[i]?=some x:=by rfl) (hx:Loc X.env.scope x:=by first|exact Or.inl rfl|exact Or.inr rfl) (hs:swapsWith e (some (.Name x pos')) pos.line X.env=pure false:=by rfl)
 (hf:X.fn x=true∨X.env.scope.names.lookup x=some .local:=by first|exact .inl rfl|exact .inr rfl):VS X (.Assign [.Name x pos'] e pos) (wSetO i WfF):=(ps_set hN hi hx he hs hf).imp fun D σ H xx103=>by
 obtain ⟨M,env,F,DD,I,h,k⟩:=xx103
 exact ⟨M,env,F,_,I,h,fun p vs l F1 H1 e1 I1 s1 g1 g2 g3 g4 g5 g6 h1=>k.nx _ F1 H1 _ (I1.seto g1 g2 g3 g4 g5 g6) s1 h1⟩
def wgName (i:Nat):WG:=fun d env Q=>Q (env.set i (.val d))
theorem vg_name {i:Nat}{x:Str} (hN:X.N.Nodup) (hi:X.N[i]?=some x:=by rfl) (hx:Loc X.env.scope x:=by first|exact Or.inl rfl|exact Or.inr rfl) (hf:X.fn x=true∨X.env.scope.names.lookup x=some .local:=by first|exact .inl rfl|exact .inr rfl):VG X (.Name x pos) (wgName i) :=
 (pg_name hN hi hx hf).imp fun v σ H R xx104=>by obtain ⟨M,env,F,d,Q,I,j,h,k⟩:=xx104;exact k F H _ _ (I.setv j) (.refl _) h
def wgNil:WGs:=fun ds env Q=>ds=[]∧Q env
def wgCons (G:WG) (Gs:WGs):WGs:=fun ds env Q=>match ds with|[]=>False|d::r=>G d env fun e=>Gs r e Q
theorem vgs_nil:VGs X [] wgNil:=pgs_nil.imp fun v σ H R xx105=>by
 obtain ⟨M,env,F,ds,Q,I,j,h,k⟩:=xx105
 obtain ⟨rfl,h⟩:=h
 exact ⟨j.nil_inv,k F H env σ I (.refl _) h⟩
theorem vgs_cons {es:List Expr}{G:WG}{Gs:WGs} (h1:VG X e G) (h2:VGs X es Gs) (hs:(assignEach (e::es) X.env).map (·.2)=assign e X.env::(assignEach es X.env).map (·.2):=by rfl):VGs X (e::es) (wgCons G Gs) :=
 (pgs_cons h1 h2 hs).imp fun v σ H R xx106=>by
  obtain ⟨M,env,F,ds,Q,I,j,h,k⟩:=xx106
  cases ds with
  | nil=>exact False.elim h
  | cons d r =>
   obtain ⟨x,xs,rfl,j1,j2⟩:=j.cons_inv
   exact ⟨x,xs,rfl,M,env,F,d,_,I,j1,h,fun F1 H1 e1 σ1 I1 s1 q1=>⟨M,e1,F1,r,Q,I1,j2.mono s1,q1,fun F2 H2 e2 σ2 I2 s2 q2=>k F2 H2 e2 σ2 I2 (s1.trans s2) q2⟩⟩
def wgTup (n:Nat) (Gs:WGs):WG:=fun d env Q=>match d with | .tuple l=>l.length=n∧Gs l env Q|_=>False
theorem vg_tup {es:List Expr}{kk n:Nat}{Gs:WGs} (hc:X.calm=true) (h:VGs X es Gs) (hn:(assignEach es X.env).length=n:=by rfl) (hst:(assignEach es X.env).findIdx? (·.1)=none:=by rfl):VG X (.Tuple es kk pos) (wgTup n Gs) :=
 (pg_tup hc h hn hst).imp fun v σ H R xx107=>by
  obtain ⟨M,env,F,d,Q,I,j,h,k⟩:=xx107
  cases d with
  | tuple l =>
   obtain ⟨a,xs,rfl,hs,hr⟩:=j.tup_inv
   exact ⟨a,xs,rfl,same_seqT I.fh hs,by rw [hr.len];exact h.1,M,env,F,l,Q,I,hr,h.2,k⟩
  | _=>exact False.elim h
def wApp (i:Nat) (W:WE):WS:=fun D env=>(gS env i).mut=true∧W env fun d e=>(gS e i).mut=true∧(gS e i).cnt.length<sizeLine∧D.nx (e.set i ((gS e i).upd ((gS e i).cnt++[d])))
theorem vs_append (i:Nat) {x:Str}{px apos cpos:Pos} (he:VE X e W) (hN:X.N[i]?=some x:=by rfl) (hv:Vis X.env.scope x:=by first|exact Or.inl rfl|exact Or.inr (Or.inl rfl)|exact Or.inr (Or.inr rfl)) (hd:(x==("__debug__" : Str))=false:=by decide)
 (hcd:(x==("__classdict__" : Str))=false:=by decide)
 (hbase:attributeBase (.Name x px) "append" X.env (eval (.Name x px) X.env)=eval (.Name x px) X.env:=by rfl)
 (hfew:((backTo cpos (starEach [e] X.env)).all (fun x => !x.1)&&(backToKw cpos (keywordEach [] X.env)).all (fun x=>x.1.isSome)
  && decide ([e].length+([]:List Keyword).length+(if ([]:List Keyword).isEmpty then 0 else 1)<30))=true:=by rfl)
 (hline:(apos.endLine==cpos.line)=true:=by rfl) (hst:starEach [e] X.env=(false,eval e X.env)::starEach [] X.env:=by rfl) (hplain:(backTo cpos (starEach [] X.env)).any (·.1)=false:=by rfl)
 (hs:swapsWith (.Call (.Attribute (.Name x px) "append" apos) [e] [] cpos) none pos.line X.env=pure false:=by rfl):VS X (.Expr (.Call (.Attribute (.Name x px) "append" apos) [e] [] cpos) pos) (wApp i W) :=
 (ps_expr (pe_append (pe_var hN hv hd hcd) he hbase hfew hline hst hplain) hs).imp fun D σ H xx108=>by
  obtain ⟨M,env,F,DD,I,⟨hm,h⟩,k⟩:=xx108
  obtain ⟨p,vs,ep,g1,g2,g3,g4⟩:=(I.slot i).addr hm
  refine ⟨_,vS_some ep,.inl ⟨rfl,_,SqL.of g1⟩,M,env,F,_,I,h,fun d v F1 H1 e1 I1 s1 i1 h1=>?_⟩
  obtain ⟨m1,z1,q1⟩:=h1
  obtain ⟨p',vs1,ep',f1,f2,f3,f4⟩:=(I1.slot i).addr m1
  rw [ep] at ep';injection ep' with ep';injection ep' with ep';subst ep'
  exact ⟨p,vs1,v,rfl,rfl,f1,by rw [f4.len];exact z1,k.nx _ F1 _ σ (I1.chg m1 ep (iss_append f4 (iss_cons i1 iss_nil))) s1 q1⟩
def wPut (i:Nat) (W Wj:WE):WS:=fun D env=>W env fun d e1=>(gS e1 i).mut=true∧Wj e1 fun y e2=>match y with
 | .int n=>(gS e2 i).mut=true ∧ ∃ j,ixN (gS e2 i).cnt.length n=some j∧D.nx (e2.set i ((gS e2 i).upd ((gS e2 i).cnt.set j d)))
 | _=>False
theorem iss_set {K:PySem.W.Frag}{H:Hp}{d:PyData}{v:V} (h:Is K H d v) : ∀ {l:List PyData}{xs:List V} (j:Nat),Iss K H l xs→Iss K H (l.set j d) (xs.set j v)
 | [],_,j,r=>by rw [r.nil_inv];simpa using iss_nil
 | x::l,_,0,r=>by obtain ⟨y,ys,rfl,p,q⟩:=r.cons_inv;exact iss_cons h q
 | x::l,_,j+1,r=>by obtain ⟨y,ys,rfl,p,q⟩:=r.cons_inv;exact iss_cons p (iss_set h j q)
theorem vs_put (i:Nat) {x:Str}{px:Pos} (he:VE X e W) (hj:VE X b Wb) (hN:X.N[i]?=some x:=by rfl) (hv:Vis X.env.scope x:=by first|exact Or.inl rfl|exact Or.inr (Or.inl rfl)|exact Or.inr (Or.inr rfl)) (hd:(x==("__debug__" : Str))=false:=by decide)
 (hcd:(x==("__classdict__" : Str))=false:=by decide)
 (ha : ∀ v,assign (.Subscript (.Name x px) b pos') X.env v=(do
  let ov ← holding [v] (eval (.Name x px) X.env)
  let iv ← holding [v,ov] (eval b X.env)
  standAt pos'
  holding [v,ov,iv] (setItem ov iv v)
  release [v,ov,iv] []):=by intro _;rfl)
 (hs:swapsWithSole [.Subscript (.Name x px) b pos'] e pos.line X.env=pure false:=by rfl) (hw:swappedStores [.Subscript (.Name x px) b pos'] e X.env=pure none:=by rfl)
 (h1:(assignEach [.Subscript (.Name x px) b pos'] X.env).map (·.2)=[assign (.Subscript (.Name x px) b pos') X.env]:=by rfl):VS X (.Assign [.Subscript (.Name x px) b pos'] e pos) (wPut i W Wb) :=
 (ps_asg he (pg_sub (pe_var hN hv hd hcd) hj set_list ha) hs hw h1).imp fun D σ H xx109=>by
  obtain ⟨M,env,F,DD,I,h,k⟩:=xx109
  refine ⟨M,env,F,_,I,h,fun d v F1 H1 e1 I1 s1 i1 h1=>?_⟩
  obtain ⟨m1,h1⟩:=h1
  obtain ⟨p,vs,ep,g1,g2,g3,g4⟩:=(I1.slot i).addr m1
  refine ⟨_,vS_some ep,M,e1,F1,_,I1,h1,fun d2 v2 F2 H2 e2 I2 s2 i2 h2=>?_⟩
  cases d2 with
  | int n =>
   obtain ⟨m2,j,hj,q⟩:=h2
   obtain ⟨p',vs1,ep',f1,f2,f3,f4⟩:=(I2.slot i).addr m2
   rw [ep] at ep';injection ep' with ep';injection ep' with ep';subst ep'
   exact ⟨p,vs1,n,j,rfl,i2.int_inv,f1,by rw [f4.len];exact hj,k.nx _ F2 _ σ (I2.chg m2 ep (iss_set (i1.mono s2) j f4)) (s1.trans s2) q⟩
  | _=>exact False.elim h2
def wWhile (Tc:WT) (t:WS):WS:=fun D env => ∃ P:Nat→Sto→Prop,(∃ m,P m env) ∧ ∀ m e,P m e→Tc e fun k e1=>if k=true then t { D with nx:=fun e2 => ∃ m',m'<m∧P m' e2,ct:=fun e2 => ∃ m',m'<m∧P m' e2,bk:=D.nx } e1 else D.nx e1
theorem vs_while {body:List Stmt} (hc:VT X c Tc) (hb:VSs X body Wt) (hp:PassesOwn (model X.prog X.w) X.A X.env X.xe:=by exact PassesOwn.never):VS X (.While c body [] pos) (wWhile Tc Wt) :=
 (ps_while hp hc hb).imp fun D σ H xx113=>by
  obtain ⟨M,env,F,DD,I,⟨P,⟨m0,p0⟩,turn⟩,k⟩:=xx113
  refine ⟨fun m σ' H' => ∃ e' F',EnvOk X.K M F' H' e' σ'∧Same F F'∧P m e',⟨m0,env,F,I,.refl _,p0⟩,fun m σ1 H1 xx112=>?_⟩
  obtain ⟨e1,F1,I1,s1,p1⟩:=xx112
  refine ⟨M,e1,F1,_,I1,turn m e1 p1,fun x F2 H2 e2 I2 s2 h2=>?_⟩
  cases x with
  | true =>
   refine iteT ⟨fun σ' H' => ∃ m',m'<m ∧ ∃ e' F',EnvOk X.K M F' H' e' σ'∧Same F F'∧P m' e',fun σ' H' z=>z,M,e2,F2,_,I2,h2,?_⟩
   have s02:=s1.trans s2
   exact ⟨fun e3 F3 H3 σ3 I3 s3 xx111=>by obtain ⟨m',l,p3⟩:=xx111;exact ⟨m',l,e3,F3,I3,s02.trans s3,p3⟩,fun r v e3 F3 H3 σ3 I3 s3=>k.rt r v e3 F3 H3 σ3 I3 (s02.trans s3),
    fun e3 F3 H3 σ3 I3 s3=>k.nx e3 F3 H3 σ3 I3 (s02.trans s3),fun e3 F3 H3 σ3 I3 s3 xx110=>by obtain ⟨m',l,p3⟩:=xx110;exact ⟨m',l,e3,F3,I3,s02.trans s3,p3⟩⟩
  | false=>exact iteF (k.nx e2 F2 H2 σ1 I2 (s1.trans s2) h2)
def wFor (Wi:WF) (G:WG) (t:WS):WS:=fun D env=>Wi env fun ds e0 => ∃ P:Nat→Sto→Prop,P 0 e0 ∧
 (∀ i d e,ds[i]?=some d→P i e→G d e fun e1=>t { D with nx:=P (i+1),ct:=P (i+1),bk:=D.nx } e1) ∧ ∀ e,P ds.length e→D.nx e
theorem vs_for {tg iter:Expr}{body:List Stmt}{Wi:WF}{G:WG} (hc:X.calm=true) (hi:VI X tg iter Wi) (hg:VG X tg G) (hb:VSs X body Wt)
 (hs : ∀ x,foldedSetIterable iter X.env x=pure x:=by intro _;rfl) (hp:PassesOwn (model X.prog X.w) X.A X.env X.xe:=by exact PassesOwn.never):VS X (.For tg iter body [] pos) (wFor Wi G Wt) :=
  (ps_for hp hc hi hg hb hs).imp fun D σ H xx116=>by
   obtain ⟨M,env,F,DD,I,h,k⟩:=xx116
   refine ⟨M,env,F,_,I,h,fun ds J F1 H1 e1 I1 s1 jt xx115=>?_⟩
   obtain ⟨P,p0,turn,fin⟩:=xx115
   refine ⟨fun i m σ' H'=>m=ds.length-i∧i≤ds.length ∧ ∃ e' F',EnvOk X.K M F' H' e' σ'∧Same F1 F'∧P i e',⟨ds.length,by simp,Nat.zero_le _,e1,F1,I1,.refl _,p0⟩,fun i m σ2 H2 xx114=>?_⟩
   obtain ⟨hm,hi,e2,F2,I2,s2,p2⟩:=xx114
   by_cases hl:i=ds.length
   ·subst hl
    exact .inl ⟨jt.stop H2 (s2.trans I2.fh),k.nx e2 F2 H2 σ2 I2 (s1.trans s2) (fin e2 p2)⟩
   ·have hlt:i<ds.length:=by omega
    refine .inr ⟨jt.go i H2 (s2.trans I2.fh) hlt,fun σ' H' => ∃ e' F',EnvOk X.K M F' H' e' σ'∧Same F1 F'∧P (i+1) e',fun σ' H' z=>⟨ds.length-(i+1),by omega,rfl,hlt,z⟩,fun x H3 hy=>?_⟩
    obtain ⟨d,F3,hd,g,j⟩:=jt.yld i H2 x H3 F2 s2 I2.fh hlt hy
    refine ⟨M,e2,F3,d,_,I2.go g,j,turn i d e2 hd p2,fun F4 H4 e4 σ4 I4 s4 h4=>⟨M,e4,F4,_,I4,h4,?_⟩⟩
    have s14:=s2.trans (g.f.trans s4)
    exact ⟨fun e5 F5 H5 σ5 I5 s5 p5=>⟨e5,F5,I5,s14.trans s5,p5⟩,fun r v e5 F5 H5 σ5 I5 s5=>k.rt r v e5 F5 H5 σ5 I5 ((s1.trans s14).trans s5),
     fun e5 F5 H5 σ5 I5 s5=>k.nx e5 F5 H5 σ5 I5 ((s1.trans s14).trans s5),fun e5 F5 H5 σ5 I5 s5 p5=>⟨e5,F5,I5,s14.trans s5,p5⟩⟩
end
end
end L2
namespace L2
open PySem PySem.Spec PyProof.Rows
section
variable {X:Cx}
theorem preSum_list : ∀ (ns:List Int) (n:Nat),n≤ns.length→preSum (fun i=>(ns[i]?).getD 0) n=(ns.take n).sum
 | ns,0,_=>by simp [preSum]
 | ns,n+1,h=>by
  have hn:n<ns.length:=h
  have e:(ns[n]?).getD 0=ns[n]:=by rw [List.getElem?_eq_getElem hn];rfl
  have e2:(ns.take n++[ns[n]]).sum=(ns.take n).sum+ns[n]:=by rw [List.sum_append];simp
  rw [preSum,preSum_list ns n (Nat.le_of_lt hn),e,List.take_add_one,List.getElem?_eq_getElem hn]
  exact e2.symm
theorem ints_get : ∀ {ns:List Int}{us:List Value},Vals (ns.map V.int) us → ∀ (i:Nat) (v:Value),us[i]?=some v → ∃ t,v = .int ((ns[i]?).getD 0) t
 | [],_,h,i,v,e=>by cases h;simp at e
 | n::ns,_,h,i,v,e=>by
  cases h with
  | cons r t =>
   cases i with
   | zero =>
    obtain ⟨k,rfl⟩:=r
    have:Value.int n k=v:=by simpa using e
    exact ⟨k,by rw [← this];rfl⟩
   | succ i =>
    obtain ⟨k,hk⟩:=ints_get t i v (by simpa using e)
    exact ⟨k,by simpa using hk⟩
def rSum (K:PySem.W.Frag):List V→Hp→VK→Prop:=fun xs H Q => ∃ (a:Addr) (ns:List Int),xs=[.ref a]∧(SqL K H a (ns.map V.int)∨SqT K H a (ns.map V.int))∧Q (.int ns.sum) H
theorem call_sum (hc:X.calm=true):CallR X (.builtin "sum") (rSum X.K):=by
 intro pins s σ H xs us Q I r h
 obtain ⟨a,ns,rfl,ha,q⟩:=h
 obtain ⟨u,rfl,rx⟩:=vals1 r
 cases rx
 have fin : ∀ (its:List Value) (h':Heap) (tk t':Nat),its.length=ns.length→(∀ b o,s.heap.get? b=some o→h'.get? b=some o)→EP X pins σ Q (.int (preSum (fun i=>(ns[i]?).getD 0) its.toArray.size) t') { s with heap:=h',toks:=tk }:=fun its h' tk t' hl hk=>by
  have e:preSum (fun i=>(ns[i]?).getD 0) its.toArray.size=ns.sum:=by
   rw [List.size_toArray,hl,preSum_list ns _ (Nat.le_refl _),List.take_length]
  rw [e]
  exact ⟨.int ns.sum,H,I.kept (t':=tk) hk,⟨t',rfl⟩,q⟩
 have old : ∀ {h':Heap}{ob:Obj},(∀ b o,b ∉ [s.heap.objs.size]→(s.heap.push ob).get? b=some o→h'.get? b=some o) → ∀ b o,s.heap.get? b=some o→h'.get? b=some o:=fun hk b o z =>
  hk b o (fun hm=>by rw [List.mem_singleton.mp hm] at z;exact Nat.lt_irrefl _ (Heap.lt_size z)) (Heap.get?_push_of_some _ z)
 rcases ha with ha|ha
 ·obtain ⟨its,rv,pl,_⟩:=I.list ha
  have hl:=pl.isList
  have hlt:a<s.heap.objs.size:=pl.lt
  have hlen:its.length=ns.length:=by rw [← rv.length,List.length_map]
  refine call_sum_walkG (wpAny_pyIter_list hl ?_)
  refine ⟨s.heap.objs.size,[s.heap.objs.size,a],[s.heap.objs.size],its.toArray.size,_,_,fun i=>(ns[i]?).getD 0,rfl,Walks.list (A:=X.A.in1) (I.ok.hd hc) _ a (Nat.ne_of_lt hlt) its.toArray,
   ⟨⟨_,Heap.get?_push_size _ rfl,rfl,rfl⟩,hl.push _⟩,fun b hb=>?_,fun i v hP=>ints_get rv i v (by simpa using hP),fun h' tk t' hk=>fin its h' tk t' hlen (old hk)⟩
  have hb':b=s.heap.objs.size∨b=a:=by simpa using hb
  rw [Heap.size_push]
  rcases hb' with rfl|rfl
  ·exact Nat.lt_succ_self _
  ·exact Nat.lt_succ_of_lt hlt
 ·obtain ⟨its,rv,pl,_⟩:=I.tuple ha
  have hl:s.heap.IsTuple a its.toArray:=pl
  have hlt:a<s.heap.objs.size:=IsTup.lt pl
  have hlen:its.length=ns.length:=by rw [← rv.length,List.length_map]
  refine call_sum_walkG (wpAny_pyIter_tuple hl ?_)
  refine ⟨s.heap.objs.size,[s.heap.objs.size,a],[s.heap.objs.size],its.toArray.size,_,_,fun i=>(ns[i]?).getD 0,rfl,Walks.tuple (A:=X.A.in1) (I.ok.hd hc) _ a (Nat.ne_of_lt hlt) its.toArray,
   ⟨⟨_,Heap.get?_push_size _ rfl,rfl,rfl⟩,pl.push _⟩,fun b hb=>?_,fun i v hP=>ints_get rv i v (by simpa using hP),fun h' tk t' hk=>fin its h' tk t' hlen (old hk)⟩
  have hb':b=s.heap.objs.size∨b=a:=by simpa using hb
  rw [Heap.size_push]
  rcases hb' with rfl|rfl
  ·exact Nat.lt_succ_self _
  ·exact Nat.lt_succ_of_lt hlt
def iAny (K:PySem.W.Frag) (tl:TE):TI:=fun σ H R=>tl σ H fun x H1 => ∃ a,x = .ref a∧(((∃ xs,SqL K H1 a xs)∧R (Itl K a) H1)∨((∃ xs,SqT K H1 a xs)∧R (Itt K a) H1))
theorem pi_any {tg l:Expr}{tl:TE} (hl:PE X l tl):PI X tg l (iAny X.K tl):=by
 intro pins s σ H R I h
 refine thn (hl pins s σ H _ I h) fun v s1 xx117=>?_
 obtain ⟨x,H1,I1,r1,q1⟩:=xx117
 obtain ⟨a,e,q1⟩:=q1
 subst e
 cases r1
 rcases q1 with ⟨⟨xs,hq⟩,q⟩|⟨⟨xs,hq⟩,q⟩
 ·obtain ⟨its,rv,p,hz⟩:=I1.list hq
  refine wpAny_pyIter_list p.isList ?_
  refine ⟨s1.heap.objs.size,[s1.heap.objs.size],_,_,H1,rfl,I1.kept (t':=s1.toks) fun b o e=>Heap.get?_push_of_some _ e,turn_list a _,⟨_,Heap.get?_push_size _ rfl,rfl,rfl⟩,fun b hb=>?_,q⟩
  have e:b=s1.heap.objs.size:=by simpa using hb
  subst e
  exact I1.fpOk (Nat.le_refl _) (I1.hok.fresh (Nat.le_refl _))
 ·obtain ⟨its,rv,p,hz⟩:=I1.tuple hq
  refine wpAny_pyIter_tuple (show s1.heap.IsTuple a its.toArray from p) ?_
  refine ⟨s1.heap.objs.size,[s1.heap.objs.size],_,_,H1,rfl,I1.kept (t':=s1.toks) fun b o e=>Heap.get?_push_of_some _ e,turn_tuple a _,⟨_,Heap.get?_push_size _ rfl,rfl,rfl⟩,fun b hb=>?_,q⟩
  have e:b=s1.heap.objs.size:=by simpa using hb
  subst e
  exact I1.fpOk (Nat.le_refl _) (I1.hok.fresh (Nat.le_refl _))
end
theorem boot_sum:bootBuiltins "sum" = some (.builtin "sum"):=by decide +kernel
end L2
namespace L2
open PySem PySem.Spec PyProof.Rows
section
variable {X:Cx}
theorem itd_lst {K:PySem.W.Frag}{F:Hp}{a:Addr}{xs:List V}{l:List PyData} (hs:SqL K F a xs) (hr:Iss K F l xs):ItD K (Itl K a) F l where
 go:=fun i H s hi=>⟨xs,xs[i]'(by rw [hr.len];exact hi),s.seq hs,List.getElem?_eq_getElem _⟩
 stop:=fun H s=>⟨xs,s.seq hs,by rw [hr.len];exact Nat.le_refl _⟩
 yld:=fun i H x H' F1 s1 s2 hi hy=>by
  obtain ⟨rfl,hy⟩:=hy
  obtain ⟨d,e1,e2⟩:=hr.get' (hy xs ((s1.trans s2).seq hs))
  exact ⟨d,F1,e1,.refl s2,e2.mono s1⟩
theorem itd_tup {K:PySem.W.Frag}{F:Hp}{a:Addr}{xs:List V}{l:List PyData} (hs:SqT K F a xs) (hr:Iss K F l xs):ItD K (Itt K a) F l where
 go:=fun i H s hi=>⟨xs,xs[i]'(by rw [hr.len];exact hi),same_seqT s hs,List.getElem?_eq_getElem _⟩
 stop:=fun H s=>⟨xs,same_seqT s hs,by rw [hr.len];exact Nat.le_refl _⟩
 yld:=fun i H x H' F1 s1 s2 hi hy=>by
  obtain ⟨rfl,hy⟩:=hy
  obtain ⟨d,e1,e2⟩:=hr.get' (hy xs (same_seqT (s1.trans s2) hs))
  exact ⟨d,F1,e1,.refl s2,e2.mono s1⟩
def rngD (lo:Int) (n:Nat):List PyData:=(List.range n).map fun (k:Nat) => .int (lo+(k:Int))
theorem rngD_len (lo:Int) (n:Nat):(rngD lo n).length=n:=by simp [rngD]
theorem rngD_get {lo:Int}{n i:Nat} (h:i<n):(rngD lo n)[i]?=some (.int (lo+i)):=by simp [rngD,h]
theorem rngD_inv {lo:Int}{n i:Nat}{d:PyData} (h:(rngD lo n)[i]?=some d):i<n∧d = .int (lo+i):=by
 have hi:i<n:=by
  have:=(List.getElem?_eq_some_iff.mp h).1
  rwa [rngD_len] at this
 rw [rngD_get hi] at h
 exact ⟨hi,(Option.some.inj h).symm⟩
theorem itd_rng {K:PySem.W.Frag}{F:Hp}{lo:Int}{n:Nat}:ItD K (Itr lo n) F (rngD lo n) where
 go:=fun i H s hi=>by rw [rngD_len] at hi;exact hi
 stop:=fun H s=>by rw [rngD_len];exact Nat.le_refl _
 yld:=fun i H x H' F1 s1 s2 hi hy=>by
  obtain ⟨rfl,rfl⟩:=hy
  rw [rngD_len] at hi
  exact ⟨_,F1,rngD_get hi,.refl s2,is_int _⟩
def enumD (l:List PyData):List PyData:=(List.range l.length).map fun (k:Nat) => .tuple [.int k,(l[k]?).getD .none]
theorem enumD_len (l:List PyData):(enumD l).length=l.length:=by simp [enumD]
theorem enumD_get {l:List PyData}{i:Nat}{d:PyData} (h:l[i]?=some d):(enumD l)[i]?=some (.tuple [.int i,d]):=by
 have hi:=(List.getElem?_eq_some_iff.mp h).1
 have e:l[i]=d:=by rw [List.getElem?_eq_getElem hi] at h;exact Option.some.inj h
 simp [enumD,hi,e]
theorem enumD_inv {l:List PyData}{i:Nat}{d:PyData} (h:(enumD l)[i]?=some d) : ∃ x,l[i]?=some x∧d = .tuple [.int i,x]:=by
 have hi:i<l.length:=by
  have:=(List.getElem?_eq_some_iff.mp h).1
  rwa [enumD_len] at this
 have e:=enumD_get (List.getElem?_eq_getElem hi)
 rw [h] at e
 exact ⟨_,List.getElem?_eq_getElem hi,Option.some.inj e⟩
theorem itd_enum {K:PySem.W.Frag}{F:Hp}{a:Addr}{xs:List V}{l:List PyData} (hs:SqL K F a xs) (hr:Iss K F l xs):ItD K (Ite K a) F (enumD l) where
 go:=fun i H s hi=>by rw [enumD_len] at hi;exact ⟨xs,xs[i]'(by rw [hr.len];exact hi),s.seq hs,List.getElem?_eq_getElem _⟩
 stop:=fun H s=>by rw [enumD_len];exact ⟨xs,s.seq hs,by rw [hr.len];exact Nat.le_refl _⟩
 yld:=fun i H x H' F1 s1 s2 hi hy=>by
  obtain ⟨p,y,hy,hp,rfl,rfl⟩:=hy
  obtain ⟨d,e1,e2⟩:=hr.get' (hy xs ((s1.trans s2).seq hs))
  have g:=Go.put (o:=HO.tup [.int i,y]) s2 hp
  exact ⟨_,_,enumD_get e1,g,is_tup (SqT.of upd_same) (iss_cons (is_int _) (iss_cons ((e2.mono s1).mono g.f) iss_nil))⟩
section
variable {tg a b c:Expr}{W:WE}{Wr:WF}{p pos:Pos}
def isTy (T:String):PyData→Bool
 | .none=>false
 | .bool _=>T == "bool" || T == "int"
 | .int _=>T == "int"
 | .str _=>T == "str"
 | .list _=>T == "list"
 | .tuple _=>T == "tuple"
 | .dict _=>T == "dict"
def dSum:DC
 | [.list l],q => ∃ ns:List Int,l=ns.map .int∧q (.int ns.sum)
 | [.tuple l],q => ∃ ns:List Int,l=ns.map .int∧q (.int ns.sum)
 | _,_=>False
def seqD:PyData→Option (List PyData)
 | .list l=>some l
 | .tuple l=>some l
 | _=>none
def wiSeq (W:WE):WF:=fun env Q=>W env fun d e=>(seqD d).elim False fun l=>Q l e
theorem vi_seq (h:VE X a W):VI X tg a (wiSeq W):=(pi_any h).imp fun σ H R xx118=>by
 obtain ⟨M,env,F,Q,I,h,k⟩:=xx118
 refine ⟨M,env,F,_,I,h,fun d v F1 H1 e1 I1 s1 i1 h1=>?_⟩
 cases d with
 | list l =>
  obtain ⟨b,xs,rfl,hs,hr⟩:=i1.lst_inv
  exact ⟨b,rfl,.inl ⟨⟨xs,I1.fh.seq hs⟩,k l _ F1 H1 e1 I1 s1 (itd_lst hs hr) h1⟩⟩
 | tuple l =>
  obtain ⟨b,xs,rfl,hs,hr⟩:=i1.tup_inv
  exact ⟨b,rfl,.inr ⟨⟨xs,same_seqT I1.fh hs⟩,k l _ F1 H1 e1 I1 s1 (itd_tup hs hr) h1⟩⟩
 | _=>exact False.elim h1
def wiR1 (W:WE):WF:=fun env Q=>W env fun d e=>match d with
 | .int j=>(-(2^62)≤j∧j<2^62)∧Q (rngD 0 j.toNat) e
 | _=>False
theorem vi_range1 (hm:X.mg "range" = none) (ha:VE X a W) (hg:Gl X "range":=by rfl) (hs:starEach [a] X.env=[(false,eval a X.env)]:=by rfl) (hs':starEach [a] X.env=(false,eval a X.env)::starEach [] X.env:=by rfl):VI X tg (.Call (.Name "range" p) [a] [] pos) (wiR1 W) :=
 (pi_range1 hg hm (pa_cons ha pa_nil hs') hs).imp fun σ H R xx119=>by
  obtain ⟨M,env,F,Q,I,h,k⟩:=xx119
  refine ⟨M,env,F,_,I,h,fun d v F1 H1 e1 I1 s1 i1 h1=>?_⟩
  cases d with
  | int j=>exact ⟨j,by rw [i1.int_inv],h1.1.1,h1.1.2,k _ _ F1 H1 e1 I1 s1 itd_rng h1.2⟩
  | _=>exact False.elim h1
def wiEn (W:WE):WF:=fun env Q=>W env fun d e=>match d with
 | .list l=>Q (enumD l) e
 | _=>False
theorem vi_enum {elts:List Expr}{x1:Nat}{tpos:Pos} (hm:X.mg "enumerate" = none) (ha:VE X a W) (hg:Gl X "enumerate":=by rfl) (hs:starEach [a] X.env=[(false,eval a X.env)]:=by rfl) (hs':starEach [a] X.env=(false,eval a X.env)::starEach [] X.env:=by rfl) :
 VI X (.Tuple elts x1 tpos) (.Call (.Name "enumerate" p) [a] [] pos) (wiEn W) :=
 (pi_enum hg hm (pa_cons ha pa_nil hs') hs).imp fun σ H R xx120=>by
  obtain ⟨M,env,F,Q,I,h,k⟩:=xx120
  refine ⟨M,env,F,_,I,h,fun d v F1 H1 e1 I1 s1 i1 h1=>?_⟩
  cases d with
  | list l =>
   obtain ⟨b,xs,rfl,hs,hr⟩:=i1.lst_inv
   exact ⟨b,rfl,⟨xs,I1.fh.seq hs⟩,k _ _ F1 H1 e1 I1 s1 (itd_enum hs hr) h1⟩
  | _=>exact False.elim h1
end
def Sl.seen:Sl→Sl
 | .val d => .val d
 | .new d => .val d
 | _ => .non
def capE (ix:List Nat) (k:Nat) (env:Sto):Sto:=ix.map (fun i=>(gS env i).seen)++List.replicate k .non
def wComp (ix:List Nat) (k:Nat) (Wi:WF) (G:WG) (We:WE):WF:=fun env Q=>Wi env fun ds e0=>ds.length<sizeLine ∧ ∃ P:Nat→List PyData→Sto→Prop,P 0 [] (capE ix k e0) ∧
 (∀ i d ys e,ds[i]?=some d→P i ys e→G d e fun e1=>We e1 fun y e2=>P (i+1) (ys++[y]) e2) ∧ ∀ ys e,P ds.length ys e→Q ys e0
theorem gS_map : ∀ (ix:List Nat) (f:Nat→Sl) (r:Sto) (j:Nat),gS (ix.map f++r) j=match ix[j]? with|some i=>f i|none=>gS r (j-ix.length)
 | [],f,r,j=>by simp
 | i::ix,f,r,0=>by simp [gS]
 | i::ix,f,r,j+1=>by simp only [List.map_cons,List.cons_append,gS,List.getElem?_cons_succ,List.length_cons,Nat.add_sub_add_right];exact gS_map ix f r j
theorem gS_rep (k j:Nat):gS (List.replicate k .non) j = .non:=by
 induction k generalizing j with
 | zero=>simp [gS]
 | succ k ih=>cases j with
  | zero=>simp [List.replicate_succ,gS]
  | succ j=>simp only [List.replicate_succ,gS];exact ih j
theorem vS_cap (ix:List Nat) (k:Nat) (σ:St) (j i:Nat) (h:ix[j]?=some i):vS (capS ix k σ) j=vS σ i:=by
 have hj:=(List.getElem?_eq_some_iff.mp h).1
 unfold vS capS
 rw [List.getElem?_append_left (by simpa using hj),List.getElem?_map,h]
 rfl
theorem EnvOk.cap {K:PySem.W.Frag}{M:Frm}{F H:Hp}{env:Sto}{σ:St} (I:EnvOk K M F H env σ) (ix:List Nat) (k:Nat):EnvOk K ⟨H,H,F⟩ F H (capE ix k env) (capS ix k σ) where
 len:=by simp [capE,capS]
 slot:=fun j=>by
  unfold capE
  rw [gS_map]
  cases h:ix[j]? with
  | none=>rw [gS_rep];trivial
  | some i =>
   show SlotOk K _ F H (gS env i).seen _
   rw [vS_cap ix k σ j i h]
   have S:=I.slot i
   cases q:gS env i with
   | val d=>rw [q] at S;exact S
   | non=>trivial
   | own ds=>trivial
   | pen ds=>trivial
   | new d=>rw [q] at S;obtain ⟨v,e,j⟩:=S;exact ⟨v,e,j.is newF_le⟩
   | exc C=>trivial
   | obj a0 C nm fs=>trivial
 dis:=fun i j a _ h1=>by
  unfold capE at h1
  rw [gS_map] at h1
  cases h:ix[i]? with
  | none=>rw [h,gS_rep] at h1;cases h1
  | some n =>
   rw [h] at h1
   replace h1:(gS env n).seen.mut=true:=h1
   cases q:gS env n <;> rw [q] at h1 <;> cases h1
 f0 :=.refl _
 fe:=I.fh
 fh:=I.fh
 bh :=.refl _
 new:=fun b o e => .inl e
 dom:=fun b o e=>⟨o,e⟩
theorem EnvOk.goOf {K:PySem.W.Frag}{F H F' H':Hp}{env:Sto}{σ:St} (I:EnvOk K ⟨H,H,F⟩ F' H' env σ):Go F H F' H':=⟨I.f0,I.bh,I.fh,I.new⟩
section
variable {K:PySem.W.Frag}{ix:List Nat}{n:Nat}{Wi:WF}{G:WG}{We:WE}{σ:St}{H:Hp}{R:VK}
theorem comp_lift (h:liftF K (wComp ix n Wi G We) σ H R):tComp ix n (liftI K Wi) (liftG K G) (liftE K We) σ H R:=by
 obtain ⟨M,env,F,Q,I,h,k⟩:=h
 refine ⟨M,env,F,_,I,h,fun ds J F1 H1 e1 I1 s1 jt xx122=>?_⟩
 obtain ⟨hz,P,p0,turn,fin⟩:=xx122
 refine ⟨fun i m ys σ1 H'=>m=ds.length-i∧i≤ds.length ∧ ∃ e' F' l,EnvOk K ⟨H1,H1,F1⟩ F' H' e' σ1∧Iss K F' l ys∧ys.length=i∧P i l e',⟨ds.length,by simp,Nat.zero_le _,capE ix n e1,F1,[],I1.cap ix n,iss_nil,rfl,p0⟩,?_⟩
 rintro i m ys σ1 H2 ⟨hm,hi,e2,F2,l,I2,i2,hl,p2⟩
 have g2:=I2.goOf
 by_cases he:i=ds.length
 ·subst he
  exact .inl ⟨jt.stop H2 (g2.f.trans g2.fh),by omega,new_lst (I1.go g2) (s1.trans g2.f) i2 (fin l e2 p2) k⟩
 ·have hlt:i<ds.length:=by omega
  refine .inr ⟨jt.go i H2 (g2.f.trans g2.fh) hlt,by omega,fun y σ' H' => ∃ e' F' l',EnvOk K ⟨H1,H1,F1⟩ F' H' e' σ'∧Iss K F' l' (ys++[y])∧P (i+1) l' e',
   fun y σ' H' xx121=>by obtain ⟨e',F',l',I',i',p'⟩:=xx121;exact ⟨ds.length-(i+1),by omega,rfl,hlt,e',F',l',I',i',by simp [hl],p'⟩,fun x H3 hy=>?_⟩
  obtain ⟨d,F3,hd,g,j⟩:=jt.yld i H2 x H3 F2 g2.f g2.fh hlt hy
  refine ⟨_,e2,F3,d,_,I2.go g,j,turn i d l e2 hd p2,fun F4 H4 e4 σ4 I4 s4 h4=>⟨_,e4,F4,_,I4,h4,fun d5 v5 F5 H5 e5 I5 s5 i5 h5=>?_⟩⟩
  exact ⟨e5,F5,l++[d5],I5,iss_append ((i2.mono (g.f.trans s4)).mono s5) (iss_cons i5 iss_nil),h5⟩
end
theorem vf_comp {elt target iter:Expr}{scope:Scope}{pos:Pos}{caps own:List Str}{ix:List Nat}{Wi:WF}{G:WG}{We:WE} (hc:X.calm=true) (S:CompScope X.env scope caps) (hi:VI X target iter Wi)
 (hg : ∀ pins s3 H ex,VG (blk X pins scope (caps++own) s3 H ex) target G)
 (he : ∀ pins s3 H ex,VE (blk X pins scope (caps++own) s3 H ex) elt We)
 (hix:caps.length=ix.length:=by rfl) (hcapB:(caps.zip ix).all (fun p=>X.N[p.2]?==some p.1)=true:=by rfl)
  (hs : ∀ x,foldedSetIterable iter X.env x=pure x:=by intro _;rfl):VF X (.ListComp elt [⟨target,iter,[],0⟩] scope pos) (wComp ix own.length Wi G We) :=
  (pe_comp (g:=liftG X.K G) (te:=liftE X.K We) hc S hi hg he hix hcapB hs).imp fun _ _ _ h=>comp_lift h
theorem comp_by {ix:List Nat}{k:Nat}{G:WG}{We:WE}{Q:List PyData→Sto→Prop}{ds:List PyData}{e0:Sto} (L:List PyData) (hl:L.length=ds.length) (hz:L.length<sizeLine) (Iv:Sto→Prop) (h0:Iv (capE ix k e0))
 (h : ∀ (i:Nat) d ys e,ds[i]?=some d→ys=L.take i→Iv e→G d e fun e1=>We e1 fun y e2=>ys++[y]=L.take (i+1)∧Iv e2) (q:Q L e0) :
 ds.length<sizeLine ∧ ∃ P:Nat→List PyData→Sto→Prop,P 0 [] (capE ix k e0)∧(∀ i d ys e,ds[i]?=some d→P i ys e→G d e fun e1=>We e1 fun y e2=>P (i+1) (ys++[y]) e2) ∧ ∀ ys e,P ds.length ys e→Q ys e0 :=
  ⟨by omega,fun i ys e=>ys=L.take i∧Iv e,⟨by simp,h0⟩,fun i d ys e hd hp=>h i d ys e hd hp.1 hp.2,fun ys e hp=>by rw [hp.1,← hl,List.take_length];exact q⟩
theorem snoc_take {α:Type}{L ys:List α}{y:α}{i:Nat} (e:L[i]?=some y) (h:ys=L.take i):ys++[y]=L.take (i+1):=by
 rw [h,List.take_add_one,e];rfl
def wIsi (T:String) (W:WE):WE:=fun env Q=>W env fun d e=>Q (.bool (isTy T d)) e
section
variable {a:Expr}{W:WE}{p pos pT:Pos}{T:String}{t:Str}
theorem ve_isi (hm:X.mg "isinstance" = none) (ht:X.mg t=none) (hv:bootBuiltins t=some (.type T)) (ha:VE X a W) (hk : ∀ d,PySem.W.kitOne X.K (.type (tyD d)) (.type T)=some (isTy T d):=by intro d;cases d <;> rfl)
 (hg:Gl X "isinstance":=by rfl) (hgt:Gl X t:=by rfl) (hn:t ≠ "__name__":=by decide) (hdt:(t==("__debug__" : Str))=false:=by decide)
 (hs:starEach [a,.Name t pT] X.env=(false,eval a X.env)::starEach [.Name t pT] X.env:=by rfl) (hs2:starEach [.Name t pT] X.env=(false,eval (.Name t pT) X.env)::starEach [] X.env:=by rfl) (hpl:(backTo pos (starEach [.Name t pT] X.env)).any (·.1)=false:=by rfl) :
 VE X (.Call (.Name "isinstance" p) [a,.Name t pT] [] pos) (wIsi T W) :=
 (pe_callB call_isi hg hm boot_isinstance (pa_cons ha (pa_cons (pe_bltn (v :=.ty T) hgt ht hv rfl hn hdt) pa_nil hs2) hs) (by decide) (by decide) hs hpl).imp fun σ H R xx123=>by
  obtain ⟨M,env,F,Q,I,h,k⟩:=xx123
  exact ⟨M,env,F,_,I,h,fun d v F1 H1 e1 I1 s1 i1 h1=>⟨d,v,T,isTy T d,rfl,i1.mono I1.fh,hk d,k _ _ F1 H1 e1 I1 s1 (is_bl _) h1⟩⟩
end
theorem c_sum (hc:X.calm=true):CallV X (.builtin "sum") dSum:=(call_sum hc).imp fun xs H Q xx124=>by
 obtain ⟨F,ds,q,s,i,h,k⟩:=xx124
 match ds,h,i with
 | [.list l],h,i =>
  obtain ⟨v,rfl,j⟩:=iss1 i
  obtain ⟨a,xs,rfl,hs,hr⟩:=j.lst_inv
  obtain ⟨ns,rfl,hq⟩:=h
  rw [hr.ints_inv] at hs
  exact ⟨a,ns,rfl,.inl (s.seq hs),k _ _ F H (.refl s) (is_int _) hq⟩
 | [.tuple l],h,i =>
  obtain ⟨v,rfl,j⟩:=iss1 i
  obtain ⟨a,xs,rfl,hs,hr⟩:=j.tup_inv
  obtain ⟨ns,rfl,hq⟩:=h
  rw [hr.ints_inv] at hs
  exact ⟨a,ns,rfl,.inr (same_seqT s hs),k _ _ F H (.refl s) (is_int _) hq⟩
end
def startE (N:List Str) (ds:List PyData):Sto:=ds.map .val++List.replicate (N.length-ds.length) .non
theorem gS_val : ∀ (ds:List PyData) (r:Sto) (j:Nat),gS (ds.map .val++r) j=match ds[j]? with|some d => .val d|none=>gS r (j-ds.length)
 | [],r,j=>by simp
 | i::ix,r,0=>by simp [gS]
 | i::ix,r,j+1=>by simp only [List.map_cons,List.cons_append,gS,List.getElem?_cons_succ,List.length_cons,Nat.add_sub_add_right];exact gS_val ix r j
theorem vS_start {N:List Str}{vs:List V}{j:Nat}{v:V} (h:vs[j]?=some v):vS (start N vs) j=some v:=by
 have hj:=(List.getElem?_eq_some_iff.mp h).1
 unfold vS start
 rw [List.getElem?_append_left (by simpa using hj),List.getElem?_map,h]
 rfl
theorem env_start {K:PySem.W.Frag}{F H:Hp}{N:List Str}{ds:List PyData}{vs:List V} (s:Same F H) (i:Iss K F ds vs):EnvOk K ⟨H,H,F⟩ F H (startE N ds) (start N vs) where
 len:=by simp [startE,start,i.len]
 slot:=fun j=>by
  unfold startE
  rw [gS_val]
  cases h:ds[j]? with
  | none=>rw [gS_rep];trivial
  | some d =>
   obtain ⟨x,e1,e2⟩:=i.get h
   exact ⟨x,vS_start e1,e2⟩
 dis:=fun i j a _ h1=>by
  unfold startE at h1
  rw [gS_val] at h1
  cases h:ds[i]? with
  | none=>rw [h,gS_rep] at h1;cases h1
  | some d=>rw [h] at h1;cases h1
 f0 :=.refl _
 fe:=s
 fh:=s
 bh :=.refl _
 new:=fun b o e => .inl e
 dom:=fun b o e=>⟨o,e⟩
section
variable {P:Program}{w:World}{K:PySem.W.Frag}{mg:Str→Option Value}{base:Heap}
theorem RetOk.is {F H F' H':Hp}{env:Sto}{σ:St}{r:Ret}{v:V} (I:EnvOk K ⟨H,H,F⟩ F' H' env σ) (h:RetOk K ⟨H,H,F⟩ F' H' r v) : ∃ F'',Go F H F'' H'∧Is K F'' r.data v:=by
 have g:=I.goOf
 cases r with
 | val d=>exact ⟨F',g,h⟩
 | new d=>exact ⟨F',g,IsN.is newF_le h⟩
 | own ds =>
  obtain ⟨a,vs,rfl,h1,h2,h3,h4,h5⟩:=h
  have s:Same F' (upd F' a (.lst vs)):=same_new h2
  refine ⟨upd F' a (.lst vs),⟨g.f.trans s,g.h,fun b o e=>?_,fun b o e=>?_⟩,is_lst (SqL.of upd_same) (h5.mono s)⟩
  ·by_cases z:b=a
   ·subst z;rw [upd_same] at e;rw [h1];exact .of e
   ·rw [upd_ne z] at e;exact g.fh b o e
  ·by_cases z:b=a
   ·subst z;exact .inr h4
   ·rw [upd_ne z] at e;exact g.new b o e
theorem Def.vok {x:Str}{st:Stmt}{N ps:List Str}{k:Nat}{sp:DC} (F:Def K mg x st ps) (S:FnScope N ps (defScope st)) (len : ∀ ds q,sp ds q→ds.length=ps.length)
 (hbody : ∀ (f:Addr) (cdv:Value) (A:Around) (outer:List Env) (s:Shared) (H:Hp) (E:XK),Room k (A.deeper (envOfC x (defScope st) s.heap.objs.size f cdv)) → ∀ ds q,sp ds q →
 ∃ W,VSs (cxOf CX0 P w K mg base N x (defScope st) f cdv A outer s H E).nox (defBody st) W∧W { nx:=fun _=>q .none,rt:=fun r _=>q r.data } (startE N ds)):Ok P w K mg base x (k+1) ps (PSp K sp) :=
  F.ok S (fun vs H Q E xx126=>by obtain ⟨F,ds,q,_,i,h,_⟩:=xx126;rw [i.len];exact len ds q h) fun f cdv A outer s H vs Q E hr xx125=>by
   obtain ⟨F,ds,q,sm,i,h,kk⟩:=xx125
   obtain ⟨W,hW,hq⟩:=hbody f cdv A outer s H E hr ds q h
   refine ⟨_,hW,⟨H,H,F⟩,startE N ds,F,_,env_start sm i,hq,⟨fun e1 F1 H1 σ1 I1 s1 q1=>kk _ _ F1 H1 I1.goOf is_non q1,fun r v e1 F1 H1 σ1 I1 s1 r1 q1=>?_,fun _ _ _ _ _ _ h=>h.elim,fun _ _ _ _ _ _ h=>h.elim⟩⟩
   obtain ⟨F2,g,j⟩:=r1.is I1
   exact kk _ _ F2 H1 g j q1
theorem Def.vokF {x:Str}{st:Stmt}{N ps:List Str}{k:Nat}{sp:List PyData→(List PyData→Prop)→Prop} (F:Def K mg x st ps) (S:FnScope N ps (defScope st)) (len : ∀ ds q,sp ds q→ds.length=ps.length)
 (hbody : ∀ (f:Addr) (cdv:Value) (A:Around) (outer:List Env) (s:Shared) (H:Hp) (E:XK),Room k (A.deeper (envOfC x (defScope st) s.heap.objs.size f cdv)) → ∀ ds q,sp ds q →
 ∃ W,VSs (cxOf CX0 P w K mg base N x (defScope st) f cdv A outer s H E).nox (defBody st) W∧W { nx:=fun _=>False,rt:=fun r _ => ∃ l,r = .own l∧q l } (startE N ds)):Ok P w K mg base x (k+1) ps (FSp K sp) :=
  F.ok S (fun vs H Q E xx128=>by obtain ⟨F,ds,q,_,i,h,_⟩:=xx128;rw [i.len];exact len ds q h) fun f cdv A outer s H vs Q E hr xx127=>by
   obtain ⟨F,ds,q,sm,i,h,kk⟩:=xx127
   obtain ⟨W,hW,hq⟩:=hbody f cdv A outer s H E hr ds q h
   refine ⟨_,hW,⟨H,H,F⟩,startE N ds,F,_,env_start sm i,hq,⟨fun e1 F1 H1 σ1 I1 s1 q1=>q1.elim,fun r v e1 F1 H1 σ1 I1 s1 r1 q1=>?_,fun _ _ _ _ _ _ h=>h.elim,fun _ _ _ _ _ _ h=>h.elim⟩⟩
   obtain ⟨l,rfl,q1⟩:=q1
   obtain ⟨a,vs,rfl,h1,h2,h3,h4,h5⟩:=r1
   exact kk l a vs F1 H1 I1.goOf h4 h2 h1 h5 q1
def spLaw (K:PySem.W.Frag):Sp:=fun vs H Q _ => ∃ (a:Addr) (ns:List Int),vs=[.ref a]∧SqL K H a (ns.map V.int)∧ns.length≤63 ∧ ∀ H',Q (.bl true) H'
end
end L2
namespace L2
open PySem PySem.Spec PyProof.Rows
section
variable (K:PySem.W.Frag)
def liftN (W:WE):TE:=fun σ H R => ∃ M env F Q,EnvOk K M F H env σ∧W env Q ∧ ∀ d v F' H' env',EnvOk K M F' H' env' σ→Same F F'→IsN K (newF M F') d v→Q d env'→R v H'
def liftFN (W:WF):TE:=fun σ H R => ∃ M env F Q,EnvOk K M F H env σ∧W env Q ∧ ∀ a vs ds F' H' env',EnvOk K M F' H' env' σ→Same F F'→H' a=some (.lst vs)→F' a=none→M.B a=none→M.He a=none →
 (∀ i,(gS env' i).mut=true→vS σ i≠some (.ref a))→IssN K (newF M F') ds vs→Q ds env'→R (.ref a) H'
structure EndsT (M:Frm) (DD:WEnds) (D:Ends):Prop where
 nx : ∀ env' F' H' σ',EnvOk K M F' H' env' σ'→DD.nx env'→D.nx σ' H'
 rt : ∀ r v env' F' H' σ',EnvOk K M F' H' env' σ'→RetOk K M F' H' r v→DD.rt r env'→D.rt v H'
 bk : ∀ env' F' H' σ',EnvOk K M F' H' env' σ'→DD.bk env'→D.bk σ' H'
 ct : ∀ env' F' H' σ',EnvOk K M F' H' env' σ'→DD.ct env'→D.ct σ' H'
def liftST (W:WS):TS:=fun D σ H => ∃ M env F DD,EnvOk K M F H env σ∧W DD env∧EndsT K M DD D
end
def VN (X:Cx) (e:Expr) (W:WE):Prop:=PE X e (liftN X.K W)
def VFN (X:Cx) (e:Expr) (W:WF):Prop:=PE X e (liftFN X.K W)
def VST (X:Cx) (st:Stmt) (W:WS):Prop:=PS X st (liftST X.K W)
def VSsT (X:Cx) (st:List Stmt) (W:WS):Prop:=PSs X st (liftST X.K W)
section
variable {X:Cx}{a b e:Expr}{W:WE}{Wf:WF}{pos p:Pos}
end
section
variable {P:Program}{w:World}{K:PySem.W.Frag}{mg:Str→Option Value}{base:Heap}
end
section
variable {X:Cx}{c e:Expr}{Tc:WT}{W:WE}{Wt Wu:WS}{st:Stmt}{sts rest:List Stmt}{pos pos':Pos}
mutual
def immD:PyData→Bool
 | .list _=>false
 | .tuple l=>immAll l
 | .dict _=>false
 | _=>true
def immAll:List PyData→Bool
 | []=>true
 | d::l=>immD d&&immAll l
end
mutual
theorem Is.imm {K:PySem.W.Frag}{F F':Hp} (s : ∀ b o,F b=some o→(∀ xs,o ≠ .lst xs)→F' b=some o) : ∀ {d:PyData}{v:V},immD d=true→Is K F d v→Is K F' d v
 | .none,_,_,h=>by unfold Is at h ⊢;exact h
 | .bool _,_,_,h=>by unfold Is at h ⊢;exact h
 | .int _,_,_,h=>by unfold Is at h ⊢;exact h
 | .str _,_,_,h=>by unfold Is at h ⊢;exact h
 | .list l,_,m,h=>by unfold immD at m;cases m
 | .dict l,_,m,h=>by unfold immD at m;cases m
 | .tuple l,_,m,h=>by
  unfold immD at m
  unfold Is at h ⊢
  obtain ⟨a,xs,e,q,r⟩:=h
  refine ⟨a,xs,e,?_,Iss.imm s m r⟩
  rcases q with (q|⟨o,q⟩)|q
  ·exact .inl (.inl (s _ _ q (fun _ z=>nomatch z)))
  ·exact .inl (.inr ⟨o,s _ _ q (fun _ z=>nomatch z)⟩)
  ·exact .inr q
theorem Iss.imm {K:PySem.W.Frag}{F F':Hp} (s : ∀ b o,F b=some o→(∀ xs,o ≠ .lst xs)→F' b=some o) : ∀ {l:List PyData}{xs:List V},immAll l=true→Iss K F l xs→Iss K F' l xs
 | [],_,_,h=>by unfold Iss at h ⊢;exact h
 | d::l,_,m,h=>by
  unfold immAll at m
  rw [Bool.and_eq_true] at m
  unfold Iss at h ⊢
  obtain ⟨x,r,e,p,q⟩:=h
  exact ⟨x,r,e,Is.imm s m.1 p,Iss.imm s m.2 q⟩
end
end
section
variable {X:Cx}
end
end L2
namespace L2
open PySem PySem.Spec PyProof.Rows
section
variable {X:Cx}{elt target iter:Expr}{scope:Scope}{pos:Pos}{caps own:List Str}{ix:List Nat}{wi:TI}{g:TG}{te:TE}
theorem ps_comp {i:Nat}{y:Str}{py spos:Pos} (hN:X.N.Nodup) (hiy:X.N[i]?=some y) (hy:X.env.scope.names.lookup y=some .local) (hsw:swapsWith (.ListComp elt [⟨target,iter,[],0⟩] scope pos) (some (.Name y py)) spos.line X.env=pure true) (hc:X.calm=true) (S:CompScope X.env scope caps) (hi:PI X target iter wi)
 (hg : ∀ pins s3 H ex,PG (blk X pins scope (caps++own) s3 H ex) target g)
 (he : ∀ pins s3 H ex,PE (blk X pins scope (caps++own) s3 H ex) elt te)
 (hix:caps.length=ix.length:=by rfl) (hcapB:(caps.zip ix).all (fun p=>X.N[p.2]?==some p.1)=true:=by rfl)
  (hs : ∀ x,foldedSetIterable iter X.env x=pure x:=by intro _;rfl):PS X (.Assign [.Name y py] (.ListComp elt [⟨target,iter,[],0⟩] scope pos) spos) (tAsg (tComp ix own.length wi g te) (gName i)):=by
  intro pins s σ H D I h
  rw [exec_Assign_Name_used _ _ _ _ hsw]
  refine wpAny_bind (wpAny_standAt (wpAny_bind ?_))
  show wpAny _ _ (do let _ ← comprehension (.ListComp elt [⟨target,iter,[],0⟩] scope pos) scope X.env _ (newList []) false (eval iter X.env) (some (assign (.Name y py) X.env))) _ _ s
  refine wpAny_bind (thn (comp_core0 (use:=some (assign (.Name y py) X.env)) (Q0:=fun _ s'=>SP X pins D .next s') hc S hi hg he hix hcapB hs I h fun D' C s6 H6 m6 ns6 IX c1 c2 c3 c4 c5 c6 q=>?_) (fun _ s' hq=>wpAny_pure (wpAny_pure hq)))
  obtain ⟨oC,esC,epC,hoC,hdC,rC⟩:=id ns6
  have IX':Inv X (pins++[(C,oC)]) σ H6 s6:=IX.pins_of fun p hp=>by
   rcases List.mem_append.mp hp with z|z
   ·exact IX.pin p (List.mem_append_right _ z)
   ·rw [List.mem_singleton.mp z]
    exact ⟨hoC,c1,c2,c3,fun v q=>by rw [hdC] at q;cases q⟩
  show wpAny _ _ (assign (.Name y py) X.env (.ref D')) _ _ _
  refine wpAny_assign_Name (store_ok IX' hN hiy (Or.inl hy) (v :=.ref D') rfl (fun s7 I7=>?_) (.inr hy))
  have gC:s7.heap.get? C=some oC:=(I7.pin (C,oC) (List.mem_append_right _ (List.mem_append_right _ (List.mem_singleton.mpr rfl)))).1
  refine ⟨m6,⟨oC,esC,epC,gC,hdC,rC⟩,fun h' sb=>?_⟩
  exact ⟨_,_,I7.unpinned.turned (t':=s7.toks) (it:=C) (fun b o hb q=>sb.extBut b o hb q) c1 c2 c4 c5 c6,q⟩
end
section
variable {K:PySem.W.Frag}{ix:List Nat}{n:Nat}{Wi:WF}{G:WG}{We:WE}{σ:St}{H:Hp}{R:VK}
end
section
variable {X:Cx}{elt target iter:Expr}{scope:Scope}{pos py spos:Pos}{caps own:List Str}{ix:List Nat}{Wi:WF}{G:WG}{We:WE}{i:Nat}{y:Str}
theorem vs_setC (hN:X.N.Nodup) (hc:X.calm=true) (S:CompScope X.env scope caps) (hi:VI X target iter Wi) (hg : ∀ pins s3 H ex,VG (blk X pins scope (caps++own) s3 H ex) target G) (he : ∀ pins s3 H ex,VE (blk X pins scope (caps++own) s3 H ex) elt We)
 (hiy:X.N[i]?=some y:=by rfl) (hy:X.env.scope.names.lookup y=some .local:=by rfl) (hsw:swapsWith (.ListComp elt [⟨target,iter,[],0⟩] scope pos) (some (.Name y py)) spos.line X.env=pure true:=by rfl)
  (hix:caps.length=ix.length:=by rfl) (hcapB:(caps.zip ix).all (fun p=>X.N[p.2]?==some p.1)=true:=by rfl) (hs : ∀ x,foldedSetIterable iter X.env x=pure x:=by intro _;rfl) :
  VS X (.Assign [.Name y py] (.ListComp elt [⟨target,iter,[],0⟩] scope pos) spos) (wSet i (wL (wComp ix own.length Wi G We))) :=
  (ps_comp (wi:=liftI X.K Wi) (g:=liftG X.K G) (te:=liftE X.K We) hN hiy hy hsw hc S hi hg he hix hcapB hs).imp fun D σ H ⟨M,env,F,DD,I,h,k⟩=>comp_lift ⟨M,env,F,_,I,h,fun a vs ds F1 H1 e1 I1 s1 h1 h2 h3 h4 h5 h6 h7=>by
   obtain ⟨J,s⟩:=I1.frz h1 h2 h4 h5
   exact k.nx _ _ H1 _ (J.setv (is_lst (SqL.of upd_same) (h6.mono s))) (s1.trans s) h7⟩
theorem vs_setCO (hN:X.N.Nodup) (hc:X.calm=true) (S:CompScope X.env scope caps) (hi:VI X target iter Wi) (hg : ∀ pins s3 H ex,VG (blk X pins scope (caps++own) s3 H ex) target G) (he : ∀ pins s3 H ex,VE (blk X pins scope (caps++own) s3 H ex) elt We)
 (hiy:X.N[i]?=some y:=by rfl) (hy:X.env.scope.names.lookup y=some .local:=by rfl) (hsw:swapsWith (.ListComp elt [⟨target,iter,[],0⟩] scope pos) (some (.Name y py)) spos.line X.env=pure true:=by rfl)
  (hix:caps.length=ix.length:=by rfl) (hcapB:(caps.zip ix).all (fun p=>X.N[p.2]?==some p.1)=true:=by rfl) (hs : ∀ x,foldedSetIterable iter X.env x=pure x:=by intro _;rfl) :
  VS X (.Assign [.Name y py] (.ListComp elt [⟨target,iter,[],0⟩] scope pos) spos) (wSetO i (wComp ix own.length Wi G We)) :=
  (ps_comp (wi:=liftI X.K Wi) (g:=liftG X.K G) (te:=liftE X.K We) hN hiy hy hsw hc S hi hg he hix hcapB hs).imp fun D σ H ⟨M,env,F,DD,I,h,k⟩=>comp_lift ⟨M,env,F,_,I,h,fun a vs ds F1 H1 e1 I1 s1 h1 h2 h3 h4 h5 h6 h7 =>
   k.nx _ F1 H1 _ (I1.seto h1 h2 h3 h4 h5 h6) s1 h7⟩
end
end L2
namespace L2
open PySem PySem.Spec PyProof.Rows
section
variable {X:Cx}{tg:Expr}
end
def offA (H:Hp) (a:Addr):Hp:=fun b=>if b=a then none else H b
section
variable {X:Cx}
end
section
variable {P:Program}{w:World}{K:PySem.W.Frag}{mg:Str→Option Value}{base:Heap}
end
end L2
namespace L2
open PySem PySem.Spec PyProof.Rows
section
variable {X:Cx}{elt target iter:Expr}{scope:Scope}{pos py spos:Pos}{caps own:List Str}{ix:List Nat}{Wi:WF}{G:WG}{We:WE}{i i0 j0:Nat}{y:Str}
end
end L2
namespace L2
open PySem PySem.Spec PyProof.Rows
theorem ObjOk.obj {P:Program}{w:World}{H:Hp}{h:Heap}{a:Addr}{o:HO} (x:ObjOk P w H h a o) : ∃ u,h.get? a=some u:=by
 cases o with
 | lst xs=>obtain ⟨_,_,_,_,e⟩:=x;exact ⟨_,e⟩
 | tup xs=>obtain ⟨_,_,_,ob,e,_⟩:=x;exact ⟨_,e⟩
 | dK kvs=>obtain ⟨_,_,_,_,o,_,_,e,_⟩:=x;exact ⟨_,e⟩
 | dT kvs=>obtain ⟨_,_,_,_,o,_,_,e,_⟩:=x;exact ⟨_,e⟩
 | set S n=>obtain ⟨o,_,_,_,e,_⟩:=x;exact ⟨_,e⟩
 | ins C dx fs=>obtain ⟨_,_,_,e,_⟩:=x;exact ⟨_,e⟩
 | own y=>exact x
 | xd fs=>obtain ⟨_,⟨_,_,_,e,_⟩,_⟩:=x;exact ⟨_,e⟩
 | rng lo hi=>obtain ⟨_,_,_,e⟩:=x;exact ⟨_,e⟩
 | frz ob u=>obtain ⟨e,_⟩:=x;exact ⟨_,e⟩
 | tbl ps=>exact ⟨_,(show h.get? a=some _ from x)⟩
 | met f y=>exact ⟨_,(show h.get? a=some _ from x)⟩
 | ext φ=>obtain ⟨_,e,_⟩:=x;exact e
def CX1 (P:Program) (w:World):CXT:=fun outer H s E e s' => ∃ (ea C:Addr) (a0:Value) (B:Heap) (H':Hp),e = .ref ea∧Heap.FlyingW B outer ea (.ref C) a0 s'.heap∧s'.os=s.os∧AllBare s'.gens ∧
 Un (frs outer) [] H H' s.heap s'.heap∧HOk P w H' s'.heap∧(∀ b u,H' b=some u → ∃ o,B.get? b=some o)∧(∀ b o,s.heap.get? b=some o→b ∉ frs outer → ∃ o',B.get? b=some o')∧E (.ref C) none H'
section
variable {X:Cx}{pins:List (Addr×Obj)}{σ:St}{H:Hp}{s:Shared}
theorem land (I:Inv X pins σ H s) (hex:X.ex=[]) (hst:X.stack=X.env::X.outer) (hfr:X.env.frame=some X.env.locals) {h'':Heap}
 (kB : ∀ b o,s.heap.get? b=some o→b ∉ frs X.stack→((∃ o',X.s₀.heap.get? b=some o') ∨ ∃ u,H b=some u)→h''.get? b=some o)
 (sl : ∀ b o,s.heap.get? b=some o→(∀ vs,o.data ≠ .fields vs) → ∃ sl,h''.get? b=some { o with slots:=sl }):Un X.fs [] X.H₀ H X.s₀.heap h''∧HOk X.prog X.w H h'':=by
  have fsOf : ∀ b,b ∈ frs X.stack→b=X.env.locals∨b ∈ X.fs:=fun b hb=>by
   rcases List.mem_cons.mp (I.stkSub b hb) with z|z
   ·exact .inl z
   ·exact .inr z
  have old : ∀ b o,X.s₀.heap.get? b=some o→b ∉ X.fs→b ∉ frs X.stack:=fun b o q n hb=>by
   rcases fsOf b hb with z|z
   ·exact absurd (Heap.lt_size q) (Nat.not_lt.mpr (z ▸ I.ok.above))
   ·exact n z
  have nx : ∀ b,b ∉ X.ex:=fun b=>by rw [hex];simp
  have frame : ∀ b ∈ X.fs,∃ o,s.heap.get? b=some o ∧ ∀ vs,o.data ≠ .fields vs:=fun b hb=>by
   have hb':b ∈ frs X.stack:=by
    rw [hst]
    unfold frs
    rw [List.filterMap_cons,hfr]
    exact List.mem_cons_of_mem _ hb
   obtain ⟨_,o,ho,hd⟩:=I.stack.mem hb'
   exact ⟨o,ho,hd⟩
  refine ⟨⟨fun b o q n hb _=>kB b o (I.base.keep b o q n hb (nx b)) (old b o q hb) (.inl ⟨o,q⟩),fun b o q n hb _=>?_,fun b o q n _=>I.base.free b o q n (nx b),fun b o q _=>?_,I.base.tups,I.base.frzs,I.base.tbls⟩,fun a u e=>?_⟩
  ·obtain ⟨s1,h1⟩:=I.base.slot b o q n hb (nx b)
   obtain ⟨o',ho',hd⟩:=frame b hb
   rw [h1] at ho';cases ho'
   obtain ⟨s2,h2⟩:=sl b _ h1 hd
   exact ⟨s2,h2⟩
  ·obtain ⟨o',h1⟩:=I.base.there b o q (nx b)
   by_cases hb:b ∈ X.fs
   ·obtain ⟨o2,ho2,hd⟩:=frame b hb
    obtain ⟨s2,h2⟩:=sl b _ ho2 hd
    exact ⟨_,h2⟩
   ·exact ⟨o',kB b o' h1 (old b o q hb) (.inl ⟨o,q⟩)⟩
  ·have nf : ∀ b v,H b=some v→b ∉ frs X.stack:=fun b v eb hb=>by rw [I.stkFree b hb] at eb;cases eb
   refine (I.hok a u e).stay (fun c ob hc z=>?_) (fun c z=>z) (fun c xs z=>z)
   rcases hc with hc|hc
   ·subst hc;exact kB _ _ z (nf _ _ e) (.inr ⟨_,e⟩)
   ·exact kB _ _ z (nf _ _ hc) (.inr ⟨_,hc⟩)
end
def Throws (X:Cx) (E:XK):Prop := ∀ (pins:List (Addr×Obj)) (σ:St) (H:Hp) (s:Shared) (h':Heap) (e C:Addr) (args:List Value),Inv X pins σ H s→Heap.MadeExcOf s.heap h' e (.ref C) args→E (.ref C) none H→X.xe (.ref e) { s with heap:=h' }
section
variable {P:Program}{w:World}{K:PySem.W.Frag}{mg:Str→Option Value}{base:Heap}{N:List Str}{qual:Str}{scope:Scope}{f:Addr}{cd:Value}{A:Around}{outer:List Env}{s:Shared}{H:Hp}{E:XK}
theorem throws_cx:Throws (cxOf (CX1 P w) P w K mg base N qual scope f cd A outer s H E) E:=by
 intro pins σ H1 s1 h' e C args I hx q
 have hin : ∀ env ∈ (cxOf (CX1 P w) P w K mg base N qual scope f cd A outer s H E).stack,∀ b,env.frame=some b→b ∈ frs (cxOf (CX1 P w) P w K mg base N qual scope f cd A outer s H E).stack:=fun env he b hb=>List.mem_filterMap.mpr ⟨env,he,hb⟩
 refine wpAny_leaves_madeW (base:=PySem.W.hideAll s1.heap (frs (cxOf (CX1 P w) P w K mg base N qual scope f cd A outer s H E).stack)) (h:=s1.heap) (s:={ s1 with heap:=h' }) I.ok.frames rfl (fun b o z=>PySem.W.of_hideAll _ z) (PySem.W.funFrames_hide I.stack hin) hx fun h'' t x1 x2 x3 x4=>?_
 have kB : ∀ b o,s1.heap.get? b=some o→b ∉ frs (cxOf (CX1 P w) P w K mg base N qual scope f cd A outer s H E).stack→h''.get? b=some o:=fun b o z n=>x1.1 b o (PySem.W.hideAll_get _ z n)
 obtain ⟨u,ok⟩:=land I rfl rfl rfl (fun b o z n _=>kB b o z n) (fun b o z d=>x4 b o (hx.keeps b o z) d)
 have nf : ∀ b v,H1 b=some v→b ∉ frs (cxOf (CX1 P w) P w K mg base N qual scope f cd A outer s H E).stack:=fun b v eb hb=>by rw [I.stkFree b hb] at eb;cases eb
 refine ⟨e,C,.ref t,_,H1,rfl,x1,I.os,I.bare,u,ok,fun b v eb=>?_,fun b o z n=>?_,q⟩
 ·obtain ⟨o,ho⟩:=(I.hok b v eb).obj
  exact ⟨o,PySem.W.hideAll_get _ ho (nf b v eb)⟩
 ·obtain ⟨o',ho'⟩:=I.base.there b o z (by simp [cxOf])
  refine ⟨o',PySem.W.hideAll_get _ ho' fun hb=>?_⟩
  rcases List.mem_cons.mp (I.stkSub b hb) with y|y
  ·exact absurd (Heap.lt_size z) (Nat.not_lt.mpr (y ▸ I.ok.above))
  ·exact n y
theorem passes_cx:Passes (CX1 P w) (cxOf (CX1 P w) P w K mg base N qual scope f cd A outer s H E) E:=by
 intro pins σ H1 s1 e s' I hx
 obtain ⟨ea,C,a0,B,H',rfl,fl,os,bare,u,ok,tB,pB,q⟩:=hx
 have I':Inv (cxOf (CX1 P w) P w K mg base N qual scope f cd A outer s H E) pins σ H' s':=I.call' os u ok bare fun b hb=>nomatch hb
 refine wpAny_leaves_onW I.ok.frames rfl fl fun h'' x1 x4=>?_
 have old : ∀ b o,s.heap.get? b=some o→b ∉ frs outer → ∃ o',B.get? b=some o':=fun b o z n=>by
  obtain ⟨o',ho'⟩:=I.base.there b o z (by simp [cxOf])
  refine pB b o' ho' fun hb=>?_
  rcases List.mem_cons.mp (I.stkSub b hb) with y|y
  ·exact absurd (Heap.lt_size z) (Nat.not_lt.mpr (y ▸ I.ok.above))
  ·exact n y
 have kB : ∀ b o,s'.heap.get? b=some o→b ∉ frs (cxOf (CX1 P w) P w K mg base N qual scope f cd A outer s H E).stack→((∃ o',s.heap.get? b=some o') ∨ ∃ v,H' b=some v)→h''.get? b=some o:=fun b o z n t=>by
  obtain ⟨o',ho'⟩ : ∃ o',B.get? b=some o':=by
   rcases t with ⟨o',t⟩|⟨v,t⟩
   ·exact old b o' t fun hb=>n (List.mem_cons_of_mem _ hb)
   ·exact tB b v t
  have:=fl.1 b o' ho'
  rw [z] at this;cases this
  exact x1.1 b _ ho'
 obtain ⟨u',ok'⟩:=land I' rfl rfl rfl kB (fun b o z d=>x4 b o z d)
 exact ⟨ea,C,a0,B,H',rfl,x1,I'.os,I'.bare,u',ok',tB,old,q⟩
end
end L2
namespace L2
open PySem PySem.Spec PyProof.Rows
def mroIn (K:PySem.W.Frag) (C:Addr):List Value:=match K.lookup C with
 | some ⟨_,_,.cls cd,_⟩=>cd.mro
 | _=>[]
theorem exc_obj {K:PySem.W.Frag}{h:Heap}{C:Addr}{bmB:List Value}{newId:String} (X:K.In h) (q:PySem.W.excIn K C bmB newId=true) :
 ∃ bm N nm qn bs hd sn sub ab col dd k0 k1 k2 k3 k5 mN,h.get? C=some (excClassObj nm qn C N bs bm hd sn sub ab col dd k0 k1 k2 k3 k5 newId)∧h.Ns N mN∧mN "__init__" = none∧OwnTail h bmB bm∧mroIn K C = .ref C::bm:=by
  unfold PySem.W.excIn at q
  split at q
  case h_2=>cases q
  rename_i dd c sl ho
  split at q
  case h_2=>cases q
  rename_i C' bm k0 k1 k2 k3 n k5 hm hs
  simp only [Bool.and_eq_true,beq_iff_eq,Bool.not_eq_true'] at q
  obtain ⟨⟨⟨⟨⟨e1,e2⟩,hdel⟩,ht⟩,hok⟩,hni⟩:=q
  have hC:=X _ _ ho
  have hs':sl = #[k0,k1,k2,k3,some (.builtin n),k5]:=Array.ext' hs
  cases c
  dsimp only at hm hdel hok hni
  subst e1 e2 hm hdel hs'
  exact ⟨bm,_,_,_,_,_,_,_,_,_,dd,k0,k1,k2,k3,k5,_,hC,.of_isNs (PySem.W.isNs_of_in X hok),PySem.W.nsMap_none_of_in X hok hni,PySem.W.tail_of_in X ht,by unfold mroIn;rw [ho]⟩
abbrev bmVE:List Value:=[.type "ValueError",.type "Exception",.type "BaseException",.type "object"]
def tRaise (C:Addr) (E:XK) (t:TA):TS:=fun _ σ H=>t σ H fun vs H'=>vs.length≤sizeLine∧E (.ref C) none H'
section
variable {X:Cx}{x:Str}{C:Addr}{E:XK}{e:Expr}{es:List Expr}{t:TA}{np cpos pos:Pos}
theorem ps_raise (hT:Throws X E) (hc:X.calm=true) (hg:Gl X x) (hm:X.mg x=some (.ref C)) (hq:PySem.W.excIn X.K C bmVE "ValueError.__new__" = true) (ha:PA X (e::es) t)
 (hdb:(x==("__debug__" : Str))=false:=by decide) (he:starEach (e::es) X.env=(false,eval e X.env)::starEach es X.env:=by rfl) (hpl:(backTo cpos (starEach es X.env)).any (·.1)=false:=by rfl) :
  PS X (.Raise (some (.Call (.Name x np) (e::es) [] cpos)) none pos) (tRaise C E t):=by
  intro pins s σ H D I h
  obtain ⟨bm,N,nm,qn,bs,hd,sn,sub,ab,col,dd,k0,k1,k2,k3,k5,mN,hC,hN,hni,T,_⟩:=exc_obj I.mod.kin hq
  refine wpAny_Raise_call_subU (C:=C) (nm:=nm) (q:=qn) (N:=N) (bs:=bs) (bm:=bm) (hdct:=hd) (sn:=sn) (sub:=sub) (ab:=ab) (col:=col) (dd:=dd) (k0:=k0) (k1:=k1) (k2:=k2) (k3:=k3) (k5:=k5)
   PySem.F.excBase_ValueError (by decide) PySem.F.excBase_ValueError (mN:=mN) (T.hasType PySem.F.excBase_ValueError.hasBase) (I.ok.hd hc) (by rw [he];show (false||(backTo cpos (starEach es X.env)).any (·.1))=false;rw [hpl];rfl) hni
   (ld_glob I hg hm ⟨rfl,?_⟩ hdb)
  have h1:=ha cpos pins s σ H _ I h
  rw [he] at h1 ⊢
  refine Calls.evalArgs_plain (thn h1 fun us s1 xx131=>?_)
  obtain ⟨vs,H1,I1,r,q⟩:=xx131
  exact ⟨rfl,r.length ▸ q.1,I1.bk _ _ hC,hN.keeps I1.bk,T.keeps I1.bk,fun h' ea hx=>hT pins σ H1 s1 h' ea C us I1 hx q.2⟩
end
end L2
namespace L2
open PySem PySem.Spec PyProof.Rows
section
variable {M:Model}{A:Around}{E:Value→Shared→Prop}{C N C' N':Addr}{nm nm' q q':Str}{bs bm bs' bm':List Value}
theorem excMatches_own {h:Heap}{g:Array GenState}{d:Drawn}{t:Nat}{os:OsState}{e:Addr}{oe:Obj}{Q:Bool→Shared→Prop}{hdct sn sub ab col dd k0 k1 k2 k3 k5 newId hdct' sn' sub' ab' col' dd' k0' k1' k2' k3' k5' newId'}
 (hC:h.get? C=some (excClassObj nm q C N bs bm hdct sn sub ab col dd k0 k1 k2 k3 k5 newId)) (hC':h.get? C'=some (excClassObj nm' q' C' N' bs' bm' hdct' sn' sub' ab' col' dd' k0' k1' k2' k3' k5' newId'))
 (he:h.get? e=some oe) (hcls:oe.cls = .ref C) (hbase:bm'.contains (.type "BaseException")=true) (b:Bool) (hb:(Value.ref C::bm).contains (.ref C')=b)
 (hq:Q b ⟨h,g,d,t,os⟩):wpAny M A (excMatches (.ref e) (.ref C')) Q E ⟨h,g,d,t,os⟩:=by
  have hcB:(Value.ref C'::bm').contains (.type "BaseException")=true:=by rw [List.contains_cons,hbase,Bool.or_true]
  have f:=tc_notTuple
  unfold excMatches
  repeat (first|(with_reducible refine wpAny_loadPart_at he ?_;rw [hcls])|with_reducible refine wpAny_loadPart_at hC' ?_|(with_reducible refine wpAny_isSubtype_exc hC' ?_;rw [hcB])|(with_reducible refine wpAny_isSubtype_exc hC ?_;rw [hb])|wp_step)
  cases b <;> (wp_walk;exact hq)
end
section
variable {X:Cx}{pins:List (Addr×Obj)}{σ:St}{H1 H2:Hp}{s1 s':Shared}{B h5:Heap}
theorem Inv.flown (I:Inv X pins σ H1 s1) (os:s'.os=s1.os) (bare:AllBare s'.gens) (u:Un (frs X.stack) [] H1 H2 s1.heap s'.heap) (ok:HOk X.prog X.w H2 s'.heap)
 (tB : ∀ b v,H2 b=some v → ∃ o,B.get? b=some o) (pB : ∀ b o,s1.heap.get? b=some o→b ∉ frs X.stack → ∃ o',B.get? b=some o') (fl:B.StaysIn s'.heap) (st:B.StaysIn h5) (up:s'.heap.UpToSlots h5) (hst : ∀ b ∈ X.fs,b ∈ frs X.stack) :
 Inv X pins σ H2 { s' with heap:=h5 }:=by
  obtain ⟨hh,g',d',t',o'⟩:=s'
  have e:o'=s1.os:=os
  subst e
  have inB : ∀ b o,B.get? b=some o→hh.get? b=some o:=fl
  have kB : ∀ b o,hh.get? b=some o→(∃ o',B.get? b=some o')→h5.get? b=some o:=fun b o z xx132=>by
   obtain ⟨o',t⟩:=xx132
   have:=inB b o' t
   rw [z] at this;cases this
   exact st b _ t
  have nofr : ∀ b,b ∈ frs X.stack → ∃ o,s1.heap.get? b=some o ∧ ∀ vs,o.data ≠ .fields vs:=fun b hb=>by
   obtain ⟨_,o,ho,hd⟩:=I.stack.mem hb
   exact ⟨o,ho,hd⟩
  have sl : ∀ b o,b ∈ frs X.stack→s1.heap.get? b=some o→H1 b=none → ∃ sl,h5.get? b=some { o with slots:=sl }:=fun b o hb z n=>by
   obtain ⟨o2,ho2,hd⟩:=nofr b hb
   rw [z] at ho2;cases ho2
   obtain ⟨x1,y1⟩:=u.any z n (by simp)
   obtain ⟨x2,y2⟩:=up b _ y1 hd
   exact ⟨x2,y2⟩
  show Inv X pins σ H2 { s1 with heap:=h5,gens:=g',drawn:=d',toks:=t' }
  refine Inv.step (s:=s1) (ch:=[]) I (fun b z=>nomatch z) (fun b o hL hb _ z n=>?_) (fun b o hL hb _ z n=>sl b o (hst b hb) z n) (fun b o _ z n=>u.free b o z n (by simp)) (fun b o _ z=>?_) u.tups u.frzs u.tbls (fun m hm=>?_) (fun b v eb=>?_) bare
  ·have nf:b ∉ frs X.stack:=fun hq=>(List.mem_cons.mp (I.stkSub b hq)).elim hL hb
   exact kB b o (u.keep b o z n nf (by simp)) (pB b o z nf)
  ·by_cases hq:b ∈ frs X.stack
   ·obtain ⟨x,y⟩:=sl b o hq z (I.stkFree b hq)
    exact ⟨_,y⟩
   ·obtain ⟨o',t⟩:=pB b o z hq
    exact ⟨o',st b o' t⟩
  ·obtain ⟨o,es,ep,ho,r⟩:=hm
   by_cases hq:X.env.locals ∈ frs X.stack
   ·obtain ⟨x,y⟩:=sl _ o hq ho I.free
    exact ⟨_,es,ep,y,r⟩
   ·exact ⟨o,es,ep,kB _ o (u.keep _ o ho I.free hq (by simp)) (pB _ o ho hq),r⟩
  ·refine (ok b v eb).stay (fun c ob hc z=>?_) (fun c z=>z) (fun c xs z=>z)
   rcases hc with hc|hc
   ·subst hc;exact kB _ _ z (tB _ _ eb)
   ·exact kB _ _ z (tB _ _ hc)
end
section
variable {X:Cx}{pins:List (Addr×Obj)}{σ:St}{H:Hp}{s:Shared}
theorem Inv.caught {C ea:Addr}{oe:Obj}{ws:Array Value} (I:Inv X pins σ H s) (hn:H ea=none) (he:s.heap.get? ea=some oe) (hc:oe.cls = .ref C) (hd:oe.data = .fields ws) (hpn : ∀ p ∈ X.pn++pins,p.1≠ea)
 (h0 : ∀ b o,X.s₀.heap.get? b=some o→b ∉ X.ex→b≠ea):Inv X pins σ (upd H ea (excO C ea)) s:=by
  have up : ∀ b,b≠ea→upd H ea (excO C ea) b=H b:=fun b hb=>by unfold upd;rw [if_neg hb]
  have neT : ∀ b v,H b=some v→upd H ea (excO C ea) b=some v:=fun b v e=>by
   rw [up b fun z=>by rw [z,hn] at e;cases e];exact e
  have nL:X.env.locals≠ea:=fun z=>by
   obtain ⟨m,⟨o,es,ep,ho,ho2,_⟩,_⟩:=I.loc
   rw [z,he] at ho;cases ho;rw [hd] at ho2;cases ho2
  have nC : ∀ x c,X.env.cells.lookup x=some c→c≠ea:=fun x c e z=>by
   obtain ⟨v,o,ho,ho2⟩:=I.cell x c e
   rw [z,he] at ho;cases ho;rw [hd] at ho2;cases ho2
  refine ⟨I.ok,I.os,I.bare,⟨I.base.keep,I.base.slot,fun b o e n hx=>?_,I.base.there,fun b xs e=>neT _ _ (I.base.tups b xs e),fun b o xs e=>neT _ _ (I.base.frzs b o xs e),fun b ps e=>?_⟩,I.loc,I.cell,?_,fun x c e=>?_,fun p hp=>?_,fun b v e=>?_,I.len⟩
  ·rw [up b (h0 b o e hx)];exact I.base.free b o e n hx
  ·obtain ⟨more,q,gm⟩:=I.base.tbls b ps e
   exact ⟨more,neT _ _ q,gm.mono fun b o u z=>neT _ _ z⟩
  ·rw [up _ nL];exact I.free
  ·rw [up _ (nC x c e)];exact I.freeC x c e
  ·obtain ⟨a1,a2,a3⟩:=I.pin p hp
   exact ⟨a1,(up _ (hpn p hp)).trans a2,a3⟩
  ·by_cases z:b=ea
   ·subst z
    have e':excO C b=v:=by unfold upd at e;rw [if_pos rfl] at e;exact Option.some.inj e
    subst e'
    exact ⟨⟨oe,he,hc⟩,⟨oe,he⟩,fun h1 h2 xx133 k=>by obtain ⟨o,q1,q2⟩:=xx133;exact ⟨o,k o q1,q2⟩⟩
   ·rw [up b z] at e
    exact (I.hok b v e).stay (fun c ob _ q=>q) (fun c q=>neT _ _ q) (fun c xs q=>neT _ _ q)
end
end L2
namespace L2
open PySem PySem.Spec PyProof.Rows
section
variable {X:Cx}{pins pins0:List (Addr×Obj)}{σ:St}{H:Hp}{s:Shared}
abbrev Cx.inX (X:Cx) (A':Around) (xe':Value→Shared→Prop):Cx:={ X with A:=A',calm:=false,xe:=xe' }
abbrev Cx.inT (X:Cx) (pn':List (Addr×Obj)) (xe':Value→Shared→Prop):Cx:={ X with pn:=pn',xe:=xe' }
theorem Inv.toX {A':Around}{xe':Value→Shared→Prop} (I:Inv X pins σ H s) (hA:A'.frames=X.A.frames):Inv (X.inX A' xe') pins σ H s :=
 ⟨⟨I.ok.mod,I.ok.kind,I.ok.glob,I.ok.blt,I.ok.above,I.ok.inj,I.ok.has,I.ok.cab,(fun z=>by cases z),hA.trans I.ok.frames,I.ok.stk,I.ok.exf,I.ok.bs,I.ok.bsz,I.ok.noex,I.ok.exfs,I.ok.funs,I.ok.frf⟩,
  I.os,I.bare,I.base,I.loc,I.cell,I.free,I.freeC,I.pin,I.hok,I.len⟩
theorem Inv.ofX {A':Around}{xe':Value→Shared→Prop} (ok:X.Ok) (I:Inv (X.inX A' xe') pins σ H s):Inv X pins σ H s :=
 ⟨ok,I.os,I.bare,I.base,I.loc,I.cell,I.free,I.freeC,I.pin,I.hok,I.len⟩
theorem Inv.toT {xe':Value→Shared→Prop} (I:Inv X pins0 σ H s):Inv (X.inT (X.pn++pins0) xe') [] σ H s :=
 ⟨⟨I.ok.mod,I.ok.kind,I.ok.glob,I.ok.blt,I.ok.above,I.ok.inj,I.ok.has,I.ok.cab,I.ok.hd,I.ok.frames,I.ok.stk,I.ok.exf,I.ok.bs,I.ok.bsz,I.ok.noex,I.ok.exfs,I.ok.funs,I.ok.frf⟩,
  I.os,I.bare,I.base,I.loc,I.cell,I.free,I.freeC,fun p hp=>I.pin p (by simpa using hp),I.hok,I.len⟩
theorem Inv.ofT {xe':Value→Shared→Prop} (ok:X.Ok) (I:Inv (X.inT (X.pn++pins0) xe') pins σ H s):Inv X pins0 σ H s :=
 ⟨ok,I.os,I.bare,I.base,I.loc,I.cell,I.free,I.freeC,fun p hp=>I.pin p (List.mem_append_left _ hp),I.hok,I.len⟩
theorem goes_ok {M:Model}{A:Around}{E:Value→Shared→Prop}{i:Nat}{n:Str}{pos:Pos}{Q:Unit→Shared→Prop} (I:Inv X pins σ H s) (hN:X.N.Nodup) (hi:X.N[i]?=some n) (hl:X.env.scope.names.lookup n=some .local)
 (h : ∀ s',Inv X pins (σ.set i none) H s'→Q () s'):wpAny M A (do bindName X.env n .none;unbindBehindTheSuite X.env n pos) Q E s:=by
  obtain ⟨m,hn,hl'⟩:=id I.loc
  have hcls:(X.env.scope.kind == .class||(X.env.scope.kind == .module&&X.env.locals != X.env.globals))=false:=by rw [I.ok.kind];rfl
  refine wpAny_nameGoes_keeps hl hn hcls fun h' v hn' hs=>h _ ?_
  have lt : ∀ b o,X.s₀.heap.get? b=some o→b≠X.env.locals:=fun b o e=>Nat.ne_of_lt (Nat.lt_of_lt_of_le (Heap.lt_size e) I.ok.above)
  refine ⟨I.ok,I.os,I.bare,⟨fun b o e a c d=>(hs.2 b (lt b o e)).trans (I.base.keep b o e a c d),fun b o e a c d=>?_,I.base.free,fun b o e d=>?_,I.base.tups,I.base.frzs,I.base.tbls⟩,⟨_,hn',fun j y v' e1 e2 e3=>?_⟩,fun y c e=>?_,I.free,I.freeC,fun p hp=>?_,fun b ob e=>?_,by simpa using I.len⟩
  ·obtain ⟨sl,e1⟩:=I.base.slot b o e a c d
   exact ⟨sl,(hs.2 b (lt b o e)).trans e1⟩
  ·obtain ⟨o',e1⟩:=I.base.there b o e d
   exact ⟨o',(hs.2 b (lt b o e)).trans e1⟩
  ·have hj:j≠i:=fun z=>by
    subst z
    rw [List.getElem?_set] at e2
    split at e2
    ·split at e2 <;> cases e2
    ·exact absurd rfl (by assumption)
   rw [List.getElem?_set_ne (Ne.symm hj)] at e2
   obtain ⟨u',r',q⟩:=hl' j y v' e1 e2 e3
   refine ⟨u',r',?_⟩
   rcases q with ⟨k,e⟩|⟨k,c,e,z⟩
   ·have:y≠n:=fun e=>hj (nodup_ix hN e1 (e ▸ hi))
    exact .inl ⟨k,by simp [this,e]⟩
   ·exact .inr ⟨k,c,e,z.sameBut hs (I.cne y c e)⟩
  ·obtain ⟨w',z⟩:=I.cell y c e
   exact ⟨w',z.sameBut hs (I.cne y c e)⟩
  ·obtain ⟨e,n,ne,nf,d⟩:=I.pin p hp
   exact ⟨(hs.2 p.1 ne).trans e,n,ne,nf,d⟩
  ·refine (I.hok b ob e).stay (fun c w' hc q=>(hs.2 c ?_).trans q) (fun _ q=>q) fun _ _ q=>q
   rintro rfl
   rcases hc with rfl|hc
   ·rw [I.free] at e;cases e
   ·rw [I.free] at hc;cases hc
end
def PassesAt (X:Cx) (σ:St) (E:XK):Prop := ∀ (pins:List (Addr×Obj)) (H:Hp) (s:Shared) (e:Value) (s':Shared),Inv X pins σ H s→CX1 X.prog X.w X.stack H s E e s'→X.xe e s'
def Under (K:PySem.W.Frag) (C C':Addr):Prop:=PySem.W.excIn K C bmVE "ValueError.__new__" = true∧(mroIn K C).contains (.ref C')=true
def tCatch (K:PySem.W.Frag) (C':Addr) (i:Nat) (ts:TS) (D:Ends):St→XK:=fun σ c _ H => ∃ C,c = .ref C∧Under K C C' ∧ ∀ ea,H ea=none →
 ts { nx:=fun σ2 H3=>D.nx (σ2.set i none) H3,rt:=D.rt,bk:=fun σ2 H3=>D.bk (σ2.set i none) H3,ct:=fun σ2 H3=>D.ct (σ2.set i none) H3 } (σ.set i (some (.ref ea))) (upd H ea (excO C ea))
def tTry (K:PySem.W.Frag) (C':Addr) (i:Nat) (tb:(St→XK)→TS) (ts:TS):TS:=fun D σ H=>tb (tCatch K C' i ts D) D σ H
section
variable {X:Cx}{body suite:List Stmt}{b₀:Stmt}{x n:Str}{np hpos pos:Pos}{C':Addr}{i:Nat}{tb:(St→XK)→TS}{ts:TS}
theorem ps_try (hst:X.stack=X.env::X.outer) (hfr:X.env.frame=some X.env.locals) (hN:X.N.Nodup) (hi:X.N[i]?=some n) (hl:X.env.scope.names.lookup n=some .local) (hg:Gl X x) (hm:X.mg x=some (.ref C'))
 (hq:PySem.W.excIn X.K C' bmVE "ValueError.__new__" = true) (hb : ∀ pn xe Ex,(∀ σ,PassesAt (X.inT pn xe) σ (Ex σ))→PSs (X.inT pn xe) body (tb Ex)) (hs : ∀ A xe,PSs (X.inX A xe) (b₀::suite) ts) (hd:(x==("__debug__" : Str))=false:=by decide) :
  PS X (.Try body [.ExceptHandler (some (.Name x np)) (some n) (b₀::suite) hpos] [] [] pos) (tTry X.K C' i tb ts):=by
  intro pins s σ H D I h
  have ok:=I.ok
  refine wpAny_Try_except (wpAny_mono (hb (X.pn++pins) (fun e s' => ∃ σ1 H1 s1,Inv X pins σ1 H1 s1∧CX1 X.prog X.w X.stack H1 s1 (tCatch X.K C' i ts D σ1) e s') (tCatch X.K C' i ts D) (fun σ1 pins1 H1 s1 e s' I1 c=>⟨σ1,H1,s1,I1.ofT ok,c⟩) [] s σ H D I.toT h) (fun f s1 q=>?_) fun e s' q=>?_)
  ·cases f with
   | next=>obtain ⟨σ',H',I',q⟩:=q;exact wpAny_pure ⟨σ',H',I'.ofT ok,q⟩
   | brk=>obtain ⟨σ',H',I',q⟩:=q;exact ⟨σ',H',I'.ofT ok,q⟩
   | cont=>obtain ⟨σ',H',I',q⟩:=q;exact ⟨σ',H',I'.ofT ok,q⟩
   | ret u=>obtain ⟨v,σ',H',I',r,q⟩:=q;exact ⟨v,σ',H',I'.ofT ok,r,q⟩
  obtain ⟨σ1,H1,s1,I1,ea,C,a0,B,H2,rfl,fl,os,bare,u,okH,tB,pB,C2,e2,⟨q1,q2⟩,q3⟩:=q
  cases e2
  have sub : ∀ b ∈ X.fs,b ∈ frs X.stack:=fun b hb=>by
   rw [hst];unfold frs;rw [List.filterMap_cons,hfr];exact List.mem_cons_of_mem _ hb
  have hn2:H2 ea=none:=by
   rcases z:H2 ea with _|v
   ·rfl
   ·obtain ⟨o,ho⟩:=tB _ _ z
    rw [fl.2.1] at ho;cases ho
  refine wpAny_looks_onW (ok.frames.trans (by rw [hst])) hfr (hst ▸ fl) fun h4 held4 up4=>?_
  refine wpAny_landsW held4 fun h5 fl5 up5=>?_
  have I5:Inv X pins σ1 H2 { s' with heap:=h5 }:=I1.flown os bare u okH tB pB fl.1 fl5.1 (up4.trans up5) sub
  obtain ⟨ob,hob,hobc⟩:=fl5.there
  obtain ⟨bm,N,nm,qn,bs,hd1,sn,sb,ab,col,dd,k0,k1,k2,k3,k5,mN,hC,hNs,hni,T,hmr⟩:=exc_obj I5.kIn q1
  obtain ⟨bm',N',nm',qn',bs',hd1',sn',sb',ab',col',dd',k0',k1',k2',k3',k5',mN',hC',hNs',hni',T',hmr'⟩:=exc_obj I5.kIn hq
  refine wpAny_handleBy_cons (codeAny_handlers_test (ld_glob (X:=X.inX (X.A.mark (some (.ref ea))) X.xe) (I5.toX rfl) hg hm ?_ hd)) (by intro q;cases q)
  refine excMatches_own hC hC' hob hobc (T'.hasType PySem.F.excBase_ValueError.hasBase) true (hmr ▸ q2) (codeAny_handlers_suite_as ?_)
  refine lands_againW fl5 fun h6 fl6 up6=>?_
  have I6:Inv X pins σ1 H2 { s' with heap:=h6 }:=I1.flown os bare u okH tB pB fl.1 fl6.1 ((up4.trans up5).trans up6) sub
  obtain ⟨oe,ws,hoe,hoec,hoed,hoe0⟩:=fl6.first
  have notB : ∀ b o,B.get? b=some o→b≠ea:=fun b o z y=>by rw [y,fl.2.1] at z;cases z
  have notF : ∀ b,b ∈ frs X.stack→b≠ea:=fun b hb y=>by
   obtain ⟨_,o,ho,hd⟩:=I6.stack.mem hb
   rw [y,hoe] at ho;cases ho
   exact hd _ hoed
  have not1 : ∀ b o,s1.heap.get? b=some o→b≠ea:=fun b o z=>by
   by_cases hb:b ∈ frs X.stack
   ·exact notF b hb
   ·obtain ⟨o',t⟩:=pB b o z hb
    exact notB b o' t
  have I7:Inv X pins σ1 (upd H2 ea (excO C ea)) { s' with heap:=h6 }:=I6.caught hn2 hoe hoec hoed (fun p hp=>not1 _ _ (I1.pin p hp).1) fun b o z hx=>by
   obtain ⟨o',ho'⟩:=I1.base.there b o z hx
   exact not1 b o' ho'
  refine store_ok (X:=X) I7 hN hi (.inl hl) (show RelV (.ref ea) (.ref ea) from rfl) (fun s8 I8=>?_) (.inr hl)
  refine wpAny_mono (hs (X.A.mark (some (.ref ea))) _ pins s8 _ _ _ (I8.toX rfl) (q3 ea hn2)) (fun f s9 q=>?_) fun _ _ z=>z
  cases f with
  | next=>obtain ⟨σ',H',I',q⟩:=q;exact goes_ok (X:=X) (I'.ofX ok) hN hi hl fun s' I''=>⟨_,H',I'',q⟩
  | brk=>obtain ⟨σ',H',I',q⟩:=q;exact goes_ok (X:=X) (I'.ofX ok) hN hi hl fun s' I''=>⟨_,H',I'',q⟩
  | cont=>obtain ⟨σ',H',I',q⟩:=q;exact goes_ok (X:=X) (I'.ofX ok) hN hi hl fun s' I''=>⟨_,H',I'',q⟩
  | ret u=>obtain ⟨v,σ',H',I',r,q⟩:=q;exact goes_ok (X:=X) (I'.ofX ok) hN hi hl fun s' I''=>⟨v,_,H',I'',r,q⟩
end
end L2
namespace L2
open PySem PySem.Spec PyProof.Rows
section
variable {K:PySem.W.Frag}{M:Frm}{F H:Hp}{env:Sto}{σ:St}
theorem EnvOk.sets (I:EnvOk K M F H env σ) {i:Nat}{s:Sl}{v:Option V} (m:s.mut=false) (h:SlotOk K M F H s v):EnvOk K M F H (env.set i s) (σ.set i v) where
 len:=by rw [List.length_set,List.length_set];exact I.len
 slot:=fun j=>by
  rw [gS_set,vS_set,I.len]
  split
  ·exact h
  ·exact I.slot j
 dis:=fun j k a hjk h1 h2 h3 h4=>by
  rw [gS_set] at h1 h2
  rw [vS_set] at h3 h4
  rw [I.len] at h1 h2
  split at h1
  ·rw [m] at h1;cases h1
  ·rename_i z1
   split at h2
   ·rw [m] at h2;cases h2
   ·rename_i z2
    rw [if_neg z1] at h3
    rw [if_neg z2] at h4
    exact I.dis j k a hjk h1 h2 h3 h4
 f0:=I.f0
 fe:=I.fe
 fh:=I.fh
 bh:=I.bh
 new:=I.new
 dom:=I.dom
theorem EnvOk.caught (I:EnvOk K M F H env σ) {i:Nat}{C ea:Addr} (h:H ea=none):EnvOk K M (upd F ea (excO C ea)) (upd H ea (excO C ea)) (env.set i (.exc C)) (σ.set i (some (.ref ea)))∧Same F (upd F ea (excO C ea)):=by
 have hf:F ea=none:=same_none I.fh h
 have g:Go F H (upd F ea (excO C ea)) (upd H ea (excO C ea)):=⟨same_new hf,same_new h,fun b o e=>by
  by_cases z:b=ea
  ·subst z;rw [upd_same] at e ⊢;exact .of e
  ·rw [upd_ne z] at e ⊢;exact I.fh b o e,fun b o e=>by
  by_cases z:b=ea
  ·subst z;exact .inr h
  ·rw [upd_ne z] at e;exact .inl e⟩
 exact ⟨(I.go g).sets rfl ⟨ea,rfl,upd_same⟩,g.f⟩
end
abbrev WX:=Addr→Sto→Prop
def ExOk (K:PySem.W.Frag) (M:Frm) (F:Hp) (Wx:WX) (Ex:St→XK):Prop := ∀ C env' F' H' σ',EnvOk K M F' H' env' σ'→Same F F'→Wx C env'→Ex σ' (.ref C) none H'
theorem ExOk.mono {K:PySem.W.Frag}{M:Frm}{F F':Hp}{Wx:WX}{Ex:St→XK} (h:ExOk K M F Wx Ex) (s:Same F F'):ExOk K M F' Wx Ex:=fun C e f g i j k=>h C e f g i j (s.trans k)
def liftEX (K:PySem.W.Frag) (Ex:St→XK) (W:WX→WE):TE:=fun σ H R => ∃ M env F Wx Q,EnvOk K M F H env σ∧W Wx env Q∧ExOk K M F Wx Ex ∧ ∀ d v F' H' env',EnvOk K M F' H' env' σ→Same F F'→Is K F' d v→Q d env'→R v H'
def liftSX (K:PySem.W.Frag) (Ex:St→XK) (W:WX→WS):TS:=fun D σ H => ∃ M env F Wx DD,EnvOk K M F H env σ∧W Wx DD env∧ExOk K M F Wx Ex∧EndsOk K M F DD D
def VEX (X:Cx) (Ex:St→XK) (e:Expr) (W:WX→WE):Prop:=PE X e (liftEX X.K Ex W)
def VSX (X:Cx) (Ex:St→XK) (st:Stmt) (W:WX→WS):Prop:=PS X st (liftSX X.K Ex W)
def VSsX (X:Cx) (Ex:St→XK) (st:List Stmt) (W:WX→WS):Prop:=PSs X st (liftSX X.K Ex W)
abbrev DE:=List PyData→(PyData→Prop)→(Addr→Prop)→Prop
def XSp (K:PySem.W.Frag) (sp:DE):Sp:=fun vs H Q E => ∃ F ds q e,Same F H∧Iss K F ds vs∧sp ds q e∧(∀ d v F' H',Go F H F' H'→Is K F' d v→q d→Q v H') ∧ ∀ C F' H',Go F H F' H'→e C→E (.ref C) none H'
structure OkX (P:Program) (w:World) (K:PySem.W.Frag) (mg:Str→Option Value) (base:Heap) (x:Str) (k:Nat) (ps:List Str) (sp:Sp):Prop where
 ex : ∃ (f:Addr) (fd:FuncData),FnOk P w K mg base (CX1 P w) k f fd ps sp∧mg x=some (.ref f)∧PySem.W.keepIn K (.ref f)=true∧Binds K fd ps []
structure OkXC (X:Cx) (x:Str) (k:Nat) (ps:List Str) (sp:Sp):Prop where
 ex : ∃ sp0,OkX X.prog X.w X.K X.mg X.base x k ps sp0 ∧ ∀ (pins:List (Addr×Obj)) (σ:St) (H:Hp) (s:Shared) (vs:List V) (Q:VK) (E:XK),Inv X pins σ H s→sp vs H Q E→sp0 vs H Q E
theorem OkX.c {X:Cx}{x:Str}{k:Nat}{ps:List Str}{sp:Sp} (O:OkX X.prog X.w X.K X.mg X.base x k ps sp):OkXC X x k ps sp:=⟨sp,O,fun _ _ _ _ _ _ _ _ h=>h⟩
section
variable {X:Cx}{Ex:St→XK}{x:Str}{k:Nat}{ps:List Str}{sp:DE}{e c:Expr}{es:List Expr}{p pos:Pos}{Wr:WF}{st:Stmt}{rest A B:List Stmt}{Tc:WT}{W:WX→WE}{Wt Wu:WX→WS}{W0:WS}
theorem run_fnX {pins:List (Addr×Obj)}{σ:St}{H:Hp}{s:Shared}{Q:VK}{f:Addr}{fd:FuncData}{us:List Value}{vs:List V}{sp:Sp}{E:XK} (F:FnOk X.prog X.w X.K X.mg X.base (CX1 X.prog X.w) k f fd ps sp) (hr:Room k X.A) (hb:Binds X.K fd ps []) (hx:PassesAt X σ E)
 (I:Inv X pins σ H s) (r:Vals vs us) (h:sp vs H Q E):wpAny (model X.prog X.w) X.A (call (.ref f) us) (EP X pins σ Q) X.xe s:=by
  have hl:us.length=ps.length:=by rw [← r.length];exact F.len _ _ _ _ h
  have hl':(us++[]).length=ps.length:=by rw [List.append_nil];exact hl
  have hb':=hb s us I.kIn hl'
  rw [List.append_nil] at hb'
  refine wpAny_call (codeAny_mono (F.run X.A X.stack s H ⟨us,[]⟩ us vs Q E hr I.env0 hb' r h) fun r s' hq=>?_)
  cases r with
  | error e=>exact hx pins H s e s' I hq
  | ok fl =>
   cases fl with
   | ret u=>exact I.after hq
   | next=>exact False.elim hq
   | brk=>exact False.elim hq
   | cont=>exact False.elim hq
def wCallX (sp:DE) (Wr:WF):WX→WE:=fun Wx env Q=>Wr env fun ds e=>sp ds (fun d=>Q d e) fun C=>Wx C e
theorem vex_fn (hx : ∀ σ,PassesAt X σ (Ex σ)) (O:OkXC X x k ps (XSp X.K sp)) (hr:Room k X.A) (ha:VA X (e::es) Wr) (hg:Gl X x:=by rfl) (hdb:(x==("__debug__" : Str))=false:=by decide)
 (he:starEach (e::es) X.env=(false,eval e X.env)::starEach es X.env:=by rfl) (hpl:(backTo pos (starEach es X.env)).any (·.1)=false:=by rfl):VEX X Ex (.Call (.Name x p) (e::es) [] pos) (wCallX sp Wr):=by
 obtain ⟨sp0,⟨f,fd,F,hm,hk,hb⟩,up⟩:=O.ex
 rintro pins s σ H Q I ⟨M,env,F0,Wx,q,J,h,hex,kk⟩
 refine wpAny_Call_Name_kw (ld_glob I hg hm ?_ hdb)
 refine PySem.W.callWith_K (h₀:=X.base) I.ok.mod.kin hk (thn (ha pos pins s σ H (fun vs H1=>XSp X.K sp vs H1 Q (Ex σ)) I ⟨M,env,F0,_,J,h,fun ds vs F1 H1 e1 I1 s1 i1 h1=>?_⟩) fun us s1 ⟨vs,H1,I1,r,q⟩=>⟨I1.kIn,?_⟩) he hpl
 ·exact ⟨F1,ds,_,_,I1.fh,i1,h1,fun d v F2 H2 g i2 q=>kk d v F2 H2 e1 (I1.go g) (s1.trans g.f) i2 q,fun C F2 H2 g q=>hex C e1 F2 H2 σ (I1.go g) (s1.trans g.f) q⟩
 ·exact run_fnX F hr hb (hx σ) I1 r (up _ _ _ _ _ _ _ I1 q)
theorem vsx_of (h:VS X st W0):VSX X Ex st (fun _=>W0):=PS.imp h fun D σ H xx135=>by obtain ⟨M,env,F,Wx,DD,I,h,hx,k⟩:=xx135;exact ⟨M,env,F,DD,I,h,k⟩
theorem vssx_of (h:VSs X rest W0):VSsX X Ex rest (fun _=>W0):=PSs.imp h fun D σ H xx136=>by obtain ⟨M,env,F,Wx,DD,I,h,hx,k⟩:=xx136;exact ⟨M,env,F,DD,I,h,k⟩
theorem vsx_expr (he:VEX X Ex e W) (hs:swapsWith e none pos.line X.env=pure false:=by rfl):VSX X Ex (.Expr e pos) (fun Wx=>wDrop (W Wx)):=(ps_expr he hs).imp fun D σ H xx137=>by
 obtain ⟨M,env,F,Wx,DD,I,h,hx,k⟩:=xx137
 exact ⟨M,env,F,Wx,_,I,h,hx,fun d v F1 H1 e1 I1 s1 i1 h1=>k.nx e1 F1 H1 σ I1 s1 h1⟩
theorem vsx_if (hc:VT X c Tc) (ha:VSsX X Ex A Wt) (hb:VSsX X Ex B Wu):VSX X Ex (.If c A B pos) (fun Wx=>wIf Tc (Wt Wx) (Wu Wx)):=(ps_if hc ha hb).imp fun D σ H xx138=>by
 obtain ⟨M,env,F,Wx,DD,I,h,hx,k⟩:=xx138
 refine ⟨M,env,F,_,I,h,fun x F1 H1 e1 I1 s1 h1=>?_⟩
 cases x with
 | true=>exact iteT ⟨M,e1,F1,Wx,DD,I1,h1,hx.mono s1,k.mono s1⟩
 | false=>exact iteF ⟨M,e1,F1,Wx,DD,I1,h1,hx.mono s1,k.mono s1⟩
theorem vssx_cons (h1:VSX X Ex st Wt) (h2:VSsX X Ex rest Wu):VSsX X Ex (st::rest) (fun Wx=>wSeq (Wt Wx) (Wu Wx)):=(pss_cons h1 h2).imp fun D σ H xx139=>by
 obtain ⟨M,env,F,Wx,DD,I,h,hx,k⟩:=xx139
 exact ⟨M,env,F,Wx,{ DD with nx:=Wu Wx DD },I,h,hx,fun e' F' H' σ' I' s' h'=>⟨M,e',F',Wx,DD,I',h',hx.mono s',k.mono s'⟩,k.rt,k.bk,k.ct⟩
end
end L2
namespace L2
open PySem PySem.Spec PyProof.Rows
section
variable {X:Cx}{Ex:St→XK}{E:XK}{x y n:Str}{k i j:Nat}{ps:List Str}{sp:DE}{e:Expr}{es:List Expr}{p np cpos hpos pos pos':Pos}{Wr:WF}{st b₀:Stmt}{body suite:List Stmt}{C C':Addr}{Wb:WX→WS}{Ws:WS}
def wRaise (C:Addr) (Wr:WF):WX→WS:=fun Wx _ env=>Wr env fun ds e=>ds.length≤sizeLine∧Wx C e
theorem vsx_raise (hT:Throws X E) (hc:X.calm=true) (hm:X.mg x=some (.ref C)) (hq:PySem.W.excIn X.K C bmVE "ValueError.__new__" = true) (ha:VA X (e::es) Wr) (hg:Gl X x:=by rfl)
 (hdb:(x==("__debug__" : Str))=false:=by decide) (he:starEach (e::es) X.env=(false,eval e X.env)::starEach es X.env:=by rfl) (hpl:(backTo cpos (starEach es X.env)).any (·.1)=false:=by rfl) :
 VSX X (fun _=>E) (.Raise (some (.Call (.Name x np) (e::es) [] cpos)) none pos) (wRaise C Wr):=(ps_raise hT hc hg hm hq ha hdb he hpl).imp fun D σ H xx140=>by
 obtain ⟨M,env,F,Wx,DD,I,h,hx,k⟩:=xx140
 exact ⟨M,env,F,_,I,h,fun ds vs F1 H1 e1 I1 s1 i1 h1=>⟨by rw [i1.len];exact h1.1,hx C e1 F1 H1 σ I1 s1 h1.2⟩⟩
def wTry (K:PySem.W.Frag) (C':Addr) (i:Nat) (Wb:WX→WS) (Ws:WS):WS:=fun D env=>Wb (fun C e=>Under K C C' ∧
 Ws { nx:=fun e'=>D.nx (e'.set i .non),rt:=fun r e'=>D.rt r (e'.set i .non),bk:=fun e'=>D.bk (e'.set i .non),ct:=fun e'=>D.ct (e'.set i .non) } (e.set i (.exc C))) D env
theorem vs_try (hst:X.stack=X.env::X.outer) (hfr:X.env.frame=some X.env.locals) (hN:X.N.Nodup) (hm:X.mg x=some (.ref C')) (hq:PySem.W.excIn X.K C' bmVE "ValueError.__new__" = true)
 (hb : ∀ pn xe Ex,(∀ σ,PassesAt (X.inT pn xe) σ (Ex σ))→VSsX (X.inT pn xe) Ex body Wb) (hs : ∀ A xe,VSs (X.inX A xe) (b₀::suite) Ws)
 (hi:X.N[i]?=some n:=by rfl) (hl:X.env.scope.names.lookup n=some .local:=by rfl) (hg:Gl X x:=by rfl) (hd:(x==("__debug__" : Str))=false:=by decide) :
  VS X (.Try body [.ExceptHandler (some (.Name x np)) (some n) (b₀::suite) hpos] [] [] pos) (wTry X.K C' i Wb Ws) :=
  PS.imp (ps_try (tb:=fun Ex=>liftSX X.K Ex Wb) (ts:=liftS X.K Ws) hst hfr hN hi hl hg hm hq hb hs hd) fun D σ H xx142=>by
   obtain ⟨M,env,F,DD,I,h,k⟩:=xx142
   refine ⟨M,env,F,_,DD,I,h,fun C env' F' H' σ' I' s' ⟨u,hw⟩=>⟨C,rfl,u,fun ea hea=>?_⟩,k⟩
   obtain ⟨J,s2⟩:=I'.caught (i:=i) (C:=C) hea
   have go : ∀ {env2 F2 H2 σ2},EnvOk X.K M F2 H2 env2 σ2→EnvOk X.K M F2 H2 (env2.set i .non) (σ2.set i none):=fun I2=>I2.sets rfl trivial
   exact ⟨M,_,_,_,J,hw,fun e3 F3 H3 σ3 I3 s3 q3=>k.nx _ F3 H3 _ (go I3) (s'.trans (s2.trans s3)) q3,fun r v e3 F3 H3 σ3 I3 s3 r3 q3=>k.rt r v _ F3 H3 _ (go I3) (s'.trans (s2.trans s3)) r3 q3,
    fun e3 F3 H3 σ3 I3 s3 q3=>k.bk _ F3 H3 _ (go I3) (s'.trans (s2.trans s3)) q3,fun e3 F3 H3 σ3 I3 s3 q3=>k.ct _ F3 H3 _ (go I3) (s'.trans (s2.trans s3)) q3⟩
def wSetE (i j:Nat):WS:=fun D env=>match gS env j with | .exc C=>D.nx (env.set i (.exc C))|_=>False
theorem vs_setE (j:Nat) (hN:X.N.Nodup) (hj:X.N[j]?=some y:=by rfl) (hv:Vis X.env.scope y:=by first|exact Or.inl rfl|exact Or.inr (Or.inl rfl)|exact Or.inr (Or.inr rfl)) (hi:X.N[i]?=some x:=by rfl)
 (hx:Loc X.env.scope x:=by first|exact Or.inl rfl|exact Or.inr rfl) (hd:(y==("__debug__" : Str))=false:=by decide) (hcd:(y==("__classdict__" : Str))=false:=by decide)
 (hs:swapsWith (.Name y p) (some (.Name x pos')) pos.line X.env=pure false:=by rfl) (hf:X.fn x=true∨X.env.scope.names.lookup x=some .local:=by first|exact .inl rfl|exact .inr rfl) :
 VS X (.Assign [.Name x pos'] (.Name y p) pos) (wSetE i j):=PS.imp (ps_set hN hi hx (pe_var hj hv hd hcd) hs hf) fun D σ H xx143=>by
 obtain ⟨M,env,F,DD,I,h,k⟩:=xx143
 have S:=I.slot j
 unfold wSetE at h
 cases q:gS env j with
 | exc C =>
  rw [q] at S h
  obtain ⟨ea,e,z⟩:=S
  exact ⟨_,vS_some e,k.nx _ F H _ (I.sets (i:=i) (s :=.exc C) rfl ⟨ea,rfl,z⟩) (.refl _) h⟩
 | non=>rw [q] at h;exact h.elim
 | obj a0 C nm fs=>rw [q] at h;exact h.elim
 | val d=>rw [q] at h;exact h.elim
 | own ds=>rw [q] at h;exact h.elim
 | pen ds=>rw [q] at h;exact h.elim
 | new d=>rw [q] at h;exact h.elim
end
section
variable {P:Program}{w:World}{K:PySem.W.Frag}{mg:Str→Option Value}{base:Heap}
theorem Def.vokX {x:Str}{st:Stmt}{N ps:List Str}{k:Nat}{sp:DE} (F:Def K mg x st ps) (S:FnScope N ps (defScope st)) (len : ∀ ds q e,sp ds q e→ds.length=ps.length)
 (hbody : ∀ (f:Addr) (cdv:Value) (A:Around) (outer:List Env) (s:Shared) (H:Hp) (E:XK),Room k (A.deeper (envOfC x (defScope st) s.heap.objs.size f cdv)) →
 (∀ σ,PassesAt (cxOf (CX1 P w) P w K mg base N x (defScope st) f cdv A outer s H E) σ E)→Throws (cxOf (CX1 P w) P w K mg base N x (defScope st) f cdv A outer s H E) E → ∀ ds q e,sp ds q e →
 ∃ W,VSsX (cxOf (CX1 P w) P w K mg base N x (defScope st) f cdv A outer s H E) (fun _=>E) (defBody st) W∧W (fun C _=>e C) { nx:=fun _=>q .none,rt:=fun r _=>q r.data } (startE N ds)):OkX P w K mg base x (k+1) ps (XSp K sp):=by
  obtain ⟨f,fd,Fn,hm,hb⟩:=F.ex
  refine ⟨f,fd,?_,hm,Fn.kp,hb⟩
  obtain ⟨oc,od,kV,doc,pm,an,cdv,ct,osl,rfl,lk,hcd⟩:=Fn.ex
  refine fn_of lk hcd S (fun vs H Q E xx145=>by obtain ⟨F,ds,q,e,_,i,h,_⟩:=xx145;rw [i.len];exact len ds q e h) fun A outer s H vs Q E hr xx144=>?_
  obtain ⟨F,ds,q,e,sm,i,h,kk,kx⟩:=xx144
  obtain ⟨W,hW,hq⟩:=hbody f cdv A outer s H E hr (fun σ pins H1 s1 e1 s' I c=>passes_cx pins σ H1 s1 e1 s' I c) throws_cx ds q e h
  refine ⟨_,hW,⟨H,H,F⟩,startE N ds,F,_,_,env_start sm i,hq,fun C e1 F1 H1 σ1 I1 s1 q1=>kx C F1 H1 I1.goOf q1,⟨fun e1 F1 H1 σ1 I1 s1 q1=>kk _ _ F1 H1 I1.goOf is_non q1,fun r v e1 F1 H1 σ1 I1 s1 r1 q1=>?_,fun _ _ _ _ _ _ h=>h.elim,fun _ _ _ _ _ _ h=>h.elim⟩⟩
  obtain ⟨F2,g,j⟩:=r1.is I1
  exact kk _ _ F2 H1 g j q1
end
end L2
namespace L2
open PySem PySem.Spec PyProof.Rows
section
variable {prog:Program}{w:World}{A:Around}{E:Value→Shared→Prop}{h:Heap}{g:Array GenState}{d:Drawn}{t:Nat}{os:OsState}{a:Addr}{o:Obj}{K:PySem.W.Frag}
 {nm q:Str}{C N:Addr}{bs bm:List Value}{hdct:Bool}{sn:List Str}{sub:List Value}{ab:Bool}{col:Option Bool}{dd:Option Addr}{k0 k1 k2 k3 k5:Option Value}{newId:String}
theorem xc_get {R:Result→Shared→Prop} (hC:h.get? C=some (excClassObj nm q C N bs bm hdct sn sub ab col dd k0 k1 k2 k3 k5 newId)) (T:OwnTail h bmVE bm) (hx:h.get? a=some o) (hc:o.cls = .ref C) (hq:R (.ok (.ret (.ref C))) ⟨h,g,d,t,os⟩) :
 codeAny (model prog w) A (.call (.builtin "getset_descriptor.__get__") ⟨[.builtin "object.__class__",.ref a,.ref C],[]⟩) R ⟨h,g,d,t,os⟩:=by
  have hT5:(⟨h,g,d,t,os⟩:Shared).TypeIs (.builtin "object.__class__") "getset_descriptor" := F.typeOf_object_class
  have hcB:(Value.ref C::bm).contains (.type (".".intercalate ("object.__class__".cutAt '.').dropLast))=true:=by
   rw [F.owner_object_class,List.contains_cons,T.hasType (X := "object") (b:=true) (by decide)];rfl
  refine codeAny_call_builtin F.slot_gs_get.plain F.entry_gs_get (F.slot_gs_get.check _ _ _ _ _ _ _ _ hT5 (F.args_gs_get _ _ _) ?_)
  repeat (any_goals (first|assumption|(with_reducible refine wpAny_loadPart_at hx ?_;rw [hc])|(with_reducible refine wpAny_isSubtype_exc hC ?_;rw [hcB])|wp_step))
  refine ⟨Code.quiet_builtin _ (by decide +kernel),codeAny_builtin F.entry_object_class ?_⟩
  repeat (any_goals (first|assumption|(with_reducible refine wpAny_loadPart_at hx ?_;rw [hc])|wp_step))
theorem xc_entry {tk:Tok}{Q:Fin→Shared→Prop} (X:K.In h) (hf:PySem.W.findIn K (.ref C) "__class__" = some (some (.builtin "object.__class__"))) (hC:h.get? C=some (excClassObj nm q C N bs bm hdct sn sub ab col dd k0 k1 k2 k3 k5 newId)) (T:OwnTail h bmVE bm)
 (hx:h.get? a=some o) (hc:o.cls = .ref C) (hq:Q (.done (.ret (.ref C))) ⟨h,g,d,t,os⟩) :
 wpAny (model prog w) A (Builtin.«object.__getattribute__» ⟨[.ref a,.str "__class__" tk],[]⟩) Q E ⟨h,g,d,t,os⟩:=by
  have hT5:(⟨h,g,d,t,os⟩:Shared).TypeIs (.builtin "object.__class__") "getset_descriptor" := F.typeOf_object_class
  have f5:=F.typeOf_object_class
  have f6:=F.slot_gs_get.lookup
  have f7:=F.slot_gs_set.lookup
  have L:=PySem.W.looks_findIn (M:=model prog w) X hf
  repeat (any_goals (first|assumption|(with_reducible refine wpAny_loadPart_at hx ?_;rw [hc])|with_reducible refine L.at ?_|wp_step))
  refine xc_get hC T hx hc ?_
  repeat (any_goals (first|assumption|wp_step))
theorem xc_check {M:Model}{nameV:Value}{Q:Unit→Shared→Prop} (hC:h.get? C=some (excClassObj nm q C N bs bm hdct sn sub ab col dd k0 k1 k2 k3 k5 newId)) (T:OwnTail h bmVE bm)
 (hx:h.get? a=some o) (hc:o.cls = .ref C) (hq:Q () ⟨h,g,d,t,os⟩):wpAny M A (checkBuiltinCall "BaseException.__getattribute__" ⟨[.ref a,nameV],[]⟩) Q E ⟨h,g,d,t,os⟩:=by
  have hk:builtinKind "BaseException.__getattribute__" = some .slot:=by decide +kernel
  have hsplit:splitId "BaseException.__getattribute__" = some ("BaseException","__getattribute__"):=by decide +kernel
  have hcB:(Value.ref C::bm).contains (.type "BaseException")=true:=by rw [List.contains_cons,T.hasType (X := "BaseException") (b:=true) (by decide)];rfl
  have ha:=F.args_bexc_ga (.ref a) nameV
  simp only [checkBuiltinCall,hk,hsplit]
  refine wpAny_bind ?_
  unfold isInstance
  repeat (first|(with_reducible refine wpAny_loadPart_at hx ?_;rw [hc])|(with_reducible refine wpAny_isSubtype_exc hC ?_;rw [hcB])|wp_step)
  exact hq
structure XCls (K:PySem.W.Frag) (C:Addr):Prop where
 exc:PySem.W.excIn K C bmVE "ValueError.__new__" = true
 ga:PySem.W.findIn K (.ref C) "__getattribute__" = some (some (.builtin "BaseException.__getattribute__"))
 na:PySem.W.findIn K (.ref C) "__getattr__" = some none
 cl:PySem.W.findIn K (.ref C) "__class__" = some (some (.builtin "object.__class__"))
theorem xc_by {tk:Tok}{Q:Value→Shared→Prop} (X:K.In h) (Z:XCls K C) (hC:h.get? C=some (excClassObj nm q C N bs bm hdct sn sub ab col dd k0 k1 k2 k3 k5 newId)) (T:OwnTail h bmVE bm)
 (hx:h.get? a=some o) (hc:o.cls = .ref C) (hq:Q (.ref C) ⟨h,g,d,t,os⟩):wpAny (model prog w) A (getAttrBy (.ref a) (.str "__class__" tk) false) Q E ⟨h,g,d,t,os⟩:=by
  have f3:=F.excAttr_ValueError.ga.bind (.ref a)
  have hx2:(Value.builtin "BaseException.__getattribute__" == Value.builtin "object.__getattribute__")=false:=by decide +kernel
  have hx1:(onTheHeap (Value.ref C)&&Value.builtin "BaseException.__getattribute__" == Value.builtin "object.__getattribute__")=false:=by rw [hx2];rfl
  have L:=PySem.W.looks_findIn (M:=model prog w) X Z.ga
  have L2:=PySem.W.looks_findIn (M:=model prog w) X Z.na
  repeat (any_goals (first|assumption|(with_reducible refine wpAny_loadPart_at hx ?_;rw [hc])|with_reducible refine L.at ?_|with_reducible refine L2.at ?_|wp_step))
  refine codeAny_call_builtin F.excAttr_ValueError.ga.plain F.entry_bexc_ga (xc_check hC T hx hc (xc_entry X Z.cl hC T hx hc ?_))
  repeat (any_goals (first|assumption|wp_step))
theorem xc_attr {Q:Option Value→Shared→Prop} (X:K.In h) (Z:XCls K C) (hC:h.get? C=some (excClassObj nm q C N bs bm hdct sn sub ab col dd k0 k1 k2 k3 k5 newId)) (T:OwnTail h bmVE bm)
 (hx:h.get? a=some o) (hc:o.cls = .ref C) (hq:Q (some (.ref C)) ⟨h,g,d,t+1,os⟩):wpAny (model prog w) A (getAttr? (.ref a) "__class__") Q E ⟨h,g,d,t,os⟩:=by
  unfold getAttr? getAttrBy?
  repeat (any_goals (first|assumption|with_reducible apply xc_by X Z hC T hx hc|wp_step))
end
theorem kitx_exc {K:PySem.W.Frag}{a C:Addr} (Z:XCls K C):PySem.W.KitX K (.ref a) (.ref C) (fun h => ∃ o,h.get? a=some o∧o.cls = .ref C) where
 ty:=fun M h X xx146=>by obtain ⟨o,h1,h2⟩:=xx146;exact h2 ▸ (PySem.W.Looks.ld h1).andThen .now
 it:=fun M h X _=>by
  obtain ⟨bm,N,nm,qn,bs,hd,sn,sub,ab,col,dd,k0,k1,k2,k3,k5,mN,hC,_⟩:=exc_obj X Z.exc
  intro A' Q' E' s' k q
  unfold isType loadHead
  exact wpAny_bind (wpAny_loadPart (k _ _ hC) (wpAny_pure q))
 ne:=fun h tp dd its n sl X htp=>by
  obtain ⟨bm,N,nm,qn,bs,hd,sn,sub,ab,col,dd',k0,k1,k2,k3,k5,mN,hC,_⟩:=exc_obj X Z.exc
  refine Bool.eq_false_iff.mpr fun q=>?_
  have e:C=tp:=Value.ref.inj (beq_iff_eq.mp q)
  subst e
  have z:=Option.some.inj (hC.symm.trans htp)
  have z2:=congrArg Obj.data z
  exact Data.noConfusion z2
 ca:=fun {prog w A E Q s} X ⟨o,h1,h2⟩ k=>by
  obtain ⟨bm,N,nm,qn,bs,hd,sn,sub,ab,col,dd',k0,k1,k2,k3,k5,mN,hC,hN,hni,T,_⟩:=exc_obj X Z.exc
  obtain ⟨hh,g,d,t,os⟩:=s
  exact xc_attr X Z hC T h1 h2 k
end L2
namespace L2
open PySem PySem.Spec PyProof.Rows
def clsV:V→Option Value
 | .ty n=>some (.type n)
 | .ref a=>some (.ref a)
 | _=>none
theorem clsV_rel {v:V}{u u':Value} (r:RelV v u) (h:clsV v=some u'):u=u':=by
 cases v with
 | ty n=>cases h;exact r
 | ref a=>cases h;exact r
 | _=>cases h
theorem clsV_vals : ∀ {vs:List V}{us us':List Value},Vals vs us→vs.mapM clsV=some us'→us=us'
 | [],_,_,.nil,h=>by cases h;rfl
 | v::vs,_,us',.cons r t,h=>by
  rw [List.mapM_cons] at h
  cases hv:clsV v with
  | none=>rw [hv] at h;cases h
  | some u0 =>
   cases hr:vs.mapM clsV with
   | none=>rw [hv,hr] at h;cases h
   | some us0 =>
    rw [hv,hr] at h
    cases h
    rw [clsV_rel r hv,clsV_vals t hr]
def rIsX (K:PySem.W.Frag):List V→Hp→VK→Prop:=fun xs H Q => ∃ (C ea:Addr) (c:V) (u:Value) (b:Bool),xs=[.ref ea,c]∧H ea=some (excO C ea)∧XCls K C∧clsV c=some u∧PySem.W.kitOne K (.ref C) u=some b∧Q (.bl b) H
def rIsXs (K:PySem.W.Frag):List V→Hp→VK→Prop:=fun xs H Q => ∃ (C ea tp:Addr) (cs:List V) (us:List Value) (b:Bool),xs=[.ref ea,.ref tp]∧H ea=some (excO C ea)∧XCls K C∧H tp=some (.tup cs)∧cs.mapM clsV=some us∧PySem.W.kitAny K (.ref C) us=some b∧Q (.bl b) H
section
variable {X:Cx}
theorem call_isX:CallR X (.builtin "isinstance") (rIsX X.K):=by
 intro pins s σ H xs us Q I r h
 obtain ⟨C,ea,c,u,b,rfl,ha,Z,hc,e,q⟩:=h
 obtain ⟨u1,u2,rfl,rx,rc⟩:=vals2 r
 cases rx
 rw [clsV_rel rc hc]
 obtain ⟨p,_,_⟩:=(show ObjOk X.prog X.w H s.heap ea (excO C ea) from I.hok ea _ ha)
 exact PySem.W.kia_one (kitx_exc Z) I.kIn p e (fun z=>nomatch z) fun tk=>⟨.bl b,H,I.tok tk,rfl,q⟩
theorem call_isXs:CallR X (.builtin "isinstance") (rIsXs X.K):=by
 intro pins s σ H xs us Q I r h
 obtain ⟨C,ea,tp,cs,us',b,rfl,ha,Z,ht,hc,e,q⟩:=h
 obtain ⟨u1,u2,rfl,rx,rc⟩:=vals2 r
 cases rx
 cases rc
 obtain ⟨p,_,_⟩:=(show ObjOk X.prog X.w H s.heap ea (excO C ea) from I.hok ea _ ha)
 obtain ⟨its,rv,pl,_⟩:=I.tuple (SqT.of ht)
 obtain ⟨⟨cls,dd,data,sl⟩,ho,hcl,n,hdt⟩:=pl
 simp only at hcl hdt
 subst hcl hdt
 rw [clsV_vals rv hc] at ho
 exact PySem.W.kia_tup (kitx_exc Z) I.kIn p ho e (fun z=>nomatch z) fun tk=>⟨.bl b,H,I.tok tk,rfl,q⟩
def tVs (vs:List V):TA:=fun _ H Q=>Q vs H
theorem pa_c0:PA X [] (tVs []):=pa_nil
theorem pa_c {e:Expr}{es:List Expr}{v:V}{vs:List V} (he:PE X e (tC v)) (hs:PA X es (tVs vs)) (hst:starEach (e::es) X.env=(false,eval e X.env)::starEach es X.env:=by rfl):PA X (e::es) (tVs (v::vs)):=pa_cons he hs hst
def wIsX (K:PySem.W.Frag) (j:Nat) (u:Value):WE:=fun env Q=>match gS env j with | .exc C=>XCls K C ∧ ∃ b,PySem.W.kitOne K (.ref C) u=some b∧Q (.bool b) env|_=>False
def wIsXs (K:PySem.W.Frag) (j:Nat) (us:List Value):WE:=fun env Q=>match gS env j with | .exc C=>XCls K C ∧ ∃ b,PySem.W.kitAny K (.ref C) us=some b∧Q (.bool b) env|_=>False
section
variable {y:Str}{c:Expr}{cs:List Expr}{v:V}{vs:List V}{u:Value}{us:List Value}{p py pt pos:Pos}{x1:Nat}
theorem ve_isX (j:Nat) (hm:X.mg "isinstance" = none) (hc:PE X c (tC v)) (hu:clsV v=some u) (hj:X.N[j]?=some y:=by rfl) (hv:Vis X.env.scope y:=by first|exact Or.inl rfl|exact Or.inr (Or.inl rfl)|exact Or.inr (Or.inr rfl))
 (hg:Gl X "isinstance":=by rfl) (hd:(y==("__debug__" : Str))=false:=by decide) (hcd:(y==("__classdict__" : Str))=false:=by decide)
 (hs:starEach [.Name y py,c] X.env=(false,eval (.Name y py) X.env)::starEach [c] X.env:=by rfl) (hs2:starEach [c] X.env=(false,eval c X.env)::starEach [] X.env:=by rfl) (hpl:(backTo pos (starEach [c] X.env)).any (·.1)=false:=by rfl) :
 VE X (.Call (.Name "isinstance" p) [.Name y py,c] [] pos) (wIsX X.K j u) :=
 (pe_callB call_isX hg hm boot_isinstance (pa_cons (pe_var hj hv hd hcd) (pa_cons hc pa_nil hs2) hs) (by decide) (by decide) hs hpl).imp fun σ H R xx147=>by
  obtain ⟨M,env,F,Q,I,h,k⟩:=xx147
  have S:=I.slot j
  unfold wIsX at h
  cases q:gS env j with
  | exc C =>
   rw [q] at S h
   obtain ⟨ea,e,z⟩:=S
   obtain ⟨Z,b,hb,h⟩:=h
   exact ⟨_,vS_some e,C,ea,v,u,b,rfl,I.fh.at z,Z,hu,hb,k _ _ F H env I (.refl _) (is_bl _) h⟩
  | non=>rw [q] at h;exact h.elim
  | obj a0 C nm fs=>rw [q] at h;exact h.elim
  | val d=>rw [q] at h;exact h.elim
  | own ds=>rw [q] at h;exact h.elim
  | pen ds=>rw [q] at h;exact h.elim
  | new d=>rw [q] at h;exact h.elim
theorem ve_isXs (j:Nat) (hm:X.mg "isinstance" = none) (hc:PA X cs (tVs vs)) (hu:vs.mapM clsV=some us) (hl:vs.length≤sizeLine) (hj:X.N[j]?=some y:=by rfl) (hv:Vis X.env.scope y:=by first|exact Or.inl rfl|exact Or.inr (Or.inl rfl)|exact Or.inr (Or.inr rfl))
 (hg:Gl X "isinstance":=by rfl) (hd:(y==("__debug__" : Str))=false:=by decide) (hcd:(y==("__classdict__" : Str))=false:=by decide)
 (hs:starEach [.Name y py,.Tuple cs x1 pt] X.env=(false,eval (.Name y py) X.env)::starEach [.Tuple cs x1 pt] X.env:=by rfl) (hs2:starEach [.Tuple cs x1 pt] X.env=(false,eval (.Tuple cs x1 pt) X.env)::starEach [] X.env:=by rfl)
 (hpl:(backTo pos (starEach [.Tuple cs x1 pt] X.env)).any (·.1)=false:=by rfl) :
 VE X (.Call (.Name "isinstance" p) [.Name y py,.Tuple cs x1 pt] [] pos) (wIsXs X.K j us) :=
 (pe_callB call_isXs hg hm boot_isinstance (pa_cons (pe_var hj hv hd hcd) (pa_cons (pe_tup hc) pa_nil hs2) hs) (by decide) (by decide) hs hpl).imp fun σ H R xx148=>by
  obtain ⟨M,env,F,Q,I,h,k⟩:=xx148
  have S:=I.slot j
  unfold wIsXs at h
  cases q:gS env j with
  | exc C =>
   rw [q] at S h
   obtain ⟨ea,e,z⟩:=S
   obtain ⟨Z,b,hb,h⟩:=h
   exact ⟨_,vS_some e,hl,fun tp hp=>⟨C,ea,tp,vs,us,b,rfl,(same_new hp).at (I.fh.at z),Z,upd_same,hu,hb,k _ _ F _ env (I.go (.side I.fh hp)) (.refl _) (is_bl _) h⟩⟩
  | non=>rw [q] at h;exact h.elim
  | obj a0 C nm fs=>rw [q] at h;exact h.elim
  | val d=>rw [q] at h;exact h.elim
  | own ds=>rw [q] at h;exact h.elim
  | pen ds=>rw [q] at h;exact h.elim
  | new d=>rw [q] at h;exact h.elim
end
end
end L2
namespace L2
open PySem PySem.Spec PyProof.Rows
section
variable {prog:Program}{w:World}{A:Around}{E:Value→Shared→Prop}{s:Shared}
def SqIt (b:Bool) (h:Heap) (j l:Addr) (i:Nat):Prop:=match b with
 | true=>h.IsTupleIter j l i
 | false=>h.IsListIter j l i
def SqOf (b:Bool) (h:Heap) (l:Addr) (us:Array Value):Prop:=match b with
 | true=>h.IsTuple l us
 | false=>h.IsList l us
def itTy:Bool→String
 | true => "tuple_iterator"
 | false => "list_iterator"
abbrev itO (b:Bool) (l:Addr):Obj:={ cls :=.type (itTy b),data :=.fields #[.ref l,.int 0 0] }
theorem SqIt.at' {b:Bool}{h h':Heap}{j l:Addr}{i:Nat} (x:SqIt b h j l i) (e : ∀ o,h.get? j=some o→h'.get? j=some o):SqIt b h' j l i:=by
 cases b with
 | true=>exact Heap.IsTupleIter.at x e
 | false=>exact Heap.IsListIter.at x e
theorem SqIt.but {b:Bool}{h h':Heap}{j l c:Addr}{i:Nat} (x:SqIt b h j l i) (e:Heap.SameBut c h h') (n:j≠c):SqIt b h' j l i:=x.at' fun o q=>e.extBut j o n q
theorem SqIt.obj {b:Bool}{h:Heap}{j l:Addr}{i:Nat} (x:SqIt b h j l i) : ∃ o,h.get? j=some o ∧ ∀ v,o.data ≠ .cell v:=by
 cases b with
 | true=>obtain ⟨o,q,_,d⟩:=x;exact ⟨o,q,fun v z=>by rw [d] at z;cases z⟩
 | false=>obtain ⟨o,q,_,d⟩:=x;exact ⟨o,q,fun v z=>by rw [d] at z;cases z⟩
theorem SqOf.at' {b:Bool}{h h':Heap}{l:Addr}{us:Array Value} (x:SqOf b h l us) (e : ∀ o,h.get? l=some o→h'.get? l=some o):SqOf b h' l us:=by
 cases b with
 | true=>obtain ⟨o,q,r⟩:=x;exact ⟨o,e o q,r⟩
 | false=>exact Heap.IsList.at x e
theorem SqOf.but {b:Bool}{h h':Heap}{l c:Addr}{us:Array Value} (x:SqOf b h l us) (e:Heap.SameBut c h h') (n:l≠c):SqOf b h' l us:=x.at' fun o q=>e.extBut l o n q
theorem SqOf.lt {b:Bool}{h:Heap}{l:Addr}{us:Array Value} (x:SqOf b h l us):l<h.objs.size:=by
 cases b with
 | true=>obtain ⟨o,q,_⟩:=x;exact Heap.lt_size q
 | false=>obtain ⟨o,q,_⟩:=x;exact Heap.lt_size q
theorem tnx_item {j t:Addr}{k:Nat}{us:Array Value}{u:Value}{Q:Value→Shared→Prop} (hj:s.heap.IsTupleIter j t k) (ht:s.heap.IsTuple t us) (hu:us[k]?=some u)
 (q : ∀ h',h'.IsTupleIter j t (k+1)→Heap.SameBut j s.heap h'→Q u { s with heap:=h' }):wpAny (model prog w) A (Builtin.SmallTypes.nextOf (.ref j)) Q E s:=by
  obtain ⟨ob,e1,e2,e3⟩:=id hj
  obtain ⟨ot,f1,_,nt,f3⟩:=ht
  unfold Builtin.SmallTypes.nextOf
  refine wpAny_bind (wpAny_callSpecial?_slot (name:=Str.ofString "__next__") hj.typeIs F.slot_tuple_iterator_next (wpAny_call_entry F.slot_tuple_iterator_next hj.typeIs F.entry_tuple_iterator_next ?_ (F.args_tuple_iterator_next_1 _)))
  show wpAny _ _ (field (.ref j) 0 >>= _) _ _ s
  refine wpAny_bind (wpAny_field e1 e3 (x :=.ref t) rfl ?_)
  show wpAny _ _ (if (Value.ref t==Value.none)=true then _ else _) _ _ s
  rw [if_neg (fun z:(Value.ref t==Value.none)=true=>Bool.false_ne_true z)]
  show wpAny _ _ (field (.ref j) 1 >>= _) _ _ s
  refine wpAny_bind (wpAny_field e1 e3 (x :=.int k 0) rfl ?_)
  show wpAny _ _ (seqItems? (.ref t) >>= _) _ _ s
  refine wpAny_bind (wpAny_seqItems f1 f3 ?_)
  simp only [Int.toNat_natCast,hu]
  refine wpAny_bind (wpAny_setField e1 e3 (by simp) (wpAny_pure ⟨u,rfl,wpAny_pure (q _ ?_ (Heap.SameBut.update ..))⟩))
  exact ⟨_,Heap.get?_update_self _ e1 (Obj.isFreed_of_fields (Obj.data_mapFields e3 _)),(Obj.cls_mapFields ..).trans e2,by rw [Obj.data_mapFields e3];simp [rawInt]⟩
theorem tnx_end {j t:Addr}{k:Nat}{us:Array Value}{Q:Value→Shared→Prop} (hh:A.handled=none) (hj:s.heap.IsTupleIter j t k) (ht:s.heap.IsTuple t us) (hu:us[k]?=none)
 (q : ∀ h' e,Heap.ExtBut j s.heap h'→(∃ o,h'.get? e=some o∧o.cls = .type "StopIteration")→E (.ref e) { s with heap:=h' }):wpAny (model prog w) A (Builtin.SmallTypes.nextOf (.ref j)) Q E s:=by
  obtain ⟨ob,e1,e2,e3⟩:=id hj
  obtain ⟨ot,f1,_,nt,f3⟩:=ht
  unfold Builtin.SmallTypes.nextOf
  refine wpAny_bind (wpAny_callSpecial?_slot (name:=Str.ofString "__next__") hj.typeIs F.slot_tuple_iterator_next (wpAny_call_entry F.slot_tuple_iterator_next hj.typeIs F.entry_tuple_iterator_next ?_ (F.args_tuple_iterator_next_1 _)))
  show wpAny _ _ (field (.ref j) 0 >>= _) _ _ s
  refine wpAny_bind (wpAny_field e1 e3 (x :=.ref t) rfl ?_)
  show wpAny _ _ (if (Value.ref t==Value.none)=true then _ else _) _ _ s
  rw [if_neg (fun z:(Value.ref t==Value.none)=true=>Bool.false_ne_true z)]
  show wpAny _ _ (field (.ref j) 1 >>= _) _ _ s
  refine wpAny_bind (wpAny_field e1 e3 (x :=.int k 0) rfl ?_)
  show wpAny _ _ (seqItems? (.ref t) >>= _) _ _ s
  refine wpAny_bind (wpAny_seqItems f1 f3 ?_)
  simp only [Int.toNat_natCast,hu]
  refine wpAny_bind (wpAny_rule (wpAny_bind (wpAny_setField e1 e3 (by simp) ?_)))
  show wpAny _ _ (newExc (.type "StopIteration") [] >>= _) _ _ _
  refine wpAny_bind (?_:wpAny _ _ (newExc (.type "StopIteration") []) _ _ _)
  simp only [newExc,newTuple]
  refine wpAny_bind (wpAny_newObj_type (?_:_) (by size_fits))
  refine wpAny_bind (m:=firstArgMember _ _) (wpAny_of_eq (a:=Value.none) (by first|rfl|(simp only [firstArgMember];rfl)|skip) ?_)
  refine wpAny_newObj_type (?_:_) (by size_fits)
  simp only [raiseNew]
  refine wpAny_bind (wpAny_handled (?_:_))
  first|rw [hh]|rw [show A.in1.handled=none from hh]
  refine wpAny_bind (wpAny_pure (wpAny_throw (?_:_)))
  exact q _ _ (((Heap.SameBut.update ..).extBut.push _).push _) ⟨_,Heap.get?_push_size _ rfl,rfl⟩
theorem snx_item {b:Bool}{j l:Addr}{k:Nat}{us:Array Value}{u:Value}{Q:Value→Shared→Prop} (hj:SqIt b s.heap j l k) (hl:SqOf b s.heap l us) (hu:us[k]?=some u)
 (q : ∀ h',SqIt b h' j l (k+1)→Heap.SameBut j s.heap h'→Q u { s with heap:=h' }):wpAny (model prog w) A (Builtin.SmallTypes.nextOf (.ref j)) Q E s:=by
  cases b with
  | true=>exact tnx_item hj hl hu q
  | false=>exact wpAny_nextOf_list_item hj hl hu q
theorem snx_end {b:Bool}{j l:Addr}{k:Nat}{us:Array Value}{Q:Value→Shared→Prop} (hh:A.handled=none) (hj:SqIt b s.heap j l k) (hl:SqOf b s.heap l us) (hu:us[k]?=none)
 (q : ∀ h' e,Heap.ExtBut j s.heap h'→(∃ o,h'.get? e=some o∧o.cls = .type "StopIteration")→E (.ref e) { s with heap:=h' }):wpAny (model prog w) A (Builtin.SmallTypes.nextOf (.ref j)) Q E s:=by
  cases b with
  | true=>exact tnx_end hh hj hl hu q
  | false=>exact wpAny_nextOf_list_end hh hj hl hu q
theorem sit_new {b:Bool}{l:Addr}{us:Array Value}{Q:Value→Shared→Prop} (hl:SqOf b s.heap l us) (q:Q (.ref s.heap.objs.size) { s with heap:=s.heap.push (itO b l) }):wpAny (model prog w) A (pyIter (.ref l)) Q E s:=by
 cases b with
 | true=>exact wpAny_pyIter_tuple hl q
 | false=>exact wpAny_pyIter_list hl q
theorem zpn_item {b c:Bool}{z TI TO j1 j2 l1 l2:Addr}{k1 k2:Nat}{us vs:Array Value}{u v x0 y0:Value}{Q:Value→Shared→Prop} (D:ZipApart z TI TO j1 j2 l1 l2)
 (a0:IsZip s.heap z TI TO .none) (a1:IsPair s.heap TI (.ref j1) (.ref j2)) (a2:IsPair s.heap TO x0 y0)
 (e1:SqIt b s.heap j1 l1 k1) (e2:SqIt c s.heap j2 l2 k2) (g1:SqOf b s.heap l1 us) (g2:SqOf c s.heap l2 vs) (hu:us[k1]?=some u) (hv:vs[k2]?=some v)
 (q : ∀ h',IsZip h' z TI TO (rawInt s.heap.objs.size)→IsPair h' TO u v→SqIt b h' j1 l1 (k1+1)→SqIt c h' j2 l2 (k2+1)→IsPair h' s.heap.objs.size u v→h'.objs.size=s.heap.objs.size+1 →
 (∀ a o,a≠z→a≠TO→a≠j1→a≠j2→s.heap.get? a=some o→h'.get? a=some o)→Q (.ref s.heap.objs.size) { s with heap:=h' }) :
  wpAny (model prog w) A (Builtin.«zip.__next__» ⟨[.ref z],[]⟩) (fun r s' => ∃ y,r = .done (.ret y)∧Q y s') E s:=by
  show wpAny _ _ (field (.ref z) 2 >>= _) _ _ _
  refine wpAny_bind (wpAny_field a0 rfl (x :=.bool false) rfl ?_)
  show wpAny _ _ (field (.ref z) 3 >>= _) _ _ _
  refine wpAny_bind (wpAny_field a0 rfl (x :=.ref TI) rfl ?_)
  refine wpAny_bind (wpAny_seqItems a1 rfl ?_)
  show wpAny _ _ (Builtin.SmallTypes.ownedTupleIsFree (.ref z) >>= _) _ _ _
  refine wpAny_bind (?_:wpAny _ _ (Builtin.SmallTypes.ownedTupleIsFree (.ref z)) _ _ _)
  unfold Builtin.SmallTypes.ownedTupleIsFree
  refine wpAny_bind (wpAny_field a0 rfl (x :=.none) rfl (wpAny_pure ?_))
  simp only [if_true]
  refine wpAny_bind (wpAny_rule (?_:_))
  refine wpAny_bind (wpAny_field a0 rfl (x :=.ref TO) rfl ?_)
  refine wpAny_bind (wpAny_setField_rec a0 (by simp) fun p1 b0 m1=>?_)
  replace b0:IsZip p1 z TI TO .ellipsis:=b0
  refine wpAny_bind (?_:_)
  simp only [List.zipIdx_cons,List.zipIdx_nil,List.forIn_cons,List.forIn_nil]
  refine wpAny_bind (wpAny_bind (wpAny_onRaise (?_:_)))
  show wpAny _ _ (Builtin.SmallTypes.nextOf (.ref j1) >>= _) _ _ _
  refine wpAny_bind (snx_item (e1.but m1 D.i1z) (g1.but m1 D.l1z) hu fun p2 f1 m2=>wpAny_pure ?_)
  have c2:IsPair p2 TO x0 y0:=m2.extBut _ _ D.TOi1 (m1.extBut _ _ D.TOz a2)
  refine wpAny_bind (wpAny_seqItems c2 rfl ?_)
  refine wpAny_bind (wpAny_updateSeq_pair c2 fun p3 c3 m3=>?_)
  replace c3:IsPair p3 TO u y0:=c3
  refine wpAny_bind (wpAny_letGo (wpAny_pure (?_:_)))
  refine wpAny_bind (wpAny_bind (wpAny_onRaise (?_:_)))
  show wpAny _ _ (Builtin.SmallTypes.nextOf (.ref j2) >>= _) _ _ _
  refine wpAny_bind (snx_item (((e2.but m1 D.i2z).but m2 D.i12.symm).but m3 D.TOi2.symm) (((g2.but m1 D.l2z).but m2 D.l2i1).but m3 D.l2TO) hv fun p4 f2 m4=>wpAny_pure ?_)
  have c4:IsPair p4 TO u y0:=m4.extBut _ _ D.TOi2 c3
  refine wpAny_bind (wpAny_seqItems c4 rfl ?_)
  refine wpAny_bind (wpAny_updateSeq_pair c4 fun p5 c5 m5=>?_)
  replace c5:IsPair p5 TO u v:=c5
  refine wpAny_bind (wpAny_letGo (wpAny_pure (wpAny_pure (?_:_))))
  refine wpAny_bind (wpAny_seqItems c5 rfl ?_)
  refine wpAny_bind (wpAny_newTuple (?_:_))
  have sz:p5.objs.size=s.heap.objs.size:=by rw [m5.1,m4.1,m3.1,m2.1,m1.1]
  have b5:IsZip p5 z TI TO .ellipsis:=m5.extBut _ _ D.TOz.symm (m4.extBut _ _ D.i2z.symm (m3.extBut _ _ D.TOz.symm (m2.extBut _ _ D.i1z.symm b0)))
  have k5 : ∀ a o,a≠z→a≠TO→a≠j1→a≠j2→s.heap.get? a=some o→p5.get? a=some o:=fun a o n1 n2 n3 n4 e =>
   m5.extBut _ _ n2 (m4.extBut _ _ n4 (m3.extBut _ _ n2 (m2.extBut _ _ n3 (m1.extBut _ _ n1 e))))
  have f5:SqIt b p5 j1 l1 (k1+1):=((f1.but m3 D.TOi1.symm).but m4 D.i12).but m5 D.TOi1.symm
  have f6:SqIt c p5 j2 l2 (k2+1):=f2.but m5 D.TOi2.symm
  have zlt:z<p5.objs.size:=Heap.lt_size b5
  show wpAny _ _ (Builtin.SmallTypes.ownedTupleHandOut (.ref z) (.ref p5.objs.size) >>= _) _ _ _
  refine wpAny_bind (?_:wpAny _ _ (Builtin.SmallTypes.ownedTupleHandOut (.ref z) (.ref p5.objs.size)) _ _ _)
  unfold Builtin.SmallTypes.ownedTupleHandOut
  have b6:IsZip (p5.push { cls :=.type "tuple",data :=.seq #[u,v] }) z TI TO .ellipsis:=Heap.get?_push_of_some _ b5
  refine wpAny_bind (wpAny_setField_rec b6 (by simp) fun p7 b7 m7=>?_)
  replace b7:IsZip p7 z TI TO (rawInt p5.objs.size):=b7
  refine wpAny_setField_rec b7 (by simp) fun p8 b8 m8=>?_
  replace b8:IsZip p8 z TI TO (rawInt p5.objs.size):=b8
  have up : ∀ a o,a≠z→p5.get? a=some o→p8.get? a=some o:=fun a o n e=>m8.extBut _ _ n (m7.extBut _ _ n (Heap.get?_push_of_some _ e))
  have t8:IsPair p8 p5.objs.size u v:=m8.extBut _ _ (Nat.ne_of_gt zlt) (m7.extBut _ _ (Nat.ne_of_gt zlt) (Heap.get?_push_size _ rfl))
  have z8:p8.objs.size=p5.objs.size+1:=by rw [m8.1,m7.1,Heap.size_push]
  rw [sz] at b8 t8 z8
  refine wpAny_pure ⟨_,rfl,(?_:Q (.ref p5.objs.size) _)⟩
  rw [sz]
  exact q p8 b8 (up _ _ D.TOz c5) (f5.at' fun o e=>up _ o D.i1z e) (f6.at' fun o e=>up _ o D.i2z e) t8 z8 fun a o n1 n2 n3 n4 e=>up a o n1 (k5 a o n1 n2 n3 n4 e)
theorem zpn_end {b c:Bool}{z TI TO j1 j2 l1 l2:Addr}{k1 k2:Nat}{us vs:Array Value}{x0 y0:Value}{Q:Fin→Shared→Prop} (hh:A.handled=none) (D:ZipApart z TI TO j1 j2 l1 l2)
 (a0:IsZip s.heap z TI TO .none) (a1:IsPair s.heap TI (.ref j1) (.ref j2)) (a2:IsPair s.heap TO x0 y0)
 (e1:SqIt b s.heap j1 l1 k1) (e2:SqIt c s.heap j2 l2 k2) (g1:SqOf b s.heap l1 us) (g2:SqOf c s.heap l2 vs) (hend:us[k1]?=none∨vs[k2]?=none)
 (q : ∀ h' e,(∀ a o,a≠z→a≠TO→a≠j1→a≠j2→s.heap.get? a=some o→h'.get? a=some o)→(∃ o,h'.get? e=some o∧o.cls = .type "StopIteration")→E (.ref e) { s with heap:=h' }) :
  wpAny (model prog w) A (Builtin.«zip.__next__» ⟨[.ref z],[]⟩) Q E s:=by
  show wpAny _ _ (field (.ref z) 2 >>= _) _ _ _
  refine wpAny_bind (wpAny_field a0 rfl (x :=.bool false) rfl ?_)
  show wpAny _ _ (field (.ref z) 3 >>= _) _ _ _
  refine wpAny_bind (wpAny_field a0 rfl (x :=.ref TI) rfl ?_)
  refine wpAny_bind (wpAny_seqItems a1 rfl ?_)
  show wpAny _ _ (Builtin.SmallTypes.ownedTupleIsFree (.ref z) >>= _) _ _ _
  refine wpAny_bind (?_:wpAny _ _ (Builtin.SmallTypes.ownedTupleIsFree (.ref z)) _ _ _)
  unfold Builtin.SmallTypes.ownedTupleIsFree
  refine wpAny_bind (wpAny_field a0 rfl (x :=.none) rfl (wpAny_pure ?_))
  simp only [if_true]
  refine wpAny_bind (wpAny_rule (?_:_))
  refine wpAny_bind (wpAny_field a0 rfl (x :=.ref TO) rfl ?_)
  refine wpAny_bind (wpAny_setField_rec a0 (by simp) fun p1 b0 m1=>?_)
  replace b0:IsZip p1 z TI TO .ellipsis:=b0
  refine wpAny_bind (?_:_)
  simp only [List.zipIdx_cons,List.zipIdx_nil,List.forIn_cons,List.forIn_nil]
  refine wpAny_bind (wpAny_bind (wpAny_onRaise (?_:_)))
  show wpAny _ _ (Builtin.SmallTypes.nextOf (.ref j1) >>= _) _ _ _
  cases hu:us[k1]? with
  | none =>
   refine wpAny_bind (snx_end hh (e1.but m1 D.i1z) (g1.but m1 D.l1z) hu fun p2 e m2 he=>?_)
   obtain ⟨oe,h3,h4⟩:=he
   have b2:IsZip p2 z TI TO .ellipsis:=m2 _ _ D.i1z.symm b0
   have nz:e≠z:=fun x=>by subst x;rw [b2] at h3;cases h3;simp at h4
   exact wpAny_setField_rec b2 (by simp) fun p3 _ m3=>q p3 e (fun a o n1 _ n3 _ x=>m3.extBut _ _ n1 (m2 _ _ n3 (m1.extBut _ _ n1 x))) ⟨oe,m3.extBut _ _ nz h3,h4⟩
  | some u =>
   have hv:vs[k2]?=none:=by
    rcases hend with h|h
    ·rw [hu] at h;cases h
    ·exact h
   refine wpAny_bind (snx_item (e1.but m1 D.i1z) (g1.but m1 D.l1z) hu fun p2 f1 m2=>wpAny_pure ?_)
   have c2:IsPair p2 TO x0 y0:=m2.extBut _ _ D.TOi1 (m1.extBut _ _ D.TOz a2)
   refine wpAny_bind (wpAny_seqItems c2 rfl ?_)
   refine wpAny_bind (wpAny_updateSeq_pair c2 fun p3 c3 m3=>?_)
   refine wpAny_bind (wpAny_letGo (wpAny_pure (?_:_)))
   refine wpAny_bind (wpAny_bind (wpAny_onRaise (?_:_)))
   show wpAny _ _ (Builtin.SmallTypes.nextOf (.ref j2) >>= _) _ _ _
   refine wpAny_bind (snx_end hh (((e2.but m1 D.i2z).but m2 D.i12.symm).but m3 D.TOi2.symm) (((g2.but m1 D.l2z).but m2 D.l2i1).but m3 D.l2TO) hv fun p4 e m4 he=>?_)
   obtain ⟨oe,h3,h4⟩:=he
   have b4:IsZip p4 z TI TO .ellipsis:=m4 _ _ D.i2z.symm (m3.extBut _ _ D.TOz.symm (m2.extBut _ _ D.i1z.symm b0))
   have nz:e≠z:=fun x=>by subst x;rw [b4] at h3;cases h3;simp at h4
   exact wpAny_setField_rec b4 (by simp) fun p5 _ m5=>q p5 e (fun a o n1 n2 n3 n4 x=>m5.extBut _ _ n1 (m4 _ _ n4 (m3.extBut _ _ n2 (m2.extBut _ _ n3 (m1.extBut _ _ n1 x))))) ⟨oe,m5.extBut _ _ nz h3,h4⟩
theorem zpy_item {b c:Bool}{z TI TO j1 j2 l1 l2:Addr}{k1 k2:Nat}{us vs:Array Value}{u v x0 y0:Value}{Q:Option Value→Shared→Prop} (D:ZipApart z TI TO j1 j2 l1 l2)
 (a0:IsZip s.heap z TI TO .none) (a1:IsPair s.heap TI (.ref j1) (.ref j2)) (a2:IsPair s.heap TO x0 y0)
 (e1:SqIt b s.heap j1 l1 k1) (e2:SqIt c s.heap j2 l2 k2) (g1:SqOf b s.heap l1 us) (g2:SqOf c s.heap l2 vs) (hu:us[k1]?=some u) (hv:vs[k2]?=some v)
 (q : ∀ h',IsZip h' z TI TO (rawInt s.heap.objs.size)→IsPair h' TO u v→SqIt b h' j1 l1 (k1+1)→SqIt c h' j2 l2 (k2+1)→IsPair h' s.heap.objs.size u v→h'.objs.size=s.heap.objs.size+1 →
 (∀ a o,a≠z→a≠TO→a≠j1→a≠j2→s.heap.get? a=some o→h'.get? a=some o)→Q (some (.ref s.heap.objs.size)) { s with heap:=h' }) :
  wpAny (model prog w) A (pyNext (.ref z)) Q E s:=by
  have ty:s.TypeIs (.ref z) "zip":=⟨_,a0,rfl⟩
  unfold pyNext
  exact wpAny_bind (wpAny_attempt (wpAny_callSpecial?_slot (name:=Str.ofString "__next__") ty F.slot_zip_next (wpAny_call_entry F.slot_zip_next ty F.entry_zip_next
   (zpn_item D a0 a1 a2 e1 e2 g1 g2 hu hv fun h' r1 r2 r3 r4 r5 r6 r7=>wpAny_pure (q h' r1 r2 r3 r4 r5 r6 r7)) (F.args_zip_next_1 _))))
theorem zpy_end {b c:Bool}{z TI TO j1 j2 l1 l2:Addr}{k1 k2:Nat}{us vs:Array Value}{x0 y0:Value}{Q:Option Value→Shared→Prop} (hh:A.handled=none) (D:ZipApart z TI TO j1 j2 l1 l2)
 (a0:IsZip s.heap z TI TO .none) (a1:IsPair s.heap TI (.ref j1) (.ref j2)) (a2:IsPair s.heap TO x0 y0)
 (e1:SqIt b s.heap j1 l1 k1) (e2:SqIt c s.heap j2 l2 k2) (g1:SqOf b s.heap l1 us) (g2:SqOf c s.heap l2 vs) (hend:us[k1]?=none∨vs[k2]?=none)
 (q : ∀ h',(∀ a o,a≠z→a≠TO→a≠j1→a≠j2→s.heap.get? a=some o→h'.get? a=some o)→Q none { s with heap:=h' }):wpAny (model prog w) A (pyNext (.ref z)) Q E s:=by
  have ty:s.TypeIs (.ref z) "zip":=⟨_,a0,rfl⟩
  unfold pyNext
  refine wpAny_bind (wpAny_attempt (wpAny_callSpecial?_slot (name:=Str.ofString "__next__") ty F.slot_zip_next (wpAny_call_entry F.slot_zip_next ty F.entry_zip_next (zpn_end hh D a0 a1 a2 e1 e2 g1 g2 hend fun h' e hk he=>?_) (F.args_zip_next_1 _))))
  obtain ⟨o,ho,hc⟩:=he
  exact wpAny_bind (wpAny_isInstance (T := "StopIteration") (b:=true) ⟨o,ho,hc⟩ isSubtype_stop (wpAny_pure (q _ hk)))
abbrev zh1 (b:Bool) (h:Heap) (l:Addr):Heap:=h.push (itO b l)
abbrev zh2 (b c:Bool) (h:Heap) (l1 l2:Addr):Heap:=(zh1 b h l1).push (itO c l2)
abbrev zh3 (b c:Bool) (h:Heap) (l1 l2:Addr):Heap:=(zh2 b c h l1 l2).push { cls :=.type "tuple",data :=.seq #[.ref h.objs.size,.ref (zh1 b h l1).objs.size] }
abbrev zh4 (b c:Bool) (h:Heap) (l1 l2:Addr):Heap:=(zh3 b c h l1 l2).push { cls :=.type "tuple",data :=.seq #[.none,.none] }
abbrev zh5 (b c:Bool) (h:Heap) (l1 l2:Addr):Heap:=(zh4 b c h l1 l2).push { cls :=.type "zip",data :=.fields #[.none,.bool false,.bool false,.ref (zh2 b c h l1 l2).objs.size,.ref (zh3 b c h l1 l2).objs.size] }
theorem zp_new (b c:Bool) (l1 l2:Addr) (us vs:Array Value):Meets (Builtin.«zip.__new__» ⟨[.type "zip",.ref l1,.ref l2],[]⟩)
 (fun _ R s=>SqOf b s.heap l1 us∧SqOf c s.heap l2 vs∧R (.ok (.ret (.ref (zh4 b c s.heap l1 l2).objs.size))) { s with heap:=zh5 b c s.heap l1 l2 }) :=
  .of_wp fun prog w A R s h=>by
   obtain ⟨hp,g,d,tk,os⟩:=s
   obtain ⟨g1,g2,h⟩:=h
   have hsub:=sub_zip
   have y1:SqOf b (Shared.heap ⟨hp,g,d,tk,os⟩) l1 us:=g1
   have y2:SqOf c (Shared.heap ⟨hp.push (itO b l1),g,d,tk,os⟩) l2 vs:=SqOf.at' g2 fun o e=>Heap.get?_push_of_some _ e
   wp_walk using sit_new y1,sit_new y2
   exact ⟨_,rfl,h⟩
theorem zp_call {b c:Bool}{l1 l2:Addr}{us vs:Array Value}{Q:Value→Shared→Prop} (g1:SqOf b s.heap l1 us) (g2:SqOf c s.heap l2 vs)
 (q : ∀ h',IsZip h' (s.heap.objs.size+4) (s.heap.objs.size+2) (s.heap.objs.size+3) .none→IsPair h' (s.heap.objs.size+2) (.ref s.heap.objs.size) (.ref (s.heap.objs.size+1)) →
 IsPair h' (s.heap.objs.size+3) .none .none→SqIt b h' s.heap.objs.size l1 0→SqIt c h' (s.heap.objs.size+1) l2 0→(∀ a o,s.heap.get? a=some o→h'.get? a=some o)→Q (.ref (s.heap.objs.size+4)) { s with heap:=h' }) :
  wpAny (model prog w) A (call (.type "zip") [.ref l1,.ref l2]) Q E s:=by
  refine callType_new F.called_zip (by decide) (F.typeCall_zip_2 _ _) (F.newCall_zip_2 _ _) (fun ob=>F.args_object_init_3 ob _ _) F.entry_zip_new (zp_new b c l1 l2 us vs) ⟨g1,g2,?_⟩
  have n1:(zh1 b s.heap l1).objs.size=s.heap.objs.size+1:=Heap.size_push ..
  have n2:(zh2 b c s.heap l1 l2).objs.size=s.heap.objs.size+2:=by rw [Heap.size_push,n1]
  have n3:(zh3 b c s.heap l1 l2).objs.size=s.heap.objs.size+3:=by rw [Heap.size_push,n2]
  have n4:(zh4 b c s.heap l1 l2).objs.size=s.heap.objs.size+4:=by rw [Heap.size_push,n3]
  have r5:(zh5 b c s.heap l1 l2).get? (zh4 b c s.heap l1 l2).objs.size=some _:=Heap.get?_push_size _ rfl
  have r4:(zh5 b c s.heap l1 l2).get? (zh3 b c s.heap l1 l2).objs.size=some _:=Heap.get?_push_of_some _ (Heap.get?_push_size _ rfl)
  have r3:(zh5 b c s.heap l1 l2).get? (zh2 b c s.heap l1 l2).objs.size=some _:=Heap.get?_push_of_some _ (Heap.get?_push_of_some _ (Heap.get?_push_size _ rfl))
  have r2:(zh5 b c s.heap l1 l2).get? (zh1 b s.heap l1).objs.size=some (itO c l2):=Heap.get?_push_of_some _ (Heap.get?_push_of_some _ (Heap.get?_push_of_some _ (Heap.get?_push_size _ rfl)))
  have r1:(zh5 b c s.heap l1 l2).get? s.heap.objs.size=some (itO b l1):=Heap.get?_push_of_some _ (Heap.get?_push_of_some _ (Heap.get?_push_of_some _ (Heap.get?_push_of_some _ (Heap.get?_push_size _ rfl))))
  show _∧_
  rw [n2,n3,n4] at r5
  rw [n1,n2] at r3
  rw [n3] at r4
  rw [n1] at r2
  rw [n4]
  have si : ∀ {b:Bool}{h:Heap}{a l:Addr},h.get? a=some (itO b l)→SqIt b h a l 0:=fun {b}{h}{a}{l} e=>by
   cases b with
   | true=>exact ⟨_,e,rfl,rfl⟩
   | false=>exact ⟨_,e,rfl,rfl⟩
  exact ⟨⟨_,r5,rfl⟩,q _ r5 r3 r4 (si r1) (si r2) fun a o x=>Heap.get?_push_of_some _ (Heap.get?_push_of_some _ (Heap.get?_push_of_some _ (Heap.get?_push_of_some _ (Heap.get?_push_of_some _ x))))⟩
end
end L2
namespace L2
open PySem PySem.Spec PyProof.Rows
def SqX (b:Bool) (K:PySem.W.Frag) (H:Hp) (a:Addr) (xs:List V):Prop:=match b with
 | true=>SqT K H a xs
 | false=>SqL K H a xs
section
variable {X:Cx}{pins:List (Addr×Obj)}{σ:St}{H:Hp}{s:Shared}{b:Bool}{a:Addr}{xs ys:List V}
theorem Inv.sqx (I:Inv X pins σ H s) (h:SqX b X.K H a xs) : ∃ its:List Value,Vals xs its∧SqOf b s.heap a its.toArray:=by
 cases b with
 | true =>
  obtain ⟨its,r,p,_⟩:=I.tuple h
  obtain ⟨o,ho,hc,n,hd⟩:=p
  exact ⟨its,r,o,ho,hc,n,hd⟩
 | false =>
  obtain ⟨its,r,p,_⟩:=I.list h
  exact ⟨its,r,p.isList⟩
theorem Inv.sqx_inj (I:Inv X pins σ H s) (h:SqX b X.K H a xs) (h':SqX b X.K H a ys):xs=ys:=by
 cases b with
 | true=>exact I.tuple_inj h h'
 | false=>exact I.list_inj h h'
end
def Itz (K:PySem.W.Frag) (b c:Bool) (l m:Addr):It :=
 ⟨fun i H => ∃ xs ys x y,SqX b K H l xs∧SqX c K H m ys∧xs[i]?=some x∧ys[i]?=some y,fun i H v H' => ∃ p x y,(∀ xs,SqX b K H l xs→xs[i]?=some x)∧(∀ ys,SqX c K H m ys→ys[i]?=some y)∧H p=none∧v = .ref p∧H'=upd H p (.tup [x,y]),
  fun i H => ∃ xs ys,SqX b K H l xs∧SqX c K H m ys∧(xs.length≤i∨ys.length≤i)⟩
theorem turn_zip {P:Program}{w:World}{K:PySem.W.Frag}{elts:List Expr}{x1:Nat}{tpos:Pos}{b c:Bool} (z TI TO j1 j2 l m:Addr) (D:ZipApart z TI TO j1 j2 l m) :
 Turn P w K (.Tuple elts x1 tpos) (Itz K b c l m) [z,TI,TO,j1,j2] z (fun i h=>IsZip h z TI TO .none∧IsPair h TI (.ref j1) (.ref j2)∧(∃ x0 y0,IsPair h TO x0 y0)∧SqIt b h j1 l i∧SqIt c h j2 m i) where
  mem:=by simp
  obj:=fun i h st a ha=>by
   obtain ⟨s0,s1,⟨x0,y0,s2⟩,s3,s4⟩:=st
   simp only [List.mem_cons,List.not_mem_nil,or_false] at ha
   rcases ha with rfl|rfl|rfl|rfl|rfl
   ·exact ⟨_,s0,fun v z=>by have z':Data.fields _=Data.cell v:=z;cases z'⟩
   ·exact ⟨_,s1,fun v z=>by have z':Data.seq _ _=Data.cell v:=z;cases z'⟩
   ·exact ⟨_,s2,fun v z=>by have z':Data.seq _ _=Data.cell v:=z;cases z'⟩
   ·exact s3.obj
   ·exact s4.obj
  keep:=fun i h h' st k=>by
   obtain ⟨s0,s1,⟨x0,y0,s2⟩,s3,s4⟩:=st
   exact ⟨k z (by simp) _ s0,k TI (by simp) _ s1,⟨x0,y0,k TO (by simp) _ s2⟩,s3.at' fun o q=>k j1 (by simp) o q,s4.at' fun o q=>k j2 (by simp) o q⟩
  item:=by
   intro X hP hw hK hc i pins s σ H E I hf st hg
   subst hP hw hK
   obtain ⟨xs,ys,x,y,hq,hq',hx,hy⟩:=hg
   obtain ⟨us,rv,p1⟩:=I.sqx hq
   obtain ⟨vs,rw',p2⟩:=I.sqx hq'
   obtain ⟨u,hu,ru⟩:=rv.get hx
   obtain ⟨v,hv,rv'⟩:=rw'.get hy
   obtain ⟨s0,s1,⟨x0,y0,s2⟩,s3,s4⟩:=st
   obtain ⟨z0,z1,z2,z3,z4,z5⟩:=hf z (by simp)
   obtain ⟨o0,o1,o2,o3,o4,o5⟩:=hf TO (by simp)
   obtain ⟨f0,f1,f2,f3,f4,f5⟩:=hf j1 (by simp)
   obtain ⟨g0,g1,g2,g3,g4,g5⟩:=hf j2 (by simp)
   have zlt:z<s.heap.objs.size:=Heap.lt_size s0
   refine zpy_item D s0 s1 s2 s3 s4 p1 p2 (u:=u) (v:=v) (by simpa using hu) (by simpa using hv) fun h₁ a0 a2 a3 a4 ht hz₁ hk=>⟨_,rfl,?_⟩
   refine wpAny_letOwnedTupleGo_zip (s:={ s with heap:=h₁ }) a0 fun h₂ he₂ hs₂=>?_
   replace hs₂:Heap.SameBut z h₁ h₂:=hs₂
   have fresh:H s.heap.objs.size=none:=I.hok.fresh (Nat.le_refl _)
   have kk : ∀ a o,a≠z→a≠TO→a≠j1→a≠j2→s.heap.get? a=some o→h₂.get? a=some o:=fun a o b1 b2 b3 b4 q=>hs₂.extBut a o b1 (hk a o b1 b2 b3 b4 q)
   have kc : ∀ a o,a ∉ [z,TO,j1,j2]→s.heap.get? a=some o→h₂.get? a=some o:=fun a o hc q=>kk a o (fun z=>hc (by simp [z])) (fun z=>hc (by simp [z])) (fun z=>hc (by simp [z])) (fun z=>hc (by simp [z])) q
   have nb : ∀ a o v,s.heap.get? a=some o→H a=some v→h₂.get? a=some o:=fun a o v e q=>kk a o (fun n=>by rw [n,z0] at q;cases q) (fun n=>by rw [n,o0] at q;cases q) (fun n=>by rw [n,f0] at q;cases q) (fun n=>by rw [n,g0] at q;cases q) e
   have ht₂:h₂.get? s.heap.objs.size=some { cls :=.type "tuple",data :=.seq #[u,v] }:=(hs₂.2 _ (Nat.ne_of_gt zlt)).trans ht
   have I1:Inv X pins σ (upd H s.heap.objs.size (.tup [x,y])) { s with heap:=h₂ }:=by
    refine I.step (t':=s.toks) (g':=s.gens) (d':=s.drawn) (ch:=[z,TO,j1,j2]) (fun a ha=>?_) (fun a o _ _ hc q _=>kc a o hc q)
     (fun a o _ _ hc q _=>⟨o.slots,kc a o hc q⟩) (fun a o _ q n=>by rw [upd_ne (Nat.ne_of_lt (Heap.lt_size q))];exact n)
     (fun a o hc q=>⟨o,kc a o hc q⟩) (fun a ys q=>by rw [upd_ne (ne_of_none q fresh)];exact q) (fun a o v q=>by rw [upd_ne (ne_of_none q fresh)];exact q)
     (fun a ps q=>⟨#[],by rw [upd_ne (ne_of_none q fresh),q];simp,.nil⟩) (fun m hm=>?_) (fun a v' q=>?_) I.bare
    ·simp only [List.mem_cons,List.not_mem_nil,or_false] at ha
     rcases ha with rfl|rfl|rfl|rfl
     ·exact ⟨z3,z1,z4,z5⟩
     ·exact ⟨o3,o1,o4,o5⟩
     ·exact ⟨f3,f1,f4,f5⟩
     ·exact ⟨g3,g1,g4,g5⟩
    ·obtain ⟨o,es,ep,ho',r⟩:=hm
     exact ⟨o,es,ep,kk _ o (Ne.symm z1) (Ne.symm o1) (Ne.symm f1) (Ne.symm g1) ho',r⟩
    ·by_cases hb:a=s.heap.objs.size
     ·subst hb
      rw [upd_same] at q
      cases q
      exact ⟨(by show 2≤sizeLine;decide),[u,v],.cons ru (.cons rv' .nil),⟨_,ht₂,rfl,_,rfl⟩⟩
     ·rw [upd_ne hb] at q
      refine (I.hok a v' q).stay (fun d ob hd e=>?_) (fun d e=>by rw [upd_ne (ne_of_none e fresh)];exact e) fun d ws e=>by rw [upd_ne (ne_of_none e fresh)];exact e
      rcases hd with hd|hd
      ·subst hd;exact nb _ _ _ e q
      ·exact nb _ _ _ e hd
   refine ⟨.ref s.heap.objs.size,_,I1,rfl,⟨s.heap.objs.size,x,y,fun ws hw=>by rw [I.sqx_inj hw hq];exact hx,fun ws hw=>by rw [I.sqx_inj hw hq'];exact hy,fresh,rfl,rfl⟩,⟨he₂,?_,⟨u,v,?_⟩,?_,?_⟩,fun a ha=>?_⟩
   ·exact hs₂.extBut _ _ D.TIz (hk _ _ D.TIz D.TITO D.TIi1 D.TIi2 s1)
   ·exact hs₂.extBut _ _ D.TOz a2
   ·exact a3.but hs₂ D.i1z
   ·exact a4.but hs₂ D.i2z
   ·have hlt:a<s.heap.objs.size:=by
     simp only [List.mem_cons,List.not_mem_nil,or_false] at ha
     rcases ha with rfl|rfl|rfl|rfl|rfl
     ·exact zlt
     ·exact Heap.lt_size s1
     ·exact Heap.lt_size s2
     ·obtain ⟨o,q,_⟩:=s3.obj;exact Heap.lt_size q
     ·obtain ⟨o,q,_⟩:=s4.obj;exact Heap.lt_size q
    rw [upd_ne (Nat.ne_of_lt hlt)]
    exact (hf a ha).1
  done:=by
   intro X hP hw hK hc i pins s σ H E I hf st hg
   subst hP hw hK
   obtain ⟨xs,ys,hq,hq',hx⟩:=hg
   obtain ⟨us,rv,p1⟩:=I.sqx hq
   obtain ⟨vs,rw',p2⟩:=I.sqx hq'
   obtain ⟨s0,s1,⟨x0,y0,s2⟩,s3,s4⟩:=st
   obtain ⟨z0,z1,z2,z3,z4,z5⟩:=hf z (by simp)
   obtain ⟨o0,o1,o2,o3,o4,o5⟩:=hf TO (by simp)
   obtain ⟨f0,f1,f2,f3,f4,f5⟩:=hf j1 (by simp)
   obtain ⟨g0,g1,g2,g3,g4,g5⟩:=hf j2 (by simp)
   have l1:=rv.length
   have l2:=rw'.length
   refine zpy_end (I.ok.hd hc) D s0 s1 s2 s3 s4 p1 p2 (by rcases hx with hx|hx;exact .inl (by simp;omega);exact .inr (by simp;omega)) fun h' hk=>⟨rfl,?_⟩
   have kc : ∀ a o,a ∉ [z,TO,j1,j2]→s.heap.get? a=some o→h'.get? a=some o:=fun a o hc q=>hk a o (fun z=>hc (by simp [z])) (fun z=>hc (by simp [z])) (fun z=>hc (by simp [z])) (fun z=>hc (by simp [z])) q
   have nb : ∀ a o v,s.heap.get? a=some o→H a=some v→h'.get? a=some o:=fun a o v e q=>hk a o (fun n=>by rw [n,z0] at q;cases q) (fun n=>by rw [n,o0] at q;cases q) (fun n=>by rw [n,f0] at q;cases q) (fun n=>by rw [n,g0] at q;cases q) e
   refine I.step (t':=s.toks) (g':=s.gens) (d':=s.drawn) (ch:=[z,TO,j1,j2]) (fun a ha=>?_) (fun a o _ _ hc q _=>kc a o hc q)
    (fun a o _ _ hc q _=>⟨o.slots,kc a o hc q⟩) (fun a o _ q n=>n) (fun a o hc q=>⟨o,kc a o hc q⟩) (fun a ys q=>q) (fun a o v q=>q) (fun a ps q=>⟨#[],by rw [q];simp,.nil⟩) (fun m hm=>?_) (fun a v' q=>?_) I.bare
   ·simp only [List.mem_cons,List.not_mem_nil,or_false] at ha
    rcases ha with rfl|rfl|rfl|rfl
    ·exact ⟨z3,z1,z4,z5⟩
    ·exact ⟨o3,o1,o4,o5⟩
    ·exact ⟨f3,f1,f4,f5⟩
    ·exact ⟨g3,g1,g4,g5⟩
   ·obtain ⟨o,es,ep,ho',r⟩:=hm
    exact ⟨o,es,ep,hk _ o (Ne.symm z1) (Ne.symm o1) (Ne.symm f1) (Ne.symm g1) ho',r⟩
   ·refine (I.hok a v' q).stay (fun d ob hd e=>?_) (fun d e=>e) fun d ws e=>e
    rcases hd with hd|hd
    ·subst hd;exact nb _ _ _ e q
    ·exact nb _ _ _ e hd
  self:=fun A i s Q E st h=>wpAny_pyIter_zip st.1 h
theorem boot_zip:bootBuiltins "zip" = some (.type "zip"):=by decide +kernel
section
variable {X:Cx}{elts:List Expr}{x1:Nat}{tpos:Pos}
def iZip (K:PySem.W.Frag) (ta:TA):TI:=fun σ H R=>ta σ H fun vs H1 => ∃ b c l m,vs=[.ref l,.ref m]∧(∃ xs,SqX b K H1 l xs)∧(∃ ys,SqX c K H1 m ys)∧R (Itz K b c l m) H1
theorem pi_zip {a b:Expr}{ta:TA}{p pos:Pos} (hg:Gl X "zip") (hm:X.mg "zip" = none) (ha:PA X [a,b] ta) (hs:starEach [a,b] X.env=[(false,eval a X.env),(false,eval b X.env)]:=by rfl) (hs2:starEach [b] X.env=[(false,eval b X.env)]:=by rfl) :
 PI X (.Tuple elts x1 tpos) (.Call (.Name "zip" p) [a,b] [] pos) (iZip X.K ta):=by
 intro pins s σ H R I h
 refine Call_ (ld_blt I hg hm boot_zip (PyProof.Rows.callWith_type1 (thn (ha pos pins s σ H _ I h) fun us s1 xx149=>?_) (by rw [hs,hs2]) (by rw [hs2];rfl)))
 obtain ⟨vs,H1,I1,r1,q1⟩:=xx149
 obtain ⟨kb,kc,l,m,e,⟨xs,hq⟩,⟨ys,hq'⟩,q⟩:=q1
 subst e
 cases r1 with
 | cons r rr =>
  cases rr with
  | cons r' rr =>
   cases rr
   cases r
   cases r'
   obtain ⟨its,rv,pl⟩:=I1.sqx hq
   obtain ⟨its',rv',pl'⟩:=I1.sqx hq'
   refine zp_call pl pl' fun h' a0 a1 a2 a3 a4 hk=>?_
   refine wpAny_pyIter_zip a0 ?_
   have I2:Inv X pins σ H1 { s1 with heap:=h' }:=I1.kept (t':=s1.toks) hk
   refine ⟨s1.heap.objs.size+4,[s1.heap.objs.size+4,s1.heap.objs.size+2,s1.heap.objs.size+3,s1.heap.objs.size,s1.heap.objs.size+1],_,_,H1,rfl,I2,turn_zip (b:=kb) (c:=kc) _ _ _ _ _ l m (zipApart_new pl.lt pl'.lt),⟨a0,a1,⟨_,_,a2⟩,a3,a4⟩,fun b hb=>?_,q⟩
   have hle:s1.heap.objs.size≤b:=by
    simp only [List.mem_cons,List.not_mem_nil,or_false] at hb
    rcases hb with rfl|rfl|rfl|rfl|rfl
    ·exact Nat.le_add_right _ 4
    ·exact Nat.le_add_right _ 2
    ·exact Nat.le_add_right _ 3
    ·exact Nat.le_refl _
    ·exact Nat.le_add_right _ 1
   exact I1.fpOk hle (I1.hok.fresh hle)
end
def zipD (l m:List PyData):List PyData:=(l.zip m).map fun p => .tuple [p.1,p.2]
theorem zipD_len (l m:List PyData):(zipD l m).length=min l.length m.length:=by simp [zipD]
theorem zipD_get {l m:List PyData}{i:Nat}{x y:PyData} (h1:l[i]?=some x) (h2:m[i]?=some y):(zipD l m)[i]?=some (.tuple [x,y]):=by
 unfold zipD
 rw [List.getElem?_map,List.getElem?_zip_eq_some (z:=(x,y)) |>.mpr ⟨h1,h2⟩];rfl
theorem zipD_inv {l m:List PyData}{i:Nat}{d:PyData} (h:(zipD l m)[i]?=some d) : ∃ x y,l[i]?=some x∧m[i]?=some y∧d = .tuple [x,y]:=by
 have hi:=(List.getElem?_eq_some_iff.mp h).1
 rw [zipD_len] at hi
 have h1:i<l.length:=by omega
 have h2:i<m.length:=by omega
 have e:=zipD_get (List.getElem?_eq_getElem h1) (List.getElem?_eq_getElem h2)
 rw [h] at e
 exact ⟨_,_,List.getElem?_eq_getElem h1,List.getElem?_eq_getElem h2,Option.some.inj e⟩
theorem same_seqX {b:Bool}{K:PySem.W.Frag}{F H:Hp}{a:Addr}{xs:List V} (s:Same F H) (h:SqX b K F a xs):SqX b K H a xs:=by
 cases b with
 | true=>exact same_seqT s h
 | false=>exact s.seq h
theorem itd_zip {b c:Bool}{K:PySem.W.Frag}{F:Hp}{a a':Addr}{xs ys:List V}{l m:List PyData} (hs:SqX b K F a xs) (hr:Iss K F l xs) (hs':SqX c K F a' ys) (hr':Iss K F m ys):ItD K (Itz K b c a a') F (zipD l m) where
 go:=fun i H s hi=>by
  rw [zipD_len] at hi
  exact ⟨xs,ys,xs[i]'(by rw [hr.len];omega),ys[i]'(by rw [hr'.len];omega),same_seqX s hs,same_seqX s hs',List.getElem?_eq_getElem _,List.getElem?_eq_getElem _⟩
 stop:=fun H s=>by
  rw [zipD_len]
  refine ⟨xs,ys,same_seqX s hs,same_seqX s hs',?_⟩
  rw [hr.len,hr'.len];omega
 yld:=fun i H x H' F1 s1 s2 hi hy=>by
  obtain ⟨p,y,y',hy,hy',hp,rfl,rfl⟩:=hy
  obtain ⟨d,e1,e2⟩:=hr.get' (hy xs (same_seqX (s1.trans s2) hs))
  obtain ⟨d',e1',e2'⟩:=hr'.get' (hy' ys (same_seqX (s1.trans s2) hs'))
  have g:=Go.put (o:=HO.tup [y,y']) s2 hp
  exact ⟨_,_,zipD_get e1 e1',g,is_tup (SqT.of upd_same) (iss_cons ((e2.mono s1).mono g.f) (iss_cons ((e2'.mono s1).mono g.f) iss_nil))⟩
theorem is_sqx {K:PySem.W.Frag}{F:Hp}{d:PyData}{l:List PyData}{v:V} (e:seqD d=some l) (i:Is K F d v) : ∃ b a xs,v = .ref a∧SqX b K F a xs∧Iss K F l xs:=by
 cases d with
 | list m=>cases e;obtain ⟨a,xs,rfl,hs,hr⟩:=i.lst_inv;exact ⟨false,a,xs,rfl,hs,hr⟩
 | tuple m=>cases e;obtain ⟨a,xs,rfl,hs,hr⟩:=i.tup_inv;exact ⟨true,a,xs,rfl,hs,hr⟩
 | _=>cases e
section
variable {X:Cx}{a b:Expr}{p pos:Pos}{elts:List Expr}{x1:Nat}{tpos:Pos}
def wiZip (Wa Wb:WE):WF:=fun env Q=>Wa env fun x e1=>Wb e1 fun y e=>(seqD x).elim False fun l=>(seqD y).elim False fun m=>Q (zipD l m) e
theorem vi_zip2 {Wa Wb:WE} (hm:X.mg "zip" = none) (ha:VE X a Wa) (hb:VE X b Wb) (hg:Gl X "zip":=by rfl) (hs:starEach [a,b] X.env=[(false,eval a X.env),(false,eval b X.env)]:=by rfl) (hs2:starEach [b] X.env=[(false,eval b X.env)]:=by rfl)
 (hs3:starEach [a,b] X.env=(false,eval a X.env)::starEach [b] X.env:=by rfl) (hs4:starEach [b] X.env=(false,eval b X.env)::starEach [] X.env:=by rfl):VI X (.Tuple elts x1 tpos) (.Call (.Name "zip" p) [a,b] [] pos) (wiZip Wa Wb) :=
 (pi_zip hg hm (pa_cons ha (pa_cons hb pa_nil hs4) hs3) hs hs2).imp fun σ H R xx150=>by
  obtain ⟨M,env,F,Q,I,h,k⟩:=xx150
  refine ⟨M,env,F,_,I,h,fun d v F1 H1 e1 I1 s1 i1 h1=>⟨M,e1,F1,_,I1,h1,fun d2 v2 F2 H2 e2 I2 s2 i2 h2=>?_⟩⟩
  cases q1:seqD d with
  | none=>rw [q1] at h2;exact h2.elim
  | some l =>
   cases q2:seqD d2 with
   | none=>rw [q1,q2] at h2;exact h2.elim
   | some m =>
    rw [q1,q2] at h2
    obtain ⟨kb,a1,xs,rfl,z1,z2⟩:=is_sqx q1 (i1.mono s2)
    obtain ⟨kc,a2,ys,rfl,z3,z4⟩:=is_sqx q2 i2
    exact ⟨kb,kc,a1,a2,rfl,⟨xs,same_seqX I2.fh z1⟩,⟨ys,same_seqX I2.fh z3⟩,k _ _ F2 H2 e2 I2 (s1.trans s2) (itd_zip z1 z2 z3 z4) h2⟩
end
end L2
namespace L2
open PySem PySem.Spec PyProof.Rows
theorem boot_ValueError:bootBuiltins "ValueError" = some (.type "ValueError"):=by decide +kernel
section
variable {X:Cx}
end
end L2
namespace L2
open PySem PySem.Spec PyProof.Rows
section
variable {X:Cx}{e:Expr}{W:WF}{We:WE}{pos:Pos}
end
end L2
namespace L2
open PySem PySem.Spec PyProof.Rows
section
variable {prog:Program}{w:World}{A:Around}{E:Value→Shared→Prop}{s:Shared}
end
section
variable {X:Cx}
end
end L2
namespace L2
open PySem PySem.Spec PyProof.Rows
section
variable {X:Cx}{a b c d:Expr}{pos:Pos}{ta tb tc td:TE}
variable {Wa Wb Wc Wd:WE}
end
end L2
namespace L2
open PySem PySem.Spec PyProof.Rows
def tCompIf (ix:List Nat) (k:Nat) (wi:TI) (g:TG) (tt:TT) (te:TE):TE:=fun σ H Q=>wi σ H fun J H1 => ∃ W:Nat→Nat→List V→St→Hp→Prop,(∃ m,W 0 m [] (capS ix k σ) H1) ∧ ∀ i m ys σ1 H2,W i m ys σ1 H2 →
 (J.stop i H2∧ys.length≤sizeLine ∧ ∀ p,H2 p=none→Q (.ref p) (upd H2 p (.lst ys))) ∨
 (J.go i H2∧ys.length<sizeLine ∧ ∃ (N:V→St→Hp→Prop) (N0:St→Hp→Prop),(∀ y σ2 H5,N y σ2 H5 → ∃ m',m'<m∧W (i+1) m' (ys++[y]) σ2 H5)∧(∀ σ2 H5,N0 σ2 H5 → ∃ m',m'<m∧W (i+1) m' ys σ2 H5) ∧
  ∀ x H3,J.yld i H2 x H3→g x σ1 H3 fun σ2 H4=>tt σ2 H4 fun b H5=>match b with|true=>te σ2 H5 fun y H6=>N y σ2 H6|false=>N0 σ2 H5)
theorem codeAny_compLoop_if {prog:Program}{w:World}{A:Around}{R:Result→Shared→Prop}{s:Shared}{elt target iter cnd:Expr}{scope:Scope}{pos:Pos}{it acc:Value}{env:Env} (I:Nat→Shared→Prop)
 (turn : ∀ n s,I n s→wpAny (model prog w) A (pyNext it) (fun r s₁=>match r with
  | none=>R (.ok .next) s₁
  | some v=>wpAny (model prog w) A (letOwnedTupleGo target it v) (fun _ s₁'=>wpAny (model prog w) A (assign target env v) (fun _ s₂=>wpAny (model prog w) A (isTrue cnd env (eval cnd env)) (fun b s₂'=>match b with
   | true=>wpAny (model prog w) A (eval elt env) (fun x s₃ =>
    wpAny (model prog w) A (call (.builtin "list.append") [acc,x]) (fun _ s₄ => ∃ m,m<n∧I m s₄) (notedBy (model prog w) A env fun e s'=>R (.error e) s') s₃)
    (notedBy (model prog w) A env fun e s'=>R (.error e) s') s₂'
   | false => ∃ m,m<n∧I m s₂') (notedBy (model prog w) A env fun e s'=>R (.error e) s') s₂) (notedBy (model prog w) A env fun e s'=>R (.error e) s') s₁') (notedBy (model prog w) A env fun e s'=>R (.error e) s') s₁) (notedBy (model prog w) A env fun e s'=>R (.error e) s') s)
  (n:Nat) (h:I n s):codeAny (model prog w) A (.compLoop (.ListComp elt [⟨target,iter,[cnd],0⟩] scope pos) 0 it acc env) R s:=by
  refine codeAny_loop rfl I (fun n s hI=>?_) n h
  show wpAny _ _ ((compTurn (.ListComp elt [⟨target,iter,[cnd],0⟩] scope pos) 0 it acc env).onRaise (fun x=>do noteFrame x env;theTreesLotGoes x)) _ _ s
  refine wpAny_noted (?_:_)
  rw [compTurn_list]
  refine wpAny_bind (wpAny_standAt (wpAny_bind (wpAny_mono (turn n s hI) (fun r s₁ h₁=>?_) fun _ _ z=>z)))
  cases r with
  | none=>exact wpAny_pure h₁
  | some v =>
   refine wpAny_bind (wpAny_mono h₁ (fun _ s₁' h₁'=>wpAny_bind (wpAny_mono h₁' (fun _ s₂ h₂=>?_) fun _ _ z=>z)) fun _ _ z=>z)
   refine wpAny_bind (wpAny_tests_one (wpAny_mono h₂ (fun b s₂' hb=>?_) fun _ _ z=>z))
   cases b with
   | true =>
    refine wpAny_bind (wpAny_bind (wpAny_mono hb (fun x s₃ h₃=>wpAny_bind (wpAny_mono h₃ (fun _ s₄ h₄=>wpAny_pure (wpAny_pure ⟨rfl,h₄⟩)) fun _ _ z=>z)) fun _ _ z=>z))
   | false=>exact wpAny_bind (wpAny_pure (wpAny_pure ⟨rfl,hb⟩))
section
variable {X:Cx}{elt target iter cnd:Expr}{scope:Scope}{pos:Pos}{caps own:List Str}{ix:List Nat}{wi:TI}{g:TG}{te:TE}{tt:TT}
theorem pe_compIf (hc:X.calm=true) (S:CompScope X.env scope caps) (hi:PI X target iter wi)
 (hg : ∀ pins s3 H ex,PG (blk X pins scope (caps++own) s3 H ex) target g)
 (he : ∀ pins s3 H ex,PE (blk X pins scope (caps++own) s3 H ex) elt te)
 (ht : ∀ pins s3 H ex,PT (blk X pins scope (caps++own) s3 H ex) cnd tt)
 (hix:caps.length=ix.length:=by rfl) (hcapB:(caps.zip ix).all (fun p=>X.N[p.2]?==some p.1)=true:=by rfl)
  (hs : ∀ x,foldedSetIterable iter X.env x=pure x:=by intro _;rfl):PE X (.ListComp elt [⟨target,iter,[cnd],0⟩] scope pos) (tCompIf ix own.length wi g tt te):=by
  intro pins s σ H Q I h
  rw [eval_ListComp]
  refine comp_core (cs:=[cnd]) (tt:=tt) (Tst:=fun env P E s=>wpAny (model X.prog X.w) X.A (isTrue cnd env (eval cnd env)) P E s) (fun J turn n h=>codeAny_compLoop_if J turn n h) (use:=none) (Q0:=EP X pins σ Q) hc S hi hg he (fun pins s3 H ex pins' s σ H' Qb P E I q k=>wpAny_mono (ht pins s3 H ex pins' s σ H' Qb I q) (fun b s' z=>?_) fun _ _ z=>z.elim) hix hcapB hs I h (fun J H1 z=>z) fun D C s6 H6 m6 ns6 IX c1 c2 c3 c4 c5 c6 q=>⟨m6,ns6,fun h' sb=>⟨.ref D,H6,IX.turned (t':=s6.toks) (it:=C) (fun b o hb q=>sb.extBut b o hb q) c1 c2 c4 c5 c6,rfl,q⟩⟩
  obtain ⟨H'',I'',q''⟩:=z
  exact k b s' H'' I'' q''
def wCompIf (ix:List Nat) (k:Nat) (Wi:WF) (G:WG) (Wt:WT) (We:WE):WF:=fun env Q=>Wi env fun ds e0=>ds.length<sizeLine ∧ ∃ P:Nat→List PyData→Sto→Prop,P 0 [] (capE ix k e0) ∧
 (∀ i d ys e,ds[i]?=some d→P i ys e→G d e fun e1=>Wt e1 fun b e2=>if b=true then We e2 fun y e3=>P (i+1) (ys++[y]) e3 else P (i+1) ys e2) ∧ ∀ ys e,P ds.length ys e→Q ys e0
section
variable {K:PySem.W.Frag}{ix:List Nat}{n:Nat}{Wi:WF}{G:WG}{Wt:WT}{We:WE}{σ:St}{H:Hp}{R:VK}
theorem compIf_lift (h:liftF K (wCompIf ix n Wi G Wt We) σ H R):tCompIf ix n (liftI K Wi) (liftG K G) (liftT K Wt) (liftE K We) σ H R:=by
 obtain ⟨M,env,F,Q,I,h,k⟩:=h
 refine ⟨M,env,F,_,I,h,fun ds J F1 H1 e1 I1 s1 jt xx153=>?_⟩
 obtain ⟨hz,P,p0,turn,fin⟩:=xx153
 refine ⟨fun i m ys σ1 H'=>m=ds.length-i∧i≤ds.length ∧ ∃ e' F' l,EnvOk K ⟨H1,H1,F1⟩ F' H' e' σ1∧Iss K F' l ys∧ys.length≤i∧P i l e',⟨ds.length,by simp,Nat.zero_le _,capE ix n e1,F1,[],I1.cap ix n,iss_nil,Nat.le_refl _,p0⟩,?_⟩
 rintro i m ys σ1 H2 ⟨hm,hi,e2,F2,l,I2,i2,hl,p2⟩
 have g2:=I2.goOf
 by_cases he:i=ds.length
 ·subst he
  exact .inl ⟨jt.stop H2 (g2.f.trans g2.fh),by omega,new_lst (I1.go g2) (s1.trans g2.f) i2 (fin l e2 p2) k⟩
 ·have hlt:i<ds.length:=by omega
  refine .inr ⟨jt.go i H2 (g2.f.trans g2.fh) hlt,by omega,fun y σ' H' => ∃ e' F' l',EnvOk K ⟨H1,H1,F1⟩ F' H' e' σ'∧Iss K F' l' (ys++[y])∧P (i+1) l' e',fun σ' H' => ∃ e' F' l',EnvOk K ⟨H1,H1,F1⟩ F' H' e' σ'∧Iss K F' l' ys∧P (i+1) l' e',
   fun y σ' H' xx152=>by obtain ⟨e',F',l',I',i',p'⟩:=xx152;exact ⟨ds.length-(i+1),by omega,rfl,hlt,e',F',l',I',i',by simp;omega,p'⟩,fun σ' H' xx151=>by obtain ⟨e',F',l',I',i',p'⟩:=xx151;exact ⟨ds.length-(i+1),by omega,rfl,hlt,e',F',l',I',i',by omega,p'⟩,fun x H3 hy=>?_⟩
  obtain ⟨d,F3,hd,g,j⟩:=jt.yld i H2 x H3 F2 g2.f g2.fh hlt hy
  refine ⟨_,e2,F3,d,_,I2.go g,j,turn i d l e2 hd p2,fun F4 H4 e4 σ4 I4 s4 h4=>⟨_,e4,F4,_,I4,h4,fun b F5 H5 e5 I5 s5 h5=>?_⟩⟩
  cases b with
  | true =>
   rw [if_pos rfl] at h5
   refine ⟨_,e5,F5,_,I5,h5,fun d6 v6 F6 H6 e6 I6 s6 i6 h6=>?_⟩
   exact ⟨e6,F6,l++[d6],I6,iss_append (((i2.mono (g.f.trans s4)).mono s5).mono s6) (iss_cons i6 iss_nil),h6⟩
  | false =>
   rw [if_neg Bool.false_ne_true] at h5
   exact ⟨e5,F5,l,I5,(i2.mono (g.f.trans s4)).mono s5,h5⟩
end
theorem vf_compIf {elt target iter cnd:Expr}{scope:Scope}{pos:Pos}{caps own:List Str}{ix:List Nat}{Wi:WF}{G:WG}{Wt:WT}{We:WE} (hc:X.calm=true) (S:CompScope X.env scope caps) (hi:VI X target iter Wi)
 (hg : ∀ pins s3 H ex,VG (blk X pins scope (caps++own) s3 H ex) target G) (ht : ∀ pins s3 H ex,VT (blk X pins scope (caps++own) s3 H ex) cnd Wt)
 (he : ∀ pins s3 H ex,VE (blk X pins scope (caps++own) s3 H ex) elt We)
 (hix:caps.length=ix.length:=by rfl) (hcapB:(caps.zip ix).all (fun p=>X.N[p.2]?==some p.1)=true:=by rfl)
  (hs : ∀ x,foldedSetIterable iter X.env x=pure x:=by intro _;rfl):VF X (.ListComp elt [⟨target,iter,[cnd],0⟩] scope pos) (wCompIf ix own.length Wi G Wt We) :=
  (pe_compIf (g:=liftG X.K G) (tt:=liftT X.K Wt) (te:=liftE X.K We) hc S hi hg he ht hix hcapB hs).imp fun _ _ _ h=>compIf_lift h
end
end L2
namespace L2
open PySem PySem.Spec PyProof.Rows
section
variable {X:Cx}
end
section
variable {X:Cx}{e:Expr}{We:WE}{pos:Pos}
variable {x:Str}{px apos cpos:Pos}
end
end L2
namespace L2
open PySem PySem.Spec PyProof.Rows
section
variable {prog:Program}{w:World}{A:Around}{E:Value→Shared→Prop}{s:Shared}
end
section
variable {X:Cx}{elts:List Expr}{x1:Nat}{tpos:Pos}
end
section
variable {X:Cx}{a:Expr}{W:WE}{p pos:Pos}
variable {e1 e2:Expr}{W1 W2:WE}
def wPar (i j:Nat) (Wr:WF):WS:=fun D env=>Wr env fun ds e=>match ds with
 | [d,d']=>D.nx ((e.set i (.val d)).set j (.val d'))
 | _=>False
theorem vs_par {i j:Nat}{x y:Str}{a b:Expr}{Wr:WF}{px py pt pos:Pos}{kt k2 pt2} (hc:X.calm=true) (hN:X.N.Nodup) (ha:VA X [a,b] Wr) (hi:X.N[i]?=some x:=by rfl) (hj:X.N[j]?=some y:=by rfl) (hij:i≠j:=by decide)
 (hx:X.env.scope.names.lookup x=some .local:=by rfl) (hy:X.env.scope.names.lookup y=some .local:=by rfl)
 (hw:swappedStores [.Tuple [.Name x px,.Name y py] kt pt] (.Tuple [a,b] k2 pt2) X.env=pure (some [x,y]):=by rfl)
 (hs:swapsWithSole [.Tuple [.Name x px,.Name y py] kt pt] (.Tuple [a,b] k2 pt2) pos.line X.env=pure false:=by rfl) :
 VS X (.Assign [.Tuple [.Name x px,.Name y py] kt pt] (.Tuple [a,b] k2 pt2) pos) (wPar i j Wr) :=
 (ps_par hc hN hi hj hij hx hy ha hw hs).imp fun D σ H xx154=>by
  obtain ⟨M,env,F,DD,I,h,k⟩:=xx154
  refine ⟨M,env,F,_,I,h,fun ds vs F1 H1 e1 I1 s1 i1 h1=>?_⟩
  cases ds with
  | nil=>exact h1.elim
  | cons d r=>cases r with
   | nil=>exact h1.elim
   | cons d' r=>cases r with
    | cons _ _=>exact h1.elim
    | nil =>
     obtain ⟨v,w',rfl,j1,j2⟩:=iss2 i1
     exact ⟨v,w',rfl,k.nx _ F1 H1 _ ((I1.setv j1).setv j2) s1 h1⟩
end
end L2
namespace L2
open PySem PySem.Spec PyProof.Rows
section
variable {X:Cx}
end
end L2
namespace L2
open PySem PySem.Spec PyProof.Rows
section
variable {X:Cx}
end
end L2
namespace L2
open PySem PySem.Spec PyProof.Rows
section
variable {X:Cx}
end
section
variable {P:Program}{w:World}{K:PySem.W.Frag}{mg:Str→Option Value}{base:Heap}
end
end L2
namespace L2
open PySem PySem.Spec PyProof.Rows
section
variable {X:Cx}{elt target iter cnd:Expr}{scope:Scope}{pos:Pos}{caps own:List Str}{ix:List Nat}{wi:TI}{g:TG}{te:TE}{tt:TT}
end
section
variable {X:Cx}{elt target iter cnd:Expr}{scope:Scope}{pos py spos:Pos}{caps own:List Str}{ix:List Nat}{Wi:WF}{G:WG}{Wt:WT}{We:WE}{i:Nat}{y:Str}
end
end L2
namespace L2
open PySem PySem.Spec PyProof.Rows
section
variable {κ:Type} [DecidableEq κ]
end
section
variable {P:Program}{w:World}{H:Hp}{h:Heap}{a:Addr}
end
section
variable {X:Cx}{pins:List (Addr×Obj)}{σ:St}{H:Hp}{s:Shared}{a:Addr}{y v:V}{u r:Value}{o:Option V}{A:Around}{E:Value→Shared→Prop}
end
section
variable {X:Cx}{pins:List (Addr×Obj)}{σ:St}{H:Hp}{s:Shared}{a:Addr}{kvs:List (Key×V)}{k:Key}{u:Value}{A:Around}{E:Value→Shared→Prop}
end
section
variable {X:Cx}{o i e value:Expr}{pos pos' tpos:Pos}{td ty tv:TE}
end
section
variable {X:Cx}{pos:Pos}
end
section
variable {X:Cx}{pins:List (Addr×Obj)}{σ:St}{H:Hp}{s:Shared}{a:Addr}{y d:V}{u r:Value}{o:Option V}{A:Around}{E:Value→Shared→Prop}
end
section
variable {X:Cx}{o e f:Expr}{apos cpos:Pos}{td ty tx:TE}
end
end L2
namespace L2
open PySem PySem.Spec PyProof.Rows
section
variable {X:Cx}
end
end L2
namespace L2
open PySem PySem.Spec PyProof.Rows
abbrev DO:=List Str→List (Str×PyData)→List PyData→(PyData→Prop)→Prop
abbrev DOF:=List Str→List (Str×PyData)→List PyData→(List PyData→Prop)→Prop
def Flds (K:PySem.W.Frag) (F:Hp) (us:List (Str×V)) (nm:List Str) (fs:List (Str×PyData)):Prop:=us.map (·.1)=nm ∧ ∀ f d,(f,d) ∈ fs → ∃ v,us.lookup f=some v∧Is K F d v
def OSp (K:PySem.W.Frag) (C:Addr) (sp:DO):Sp:=fun vs H Q _ => ∃ a dx us rest F nm fs ds q,vs = .ref a::rest∧H a=some (.ins C dx us)∧Same F H∧Flds K F us nm fs∧Iss K F ds rest∧sp nm fs ds q ∧
 ∀ d v F' H',Go F H F' H'→Is K F' d v→q d→Q v H'
def OFSp (K:PySem.W.Frag) (C:Addr) (sp:DOF):Sp:=fun vs H Q _ => ∃ a dx us rest F nm fs ds q,vs = .ref a::rest∧H a=some (.ins C dx us)∧Same F H∧Flds K F us nm fs∧Iss K F ds rest∧sp nm fs ds q ∧
 ∀ l b xs F' H',Go F H F' H'→H b=none→F' b=none→H' b=some (.lst xs)→Iss K F' l xs→q l→Q (.ref b) H'
structure OkM (P:Program) (w:World) (K:PySem.W.Frag) (mg:Str→Option Value) (base:Heap) (C:Addr) (m:Str) (k:Nat) (ps:List Str) (sp:Sp):Prop where
 ex : ∃ (f:Addr) (fd:FuncData),FnOk P w K mg base CX0 k f fd ps sp∧Meth K C m f∧Binds K fd ps []
structure MDef (K:PySem.W.Frag) (C:Addr) (m qual:Str) (st:Stmt) (ps:List Str):Prop where
 ex : ∃ (f:Addr) (fd:FuncData),Fun K m qual st f fd∧Meth K C m f∧Binds K fd ps []
theorem mem_of_lookup {α:Type} : ∀ {l:List (Str×α)}{f:Str}{d:α},l.lookup f=some d→(f,d) ∈ l
 | (g,e)::l,f,d,h=>by
  rw [List.lookup_cons] at h
  cases q:f==g with
  | true =>
   rw [q] at h
   have e1:f=g:=beq_iff_eq.mp q
   have e2:e=d:=Option.some.inj h
   subst e1 e2;simp
  | false =>
   rw [q] at h
   exact List.mem_cons_of_mem _ (mem_of_lookup h)
theorem lookup_names {α:Type} : ∀ {l:List (Str×α)}{nm:List Str}{f:Str},l.map (·.1)=nm→nm.contains f=false→l.lookup f=none
 | [],_,f,_,_=>rfl
 | (g,e)::l,nm,f,h,q=>by
  subst h
  rw [List.map_cons,List.contains_cons,Bool.or_eq_false_iff] at q
  rw [List.lookup_cons]
  have q1:(f==g)=false:=q.1
  rw [q1]
  exact lookup_names rfl q.2
section
variable {P:Program}{w:World}{K:PySem.W.Frag}{mg:Str→Option Value}{base:Heap}
def startO (N:List Str) (a C:Addr) (nm:List Str) (fs:List (Str×PyData)) (ds:List PyData):Sto:=(startE N (.none::ds)).set 0 (.obj a C nm fs)
theorem env_startO {F H:Hp}{N:List Str}{C:Addr}{nm:List Str}{fs:List (Str×PyData)}{us:List (Str×V)}{a dx:Addr}{ds:List PyData}{rest:List V} (s:Same F H) (ha:H a=some (.ins C dx us)) (hf:Flds K F us nm fs) (i:Iss K F ds rest) :
 EnvOk K ⟨H,H,F⟩ F H (startO N a C nm fs ds) (start N (.ref a::rest)):=by
  have I:=env_start (K:=K) (N:=N) s (iss_cons is_non i)
  have e:start N (.ref a::rest)=(start N (.non::rest)).set 0 (some (.ref a)):=rfl
  rw [e]
  exact I.sets (i:=0) (s :=.obj a C nm fs) rfl ⟨dx,us,rfl,ha,hf.1,hf.2⟩
theorem MDef.vok {C:Addr}{m qual:Str}{st:Stmt}{N ps:List Str}{k:Nat}{sp:DO} (F:MDef K C m qual st ps) (S:FnScope N ps (defScope st)) (len : ∀ nm fs ds q,sp nm fs ds q→ds.length+1=ps.length)
 (hbody : ∀ (f:Addr) (cdv:Value) (A:Around) (outer:List Env) (s:Shared) (H:Hp) (E:XK),Room k (A.deeper (envOfC qual (defScope st) s.heap.objs.size f cdv)) → ∀ a nm fs ds q,sp nm fs ds q →
 ∃ W,VSs (cxOf CX0 P w K mg base N qual (defScope st) f cdv A outer s H E).nox (defBody st) W∧W { nx:=fun _=>q .none,rt:=fun r _=>q r.data } (startO N a C nm fs ds)):OkM P w K mg base C m (k+1) ps (OSp K C sp):=by
  obtain ⟨f,fd,Fn,hm,hb⟩:=F.ex
  refine ⟨f,fd,Fn.ok S (fun vs H Q E xx156=>by obtain ⟨a,dx,us,rest,F,nm,fs,ds,q,e,_,_,_,i,h,_⟩:=xx156;rw [e,List.length_cons,i.len];exact len nm fs ds q h) fun cdv A outer s H vs Q E hr xx155=>?_,hm,hb⟩
  obtain ⟨a,dx,us,rest,F,nm,fs,ds,q,e,ha,sm,hf,i,h,kk⟩:=xx155
  subst e
  obtain ⟨W,hW,hq⟩:=hbody f cdv A outer s H E hr a nm fs ds q h
  refine ⟨_,hW,⟨H,H,F⟩,startO N a C nm fs ds,F,_,env_startO sm ha hf i,hq,⟨fun e1 F1 H1 σ1 I1 s1 q1=>kk _ _ F1 H1 I1.goOf is_non q1,fun r v e1 F1 H1 σ1 I1 s1 r1 q1=>?_,fun _ _ _ _ _ _ h=>h.elim,fun _ _ _ _ _ _ h=>h.elim⟩⟩
  obtain ⟨F2,g,j⟩:=r1.is I1
  exact kk _ _ F2 H1 g j q1
theorem MDef.vokF {C:Addr}{m qual:Str}{st:Stmt}{N ps:List Str}{k:Nat}{sp:DOF} (F:MDef K C m qual st ps) (S:FnScope N ps (defScope st)) (len : ∀ nm fs ds q,sp nm fs ds q→ds.length+1=ps.length)
 (hbody : ∀ (f:Addr) (cdv:Value) (A:Around) (outer:List Env) (s:Shared) (H:Hp) (E:XK),Room k (A.deeper (envOfC qual (defScope st) s.heap.objs.size f cdv)) → ∀ a nm fs ds q,sp nm fs ds q →
 ∃ W,VSs (cxOf CX0 P w K mg base N qual (defScope st) f cdv A outer s H E).nox (defBody st) W∧W { nx:=fun _=>False,rt:=fun r _ => ∃ l,r = .own l∧q l } (startO N a C nm fs ds)):OkM P w K mg base C m (k+1) ps (OFSp K C sp):=by
  obtain ⟨f,fd,Fn,hm,hb⟩:=F.ex
  refine ⟨f,fd,Fn.ok S (fun vs H Q E xx158=>by obtain ⟨a,dx,us,rest,F,nm,fs,ds,q,e,_,_,_,i,h,_⟩:=xx158;rw [e,List.length_cons,i.len];exact len nm fs ds q h) fun cdv A outer s H vs Q E hr xx157=>?_,hm,hb⟩
  obtain ⟨a,dx,us,rest,F,nm,fs,ds,q,e,ha,sm,hf,i,h,kk⟩:=xx157
  subst e
  obtain ⟨W,hW,hq⟩:=hbody f cdv A outer s H E hr a nm fs ds q h
  refine ⟨_,hW,⟨H,H,F⟩,startO N a C nm fs ds,F,_,env_startO sm ha hf i,hq,⟨fun e1 F1 H1 σ1 I1 s1 q1=>q1.elim,fun r v e1 F1 H1 σ1 I1 s1 r1 q1=>?_,fun _ _ _ _ _ _ h=>h.elim,fun _ _ _ _ _ _ h=>h.elim⟩⟩
  obtain ⟨l,rfl,q1⟩:=q1
  obtain ⟨b,xs,rfl,h1,h2,h3,h4,h5⟩:=r1
  exact kk l b xs F1 H1 I1.goOf h4 h2 h1 h5 q1
end
section
variable {X:Cx}
def wFld (C:Addr) (i:Nat) (f:Str):WE:=fun env Q=>match gS env i with | .obj _ C' _ fs=>C'=C ∧ ∃ d,fs.lookup f=some d∧Q d env|_=>False
theorem ve_fld (i:Nat) {C:Addr}{x f:Str}{px pos:Pos} (c:Cls X.K C) (n:NoAttr X.K C f) (hN:X.N[i]?=some x:=by rfl) (hv:Vis X.env.scope x:=by first|exact Or.inl rfl|exact Or.inr (Or.inl rfl)|exact Or.inr (Or.inr rfl)) (hd:(x==("__debug__" : Str))=false:=by decide)
 (hcd:(x==("__classdict__" : Str))=false:=by decide) (hb:attributeBase (.Name x px) f X.env (eval (.Name x px) X.env)=eval (.Name x px) X.env:=by rfl):VE X (.Attribute (.Name x px) f pos) (wFld C i f) :=
 (pe_fld (pe_var hN hv hd hcd) hb).imp fun σ H R xx159=>by
  obtain ⟨M,env,F,Q,I,h,k⟩:=xx159
  have S:=I.slot i
  unfold wFld at h
  cases q:gS env i with
  | obj a C' nm0 fs =>
   rw [q] at S h
   obtain ⟨rfl,d,hl,h⟩:=h
   obtain ⟨dx,vs,e,hB,nm,hfs⟩:=S
   obtain ⟨v,l,j⟩:=hfs f d (mem_of_lookup hl)
   exact ⟨_,vS_some e,a,C',dx,vs,v,rfl,I.bh _ _ hB,c,n,l,k d v F H env I (.refl _) j h⟩
  | non=>rw [q] at h;exact h.elim
  | val d=>rw [q] at h;exact h.elim
  | own ds=>rw [q] at h;exact h.elim
  | pen ds=>rw [q] at h;exact h.elim
  | new d=>rw [q] at h;exact h.elim
  | exc C=>rw [q] at h;exact h.elim
def wMthO (C:Addr) (i:Nat) (m:Str) (sp:DO) (Wr:WF):WE:=fun env Q=>match gS env i with
 | .obj _ C' nm fs=>C'=C∧nm.contains m=false∧Wr env fun ds e=>match gS e i with | .obj _ C2 nm2 fs2=>C2=C∧sp nm2 fs2 ds fun d=>Q d e|_=>False
 | _=>False
theorem meth_lift {C:Addr}{i:Nat}{m:Str}{sp:DO}{Wr:WF}{σ:St}{H:Hp}{R:VK} (h:liftE X.K (wMthO C i m sp Wr) σ H R):tMeth C m (OSp X.K C sp) [] E0 (tVar i) (liftA X.K Wr) σ H R:=by
 obtain ⟨M,env,F,Q,I,h,k⟩:=h
 have S:=I.slot i
 unfold wMthO at h
 cases q:gS env i with
 | obj a C' nm0 fs =>
  rw [q] at S h
  obtain ⟨rfl,hl,h⟩:=h
  obtain ⟨dx,vs,e,hB,nm,hfs⟩:=S
  refine ⟨_,vS_some e,a,dx,vs,rfl,I.bh _ _ hB,lookup_names nm hl,M,env,F,_,I,h,fun ds us F1 H1 e1 I1 s1 i1 h1=>?_⟩
  have S1:=I1.slot i
  cases q1:gS e1 i with
  | obj a2 C2 nm3 fs2 =>
   rw [q1] at S1 h1
   obtain ⟨rfl,h1⟩:=h1
   obtain ⟨dx2,vs2,e2,hB2,nm2,hfs2⟩:=S1
   rw [e] at e2
   injection e2 with e2;injection e2 with e2;subst e2
   show OSp X.K C2 sp (V.ref a::(us++[])) H1 R E0
   rw [List.append_nil]
   exact ⟨a,dx2,vs2,us,F1,nm3,fs2,ds,_,rfl,I1.bh _ _ hB2,I1.fh,⟨nm2,hfs2⟩,i1,h1,fun d v F2 H2 g i2 q=>k d v F2 H2 e1 (I1.go g) (s1.trans g.f) i2 q⟩
  | non=>rw [q1] at h1;exact h1.elim
  | val d=>rw [q1] at h1;exact h1.elim
  | own ds=>rw [q1] at h1;exact h1.elim
  | pen ds=>rw [q1] at h1;exact h1.elim
  | new d=>rw [q1] at h1;exact h1.elim
  | exc C=>rw [q1] at h1;exact h1.elim
 | non=>rw [q] at h;exact h.elim
 | val d=>rw [q] at h;exact h.elim
 | own ds=>rw [q] at h;exact h.elim
 | pen ds=>rw [q] at h;exact h.elim
 | new d=>rw [q] at h;exact h.elim
 | exc C=>rw [q] at h;exact h.elim
theorem ve_meth (i:Nat) {C:Addr}{x m:Str}{px apos pos:Pos}{pl:Sem Bool}{e:Expr}{es:List Expr}{Wr:WF}{k:Nat}{ps:List Str}{sp:DO} (O:OkM X.prog X.w X.K X.mg X.base C m k ps (OSp X.K C sp)) (c:Cls X.K C) (hr:Room k X.A) (ha:VA X (e::es) Wr)
 (hN:X.N[i]?=some x:=by rfl) (hv:Vis X.env.scope x:=by first|exact Or.inl rfl|exact Or.inr (Or.inl rfl)|exact Or.inr (Or.inr rfl)) (hd:(x==("__debug__" : Str))=false:=by decide) (hcd:(x==("__classdict__" : Str))=false:=by decide)
  (hst:starEach (e::es) X.env=(false,eval e X.env)::starEach es X.env:=by rfl) (hpl:(backTo pos (starEach es X.env)).any (·.1)=false:=by rfl)
  (ht:eval (.Call (.Attribute (.Name x px) m apos) (e::es) [] pos) X.env=(do
   let ov ← eval (.Name x px) X.env
   standAt apos.atName
   let (f,first) ← holding [ov] (getMethod ov m pl)
   callWith pos f first (backTo pos (starEach (e::es) X.env)) (backToKw pos (keywordEach [] X.env))):=by rfl) :
  VE X (.Call (.Attribute (.Name x px) m apos) (e::es) [] pos) (wMthO C i m sp Wr):=by
  obtain ⟨f,fd,F,hm,hb⟩:=O.ex
  exact (pe_meth (pl:=pl) (pe_var hN hv hd hcd) c hm F hr hb .nil pass0 ha hst hpl ht).imp fun σ H R h=>meth_lift h
end
end L2
namespace L2
open PySem PySem.Spec PyProof.Rows
section
variable {X:Cx}
theorem VE.pe {e:Expr}{W:WE} (h:VE X e W):PE X e (liftE X.K W):=h
theorem VF.pe {e:Expr}{W:WF} (h:VF X e W):PE X e (liftF X.K W):=h
theorem VT.pt {e:Expr}{W:WT} (h:VT X e W):PT X e (liftT X.K W):=h
theorem VS.ps {st:Stmt}{W:WS} (h:VS X st W):PS X st (liftS X.K W):=h
end
structure GoX (a b:Addr) (F H F' H':Hp):Prop where
 f:Same F F'
 h : ∀ c o,c≠a→c≠b→H c=some o→Kp o (H' c)
 fh:Same F' H'
 new : ∀ c o,F' c=some o→F c=some o∨H c=none
theorem cut_go {a:Addr}{o:HO}{F H F' H':Hp} (hF:F a=none) (hH:H a=some o) (g:Go (upd F a o) H F' H'):Go F H (offA F' a) H':=by
 refine ⟨fun b u e=>?_,g.h,fun b u e=>?_,fun b u e=>?_⟩
 ·have hb:b≠a:=ne_of_none e hF
  unfold offA;rw [if_neg hb]
  exact g.f b u (by rw [upd_ne hb];exact e)
 ·unfold offA at e
  split at e
  ·cases e
  ·exact g.fh b u e
 ·unfold offA at e
  split at e
  ·cases e
  ·rename_i hb
   rcases g.new b u e with q|q
   ·rw [upd_ne hb] at q;exact .inl q
   ·exact .inr q
mutual
def flatD:PyData→Bool
 | .list _=>false
 | .dict _=>false
 | .tuple l=>flatDs l
 | _=>true
def flatDs:List PyData→Bool
 | []=>true
 | d::l=>flatD d&&flatDs l
end
mutual
theorem Is.off {K:PySem.W.Frag}{F:Hp}{a:Addr}{xs:List V} (hF:F a=some (.lst xs)) : ∀ {d:PyData}{v:V},flatD d=true→Is K F d v→Is K (offA F a) d v
 | .none,_,_,h=>by unfold Is at h ⊢;exact h
 | .bool _,_,_,h=>by unfold Is at h ⊢;exact h
 | .int _,_,_,h=>by unfold Is at h ⊢;exact h
 | .str _,_,_,h=>by unfold Is at h ⊢;exact h
 | .list l,_,z,h=>by simp [flatD] at z
 | .dict l,_,z,h=>by simp [flatD] at z
 | .tuple l,_,z,h=>by
  unfold Is at h ⊢
  obtain ⟨b,ys,e,q,r⟩:=h
  refine ⟨b,ys,e,?_,Iss.off hF (by simpa [flatD] using z) r⟩
  rcases q with q|q
  ·refine .inl ?_
   rcases q with q|⟨o,q⟩
   ·refine .inl ?_
    unfold offA
    rw [if_neg (fun y=>by subst y;rw [hF] at q;cases q)];exact q
   ·refine .inr ⟨o,?_⟩
    unfold offA
    rw [if_neg (fun y=>by subst y;rw [hF] at q;cases q)];exact q
  ·exact .inr q
theorem Iss.off {K:PySem.W.Frag}{F:Hp}{a:Addr}{xs:List V} (hF:F a=some (.lst xs)) : ∀ {l:List PyData}{vs:List V},flatDs l=true→Iss K F l vs→Iss K (offA F a) l vs
 | [],_,_,h=>by unfold Iss at h ⊢;exact h
 | d::l,_,z,h=>by
  unfold Iss at h ⊢
  obtain ⟨x,r,e,p,q⟩:=h
  have z':flatD d=true∧flatDs l=true:=by simpa [flatDs] using z
  exact ⟨x,r,e,Is.off hF z'.1 p,Iss.off hF z'.2 q⟩
end
section
variable {X:Cx}
theorem boot_rng:bootBuiltins "range" = some (.type "range"):=by decide +kernel
theorem call_rng2:CallR X (.type "range") (fun xs H Q => ∃ i j,xs=[.int i,.int j] ∧ ∀ l,H l=none→Q (.ref l) (upd H l (.rng i j))):=by
 intro pins s σ H xs us Q I r h
 obtain ⟨i,j,rfl,q⟩:=h
 obtain ⟨u,c,rfl,⟨t,rfl⟩,⟨t',rfl⟩⟩:=vals2 r
 refine call_range_2 ⟨.ref s.heap.objs.size,_,I.laid (a:=s.heap.objs.size) (o :=.rng i j) (t':=s.toks+1) (fun _ _ q=>Heap.get?_push_of_some _ q) (Nat.le_refl _) ?_,rfl,q _ (I.hok.fresh (Nat.le_refl _))⟩
 exact ⟨t,t',s.toks,Heap.get?_push_size _ rfl⟩
def rngV (i:Int) (n:Nat):List V:=(List.range n).map fun (k:Nat)=>V.int (i+k)
theorem vals_rng {i:Int}{n:Nat}{acc:Array Value} (h:ItemsOf (fun (k:Nat) (v:Value) => ∃ t,v=Value.int (i+(k:Int)*1) t) acc n):Vals (rngV i n) acc.toList:=by
 have key : ∀ (m:Nat) (l:List Value),l.length=m → ∀ o:Nat,(∀ k v,l[k]?=some v → ∃ t,v=Value.int (i+((o+k:Nat):Int)) t)→Vals ((List.range' o m).map fun (k:Nat)=>V.int (i+k)) l:=by
  intro m
  induction m with
  | zero =>
   intro l hl o _
   cases l with
   | nil=>exact .nil
   | cons _ _=>cases hl
  | succ m ih =>
   intro l hl o hk
   cases l with
   | nil=>cases hl
   | cons v l =>
    rw [List.range'_succ,List.map_cons]
    refine .cons (hk 0 v rfl) (ih l (Nat.succ.inj hl) (o+1) fun k w hw=>?_)
    obtain ⟨t,e⟩:=hk (k+1) w (by simpa using hw)
    exact ⟨t,by rw [e];congr 2 <;> omega⟩
 unfold rngV
 rw [List.range_eq_range']
 refine key n acc.toList (by rw [Array.length_toList];exact h.1) 0 fun k v hv=>?_
 obtain ⟨t,e⟩:=h.2 k v (by rw [← Array.getElem?_toList];exact hv)
 exact ⟨t,by rw [e];congr 2 <;> omega⟩
theorem call_lrng (hc:X.calm=true):CallR X (.type "list") (fun xs H Q => ∃ r i j,xs=[.ref r]∧H r=some (.rng i j)∧(-(2^62)≤i∧i<2^62 ∧ -(2^62)≤j∧j<2^62)∧(j-i).toNat≤1000 ∧ ∀ l,H l=none→Q (.ref l) (upd H l (.lst (rngV i (j-i).toNat)))):=by
 intro pins s σ H xs us Q I r h
 obtain ⟨p,i,j,rfl,hp,⟨h1,h2,h3,h4⟩,hl,q⟩:=h
 obtain ⟨u,rfl,rx⟩:=vals1 r
 cases rx
 obtain ⟨t,t',v,ho⟩:=(show ObjOk X.prog X.w H s.heap p (.rng i j) from I.hok p _ hp)
 refine call_list_range (I.ok.hd hc) (a:=i) (b:=j) (c:=1) (t:=t) (u:=t') (v:=v) (n:=(j-i).toNat) ho (small_one h1 h2 h3 h4) (by rw [rangeSize_one];split <;> omega) (by omega) fun h' tk acc' c' kp hS hacc=>?_
 refine ⟨.ref s.heap.objs.size,_,I.laid (t':=tk) kp (Nat.le_refl _) (show ObjOk X.prog X.w _ h' _ (.lst (rngV i (j-i).toNat)) from ⟨?_,acc'.toList,c',vals_rng hacc,?_⟩),rfl,q _ (I.hok.fresh (Nat.le_refl _))⟩
 ·unfold rngV;rw [List.length_map,List.length_range];exact Nat.le_of_lt (small1000 hl)
 ·rw [hS]
end
end L2
namespace L2
open PySem PySem.Spec PyProof.Rows
theorem same_upd {F H:Hp}{a:Addr}{o:HO} (s:Same F H) (h:H a=some o):Same (upd F a o) H:=fun b u e=>by
 by_cases z:b=a
 ·subst z;rw [upd_same] at e;exact .of (by rw [← e];exact h)
 ·rw [upd_ne z] at e;exact s b u e
theorem same_fz {F H:Hp}{a:Addr}{o:HO} (s:Same F H) (h:H a=some o):Same F (upd F a o):=fun b u e=>by
 by_cases z:b=a
 ·subst z
  rw [upd_same]
  have:=s _ _ e
  rw [h] at this;exact this
 ·rw [upd_ne z];exact .of e
theorem go_none {F H F' H':Hp}{a:Addr}{o:HO} (g:Go F H F' H') (h:H a=some o) (f:F a=none):F' a=none:=by
 cases e:F' a with
 | none=>rfl
 | some u =>
  rcases g.new a u e with q|q
  ·rw [f] at q;cases q
  ·rw [h] at q;cases q
theorem go_fz {F H F' H':Hp}{b:Addr}{o:HO} (g:Go F H F' H') (hb:H b=none) (h':H' b=some o):Go F H (upd F' b o) H' where
 f:=g.f.trans (same_fz g.fh h')
 h:=g.h
 fh:=same_upd g.fh h'
 new:=fun c u e=>by
  by_cases z:c=b
  ·subst z;exact .inr hb
  ·rw [upd_ne z] at e;exact g.new c u e
theorem GoX.go {F H F1 H1 F2 H2:Hp}{a b:Addr} (g:Go F H F1 H1) (x:GoX a b F1 H1 F2 H2) (na:H a=none) (nb:H b=none):Go F H F2 H2 where
 f:=g.f.trans x.f
 h:=fun c o e=>(g.h c o e).tr fun u z=>x.h c u (ne_of_none e na) (ne_of_none e nb) z
 fh:=x.fh
 new:=fun c o e=>(x.new c o e).elim (fun q=>g.new c o q) fun q => .inr (same_none g.h q)
section
variable {K:PySem.W.Frag}{M:Frm}{F H:Hp}
def Slots (K:PySem.W.Frag) (M:Frm) (F H:Hp):Sto→St→Prop
 | [],σ=>σ=[]
 | s::e,σ => ∃ x r,σ=x::r∧(SlotOk K M F H s x∧s.mut=false)∧Slots K M F H e r
theorem Slots.len : ∀ {e:Sto}{σ:St},Slots K M F H e σ→e.length=σ.length
 | [],σ,h=>by
  have h:σ=[]:=h
  subst h;rfl
 | s::e,σ,h=>by
  obtain ⟨x,r,rfl,_,h⟩:=h
  rw [List.length_cons,List.length_cons,Slots.len h]
theorem Slots.at : ∀ {e:Sto}{σ:St},Slots K M F H e σ → ∀ i,SlotOk K M F H (gS e i) (vS σ i)∧(gS e i).mut=false
 | [],σ,h,i=>by
  rw [gS_out (Nat.zero_le _)]
  exact ⟨trivial,rfl⟩
 | s::e,σ,h,0=>by
  obtain ⟨x,r,rfl,q,h⟩:=h
  exact q
 | s::e,σ,h,i+1=>by
  obtain ⟨x,r,rfl,q,h⟩:=h
  have e1:vS (x::r) (i+1)=vS r i:=by unfold vS;rw [List.getElem?_cons_succ]
  rw [e1]
  exact Slots.at h i
theorem env_of {env:Sto}{σ:St} (s:Same F H) (h:Slots K ⟨H,H,F⟩ F H env σ):EnvOk K ⟨H,H,F⟩ F H env σ where
 len:=h.len
 slot:=fun i=>(h.at i).1
 dis:=fun i j a _ m _ _ _=>by rw [(h.at i).2] at m;cases m
 f0 :=.refl _
 fe:=s
 fh:=s
 bh :=.refl _
 new:=fun b o e => .inl e
 dom:=fun b o e=>⟨o,e⟩
end
def SolSp (K:PySem.W.Frag) (sp:DC):Sp:=fun vs H Q _ => ∃ F ds q,Same F H∧Iss K F ds vs∧sp ds q ∧
 ∀ d t p lb xs F' H',Go F H F' H'→Is K F' d (.ref p)→H' p=some (.tup [t,.ref lb])→H lb=none→H' lb=some (.lst xs)→xs.length≤900→q d→Q (.ref p) H'
theorem SolSp.psp {K:PySem.W.Frag}{sp:DC}{vs:List V}{H:Hp}{Q:VK}{E:XK} (h:PSp K sp vs H Q E):SolSp K sp vs H Q E:=by
 obtain ⟨F,ds,q,s,i,h,k⟩:=h
 exact ⟨F,ds,q,s,i,h,fun d t p lb xs F' H' g j _ _ _ _ z=>k d (.ref p) F' H' g j z⟩
theorem sol_fin {K:PySem.W.Frag}{F H F1 H1:Hp}{p a:Addr}{xs:List V}{ds:List PyData}{w:Str} (g:Go F H F1 H1) (ha:H a=none) (h1:H1 a=some (.lst xs)) (i:Iss K F1 ds xs) (hp:H1 p=none) :
 ∃ F2,Go F H F2 (upd H1 p (.tup [.str w,.ref a]))∧Is K F2 (.tuple [.str w,.list ds]) (.ref p)∧upd H1 p (.tup [.str w,.ref a]) p=some (.tup [.str w,.ref a])∧upd H1 p (.tup [.str w,.ref a]) a=some (.lst xs):=by
  have g2:=go_fz g ha h1
  have g3:=Go.put (o:=HO.tup [.str w,.ref a]) g2.fh hp
  have ne:a≠p:=ne_of_none h1 hp
  refine ⟨_,g2.trans g3,is_tup (SqT.of upd_same) (iss_cons (is_str w) (iss_cons (is_lst (SqL.of ?_) (i.mono ((same_fz g.fh h1).trans g3.f))) iss_nil)),upd_same,by rw [upd_ne ne];exact h1⟩
  rw [upd_ne ne];exact upd_same
theorem Ok.imp' {P:Program}{w:World}{K:PySem.W.Frag}{mg:Str→Option Value}{base:Heap}{x:Str}{k:Nat}{ps:List Str}{sp sp':Sp} (O:Ok P w K mg base x k ps sp) (h : ∀ vs H Q E,sp' vs H Q E→sp vs H Q E):Ok P w K mg base x k ps sp':=by
 obtain ⟨f,fd,F,a,b,c⟩:=O.ex
 exact ⟨f,fd,F.imp h,a,b,c⟩
theorem sol_v {P:Program}{w:World}{K:PySem.W.Frag}{mg:Str→Option Value}{base:Heap}{x:Str}{k:Nat}{ps:List Str}{sp:DC} (O:Ok P w K mg base x k ps (SolSp K sp)):Ok P w K mg base x k ps (PSp K sp):=O.imp' fun _ _ _ _ z=>SolSp.psp z
section
variable {X:Cx}
end
section
variable {X:Cx}
end
end L2
namespace L2
open PySem PySem.Spec PyProof.Rows
section
variable {X:Cx}
theorem VI.pi {tg e:Expr}{W:WF} (h:VI X tg e W):PI X tg e (liftI X.K W):=h
end
theorem lift_step {K:PySem.W.Frag}{W:WS}{D:Ends}{σ:St}{H:Hp}{M:Frm}{env:Sto}{F:Hp} (P:Sto→Prop) (I:EnvOk K M F H env σ) (hW:W { nx:=P,rt:=fun _ _=>False } env) (k : ∀ env' F' H' σ',EnvOk K M F' H' env' σ'→Same F F'→P env'→D.nx σ' H'):liftS K W D σ H :=
 ⟨M,env,F,_,I,hW,⟨k,fun _ _ _ _ _ _ _ _ _ q=>q.elim,fun _ _ _ _ _ _ q=>q.elim,fun _ _ _ _ _ _ q=>q.elim⟩⟩
theorem for_raw {K:PySem.W.Frag}{Wi:WF}{i0:Nat}{tb:TS}{D:Ends}{σ:St}{H:Hp}{env:Sto}{F:Hp}{ds0:List PyData} (I:EnvOk K ⟨H,H,F⟩ F H env σ) (hW:Wi env fun ds e=>ds=ds0) (W:Hp→Nat→St→Hp→Prop)
 (start : ∀ F1 H1,Go F H F1 H1→W F1 0 σ H1) (same : ∀ F2 i σ H,W F2 i σ H→Same F2 H)
 (turn : ∀ F2 i σ2 H2 d x F3 H3,W F2 i σ2 H2→ds0[i]?=some d→Go F2 H2 F3 H3→Is K F3 d x→tb { D with nx:=fun σ' H' => ∃ F4,Same F2 F4∧W F4 (i+1) σ' H',ct:=fun σ' H' => ∃ F4,Same F2 F4∧W F4 (i+1) σ' H',bk:=D.nx } (σ2.set i0 (some x)) H3)
  (fin : ∀ F2 σ H,W F2 ds0.length σ H→D.nx σ H):tFor (liftI K Wi) (gName i0) tb D σ H:=by
  refine ⟨⟨H,H,F⟩,env,F,_,I,hW,fun ds J F1 H1 e1 I1 s1 jt q=>?_⟩
  have q:ds=ds0:=q
  subst q
  refine ⟨fun i m σ' H'=>m=ds.length-i∧i≤ds.length ∧ ∃ F2,Same F1 F2∧W F2 i σ' H',⟨ds.length,by simp,Nat.zero_le _,F1,.refl _,start F1 H1 I1.goOf⟩,fun i m σ2 H2 z=>?_⟩
  obtain ⟨hm,hi,F2,s2,w⟩:=z
  have sh:=s2.trans (same _ _ _ _ w)
  by_cases hl:i=ds.length
  ·subst hl
   exact .inl ⟨jt.stop H2 sh,fin F2 σ2 H2 w⟩
  ·have hlt:i<ds.length:=by omega
   refine .inr ⟨jt.go i H2 sh hlt,fun σ' H' => ∃ F4,Same F2 F4∧W F4 (i+1) σ' H',fun σ' H' z=>?_,fun x H3 hy=>?_⟩
   ·obtain ⟨F4,a,c⟩:=z
    exact ⟨ds.length-(i+1),by omega,rfl,hlt,F4,s2.trans a,c⟩
   obtain ⟨d,F3,hd,g,j⟩:=jt.yld i H2 x H3 F2 s2 (same _ _ _ _ w) hlt hy
   exact turn F2 i σ2 H2 d x F3 H3 w hd g j
theorem go_upd {F H F1 H1:Hp}{a:Addr}{o:HO} (g:Go F H F1 H1) (n:H a=none) (f:F1 a=none):Go F H F1 (upd H1 a o) where
 f:=g.f
 h:=fun c u e=>by rw [upd_ne (ne_of_none e n)];exact g.h c u e
 fh:=fun c u e=>by rw [upd_ne (ne_of_none e f)];exact g.fh c u e
 new:=g.new
theorem go_more {F H F1 H1 H2:Hp} (g:Go F H F1 H1) (s:Same H1 H2):Go F H F1 H2:=⟨g.f,g.h.trans s,g.fh.trans s,g.new⟩
structure OwnL (H0 H F:Hp) (a:Addr) (xs:List Int):Prop where
 h:H a=some (.lst (xs.map V.int))
 f:F a=none
 n:H0 a=none
theorem OwnL.go {H0 H F H' F':Hp}{a:Addr}{xs:List Int} (o:OwnL H0 H F a xs) (g:Go F H F' H'):OwnL H0 H' F' a xs:=⟨g.h _ _ o.h,go_none g o.h o.f,o.n⟩
structure Nest (H0 H F:Hp) (ra:Addr) (as:List Addr) (R:List (List Int)):Prop where
 h:H ra=some (.lst (as.map V.ref))
 f:F ra=none
 n:H0 ra=none
 l:as.length=R.length
 e : ∀ (k:Nat) a r,as[k]?=some a→R[k]?=some r→OwnL H0 H F a r
 ne:ra ∉ as
 nd : ∀ (i j:Nat) a,as[i]?=some a→as[j]?=some a→i=j
theorem Nest.get {H0 H F:Hp}{ra:Addr}{as:List Addr}{R:List (List Int)} (o:Nest H0 H F ra as R) {a:Addr} (h:a ∈ as) : ∃ (k:Nat) (r:List Int),as[k]?=some a∧R[k]?=some r∧OwnL H0 H F a r:=by
 obtain ⟨k,hk⟩:=List.getElem?_of_mem h
 have hl:=(List.getElem?_eq_some_iff.mp hk).1
 have er:R[k]?=some (R[k]'(by rw [← o.l];exact hl)):=List.getElem?_eq_getElem _
 exact ⟨k,_,hk,er,o.e k _ _ hk er⟩
theorem Nest.go {H0 H F H' F':Hp}{ra:Addr}{as:List Addr}{R:List (List Int)} (o:Nest H0 H F ra as R) (g:Go F H F' H'):Nest H0 H' F' ra as R :=
 ⟨g.h _ _ o.h,go_none g o.h o.f,o.n,o.l,fun k a r h1 h2=>(o.e k a r h1 h2).go g,o.ne,o.nd⟩
theorem Nest.keep {H0 H F H' F':Hp}{ra:Addr}{as:List Addr}{R:List (List Int)} (o:Nest H0 H F ra as R) (hr : ∀ c,(c=ra∨c ∈ as)→H' c=H c∧F' c=none):Nest H0 H' F' ra as R where
 h:=by rw [(hr ra (.inl rfl)).1];exact o.h
 f:=(hr ra (.inl rfl)).2
 n:=o.n
 l:=o.l
 e:=fun k a r h1 h2=>by
  have q:=o.e k a r h1 h2
  have z:=hr a (.inr (List.mem_of_getElem? h1))
  exact ⟨by rw [z.1];exact q.h,z.2,q.n⟩
 ne:=o.ne
 nd:=o.nd
theorem OwnL.keep {H0 H F H' F':Hp}{a:Addr}{xs:List Int} (o:OwnL H0 H F a xs) (h:H' a=H a) (f:F' a=none):OwnL H0 H' F' a xs:=⟨by rw [h];exact o.h,f,o.n⟩
theorem Nest.put {H0 H F:Hp}{ra a:Addr}{as:List Addr}{R:List (List Int)}{r:List Int}{k:Nat} (o:Nest H0 H F ra as R) (ha:as[k]?=some a):Nest H0 (upd H a (.lst (r.map V.int))) F ra as (R.set k r) where
 h:=by
  rw [upd_ne]
  ·exact o.h
  ·intro z;subst z;exact o.ne (List.mem_of_getElem? ha)
 f:=o.f
 n:=o.n
 l:=by rw [List.length_set];exact o.l
 e:=fun i c s g1 g2=>by
  rw [List.getElem?_set] at g2
  by_cases hk:k=i
  ·subst hk
   rw [if_pos rfl] at g2
   split at g2
   ·have e1:=Option.some.inj g2
    subst e1
    rw [ha] at g1
    have e2:=Option.some.inj g1
    subst e2
    obtain ⟨_,r',_,_,q⟩:=o.get (List.mem_of_getElem? ha)
    exact ⟨upd_same,q.f,q.n⟩
   ·cases g2
  ·rw [if_neg hk] at g2
   have q:=o.e i c s g1 g2
   exact q.keep (by rw [upd_ne];intro z;subst z;exact hk (o.nd k i _ ha g1)) q.f
 ne:=o.ne
 nd:=o.nd
theorem iss_nest {K:PySem.W.Frag}{F:Hp} : ∀ {as:List Addr}{R:List (List Int)},as.length=R.length→(∀ (k:Nat) a r,as[k]?=some a→R[k]?=some r→F a=some (.lst (r.map V.int)))→Iss K F (R.map fun r => .list (r.map .int)) (as.map V.ref)
 | [],[],_,_=>iss_nil
 | [],_::_,h,_=>by cases h
 | _::_,[],h,_=>by cases h
 | a::as,r::R,h,k=>iss_cons (is_lst (SqL.of (k 0 a r rfl rfl)) (iss_ints r)) (iss_nest (Nat.succ.inj h) fun i b s h1 h2=>k (i+1) b s (by simpa using h1) (by simpa using h2))
def frzN (F H:Hp) (ra:Addr) (as:List Addr):Hp:=fun c=>if c=ra∨c ∈ as then H c else F c
theorem Nest.frz {K:PySem.W.Frag}{H0 H F:Hp}{ra:Addr}{as:List Addr}{R:List (List Int)} (o:Nest H0 H F ra as R) (s:Same F H) :
 Same F (frzN F H ra as)∧Same (frzN F H ra as) H∧Is K (frzN F H ra as) (.list (R.map fun r => .list (r.map .int))) (.ref ra):=by
  have out : ∀ c u,F c=some u → ¬ (c=ra∨c ∈ as):=fun c u e z=>by
   rcases z with z|z
   ·subst z;rw [o.f] at e;cases e
   ·obtain ⟨_,_,_,_,q⟩:=o.get z
    rw [q.f] at e;cases e
  refine ⟨fun c u e=>?_,fun c u e=>?_,is_lst (SqL.of ?_) (iss_nest o.l fun k a r h1 h2=>?_)⟩
  ·unfold frzN;rw [if_neg (out c u e)];exact .of e
  ·unfold frzN at e
   split at e
   ·exact .of e
   ·exact s c u e
  ·unfold frzN;rw [if_pos (.inl rfl)];exact o.h
  ·unfold frzN;rw [if_pos (.inr (List.mem_of_getElem? h1))];exact (o.e k a r h1 h2).h
end L2
namespace L2
open PySem PySem.Spec PyProof.Rows
theorem comp_nest {K:PySem.W.Frag}{Wi Wf:WF}{σ:St}{H F F0 H0:Hp}{env:Sto}{ds0:List PyData}{z:List Int}{R:VK} (I:EnvOk K ⟨H,H,F⟩ F H env σ) (hW:Wi env fun ds e=>ds=ds0) (hz:ds0.length<sizeLine)
 (he : ∀ s,Wf [s] fun ys e=>ys=z.map .int) (g0:Go F0 H0 F H) (k : ∀ F' H' ra as,Go F0 H0 F' H'→Same F F'→Nest H0 H' F' ra as (List.replicate ds0.length z)→R (.ref ra) H'):tComp [] 1 (liftI K Wi) (gName 0) (liftF K Wf) σ H R:=by
  refine ⟨⟨H,H,F⟩,env,F,_,I,hW,fun ds J F1 H1 e1 I1 s1 jt q=>?_⟩
  have q:ds=ds0:=q
  subst q
  refine ⟨fun i m ys σ1 H2=>m=ds.length-i∧i≤ds.length ∧ ∃ (as:List Addr) (F2:Hp) (x:Option V),σ1=[x]∧ys=as.map V.ref∧as.length=i∧Same F1 F2∧Go F0 H0 F2 H2∧(∀ a ∈ as,OwnL H0 H2 F2 a z) ∧ ∀ (i j:Nat) a,as[i]?=some a→as[j]?=some a→i=j,⟨ds.length,by simp,Nat.zero_le _,[],F1,none,rfl,rfl,rfl,.refl _,g0.trans I1.goOf,by simp,fun i j a z=>by simp at z⟩,?_⟩
  rintro i m ys σ1 H2 ⟨hm,hi,as,F2,x,rfl,rfl,la,s2,g,ho,nd⟩
  by_cases hl:i=ds.length
  ·subst hl
   refine .inl ⟨jt.stop H2 (s2.trans g.fh),by rw [List.length_map];omega,fun p hp=>?_⟩
   have pn:p ∉ as:=fun z=>by
    have:=(ho p z).h
    rw [hp] at this;cases this
   refine k F2 _ p as (g.trans (Go.side g.fh hp)) (s1.trans s2) ⟨upd_same,same_none g.fh hp,same_none g.h hp,by simp [la],fun k a r h1 h2=>?_,pn,nd⟩
   have ha:=List.mem_of_getElem? h1
   rw [List.getElem?_replicate] at h2
   split at h2
   ·have e:=Option.some.inj h2
    subst e
    have q:=ho a ha
    exact q.keep (upd_ne (fun y=>by subst y;exact pn ha)) q.f
   ·cases h2
  ·have hlt:i<ds.length:=by omega
   refine .inr ⟨jt.go i H2 (s2.trans g.fh) hlt,by rw [List.length_map];omega,fun y σ2 H5 => ∃ (b:Addr) (F5:Hp) (x:Option V),y = .ref b∧σ2=[x]∧Same F2 F5∧Go F0 H0 F5 H5∧(∀ a ∈ as,OwnL H0 H5 F5 a z)∧OwnL H0 H5 F5 b z∧b ∉ as,?_,fun x H3 hy=>?_⟩
   ·rintro y σ2 H5 ⟨b,F5,x',rfl,rfl,s5,g5,ho5,ob,bn⟩
    refine ⟨ds.length-(i+1),by omega,rfl,hlt,as++[b],F5,x',rfl,by rw [List.map_append];rfl,by simp [la],s2.trans s5,g5,fun a ha=>?_,fun i' j' a g1 g2=>?_⟩
    ·rcases List.mem_append.mp ha with q|q
     ·exact ho5 a q
     ·rw [List.mem_singleton.mp q];exact ob
    ·have key : ∀ {i:Nat},(as++[b])[i]?=some a→(i<as.length∧as[i]?=some a)∨(i=as.length∧a=b):=fun {i} g=>by
      by_cases hi:i<as.length
      ·rw [List.getElem?_append_left hi] at g;exact .inl ⟨hi,g⟩
      ·rw [List.getElem?_append_right (by omega)] at g
       cases hkk:i-as.length with
       | zero=>rw [hkk] at g;exact .inr ⟨by omega,(Option.some.inj g).symm⟩
       | succ m=>rw [hkk] at g;simp at g
     rcases key g1 with ⟨a1,a2⟩|⟨a1,a2⟩
     ·rcases key g2 with ⟨b1,b2⟩|⟨b1,b2⟩
      ·exact nd i' j' a a2 b2
      ·subst b2;exact (bn (List.mem_of_getElem? a2)).elim
     ·rcases key g2 with ⟨b1,b2⟩|⟨b1,b2⟩
      ·subst a2;exact (bn (List.mem_of_getElem? b2)).elim
      ·omega
   obtain ⟨d,F3,hd,g3,j⟩:=jt.yld i H2 x H3 F2 s2 g.fh hlt hy
   have g03:=g.trans g3
   refine ⟨⟨H3,H3,F3⟩,[.non],F3,_,env_of g03.fh ⟨_,_,rfl,⟨trivial,rfl⟩,rfl⟩,he .non,fun b vs ds' F5 H5 e5 I5 s5 h1 h2 h3 h4 h5 h6 h7=>?_⟩
   have h7:ds'=z.map .int:=h7
   subst h7
   have ex:=h6.ints_inv
   subst ex
   have gI:=I5.goOf
   refine ⟨b,F5,some x,rfl,rfl,g3.f.trans s5,g03.trans gI,fun a ha=>((ho a ha).go g3).go gI,⟨h1,h2,same_none g03.h h4⟩,fun y=>?_⟩
   have q:=((ho b y).go g3).h
   rw [show H3 b=none from h4] at q;cases q
section
variable {X:Cx}
theorem ps_compF {elt target iter:Expr}{scope:Scope}{caps own:List Str}{ix:List Nat}{pos py spos:Pos}{i:Nat}{y:Str}{Wi Wf:WF}{g:TG} (hN:X.N.Nodup) (hc:X.calm=true) (S:CompScope X.env scope caps) (hi:VI X target iter Wi) (hg : ∀ pins s3 H ex,PG (blk X pins scope (caps++own) s3 H ex) target g) (he : ∀ pins s3 H ex,VF (blk X pins scope (caps++own) s3 H ex) elt Wf)
 (hiy:X.N[i]?=some y:=by rfl) (hy:X.env.scope.names.lookup y=some .local:=by rfl) (hsw:swapsWith (.ListComp elt [⟨target,iter,[],0⟩] scope pos) (some (.Name y py)) spos.line X.env=pure true:=by rfl)
  (hix:caps.length=ix.length:=by rfl) (hcapB:(caps.zip ix).all (fun p=>X.N[p.2]?==some p.1)=true:=by rfl) (hs : ∀ x,foldedSetIterable iter X.env x=pure x:=by intro _;rfl) :
  PS X (.Assign [.Name y py] (.ListComp elt [⟨target,iter,[],0⟩] scope pos) spos) (tAsg (tComp ix own.length (liftI X.K Wi) g (liftF X.K Wf)) (gName i)) :=
  ps_comp (wi:=liftI X.K Wi) (g:=g) (te:=liftF X.K Wf) hN hiy hy hsw hc S hi hg he hix hcapB hs
end
end L2
namespace L2
open PySem PySem.Spec PyProof.Rows
section
variable {X:Cx}{e:Expr}{We:WE}{pos:Pos}
end
end L2
namespace L2
open PySem PySem.Spec PyProof.Rows
section
variable {X:Cx}
end
end L2
namespace L2
open PySem PySem.Spec PyProof.Rows
section
variable {X:Cx}{pos:Pos}
end
end L2
namespace L2
open PySem PySem.Spec PyProof.Rows
mutual
def flatN:PyData→Bool
 | .list _=>false
 | .dict _=>false
 | .tuple l=>flatNs l
 | _=>true
def flatNs:List PyData→Bool
 | []=>true
 | d::l=>flatN d&&flatNs l
end
mutual
theorem is_off {K:PySem.W.Frag}{F:Hp}{a:Addr}{vs:List V} (h:F a=some (.lst vs)) : ∀ {d:PyData}{v:V},flatN d=true→Is K F d v→Is K (offA F a) d v
 | .none,_,_,i=>by unfold Is at i ⊢;exact i
 | .bool _,_,_,i=>by unfold Is at i ⊢;exact i
 | .int _,_,_,i=>by unfold Is at i ⊢;exact i
 | .str _,_,_,i=>by unfold Is at i ⊢;exact i
 | .list l,_,z,_=>by unfold flatN at z;cases z
 | .dict l,_,z,_=>by unfold flatN at z;cases z
 | .tuple l,_,z,i=>by
  unfold flatN at z
  unfold Is at i ⊢
  obtain ⟨b,xs,e,q,r⟩:=i
  refine ⟨b,xs,e,?_,iss_off h z r⟩
  rcases q with (q|⟨o,q⟩)|q
  ·exact .inl (.inl (by unfold offA;rw [if_neg (fun c=>by rw [c,h] at q;cases q)];exact q))
  ·exact .inl (.inr ⟨o,by unfold offA;rw [if_neg (fun c=>by rw [c,h] at q;cases q)];exact q⟩)
  ·exact .inr q
theorem iss_off {K:PySem.W.Frag}{F:Hp}{a:Addr}{vs:List V} (h:F a=some (.lst vs)) : ∀ {l:List PyData}{xs:List V},flatNs l=true→Iss K F l xs→Iss K (offA F a) l xs
 | [],_,_,i=>by unfold Iss at i ⊢;exact i
 | d::l,_,z,i=>by
  unfold flatNs at z
  rw [Bool.and_eq_true] at z
  unfold Iss at i ⊢
  obtain ⟨x,r,e,p,q⟩:=i
  exact ⟨x,r,e,is_off h z.1 p,iss_off h z.2 q⟩
end
section
variable {X:Cx}
end
end L2
namespace L2
open PySem PySem.Spec PyProof.Rows
section
variable {X:Cx}{Ex:St→XK}{a b:Expr}{rest:List Expr}{pos:Pos}{Wa Wx2:WX→WE}{Wb:WE}
end
end L2
namespace L2
open PySem PySem.Spec PyProof.Rows
section
variable {X:Cx}
end
section
variable {X:Cx}{elt target iter cnd:Expr}{scope:Scope}{pos py spos:Pos}{caps own:List Str}{ix:List Nat}{Wi:WF}{G:WG}{Wt:WT}{We:WE}{i:Nat}{y:Str}
end
end L2
namespace L2
open PySem PySem.Spec PyProof.Rows
section
variable {X:Cx}{b:Expr}{Wb:WE}{pos px:Pos}
end
end L2
namespace L2
open PySem PySem.Spec PyProof.Rows
section
variable {X:Cx}{Ex:St→XK}{pos:Pos}{Wt:WX→WS}
end
end L2
namespace My
open PySem L2
seal VE VF VA VT VW VS VSs VG VGs VI VO OpV CallV CallVF VN VFN VST VSsT VEX VSX VSsX
def top (i:Nat):Stmt:=PySem.Challenge.pw_dullglass_k25_too_many_equations.main.body.getD i (.Pass ⟨0,0,0,0⟩)
def methAt (s:Stmt) (j:Nat):Stmt:=match s with | .ClassDef _ _ _ body _ _ _ _ _ _ _=>body.getD j (.Pass ⟨0,0,0,0⟩)|s=>s
abbrev s_first_above:Stmt:=top 21
abbrev s_divisor:Stmt:=top 14
abbrev s_lowest:Stmt:=top 22
abbrev s_first_line:Stmt:=top 24
abbrev s_Board___init__:Stmt:=methAt (top 23) 0
abbrev s_Board_lack:Stmt:=methAt (top 23) 1
abbrev s_Board_is_tighter:Stmt:=methAt (top 23) 4
abbrev s_Board_tightest:Stmt:=methAt (top 23) 3
abbrev s_cleared:Stmt:=top 25
abbrev s_Board_bring_in:Stmt:=methAt (top 23) 2
abbrev s_is_whole:Stmt:=top 13
abbrev s_reduced:Stmt:=top 16
abbrev s_share:Stmt:=top 15
abbrev s_Board_told:Stmt:=methAt (top 23) 5
abbrev s_solved:Stmt:=top 20
abbrev s__law_cell:Stmt:=top 27
abbrev s__law_drawn:Stmt:=top 28
abbrev s__law_divisor:Stmt:=top 29
abbrev s__law_whole:Stmt:=top 30
abbrev s__law_fits:Stmt:=top 31
abbrev s__law_none:Stmt:=top 32
abbrev s__law_walked:Stmt:=top 33
abbrev s_solved__x:Stmt:=top 20
abbrev s__law_refused:Stmt:=top 34
abbrev s_law:Stmt:=top 35
theorem sc0 {N P:List Str}{sc:Scope} (a:sc.kind = .function:=by rfl) (b:sc.isCoroutine=false:=by rfl) (c:sc.isGenerator=false:=by rfl) (d:N.Nodup:=by decide +kernel) (e:N.take P.length=P:=by rfl) (f : ∀ x ∈ P,sc.names.lookup x=some .local∨sc.names.lookup x=some .cell:=by decide +kernel) (g : ∀ y ∈ sc.names,y.2 ≠ .free:=by decide +kernel):FnScope N P sc:=⟨a,b,c,d,e,f,g⟩
theorem pv {X:Cx} (i:Nat) {x:Str}{pos:Pos} (hN:X.N[i]?=some x:=by rfl) (hv:Vis X.env.scope x:=by first|exact Or.inl rfl|exact Or.inr (Or.inl rfl)|exact Or.inr (Or.inr rfl)) (hd:(x==("__debug__" : Str))=false:=by decide) (hc:(x==("__classdict__" : Str))=false:=by decide):PE X (.Name x pos) (tVar i):=pe_var hN hv hd hc
structure Cs where
 Board:Addr
 Full:Addr
 GlassError:Addr
 NoBeliefs:Addr
 NoDulling:Addr
 NoFit:Addr
 NoGlass:Addr
 NoName:Addr
 NoRow:Addr
 NoShare:Addr
 NoText:Addr
 TooMany:Addr
structure Txt (K:PySem.W.Frag) (mg:Str→Option Value) (cs:Cs):Prop where
 Board_:mg "Board" = some (.ref cs.Board)
 Full_:mg "Full" = some (.ref cs.Full)
 GlassError_:mg "GlassError" = some (.ref cs.GlassError)
 NoBeliefs_:mg "NoBeliefs" = some (.ref cs.NoBeliefs)
 NoDulling_:mg "NoDulling" = some (.ref cs.NoDulling)
 NoFit_:mg "NoFit" = some (.ref cs.NoFit)
 NoGlass_:mg "NoGlass" = some (.ref cs.NoGlass)
 NoName_:mg "NoName" = some (.ref cs.NoName)
 NoRow_:mg "NoRow" = some (.ref cs.NoRow)
 NoShare_:mg "NoShare" = some (.ref cs.NoShare)
 NoText_:mg "NoText" = some (.ref cs.NoText)
 TooMany_:mg "TooMany" = some (.ref cs.TooMany)
 Board_c:Cls K cs.Board
 Board_mk:PySem.W.makesIn K cs.Board=true
 Board_kp:PySem.W.keepIn K (.ref cs.Board)=true
 Board_n_bottom:NoAttr K cs.Board "bottom"
 Board_n_lines:NoAttr K cs.Board "lines"
 Board_n_stands_for:NoAttr K cs.Board "stands_for"
 Board_n_unknowns:NoAttr K cs.Board "unknowns"
 GlassError_e:PySem.W.excIn K cs.GlassError bmVE "ValueError.__new__" = true
 TooMany_e:PySem.W.excIn K cs.TooMany bmVE "ValueError.__new__" = true
 TooMany_x:XCls K cs.TooMany
 u_TooMany_GlassError:Under K cs.TooMany cs.GlassError
 k_TooMany_Full_NoBeliefs_NoDulling_NoFit_NoGlass_NoName_NoRow_NoShare_NoText:PySem.W.kitAny K (.ref cs.TooMany) [.ref cs.Full,.ref cs.NoBeliefs,.ref cs.NoDulling,.ref cs.NoFit,.ref cs.NoGlass,.ref cs.NoName,.ref cs.NoRow,.ref cs.NoShare,.ref cs.NoText]=some false
 k_TooMany_ValueError:PySem.W.kitOne K (.ref cs.TooMany) (.type "ValueError")=some true
 k_TooMany_TooMany:PySem.W.kitOne K (.ref cs.TooMany) (.ref cs.TooMany)=some true
 ValueError_:mg "ValueError" = none
 abs_:mg "abs" = none
 bool_:mg "bool" = none
 enumerate_:mg "enumerate" = none
 int_:mg "int" = none
 isinstance_:mg "isinstance" = none
 len_:mg "len" = none
 list_:mg "list" = none
 range_:mg "range" = none
 sum_:mg "sum" = none
 tuple_:mg "tuple" = none
 zip_:mg "zip" = none
 MOST_ROWS_ : ∃ t,mg "MOST_ROWS" = some (.int 24 t)
 MOST_UNKNOWNS_ : ∃ t,mg "MOST_UNKNOWNS" = some (.int 20 t)
section
variable {P:Program}{w:World}{K:PySem.W.Frag}{mg:Str→Option Value}{base:Heap}{cs:Cs}
theorem gcd_turn {a b:Int}{g:Nat} (h0:0≤a) (hb:0≤b) (h1:b≠0) (h:Nat.gcd a.toNat b.toNat=g) :
 0≤a%b∧a%b<b∧Nat.gcd b.toNat (a%b).toNat=g:=by
  have hp:0<b:=by omega
  have e1:=Int.emod_nonneg a h1
  have e2:=Int.emod_lt_of_pos a hp
  refine ⟨e1,e2,?_⟩
  have e3:(a%b).toNat=a.toNat%b.toNat:=by
   have:((a.toNat%b.toNat:Nat):Int)=a%b:=by
    rw [Int.natCast_emod,Int.toNat_of_nonneg h0,Int.toNat_of_nonneg hb]
   rw [← this];rfl
  rw [e3,← h,Nat.gcd_comm b.toNat,Nat.gcd_comm a.toNat]
  exact (Nat.gcd_rec _ _).symm
theorem gcd_end {a:Int}{b:Int}{g:Nat} (h0:0≤a) (h1:b=0) (h:Nat.gcd a.toNat b.toNat=g):a=(g:Int):=by
 subst h1
 rw [← h]
 have:Nat.gcd a.toNat (Int.toNat 0)=a.toNat:=Nat.gcd_zero_right _
 rw [this];omega
theorem gcd_start (a b:Int):Nat.gcd (if a<0 then -a else a).toNat (if b<0 then -b else b).toNat=Int.gcd a b:=by
 have e : ∀ x:Int,(if x<0 then -x else x).toNat=x.natAbs:=fun x=>by split <;> omega
 rw [e,e];rfl
structure Shr (p q:Int):Prop where
 pos:1≤q
 gcd:Int.gcd p q=1
def cm (t b:Int):Int:=if b<0 then -(Int.gcd t b:Int) else (Int.gcd t b:Int)
def shT (t b:Int):Int:=t.fdiv (cm t b)
def shB (t b:Int):Int:=b.fdiv (cm t b)
theorem gcd_pos {t b:Int} (hb:b≠0):0<Int.gcd t b:=Int.gcd_pos_of_ne_zero_right t hb
theorem cm_ne {t b:Int} (hb:b≠0):cm t b≠0:=by
 have:=gcd_pos (t:=t) hb
 unfold cm;split <;> omega
theorem cm_dvd_t (t b:Int):cm t b∣t:=by
 have h:(Int.gcd t b:Int)∣t:=Int.gcd_dvd_left ..
 unfold cm;split
 ·exact Int.neg_dvd.mpr h
 ·exact h
theorem cm_dvd_b (t b:Int):cm t b∣b:=by
 have h:(Int.gcd t b:Int)∣b:=Int.gcd_dvd_right ..
 unfold cm;split
 ·exact Int.neg_dvd.mpr h
 ·exact h
theorem fdiv_of_dvd {c t:Int} (h:c∣t):c*(t.fdiv c)=t:=Int.mul_fdiv_cancel' h
theorem shT_mul (t b:Int):cm t b*shT t b=t:=fdiv_of_dvd (cm_dvd_t t b)
theorem shB_mul (t b:Int):cm t b*shB t b=b:=fdiv_of_dvd (cm_dvd_b t b)
theorem natAbs_cm (t b:Int):(cm t b).natAbs=Int.gcd t b:=by unfold cm;split <;> omega
theorem sh_ok {t b:Int} (hb:b≠0):Shr (shT t b) (shB t b)∧shT t b*b=t*shB t b:=by
 have h1:=shT_mul t b
 have h2:=shB_mul t b
 have hc:=cm_ne (t:=t) hb
 have hg:=gcd_pos (t:=t) hb
 refine ⟨⟨?_,?_⟩,?_⟩
 ·by_cases hn:b<0
  ·have hcn:cm t b<0:=by unfold cm;rw [if_pos hn];omega
   have:0<shB t b:=by
    rcases Int.lt_or_le 0 (shB t b) with h|h
    ·exact h
    ·have:=Int.mul_nonneg_of_nonpos_of_nonpos (Int.le_of_lt hcn) h
     omega
   omega
  ·have hcn:0<cm t b:=by unfold cm;rw [if_neg hn];omega
   have hbp:0<b:=by omega
   have:0<shB t b:=by
    rcases Int.lt_or_le 0 (shB t b) with h|h
    ·exact h
    ·have:=Int.mul_nonpos_of_nonneg_of_nonpos (Int.le_of_lt hcn) h
     omega
   omega
 ·have e:Int.gcd (cm t b*shT t b) (cm t b*shB t b)=(cm t b).natAbs*Int.gcd (shT t b) (shB t b):=Int.gcd_mul_left ..
  rw [h1,h2,natAbs_cm] at e
  have e2:Int.gcd t b*1=Int.gcd t b*Int.gcd (shT t b) (shB t b):=by omega
  exact (Nat.eq_of_mul_eq_mul_left hg e2).symm
 ·have e:shT t b*(cm t b*shB t b)=(cm t b*shT t b)*shB t b:=by
   rw [← Int.mul_assoc,Int.mul_comm (shT t b)]
  rw [h2,h1] at e
  exact e
open Builtin.Int (intBits)
theorem cm_bits {t b:Int}{m:Nat} (hb:b≠0) (h:intBits b≤m):intBits (cm t b)≤m:=by
 refine intBits_le_of_natAbs ?_ h
 rw [natAbs_cm]
 exact Nat.le_of_dvd (by omega) (Nat.gcd_dvd_right t.natAbs b.natAbs)
theorem shT_bits {t b:Int}{m:Nat} (h:intBits t≤m):intBits (shT t b)≤m:=intBits_fdiv_le h
theorem mulok {a b:Int} (ha:intBits a≤4000) (hb:intBits b≤4000):IntMulOk a b :=.of_le ha hb (by decide)
theorem bits_up {x:Int}{m n:Nat} (h:intBits x≤m) (e:m≤n):intBits x≤n:=Nat.le_trans h e
theorem bits64 {x:Int} (h1 : -(2^64)<x) (h2:x<2^64):intBits x≤64:=intBits_le_64 h1 h2
theorem take_snoc {zs:List Int}{i:Nat}{z:Int} (h:zs[i]?=some z):zs.take (i+1)=zs.take i++[z]:=by
 rw [List.take_add_one,h];rfl
theorem int_get {zs:List Int}{i:Nat}{x:PyData} (h:(zs.map PyData.int)[i]?=some x) : ∃ z,x = .int z∧zs[i]?=some z∧z ∈ zs:=by
 rw [List.getElem?_map] at h
 cases e:zs[i]? with
 | none=>rw [e] at h;cases h
 | some z =>
  rw [e] at h
  exact ⟨z,(Option.some.inj h).symm,rfl,List.mem_of_getElem? e⟩
theorem ints_snoc (xs:List Int) (x:Int):xs.map PyData.int++[PyData.int x]=(xs++[x]).map PyData.int:=by simp
def dRow (r:List Int):PyData :=.list (r.map .int)
theorem small_le {n:Nat} (h:n≤1000):n≤sizeLine:=Nat.le_of_lt (small1000 h)
theorem atI_zero {α:Type} (y:α) (l:List α):atI (y::l) 0=some y:=atI_nat (j:=0) rfl
theorem atI_int {α:Type}{l:List α}{i:Int}{x:α} (h0:0≤i) (h:l[i.toNat]?=some x):atI l i=some x:=by
 have:=atI_nat h
 rwa [Int.toNat_of_nonneg h0] at this
theorem iteB {c:Bool}{A B:Prop} (h1:c=true→A) (h2:c=false→B):if c=true then A else B:=by
 cases c with
 | true=>exact iteT (h1 rfl)
 | false=>exact iteF (h2 rfl)
def dRows (R:List (List Int)):PyData :=.list (R.map dRow)
theorem iteY {b:Bool}{A B:Prop} (h:b=true) (k:A):if b=true then A else B:=by rw [h];exact iteT k
theorem iteZ {b:Bool}{A B:Prop} (h:b=false) (k:B):if b=true then A else B:=by rw [h];exact iteF k
def sp_first_above (ds:List PyData) (q:PyData→Prop):Prop := ∃ ns:List Int,ds=[.list (ns.map .int)]∧((∀ n ∈ ns,n≤0)→q .none) ∧ ∀ (c:Nat) (x:Int),ns[c]?=some x→0<x→(∀ j y,j<c→ns[j]?=some y→y≤0)→q (.int c)
theorem sc_first_above:FnScope ["numbers","place","number"] ["numbers"] (defScope s_first_above):=sc0
theorem ok_first_above (F:Def K mg "first_above" s_first_above ["numbers"]) (T:Txt K mg cs)
 : Ok P w K mg base "first_above" 1 ["numbers"] (PSp K sp_first_above):=by
  refine F.vok sc_first_above (by rintro ds q ⟨_,h,_⟩;rw [h];rfl) fun f cdv A outer s H E hr ds q h=>?_
  obtain ⟨ns,rfl,h1,h2⟩:=h
  refine ⟨_,(vss_cons (vs_for rfl (vi_enum T.enumerate_ (ve_var 0)) (vg_tup (n:=2) rfl (vgs_cons (vg_name (i:=1) sc_first_above.nd) (vgs_cons (vg_name (i:=2) sc_first_above.nd) vgs_nil))) (vss_one (vs_if (vt_cmp o_gt (ve_var 2) ve_int) (vss_one (vs_ret (ve_var 1))) vss_nil)))
   (vss_one (vs_ret ve_non))),?_⟩
  refine ⟨fun i e => ∃ t1 t2,e=[.val (.list (ns.map .int)),t1,t2] ∧ ∀ j y,j<i→ns[j]?=some y→y≤0,⟨_,_,rfl,fun j y hj=>by omega⟩,?_,?_⟩
  ·rintro i x e hx ⟨t1,t2,rfl,hI⟩
   obtain ⟨x,hx',rfl⟩:=enumD_inv hx
   obtain ⟨x,rfl,hx',_⟩:=int_get hx'
   refine ⟨rfl,rfl,iteD (fun a=>h2 i x hx' a hI) (fun a=>⟨_,_,rfl,fun j y hj hy=>?_⟩)⟩
   by_cases e:j=i
   ·subst e;rw [hx'] at hy;cases hy;omega
   ·exact hI j y (by omega) hy
  ·rintro e ⟨t1,t2,rfl,hI⟩
   rw [enumD_len,List.length_map] at hI
   refine h1 fun n hn=>?_
   obtain ⟨j,hj,rfl⟩:=List.mem_iff_getElem.mp hn
   exact hI j _ hj (List.getElem?_eq_getElem hj)
def sp_divisor:DC
 | [.int a,.int b],q=>q (.int (Int.gcd a b))
 | _,_=>False
theorem abs_nn (x:Int):0≤(if x<0 then -x else x):=by split <;> omega
theorem sc_divisor:FnScope ["one","other","rest"] ["one","other"] (defScope s_divisor):=sc0
theorem ok_divisor (F:Def K mg "divisor" s_divisor ["one","other"]) (T:Txt K mg cs)
 : Ok P w K mg base "divisor" 1 ["one","other"] (PSp K sp_divisor):=by
  refine F.vok sc_divisor (fun ds q h=>by unfold sp_divisor at h;split at h;all_goals first|rfl|exact h.elim) fun f cdv A outer s H E hr ds q h=>?_
  match ds,h with
  | [.int a,.int b],h =>
  refine ⟨_,(vss_cons (vs_set (i:=0) sc_divisor.nd (ve_callB c_abs T.abs_ L2.boot_abs (va_cons (ve_var 0) va_nil)))
   (vss_cons (vs_set (i:=1) sc_divisor.nd (ve_callB c_abs T.abs_ L2.boot_abs (va_cons (ve_var 1) va_nil)))
   (vss_cons (vs_while (vt_cmp (o_ne hr.units) (ve_var 1) ve_int) (vss_cons (vs_set (i:=2) sc_divisor.nd (ve_op o_mod (ve_var 0) (ve_var 1)))
   (vss_cons (vs_set (i:=0) sc_divisor.nd (ve_var 1))
   (vss_one (vs_set (i:=1) sc_divisor.nd (ve_var 2))))))
   (vss_one (vs_ret (ve_var 0)))))),?_⟩
  refine ⟨fun m e => ∃ x y r,e=[.val (.int x),.val (.int y),r]∧0≤x∧0≤y∧Nat.gcd x.toNat y.toNat=Int.gcd a b∧m=y.toNat,⟨_,_,_,_,rfl,abs_nn a,abs_nn b,gcd_start a b,rfl⟩,?_⟩
  rintro m e ⟨x,y,r,rfl,hx,hy,hg,rfl⟩
  refine ⟨rfl,rfl,ite_ne (fun hne=>?_) (fun he=>?_)⟩
  ·obtain ⟨t1,t2,t3⟩:=gcd_turn hx hy hne hg
   exact ⟨by omega,(x%y).toNat,by omega,y,x%y,_,rfl,hy,t1,t3,rfl⟩
  ·subst he
   have:=gcd_end hx rfl hg
   rw [this];exact h
def gRow (g:Nat) (r:List Int):Nat:=r.foldl (fun (g:Nat) (n:Int)=>Int.gcd g n) g
theorem gRow_dvd_acc : ∀ (r:List Int) (g:Nat),gRow g r∣g
 | [],g=>Nat.dvd_refl _
 | n::r,g=>Nat.dvd_trans (gRow_dvd_acc r (Int.gcd g n)) (by have:=Int.gcd_dvd_natAbs_left (g:Int) n;simpa using this)
theorem gRow_dvd : ∀ (r:List Int) (g:Nat),∀ n ∈ r,(gRow g r:Int)∣n
 | m::r,g,n,h=>by
  rcases List.mem_cons.mp h with rfl|h
  ·exact Int.dvd_trans (Int.natCast_dvd_natCast.mpr (gRow_dvd_acc r (Int.gcd g n))) (Int.gcd_dvd_right ..)
  ·exact gRow_dvd r (Int.gcd g m) n h
theorem gRow_snoc (g:Nat) (r:List Int) (n:Int):gRow g (r++[n])=Int.gcd (gRow g r) n:=by unfold gRow;rw [List.foldl_append];rfl
def sp_lowest (ds:List PyData) (q:List PyData→Prop):Prop := ∃ ws:List Int,ds=[.list (ws.map .int)]∧(ws.length≤400∧0<gRow 0 ws∧intBits (gRow 0 ws:Int)≤9000)∧q ((ws.map fun x=>x/(gRow 0 ws:Int)).map .int)
theorem sc_lowest:FnScope ["weights","common","weight"] ["weights"] (defScope s_lowest):=sc0
theorem ok_lowest (F:Def K mg "lowest" s_lowest ["weights"]) (T:Txt K mg cs)
 (O_divisor:Ok P w K mg base "divisor" 1 ["one","other"] (PSp K sp_divisor))
 : Ok P w K mg base "lowest" 2 ["weights"] (FSp K sp_lowest):=by
  refine F.vokF sc_lowest (by rintro ds q ⟨_,h,_⟩;rw [h];rfl) fun f cdv A outer s H E hr ds q h=>?_
  obtain ⟨ws,rfl,⟨hl,g0,g1⟩,h⟩:=h
  refine ⟨_,(vss_cons (vs_set (i:=1) sc_lowest.nd ve_int)
   (vss_cons (vs_for rfl (vi_seq (ve_var 0)) (vg_name (i:=2) sc_lowest.nd) (vss_one (vs_set (i:=1) sc_lowest.nd (ve_fn O_divisor.c (hr.mono (by decide)) (va_cons (ve_var 1) (va_cons (ve_var 2) va_nil))))))
   (vss_one (vs_retF (vf_comp (caps:=["common"]) (own:=["weight"]) (ix:=[1]) rfl ⟨rfl,rfl,rfl,rfl,rfl,rfl⟩ (vi_seq (ve_var 0)) (fun _ _ _ _=>(vg_name (i:=1) (show List.Nodup (["common","weight"]:List Str) by decide))) (fun _ _ _ _=>(ve_op o_div (ve_var 1) (ve_var 0)))))))),?_⟩
  refine ⟨fun i e => ∃ t c,e=[.val (.list (ws.map .int)),.val (.int c),t]∧c=(gRow 0 (ws.take i):Int),⟨_,_,rfl,rfl⟩,?_,?_⟩
  ·rintro i x e hx ⟨t,_,rfl,rfl⟩
   obtain ⟨x,rfl,hx,_⟩:=int_get hx
   refine ⟨_,_,rfl,?_⟩
   rw [take_snoc hx,gRow_snoc]
  ·rintro e ⟨t,_,rfl,rfl⟩
   rw [List.length_map,List.take_length]
   refine comp_by ((ws.map fun x=>x/(gRow 0 ws:Int)).map .int) (by simp) (small1000 (by simp;omega)) (fun e => ∃ s,e=[.val (.int (gRow 0 ws)),s]) ⟨_,rfl⟩ ?_ ⟨_,rfl,h⟩
   rintro i x ys e hx hys ⟨s,rfl⟩
   obtain ⟨x,rfl,hx,_⟩:=int_get hx
   refine ⟨⟨by omega,g1⟩,snoc_take ?_ hys,_,rfl⟩
   rw [List.getElem?_map,List.getElem?_map,hx];rfl
def bFs (n d:Int) (Ls:List (List Int)) (ss:List Int):List (Str×PyData):=[("unknowns",.int n),("bottom",.int d),("lines",.list (Ls.map dRow)),("stands_for",.list (ss.map .int))]
def bNm:List Str:=["unknowns","bottom","lines","stands_for"]
def at2 (Ls:List (List Int)) (k j:Nat):Int:=(((Ls[k]?).getD [])[j]?).getD 0
structure Bd (m w:Nat) (Ls:List (List Int)) (ss:List Int):Prop where
 l:Ls.length=m
 s:ss.length=m
 w : ∀ r ∈ Ls,r.length=w
 z : ∀ r ∈ Ls,∀ x ∈ r,intBits x≤2000
theorem Bd.row {m w:Nat}{Ls:List (List Int)}{ss:List Int} (h:Bd m w Ls ss) {k:Int} (h0:0≤k) (h1:k<m) : ∃ r,Ls[k.toNat]?=some r∧atI (Ls.map dRow) k=some (dRow r)∧r.length=w:=by
 have hl:=h.l
 have e:Ls[k.toNat]?=some (Ls[k.toNat]'(by omega)):=List.getElem?_eq_getElem _
 exact ⟨_,e,atI_int h0 (by rw [List.getElem?_map,e];rfl),h.w _ (List.mem_of_getElem? e)⟩
theorem Bd.at {m w:Nat}{Ls:List (List Int)}{ss:List Int} (h:Bd m w Ls ss) {k j:Nat}{r:List Int} (hr:Ls[k]?=some r) (hj:j<w):r[j]?=some (at2 Ls k j)∧intBits (at2 Ls k j)≤2000:=by
 have hl:=h.w r (List.mem_of_getElem? hr)
 have e:r[j]?=some (r[j]'(by omega)):=List.getElem?_eq_getElem _
 have e2:at2 Ls k j=r[j]'(by omega):=by unfold at2;rw [hr];show (r[j]?).getD 0=_;rw [e];rfl
 rw [e2]
 exact ⟨e,h.z r (List.mem_of_getElem? hr) _ (List.getElem_mem _)⟩
theorem ixN_in {l:Nat}{j:Int} (h0:0≤j) (h:j<l):ixN l j=some j.toNat:=by
 unfold ixN
 rw [if_pos h0,if_pos h]
theorem atI_last {α:Type}{l:List α}{x:α} (h:l[l.length-1]?=some x):atI l (-1)=some x:=by
 have h0:0<l.length:=by
  rcases Nat.eq_zero_or_pos l.length with e|e
  ·rw [List.getElem?_eq_none (by omega)] at h;cases h
  ·exact e
 unfold atI ixN
 rw [if_neg (by decide),if_pos (by omega)]
 show l[(-1+(l.length:Int)).toNat]?=some x
 rw [show (-1+(l.length:Int)).toNat=l.length-1 by omega];exact h
def tightB (Ls:List (List Int)) (ss:List Int) (w k c p:Nat):Bool :=
 decide (at2 Ls k (w-1)*at2 Ls c p<at2 Ls c (w-1)*at2 Ls k p)||(decide (at2 Ls k (w-1)*at2 Ls c p=at2 Ls c (w-1)*at2 Ls k p)&&decide ((ss[k]?).getD 0<(ss[c]?).getD 0))
def Tg (Ls:List (List Int)) (ss:List Int) (w p i r:Nat):Prop:=0<at2 Ls r p ∧ ∀ k,k<i→0<at2 Ls k p →
 at2 Ls r (w-1)*at2 Ls k p≤at2 Ls k (w-1)*at2 Ls r p∧(at2 Ls r (w-1)*at2 Ls k p=at2 Ls k (w-1)*at2 Ls r p→(ss[r]?).getD 0≤(ss[k]?).getD 0)
section
variable {Ls:List (List Int)}{ss:List Int}{w p i r:Nat}
theorem Tg.skip (h:Tg Ls ss w p i r) (hn : ¬ 0<at2 Ls i p):Tg Ls ss w p (i+1) r:=⟨h.1,fun k hk hp=>by
 by_cases e:k=i
 ·subst e;exact (hn hp).elim
 ·exact h.2 k (by omega) hp⟩
theorem Tg.stay (h:Tg Ls ss w p i r) (ht:tightB Ls ss w i r p=false):Tg Ls ss w p (i+1) r:=⟨h.1,fun k hk hp=>by
 by_cases e:k=i
 ·subst e
  unfold tightB at ht
  rw [Bool.or_eq_false_iff,Bool.and_eq_false_iff,decide_eq_false_iff_not,decide_eq_false_iff_not,decide_eq_false_iff_not] at ht
  refine ⟨by omega,fun e=>?_⟩
  rcases ht.2 with z|z
  ·exact (z e.symm).elim
  ·omega
 ·exact h.2 k (by omega) hp⟩
theorem Tg.first (hn : ∀ k,k<i → ¬ 0<at2 Ls k p) (hp:0<at2 Ls i p):Tg Ls ss w p (i+1) i:=⟨hp,fun k hk hp'=>by
 by_cases e:k=i
 ·subst e;exact ⟨Int.le_refl _,fun _=>Int.le_refl _⟩
 ·exact (hn k (by omega) hp').elim⟩
theorem Tg.take (h:Tg Ls ss w p i r) (hp:0<at2 Ls i p) (ht:tightB Ls ss w i r p=true):Tg Ls ss w p (i+1) i:=⟨hp,fun k hk hk'=>by
 by_cases e:k=i
 ·subst e;exact ⟨Int.le_refl _,fun _=>Int.le_refl _⟩
 ·obtain ⟨a,b⟩:=h.2 k (by omega) hk'
  have hr:=h.1
  unfold tightB at ht
  rw [Bool.or_eq_true,Bool.and_eq_true,decide_eq_true_eq,decide_eq_true_eq,decide_eq_true_eq] at ht
  generalize at2 Ls k p=ak at *
  generalize at2 Ls i p=ai at *
  generalize at2 Ls r p=ar at *
  generalize at2 Ls k (w-1)=sk at *
  generalize at2 Ls i (w-1)=si at *
  generalize at2 Ls r (w-1)=sr at *
  have c1:si*ar≤sr*ai:=by omega
  have d1:(si*ar)*ak≤(sr*ai)*ak:=Int.mul_le_mul_of_nonneg_right c1 (by omega)
  have d2:(sr*ak)*ai≤(sk*ar)*ai:=Int.mul_le_mul_of_nonneg_right a (by omega)
  have e1:(sr*ai)*ak=(sr*ak)*ai:=by grind
  have e2:(si*ar)*ak=ar*(si*ak):=by grind
  have e3:(sk*ar)*ai=ar*(sk*ai):=by grind
  refine ⟨Int.le_of_mul_le_mul_left (a:=ar) (by omega) hr,fun e=>?_⟩
  rw [e] at e2
  have g1:(si*ar)*ak=(sr*ai)*ak:=by omega
  have g2:(sr*ak)*ai=(sk*ar)*ai:=by omega
  have g1:=Int.eq_of_mul_eq_mul_right (by omega) g1
  have g2:=Int.eq_of_mul_eq_mul_right (by omega) g2
  have:=b g2
  omega⟩
end
def tn (s:Int):Int:=if s<0 then -1 else 1
def fstL (row:List Int) (s:Int) (k m:Nat):List Int:=(row++(List.range m).map (fun j=>if j=k then 1 else 0)++[s]).map fun x=>tn s*x
def sp_first_line (ds:List PyData) (q:List PyData→Prop):Prop := ∃ (row:List Int) (s:Int) (k m:Nat),ds=[.list (row.map .int),.int s,.int k,.int m]∧(row.length≤400∧m≤400)∧q ((fstL row s k m).map .int)
theorem sc_first_line:FnScope ["row","total","k","many","turned","marks"] ["row","total","k","many"] (defScope s_first_line):=sc0
theorem ok_first_line (F:Def K mg "first_line" s_first_line ["row","total","k","many"]) (T:Txt K mg cs)
 : Ok P w K mg base "first_line" 1 ["row","total","k","many"] (FSp K sp_first_line):=by
  refine F.vokF sc_first_line (by rintro ds q ⟨_,_,_,_,h,_⟩;rw [h];rfl) fun f cdv A outer s H E hr ds q h=>?_
  obtain ⟨row,s,k,m,rfl,⟨hl,hm⟩,h⟩:=h
  refine ⟨_,(vss_mid (vs_set (i:=4) sc_first_line.nd (ve_ifExp (vt_cmp o_lt (ve_var 1) ve_int) (ve_neg ve_int) ve_int))
   (vss_cons (vs_setC (caps:=["k"]) (own:=["place"]) (ix:=[2]) (i:=5) sc_first_line.nd rfl ⟨rfl,rfl,rfl,rfl,rfl,rfl⟩ (vi_range1 T.range_ (ve_var 3)) (fun _ _ _ _=>(vg_name (i:=1) (show List.Nodup (["k","place"]:List Str) by decide))) (fun _ _ _ _=>(ve_ifExp (vt_cmp (o_eq hr.units) (ve_var 1) (ve_var 0)) ve_int ve_int)))
   (vss_one (vs_retF (vf_comp (caps:=["turned"]) (own:=["number"]) (ix:=[4]) rfl ⟨rfl,rfl,rfl,rfl,rfl,rfl⟩ (vi_seq (vf_fz (vf_cat (vf_fz (vf_cat (vf_fz (vf_callTy c_list T.list_ L2.boot_list (va_cons (ve_var 0) va_nil))) (ve_var 5))) (vf_fz (vf_lst (va_cons (ve_var 1) va_nil)))))) (fun _ _ _ _=>(vg_name (i:=1) (show List.Nodup (["turned","number"]:List Str) by decide))) (fun _ _ _ _=>(ve_op o_mulI (ve_var 0) (ve_var 1)))))))),?_⟩
  refine ⟨fun e=>e=[.val (.list (row.map .int)),.val (.int s),.val (.int k),.val (.int m),.val (.int (tn s)),.non],?_,?_⟩
  ·refine iteD (fun a=>?_) (fun a=>?_)
   ·show _=_;unfold tn;rw [if_pos a];rfl
   ·show _=_;unfold tn;rw [if_neg a];rfl
  rintro e rfl
  have hrl:(rngD 0 (m:Int).toNat).length=m:=by rw [rngD_len];omega
  refine ⟨⟨by omega,by omega⟩,small1000 (by rw [hrl];omega),fun j ys e=>ys=(((List.range m).map fun j=>if j=k then (1:Int) else 0).map PyData.int).take j ∧ ∃ u,e=[.val (.int k),u],⟨by simp,_,rfl⟩,?_,?_⟩
  ·rintro i x ys e hx ⟨hys,u,rfl⟩
   obtain ⟨hi,rfl⟩:=rngD_inv hx
   have hi':i<m:=by omega
   have ge:(((List.range m).map fun j=>if j=k then (1:Int) else 0).map PyData.int)[i]?=some (.int (if i=k then 1 else 0)):=by
    rw [List.getElem?_map,List.getElem?_map,List.getElem?_range hi'];rfl
   refine ⟨rfl,rfl,ite_eq (fun a=>⟨snoc_take (ge.trans ?_) hys,_,rfl⟩) (fun a=>⟨snoc_take (ge.trans ?_) hys,_,rfl⟩)⟩
   ·rw [if_pos (by omega)]
   ·rw [if_neg (by omega)]
  rintro ys e ⟨hys,u,rfl⟩
  rw [hrl,List.take_of_length_le (by simp)] at hys
  subst hys
  have hall:row.map PyData.int++((List.range m).map fun j=>if j=k then (1:Int) else 0).map PyData.int++[PyData.int s]=(row++((List.range m).map fun j=>if j=k then (1:Int) else 0)++[s]).map PyData.int:=by
   rw [List.map_append,List.map_append];rfl
  refine ⟨small_le (by simp;omega),szl,small_le (by simp;omega),?_⟩
  refine comp_by ((fstL row s k m).map .int) (by simp [fstL]) (small1000 (by simp [fstL];omega)) (fun e => ∃ u,e=[.val (.int (tn s)),u]) ⟨_,rfl⟩ ?_ ⟨_,rfl,h⟩
  rintro i x ys e hx hys ⟨u,rfl⟩
  rw [hall] at hx
  obtain ⟨x,rfl,hx,_⟩:=int_get hx
  refine ⟨IntMulOk.of_left (by unfold tn;split <;> decide),snoc_take ?_ hys,_,rfl⟩
  unfold fstL
  rw [List.getElem?_map,List.getElem?_map,hx];rfl
structure BAt (K:PySem.W.Frag) (C:Addr) (H F:Hp) (a dx qa:Addr) (n:Nat) (d:Int) (Ls:List (List Int)) (ss:List Int) (vl:V):Prop where
 ha:H a=some (.ins C dx [("unknowns",.int n),("bottom",.int d),("lines",vl),("stands_for",.ref qa)])
 hl:Is K F (.list (Ls.map dRow)) vl
 hq:H qa=some (.lst (ss.map V.int))
 fa:F a=none
 fq:F qa=none
theorem BAt.flds {K:PySem.W.Frag}{C:Addr}{H F:Hp}{a dx qa:Addr}{n:Nat}{d:Int}{Ls:List (List Int)}{ss:List Int}{vl:V} (h:BAt K C H F a dx qa n d Ls ss vl) :
 Flds K (upd F qa (.lst (ss.map V.int))) [("unknowns",.int n),("bottom",.int d),("lines",vl),("stands_for",.ref qa)] bNm (bFs n d Ls ss):=by
  have s:Same F (upd F qa (.lst (ss.map V.int))):=same_new h.fq
  refine ⟨rfl,fun f e hm=>?_⟩
  unfold bFs at hm
  simp only [List.mem_cons,List.not_mem_nil,or_false,Prod.mk.injEq] at hm
  rcases hm with ⟨rfl,rfl⟩|⟨rfl,rfl⟩|⟨rfl,rfl⟩|⟨rfl,rfl⟩
  ·exact ⟨_,rfl,is_int _⟩
  ·exact ⟨_,rfl,is_int _⟩
  ·exact ⟨_,rfl,h.hl.mono s⟩
  ·exact ⟨_,rfl,is_lst (SqL.of upd_same) (iss_ints ss)⟩
def bFs3 (n d:Int) (Ls:List (List Int)):List (Str×PyData):=[("unknowns",.int n),("bottom",.int d),("lines",.list (Ls.map dRow))]
theorem BAt.flds3 {K:PySem.W.Frag}{C:Addr}{H F:Hp}{a dx qa:Addr}{n:Nat}{d:Int}{Ls:List (List Int)}{ss:List Int}{vl:V} (h:BAt K C H F a dx qa n d Ls ss vl) :
 Flds K F [("unknowns",.int n),("bottom",.int d),("lines",vl),("stands_for",.ref qa)] bNm (bFs3 n d Ls):=by
  refine ⟨rfl,fun f e hm=>?_⟩
  unfold bFs3 at hm
  simp only [List.mem_cons,List.not_mem_nil,or_false,Prod.mk.injEq] at hm
  rcases hm with ⟨rfl,rfl⟩|⟨rfl,rfl⟩|⟨rfl,rfl⟩
  ·exact ⟨_,rfl,is_int _⟩
  ·exact ⟨_,rfl,is_int _⟩
  ·exact ⟨_,rfl,h.hl⟩
def sgn (i:Nat):Int:=if i%2=0 then 1 else -1
theorem sgn_succ (i:Nat):sgn (i+1) = - sgn i:=by
 unfold sgn
 split <;> split <;> omega
def sumN:Nat→(Nat→Int)→Int
 | 0,_=>0
 | n+1,f=>sumN n f+f n
theorem sumN_congr {f g:Nat→Int} : ∀ {n:Nat},(∀ i,i<n→f i=g i)→sumN n f=sumN n g
 | 0,_=>rfl
 | n+1,h=>by
  show sumN n f+f n=sumN n g+g n
  rw [sumN_congr fun i hi=>h i (by omega),h n (by omega)]
theorem sumN_zero {f:Nat→Int}{n:Nat} (h : ∀ i,i<n→f i=0):sumN n f=0:=by
 induction n with
 | zero=>rfl
 | succ n ih =>
  show sumN n f+f n=0
  rw [ih fun i hi=>h i (by omega),h n (by omega)];rfl
theorem sumN_lin (k l:Int) (f g:Nat→Int) : ∀ n:Nat,sumN n (fun i=>k*f i+l*g i)=k*sumN n f+l*sumN n g
 | 0=>by show (0:Int)=k*0+l*0;omega
 | n+1=>by
  show sumN n (fun i=>k*f i+l*g i)+(k*f n+l*g n)=k*(sumN n f+f n)+l*(sumN n g+g n)
  rw [sumN_lin k l f g n];grind
theorem sumN_mul (k:Int) (f:Nat→Int) (n:Nat):sumN n (fun i=>k*f i)=k*sumN n f:=by
 have:=sumN_lin k 0 f (fun _=>0) n
 simpa using this
theorem sumN_add (f g:Nat→Int) (n:Nat):sumN n (fun i=>f i+g i)=sumN n f+sumN n g:=by
 have:=sumN_lin 1 1 f g n
 simpa using this
theorem sumN_one {f:Nat→Int}{n r:Nat} (hr:r<n) (h : ∀ i,i<n→i≠r→f i=0):sumN n f=f r:=by
 induction n with
 | zero=>omega
 | succ n ih =>
  show sumN n f+f n=f r
  by_cases e:r=n
  ·subst e
   rw [sumN_zero fun i hi=>h i (by omega) (by omega)];omega
  ·rw [ih (by omega) fun i hi=>h i (by omega),h n (by omega) (by omega)];omega
theorem sumN_two {f:Nat→Int}{n r s:Nat} (hr:r<n) (hs:s<n) (hrs:r≠s) (h : ∀ i,i<n→i≠r→i≠s→f i=0):sumN n f=f r+f s:=by
 have e:sumN n f=sumN n (fun i=>(if i=r then f r else 0)+(if i=s then f s else 0)):=sumN_congr fun i hi=>by
  by_cases e1:i=r
  ·subst e1;rw [if_pos rfl,if_neg hrs];omega
  ·by_cases e2:i=s
   ·subst e2;rw [if_neg e1,if_pos rfl];omega
   ·rw [if_neg e1,if_neg e2,h i hi e1 e2];rfl
 rw [e,sumN_add,sumN_one hr fun i _ z=>if_neg z,sumN_one hs fun i _ z=>if_neg z,if_pos rfl,if_pos rfl]
theorem sumN_alt {f:Nat→Nat→Int} : ∀ n:Nat,(∀ i j,i≤j→j<n→f (j+1) i = - f i j)→sumN (n+1) (fun i=>sumN n (f i))=0
 | 0,_=>rfl
 | n+1,h=>by
  have ih:=sumN_alt n fun i j hi hj=>h i j hi (by omega)
  have e:sumN (n+1) (fun i=>sumN (n+1) (f i))=sumN (n+1) (fun i=>sumN n (f i))+sumN (n+1) (fun i=>f i n):=by
   rw [← sumN_add];rfl
  have e2:sumN (n+1) (f (n+1)) = - sumN (n+1) (fun i=>f i n):=by
   rw [sumN_congr (g:=fun i => -1*f i n) fun i hi=>by rw [h i n (by omega) (by omega)];omega,sumN_mul];omega
  show sumN (n+1) (fun i=>sumN (n+1) (f i))+sumN (n+1) (f (n+1))=0
  rw [e,e2,ih];omega
def skip (i x:Nat):Nat:=if x<i then x else x+1
theorem skip_lt {i x m:Nat} (h:x<m):skip i x<m+1:=by unfold skip;split <;> omega
theorem skip_skip {i j x:Nat} (h:i≤j):skip (j+1) (skip i x)=skip i (skip j x):=by
 unfold skip
 split <;> split <;> split <;> (try split) <;> omega
def det:Nat→(Nat→Nat→Int)→Int
 | 0,_=>1
 | m+1,a=>sumN (m+1) fun i=>sgn i*a i 0*det m (fun x y=>a (skip i x) (y+1))
theorem det_congr : ∀ {m:Nat}{a b:Nat→Nat→Int},(∀ x y,x<m→y<m→a x y=b x y)→det m a=det m b
 | 0,_,_,_=>rfl
 | m+1,a,b,h=>sumN_congr fun i hi=>by
  rw [h i 0 hi (by omega),det_congr fun x y hx hy=>h (skip i x) (y+1) (skip_lt hx) (by omega)]
def setc (a:Nat→Nat→Int) (y:Nat) (v:Nat→Int):Nat→Nat→Int:=fun x z=>if z=y then v x else a x z
theorem setc_same {a:Nat→Nat→Int}{y:Nat}{v:Nat→Int}{x:Nat}:setc a y v x y=v x:=if_pos rfl
theorem setc_ne {a:Nat→Nat→Int}{y z:Nat}{v:Nat→Int}{x:Nat} (h:z≠y):setc a y v x z=a x z:=if_neg h
theorem det_lin (k l:Int) (u v:Nat→Int) : ∀ {m:Nat} (a:Nat→Nat→Int) {y:Nat},y<m → ∀ (u v:Nat→Int),
 det m (setc a y fun x=>k*u x+l*v x)=k*det m (setc a y u)+l*det m (setc a y v)
  | m+1,a,0,_,u,v=>by
   unfold det
   rw [← sumN_lin]
   refine sumN_congr fun i _=>?_
   have e : ∀ w,(fun x y=>setc a 0 w (skip i x) (y+1))=fun x y=>a (skip i x) (y+1):=fun w=>by
    funext x y;exact setc_ne (by omega)
   rw [e,e,e,setc_same,setc_same,setc_same];grind
  | m+1,a,y+1,hy,u,v=>by
   unfold det
   rw [← sumN_lin]
   refine sumN_congr fun i _=>?_
   have e : ∀ w:Nat→Int,(fun x z=>setc a (y+1) w (skip i x) (z+1))=setc (fun x z=>a (skip i x) (z+1)) y fun x=>w (skip i x):=fun w=>by
    funext x z
    unfold setc
    by_cases h:z=y
    ·subst h;rw [if_pos rfl,if_pos rfl]
    ·rw [if_neg (by omega),if_neg h]
   rw [e,e,e,setc_ne (by omega),setc_ne (by omega),setc_ne (by omega)]
   rw [det_lin k l u v (fun x z=>a (skip i x) (z+1)) (show y<m by omega) (fun x=>u (skip i x)) (fun x=>v (skip i x))];grind
theorem det_adj : ∀ {m:Nat}{a:Nat→Nat→Int}{y:Nat},y+1<m→(∀ x,x<m→a x y=a x (y+1))→det m a=0
 | m+2,a,0,_,h=>by
  have e:det (m+2) a=sumN (m+2) (fun i=>sumN (m+1) (fun j=>sgn i*a i 0*(sgn j*a (skip i j) 1*det m (fun x y=>a (skip i (skip j x)) (y+2))))):=by
   show sumN (m+2) _=_
   refine sumN_congr fun i _=>?_
   rw [sumN_mul];rfl
  rw [e]
  refine sumN_alt (m+1) fun i j hi hj=>?_
  have s1:skip (j+1) i=i:=by unfold skip;rw [if_pos (by omega)]
  have s2:skip i j=j+1:=by unfold skip;rw [if_neg (by omega)]
  rw [s1,s2,sgn_succ,← h i (by omega),← h (j+1) (by omega)]
  have e3:(fun x y=>a (skip (j+1) (skip i x)) (y+2))=fun x y=>a (skip i (skip j x)) (y+2):=by
   funext x y;rw [skip_skip hi]
  rw [e3];grind
 | m+1,a,y+1,hy,h=>by
  show sumN (m+1) _=0
  refine sumN_zero fun i _=>?_
  rw [det_adj (m:=m) (a:=fun x z=>a (skip i x) (z+1)) (y:=y) (by omega) fun x hx=>h (skip i x) (skip_lt hx)]
  omega
theorem setc_setc {a:Nat→Nat→Int}{y z:Nat}{u v:Nat→Int} (h:y≠z):setc (setc a y u) z v=setc (setc a z v) y u:=by
 funext x t
 unfold setc
 by_cases h1:t=z
 ·by_cases h2:t=y
  ·omega
  ·simp [h1,Ne.symm h]
 ·simp [h1]
theorem setc_self {a:Nat→Nat→Int}{y:Nat}:setc a y (fun x=>a x y)=a:=by
 funext x t
 unfold setc
 by_cases h:t=y
 ·subst h;rw [if_pos rfl]
 ·rw [if_neg h]
theorem swap_of {m:Nat}{a:Nat→Nat→Int}{y z:Nat} (hy:y<m) (hz:z<m) (hyz:y≠z) (h0 : ∀ w:Nat→Int,det m (setc (setc a y w) z w)=0) (u v:Nat→Int) :
 det m (setc (setc a y u) z v) = - det m (setc (setc a y v) z u):=by
  have e:=h0 fun x=>1*u x+1*v x
  rw [det_lin 1 1 u v _ hz] at e
  rw [setc_setc hyz,setc_setc hyz,det_lin 1 1 u v _ hy,det_lin 1 1 u v _ hy,← setc_setc hyz,← setc_setc hyz,← setc_setc hyz,← setc_setc hyz,h0 u,h0 v] at e
  omega
theorem det_two : ∀ (d:Nat) {m:Nat}{a:Nat→Nat→Int}{y:Nat},y+d+1<m→(∀ x,x<m→a x y=a x (y+d+1))→det m a=0
 | 0,m,a,y,hm,h=>det_adj hm h
 | d+1,m,a,y,hm,h=>by
  have h0 : ∀ w:Nat→Int,det m (setc (setc a (y+d+1) w) (y+d+2) w)=0:=fun w=>det_adj (y:=y+d+1) (by omega) fun x _=>by
   rw [setc_ne (by omega),setc_same,setc_same]
  have e:=swap_of (by omega) (by omega) (by omega) h0 (fun x=>a x (y+d+1)) (fun x=>a x (y+d+2))
  rw [setc_self,show setc a (y+d+2) (fun x=>a x (y+d+2))=a from setc_self] at e
  rw [e,det_two d (y:=y) (by omega) fun x hx=>?_]
  ·rfl
  ·rw [setc_ne (by omega),setc_ne (by omega),setc_ne (by omega),setc_same]
   exact h x hx
theorem det_same {m:Nat}{a:Nat→Nat→Int}{y z:Nat} (hy:y<m) (hz:z<m) (hyz:y≠z) (h : ∀ x,x<m→a x y=a x z):det m a=0:=by
 rcases Nat.lt_or_gt_of_ne hyz with g|g
 ·obtain ⟨d,rfl⟩ : ∃ d,z=y+d+1:=⟨z-y-1,by omega⟩
  exact det_two d hz h
 ·obtain ⟨d,rfl⟩ : ∃ d,y=z+d+1:=⟨y-z-1,by omega⟩
  exact det_two d hy fun x hx=>(h x hx).symm
theorem det_swap {m:Nat}{a:Nat→Nat→Int}{y z:Nat} (hy:y<m) (hz:z<m) (hyz:y≠z) (u v:Nat→Int) :
 det m (setc (setc a y u) z v) = - det m (setc (setc a y v) z u) :=
  swap_of hy hz hyz (fun w=>det_same hy hz hyz fun x _=>by rw [setc_ne hyz,setc_same,setc_same]) u v
theorem det_one : ∀ m:Nat,det m (fun x y=>if x=y then 1 else 0)=1
 | 0=>rfl
 | m+1=>by
  show sumN (m+1) _=1
  rw [sumN_one (r:=0) (by omega) fun i _ hi=>by show sgn i*(if i=0 then 1 else 0)*_=0;rw [if_neg hi,Int.mul_zero,Int.zero_mul]]
  have e:(fun x y=>if skip 0 x=y+1 then (1:Int) else 0)=fun x y=>if x=y then 1 else 0:=by
   funext x y
   have:skip 0 x=x+1:=by unfold skip;rw [if_neg (by omega)]
   rw [this];simp
  rw [e,det_one m];rfl
theorem det_sum {m:Nat} (a:Nat→Nat→Int) {y:Nat} (hy:y<m) (c:Nat→Int) (w:Nat→Nat→Int) : ∀ n:Nat,
 det m (setc a y fun x=>sumN n fun i=>c i*w i x)=sumN n fun i=>c i*det m (setc a y (w i))
  | 0=>by
   have e:=det_lin 0 0 (fun _=>0) (fun _=>0) a hy (fun _=>0) (fun _=>0)
   simp at e
   exact e
  | n+1=>by
   have e:(fun x=>sumN (n+1) fun i=>c i*w i x)=fun x=>1*(sumN n fun i=>c i*w i x)+c n*w n x:=by
    funext x;show (sumN n fun i=>c i*w i x)+c n*w n x=_;omega
   rw [e,det_lin 1 (c n) (w n) (w n) a hy,det_sum a hy c w n]
   show _=(sumN n fun i=>c i*det m (setc a y (w i)))+c n*det m (setc a y (w n))
   omega
structure InPre (n:Nat) (R:List (List Int)) (b:List Int):Prop where
 l:b.length=R.length
 w : ∀ r ∈ R,r.length=n
 hn:n≤20
 hm:R.length≤24
structure SvPre (n:Nat) (R:List (List Int)) (b:List Int):Prop where
 i:InPre n R b
 n1:1≤n
 m1:1≤R.length
 z : ∀ r ∈ R,∀ x ∈ r,x.natAbs≤20000000
 zb : ∀ x ∈ b,x.natAbs≤20000000
def FitV (n:Nat) (R:List (List Int)) (b:List Int) (vs:List (Int×Int)):Prop:=vs.length=n ∧ ∃ d:Int,0<d∧intBits d≤2000∧(∀ x ∈ vs,Shr x.1 x.2∧0≤x.1∧x.2∣d∧intBits x.1≤2000) ∧
 ∀ k,k<R.length→d*(b[k]?).getD 0=sumN n fun u=>at2 R k u*(((vs[u]?).getD (0,1)).1*(d/((vs[u]?).getD (0,1)).2))
def NoneW (n:Nat) (R:List (List Int)) (b:List Int) (ws:List Int):Prop:=ws.length=R.length∧(∀ j,j<n→(sumN R.length fun l=>at2 R l j*(ws[l]?).getD 0)≤0)∧0<sumN R.length fun l=>(b[l]?).getD 0*(ws[l]?).getD 0
def firstL (R:List (List Int)) (b:List Int):List (List Int):=(List.range R.length).map fun k=>fstL ((R[k]?).getD []) ((b[k]?).getD 0) k R.length
def firstS (m:Nat):List Int:=(List.range m).map fun (k:Nat) => -(m:Int)+k
def initSp (K:PySem.W.Frag) (C:Addr):Sp:=fun vs H Q _ => ∃ (a dx:Addr) (F:Hp) (vr vb:V) (n:Nat) (R:List (List Int)) (b:List Int),vs=[.ref a,.int n,vr,vb]∧H a=some (.ins C dx [])∧F a=none∧Same F H∧Is K F (dRows R) vr∧Is K F (.list (b.map .int)) vb∧InPre n R b ∧
 ∀ F' H' vl qa,H qa=none→GoX a qa F H F' H'→BAt K C H' F' a dx qa n 1 (firstL R b) (firstS R.length) vl→Q .non H'
theorem sc_Board___init__:FnScope ["self","unknowns","rows","sums"] ["self","unknowns","rows","sums"] (defScope s_Board___init__):=sc0
theorem ok_Board___init__ (F:MDef K cs.Board "__init__" "Board.__init__" s_Board___init__ ["self","unknowns","rows","sums"]) (T:Txt K mg cs)
 (O_first_line:Ok P w K mg base "first_line" 1 ["row","total","k","many"] (FSp K sp_first_line))
 : OkM P w K mg base cs.Board "__init__" 2 ["self","unknowns","rows","sums"] (initSp K cs.Board):=by
  obtain ⟨f,fd,Fn,hm,hb⟩:=F.ex
  refine ⟨f,fd,Fn.ok sc_Board___init__ (by rintro vs H Q E ⟨_,_,_,_,_,_,_,_,h,_⟩;rw [h];rfl) fun cdv A outer s H vs Q E hr h=>?_,hm,hb⟩
  obtain ⟨a,dx,F0,vr,vb,n,R,b,rfl,ha,fa,sm,hR,hbs,hp,kk⟩:=h
  refine ⟨_,pss_cons (ps_fld (pv 0) (pv 1) rfl) (pss_cons (ps_fld (pv 0) pe_int rfl) (pss_cons (ps_fld (pv 0) (VE.pe (vf_fz (vf_comp (caps:=["rows","sums"]) (own:=["k"]) (ix:=[2,3]) rfl ⟨rfl,rfl,rfl,rfl,rfl,rfl⟩ (vi_range1 T.range_ (ve_callB c_len T.len_ L2.boot_len (va_cons (ve_var 2) va_nil))) (fun _ _ _ _=>(vg_name (i:=2) (show List.Nodup (["rows","sums","k"]:List Str) by decide))) (fun _ _ _ _=>(vf_fz (vf_fn O_first_line.c (hr.mono (by decide)) (va_cons (ve_ix (ve_var 0) (ve_var 2)) (va_cons (ve_ix (ve_var 1) (ve_var 2)) (va_cons (ve_var 2) (va_cons (ve_callB c_len T.len_ L2.boot_len (va_cons (ve_var 0) va_nil)) va_nil)))))))))) rfl)
   (pss_one (ps_fld (pv 0) (pe_callTy (call_lrng rfl) rfl T.list_ L2.boot_list (pa_cons (pe_callTy call_rng2 rfl T.range_ L2.boot_rng (pa_cons (pe_un un_neg (pe_callB call_len_seq rfl T.len_ L2.boot_len (pa_cons (pv 2) pa_nil))) (pa_cons pe_int pa_nil))) pa_nil)) rfl)))),?_⟩
  refine ⟨.int n,rfl,.ref a,rfl,a,cs.Board,dx,[],rfl,ha,T.Board_c,T.Board_n_unknowns,(show 0<1000 by decide),?_⟩
  refine ⟨.ref a,rfl,a,cs.Board,dx,[("unknowns",.int n)],rfl,upd_same,T.Board_c,T.Board_n_bottom,(show 1<1000 by decide),?_⟩
  rw [upd_upd]
  have hm24:=hp.hm
  have sF2 : ∀ o,Same F0 (upd H a o):=fun o c u e=>by rw [upd_ne (ne_of_none e fa)];exact sm c u e
  have I3:=env_startO (K:=K) (N:=["self","unknowns","rows","sums"]) (nm:=["unknowns","bottom"]) (fs:=[]) (C:=cs.Board) (a:=a) (dx:=dx) (us:=[("unknowns",.int n),("bottom",.int 1)]) (sF2 (.ins cs.Board dx [("unknowns",.int n),("bottom",.int 1)])) upd_same ⟨rfl,fun f d z=>by cases z⟩ (iss_cons (is_int (n:Int)) (iss_cons hR (iss_cons hbs iss_nil)))
  refine ⟨_,_,F0,fun dd e=>dd = .list ((firstL R b).map dRow),I3,?_,fun dd v F5 H5 e5 I5 s5 i5 q5=>?_⟩
  ·have hlen:(R.map dRow).length=R.length:=List.length_map _
   have hrl:(rngD 0 (((R.map dRow).length:Nat):Int).toNat).length=R.length:=by rw [rngD_len,hlen];omega
   refine ⟨⟨by rw [hlen];omega,by rw [hlen];omega⟩,?_⟩
   refine comp_by ((firstL R b).map dRow) (by rw [hrl];simp [firstL]) (small1000 (by simp [firstL];omega)) (fun e => ∃ u,e=[.val (dRows R),.val (.list (b.map .int)),u]) ⟨_,rfl⟩ ?_ rfl
   rintro i x ys e hx hys ⟨u,rfl⟩
   obtain ⟨hi,rfl⟩:=rngD_inv hx
   have hi':i<R.length:=by rw [hlen] at hi;omega
   have eR:R[i]?=some ((R[i]?).getD []):=by rw [List.getElem?_eq_getElem hi'];rfl
   have eb:b[i]?=some ((b[i]?).getD 0):=by rw [List.getElem?_eq_getElem (by rw [hp.l];exact hi')];rfl
   have lr:=hp.w _ (List.mem_of_getElem? eR)
   have hn20:=hp.hn
   rw [Int.zero_add]
   refine ⟨_,atI_nat (by rw [List.getElem?_map,eR];rfl),_,atI_nat (by rw [List.getElem?_map,eb];rfl),(R[i]?).getD [],(b[i]?).getD 0,i,(R.map dRow).length,rfl,⟨by omega,by rw [hlen];omega⟩,snoc_take ?_ hys,_,rfl⟩
   unfold firstL
   rw [List.getElem?_map,List.getElem?_map,List.getElem?_range hi',hlen];rfl
  subst q5
  have fa5:F5 a=none:=by
   cases e:F5 a with
   | none=>rfl
   | some o=>rcases I5.new a o e with q|q
             ·have q:F0 a=some o:=q
              rw [fa] at q;cases q
             ·have q:upd H a (.ins cs.Board dx [("unknowns",.int n),("bottom",.int 1)]) a=none:=q
              rw [upd_same] at q;cases q
  have Ha5:=I5.bh.at upd_same
  refine ⟨.ref a,rfl,a,cs.Board,dx,[("unknowns",.int n),("bottom",.int 1)],rfl,Ha5,T.Board_c,T.Board_n_lines,(show 2<1000 by decide),?_⟩
  obtain ⟨lr,xs,rfl,hsq,hxs⟩:=hR.lst_inv
  have lx:xs.length=R.length:=by rw [hxs.len,List.length_map]
  have s6 : ∀ o,Same F5 (upd H5 a o):=fun o c u e=>by rw [upd_ne (ne_of_none e fa5)];exact I5.fh c u e
  refine ⟨.ref lr,rfl,lr,xs,rfl,.inl ((s5.trans (s6 _)).seq hsq),xs.length,rfl,_,_,rfl,fun l hl=>?_⟩
  refine ⟨l,-(xs.length:Int),0,rfl,upd_same,⟨by omega,by omega,by decide,by decide⟩,by omega,fun l2 hl2=>?_⟩
  have la:l≠a:=fun z=>by rw [z,upd_same] at hl;cases hl
  have l2l:l2≠l:=fun z=>by rw [z,upd_same] at hl2;cases hl2
  rw [upd_ne l2l] at hl2
  have l2a:l2≠a:=fun z=>by rw [z,upd_same] at hl2;cases hl2
  rw [upd_ne l2a] at hl2
  rw [upd_ne la] at hl
  have hH:H l2=none:=by
   have:=same_none I5.bh hl2
   have this:upd H a _ l2=none:=this
   rw [upd_ne l2a] at this;exact this
  have fl:=same_none I5.fh hl
  have fl2:=same_none I5.fh hl2
  refine ⟨.ref a,rfl,a,cs.Board,dx,[("unknowns",.int n),("bottom",.int 1),("lines",v)],rfl,by rw [upd_ne (Ne.symm l2a),upd_ne (Ne.symm la)];exact upd_same,T.Board_c,T.Board_n_stands_for,(show 3<1000 by decide),?_⟩
  refine kk F5 _ v l2 hH ⟨s5,fun c o c1 c2 e=>?_,fun c o e=>?_,fun c o e=>?_⟩ ⟨upd_same,i5,?_,fa5,fl2⟩
  ·have h5:Kp o (H5 c):=I5.bh c o (by show upd H a _ c=_;rw [upd_ne c1];exact e)
   obtain ⟨o',e5⟩ : ∃ o',H5 c=some o':=I5.bh.any (b:=c) (o:=o) (by show upd H a _ c=_;rw [upd_ne c1];exact e)
   rw [upd_ne c1,upd_ne c2,upd_ne (ne_of_none e5 hl),upd_ne c1];exact h5
  ·rw [upd_ne (ne_of_none e fa5),upd_ne (ne_of_none e fl2),upd_ne (ne_of_none e fl),upd_ne (ne_of_none e fa5)]
   exact I5.fh c o e
  ·rcases I5.new c o e with q|q
   ·exact .inl q
   ·have q:upd H a _ c=none:=q
    rw [upd_ne (ne_of_none e fa5)] at q
    exact .inr q
  ·rw [upd_ne l2a,upd_same]
   have e:(0 - -(xs.length:Int)).toNat=R.length:=by omega
   rw [e,lx]
   unfold rngV firstS
   rw [List.map_map];rfl
theorem setc_again {a:Nat→Nat→Int}{y:Nat}{u v:Nat→Int}:setc (setc a y u) y v=setc a y v:=by
 funext x t
 unfold setc
 by_cases h:t=y
 ·rw [if_pos h,if_pos h]
 ·rw [if_neg h,if_neg h,if_neg h]
theorem setc_congr {m:Nat}{a:Nat→Nat→Int}{y:Nat}{u v:Nat→Int} (h : ∀ x,x<m→u x=v x):det m (setc a y u)=det m (setc a y v) :=
 det_congr fun x z hx _=>by
  unfold setc
  by_cases e:z=y
  ·rw [if_pos e,if_pos e,h x hx]
  ·rw [if_neg e,if_neg e]
structure Brd (m:Nat) (col:Nat→Nat→Int) (B:Nat→Nat→Int) (L:Nat→Nat→Int) (d:Int):Prop where
 pos:0<d
 hd:d=det m B
 hL : ∀ k,k<m → ∀ j,L k j=det m (setc B k (col j))
 hI : ∀ j x,x<m→d*col j x=sumN m fun k=>L k j*B x k
theorem brd_first (m:Nat) (col:Nat→Nat→Int):Brd m col (fun x y=>if x=y then 1 else 0) (fun k j=>col j k) 1 where
 pos:=by omega
 hd:=(det_one m).symm
 hL:=fun k hk j=>by
  have e:det m (setc (fun x y=>if x=y then 1 else 0) k (col j))=det m (setc (fun x y=>if x=y then 1 else 0) k fun x=>sumN m fun i=>col j i*(if x=i then 1 else 0)) :=
   setc_congr fun x hx=>by
    rw [sumN_one hx fun i _ hi=>by rw [if_neg (Ne.symm hi)];omega,if_pos rfl];omega
  rw [e,det_sum _ hk (fun i=>col j i) (fun i x=>if x=i then 1 else 0)]
  rw [sumN_one hk fun i hi hik=>?_]
  ·rw [show setc (fun x y=>if x=y then (1:Int) else 0) k (fun x=>if x=k then 1 else 0)=fun x y=>if x=y then 1 else 0 from setc_self (a:=fun x y=>if x=y then (1:Int) else 0),det_one];omega
  ·rw [det_same hk hi (Ne.symm hik) fun x _=>by rw [setc_same,setc_ne hik]];omega
 hI:=fun j x hx=>by
  show 1*col j x=sumN m fun k=>col j k*(if x=k then 1 else 0)
  rw [sumN_one hx fun i _ hi=>by rw [if_neg (Ne.symm hi)];omega,if_pos rfl];omega
def piv (L:Nat→Nat→Int) (d:Int) (r c:Nat):Nat→Nat→Int:=fun k j=>if k=r then L r j else (L k j*L r c-L k c*L r j)/d
theorem Brd.exact {m:Nat}{col B L:Nat→Nat→Int}{d:Int} (h:Brd m col B L d) {r c:Nat} (hr:r<m) {k j:Nat} (hk:k<m) (hkr:k≠r) :
 d*det m (setc (setc B r (col c)) k (col j))=L k j*L r c-L k c*L r j:=by
  have e1:d*det m (setc (setc B r (col c)) k (col j))=det m (setc (setc B r (col c)) k fun x=>d*col j x):=by
   have:=det_lin d 0 (col j) (col j) (setc B r (col c)) hk (col j) (col j)
   simp at this
   exact this.symm
  rw [e1,setc_congr (v:=fun x=>sumN m fun i=>L i j*B x i) fun x hx=>h.hI j x hx,det_sum _ hk (fun i=>L i j) (fun i x=>B x i)]
  rw [sumN_two hk hr hkr fun i hi hik hir=>?_]
  ·have t1:det m (setc (setc B r (col c)) k fun x=>B x k)=L r c:=by
    rw [h.hL r hr c]
    congr 1
    have:(fun x=>B x k)=fun x=>setc B r (col c) x k:=by funext x;exact (setc_ne hkr).symm
    rw [this,setc_self]
   have t2:det m (setc (setc B r (col c)) k fun x=>B x r) = - L k c:=by
    rw [det_swap hr hk (Ne.symm hkr),setc_self,← h.hL k hk c]
   rw [t1,t2];grind
  ·rw [det_same hk hi (Ne.symm hik) fun x _=>by rw [setc_same,setc_ne hik,setc_ne hir]];omega
theorem Brd.next {m:Nat}{col B L:Nat→Nat→Int}{d:Int} (h:Brd m col B L d) {r c:Nat} (hr:r<m) (hp:0<L r c) :
 Brd m col (setc B r (col c)) (piv L d r c) (L r c) ∧ ∀ k,k<m→k≠r → ∀ j,d*piv L d r c k j=L k j*L r c-L k c*L r j:=by
  have hd0:d≠0:=by have:=h.pos;omega
  have ex : ∀ k,k<m→k≠r → ∀ j,piv L d r c k j=det m (setc (setc B r (col c)) k (col j)):=fun k hk hkr j=>by
   unfold piv
   rw [if_neg hkr,← h.exact hr hk hkr,Int.mul_ediv_cancel_left _ hd0]
  have ex2 : ∀ k,k<m→k≠r → ∀ j,d*piv L d r c k j=L k j*L r c-L k c*L r j:=fun k hk hkr j=>by
   rw [ex k hk hkr j,h.exact hr hk hkr]
  refine ⟨⟨hp,h.hL r hr c,fun k hk j=>?_,fun j x hx=>?_⟩,ex2⟩
  ·by_cases e:k=r
   ·subst e
    rw [setc_again,← h.hL k hk j]
    unfold piv;rw [if_pos rfl]
   ·exact ex k hk e j
  ·refine Int.eq_of_mul_eq_mul_left hd0 ?_
   rw [← sumN_mul]
   have t : ∀ k,k<m→d*(piv L d r c k j*setc B r (col c) x k)=(L r c*(L k j*B x k)+(- L r j)*(L k c*B x k))+(if k=r then L r j*(d*col c x) else 0):=fun k hk=>by
    by_cases e:k=r
    ·subst e
     rw [setc_same,if_pos rfl]
     unfold piv
     rw [if_pos rfl];grind
    ·rw [setc_ne e,if_neg e,← Int.mul_assoc,ex2 k hk e j];grind
   rw [sumN_congr t,sumN_add,sumN_lin,← h.hI j x hx,← h.hI c x hx,sumN_one hr fun i _ hi=>if_neg hi,if_pos rfl]
   grind
theorem Brd.basic {m:Nat}{col B L:Nat→Nat→Int}{d:Int} (h:Brd m col B L d) {i j:Nat} (hi:i<m) (e : ∀ x,x<m→B x i=col j x) {k:Nat} (hk:k<m) :
 L k j=if k=i then d else 0:=by
  rw [h.hL k hk j,setc_congr (v:=fun x=>B x i) fun x hx=>(e x hx).symm]
  by_cases q:k=i
  ·subst q;rw [if_pos rfl,setc_self,← h.hd]
  ·rw [if_neg q]
   exact det_same hk hi q fun x _=>by rw [setc_same,setc_ne (Ne.symm q)]
theorem Brd.comb {m:Nat}{col B L:Nat→Nat→Int}{d:Int} (h:Brd m col B L d) {j n:Nat} (f:Nat→Int) (at':Nat→Nat) (e : ∀ x,x<m→col j x=sumN n fun l=>f l*col (at' l) x) {k:Nat} (hk:k<m) :
 L k j=sumN n fun l=>f l*L k (at' l):=by
  rw [h.hL k hk j,setc_congr e,det_sum _ hk f (fun l=>col (at' l))]
  exact sumN_congr fun l _=>by rw [h.hL k hk]
theorem sumN_swap (f:Nat→Nat→Int) (n:Nat) : ∀ m:Nat,sumN m (fun i=>sumN n (f i))=sumN n (fun k=>sumN m fun i=>f i k)
 | 0=>(sumN_zero fun _ _=>rfl).symm
 | m+1=>by
  show sumN m (fun i=>sumN n (f i))+sumN n (f m)=sumN n (fun k=>(sumN m fun i=>f i k)+f m k)
  rw [sumN_swap f n m,sumN_add]
theorem sumN_neg {f:Nat→Int} : ∀ {n:Nat},sumN n f<0 → ∃ k,k<n∧f k<0
 | 0,h=>absurd h (by show ¬ (0:Int)<0;omega)
 | n+1,h=>by
  have h':sumN n f+f n<0:=h
  by_cases q:f n<0
  ·exact ⟨n,by omega,q⟩
  ·obtain ⟨k,hk,z⟩:=sumN_neg (f:=f) (n:=n) (by omega)
   exact ⟨k,by omega,z⟩
theorem sumN_pos {f:Nat→Int} : ∀ {n:Nat},0<sumN n f → ∃ k,k<n∧0<f k
 | 0,h=>absurd h (by show ¬ (0:Int)<0;omega)
 | n+1,h=>by
  have h':0<sumN n f+f n:=h
  by_cases q:0<f n
  ·exact ⟨n,by omega,q⟩
  ·obtain ⟨k,hk,z⟩:=sumN_pos (f:=f) (n:=n) (by omega)
   exact ⟨k,by omega,z⟩
theorem sumN_nonneg {f:Nat→Int} : ∀ {n:Nat},(∀ k,k<n→0≤f k)→0≤sumN n f
 | 0,_=>by show (0:Int)≤0;omega
 | n+1,h=>by
  have a:=sumN_nonneg (f:=f) (n:=n) fun k hk=>h k (by omega)
  have b:=h n (by omega)
  show 0≤sumN n f+f n
  omega
structure Sta where
 st:Nat→Int
 L:Nat→Nat→Int
 d:Int
def Bas (col:Nat→Nat→Int) (st:Nat→Int):Nat→Nat→Int:=fun x k=>if st k<0 then (if x=k then 1 else 0) else col (st k).toNat x
structure Good (m n:Nat) (col:Nat→Nat→Int) (b:Sta):Prop where
 brd:Brd m col (Bas col b.st) b.L b.d
 sum : ∀ k,k<m→0≤b.L k (n+m)
 top : ∀ k,k<m→b.st k<n
def lack (m:Nat) (b:Sta) (j:Nat):Int:=sumN m fun k=>if b.st k<0 then b.L k j else 0
structure Stp (m n:Nat) (b:Sta) (c r:Nat) (b':Sta):Prop where
 c1:c<n
 c2:0<lack m b c
 c3 : ∀ j,j<c→lack m b j≤0
 r1:r<m
 r2:0<b.L r c
 r3 : ∀ k,k<m→0<b.L k c→b.L r (n+m)*b.L k c≤b.L k (n+m)*b.L r c
 r4 : ∀ k,k<m→0<b.L k c→b.L r (n+m)*b.L k c=b.L k (n+m)*b.L r c→b.st r≤b.st k
 st:b'.st=fun k=>if k=r then (c:Int) else b.st k
 L:b'.L=piv b.L b.d r c
 d:b'.d=b.L r c
theorem bas_next {col:Nat→Nat→Int}{st:Nat→Int}{r c:Nat}:Bas col (fun k=>if k=r then (c:Int) else st k)=setc (Bas col st) r (col c):=by
 funext x k
 have e1 : ∀ v:Int,(fun k=>if k=r then (c:Int) else st k) k=v→Bas col (fun k=>if k=r then (c:Int) else st k) x k=if v<0 then (if x=k then 1 else 0) else col v.toNat x:=fun v hv=>by
  unfold Bas;rw [hv]
 by_cases e:k=r
 ·rw [e1 c (if_pos e),if_neg (by omega),e,setc_same];rfl
 ·rw [e1 (st k) (if_neg e),setc_ne e];rfl
theorem Good.basic {m n:Nat}{col:Nat→Nat→Int}{b:Sta} (h:Good m n col b) {i j:Nat} (hi:i<m) (e:b.st i=(j:Int)) {k:Nat} (hk:k<m):b.L k j=if k=i then b.d else 0 :=
 h.brd.basic hi (fun x _=>by unfold Bas;rw [e,if_neg (by omega)];rfl) hk
theorem Good.lack0 {m n:Nat}{col:Nat→Nat→Int}{b:Sta} (h:Good m n col b) {i j:Nat} (hi:i<m) (e:b.st i=(j:Int)):lack m b j=0 :=
 sumN_zero fun k hk=>by
  by_cases q:b.st k<0
  ·rw [if_pos q,h.basic hi e hk,if_neg (fun z=>by subst z;omega)]
  ·rw [if_neg q]
theorem Good.next {m n:Nat}{col:Nat→Nat→Int}{b b':Sta}{c r:Nat} (h:Good m n col b) (s:Stp m n b c r b') :
 Good m n col b' ∧ ∀ k,k<m→k≠r → ∀ j,b.d*b'.L k j=b.L k j*b.L r c-b.L k c*b.L r j:=by
  obtain ⟨h1,h2⟩:=h.brd.next s.r1 s.r2
  have e:=bas_next (col:=col) (st:=b.st) (r:=r) (c:=c)
  rw [← s.L] at h2
  refine ⟨⟨?_,fun k hk=>?_,fun k hk=>?_⟩,h2⟩
  ·rw [s.st,e,s.L,s.d];exact h1
  ·by_cases q:k=r
   ·subst q
    rw [s.L];unfold piv;rw [if_pos rfl];exact h.sum k hk
   ·have z:=h2 k hk q (n+m)
    have dp:=h.brd.pos
    have s0:=h.sum k hk
    have s1:=h.sum r s.r1
    have p0:=s.r2
    have:0≤b.d*b'.L k (n+m):=by
     rw [z]
     by_cases g:0<b.L k c
     ·have:=s.r3 k hk g
      have e2:b.L k c*b.L r (n+m)=b.L r (n+m)*b.L k c:=Int.mul_comm ..
      omega
     ·have a1:0≤b.L k (n+m)*b.L r c:=Int.mul_nonneg s0 (by omega)
      have a2:b.L k c*b.L r (n+m)≤0:=Int.mul_nonpos_of_nonpos_of_nonneg (by omega) s1
      omega
    exact Int.nonneg_of_mul_nonneg_right this dp
  ·rw [s.st]
   show (if k=r then (c:Int) else b.st k)<n
   by_cases q:k=r
   ·rw [if_pos q];have:=s.c1;omega
   ·rw [if_neg q];exact h.top k hk
theorem lack_id {m n:Nat}{col:Nat→Nat→Int}{a b:Sta} (ha:Good m n col a) (hb:Good m n col b) (same : ∀ k,k<m→(a.st k<0↔b.st k<0)) (e:Nat) :
 a.d*lack m b e=b.d*lack m a e+sumN m fun k=>if a.st k<0 then 0 else a.L k e*lack m b (a.st k).toNat:=by
  have one : ∀ i,i<m→a.d*b.L i e=sumN m fun k=>a.L k e*det m (setc (Bas col b.st) i fun x=>Bas col a.st x k):=fun i hi=>by
   have e1:a.d*b.L i e=det m (setc (Bas col b.st) i fun x=>a.d*col e x):=by
    rw [hb.brd.hL i hi e]
    have:=det_lin a.d 0 (col e) (col e) (Bas col b.st) hi (col e) (col e)
    simp at this
    exact this.symm
   rw [e1,setc_congr (v:=fun x=>sumN m fun k=>a.L k e*Bas col a.st x k) fun x hx=>ha.brd.hI e x hx,det_sum _ hi (fun k=>a.L k e) (fun k x=>Bas col a.st x k)]
  have phi : ∀ i k,i<m→k<m→det m (setc (Bas col b.st) i fun x=>Bas col a.st x k)=if a.st k<0 then (if i=k then b.d else 0) else b.L i (a.st k).toNat:=fun i k hi hk=>by
   by_cases q:a.st k<0
   ·rw [if_pos q]
    have q2:=(same k hk).mp q
    have e2:(fun x=>Bas col a.st x k)=fun x=>Bas col b.st x k:=by
     funext x;unfold Bas;rw [if_pos q,if_pos q2]
    rw [e2]
    by_cases g:i=k
    ·subst g;rw [if_pos rfl,setc_self,← hb.brd.hd]
    ·rw [if_neg g]
     exact det_same hi hk g fun x _=>by rw [setc_same,setc_ne (Ne.symm g)]
   ·rw [if_neg q,hb.brd.hL i hi]
    exact setc_congr fun x _=>by unfold Bas;rw [if_neg q]
  have l1:a.d*lack m b e=sumN m fun i=>sumN m fun k=>if b.st i<0 then a.L k e*(if a.st k<0 then (if i=k then b.d else 0) else b.L i (a.st k).toNat) else 0:=by
   unfold lack
   rw [← sumN_mul]
   refine sumN_congr fun i hi=>?_
   by_cases q:b.st i<0
   ·rw [if_pos q,one i hi]
    exact sumN_congr fun k hk=>by rw [if_pos q,phi i k hi hk]
   ·rw [if_neg q,sumN_zero fun k _=>if_neg q];omega
  rw [l1,sumN_swap]
  have l2 : ∀ k,k<m→(sumN m fun i=>if b.st i<0 then a.L k e*(if a.st k<0 then (if i=k then b.d else 0) else b.L i (a.st k).toNat) else 0)
   = b.d*(if a.st k<0 then a.L k e else 0)+(if a.st k<0 then 0 else a.L k e*lack m b (a.st k).toNat):=fun k hk=>by
   by_cases q:a.st k<0
   ·rw [if_pos q,if_pos q,sumN_one hk fun i hi hik=>by
     by_cases g:b.st i<0
     ·rw [if_pos g,if_pos q,if_neg hik];omega
     ·rw [if_neg g],if_pos ((same k hk).mp q),if_pos q,if_pos rfl,Int.mul_comm];omega
   ·rw [if_neg q,if_neg q]
    unfold lack
    rw [← sumN_mul,Int.mul_zero,Int.zero_add]
    exact sumN_congr fun i _=>by
     by_cases g:b.st i<0
     ·rw [if_pos g,if_pos g,if_neg q]
     ·rw [if_neg g,if_neg g];omega
  rw [sumN_congr l2,sumN_add,sumN_mul]
  rfl
theorem up_step {Q:Nat→Prop}{a b:Nat} (hab:a≤b) (ha : ¬ Q a) (hb:Q b) : ∃ τ,a≤τ∧τ<b ∧ ¬ Q τ∧Q (τ+1):=by
 induction b with
 | zero =>
  have:a=0:=by omega
  subst this;exact (ha hb).elim
 | succ b ih =>
  by_cases e:a=b+1
  ·subst e;exact (ha hb).elim
  ·by_cases q:Q b
   ·obtain ⟨τ,h1,h2,h3,h4⟩:=ih (by omega) q
    exact ⟨τ,h1,by omega,h3,h4⟩
   ·exact ⟨b,by omega,by omega,q,hb⟩
theorem up_round {Q:Nat→Prop}{T a b:Nat} (hT:Q T↔Q 0) (ha:a≤T) (hb:b≤T) (h1 : ¬ Q a) (h2:Q b) : ∃ τ,τ<T ∧ ¬ Q τ∧Q (τ+1):=by
 by_cases q:a≤b
 ·obtain ⟨τ,_,h,h3,h4⟩:=up_step q h1 h2
  exact ⟨τ,by omega,h3,h4⟩
 ·by_cases q0:Q T
  ·obtain ⟨τ,_,h,h3,h4⟩:=up_step ha h1 q0
   exact ⟨τ,h,h3,h4⟩
  ·have z : ¬ Q 0:=fun z=>q0 (hT.mpr z)
   obtain ⟨τ,_,h,h3,h4⟩:=up_step (Nat.zero_le b) z h2
   exact ⟨τ,by omega,h3,h4⟩
theorem max_of (f:Nat→Nat) : ∀ {T:Nat},0<T → ∃ β,β<T ∧ ∀ τ,τ<T→f τ≤f β
 | 1,_=>⟨0,by omega,fun τ h=>by have:τ=0:=by omega
                                subst this;exact Nat.le_refl _⟩
 | T+2,_=>by
  obtain ⟨β,h1,h2⟩:=max_of f (T:=T+1) (by omega)
  by_cases q:f β≤f (T+1)
  ·refine ⟨T+1,by omega,fun τ h=>?_⟩
   by_cases e:τ=T+1
   ·subst e;exact Nat.le_refl _
   ·exact Nat.le_trans (h2 τ (by omega)) q
  ·refine ⟨β,by omega,fun τ h=>?_⟩
   by_cases e:τ=T+1
   ·subst e;omega
   ·exact h2 τ (by omega)
theorem bland {m n:Nat}{col:Nat→Nat→Int}{b:Nat→Sta}{cs rs:Nat→Nat}{T:Nat} (hT:0<T) (h0:Good m n col (b 0)) (hs : ∀ τ,τ<T→Stp m n (b τ) (cs τ) (rs τ) (b (τ+1)))
 (he : ∀ k,k<m→(b T).st k=(b 0).st k):False:=by
  have G : ∀ τ,τ≤T→Good m n col (b τ):=fun τ=>by
   induction τ with
   | zero=>exact fun _=>h0
   | succ τ ih=>exact fun h=>((ih (by omega)).next (hs τ (by omega))).1
  have bs : ∀ x k,k<m→Bas col (b T).st x k=Bas col (b 0).st x k:=fun x k hk=>by unfold Bas;rw [he k hk]
  have eL : ∀ k,k<m → ∀ j,(b T).L k j=(b 0).L k j:=fun k hk j=>by
   rw [(G T (Nat.le_refl _)).brd.hL k hk,h0.brd.hL k hk]
   exact det_congr fun x y _ hy=>by
    unfold setc
    by_cases e:y=k
    ·rw [if_pos e,if_pos e]
    ·rw [if_neg e,if_neg e,bs x y hy]
  have ed:(b T).d=(b 0).d:=by
   rw [(G T (Nat.le_refl _)).brd.hd,h0.brd.hd]
   exact det_congr fun x y _ hy=>bs x y hy
  have a1 : ∀ τ,τ<T → ∀ k,(b (τ+1)).st k<0→(b τ).st k<0:=fun τ h k z=>by
   rw [(hs τ h).st] at z
   by_cases e:k=rs τ
   ·have z':(if k=rs τ then (cs τ:Int) else (b τ).st k)<0:=z
    rw [if_pos e] at z';omega
   ·have z':(if k=rs τ then (cs τ:Int) else (b τ).st k)<0:=z
    rw [if_neg e] at z';exact z'
  have a2 : ∀ i τ,τ+i≤T → ∀ k,(b (τ+i)).st k<0→(b τ).st k<0:=fun i=>by
   induction i with
   | zero=>exact fun τ _ k z=>z
   | succ i ih=>exact fun τ h k z=>ih τ (by omega) k (a1 (τ+i) (by omega) k z)
  have art : ∀ τ,τ≤T → ∀ k,k<m→((b τ).st k<0↔(b 0).st k<0):=fun τ h k hk=>by
   constructor
   ·intro z
    have:=a2 τ 0 (by omega) k (by rw [Nat.zero_add];exact z)
    exact this
   ·intro z
    rw [← he k hk] at z
    exact a2 (T-τ) τ (by omega) k (by rw [show τ+(T-τ)=T by omega];exact z)
  have rn : ∀ τ,τ<T → ¬ (b τ).st (rs τ)<0:=fun τ h z=>by
   have z1:=(art τ (by omega) _ (hs τ h).r1).mp z
   have z2:=(art (τ+1) (by omega) _ (hs τ h).r1).mpr z1
   rw [(hs τ h).st] at z2
   have z3:(if rs τ=rs τ then (cs τ:Int) else (b τ).st (rs τ))<0:=z2
   rw [if_pos rfl] at z3;omega
  have lk : ∀ τ,τ<T → ∀ j,(b τ).d*lack m (b (τ+1)) j=lack m (b τ) j*(b τ).L (rs τ) (cs τ)-lack m (b τ) (cs τ)*(b τ).L (rs τ) j:=fun τ h j=>by
   have nx:=((G τ (by omega)).next (hs τ h)).2
   have e1:(b τ).d*lack m (b (τ+1)) j=sumN m fun k=>(b τ).L (rs τ) (cs τ)*(if (b τ).st k<0 then (b τ).L k j else 0)+(- (b τ).L (rs τ) j)*(if (b τ).st k<0 then (b τ).L k (cs τ) else 0):=by
    unfold lack
    rw [← sumN_mul]
    refine sumN_congr fun k hk=>?_
    by_cases q:(b τ).st k<0
    ·have q2:(b (τ+1)).st k<0:=(art (τ+1) (by omega) k hk).mpr ((art τ (by omega) k hk).mp q)
     rw [if_pos q2,if_pos q,if_pos q,nx k hk (fun z=>rn τ h (z ▸ q)) j];grind
    ·have q2 : ¬ (b (τ+1)).st k<0:=fun z=>q (a1 τ h k z)
     rw [if_neg q2,if_neg q,if_neg q];grind
   rw [e1,sumN_lin]
   unfold lack
   grind
  have dp : ∀ τ,τ≤T→0<(b τ).d:=fun τ h=>(G τ h).brd.pos
  have mono : ∀ τ,τ≤T→lack m (b τ) (n+m)*(b 0).d≤lack m (b 0) (n+m)*(b τ).d∧((∃ σ,σ<τ∧0<(b σ).L (rs σ) (n+m))→lack m (b τ) (n+m)*(b 0).d<lack m (b 0) (n+m)*(b τ).d):=fun τ=>by
   induction τ with
   | zero=>exact fun _=>⟨Int.le_refl _,fun xx165=>by obtain ⟨σ,h,_⟩:=xx165;exact absurd h (by omega)⟩
   | succ τ ih =>
    intro h
    obtain ⟨i1,i2⟩:=ih (by omega)
    have s:=hs τ (by omega)
    have e:=lk τ (by omega) (n+m)
    rw [← s.d] at e
    have d0:=dp 0 (by omega)
    have d1:=dp τ (by omega)
    have d2:=dp (τ+1) h
    have r0:=(G τ (by omega)).sum (rs τ) s.r1
    have w0:0≤lack m (b τ) (cs τ)*(b τ).L (rs τ) (n+m):=Int.mul_nonneg (by have:=s.c2;omega) r0
    have key:(b τ).d*(lack m (b (τ+1)) (n+m)*(b 0).d)=(lack m (b τ) (n+m)*(b 0).d)*(b (τ+1)).d-(lack m (b τ) (cs τ)*(b τ).L (rs τ) (n+m))*(b 0).d:=by
     rw [← Int.mul_assoc,e];grind
    have up:(lack m (b τ) (n+m)*(b 0).d)*(b (τ+1)).d≤(lack m (b 0) (n+m)*(b τ).d)*(b (τ+1)).d:=Int.mul_le_mul_of_nonneg_right i1 (by omega)
    have re:(lack m (b 0) (n+m)*(b τ).d)*(b (τ+1)).d=(b τ).d*(lack m (b 0) (n+m)*(b (τ+1)).d):=by grind
    have w1:0≤(lack m (b τ) (cs τ)*(b τ).L (rs τ) (n+m))*(b 0).d:=Int.mul_nonneg w0 (by omega)
    refine ⟨Int.le_of_mul_le_mul_left (a:=(b τ).d) (by omega) d1,fun ⟨σ,h1,h2⟩=>Int.lt_of_mul_lt_mul_left (a:=(b τ).d) ?_ (by omega)⟩
    by_cases q:σ=τ
    ·subst q
     have:0<(lack m (b σ) (cs σ)*(b σ).L (rs σ) (n+m))*(b 0).d:=Int.mul_pos (Int.mul_pos s.c2 h2) d0
     omega
    ·have:=Int.mul_lt_mul_of_pos_right (i2 ⟨σ,by omega,h2⟩) d2
     omega
  have deg : ∀ τ,τ<T→(b τ).L (rs τ) (n+m)=0:=fun τ h=>by
   have r0:=(G τ (by omega)).sum (rs τ) (hs τ h).r1
   by_cases q:0<(b τ).L (rs τ) (n+m)
   ·have z:=(mono T (Nat.le_refl _)).2 ⟨τ,h,q⟩
    have e1:lack m (b T) (n+m)=lack m (b 0) (n+m):=sumN_congr fun k hk=>by rw [he k hk,eL k hk]
    rw [e1,ed] at z
    exact (Int.lt_irrefl _ z).elim
   ·omega
  have zr : ∀ (j:Int) τ,τ<T→(∀ k,k<m→(b τ).st k=j→(b τ).L k (n+m)=0) → ∀ k,k<m→(b (τ+1)).st k=j→(b (τ+1)).L k (n+m)=0:=fun j τ h z k hk e=>by
   have nx:=((G τ (by omega)).next (hs τ h)).2
   by_cases q:k=rs τ
   ·rw [(hs τ h).L]
    unfold piv
    rw [if_pos q];exact deg τ h
   ·have e':(b τ).st k=j:=by
     rw [(hs τ h).st] at e
     have e2:(if k=rs τ then (cs τ:Int) else (b τ).st k)=j:=e
     rw [if_neg q] at e2;exact e2
    have w:=nx k hk q (n+m)
    rw [z k hk e',deg τ h,Int.zero_mul,Int.mul_zero] at w
    have d1:=dp τ (by omega)
    rcases Int.mul_eq_zero.mp (show (b τ).d*(b (τ+1)).L k (n+m)=0 by omega) with g|g
    ·omega
    ·exact g
  have zr2 : ∀ (j:Int) i τ,τ+i≤T→(∀ k,k<m→(b τ).st k=j→(b τ).L k (n+m)=0) → ∀ k,k<m→(b (τ+i)).st k=j→(b (τ+i)).L k (n+m)=0:=fun j i=>by
   induction i with
   | zero=>exact fun τ _ z=>z
   | succ i ih=>exact fun τ h z=>zr j (τ+i) (by omega) (ih τ (by omega) z)
  have zero : ∀ (j:Int) α β,α≤T→β≤T→(∀ k,k<m→(b β).st k≠j) → ∀ k,k<m→(b α).st k=j→(b α).L k (n+m)=0:=fun j α β ha hb z k hk e=>by
   have z0 : ∀ k,k<m→(b β).st k=j→(b β).L k (n+m)=0:=fun k hk e=>(z k hk e).elim
   have zT : ∀ k,k<m→(b T).st k=j→(b T).L k (n+m)=0:=by
    have:=zr2 j (T-β) β (by omega) z0
    rw [show β+(T-β)=T by omega] at this;exact this
   have zs : ∀ k,k<m→(b 0).st k=j→(b 0).L k (n+m)=0:=fun k hk e=>by rw [← eL k hk];exact zT k hk (by rw [he k hk];exact e)
   have:=zr2 j α 0 (by omega) zs
   rw [Nat.zero_add] at this
   exact this k hk e
  obtain ⟨β,hβ,hmax⟩:=max_of cs hT
  let Q:Nat→Nat→Prop:=fun j τ => ∃ k,k<m∧(b τ).st k=(j:Int)
  have QT : ∀ j,Q j T↔Q j 0:=fun j=>⟨fun xx163=>by obtain ⟨k,hk,e⟩:=xx163;exact ⟨k,hk,by rw [← he k hk];exact e⟩,fun xx162=>by obtain ⟨k,hk,e⟩:=xx162;exact ⟨k,hk,by rw [he k hk];exact e⟩⟩
  have inn : ∀ j τ,τ<T → ¬ Q j τ→Q j (τ+1)→cs τ=j:=fun j τ h h1 xx161=>by
   obtain ⟨k,hk,e⟩:=xx161
   rw [(hs τ h).st] at e
   have e2:(if k=rs τ then (cs τ:Int) else (b τ).st k)=j:=e
   by_cases q:k=rs τ
   ·rw [if_pos q] at e2;omega
   ·rw [if_neg q] at e2;exact (h1 ⟨k,hk,e2⟩).elim
  have nb : ∀ τ,τ≤T → ∀ j,lack m (b τ) j≠0 → ¬ Q j τ:=fun τ h j z xx160=>by obtain ⟨k,hk,e⟩:=xx160;exact z ((G τ h).lack0 hk e)
  have tn : ¬ Q (cs β) β:=nb β (by omega) _ (by have:=(hs β hβ).c2;omega)
  have tb:Q (cs β) (β+1):=⟨rs β,(hs β hβ).r1,by rw [(hs β hβ).st];exact if_pos rfl⟩
  obtain ⟨α,hα,o1,o2⟩:=up_round (Q:=fun τ => ¬ Q (cs β) τ) (T:=T) (a:=β+1) (b:=β) (by rw [QT]) (by omega) (by omega) (fun z=>z tb) tn
  have o1:Q (cs β) α:=Classical.byContradiction o1
  obtain ⟨k0,hk0,ek0⟩:=o1
  have er:k0=rs α:=by
   by_cases q:k0=rs α
   ·exact q
   ·refine (o2 ⟨k0,hk0,?_⟩).elim
    rw [(hs α hα).st]
    show (if k0=rs α then (cs α:Int) else (b α).st k0)=_
    rw [if_neg q];exact ek0
  subst er
  have e1:cs α≤cs β:=hmax α hα
  have e2:cs α≠cs β:=fun z=>nb α (by omega) (cs α) (by have:=(hs α hα).c2;omega) ⟨rs α,hk0,by rw [ek0,z]⟩
  have id:=lack_id (G α (by omega)) (G β (by omega)) (fun k hk=>(art α (by omega) k hk).trans (art β (by omega) k hk).symm) (cs α)
  have p1:0<(b β).d*lack m (b α) (cs α):=Int.mul_pos (dp β (by omega)) (hs α hα).c2
  have p2:(b α).d*lack m (b β) (cs α)≤0:=Int.mul_nonpos_of_nonneg_of_nonpos (by have:=dp α (by omega);omega) ((hs β hβ).c3 (cs α) (by omega))
  obtain ⟨k,hk,hneg⟩:=sumN_neg (show (sumN m fun k=>if (b α).st k<0 then 0 else (b α).L k (cs α)*lack m (b β) ((b α).st k).toNat)<0 by omega)
  by_cases q:(b α).st k<0
  ·rw [if_pos q] at hneg;omega
  ·rw [if_neg q] at hneg
   obtain ⟨j,ej⟩ : ∃ j:Nat,(b α).st k=(j:Int):=⟨((b α).st k).toNat,by omega⟩
   rw [ej] at hneg
   have hneg:(b α).L k (cs α)*lack m (b β) j<0:=hneg
   have jl:lack m (b β) j≠0:=fun z=>by rw [z,Int.mul_zero] at hneg;omega
   have jn:=nb β (by omega) j jl
   obtain ⟨τ,hτ,u1,u2⟩:=up_round (Q:=Q j) (T:=T) (a:=β) (b:=α) (QT j) (by omega) (by omega) jn ⟨k,hk,ej⟩
   have jle:j≤cs β:=by rw [← inn j τ hτ u1 u2];exact hmax τ hτ
   by_cases jt:j=cs β
   ·subst jt
    have ek:k=rs α:=by
     by_cases g:k=rs α
     ·exact g
     ·have w:=(G α (by omega)).basic hk ej hk
      have w2:=(G α (by omega)).basic hk0 ek0 hk
      rw [if_pos rfl] at w
      rw [if_neg g,w] at w2
      have:=dp α (by omega);omega
    subst ek
    have:=Int.mul_pos (hs α hα).r2 (hs β hβ).c2
    omega
   ·have c3:=(hs β hβ).c3 j (by omega)
    have lp:0<(b α).L k (cs α):=by
     rcases Int.lt_trichotomy 0 ((b α).L k (cs α)) with g|g|g
     ·exact g
     ·rw [← g,Int.zero_mul] at hneg;omega
     ·have:=Int.mul_nonneg_of_nonpos_of_nonpos (Int.le_of_lt g) c3
      omega
    have z1:(b α).L k (n+m)=0:=zero j α β (by omega) (by omega) (fun k' hk' e=>jn ⟨k',hk',e⟩) k hk ej
    have z2:=deg α hα
    have tie:=(hs α hα).r4 k hk lp (by rw [z1,z2,Int.zero_mul,Int.zero_mul])
    rw [ek0,ej] at tie
    omega
theorem zipw_get {α β γ:Type}{g:α→β→γ}{a:List α}{b:List β}{i:Nat}{x:α}{y:β} (h1:a[i]?=some x) (h2:b[i]?=some y):(List.zipWith g a b)[i]?=some (g x y):=by
 rw [List.getElem?_zipWith,h1,h2]
def lackS (Ls:List (List Int)) (ss:List Int) (i j:Nat):Int:=sumN i fun k=>if (ss[k]?).getD 0<0 then at2 Ls k j else 0
def sp_lack (nm:List Str) (fs:List (Str×PyData)) (ds:List PyData) (q:List PyData→Prop):Prop := ∃ (n:Nat) (d:Int) (Ls:List (List Int)) (ss:List Int) (m:Nat),nm=bNm∧fs=bFs n d Ls ss∧ds=[]∧(Bd m (n+m+1) Ls ss∧n≤20∧m≤24)∧q (((List.range (n+m+1)).map (lackS Ls ss m)).map .int)
theorem sc_Board_lack:FnScope ["self","total","line","unknown"] ["self"] (defScope s_Board_lack):=sc0
theorem ok_Board_lack (F:MDef K cs.Board "lack" "Board.lack" s_Board_lack ["self"]) (T:Txt K mg cs)
 : OkM P w K mg base cs.Board "lack" 1 ["self"] (OFSp K cs.Board sp_lack):=by
  refine F.vokF sc_Board_lack (by rintro nm fs ds q ⟨_,_,_,_,_,_,_,h,_⟩;rw [h];rfl) fun f cdv A outer s H E hr a0 nm fs ds q h=>?_
  obtain ⟨n,d,Ls,ss,m,rfl,rfl,rfl,⟨hB,hn,hm⟩,h⟩:=h
  refine ⟨_,(vss_cons (vs_setCO (caps:=[]) (own:=["number"]) (ix:=[]) (i:=1) sc_Board_lack.nd rfl ⟨rfl,rfl,rfl,rfl,rfl,rfl⟩ (vi_range1 T.range_ (ve_op o_add (ve_op o_add (ve_fld 0 T.Board_c T.Board_n_unknowns) (ve_callB c_len T.len_ L2.boot_len (va_cons (ve_fld 0 T.Board_c T.Board_n_lines) va_nil))) ve_int)) (fun _ _ _ _=>(vg_name (i:=0) (show List.Nodup (["number"]:List Str) by decide))) (fun _ _ _ _=>ve_int))
   (vss_cons (vs_for rfl (vi_zip2 T.zip_ (ve_fld 0 T.Board_c T.Board_n_lines) (ve_fld 0 T.Board_c T.Board_n_stands_for)) (vg_tup (n:=2) rfl (vgs_cons (vg_name (i:=2) sc_Board_lack.nd) (vgs_cons (vg_name (i:=3) sc_Board_lack.nd) vgs_nil))) (vss_one (vs_if (vt_cmp o_lt (ve_var 3) ve_int) (vss_fz 1 (vss_one (vs_setCO (caps:=[]) (own:=["one","other"]) (ix:=[]) (i:=1) sc_Board_lack.nd rfl ⟨rfl,rfl,rfl,rfl,rfl,rfl⟩ (vi_zip2 T.zip_ (ve_var 1) (ve_var 2)) (fun _ _ _ _=>(vg_tup (n:=2) rfl (vgs_cons (vg_name (i:=0) (show List.Nodup (["one","other"]:List Str) by decide)) (vgs_cons (vg_name (i:=1) (show List.Nodup (["one","other"]:List Str) by decide)) vgs_nil)))) (fun _ _ _ _=>(ve_op o_add (ve_var 0) (ve_var 1)))))) vss_nil)))
   (vss_one (vs_retO 1)))),?_⟩
  have hlen:(Ls.map dRow).length=m:=by rw [List.length_map,hB.l]
  refine ⟨rfl,_,rfl,rfl,_,rfl,⟨by rw [hlen];omega,by rw [hlen];omega⟩,?_⟩
  have hrl:(rngD 0 ((n:Int)+((Ls.map dRow).length:Nat)+1).toNat).length=n+m+1:=by rw [rngD_len,hlen];omega
  refine ⟨small1000 (by rw [hrl];omega),fun k ys e=>ys=(List.replicate (n+m+1) (.int 0)).take k ∧ ∃ u,e=[u],⟨by simp,_,rfl⟩,?_,?_⟩
  ·rintro i x ys e hx ⟨hys,s,rfl⟩
   obtain ⟨hi,rfl⟩:=rngD_inv hx
   rw [hlen] at hi
   exact ⟨snoc_take (by rw [List.getElem?_replicate,if_pos (by omega)]) hys,_,rfl⟩
  rintro ys e ⟨hys,u,rfl⟩
  rw [hrl,List.take_of_length_le (by rw [List.length_replicate];omega)] at hys
  subst hys
  have nx1 : ∀ i,(ss[i]?).getD 0<0 → ∀ j,lackS Ls ss (i+1) j=lackS Ls ss i j+at2 Ls i j:=fun i a j=>by
   show lackS Ls ss i j+(if _ then _ else _)=_
   rw [if_pos a]
  have nx2 : ∀ i,¬ (ss[i]?).getD 0<0→lackS Ls ss (i+1)=lackS Ls ss i:=fun i a=>by
   funext j
   show lackS Ls ss i j+(if _ then _ else _)=_
   rw [if_neg a];omega
  refine ⟨rfl,_,rfl,rfl,_,rfl,fun i e => ∃ t1 t2 l,e=[.obj a0 cs.Board bNm (bFs n d Ls ss),.own l,t1,t2]∧l=((List.range (n+m+1)).map (lackS Ls ss i)).map .int,⟨_,_,_,rfl,?_⟩,?_,?_⟩
  ·refine (List.eq_replicate_iff.mpr ⟨by simp,fun x hx=>?_⟩).symm
   obtain ⟨y,hy,rfl⟩:=List.mem_map.mp hx
   obtain ⟨j,_,rfl⟩:=List.mem_map.mp hy
   rfl
  ·rintro i x e hx ⟨t1,t2,l,rfl,rfl⟩
   obtain ⟨x,y,h3,h4,rfl⟩:=zipD_inv hx
   obtain ⟨u,rfl,hu,_⟩:=int_get h4
   obtain ⟨r,er,rfl⟩ : ∃ r,Ls[i]?=some r∧dRow r=x:=by
    rw [List.getElem?_map] at h3
    cases q:Ls[i]? with
    | none=>rw [q] at h3;cases h3
    | some r=>rw [q] at h3;exact ⟨r,rfl,Option.some.inj h3⟩
   have es:(ss[i]?).getD 0=u:=by rw [hu];rfl
   have lr:r.length=n+m+1:=hB.w r (List.mem_of_getElem? er)
   refine ⟨rfl,rfl,iteD (fun a=>?_) (fun a=>?_)⟩
   ·have hzl:(zipD (((List.range (n+m+1)).map (lackS Ls ss i)).map .int) (r.map .int)).length=n+m+1:=by rw [zipD_len];simp;omega
    refine ⟨small1000 (by rw [hzl];omega),fun k ys e=>ys=((((List.range (n+m+1)).map (lackS Ls ss (i+1))).map PyData.int)).take k ∧ ∃ s t,e=[s,t],⟨by simp,_,_,rfl⟩,?_,?_⟩
    rotate_left
    ·rintro ys e ⟨hys,s,t,rfl⟩
     rw [hzl,List.take_of_length_le (by simp)] at hys
     exact ⟨_,_,_,rfl,hys⟩
    rintro j z ys e hz ⟨hys,s,t,rfl⟩
    obtain ⟨x,y,h5,h6,rfl⟩:=zipD_inv hz
    obtain ⟨x,rfl,h5,_⟩:=int_get h5
    obtain ⟨y,rfl,h6,_⟩:=int_get h6
    have hj:j<n+m+1:=by rw [← lr];exact (List.getElem?_eq_some_iff.mp h6).1
    have e1:x=lackS Ls ss i j:=by
     rw [List.getElem?_map,List.getElem?_range hj] at h5
     exact (Option.some.inj h5).symm
    have e2:y=at2 Ls i j:=by
     have:=(hB.at er hj).1
     rw [h6] at this
     exact Option.some.inj this
    refine ⟨rfl,rfl,snoc_take ?_ hys,_,_,rfl⟩
    rw [List.getElem?_map,List.getElem?_map,List.getElem?_range hj,e1,e2]
    show some (PyData.int (lackS Ls ss (i+1) j))=_
    rw [nx1 i (by rw [es];exact a) j]
   ·exact ⟨_,_,_,rfl,by rw [nx2 i (by rw [es];exact a)]⟩
  ·rintro e ⟨t1,t2,l,rfl,rfl⟩
   rw [zipD_len,hlen,List.length_map,hB.s,Nat.min_self]
   exact ⟨_,rfl,h⟩
def sp_is_tighter (nm:List Str) (fs:List (Str×PyData)) (ds:List PyData) (q:PyData→Prop):Prop := ∃ (n d:Int) (Ls:List (List Int)) (ss:List Int) (m w k c p:Nat),nm=bNm∧fs=bFs n d Ls ss∧ds=[.int k,.int c,.int p]∧(Bd m w Ls ss∧k<m∧c<m∧p<w)∧q (.bool (tightB Ls ss w k c p))
theorem sc_Board_is_tighter:FnScope ["self","k","chosen","place","one","other"] ["self","k","chosen","place"] (defScope s_Board_is_tighter):=sc0
theorem ok_Board_is_tighter (F:MDef K cs.Board "is_tighter" "Board.is_tighter" s_Board_is_tighter ["self","k","chosen","place"]) (T:Txt K mg cs)
 : OkM P w K mg base cs.Board "is_tighter" 1 ["self","k","chosen","place"] (OSp K cs.Board sp_is_tighter):=by
  refine F.vok sc_Board_is_tighter (by rintro nm fs ds q ⟨_,_,_,_,_,_,_,_,_,_,_,h,_⟩;rw [h];rfl) fun f cdv A outer s H E hr a0 nm fs ds q h=>?_
  obtain ⟨n,d,Ls,ss,m,w,k,c,p,rfl,rfl,rfl,⟨hB,hk,hc,hp⟩,h⟩:=h
  refine ⟨_,(vss_cons (vs_set (i:=4) sc_Board_is_tighter.nd (ve_op o_mulI (ve_ix (ve_ix (ve_fld 0 T.Board_c T.Board_n_lines) (ve_var 1)) (ve_neg ve_int)) (ve_ix (ve_ix (ve_fld 0 T.Board_c T.Board_n_lines) (ve_var 2)) (ve_var 3))))
   (vss_cons (vs_set (i:=5) sc_Board_is_tighter.nd (ve_op o_mulI (ve_ix (ve_ix (ve_fld 0 T.Board_c T.Board_n_lines) (ve_var 2)) (ve_neg ve_int)) (ve_ix (ve_ix (ve_fld 0 T.Board_c T.Board_n_lines) (ve_var 1)) (ve_var 3))))
   (vss_one (vs_ret (ve_or (ve_cmp o_lt (ve_var 4) (ve_var 5)) (ve_one (ve_and (ve_cmp (o_eq hr.units) (ve_var 4) (ve_var 5)) (ve_one (ve_cmp o_lt (ve_ix (ve_fld 0 T.Board_c T.Board_n_stands_for) (ve_var 1)) (ve_ix (ve_fld 0 T.Board_c T.Board_n_stands_for) (ve_var 2))))))))))),?_⟩
  obtain ⟨r,er,ar,lr⟩:=hB.row (k:=(k:Int)) (by omega) (by omega)
  obtain ⟨t,et,at',lt⟩:=hB.row (k:=(c:Int)) (by omega) (by omega)
  have er:Ls[k]?=some r:=er
  have et:Ls[c]?=some t:=et
  obtain ⟨r1,r2⟩:=hB.at er (j:=w-1) (by omega)
  obtain ⟨r3,r4⟩:=hB.at er hp
  obtain ⟨t1,t2⟩:=hB.at et (j:=w-1) (by omega)
  obtain ⟨t3,t4⟩:=hB.at et hp
  have gi : ∀ {l:List Int}{j:Nat}{x:Int},l[j]?=some x→(l.map PyData.int)[j]?=some (.int x):=fun e=>by rw [List.getElem?_map,e];rfl
  have hs:=hB.s
  have sk:ss[k]?=some ((ss[k]?).getD 0):=by rw [List.getElem?_eq_getElem (by omega)];rfl
  have sc:ss[c]?=some ((ss[c]?).getD 0):=by rw [List.getElem?_eq_getElem (by omega)];rfl
  refine ⟨rfl,_,rfl,_,ar,.int (at2 Ls k (w-1)),atI_last (by rw [List.length_map,lr];exact gi r1),rfl,_,rfl,_,at',_,atI_nat (gi t3),mulok (bits_up r2 (by decide)) (bits_up t4 (by decide)),?_⟩
  refine ⟨rfl,_,rfl,_,at',.int (at2 Ls c (w-1)),atI_last (by rw [List.length_map,lt];exact gi t1),rfl,_,rfl,_,ar,_,atI_nat (gi r3),mulok (bits_up t2 (by decide)) (bits_up r4 (by decide)),?_⟩
  have hq : ∀ b:Bool,b=tightB Ls ss w k c p→q (.bool b):=fun b e=>by rw [e];exact h
  refine iteD (fun a=>hq _ ?_) (fun a=>?_)
  ·unfold tightB;rw [decide_eq_true a];rfl
  ·have af:decide (at2 Ls k (w-1)*at2 Ls c p<at2 Ls c (w-1)*at2 Ls k p)=false:=decide_eq_false a
   refine ⟨rfl,rfl,ite_eq (fun e=>?_) (fun e=>hq _ ?_)⟩
   ·refine ⟨rfl,_,rfl,_,atI_nat (gi sk),rfl,_,rfl,_,atI_nat (gi sc),hq _ ?_⟩
    unfold tightB;rw [af,decide_eq_true e];rfl
   ·unfold tightB;rw [af,decide_eq_false e];rfl
def sp_tightest (nm:List Str) (fs:List (Str×PyData)) (ds:List PyData) (q:PyData→Prop):Prop := ∃ (n d:Int) (Ls:List (List Int)) (ss:List Int) (m w p:Nat),nm=bNm∧fs=bFs n d Ls ss∧ds=[.int p]∧(Bd m w Ls ss∧p<w∧m≤900 ∧ ∃ k,k<m∧0<at2 Ls k p) ∧ ∀ r,r<m→Tg Ls ss w p m r→q (.int r)
def TgI (Ls:List (List Int)) (ss:List Int) (w p i:Nat) (c:PyData):Prop:=(c = .none ∧ ∀ k,k<i → ¬ 0<at2 Ls k p) ∨ ∃ r:Nat,c = .int r∧r<i∧Tg Ls ss w p i r
theorem sc_Board_tightest:FnScope ["self","place","chosen","k","line"] ["self","place"] (defScope s_Board_tightest):=sc0
theorem ok_Board_tightest (F:MDef K cs.Board "tightest" "Board.tightest" s_Board_tightest ["self","place"]) (T:Txt K mg cs)
 (O_Board_is_tighter:OkM P w K mg base cs.Board "is_tighter" 1 ["self","k","chosen","place"] (OSp K cs.Board sp_is_tighter))
 : OkM P w K mg base cs.Board "tightest" 2 ["self","place"] (OSp K cs.Board sp_tightest):=by
  refine F.vok sc_Board_tightest (by rintro nm fs ds q ⟨_,_,_,_,_,_,_,_,_,h,_⟩;rw [h];rfl) fun f cdv A outer s H E hr a0 nm fs ds q h=>?_
  obtain ⟨n,d,Ls,ss,m,w,p,rfl,rfl,rfl,⟨hB,hp,hm,k0,hk0,z0⟩,h⟩:=h
  refine ⟨_,(vss_cons (vs_set (i:=2) sc_Board_tightest.nd ve_non)
   (vss_cons (vs_for rfl (vi_enum T.enumerate_ (ve_fld 0 T.Board_c T.Board_n_lines)) (vg_tup (n:=2) rfl (vgs_cons (vg_name (i:=3) sc_Board_tightest.nd) (vgs_cons (vg_name (i:=4) sc_Board_tightest.nd) vgs_nil))) (vss_one (vs_if (VW.pt (vw_and (vt_cmp o_gt (ve_ix (ve_var 4) (ve_var 1)) ve_int) (vw_and1 (VW.pt (vw_or (vt_cmp o_isN (ve_var 2) ve_non) (vw_or1 (vt_val (ve_meth 0 O_Board_is_tighter T.Board_c (hr.mono (by decide)) (va_cons (ve_var 3) (va_cons (ve_var 2) (va_cons (ve_var 1) va_nil))))))))))) (vss_one (vs_set (i:=2) sc_Board_tightest.nd (ve_var 3))) vss_nil)))
   (vss_one (vs_ret (ve_var 2))))),?_⟩
  refine ⟨rfl,_,rfl,fun i e => ∃ t1 t2 c,e=[.obj a0 cs.Board bNm (bFs n d Ls ss),.val (.int p),.val c,t1,t2]∧TgI Ls ss w p i c,⟨_,_,_,rfl,.inl ⟨rfl,fun k hk=>by omega⟩⟩,?_,?_⟩
  ·rintro i x e hx ⟨t1,t2,c,rfl,hI⟩
   obtain ⟨x,hx',rfl⟩:=enumD_inv hx
   clear hx
   obtain ⟨r,er,rfl⟩ : ∃ r,Ls[i]?=some r∧dRow r=x:=by
    rw [List.getElem?_map] at hx'
    cases q:Ls[i]? with
    | none=>rw [q] at hx';cases hx'
    | some r=>rw [q] at hx';exact ⟨r,rfl,Option.some.inj hx'⟩
   have him:i<m:=by rw [← hB.l];exact (List.getElem?_eq_some_iff.mp er).1
   obtain ⟨r3,_⟩:=hB.at er hp
   refine ⟨rfl,rfl,_,atI_nat (by rw [List.getElem?_map,r3];rfl),?_⟩
   refine iteD (fun a=>?_) (fun a=>?_)
   ·rcases hI with ⟨rfl,z⟩|⟨r',rfl,hr',ht⟩
    ·exact ⟨rfl,_,_,_,rfl,.inr ⟨i,rfl,by omega,Tg.first z a⟩⟩
    ·refine ⟨rfl,rfl,rfl,rfl,n,d,Ls,ss,m,w,i,r',p,rfl,rfl,rfl,⟨hB,him,by omega,hp⟩,iteB (fun t=>?_) (fun t=>?_)⟩
     ·exact ⟨_,_,_,rfl,.inr ⟨i,rfl,by omega,ht.take a t⟩⟩
     ·exact ⟨_,_,_,rfl,.inr ⟨r',rfl,by omega,ht.stay t⟩⟩
   ·refine ⟨_,_,_,rfl,?_⟩
    rcases hI with ⟨rfl,z⟩|⟨r',rfl,hr',ht⟩
    ·exact .inl ⟨rfl,fun k hk=>by
      by_cases e:k=i
      ·subst e;exact a
      ·exact z k (by omega)⟩
    ·exact .inr ⟨r',rfl,by omega,ht.skip a⟩
  ·rintro e ⟨t1,t2,c,rfl,hI⟩
   rw [enumD_len,List.length_map,hB.l] at hI
   rcases hI with ⟨_,z⟩|⟨r,rfl,hr',ht⟩
   ·exact (z k0 hk0 z0).elim
   ·exact h r hr' ht
def clrI (r t:List Int) (p:Nat) (d:Int):List Int:=List.zipWith (fun x y=>(x*(t[p]?).getD 0-(r[p]?).getD 0*y)/d) r t
def sp_cleared (ds:List PyData) (q:List PyData→Prop):Prop := ∃ (r t:List Int) (p:Nat) (d:Int),ds=[.list (r.map .int),.list (t.map .int),.int p,.int d]∧(r.length=t.length∧p<r.length∧r.length≤900∧0<d∧intBits d≤2000∧(∀ x ∈ r,intBits x≤2000) ∧ ∀ x ∈ t,intBits x≤2000)∧q ((clrI r t p d).map .int)
theorem sc_cleared:FnScope ["line","pivot","place","bottom"] ["line","pivot","place","bottom"] (defScope s_cleared):=sc0
theorem ok_cleared (F:Def K mg "cleared" s_cleared ["line","pivot","place","bottom"]) (T:Txt K mg cs)
 : Ok P w K mg base "cleared" 1 ["line","pivot","place","bottom"] (FSp K sp_cleared):=by
  refine F.vokF sc_cleared (by rintro ds q ⟨_,_,_,_,h,_⟩;rw [h];rfl) fun f cdv A outer s H E hr ds q h=>?_
  obtain ⟨r,t,p,d,rfl,⟨hl,hp,hz,d0,d1,zr,zt⟩,h⟩:=h
  refine ⟨_,(vss_one (vs_retF (vf_comp (caps:=["line","pivot","place","bottom"]) (own:=["one","other"]) (ix:=[0,1,2,3]) rfl ⟨rfl,rfl,rfl,rfl,rfl,rfl⟩ (vi_zip2 T.zip_ (ve_var 0) (ve_var 1)) (fun _ _ _ _=>(vg_tup (n:=2) rfl (vgs_cons (vg_name (i:=4) (show List.Nodup (["line","pivot","place","bottom","one","other"]:List Str) by decide)) (vgs_cons (vg_name (i:=5) (show List.Nodup (["line","pivot","place","bottom","one","other"]:List Str) by decide)) vgs_nil)))) (fun _ _ _ _=>(ve_op o_div (ve_op o_sub (ve_op o_mulI (ve_var 4) (ve_ix (ve_var 1) (ve_var 2))) (ve_op o_mulI (ve_ix (ve_var 0) (ve_var 2)) (ve_var 5))) (ve_var 3)))))),?_⟩
  have er:r[p]?=some ((r[p]?).getD 0):=by rw [List.getElem?_eq_getElem hp];rfl
  have et:t[p]?=some ((t[p]?).getD 0):=by rw [List.getElem?_eq_getElem (by omega)];rfl
  have z1:=zr _ (List.mem_of_getElem? er)
  have z2:=zt _ (List.mem_of_getElem? et)
  refine comp_by ((clrI r t p d).map .int) (by rw [zipD_len];simp [clrI]) (small1000 (by simp [clrI];omega)) (fun e => ∃ s u,e=[.val (.list (r.map .int)),.val (.list (t.map .int)),.val (.int p),.val (.int d),s,u]) ⟨_,_,rfl⟩ ?_ ⟨_,rfl,h⟩
  rintro i x ys e hx hys ⟨s,u,rfl⟩
  obtain ⟨x,y,h3,h4,rfl⟩:=zipD_inv hx
  obtain ⟨x,rfl,h3,m3⟩:=int_get h3
  obtain ⟨y,rfl,h4,m4⟩:=int_get h4
  refine ⟨rfl,rfl,.int ((t[p]?).getD 0),atI_nat (by rw [List.getElem?_map,et];rfl),mulok (bits_up (zr x m3) (by decide)) (bits_up z2 (by decide)),.int ((r[p]?).getD 0),atI_nat (by rw [List.getElem?_map,er];rfl),mulok (bits_up z1 (by decide)) (bits_up (zt y m4) (by decide)),⟨d0,bits_up d1 (by decide)⟩,snoc_take ?_ hys,_,_,rfl⟩
  unfold clrI
  rw [List.getElem?_map,zipw_get h3 h4];rfl
def newL (Ls:List (List Int)) (r p:Nat) (d:Int):List (List Int):=Ls.mapIdx fun k line=>if k=r then line else clrI line ((Ls[r]?).getD []) p d
structure BrPre (n:Nat) (d:Int) (Ls:List (List Int)) (ss:List Int) (m p:Nat):Prop where
 b:Bd m (n+m+1) Ls ss
 hp:p<n
 hm:m≤24
 hn:n≤20
 d0:0<d
 d1:intBits d≤2000
 hk : ∃ k,k<m∧0<at2 Ls k p
def bringSp (K:PySem.W.Frag) (C:Addr):Sp:=fun vs H Q _ => ∃ (a dx qa:Addr) (F:Hp) (vl:V) (n:Nat) (d:Int) (Ls:List (List Int)) (ss:List Int) (m p:Nat),vs=[.ref a,.int p]∧BAt K C H F a dx qa n d Ls ss vl∧Same F H∧BrPre n d Ls ss m p ∧
 ∀ F' H' vl' r,r<m→Tg Ls ss (n+m+1) p m r→GoX a qa F H F' H'→BAt K C H' F' a dx qa n (at2 Ls r p) (newL Ls r p d) (ss.set r p) vl'→Q .non H'
theorem sc_Board_bring_in:FnScope ["self","place","turn","pivot","bottom"] ["self","place"] (defScope s_Board_bring_in):=sc0
theorem ok_Board_bring_in (F:MDef K cs.Board "bring_in" "Board.bring_in" s_Board_bring_in ["self","place"]) (T:Txt K mg cs)
 (O_Board_tightest:OkM P w K mg base cs.Board "tightest" 2 ["self","place"] (OSp K cs.Board sp_tightest))
 (O_cleared:Ok P w K mg base "cleared" 1 ["line","pivot","place","bottom"] (FSp K sp_cleared))
 : OkM P w K mg base cs.Board "bring_in" 3 ["self","place"] (bringSp K cs.Board):=by
  obtain ⟨f,fd,Fn,hm,hb⟩:=F.ex
  refine ⟨f,fd,Fn.ok sc_Board_bring_in (by rintro vs H Q E ⟨_,_,_,_,_,_,_,_,_,_,_,h,_⟩;rw [h];rfl) fun cdv A outer s H vs Q E hr h=>?_,hm,hb⟩
  obtain ⟨a,dx,qa,F0,vl,n,d,Ls,ss,m,p,rfl,hA,sm,hp,kk⟩:=h
  obtain ⟨f1,fd1,F1,hm1,hb1⟩:=O_Board_tightest.ex
  refine ⟨_,pss_cons (ps_set (i:=2) sc_Board_bring_in.nd rfl (by first|exact Or.inl rfl|exact Or.inr rfl) (pe_meth (pv 0) T.Board_c hm1 F1 (hr.mono (by decide)) hb1 .nil pass0 (pa_cons (pv 1) pa_nil)) rfl (by first|exact .inl rfl|exact .inr rfl))
   (pss_cons (ps_set (i:=3) sc_Board_bring_in.nd rfl (by first|exact Or.inl rfl|exact Or.inr rfl) (pe_ix ix_list (pe_fld (pv 0) rfl) (pv 2) (fun _ _=>rfl)) rfl (by first|exact .inl rfl|exact .inr rfl))
   (pss_cons (ps_set (i:=4) sc_Board_bring_in.nd rfl (by first|exact Or.inl rfl|exact Or.inr rfl) (pe_fld (pv 0) rfl) rfl (by first|exact .inl rfl|exact .inr rfl))
   (pss_cons (ps_fld (pv 0) (VE.pe (vf_fz (vf_comp (caps:=["place","turn","pivot","bottom"]) (own:=["k","line"]) (ix:=[1,2,3,4]) rfl ⟨rfl,rfl,rfl,rfl,rfl,rfl⟩ (vi_enum T.enumerate_ (ve_fld 0 T.Board_c T.Board_n_lines)) (fun _ _ _ _=>(vg_tup (n:=2) rfl (vgs_cons (vg_name (i:=4) (show List.Nodup (["place","turn","pivot","bottom","k","line"]:List Str) by decide)) (vgs_cons (vg_name (i:=5) (show List.Nodup (["place","turn","pivot","bottom","k","line"]:List Str) by decide)) vgs_nil)))) (fun _ _ _ _=>(ve_ifExp (vt_cmp (o_eq hr.units) (ve_var 4) (ve_var 1)) (ve_var 5) (vf_fz (vf_fn O_cleared.c (hr.mono (by decide)) (va_cons (ve_var 5) (va_cons (ve_var 2) (va_cons (ve_var 0) (va_cons (ve_var 3) va_nil))))))))))) rfl)
   (pss_cons (ps_asg (pv 1) (pg_sub (pe_fld (pv 0) rfl) (pv 2) set_list (by intro _;rfl)) rfl rfl rfl)
   (pss_one (ps_fld (pv 0) (pe_ix ix_list (pv 3) (pv 1) (fun _ _=>rfl)) rfl)))))),?_⟩
  have hB:=hp.b
  have p0:=hp.hp
  have sF1:Same (upd F0 qa (.lst (ss.map V.int))) H:=same_upd sm hA.hq
  refine ⟨.ref a,rfl,a,dx,_,rfl,hA.ha,rfl,.int p,rfl,a,dx,_,[.int p],_,bNm,bFs n d Ls ss,[.int p],fun dd => ∃ r:Nat,r<m∧Tg Ls ss (n+m+1) p m r∧dd = .int r,rfl,hA.ha,sF1,hA.flds,iss_cons (is_int _) iss_nil,
   ⟨n,d,Ls,ss,m,n+m+1,p,rfl,rfl,rfl,⟨hB,by omega,by have:=hp.hm;omega,hp.hk⟩,fun r h1 h2=>⟨r,h1,h2,rfl⟩⟩,fun dd v F2 H2 g i2 q2=>?_⟩
  obtain ⟨r,hr',ht,rfl⟩:=q2
  have ev:=i2.int_inv
  subst ev
  have sH:Same H H2:=g.h
  have sF0:Same F0 H2:=sm.trans sH
  obtain ⟨la,xs,rfl,hsq,hxs⟩:=hA.hl.lst_inv
  obtain ⟨t,et,_,lt⟩:=hB.row (k:=(r:Int)) (by omega) (by omega)
  have et:Ls[r]?=some t:=et
  obtain ⟨xr,exr,ixr⟩:=hxs.get (i:=r) (d:=dRow t) (by rw [List.getElem?_map,et];rfl)
  refine ⟨.ref a,rfl,a,cs.Board,dx,_,.ref la,rfl,sH.at hA.ha,T.Board_c,T.Board_n_lines,rfl,.int r,rfl,la,xs,r,xr,rfl,rfl,sF0.seq hsq,atI_nat exr,?_⟩
  refine ⟨.ref a,rfl,a,cs.Board,dx,_,.int d,rfl,sH.at hA.ha,T.Board_c,T.Board_n_bottom,rfl,?_⟩
  have A2:BAt K cs.Board H2 F0 a dx qa n d Ls ss (.ref la):=⟨sH.at hA.ha,hA.hl,sH.at hA.hq,hA.fa,hA.fq⟩
  have I4:=env_startO (K:=K) (N:=["self","place","turn","pivot","bottom"]) sF0 A2.ha A2.flds3 (iss_cons (is_int (p:Int)) (iss_cons (is_int (r:Int)) (iss_cons ixr (iss_cons (is_int d) iss_nil))))
  refine ⟨⟨H2,H2,F0⟩,_,F0,fun dd e=>dd = .list ((newL Ls r p d).map dRow),I4,?_,fun dd v F5 H5 e5 I5 s5 i5 q5=>?_⟩
  ·refine ⟨rfl,_,rfl,?_⟩
   have hlen:Ls.length=m:=hB.l
   have hm24:=hp.hm
   refine comp_by ((newL Ls r p d).map dRow) (by rw [enumD_len];simp [newL]) (small1000 (by simp [newL];omega)) (fun e => ∃ s u,e=[.val (.int p),.val (.int r),.val (dRow t),.val (.int d),s,u]) ⟨_,_,rfl⟩ ?_ rfl
   rintro i x ys e hx hys ⟨s,u,rfl⟩
   obtain ⟨x,hx',rfl⟩:=enumD_inv hx
   obtain ⟨l,el,rfl⟩ : ∃ l,Ls[i]?=some l∧dRow l=x:=by
    rw [List.getElem?_map] at hx'
    cases q:Ls[i]? with
    | none=>rw [q] at hx';cases hx'
    | some l=>rw [q] at hx';exact ⟨l,rfl,Option.some.inj hx'⟩
   have ll:=hB.w l (List.mem_of_getElem? el)
   have hn20:=hp.hn
   have ge:((newL Ls r p d).map dRow)[i]?=some (dRow (if i=r then l else clrI l t p d)):=by
    unfold newL
    rw [List.getElem?_map,List.getElem?_mapIdx,el,et];rfl
   refine ⟨rfl,rfl,rfl,rfl,ite_eq (fun e=>⟨snoc_take ?_ hys,_,_,rfl⟩) (fun e=>⟨l,t,p,d,rfl,⟨by omega,by omega,by omega,hp.d0,hp.d1,hB.z l (List.mem_of_getElem? el),hB.z t (List.mem_of_getElem? et)⟩,snoc_take ?_ hys,_,_,rfl⟩)⟩
   ·rw [ge,if_pos (by omega)]
   ·rw [ge,if_neg (by omega)];rfl
  subst q5
  have qne:qa≠a:=fun z=>by have:=hA.hq;rw [z,hA.ha] at this;cases this
  have Ha5:=I5.bh.at A2.ha
  have Hq5:=I5.bh.at A2.hq
  have fa5:F5 a=none:=by
   cases e:F5 a with
   | none=>rfl
   | some o=>rcases I5.new a o e with q|q
             ·have q:F0 a=some o:=q
              rw [hA.fa] at q;cases q
             ·have q:H2 a=none:=q
              rw [A2.ha] at q;cases q
  have fq5:F5 qa=none:=by
   cases e:F5 qa with
   | none=>rfl
   | some o=>rcases I5.new qa o e with q|q
             ·have q:F0 qa=some o:=q
              rw [hA.fq] at q;cases q
             ·have q:H2 qa=none:=q
              rw [A2.hq] at q;cases q
  obtain ⟨lb,ys,rfl,hsq2,hys⟩:=ixr.lst_inv
  have eys:=hys.ints_inv
  subst eys
  obtain ⟨t3,_⟩:=hB.at et (j:=p) (by omega)
  refine ⟨.ref a,rfl,a,cs.Board,dx,_,rfl,Ha5,T.Board_c,T.Board_n_lines,(show 4<1000 by decide),?_⟩
  refine ⟨.int p,rfl,.ref a,rfl,a,cs.Board,dx,_,.ref qa,rfl,upd_same,T.Board_c,T.Board_n_stands_for,rfl,.int r,rfl,qa,ss.map V.int,r,r,rfl,rfl,?_,?_,?_⟩
  ·rw [upd_ne qne];exact Hq5
  ·rw [List.length_map,hB.s];exact ixN_in (by omega) (by omega)
  have sF7 : ∀ o1 o2,Same F5 (upd (upd H5 a o1) qa o2):=fun o1 o2 b u e=>by
   rw [upd_ne (ne_of_none e fq5),upd_ne (ne_of_none e fa5)];exact I5.fh b u e
  refine ⟨.ref lb,rfl,.int p,rfl,lb,t.map V.int,p,.int (at2 Ls r p),rfl,rfl,((s5.trans (sF7 _ _)).seq hsq2),atI_nat (by rw [List.getElem?_map,t3];rfl),?_⟩
  refine ⟨.ref a,rfl,a,cs.Board,dx,[("unknowns",.int n),("bottom",.int d),("lines",v),("stands_for",.ref qa)],rfl,by rw [upd_ne (Ne.symm qne)];exact upd_same,T.Board_c,T.Board_n_bottom,(show 4<1000 by decide),?_⟩
  refine kk F5 _ v r hr' ht ⟨s5,fun c o c1 c2 e=>?_,fun c o e=>?_,fun c o e=>?_⟩ ⟨upd_same,i5,?_,fa5,fq5⟩
  ·rw [upd_ne c1,upd_ne c2,upd_ne c1]
   exact sH.trans I5.bh c o e
  ·rw [upd_ne (ne_of_none e fa5)]
   exact sF7 _ _ c o e
  ·rcases I5.new c o e with q|q
   ·exact .inl q
   ·exact .inr (same_none sH q)
  ·rw [upd_ne qne,upd_same,List.map_set]
def wholeD:PyData→Bool
 | .int _=>true
 | _=>false
def sp_is_whole:DC
 | [d],q=>q (.bool (wholeD d))
 | _,_=>False
theorem sc_is_whole:FnScope ["thing"] ["thing"] (defScope s_is_whole):=sc0
theorem ok_is_whole (F:Def K mg "is_whole" s_is_whole ["thing"]) (T:Txt K mg cs)
 : Ok P w K mg base "is_whole" 1 ["thing"] (PSp K sp_is_whole):=by
  refine F.vok sc_is_whole (fun ds q h=>by unfold sp_is_whole at h;split at h;all_goals first|rfl|exact h.elim) fun f cdv A outer s H E hr ds q h=>?_
  match ds,h with
  | [d],h =>
  refine ⟨_,(vss_one (vs_ret (ve_and (ve_isi T.isinstance_ T.int_ L2.boot_int (ve_var 0)) (ve_one (ve_not (ve_isi T.isinstance_ T.bool_ L2.boot_bool (ve_var 0))))))),?_⟩
  cases d <;> exact h
def dSh (p q:Int):PyData :=.tuple [.int p,.int q]
def sp_reduced:DC
 | [.int t,.int b],q=>(b≠0∧intBits b≤9000)∧q (dSh (shT t b) (shB t b))
 | _,_=>False
theorem sc_reduced:FnScope ["top","bottom","common"] ["top","bottom"] (defScope s_reduced):=sc0
theorem ok_reduced (F:Def K mg "reduced" s_reduced ["top","bottom"]) (T:Txt K mg cs)
 (O_divisor:Ok P w K mg base "divisor" 1 ["one","other"] (PSp K sp_divisor))
 : Ok P w K mg base "reduced" 2 ["top","bottom"] (PSp K sp_reduced):=by
  refine F.vok sc_reduced (fun ds q h=>by unfold sp_reduced at h;split at h;all_goals first|rfl|exact h.elim) fun f cdv A outer s H E hr ds q h=>?_
  match ds,h with
  | [.int t,.int b],⟨⟨hb,hz⟩,h⟩ =>
  refine ⟨_,(vss_cons (vs_set (i:=2) sc_reduced.nd (ve_fn O_divisor.c (hr.mono (by decide)) (va_cons (ve_var 0) (va_cons (ve_var 1) va_nil))))
   (vss_mid (vs_if (vt_cmp o_lt (ve_var 1) ve_int) (vss_one (vs_set (i:=2) sc_reduced.nd (ve_neg (ve_var 2)))) vss_nil)
   (vss_one (vs_ret (ve_tup (va_cons (ve_op o_fdiv (ve_var 0) (ve_var 2)) (va_cons (ve_op o_fdiv (ve_var 1) (ve_var 2)) va_nil))))))),?_⟩
  have hc:=cm_ne (t:=t) hb
  have hcz:=cm_bits (t:=t) hb hz
  refine ⟨fun e=>e=[.val (.int t),.val (.int b),.val (.int (cm t b))],?_,?_⟩
  ·refine iteD (fun hn=>?_) (fun hn=>?_)
   ·show _=_
    unfold cm;rw [if_pos hn];rfl
   ·show _=_
    unfold cm;rw [if_neg hn];rfl
  ·rintro e rfl
   exact ⟨⟨hc,hcz⟩,⟨hc,hcz⟩,szl,h⟩
def sp_share:DC
 | [.int t,.int b],q=>(b≠0∧intBits b≤9000)∧q (dSh (shT t b) (shB t b))
 | _,_=>False
theorem sc_share:FnScope ["top","bottom"] ["top","bottom"] (defScope s_share):=sc0
theorem ok_share (F:Def K mg "share" s_share ["top","bottom"]) (T:Txt K mg cs)
 (O_is_whole:Ok P w K mg base "is_whole" 1 ["thing"] (PSp K sp_is_whole))
 (O_reduced:Ok P w K mg base "reduced" 2 ["top","bottom"] (PSp K sp_reduced))
 : Ok P w K mg base "share" 3 ["top","bottom"] (PSp K sp_share):=by
  refine F.vok sc_share (fun ds q h=>by unfold sp_share at h;split at h;all_goals first|rfl|exact h.elim) fun f cdv A outer s H E hr ds q h=>?_
  match ds,h with
  | [.int t,.int b],h =>
  refine ⟨_,(vss_cons (vs_if (VW.pt (vw_or (vt_not (vt_val (ve_fn O_is_whole.c (hr.mono (by decide)) (va_cons (ve_var 0) va_nil)))) (vw_or (vt_not (vt_val (ve_fn O_is_whole.c (hr.mono (by decide)) (va_cons (ve_var 1) va_nil)))) (vw_or1 (vt_cmp (o_eq hr.units) (ve_var 1) ve_int))))) vss_never vss_nil)
   (vss_one (vs_ret (ve_fn O_reduced.c (hr.mono (by decide)) (va_cons (ve_var 0) (va_cons (ve_var 1) va_nil)))))),?_⟩
  exact ⟨rfl,rfl,ite_eq (fun z=>(h.1.1 z).elim) (fun _=>h)⟩
def ToldAt (d:Int) (Ls:List (List Int)) (ss:List Int) (m w i u:Nat) (x:Int×Int):Prop :=
 (∃ k,k<i∧ss[k]?=some (u:Int)∧x=(shT (at2 Ls k (w-1)) d,shB (at2 Ls k (w-1)) d))∨((∀ k,k<i→ss[k]?≠some (u:Int))∧x=(shT 0 1,shB 0 1))
def sp_told (nm:List Str) (fs:List (Str×PyData)) (ds:List PyData) (q:List PyData→Prop):Prop := ∃ (n:Nat) (d:Int) (Ls:List (List Int)) (ss:List Int) (m w:Nat),nm=bNm∧fs=bFs n d Ls ss∧ds=[]∧(Bd m w Ls ss∧0<d∧intBits d≤2000∧1≤w∧n≤900 ∧ ∀ x ∈ ss,x<n) ∧
 ∀ vs:List (Int×Int),vs.length=n→(∀ u x,vs[u]?=some x→ToldAt d Ls ss m w m u x)→q (vs.map fun x=>dSh x.1 x.2)
theorem sc_Board_told:FnScope ["self","found","line","unknown"] ["self"] (defScope s_Board_told):=sc0
theorem ok_Board_told (F:MDef K cs.Board "told" "Board.told" s_Board_told ["self"]) (T:Txt K mg cs)
 (O_share:Ok P w K mg base "share" 3 ["top","bottom"] (PSp K sp_share))
 : OkM P w K mg base cs.Board "told" 4 ["self"] (OFSp K cs.Board sp_told):=by
  refine F.vokF sc_Board_told (by rintro nm fs ds q ⟨_,_,_,_,_,_,_,_,h,_⟩;rw [h];rfl) fun f cdv A outer s H E hr a0 nm fs ds q h=>?_
  obtain ⟨n,d,Ls,ss,m,w,rfl,rfl,rfl,⟨hB,d0,d1,w1,hn,hs⟩,h⟩:=h
  refine ⟨_,(vss_cons (vs_setCO (caps:=[]) (own:=["place"]) (ix:=[]) (i:=1) sc_Board_told.nd rfl ⟨rfl,rfl,rfl,rfl,rfl,rfl⟩ (vi_range1 T.range_ (ve_fld 0 T.Board_c T.Board_n_unknowns)) (fun _ _ _ _=>(vg_name (i:=0) (show List.Nodup (["place"]:List Str) by decide))) (fun _ _ _ _=>(ve_fn O_share.c (hr.mono (by decide)) (va_cons ve_int (va_cons ve_int va_nil)))))
   (vss_cons (vs_for rfl (vi_zip2 T.zip_ (ve_fld 0 T.Board_c T.Board_n_lines) (ve_fld 0 T.Board_c T.Board_n_stands_for)) (vg_tup (n:=2) rfl (vgs_cons (vg_name (i:=2) sc_Board_told.nd) (vgs_cons (vg_name (i:=3) sc_Board_told.nd) vgs_nil))) (vss_one (vs_if (vt_cmp o_ge (ve_var 3) ve_int) (vss_one (vs_put 1 (ve_fn O_share.c (hr.mono (by decide)) (va_cons (ve_ix (ve_var 2) (ve_neg ve_int)) (va_cons (ve_fld 0 T.Board_c T.Board_n_bottom) va_nil))) (ve_var 3))) vss_nil)))
   (vss_one (vs_retO 1)))),?_⟩
  have hlen:(Ls.map dRow).length=m:=by rw [List.length_map,hB.l]
  have hrl:(rngD 0 (n:Int).toNat).length=n:=by rw [rngD_len];omega
  refine ⟨rfl,_,rfl,⟨by omega,by omega⟩,small1000 (by rw [hrl];omega),fun k ys e=>ys=(List.replicate n (dSh (shT 0 1) (shB 0 1))).take k ∧ ∃ u,e=[u],⟨by simp,_,rfl⟩,?_,?_⟩
  ·rintro i x ys e hx ⟨hys,s,rfl⟩
   obtain ⟨hi,rfl⟩:=rngD_inv hx
   exact ⟨⟨by decide,by decide⟩,snoc_take (by rw [List.getElem?_replicate,if_pos (by omega)]) hys,_,rfl⟩
  rintro ys e ⟨hys,u,rfl⟩
  rw [hrl,List.take_of_length_le (by rw [List.length_replicate];omega)] at hys
  subst hys
  refine ⟨rfl,_,rfl,rfl,_,rfl,fun i e => ∃ t1 t2 l,e=[.obj a0 cs.Board bNm (bFs n d Ls ss),.own l,t1,t2] ∧ ∃ vs:List (Int×Int),l=vs.map (fun x=>dSh x.1 x.2)∧vs.length=n ∧ ∀ u x,vs[u]?=some x→ToldAt d Ls ss m w i u x,⟨_,_,_,rfl,List.replicate n (shT 0 1,shB 0 1),by rw [List.map_replicate],by simp,fun u x hx => .inr ⟨fun k hk=>by omega,?_⟩⟩,?_,?_⟩
  ·rw [List.getElem?_replicate] at hx
   split at hx
   ·exact (Option.some.inj hx).symm
   ·cases hx
  ·rintro i x e hx ⟨t1,t2,l,rfl,vs,rfl,hv,hI⟩
   obtain ⟨x,y,h3,h4,rfl⟩:=zipD_inv hx
   obtain ⟨u,rfl,hu,hum⟩:=int_get h4
   obtain ⟨r,er,rfl⟩ : ∃ r,Ls[i]?=some r∧dRow r=x:=by
    rw [List.getElem?_map] at h3
    cases q:Ls[i]? with
    | none=>rw [q] at h3;cases h3
    | some r=>rw [q] at h3;exact ⟨r,rfl,Option.some.inj h3⟩
   have lr:r.length=w:=hB.w r (List.mem_of_getElem? er)
   obtain ⟨r1,r2⟩:=hB.at er (j:=w-1) (by omega)
   refine ⟨rfl,rfl,iteD (fun a=>?_) (fun a=>?_)⟩
   ·have un:=hs u hum
    refine ⟨.int (at2 Ls i (w-1)),atI_last (by rw [List.length_map,lr,List.getElem?_map,r1];rfl),rfl,_,rfl,⟨by omega,bits_up d1 (by decide)⟩,rfl,rfl,u.toNat,?_,_,_,_,rfl,vs.set u.toNat (shT (at2 Ls i (w-1)) d,shB (at2 Ls i (w-1)) d),?_,by rw [List.length_set];exact hv,fun v x hx=>?_⟩
    ·exact ixN_in a (by show u<(((vs.map _).length:Nat):Int);rw [List.length_map,hv];exact un)
    ·rw [List.map_set];rfl
    ·rw [List.getElem?_set] at hx
     by_cases e:u.toNat=v
     ·rw [if_pos e] at hx
      split at hx
      ·exact .inl ⟨i,by omega,by rw [hu];congr 1;omega,(Option.some.inj hx).symm⟩
      ·cases hx
     ·rw [if_neg e] at hx
      rcases hI v x hx with ⟨k,hk,h1,h2⟩|⟨h1,h2⟩
      ·exact .inl ⟨k,by omega,h1,h2⟩
      ·refine .inr ⟨fun k hk z=>?_,h2⟩
       by_cases q:k=i
       ·subst q;rw [hu] at z;have:=Option.some.inj z;omega
       ·exact h1 k (by omega) z
   ·refine ⟨_,_,_,rfl,vs,rfl,hv,fun v x hx=>?_⟩
    rcases hI v x hx with ⟨k,hk,h1,h2⟩|⟨h1,h2⟩
    ·exact .inl ⟨k,by omega,h1,h2⟩
    ·refine .inr ⟨fun k hk z=>?_,h2⟩
     by_cases q:k=i
     ·subst q;rw [hu] at z;have:=Option.some.inj z;omega
     ·exact h1 k (by omega) z
  ·rintro e ⟨t1,t2,l,rfl,vs,rfl,hv,hI⟩
   rw [zipD_len,hlen,List.length_map,hB.s,Nat.min_self] at hI
   exact ⟨_,rfl,h vs hv hI⟩
theorem pig : ∀ (N T:Nat) (f:Nat→Nat),(∀ i,i≤T→f i<N)→(∀ i j,i<j→j≤T→f i≠f j)→T<N
 | 0,T,f,h,_=>absurd (h 0 (Nat.zero_le _)) (by omega)
 | N+1,T,f,h,hd=>by
  by_cases q : ∃ i,i≤T∧f i=N
  ·obtain ⟨i0,hi0,e0⟩:=q
   cases T with
   | zero=>omega
   | succ T =>
    have sl : ∀ i,i≤T→skip i0 i≤T+1:=fun i hi=>by unfold skip;split <;> omega
    have sn : ∀ i,skip i0 i≠i0:=fun i=>by unfold skip;split <;> omega
    have sm : ∀ i j,i<j→skip i0 i<skip i0 j:=fun i j hij=>by unfold skip;split <;> split <;> omega
    have:=pig N T (fun i=>f (skip i0 i)) (fun i hi=>by
     have a:=h (skip i0 i) (sl i hi)
     have b:f (skip i0 i)≠N:=fun z=>by
      rcases Nat.lt_or_gt_of_ne (sn i) with g|g
      ·exact hd _ _ g hi0 (by rw [z,e0])
      ·exact hd _ _ g (sl i hi) (by rw [z,e0])
     show f (skip i0 i)<N
     omega) fun i j hij hj=>hd _ _ (sm i j hij) (sl j hj)
    omega
  ·have:=pig N T f (fun i hi=>by
    have a:=h i hi
    have b:f i≠N:=fun z=>q ⟨i,hi,z⟩
    omega) hd
   omega
def enc (B:Nat) (st:Nat→Nat):Nat→Nat
 | 0=>0
 | k+1=>enc B st k+st k*B^k
theorem enc_lt {B:Nat}{st:Nat→Nat} : ∀ {m:Nat},(∀ k,k<m→st k<B)→enc B st m<B^m
 | 0,_=>by simp [enc]
 | m+1,h=>by
  have a:=enc_lt (B:=B) (st:=st) (m:=m) fun k hk=>h k (by omega)
  have b:=h m (by omega)
  show enc B st m+st m*B^m<B^(m+1)
  rw [Nat.pow_succ,Nat.mul_comm (B^m) B]
  have:(st m+1)*B^m≤B*B^m:=Nat.mul_le_mul_right _ (by omega)
  rw [Nat.add_mul,Nat.one_mul] at this
  omega
theorem enc_inj {B:Nat}{st st':Nat→Nat} : ∀ {m:Nat},(∀ k,k<m→st k<B)→(∀ k,k<m→st' k<B)→enc B st m=enc B st' m → ∀ k,k<m→st k=st' k
 | 0,_,_,_,k,hk=>by omega
 | m+1,h,h',e,k,hk=>by
  have a:=enc_lt (B:=B) (st:=st) (m:=m) fun k hk=>h k (by omega)
  have a':=enc_lt (B:=B) (st:=st') (m:=m) fun k hk=>h' k (by omega)
  have e:enc B st m+st m*B^m=enc B st' m+st' m*B^m:=e
  have top:st m=st' m:=by
   have p:0<B^m:=by omega
   have e1:(enc B st m+st m*B^m)/B^m=st m:=by
    rw [Nat.mul_comm (st m),Nat.add_mul_div_left _ _ p,Nat.div_eq_of_lt a];omega
   have e2:(enc B st' m+st' m*B^m)/B^m=st' m:=by
    rw [Nat.mul_comm (st' m),Nat.add_mul_div_left _ _ p,Nat.div_eq_of_lt a'];omega
   rw [← e1,← e2,e]
  by_cases q:k=m
  ·subst q;exact top
  ·rw [top] at e
   exact enc_inj (m:=m) (fun k hk=>h k (by omega)) (fun k hk=>h' k (by omega)) (by omega) k (by omega)
structure Run (m n:Nat) (col:Nat→Nat→Int) (T:Nat) (b:Nat→Sta) (cs rs:Nat→Nat):Prop where
 good:Good m n col (b 0)
 low : ∀ k,k<m → -(m:Int)≤(b 0).st k
 step : ∀ τ,τ<T→Stp m n (b τ) (cs τ) (rs τ) (b (τ+1))
theorem Run.at {m n:Nat}{col:Nat→Nat→Int}{T:Nat}{b:Nat→Sta}{cs rs:Nat→Nat} (h:Run m n col T b cs rs) : ∀ τ,τ≤T→Good m n col (b τ) ∧ ∀ k,k<m → -(m:Int)≤(b τ).st k
 | 0,_=>⟨h.good,h.low⟩
 | τ+1,hτ=>by
  obtain ⟨g,l⟩:=h.at τ (by omega)
  have s:=h.step τ (by omega)
  refine ⟨(g.next s).1,fun k hk=>?_⟩
  rw [s.st]
  show _≤if k=rs τ then (cs τ:Int) else (b τ).st k
  by_cases q:k=rs τ
  ·rw [if_pos q];omega
  ·rw [if_neg q];exact l k hk
theorem Run.short {m n:Nat}{col:Nat→Nat→Int}{T:Nat}{b:Nat→Sta}{cs rs:Nat→Nat} (h:Run m n col T b cs rs):T<(n+m)^m:=by
 refine pig ((n+m)^m) T (fun τ=>enc (n+m) (fun k=>((b τ).st k+m).toNat) m) (fun i hi=>?_) fun i j hij hj e=>?_
 ·obtain ⟨g,l⟩:=h.at i hi
  exact enc_lt fun k hk=>by have:=g.top k hk;have:=l k hk;omega
 ·obtain ⟨g,l⟩:=h.at i (by omega)
  obtain ⟨g',l'⟩:=h.at j hj
  have e2:=enc_inj (fun k hk=>by have:=g.top k hk;have:=l k hk;omega) (fun k hk=>by have:=g'.top k hk;have:=l' k hk;omega) e
  refine bland (b:=fun τ=>b (i+τ)) (cs:=fun τ=>cs (i+τ)) (rs:=fun τ=>rs (i+τ)) (T:=j-i) (by omega) g (fun τ hτ=>h.step (i+τ) (by omega)) fun k hk=>?_
  show (b (i+(j-i))).st k=(b i).st k
  rw [show i+(j-i)=j by omega]
  have a:=e2 k hk
  have:=l k hk
  have:=l' k hk
  have a:((b i).st k+m).toNat=((b j).st k+m).toNat:=a
  omega
theorem Run.snoc {m n:Nat}{col:Nat→Nat→Int}{T:Nat}{b:Nat→Sta}{cs rs:Nat→Nat} (h:Run m n col T b cs rs) {c r:Nat}{b':Sta} (s:Stp m n (b T) c r b') :
 Run m n col (T+1) (fun τ=>if τ≤T then b τ else b') (fun τ=>if τ<T then cs τ else c) (fun τ=>if τ<T then rs τ else r) where
  good:=by rw [if_pos (Nat.zero_le _)];exact h.good
  low:=by rw [if_pos (Nat.zero_le _)];exact h.low
  step:=fun τ hτ=>by
   by_cases q:τ<T
   ·rw [if_pos (by omega),if_pos q,if_pos q,if_pos (by omega)];exact h.step τ q
   ·have:τ=T:=by omega
    subst this
    rw [if_pos (Nat.le_refl _),if_neg q,if_neg q,if_neg (by omega)];exact s
theorem Good.fits {m n:Nat}{col:Nat→Nat→Int}{b:Sta} (h:Good m n col b) (h0:lack m b (n+m)=0) {x:Nat} (hx:x<m) :
 b.d*col (n+m) x=sumN m fun k=>if b.st k<0 then 0 else b.L k (n+m)*col (b.st k).toNat x:=by
  rw [h.brd.hI (n+m) x hx]
  refine sumN_congr fun k hk=>?_
  by_cases q:b.st k<0
  ·rw [if_pos q]
   have:b.L k (n+m)=0:=by
    have s0:=h.sum k hk
    by_cases g:b.L k (n+m)=0
    ·exact g
    ·exfalso
     have:0<lack m b (n+m):=by
      unfold lack
      have e:(sumN m fun i=>if b.st i<0 then b.L i (n+m) else 0)=(sumN m fun i=>if i=k then b.L k (n+m) else 0)+sumN m fun i=>if i=k then 0 else if b.st i<0 then b.L i (n+m) else 0:=by
       rw [← sumN_add]
       refine sumN_congr fun i _=>?_
       by_cases z:i=k
       ·subst z;rw [if_pos rfl,if_pos rfl,if_pos q];omega
       ·rw [if_neg z,if_neg z];omega
      rw [e,sumN_one hk fun i _ z=>if_neg z,if_pos rfl]
      have:0≤sumN m fun i=>if i=k then 0 else if b.st i<0 then b.L i (n+m) else 0:=sumN_nonneg fun i hi=>by
       by_cases z:i=k
       ·rw [if_pos z];omega
       ·rw [if_neg z]
        by_cases y:b.st i<0
        ·rw [if_pos y];exact h.sum i hi
        ·rw [if_neg y];omega
      omega
     omega
   rw [this];omega
  ·rw [if_neg q];unfold Bas;rw [if_neg q]
theorem lack_pos {m:Nat}{b:Sta}{c:Nat} (h:0<lack m b c) : ∃ k,k<m∧0<b.L k c:=by
 obtain ⟨k,hk,z⟩:=sumN_pos h
 by_cases q:b.st k<0
 ·rw [if_pos q] at z;exact ⟨k,hk,z⟩
 ·rw [if_neg q] at z;omega
theorem sumN_abs {f:Nat→Int}{C:Nat} : ∀ {n:Nat},(∀ i,i<n→(f i).natAbs≤C)→(sumN n f).natAbs≤n*C
 | 0,_=>by simp [sumN]
 | n+1,h=>by
  have a:=sumN_abs (f:=f) (C:=C) (n:=n) fun i hi=>h i (by omega)
  have b:=h n (by omega)
  show (sumN n f+f n).natAbs≤_
  rw [Nat.add_mul,Nat.one_mul]
  have:=Int.natAbs_add_le (sumN n f) (f n)
  omega
def fct:Nat→Nat
 | 0=>1
 | n+1=>(n+1)*fct n
theorem det_abs {M:Nat} : ∀ {m:Nat}{a:Nat→Nat→Int},(∀ x y,x<m→y<m→(a x y).natAbs≤M)→(det m a).natAbs≤fct m*M^m
 | 0,_,_=>by simp [det,fct]
 | m+1,a,h=>by
  show (sumN (m+1) _).natAbs≤(m+1)*fct m*M^(m+1)
  have e:(m+1)*fct m*M^(m+1)=(m+1)*(M*(fct m*M^m)):=by rw [Nat.pow_succ];grind
  rw [e]
  refine sumN_abs fun i hi=>?_
  have d:=det_abs (M:=M) (m:=m) (a:=fun x y=>a (skip i x) (y+1)) fun x y hx hy=>h _ _ (skip_lt hx) (by omega)
  have s:(sgn i).natAbs=1:=by unfold sgn;split <;> rfl
  rw [Int.natAbs_mul,Int.natAbs_mul,s,Nat.one_mul]
  exact Nat.mul_le_mul (h i 0 hi (by omega)) d
def staOf (Ls:List (List Int)) (ss:List Int) (d:Int):Sta:=⟨fun k=>(ss[k]?).getD 0,at2 Ls,d⟩
def colOf (Ls0:List (List Int)):Nat→Nat→Int:=fun j x=>at2 Ls0 x j
theorem Brd.congr {m:Nat}{col B B' L:Nat→Nat→Int}{d:Int} (h:Brd m col B L d) (e : ∀ x k,k<m→B x k=B' x k):Brd m col B' L d where
 pos:=h.pos
 hd:=by rw [h.hd];exact det_congr fun x y _ hy=>e x y hy
 hL:=fun k hk j=>by
  rw [h.hL k hk j]
  exact det_congr fun x y _ hy=>by
   unfold setc
   by_cases z:y=k
   ·rw [if_pos z,if_pos z]
   ·rw [if_neg z,if_neg z,e x y hy]
 hI:=fun j x hx=>by
  rw [h.hI j x hx]
  exact sumN_congr fun k hk=>by rw [e x k hk]
theorem at2_map {f:Nat→List Int}{m k j:Nat} (hk:k<m):at2 ((List.range m).map f) k j=((f k)[j]?).getD 0:=by
 unfold at2
 rw [List.getElem?_map,List.getElem?_range hk];rfl
theorem firstS_at {m k:Nat} (hk:k<m):((firstS m)[k]?).getD 0 = -(m:Int)+k:=by
 unfold firstS
 rw [List.getElem?_map,List.getElem?_range hk];rfl
theorem fstL_len (row:List Int) (s:Int) (k m:Nat):(fstL row s k m).length=row.length+m+1:=by
 unfold fstL;simp;omega
theorem fstL_num {row:List Int}{s:Int}{k m j:Nat} (h:j<row.length):((fstL row s k m)[j]?).getD 0=tn s*(row[j]?).getD 0:=by
 unfold fstL
 rw [List.getElem?_map,List.getElem?_append_left (by simp;omega),List.getElem?_append_left h,List.getElem?_eq_getElem h];rfl
theorem fstL_mark {row:List Int}{s:Int}{k m j:Nat} (h:j<m):((fstL row s k m)[row.length+j]?).getD 0=tn s*(if j=k then 1 else 0):=by
 unfold fstL
 rw [List.getElem?_map,List.getElem?_append_left (by simp;omega),List.getElem?_append_right (by omega),Nat.add_sub_cancel_left,List.getElem?_map,List.getElem?_range h];rfl
theorem fstL_sum {row:List Int}{s:Int}{k m:Nat}:((fstL row s k m)[row.length+m]?).getD 0=tn s*s:=by
 unfold fstL
 rw [List.getElem?_map,List.getElem?_append_right (by simp)]
 simp
theorem tn_abs (s:Int):0≤tn s*s:=by unfold tn;split <;> omega
theorem good_first {n:Nat}{R:List (List Int)}{b:List Int} (hw : ∀ r ∈ R,r.length=n):Good R.length n (colOf (firstL R b)) (staOf (firstL R b) (firstS R.length) 1) where
 brd:=(brd_first R.length (colOf (firstL R b))).congr fun x k hk=>by
  unfold Bas
  rw [if_pos (show (staOf (firstL R b) (firstS R.length) 1).st k<0 by show ((firstS R.length)[k]?).getD 0<0;rw [firstS_at hk];omega)]
 sum:=fun k hk=>by
  show 0≤at2 (firstL R b) k (n+R.length)
  unfold firstL
  rw [at2_map hk]
  have e:((R[k]?).getD []).length=n:=by
   rw [List.getElem?_eq_getElem hk]
   exact hw _ (List.getElem_mem _)
  rw [← e,fstL_sum];exact tn_abs _
 top:=fun k hk=>by
  show ((firstS R.length)[k]?).getD 0<n
  rw [firstS_at hk];omega
theorem at2_out {Ls:List (List Int)}{k j:Nat} (h:Ls.length≤k):at2 Ls k j=0:=by
 unfold at2;rw [List.getElem?_eq_none h];rfl
theorem newL_piv {Ls:List (List Int)}{w r p:Nat}{d:Int} (hw : ∀ l ∈ Ls,l.length=w) (hr:r<Ls.length):at2 (newL Ls r p d)=piv (at2 Ls) d r p:=by
 funext k j
 obtain ⟨t,et⟩ : ∃ t,Ls[r]?=some t:=⟨_,List.getElem?_eq_getElem hr⟩
 have lt:=hw t (List.mem_of_getElem? et)
 unfold piv
 by_cases hk:k<Ls.length
 ·obtain ⟨l,el⟩ : ∃ l,Ls[k]?=some l:=⟨_,List.getElem?_eq_getElem hk⟩
  have ll:=hw l (List.mem_of_getElem? el)
  have e:at2 (newL Ls r p d) k j=((if k=r then l else clrI l t p d)[j]?).getD 0:=by
   unfold at2 newL
   rw [List.getElem?_mapIdx,el,et];rfl
  rw [e]
  by_cases z:k=r
  ·subst z
   rw [if_pos rfl,if_pos rfl]
   unfold at2;rw [el];rfl
  ·rw [if_neg z,if_neg z]
   have a1 : ∀ i,at2 Ls k i=(l[i]?).getD 0:=fun i=>by unfold at2;rw [el];rfl
   have a2 : ∀ i,at2 Ls r i=(t[i]?).getD 0:=fun i=>by unfold at2;rw [et];rfl
   rw [a1,a1,a2,a2]
   unfold clrI
   by_cases hj:j<w
   ·rw [List.getElem?_zipWith,List.getElem?_eq_getElem (show j<l.length by omega),List.getElem?_eq_getElem (show j<t.length by omega)];rfl
   ·rw [List.getElem?_eq_none (by simp;omega),List.getElem?_eq_none (show l.length≤j by omega),List.getElem?_eq_none (show t.length≤j by omega)]
    simp
 ·have z1 : ∀ i,at2 Ls k i=0:=fun i=>at2_out (by omega)
  rw [at2_out (by unfold newL;simp;omega),if_neg (by omega),z1,z1]
  simp
theorem stp_of {Ls:List (List Int)}{ss:List Int}{d:Int}{m n c r:Nat} (hl:Ls.length=m) (hs:ss.length=m) (hw : ∀ l ∈ Ls,l.length=n+m+1) (c1:c<n) (c2:0<lack m (staOf Ls ss d) c) (c3 : ∀ j,j<c→lack m (staOf Ls ss d) j≤0)
 (hr:r<m) (ht:Tg Ls ss (n+m+1) c m r):Stp m n (staOf Ls ss d) c r (staOf (newL Ls r c d) (ss.set r c) (at2 Ls r c)) where
  c1:=c1
  c2:=c2
  c3:=c3
  r1:=hr
  r2:=ht.1
  r3:=fun k hk hp=>(ht.2 k hk hp).1
  r4:=fun k hk hp e=>(ht.2 k hk hp).2 e
  st:=by
   funext k
   show ((ss.set r (c:Int))[k]?).getD 0=if k=r then (c:Int) else (ss[k]?).getD 0
   rw [List.getElem?_set]
   by_cases z:r=k
   ·subst z;rw [if_pos rfl,if_pos rfl,if_pos (by omega)];rfl
   ·rw [if_neg z,if_neg (Ne.symm z)]
  L:=newL_piv hw (by omega)
  d:=rfl
theorem bas_abs {m M:Nat}{col:Nat→Nat→Int}{st:Nat→Int} (hM : ∀ j x,x<m→(col j x).natAbs≤M) (h1:1≤M) {x k:Nat} (hx:x<m):(Bas col st x k).natAbs≤M:=by
 unfold Bas
 split
 ·split
  ·exact h1
  ·exact Nat.zero_le _
 ·exact hM _ _ hx
theorem Good.abs {m n M:Nat}{col:Nat→Nat→Int}{b:Sta} (h:Good m n col b) (hM : ∀ j x,x<m→(col j x).natAbs≤M) (h1:1≤M):(∀ k,k<m → ∀ j,(b.L k j).natAbs≤fct m*M^m)∧b.d.natAbs≤fct m*M^m:=by
 refine ⟨fun k hk j=>?_,?_⟩
 ·rw [h.brd.hL k hk j]
  refine det_abs fun x y hx _=>?_
  unfold setc
  split
  ·exact hM _ _ hx
  ·exact bas_abs hM h1 hx
 ·rw [h.brd.hd]
  exact det_abs fun x y hx _=>bas_abs hM h1 hx
def valN (m n:Nat) (b:Sta) (u:Nat):Int:=sumN m fun k=>if b.st k=(u:Int) then b.L k (n+m) else 0
theorem Good.val {m n:Nat}{col:Nat→Nat→Int}{b:Sta} (h:Good m n col b) {k u:Nat} (hk:k<m) (e:b.st k=(u:Int)):valN m n b u=b.L k (n+m):=by
 unfold valN
 rw [sumN_one hk fun i hi hik=>if_neg fun z=>?_,if_pos e]
 have a:=h.basic hk e hk
 have c:=h.basic hi z hk
 rw [if_pos rfl] at a
 rw [if_neg (Ne.symm hik),a] at c
 have:=h.brd.pos
 omega
theorem val_none {m n:Nat}{b:Sta}{u:Nat} (h : ∀ k,k<m→b.st k≠(u:Int)):valN m n b u=0:=sumN_zero fun k hk=>if_neg (h k hk)
theorem Good.fits' {m n:Nat}{col:Nat→Nat→Int}{b:Sta} (h:Good m n col b) (h0:lack m b (n+m)=0) {x:Nat} (hx:x<m) :
 b.d*col (n+m) x=sumN n fun u=>col u x*valN m n b u:=by
  rw [h.fits h0 hx]
  have e:(sumN n fun u=>col u x*valN m n b u)=sumN n fun u=>sumN m fun k=>if b.st k=(u:Int) then col u x*b.L k (n+m) else 0:=sumN_congr fun u _=>by
   unfold valN
   rw [← sumN_mul]
   exact sumN_congr fun k _=>by
    split
    ·rfl
    ·omega
  rw [e,sumN_swap]
  refine sumN_congr fun k hk=>?_
  by_cases q:b.st k<0
  ·rw [if_pos q,sumN_zero fun u _=>if_neg (by omega)]
  ·rw [if_neg q]
   have t:=h.top k hk
   rw [sumN_one (r:=(b.st k).toNat) (by omega) fun u _ hu=>if_neg (by omega),if_pos (by omega),Int.mul_comm]
theorem lack_comb {m n:Nat}{col:Nat→Nat→Int}{b:Sta} (h:Good m n col b) {j N:Nat} (f:Nat→Int) (at':Nat→Nat) (e : ∀ x,x<m→col j x=sumN N fun l=>f l*col (at' l) x) :
 lack m b j=sumN N fun l=>f l*lack m b (at' l):=by
  unfold lack
  have e2:(sumN N fun l=>f l*sumN m fun k=>if b.st k<0 then b.L k (at' l) else 0)=sumN N fun l=>sumN m fun k=>if b.st k<0 then f l*b.L k (at' l) else 0:=sumN_congr fun l _=>by
   rw [← sumN_mul]
   exact sumN_congr fun k _=>by
    split
    ·rfl
    ·omega
  rw [e2,sumN_swap]
  refine sumN_congr fun k hk=>?_
  by_cases q:b.st k<0
  ·rw [if_pos q,h.brd.comb f at' e hk]
   exact sumN_congr fun l _=>by rw [if_pos q]
  ·rw [if_neg q]
   exact (sumN_zero fun l _=>if_neg q).symm
theorem col_marks {n:Nat}{R:List (List Int)}{b:List Int} (hw : ∀ r ∈ R,r.length=n) {x:Nat} (hx:x<R.length) :
 (∀ j,j<n→colOf (firstL R b) j x=sumN R.length fun l=>at2 R l j*colOf (firstL R b) (n+l) x)∧colOf (firstL R b) (n+R.length) x=sumN R.length fun l=>(b[l]?).getD 0*colOf (firstL R b) (n+l) x:=by
  have e:((R[x]?).getD []).length=n:=by
   rw [List.getElem?_eq_getElem hx]
   exact hw _ (List.getElem_mem _)
  have mk : ∀ l,l<R.length→colOf (firstL R b) (n+l) x=tn ((b[x]?).getD 0)*(if l=x then 1 else 0):=fun l hl=>by
   show at2 (firstL R b) x (n+l)=_
   unfold firstL
   rw [at2_map hx,← e,fstL_mark hl]
  refine ⟨fun j hj=>?_,?_⟩
  ·rw [sumN_one hx fun l hl z=>by rw [mk l hl,if_neg z];omega,mk x hx,if_pos rfl]
   show at2 (firstL R b) x j=_
   unfold firstL
   rw [at2_map hx,fstL_num (by omega)]
   unfold at2
   grind
  ·rw [sumN_one hx fun l hl z=>by rw [mk l hl,if_neg z];omega,mk x hx,if_pos rfl]
   show at2 (firstL R b) x (n+R.length)=_
   unfold firstL
   rw [at2_map hx,← e,fstL_sum]
   grind
theorem Good.none' {n:Nat}{R:List (List Int)}{b:List Int}{s:Sta} (hw : ∀ r ∈ R,r.length=n) (h:Good R.length n (colOf (firstL R b)) s) :
 (∀ j,j<n→(sumN R.length fun l=>at2 R l j*lack R.length s (n+l))=lack R.length s j)∧(sumN R.length fun l=>(b[l]?).getD 0*lack R.length s (n+l))=lack R.length s (n+R.length) :=
  ⟨fun j hj=>(lack_comb h (fun l=>at2 R l j) (fun l=>n+l) fun x hx=>(col_marks hw hx).1 j hj).symm,(lack_comb h (fun l=>(b[l]?).getD 0) (fun l=>n+l) fun x hx=>(col_marks hw hx).2).symm⟩
theorem Good.told' {n:Nat}{R:List (List Int)}{b:List Int}{s:Sta} (hw : ∀ r ∈ R,r.length=n) (h:Good R.length n (colOf (firstL R b)) s) (h0:lack R.length s (n+R.length)=0) {x:Nat} (hx:x<R.length) :
 s.d*(b[x]?).getD 0=sumN n fun u=>at2 R x u*valN R.length n s u:=by
  have e:((R[x]?).getD []).length=n:=by
   rw [List.getElem?_eq_getElem hx]
   exact hw _ (List.getElem_mem _)
  have f:=h.fits' h0 hx
  have c1:colOf (firstL R b) (n+R.length) x=tn ((b[x]?).getD 0)*(b[x]?).getD 0:=by
   show at2 (firstL R b) x (n+R.length)=_
   unfold firstL
   rw [at2_map hx,← e,fstL_sum]
  have c2 : ∀ u,u<n→colOf (firstL R b) u x=tn ((b[x]?).getD 0)*at2 R x u:=fun u hu=>by
   show at2 (firstL R b) x u=_
   unfold firstL
   rw [at2_map hx,fstL_num (by omega)];rfl
  rw [c1,sumN_congr fun u hu=>by rw [c2 u hu,Int.mul_assoc],sumN_mul] at f
  have t0:tn ((b[x]?).getD 0)≠0:=by unfold tn;split <;> decide
  refine Int.eq_of_mul_eq_mul_left t0 ?_
  rw [← f];grind
theorem fct_mono : ∀ {m n:Nat},m≤n→fct m≤fct n
 | m,0,h=>by have:m=0:=by omega
             subst this;exact Nat.le_refl _
 | m,n+1,h=>by
  by_cases e:m=n+1
  ·subst e;exact Nat.le_refl _
  ·exact Nat.le_trans (fct_mono (m:=m) (n:=n) (by omega)) (Nat.le_mul_of_pos_left _ (by omega))
theorem short24 {m x:Nat} (hm:m≤24) (h:x≤fct m*20000000^m):x<2^700:=by
 have a:fct m*20000000^m≤fct 24*20000000^24:=Nat.mul_le_mul (fct_mono hm) (Nat.pow_le_pow_right (by decide) hm)
 have b:fct 24*20000000^24<2^700:=by decide +kernel
 omega
theorem tn_mul_abs (s x:Int):(tn s*x).natAbs=x.natAbs:=by unfold tn;split <;> omega
theorem getD_abs {l:List Int}{M:Nat} (h : ∀ x ∈ l,x.natAbs≤M) (j:Nat):((l[j]?).getD 0).natAbs≤M:=by
 cases e:l[j]? with
 | none=>simp
 | some x=>exact h x (List.mem_of_getElem? e)
theorem col_abs {R:List (List Int)}{b:List Int} (z : ∀ r ∈ R,∀ x ∈ r,x.natAbs≤20000000) (zb : ∀ x ∈ b,x.natAbs≤20000000) (j x:Nat) (hx:x<R.length):(colOf (firstL R b) j x).natAbs≤20000000:=by
 show (at2 (firstL R b) x j).natAbs≤_
 unfold firstL
 rw [at2_map hx]
 refine getD_abs (fun y hy=>?_) j
 unfold fstL at hy
 obtain ⟨w,hw,rfl⟩:=List.mem_map.mp hy
 rw [tn_mul_abs]
 simp only [List.mem_append,List.mem_map,List.mem_singleton] at hw
 rcases hw with (hw|⟨i,_,rfl⟩)|rfl
 ·rw [List.getElem?_eq_getElem hx] at hw
  exact z _ (List.getElem_mem _) w hw
 ·split <;> decide
 ·exact getD_abs zb x
structure Rn (n:Nat) (R:List (List Int)) (b:List Int) (T:Nat) (d:Int) (Ls:List (List Int)) (ss:List Int):Prop where
 l:Ls.length=R.length
 s:ss.length=R.length
 w : ∀ r ∈ Ls,r.length=n+R.length+1
 run : ∃ st cs rs,Run R.length n (colOf (firstL R b)) T st cs rs∧st T=staOf Ls ss d
theorem Rn.good {n:Nat}{R:List (List Int)}{b:List Int}{T:Nat}{d:Int}{Ls:List (List Int)}{ss:List Int} (h:Rn n R b T d Ls ss):Good R.length n (colOf (firstL R b)) (staOf Ls ss d):=by
 obtain ⟨st,cs,rs,r,e⟩:=h.run
 rw [← e];exact (r.at T (Nat.le_refl _)).1
theorem Rn.short {n:Nat}{R:List (List Int)}{b:List Int}{T:Nat}{d:Int}{Ls:List (List Int)}{ss:List Int} (h:Rn n R b T d Ls ss):T<(n+R.length)^R.length:=by
 obtain ⟨st,cs,rs,r,e⟩:=h.run
 exact r.short
theorem Rn.first {n:Nat}{R:List (List Int)}{b:List Int} (h:SvPre n R b):Rn n R b 0 1 (firstL R b) (firstS R.length) where
 l:=by simp [firstL]
 s:=by simp [firstS]
 w:=fun r hr=>by
  unfold firstL at hr
  obtain ⟨k,hk,rfl⟩:=List.mem_map.mp hr
  have hk:=List.mem_range.mp hk
  rw [fstL_len,List.getElem?_eq_getElem hk]
  show (R[k]).length+_+_=_
  rw [h.i.w _ (List.getElem_mem _)]
 run:=⟨fun _=>staOf (firstL R b) (firstS R.length) 1,fun _=>0,fun _=>0,⟨good_first h.i.w,fun k hk=>by
  show _≤((firstS R.length)[k]?).getD 0
  rw [firstS_at hk];omega,fun τ hτ=>by omega⟩,rfl⟩
theorem Rn.next {n:Nat}{R:List (List Int)}{b:List Int}{T:Nat}{d:Int}{Ls:List (List Int)}{ss:List Int}{c r:Nat} (h:Rn n R b T d Ls ss) (c1:c<n) (c2:0<lackS Ls ss R.length c) (c3 : ∀ j,j<c→lackS Ls ss R.length j≤0)
 (hr:r<R.length) (ht:Tg Ls ss (n+R.length+1) c R.length r):Rn n R b (T+1) (at2 Ls r c) (newL Ls r c d) (ss.set r c) where
  l:=by unfold newL;rw [List.length_mapIdx];exact h.l
  s:=by rw [List.length_set];exact h.s
  w:=fun l hl=>by
   unfold newL at hl
   obtain ⟨k,hk,rfl⟩:=List.mem_mapIdx.mp hl
   have a:=h.w _ (List.getElem_mem hk)
   split
   ·exact a
   ·have e:Ls[r]?=some (Ls[r]'(by rw [h.l];exact hr)):=List.getElem?_eq_getElem _
    have a2:=h.w _ (List.mem_of_getElem? e)
    unfold clrI
    rw [List.length_zipWith,e]
    show min _ (Ls[r]'_).length=_
    omega
  run:=by
   obtain ⟨st,cs,rs,rr,e⟩:=h.run
   have s:=stp_of (n:=n) (d:=d) h.l h.s h.w c1 c2 c3 hr ht
   rw [← e] at s
   exact ⟨_,_,_,rr.snoc s,by show (if T+1≤T then _ else _)=_;rw [if_neg (by omega)]⟩
theorem Rn.bd {n:Nat}{R:List (List Int)}{b:List Int}{T:Nat}{d:Int}{Ls:List (List Int)}{ss:List Int} (h:Rn n R b T d Ls ss) (p:SvPre n R b):Bd R.length (n+R.length+1) Ls ss∧0<d∧intBits d≤2000:=by
 have g:=h.good
 obtain ⟨a1,a2⟩:=g.abs (M:=20000000) (fun j x hx=>col_abs p.z p.zb j x hx) (by decide)
 have hm:=p.i.hm
 refine ⟨⟨h.l,h.s,h.w,fun r hr x hx=>?_⟩,g.brd.pos,bits_up (intBits_le_iff.mpr (short24 hm a2)) (by decide)⟩
 obtain ⟨k,hk,rfl⟩:=List.mem_iff_getElem.mp hr
 obtain ⟨j,hj,rfl⟩:=List.mem_iff_getElem.mp hx
 have hk':k<R.length:=by rw [← h.l];exact hk
 have e:at2 Ls k j=Ls[k][j]:=by
  unfold at2
  rw [List.getElem?_eq_getElem hk]
  show (Ls[k][j]?).getD 0=_
  rw [List.getElem?_eq_getElem hj];rfl
 rw [← e]
 exact bits_up (intBits_le_iff.mpr (short24 hm (a1 k hk' j))) (by decide)
theorem Rn.top {n:Nat}{R:List (List Int)}{b:List Int}{T:Nat}{d:Int}{Ls:List (List Int)}{ss:List Int} (h:Rn n R b T d Ls ss) : ∀ x ∈ ss,x<(n:Int):=fun x hx=>by
 obtain ⟨k,hk,rfl⟩:=List.mem_iff_getElem.mp hx
 have t:=h.good.top k (by rw [← h.s];exact hk)
 have t:(ss[k]?).getD 0<(n:Int):=t
 rw [List.getElem?_eq_getElem hk] at t
 exact t
theorem Rn.nn {n:Nat}{R:List (List Int)}{b:List Int}{T:Nat}{d:Int}{Ls:List (List Int)}{ss:List Int} (h:Rn n R b T d Ls ss):0≤lackS Ls ss R.length (n+R.length):=sumN_nonneg fun k hk=>by
 have a:0≤at2 Ls k (n+R.length):=h.good.sum k hk
 by_cases q:(ss[k]?).getD 0<0
 ·rw [if_pos q];exact a
 ·rw [if_neg q];omega
theorem shB01:shB 0 1=1∧shT 0 1=0:=by decide
theorem Rn.fit {n:Nat}{R:List (List Int)}{b:List Int}{T:Nat}{d:Int}{Ls:List (List Int)}{ss:List Int} (h:Rn n R b T d Ls ss) (p:SvPre n R b) (h0 : ¬ 0<lackS Ls ss R.length (n+R.length))
 {vs:List (Int×Int)} (hl:vs.length=n) (hv : ∀ u x,vs[u]?=some x→ToldAt d Ls ss R.length (n+R.length+1) R.length u x):FitV n R b vs:=by
  have g:=h.good
  obtain ⟨hB,d0,d1⟩:=h.bd p
  have nn:=h.nn
  have z:lack R.length (staOf Ls ss d) (n+R.length)=0:=by
   have:lackS Ls ss R.length (n+R.length)=0:=by omega
   exact this
  have hd:d≠0:=by omega
  have key : ∀ u x,vs[u]?=some x→(Shr x.1 x.2∧0≤x.1∧x.2∣d∧intBits x.1≤2000)∧valN R.length n (staOf Ls ss d) u=x.1*(d/x.2):=fun u x hx=>by
   rcases hv u x hx with ⟨k,hk,e,rfl⟩|⟨e,rfl⟩
   ·have ev:valN R.length n (staOf Ls ss d) u=at2 Ls k (n+R.length):=g.val hk (by show (ss[k]?).getD 0=_;rw [e];rfl)
    have hN:0≤at2 Ls k (n+R.length):=g.sum k hk
    obtain ⟨row,er⟩ : ∃ row,Ls[k]?=some row:=⟨_,List.getElem?_eq_getElem (by rw [h.l];exact hk)⟩
    have hbits:intBits (at2 Ls k (n+R.length))≤2000:=(hB.at er (by omega)).2
    rw [ev,show n+R.length+1-1=n+R.length from rfl]
    generalize at2 Ls k (n+R.length)=N at *
    obtain ⟨s1,s2⟩:=sh_ok (t:=N) hd
    have s3:=shB_mul N d
    have q1:=s1.pos
    have dv:shB N d∣d:=⟨cm N d,by rw [Int.mul_comm];exact s3.symm⟩
    refine ⟨⟨s1,?_,dv,shT_bits hbits⟩,?_⟩
    ·have:0≤shT N d*d:=by rw [s2];exact Int.mul_nonneg hN (by omega)
     exact Int.nonneg_of_mul_nonneg_left this d0
    ·show N=shT N d*(d/shB N d)
     refine Int.eq_of_mul_eq_mul_right (a:=shB N d) (by omega) ?_
     rw [Int.mul_assoc,Int.ediv_mul_cancel dv,s2]
   ·have ev:valN R.length n (staOf Ls ss d) u=0:=val_none fun k hk y=>e k hk (by
     have y:(ss[k]?).getD 0=(u:Int):=y
     rw [List.getElem?_eq_getElem (by rw [h.s];exact hk)] at y ⊢
     exact congrArg some y)
    obtain ⟨b1,b2⟩:=shB01
    rw [ev,b1,b2]
    exact ⟨⟨⟨by decide,by decide⟩,by decide,⟨d,by omega⟩,intBits_le_iff.mpr (by decide +kernel)⟩,by omega⟩
  refine ⟨hl,d,d0,d1,fun x hx=>?_,fun k hk=>?_⟩
  ·obtain ⟨u,hu⟩:=List.getElem?_of_mem hx
   exact (key u x hu).1
  ·have t:=g.told' p.i.w z hk
   have t:d*(b[k]?).getD 0=_:=t
   rw [t]
   refine sumN_congr fun u hu=>?_
   have hu':vs[u]?=some (vs[u]'(by omega)):=List.getElem?_eq_getElem _
   rw [(key u _ hu').2,hu'];rfl
theorem gRow_zero : ∀ {ws:List Int}{g:Nat},gRow g ws=0→g=0 ∧ ∀ x ∈ ws,x=0
 | [],g,h=>⟨h,fun x hx=>by cases hx⟩
 | w::ws,g,h=>by
  obtain ⟨a,b⟩:=gRow_zero (ws:=ws) (g:=Int.gcd g w) h
  have c:=Int.gcd_eq_zero_iff.mp a
  refine ⟨by omega,fun x hx=>?_⟩
  rcases List.mem_cons.mp hx with rfl|hx
  ·exact c.2
  ·exact b x hx
def wts (Ls:List (List Int)) (ss:List Int) (n m:Nat):List Int:=(List.range m).map fun l=>lackS Ls ss m (n+l)
theorem Rn.none {n:Nat}{R:List (List Int)}{b:List Int}{T:Nat}{d:Int}{Ls:List (List Int)}{ss:List Int} (h:Rn n R b T d Ls ss) (p:SvPre n R b) (h0:0<lackS Ls ss R.length (n+R.length)) (hc : ∀ j,j<n→lackS Ls ss R.length j≤0) :
 0<gRow 0 (wts Ls ss n R.length)∧NoneW n R b ((wts Ls ss n R.length).map fun x=>x/(gRow 0 (wts Ls ss n R.length):Int)):=by
  obtain ⟨e1,e2⟩:=h.good.none' p.i.w
  have wl:(wts Ls ss n R.length).length=R.length:=by simp [wts]
  have wa : ∀ l,l<R.length→((wts Ls ss n R.length)[l]?).getD 0=lackS Ls ss R.length (n+l):=fun l hl=>by
   unfold wts;rw [List.getElem?_map,List.getElem?_range hl];rfl
  have e1 : ∀ j,j<n→(sumN R.length fun l=>at2 R l j*lackS Ls ss R.length (n+l))=lackS Ls ss R.length j:=e1
  have e2:(sumN R.length fun l=>(b[l]?).getD 0*lackS Ls ss R.length (n+l))=lackS Ls ss R.length (n+R.length):=e2
  have gp:0<gRow 0 (wts Ls ss n R.length):=by
   rcases Nat.eq_zero_or_pos (gRow 0 (wts Ls ss n R.length)) with z|z
   ·have a:=(gRow_zero z).2
    rw [sumN_zero fun l hl=>by
     have:lackS Ls ss R.length (n+l)=0:=a _ (List.mem_map.mpr ⟨l,List.mem_range.mpr hl,rfl⟩)
     rw [this,Int.mul_zero]] at e2
    omega
   ·exact z
  have dv:=gRow_dvd (wts Ls ss n R.length) 0
  refine ⟨gp,?_⟩
  generalize gRow 0 (wts Ls ss n R.length)=g at *
  have at' : ∀ l,l<R.length→(g:Int)*((((wts Ls ss n R.length).map fun x=>x/(g:Int))[l]?).getD 0)=lackS Ls ss R.length (n+l):=fun l hl=>by
   have e:(wts Ls ss n R.length)[l]?=some (lackS Ls ss R.length (n+l)):=by unfold wts;rw [List.getElem?_map,List.getElem?_range hl];rfl
   rw [List.getElem?_map,e]
   show (g:Int)*(lackS Ls ss R.length (n+l)/(g:Int))=_
   exact Int.mul_ediv_cancel' (dv _ (List.mem_of_getElem? e))
  have gi:(0:Int)<g:=by omega
  refine ⟨by rw [List.length_map,wl],fun j hj=>?_,?_⟩
  ·have q:(g:Int)*(sumN R.length fun l=>at2 R l j*((((wts Ls ss n R.length).map fun x=>x/(g:Int))[l]?).getD 0))=lackS Ls ss R.length j:=by
    rw [← e1 j hj,← sumN_mul]
    exact sumN_congr fun l hl=>by rw [← at' l hl];grind
   have c:=hc j hj
   rcases Int.lt_or_le 0 (sumN R.length fun l=>at2 R l j*((((wts Ls ss n R.length).map fun x=>x/(g:Int))[l]?).getD 0)) with y|y
   ·have:=Int.mul_pos gi y
    omega
   ·exact y
  ·have q:(g:Int)*(sumN R.length fun l=>(b[l]?).getD 0*((((wts Ls ss n R.length).map fun x=>x/(g:Int))[l]?).getD 0))=lackS Ls ss R.length (n+R.length):=by
    rw [← e2,← sumN_mul]
    exact sumN_congr fun l hl=>by rw [← at' l hl];grind
   rw [← q] at h0
   rw [Int.mul_comm] at h0
   exact Int.pos_of_mul_pos_left h0 gi
theorem Rn.gbits {n:Nat}{R:List (List Int)}{b:List Int}{T:Nat}{d:Int}{Ls:List (List Int)}{ss:List Int} (h:Rn n R b T d Ls ss) (p:SvPre n R b) (h0:0<lackS Ls ss R.length (n+R.length)):intBits (gRow 0 (wts Ls ss n R.length):Int)≤9000:=by
 have g:=h.good
 obtain ⟨a1,_⟩:=g.abs (M:=20000000) (fun j x hx=>col_abs p.z p.zb j x hx) (by decide)
 have hm:=p.i.hm
 have e2:(sumN R.length fun l=>(b[l]?).getD 0*lackS Ls ss R.length (n+l))=lackS Ls ss R.length (n+R.length):=(g.none' p.i.w).2
 rw [← e2] at h0
 obtain ⟨l,hl,q⟩:=sumN_pos h0
 have nz:lackS Ls ss R.length (n+l)≠0:=fun z=>by rw [z,Int.mul_zero] at q;omega
 have dv:=gRow_dvd (wts Ls ss n R.length) 0 (lackS Ls ss R.length (n+l)) (List.mem_map.mpr ⟨l,List.mem_range.mpr hl,rfl⟩)
 have le:gRow 0 (wts Ls ss n R.length)≤(lackS Ls ss R.length (n+l)).natAbs:=Nat.le_of_dvd (by omega) (Int.ofNat_dvd_left.mp dv)
 have ab:(lackS Ls ss R.length (n+l)).natAbs≤R.length*2^700:=sumN_abs fun k hk=>by
  by_cases q:(ss[k]?).getD 0<0
  ·rw [if_pos q]
   exact Nat.le_of_lt (short24 hm (a1 k hk (n+l)))
  ·rw [if_neg q];exact Nat.zero_le _
 refine bits_up (intBits_le_iff (m:=710).mpr ?_) (by decide)
 have:R.length*2^700≤24*2^700:=Nat.mul_le_mul_right _ hm
 have t:24*2^700<2^710:=by decide +kernel
 rw [Int.natAbs_natCast]
 omega
theorem sIx_int {n d:Nat}{v:Int} (h:0≤v):HT.sIx n d (some v)=min v.toNat n:=by
 show (if v<0 then _ else _)=_
 rw [if_neg (by omega)]
theorem cut_to {α:Type} (l:List α) {j:Int} (h:0≤j):cutL l none (some j)=l.take j.toNat:=by
 unfold cutL
 rw [sIx_int h,HT.sIx_none,List.drop_zero,Nat.sub_zero]
 by_cases h1:j.toNat≤l.length
 ·rw [Nat.min_eq_left h1]
 ·rw [Nat.min_eq_right (by omega),List.take_of_length_le (Nat.le_refl _),List.take_of_length_le (by omega)]
def sp_solved (ds:List PyData) (q:PyData→Prop):Prop := ∃ (n:Nat) (R:List (List Int)) (b:List Int),ds=[dRows R,.list (b.map .int)]∧SvPre n R b∧(∀ vs,FitV n R b vs→q (.tuple [.str "fits",.list (vs.map fun x=>dSh x.1 x.2)])) ∧ ∀ ws,NoneW n R b ws→q (.tuple [.str "none",.list (ws.map .int)])
theorem BAt.go {K:PySem.W.Frag}{C:Addr}{H F H' F':Hp}{a dx qa:Addr}{n:Nat}{d:Int}{Ls:List (List Int)}{ss:List Int}{vl:V} (h:BAt K C H F a dx qa n d Ls ss vl) (g:Go F H F' H'):BAt K C H' F' a dx qa n d Ls ss vl :=
 ⟨g.h _ _ h.ha,h.hl.mono g.f,g.h _ _ h.hq,go_none g h.ha h.fa,go_none g h.hq h.fq⟩
def lkD (n m:Nat) (Ls:List (List Int)) (ss:List Int):PyData :=.list (((List.range (n+m+1)).map (lackS Ls ss m)).map .int)
theorem lack_at {K:PySem.W.Frag}{C:Addr}{H F:Hp}{a dx qa:Addr}{n m:Nat}{d:Int}{Ls:List (List Int)}{ss:List Int}{vl:V} (hA:BAt K C H F a dx qa n d Ls ss vl) (sm:Same F H) (hB:Bd m (n+m+1) Ls ss) (hn:n≤20) (hm:m≤24) {Q:VK}{E:XK}
 (k : ∀ F' H' vk,Go F H F' H'→Is K F' (lkD n m Ls ss) vk→Q vk H'):OFSp K C sp_lack [.ref a] H Q E:=by
  refine ⟨a,dx,_,[],upd F qa (.lst (ss.map V.int)),bNm,bFs n d Ls ss,[],fun l=>l=((List.range (n+m+1)).map (lackS Ls ss m)).map .int,rfl,hA.ha,same_upd sm hA.hq,hA.flds,iss_nil,⟨n,d,Ls,ss,m,rfl,rfl,rfl,⟨hB,hn,hm⟩,rfl⟩,fun l lb xs F' H' g hb1 hb2 hb3 hi q=>?_⟩
  subst q
  have ex:=hi.ints_inv
  subst ex
  exact k _ H' (.ref lb) (go_fz (cut_go hA.fq hA.hq g) hb1 hb3) (is_lst (SqL.of upd_same) (iss_ints _))
theorem flat_sh : ∀ vs:List (Int×Int),flatDs (vs.map fun x=>dSh x.1 x.2)=true
 | []=>rfl
 | x::r=>by
  rw [List.map_cons]
  unfold flatDs
  rw [flat_sh r]
  simp [dSh,flatD,flatDs]
theorem told_at {K:PySem.W.Frag}{C:Addr}{H F:Hp}{a dx qa:Addr}{n m w:Nat}{d:Int}{Ls:List (List Int)}{ss:List Int}{vl:V} (hA:BAt K C H F a dx qa n d Ls ss vl) (sm:Same F H) (hB:Bd m w Ls ss∧0<d∧intBits d≤2000∧1≤w∧n≤900 ∧ ∀ x ∈ ss,x<(n:Int)) {Q:VK}{E:XK}
 (k : ∀ (vs:List (Int×Int)) lb xs F' H',Go F H F' H'→vs.length=n→(∀ u x,vs[u]?=some x→ToldAt d Ls ss m w m u x)→H lb=none→H' lb=some (.lst xs)→Iss K F' (vs.map fun x=>dSh x.1 x.2) xs→Q (.ref lb) H'):OFSp K C sp_told [.ref a] H Q E:=by
  refine ⟨a,dx,_,[],upd F qa (.lst (ss.map V.int)),bNm,bFs n d Ls ss,[],fun l => ∃ vs:List (Int×Int),l=(vs.map fun x=>dSh x.1 x.2)∧vs.length=n ∧ ∀ u x,vs[u]?=some x→ToldAt d Ls ss m w m u x,rfl,hA.ha,same_upd sm hA.hq,hA.flds,iss_nil,⟨n,d,Ls,ss,m,w,rfl,rfl,rfl,hB,fun vs h1 h2=>⟨vs,rfl,h1,h2⟩⟩,fun l lb xs F' H' g hb1 hb2 hb3 hi q=>?_⟩
  obtain ⟨vs,rfl,h1,h2⟩:=q
  exact k vs lb xs _ H' (cut_go hA.fq hA.hq g) h1 h2 hb1 hb3 (Iss.off (g.f.at upd_same) (flat_sh vs) hi)
theorem cut_last {α:Type} (l:List α) {i:Nat} (h:i+1≤l.length):cutL l (some (i:Int)) (some (-1))=(l.drop i).take (l.length-1-i):=by
 have e:HT.sIx l.length l.length (some (-1))=l.length-1:=by
  show (if (-1:Int)<0 then ((-1:Int)+(l.length:Int)).toNat else min (-1:Int).toNat l.length)=l.length-1
  rw [if_pos (by decide)]
  omega
 unfold cutL
 rw [HT.sIx_nat,e,Nat.min_eq_left (by omega)]
theorem lk_take {n m:Nat}{Ls:List (List Int)}{ss:List Int}:cutL (((List.range (n+m+1)).map (lackS Ls ss m)).map PyData.int) none (some (n:Int))=((List.range n).map (lackS Ls ss m)).map .int:=by
 rw [cut_to _ (by omega),← List.map_take,← List.map_take,List.take_range,Int.toNat_natCast,Nat.min_eq_left (by omega)]
theorem lk_mid {n m:Nat}{Ls:List (List Int)}{ss:List Int}:cutL (((List.range (n+m+1)).map (lackS Ls ss m)).map PyData.int) (some (n:Int)) (some (-1))=(wts Ls ss n m).map .int:=by
 rw [cut_last _ (by simp)]
 refine List.ext_getElem? fun k=>?_
 by_cases hk:k<m
 ·rw [List.getElem?_take_of_lt (by simp;omega),List.getElem?_drop,List.getElem?_map,List.getElem?_map,List.getElem?_range (by omega)]
  unfold wts
  rw [List.getElem?_map,List.getElem?_map,List.getElem?_range hk];rfl
 ·rw [List.getElem?_eq_none (by simp;omega),List.getElem?_eq_none (by simp [wts];omega)]
theorem meth0_go {C:Addr}{m:Str}{sp:Sp}{σ:St}{H:Hp}{Q:VK}{i:Nat}{a dx:Addr}{fs:List (Str×V)} (e:σ[i]?=some (some (.ref a))) (h:H a=some (.ins C dx fs)) (l:fs.lookup m=none) (k:sp [.ref a] H Q E0):tMeth C m sp [] E0 (tVar i) tNil σ H Q:=⟨_,e,a,dx,fs,rfl,h,l,k⟩
theorem len6 {α:Type}{l:List α} (h:l.length=6) : ∃ a0 a1 a2 a3 a4 a5,l=[a0,a1,a2,a3,a4,a5]:=by
 match l,h with
 | [a0,a1,a2,a3,a4,a5],_=>exact ⟨a0,a1,a2,a3,a4,a5,rfl⟩
def SvW (K:PySem.W.Frag) (C:Addr) (F H:Hp) (n:Nat) (R:List (List Int)) (b:List Int) (mm:Nat) (σ:St) (H1:Hp):Prop := ∃ T d Ls ss F1 a dx qa vl vr vb vk o5,
 mm+T=(n+R.length)^R.length∧σ=[some vr,some vb,some (.int n),some (.ref a),some vk,o5]∧Go F H F1 H1∧BAt K C H1 F1 a dx qa n d Ls ss vl∧H a=none∧H qa=none ∧
 Is K F1 (dRows R) vr∧Is K F1 (.list (b.map .int)) vb∧Is K F1 (lkD n R.length Ls ss) vk∧Rn n R b T d Ls ss
theorem sc_solved:FnScope ["rows","sums","unknowns","board","lack","place"] ["rows","sums"] (defScope s_solved):=sc0
theorem ok_solved (F:Def K mg "solved" s_solved ["rows","sums"]) (T:Txt K mg cs)
 (O_first_above:Ok P w K mg base "first_above" 1 ["numbers"] (PSp K sp_first_above))
 (O_lowest:Ok P w K mg base "lowest" 2 ["weights"] (FSp K sp_lowest))
 (O_Board___init__:OkM P w K mg base cs.Board "__init__" 2 ["self","unknowns","rows","sums"] (initSp K cs.Board))
 (O_Board_lack:OkM P w K mg base cs.Board "lack" 1 ["self"] (OFSp K cs.Board sp_lack))
 (O_Board_bring_in:OkM P w K mg base cs.Board "bring_in" 3 ["self","place"] (bringSp K cs.Board))
 (O_Board_told:OkM P w K mg base cs.Board "told" 4 ["self"] (OFSp K cs.Board sp_told))
 : Ok P w K mg base "solved" 5 ["rows","sums"] (SolSp K sp_solved):=by
  refine F.ok sc_solved (by rintro vs H Q E ⟨F,ds,q,_,i,⟨_,_,_,h,_⟩,_⟩;rw [i.len,h];rfl) fun f cdv A outer s H vs Q E hr h=>?_
  obtain ⟨F0,ds,q,sm,hi,⟨n,R,b,rfl,hp,k1,k2⟩,kk⟩:=h
  obtain ⟨f1,fd1,F1,hm1,hb1⟩:=O_Board_lack.ex
  obtain ⟨f2,fd2,F2,hm2,hb2⟩:=O_Board_bring_in.ex
  obtain ⟨f3,fd3,F3,hm3,hb3⟩:=O_Board_told.ex
  obtain ⟨f4,fd4,F4,hm4,hb4⟩:=O_Board___init__.ex
  refine ⟨_,pss_cons (VS.ps (vs_set (i:=2) sc_solved.nd (ve_ifExp (vt_tru (ve_var 0)) (ve_callB c_len T.len_ L2.boot_len (va_cons (ve_ix (ve_var 0) ve_int) va_nil)) ve_int))) (pss_cons (VS.ps (vs_if (VW.pt (vw_or (vt_cmp o_gt (ve_var 2) (ve_globI T.MOST_UNKNOWNS_)) (vw_or1 (vt_cmp o_gt (ve_callB c_len T.len_ L2.boot_len (va_cons (ve_var 0) va_nil)) (ve_globI T.MOST_ROWS_))))) vss_never vss_nil)) (pss_cons (ps_set (i:=3) sc_solved.nd rfl (by first|exact Or.inl rfl|exact Or.inr rfl) (pe_make ⟨T.Board_mk,hm4.at_,hm4.fn,T.Board_kp⟩ F4 (hr.mono (by decide)) rfl T.Board_ hb4 .nil pass0 (pa_cons (pv 2) (pa_cons (pv 0) (pa_cons (pv 1) pa_nil)))) rfl (by first|exact .inl rfl|exact .inr rfl))
   (pss_cons (ps_set (i:=4) sc_solved.nd rfl (by first|exact Or.inl rfl|exact Or.inr rfl) (pe_meth0 (pv 3) T.Board_c hm1 F1 (hr.mono (by decide)) hb1 .nil pass0) rfl (by first|exact .inl rfl|exact .inr rfl))
   (pss_cons (ps_while PassesOwn.never (VT.pt (vt_cmp o_gt (ve_ix (ve_var 4) (ve_neg ve_int)) ve_int)) (pss_cons (VS.ps (vs_set (i:=5) sc_solved.nd (ve_fn O_first_above.c (hr.mono (by decide)) (va_cons (vf_fz (vf_slice (ve_var 4) vo_none (vo_some (ve_var 2)))) va_nil)))) (pss_cons (ps_if (VT.pt (vt_cmp o_isN (ve_var 5) ve_non)) (pss_one (ps_ret (pe_tup (pa_cons pe_str (pa_cons (VF.pe (vf_fn O_lowest.c (hr.mono (by decide)) (va_cons (vf_fz (vf_slice (ve_var 4) (vo_some (ve_var 2)) (vo_some (ve_neg ve_int)))) va_nil))) pa_nil))))) pss_nil) (pss_cons (ps_expr (pe_meth (pv 3) T.Board_c hm2 F2 (hr.mono (by decide)) hb2 .nil pass0 (pa_cons (pv 5) pa_nil))) (pss_one (ps_set (i:=4) sc_solved.nd rfl (by first|exact Or.inl rfl|exact Or.inr rfl) (pe_meth0 (pv 3) T.Board_c hm1 F1 (hr.mono (by decide)) hb1 .nil pass0) rfl (by first|exact .inl rfl|exact .inr rfl)))))))
   (pss_one (ps_ret (pe_tup (pa_cons pe_str (pa_cons (pe_meth0 (pv 3) T.Board_c hm3 F3 (hr.mono (by decide)) hb3 .nil pass0) pa_nil))))))))),?_⟩
  have hn20:=hp.i.hn
  have hm24:=hp.i.hm
  refine ⟨⟨H,H,F0⟩,_,F0,{ nx:=fun e=>e=[.val (dRows R),.val (.list (b.map .int)),.val (.int n),.non,.non,.non],rt:=fun _ _=>False },env_start sm hi,?_,⟨fun e1 F1 H1 σ1 I1 s1 q1=>?_,fun _ _ _ _ _ _ _ _ _ q=>q.elim,fun _ _ _ _ _ _ q=>q.elim,fun _ _ _ _ _ _ q=>q.elim⟩⟩
  ·have hR0:R≠[]:=fun z=>by have:=hp.m1;rw [z] at this;simp at this
   obtain ⟨r0,R0,eR⟩:=List.exists_cons_of_ne_nil hR0
   have l0:r0.length=n:=hp.i.w r0 (by rw [eR];simp)
   have aR:atI (R.map dRow) 0=some (dRow r0):=by rw [eR];exact atI_zero _ _
   have eT:truD (dRows R)=true:=by rw [eR];rfl
   refine ⟨fun x z=>(by cases z),?_⟩
   show if truD (dRows R)=true then _ else _
   rw [if_pos eT]
   refine ⟨dRow r0,aR,?_⟩
   show (_:Sto)=_
   rw [show ((r0.map PyData.int).length:Int)=n by rw [List.length_map,l0]]
   rfl
  have q1:e1=_:=q1
  subst q1
  refine ⟨⟨H,H,F0⟩,_,F1,{ nx:=fun e=>e=[.val (dRows R),.val (.list (b.map .int)),.val (.int n),.non,.non,.non],rt:=fun _ _=>False },I1,?_,⟨fun e2 F2 H2 σ2 I2 s2 q2=>?_,fun _ _ _ _ _ _ _ _ _ q=>q.elim,fun _ _ _ _ _ _ q=>q.elim,fun _ _ _ _ _ _ q=>q.elim⟩⟩
  ·refine iteD (fun z=>by exfalso;omega) (fun _=>?_)
   refine iteD (fun z=>by exfalso;rw [List.length_map] at z;omega) (fun _=>?_)
   rfl
  have q2:e2=_:=q2
  subst q2
  have g2:=I2.goOf
  obtain ⟨x0,x1,x2,x3,x4,x5,eσ⟩:=len6 I2.len.symm
  obtain ⟨vr,e0,ir⟩:=(show ∃ v,x0=some v∧Is K F2 (dRows R) v by have:=I2.slot 0;rw [eσ] at this;exact this)
  obtain ⟨vb,e1,ib⟩:=(show ∃ v,x1=some v∧Is K F2 (.list (b.map .int)) v by have:=I2.slot 1;rw [eσ] at this;exact this)
  obtain ⟨v2,e2,i2⟩:=(show ∃ v,x2=some v∧Is K F2 (.int n) v by have:=I2.slot 2;rw [eσ] at this;exact this)
  rw [i2.int_inv] at e2
  rw [e0,e1,e2] at eσ
  subst eσ
  refine ⟨.int n,rfl,vr,rfl,vb,rfl,fun x dx hx hdx hne=>?_⟩
  have h2x:upd H2 dx (.own x) x=none:=by rw [upd_ne (Ne.symm hne)];exact hx
  have gm:Go F0 H F2 (upd (upd H2 dx (.own x)) x (.ins cs.Board dx [])):=g2.trans ((Go.side g2.fh hdx).trans (Go.side (g2.fh.trans (same_new hdx)) h2x))
  refine ⟨x,dx,F2,vr,vb,n,R,b,rfl,upd_same,same_none g2.fh hx,gm.fh,ir,ib,hp.i,fun F3 H3 vl qa hqa gx hA=>⟨rfl,?_⟩⟩
  have na:H x=none:=same_none g2.h hx
  have nq:H qa=none:=same_none gm.h hqa
  have g3:=GoX.go gm gx na nq
  have rn0:=Rn.first hp
  refine meth0_go rfl hA.ha rfl (lack_at hA g3.fh (rn0.bd hp).1 hn20 hm24 fun F4 H4 vk g4 ik=>?_)
  refine ⟨SvW K cs.Board F0 H n R b,⟨(n+R.length)^R.length,0,_,_,_,F4,x,dx,qa,vl,vr,vb,vk,_,rfl,rfl,g3.trans g4,hA.go g4,na,nq,(ir.mono gx.f).mono g4.f,(ib.mono gx.f).mono g4.f,ik,rn0⟩,?_⟩
  clear rn0 ik g4 hA gx g3 nq na hqa gm h2x hne hdx hx ir ib g2 I2 s2 I1 s1
  rintro mm σ H1 ⟨T',d,Ls,ss,F1,a,dx,qa,vl,vr,vb,vk,o5,hT,rfl,g,hA,na,nq,ir,ib,ik,rn⟩
  obtain ⟨hB,d0,d1⟩:=rn.bd hp
  have hE:EnvOk K ⟨H1,H1,F1⟩ F1 H1 [.val (dRows R),.val (.list (b.map .int)),.val (.int n),.obj a cs.Board bNm [],.val (lkD n R.length Ls ss),.non] [some vr,some vb,some (.int n),some (.ref a),some vk,o5] :=
   env_of g.fh ⟨_,_,rfl,⟨⟨vr,rfl,ir⟩,rfl⟩,_,_,rfl,⟨⟨vb,rfl,ib⟩,rfl⟩,_,_,rfl,⟨⟨_,rfl,is_int _⟩,rfl⟩,_,_,rfl,⟨⟨dx,_,rfl,hA.ha,rfl,fun f d z=>by cases z⟩,rfl⟩,_,_,rfl,⟨⟨vk,rfl,ik⟩,rfl⟩,_,_,rfl,⟨trivial,rfl⟩,rfl⟩
  refine ⟨⟨H1,H1,F1⟩,_,F1,fun bb e=>bb=decide (0<lackS Ls ss R.length (n+R.length))∧e=[.val (dRows R),.val (.list (b.map .int)),.val (.int n),.obj a cs.Board bNm [],.val (lkD n R.length Ls ss),.non],hE,?_,fun bb F2 H2 e2 I2 s2 q2=>?_⟩
  ·refine ⟨.int (lackS Ls ss R.length (n+R.length)),atI_last ?_,?_⟩
   ·rw [List.length_map,List.length_map,List.length_range,Nat.add_sub_cancel,List.getElem?_map,List.getElem?_map,List.getElem?_range (by omega)];rfl
   ·exact ⟨rfl,rfl⟩
  obtain ⟨rfl,rfl⟩:=q2
  by_cases h0:0<lackS Ls ss R.length (n+R.length)
  ·rw [decide_eq_true h0,if_pos rfl]
   refine ⟨fun σ' H' => ∃ m',m'<mm∧SvW K cs.Board F0 H n R b m' σ' H',fun σ' H' z=>z,?_⟩
   refine ⟨⟨H1,H1,F1⟩,_,F2,{ nx:=fun e => ∃ dd,((dd = .none ∧ ∀ j,j<n→lackS Ls ss R.length j≤0) ∨ ∃ c:Nat,dd = .int c∧c<n∧0<lackS Ls ss R.length c ∧ ∀ j,j<c→lackS Ls ss R.length j≤0)∧e=[.val (dRows R),.val (.list (b.map .int)),.val (.int n),.obj a cs.Board bNm [],.val (lkD n R.length Ls ss),.val dd],rt:=fun _ _=>False },I2,?_,⟨fun e3 F3 H3 σ3 I3 s3 q3=>?_,fun _ _ _ _ _ _ _ _ _ q=>q.elim,fun _ _ _ _ _ _ q=>q.elim,fun _ _ _ _ _ _ q=>q.elim⟩⟩
   ·rintro r rfl
    rw [lk_take]
    refine ⟨(List.range n).map (lackS Ls ss R.length),rfl,fun z=>⟨.none,.inl ⟨rfl,fun j hj=>z _ (List.mem_map.mpr ⟨j,List.mem_range.mpr hj,rfl⟩)⟩,rfl⟩,fun c x z x0 zj=>?_⟩
    have hc:c<n:=by
     have:=(List.getElem?_eq_some_iff.mp z).1
     simpa using this
    rw [List.getElem?_map,List.getElem?_range hc] at z
    have z:=Option.some.inj z
    refine ⟨.int c,.inr ⟨c,rfl,hc,by rw [z];exact x0,fun j hj=>zj j _ hj ?_⟩,rfl⟩
    rw [List.getElem?_map,List.getElem?_range (by omega)];rfl
   obtain ⟨dd,hdd,rfl⟩:=q3
   refine ⟨⟨H1,H1,F1⟩,_,F3,fun bb e=>bb=isNoneD dd∧e=[.val (dRows R),.val (.list (b.map .int)),.val (.int n),.obj a cs.Board bNm [],.val (lkD n R.length Ls ss),.val dd],I3,?_,fun bb F4 H4 e4 I4 s4 q4=>?_⟩
   ·exact ⟨rfl,rfl,rfl⟩
   obtain ⟨rfl,rfl⟩:=q4
   rcases hdd with ⟨rfl,hc⟩|⟨c,rfl,c1,c2,c3⟩
   ·show if true=true then _ else _
    rw [if_pos rfl]
    obtain ⟨gp,hW⟩:=rn.none hp h0 hc
    refine ⟨⟨H1,H1,F1⟩,_,F4,fun ds e=>ds=((wts Ls ss n R.length).map fun x=>x/(gRow 0 (wts Ls ss n R.length):Int)).map .int,I4,?_,fun la xs ds F5 H5 e5 I5 s5 h1 h2 h3 h4 h5 h6 h7=>⟨szl,fun p hpp=>?_⟩⟩
    ·rintro r rfl
     rw [lk_mid]
     exact ⟨wts Ls ss n R.length,rfl,⟨by simp [wts];omega,gp,rn.gbits hp h0⟩,rfl⟩
    subst h7
    obtain ⟨F6,g6,i6,p1,p2⟩:=sol_fin (w := "none") (g.trans I5.goOf) (same_none g.h h4) h1 h6 hpp
    exact kk _ _ p la xs F6 _ g6 i6 p1 (same_none g.h h4) p2 (by rw [h6.len];simp [wts];omega) (k2 _ hW)
   ·show if false=true then _ else _
    rw [if_neg (by decide)]
    have g4:=I4.goOf
    have A4:=hA.go g4
    obtain ⟨x0,x1,x2,x3,x4,x5,eσ⟩:=len6 I4.len.symm
    obtain ⟨vr',e0,ir'⟩:=(show ∃ v,x0=some v∧Is K F4 (dRows R) v by have:=I4.slot 0;rw [eσ] at this;exact this)
    obtain ⟨vb',e1,ib'⟩:=(show ∃ v,x1=some v∧Is K F4 (.list (b.map .int)) v by have:=I4.slot 1;rw [eσ] at this;exact this)
    obtain ⟨v2,e2,i2⟩:=(show ∃ v,x2=some v∧Is K F4 (.int n) v by have:=I4.slot 2;rw [eσ] at this;exact this)
    have e3:x3=some (.ref a):=by
     have:=I4.slot 3
     rw [eσ] at this
     obtain ⟨_,_,z,_⟩:=this
     exact z
    obtain ⟨v5,e5,i5⟩:=(show ∃ v,x5=some v∧Is K F4 (.int c) v by have:=I4.slot 5;rw [eσ] at this;exact this)
    obtain ⟨vk',e4,_⟩:=(show ∃ v,x4=some v∧Is K F4 (lkD n R.length Ls ss) v by have:=I4.slot 4;rw [eσ] at this;exact this)
    rw [i2.int_inv] at e2
    rw [i5.int_inv] at e5
    rw [e0,e1,e2,e3,e4,e5] at eσ
    subst eσ
    refine ⟨.ref a,rfl,a,dx,_,rfl,A4.ha,rfl,.int c,rfl,a,dx,qa,F4,vl,n,d,Ls,ss,R.length,c,rfl,A4,I4.fh,⟨hB,c1,hm24,hn20,d0,d1,lack_pos (b:=staOf Ls ss d) c2⟩,fun F5 H5 vl' r hr' ht gx A5=>?_⟩
    have rn':=rn.next c1 c2 c3 hr' ht
    have gg:=GoX.go (g.trans g4) gx na nq
    have hS:=rn'.short
    refine meth0_go rfl A5.ha rfl (lack_at A5 gx.fh (rn'.bd hp).1 hn20 hm24 fun F6 H6 vk6 g6 ik6=>?_)
    exact ⟨(n+R.length)^R.length-(T'+1),by omega,T'+1,_,_,_,F6,a,dx,qa,vl',vr',vb',vk6,_,by omega,rfl,gg.trans g6,A5.go g6,na,nq,(ir'.mono gx.f).mono g6.f,(ib'.mono gx.f).mono g6.f,ik6,rn'⟩
  ·rw [decide_eq_false h0,if_neg (by decide)]
   have g2:=I2.goOf
   have A2:=hA.go g2
   refine meth0_go rfl A2.ha rfl (told_at A2 I2.fh ⟨hB,d0,d1,by omega,by omega,rn.top⟩ fun vs lb xs F3 H3 g3 hv1 hv2 hlb hH3 iss=>⟨szl,fun p hpp=>?_⟩)
   have nl:H lb=none:=same_none (g.trans g2).h hlb
   obtain ⟨F6,g6,i6,p1,p2⟩:=sol_fin (w := "fits") ((g.trans g2).trans g3) nl hH3 iss hpp
   exact kk _ _ p lb xs F6 _ g6 i6 p1 nl p2 (by rw [iss.len,List.length_map];omega) (k1 vs (rn.fit hp h0 hv1 hv2))
def sp__law_cell (ds:List PyData) (q:PyData→Prop):Prop := ∃ (ns:List Int) (k:Int),ds=[.list (ns.map .int),.int k]∧(0≤k∧k≤1000∧ns.length≤63) ∧ ∀ z:Int,q (.int z)
theorem sc__law_cell:FnScope ["_law_script","_law_k"] ["_law_script","_law_k"] (defScope s__law_cell):=sc0
theorem ok__law_cell (F:Def K mg "_law_cell" s__law_cell ["_law_script","_law_k"]) (T:Txt K mg cs)
 : Ok P w K mg base "_law_cell" 1 ["_law_script","_law_k"] (PSp K sp__law_cell):=by
  refine F.vok sc__law_cell (by rintro ds q ⟨_,_,h,_⟩;rw [h];rfl) fun f cdv A outer s H E hr ds q h=>?_
  obtain ⟨ns,k,rfl,⟨k0,k1,hl⟩,h⟩:=h
  refine ⟨_,(vss_cons (vs_if (vt_cmp o_lt (ve_var 1) (ve_callB c_len T.len_ L2.boot_len (va_cons (ve_var 0) va_nil))) (vss_one (vs_ret (ve_ix (ve_var 0) (ve_var 1)))) vss_nil)
   (vss_cons (vs_if (vt_cmp (o_eq hr.units) (ve_callB c_len T.len_ L2.boot_len (va_cons (ve_var 0) va_nil)) ve_int) (vss_one (vs_ret (ve_op o_add (ve_op o_add (ve_op o_mulI (ve_op o_mulI (ve_var 1) (ve_var 1)) ve_int) (ve_op o_mulI ve_int (ve_var 1))) ve_int))) vss_nil)
   (vss_one (vs_ret (ve_op o_add (ve_op o_mulI (ve_ix (ve_var 0) (ve_op o_mod (ve_var 1) (ve_callB c_len T.len_ L2.boot_len (va_cons (ve_var 0) va_nil)))) (ve_op o_add (ve_var 1) ve_int)) (ve_op o_mulI (ve_op o_mulI (ve_var 1) (ve_var 1)) ve_int)))))),?_⟩
  refine iteD (fun hlt=>?_) (fun hge=>?_)
  ·obtain ⟨n,en⟩:=atI_ints (ns:=ns) k0 (by simpa using hlt)
   exact ⟨_,en,h n⟩
  refine ⟨rfl,rfl,ite_eq (fun z=>?_) (fun z=>?_)⟩
  ·exact ⟨IntMulOk.of_left (bits64 (by omega) (by omega)),IntMulOk.of_right (by decide),IntMulOk.of_left (by decide),h _⟩
  ·have hp:0<(((ns.map PyData.int).length:Nat):Int):=by omega
   obtain ⟨n,en⟩:=atI_ints (ns:=ns) (i:=k%(((ns.map PyData.int).length:Nat):Int)) (Int.emod_nonneg _ (by omega)) (by have:=Int.emod_lt_of_pos k hp;simpa using this)
   exact ⟨hp,_,en,IntMulOk.of_right (bits64 (by omega) (by omega)),IntMulOk.of_left (bits64 (by omega) (by omega)),IntMulOk.of_right (by decide),h _⟩
def sp__law_drawnC (ds:List PyData) (q:PyData→Prop):Prop := ∃ (c base many:Int),ds=[.int c,.int base,.int many]∧(1≤base∧base≤1000000∧0≤many∧many≤60) ∧ ∀ xs:List Int,xs.length=many.toNat→(∀ x ∈ xs,0≤x∧x<base)→q (.list (xs.map .int))
theorem sc__law_drawn:FnScope ["_law_cell_here","_law_base","_law_many","_law_found","_law_left","_law_k","_law_number"] ["_law_cell_here","_law_base","_law_many"] (defScope s__law_drawn):=sc0
theorem ok__law_drawn (F:Def K mg "_law_drawn" s__law_drawn ["_law_cell_here","_law_base","_law_many"]) (T:Txt K mg cs)
 : Ok P w K mg base "_law_drawn" 1 ["_law_cell_here","_law_base","_law_many"] (PSp K sp__law_drawnC):=by
  refine F.vok sc__law_drawn (by rintro ds q ⟨_,_,_,h,_⟩;rw [h];rfl) fun f cdv A outer s H E hr ds q h=>?_
  obtain ⟨c,base,many,rfl,⟨b1,b2,m0,m1⟩,h⟩:=h
  refine ⟨_,(vss_cons (vs_setO (i:=3) sc__law_drawn.nd (vf_lst va_nil))
   (vss_cons (vs_set (i:=4) sc__law_drawn.nd (ve_op o_div (ve_var 0) ve_int))
   (vss_cons (vs_for rfl (vi_range1 T.range_ (ve_var 2)) (vg_name (i:=5) sc__law_drawn.nd) (vss_cons (vs_set (i:=6) sc__law_drawn.nd (ve_var 4))
   (vss_mid (vs_if (vt_cmp (o_eq hr.units) (ve_op o_mod (ve_var 0) ve_int) ve_int) (vss_cons (vs_set (i:=6) sc__law_drawn.nd (ve_op o_add (ve_op o_add (ve_op o_mod (ve_var 0) ve_int) (ve_op o_mulI ve_int (ve_var 5))) ve_int))
   (vss_cons (vs_set (i:=6) sc__law_drawn.nd (ve_op o_mod (ve_op o_mulI (ve_var 6) (ve_op o_add (ve_op o_add (ve_op o_mod (ve_var 0) ve_int) (ve_op o_mulI (ve_var 5) (ve_var 5))) ve_int)) ve_int))
   (vss_one (vs_set (i:=6) sc__law_drawn.nd (ve_op o_mod (ve_op o_add (ve_op o_mulI (ve_var 6) (ve_var 6)) (ve_op o_mulI ve_int (ve_var 5))) ve_int))))) vss_nil)
   (vss_cons (vs_append 3 (ve_op o_mod (ve_var 6) (ve_var 1)))
   (vss_one (vs_set (i:=4) sc__law_drawn.nd (ve_op o_div (ve_var 4) (ve_var 1))))))))
   (vss_one (vs_retO 3))))),?_⟩
  have mb : ∀ x:Int,intBits (x%2147483629)≤64:=fun x=>bits64 (by omega) (by omega)
  have zb:intBits base≤9000:=bits_up (bits64 (by omega) (by omega)) (by decide)
  refine ⟨szl,⟨by decide,by decide⟩,⟨by omega,by omega⟩,?_⟩
  refine ⟨fun i e => ∃ (xs:List Int) (left:Int) (t5 t6:Sl) (l:List PyData),e=[.val (.int c),.val (.int base),.val (.int many),.own l,.val (.int left),t5,t6]∧l=xs.map .int∧xs.length=i∧(∀ x ∈ xs,0≤x∧x<base),⟨[],_,_,_,_,rfl,rfl,rfl,by simp⟩,?_,?_⟩
  ·rintro i d e hd ⟨xs,left,t5,t6,l,rfl,rfl,hx,hb⟩
   obtain ⟨hi,rfl⟩:=rngD_inv hd
   rw [Int.zero_add]
   refine ⟨fun e => ∃ number:Int,e=[.val (.int c),.val (.int base),.val (.int many),.own (xs.map .int),.val (.int left),.val (.int (i:Nat)),.val (.int number)],?_,?_⟩
   ·refine ⟨by decide,rfl,rfl,ite_eq (fun _=>?_) (fun _=>⟨left,rfl⟩)⟩
    exact ⟨by decide,IntMulOk.of_left (by decide),by decide,IntMulOk.of_left (bits64 (by omega) (by omega)),IntMulOk.of_left (bits64 (by omega) (by omega)),by decide,IntMulOk.of_left (mb _),IntMulOk.of_left (by decide),by decide,_,rfl⟩
   ·rintro e ⟨number,rfl⟩
    refine ⟨rfl,by omega,rfl,small1000 (by show (List.map PyData.int xs).length≤1000;rw [List.length_map];omega),⟨by omega,zb⟩,xs++[number%base],_,_,_,_,rfl,ints_snoc _ _,by simp [hx],fun x h=>?_⟩
    rcases List.mem_append.mp h with h|h
    ·exact hb x h
    ·rw [List.mem_singleton.mp h]
     exact ⟨Int.emod_nonneg _ (by omega),Int.emod_lt_of_pos _ (by omega)⟩
  ·rintro e ⟨xs,left,t5,t6,l,rfl,rfl,hx,hb⟩
   rw [rngD_len] at hx
   exact h xs (by omega) hb
def sp__law_gcd (ds:List PyData) (q:PyData→Prop):Prop := ∃ a b:Int,ds=[.int a,.int b]∧(0≤a∧0≤b)∧q (.int (Int.gcd a b))
theorem sc__law_divisor:FnScope ["_law_one","_law_other"] ["_law_one","_law_other"] (defScope s__law_divisor):=sc0
theorem ok__law_divisor (F:Def K mg "_law_divisor" s__law_divisor ["_law_one","_law_other"]) (T:Txt K mg cs)
 : Ok P w K mg base "_law_divisor" 1 ["_law_one","_law_other"] (PSp K sp__law_gcd):=by
  refine F.vok sc__law_divisor (by rintro ds q ⟨_,_,h,_⟩;rw [h];rfl) fun f cdv A outer s H E hr ds q h=>?_
  obtain ⟨a,b,rfl,⟨ha,hb⟩,h⟩:=h
  refine ⟨_,(vss_cons (vs_while (vt_cmp (o_ne hr.units) (ve_var 1) ve_int) (vss_one (vs_par (i:=0) (j:=1) rfl sc__law_divisor.nd (va_cons (ve_var 1) (va_cons (ve_op o_mod (ve_var 0) (ve_var 1)) va_nil)))))
   (vss_one (vs_ret (ve_callB c_abs T.abs_ L2.boot_abs (va_cons (ve_var 0) va_nil))))),?_⟩
  refine ⟨fun m e => ∃ x y,e=[.val (.int x),.val (.int y)]∧0≤x∧0≤y∧Nat.gcd x.toNat y.toNat=Int.gcd a b∧m=y.toNat,⟨_,_,_,rfl,ha,hb,?_,rfl⟩,?_⟩
  ·have:=gcd_start a b
   rwa [if_neg (by omega),if_neg (by omega)] at this
  rintro m e ⟨x,y,rfl,hx,hy,hg,rfl⟩
  refine ⟨rfl,rfl,ite_ne (fun hne=>?_) (fun he=>?_)⟩
  ·obtain ⟨t1,t2,t3⟩:=gcd_turn hx hy hne hg
   exact ⟨by omega,(x%y).toNat,by omega,y,x%y,rfl,hy,t1,t3,rfl⟩
  ·subst he
   have:=gcd_end hx rfl hg
   show q (.int (if x<0 then -x else x))
   rw [if_neg (by omega),this];exact h
def sp__law_whole:DC
 | [d],q=>q (.bool (match d with | .int _=>true|_=>false))
 | _,_=>False
theorem sc__law_whole:FnScope ["_law_one"] ["_law_one"] (defScope s__law_whole):=sc0
theorem ok__law_whole (F:Def K mg "_law_whole" s__law_whole ["_law_one"]) (T:Txt K mg cs)
 : Ok P w K mg base "_law_whole" 1 ["_law_one"] (PSp K sp__law_whole):=by
  refine F.vok sc__law_whole (fun ds q h=>by unfold sp__law_whole at h;split at h;all_goals first|rfl|exact h.elim) fun f cdv A outer s H E hr ds q h=>?_
  match ds,h with
  | [d],h =>
  refine ⟨_,(vss_one (vs_ret (ve_and (ve_isi T.isinstance_ T.int_ L2.boot_int (ve_var 0)) (ve_one (ve_not (ve_isi T.isinstance_ T.bool_ L2.boot_bool (ve_var 0))))))),?_⟩
  cases d <;> exact h
theorem range_sum (f:Nat→Int) : ∀ n:Nat,((List.range n).map f).sum=sumN n f
 | 0=>rfl
 | n+1=>by rw [List.range_succ,List.map_append,List.sum_append,range_sum f n];simp [sumN]
theorem bot_next {B q d:Int} (hB:0<B) (hq:0<q) (h1:B∣d) (h2:q∣d):0<B*q/(Int.gcd B q:Int)∧B*q/(Int.gcd B q:Int)∣d∧B∣B*q/(Int.gcd B q:Int)∧q∣B*q/(Int.gcd B q:Int):=by
 obtain ⟨x,rfl⟩:=Int.eq_ofNat_of_zero_le (Int.le_of_lt hB)
 obtain ⟨y,rfl⟩:=Int.eq_ofNat_of_zero_le (Int.le_of_lt hq)
 have e:(x:Int)*(y:Int)/(Int.gcd x y:Int)=((Nat.lcm x y:Nat):Int):=by
  unfold Nat.lcm
  rw [Int.gcd_natCast_natCast,Int.natCast_ediv,Int.natCast_mul]
 rw [e]
 have p:0<Nat.lcm x y:=Nat.lcm_pos (by omega) (by omega)
 refine ⟨by omega,?_,Int.natCast_dvd_natCast.mpr (Nat.dvd_lcm_left x y),Int.natCast_dvd_natCast.mpr (Nat.dvd_lcm_right x y)⟩
 rw [Int.ofNat_dvd_left] at h1 h2 ⊢
 exact Nat.lcm_dvd h1 h2
theorem fit_eq {n:Nat}{R:List (List Int)}{b:List Int}{vs:List (Int×Int)}{d B:Int}{k:Nat} (d0:0<d) (hB:B∣d) (hq : ∀ u,u<n→0<((vs[u]?).getD (0,1)).2∧((vs[u]?).getD (0,1)).2∣B)
 (h:d*(b[k]?).getD 0=sumN n fun u=>at2 R k u*(((vs[u]?).getD (0,1)).1*(d/((vs[u]?).getD (0,1)).2))) :
 (sumN n fun u=>at2 R k u*(((vs[u]?).getD (0,1)).1*(B/((vs[u]?).getD (0,1)).2)))=(b[k]?).getD 0*B:=by
  obtain ⟨f,rfl⟩:=hB
  have f0:f≠0:=fun z=>by rw [z,Int.mul_zero] at d0;omega
  refine Int.eq_of_mul_eq_mul_left f0 ?_
  rw [← sumN_mul,show f*((b[k]?).getD 0*B)=B*f*(b[k]?).getD 0 by grind,h]
  refine sumN_congr fun u hu=>?_
  obtain ⟨q0,g,e⟩:=hq u hu
  generalize ((vs[u]?).getD (0,1)).2=q at *
  rw [e,Int.mul_assoc,Int.mul_ediv_cancel_left _ (by omega),Int.mul_ediv_cancel_left _ (by omega)]
  grind
def Shp (n:Nat) (d:PyData):Prop:=d.canLay0=true∧d.depth≤n
theorem Shp.ok {n:Nat}{d:PyData} (h:Shp n d) (hn:n≤64:=by decide):SeqAt.shaped d=true:=by
 unfold SeqAt.shaped
 rw [h.1,decide_eq_true (Nat.le_trans h.2 hn)];rfl
theorem Shp.refl {n:Nat}{d:PyData} (h:Shp n d):PyData.eqv d d=true:=SeqAt.eqv_refl d h.1
def sp__law_fits (ds:List PyData) (q:PyData→Prop):Prop := ∃ (n:Nat) (R:List (List Int)) (b:List Int) (vs:List (Int×Int)),ds=[.list (vs.map fun x=>dSh x.1 x.2),dRows R,.list (b.map .int)]∧(SvPre n R b∧FitV n R b vs)∧q (.bool true)
theorem shp_str {x:Str} (n:Nat) (h:PyData.strOk x=true):Shp n (.str x):=by simp [Shp,PyData.canLay0,PyData.depth,h]
theorem dvd_bits {x d:Int}{m:Nat} (h:x∣d) (d0:0<d) (z:intBits d≤m):intBits x≤m :=
 intBits_le_of_natAbs (Nat.le_of_dvd (by omega) (Int.natAbs_dvd_natAbs.mpr h)) z
theorem sh_get {vs:List (Int×Int)}{i:Nat}{x:PyData} (h:(vs.map fun x=>dSh x.1 x.2)[i]?=some x) : ∃ y,vs[i]?=some y∧x=dSh y.1 y.2:=by
 rw [List.getElem?_map] at h
 cases q:vs[i]? with
 | none=>rw [q] at h;cases h
 | some y=>rw [q] at h;exact ⟨y,rfl,(Option.some.inj h).symm⟩
theorem sc__law_fits:FnScope ["_law_values","_law_rows","_law_sums","_law_bottom","_law_value","_law_numbers","_law_k"] ["_law_values","_law_rows","_law_sums"] (defScope s__law_fits):=sc0
theorem ok__law_fits (F:Def K mg "_law_fits" s__law_fits ["_law_values","_law_rows","_law_sums"]) (T:Txt K mg cs)
 (O__law_divisor:Ok P w K mg base "_law_divisor" 1 ["_law_one","_law_other"] (PSp K sp__law_gcd))
 (O__law_whole:Ok P w K mg base "_law_whole" 1 ["_law_one"] (PSp K sp__law_whole))
 : Ok P w K mg base "_law_fits" 2 ["_law_values","_law_rows","_law_sums"] (PSp K sp__law_fits):=by
  refine F.vok sc__law_fits (by rintro ds q ⟨_,_,_,_,h,_⟩;rw [h];rfl) fun f cdv A outer s H E hr ds q h=>?_
  obtain ⟨n,R,b,vs,rfl,⟨hp,hv⟩,h⟩:=h
  refine ⟨_,(vss_cons (vs_if (VW.pt (vw_or (vt_not (vt_val (ve_isi T.isinstance_ T.list_ L2.boot_list (ve_var 0)))) (vw_or1 (vt_cmp (o_ne hr.units) (ve_callB c_len T.len_ L2.boot_len (va_cons (ve_var 0) va_nil)) (ve_callB c_len T.len_ L2.boot_len (va_cons (ve_ix (ve_var 1) ve_int) va_nil)))))) (vss_one (vs_ret ve_bl)) vss_nil)
   (vss_cons (vs_set (i:=3) sc__law_fits.nd ve_int)
   (vss_cons (vs_for rfl (vi_seq (ve_var 0)) (vg_name (i:=4) sc__law_fits.nd) (vss_cons (vs_if (VW.pt (vw_or (vt_not (vt_val (ve_isi T.isinstance_ T.tuple_ L2.boot_tuple (ve_var 4)))) (vw_or1 (vt_cmp (o_ne hr.units) (ve_callB c_len T.len_ L2.boot_len (va_cons (ve_var 4) va_nil)) ve_int)))) (vss_one (vs_ret ve_bl)) vss_nil)
   (vss_cons (vs_if (VW.pt (vw_or (vt_not (vt_val (ve_fn O__law_whole.c (hr.mono (by decide)) (va_cons (ve_ix (ve_var 4) ve_int) va_nil)))) (vw_or1 (vt_not (vt_val (ve_fn O__law_whole.c (hr.mono (by decide)) (va_cons (ve_ix (ve_var 4) ve_int) va_nil))))))) (vss_one (vs_ret ve_bl)) vss_nil)
   (vss_cons (vs_if (VW.pt (vw_or (vt_cmp o_lt (ve_ix (ve_var 4) ve_int) ve_int) (vw_or (vt_cmp o_lt (ve_ix (ve_var 4) ve_int) ve_int) (vw_or1 (vt_cmp (o_ne hr.units) (ve_fn O__law_divisor.c (hr.mono (by decide)) (va_cons (ve_ix (ve_var 4) ve_int) (va_cons (ve_ix (ve_var 4) ve_int) va_nil))) ve_int))))) (vss_one (vs_ret ve_bl)) vss_nil)
   (vss_one (vs_set (i:=3) sc__law_fits.nd (ve_op o_div (ve_op o_mulI (ve_var 3) (ve_ix (ve_var 4) ve_int)) (ve_fn O__law_divisor.c (hr.mono (by decide)) (va_cons (ve_var 3) (va_cons (ve_ix (ve_var 4) ve_int) va_nil))))))))))
   (vss_cons (vs_set (i:=5) sc__law_fits.nd (vf_fz (vf_comp (caps:=["_law_bottom"]) (own:=["_law_value"]) (ix:=[3]) rfl ⟨rfl,rfl,rfl,rfl,rfl,rfl⟩ (vi_seq (ve_var 0)) (fun _ _ _ _=>(vg_name (i:=1) (show List.Nodup (["_law_bottom","_law_value"]:List Str) by decide))) (fun _ _ _ _=>(ve_op o_mulI (ve_ix (ve_var 1) ve_int) (ve_op o_div (ve_var 0) (ve_ix (ve_var 1) ve_int)))))))
   (vss_cons (vs_for rfl (vi_range1 T.range_ (ve_callB c_len T.len_ L2.boot_len (va_cons (ve_var 1) va_nil))) (vg_name (i:=6) sc__law_fits.nd) (vss_one (vs_if (vt_cmp (o_ne hr.units) (ve_callB (c_sum rfl) T.sum_ L2.boot_sum (va_cons (vf_fz (vf_comp (caps:=["_law_rows","_law_numbers","_law_k"]) (own:=["_law_j"]) (ix:=[1,5,6]) rfl ⟨rfl,rfl,rfl,rfl,rfl,rfl⟩ (vi_range1 T.range_ (ve_callB c_len T.len_ L2.boot_len (va_cons (ve_var 5) va_nil))) (fun _ _ _ _=>(vg_name (i:=3) (show List.Nodup (["_law_rows","_law_numbers","_law_k","_law_j"]:List Str) by decide))) (fun _ _ _ _=>(ve_op o_mulI (ve_ix (ve_ix (ve_var 0) (ve_var 2)) (ve_var 3)) (ve_ix (ve_var 1) (ve_var 3)))))) va_nil)) (ve_op o_mulI (ve_ix (ve_var 2) (ve_var 6)) (ve_var 3))) (vss_one (vs_ret ve_bl)) vss_nil)))
   (vss_one (vs_ret ve_bl))))))),?_⟩
  obtain ⟨hl,dd,d0,d1,hx,he⟩:=hv
  have hR0:R≠[]:=fun z=>by have:=hp.m1;rw [z] at this;simp at this
  obtain ⟨r0,R0,eR⟩:=List.exists_cons_of_ne_nil hR0
  have l0:r0.length=n:=hp.i.w r0 (by rw [eR];simp)
  have aR:atI (R.map dRow) 0=some (dRow r0):=by rw [eR];exact atI_zero _ _
  have hn20:=hp.i.hn
  have hm24:=hp.i.hm
  refine ⟨dRow r0,aR,rfl,rfl,ite_ne (fun z=>absurd (by simp [hl,l0]) z) (fun _=>?_)⟩
  refine ⟨fun i e => ∃ B t4,e=[.val (.list (vs.map fun x=>dSh x.1 x.2)),.val (dRows R),.val (.list (b.map .int)),.val (.int B),t4,.non,.non]∧(0<B∧B∣dd ∧ ∀ j x,j<i→vs[j]?=some x→x.2∣B),⟨1,_,rfl,by decide,⟨dd,by omega⟩,fun j x hj=>by omega⟩,?_,?_⟩
  ·rintro i x e hx' ⟨B,t4,rfl,B0,Bd,hB⟩
   obtain ⟨⟨p,q'⟩,hy,rfl⟩:=sh_get hx'
   obtain ⟨s1,s2,s3,s4⟩:=hx _ (List.mem_of_getElem? hy)
   have q0:=s1.pos
   refine ⟨rfl,rfl,ite_ne (fun z=>absurd rfl z) (fun _=>?_)⟩
   have gp:(0:Int)<(Int.gcd B q':Nat):=by have:=Int.gcd_pos_of_ne_zero_right B (show q'≠0 by omega);omega
   obtain ⟨k1,k2,k3,k4⟩:=bot_next B0 (show 0<q' by omega) Bd s3
   refine ⟨.int p,rfl,.int q',rfl,.int p,rfl,iteD (fun z=>absurd z (by omega)) (fun _=>⟨.int q',rfl,iteD (fun z=>absurd z (by omega)) (fun _=>⟨.int p,rfl,.int q',rfl,p,q',rfl,⟨s2,by omega⟩,rfl,rfl,ite_ne (fun z=>absurd (by rw [s1.gcd];rfl) z) (fun _=>?_)⟩)⟩)⟩
   refine ⟨.int q',rfl,mulok (bits_up (dvd_bits Bd d0 d1) (by decide)) (bits_up (dvd_bits s3 d0 d1) (by decide)),.int q',rfl,B,q',rfl,⟨by omega,by omega⟩,⟨gp,bits_up (dvd_bits (Int.dvd_trans (Int.gcd_dvd_left ..) Bd) d0 d1) (by decide)⟩,_,_,rfl,k1,k2,fun j x hj hjx=>?_⟩
   by_cases e:j=i
   ·subst e;rw [hy] at hjx;cases hjx;exact k4
   ·exact Int.dvd_trans (hB j x (by omega) hjx) k3
  rintro e ⟨B,t4,rfl,B0,Bd,hB⟩
  rw [List.length_map] at hB
  have hBv : ∀ x ∈ vs,x.2∣B:=fun x hx=>by
   obtain ⟨j,hj⟩:=List.getElem?_of_mem hx
   exact hB j x (List.getElem?_eq_some_iff.mp hj).1 hj
  have zB:=dvd_bits Bd d0 d1
  show _∧_
  refine comp_by (ds:=vs.map fun x=>dSh x.1 x.2) ((vs.map fun x=>x.1*(B/x.2)).map .int) (by simp) (small1000 (by simp;omega)) (fun e => ∃ u,e=[.val (.int B),u]) ⟨_,rfl⟩ ?_ ?_
  ·rintro j d us e hd hus ⟨u,rfl⟩
   obtain ⟨⟨p,q'⟩,hy,rfl⟩:=sh_get hd
   obtain ⟨s1,s2,s3,s4⟩:=hx _ (List.mem_of_getElem? hy)
   have q0:=s1.pos
   have s5:=hBv _ (List.mem_of_getElem? hy)
   refine ⟨.int p,rfl,.int q',rfl,⟨by omega,bits_up (dvd_bits s3 d0 d1) (by decide)⟩,mulok (bits_up s4 (by decide)) (bits_up (dvd_bits (x:=B/q') ⟨q',(Int.ediv_mul_cancel s5).symm⟩ B0 zB) (by decide)),snoc_take ?_ hus,_,rfl⟩
   rw [List.getElem?_map,List.getElem?_map,hy];rfl
  refine ⟨⟨by rw [List.length_map];omega,by rw [List.length_map];omega⟩,fun i e => ∃ t7,e=[.val (.list (vs.map fun x=>dSh x.1 x.2)),.val (dRows R),.val (.list (b.map .int)),.val (.int B),t4,.val (.list ((vs.map fun x=>x.1*(B/x.2)).map .int)),t7],⟨_,rfl⟩,?_,?_⟩
  ·rintro i d e hd ⟨t7,rfl⟩
   obtain ⟨hi,rfl⟩:=rngD_inv hd
   rw [Int.zero_add]
   have hi':i<R.length:=by rw [List.length_map] at hi;omega
   have er:R[i]?=some R[i]:=List.getElem?_eq_getElem _
   have eb:b[i]?=some ((b[i]?).getD 0):=by rw [List.getElem?_eq_getElem (by rw [hp.i.l];exact hi')];rfl
   have lr:R[i].length=n:=hp.i.w _ (List.getElem_mem _)
   have zr:=hp.z _ (List.getElem_mem hi')
   have zb:=hp.zb _ (List.mem_of_getElem? eb)
   generalize R[i]=r at er lr zr
   have ln:(((vs.map fun x=>x.1*(B/x.2)).map PyData.int).length:Int)=n:=by simp [hl]
   refine ⟨⟨by rw [ln];omega,by rw [ln];omega⟩,?_⟩
   show _∧_
   refine comp_by (((List.range n).map fun j=>at2 R i j*(((vs[j]?).getD (0,1)).1*(B/((vs[j]?).getD (0,1)).2))).map .int) (by simp [rngD_len,hl]) (small1000 (by simp;omega)) (fun e => ∃ u,e=[.val (dRows R),.val (.list ((vs.map fun x=>x.1*(B/x.2)).map .int)),.val (.int (i:Nat)),u]) ⟨_,rfl⟩ ?_ ?_
   ·rintro j d us e hd hus ⟨u,rfl⟩
    obtain ⟨hj,rfl⟩:=rngD_inv hd
    rw [Int.zero_add]
    have hj':j<n:=by rw [ln] at hj;omega
    have e1:r[j]?=some ((r[j]?).getD 0):=by rw [List.getElem?_eq_getElem (by omega)];rfl
    have e2:vs[j]?=some ((vs[j]?).getD (0,1)):=by rw [List.getElem?_eq_getElem (by omega)];rfl
    have z1:=zr _ (List.mem_of_getElem? e1)
    have ea:at2 R i j=(r[j]?).getD 0:=by unfold at2;rw [er];rfl
    refine ⟨dRow r,atI_nat (by rw [List.getElem?_map,er];rfl),.int ((r[j]?).getD 0),atI_nat (by rw [List.getElem?_map,e1];rfl),.int (((vs[j]?).getD (0,1)).1*(B/((vs[j]?).getD (0,1)).2)),atI_nat (by rw [List.getElem?_map,List.getElem?_map,e2];rfl),IntMulOk.of_left (bits64 (by omega) (by omega)),snoc_take ?_ hus,_,rfl⟩
    rw [List.getElem?_map,List.getElem?_map,List.getElem?_range hj',← ea];rfl
   refine ⟨_,rfl,.int ((b[i]?).getD 0),atI_nat (by rw [List.getElem?_map,eb];rfl),IntMulOk.of_left (bits64 (by omega) (by omega)),rfl,rfl,ite_ne (fun z=>absurd ?_ z) (fun _=>⟨_,rfl⟩)⟩
   rw [range_sum]
   refine fit_eq d0 Bd (fun u hu=>?_) (he i hi')
   have e2:vs[u]?=some (vs[u]'(by omega)):=List.getElem?_eq_getElem _
   rw [e2]
   have s1:=(hx _ (List.mem_of_getElem? e2)).1.pos
   exact ⟨by show 0<(vs[u]'(by omega)).2;omega,hBv _ (List.mem_of_getElem? e2)⟩
  ·rintro e ⟨t7,rfl⟩
   exact h
def sp__law_none (ds:List PyData) (q:PyData→Prop):Prop := ∃ (n:Nat) (R:List (List Int)) (b ws:List Int),ds=[.list (ws.map .int),dRows R,.list (b.map .int)]∧(SvPre n R b∧NoneW n R b ws)∧q (.bool true)
theorem sc__law_none:FnScope ["_law_weights","_law_rows","_law_sums","_law_j"] ["_law_weights","_law_rows","_law_sums"] (defScope s__law_none):=sc0
theorem ok__law_none (F:Def K mg "_law_none" s__law_none ["_law_weights","_law_rows","_law_sums"]) (T:Txt K mg cs)
 (O__law_whole:Ok P w K mg base "_law_whole" 1 ["_law_one"] (PSp K sp__law_whole))
 : Ok P w K mg base "_law_none" 2 ["_law_weights","_law_rows","_law_sums"] (PSp K sp__law_none):=by
  refine F.vok sc__law_none (by rintro ds q ⟨_,_,_,_,h,_⟩;rw [h];rfl) fun f cdv A outer s H E hr ds q h=>?_
  obtain ⟨n,R,b,ws,rfl,⟨hp,hv⟩,h⟩:=h
  refine ⟨_,(vss_cons (vs_if (VW.pt (vw_or (vt_not (vt_val (ve_isi T.isinstance_ T.list_ L2.boot_list (ve_var 0)))) (vw_or1 (vt_cmp (o_ne hr.units) (ve_callB c_len T.len_ L2.boot_len (va_cons (ve_var 0) va_nil)) (ve_callB c_len T.len_ L2.boot_len (va_cons (ve_var 1) va_nil)))))) (vss_one (vs_ret ve_bl)) vss_nil)
   (vss_cons (vs_if (vt_cmp o_gt (ve_callB c_len T.len_ L2.boot_len (va_cons (vf_fz (vf_compIf (caps:=[]) (own:=["_law_one"]) (ix:=[]) rfl ⟨rfl,rfl,rfl,rfl,rfl,rfl⟩ (vi_seq (ve_var 0)) (fun _ _ _ _=>(vg_name (i:=0) (show List.Nodup (["_law_one"]:List Str) by decide))) (fun _ _ _ _=>(vt_not (vt_val (ve_fn O__law_whole.c (hr.mono (by decide)) (va_cons (ve_var 0) va_nil))))) (fun _ _ _ _=>(ve_var 0)))) va_nil)) ve_int) (vss_one (vs_ret ve_bl)) vss_nil)
   (vss_cons (vs_for rfl (vi_range1 T.range_ (ve_callB c_len T.len_ L2.boot_len (va_cons (ve_ix (ve_var 1) ve_int) va_nil))) (vg_name (i:=3) sc__law_none.nd) (vss_one (vs_if (vt_cmp o_gt (ve_callB (c_sum rfl) T.sum_ L2.boot_sum (va_cons (vf_fz (vf_comp (caps:=["_law_weights","_law_rows","_law_j"]) (own:=["_law_k"]) (ix:=[0,1,3]) rfl ⟨rfl,rfl,rfl,rfl,rfl,rfl⟩ (vi_range1 T.range_ (ve_callB c_len T.len_ L2.boot_len (va_cons (ve_var 1) va_nil))) (fun _ _ _ _=>(vg_name (i:=3) (show List.Nodup (["_law_weights","_law_rows","_law_j","_law_k"]:List Str) by decide))) (fun _ _ _ _=>(ve_op o_mulI (ve_ix (ve_var 0) (ve_var 3)) (ve_ix (ve_ix (ve_var 1) (ve_var 3)) (ve_var 2)))))) va_nil)) ve_int) (vss_one (vs_ret ve_bl)) vss_nil)))
   (vss_one (vs_ret (ve_cmp o_gt (ve_callB (c_sum rfl) T.sum_ L2.boot_sum (va_cons (vf_fz (vf_comp (caps:=["_law_weights","_law_sums"]) (own:=["_law_k"]) (ix:=[0,2]) rfl ⟨rfl,rfl,rfl,rfl,rfl,rfl⟩ (vi_range1 T.range_ (ve_callB c_len T.len_ L2.boot_len (va_cons (ve_var 1) va_nil))) (fun _ _ _ _=>(vg_name (i:=2) (show List.Nodup (["_law_weights","_law_sums","_law_k"]:List Str) by decide))) (fun _ _ _ _=>(ve_op o_mulI (ve_ix (ve_var 0) (ve_var 2)) (ve_ix (ve_var 1) (ve_var 2)))))) va_nil)) ve_int)))))),?_⟩
  obtain ⟨hl,h1,h2⟩:=hv
  have hR0:R≠[]:=fun z=>by have:=hp.m1;rw [z] at this;simp at this
  obtain ⟨r0,R0,eR⟩:=List.exists_cons_of_ne_nil hR0
  have l0:r0.length=n:=hp.i.w r0 (by rw [eR];simp)
  have aR:atI (R.map dRow) 0=some (dRow r0):=by rw [eR];exact atI_zero _ _
  have hn20:=hp.i.hn
  have hm24:=hp.i.hm
  have lR:(((R.map dRow).length:Nat):Int)=R.length:=by rw [List.length_map]
  refine ⟨rfl,rfl,ite_ne (fun z=>absurd (by simp [hl]) z) (fun _=>?_)⟩
  refine ⟨small1000 (by simp;omega),fun j ys e=>ys=[] ∧ ∃ s,e=[s],⟨rfl,_,rfl⟩,?_,?_⟩
  ·rintro j d ys e hd ⟨rfl,s,rfl⟩
   obtain ⟨x,rfl,_,_⟩:=int_get hd
   exact ⟨rfl,_,rfl⟩
  rintro ys e ⟨rfl,_⟩
  have wat : ∀ k,k<R.length→ws[k]?=some ((ws[k]?).getD 0):=fun k hk=>by rw [List.getElem?_eq_getElem (by omega)];rfl
  refine ⟨dRow r0,aR,⟨by rw [List.length_map];omega,by rw [List.length_map];omega⟩,fun i e => ∃ t,e=[.val (.list (ws.map .int)),.val (dRows R),.val (.list (b.map .int)),t],⟨_,rfl⟩,?_,?_⟩
  ·rintro i d e hd ⟨t,rfl⟩
   obtain ⟨hi,rfl⟩:=rngD_inv hd
   rw [Int.zero_add]
   have hi':i<n:=by rw [List.length_map,l0] at hi;omega
   refine ⟨⟨by rw [lR];omega,by rw [lR];omega⟩,?_⟩
   show _∧_
   refine comp_by (((List.range R.length).map fun k=>(ws[k]?).getD 0*at2 R k i).map .int) (by simp [rngD_len]) (small1000 (by simp;omega)) (fun e => ∃ u,e=[.val (.list (ws.map .int)),.val (dRows R),.val (.int (i:Nat)),u]) ⟨_,rfl⟩ ?_ ?_
   ·rintro j d us e hd hus ⟨u,rfl⟩
    obtain ⟨hj,rfl⟩:=rngD_inv hd
    rw [Int.zero_add]
    have hj':j<R.length:=by rw [lR] at hj;omega
    have er:R[j]?=some R[j]:=List.getElem?_eq_getElem _
    have lr:R[j].length=n:=hp.i.w _ (List.getElem_mem _)
    have zr:=hp.z _ (List.getElem_mem hj')
    generalize R[j]=r at er lr zr
    have e1:r[i]?=some ((r[i]?).getD 0):=by rw [List.getElem?_eq_getElem (by omega)];rfl
    have z1:=zr _ (List.mem_of_getElem? e1)
    have ea:at2 R j i=(r[i]?).getD 0:=by unfold at2;rw [er];rfl
    refine ⟨.int ((ws[j]?).getD 0),atI_nat (by rw [List.getElem?_map,wat j hj'];rfl),dRow r,atI_nat (by rw [List.getElem?_map,er];rfl),.int ((r[i]?).getD 0),atI_nat (by rw [List.getElem?_map,e1];rfl),IntMulOk.of_right (bits64 (by omega) (by omega)),snoc_take ?_ hus,_,rfl⟩
    rw [List.getElem?_map,List.getElem?_map,List.getElem?_range hj',← ea];rfl
   refine ⟨_,rfl,iteD (fun z=>absurd z ?_) (fun _=>⟨_,rfl⟩)⟩
   rw [range_sum,sumN_congr fun k _=>Int.mul_comm _ _]
   have:=h1 i hi'
   omega
  ·rintro e ⟨t,rfl⟩
   refine ⟨⟨by rw [lR];omega,by rw [lR];omega⟩,?_⟩
   show _∧_
   refine comp_by (((List.range R.length).map fun k=>(ws[k]?).getD 0*(b[k]?).getD 0).map .int) (by simp [rngD_len]) (small1000 (by simp;omega)) (fun e => ∃ u,e=[.val (.list (ws.map .int)),.val (.list (b.map .int)),u]) ⟨_,rfl⟩ ?_ ?_
   ·rintro j d us e hd hus ⟨u,rfl⟩
    obtain ⟨hj,rfl⟩:=rngD_inv hd
    rw [Int.zero_add]
    have hj':j<R.length:=by rw [lR] at hj;omega
    have eb:b[j]?=some ((b[j]?).getD 0):=by rw [List.getElem?_eq_getElem (by rw [hp.i.l];exact hj')];rfl
    have zb:=hp.zb _ (List.mem_of_getElem? eb)
    refine ⟨.int ((ws[j]?).getD 0),atI_nat (by rw [List.getElem?_map,wat j hj'];rfl),.int ((b[j]?).getD 0),atI_nat (by rw [List.getElem?_map,eb];rfl),IntMulOk.of_right (bits64 (by omega) (by omega)),snoc_take ?_ hus,_,rfl⟩
    rw [List.getElem?_map,List.getElem?_map,List.getElem?_range hj'];rfl
   refine ⟨_,rfl,?_⟩
   show q (.bool (decide _))
   rw [range_sum,sumN_congr fun k _=>Int.mul_comm _ _,decide_eq_true (by exact h2)]
   exact h
def sp__law_walked (ds:List PyData) (q:PyData→Prop):Prop := ∃ (n:Nat) (R:List (List Int)) (b:List Int) (d:PyData),ds=[d,dRows R,.list (b.map .int)]∧SvPre n R b∧((∃ vs,d = .tuple [.str "fits",.list (vs.map fun x=>dSh x.1 x.2)]∧FitV n R b vs∧q (.str "fits"))∨(∃ ws,d = .tuple [.str "none",.list (ws.map .int)]∧NoneW n R b ws∧q (.str "none")))
theorem sc__law_walked:FnScope ["_law_found","_law_rows","_law_sums"] ["_law_found","_law_rows","_law_sums"] (defScope s__law_walked):=sc0
theorem ok__law_walked (F:Def K mg "_law_walked" s__law_walked ["_law_found","_law_rows","_law_sums"]) (T:Txt K mg cs)
 (O__law_fits:Ok P w K mg base "_law_fits" 2 ["_law_values","_law_rows","_law_sums"] (PSp K sp__law_fits))
 (O__law_none:Ok P w K mg base "_law_none" 2 ["_law_weights","_law_rows","_law_sums"] (PSp K sp__law_none))
 : Ok P w K mg base "_law_walked" 3 ["_law_found","_law_rows","_law_sums"] (PSp K sp__law_walked):=by
  refine F.vok sc__law_walked (by rintro ds q ⟨_,_,_,_,h,_⟩;rw [h];rfl) fun f cdv A outer s H E hr ds q h=>?_
  obtain ⟨n,R,b,d,rfl,hp,h⟩:=h
  refine ⟨_,(vss_cons (vs_if (VW.pt (vw_or (vt_not (vt_val (ve_isi T.isinstance_ T.tuple_ L2.boot_tuple (ve_var 0)))) (vw_or1 (vt_cmp (o_ne hr.units) (ve_callB c_len T.len_ L2.boot_len (va_cons (ve_var 0) va_nil)) ve_int)))) (vss_one (vs_ret ve_str)) vss_nil)
   (vss_cons (vs_if (VW.pt (vw_and (vt_cmp (o_eq hr.units) (ve_ix (ve_var 0) ve_int) ve_str) (vw_and1 (vt_val (ve_fn O__law_fits.c (hr.mono (by decide)) (va_cons (ve_ix (ve_var 0) ve_int) (va_cons (ve_var 1) (va_cons (ve_var 2) va_nil)))))))) (vss_one (vs_ret ve_str)) vss_nil)
   (vss_cons (vs_if (VW.pt (vw_and (vt_cmp (o_eq hr.units) (ve_ix (ve_var 0) ve_int) ve_str) (vw_and1 (vt_val (ve_fn O__law_none.c (hr.mono (by decide)) (va_cons (ve_ix (ve_var 0) ve_int) (va_cons (ve_var 1) (va_cons (ve_var 2) va_nil)))))))) (vss_one (vs_ret ve_str)) vss_nil)
   (vss_one (vs_ret ve_str))))),?_⟩
  have shF:=shp_str (x := "fits") 0 (by decide +kernel)
  have shN:=shp_str (x := "none") 0 (by decide +kernel)
  rcases h with ⟨vs,rfl,hv,h⟩|⟨ws,rfl,hw,h⟩
  ·refine ⟨rfl,rfl,ite_ne (fun z=>absurd rfl z) (fun _=>⟨.str "fits",rfl,shF.ok,shF.ok,iteY shF.refl ⟨_,rfl,n,R,b,vs,rfl,⟨hp,hv⟩,h⟩⟩)⟩
  ·refine ⟨rfl,rfl,ite_ne (fun z=>absurd rfl z) (fun _=>⟨.str "none",rfl,shN.ok,shF.ok,iteZ (by decide +kernel) ⟨.str "none",rfl,shN.ok,shN.ok,iteY shN.refl ⟨_,rfl,n,R,b,ws,rfl,⟨hp,hw⟩,h⟩⟩⟩)⟩
def sp_solvedX (C:Addr) (ds:List PyData) (q:PyData→Prop) (e:Addr→Prop):Prop := ∃ (n:Nat) (R:List (List Int)) (b:List Int),ds=[dRows R,.list (b.map .int)]∧(R≠[]∧(∀ r ∈ R,r.length=n)∧(20<n∨24<R.length))∧e C
theorem sc_solved__x:FnScope ["rows","sums","unknowns","board","lack","place"] ["rows","sums"] (defScope s_solved__x):=sc0
theorem ok_solved__x (F:Def K mg "solved" s_solved__x ["rows","sums"]) (T:Txt K mg cs)
 : OkX P w K mg base "solved" 1 ["rows","sums"] (XSp K (sp_solvedX cs.TooMany)):=by
  refine F.vokX sc_solved__x (by rintro ds q e ⟨_,_,_,h,_⟩;rw [h];rfl) fun f cdv A outer s H E hr hp ht ds q e h=>?_
  obtain ⟨n,R,b,rfl,⟨hR0,hw,hm⟩,h⟩:=h
  refine ⟨_,(vssx_cons (vsx_of (vs_set (i:=2) sc_solved__x.nd (ve_ifExp (vt_tru (ve_var 0)) (ve_callB c_len T.len_ L2.boot_len (va_cons (ve_ix (ve_var 0) ve_int) va_nil)) ve_int)))
   (vssx_cons (vsx_if (VW.pt (vw_or (vt_cmp o_gt (ve_var 2) (ve_globI T.MOST_UNKNOWNS_)) (vw_or1 (vt_cmp o_gt (ve_callB c_len T.len_ L2.boot_len (va_cons (ve_var 0) va_nil)) (ve_globI T.MOST_ROWS_))))) (vssx_cons (vsx_raise ht rfl T.TooMany_ T.TooMany_x.exc (va_cons ve_str va_nil))
   (vssx_of vss_nil)) (vssx_of vss_nil))
   (vssx_of vss_never))),?_⟩
  obtain ⟨r0,R0,eR⟩:=List.exists_cons_of_ne_nil hR0
  have l0:r0.length=n:=hw r0 (by rw [eR];simp)
  have aR:atI (R.map dRow) 0=some (dRow r0):=by rw [eR];exact atI_zero _ _
  have eT:truD (dRows R)=true:=by rw [eR];rfl
  refine ⟨fun x z=>(by cases z),?_⟩
  show if truD (dRows R)=true then _ else _
  rw [if_pos eT]
  refine ⟨dRow r0,aR,?_⟩
  refine iteD (fun z=>⟨szl,h⟩) (fun z=>iteD (fun _=>⟨szl,h⟩) (fun z'=>?_))
  rw [List.length_map] at z z'
  exfalso;omega
def sp__law_refused (ds:List PyData) (q:PyData→Prop):Prop := ∃ (n:Nat) (R:List (List Int)) (b:List Int),ds=[dRows R,.list (b.map .int)]∧(R≠[]∧(∀ r ∈ R,r.length=n)∧(20<n∨24<R.length))∧q (.bool true)
theorem sc__law_refused:FnScope ["_law_rows","_law_sums","_law_caught","error","_law_other"] ["_law_rows","_law_sums"] (defScope s__law_refused):=sc0
theorem ok__law_refused (F:Def K mg "_law_refused" s__law_refused ["_law_rows","_law_sums"]) (T:Txt K mg cs)
 (O_solved__x:OkX P w K mg base "solved" 1 ["rows","sums"] (XSp K (sp_solvedX cs.TooMany)))
 : Ok P w K mg base "_law_refused" 2 ["_law_rows","_law_sums"] (PSp K sp__law_refused):=by
  refine F.vok sc__law_refused (by rintro ds q ⟨_,_,_,h,_⟩;rw [h];rfl) fun f cdv A outer s H E hr ds q h=>?_
  obtain ⟨n,R,b,rfl,hm,h⟩:=h
  refine ⟨_,(vss_cons (vs_set (i:=2) sc__law_refused.nd ve_non)
   (vss_cons (vs_try (i:=3) (C':=cs.GlassError) rfl rfl sc__law_refused.nd T.GlassError_ T.GlassError_e (fun _ _ _ hp=>(vssx_cons (vsx_expr (vex_fn hp O_solved__x.c (hr.mono (by decide)) (va_cons (ve_var 0) (va_cons (ve_var 1) va_nil))))
   (vssx_of vss_nil))) (fun _ _=>(vss_one (vs_setE (i:=2) 3 sc__law_refused.nd))))
   (vss_cons (vs_set (i:=4) sc__law_refused.nd (ve_isXs 2 T.isinstance_ (pa_c (pe_glob (v :=.ref cs.Full) rfl T.Full_ rfl) (pa_c (pe_glob (v :=.ref cs.NoBeliefs) rfl T.NoBeliefs_ rfl) (pa_c (pe_glob (v :=.ref cs.NoDulling) rfl T.NoDulling_ rfl) (pa_c (pe_glob (v :=.ref cs.NoFit) rfl T.NoFit_ rfl) (pa_c (pe_glob (v :=.ref cs.NoGlass) rfl T.NoGlass_ rfl) (pa_c (pe_glob (v :=.ref cs.NoName) rfl T.NoName_ rfl) (pa_c (pe_glob (v :=.ref cs.NoRow) rfl T.NoRow_ rfl) (pa_c (pe_glob (v :=.ref cs.NoShare) rfl T.NoShare_ rfl) (pa_c (pe_glob (v :=.ref cs.NoText) rfl T.NoText_ rfl) pa_c0))))))))) rfl (szl (h:=rfl))))
   (vss_one (vs_ret (ve_and (ve_isX 2 T.isinstance_ (pe_glob (v :=.ref cs.TooMany) rfl T.TooMany_ rfl) rfl) (ve_and (ve_isX 2 T.isinstance_ (pe_bltn (v :=.ty "ValueError") rfl T.ValueError_ L2.boot_ValueError rfl) rfl) (ve_one (ve_not (ve_var 4)))))))))),?_⟩
  refine ⟨n,R,b,rfl,hm,T.u_TooMany_GlassError,?_⟩
  exact ⟨T.TooMany_x,_,T.k_TooMany_Full_NoBeliefs_NoDulling_NoFit_NoGlass_NoName_NoRow_NoShare_NoText,T.TooMany_x,_,T.k_TooMany_TooMany,T.TooMany_x,_,T.k_TooMany_ValueError,h⟩
theorem row_get {R:List (List Int)}{i:Nat}{x:PyData}{f:List Int→PyData} (h:(R.map f)[i]?=some x) : ∃ r,R[i]?=some r∧x=f r:=by
 rw [List.getElem?_map] at h
 cases hr:R[i]? with
 | none=>rw [hr] at h;cases h
 | some r=>rw [hr] at h;exact ⟨r,rfl,(Option.some.inj h).symm⟩
theorem seq_nest {K:PySem.W.Frag}{Wi Wf:WF}{σ:St}{H F F0 H0:Hp}{env:Sto}{ds0:List PyData}{z:List Int}{u:TS}{D:Ends}{i n1:Nat} (hn:n1=1) (I:EnvOk K ⟨H,H,F⟩ F H env σ) (hW:Wi env fun ds e=>ds=ds0) (hz:ds0.length<sizeLine)
 (he : ∀ s,Wf [s] fun ys e=>ys=z.map .int) (g0:Go F0 H0 F H) (k : ∀ F' H' ra as,Go F0 H0 F' H'→Same F F'→Nest H0 H' F' ra as (List.replicate ds0.length z)→u D (σ.set i (some (.ref ra))) H'):tSeq (tAsg (tComp [] n1 (liftI K Wi) (gName 0) (liftF K Wf)) (gName i)) u D σ H:=by
  subst hn
  exact comp_nest (R:=fun x H1=>u D (σ.set i (some x)) H1) I hW hz he g0 k
theorem len12 {α:Type}{l:List α} (h:l.length=12) : ∃ a0 a1 a2 a3 a4 a5 a6 a7 a8 a9 a10 a11,l=[a0,a1,a2,a3,a4,a5,a6,a7,a8,a9,a10,a11]:=by
 match l,h with
 | [a0,a1,a2,a3,a4,a5,a6,a7,a8,a9,a10,a11],_=>exact ⟨a0,a1,a2,a3,a4,a5,a6,a7,a8,a9,a10,a11,rfl⟩
theorem unk (c:Int) : ∃ u:Nat,(1≤u∧u≤40∧(c%4=0∨c%4=2→21≤u))∧atI [PyData.int (21+c/4%20),.int (1+c/4%20),.int (21+c/4%20),.int 20] (c%4)=some (.int u):=by
 have nat : ∀ x:Int,0≤x→((x.toNat:Nat):Int)=x:=fun x hx=>Int.toNat_of_nonneg hx
 have hc4:c%4=0∨c%4=1∨c%4=2∨c%4=3:=by omega
 rcases hc4 with z|z|z|z
 ·exact ⟨(21+c/4%20).toNat,by omega,by rw [z,nat _ (by omega)];rfl⟩
 ·exact ⟨(1+c/4%20).toNat,by omega,by rw [z,nat _ (by omega)];rfl⟩
 ·exact ⟨(21+c/4%20).toNat,by omega,by rw [z,nat _ (by omega)];rfl⟩
 ·exact ⟨20,by omega,by rw [z];rfl⟩
theorem mny (c:Int) : ∃ m:Nat,(1≤m∧m≤40∧(c%4=1∨c%4=3→25≤m))∧atI [PyData.int (1+c/80%24),.int (25+c/80%16),.int (25+c/80%16),.int 25] (c%4)=some (.int m):=by
 have nat : ∀ x:Int,0≤x→((x.toNat:Nat):Int)=x:=fun x hx=>Int.toNat_of_nonneg hx
 have hc4:c%4=0∨c%4=1∨c%4=2∨c%4=3:=by omega
 rcases hc4 with z|z|z|z
 ·exact ⟨(1+c/80%24).toNat,by omega,by rw [z,nat _ (by omega)];rfl⟩
 ·exact ⟨(25+c/80%16).toNat,by omega,by rw [z,nat _ (by omega)];rfl⟩
 ·exact ⟨(25+c/80%16).toNat,by omega,by rw [z,nat _ (by omega)];rfl⟩
 ·exact ⟨25,by omega,by rw [z];rfl⟩
theorem umany {c:Int}{u m:Nat} (h1:c%4=0∨c%4=2→21≤u) (h2:c%4=1∨c%4=3→25≤m):20<u∨24<m:=by omega
theorem sc_law:FnScope ["_law_script","_law_cell_here","_law_unknowns","_law_many","_law_rows","_law_k","_law_sums","_law_rims","_law_first","_law_other","_law_j","_law_rim_sums"] ["_law_script"] (defScope s_law):=sc0
theorem law_fn {f:Addr}{fd:FuncData} (F:Fun K "law" "law" s_law f fd) (T:Txt K mg cs)
 (O_solved:Ok P w K mg base "solved" 5 ["rows","sums"] (SolSp K sp_solved))
 (O__law_cell:Ok P w K mg base "_law_cell" 1 ["_law_script","_law_k"] (PSp K sp__law_cell))
 (O__law_drawn:Ok P w K mg base "_law_drawn" 1 ["_law_cell_here","_law_base","_law_many"] (PSp K sp__law_drawnC))
 (O__law_walked:Ok P w K mg base "_law_walked" 3 ["_law_found","_law_rows","_law_sums"] (PSp K sp__law_walked))
 (O__law_refused:Ok P w K mg base "_law_refused" 2 ["_law_rows","_law_sums"] (PSp K sp__law_refused))
 : FnOk P w K mg base CX0 6 f fd ["_law_script"] (spLaw K):=by
  refine F.ok sc_law (fun vs H Q E h=>by obtain ⟨a,ns,rfl,_⟩:=h;rfl) fun cdv A outer s H vs Q E hr h=>?_
  obtain ⟨a,ns,rfl,hS,hlen,kk⟩:=h
  have hi:Iss K H [.list (ns.map .int)] [.ref a]:=iss_cons (is_lst hS (iss_ints ns)) iss_nil
  refine ⟨_,(pss_cons (VS.ps (vs_set (i:=1) sc_law.nd (ve_fn O__law_cell.c (hr.mono (by decide)) (va_cons (ve_var 0) (va_cons ve_int va_nil)))))
   (pss_cons (VS.ps (vs_set (i:=2) sc_law.nd (ve_ix (vf_fz (vf_lst (va_cons (ve_op o_add ve_int (ve_op o_mod (ve_op o_div (ve_var 1) ve_int) ve_int)) (va_cons (ve_op o_add ve_int (ve_op o_mod (ve_op o_div (ve_var 1) ve_int) ve_int)) (va_cons (ve_op o_add ve_int (ve_op o_mod (ve_op o_div (ve_var 1) ve_int) ve_int)) (va_cons ve_int va_nil)))))) (ve_op o_mod (ve_var 1) ve_int))))
   (pss_cons (VS.ps (vs_set (i:=3) sc_law.nd (ve_ix (vf_fz (vf_lst (va_cons (ve_op o_add ve_int (ve_op o_mod (ve_op o_div (ve_var 1) ve_int) ve_int)) (va_cons (ve_op o_add ve_int (ve_op o_mod (ve_op o_div (ve_var 1) ve_int) ve_int)) (va_cons (ve_op o_add ve_int (ve_op o_mod (ve_op o_div (ve_var 1) ve_int) ve_int)) (va_cons ve_int va_nil)))))) (ve_op o_mod (ve_var 1) ve_int))))
   (pss_cons (VS.ps (vs_setO (i:=4) sc_law.nd (vf_lst va_nil)))
   (pss_cons (VS.ps (vs_for rfl (vi_range1 T.range_ (ve_var 3)) (vg_name (i:=5) sc_law.nd) (vss_one (vs_append 4 (vf_fz (vf_comp (caps:=[]) (own:=["_law_number"]) (ix:=[]) rfl ⟨rfl,rfl,rfl,rfl,rfl,rfl⟩ (vi_seq (ve_fn O__law_drawn.c (hr.mono (by decide)) (va_cons (ve_fn O__law_cell.c (hr.mono (by decide)) (va_cons (ve_var 0) (va_cons (ve_op o_add ve_int (ve_var 5)) va_nil))) (va_cons ve_int (va_cons (ve_var 2) va_nil))))) (fun _ _ _ _=>(vg_name (i:=0) (show List.Nodup (["_law_number"]:List Str) by decide))) (fun _ _ _ _=>(ve_op o_sub (ve_var 0) ve_int))))))))
   (pss_cons (VS.ps (vs_setC (caps:=[]) (own:=["_law_number"]) (ix:=[]) (i:=6) sc_law.nd rfl ⟨rfl,rfl,rfl,rfl,rfl,rfl⟩ (vi_seq (ve_fn O__law_drawn.c (hr.mono (by decide)) (va_cons (ve_fn O__law_cell.c (hr.mono (by decide)) (va_cons (ve_var 0) (va_cons ve_int va_nil))) (va_cons ve_int (va_cons (ve_var 3) va_nil))))) (fun _ _ _ _=>(vg_name (i:=0) (show List.Nodup (["_law_number"]:List Str) by decide))) (fun _ _ _ _=>(ve_op o_sub (ve_var 0) ve_int))))
   (pss_cons (VS.ps (vs_if (vt_not (vt_val (ve_fn O__law_refused.c (hr.mono (by decide)) (va_cons (ve_var 4) (va_cons (ve_var 6) va_nil))))) (vss_one (vs_ret ve_bl)) vss_nil))
   (pss_cons (ps_compF (caps:=[]) (own:=["_law_k"]) (ix:=[]) (i:=7) sc_law.nd rfl ⟨rfl,rfl,rfl,rfl,rfl,rfl⟩ (vi_range1 T.range_ ve_int) (fun _ _ _ _=>pg_name (i:=0) (show List.Nodup (["_law_k"]:List Str) by decide) rfl (by first|exact Or.inl rfl|exact Or.inr rfl) (by first|exact .inl rfl|exact .inr rfl)) (fun _ _ _ _=>(vf_comp (caps:=[]) (own:=["_law_j"]) (ix:=[]) rfl ⟨rfl,rfl,rfl,rfl,rfl,rfl⟩ (vi_range1 T.range_ ve_int) (fun _ _ _ _=>(vg_name (i:=0) (show List.Nodup (["_law_j"]:List Str) by decide))) (fun _ _ _ _=>ve_int))))
   (pss_cons (ps_set (i:=8) sc_law.nd rfl (by first|exact Or.inl rfl|exact Or.inr rfl) (VE.pe (ve_fn O__law_drawn.c (hr.mono (by decide)) (va_cons (ve_fn O__law_cell.c (hr.mono (by decide)) (va_cons (ve_var 0) (va_cons ve_int va_nil))) (va_cons ve_int (va_cons ve_int va_nil))))) rfl (by first|exact .inl rfl|exact .inr rfl))
   (pss_cons (ps_set (i:=9) sc_law.nd rfl (by first|exact Or.inl rfl|exact Or.inr rfl) (VE.pe (ve_fn O__law_drawn.c (hr.mono (by decide)) (va_cons (ve_fn O__law_cell.c (hr.mono (by decide)) (va_cons (ve_var 0) (va_cons ve_int va_nil))) (va_cons ve_int (va_cons ve_int va_nil))))) rfl (by first|exact .inl rfl|exact .inr rfl))
   (pss_cons (ps_for PassesOwn.never rfl (VI.pi (vi_range1 T.range_ ve_int)) (pg_name (i:=10) sc_law.nd rfl (by first|exact Or.inl rfl|exact Or.inr rfl) (by first|exact .inl rfl|exact .inr rfl)) (pss_cons (ps_asg pe_int (pg_sub (pe_ix ix_list (pv 7) (pe_ix ix_list (pv 8) (pv 10) (fun _ _=>rfl)) (fun _ _=>rfl)) (pv 10) set_list (by intro _;rfl)) rfl rfl rfl) (pss_one (ps_asg (VE.pe (ve_ix (vf_fz (vf_lst (va_cons ve_int (va_cons (ve_neg ve_int) (va_cons ve_int va_nil))))) (ve_op o_mod (ve_op o_div (ve_fn O__law_cell.c (hr.mono (by decide)) (va_cons (ve_var 0) (va_cons ve_int va_nil))) (ve_op o_add (ve_var 10) ve_int)) ve_int))) (pg_sub (pe_ix ix_list (pv 7) (pe_ix ix_list (pv 9) (pv 10) (fun _ _=>rfl)) (fun _ _=>rfl)) (pv 10) set_list (by intro _;rfl)) rfl rfl rfl))))
   (pss_cons (VS.ps (vs_setC (caps:=[]) (own:=["_law_number"]) (ix:=[]) (i:=11) sc_law.nd rfl ⟨rfl,rfl,rfl,rfl,rfl,rfl⟩ (vi_seq (ve_fn O__law_drawn.c (hr.mono (by decide)) (va_cons (ve_fn O__law_cell.c (hr.mono (by decide)) (va_cons (ve_var 0) (va_cons ve_int va_nil))) (va_cons ve_int (va_cons ve_int va_nil))))) (fun _ _ _ _=>(vg_name (i:=0) (show List.Nodup (["_law_number"]:List Str) by decide))) (fun _ _ _ _=>(ve_op o_sub (ve_var 0) ve_int))))
   (pss_one (VS.ps (vs_ret (ve_cmp (o_ne hr.units) (ve_fn O__law_walked.c (hr.mono (by decide)) (va_cons (ve_fn (sol_v O_solved).c (hr.mono (by decide)) (va_cons (vf_fz (vf_comp (caps:=[]) (own:=["_law_row"]) (ix:=[]) rfl ⟨rfl,rfl,rfl,rfl,rfl,rfl⟩ (vi_seq (ve_var 7)) (fun _ _ _ _=>(vg_name (i:=0) (show List.Nodup (["_law_row"]:List Str) by decide))) (fun _ _ _ _=>(vf_fz (vf_callTy c_list T.list_ L2.boot_list (va_cons (ve_var 0) va_nil)))))) (va_cons (vf_fz (vf_callTy c_list T.list_ L2.boot_list (va_cons (ve_var 11) va_nil))) va_nil))) (va_cons (ve_var 7) (va_cons (ve_var 11) va_nil)))) ve_str)))))))))))))))),?_⟩
  refine lift_step (M:=⟨H,H,H⟩) (fun e => ∃ c:Int,e=[.val (.list (ns.map .int)),.val (.int c),.non,.non,.non,.non,.non,.non,.non,.non,.non,.non]) (env_start (.refl _) hi) ⟨ns,0,rfl,⟨by decide,by decide,hlen⟩,fun c=>⟨c,rfl⟩⟩ fun e1 F1 H1 σ1 I1 s1 q1=>?_
  obtain ⟨c,rfl⟩:=q1
  obtain ⟨u,⟨u1,u2,u3⟩,eu⟩:=unk c
  obtain ⟨m,⟨m1,m2,m3⟩,em⟩:=mny c
  refine lift_step (fun e=>e=[.val (.list (ns.map .int)),.val (.int c),.val (.int u),.non,.non,.non,.non,.non,.non,.non,.non,.non]) I1 ⟨⟨by decide,by decide⟩,by decide,⟨by decide,by decide⟩,by decide,⟨by decide,by decide⟩,by decide,szl,by decide,.int u,eu,rfl⟩ fun e2 F2 H2 σ2 I2 s2 q2=>?_
  subst q2
  refine lift_step (fun e=>e=[.val (.list (ns.map .int)),.val (.int c),.val (.int u),.val (.int m),.non,.non,.non,.non,.non,.non,.non,.non]) I2 ⟨⟨by decide,by decide⟩,by decide,⟨by decide,by decide⟩,by decide,⟨by decide,by decide⟩,by decide,szl,by decide,.int m,em,rfl⟩ fun e3 F3 H3 σ3 I3 s3 q3=>?_
  subst q3
  have many:=umany u3 m3
  clear eu em u3 m3
  refine lift_step (fun e=>e=[.val (.list (ns.map .int)),.val (.int c),.val (.int u),.val (.int m),.own [],.non,.non,.non,.non,.non,.non,.non]) I3 ⟨szl,rfl⟩ fun e4 F4 H4 σ4 I4 s4 q4=>?_
  subst q4
  refine lift_step (fun e => ∃ (R:List (List Int)) (t5:Sl),(R.length=m ∧ ∀ r ∈ R,r.length=u)∧e=[.val (.list (ns.map .int)),.val (.int c),.val (.int u),.val (.int m),.own (R.map dRow),t5,.non,.non,.non,.non,.non,.non]) I4 ?_ fun e5 F5 H5 σ5 I5 s5 q5=>?_
  ·refine ⟨⟨by omega,by omega⟩,fun i e => ∃ (R:List (List Int)) (t5:Sl),(R.length=i ∧ ∀ r ∈ R,r.length=u)∧e=[.val (.list (ns.map .int)),.val (.int c),.val (.int u),.val (.int m),.own (R.map dRow),t5,.non,.non,.non,.non,.non,.non],⟨[],_,⟨rfl,by simp⟩,rfl⟩,?_,?_⟩
   ·rintro i d e hd ⟨R,t5,⟨hR,hI⟩,rfl⟩
    obtain ⟨hi,rfl⟩:=rngD_inv hd
    rw [Int.zero_add]
    refine ⟨rfl,ns,1+i,rfl,⟨by omega,by omega,hlen⟩,fun c2=>⟨c2,3,u,rfl,⟨by decide,by decide,by omega,by omega⟩,fun ys hy1 hy2=>?_⟩⟩
    show _∧_
    refine comp_by (ds:=ys.map .int) ((ys.map fun y=>y-1).map .int) (by simp) (small1000 (by simp;omega)) (fun e => ∃ u,e=[u]) ⟨_,rfl⟩ ?_ ?_
    ·rintro j x zs e hx hzs ⟨u,rfl⟩
     obtain ⟨y,rfl,hy,_⟩:=int_get hx
     refine ⟨snoc_take ?_ hzs,_,rfl⟩
     rw [List.getElem?_map,List.getElem?_map,hy];rfl
    refine ⟨rfl,small1000 (by show (R.map dRow).length≤1000;rw [List.length_map];omega),R++[ys.map fun y=>y-1],.val (.int (i:Nat)),⟨by simp [hR],fun r hr=>?_⟩,?_⟩
    ·rcases List.mem_append.mp hr with hr|hr
     ·exact hI r hr
     ·rw [List.mem_singleton.mp hr,List.length_map];omega
    ·rw [List.map_append];rfl
   ·rintro e ⟨R,t5,⟨hR,hI⟩,rfl⟩
    rw [rngD_len] at hR
    exact ⟨R,t5,⟨by omega,hI⟩,rfl⟩
  obtain ⟨R,t5,⟨hR,hI⟩,rfl⟩:=q5
  refine lift_step (fun e => ∃ b:List Int,e=[.val (.list (ns.map .int)),.val (.int c),.val (.int u),.val (.int m),.own (R.map dRow),t5,.val (.list (b.map .int)),.non,.non,.non,.non,.non]) I5 ?_ fun e6 F6 H6 σ6 I6 s6 q6=>?_
  ·refine ⟨ns,50,rfl,⟨by decide,by decide,hlen⟩,fun c2=>⟨c2,3,m,rfl,⟨by decide,by decide,by omega,by omega⟩,fun ys hy1 hy2=>?_⟩⟩
   show _∧_
   refine comp_by (ds:=ys.map .int) ((ys.map fun y=>y-1).map .int) (by simp) (small1000 (by simp;omega)) (fun e => ∃ u,e=[u]) ⟨_,rfl⟩ ?_ ?_
   ·rintro j x zs e hx hzs ⟨u,rfl⟩
    obtain ⟨y,rfl,hy,_⟩:=int_get hx
    refine ⟨snoc_take ?_ hzs,_,rfl⟩
    rw [List.getElem?_map,List.getElem?_map,hy];rfl
   exact ⟨_,rfl⟩
  obtain ⟨b,rfl⟩:=q6
  obtain ⟨x0,x1,x2,x3,x4,x5,x6,x7,x8,x9,x10,x11,eσ⟩:=len12 I6.len.symm
  obtain ⟨v0,e0,i0⟩:=(show ∃ v,x0=some v∧Is K F6 (.list (ns.map .int)) v by have:=I6.slot 0;rw [eσ] at this;exact this)
  obtain ⟨ra,us,e4,hra,fra,_,_,iR⟩:=(show ∃ a vs,x4=some (.ref a)∧H6 a=some (.lst vs)∧F6 a=none∧H a=none∧H a=none∧Iss K F6 (R.map dRow) vs by have:=I6.slot 4;rw [eσ] at this;exact this)
  obtain ⟨vb,e6,ib⟩:=(show ∃ v,x6=some v∧Is K F6 (.list (b.map .int)) v by have:=I6.slot 6;rw [eσ] at this;exact this)
  rw [e0,e4,e6] at eσ
  subst eσ
  have s67:Same F6 (upd F6 ra (.lst us)):=same_new fra
  have hE:EnvOk K ⟨H6,H6,upd F6 ra (.lst us)⟩ (upd F6 ra (.lst us)) H6 [.val (.list (ns.map .int)),.non,.non,.non,.val (dRows R),.non,.val (.list (b.map .int)),.non,.non,.non,.non,.non] [some v0,x1,x2,x3,some (.ref ra),x5,some vb,x7,x8,x9,x10,x11]:=env_of (same_upd I6.fh hra) ⟨_,_,rfl,⟨⟨v0,rfl,i0.mono s67⟩,rfl⟩,_,_,rfl,⟨trivial,rfl⟩,_,_,rfl,⟨trivial,rfl⟩,_,_,rfl,⟨trivial,rfl⟩,_,_,rfl,⟨⟨_,rfl,is_lst (SqL.of upd_same) (iR.mono s67)⟩,rfl⟩,_,_,rfl,⟨trivial,rfl⟩,_,_,rfl,⟨⟨vb,rfl,ib.mono s67⟩,rfl⟩,_,_,rfl,⟨trivial,rfl⟩,_,_,rfl,⟨trivial,rfl⟩,_,_,rfl,⟨trivial,rfl⟩,_,_,rfl,⟨trivial,rfl⟩,_,_,rfl,⟨trivial,rfl⟩,rfl⟩
  refine lift_step (fun e=>e=[.val (.list (ns.map .int)),.non,.non,.non,.val (dRows R),.non,.val (.list (b.map .int)),.non,.non,.non,.non,.non]) hE ?_ fun e7 F7 H7 σ7 I7 s7 q7=>?_
  ·refine ⟨u,R,b,rfl,⟨fun z=>by rw [z] at hR;simp at hR;omega,hI,by omega⟩,?_⟩
   rfl
  have q7:e7=_:=q7
  subst q7
  have fh7:=I7.fh
  clear I1 I2 I3 I4 I5 s1 s2 s3 s4 s5 s6 s67 iR fra hra hi
  obtain ⟨y0,y1,y2,y3,y4,y5,y6,y7,y8,y9,y10,y11,eσ⟩:=len12 I7.len.symm
  obtain ⟨w0,e0,j0⟩:=(show ∃ v,y0=some v∧Is K F7 (.list (ns.map .int)) v by have:=I7.slot 0;rw [eσ] at this;exact this)
  rw [e0] at eσ
  subst eσ
  have mk : ∀ {F' H':Hp} (q7 q8 q9 q10 q11:Option V) (t7 t10 t11:Sl),Same F7 F'→Same F' H'→(SlotOk K ⟨H',H',F'⟩ F' H' t7 q7∧t7.mut=false)→(SlotOk K ⟨H',H',F'⟩ F' H' t10 q10∧t10.mut=false)→(SlotOk K ⟨H',H',F'⟩ F' H' t11 q11∧t11.mut=false) →
   EnvOk K ⟨H',H',F'⟩ F' H' [.val (.list (ns.map .int)),.non,.non,.non,.non,.non,.non,t7,.non,.non,t10,t11] [some w0,y1,y2,y3,y4,y5,y6,q7,q8,q9,q10,q11]:=fun q7 q8 q9 q10 q11 t7 t10 t11 f f' z7 z10 z11 =>
   env_of f' ⟨_,_,rfl,⟨⟨w0,rfl,j0.mono f⟩,rfl⟩,_,_,rfl,⟨trivial,rfl⟩,_,_,rfl,⟨trivial,rfl⟩,_,_,rfl,⟨trivial,rfl⟩,_,_,rfl,⟨trivial,rfl⟩,_,_,rfl,⟨trivial,rfl⟩,_,_,rfl,⟨trivial,rfl⟩,_,_,rfl,z7,_,_,rfl,⟨trivial,rfl⟩,_,_,rfl,⟨trivial,rfl⟩,_,_,rfl,z10,_,_,rfl,z11,rfl⟩
  have tr : ∀ {F' H':Hp}{y:Option V},SlotOk K ⟨H',H',F'⟩ F' H' .non y∧Sl.mut .non=false:=fun {_ _ _}=>⟨trivial,rfl⟩
  refine seq_nest rfl (ds0:=rngD 0 24) (z:=List.replicate 20 0) (mk y7 y8 y9 y10 y11 .non .non .non (.refl _) fh7 tr tr tr) ?_ (small1000 (by decide)) ?_ (Go.refl fh7) fun F8 H8 ra as g8 s8 ns8=>?_
  ·exact ⟨⟨by decide,by decide⟩,rfl⟩
  ·intro t
   refine ⟨⟨by decide,by decide⟩,?_⟩
   refine ⟨small1000 (by rw [rngD_len];decide),fun k us e=>us=((List.replicate 20 (0:Int)).map PyData.int).take k ∧ ∃ u,e=[u],⟨by simp,_,rfl⟩,?_,?_⟩
   ·rintro j x us e hx ⟨hus,v,rfl⟩
    obtain ⟨hj,rfl⟩:=rngD_inv hx
    refine ⟨snoc_take ?_ hus,_,rfl⟩
    rw [List.getElem?_map,List.getElem?_replicate,if_pos (by omega)];rfl
   ·rintro us e ⟨hus,v,rfl⟩
    rw [rngD_len,List.take_of_length_le (by simp)] at hus
    exact hus
  have fhs:=g8.fh
  have pick : ∀ {F' H':Hp} (q7 q8 q9 q10 q11:Option V) (k:Int),0≤k→k≤1000→Same F7 F'→Same F' H' → ∀ {R':VK},(∀ (fs:List Int) v F'' H'',Go F' H' F'' H''→Is K F'' (.list (fs.map .int)) v→fs.length=20→(∀ x ∈ fs,0≤x∧x<24)→R' v H'') →
   liftE K (wCall sp__law_drawnC (wCons (wCall sp__law_cell (wCons (wVar 0) (wCons (wC (PyData.int k)) wNil))) (wCons (wC (PyData.int 24)) (wCons (wC (PyData.int 20)) wNil)))) [some w0,y1,y2,y3,y4,y5,y6,q7,q8,q9,q10,q11] H' R':=fun {F' H'} q7 q8 q9 q10 q11 k k0 k1 f f' {R'} kk=>by
   refine ⟨⟨H',H',F'⟩,_,F',fun d e => ∃ fs:List Int,d = .list (fs.map .int)∧fs.length=20 ∧ ∀ x ∈ fs,0≤x∧x<24,mk q7 q8 q9 q10 q11 .non .non .non f f' tr tr tr,?_,fun d v F'' H'' e'' I'' s'' i'' q''=>?_⟩
   ·exact ⟨ns,k,rfl,⟨k0,k1,hlen⟩,fun c1=>⟨c1,24,20,rfl,⟨by decide,by decide,by decide,by decide⟩,fun fs h1 h2=>⟨fs,rfl,h1,h2⟩⟩⟩
   ·obtain ⟨fs,rfl,h1,h2⟩:=q''
    exact kk fs v F'' H'' I''.goOf i'' h1 h2
  refine pick _ _ _ _ _ 51 (by decide) (by decide) s8 fhs fun fs v8 F9 H9 g9 i9 lf zf=>?_
  refine pick _ _ _ _ _ 52 (by decide) (by decide) (s8.trans g9.f) g9.fh fun os v9 F10 H10 g10 i10 lo zo=>?_
  have g010:=(g8.trans g9).trans g10
  have ns10:=(ns8.go g9).go g10
  have i9':=i9.mono g10.f
  obtain ⟨fa,xf,rfl,hsf,hxf⟩:=i9'.lst_inv
  obtain ⟨oa,xo,rfl,hso,hxo⟩:=i10.lst_inv
  have exf:=hxf.ints_inv
  have exo:=hxo.ints_inv
  subst exf exo
  have f710:Same F7 F10:=(s8.trans g9.f).trans g10.f
  refine for_raw (ds0:=rngD 0 20) (mk (some (.ref ra)) (some (.ref fa)) (some (.ref oa)) y10 y11 .non .non .non f710 g010.fh tr tr tr) ?_ (fun F1 j σ' H' => ∃ R z10,σ'=[some w0,y1,y2,y3,y4,y5,y6,some (.ref ra),some (.ref fa),some (.ref oa),z10,y11]∧Go F7 H7 F1 H'∧Same F10 F1∧Nest H7 H' F1 ra as R∧R.length=24 ∧ ∀ r ∈ R,r.length=20 ∧ ∀ x ∈ r,x.natAbs≤2) ?_ ?_ ?_ ?_
  ·exact ⟨⟨by decide,by decide⟩,rfl⟩
  ·refine fun F1 H1 g1=>⟨_,_,rfl,g010.trans g1,g1.f,ns10.go g1,by simp [rngD_len],fun r hr=>?_⟩
   rw [List.eq_of_mem_replicate hr]
   exact ⟨by simp,fun x hx=>by rw [List.eq_of_mem_replicate hx];decide⟩
  ·rintro F2 i σ H2 ⟨R,z10,rfl,g,_⟩
   exact g.fh
  ·rintro F2 j σ2 H2 d x F3 H3 ⟨R,z10,rfl,g,f2,nsr,lR,hR⟩ hd g3 ix
   obtain ⟨hj,rfl⟩:=rngD_inv hd
   rw [Int.zero_add] at ix
   have ex:=ix.int_inv
   subst ex
   have ns3:=nsr.go g3
   have f3:=f2.trans g3.f
   have g03:=g.trans g3
   have puts : ∀ {H4:Hp}{R4:List (List Int)} (w:Int) (q:List Int) (k:Nat),Nest H7 H4 F3 ra as R4→R4.length=24→(∀ r ∈ R4,r.length=20 ∧ ∀ x ∈ r,x.natAbs≤2)→k<24→w.natAbs≤2→Go F7 H7 F3 H4 → ∃ (aa:Addr) (r:List Int),as[k]?=some aa∧H4 aa=some (.lst (r.map V.int))∧r.length=20∧Go F7 H7 F3 (upd H4 aa (.lst ((r.map V.int).set j (.int w)))) ∧ ∃ R5:List (List Int),Nest H7 (upd H4 aa (.lst ((r.map V.int).set j (.int w)))) F3 ra as R5∧R5.length=24 ∧ ∀ r ∈ R5,r.length=20 ∧ ∀ x ∈ r,x.natAbs≤2:=fun {H4 R4} w q k n4 l4 h4 hk hw g4=>by
    have hka:k<as.length:=by rw [n4.l,l4];exact hk
    have ea:as[k]?=some as[k]:=List.getElem?_eq_getElem _
    have er:R4[k]?=some (R4[k]'(by omega)):=List.getElem?_eq_getElem _
    have o:=n4.e k _ _ ea er
    have hr:=h4 _ (List.mem_of_getElem? er)
    generalize (R4[k]'(by omega))=r at er o hr
    refine ⟨as[k],r,ea,o.h,hr.1,go_upd g4 o.n o.f,R4.set k (r.set j w),?_,by rw [List.length_set,l4],fun s hs=>?_⟩
    ·have:=n4.put (r:=r.set j w) ea
     rw [List.map_set] at this
     exact this
    ·rcases List.mem_or_eq_of_mem_set hs with z|z
     ·exact h4 s z
     ·rw [z]
      refine ⟨by rw [List.length_set];exact hr.1,fun x hx=>?_⟩
      rcases List.mem_or_eq_of_mem_set hx with y|y
      ·exact hr.2 x y
      ·rw [y];exact hw
   have hj':j<20:=by omega
   have ef:fs[j]?=some (fs[j]'(by omega)):=List.getElem?_eq_getElem _
   have eo:os[j]?=some (os[j]'(by omega)):=List.getElem?_eq_getElem _
   have zf':=zf _ (List.mem_of_getElem? ef)
   have zo':=zo _ (List.mem_of_getElem? eo)
   generalize (fs[j]'(by omega))=ff at ef zf'
   generalize (os[j]'(by omega))=oo at eo zo'
   obtain ⟨aa,r,ea,ha,la,g4,R5,ns5,l5,h5⟩:=puts 1 [] ff.toNat ns3 lR hR (by omega) (by decide) g03
   refine ⟨.ref ra,rfl,.ref fa,rfl,.int j,rfl,fa,_,j,.int ff,rfl,rfl,(f3.trans g03.fh).seq hsf,atI_nat (by rw [List.getElem?_map,ef];rfl),ra,_,ff,.ref aa,rfl,rfl,SqL.of ns3.h,atI_int zf'.1 (by rw [List.getElem?_map,ea];rfl),.int j,rfl,aa,_,j,j,rfl,rfl,ha,ixN_in (by omega) (by rw [List.length_map,la];omega),?_⟩
   refine ⟨⟨_,_,F3⟩,_,F3,fun d e => ∃ w:Int,d = .int w∧w.natAbs≤2,mk (some (.ref ra)) (some (.ref fa)) (some (.ref oa)) (some (.int j)) y11 .non (.val (.int j)) .non (f710.trans f3) g4.fh tr ⟨⟨_,rfl,is_int _⟩,rfl⟩ tr,?_,fun d v F6 H6 e6 I6 s6 i6 q6=>?_⟩
   ·refine ⟨szl,ns,53,rfl,⟨by decide,by decide,hlen⟩,fun z=>⟨⟨by omega,bits_up (bits64 (by omega) (by omega)) (by decide)⟩,by decide,?_⟩⟩
    have hz:z/((j:Int)+1)%3=0∨z/((j:Int)+1)%3=1∨z/((j:Int)+1)%3=2:=by omega
    rcases hz with z|z|z
    ·exact ⟨.int 1,by rw [z];rfl,1,rfl,by decide⟩
    ·exact ⟨.int (-1),by rw [z];rfl,-1,rfl,by decide⟩
    ·exact ⟨.int 2,by rw [z];rfl,2,rfl,by decide⟩
   obtain ⟨w,rfl,hw⟩:=q6
   have ev:=i6.int_inv
   subst ev
   have gI:=I6.goOf
   have g6:=go_more g4 gI.h
   have ns6:Nest H7 H6 F3 ra as R5:=ns5.keep fun c hc=>by
    rcases hc with hc|hc
    ·subst hc
     exact ⟨by rw [ns5.h];exact gI.h.at ns5.h,ns5.f⟩
    ·obtain ⟨_,_,_,_,q⟩:=ns5.get hc
     exact ⟨by rw [q.h];exact gI.h.at q.h,q.f⟩
   obtain ⟨ab,r2,eb,hb2,lb2,g7,R7,ns7,l7,h7⟩:=puts w [] oo.toNat ns6 l5 h5 (by omega) hw g6
   exact ⟨.ref ra,rfl,.ref oa,rfl,.int j,rfl,oa,_,j,.int oo,rfl,rfl,(f3.trans g6.fh).seq hso,atI_nat (by rw [List.getElem?_map,eo];rfl),ra,_,oo,.ref ab,rfl,rfl,SqL.of ns6.h,atI_int zo'.1 (by rw [List.getElem?_map,eb];rfl),.int j,rfl,ab,_,j,j,rfl,rfl,hb2,ixN_in (by omega) (by rw [List.length_map,lb2];omega),F3,g3.f,R7,_,rfl,g7,f3,ns7,l7,h7⟩
  ·rintro F2 σ H2 ⟨R,z10,rfl,g,f2,nsr,lR,hR⟩
   obtain ⟨z1,z2,z3⟩:=nsr.frz (K:=K) g.fh
   have z3:Is K (frzN F2 H2 ra as) (dRows R) (.ref ra):=z3
   refine lift_step (fun e => ∃ bs:List Int,(bs.length=24 ∧ ∀ x ∈ bs,x.natAbs≤2)∧e=[.val (.list (ns.map .int)),.non,.non,.non,.non,.non,.non,.val (dRows R),.non,.non,.non,.val (.list (bs.map .int))]) (mk (some (.ref ra)) (some (.ref fa)) (some (.ref oa)) z10 y11 (.val (dRows R)) .non .non ((f710.trans f2).trans z1) z2 ⟨⟨_,rfl,z3⟩,rfl⟩ tr tr) ?_ fun e11 F11 H11 σ11 I11 s11 q11=>?_
   ·refine ⟨ns,54,rfl,⟨by decide,by decide,hlen⟩,fun c2=>⟨c2,4,24,rfl,⟨by decide,by decide,by decide,by decide⟩,fun ys hy1 hy2=>?_⟩⟩
    show _∧_
    refine comp_by (ds:=ys.map .int) ((ys.map fun y=>y-1).map .int) (by simp) (small1000 (by simp;omega)) (fun e => ∃ u,e=[u]) ⟨_,rfl⟩ ?_ ?_
    ·rintro j x zs e hx hzs ⟨u,rfl⟩
     obtain ⟨y,rfl,hy,_⟩:=int_get hx
     refine ⟨snoc_take ?_ hzs,_,rfl⟩
     rw [List.getElem?_map,List.getElem?_map,hy];rfl
    refine ⟨ys.map fun y=>y-1,⟨by rw [List.length_map];omega,fun x hx=>?_⟩,rfl⟩
    obtain ⟨y,hy,rfl⟩:=List.mem_map.mp hx
    have:=hy2 y hy
    omega
   obtain ⟨bs,⟨lb,zb⟩,rfl⟩:=q11
   have sv:SvPre 20 R bs:=⟨⟨by omega,fun r hr=>(hR r hr).1,by decide,by omega⟩,by decide,by omega,fun r hr x hx=>by have:=(hR r hr).2 x hx;omega,fun x hx=>by have:=zb x hx;omega⟩
   have shF:=shp_str (x := "fits") 0 (by decide +kernel)
   have shN:=shp_str (x := "none") 0 (by decide +kernel)
   have shE:=shp_str (x := "") 0 (by decide +kernel)
   refine ⟨_,_,F11,{ nx:=fun _=>False,rt:=fun r _=>r.data = .bool true },I11,?_,⟨fun _ _ _ _ _ _ q=>q.elim,fun r v e8 F8 H8 σ8 I8 s8 r8 q8=>?_,fun _ _ _ _ _ _ q=>q.elim,fun _ _ _ _ _ _ q=>q.elim⟩⟩
   ·show _∧_
    refine comp_by (ds:=R.map dRow) (R.map dRow) rfl (small1000 (by rw [List.length_map];omega)) (fun e => ∃ s,e=[s]) ⟨_,rfl⟩ ?_ ?_
    ·rintro i x ys e hx hys ⟨s,rfl⟩
     obtain ⟨r,hr,rfl⟩:=row_get hx
     exact ⟨snoc_take hx hys,_,rfl⟩
    refine ⟨20,R,bs,rfl,sv,fun vs hv=>⟨20,R,bs,_,rfl,sv,.inl ⟨vs,rfl,hv,shF.ok,shE.ok,?_⟩⟩,fun ws hw=>⟨20,R,bs,_,rfl,sv,.inr ⟨ws,rfl,hw,shN.ok,shE.ok,?_⟩⟩⟩
    ·show PyData.bool (!PyData.eqv _ _)=_
     rw [show PyData.eqv (.str "fits") (.str "")=false by decide +kernel];rfl
    ·show PyData.bool (!PyData.eqv _ _)=_
     rw [show PyData.eqv (.str "none") (.str "")=false by decide +kernel];rfl
   obtain ⟨F9',g9',j9⟩:=r8.is I8
   have q8:r.data = .bool true:=q8
   rw [q8] at j9
   rw [j9.bl_inv]
   exact kk H8
end
theorem us_s {α:Type}{n:Nat}{us:List α} (h:us.length=n+1) : ∃ a r,us=a::r∧r.length=n:=by
 cases us with
 | nil=>cases h
 | cons a r=>exact ⟨a,r,rfl,Nat.succ.inj h⟩
theorem us1 {α:Type}{us:List α} (h:us.length=1) : ∃ a0:α,us=[a0]:=by
 obtain ⟨a0,u0,rfl,h0⟩:=us_s h
 cases u0 with
 | nil=>exact ⟨a0,rfl⟩
 | cons _ _=>cases h0
theorem us2 {α:Type}{us:List α} (h:us.length=2) : ∃ a0 a1:α,us=[a0,a1]:=by
 obtain ⟨a0,u0,rfl,h0⟩:=us_s h
 obtain ⟨a1,u1,rfl,h1⟩:=us_s h0
 cases u1 with
 | nil=>exact ⟨a0,a1,rfl⟩
 | cons _ _=>cases h1
theorem us3 {α:Type}{us:List α} (h:us.length=3) : ∃ a0 a1 a2:α,us=[a0,a1,a2]:=by
 obtain ⟨a0,u0,rfl,h0⟩:=us_s h
 obtain ⟨a1,u1,rfl,h1⟩:=us_s h0
 obtain ⟨a2,u2,rfl,h2⟩:=us_s h1
 cases u2 with
 | nil=>exact ⟨a0,a1,a2,rfl⟩
 | cons _ _=>cases h2
theorem us4 {α:Type}{us:List α} (h:us.length=4) : ∃ a0 a1 a2 a3:α,us=[a0,a1,a2,a3]:=by
 obtain ⟨a0,u0,rfl,h0⟩:=us_s h
 obtain ⟨a1,u1,rfl,h1⟩:=us_s h0
 obtain ⟨a2,u2,rfl,h2⟩:=us_s h1
 obtain ⟨a3,u3,rfl,h3⟩:=us_s h2
 cases u3 with
 | nil=>exact ⟨a0,a1,a2,a3,rfl⟩
 | cons _ _=>cases h3
inductive LK (K:PySem.W.Frag) (x q:Str) (st:Stmt) (f:Addr):Prop
 | mk {oc kV dc pm cd ct:Value}{od an:Option Addr}{sl:Array (Option Value)} (l:K.lookup f=some ⟨oc,od,.func (PySem.W.fnOf x q (defArgs st) (defBody st) (defScope st) .none kV dc pm an cd ct),sl⟩) (c:PySem.W.codeIn K cd q=true) (k:PySem.W.keepIn K (.ref f)=true):LK K x q st f
theorem LK.fn {K:PySem.W.Frag}{x q:Str}{st:Stmt}{f:Addr} (h:LK K x q st f):(∃ fd,Fun K x q st f fd)∧PySem.W.keepIn K (.ref f)=true:=by
 cases h with
 | mk l c k=>exact ⟨⟨_,fun_mk l c k⟩,k⟩
inductive DK (K:PySem.W.Frag) (x:Str) (st:Stmt):Prop
 | mk {f:Addr} (a:PySem.W.nsIn K mainGlobals x=some (some (.ref f))) (l:LK K x x st f):DK K x st
theorem DK.df {K:PySem.W.Frag}{x:Str}{st:Stmt}{ps:List Str}{h:Heap}{mg:Str→Option Value} (d:DK K x st) (X:K.In h) (G:h.Ns mainGlobals mg)
 (hb : ∀ (kV doc pm:Value) (an:Option Addr) (cdv ct:Value) (us:List Value),us.length=ps.length→bindArgs (PySem.W.fnOf x x (defArgs st) (defBody st) (defScope st) .none kV doc pm an cdv ct) ⟨us,[]⟩=pure (ps.zip us):=by (intro _ _ _ _ _ _ us hl;first|(obtain ⟨_,rfl⟩:=us1 hl;rfl)|(obtain ⟨_,_,rfl⟩:=us2 hl;rfl)|(obtain ⟨_,_,_,rfl⟩:=us3 hl;rfl)|(obtain ⟨_,_,_,_,rfl⟩:=us4 hl;rfl))):Def K mg x st ps:=by
  cases d with
  | mk a l =>
   obtain ⟨⟨_,F⟩,_⟩:=l.fn
   exact ⟨_,_,F,PySem.W.mg_of X G a,F.binds hb⟩
theorem all_mk {l:PySem.W.OpenLaw}{w:World}{K:PySem.W.Frag}{h:Heap}{mg:Str→Option Value}{fa:Addr} (X:K.In h) (G:h.Ns mainGlobals mg) (hfa:mg "law" = some (.ref fa))
 (l0:DK K "first_above" s_first_above)
 (l1:DK K "divisor" s_divisor)
 (l2:DK K "lowest" s_lowest)
 (l3:DK K "first_line" s_first_line)
 {c_Board:Addr} (b_Board:PySem.W.nsIn K mainGlobals "Board" = some (some (.ref c_Board)))
 {f4:Addr} (a4:PySem.W.findIn K (.ref c_Board) "__init__" = some (some (.ref f4))) (l4:LK K "__init__" "Board.__init__" s_Board___init__ f4) (n4:PySem.W.isFn K (.ref f4)=true)
 {f5:Addr} (a5:PySem.W.findIn K (.ref c_Board) "lack" = some (some (.ref f5))) (l5:LK K "lack" "Board.lack" s_Board_lack f5) (n5:PySem.W.isFn K (.ref f5)=true)
 {f6:Addr} (a6:PySem.W.findIn K (.ref c_Board) "is_tighter" = some (some (.ref f6))) (l6:LK K "is_tighter" "Board.is_tighter" s_Board_is_tighter f6) (n6:PySem.W.isFn K (.ref f6)=true)
 {f7:Addr} (a7:PySem.W.findIn K (.ref c_Board) "tightest" = some (some (.ref f7))) (l7:LK K "tightest" "Board.tightest" s_Board_tightest f7) (n7:PySem.W.isFn K (.ref f7)=true)
 (l8:DK K "cleared" s_cleared)
 {f9:Addr} (a9:PySem.W.findIn K (.ref c_Board) "bring_in" = some (some (.ref f9))) (l9:LK K "bring_in" "Board.bring_in" s_Board_bring_in f9) (n9:PySem.W.isFn K (.ref f9)=true)
 (l10:DK K "is_whole" s_is_whole)
 (l11:DK K "reduced" s_reduced)
 (l12:DK K "share" s_share)
 {f13:Addr} (a13:PySem.W.findIn K (.ref c_Board) "told" = some (some (.ref f13))) (l13:LK K "told" "Board.told" s_Board_told f13) (n13:PySem.W.isFn K (.ref f13)=true)
 (l14:DK K "solved" s_solved)
 (l15:DK K "_law_cell" s__law_cell)
 (l16:DK K "_law_drawn" s__law_drawn)
 (l17:DK K "_law_divisor" s__law_divisor)
 (l18:DK K "_law_whole" s__law_whole)
 (l19:DK K "_law_fits" s__law_fits)
 (l20:DK K "_law_none" s__law_none)
 (l21:DK K "_law_walked" s__law_walked)
 (l22:DK K "solved" s_solved__x)
 (l23:DK K "_law_refused" s__law_refused)
 {f24:Addr}{od24 an24:Option Addr}{sl24:Array (Option Value)}{oc24 kV24 dc24 pm24 cd24 ct24:Value}
 (a24:PySem.W.nsIn K mainGlobals "law" = some (some (.ref f24))) (l24:K.lookup f24=some ⟨oc24,od24,.func (PySem.W.fnOf "law" "law" (defArgs s_law) (defBody s_law) (defScope s_law) .none kV24 dc24 pm24 an24 cd24 ct24),sl24⟩) (c24:PySem.W.codeIn K cd24 "law" = true) (k24:PySem.W.keepIn K (.ref f24)=true)
 (z_ValueError:PySem.W.nsIn K mainGlobals "ValueError" = some none)
 (z_abs:PySem.W.nsIn K mainGlobals "abs" = some none)
 (z_bool:PySem.W.nsIn K mainGlobals "bool" = some none)
 (z_enumerate:PySem.W.nsIn K mainGlobals "enumerate" = some none)
 (z_int:PySem.W.nsIn K mainGlobals "int" = some none)
 (z_isinstance:PySem.W.nsIn K mainGlobals "isinstance" = some none)
 (z_len:PySem.W.nsIn K mainGlobals "len" = some none)
 (z_list:PySem.W.nsIn K mainGlobals "list" = some none)
 (z_range:PySem.W.nsIn K mainGlobals "range" = some none)
 (z_sum:PySem.W.nsIn K mainGlobals "sum" = some none)
 (z_tuple:PySem.W.nsIn K mainGlobals "tuple" = some none)
 (z_zip:PySem.W.nsIn K mainGlobals "zip" = some none)
 {t_MOST_ROWS:Tok} (y_MOST_ROWS:PySem.W.nsIn K mainGlobals "MOST_ROWS" = some (some (.int 24 t_MOST_ROWS)))
 {t_MOST_UNKNOWNS:Tok} (y_MOST_UNKNOWNS:PySem.W.nsIn K mainGlobals "MOST_UNKNOWNS" = some (some (.int 20 t_MOST_UNKNOWNS)))
 {c_Full:Addr} (b_Full:PySem.W.nsIn K mainGlobals "Full" = some (some (.ref c_Full)))
 {c_GlassError:Addr} (b_GlassError:PySem.W.nsIn K mainGlobals "GlassError" = some (some (.ref c_GlassError)))
 {c_NoBeliefs:Addr} (b_NoBeliefs:PySem.W.nsIn K mainGlobals "NoBeliefs" = some (some (.ref c_NoBeliefs)))
 {c_NoDulling:Addr} (b_NoDulling:PySem.W.nsIn K mainGlobals "NoDulling" = some (some (.ref c_NoDulling)))
 {c_NoFit:Addr} (b_NoFit:PySem.W.nsIn K mainGlobals "NoFit" = some (some (.ref c_NoFit)))
 {c_NoGlass:Addr} (b_NoGlass:PySem.W.nsIn K mainGlobals "NoGlass" = some (some (.ref c_NoGlass)))
 {c_NoName:Addr} (b_NoName:PySem.W.nsIn K mainGlobals "NoName" = some (some (.ref c_NoName)))
 {c_NoRow:Addr} (b_NoRow:PySem.W.nsIn K mainGlobals "NoRow" = some (some (.ref c_NoRow)))
 {c_NoShare:Addr} (b_NoShare:PySem.W.nsIn K mainGlobals "NoShare" = some (some (.ref c_NoShare)))
 {c_NoText:Addr} (b_NoText:PySem.W.nsIn K mainGlobals "NoText" = some (some (.ref c_NoText)))
 {c_TooMany:Addr} (b_TooMany:PySem.W.nsIn K mainGlobals "TooMany" = some (some (.ref c_TooMany)))
 (f_Board_c_pg:PySem.W.plainGet K c_Board Str.empty=true)
 (f_Board_c_hd:PySem.W.hasDictIn K c_Board=true)
 (f_Board_c_po:PySem.W.plainOver K c_Board=true)
 (f_Board_c_sa:PySem.W.findIn K (.ref c_Board) "__setattr__" = some (some (.builtin "object.__setattr__")))
 (f_Board_mk:PySem.W.makesIn K c_Board=true)
 (f_Board_kp:PySem.W.keepIn K (.ref c_Board)=true)
 (f_Board_n_bottom:PySem.W.findIn K (.ref c_Board) "bottom" = some none)
 (f_Board_n_lines:PySem.W.findIn K (.ref c_Board) "lines" = some none)
 (f_Board_n_stands_for:PySem.W.findIn K (.ref c_Board) "stands_for" = some none)
 (f_Board_n_unknowns:PySem.W.findIn K (.ref c_Board) "unknowns" = some none)
 (f_GlassError_e:PySem.W.excIn K c_GlassError bmVE "ValueError.__new__" = true)
 (f_TooMany_e:PySem.W.excIn K c_TooMany bmVE "ValueError.__new__" = true)
 (f_TooMany_x_ga:PySem.W.findIn K (.ref c_TooMany) "__getattribute__" = some (some (.builtin "BaseException.__getattribute__")))
 (f_TooMany_x_na:PySem.W.findIn K (.ref c_TooMany) "__getattr__" = some none)
 (f_TooMany_x_cl:PySem.W.findIn K (.ref c_TooMany) "__class__" = some (some (.builtin "object.__class__")))
 (f_u_TooMany_GlassError:(mroIn K c_TooMany).contains (.ref c_GlassError)=true)
 (f_k_TooMany_Full_NoBeliefs_NoDulling_NoFit_NoGlass_NoName_NoRow_NoShare_NoText:PySem.W.kitAny K (.ref c_TooMany) [.ref c_Full,.ref c_NoBeliefs,.ref c_NoDulling,.ref c_NoFit,.ref c_NoGlass,.ref c_NoName,.ref c_NoRow,.ref c_NoShare,.ref c_NoText]=some false)
 (f_k_TooMany_ValueError:PySem.W.kitOne K (.ref c_TooMany) (.type "ValueError")=some true)
 (f_k_TooMany_TooMany:PySem.W.kitOne K (.ref c_TooMany) (.ref c_TooMany)=some true)
 : ∃ fd:FuncData,(∀ (s:Shared) (v:Value),BindsTo s fd ⟨[v],[]⟩ [("_law_script",v)]) ∧ ∀ base:Heap,K.In base→base.Ns mainGlobals mg→FnOk l.prog w K mg base CX0 6 fa fd ["_law_script"] (spLaw K):=by
  have e:=hfa.symm.trans (PySem.W.mg_of X G a24)
  cases e
  have T:Txt K mg ⟨c_Board,c_Full,c_GlassError,c_NoBeliefs,c_NoDulling,c_NoFit,c_NoGlass,c_NoName,c_NoRow,c_NoShare,c_NoText,c_TooMany⟩:=⟨PySem.W.mg_of X G b_Board,PySem.W.mg_of X G b_Full,PySem.W.mg_of X G b_GlassError,PySem.W.mg_of X G b_NoBeliefs,PySem.W.mg_of X G b_NoDulling,PySem.W.mg_of X G b_NoFit,PySem.W.mg_of X G b_NoGlass,PySem.W.mg_of X G b_NoName,PySem.W.mg_of X G b_NoRow,PySem.W.mg_of X G b_NoShare,PySem.W.mg_of X G b_NoText,PySem.W.mg_of X G b_TooMany,⟨f_Board_c_pg,f_Board_c_hd,f_Board_c_po,f_Board_c_sa⟩,f_Board_mk,f_Board_kp,f_Board_n_bottom,f_Board_n_lines,f_Board_n_stands_for,f_Board_n_unknowns,f_GlassError_e,f_TooMany_e,⟨f_TooMany_e,f_TooMany_x_ga,f_TooMany_x_na,f_TooMany_x_cl⟩,⟨f_TooMany_e,f_u_TooMany_GlassError⟩,f_k_TooMany_Full_NoBeliefs_NoDulling_NoFit_NoGlass_NoName_NoRow_NoShare_NoText,f_k_TooMany_ValueError,f_k_TooMany_TooMany,PySem.W.mg_none_of X G z_ValueError,PySem.W.mg_none_of X G z_abs,PySem.W.mg_none_of X G z_bool,PySem.W.mg_none_of X G z_enumerate,PySem.W.mg_none_of X G z_int,PySem.W.mg_none_of X G z_isinstance,PySem.W.mg_none_of X G z_len,PySem.W.mg_none_of X G z_list,PySem.W.mg_none_of X G z_range,PySem.W.mg_none_of X G z_sum,PySem.W.mg_none_of X G z_tuple,PySem.W.mg_none_of X G z_zip,⟨_,PySem.W.mg_of X G y_MOST_ROWS⟩,⟨_,PySem.W.mg_of X G y_MOST_UNKNOWNS⟩⟩
  have D0:Def K mg "first_above" s_first_above ["numbers"]:=l0.df X G
  have D1:Def K mg "divisor" s_divisor ["one","other"]:=l1.df X G
  have D2:Def K mg "lowest" s_lowest ["weights"]:=l2.df X G
  have D3:Def K mg "first_line" s_first_line ["row","total","k","many"]:=l3.df X G
  obtain ⟨⟨_,F4⟩,k4⟩:=l4.fn
  have D4:MDef K c_Board "__init__" "Board.__init__" s_Board___init__ ["self","unknowns","rows","sums"]:=⟨_,_,F4,⟨a4,n4,k4⟩,F4.binds (ps:=["self","unknowns","rows","sums"]) fun _ _ _ _ _ _ us hl=>by obtain ⟨_,_,_,_,rfl⟩:=us4 hl;rfl⟩
  obtain ⟨⟨_,F5⟩,k5⟩:=l5.fn
  have D5:MDef K c_Board "lack" "Board.lack" s_Board_lack ["self"]:=⟨_,_,F5,⟨a5,n5,k5⟩,F5.binds (ps:=["self"]) fun _ _ _ _ _ _ us hl=>by obtain ⟨_,rfl⟩:=us1 hl;rfl⟩
  obtain ⟨⟨_,F6⟩,k6⟩:=l6.fn
  have D6:MDef K c_Board "is_tighter" "Board.is_tighter" s_Board_is_tighter ["self","k","chosen","place"]:=⟨_,_,F6,⟨a6,n6,k6⟩,F6.binds (ps:=["self","k","chosen","place"]) fun _ _ _ _ _ _ us hl=>by obtain ⟨_,_,_,_,rfl⟩:=us4 hl;rfl⟩
  obtain ⟨⟨_,F7⟩,k7⟩:=l7.fn
  have D7:MDef K c_Board "tightest" "Board.tightest" s_Board_tightest ["self","place"]:=⟨_,_,F7,⟨a7,n7,k7⟩,F7.binds (ps:=["self","place"]) fun _ _ _ _ _ _ us hl=>by obtain ⟨_,_,rfl⟩:=us2 hl;rfl⟩
  have D8:Def K mg "cleared" s_cleared ["line","pivot","place","bottom"]:=l8.df X G
  obtain ⟨⟨_,F9⟩,k9⟩:=l9.fn
  have D9:MDef K c_Board "bring_in" "Board.bring_in" s_Board_bring_in ["self","place"]:=⟨_,_,F9,⟨a9,n9,k9⟩,F9.binds (ps:=["self","place"]) fun _ _ _ _ _ _ us hl=>by obtain ⟨_,_,rfl⟩:=us2 hl;rfl⟩
  have D10:Def K mg "is_whole" s_is_whole ["thing"]:=l10.df X G
  have D11:Def K mg "reduced" s_reduced ["top","bottom"]:=l11.df X G
  have D12:Def K mg "share" s_share ["top","bottom"]:=l12.df X G
  obtain ⟨⟨_,F13⟩,k13⟩:=l13.fn
  have D13:MDef K c_Board "told" "Board.told" s_Board_told ["self"]:=⟨_,_,F13,⟨a13,n13,k13⟩,F13.binds (ps:=["self"]) fun _ _ _ _ _ _ us hl=>by obtain ⟨_,rfl⟩:=us1 hl;rfl⟩
  have D14:Def K mg "solved" s_solved ["rows","sums"]:=l14.df X G
  have D15:Def K mg "_law_cell" s__law_cell ["_law_script","_law_k"]:=l15.df X G
  have D16:Def K mg "_law_drawn" s__law_drawn ["_law_cell_here","_law_base","_law_many"]:=l16.df X G
  have D17:Def K mg "_law_divisor" s__law_divisor ["_law_one","_law_other"]:=l17.df X G
  have D18:Def K mg "_law_whole" s__law_whole ["_law_one"]:=l18.df X G
  have D19:Def K mg "_law_fits" s__law_fits ["_law_values","_law_rows","_law_sums"]:=l19.df X G
  have D20:Def K mg "_law_none" s__law_none ["_law_weights","_law_rows","_law_sums"]:=l20.df X G
  have D21:Def K mg "_law_walked" s__law_walked ["_law_found","_law_rows","_law_sums"]:=l21.df X G
  have D22:Def K mg "solved" s_solved__x ["rows","sums"]:=l22.df X G
  have D23:Def K mg "_law_refused" s__law_refused ["_law_rows","_law_sums"]:=l23.df X G
  have F24:=fun_mk (st:=s_law) l24 c24 k24
  refine ⟨PySem.W.fnOf "law" "law" (defArgs s_law) (defBody s_law) (defScope s_law) .none kV24 dc24 pm24 an24 cd24 ct24,fun s v => .of_eq rfl,fun base KB _=>?_⟩
  have O0:=ok_first_above (P:=l.prog) (w:=w) (base:=base) D0 T
  have O1:=ok_divisor (P:=l.prog) (w:=w) (base:=base) D1 T
  have O2:=ok_lowest D2 T O1
  have O3:=ok_first_line (P:=l.prog) (w:=w) (base:=base) D3 T
  have O4:=ok_Board___init__ D4 T O3
  have O5:=ok_Board_lack (P:=l.prog) (w:=w) (base:=base) D5 T
  have O6:=ok_Board_is_tighter (P:=l.prog) (w:=w) (base:=base) D6 T
  have O7:=ok_Board_tightest D7 T O6
  have O8:=ok_cleared (P:=l.prog) (w:=w) (base:=base) D8 T
  have O9:=ok_Board_bring_in D9 T O7 O8
  have O10:=ok_is_whole (P:=l.prog) (w:=w) (base:=base) D10 T
  have O11:=ok_reduced D11 T O1
  have O12:=ok_share D12 T O10 O11
  have O13:=ok_Board_told D13 T O12
  have O14:=ok_solved D14 T O0 O2 O4 O5 O9 O13
  have O15:=ok__law_cell (P:=l.prog) (w:=w) (base:=base) D15 T
  have O16:=ok__law_drawn (P:=l.prog) (w:=w) (base:=base) D16 T
  have O17:=ok__law_divisor (P:=l.prog) (w:=w) (base:=base) D17 T
  have O18:=ok__law_whole (P:=l.prog) (w:=w) (base:=base) D18 T
  have O19:=ok__law_fits D19 T O17 O18
  have O20:=ok__law_none D20 T O18
  have O21:=ok__law_walked D21 T O19 O20
  have O22:=ok_solved__x (P:=l.prog) (w:=w) (base:=base) D22 T
  have O23:=ok__law_refused D23 T O22
  exact law_fn (P:=l.prog) (w:=w) (K:=K) (mg:=mg) (base:=base) F24 T O14 O15 O16 O21 O23
theorem walk {l:PySem.W.OpenLaw}{q:Program}{loose:List Str}{XP:(Str→Option Value)→Heap→Prop}{YP:World→Heap→Prop}{d:DefRec}{K:Params→PySem.W.Frag} (hn:l.most=some 63) (hdf:d.params.defaults=[])
 (hY : ∀ (w:World) (h:Heap),YP w h→(K w.params).In h)
 (F : ∀ (w:World) (mg:Str→Option Value) (fa:Addr) (h:Heap),(K w.params).In h→h.Ns mainGlobals mg→mg d.name=some (.ref fa) →
 ∃ fd:FuncData,(∀ (s:Shared) (u:Value),BindsTo s fd ⟨[u],[]⟩ [("_law_script",u)]) ∧ ∀ base:Heap,(K w.params).In base→base.Ns mainGlobals mg→FnOk l.prog w (K w.params) mg base CX0 6 fa fd ["_law_script"] (spLaw (K w.params))) :
 PySem.W.WalkO q loose XP YP l.row.toRowW d [] (fun f vs=>PySem.call f vs) :=
  L2.walk_of (n:=63) (k:=6) (x := "_law_script") (CX:=fun _=>CX0) (sp:=fun w=>spLaw (K w.params)) hn (by decide) hdf ⟨rfl,by decide,by decide⟩ hY F (fun _ _ a ns hl _ hS=>⟨a,ns,rfl,hS,hl,fun _=>rfl⟩) fun _ _ _ _ _ z=>z
noncomputable section
open PySem PySem.W PySem.Calls PyProof.Rows
abbrev N0:=BT.node
abbrev nl0:=BT.nil
def en0 (P:Params) (x:Str) (t:Nat) (v:Value):DictEntry:=⟨PyData.keyHash P x,.str x t,v⟩
def tu0 (vs:List Value):Obj:=⟨.type "tuple",none,.seq vs.toArray 0,#[]⟩
def em0:Obj:=⟨.none,none,.fields #[],#[]⟩
def fo0 (n q:Str) (s:Stmt) (pm:Value) (c:Nat):Obj:=⟨.type "function",none,.func (PySem.W.fnOf n q (L2.defArgs s) (L2.defBody s) (L2.defScope s) .none .none .none pm none (.ref c) .none),#[]⟩
def pr0 (n q:Str) (s:Stmt):Obj:=⟨.none,none,.func ⟨n,q,L2.defArgs s,.stmts (L2.defBody s),L2.defScope s,0,[],.none,.none,.none,.none,none,.none,.none,0⟩,#[]⟩
def co0 (n q:Str) (t:Nat) (l ac fl:Int) (a:Nat) (b:Bool) (x y z:Value) (u:Nat):Obj:=⟨.type "code",none,.fields #[.str n t,.str q (t+1),.str "/claim/cut.py" (t+2),.int l 0,.int ac 0,.int 0 0,.int 0 0,.int fl 0,.ref a,.bool b,.int 181 0,.ref (a+1),.none,x,y,z,.int u 0,.int l 0,.str "/claim/cut.py" (u+1)],#[]⟩
def co1 (n:Str) (t:Nat) (l ac fl:Int) (a:Nat) (b:Bool) (u:Nat):Obj:=co0 n n t l ac fl a b (.ref (a+2)) (.ref (a+3)) (.ref (a+4)) u
def fo1 (n:Str) (s:Nat) (pm:Value) (c:Nat):Obj:=fo0 n n (top s) pm c
lay_quick PySem.Challenge.pw_dullglass_k25_too_many_equations
def env0:Env:={ scope:=PySem.Challenge.pw_dullglass_k25_too_many_equations.main.scope,locals:=mainNs,globals:=mainNs,cells:=[],code:=(.ref 13),frame:=some 14 }
def cE0:Code :=.body (behindTheImports PySem.Challenge.pw_dullglass_k25_too_many_equations) env0
def ls0:List Str:=[Str.ofString "GlassError",Str.ofString "NoShare",Str.ofString "NoGlass",Str.ofString "NoDulling",Str.ofString "NoFit",Str.ofString "NoBeliefs",Str.ofString "TooMany",Str.ofString "NoText",Str.ofString "NoRow",Str.ofString "NoName",Str.ofString "Full",Str.ofString "is_whole",Str.ofString "divisor",Str.ofString "share",Str.ofString "reduced",Str.ofString "MOST_UNKNOWNS",Str.ofString "MOST_ROWS",Str.ofString "solved",Str.ofString "first_above",Str.ofString "lowest",Str.ofString "Board",Str.ofString "first_line",Str.ofString "cleared",Str.ofString "_law_cell",Str.ofString "_law_drawn",Str.ofString "_law_divisor",Str.ofString "_law_whole",Str.ofString "_law_fits",Str.ofString "_law_none",Str.ofString "_law_walked",Str.ofString "_law_refused"]
def lf0:Life:=⟨[],[],[],0,[],[],false,#[],[],0,false,false,false,0,[2000,10,10],false,0,true,[],[],0,false⟩
def o13a:Obj:=co0 "<module>" "<module>" 182 1 0 0 11 false .none .none .none 185
def o14a:Obj:=⟨(.type "frame"),none,.plain,#[(some (.ref 13)),(some (.ref 3)),(some (.ref 3)),none,(some (.str "__main__" 164)),none,(some (.ref 0))]⟩
def o3 (P:Params):Obj:=⟨(.type "dict"),none,(.dict #[en0 P "__name__" 165 (.str "law_dullglass_k25_too_many_equations" 518),en0 P "__doc__" 166 .none,en0 P "__package__" 167 .none,en0 P "__loader__" 168 (.builtin "__main__.__loader__#opaque"),en0 P "__spec__" 169 .none,en0 P "__annotations__" 170 (.ref 6),en0 P "__builtins__" 171 (.ref 4),en0 P "__file__" 173 (.str "/claim/cut.py" 172),en0 P "__cached__" 174 .none,en0 P "GlassError" 206 (.ref 24),en0 P "NoShare" 222 (.ref 37),en0 P "NoGlass" 238 (.ref 49),en0 P "NoDulling" 254 (.ref 61),en0 P "NoFit" 270 (.ref 73),en0 P "NoBeliefs" 286 (.ref 85),en0 P "TooMany" 302 (.ref 97),en0 P "NoText" 318 (.ref 109),en0 P "NoRow" 334 (.ref 121),en0 P "NoName" 350 (.ref 133),en0 P "Full" 366 (.ref 145),en0 P "is_whole" 375 (.ref 154),en0 P "divisor" 384 (.ref 161),en0 P "share" 392 (.ref 168),en0 P "reduced" 401 (.ref 175),en0 P "MOST_UNKNOWNS" 405 (.int (20) 404),en0 P "MOST_ROWS" 407 (.int (24) 406),en0 P "solved" 419 (.ref 182),en0 P "first_above" 428 (.ref 189),en0 P "lowest" 434 (.ref 194),en0 P "Board" 505 (.ref 238),en0 P "first_line" 511 (.ref 247),en0 P "cleared" 517 (.ref 252),en0 P "_law_cell" 527 (.ref 259),en0 P "_law_drawn" 540 (.ref 266),en0 P "_law_divisor" 548 (.ref 273),en0 P "_law_whole" 555 (.ref 280),en0 P "_law_fits" 561 (.ref 285),en0 P "_law_none" 567 (.ref 290),en0 P "_law_walked" 576 (.ref 297),en0 P "_law_refused" 587 (.ref 304),en0 P "law" 593 (.ref 309)] 41),#[]⟩
def o12:Obj:=⟨.none,none,(.fields #[(.int (2) 0),(.int (0) 0),(.ref 20),(.int (4) 0),(.int (0) 0),(.ref 33),(.int (6) 0),(.int (0) 0),(.ref 45),(.int (8) 0),(.int (0) 0),(.ref 57),(.int (10) 0),(.int (0) 0),(.ref 69),(.int (12) 0),(.int (0) 0),(.ref 81),(.int (14) 0),(.int (0) 0),(.ref 93),(.int (16) 0),(.int (0) 0),(.ref 105),(.int (18) 0),(.int (0) 0),(.ref 117),(.int (20) 0),(.int (0) 0),(.ref 129),(.int (22) 0),(.int (0) 0),(.ref 141),(.int (25) 0),(.int (0) 0),(.ref 153),(.int (27) 0),(.int (0) 0),(.ref 160),(.int (35) 0),(.int (0) 0),(.ref 167),(.int (39) 0),(.int (0) 0),(.ref 174),(.int (47) 0),(.int (0) 0),(.ref 181),(.int (60) 0),(.int (0) 0),(.ref 188),(.int (65) 0),(.int (0) 0),(.ref 193),(.int (70) 0),(.int (0) 0),(.ref 200),(.int (111) 0),(.int (0) 0),(.ref 246),(.int (115) 0),(.int (0) 0),(.ref 251),(.int (118) 0),(.int (0) 0),(.ref 258),(.int (124) 0),(.int (0) 0),(.ref 265),(.int (136) 0),(.int (0) 0),(.ref 272),(.int (140) 0),(.int (0) 0),(.ref 279),(.int (142) 0),(.int (0) 0),(.ref 284),(.int (159) 0),(.int (0) 0),(.ref 289),(.int (168) 0),(.int (0) 0),(.ref 296),(.int (176) 0),(.int (0) 0),(.ref 303),(.int (184) 0),(.int (0) 0),(.ref 308)]),#[]⟩
def o16:Obj:=⟨(.type "builtin_function_or_method"),none,(.fields #[(.builtin "type.__prepare__"),(.type "type")]),#[]⟩
def o17 (P:Params):Obj:=⟨(.type "dict"),none,(.dict #[en0 P "__module__" 196 (.str "dullglass.errors" 187),en0 P "__qualname__" 198 (.str "GlassError" 197),en0 P "__firstlineno__" 200 (.int (2) 199),en0 P "__static_attributes__" 201 (.ref 22)] 4),#[]⟩
def o20:Obj:=co0 "GlassError" "GlassError" 191 2 0 0 18 false .none .none .none 194
def o21:Obj:=⟨(.type "frame"),none,.plain,#[(some (.ref 20)),(some (.ref 3)),(some (.ref 17)),none,(some (.str "dullglass.errors" 187)),none,(some (.ref 0))]⟩
def o23 (P:Params):Obj:=⟨(.type "dict"),none,(.dict #[en0 P "__module__" 196 (.str "dullglass.errors" 187),en0 P "__firstlineno__" 200 (.int (2) 199),en0 P "__static_attributes__" 201 (.ref 22),en0 P "__weakref__" 203 (.ref 25),en0 P "__doc__" 204 .none] 3),#[]⟩
def o24:Obj:=⟨(.type "type"),none,(.cls ⟨"GlassError",[(.type "ValueError")],[(.ref 24),(.type "ValueError"),(.type "Exception"),(.type "BaseException"),(.type "object")],23,"GlassError",true,[],[(.ref 37),(.ref 49),(.ref 61),(.ref 73),(.ref 85),(.ref 97),(.ref 109),(.ref 121),(.ref 133),(.ref 145)],false,none,false⟩),#[(some (.ref 15)),none,(some (.str "GlassError" 189)),(some (.str "GlassError" 197)),(some (.builtin "ValueError.__new__")),(some (.bool true))]⟩
def o25:Obj:=⟨(.type "getset_descriptor"),none,(.fields #[(.str "__weakref__" 202),(.ref 24),(.builtin "ExceptionGroup.__weakref__"),.none]),#[]⟩
def o26:Obj:=⟨(.type "super"),none,(.fields #[(.ref 24),(.ref 24),(.ref 24)]),#[]⟩
def o27:Obj:=⟨(.type "builtin_function_or_method"),none,(.fields #[(.builtin "object.__init_subclass__"),(.ref 24)]),#[]⟩
def o29:Obj:=⟨(.type "builtin_function_or_method"),none,(.fields #[(.builtin "type.__prepare__"),(.type "type")]),#[]⟩
def o30 (P:Params):Obj:=⟨(.type "dict"),none,(.dict #[en0 P "__module__" 214 (.str "dullglass.errors" 187),en0 P "__qualname__" 216 (.str "NoShare" 215),en0 P "__firstlineno__" 218 (.int (4) 217),en0 P "__static_attributes__" 219 (.ref 35)] 4),#[]⟩
def o33:Obj:=co0 "NoShare" "NoShare" 209 4 0 0 31 false .none .none .none 212
def o34:Obj:=⟨(.type "frame"),none,.plain,#[(some (.ref 33)),(some (.ref 3)),(some (.ref 30)),none,(some (.str "dullglass.errors" 187)),none,(some (.ref 0))]⟩
def o36 (P:Params):Obj:=⟨(.type "dict"),none,(.dict #[en0 P "__module__" 214 (.str "dullglass.errors" 187),en0 P "__firstlineno__" 218 (.int (4) 217),en0 P "__static_attributes__" 219 (.ref 35),en0 P "__doc__" 220 .none] 2),#[]⟩
def o37:Obj:=⟨(.type "type"),none,(.cls ⟨"NoShare",[(.ref 24)],[(.ref 37),(.ref 24),(.type "ValueError"),(.type "Exception"),(.type "BaseException"),(.type "object")],36,"NoShare",true,[],[],false,none,false⟩),#[(some (.ref 28)),none,(some (.str "NoShare" 207)),(some (.str "NoShare" 215)),(some (.builtin "ValueError.__new__")),(some (.bool true))]⟩
def o38:Obj:=⟨(.type "super"),none,(.fields #[(.ref 37),(.ref 37),(.ref 37)]),#[]⟩
def o39:Obj:=⟨(.type "builtin_function_or_method"),none,(.fields #[(.builtin "object.__init_subclass__"),(.ref 37)]),#[]⟩
def o41:Obj:=⟨(.type "builtin_function_or_method"),none,(.fields #[(.builtin "type.__prepare__"),(.type "type")]),#[]⟩
def o42 (P:Params):Obj:=⟨(.type "dict"),none,(.dict #[en0 P "__module__" 230 (.str "dullglass.errors" 187),en0 P "__qualname__" 232 (.str "NoGlass" 231),en0 P "__firstlineno__" 234 (.int (6) 233),en0 P "__static_attributes__" 235 (.ref 47)] 4),#[]⟩
def o45:Obj:=co0 "NoGlass" "NoGlass" 225 6 0 0 43 false .none .none .none 228
def o46:Obj:=⟨(.type "frame"),none,.plain,#[(some (.ref 45)),(some (.ref 3)),(some (.ref 42)),none,(some (.str "dullglass.errors" 187)),none,(some (.ref 0))]⟩
def o48 (P:Params):Obj:=⟨(.type "dict"),none,(.dict #[en0 P "__module__" 230 (.str "dullglass.errors" 187),en0 P "__firstlineno__" 234 (.int (6) 233),en0 P "__static_attributes__" 235 (.ref 47),en0 P "__doc__" 236 .none] 2),#[]⟩
def o49:Obj:=⟨(.type "type"),none,(.cls ⟨"NoGlass",[(.ref 24)],[(.ref 49),(.ref 24),(.type "ValueError"),(.type "Exception"),(.type "BaseException"),(.type "object")],48,"NoGlass",true,[],[],false,none,false⟩),#[(some (.ref 40)),none,(some (.str "NoGlass" 223)),(some (.str "NoGlass" 231)),(some (.builtin "ValueError.__new__")),(some (.bool true))]⟩
def o50:Obj:=⟨(.type "super"),none,(.fields #[(.ref 49),(.ref 49),(.ref 49)]),#[]⟩
def o51:Obj:=⟨(.type "builtin_function_or_method"),none,(.fields #[(.builtin "object.__init_subclass__"),(.ref 49)]),#[]⟩
def o53:Obj:=⟨(.type "builtin_function_or_method"),none,(.fields #[(.builtin "type.__prepare__"),(.type "type")]),#[]⟩
def o54 (P:Params):Obj:=⟨(.type "dict"),none,(.dict #[en0 P "__module__" 246 (.str "dullglass.errors" 187),en0 P "__qualname__" 248 (.str "NoDulling" 247),en0 P "__firstlineno__" 250 (.int (8) 249),en0 P "__static_attributes__" 251 (.ref 59)] 4),#[]⟩
def o57:Obj:=co0 "NoDulling" "NoDulling" 241 8 0 0 55 false .none .none .none 244
def o58:Obj:=⟨(.type "frame"),none,.plain,#[(some (.ref 57)),(some (.ref 3)),(some (.ref 54)),none,(some (.str "dullglass.errors" 187)),none,(some (.ref 0))]⟩
def o60 (P:Params):Obj:=⟨(.type "dict"),none,(.dict #[en0 P "__module__" 246 (.str "dullglass.errors" 187),en0 P "__firstlineno__" 250 (.int (8) 249),en0 P "__static_attributes__" 251 (.ref 59),en0 P "__doc__" 252 .none] 2),#[]⟩
def o61:Obj:=⟨(.type "type"),none,(.cls ⟨"NoDulling",[(.ref 24)],[(.ref 61),(.ref 24),(.type "ValueError"),(.type "Exception"),(.type "BaseException"),(.type "object")],60,"NoDulling",true,[],[],false,none,false⟩),#[(some (.ref 52)),none,(some (.str "NoDulling" 239)),(some (.str "NoDulling" 247)),(some (.builtin "ValueError.__new__")),(some (.bool true))]⟩
def o62:Obj:=⟨(.type "super"),none,(.fields #[(.ref 61),(.ref 61),(.ref 61)]),#[]⟩
def o63:Obj:=⟨(.type "builtin_function_or_method"),none,(.fields #[(.builtin "object.__init_subclass__"),(.ref 61)]),#[]⟩
def o65:Obj:=⟨(.type "builtin_function_or_method"),none,(.fields #[(.builtin "type.__prepare__"),(.type "type")]),#[]⟩
def o66 (P:Params):Obj:=⟨(.type "dict"),none,(.dict #[en0 P "__module__" 262 (.str "dullglass.errors" 187),en0 P "__qualname__" 264 (.str "NoFit" 263),en0 P "__firstlineno__" 266 (.int (10) 265),en0 P "__static_attributes__" 267 (.ref 71)] 4),#[]⟩
def o69:Obj:=co0 "NoFit" "NoFit" 257 10 0 0 67 false .none .none .none 260
def o70:Obj:=⟨(.type "frame"),none,.plain,#[(some (.ref 69)),(some (.ref 3)),(some (.ref 66)),none,(some (.str "dullglass.errors" 187)),none,(some (.ref 0))]⟩
def o72 (P:Params):Obj:=⟨(.type "dict"),none,(.dict #[en0 P "__module__" 262 (.str "dullglass.errors" 187),en0 P "__firstlineno__" 266 (.int (10) 265),en0 P "__static_attributes__" 267 (.ref 71),en0 P "__doc__" 268 .none] 2),#[]⟩
def o73:Obj:=⟨(.type "type"),none,(.cls ⟨"NoFit",[(.ref 24)],[(.ref 73),(.ref 24),(.type "ValueError"),(.type "Exception"),(.type "BaseException"),(.type "object")],72,"NoFit",true,[],[],false,none,false⟩),#[(some (.ref 64)),none,(some (.str "NoFit" 255)),(some (.str "NoFit" 263)),(some (.builtin "ValueError.__new__")),(some (.bool true))]⟩
def o74:Obj:=⟨(.type "super"),none,(.fields #[(.ref 73),(.ref 73),(.ref 73)]),#[]⟩
def o75:Obj:=⟨(.type "builtin_function_or_method"),none,(.fields #[(.builtin "object.__init_subclass__"),(.ref 73)]),#[]⟩
def o77:Obj:=⟨(.type "builtin_function_or_method"),none,(.fields #[(.builtin "type.__prepare__"),(.type "type")]),#[]⟩
def o78 (P:Params):Obj:=⟨(.type "dict"),none,(.dict #[en0 P "__module__" 278 (.str "dullglass.errors" 187),en0 P "__qualname__" 280 (.str "NoBeliefs" 279),en0 P "__firstlineno__" 282 (.int (12) 281),en0 P "__static_attributes__" 283 (.ref 83)] 4),#[]⟩
def o81:Obj:=co0 "NoBeliefs" "NoBeliefs" 273 12 0 0 79 false .none .none .none 276
def o82:Obj:=⟨(.type "frame"),none,.plain,#[(some (.ref 81)),(some (.ref 3)),(some (.ref 78)),none,(some (.str "dullglass.errors" 187)),none,(some (.ref 0))]⟩
def o84 (P:Params):Obj:=⟨(.type "dict"),none,(.dict #[en0 P "__module__" 278 (.str "dullglass.errors" 187),en0 P "__firstlineno__" 282 (.int (12) 281),en0 P "__static_attributes__" 283 (.ref 83),en0 P "__doc__" 284 .none] 2),#[]⟩
def o85:Obj:=⟨(.type "type"),none,(.cls ⟨"NoBeliefs",[(.ref 24)],[(.ref 85),(.ref 24),(.type "ValueError"),(.type "Exception"),(.type "BaseException"),(.type "object")],84,"NoBeliefs",true,[],[],false,none,false⟩),#[(some (.ref 76)),none,(some (.str "NoBeliefs" 271)),(some (.str "NoBeliefs" 279)),(some (.builtin "ValueError.__new__")),(some (.bool true))]⟩
def o86:Obj:=⟨(.type "super"),none,(.fields #[(.ref 85),(.ref 85),(.ref 85)]),#[]⟩
def o87:Obj:=⟨(.type "builtin_function_or_method"),none,(.fields #[(.builtin "object.__init_subclass__"),(.ref 85)]),#[]⟩
def o89:Obj:=⟨(.type "builtin_function_or_method"),none,(.fields #[(.builtin "type.__prepare__"),(.type "type")]),#[]⟩
def o90 (P:Params):Obj:=⟨(.type "dict"),none,(.dict #[en0 P "__module__" 294 (.str "dullglass.errors" 187),en0 P "__qualname__" 296 (.str "TooMany" 295),en0 P "__firstlineno__" 298 (.int (14) 297),en0 P "__static_attributes__" 299 (.ref 95)] 4),#[]⟩
def o93:Obj:=co0 "TooMany" "TooMany" 289 14 0 0 91 false .none .none .none 292
def o94:Obj:=⟨(.type "frame"),none,.plain,#[(some (.ref 93)),(some (.ref 3)),(some (.ref 90)),none,(some (.str "dullglass.errors" 187)),none,(some (.ref 0))]⟩
def o96 (P:Params):Obj:=⟨(.type "dict"),none,(.dict #[en0 P "__module__" 294 (.str "dullglass.errors" 187),en0 P "__firstlineno__" 298 (.int (14) 297),en0 P "__static_attributes__" 299 (.ref 95),en0 P "__doc__" 300 .none] 2),#[]⟩
def o97:Obj:=⟨(.type "type"),none,(.cls ⟨"TooMany",[(.ref 24)],[(.ref 97),(.ref 24),(.type "ValueError"),(.type "Exception"),(.type "BaseException"),(.type "object")],96,"TooMany",true,[],[],false,none,false⟩),#[(some (.ref 88)),none,(some (.str "TooMany" 287)),(some (.str "TooMany" 295)),(some (.builtin "ValueError.__new__")),(some (.bool true))]⟩
def o98:Obj:=⟨(.type "super"),none,(.fields #[(.ref 97),(.ref 97),(.ref 97)]),#[]⟩
def o99:Obj:=⟨(.type "builtin_function_or_method"),none,(.fields #[(.builtin "object.__init_subclass__"),(.ref 97)]),#[]⟩
def o101:Obj:=⟨(.type "builtin_function_or_method"),none,(.fields #[(.builtin "type.__prepare__"),(.type "type")]),#[]⟩
def o102 (P:Params):Obj:=⟨(.type "dict"),none,(.dict #[en0 P "__module__" 310 (.str "dullglass.errors" 187),en0 P "__qualname__" 312 (.str "NoText" 311),en0 P "__firstlineno__" 314 (.int (16) 313),en0 P "__static_attributes__" 315 (.ref 107)] 4),#[]⟩
def o105:Obj:=co0 "NoText" "NoText" 305 16 0 0 103 false .none .none .none 308
def o106:Obj:=⟨(.type "frame"),none,.plain,#[(some (.ref 105)),(some (.ref 3)),(some (.ref 102)),none,(some (.str "dullglass.errors" 187)),none,(some (.ref 0))]⟩
def o108 (P:Params):Obj:=⟨(.type "dict"),none,(.dict #[en0 P "__module__" 310 (.str "dullglass.errors" 187),en0 P "__firstlineno__" 314 (.int (16) 313),en0 P "__static_attributes__" 315 (.ref 107),en0 P "__doc__" 316 .none] 2),#[]⟩
def o109:Obj:=⟨(.type "type"),none,(.cls ⟨"NoText",[(.ref 24)],[(.ref 109),(.ref 24),(.type "ValueError"),(.type "Exception"),(.type "BaseException"),(.type "object")],108,"NoText",true,[],[],false,none,false⟩),#[(some (.ref 100)),none,(some (.str "NoText" 303)),(some (.str "NoText" 311)),(some (.builtin "ValueError.__new__")),(some (.bool true))]⟩
def o110:Obj:=⟨(.type "super"),none,(.fields #[(.ref 109),(.ref 109),(.ref 109)]),#[]⟩
def o111:Obj:=⟨(.type "builtin_function_or_method"),none,(.fields #[(.builtin "object.__init_subclass__"),(.ref 109)]),#[]⟩
def o113:Obj:=⟨(.type "builtin_function_or_method"),none,(.fields #[(.builtin "type.__prepare__"),(.type "type")]),#[]⟩
def o114 (P:Params):Obj:=⟨(.type "dict"),none,(.dict #[en0 P "__module__" 326 (.str "dullglass.errors" 187),en0 P "__qualname__" 328 (.str "NoRow" 327),en0 P "__firstlineno__" 330 (.int (18) 329),en0 P "__static_attributes__" 331 (.ref 119)] 4),#[]⟩
def o117:Obj:=co0 "NoRow" "NoRow" 321 18 0 0 115 false .none .none .none 324
def o118:Obj:=⟨(.type "frame"),none,.plain,#[(some (.ref 117)),(some (.ref 3)),(some (.ref 114)),none,(some (.str "dullglass.errors" 187)),none,(some (.ref 0))]⟩
def o120 (P:Params):Obj:=⟨(.type "dict"),none,(.dict #[en0 P "__module__" 326 (.str "dullglass.errors" 187),en0 P "__firstlineno__" 330 (.int (18) 329),en0 P "__static_attributes__" 331 (.ref 119),en0 P "__doc__" 332 .none] 2),#[]⟩
def o121:Obj:=⟨(.type "type"),none,(.cls ⟨"NoRow",[(.ref 24)],[(.ref 121),(.ref 24),(.type "ValueError"),(.type "Exception"),(.type "BaseException"),(.type "object")],120,"NoRow",true,[],[],false,none,false⟩),#[(some (.ref 112)),none,(some (.str "NoRow" 319)),(some (.str "NoRow" 327)),(some (.builtin "ValueError.__new__")),(some (.bool true))]⟩
def o122:Obj:=⟨(.type "super"),none,(.fields #[(.ref 121),(.ref 121),(.ref 121)]),#[]⟩
def o123:Obj:=⟨(.type "builtin_function_or_method"),none,(.fields #[(.builtin "object.__init_subclass__"),(.ref 121)]),#[]⟩
def o125:Obj:=⟨(.type "builtin_function_or_method"),none,(.fields #[(.builtin "type.__prepare__"),(.type "type")]),#[]⟩
def o126 (P:Params):Obj:=⟨(.type "dict"),none,(.dict #[en0 P "__module__" 342 (.str "dullglass.errors" 187),en0 P "__qualname__" 344 (.str "NoName" 343),en0 P "__firstlineno__" 346 (.int (20) 345),en0 P "__static_attributes__" 347 (.ref 131)] 4),#[]⟩
def o129:Obj:=co0 "NoName" "NoName" 337 20 0 0 127 false .none .none .none 340
def o130:Obj:=⟨(.type "frame"),none,.plain,#[(some (.ref 129)),(some (.ref 3)),(some (.ref 126)),none,(some (.str "dullglass.errors" 187)),none,(some (.ref 0))]⟩
def o132 (P:Params):Obj:=⟨(.type "dict"),none,(.dict #[en0 P "__module__" 342 (.str "dullglass.errors" 187),en0 P "__firstlineno__" 346 (.int (20) 345),en0 P "__static_attributes__" 347 (.ref 131),en0 P "__doc__" 348 .none] 2),#[]⟩
def o133:Obj:=⟨(.type "type"),none,(.cls ⟨"NoName",[(.ref 24)],[(.ref 133),(.ref 24),(.type "ValueError"),(.type "Exception"),(.type "BaseException"),(.type "object")],132,"NoName",true,[],[],false,none,false⟩),#[(some (.ref 124)),none,(some (.str "NoName" 335)),(some (.str "NoName" 343)),(some (.builtin "ValueError.__new__")),(some (.bool true))]⟩
def o134:Obj:=⟨(.type "super"),none,(.fields #[(.ref 133),(.ref 133),(.ref 133)]),#[]⟩
def o135:Obj:=⟨(.type "builtin_function_or_method"),none,(.fields #[(.builtin "object.__init_subclass__"),(.ref 133)]),#[]⟩
def o137:Obj:=⟨(.type "builtin_function_or_method"),none,(.fields #[(.builtin "type.__prepare__"),(.type "type")]),#[]⟩
def o138 (P:Params):Obj:=⟨(.type "dict"),none,(.dict #[en0 P "__module__" 358 (.str "dullglass.errors" 187),en0 P "__qualname__" 360 (.str "Full" 359),en0 P "__firstlineno__" 362 (.int (22) 361),en0 P "__static_attributes__" 363 (.ref 143)] 4),#[]⟩
def o141:Obj:=co0 "Full" "Full" 353 22 0 0 139 false .none .none .none 356
def o142:Obj:=⟨(.type "frame"),none,.plain,#[(some (.ref 141)),(some (.ref 3)),(some (.ref 138)),none,(some (.str "dullglass.errors" 187)),none,(some (.ref 0))]⟩
def o144 (P:Params):Obj:=⟨(.type "dict"),none,(.dict #[en0 P "__module__" 358 (.str "dullglass.errors" 187),en0 P "__firstlineno__" 362 (.int (22) 361),en0 P "__static_attributes__" 363 (.ref 143),en0 P "__doc__" 364 .none] 2),#[]⟩
def o145:Obj:=⟨(.type "type"),none,(.cls ⟨"Full",[(.ref 24)],[(.ref 145),(.ref 24),(.type "ValueError"),(.type "Exception"),(.type "BaseException"),(.type "object")],144,"Full",true,[],[],false,none,false⟩),#[(some (.ref 136)),none,(some (.str "Full" 351)),(some (.str "Full" 359)),(some (.builtin "ValueError.__new__")),(some (.bool true))]⟩
def o146:Obj:=⟨(.type "super"),none,(.fields #[(.ref 145),(.ref 145),(.ref 145)]),#[]⟩
def o147:Obj:=⟨(.type "builtin_function_or_method"),none,(.fields #[(.builtin "object.__init_subclass__"),(.ref 145)]),#[]⟩
def o153:Obj:=co1 "is_whole" 369 25 1 3 148 true 373
def o154:Obj:=fo1 "is_whole" 13 (.str "dullglass.shares" 367) 153
def o160:Obj:=co1 "divisor" 376 27 2 3 155 true 382
def o161:Obj:=fo1 "divisor" 14 (.str "dullglass.shares" 367) 160
def o167:Obj:=co1 "share" 385 35 2 3 162 true 390
def o168:Obj:=fo1 "share" 15 (.str "dullglass.shares" 367) 167
def o174:Obj:=co1 "reduced" 393 39 2 3 169 true 399
def o175:Obj:=fo1 "reduced" 16 (.str "dullglass.shares" 367) 174
def o181:Obj:=co1 "solved" 408 47 2 3 176 true 417
def o182:Obj:=fo1 "solved" 20 (.str "dullglass.solver" 402) 181
def o188:Obj:=co1 "first_above" 420 60 1 3 183 true 426
def o189:Obj:=fo1 "first_above" 21 (.str "dullglass.solver" 402) 188
def o193:Obj:=co0 "lowest" "lowest" 429 65 1 3 190 true .none .none (.ref 192) 432
def o194:Obj:=fo1 "lowest" 22 (.str "dullglass.solver" 402) 193
def o196:Obj:=⟨(.type "builtin_function_or_method"),none,(.fields #[(.builtin "type.__prepare__"),(.type "type")]),#[]⟩
def o197 (P:Params):Obj:=⟨(.type "dict"),none,(.dict #[en0 P "__module__" 442 (.str "dullglass.solver" 402),en0 P "__qualname__" 444 (.str "Board" 443),en0 P "__firstlineno__" 446 (.int (70) 445),en0 P "__init__" 452 (.ref 206),en0 P "lack" 458 (.ref 211),en0 P "bring_in" 464 (.ref 216),en0 P "tightest" 475 (.ref 223),en0 P "is_tighter" 487 (.ref 230),en0 P "told" 493 (.ref 235),en0 P "__static_attributes__" 498 (.ref 236)] 10),#[]⟩
def o199:Obj:=⟨.none,none,(.fields #[(.int (72) 0),(.int (4) 0),(.ref 205),(.int (78) 0),(.int (4) 0),(.ref 210),(.int (85) 0),(.int (4) 0),(.ref 215),(.int (93) 0),(.int (4) 0),(.ref 222),(.int (100) 0),(.int (4) 0),(.ref 229),(.int (105) 0),(.int (4) 0),(.ref 234)]),#[]⟩
def o200:Obj:=co0 "Board" "Board" 437 70 0 0 198 false .none .none .none 440
def o201:Obj:=⟨(.type "frame"),none,.plain,#[(some (.ref 200)),(some (.ref 3)),(some (.ref 197)),none,(some (.str "dullglass.solver" 402)),none,(some (.ref 0))]⟩
def o205:Obj:=co0 "__init__" "Board.__init__" 447 72 4 3 202 true .none .none (.ref 204) 450
def o206:Obj:=fo0 "__init__" "Board.__init__" (methAt (top 23) 0) (.str "dullglass.solver" 402) 205
def o210:Obj:=co0 "lack" "Board.lack" 453 78 1 3 207 true .none .none (.ref 209) 456
def o211:Obj:=fo0 "lack" "Board.lack" (methAt (top 23) 1) (.str "dullglass.solver" 402) 210
def o215:Obj:=co0 "bring_in" "Board.bring_in" 459 85 2 3 212 true .none .none (.ref 214) 462
def o216:Obj:=fo0 "bring_in" "Board.bring_in" (methAt (top 23) 2) (.str "dullglass.solver" 402) 215
def o222:Obj:=co0 "tightest" "Board.tightest" 465 93 2 3 217 true (.ref 219) (.ref 220) (.ref 221) 473
def o223:Obj:=fo0 "tightest" "Board.tightest" (methAt (top 23) 3) (.str "dullglass.solver" 402) 222
def o229:Obj:=co0 "is_tighter" "Board.is_tighter" 476 100 4 3 224 true (.ref 226) (.ref 227) (.ref 228) 485
def o230:Obj:=fo0 "is_tighter" "Board.is_tighter" (methAt (top 23) 4) (.str "dullglass.solver" 402) 229
def o234:Obj:=co0 "told" "Board.told" 488 105 1 3 231 true .none .none (.ref 233) 491
def o235:Obj:=fo0 "told" "Board.told" (methAt (top 23) 5) (.str "dullglass.solver" 402) 234
def o237 (P:Params):Obj:=⟨(.type "dict"),none,(.dict #[en0 P "__module__" 442 (.str "dullglass.solver" 402),en0 P "__firstlineno__" 446 (.int (70) 445),en0 P "__init__" 452 (.ref 206),en0 P "lack" 458 (.ref 211),en0 P "bring_in" 464 (.ref 216),en0 P "tightest" 475 (.ref 223),en0 P "is_tighter" 487 (.ref 230),en0 P "told" 493 (.ref 235),en0 P "__static_attributes__" 498 (.ref 236),en0 P "__dict__" 500 (.ref 239),en0 P "__weakref__" 502 (.ref 240),en0 P "__doc__" 503 .none] 4),#[]⟩
def o238:Obj:=⟨(.type "type"),none,(.cls ⟨"Board",[(.type "object")],[(.ref 238),(.type "object")],237,"Board",true,[],[],false,none,false⟩),#[none,none,(some (.str "Board" 435)),(some (.str "Board" 443)),(some (.builtin "object.__new__")),(some (.bool true))]⟩
def o239:Obj:=⟨(.type "getset_descriptor"),none,(.fields #[(.str "__dict__" 499),(.ref 238),(.builtin "function.__dict__"),(.builtin "function.__dict__#set")]),#[]⟩
def o240:Obj:=⟨(.type "getset_descriptor"),none,(.fields #[(.str "__weakref__" 501),(.ref 238),(.builtin "ExceptionGroup.__weakref__"),.none]),#[]⟩
def o241:Obj:=⟨(.type "super"),none,(.fields #[(.ref 238),(.ref 238),(.ref 238)]),#[]⟩
def o242:Obj:=⟨(.type "builtin_function_or_method"),none,(.fields #[(.builtin "object.__init_subclass__"),(.ref 238)]),#[]⟩
def o246:Obj:=co0 "first_line" "first_line" 506 111 4 3 243 true .none .none (.ref 245) 509
def o247:Obj:=fo1 "first_line" 24 (.str "dullglass.solver" 402) 246
def o251:Obj:=co0 "cleared" "cleared" 512 115 4 3 248 true .none .none (.ref 250) 515
def o252:Obj:=fo1 "cleared" 25 (.str "dullglass.solver" 402) 251
def o258:Obj:=co1 "_law_cell" 520 118 2 3 253 true 525
def o259:Obj:=fo1 "_law_cell" 27 (.str "law_dullglass_k25_too_many_equations" 518) 258
def o265:Obj:=co1 "_law_drawn" 528 124 3 3 260 true 538
def o266:Obj:=fo1 "_law_drawn" 28 (.str "law_dullglass_k25_too_many_equations" 518) 265
def o272:Obj:=co1 "_law_divisor" 541 136 2 3 267 true 546
def o273:Obj:=fo1 "_law_divisor" 29 (.str "law_dullglass_k25_too_many_equations" 518) 272
def o279:Obj:=co1 "_law_whole" 549 140 1 3 274 true 553
def o280:Obj:=fo1 "_law_whole" 30 (.str "law_dullglass_k25_too_many_equations" 518) 279
def o284:Obj:=co0 "_law_fits" "_law_fits" 556 142 3 3 281 true .none .none (.ref 283) 559
def o285:Obj:=fo1 "_law_fits" 31 (.str "law_dullglass_k25_too_many_equations" 518) 284
def o289:Obj:=co0 "_law_none" "_law_none" 562 159 3 3 286 true .none .none (.ref 288) 565
def o290:Obj:=fo1 "_law_none" 32 (.str "law_dullglass_k25_too_many_equations" 518) 289
def o296:Obj:=co1 "_law_walked" 568 168 3 3 291 true 574
def o297:Obj:=fo1 "_law_walked" 33 (.str "law_dullglass_k25_too_many_equations" 518) 296
def o303:Obj:=co1 "_law_refused" 577 176 2 3 298 true 585
def o304:Obj:=fo1 "_law_refused" 34 (.str "law_dullglass_k25_too_many_equations" 518) 303
def o308:Obj:=co0 "law" "law" 588 184 1 3 305 true .none .none (.ref 307) 591
def o309:Obj:=fo1 "law" 35 (.str "law_dullglass_k25_too_many_equations" 518) 308
def tA0 (P:Params):BT:=(N0 (boot_o_0 P) (N0 (boot_o_1 P) (N0 (boot_o_3 P) (N0 (boot_o_7 P) nl0 nl0) (N0 (tu0 []) nl0 nl0)) (N0 (boot_o_5 P) (N0 (boot_o_9 P) nl0 nl0) (N0 o13a nl0 nl0))) (N0 (boot_o_2 P) (N0 (boot_o_4 P) (N0 (boot_o_8 P) nl0 nl0) (N0 em0 nl0 nl0)) (N0 (boot_o_6 P) (N0 (boot_o_10 P) nl0 nl0) (N0 o14a nl0 nl0))))
def tE0 (P:Params):BT:=(N0 (boot_o_0 P) (N0 (boot_o_1 P) (N0 (o3 P) (N0 (boot_o_7 P) (N0 (tu0 [(.type "ValueError")]) (N0 (tu0 []) (N0 o63 (N0 (tu0 []) (N0 (tu0 [(.str "_law_script" 523),(.str "_law_k" 524)]) nl0 nl0) nl0) (N0 em0 nl0 nl0)) (N0 (tu0 []) (N0 (pr0 "divisor" "divisor" (top 14)) (N0 em0 nl0 nl0) nl0) (N0 o223 nl0 nl0))) (N0 (tu0 []) (N0 (tu0 []) (N0 (tu0 []) (N0 (pr0 "_law_divisor" "_law_divisor" (top 29)) nl0 nl0) nl0) (N0 (tu0 []) nl0 nl0)) (N0 o111 (N0 o175 (N0 o303 nl0 nl0) nl0) (N0 o239 nl0 nl0)))) (N0 (o23 P) (N0 o39 (N0 (tu0 []) (N0 o135 (N0 (tu0 []) nl0 nl0) nl0) (N0 o199 nl0 nl0)) (N0 (tu0 []) (N0 o167 (N0 (pr0 "_law_walked" "_law_walked" (top 33)) nl0 nl0) nl0) (N0 (tu0 []) nl0 nl0))) (N0 (tu0 []) (N0 o87 (N0 (tu0 []) (N0 o279 nl0 nl0) nl0) (N0 o215 nl0 nl0)) (N0 (tu0 []) (N0 (tu0 []) nl0 nl0) (N0 o247 nl0 nl0))))) (N0 (tu0 []) (N0 em0 (N0 (tu0 []) (N0 (tu0 []) (N0 (tu0 []) (N0 o259 nl0 nl0) nl0) (N0 (tu0 []) nl0 nl0)) (N0 o99 (N0 em0 (N0 (tu0 []) nl0 nl0) nl0) (N0 (tu0 []) nl0 nl0))) (N0 o51 (N0 (tu0 []) (N0 o147 (N0 em0 nl0 nl0) nl0) (N0 o211 nl0 nl0)) (N0 (tu0 []) (N0 (tu0 []) (N0 (pr0 "law" "law" (top 35)) nl0 nl0) nl0) (N0 (tu0 []) nl0 nl0)))) (N0 o27 (N0 (tu0 []) (N0 o75 (N0 (tu0 []) (N0 (tu0 []) nl0 nl0) nl0) (N0 em0 nl0 nl0)) (N0 (tu0 []) (N0 (tu0 [(.str "top" 396),(.str "bottom" 397),(.str "common" 398)]) (N0 em0 nl0 nl0) nl0) (N0 o235 nl0 nl0))) (N0 (tu0 []) (N0 (tu0 []) (N0 (tu0 []) (N0 (pr0 "_law_fits" "_law_fits" (top 31)) nl0 nl0) nl0) (N0 (tu0 [(.str "self" 468),(.str "place" 469),(.str "chosen" 470),(.str "k" 471),(.str "line" 472)]) nl0 nl0)) (N0 o123 (N0 (pr0 "first_above" "first_above" (top 21)) nl0 nl0) (N0 o251 nl0 nl0)))))) (N0 (boot_o_5 P) (N0 (boot_o_9 P) (N0 (o17 P) (N0 o33 (N0 o65 (N0 o129 (N0 (pr0 "_law_cell" "_law_cell" (top 27)) nl0 nl0) nl0) (N0 o193 nl0 nl0)) (N0 o97 (N0 o161 (N0 o289 nl0 nl0) nl0) (N0 em0 nl0 nl0))) (N0 o49 (N0 o81 (N0 o145 (N0 o273 nl0 nl0) nl0) (N0 (pr0 "lack" "Board.lack" (methAt (top 23) 1)) nl0 nl0)) (N0 o113 (N0 em0 (N0 (tu0 []) nl0 nl0) nl0) (N0 o241 nl0 nl0)))) (N0 o25 (N0 o41 (N0 o73 (N0 o137 (N0 o265 nl0 nl0) nl0) (N0 o201 nl0 nl0)) (N0 o105 (N0 (tu0 []) (N0 o297 nl0 nl0) nl0) (N0 (pr0 "told" "Board.told" (methAt (top 23) 5)) nl0 nl0))) (N0 o57 (N0 o89 (N0 o153 (N0 (tu0 []) nl0 nl0) nl0) (N0 (tu0 []) nl0 nl0)) (N0 o121 (N0 (tu0 [(.str "numbers" 423),(.str "place" 424),(.str "number" 425)]) nl0 nl0) (N0 em0 nl0 nl0))))) (N0 o13a (N0 o21 (N0 o37 (N0 o69 (N0 o133 (N0 em0 nl0 nl0) nl0) (N0 (o197 P) nl0 nl0)) (N0 o101 (N0 (tu0 []) (N0 (tu0 [(.str "_law_found" 571),(.str "_law_rows" 572),(.str "_law_sums" 573)]) nl0 nl0) nl0) (N0 o229 nl0 nl0))) (N0 o53 (N0 o85 (N0 em0 (N0 (tu0 []) nl0 nl0) nl0) (N0 em0 nl0 nl0)) (N0 o117 (N0 o181 (N0 o309 nl0 nl0) nl0) (N0 (pr0 "first_line" "first_line" (top 24)) nl0 nl0)))) (N0 o29 (N0 o45 (N0 o77 (N0 o141 (N0 (tu0 [(.str "_law_one" 544),(.str "_law_other" 545)]) nl0 nl0) nl0) (N0 o205 nl0 nl0)) (N0 o109 (N0 (pr0 "reduced" "reduced" (top 16)) (N0 (tu0 []) nl0 nl0) nl0) (N0 (o237 P) nl0 nl0))) (N0 o61 (N0 o93 (N0 (tu0 [(.str "one" 379),(.str "other" 380),(.str "rest" 381)]) (N0 o285 nl0 nl0) nl0) (N0 (pr0 "tightest" "Board.tightest" (methAt (top 23) 3)) nl0 nl0)) (N0 o125 (N0 o189 nl0 nl0) (N0 (tu0 []) nl0 nl0))))))) (N0 (boot_o_2 P) (N0 (boot_o_4 P) (N0 (boot_o_8 P) (N0 o16 (N0 em0 (N0 (tu0 [(.ref 24)]) (N0 em0 (N0 (tu0 []) nl0 nl0) nl0) (N0 (pr0 "lowest" "lowest" (top 22)) nl0 nl0)) (N0 (o96 P) (N0 o160 (N0 (pr0 "_law_none" "_law_none" (top 32)) nl0 nl0) nl0) (N0 (tu0 []) nl0 nl0))) (N0 (o48 P) (N0 em0 (N0 (o144 P) (N0 o272 nl0 nl0) nl0) (N0 em0 nl0 nl0)) (N0 (tu0 [(.ref 24)]) (N0 (tu0 []) (N0 o304 nl0 nl0) nl0) (N0 o240 nl0 nl0)))) (N0 o24 (N0 (tu0 [(.ref 24)]) (N0 (o72 P) (N0 (tu0 [(.ref 24)]) (N0 (pr0 "_law_drawn" "_law_drawn" (top 28)) nl0 nl0) nl0) (N0 o200 nl0 nl0)) (N0 em0 (N0 o168 (N0 o296 nl0 nl0) nl0) (N0 em0 nl0 nl0))) (N0 em0 (N0 (tu0 [(.ref 24)]) (N0 (pr0 "is_whole" "is_whole" (top 13)) (N0 o280 nl0 nl0) nl0) (N0 o216 nl0 nl0)) (N0 (o120 P) (N0 em0 nl0 nl0) (N0 (tu0 []) nl0 nl0))))) (N0 o12 (N0 o20 (N0 (o36 P) (N0 em0 (N0 (o132 P) (N0 (tu0 []) nl0 nl0) nl0) (N0 o196 nl0 nl0)) (N0 (tu0 [(.ref 24)]) (N0 (tu0 [(.str "top" 388),(.str "bottom" 389)]) (N0 em0 nl0 nl0) nl0) (N0 (pr0 "is_tighter" "Board.is_tighter" (methAt (top 23) 4)) nl0 nl0))) (N0 (tu0 [(.ref 24)]) (N0 (o84 P) (N0 (tu0 []) (N0 (tu0 [(.str "_law_one" 552)]) nl0 nl0) nl0) (N0 (tu0 []) nl0 nl0)) (N0 em0 (N0 (pr0 "solved" "solved" (top 20)) (N0 o308 nl0 nl0) nl0) (N0 em0 nl0 nl0)))) (N0 (tu0 [(.ref 24)]) (N0 em0 (N0 (tu0 [(.ref 24)]) (N0 em0 (N0 em0 nl0 nl0) nl0) (N0 (pr0 "__init__" "Board.__init__" (methAt (top 23) 0)) nl0 nl0)) (N0 (o108 P) (N0 (tu0 []) (N0 (tu0 [(.str "_law_rows" 580),(.str "_law_sums" 581),(.str "_law_caught" 582),(.str "error" 583),(.str "_law_other" 584)]) nl0 nl0) nl0) (N0 (tu0 [(.str "bottom" 494),(.str "lines" 495),(.str "stands_for" 496),(.str "unknowns" 497)]) nl0 nl0))) (N0 (o60 P) (N0 em0 (N0 em0 (N0 o284 nl0 nl0) nl0) (N0 (tu0 []) nl0 nl0)) (N0 (tu0 [(.ref 24)]) (N0 o188 nl0 nl0) (N0 o252 nl0 nl0)))))) (N0 (boot_o_6 P) (N0 (boot_o_10 P) (N0 (tu0 []) (N0 o34 (N0 (o66 P) (N0 o130 (N0 o258 nl0 nl0) nl0) (N0 o194 nl0 nl0)) (N0 o98 (N0 (tu0 []) (N0 o290 nl0 nl0) nl0) (N0 (tu0 [(.str "self" 479),(.str "k" 480),(.str "chosen" 481),(.str "place" 482),(.str "one" 483),(.str "other" 484)]) nl0 nl0))) (N0 o50 (N0 o82 (N0 o146 (N0 (tu0 []) nl0 nl0) nl0) (N0 o210 nl0 nl0)) (N0 (o114 P) (N0 (tu0 [(.str "rows" 411),(.str "sums" 412),(.str "unknowns" 413),(.str "board" 414),(.str "lack" 415),(.str "place" 416)]) (N0 em0 nl0 nl0) nl0) (N0 o242 nl0 nl0)))) (N0 o26 (N0 (o42 P) (N0 o74 (N0 (o138 P) (N0 o266 nl0 nl0) nl0) (N0 (tu0 []) nl0 nl0)) (N0 o106 (N0 em0 (N0 (tu0 []) nl0 nl0) nl0) (N0 o234 nl0 nl0))) (N0 o58 (N0 (o90 P) (N0 o154 (N0 em0 nl0 nl0) nl0) (N0 em0 nl0 nl0)) (N0 o122 (N0 (tu0 []) nl0 nl0) (N0 (pr0 "cleared" "cleared" (top 25)) nl0 nl0))))) (N0 o14a (N0 (tu0 []) (N0 o38 (N0 o70 (N0 o134 (N0 (tu0 [(.str "_law_cell_here" 531),(.str "_law_base" 532),(.str "_law_many" 533),(.str "_law_found" 534),(.str "_law_left" 535),(.str "_law_k" 536),(.str "_law_number" 537)]) nl0 nl0) nl0) (N0 (tu0 []) nl0 nl0)) (N0 (o102 P) (N0 (pr0 "share" "share" (top 15)) (N0 (tu0 []) nl0 nl0) nl0) (N0 o230 nl0 nl0))) (N0 (o54 P) (N0 o86 (N0 (tu0 [(.str "thing" 372)]) (N0 (pr0 "_law_whole" "_law_whole" (top 30)) nl0 nl0) nl0) (N0 (pr0 "bring_in" "Board.bring_in" (methAt (top 23) 2)) nl0 nl0)) (N0 o118 (N0 o182 nl0 nl0) (N0 o246 nl0 nl0)))) (N0 (o30 P) (N0 o46 (N0 (o78 P) (N0 o142 (N0 (tu0 []) nl0 nl0) nl0) (N0 o206 nl0 nl0)) (N0 o110 (N0 o174 (N0 (pr0 "_law_refused" "_law_refused" (top 34)) nl0 nl0) nl0) (N0 o238 nl0 nl0))) (N0 o62 (N0 o94 (N0 (tu0 []) (N0 (tu0 []) nl0 nl0) nl0) (N0 o222 nl0 nl0)) (N0 (o126 P) (N0 (tu0 []) nl0 nl0) (N0 em0 nl0 nl0))))))))
lay_quick My.cE0 My.env0 My.ls0
theorem r_pre (w:World):(fun os=>topGo treeTable PySem.Challenge.pw_dullglass_k25_too_many_equations w 11 (some (.ref 6)) 12 (Shared.mk (boot_heap w.params) (Array.mk []) boot_drawn boot_toks os) (topStub PySem.Challenge.pw_dullglass_k25_too_many_equations))=fun os=>some ((SharedT.mk (tA0 w.params) 15 lf0 (Array.mk []) boot_drawn 187 os).abs,Thread.mk (denote treeTable cE0) cE0 ⟨0,0,0,0⟩ [topFrame ⟨0,0,0,0⟩]):=by
 rewrite [PySem.W.Fast.te15667345088766844465,PySem.W.Fast.te14364793385576792824,PySem.W.Fast.te8438064830381467181,PySem.W.Fast.te11892475500146522536,PySem.W.Fast.te2665708160071446767]
 kernel_rfl
theorem r_block (w:World):(fun os=>segRun treeTable PySem.Challenge.pw_dullglass_k25_too_many_equations w 11 (some (.ref 6)) 1 1 (SharedT.mk (tA0 w.params) 15 lf0 (Array.mk []) boot_drawn 187 os).abs (blockOf (behindTheImports PySem.Challenge.pw_dullglass_k25_too_many_equations) env0 cE0 ⟨0,0,0,0⟩ [topFrame ⟨0,0,0,0⟩]))=fun os=>some (.next,(SharedT.mk (tA0 w.params) 15 lf0 (Array.mk []) boot_drawn 187 os).abs,cE0,⟨0,0,0,0⟩):=by
 rewrite [PySem.W.Fast.te14374325043358763698,PySem.W.Fast.te14364793385576792824,PySem.W.Fast.te8438064830381467181,PySem.W.Fast.te2665708160071446767,PySem.W.Fast.te13849342267361746138]
 kernel_rfl
theorem r_all (w:World):(fun os=>segRunT treeTable PySem.Challenge.pw_dullglass_k25_too_many_equations w 11 (some (.ref 6)) 1 3277 (SharedT.mk (tA0 w.params) 15 lf0 (Array.mk []) boot_drawn 187 os) (piecesOf (behindTheImports PySem.Challenge.pw_dullglass_k25_too_many_equations) env0 cE0 ⟨0,0,0,0⟩ [topFrame ⟨0,0,0,0⟩]))=fun os=>some (.next,(SharedT.mk (tE0 w.params) 310 lf0 (Array.mk []) boot_drawn 594 os),cE0,⟨184,0,201,127⟩):=by
 rewrite [PySem.W.Fast.te10110043849684766642,PySem.W.Fast.te14364793385576792824,PySem.W.Fast.te8438064830381467181,PySem.W.Fast.te2665708160071446767,PySem.W.Fast.te13849342267361746138]
 kernel_rfl
theorem r_fin (w:World):(fun os=>topRun treeTable PySem.Challenge.pw_dullglass_k25_too_many_equations w 11 (some (.ref 6)) 2 (SharedT.mk (tE0 w.params) 310 lf0 (Array.mk []) boot_drawn 594 os).abs ⟨doneF .next,cE0,⟨184,0,201,127⟩,[topFrame ⟨0,0,0,0⟩]⟩)=fun os=>some (SharedT.mk (tE0 w.params) 310 lf0 (Array.mk []) boot_drawn 594 os).abs:=by
 rewrite [PySem.W.Fast.te14082659384304107361,PySem.W.Fast.te14364793385576792824,PySem.W.Fast.te8438064830381467181,PySem.W.Fast.te2665708160071446767]
 kernel_rfl
theorem r_run (w:World) (os:OsState):topRun treeTable PySem.Challenge.pw_dullglass_k25_too_many_equations w 11 (some (.ref 6)) (12+(1+(3277+2))) (Shared.mk (boot_heap w.params) (Array.mk []) boot_drawn boot_toks os) (topStub PySem.Challenge.pw_dullglass_k25_too_many_equations)=some (SharedT.mk (tE0 w.params) 310 lf0 (Array.mk []) boot_drawn 594 os).abs :=
 go_top (congrFun (r_pre w) os) (piece_block (congrFun (r_block w) os) (by
  have q:=piece_app (rest:=[]) (segRun_of (congrFun (r_all w) os)) (piece_nil (congrFun (r_fin w) os))
  rwa [List.append_nil] at q))
theorem r_open:opening PySem.Challenge.pw_dullglass_k25_too_many_equations=plainProg PySem.Challenge.pw_dullglass_k25_too_many_equations.main.scope.names:=by kernel_rfl
theorem r_fence (s:Shared):fenceModules? PySem.Challenge.pw_dullglass_k25_too_many_equations s=some s:=by kernel_rfl
theorem r_size (w:World):((boot_heap w.params).isNs mainGlobals&&(Array.mk []:Array GenState).size==0,(boot_heap w.params).objs.size,(boot_heap w.params).nsMap mainGlobals "__annotations__")=(true,11,(some (.ref 6))):=by kernel_rfl
theorem l_one (w:World):(fun os=>(staticsOk (importedModules PySem.Challenge.pw_dullglass_k25_too_many_equations.main.body) (boot_heap w.params) (absHeap (tE0 w.params) 310 lf0)&&namesBound PySem.Challenge.pw_dullglass_k25_too_many_equations (absHeap (tE0 w.params) 310 lf0)&&gensDone (Shared.mk (absHeap (tE0 w.params) 310 lf0) (Array.mk []) boot_drawn 594 os)&&laidKept (boot_heap w.params) (absHeap (tE0 w.params) 310 lf0)))=fun _=>true:=by
 rewrite [PySem.W.Fast.te5923862056798008813,PySem.W.Fast.te8438064830381467181]
 kernel_rfl
theorem l_two (w:World):(fun os=>openSeen (view PySem.Challenge.pw_dullglass_k25_too_many_equations [35]) ls0 (importedModules PySem.Challenge.pw_dullglass_k25_too_many_equations.main.body) (fun _=>true) true (Shared.mk (absHeap (tE0 w.params) 310 lf0) (Array.mk []) boot_drawn 594 os))=fun _=>openGood (view PySem.Challenge.pw_dullglass_k25_too_many_equations [35]) ls0:=by
 rewrite [PySem.W.Fast.te4187177175401517315,PySem.W.Fast.te5923862056798008813,PySem.W.Fast.te8438064830381467181,PySem.W.Fast.te4294247251607483543]
 kernel_rfl
def K0 (P:Params):Frag:=(nat_lit 2,(boot_o_2 P))::(nat_lit 3,(o3 P))::(nat_lit 23,(o23 P))::(nat_lit 24,o24)::(nat_lit 25,o25)::(nat_lit 36,(o36 P))::(nat_lit 37,o37)::(nat_lit 48,(o48 P))::(nat_lit 49,o49)::(nat_lit 60,(o60 P))::(nat_lit 61,o61)::(nat_lit 72,(o72 P))::(nat_lit 73,o73)::(nat_lit 84,(o84 P))::(nat_lit 85,o85)::(nat_lit 96,(o96 P))::(nat_lit 97,o97)::(nat_lit 108,(o108 P))::(nat_lit 109,o109)::(nat_lit 120,(o120 P))::(nat_lit 121,o121)::(nat_lit 132,(o132 P))::(nat_lit 133,o133)::(nat_lit 144,(o144 P))::(nat_lit 145,o145)::(nat_lit 153,o153)::(nat_lit 154,o154)::(nat_lit 160,o160)::(nat_lit 161,o161)::(nat_lit 167,o167)::(nat_lit 168,o168)::(nat_lit 174,o174)::(nat_lit 175,o175)::(nat_lit 181,o181)::(nat_lit 182,o182)::(nat_lit 188,o188)::(nat_lit 189,o189)::(nat_lit 193,o193)::(nat_lit 194,o194)::(nat_lit 205,o205)::(nat_lit 206,o206)::(nat_lit 210,o210)::(nat_lit 211,o211)::(nat_lit 215,o215)::(nat_lit 216,o216)::(nat_lit 222,o222)::(nat_lit 223,o223)::(nat_lit 229,o229)::(nat_lit 230,o230)::(nat_lit 234,o234)::(nat_lit 235,o235)::(nat_lit 237,(o237 P))::(nat_lit 238,o238)::(nat_lit 239,o239)::(nat_lit 240,o240)::(nat_lit 246,o246)::(nat_lit 247,o247)::(nat_lit 251,o251)::(nat_lit 252,o252)::(nat_lit 258,o258)::(nat_lit 259,o259)::(nat_lit 265,o265)::(nat_lit 266,o266)::(nat_lit 272,o272)::(nat_lit 273,o273)::(nat_lit 279,o279)::(nat_lit 280,o280)::(nat_lit 284,o284)::(nat_lit 285,o285)::(nat_lit 289,o289)::(nat_lit 290,o290)::(nat_lit 296,o296)::(nat_lit 297,o297)::(nat_lit 303,o303)::(nat_lit 304,o304)::(nat_lit 308,o308)::(nat_lit 309,o309)::[]
def as0:List Addr:=[2,3,23,24,25,36,37,48,49,60,61,72,73,84,85,96,97,108,109,120,121,132,133,144,145,153,154,160,161,167,168,174,175,181,182,188,189,193,194,205,206,210,211,215,216,222,223,229,230,234,235,237,238,239,240,246,247,251,252,258,259,265,266,272,273,279,280,284,285,289,290,296,297,303,304,308,309]
theorem l_three (w:World):(fun (os:OsState)=>as0.map (absHeap (tE0 w.params) 310 lf0).get?)=fun _=>(K0 w.params).map fun p=>some p.2:=by kernel_rfl
theorem left0:LeftO PySem.Challenge.pw_dullglass_k25_too_many_equations (view PySem.Challenge.pw_dullglass_k25_too_many_equations [35]) ls0 (fun _=>true) (fun s=>as0.map s.heap.get?) (fun w=>(K0 w.params).map fun p=>some p.2) 100000 :=
 LeftO.of_pieces (H₀:=boot_heap) (H₁:=fun P=>absHeap (tE0 P) 310 lf0) (gs₁:=Array.mk []) (d₁:=boot_drawn) (k₁:=594) (boot_open r_open rfl r_fence) r_size r_run rfl fun w=>by
  funext os
  exact congr (congrArg Prod.mk (congrFun (l_one w) os)) (congr (congrArg Prod.mk (congrFun (l_two w) os)) (congrFun (l_three w) os))
end
end My
open PySem PySem.W PyProof.Rows
set_option maxRecDepth 100000 in
set_option maxHeartbeats 0 in
theorem PySem.Challenge.cw_dullglass_k25_too_many_equations_holds : PySem.Challenge.rw_dullglass_k25_too_many_equations.Holds := by
 w_on;o_law
 refine holds_open (q:=view PySem.Challenge.pw_dullglass_k25_too_many_equations [35]) (XP:=fun _ _=>True) (YP:=InK My.K0) My.left0 (InK.of fun _=>by kernel_rfl) InK.keeps (fun _ _=>True.intro) (fun _ _ _ _ _=>True.intro) (by rfl) (by rfl) (by rfl) (fun s _=>recFacts_nil rfl) (by rfl) (by assumption) (by decide +kernel) ⟨rfl,rfl,rfl,rfl,rfl,by decide +kernel⟩ ?hw ?hc
 case hw=>w_witness2
 k_fill
 refine My.walk (l:=PySem.Challenge.rw_dullglass_k25_too_many_equations) rfl rfl (fun w h Y=>Y) ?F
 case F =>
  intro w mg fa h KX G hmg
  refine' My.all_mk KX G hmg ..
  iterate 3 all_goals try first|k_is|k_exc|rfl|(refine' My.DK.mk ?a (My.LK.mk ?l ?c ?k); (case a=>k_is); (case l=>k_is); (case c=>k_is); (case k=>k_is))|(refine' My.LK.mk ?l ?c ?k; (case l=>k_is); (case c=>k_is); (case k=>k_is))
