import PyProof.Rows.All
import Wide.All
import OpenK.AllK
import Wide.FinOn
import Lean
import PyProof.EqAt
import PyProof.EqKinds
import PyProof.TupleCall
import PySem.Challenge.RW_dullglass_k14_what_does_not_fit
set_option Elab.async false
set_option linter.all false
set_option maxRecDepth 100000
set_option maxHeartbeats 4000000
set_option genSizeOf false
set_option genInjectivity false
namespace L2
open PySem PySem.Spec PyProof.Rows
abbrev Key:=Sum Int Str
def keyIs:Key→Value→Bool
 | .inl k,v=>Value.isInt k v
 | .inr x,v=>Value.isStrOf x v
def keyH (w:World):Key→Int
 | .inl k=>hashInt k
 | .inr x=>hashStr w x
theorem keyIs_shape : ∀ {k:Key}{v:Value},keyIs k v=true→(∃ i t,k=Sum.inl i∧v=Value.int i t)∨(∃ x t,k=Sum.inr x∧v=Value.str x t)
 | .inl i,v,h=>by
  obtain ⟨t,e⟩:=Value.isInt_shape (k:=i) (v:=v) h
  exact .inl ⟨i,t,rfl,e⟩
 | .inr x,v,h=>by
  obtain ⟨t,e⟩:=Value.isStrOf_shape (x:=x) (v:=v) h
  exact .inr ⟨x,t,rfl,e⟩
theorem key_ll (a b:Int):decide ((Sum.inl a:Key)=Sum.inl b)=(a==b):=by
 by_cases e:a=b
 ·subst e;simp
 ·have h : ¬ (Sum.inl a:Key)=Sum.inl b:=fun q=>e (Sum.inl.inj q)
  rw [decide_eq_false h]
  exact (beq_eq_false_iff_ne.mpr e).symm
theorem key_rr (a b:Str):decide ((Sum.inr a:Key)=Sum.inr b)=decide (a=b):=by
 by_cases e:a=b
 ·subst e;simp
 ·have h : ¬ (Sum.inr a:Key)=Sum.inr b:=fun q=>e (Sum.inr.inj q)
  rw [decide_eq_false h,decide_eq_false e]
theorem key_lr (a:Int) (b:Str):decide ((Sum.inl a:Key)=Sum.inr b)=false:=decide_eq_false (fun q=>nomatch q)
theorem key_rl (a:Str) (b:Int):decide ((Sum.inr a:Key)=Sum.inl b)=false:=decide_eq_false (fun q=>nomatch q)
def mixKind (prog:Program) (w:World):PySem.KeyKind prog w Key where
 is:=keyIs
 hash:=keyH w
 inj:=fun v a b ha hb=>by
  rcases keyIs_shape ha with ⟨i,t,rfl,rfl⟩|⟨x,t,rfl,rfl⟩
  ·rcases keyIs_shape hb with ⟨j,u,rfl,e⟩|⟨y,u,rfl,e⟩
   ·injection e with e1 _;rw [e1]
   ·exact nomatch e
  ·rcases keyIs_shape hb with ⟨j,u,rfl,e⟩|⟨y,u,rfl,e⟩
   ·exact nomatch e
   ·injection e with e1 _;rw [e1]
 byValue:=fun k v h=>by
  rcases keyIs_shape h with ⟨i,t,rfl,rfl⟩|⟨x,t,rfl,rfl⟩ <;> rfl
 pyHash:=fun hv h=>by
  rcases keyIs_shape hv with ⟨i,t,rfl,rfl⟩|⟨x,t,rfl,rfl⟩
  ·exact wpAny_pyHash_int h
  ·exact wpAny_pyHash_str h
 eqBool:=fun hu hv h=>by
  rcases keyIs_shape hu with ⟨i,t,rfl,rfl⟩|⟨x,t,rfl,rfl⟩
  ·rcases keyIs_shape hv with ⟨j,u,rfl,rfl⟩|⟨y,u,rfl,rfl⟩
   ·rw [key_ll] at h;exact wpAny_eqBool_int h
   ·rw [key_lr] at h;exact SeqAt.EqAt.int_str i t y u _ _ _ _ h
  ·rcases keyIs_shape hv with ⟨j,u,rfl,rfl⟩|⟨y,u,rfl,rfl⟩
   ·rw [key_rl] at h;exact SeqAt.EqAt.str_int x t j u _ _ _ _ h
   ·rw [key_rr] at h;exact wpAny_eqBool_str h
 «strs»:=fun k x t v h=>by
  rcases keyIs_shape h with ⟨i,u,rfl,e⟩|⟨y,u,rfl,e⟩
  ·exact nomatch e
  ·injection e with e1 _
   subst e1
   cases v <;> rfl
end L2
namespace L2
open PySem PySem.Spec PyProof.Rows
inductive V where
 | non|bl (b:Bool)|int (i:Int)|str (x:Str)|byt (b:Array UInt8)|flt (b:UInt64)|ref (a:Addr)|ty (n:String)
 deriving DecidableEq
def RelV:V→Value→Prop
 | .non,u=>u=Value.none
 | .bl b,u=>u=Value.bool b
 | .int i,u => ∃ t,u=Value.int i t
 | .str x,u => ∃ t,u=Value.str x t
 | .byt b,u => ∃ t,u=Value.bytes b t
 | .flt b,u => ∃ t,u=Value.float b t
 | .ref a,u=>u=Value.ref a
 | .ty n,u=>u=Value.type n
abbrev Vals:List V→List Value→Prop:=Paired RelV
theorem Vals.length {xs:List V}{us:List Value} (r:Vals xs us):xs.length=us.length:=Paired.length r
theorem Vals.get : ∀ {xs:List V}{us:List Value}{i:Nat}{x:V},Vals xs us→xs[i]?=some x → ∃ u,us[i]?=some u∧RelV x u
 | _,_,_,_,.nil,e=>by simp at e
 | _,_,0,_,.cons r _,e=>by simp at e;subst e;exact ⟨_,rfl,r⟩
 | _,_,i+1,x,.cons _ t,e=>by
  obtain ⟨u,h1,h2⟩:=Vals.get (i:=i) (x:=x) t (by simpa using e)
  exact ⟨u,by simpa using h1,h2⟩
theorem Vals.append : ∀ {xs ys:List V}{us ws:List Value},Vals xs us→Vals ys ws→Vals (xs++ys) (us++ws)
 | _,_,_,_,.nil,s=>s
 | _,_,_,_,.cons r t,s => .cons r (Vals.append t s)
theorem Vals.take : ∀ {xs:List V}{us:List Value} (n:Nat),Vals xs us→Vals (xs.take n) (us.take n)
 | _,_,0,_ => .nil
 | _,_,_+1,.nil => .nil
 | _,_,n+1,.cons r t => .cons r (Vals.take n t)
theorem Vals.drop : ∀ {xs:List V}{us:List Value} (n:Nat),Vals xs us→Vals (xs.drop n) (us.drop n)
 | _,_,0,r=>r
 | _,_,_+1,.nil => .nil
 | _,_,n+1,.cons _ t=>Vals.drop n t
def RelO:Option V→Option Value→Prop
 | some v,some u=>RelV v u
 | none,none=>True
 | _,_=>False
def KV {κ:Type}:List (κ×V)→List (κ×Value)→Prop:=Paired fun (p:κ×V) (q:κ×Value)=>p.1=q.1∧RelV p.2 q.2
def kV:Key→V
 | .inl i => .int i
 | .inr x => .str x
inductive HO where
 | lst (xs:List V)
 | tup (xs:List V)
 | dK (kvs:List (Key×V))|dT (kvs:List (List Key×V))
 | set (S:Int→Bool) (n:Nat)
 | ins (C dx:Addr) (fs:List (Str×V))
 | own (x:Addr)
 | xd (fs:List (Str×V))
 | met (f x:Addr)
 | rng (lo hi:Int)
 | frz (o:Obj) (u:HO)
 | tbl (ps:Array Value)
 | ext (φ:Heap→Prop)
abbrev Hp:=Addr→Option HO
def upd (H:Hp) (a:Addr) (o:HO):Hp:=fun b=>if b=a then some o else H b
theorem upd_same {H:Hp}{a:Addr}{o:HO}:upd H a o a=some o:=by unfold upd;rw [if_pos rfl]
theorem upd_ne {H:Hp}{a b:Addr}{o:HO} (h:b≠a):upd H a o b=H b:=by unfold upd;rw [if_neg h]
theorem ne_of_none {H:Hp}{a b:Addr}{o:HO} (h:H a=some o) (h':H b=none):a≠b:=by
 intro e;subst e;rw [h] at h';cases h'
section
variable (P:Program) (w:World)
def ObjOk (H:Hp) (h:Heap) (a:Addr):HO→Prop
 | .lst xs=>xs.length≤sizeLine ∧ ∃ (its:List Value) (n:Nat),Vals xs its∧h.get? a=some { cls :=.type "list",data :=.seq its.toArray n }
 | .tup xs=>xs.length≤sizeLine ∧ ∃ its:List Value,Vals xs its∧IsTup h a its.toArray
 | .dK kvs=>kvs.length≤sizeLine∧(a==sysModules)=false ∧ ∃ vs,KV kvs vs∧h.DictOf (mixKind P w) a vs
 | .dT kvs=>kvs.length≤sizeLine∧(a==sysModules)=false ∧ ∃ xs:List (List Key×Addr×Value),
  Paired (fun (p:List Key×V) (q:List Key×Addr×Value)=>p.1=q.1∧H q.2.1=some (.tup (p.1.map kV))∧RelV p.2 q.2.2) kvs xs ∧
  ∃ o es ep,h.get? a=some o∧o.ExactDict∧o.data = .dict es ep∧es.toList=xs.map (entryOfKey (tupleKind (mixKind P w)))∧(xs.map (·.1)).Nodup
 | .set S n=>h.SetOf (intKind P w) a S n
 | .ins C dx fs=>H dx=some (.own a)∧fs.length≤1000∧dx≠a∧h.get? a=some (PySem.W.instObj C dx) ∧
  ∃ mA,h.Ns1 dx mA∧(∀ f,RelO (fs.lookup f) (mA f))∧PySem.Within mA (fs.map (·.1))
 | .own _ => ∃ o,h.get? a=some o
 | .xd fs => ∃ mA,h.Ns1 a mA ∧ ∀ f,RelO (fs.lookup f) (mA f)
 | .rng lo hi => ∃ t u v,h.get? a=some { cls :=.type "range",data :=.fields #[.int lo t,.int hi u,.int 1 v] }
 | .frz o u=>h.get? a=some o∧ObjOk H h a u
 | .tbl ps=>h.get? a=some { cls :=.none,data :=.fields ps }
 | .met f x=>h.get? a=some (PySem.W.methodObj (.ref f) (.ref x))
 | .ext φ=>φ h∧(∃ o,h.get? a=some o) ∧ ∀ h1 h2:Heap,φ h1→(∀ o,h1.get? a=some o→h2.get? a=some o)→φ h2
def HOk (H:Hp) (h:Heap):Prop := ∀ a o,H a=some o→ObjOk P w H h a o
end
section
variable {P:Program}{w:World}{H H':Hp}{h h':Heap}{a:Addr}{o:HO}
theorem ObjOk.lt (x:ObjOk P w H h a o):a<h.objs.size:=by
 cases o with
 | lst xs=>obtain ⟨_,_,_,_,e⟩:=x;exact Heap.lt_size e
 | tup xs=>obtain ⟨_,_,_,p⟩:=x;exact p.lt
 | dK kvs=>obtain ⟨_,_,_,_,o,_,_,e,_⟩:=x;exact Heap.lt_size e
 | dT kvs=>obtain ⟨_,_,_,_,o,_,_,e,_⟩:=x;exact Heap.lt_size e
 | set S n=>obtain ⟨o,_,_,_,e,_⟩:=x;exact Heap.lt_size e
 | ins C dx fs=>obtain ⟨_,_,_,e,_⟩:=x;exact Heap.lt_size e
 | own y=>obtain ⟨_,e⟩:=x;exact Heap.lt_size e
 | xd fs=>obtain ⟨_,⟨_,_,_,e,_⟩,_⟩:=x;exact Heap.lt_size e
 | rng lo hi=>obtain ⟨_,_,_,e⟩:=x;exact Heap.lt_size e
 | frz ob u=>obtain ⟨e,_⟩:=x;exact Heap.lt_size e
 | tbl ps=>exact Heap.lt_size (show h.get? a=some _ from x)
 | met f y=>exact Heap.lt_size (show h.get? a=some _ from x)
 | ext φ=>obtain ⟨_,⟨_,e⟩,_⟩:=x;exact Heap.lt_size e
theorem Paired.mapP {α β:Type}{F G:α→β→Prop} : ∀ {l₁:List α}{l₂:List β},Paired F l₁ l₂→(∀ a b,F a b→G a b)→Paired G l₁ l₂
 | _,_,.nil,_ => .nil
 | _,_,.cons r t,f => .cons (f _ _ r) (Paired.mapP t f)
theorem ObjOk.stay (x:ObjOk P w H h a o) (k : ∀ b u,(b=a∨H b=some (.own a))→h.get? b=some u→h'.get? b=some u)
 (ho : ∀ b,H b=some (.own a)→H' b=some (.own a)) (ht : ∀ b xs,H b=some (.tup xs)→H' b=some (.tup xs)):ObjOk P w H' h' a o:=by
  induction o with
  | lst xs=>obtain ⟨z,its,n,r,e⟩:=x;exact ⟨z,its,n,r,k _ _ (.inl rfl) e⟩
  | tup xs=>obtain ⟨z,its,r,ob,e,c⟩:=x;exact ⟨z,its,r,ob,k _ _ (.inl rfl) e,c⟩
  | dK kvs=>obtain ⟨z,y,vs,r,ob,es,ep,e,c⟩:=x;exact ⟨z,y,vs,r,ob,es,ep,k _ _ (.inl rfl) e,c⟩
  | dT kvs =>
   obtain ⟨z,y,xs,r,ob,es,ep,e,c⟩:=x
   exact ⟨z,y,xs,Paired.mapP r fun p q z=>⟨z.1,ht _ _ z.2.1,z.2.2⟩,ob,es,ep,k _ _ (.inl rfl) e,c⟩
  | set S n=>obtain ⟨ob,es,ep,t,e,c⟩:=x;exact ⟨ob,es,ep,t,k _ _ (.inl rfl) e,c⟩
  | ins C dx fs =>
   obtain ⟨d,z,ne,e,mA,⟨od,es,ep,e2,c⟩,r⟩:=x
   exact ⟨ho _ d,z,ne,k _ _ (.inl rfl) e,mA,⟨od,es,ep,k _ _ (.inr d) e2,c⟩,r⟩
  | own y=>obtain ⟨ob,e⟩:=x;exact ⟨ob,k _ _ (.inl rfl) e⟩
  | xd fs=>obtain ⟨mA,⟨od,es,ep,e,c⟩,r⟩:=x;exact ⟨mA,⟨od,es,ep,k _ _ (.inl rfl) e,c⟩,r⟩
  | rng lo hi=>obtain ⟨t,u,v,e⟩:=x;exact ⟨t,u,v,k _ _ (.inl rfl) e⟩
  | frz ob u ih=>obtain ⟨e,q⟩:=x;exact ⟨k _ _ (.inl rfl) e,ih q⟩
  | tbl ps =>
   have e:h.get? a=some { cls :=.none,data :=.fields ps }:=x
   show h'.get? a=some { cls :=.none,data :=.fields ps }
   exact k a _ (.inl rfl) e
  | met f y =>
   have e:h.get? a=some (PySem.W.methodObj (.ref f) (.ref y)):=x
   show h'.get? a=some (PySem.W.methodObj (.ref f) (.ref y))
   exact k a _ (.inl rfl) e
  | ext φ=>obtain ⟨p,⟨o,e⟩,st⟩:=x;exact ⟨st _ _ p fun o q=>k _ _ (.inl rfl) q,⟨o,k _ _ (.inl rfl) e⟩,st⟩
theorem HOk.lt (x:HOk P w H h) (e:H a=some o):a<h.objs.size:=(x a o e).lt
theorem HOk.fresh (x:HOk P w H h) (e:h.objs.size≤a):H a=none:=by
 cases q:H a with
 | none=>rfl
 | some u=>exact absurd (Nat.lt_of_lt_of_le (x.lt q) e) (Nat.lt_irrefl _)
theorem HOk.kept (x:HOk P w H h) (k : ∀ b u,h.get? b=some u→h'.get? b=some u):HOk P w H h':=fun a o e =>
 (x a o e).stay (fun b u _ q=>k b u q) (fun _ q=>q) fun _ _ q=>q
theorem HOk.laid (x:HOk P w H h) (k : ∀ b u,h.get? b=some u→h'.get? b=some u) (hp:h.objs.size≤a) (new:ObjOk P w (upd H a o) h' a o):HOk P w (upd H a o) h':=fun b u e=>by
 have hn:=x.fresh hp
 by_cases hb:b=a
 ·subst hb;rw [upd_same] at e;cases e;exact new
 ·rw [upd_ne hb] at e
  exact (x b u e).stay (fun c v _ q=>k c v q) (fun c q=>by rw [upd_ne (ne_of_none q hn)];exact q) fun c xs q=>by rw [upd_ne (ne_of_none q hn)];exact q
end
def Rd (H:Hp) (a:Addr) (u:HO):Prop:=H a=some u ∨ ∃ o,H a=some (.frz o u)
theorem Rd.ok {P:Program}{w:World}{H:Hp}{h:Heap}{a:Addr}{u:HO} (r:Rd H a u) (x:HOk P w H h):ObjOk P w H h a u:=by
 rcases r with r|⟨o,r⟩
 ·exact x a u r
 ·obtain ⟨_,q⟩:=x a _ r
  exact q
def Mut:Option HO→Prop
 | some (.lst _)=>True
 | some (.dK _)=>True
 | some (.dT _)=>True
 | some (.set _ _)=>True
 | some (.ins _ _ _)=>True
 | some (.ext _)=>True
 | _=>False
section
variable {P:Program}{w:World}{H:Hp}{h h':Heap}{x e:Addr}{o':HO}
theorem HOk.write (ok:HOk P w H h) (mu:Mut (H x)) (he:e=x∨H e=some (.own x)) (k : ∀ b u,b≠e→h.get? b=some u→h'.get? b=some u) (heo : ∃ u,h'.get? e=some u)
 (new:ObjOk P w (upd H x o') h' x o'):HOk P w (upd H x o') h':=fun b u q=>by
  have nown : ∀ c y,H c=some (.own y)→c≠x:=fun c y r z=>by subst z;rw [r] at mu;exact mu
  have ntup : ∀ c xs,H c=some (.tup xs)→c≠x:=fun c xs r z=>by subst z;rw [r] at mu;exact mu
  by_cases hb:b=x
  ·subst hb;rw [upd_same] at q;cases q;exact new
  ·rw [upd_ne hb] at q
   by_cases hbe:b=e
   ·have q':H b=some (.own x):=by
     rcases he with z|z
     ·exact absurd (hbe.trans z) hb
     ·rw [hbe];exact z
    rw [q] at q';cases q'
    obtain ⟨v,hv⟩:=heo
    exact ⟨v,by rw [hbe];exact hv⟩
   ·refine (ok b u q).stay (fun c v hc r=>k c v ?_ r) (fun c r=>by rw [upd_ne (nown c b r)];exact r) fun c xs r=>by rw [upd_ne (ntup c xs r)];exact r
    rcases hc with rfl|hc
    ·exact hbe
    ·rintro rfl
     rcases he with z|z
     ·exact nown c b hc z
     ·rw [hc] at z;cases z;exact hb rfl
end
def CodeO (o:Obj):Prop := ∃ vs q t,o.data = .fields vs∧vs[1]?=some (.str q t)
structure GoodT (H:Hp) (ps:Array Value):Prop where
 tr:TriplesOk ps.toList
 co : ∀ (pos:Pos) (v:Value),codeAmong pos ps.toList=some v → ∃ c o u,v = .ref c∧H c=some (.frz o u)∧CodeO o
theorem GoodT.nil {H:Hp}:GoodT H #[]:=⟨trivial,fun pos v h=>by simp [codeAmong] at h⟩
theorem GoodT.mono {H H':Hp}{ps:Array Value} (g:GoodT H ps) (f : ∀ b o u,H b=some (.frz o u)→H' b=some (.frz o u)):GoodT H' ps:=⟨g.tr,fun pos v h=>by
 obtain ⟨c,o,u,z,e,k⟩:=g.co pos v h
 exact ⟨c,o,u,z,f _ _ _ e,k⟩⟩
theorem triples_app : ∀ {a b:List Value},TriplesOk a→TriplesOk b→TriplesOk (a++b)
 | [],_,_,h=>h
 | .int _ _ :: .int _ _::_::r,_,g,h=>triples_app (a:=r) g h
theorem among_app {pos:Pos}{v:Value} : ∀ {a b:List Value},TriplesOk a→codeAmong pos (a++b)=some v→codeAmong pos a=some v∨codeAmong pos b=some v
 | [],_,_,h => .inr h
 | .int i _ :: .int j _::x::r,b,g,h=>by
  have h:(if i==pos.line&&j==pos.col then some x else codeAmong pos (r++b))=some v:=h
  show (if i==pos.line&&j==pos.col then some x else codeAmong pos r)=some v∨_
  split at h
  ·left;rw [if_pos (by assumption)];exact h
  ·rw [if_neg (by assumption)];exact among_app (a:=r) g h
theorem GoodT.app {H:Hp}{a b:Array Value} (g:GoodT H a) (k:GoodT H b):GoodT H (a++b):=⟨by rw [Array.toList_append];exact triples_app g.tr k.tr,fun pos v h=>by
 rw [Array.toList_append] at h
 rcases among_app g.tr h with h|h
 ·exact g.co pos v h
 ·exact k.co pos v h⟩
structure Un (fs ex:List Addr) (H H':Hp) (h h':Heap):Prop where
 keep : ∀ b o,h.get? b=some o→H b=none→b ∉ fs→b ∉ ex→h'.get? b=some o
 slot : ∀ b o,h.get? b=some o→H b=none→b ∈ fs→b ∉ ex → ∃ sl,h'.get? b=some { o with slots:=sl }
 free : ∀ b o,h.get? b=some o→H b=none→b ∉ ex→H' b=none
 there : ∀ b o,h.get? b=some o→b ∉ ex → ∃ o',h'.get? b=some o'
 tups : ∀ b xs,H b=some (.tup xs)→H' b=some (.tup xs)
 frzs : ∀ b o u,H b=some (.frz o u)→H' b=some (.frz o u)
 tbls : ∀ b ps,H b=some (.tbl ps) → ∃ more,H' b=some (.tbl (ps++more))∧GoodT H' more
section
variable {fs fs' ex ex':List Addr}{H H1 H2:Hp}{h h1 h2 h':Heap}{a x e:Addr}{o:HO}
theorem Un.any (u:Un fs ex H H1 h h1) {b:Addr}{ob:Obj} (q:h.get? b=some ob) (n:H b=none) (hx:b ∉ ex) : ∃ sl,h1.get? b=some { ob with slots:=sl }:=by
 by_cases hb:b ∈ fs
 ·exact u.slot b ob q n hb hx
 ·exact ⟨ob.slots,u.keep b ob q n hb hx⟩
theorem Un.kept (k : ∀ b u,h.get? b=some u→h'.get? b=some u):Un fs ex H H h h' :=
 ⟨fun b ob q _ _ _=>k b ob q,fun b ob q _ _ _=>⟨ob.slots,k b ob q⟩,fun _ _ _ n _=>n,fun b ob q _=>⟨ob,k b ob q⟩,fun _ _ q=>q,fun _ _ _ q=>q,fun _ ps q=>⟨#[],by rw [q];simp,.nil⟩⟩
theorem Un.refl:Un fs ex H H h h:=Un.kept fun _ _ q=>q
theorem Un.laid (k : ∀ b u,h.get? b=some u→h'.get? b=some u) (hp:h.objs.size≤a) (hn:H a=none):Un fs ex H (upd H a o) h h' where
 keep:=fun b u q _ _ _=>k b u q
 slot:=fun b u q _ _ _=>⟨u.slots,k b u q⟩
 free:=fun b u q n _=>by rw [upd_ne (Nat.ne_of_lt (Nat.lt_of_lt_of_le (Heap.lt_size q) hp))];exact n
 there:=fun b u q _=>⟨u,k b u q⟩
 tups:=fun b xs q=>by rw [upd_ne (ne_of_none q hn)];exact q
 frzs:=fun b u xs q=>by rw [upd_ne (ne_of_none q hn)];exact q
 tbls:=fun b ps q=>⟨#[],by rw [upd_ne (ne_of_none q hn),q];simp,.nil⟩
theorem Un.write (mu:Mut (H x)) (he:e=x∨H e=some (.own x)) (k : ∀ b u,b≠e→h.get? b=some u→h'.get? b=some u) (heo : ∃ u,h'.get? e=some u):Un fs ex H (upd H x o) h h':=by
 have hx : ∀ b,H b=none→b≠x:=fun b n z=>by subst z;rw [n] at mu;exact mu
 have hb : ∀ b,H b=none→b≠e:=fun b n z=>by
  subst z
  rcases he with r|r
  ·exact hx b n r
  ·rw [n] at r;cases r
 have hm : ∀ b u,H b=some u → ¬ Mut (some u)→b≠x:=fun b u q nm z=>by subst z;rw [q] at mu;exact nm mu
 refine ⟨fun b u q n _ _=>k b u (hb b n) q,fun b u q n _ _=>⟨u.slots,k b u (hb b n) q⟩,fun b u q n _=>by rw [upd_ne (hx b n)];exact n,fun b u q _=>?_,
  fun b xs q=>by rw [upd_ne (hm b _ q fun z=>z)];exact q,fun b u xs q=>by rw [upd_ne (hm b _ q fun z=>z)];exact q,fun b ps q=>⟨#[],by rw [upd_ne (hm b _ q fun z=>z),q];simp,.nil⟩⟩
 by_cases hbe:b=e
 ·subst hbe;exact heo
 ·exact ⟨u,k b u hbe q⟩
end
def trk (h:Heap) (H:Hp):List Addr:=(List.range h.objs.size).filter fun a=>(H a).isSome
def hidT (h:Heap) (H:Hp):Heap:=PySem.W.hideAll h (trk h H)
theorem hidT_size (h:Heap) (H:Hp):(hidT h H).objs.size=h.objs.size:=PySem.W.hideAll_size _ _
theorem hidT_get {h:Heap}{H:Hp}{b:Addr}{o:Obj} (e:h.get? b=some o) (n:H b=none):(hidT h H).get? b=some o :=
 PySem.W.hideAll_get _ e fun hm=>by
  have q:(H b).isSome=true:=(List.mem_filter.mp hm).2
  rw [n] at q;simp at q
theorem of_hidT {h:Heap}{H:Hp}{b:Addr}{o:Obj} (e:(hidT h H).get? b=some o):h.get? b=some o∧H b=none:=by
 have e':h.get? b=some o:=PySem.W.of_hideAll (trk h H) e
 refine ⟨e',?_⟩
 cases q:H b with
 | none=>rfl
 | some x =>
  have hm:b ∈ trk h H:=List.mem_filter.mpr ⟨List.mem_range.mpr (Heap.lt_size e'),by simp [q]⟩
  have z:(hidT h H).get? b=none:=PySem.W.hideAll_none (trk h H) hm
  rw [z] at e;cases e
def allNews (g h:Heap) (L:Addr):List (Addr×Obj):=(List.range h.objs.size).filterMap fun a=>if a=L∨(g.get? a).isSome=true then none else (h.get? a).map fun o=>(a,o)
def rest (g h:Heap) (L d:Addr):List (Addr×Obj):=(allNews g h L).filter fun p=>decide (p.1≠d)
end L2
namespace L2
open PySem PySem.Spec PyProof.Rows
structure Mod (K:PySem.W.Frag) (mg:Str→Option Value) (base:Heap):Prop where
 kin:K.In base
 glob:base.Ns mainGlobals mg
 blt : ∃ mb,base.Ns builtinsNs mb ∧ ∀ x:Str,x ≠ "__name__" → mb x=bootBuiltins x
 nolimit:base.NoLimit
structure Cx where
 prog:Program
 w:World
 K:PySem.W.Frag
 mg:Str→Option Value
 base:Heap
 A:Around
 N:List Str
 s₀:Shared
 H₀:Hp
 env:Env
 outer:List Env
 stack:List Env
 ex:List Addr
 fn:Str→Bool
 calm:Bool
 pn:List (Addr×Obj)
 xe:Value→Shared→Prop
def frs (l:List Env):List Addr:=l.filterMap (·.frame)
abbrev Cx.fs (X:Cx):List Addr:=frs X.outer
def Vis (sc:Scope) (x:Str):Prop:=sc.names.lookup x=some .local∨sc.names.lookup x=some .cell∨sc.names.lookup x=some .free
def Loc (sc:Scope) (x:Str):Prop:=sc.names.lookup x=some .local∨sc.names.lookup x=some .cell
def Look (env:Env) (h:Heap) (m:Str→Option Value) (x:Str) (u:Value):Prop :=
 (env.kindOf x=some .local∧m x=some u)∨((env.kindOf x=some .cell∨env.kindOf x=some .free) ∧ ∃ c,env.cells.lookup x=some c∧h.IsCell c (some u))
structure Cx.Ok (X:Cx):Prop where
 mod:Mod X.K X.mg X.base
 kind:X.env.scope.kind = .function
 glob:X.env.globals=mainGlobals
 blt:X.env.builtins=builtinsNs
 above:X.s₀.heap.objs.size≤X.env.locals
 inj : ∀ x y c,X.env.cells.lookup x=some c→X.env.cells.lookup y=some c→x=y
 has : ∀ x,(X.env.kindOf x=some .cell∨X.env.kindOf x=some .free) → ∃ c,X.env.cells.lookup x=some c
 cab : ∀ x c,X.fn x=true→X.env.cells.lookup x=some c→X.s₀.heap.objs.size≤c
 hd:X.calm=true→X.A.handled=none
 frames:X.A.frames=some X.stack
 stk:X.stack=X.outer∨(X.stack=X.env::X.outer∧X.env.frame=some X.env.locals)
 exf : ∀ b ∈ X.ex,b≠X.env.locals ∧ ∀ x c,X.env.cells.lookup x=some c→c≠b
 bs : ∀ b o,X.base.get? b=some o→X.s₀.heap.get? b=some o∧X.H₀ b=none
 bsz:X.base.objs.size≤X.s₀.heap.objs.size
 noex : ∀ b o,X.base.get? b=some o→b ∉ X.ex
 exfs : ∀ b ∈ X.ex,b ∉ X.fs
 funs:X.s₀.heap.FunFrames X.base X.outer
 frf : ∀ b ∈ X.fs,X.H₀ b=none
structure Inv (X:Cx) (pins:List (Addr×Obj)) (σ:List (Option V)) (H:Hp) (s:Shared):Prop where
 ok:X.Ok
 os:s.os=X.s₀.os
 bare:AllBare s.gens
 base:Un X.fs X.ex X.H₀ H X.s₀.heap s.heap
 loc : ∃ m,s.heap.Ns X.env.locals m ∧ ∀ (i:Nat) (x:Str) (v:V),X.N[i]?=some x→σ[i]?=some (some v)→Vis X.env.scope x → ∃ u,RelV v u∧Look X.env s.heap m x u
 cell : ∀ x c,X.env.cells.lookup x=some c → ∃ v,s.heap.IsCell c v
 free:H X.env.locals=none
 freeC : ∀ x c,X.env.cells.lookup x=some c→H c=none
 pin : ∀ p ∈ X.pn++pins,s.heap.get? p.1=some p.2∧H p.1=none∧p.1≠X.env.locals∧p.1 ∉ X.fs ∧ ∀ v,p.2.data ≠ .cell v
 hok:HOk X.prog X.w H s.heap
 len:σ.length=X.N.length
section
variable {X:Cx}{pins:List (Addr×Obj)}{σ:List (Option V)}{H H':Hp}{s:Shared}{h':Heap}
theorem Cx.Ok.nofr (ok:X.Ok) {b:Addr}{o:Obj} (e:X.base.get? b=some o):b ∉ X.fs:=fun hb=>by
 have:=(ok.funs.mem hb).1
 rw [e] at this;cases this
theorem Inv.bs (I:Inv X pins σ H s) : ∀ b o,X.base.get? b=some o→s.heap.get? b=some o∧H b=none:=fun b o e =>
 ⟨I.base.keep b o (I.ok.bs b o e).1 (I.ok.bs b o e).2 (I.ok.nofr e) (I.ok.noex b o e),I.base.free b o (I.ok.bs b o e).1 (I.ok.bs b o e).2 (I.ok.noex b o e)⟩
theorem Inv.bk (I:Inv X pins σ H s) : ∀ b o,X.base.get? b=some o→s.heap.get? b=some o:=fun b o e=>(I.bs b o e).1
theorem Inv.mod (I:Inv X pins σ H s):Mod X.K X.mg X.base:=I.ok.mod
theorem Inv.kIn (I:Inv X pins σ H s):X.K.In s.heap:=I.ok.mod.kin.keeps I.bk
theorem Inv.lt (I:Inv X pins σ H s):X.env.locals<s.heap.objs.size:=let ⟨_,hn,_⟩:=I.loc;hn.lt
theorem Inv.sz (I:Inv X pins σ H s):X.s₀.heap.objs.size≤s.heap.objs.size:=Nat.le_trans I.ok.above (Nat.le_of_lt I.lt)
theorem Inv.nofs (I:Inv X pins σ H s) {a:Addr} (h:s.heap.objs.size≤a):a ∉ X.fs:=fun hb=>by
 obtain ⟨_,o,ho,_⟩:=I.ok.funs.mem hb
 exact absurd (Nat.lt_of_lt_of_le (Heap.lt_size ho) (Nat.le_trans I.sz h)) (Nat.lt_irrefl _)
theorem Inv.cne (I:Inv X pins σ H s) : ∀ x c,X.env.cells.lookup x=some c→c≠X.env.locals:=fun x c e z=>by
 obtain ⟨v,o,ho,hd⟩:=I.cell x c e
 obtain ⟨m,⟨o',es,ep,ho',hd',_⟩,_⟩:=I.loc
 rw [z,ho'] at ho;cases ho;rw [hd'] at hd;cases hd
theorem Inv.funs (I:Inv X pins σ H s):s.heap.FunFrames X.base X.outer:=by
 have all : ∀ (l:List Env),(∀ b ∈ frs l,b ∈ X.fs)→X.s₀.heap.FunFrames X.base l→s.heap.FunFrames X.base l:=by
  intro l
  induction l with
  | nil=>intro _ _;trivial
  | cons env r ih =>
   intro hs hl
   obtain ⟨hk,⟨L,o,hf,hn,ho,hd⟩,hr⟩:=hl
   have hL:L ∈ X.fs:=hs L (by unfold frs;rw [List.filterMap_cons,hf];exact List.mem_cons_self)
   obtain ⟨sl,e⟩:=I.base.slot L o ho (I.ok.frf L hL) hL fun z=>I.ok.exfs L z hL
   exact ⟨hk,⟨L,_,hf,hn,e,hd⟩,ih (fun b hb=>hs b (by unfold frs;rw [List.filterMap_cons,hf];exact List.mem_cons_of_mem _ hb)) hr⟩
 exact all X.outer (fun _ hb=>hb) I.ok.funs
theorem Inv.stack (I:Inv X pins σ H s):s.heap.FunFrames X.base X.stack:=by
 rcases I.ok.stk with e|⟨e,hf⟩
 ·rw [e];exact I.funs
 ·rw [e]
  obtain ⟨m,hn,_⟩:=I.loc
  refine .cons (by rw [I.ok.kind];decide) hf hn ?_ I.funs
  exact Heap.get?_none_of_le (Nat.le_trans I.ok.bsz I.ok.above)
theorem Inv.stkSub (I:Inv X pins σ H s) : ∀ b ∈ frs X.stack,b ∈ X.env.locals::X.fs:=fun b hb=>by
 rcases I.ok.stk with e|⟨e,hf⟩
 ·rw [e] at hb;exact List.mem_cons_of_mem _ hb
 ·rw [e] at hb
  unfold frs at hb
  rw [List.filterMap_cons,hf] at hb
  exact hb
theorem Inv.stkFree (I:Inv X pins σ H s) : ∀ b ∈ frs X.stack,H b=none:=fun b hb=>by
 rcases List.mem_cons.mp (I.stkSub b hb) with e|hb
 ·rw [e];exact I.free
 ·obtain ⟨_,o,ho,_⟩:=I.ok.funs.mem hb
  exact I.base.free b o ho (I.ok.frf b hb) fun z=>I.ok.exfs b z hb
theorem Inv.step {g':Array GenState}{t':Nat}{d':Drawn}{ch:List Addr} (I:Inv X pins σ H s)
 (hch : ∀ b ∈ ch,(b ∈ X.ex∨X.s₀.heap.objs.size≤b)∧b≠X.env.locals∧(∀ x c,X.env.cells.lookup x=some c→c≠b) ∧ ∀ p ∈ X.pn++pins,p.1≠b)
 (keep : ∀ b o,b≠X.env.locals→b ∉ X.fs→b ∉ ch→s.heap.get? b=some o→H b=none→h'.get? b=some o)
 (slot : ∀ b o,b≠X.env.locals→b ∈ X.fs→b ∉ ch→s.heap.get? b=some o→H b=none → ∃ sl,h'.get? b=some { o with slots:=sl }) (free : ∀ b o,b ∉ ch→s.heap.get? b=some o→H b=none→H' b=none)
  (there : ∀ b o,b ∉ ch→s.heap.get? b=some o → ∃ o',h'.get? b=some o')
  (tups : ∀ b xs,H b=some (.tup xs)→H' b=some (.tup xs)) (frzs : ∀ b o u,H b=some (.frz o u)→H' b=some (.frz o u)) (tbls : ∀ b ps,H b=some (.tbl ps) → ∃ more,H' b=some (.tbl (ps++more))∧GoodT H' more)
  (ns : ∀ m,s.heap.Ns X.env.locals m→h'.Ns X.env.locals m) (hok:HOk X.prog X.w H' h') (hg:AllBare g') :
  Inv X pins σ H' { s with heap:=h',gens:=g',drawn:=d',toks:=t' }:=by
  have neL : ∀ b o,X.s₀.heap.get? b=some o→b≠X.env.locals:=fun b o e=>Nat.ne_of_lt (Nat.lt_of_lt_of_le (Heap.lt_size e) I.ok.above)
  have neC : ∀ b o,X.s₀.heap.get? b=some o→b ∉ X.ex→b ∉ ch:=fun b o e hx hb=>by
   rcases (hch b hb).1 with z|z
   ·exact hx z
   ·exact absurd (Nat.lt_of_lt_of_le (Heap.lt_size e) z) (Nat.lt_irrefl _)
  have cellK : ∀ x c,X.env.cells.lookup x=some c → ∀ v,s.heap.IsCell c v→h'.IsCell c v:=fun x c e v xx1=>by
   obtain ⟨o,ho,hd⟩:=xx1
   have nch:c ∉ ch:=fun z=>(hch c z).2.2.1 x c e rfl
   by_cases hc:c ∈ X.fs
   ·obtain ⟨sl,q⟩:=slot c o (I.cne x c e) hc nch ho (I.freeC x c e)
    exact ⟨_,q,hd⟩
   ·exact ⟨o,keep c o (I.cne x c e) hc nch ho (I.freeC x c e),hd⟩
  refine ⟨I.ok,I.os,hg,⟨fun b o e n hb hx=>?_,fun b o e n hb hx=>?_,fun b o e n hx=>?_,fun b o e hx=>?_,fun b xs e=>tups b xs (I.base.tups b xs e),fun b o xs e=>frzs b o xs (I.base.frzs b o xs e),fun b ps e=>?_⟩,?_,fun x c e=>?_,?_,fun x c e=>?_,fun p hp=>?_,hok,I.len⟩
  ·exact keep b o (neL b o e) hb (neC b o e hx) (I.base.keep b o e n hb hx) (I.base.free b o e n hx)
  ·obtain ⟨sl,e1⟩:=I.base.slot b o e n hb hx
   obtain ⟨sl',e2⟩:=slot b _ (neL b o e) hb (neC b o e hx) e1 (I.base.free b o e n hx)
   exact ⟨sl',e2⟩
  ·obtain ⟨o',e1⟩:=I.base.there b o e hx
   exact free b o' (neC b o e hx) e1 (I.base.free b o e n hx)
  ·obtain ⟨o',e1⟩:=I.base.there b o e hx
   exact there b o' (neC b o e hx) e1
  ·obtain ⟨m1,e1,g1⟩:=I.base.tbls b ps e
   obtain ⟨m2,e2,g2⟩:=tbls b _ e1
   exact ⟨m1++m2,by rw [e2,Array.append_assoc],(g1.mono frzs).app g2⟩
  ·obtain ⟨m,hn,hl⟩:=I.loc
   refine ⟨m,ns m hn,fun i x v e1 e2 e3=>?_⟩
   obtain ⟨u,r,l⟩:=hl i x v e1 e2 e3
   refine ⟨u,r,?_⟩
   rcases l with l|⟨k,c,e,z⟩
   ·exact .inl l
   ·exact .inr ⟨k,c,e,cellK x c e _ z⟩
  ·obtain ⟨v,z⟩:=I.cell x c e
   exact ⟨v,cellK x c e v z⟩
  ·obtain ⟨m,⟨o,_,_,ho,_⟩,_⟩:=I.loc
   exact free _ o (fun z=>(hch _ z).2.1 rfl) ho I.free
  ·obtain ⟨v,o,ho,hd⟩:=I.cell x c e
   exact free c o (fun z=>(hch c z).2.2.1 x c e rfl) ho (I.freeC x c e)
  ·obtain ⟨e,n,ne,nf,d⟩:=I.pin p hp
   have nch:p.1 ∉ ch:=fun z=>(hch p.1 z).2.2.2 p hp rfl
   exact ⟨keep p.1 p.2 ne nf nch e n,free p.1 p.2 nch e n,ne,nf,d⟩
theorem Inv.un {t':Nat} (I:Inv X pins σ H s) (u:Un X.fs [] H H' s.heap h') (hok:HOk X.prog X.w H' h'):Inv X pins σ H' { s with heap:=h',toks:=t' }:=by
 obtain ⟨m,⟨o,es,ep,ho,r⟩,_⟩:=id I.loc
 obtain ⟨sl,hL⟩:=u.any ho I.free (by simp)
 exact I.step (g':=s.gens) (d':=s.drawn) (ch:=[]) (fun _ z=>nomatch z) (fun b o _ hb _ e n=>u.keep b o e n hb (by simp)) (fun b o _ hb _ e n=>u.slot b o e n hb (by simp)) (fun b o _ e n=>u.free b o e n (by simp)) (fun b o _ e=>u.there b o e (by simp)) u.tups u.frzs u.tbls (fun m' hm=>by
  obtain ⟨o',es',ep',ho',r'⟩:=hm
  rw [ho] at ho';cases ho'
  exact ⟨_,es',ep',hL,r'⟩) hok I.bare
theorem Inv.call {g':Array GenState}{t':Nat}{d':Drawn}{ch:List Addr} (I:Inv X pins σ H s) (u:Un (frs X.stack) ch H H' s.heap h') (hok:HOk X.prog X.w H' h') (hg:AllBare g')
 (hch : ∀ b ∈ ch,(b ∈ X.ex∨X.s₀.heap.objs.size≤b)∧b≠X.env.locals∧(∀ x c,X.env.cells.lookup x=some c→c≠b) ∧ ∀ p ∈ X.pn++pins,p.1≠b) :
 Inv X pins σ H' { s with heap:=h',gens:=g',drawn:=d',toks:=t' }:=by
  obtain ⟨m,⟨o,es,ep,ho,r⟩,_⟩:=id I.loc
  obtain ⟨sl,hL⟩:=u.any ho I.free fun z=>(hch _ z).2.1 rfl
  exact I.step (ch:=ch) hch (fun b o hL hb hc e n=>u.keep b o e n (fun z=>(List.mem_cons.mp (I.stkSub b z)).elim hL hb) hc) (fun b o _ _ hc e n=>u.any e n hc) (fun b o hc e n=>u.free b o e n hc) (fun b o hc e=>u.there b o e hc) u.tups u.frzs u.tbls (fun m' hm=>by
   obtain ⟨o',es',ep',ho',r'⟩:=hm
   rw [ho] at ho';cases ho'
   exact ⟨_,es',ep',hL,r'⟩) hok hg
theorem Inv.turned {t':Nat}{it:Addr} (I:Inv X pins σ H s) (k : ∀ b o,b≠it→s.heap.get? b=some o→h'.get? b=some o) (hn:H it=none) (hL:it≠X.env.locals)
 (h1:it ∈ X.ex∨X.s₀.heap.objs.size≤it) (h2 : ∀ x c,X.env.cells.lookup x=some c→c≠it) (h3 : ∀ p ∈ X.pn++pins,p.1≠it):Inv X pins σ H { s with heap:=h',toks:=t' }:=by
  have nit : ∀ b u,H b=some u→b≠it:=fun b u e z=>by rw [z,hn] at e;cases e
  refine I.step (g':=s.gens) (d':=s.drawn) (ch:=[it]) (fun b hb=>?_) (fun b o _ _ hc e _=>k b o (fun z=>hc (by simp [z])) e) (fun b o _ _ hc e _=>⟨o.slots,k b o (fun z=>hc (by simp [z])) e⟩) (fun _ _ _ _ n=>n)
   (fun b o hc e=>⟨o,k b o (fun z=>hc (by simp [z])) e⟩) (fun _ _ e=>e) (fun _ _ _ e=>e) (fun b ps e=>⟨#[],by rw [e];simp,.nil⟩) (fun m hm=>?_) (fun b u e=>?_) I.bare
  ·have e:b=it:=by simpa using hb
   subst e
   exact ⟨h1,hL,h2,h3⟩
  ·obtain ⟨o,es,ep,ho,r⟩:=hm
   exact ⟨o,es,ep,k _ o (Ne.symm hL) ho,r⟩
  ·refine (I.hok b u e).stay (fun c v hc q=>k c v ?_ q) (fun _ q=>q) fun _ _ q=>q
   rcases hc with z|z
   ·rw [z];exact nit b u e
   ·exact nit c _ z
theorem Inv.tok (I:Inv X pins σ H s) (t:Nat):Inv X pins σ H { s with toks:=t }:=I.un (h':=s.heap) (t':=t) Un.refl I.hok
theorem Inv.kept {t':Nat} (I:Inv X pins σ H s) (k : ∀ b u,s.heap.get? b=some u→h'.get? b=some u):Inv X pins σ H { s with heap:=h',toks:=t' }:=I.un (Un.kept k) (I.hok.kept k)
theorem Inv.laid {a:Addr}{o:HO}{t':Nat} (I:Inv X pins σ H s) (k : ∀ b u,s.heap.get? b=some u→h'.get? b=some u) (hp:s.heap.objs.size≤a) (new:ObjOk X.prog X.w (upd H a o) h' a o) :
 Inv X pins σ (upd H a o) { s with heap:=h',toks:=t' }:=I.un (Un.laid k hp (I.hok.fresh hp)) (I.hok.laid k hp new)
theorem Inv.write {x e:Addr}{o:HO}{t':Nat} (I:Inv X pins σ H s) (mu:Mut (H x)) (he:e=x∨H e=some (.own x)) (k : ∀ b u,b≠e→s.heap.get? b=some u→h'.get? b=some u) (heo : ∃ u,h'.get? e=some u)
 (new:ObjOk X.prog X.w (upd H x o) h' x o):Inv X pins σ (upd H x o) { s with heap:=h',toks:=t' }:=I.un (Un.write mu he k heo) (I.hok.write mu he k heo new)
theorem Inv.pins_of {pins':List (Addr×Obj)} (I:Inv X pins σ H s) (h : ∀ p ∈ pins',s.heap.get? p.1=some p.2∧H p.1=none∧p.1≠X.env.locals∧p.1 ∉ X.fs ∧ ∀ v,p.2.data ≠ .cell v):Inv X pins' σ H s :=
 ⟨I.ok,I.os,I.bare,I.base,I.loc,I.cell,I.free,I.freeC,fun p hp=>(List.mem_append.mp hp).elim (fun z=>I.pin p (List.mem_append_left _ z)) (h p),I.hok,I.len⟩
theorem nodup_ix {N:List Str} (hN:N.Nodup) {i j:Nat}{x:Str} (a:N[i]?=some x) (b:N[j]?=some x):i=j:=by
 obtain ⟨h1,e1⟩:=List.getElem?_eq_some_iff.mp a
 obtain ⟨h2,e2⟩:=List.getElem?_eq_some_iff.mp b
 exact (List.getElem_inj hN).mp (e1.trans e2.symm)
theorem store_ok2 {M:Model}{A:Around}{E:Value→Shared→Prop}{i:Nat}{x:Str}{v:V}{u:Value}{Q:Unit→Shared→Prop} (I:Inv X pins σ H s) (hN:X.N.Nodup) (hi:X.N[i]?=some x) (hx:Loc X.env.scope x) (r:RelV v u)
 (h : ∀ s',Inv X pins (σ.set i (some v)) H s'→(∃ a,Heap.SameBut a s.heap s'.heap∧(a=X.env.locals∨X.env.cells.lookup x=some a))→Q () s') (hf:X.fn x=true∨X.env.scope.names.lookup x=some .local:=by first|exact .inl rfl|exact .inr rfl|assumption):wpAny M A (storeName X.env x u) Q E s:=by
  obtain ⟨m,hn,hl⟩:=id I.loc
  have hcls:(X.env.scope.kind == .class||(X.env.scope.kind == .module&&X.env.locals != X.env.globals))=false:=by rw [I.ok.kind];rfl
  have hiσ:i<σ.length:=by rw [I.len];exact (List.getElem?_eq_some_iff.mp hi).1
  have cne:=I.cne
  have tracked : ∀ {a:Addr}{h':Heap},(∃ o,s.heap.get? a=some o∧H a=none)→Heap.SameBut a s.heap h'→HOk X.prog X.w H h':=fun {a h'} ha hs b ob e=>by
   obtain ⟨_,_,hfree⟩:=ha
   refine (I.hok b ob e).stay (fun c w' hc q=>(hs.2 c ?_).trans q) (fun _ q=>q) fun _ _ q=>q
   rintro rfl
   rcases hc with rfl|hc
   ·rw [hfree] at e;cases e
   ·rw [hfree] at hc;cases hc
  rcases hx with hk|hk
  ·refine wpAny_storeName_local hk hn (fun h' hn' hs=>?_) hcls
   obtain ⟨oL,_,_,hoL,_⟩:=id hn
   refine h _ ⟨I.ok,I.os,I.bare,⟨fun b o e n hb hx=>?_,fun b o e n hb hx=>?_,I.base.free,fun b o e hx=>?_,I.base.tups,I.base.frzs,I.base.tbls⟩,⟨_,hn',fun j y v' e1 e2 e3=>?_⟩,fun y c e=>?_,I.free,I.freeC,fun p hp=>?_,tracked ⟨oL,hoL,I.free⟩ hs,by simpa using I.len⟩ ⟨_,hs,.inl rfl⟩
   ·exact (hs.2 b (Nat.ne_of_lt (Nat.lt_of_lt_of_le (Heap.lt_size e) I.ok.above))).trans (I.base.keep b o e n hb hx)
   ·obtain ⟨sl,e1⟩:=I.base.slot b o e n hb hx
    exact ⟨sl,(hs.2 b (Nat.ne_of_lt (Nat.lt_of_lt_of_le (Heap.lt_size e) I.ok.above))).trans e1⟩
   ·obtain ⟨o',e1⟩:=I.base.there b o e hx
    exact ⟨o',(hs.2 b (Nat.ne_of_lt (Nat.lt_of_lt_of_le (Heap.lt_size e) I.ok.above))).trans e1⟩
   ·by_cases hj:j=i
    ·subst hj
     rw [hi] at e1;cases e1
     rw [List.getElem?_set_self hiσ] at e2
     cases e2
     exact ⟨u,r,.inl ⟨hk,by simp⟩⟩
    ·rw [List.getElem?_set_ne (Ne.symm hj)] at e2
     obtain ⟨u',r',q⟩:=hl j y v' e1 e2 e3
     refine ⟨u',r',?_⟩
     rcases q with ⟨k,e⟩|⟨k,c,e,z⟩
     ·refine .inl ⟨k,?_⟩
      have:y≠x:=fun e=>hj (nodup_ix hN e1 (e ▸ hi))
      simp [this,e]
     ·exact .inr ⟨k,c,e,z.sameBut hs (cne y c e)⟩
   ·obtain ⟨w',z⟩:=I.cell y c e
    exact ⟨w',z.sameBut hs (cne y c e)⟩
   ·obtain ⟨e,n,ne,nf,d⟩:=I.pin p hp
    exact ⟨(hs.2 p.1 ne).trans e,n,ne,nf,d⟩
  ·have hfn:X.fn x=true:=by
    rcases hf with z|z
    ·exact z
    ·rw [z] at hk;cases hk
   obtain ⟨c,hc⟩:=I.ok.has x (.inl hk)
   obtain ⟨w',z⟩:=I.cell x c hc
   refine wpAny_storeName_cell I.ok.kind hk hc z (fun h' hc' hs=>?_)
   obtain ⟨oc,hoc,hocd⟩:=id z
   refine h { s with heap:=h' } ⟨I.ok,I.os,I.bare,⟨fun b o e n hb hx=>?_,fun b o e n hb hx=>?_,I.base.free,fun b o e hx=>?_,I.base.tups,I.base.frzs,I.base.tbls⟩,⟨m,hn.sameBut hs (Ne.symm (cne x c hc)),fun j y v' e1 e2 e3=>?_⟩,fun y c' e=>?_,I.free,I.freeC,fun p hp=>?_,tracked ⟨oc,hoc,I.freeC x c hc⟩ hs,by simpa using I.len⟩ ⟨c,hs,.inr hc⟩
   ·exact (hs.2 b (Nat.ne_of_lt (Nat.lt_of_lt_of_le (Heap.lt_size e) (I.ok.cab x c hfn hc)))).trans (I.base.keep b o e n hb hx)
   ·obtain ⟨sl,e1⟩:=I.base.slot b o e n hb hx
    exact ⟨sl,(hs.2 b (Nat.ne_of_lt (Nat.lt_of_lt_of_le (Heap.lt_size e) (I.ok.cab x c hfn hc)))).trans e1⟩
   ·obtain ⟨o',e1⟩:=I.base.there b o e hx
    exact ⟨o',(hs.2 b (Nat.ne_of_lt (Nat.lt_of_lt_of_le (Heap.lt_size e) (I.ok.cab x c hfn hc)))).trans e1⟩
   ·by_cases hj:j=i
    ·subst hj
     rw [hi] at e1;cases e1
     rw [List.getElem?_set_self hiσ] at e2
     cases e2
     exact ⟨u,r,.inr ⟨.inl hk,c,hc,hc'⟩⟩
    ·rw [List.getElem?_set_ne (Ne.symm hj)] at e2
     obtain ⟨u',r',q⟩:=hl j y v' e1 e2 e3
     refine ⟨u',r',?_⟩
     rcases q with q|⟨k,c',e,z'⟩
     ·exact .inl q
     ·refine .inr ⟨k,c',e,z'.sameBut hs ?_⟩
      rintro rfl
      exact hj (nodup_ix hN e1 (I.ok.inj _ _ _ e hc ▸ hi))
   ·by_cases hcc:c'=c
    ·subst hcc;exact ⟨_,hc'⟩
    ·obtain ⟨w2,z2⟩:=I.cell y c' e
     exact ⟨w2,z2.sameBut hs hcc⟩
   ·obtain ⟨e,n,ne,nf,d⟩:=I.pin p hp
    refine ⟨(hs.2 p.1 ?_).trans e,n,ne,nf,d⟩
    intro q
    rw [q,hoc] at e
    have q':oc=p.2:=Option.some.inj e
    exact d w' (by rw [← q'];exact hocd)
theorem store_ok {M:Model}{A:Around}{E:Value→Shared→Prop}{i:Nat}{x:Str}{v:V}{u:Value}{Q:Unit→Shared→Prop} (I:Inv X pins σ H s) (hN:X.N.Nodup) (hi:X.N[i]?=some x) (hx:Loc X.env.scope x) (r:RelV v u)
 (h : ∀ s',Inv X pins (σ.set i (some v)) H s'→Q () s') (hf:X.fn x=true∨X.env.scope.names.lookup x=some .local:=by first|exact .inl rfl|exact .inr rfl|assumption):wpAny M A (storeName X.env x u) Q E s :=
  store_ok2 I hN hi hx r (fun s' I' _=>h s' I') hf
theorem Inv.call' {s':Shared}{ch:List Addr} (I:Inv X pins σ H s) (ho:s'.os=s.os) (u:Un (frs X.stack) ch H H' s.heap s'.heap) (hok:HOk X.prog X.w H' s'.heap) (hg:AllBare s'.gens)
 (hch : ∀ b ∈ ch,(b ∈ X.ex∨X.s₀.heap.objs.size≤b)∧b≠X.env.locals∧(∀ x c,X.env.cells.lookup x=some c→c≠b) ∧ ∀ p ∈ X.pn++pins,p.1≠b):Inv X pins σ H' s':=by
  obtain ⟨h',g',d',t',o'⟩:=s'
  have e:o'=s.os:=ho
  subst e
  exact I.call (g':=g') (t':=t') (d':=d') u hok hg hch
end
abbrev XK:=Value→Option Addr→Hp→Prop
abbrev St:=List (Option V)
abbrev VK:=V→Hp→Prop
abbrev TE:=St→Hp→VK→Prop
abbrev TT:=St→Hp→(Bool→Hp→Prop)→Prop
abbrev TA:=St→Hp→(List V→Hp→Prop)→Prop
structure Ends where
 nx:St→Hp→Prop
 rt:VK
 bk:St→Hp→Prop:=fun _ _=>False
 ct:St→Hp→Prop:=fun _ _=>False
abbrev TS:=Ends→St→Hp→Prop
def EP (X:Cx) (pins:List (Addr×Obj)) (σ:St) (Q:VK) (u:Value) (s':Shared):Prop := ∃ v H',Inv X pins σ H' s'∧RelV v u∧Q v H'
def TP (X:Cx) (pins:List (Addr×Obj)) (σ:St) (Q:Bool→Hp→Prop) (b:Bool) (s':Shared):Prop := ∃ H',Inv X pins σ H' s'∧Q b H'
def AP (X:Cx) (pins:List (Addr×Obj)) (σ:St) (Q:List V→Hp→Prop) (us:List Value) (s':Shared):Prop := ∃ vs H',Inv X pins σ H' s'∧Vals vs us∧Q vs H'
def SP (X:Cx) (pins:List (Addr×Obj)) (D:Ends) (f:Flow) (s':Shared):Prop :=
 match f with
 | .next => ∃ σ' H',Inv X pins σ' H' s'∧D.nx σ' H'
 | .brk => ∃ σ' H',Inv X pins σ' H' s'∧D.bk σ' H'
 | .cont => ∃ σ' H',Inv X pins σ' H' s'∧D.ct σ' H'
 | .ret u => ∃ v σ' H',Inv X pins σ' H' s'∧RelV v u∧D.rt v H'
def PE (X:Cx) (e:Expr) (t:TE):Prop :=
 ∀ (pins:List (Addr×Obj)) (s:Shared) (σ:St) (H:Hp) (Q:VK),Inv X pins σ H s→t σ H Q→wpAny (model X.prog X.w) X.A (eval e X.env) (EP X pins σ Q) X.xe s
def PT (X:Cx) (e:Expr) (t:TT):Prop :=
 ∀ (pins:List (Addr×Obj)) (s:Shared) (σ:St) (H:Hp) (Q:Bool→Hp→Prop),Inv X pins σ H s→t σ H Q→wpAny (model X.prog X.w) X.A (isTrue e X.env (eval e X.env)) (TP X pins σ Q) X.xe s
def PW (X:Cx) (e:Expr) (t:TT):Prop :=
 ∀ (whole:Sem Value) (pins:List (Addr×Obj)) (s:Shared) (σ:St) (H:Hp) (Q:Bool→Hp→Prop),Inv X pins σ H s→t σ H Q→wpAny (model X.prog X.w) X.A (isTrue e X.env whole) (TP X pins σ Q) X.xe s
theorem PW.pt {X:Cx}{e:Expr}{t:TT} (h:PW X e t):PT X e t:=h _
def PA (X:Cx) (es:List Expr) (t:TA):Prop :=
 ∀ (pos:Pos) (pins:List (Addr×Obj)) (s:Shared) (σ:St) (H:Hp) (Q:List V→Hp→Prop),Inv X pins σ H s→t σ H Q→wpAny (model X.prog X.w) X.A (spliced (backTo pos (starEach es X.env))) (AP X pins σ Q) X.xe s
def PS (X:Cx) (st:Stmt) (t:TS):Prop :=
 ∀ (pins:List (Addr×Obj)) (s:Shared) (σ:St) (H:Hp) (D:Ends),Inv X pins σ H s→t D σ H→wpAny (model X.prog X.w) X.A (exec st X.env) (SP X pins D) X.xe s
def PSs (X:Cx) (st:List Stmt) (t:TS):Prop :=
 ∀ (pins:List (Addr×Obj)) (s:Shared) (σ:St) (H:Hp) (D:Ends),Inv X pins σ H s→t D σ H→wpAny (model X.prog X.w) X.A (execs st X.env) (SP X pins D) X.xe s
theorem thn {α:Type}{t:Sem α}{Q Q':α→Shared→Prop}{M:Model}{A:Around}{E:Value→Shared→Prop}{s:Shared} (h:wpAny M A t Q E s) (hQ : ∀ a s,Q a s→Q' a s):wpAny M A t Q' E s:=wpAny_mono h hQ fun _ _ x=>x
end L2
namespace L2
open PySem PySem.Spec PyProof.Rows
section
variable {X:Cx}
def tVar (i:Nat):TE:=fun σ H Q => ∃ v,σ[i]?=some (some v)∧Q v H
def tC (v:V):TE:=fun _ H Q=>Q v H
theorem pe_var {i:Nat}{x:Str}{pos:Pos} (hN:X.N[i]?=some x) (hv:Vis X.env.scope x) (hd:(x==("__debug__" : Str))=false:=by decide) (hcd:(x==("__classdict__" : Str))=false:=by decide):PE X (.Name x pos) (tVar i):=by
 intro pins s σ H Q I h
 obtain ⟨v,e,h⟩:=h
 obtain ⟨m,hn,hl⟩:=I.loc
 obtain ⟨u,r,l⟩:=hl i x v hN e hv
 have fin:EP X pins σ Q u s:=⟨v,H,I,r,h⟩
 rcases l with ⟨hk,hm⟩|⟨hk,c,hc,hcell⟩
 ·exact wpAny_Name (wpAny_loadName_local I.ok.kind hk hn hm fin) hd
 ·rcases hk with hk|hk
  ·exact wpAny_Name (wpAny_loadName_cell I.ok.kind hk hc hcell fin) hd
  ·exact wpAny_Name (wpAny_loadName_free I.ok.kind hk hc hcell fin hcd) hd
theorem pe_int {i j pos}:PE X (.Constant (.int i) j pos) (tC (.int i)):=fun _ _ _ H _ I h=>wpAny_Constant_int ⟨.int i,H,I.tok _,⟨_,rfl⟩,h⟩
theorem pe_bl {b j pos}:PE X (.Constant (.bool b) j pos) (tC (.bl b)):=fun _ _ _ H _ I h=>Constant_bool ⟨.bl b,H,I,rfl,h⟩
theorem pe_non {j pos}:PE X (.Constant .none j pos) (tC .non):=fun _ _ _ H _ I h=>Constant_none ⟨.non,H,I,rfl,h⟩
theorem pe_str {x j pos}:PE X (.Constant (.str x) j pos) (tC (.str x)):=fun _ _ _ H _ I h=>Calls.Constant_str ⟨.str x,H,I.tok _,⟨_,rfl⟩,h⟩
def Gl (X:Cx) (x:Str):Prop:=X.env.kindOf x=some .globalImplicit
theorem ld_glob {E:Value→Shared→Prop}{pins:List (Addr×Obj)}{s:Shared}{σ:St}{H:Hp}{x:Str}{u:Value}{pos:Pos}{Q:Value→Shared→Prop} (I:Inv X pins σ H s) (hg:Gl X x) (hm:X.mg x=some u) (h:Q u s)
 (hd:(x==("__debug__" : Str))=false:=by decide):wpAny (model X.prog X.w) X.A (eval (.Name x pos) X.env) Q E s :=
  Calls.Name_function_global I.ok.kind hg (Calls.loadGlobal_global (by rw [I.ok.glob];exact I.mod.glob.keeps I.bk) hm h) hd
theorem ld_blt {E:Value→Shared→Prop}{pins:List (Addr×Obj)}{s:Shared}{σ:St}{H:Hp}{x:Str}{u:Value}{pos:Pos}{Q:Value→Shared→Prop} (I:Inv X pins σ H s) (hg:Gl X x) (hm:X.mg x=none) (hv:bootBuiltins x=some u) (h:Q u s)
 (hn:x ≠ "__name__":=by decide) (hd:(x==("__debug__" : Str))=false:=by decide):wpAny (model X.prog X.w) X.A (eval (.Name x pos) X.env) Q E s:=by
  obtain ⟨mb,h1,h2⟩:=I.mod.blt
  exact Calls.Name_function_global I.ok.kind hg (Calls.loadGlobal_builtin (by rw [I.ok.glob];exact I.mod.glob.keeps I.bk) hm (by rw [I.ok.blt];exact h1.keeps I.bk) ((h2 x hn).trans hv) h) hd
theorem pe_glob {x:Str}{v:V}{u:Value}{pos:Pos} (hg:Gl X x) (hm:X.mg x=some u) (r:RelV v u) (hd:(x==("__debug__" : Str))=false:=by decide):PE X (.Name x pos) (tC v) :=
 fun _ _ _ H _ I h=>ld_glob I hg hm ⟨v,H,I,r,h⟩ hd
theorem pe_bltn {x:Str}{v:V}{u:Value}{pos:Pos} (hg:Gl X x) (hm:X.mg x=none) (hv:bootBuiltins x=some u) (r:RelV v u) (hn:x ≠ "__name__":=by decide) (hd:(x==("__debug__" : Str))=false:=by decide):PE X (.Name x pos) (tC v) :=
 fun _ _ _ H _ I h=>ld_blt I hg hm hv ⟨v,H,I,r,h⟩ hn hd
variable {a b:Expr}{ta tb:TE}{pos:Pos}
def tB (t:TE):TT:=fun σ H Q=>t σ H fun x H1 => ∃ c,x = .bl c∧Q c H1
theorem pt_val {e:Expr}{t:TE} (h:PE X e t) (he : ∀ whole,isTrue e X.env whole=(do let v ← whole;standAt e.pos;holding [v] (truthy v)):=by intro _;rfl):PT X e (tB t):=by
 intro pins s σ H Q I hw
 refine isTrue_plain (thn (h pins s σ H _ I hw) fun v s1 xx2=>?_) (he _)
 obtain ⟨x,H1,I1,r1,q1⟩:=xx2
 obtain ⟨d,rfl,q⟩:=q1
 cases r1
 exact wpAny_truthy_bool ⟨H1,I1,q⟩
variable {tA tB':TT}{rest:List Expr}
def tAnd (t u:TT):TT:=fun σ H Q=>t σ H fun c H1=>if c=true then u σ H1 Q else Q false H1
def tOr (t u:TT):TT:=fun σ H Q=>t σ H fun c H1=>if c=true then Q true H1 else u σ H1 Q
def tNot (t:TT):TT:=fun σ H Q=>t σ H fun c H1=>Q (!c) H1
theorem pw_and1 (ha:PT X a tA):PW X (.BoolOp .And [a] pos) tA:=by
 intro wh pins s σ H Q I h
 refine isTrue_and (thn (ha pins s σ H Q I h) fun c s1 e=>?_)
 cases c with
 | true=>exact isTrue_and_nil e
 | false=>exact e
theorem pw_or1 (ha:PT X a tA):PW X (.BoolOp .Or [a] pos) tA:=by
 intro wh pins s σ H Q I h
 refine isTrue_or (thn (ha pins s σ H Q I h) fun c s1 e=>?_)
 cases c with
 | false=>exact isTrue_or_nil e
 | true=>exact e
theorem pw_and (ha:PT X a tA) (hb:PW X (.BoolOp .And (b::rest) pos) tB'):PW X (.BoolOp .And (a::b::rest) pos) (tAnd tA tB'):=by
 intro wh pins s σ H Q I h
 refine isTrue_and (thn (ha pins s σ H _ I h) fun c s1 xx3=>?_)
 obtain ⟨H1,I1,q1⟩:=xx3
 cases c with
 | true=>exact hb wh pins s1 σ H1 Q I1 q1
 | false=>exact ⟨H1,I1,q1⟩
theorem pw_or (ha:PT X a tA) (hb:PW X (.BoolOp .Or (b::rest) pos) tB'):PW X (.BoolOp .Or (a::b::rest) pos) (tOr tA tB'):=by
 intro wh pins s σ H Q I h
 refine isTrue_or (thn (ha pins s σ H _ I h) fun c s1 xx4=>?_)
 obtain ⟨H1,I1,q1⟩:=xx4
 cases c with
 | true=>exact ⟨H1,I1,q1⟩
 | false=>exact hb wh pins s1 σ H1 Q I1 q1
theorem pt_not (ha:PT X a tA):PT X (.UnaryOp .Not a pos) (tNot tA):=by
 intro pins s σ H Q I h
 exact isTrue_not (ha pins s σ H (fun c H1=>Q (!c) H1) I h)
def tAndV (ta tb:TE):TE:=fun σ H Q=>ta σ H fun x H1 => ∃ c,x = .bl c∧if c=true then tb σ H1 Q else Q (.bl false) H1
def tNotV (ta:TE):TE:=fun σ H Q=>ta σ H fun x H1 => ∃ c,x = .bl c∧Q (.bl (!c)) H1
theorem pe_one {op}{t:TE} (h:PE X a t):PE X (.BoolOp op [a] pos) t:=fun pins s σ H Q I hw=>BoolOp_one (h pins s σ H Q I hw)
theorem pe_and (ha:PE X a ta) (hb:PE X (.BoolOp .And (b::rest) pos) tb):PE X (.BoolOp .And (a::b::rest) pos) (tAndV ta tb):=by
 intro pins s σ H Q I h
 refine BoolOp_and (thn (ha pins s σ H _ I h) fun v s1 xx5=>?_)
 obtain ⟨x,H1,I1,r1,q1⟩:=xx5
 obtain ⟨c,rfl,q1⟩:=q1
 cases r1
 refine wpAny_truthy_bool ?_
 cases c with
 | true=>exact hb pins s1 σ H1 Q I1 q1
 | false=>exact ⟨.bl false,H1,I1,rfl,q1⟩
theorem pe_not (ha:PE X a ta):PE X (.UnaryOp .Not a pos) (tNotV ta):=by
 intro pins s σ H Q I h
 refine UnaryOp_ (thn (ha pins s σ H _ I h) fun v s1 xx6=>?_)
 obtain ⟨x,H1,I1,r1,q1⟩:=xx6
 obtain ⟨c,rfl,q1⟩:=q1
 cases r1
 exact not_of (wpAny_truthy_bool ⟨.bl (!c),H1,I1,rfl,q1⟩)
end
end L2
namespace L2
open PySem PySem.Spec PyProof.Rows
def SqL (K:PySem.W.Frag) (H:Hp) (a:Addr) (xs:List V):Prop :=
 Rd H a (.lst xs) ∨
  ∃ (o:Obj) (its:Array Value) (n:Nat),K.lookup a=some o∧o.cls = .type "list" ∧ o.dict=none∧o.data = .seq its n∧its.size≤sizeLine∧Vals xs its.toList
def SqT (K:PySem.W.Frag) (H:Hp) (a:Addr) (xs:List V):Prop :=
 Rd H a (.tup xs) ∨
  ∃ (o:Obj) (its:Array Value) (n:Nat),K.lookup a=some o∧o.cls = .type "tuple" ∧ o.data = .seq its n∧its.size≤sizeLine∧Vals xs its.toList
def absV:Value→Option V
 | .none=>some .non
 | .bool b=>some (.bl b)
 | .int i _=>some (.int i)
 | .str x _=>some (.str x)
 | .bytes b _=>some (.byt b)
 | .float b _=>some (.flt b)
 | .ref a=>some (.ref a)
 | .type n=>some (.ty n)
 | _=>none
theorem RelV.abs {x:V}{u:Value} (r:RelV x u):absV u=some x:=by
 cases x with
 | non=>cases r;rfl
 | bl _=>cases r;rfl
 | int _=>obtain ⟨t,rfl⟩:=r;rfl
 | str _=>obtain ⟨t,rfl⟩:=r;rfl
 | byt _=>obtain ⟨t,rfl⟩:=r;rfl
 | flt _=>obtain ⟨t,rfl⟩:=r;rfl
 | ref _=>cases r;rfl
 | ty _=>cases r;rfl
theorem RelV.inj {x y:V}{u:Value} (r:RelV x u) (q:RelV y u):x=y:=Option.some.inj (r.abs.symm.trans q.abs)
theorem Vals.inj : ∀ {xs ys:List V}{us:List Value},Vals xs us→Vals ys us→xs=ys
 | _,_,_,.nil,.nil=>rfl
 | _,_,_,.cons r t,.cons r' t'=>by rw [r.inj r',Vals.inj t t']
section
variable {X:Cx}{pins:List (Addr×Obj)}{σ:St}{H:Hp}{s:Shared}{a:Addr}{xs ys:List V}
theorem SqL.of {K:PySem.W.Frag} (h:H a=some (.lst xs)):SqL K H a xs :=.inl (.inl h)
theorem SqT.of {K:PySem.W.Frag} (h:H a=some (.tup xs)):SqT K H a xs :=.inl (.inl h)
theorem Inv.list (I:Inv X pins σ H s) (h:SqL X.K H a xs) : ∃ its:List Value,Vals xs its∧PlainL s.heap a its.toArray∧xs.length≤sizeLine:=by
 rcases h with h|⟨o,its,n,hk,hc,hd,hs,hz,r⟩
 ·obtain ⟨z,its,n,r,e⟩:=h.ok I.hok
  exact ⟨its,r,⟨_,n,e,rfl,rfl,rfl⟩,z⟩
 ·refine ⟨its.toList,r,⟨o,n,I.kIn a o hk,hc,hd,by simpa using hs⟩,?_⟩
  have e:=r.length
  simp only [Array.length_toList] at e
  omega
theorem Inv.tuple (I:Inv X pins σ H s) (h:SqT X.K H a xs) : ∃ its:List Value,Vals xs its∧IsTup s.heap a its.toArray∧xs.length≤sizeLine:=by
 rcases h with h|⟨o,its,n,hk,hc,hs,hz,r⟩
 ·obtain ⟨z,its,r,p⟩:=h.ok I.hok
  exact ⟨its,r,p,z⟩
 ·refine ⟨its.toList,r,⟨o,I.kIn a o hk,hc,n,by simpa using hs⟩,?_⟩
  have e:=r.length
  simp only [Array.length_toList] at e
  omega
theorem Inv.list_inj (I:Inv X pins σ H s) (h:SqL X.K H a xs) (h':SqL X.K H a ys):xs=ys:=by
 obtain ⟨its,r,⟨o,n,e,_,_,d⟩,_⟩:=I.list h
 obtain ⟨its',r',⟨o',n',e',_,_,d'⟩,_⟩:=I.list h'
 rw [e] at e';cases e'
 rw [d] at d'
 injection d' with d1 _
 have:its=its':=by simpa using congrArg Array.toList d1
 subst this
 exact r.inj r'
theorem Inv.tuple_inj (I:Inv X pins σ H s) (h:SqT X.K H a xs) (h':SqT X.K H a ys):xs=ys:=by
 obtain ⟨its,r,⟨o,e,_,n,d⟩,_⟩:=I.tuple h
 obtain ⟨its',r',⟨o',e',_,n',d'⟩,_⟩:=I.tuple h'
 rw [e] at e';cases e'
 rw [d] at d'
 injection d' with d1 _
 have:its=its':=by simpa using congrArg Array.toList d1
 subst this
 exact r.inj r'
end
abbrev Cx.wish (X:Cx) (E:Value→Shared→Prop):Cx:={ X with xe:=E }
abbrev Cx.nox (X:Cx):Cx:=X.wish fun _ _=>False
theorem Cx.Ok.wish {X:Cx} (ok:X.Ok) (E:Value→Shared→Prop):(X.wish E).Ok :=
 ⟨ok.mod,ok.kind,ok.glob,ok.blt,ok.above,ok.inj,ok.has,ok.cab,ok.hd,ok.frames,ok.stk,ok.exf,ok.bs,ok.bsz,ok.noex,ok.exfs,ok.funs,ok.frf⟩
theorem Cx.Ok.unwish {X:Cx}{E:Value→Shared→Prop} (ok:(X.wish E).Ok):X.Ok :=
 ⟨ok.mod,ok.kind,ok.glob,ok.blt,ok.above,ok.inj,ok.has,ok.cab,ok.hd,ok.frames,ok.stk,ok.exf,ok.bs,ok.bsz,ok.noex,ok.exfs,ok.funs,ok.frf⟩
section
variable {X:Cx}{pins:List (Addr×Obj)}{σ:St}{H:Hp}{s:Shared}{E:Value→Shared→Prop}
theorem Inv.wish (I:Inv X pins σ H s) (E:Value→Shared→Prop):Inv (X.wish E) pins σ H s:=⟨I.ok.wish E,I.os,I.bare,I.base,I.loc,I.cell,I.free,I.freeC,I.pin,I.hok,I.len⟩
theorem Inv.unwish (I:Inv (X.wish E) pins σ H s):Inv X pins σ H s:=⟨I.ok.unwish,I.os,I.bare,I.base,I.loc,I.cell,I.free,I.freeC,I.pin,I.hok,I.len⟩
theorem SP.unwish {D:Ends}{f:Flow}{s':Shared} (h:SP (X.wish E) pins D f s'):SP X pins D f s':=by
 cases f with
 | next=>obtain ⟨σ',H',I,q⟩:=h;exact ⟨σ',H',I.unwish,q⟩
 | brk=>obtain ⟨σ',H',I,q⟩:=h;exact ⟨σ',H',I.unwish,q⟩
 | cont=>obtain ⟨σ',H',I,q⟩:=h;exact ⟨σ',H',I.unwish,q⟩
 | ret u=>obtain ⟨v,σ',H',I,r,q⟩:=h;exact ⟨v,σ',H',I.unwish,r,q⟩
theorem PSs.nox {st:List Stmt}{t:TS} (h:PSs X.nox st t):PSs X st t:=fun pins s σ H D I hw =>
 wpAny_mono (h pins s σ H D (I.wish _) hw) (fun _ _ q=>q.unwish) fun _ _ z=>False.elim z
end
section
variable {X:Cx}{st:Stmt}{rest:List Stmt}{t u:TS}{e:Expr}{te:TE}{pos:Pos}
def tNext:TS:=fun D σ H=>D.nx σ H
def tSeq (t u:TS):TS:=fun D σ H=>t { D with nx:=u D } σ H
theorem pss_nil:PSs X [] tNext:=fun _ _ σ H _ I h=>wpAny_execs_nil ⟨σ,H,I,h⟩
theorem pss_cons (h1:PS X st t) (h2:PSs X rest u):PSs X (st::rest) (tSeq t u):=by
 intro pins s σ H D I h
 refine wpAny_execs_cons (thn (h1 pins s σ H { D with nx:=u D } I h) fun f s1 q=>?_)
 cases f with
 | next =>
  obtain ⟨σ',H',I',q⟩:=q
  exact h2 pins s1 σ' H' D I' q
 | ret v=>exact q
 | brk=>exact q
 | cont=>exact q
theorem pss_one (h1:PS X st t):PSs X [st] t:=by
 intro pins s σ H D I h
 refine wpAny_execs_cons (thn (h1 pins s σ H D I h) fun f s1 q=>?_)
 cases f with
 | next=>exact wpAny_execs_nil q
 | ret v=>exact q
 | brk=>exact q
 | cont=>exact q
theorem Inv.quiet {pins:List (Addr×Obj)}{σ:St}{H:Hp}{s:Shared} (I:Inv X pins σ H s):interactive X.env=false:=by simp [interactive,I.ok.kind]
def tDrop (te:TE):TS:=fun D σ H=>te σ H fun _ H1=>D.nx σ H1
theorem ps_expr (he:PE X e te) (hs:swapsWith e none pos.line X.env=pure false:=by rfl):PS X (.Expr e pos) (tDrop te):=by
 intro pins s σ H D I h
 exact wpAny_Expr_any (thn (he pins s σ H _ I h) fun v s1 xx9=>by obtain ⟨x,H1,I1,r1,q1⟩:=xx9;exact ⟨σ,H1,I1,q1⟩) I.quiet hs
def tRet (te:TE):TS:=fun D σ H=>te σ H D.rt
theorem ps_ret (he:PE X e te):PS X (.Return (some e) pos) (tRet te):=by
 intro pins s σ H D I h
 exact wpAny_Return_some (thn (he pins s σ H _ I h) fun v s1 xx10=>by obtain ⟨x,H1,I1,r1,q1⟩:=xx10;exact ⟨x,σ,H1,I1,r1,q1⟩)
def tIfS (c:TT) (t u:TS):TS:=fun D σ H=>c σ H fun b H1=>if b=true then t D σ H1 else u D σ H1
theorem ps_if {c:Expr}{a b:List Stmt}{tc:TT} (hc:PT X c tc) (ha:PSs X a t) (hb:PSs X b u):PS X (.If c a b pos) (tIfS tc t u):=by
 intro pins s σ H D I h
 refine wpAny_If (thn (hc pins s σ H _ I h) fun d s1 xx11=>?_)
 obtain ⟨H1,I1,q1⟩:=xx11
 cases d with
 | true=>exact ha pins s1 σ H1 D I1 q1
 | false=>exact hb pins s1 σ H1 D I1 q1
def tNever:TS:=fun _ _ _=>False
theorem pss_never {sts:List Stmt}:PSs X sts tNever:=fun _ _ _ _ _ _ h=>h.elim
end
abbrev TG:=V→St→Hp→(St→Hp→Prop)→Prop
abbrev TGs:=List V→St→Hp→(St→Hp→Prop)→Prop
def PG (X:Cx) (target:Expr) (t:TG):Prop :=
 ∀ (pins:List (Addr×Obj)) (s:Shared) (σ:St) (H:Hp) (v:V) (u:Value) (Q:St→Hp→Prop),Inv X pins σ H s→RelV v u→t v σ H Q →
  wpAny (model X.prog X.w) X.A (assign target X.env u) (fun _ s' => ∃ σ' H',Inv X pins σ' H' s'∧Q σ' H') X.xe s
def PGs (X:Cx) (ts:List Expr) (t:TGs):Prop :=
 ∀ (pins:List (Addr×Obj)) (s:Shared) (σ:St) (H:Hp) (vs:List V) (us:List Value) (Q:St→Hp→Prop),Inv X pins σ H s→Vals vs us→t vs σ H Q →
  wpAny (model X.prog X.w) X.A (assignInOrder ((assignEach ts X.env).map (·.2)) us) (fun _ s' => ∃ σ' H',Inv X pins σ' H' s'∧Q σ' H') X.xe s
section
variable {X:Cx}{pos:Pos}
def gName (i:Nat):TG:=fun v σ H Q=>Q (σ.set i (some v)) H
theorem pg_name {i:Nat}{x:Str} (hN:X.N.Nodup) (hi:X.N[i]?=some x) (hx:Loc X.env.scope x) (hf:X.fn x=true∨X.env.scope.names.lookup x=some .local:=by first|exact .inl rfl|exact .inr rfl|assumption):PG X (.Name x pos) (gName i):=by
 intro pins s σ H v u Q I r h
 exact wpAny_assign_Name (store_ok I hN hi hx r (fun s' I'=>⟨_,H,I',h⟩) hf)
def gNil:TGs:=fun vs σ H Q=>vs=[]∧Q σ H
def gCons (t:TG) (u:TGs):TGs:=fun vs σ H Q => ∃ v r,vs=v::r∧t v σ H fun σ' H'=>u r σ' H' Q
theorem pgs_nil:PGs X [] gNil:=by
 intro pins s σ H vs us Q I r h
 obtain ⟨e,h⟩:=h
 subst e
 cases r
 exact assignInOrder_nil ⟨σ,H,I,h⟩
theorem pgs_cons {e:Expr}{es:List Expr}{t:TG}{u:TGs} (h1:PG X e t) (h2:PGs X es u)
 (hs:(assignEach (e::es) X.env).map (·.2)=assign e X.env::(assignEach es X.env).map (·.2):=by rfl):PGs X (e::es) (gCons t u):=by
  intro pins s σ H vs us Q I r h
  obtain ⟨v,vr,e1,h⟩:=h
  subst e1
  cases r with
  | cons r rr =>
   rw [hs]
   refine assignInOrder_cons (thn (h1 pins s σ H _ _ _ I r h) fun _ s1 xx12=>?_)
   obtain ⟨σ1,H1,I1,q1⟩:=xx12
   exact h2 pins s1 σ1 H1 _ _ Q I1 rr q1
def gTup (K:PySem.W.Frag) (n:Nat) (t:TGs):TG:=fun v σ H Q => ∃ a xs,v = .ref a∧SqT K H a xs∧xs.length=n∧t xs σ H Q
theorem pg_tup {es:List Expr}{k:Nat}{t:TGs}{n:Nat} (hc:X.calm=true) (h:PGs X es t)
 (hn:(assignEach es X.env).length=n:=by rfl) (hst:(assignEach es X.env).findIdx? (·.1)=none:=by rfl):PG X (.Tuple es k pos) (gTup X.K n t):=by
  intro pins s σ H v u Q I r hw
  obtain ⟨a,xs,e1,hq,hl,hw⟩:=hw
  subst e1
  cases r
  obtain ⟨its,rv,ht,hz⟩:=I.tuple hq
  refine assign_Tuple_tuple (I.ok.hd hc) ht (by simp [hn,← hl,rv.length]) hst fun h' hx=>?_
  have I1:Inv X pins σ H { s with heap:=h' }:=I.kept (t':=s.toks) fun b o e=>hx b o (Nat.ne_of_lt (Heap.lt_size e)) e
  exact h pins _ σ H xs _ Q I1 (by simpa using rv) hw
def tAsg (te:TE) (g:TG):TS:=fun D σ H=>te σ H fun x H1=>g x σ H1 D.nx
theorem ps_asg {tg e:Expr}{te:TE}{g:TG} (he:PE X e te) (hg:PG X tg g) (hs:swapsWithSole [tg] e pos.line X.env=pure false:=by rfl) (hw:swappedStores [tg] e X.env=pure none:=by rfl)
 (h1:(assignEach [tg] X.env).map (·.2)=[assign tg X.env]:=by rfl):PS X (.Assign [tg] e pos) (tAsg te g):=by
 intro pins s σ H D I h
 refine wpAny_Assign_stores (thn (he pins s σ H _ I h) fun v s1 xx13=>?_) hs hw
 obtain ⟨x,H1,I1,r1,q1⟩:=xx13
 rw [h1]
 exact thn (hg pins s1 σ H1 x v _ I1 r1 q1) fun _ s2 q=>q
theorem ps_set {i:Nat}{x:Str}{e:Expr}{te:TE}{pos':Pos} (hN:X.N.Nodup) (hi:X.N[i]?=some x) (hx:Loc X.env.scope x) (he:PE X e te) (hs:swapsWith e (some (.Name x pos')) pos.line X.env=pure false:=by rfl) (hf:X.fn x=true∨X.env.scope.names.lookup x=some .local:=by first|exact .inl rfl|exact .inr rfl|assumption) :
 PS X (.Assign [.Name x pos'] e pos) (tAsg te (gName i)):=by
 intro pins s σ H D I h
 refine wpAny_Assign_Name (thn (he pins s σ H _ I h) fun v s1 xx14=>?_) hs
 obtain ⟨y,H1,I1,r1,q1⟩:=xx14
 exact store_ok I1 hN hi hx r1 (fun s2 I2=>⟨_,H1,I2,q1⟩) hf
end
section
variable {X:Cx}{pos:Pos}
def tWhile (c:TT) (tb:TS):TS:=fun D σ H => ∃ W:Nat→St→Hp→Prop,(∃ m,W m σ H) ∧ ∀ m σ H,W m σ H →
 c σ H fun b H1=>if b=true then ∃ N:St→Hp→Prop,(∀ σ' H',N σ' H' → ∃ m',m'<m∧W m' σ' H')∧tb { D with nx:=N,ct:=N,bk:=D.nx } σ H1 else D.nx σ H1
theorem ps_while {c:Expr}{body:List Stmt}{tc:TT}{tb:TS} (hp:PassesOwn (model X.prog X.w) X.A X.env X.xe) (hc:PT X c tc) (hb:PSs X body tb):PS X (.While c body [] pos) (tWhile tc tb):=by
 intro pins s σ H D I h
 obtain ⟨W,⟨m0,w0⟩,turn⟩:=h
 refine wpAny_While (codeAny_whileLoop (fun n s' => ∃ σ' H',Inv X pins σ' H' s'∧W n σ' H') ?_ m0 ⟨σ,H,I,w0⟩)
 rintro n s1 ⟨σ1,H1,I1,w1⟩
 refine wpAny_passesOwn hp (thn (hc pins s1 σ1 H1 _ I1 (turn n σ1 H1 w1)) fun b s2 xx15=>?_)
 obtain ⟨H2,I2,q2⟩:=xx15
 cases b with
 | true =>
  obtain ⟨N,hN,q2⟩:=q2
  rw [if_pos rfl]
  refine wpAny_passesOwn hp (thn (hb pins s2 σ1 H2 _ I2 q2) fun f s3 q3=>?_)
  cases f with
  | next =>
   obtain ⟨σ3,H3,I3,n3⟩:=q3
   obtain ⟨m',hm,w3⟩:=hN σ3 H3 n3
   exact ⟨m',hm,σ3,H3,I3,w3⟩
  | cont =>
   obtain ⟨σ3,H3,I3,n3⟩:=q3
   obtain ⟨m',hm,w3⟩:=hN σ3 H3 n3
   exact ⟨m',hm,σ3,H3,I3,w3⟩
  | brk=>exact q3
  | ret v=>exact q3
 | false =>
  rw [if_neg Bool.false_ne_true]
  exact wpAny_execs_nil ⟨σ1,H2,I2,q2⟩
end
structure It where
 go:Nat→Hp→Prop
 yld:Nat→Hp→V→Hp→Prop
 stop:Nat→Hp→Prop
def FpOk (X:Cx) (pins:List (Addr×Obj)) (H:Hp) (b:Addr):Prop :=
 H b=none∧b≠X.env.locals∧b ∉ X.fs∧(b ∈ X.ex∨X.s₀.heap.objs.size≤b)∧(∀ x c,X.env.cells.lookup x=some c→c≠b) ∧ ∀ p ∈ X.pn++pins,p.1≠b
theorem Inv.fpOk {X:Cx}{pins:List (Addr×Obj)}{σ:St}{H H':Hp}{s:Shared}{b:Addr} (I:Inv X pins σ H s) (hb:s.heap.objs.size≤b) (hn:H' b=none):FpOk X pins H' b:=by
 refine ⟨hn,Nat.ne_of_gt (Nat.lt_of_lt_of_le I.lt hb),I.nofs hb,.inr (Nat.le_trans I.sz hb),fun x c e z=>?_,fun p hp z=>?_⟩
 ·obtain ⟨v,q⟩:=I.cell x c e
  exact absurd (Nat.lt_of_lt_of_le q.lt (by rw [z];exact hb)) (Nat.lt_irrefl _)
 ·exact absurd (Nat.lt_of_lt_of_le (Heap.lt_size (I.pin p hp).1) (by rw [z];exact hb)) (Nat.lt_irrefl _)
structure Turn (P:Program) (w:World) (K:PySem.W.Frag) (tg:Expr) (J:It) (fp:List Addr) (it:Addr) (tn:Nat→Heap→Prop):Prop where
 mem:it ∈ fp
 obj : ∀ i h,tn i h → ∀ b ∈ fp,∃ o,h.get? b=some o ∧ ∀ v,o.data ≠ .cell v
 keep : ∀ i h h',tn i h→(∀ b ∈ fp,∀ o,h.get? b=some o→h'.get? b=some o)→tn i h'
 item : ∀ (X:Cx),X.prog=P→X.w=w→X.K=K→X.calm=true → ∀ (i:Nat) (pins:List (Addr×Obj)) (s:Shared) (σ:St) (H:Hp) (E:Value→Shared→Prop),Inv X pins σ H s→(∀ b ∈ fp,FpOk X pins H b)→tn i s.heap→J.go i H →
  wpAny (model P w) X.A (pyNext (.ref it)) (fun r s1 => ∃ u,r=some u ∧
   wpAny (model P w) X.A (letOwnedTupleGo tg (.ref it) u) (fun _ s2 => ∃ x H',Inv X pins σ H' s2∧RelV x u∧J.yld i H x H'∧tn (i+1) s2.heap ∧ ∀ b ∈ fp,H' b=none) E s1) E s
 done : ∀ (X:Cx),X.prog=P→X.w=w→X.K=K→X.calm=true → ∀ (i:Nat) (pins:List (Addr×Obj)) (s:Shared) (σ:St) (H:Hp) (E:Value→Shared→Prop),Inv X pins σ H s→(∀ b ∈ fp,FpOk X pins H b)→tn i s.heap→J.stop i H →
  wpAny (model P w) X.A (pyNext (.ref it)) (fun r s1=>r=none∧Inv X pins σ H s1) E s
 self : ∀ (A:Around) (i:Nat) (s:Shared) (Q:Value→Shared→Prop) (E:Value→Shared→Prop),tn i s.heap→Q (.ref it) s→wpAny (model P w) A (pyIter (.ref it)) Q E s
abbrev TI:=St→Hp→(It→Hp→Prop)→Prop
def PIE (X:Cx) (pins:List (Addr×Obj)) (σ:St) (tg:Expr) (R:It→Hp→Prop) (itv:Value) (s2:Shared):Prop :=
 ∃ (it:Addr) (fp:List Addr) (tn:Nat→Heap→Prop) (J:It) (H':Hp),itv = .ref it∧Inv X pins σ H' s2∧Turn X.prog X.w X.K tg J fp it tn∧tn 0 s2.heap∧(∀ b ∈ fp,FpOk X pins H' b)∧R J H'
def PI (X:Cx) (tg iter:Expr) (wi:TI):Prop :=
 ∀ (pins:List (Addr×Obj)) (s:Shared) (σ:St) (H:Hp) (R:It→Hp→Prop),Inv X pins σ H s→wi σ H R →
  wpAny (model X.prog X.w) X.A (eval iter X.env) (fun v s1=>wpAny (model X.prog X.w) X.A (pyIter v) (PIE X pins σ tg R) X.xe s1) X.xe s
theorem go_of {M:Model}{A:Around}{E:Value→Shared→Prop}{s:Shared}{tg:Expr}{it:Addr}{u:Value}{o:Obj}{n:String}{vs:Array Value}{Q:Unit→Shared→Prop} (ho:s.heap.get? it=some o) (hc:o.cls = .type n) (hd:o.data = .fields vs)
 (hn:["enumerate","zip","dict_itemiterator","dict_reverseitemiterator","odict_iterator","itertools.zip_longest","itertools.pairwise"].contains n=false) (hQ:Q () s):wpAny M A (letOwnedTupleGo tg (.ref it) u) Q E s:=by
  unfold letOwnedTupleGo
  cases tg <;> first
   | exact wpAny_pure hQ
   | (cases u <;> first
    | exact wpAny_pure hQ
    | (refine wpAny_bind (wpAny_load ho ?_)
       rw [hc,hd]
       show wpAny M A (if (["enumerate","zip","dict_itemiterator","dict_reverseitemiterator","odict_iterator","itertools.zip_longest","itertools.pairwise"].contains n&&vs[0]?==some (rawInt _))=true then _ else _) Q E s
       rw [if_neg (by intro h;rw [hn,Bool.false_and] at h;cases h)]
       exact wpAny_pure hQ))
def Itl (K:PySem.W.Frag) (a:Addr):It :=
 ⟨fun i H => ∃ xs x,SqL K H a xs∧xs[i]?=some x,fun i H x H'=>H'=H ∧ ∀ xs,SqL K H a xs→xs[i]?=some x,fun i H => ∃ xs,SqL K H a xs∧xs.length≤i⟩
def Itt (K:PySem.W.Frag) (a:Addr):It :=
 ⟨fun i H => ∃ xs x,SqT K H a xs∧xs[i]?=some x,fun i H x H'=>H'=H ∧ ∀ xs,SqT K H a xs→xs[i]?=some x,fun i H => ∃ xs,SqT K H a xs∧xs.length≤i⟩
def Itr (lo:Int) (n:Nat):It:=⟨fun i _=>i<n,fun i H x H'=>H'=H∧x = .int (lo+i),fun i _=>n≤i⟩
theorem turn_list {P:Program}{w:World}{K:PySem.W.Frag}{tg:Expr} (a it:Addr):Turn P w K tg (Itl K a) [it] it (fun i h=>h.IsListIter it a i) where
 mem:=by simp
 obj:=fun i h st b hb=>by
  have e:b=it:=by simpa using hb
  subst e
  obtain ⟨o,e,c,d⟩:=st
  exact ⟨o,e,fun v z=>by rw [d] at z;cases z⟩
 keep:=fun i h h' st k=>st.at fun o e=>k it (by simp) o e
 item:=by
  intro X hP hw hK hc i pins s σ H E I hf st hg
  subst hP hw hK
  obtain ⟨xs,x,hq,hx⟩:=hg
  obtain ⟨its,rv,p,hz⟩:=I.list hq
  obtain ⟨u,hu,ru⟩:=rv.get hx
  obtain ⟨f0,f1,f2,f3,f4,f5⟩:=hf it (by simp)
  refine wpAny_pyNext_list_item st p.isList (x:=u) (by simpa using hu) fun h' st' sb=>?_
  have I1:Inv X pins σ H { s with heap:=h' }:=I.turned (t':=s.toks) (fun b o hb e=>(sb.2 b hb).trans e) f0 f1 f3 f4 f5
  obtain ⟨o,e,c,d⟩:=id st'
  exact ⟨u,rfl,go_of (s:={ s with heap:=h' }) e c d (by decide) ⟨x,H,I1,ru,⟨rfl,fun ys hy=>by rw [I.list_inj hy hq];exact hx⟩,st',fun b hb=>(hf b hb).1⟩⟩
 done:=by
  intro X hP hw hK hc i pins s σ H E I hf st hg
  subst hP hw hK
  obtain ⟨xs,hq,hx⟩:=hg
  obtain ⟨its,rv,p,hz⟩:=I.list hq
  obtain ⟨f0,f1,f2,f3,f4,f5⟩:=hf it (by simp)
  have hl:=rv.length
  exact wpAny_pyNext_list_end (I.ok.hd hc) st p.isList (by simp;omega) fun h' eb=>⟨rfl,I.turned (t':=s.toks) (fun b o hb e=>eb b o hb e) f0 f1 f3 f4 f5⟩
 self:=fun _ _ _ _ _ st h=>wpAny_pyIter_listiter st h
theorem turn_tuple {P:Program}{w:World}{K:PySem.W.Frag}{tg:Expr} (a it:Addr):Turn P w K tg (Itt K a) [it] it (fun i h=>h.IsTupleIter it a i) where
 mem:=by simp
 obj:=fun i h st b hb=>by
  have e:b=it:=by simpa using hb
  subst e
  obtain ⟨o,e,c,d⟩:=st
  exact ⟨o,e,fun v z=>by rw [d] at z;cases z⟩
 keep:=fun i h h' st k=>st.at fun o e=>k it (by simp) o e
 item:=by
  intro X hP hw hK hc i pins s σ H E I hf st hg
  subst hP hw hK
  obtain ⟨xs,x,hq,hx⟩:=hg
  obtain ⟨its,rv,p,hz⟩:=I.tuple hq
  obtain ⟨u,hu,ru⟩:=rv.get hx
  obtain ⟨f0,f1,f2,f3,f4,f5⟩:=hf it (by simp)
  refine wpAny_pyNext_tuple_item st (show s.heap.IsTuple a its.toArray from p) (x:=u) (by simpa using hu) fun h' st' sb=>?_
  have I1:Inv X pins σ H { s with heap:=h' }:=I.turned (t':=s.toks) (fun b o hb e=>(sb.2 b hb).trans e) f0 f1 f3 f4 f5
  obtain ⟨o,e,c,d⟩:=id st'
  exact ⟨u,rfl,go_of (s:={ s with heap:=h' }) e c d (by decide) ⟨x,H,I1,ru,⟨rfl,fun ys hy=>by rw [I.tuple_inj hy hq];exact hx⟩,st',fun b hb=>(hf b hb).1⟩⟩
 done:=by
  intro X hP hw hK hc i pins s σ H E I hf st hg
  subst hP hw hK
  obtain ⟨xs,hq,hx⟩:=hg
  obtain ⟨its,rv,p,hz⟩:=I.tuple hq
  obtain ⟨f0,f1,f2,f3,f4,f5⟩:=hf it (by simp)
  have hl:=rv.length
  exact wpAny_pyNext_tuple_end (I.ok.hd hc) st (show s.heap.IsTuple a its.toArray from p) (by simp;omega) fun h' eb=>⟨rfl,I.turned (t':=s.toks) (fun b o hb e=>eb b o hb e) f0 f1 f3 f4 f5⟩
 self:=fun _ _ _ _ _ st h=>wpAny_pyIter_tupleiter st h
theorem turn_range {P:Program}{w:World}{K:PySem.W.Frag}{tg:Expr} (it:Addr) (lo:Int) (n:Nat):Turn P w K tg (Itr lo n) [it] it (fun i h=>IsRangeIter h it (lo+(i:Nat)*1) ((n:Int)-(i:Nat)) 1) where
 mem:=by simp
 obj:=fun i h st b hb=>by
  have e:b=it:=by simpa using hb
  subst e
  exact ⟨_,st,fun v z=>by
   have z':Data.fields _=Data.cell v:=z
   cases z'⟩
 keep:=fun i h h' st k=>k it (by simp) _ st
 item:=by
  intro X hP hw hK hc i pins s σ H E I hf st hg
  subst hP hw hK
  obtain ⟨f0,f1,f2,f3,f4,f5⟩:=hf it (by simp)
  have W:=Walks.range (prog:=X.prog) (w:=X.w) (I.ok.hd hc) it lo 1 n
  refine W.item i s _ _ hg st fun v h' tk hv st' kk=>?_
  obtain ⟨t,rfl⟩:=hv
  have I1:Inv X pins σ H { s with heap:=h',toks:=tk }:=I.turned (fun b o hb e=>kk b o (by simpa using hb) e) f0 f1 f3 f4 f5
  refine ⟨_,rfl,go_of (s:={ s with heap:=h',toks:=tk }) (n := "range_iterator") st' rfl rfl (by decide) ⟨.int (lo+i),H,I1,⟨t,?_⟩,⟨rfl,rfl⟩,st',fun b hb=>(hf b hb).1⟩⟩
  rw [Int.mul_one]
 done:=by
  intro X hP hw hK hc i pins s σ H E I hf st hg
  subst hP hw hK
  obtain ⟨f0,f1,f2,f3,f4,f5⟩:=hf it (by simp)
  exact wpAny_pyNext_range_end (I.ok.hd hc) st (by have:n≤i:=hg;omega) fun h' eb=>⟨rfl,I.turned (t':=s.toks) (fun b o hb e=>eb b o hb e) f0 f1 f3 f4 f5⟩
 self:=fun _ _ _ _ _ st h=>wpAny_pyIter_rangeiter st h
end L2
namespace L2
open PySem PySem.Spec PyProof.Rows
section
variable {X:Cx}{tg:Expr}
theorem range_it {pins:List (Addr×Obj)}{σ:St}{H:Hp}{s:Shared}{R:It→Hp→Prop}{E:Value→Shared→Prop}{lo hi:Int}{t u v:Tok}{tk:Nat} (I:Inv X pins σ H s) (h1 : -(2^62)≤lo) (h2:lo<2^62) (h3 : -(2^62)≤hi) (h4:hi<2^62)
 (q:R (Itr lo (hi-lo).toNat) H):wpAny (model X.prog X.w) X.A (pyIter (.ref s.heap.objs.size)) (PIE X pins σ tg R) E { s with heap:=s.heap.push { cls :=.type "range",data :=.fields #[.int lo t,.int hi u,.int 1 v] },toks:=tk }:=by
  refine wpAny_pyIter_range (IsRange.new ..) (small_one h1 h2 h3 h4) ?_
  have I1:Inv X pins σ H { s with heap:=s.heap.push { cls :=.type "range",data :=.fields #[.int lo t,.int hi u,.int 1 v] },toks:=tk }:=I.kept fun b o e=>Heap.get?_push_of_some _ e
  refine ⟨(s.heap.push { cls :=.type "range",data :=.fields #[.int lo t,.int hi u,.int 1 v] }).objs.size,[(s.heap.push { cls :=.type "range",data :=.fields #[.int lo t,.int hi u,.int 1 v] }).objs.size],_,_,H,rfl,
   I1.kept (t':=tk) fun b o e=>Heap.get?_push_of_some _ e,turn_range _ lo (hi-lo).toNat,?_,fun b hb=>?_,q⟩
  ·have e1:lo+((0:Nat):Int)*1=lo:=by simp
   have e2:(((hi-lo).toNat:Nat):Int)-((0:Nat):Int)=Builtin.Range.rangeSize lo hi 1:=by rw [rangeSize_one];split <;> omega
   show IsRangeIter _ _ (lo+((0:Nat):Int)*1) ((((hi-lo).toNat:Nat):Int)-((0:Nat):Int)) 1
   rw [e1,e2]
   exact Heap.get?_push_size _ rfl
  ·have e:b=(s.heap.push { cls :=.type "range",data :=.fields #[.int lo t,.int hi u,.int 1 v] }).objs.size:=by simpa using hb
   subst e
   exact I1.fpOk (Nat.le_refl _) (I1.hok.fresh (Nat.le_refl _))
def iRng1 (ta:TA):TI:=fun σ H R=>ta σ H fun vs H1 => ∃ j:Int,vs=[.int j] ∧ -(2^62)≤j∧j<2^62∧R (Itr 0 j.toNat) H1
theorem pi_range1 {a:Expr}{ta:TA}{p pos:Pos} (hg:Gl X "range") (hm:X.mg "range" = none) (ha:PA X [a] ta) (hs:starEach [a] X.env=[(false,eval a X.env)]:=by rfl):PI X tg (.Call (.Name "range" p) [a] [] pos) (iRng1 ta):=by
 intro pins s σ H R I h
 refine Call_ (ld_blt I hg hm boot_range (PyProof.Rows.callWith_type1 (thn (ha pos pins s σ H _ I h) fun us s1 xx16=>?_) hs rfl))
 obtain ⟨vs,H1,I1,r1,q1⟩:=xx16
 obtain ⟨j,e,q1,q2,q⟩:=q1
 subst e
 cases r1 with
 | cons r rr =>
  cases rr
  obtain ⟨t,rfl⟩:=r
  exact call_range_1 (range_it I1 (by omega) (by omega) q1 q2 (by simpa using q))
def tFor (wi:TI) (g:TG) (tb:TS):TS:=fun D σ H=>wi σ H fun J H1 => ∃ W:Nat→Nat→St→Hp→Prop,(∃ m,W 0 m σ H1) ∧ ∀ i m σ H,W i m σ H →
 (J.stop i H∧D.nx σ H)∨(J.go i H ∧ ∃ N:St→Hp→Prop,(∀ σ' H',N σ' H' → ∃ m',m'<m∧W (i+1) m' σ' H') ∧ ∀ x H',J.yld i H x H'→g x σ H' fun σ2 H2=>tb { D with nx:=N,ct:=N,bk:=D.nx } σ2 H2)
def pinsAt (fp:List Addr) (h:Heap):List (Addr×Obj):=fp.filterMap fun b=>(h.get? b).map fun o=>(b,o)
theorem mem_pinsAt {fp:List Addr}{h:Heap}{b:Addr}{o:Obj} (hb:b ∈ fp) (e:h.get? b=some o):(b,o) ∈ pinsAt fp h:=List.mem_filterMap.mpr ⟨b,hb,by rw [e];rfl⟩
theorem of_pinsAt {fp:List Addr}{h:Heap}{p:Addr×Obj} (hp:p ∈ pinsAt fp h):p.1 ∈ fp∧h.get? p.1=some p.2:=by
 obtain ⟨b,hb,e⟩:=List.mem_filterMap.mp hp
 cases q:h.get? b with
 | none=>rw [q] at e;cases e
 | some o =>
  rw [q] at e
  have e':(b,o)=p:=Option.some.inj e
  subst e'
  exact ⟨hb,q⟩
theorem Inv.pinned {pins:List (Addr×Obj)}{σ:St}{H:Hp}{s:Shared}{fp:List Addr} (I:Inv X pins σ H s) (hf : ∀ b ∈ fp,FpOk X pins H b) (ho : ∀ b ∈ fp,∃ o,s.heap.get? b=some o ∧ ∀ v,o.data ≠ .cell v):Inv X (pins++pinsAt fp s.heap) σ H s :=
 I.pins_of fun p hp=>(List.mem_append.mp hp).elim (fun z=>I.pin p (List.mem_append_right _ z)) fun z=>by
  obtain ⟨hb,e⟩:=of_pinsAt z
  obtain ⟨f0,f1,f2,_⟩:=hf p.1 hb
  obtain ⟨o,e',d⟩:=ho p.1 hb
  rw [e] at e';cases e'
  exact ⟨e,f0,f1,f2,d⟩
theorem Inv.unpinned {pins pl:List (Addr×Obj)}{σ:St}{H:Hp}{s:Shared} (I:Inv X (pins++pl) σ H s):Inv X pins σ H s:=I.pins_of fun p hp=>I.pin p (List.mem_append_right _ (List.mem_append_left _ hp))
theorem ps_for {iter:Expr}{body:List Stmt}{wi:TI}{g:TG}{tb:TS}{pos:Pos} (hp:PassesOwn (model X.prog X.w) X.A X.env X.xe) (hc:X.calm=true) (hi:PI X tg iter wi) (hg:PG X tg g) (hb:PSs X body tb)
 (hs : ∀ x,foldedSetIterable iter X.env x=pure x:=by intro _;rfl):PS X (.For tg iter body [] pos) (tFor wi g tb):=by
  intro pins s σ H D I h
  refine wpAny_For (thn (hi pins s σ H _ I h) fun v s1 h1=>thn h1 fun itv s2 h2=>?_) hs
  obtain ⟨it,fp,tn,J,H2,e,I2,T,st2,f2,W,⟨m0,w0⟩,turn⟩:=h2
  subst e
  have stat : ∀ {H':Hp},(∀ b ∈ fp,H' b=none) → ∀ b ∈ fp,FpOk X pins H' b:=fun hn b hb=>⟨hn b hb,(f2 b hb).2⟩
  refine codeAny_forLoop_any (fun n s' => ∃ i σ' H',Inv X pins σ' H' s'∧tn i s'.heap∧(∀ b ∈ fp,H' b=none)∧W i n σ' H') ?_ m0 ⟨0,σ,H2,I2,st2,fun b hb=>(f2 b hb).1,w0⟩
  rintro n s3 ⟨i,σ3,H3,I3,st3,fr3,w3⟩
  rcases turn i n σ3 H3 w3 with ⟨stop,qn⟩|⟨go,N,hN,step⟩
  ·refine wpAny_passesOwn hp (thn (T.done X rfl rfl rfl hc i pins s3 σ3 H3 X.xe I3 (stat fr3) st3 stop) fun r s4 xx20=>?_)
   obtain ⟨hr,I4⟩:=xx20
   subst hr
   exact wpAny_execs_nil ⟨σ3,H3,I4,qn⟩
  ·refine wpAny_passesOwn hp (thn (T.item X rfl rfl rfl hc i pins s3 σ3 H3 X.xe I3 (stat fr3) st3 go) fun r s4 xx19=>?_)
   obtain ⟨u,hr,h4⟩:=xx19
   subst hr
   refine wpAny_passesOwn hp (thn h4 fun _ s5 xx18=>?_)
   obtain ⟨x,H5,I5,r5,y5,st5,fr5⟩:=xx18
   have I5':=I5.pinned (stat fr5) (T.obj _ _ st5)
   refine wpAny_passesOwn hp (thn (hg _ s5 σ3 H5 x u _ I5' r5 (step x H5 y5)) fun _ s6 xx17=>?_)
   obtain ⟨σ6,H6,I6,q6⟩:=xx17
   refine wpAny_passesOwn hp (thn (hb _ s6 σ6 H6 _ I6 q6) fun f s7 q7=>?_)
   have again : ∀ {σ7:St}{H7:Hp},Inv X (pins++pinsAt fp s5.heap) σ7 H7 s7→N σ7 H7 → ∃ m,m<n ∧ ∃ i σ' H',Inv X pins σ' H' s7∧tn i s7.heap∧(∀ b ∈ fp,H' b=none)∧W i m σ' H':=fun {σ7 H7} I7 n7=>by
    obtain ⟨m',hm,w7⟩:=hN σ7 H7 n7
    refine ⟨m',hm,i+1,σ7,H7,I7.unpinned,T.keep _ _ _ st5 fun b hb o e=>(I7.pin (b,o) (List.mem_append_right _ (List.mem_append_right _ (mem_pinsAt hb e)))).1,fun b hb=>?_,w7⟩
    obtain ⟨o,e,d⟩:=T.obj _ _ st5 b hb
    exact (I7.pin (b,o) (List.mem_append_right _ (List.mem_append_right _ (mem_pinsAt hb e)))).2.1
   cases f with
   | next=>obtain ⟨σ7,H7,I7,n7⟩:=q7;exact again I7 n7
   | cont=>obtain ⟨σ7,H7,I7,n7⟩:=q7;exact again I7 n7
   | brk=>obtain ⟨σ7,H7,I7,q7⟩:=q7;exact ⟨σ7,H7,I7.unpinned,q7⟩
   | ret v=>obtain ⟨x7,σ7,H7,I7,r7,q7⟩:=q7;exact ⟨x7,σ7,H7,I7.unpinned,r7,q7⟩
end
end L2
namespace L2
open PySem PySem.Spec PyProof.Rows
abbrev R2:=V→V→Hp→VK→Prop
def OpR (X:Cx) (f:Value→Value→Sem Value) (r:R2):Prop :=
 ∀ (pins:List (Addr×Obj)) (s:Shared) (σ:St) (H:Hp) (x y:V) (v u:Value) (Q:VK),Inv X pins σ H s→RelV x v→RelV y u→r x y H Q →
  wpAny (model X.prog X.w) X.A (f v u) (EP X pins σ Q) X.xe s
def UnR (X:Cx) (f:Value→Sem Value) (r:V→Hp→VK→Prop):Prop :=
 ∀ (pins:List (Addr×Obj)) (s:Shared) (σ:St) (H:Hp) (x:V) (v:Value) (Q:VK),Inv X pins σ H s→RelV x v→r x H Q →
  wpAny (model X.prog X.w) X.A (f v) (EP X pins σ Q) X.xe s
def CallR (X:Cx) (f:Value) (r:List V→Hp→VK→Prop):Prop :=
 ∀ (pins:List (Addr×Obj)) (s:Shared) (σ:St) (H:Hp) (xs:List V) (us:List Value) (Q:VK),Inv X pins σ H s→Vals xs us→r xs H Q →
  wpAny (model X.prog X.w) X.A (call f us) (EP X pins σ Q) X.xe s
def tOp (r:R2) (ta tb:TE):TE:=fun σ H Q=>ta σ H fun x H1=>tb σ H1 fun y H2=>r x y H2 Q
def tUn (r:V→Hp→VK→Prop) (ta:TE):TE:=fun σ H Q=>ta σ H fun x H1=>r x H1 Q
def rI (C:Int→Int→Prop) (g:Int→Int→V):R2:=fun x y H Q => ∃ i j,x = .int i∧y = .int j∧C i j∧Q (g i j) H
def rI0 (g:Int→Int→V):R2:=fun x y H Q => ∃ i j,x = .int i∧y = .int j∧Q (g i j) H
def rU (g:Int→V):V→Hp→VK→Prop:=fun x H Q => ∃ i,x = .int i∧Q (g i) H
section
variable {X:Cx}{a b c:Expr}{ta tb tc:TE}{pos:Pos}
theorem binT (ha:PE X a ta) (hb:PE X b tb) {pins:List (Addr×Obj)}{s:Shared}{σ:St}{H:Hp}{R:V→V→Hp→Prop} (I:Inv X pins σ H s)
 (h:ta σ H fun x H1=>tb σ H1 fun y H2=>R x y H2) {Q:Value→Shared→Prop}{f:Value→Value→Sem Value}
 (hf : ∀ v u s2 x y H2,Inv X pins σ H2 s2→RelV x v→RelV y u→R x y H2→wpAny (model X.prog X.w) X.A (f v u) Q X.xe s2) :
 wpAny (model X.prog X.w) X.A (eval a X.env) (fun v s₁=>wpAny (model X.prog X.w) X.A (eval b X.env) (fun u s₂=>wpAny (model X.prog X.w) X.A (f v u) Q X.xe s₂) X.xe s₁) X.xe s:=by
  refine thn (ha pins s σ H _ I h) fun v s1 xx22=>?_
  obtain ⟨x,H1,I1,r1,q1⟩:=xx22
  refine thn (hb pins s1 σ H1 _ I1 q1) fun u s2 xx21=>?_
  obtain ⟨y,H2,I2,r2,q2⟩:=xx21
  exact hf v u s2 x y H2 I2 r1 r2 q2
theorem pe_op {op:Operator}{r:R2} (ho:OpR X (binaryOp op) r) (ha:PE X a ta) (hb:PE X b tb):PE X (.BinOp a op b pos) (tOp r ta tb):=by
 intro pins s σ H Q I h
 exact wpAny_BinOp (binT ha hb I h fun v u s2 x y H2 I2 rx ry q=>ho pins s2 σ H2 x y v u Q I2 rx ry q)
theorem pe_un {op:UnaryOp}{r:V→Hp→VK→Prop} (ho:UnR X (unaryOp op) r) (ha:PE X a ta):PE X (.UnaryOp op a pos) (tUn r ta):=by
 intro pins s σ H Q I h
 exact UnaryOp_ (thn (ha pins s σ H _ I h) fun v s1 xx23=>by obtain ⟨x,H1,I1,r1,q1⟩:=xx23;exact ho pins s1 σ H1 x v Q I1 r1 q1)
theorem opI {f:Value→Value→Sem Value}{C:Int→Int→Prop}{g:Int→Int→Int}
 (rule : ∀ (i j:Int) (t u:Tok) (s:Shared) (Q:Value→Shared→Prop) (E:Value→Shared→Prop),C i j→Q (.int (g i j) s.toks) { s with toks:=s.toks+1 }→wpAny (model X.prog X.w) X.A (f (.int i t) (.int j u)) Q E s) :
  OpR X f (rI C fun i j => .int (g i j)):=by
  intro pins s σ H x y v u Q I rx ry h
  obtain ⟨i,j,rfl,rfl,hc,q⟩:=h
  obtain ⟨t,rfl⟩:=rx
  obtain ⟨t',rfl⟩:=ry
  exact rule i j t t' s _ _ hc ⟨.int (g i j),H,I.tok _,⟨_,rfl⟩,q⟩
theorem opI0 {f:Value→Value→Sem Value}{g:Int→Int→Int}
 (rule : ∀ (i j:Int) (t u:Tok) (s:Shared) (Q:Value→Shared→Prop) (E:Value→Shared→Prop),Q (.int (g i j) s.toks) { s with toks:=s.toks+1 }→wpAny (model X.prog X.w) X.A (f (.int i t) (.int j u)) Q E s) :
  OpR X f (rI0 fun i j => .int (g i j)):=by
  intro pins s σ H x y v u Q I rx ry h
  obtain ⟨i,j,rfl,rfl,q⟩:=h
  obtain ⟨t,rfl⟩:=rx
  obtain ⟨t',rfl⟩:=ry
  exact rule i j t t' s _ _ ⟨.int (g i j),H,I.tok _,⟨_,rfl⟩,q⟩
theorem opB0 {f:Value→Value→Sem Value}{g:Int→Int→Bool}
 (rule : ∀ (i j:Int) (t u:Tok) (s:Shared) (Q:Value→Shared→Prop) (E:Value→Shared→Prop),Q (.bool (g i j)) s→wpAny (model X.prog X.w) X.A (f (.int i t) (.int j u)) Q E s) :
 OpR X f (rI0 fun i j => .bl (g i j)):=by
  intro pins s σ H x y v u Q I rx ry h
  obtain ⟨i,j,rfl,rfl,q⟩:=h
  obtain ⟨t,rfl⟩:=rx
  obtain ⟨t',rfl⟩:=ry
  exact rule i j t t' s _ _ ⟨.bl (g i j),H,I,rfl,q⟩
theorem op_add:OpR X (binaryOp .Add) (rI0 fun i j => .int (i+j)):=opI0 fun _ _ _ _ _ _ _ q=>add_int q
theorem op_sub:OpR X (binaryOp .Sub) (rI0 fun i j => .int (i-j)):=opI0 fun _ _ _ _ _ _ _ q=>sub_int q
theorem op_mod:OpR X (binaryOp .Mod) (rI (fun _ j=>0<j) fun i j => .int (i%j)):=opI fun i j _ _ _ _ _ hc q=>by
 have h1:(0:Int)<j:=hc
 exact mod_int' (by omega) (by rw [Int.fmod_eq_emod_of_nonneg i (by omega)];exact q)
theorem unI {f:Value→Sem Value}{g:Int→Int}
 (rule : ∀ (i:Int) (t:Tok) (s:Shared) (Q:Value→Shared→Prop) (E:Value→Shared→Prop),Q (.int (g i) s.toks) { s with toks:=s.toks+1 }→wpAny (model X.prog X.w) X.A (f (.int i t)) Q E s) :
  UnR X f (rU fun i => .int (g i)):=by
  intro pins s σ H x v Q I rx h
  obtain ⟨i,rfl,q⟩:=h
  obtain ⟨t,rfl⟩:=rx
  exact rule i t s _ _ ⟨.int (g i),H,I.tok _,⟨_,rfl⟩,q⟩
theorem un_neg:UnR X (unaryOp .USub) (rU fun i => .int (-i)):=unI fun _ _ _ _ _ q=>neg_int q
end
section
variable {X:Cx}{a b c:Expr}{ta tb tc:TE}{pos:Pos}
theorem fin_bl {pins:List (Addr×Obj)}{σ:St}{H:Hp}{s:Shared}{Q:VK}{k k':Bool} (I:Inv X pins σ H s) (q:Q (.bl k) H) (e:k=k'):EP X pins σ Q (.bool k') s:=by
 subst e
 exact ⟨.bl k,H,I,rfl,q⟩
theorem op_lt:OpR X (compareOp .Lt) (rI0 fun i j => .bl (decide (i<j))):=opB0 fun _ _ _ _ _ _ _ q=>lt_int q
theorem op_le:OpR X (compareOp .LtE) (rI0 fun i j => .bl (decide (i≤j))):=opB0 fun _ _ _ _ _ _ _ q=>le_int q
theorem op_gt:OpR X (compareOp .Gt) (rI0 fun i j => .bl (decide (j<i))):=opB0 fun _ _ _ _ _ _ _ q=>gt_int q
theorem op_ge:OpR X (compareOp .GtE) (rI0 fun i j => .bl (decide (j≤i))):=opB0 fun _ _ _ _ _ _ _ q=>ge_int q
theorem op_isN:OpR X (compareOp .Is) (fun x y H Q=>y = .non∧Q (.bl (decide (x = .non))) H):=by
 intro pins s σ H x y v u Q I rx ry h
 obtain ⟨rfl,q⟩:=h
 cases ry
 refine is_none_gen (fin_bl I q ?_)
 cases x <;> first
  | (cases rx;rfl)
  | (obtain ⟨t,rfl⟩:=rx;rfl)
theorem nomark (b:Expr) {op:CmpOp} (h:op ≠ .In:=by decide) (h2:op ≠ .NotIn:=by decide):behindInMarks op b=false:=by
 have e1:(op==CmpOp.In)=false:=by cases op <;> first|rfl|exact absurd rfl h
 have e2:(op==CmpOp.NotIn)=false:=by cases op <;> first|rfl|exact absurd rfl h2
 cases b <;> simp [behindInMarks,e1,e2]
theorem pe_cmpR {op:CmpOp}{r:R2} (ho:OpR X (compareOp op) r) (ha:PE X a ta) (hb:PE X b tb) (hm:behindInMarks op b=false):PE X (.Compare a [op] [b] pos) (tOp r ta tb):=by
 intro pins s σ H Q I h
 exact wpAny_Compare1 (binT ha hb I h fun v u s2 x y H2 I2 rx ry q=>ho pins s2 σ H2 x y v u Q I2 rx ry q) hm
def tTest (t:TE):TT:=fun σ H Q=>t σ H fun x H' => ∃ k,x = .bl k∧Q k H'
theorem pt_cmpR {op:CmpOp}{r:R2} (ho:OpR X (compareOp op) r) (ha:PE X a ta) (hb:PE X b tb) (hm:behindInMarks op b=false):PT X (.Compare a [op] [b] pos) (tTest (tOp r ta tb)):=by
 intro pins s σ H Q I h
 refine wpAny_isTrue_Compare1 (thn (ha pins s σ H _ I h) fun v s1 ⟨x,H1,I1,r1,q1⟩=>thn (hb pins s1 σ H1 _ I1 q1) fun u s2 ⟨y,H2,I2,r2,q2⟩ =>
  thn (ho pins s2 σ H2 x y v u _ I2 r1 r2 q2) fun c s3 ⟨z,H3,I3,r3,k,e,q3⟩=>?_) hm
 subst e
 cases r3
 exact wpAny_truthy_bool ⟨H3,I3,q3⟩
def tChain (r r':R2) (ta tb tc:TE):TE:=fun σ H Q=>ta σ H fun x H1=>tb σ H1 fun y H2=>r x y H2 fun z H3 => ∃ k,z = .bl k ∧
 (if k=true then tc σ H3 fun w' H4=>r' y w' H4 Q else Q (.bl false) H3)
theorem pe_chain {op op':CmpOp}{r r':R2} (ho:OpR X (compareOp op) r) (ho':OpR X (compareOp op') r') (ha:PE X a ta) (hb:PE X b tb) (hc:PE X c tc)
 (hm:lastMarks [op,op'] [b,c]=false:=by with_unfolding_all rfl):PE X (.Compare a [op,op'] [b,c] pos) (tChain r r' ta tb tc):=by
  intro pins s σ H Q I h
  refine Compare_chain (thn (ha pins s σ H _ I h) fun v s1 ⟨x,H1,I1,r1,q1⟩=>chain_link (thn (hb pins s1 σ H1 _ I1 q1) fun u s2 ⟨y,H2,I2,r2,q2⟩ =>
   thn (ho pins s2 σ H2 x y v u _ I2 r1 r2 q2) fun d s3 ⟨z,H3,I3,r3,k,e,q3⟩=>?_)) hm
  subst e
  cases r3
  refine wpAny_truthy_bool ?_
  cases k with
  | false=>exact ite_ff ⟨.bl false,H3,I3,rfl,q3⟩
  | true=>exact ite_tt (chain_last (thn (hc pins s3 σ H3 _ I3 q3) fun w' s4 xx27=>by obtain ⟨z',H4,I4,r4,q4⟩:=xx27;exact ho' pins s4 σ H4 y z' u w' Q I4 r2 r4 q4))
theorem pt_chain {op op':CmpOp}{r r':R2} (ho:OpR X (compareOp op) r) (ho':OpR X (compareOp op') r') (ha:PE X a ta) (hb:PE X b tb) (hc:PE X c tc)
 (hm:lastMarks [op,op'] [b,c]=false:=by with_unfolding_all rfl):PT X (.Compare a [op,op'] [b,c] pos) (tTest (tChain r r' ta tb tc)):=by
  intro pins s σ H Q I h
  refine isTrue_chain (thn (ha pins s σ H _ I h) fun v s1 ⟨x,H1,I1,r1,q1⟩=>test_link (thn (hb pins s1 σ H1 _ I1 q1) fun u s2 ⟨y,H2,I2,r2,q2⟩ =>
   thn (ho pins s2 σ H2 x y v u _ I2 r1 r2 q2) fun d s3 ⟨z,H3,I3,r3,k,e,q3⟩=>?_)) hm
  subst e
  cases r3
  refine wpAny_truthy_bool ?_
  cases k with
  | false =>
   obtain ⟨k',e',q'⟩:=q3
   cases e'
   exact ite_ff ⟨H3,I3,q'⟩
  | true =>
   refine ite_tt (test_last (thn (hc pins s3 σ H3 _ I3 q3) fun w' s4 ⟨z',H4,I4,r4,q4⟩=>thn (ho' pins s4 σ H4 y z' u w' _ I4 r2 r4 q4) fun d' s5 xx31=>?_))
   obtain ⟨z2,H5,I5,r5,k2,e2,q5⟩:=xx31
   subst e2
   cases r5
   exact wpAny_truthy_bool ⟨H5,I5,q5⟩
theorem line63:(sizeLine:Nat)<2^63:=by rw [sizeLine_eq];decide
theorem op_add_str:OpR X (binaryOp .Add) (fun x y H Q => ∃ i j,x = .str i∧y = .str j∧i.length+j.length≤sizeLine∧Q (.str (i++j)) H):=by
 intro pins s σ H x y v u Q I rx ry h
 obtain ⟨i,j,rfl,rfl,hz,q⟩:=h
 obtain ⟨t,rfl⟩:=rx
 obtain ⟨t',rfl⟩:=ry
 exact add_str (fun t' tk=>⟨.str (i++j),H,I.tok _,⟨_,rfl⟩,q⟩) hz
theorem vals1 {x:V}{us:List Value} (r:Vals [x] us) : ∃ u,us=[u]∧RelV x u:=by
 cases r with
 | cons r1 r2=>cases r2;exact ⟨_,rfl,r1⟩
theorem vals2 {x y:V}{us:List Value} (r:Vals [x,y] us) : ∃ u w',us=[u,w']∧RelV x u∧RelV y w':=by
 cases r with
 | cons r1 r2 =>
  cases r2 with
  | cons r3 r4=>cases r4;exact ⟨_,_,rfl,r1,r3⟩
theorem call_abs:CallR X (.builtin "abs") (fun xs H Q => ∃ i,xs=[.int i]∧Q (.int (if i<0 then -i else i)) H):=by
 intro pins s σ H xs us Q I r h
 obtain ⟨i,rfl,q⟩:=h
 obtain ⟨u,rfl,t,rfl⟩:=vals1 r
 exact call_abs_int fun u tk=>⟨.int (if i<0 then -i else i),H,I.tok _,⟨_,rfl⟩,q⟩
theorem call_max2 (hc:X.calm=true):CallR X (.builtin "max") (fun xs H Q => ∃ i j,xs=[.int i,.int j]∧Q (.int (if j>i then j else i)) H):=by
 intro pins s σ H xs us Q I r h
 obtain ⟨i,j,rfl,q⟩:=h
 obtain ⟨u,w',rfl,⟨t,rfl⟩,⟨t',rfl⟩⟩:=vals2 r
 refine max_two_ints (I.ok.hd hc) fun h' tk k=>⟨_,H,I.kept k,?_,q⟩
 by_cases hj:j>i
 ·rw [if_pos hj,if_pos hj];exact ⟨_,rfl⟩
 ·rw [if_neg hj,if_neg hj];exact ⟨_,rfl⟩
theorem call_min2 (hc:X.calm=true):CallR X (.builtin "min") (fun xs H Q => ∃ i j,xs=[.int i,.int j]∧Q (.int (if j<i then j else i)) H):=by
 intro pins s σ H xs us Q I r h
 obtain ⟨i,j,rfl,q⟩:=h
 obtain ⟨u,w',rfl,⟨t,rfl⟩,⟨t',rfl⟩⟩:=vals2 r
 refine min_two_ints (I.ok.hd hc) fun h' tk k=>⟨_,H,I.kept k,?_,q⟩
 by_cases hj:j<i
 ·rw [if_pos hj,if_pos hj];exact ⟨_,rfl⟩
 ·rw [if_neg hj,if_neg hj];exact ⟨_,rfl⟩
theorem call_int1:CallR X (.type "int") (fun xs H Q=>(∃ i,xs=[.int i]∧Q (.int i) H) ∨ ∃ k,xs=[.bl k]∧Q (.int (if k then 1 else 0)) H):=by
 intro pins s σ H xs us Q I r h
 rcases h with ⟨i,rfl,q⟩|⟨k,rfl,q⟩
 ·obtain ⟨u,rfl,t,rfl⟩:=vals1 r
  exact call_int_int ⟨.int i,H,I,⟨_,rfl⟩,q⟩
 ·obtain ⟨u,rfl,r1⟩:=vals1 r
  cases r1
  exact call_int_bool ⟨.int (if k then 1 else 0),H,I.tok _,⟨_,rfl⟩,q⟩
end
end L2
namespace L2
open PySem PySem.Spec PyProof.Rows
section
variable {prog:Program}{w:World}{A:Around}{E:Value→Shared→Prop}{s:Shared}{K:PySem.W.Frag}{x dx C f:Addr}{mA:Str→Option Value}{name:Str}{v:Value}
end
section
variable {P:Program}{w:World}{H H':Hp}{h h':Heap}{a C dx:Addr}{fs fs':List (Str×V)}
end
section
variable {X:Cx}{pins:List (Addr×Obj)}{σ:St}{H:Hp}{s:Shared}{a C dx:Addr}{fs:List (Str×V)}{f:Str}{v:V}{A:Around}{E:Value→Shared→Prop}
end
section
variable {X:Cx}{o e value:Expr}{f:Str}{pos pos' tpos:Pos}{ta tv:TE}
end
section
variable {X:Cx}{pins:List (Addr×Obj)}{σ:St}{H:Hp}{s:Shared}{A:Around}{E:Value→Shared→Prop}{Q:Value→Shared→Prop}{c:Value}{b:Bool}
end
end L2
namespace L2
open PySem PySem.Spec PyProof.Rows
structure Room (k:Nat) (A:Around):Prop where
 hd:A.handled=none
 dp:A.depth+3*k+5<recursionLimit
 un:A.units+16*k+200<cLine
theorem Room.mono {j k:Nat}{A:Around} (r:Room k A) (h:j≤k):Room j A:=⟨r.hd,by have:=r.dp;omega,by have:=r.un;omega⟩
theorem Room.deeper {k:Nat}{A:Around} (r:Room (k+1) A) (env:Env):Room k (A.deeper env) :=
 ⟨r.hd,by have:=r.dp;show A.depth+1+3*k+5<_;omega,by have:=r.un;show A.units+3+16*k+200<_;omega⟩
theorem Room.depth {k:Nat}{A:Around} (r:Room k A):A.depth<recursionLimit:=by have:=r.dp;omega
theorem Room.units {k:Nat}{A:Around} (r:Room k A):A.units+64<cLine:=by have:=r.un;omega
def tNil:TA:=fun _ H Q=>Q [] H
def tCons (ta:TE) (tr:TA):TA:=fun σ H Q=>ta σ H fun x H1=>tr σ H1 fun xs H2=>Q (x::xs) H2
section
variable {X:Cx}{e:Expr}{es:List Expr}{te:TE}{t:TA}{pos:Pos}
theorem pa_nil:PA X [] tNil:=fun _ _ _ _ H Q I h=>Calls.spliced_nil ⟨[],H,I,.nil,h⟩
theorem pa_cons (ha:PE X e te) (hr:PA X es t) (hs:starEach (e::es) X.env=(false,eval e X.env)::starEach es X.env:=by rfl):PA X (e::es) (tCons te t):=by
 intro pos pins s σ H Q I h
 rw [hs]
 show wpAny _ _ (spliced ((false,eval e X.env)::backTo pos (starEach es X.env))) _ _ s
 refine Calls.spliced_cons (thn (ha pins s σ H _ I h) fun u s1 xx37=>?_)
 obtain ⟨x,H1,I1,r1,q1⟩:=xx37
 exact thn (hr pos pins s1 σ H1 _ I1 q1) fun us s2 xx36=>by obtain ⟨xs,H2,I2,r2,q2⟩:=xx36;exact ⟨x::xs,H2,I2,.cons r1 r2,q2⟩
def tTup (t:TA):TE:=fun σ H Q=>t σ H fun xs H1=>xs.length≤sizeLine ∧ ∀ p,H1 p=none→Q (.ref p) (upd H1 p (.tup xs))
def tLst (t:TA):TE:=fun σ H Q=>t σ H fun xs H1=>xs.length≤sizeLine ∧ ∀ p,H1 p=none→Q (.ref p) (upd H1 p (.lst xs))
theorem pe_tup {x1} (h:PA X es t):PE X (.Tuple es x1 pos) (tTup t):=by
 intro pins s σ H Q I hq
 refine wpAny_Tuple_spliced (thn (h pos pins s σ H _ I hq) fun us s1 ⟨xs,H1,I1,r,z,q⟩=>⟨by rw [← r.length];exact z,?_⟩)
 have hf:H1 s1.heap.objs.size=none:=I1.hok.fresh (Nat.le_refl _)
 refine ⟨.ref s1.heap.objs.size,upd H1 s1.heap.objs.size (.tup xs),I1.laid (t':=s1.toks) (fun b u e=>Heap.get?_push_of_some _ e) (Nat.le_refl _) ?_,rfl,q _ hf⟩
 exact ⟨z,us,r,⟨_,Heap.get?_push_size _ rfl,rfl,_,rfl⟩⟩
theorem pe_lst (h:PA X es t):PE X (.List es pos) (tLst t):=by
 intro pins s σ H Q I hq
 refine wpAny_List_spliced (thn (h pos pins s σ H _ I hq) fun us s1 ⟨xs,H1,I1,r,z,q⟩=>⟨by rw [← r.length];exact z,?_⟩)
 have hf:H1 s1.heap.objs.size=none:=I1.hok.fresh (Nat.le_refl _)
 refine ⟨.ref s1.heap.objs.size,upd H1 s1.heap.objs.size (.lst xs),I1.laid (t':=s1.toks) (fun b u e=>Heap.get?_push_of_some _ e) (Nat.le_refl _) ?_,rfl,q _ hf⟩
 exact ⟨z,us,0,r,Heap.get?_push_size _ rfl⟩
end
abbrev Sp:=List V→Hp→VK→XK→Prop
abbrev CXT:=List Env→Hp→Shared→XK→Value→Shared→Prop
structure Env0 (P:Program) (w:World) (K:PySem.W.Frag) (mg:Str→Option Value) (base:Heap) (A:Around) (outer:List Env) (s:Shared) (H:Hp):Prop where
 frames:A.frames=some outer
 mod:Mod K mg base
 bs : ∀ b o,base.get? b=some o→s.heap.get? b=some o∧H b=none
 bsz:base.objs.size≤s.heap.objs.size
 funs:s.heap.FunFrames base outer
 frf : ∀ b ∈ frs outer,H b=none
 hok:HOk P w H s.heap
 bare:AllBare s.gens
def CE (outer:List Env) (P:Program) (w:World) (H:Hp) (s:Shared) (Q:VK) (u:Value) (s':Shared):Prop :=
 ∃ v H',s'.os=s.os∧AllBare s'.gens∧Un (frs outer) [] H H' s.heap s'.heap∧HOk P w H' s'.heap∧RelV v u∧Q v H'
def CR (CX:CXT) (outer:List Env) (P:Program) (w:World) (H:Hp) (s:Shared) (Q:VK) (E:XK) (r:Result) (s':Shared):Prop :=
 match r with
 | .ok (.ret u)=>CE outer P w H s Q u s'
 | .ok _=>False
 | .error e=>CX outer H s E e s'
structure FnOk (P:Program) (w:World) (K:PySem.W.Frag) (mg:Str→Option Value) (base:Heap) (CX:CXT) (k:Nat) (f:Addr) (fd:FuncData) (ps:List Str) (sp:Sp):Prop where
 len : ∀ vs H Q E,sp vs H Q E→vs.length=ps.length
 run : ∀ (A:Around) (outer:List Env) (s:Shared) (H:Hp) (args:Args) (us:List Value) (vs:List V) (Q:VK) (E:XK),Room k A→Env0 P w K mg base A outer s H→BindsTo s fd args (ps.zip us)→Vals vs us→sp vs H Q E →
  codeAny (model P w) A (.call (.ref f) args) (CR CX outer P w H s Q E) s
section
variable {X:Cx}{pins:List (Addr×Obj)}{σ:St}{H:Hp}{s s':Shared}
theorem Inv.env0 (I:Inv X pins σ H s):Env0 X.prog X.w X.K X.mg X.base X.A X.stack s H :=
 ⟨I.ok.frames,I.ok.mod,I.bs,Nat.le_trans I.ok.bsz I.sz,I.stack,I.stkFree,I.hok,I.bare⟩
theorem Inv.after {Q:VK}{u:Value} (I:Inv X pins σ H s) (h:CE X.stack X.prog X.w H s Q u s'):EP X pins σ Q u s':=by
 obtain ⟨v,H',os,bare,un,hok,r,q⟩:=h
 obtain ⟨hh,g,d,t,os'⟩:=s'
 obtain rfl:os'=s.os:=os
 exact ⟨v,H',I.call (h':=hh) (g':=g) (d':=d) (t':=t) (ch:=[]) un hok bare (fun b z=>absurd z (by simp)),r,q⟩
end
def tCall (sp:Sp) (dvs:List V) (E:XK) (t:TA):TE:=fun σ H Q=>t σ H fun vs H1=>sp (vs++dvs) H1 Q E
def Binds (K:PySem.W.Frag) (fd:FuncData) (ps:List Str) (ds:List Value):Prop :=
 ∀ (s:Shared) (us:List Value),K.In s.heap→(us++ds).length=ps.length→BindsTo s fd ⟨us,[]⟩ (ps.zip (us++ds))
theorem Binds.all {K:PySem.W.Frag}{fd:FuncData}{ps:List Str} (h : ∀ us:List Value,us.length=ps.length→bindArgs fd ⟨us,[]⟩=pure (ps.zip us)):Binds K fd ps []:=fun s us _ hl=>by
 rw [List.append_nil] at hl ⊢
 exact .of_eq (h us hl)
def Passes (CX:CXT) (X:Cx) (E:XK):Prop := ∀ (pins:List (Addr×Obj)) (σ:St) (H:Hp) (s:Shared) (e:Value) (s':Shared),Inv X pins σ H s→CX X.stack H s E e s'→X.xe e s'
section
variable {X:Cx}{CX:CXT}{k:Nat}{f C:Addr}{fd:FuncData}{ps:List Str}{sp:Sp}{dvs:List V}{ds:List Value}{E:XK}{x m:Str}{p pos apos:Pos}{e o:Expr}{es:List Expr}{ta:TE}{t:TA}
theorem run_fn {pins:List (Addr×Obj)}{σ:St}{H:Hp}{s:Shared}{Q:VK}{us:List Value}{vs:List V} (F:FnOk X.prog X.w X.K X.mg X.base CX k f fd ps sp) (hr:Room k X.A) (hb:Binds X.K fd ps ds) (hd:Vals dvs ds) (hx:Passes CX X E)
 (I:Inv X pins σ H s) (r:Vals vs us) (h:sp (vs++dvs) H Q E):wpAny (model X.prog X.w) X.A (call (.ref f) us) (EP X pins σ Q) X.xe s:=by
  have r2:Vals (vs++dvs) (us++ds):=r.append hd
  have hl:(us++ds).length=ps.length:=by rw [← r2.length];exact F.len _ _ _ _ h
  refine wpAny_call (codeAny_mono (F.run X.A X.stack s H ⟨us,[]⟩ (us++ds) (vs++dvs) Q E hr I.env0 (hb s us I.kIn hl) r2 h) fun r s' hq=>?_)
  cases r with
  | error e=>exact hx pins σ H s e s' I hq
  | ok fl =>
   cases fl with
   | ret u=>exact I.after hq
   | next=>exact False.elim hq
   | brk=>exact False.elim hq
   | cont=>exact False.elim hq
end
section
variable {X:Cx}{CX:CXT}{k:Nat}{f C:Addr}{fd:FuncData}{ps ks:List Str}{sp:Sp}{E:XK}{x m:Str}{p pos apos kpos:Pos}{e o:Expr}{es:List Expr}{kws:List Keyword}{te ta:TE}{t tk:TA}{nm:Option Str}
variable {g:List Value→List Value→List Value}{gV:List V→List V→List V}
end
structure FnScope (N P:List Str) (sc:Scope):Prop where
 kind:sc.kind = .function
 co:sc.isCoroutine=false
 gen:sc.isGenerator=false
 nd:N.Nodup
 pre:N.take P.length=P
 par : ∀ x ∈ P,sc.names.lookup x=some .local∨sc.names.lookup x=some .cell
 nofree : ∀ y ∈ sc.names,y.2 ≠ .free
theorem bindL_out {kindOf:Str→Option NameKind}{x:Str} : ∀ {binds:List (Str×Value)}{m:Str→Option Value},(∀ v,(x,v) ∉ binds)→bindL kindOf binds m x=m x
 | [],_,_=>rfl
 | (n,v)::r,m,h=>by
  unfold bindL
  rw [bindL_out fun w hw=>h w (List.mem_cons_of_mem _ hw)]
  split
  ·have:x≠n:=by rintro rfl;exact h v List.mem_cons_self
   simp [this]
  ·rfl
theorem bindC_out {kindOf:Str→Option NameKind}{x:Str} : ∀ {binds:List (Str×Value)}{m:Str→Option Value},(∀ v,(x,v) ∉ binds)→bindC kindOf binds m x=m x
 | [],_,_=>rfl
 | (n,v)::r,m,h=>by
  unfold bindC
  rw [bindC_out fun w hw=>h w (List.mem_cons_of_mem _ hw)]
  split
  ·rfl
  ·have:x≠n:=by rintro rfl;exact h v List.mem_cons_self
   simp [this]
theorem bindL_get {kindOf:Str→Option NameKind}{x:Str}{v:Value} : ∀ {P:List Str}{vs:List Value}{i:Nat}{m:Str→Option Value},P.Nodup→P[i]?=some x→vs[i]?=some v→kindOf x=some .local →
 bindL kindOf (P.zip vs) m x=some v
  | [],_,_,_,_,h,_,_=>by simp at h
  | _::_,[],_,_,_,_,h,_=>by simp at h
  | p::P,w::vs,0,m,nd,h1,h2,hk=>by
   simp at h1 h2;subst h1;subst h2
   show bindL kindOf ((p,w)::P.zip vs) m p=_
   unfold bindL
   rw [bindL_out fun v hv=>(List.nodup_cons.mp nd).1 (List.of_mem_zip hv).1,if_pos hk]
   simp
  | p::P,w::vs,i+1,m,nd,h1,h2,hk=>by
   show bindL kindOf ((p,w)::P.zip vs) m x=_
   unfold bindL
   exact bindL_get (i:=i) (List.nodup_cons.mp nd).2 (by simpa using h1) (by simpa using h2) hk
theorem bindC_get {kindOf:Str→Option NameKind}{x:Str}{v:Value} : ∀ {P:List Str}{vs:List Value}{i:Nat}{m:Str→Option Value},P.Nodup→P[i]?=some x→vs[i]?=some v→kindOf x≠some .local →
 bindC kindOf (P.zip vs) m x=some v
  | [],_,_,_,_,h,_,_=>by simp at h
  | _::_,[],_,_,_,_,h,_=>by simp at h
  | p::P,w::vs,0,m,nd,h1,h2,hk=>by
   simp at h1 h2;subst h1;subst h2
   show bindC kindOf ((p,w)::P.zip vs) m p=_
   unfold bindC
   rw [bindC_out fun v hv=>(List.nodup_cons.mp nd).1 (List.of_mem_zip hv).1,if_neg hk]
   simp
  | p::P,w::vs,i+1,m,nd,h1,h2,hk=>by
   show bindC kindOf ((p,w)::P.zip vs) m x=_
   unfold bindC
   exact bindC_get (i:=i) (List.nodup_cons.mp nd).2 (by simpa using h1) (by simpa using h2) hk
def start (N:List Str) (vs:List V):St:=vs.map some++List.replicate (N.length-vs.length) none
def cxOf (CX:CXT) (P:Program) (w:World) (K:PySem.W.Frag) (mg:Str→Option Value) (base:Heap) (N:List Str) (qual:Str) (scope:Scope) (f:Addr) (cd:Value) (A:Around) (outer:List Env) (s:Shared) (H:Hp) (E:XK):Cx where
 prog:=P
 w:=w
 K:=K
 mg:=mg
 base:=base
 A:=A.deeper (envOfC qual scope s.heap.objs.size f cd)
 N:=N
 s₀:=s
 H₀:=H
 env:=envOfC qual scope s.heap.objs.size f cd
 outer:=outer
 stack:=envOfC qual scope s.heap.objs.size f cd::outer
 ex:=[]
 calm:=true
 fn:=fun _=>true
 pn:=[]
 xe:=fun e s'=>wpAny (model P w) (A.deeper (envOfC qual scope s.heap.objs.size f cd)) (leaving (envOfC qual scope s.heap.objs.size f cd) e) (fun _ s''=>CX outer H s E e s'') (fun e' s''=>CX outer H s E e' s'') s'
theorem cell_has {sc:Scope}{n:Nat}{x:Str} (h:sc.names.lookup x=some .cell) : ∃ c,(cellsFrom n sc.names []).lookup x=some c:=by
 have q:=PySem.W.cellsFrom_some sc.names n [] (.inl h)
 exact Option.isSome_iff_exists.mp q
theorem inv_start {CX:CXT}{P:Program}{w:World}{K:PySem.W.Frag}{mg:Str→Option Value}{base:Heap}{N ps:List Str}{qual:Str}{scope:Scope}{f:Addr}{cd:Value}{A:Around}{outer:List Env}{s s1:Shared}{H:Hp}{E:XK}{us:List Value}{vs:List V}
 (S:FnScope N ps scope) (hd:A.handled=none) (e0:Env0 P w K mg base A outer s H) (hl:vs.length=ps.length) (r:Vals vs us)
 (x:InCallC s s.heap.objs.size (bindL (envOfC qual scope s.heap.objs.size f cd).kindOf (ps.zip us) fun _=>none) (cellsFrom (s.heap.objs.size+1) scope.names []) (bindC (envOfC qual scope s.heap.objs.size f cd).kindOf (ps.zip us) fun _=>none) s1) :
 Inv (cxOf CX P w K mg base N qual scope f cd A outer s H E) [] (start N vs) H s1:=by
  have hpl:ps.length≤N.length:=by have:=congrArg List.length S.pre;rw [List.length_take] at this;omega
  obtain ⟨h1,tk,rfl,hk⟩:=x.done
  have noA : ∀ b:Addr,b ∉ (cxOf CX P w K mg base N qual scope f cd A outer s H E).ex:=fun b z=>absurd (show b ∈ ([]:List Addr) from z) (by simp)
  refine ⟨⟨e0.mod,S.kind,rfl,rfl,Nat.le_refl _,fun y z c h1 h2=>?_,fun y hy=>?_,fun y c _ h=>?_,fun _=>hd,Around.frames_deeper e0.frames,.inr ⟨rfl,rfl⟩,fun b z=>absurd z (noA b),e0.bs,e0.bsz,fun b _ _=>noA b,fun b z=>absurd z (noA b),e0.funs,e0.frf⟩,
   rfl,e0.bare,Un.kept hk,⟨_,x.toInCall.ns,fun i y v h1 h2 h3=>?_⟩,fun y c h=>⟨_,x.cell y c h⟩,e0.hok.fresh (Nat.le_refl _),fun y c h=>?_,fun p hp=>absurd (show p ∈ ([]:List (Addr×Obj)) from hp) (by simp),e0.hok.kept hk,?_⟩
  ·exact name_of_addr x.apart (PySem.mem_of_lookup h1) (PySem.mem_of_lookup h2)
  ·have hy:scope.names.lookup y=some .cell∨scope.names.lookup y=some .free:=hy
   rcases hy with hy|hy
   ·exact cell_has hy
   ·exact absurd rfl (S.nofree _ (PySem.mem_of_lookup hy))
  ·exact Nat.le_of_lt (x.above y c (PySem.mem_of_lookup h))
  ·have hi:i<vs.length:=by
    unfold start at h2
    by_cases hi:i<vs.length
    ·exact hi
    ·rw [List.getElem?_append_right (by simpa using hi)] at h2
     rw [List.getElem?_replicate] at h2
     split at h2 <;> cases h2
   have ha:vs[i]?=some v:=by
    unfold start at h2
    rw [List.getElem?_append_left (by simpa using hi),List.getElem?_map] at h2
    cases e:vs[i]? with
    | none=>rw [e] at h2;cases h2
    | some a=>rw [e] at h2;cases h2;rfl
   obtain ⟨u,hu,rv⟩:=r.get ha
   have hp:ps[i]?=some y:=by
    rw [← S.pre,List.getElem?_take_of_lt (by omega)];exact h1
   have ndP:ps.Nodup:=by rw [← S.pre];exact S.nd.sublist (List.take_sublist _ _)
   refine ⟨u,rv,?_⟩
   rcases S.par y (List.mem_of_getElem? hp) with k|k
   ·exact .inl ⟨k,bindL_get ndP hp hu k⟩
   ·obtain ⟨c,e⟩:=cell_has (n:=s.heap.objs.size+1) k
    refine .inr ⟨.inl k,c,e,?_⟩
    have q:=x.cell y c e
    rw [bindC_get ndP hp hu (by show scope.names.lookup y≠_;rw [k];decide)] at q
    exact q
  ·exact e0.hok.fresh (Nat.le_of_lt (x.above y c (PySem.mem_of_lookup h)))
  ·unfold start
   show _=N.length
   rw [List.length_append,List.length_map,List.length_replicate]
   omega
theorem fn_of {CX:CXT}{P:Program}{w:World}{K:PySem.W.Frag}{mg:Str→Option Value}{base:Heap}{k:Nat}{f:Addr}{name qual:Str}{params:Arguments}{body:List Stmt}{scope:Scope}{dV kV doc pm cdv ct oc:Value}{an od:Option Addr}
 {osl:Array (Option Value)}{N ps:List Str}{sp:Sp} (lk:K.lookup f=some ⟨oc,od,.func (PySem.W.fnOf name qual params body scope dV kV doc pm an cdv ct),osl⟩) (hcd:PySem.W.codeIn K cdv qual=true) (S:FnScope N ps scope)
 (len : ∀ vs H Q E,sp vs H Q E→vs.length=ps.length)
 (hbody : ∀ (A:Around) (outer:List Env) (s:Shared) (H:Hp) (vs:List V) (Q:VK) (E:XK),Room k (A.deeper (envOfC qual scope s.heap.objs.size f cdv))→sp vs H Q E →
 ∃ t,PSs (cxOf CX P w K mg base N qual scope f cdv A outer s H E) body t∧t { nx:=fun _ H'=>Q .non H',rt:=Q } (start N vs) H) :
  FnOk P w K mg base CX (k+1) f (PySem.W.fnOf name qual params body scope dV kV doc pm an cdv ct) ps sp:=by
  refine ⟨len,fun A outer s H args us vs Q E hr e0 hb r hsp=>?_⟩
  have hl:=len _ _ _ _ hsp
  have KX:K.In s.heap:=e0.mod.kin.keeps fun b o e=>(e0.bs b o e).1
  have lim:s.heap.NoLimit:=e0.mod.nolimit.keeps fun b o e=>(e0.bs b o e).1
  have hkind : ∀ y ∈ ps.zip us,scope.names.lookup y.1=some .local∨(scope.names.lookup y.1=some .cell∧((cellsFrom (s.heap.objs.size+1) scope.names []).lookup y.1).isSome=true):=fun xx40 hy=>by
   obtain ⟨n,v⟩:=xx40
   rcases S.par n (List.of_mem_zip hy).1 with q|q
   ·exact .inl q
   ·exact .inr ⟨q,PySem.W.cellsFrom_some _ _ _ (.inl q)⟩
  refine codeAny_call_function hr.depth (KX _ _ lk) rfl S.co S.gen rfl (PySem.W.codeRec_of KX hcd) (hb _ _ _ _ ?_)
  refine wpAny_newFunctionEnv_cells S.kind hkind fun env he s1 x=>?_
  subst he
  refine ⟨lim.keeps x.toInCall.keep,codeAny_func ?_⟩
  obtain ⟨t,ht,hq⟩:=hbody A outer s H vs Q E (hr.deeper _) hsp
  have I:Inv (cxOf CX P w K mg base N qual scope f cdv A outer s H E) [] (start N vs) H s1:=inv_start S hr.hd e0 hl r x
  refine wpAny_mono (ht [] s1 (start N vs) H _ I hq) (fun fl s' hs=>?_) fun e s' hs=>hs
  have fin : ∀ {σ':St}{H':Hp}{v:V}{u:Value},Inv (cxOf CX P w K mg base N qual scope f cdv A outer s H E) [] σ' H' s'→RelV v u→Q v H'→CE outer P w H s Q u s' :=
   fun {σ' H' v u} J rv q=>⟨v,H',J.os,J.bare,J.base,J.hok,rv,q⟩
  cases fl with
  | ret u =>
   obtain ⟨v,σ',H',J,rv,q⟩:=hs
   exact fin J rv q
  | next =>
   obtain ⟨σ',H',J,q⟩:=hs
   exact fin (v:=V.non) (u:=Value.none) J rfl q
  | brk =>
   obtain ⟨_,_,_,q⟩:=hs
   exact False.elim q
  | cont =>
   obtain ⟨_,_,_,q⟩:=hs
   exact False.elim q
end L2
namespace L2
open PySem PySem.Spec PyProof.Rows
section
variable {X:Cx}{x:Str}{p pos:Pos}{e:Expr}{es:List Expr}{t:TA}{id T:String}{r:List V→Hp→VK→Prop}
def tCB (r:List V→Hp→VK→Prop) (t:TA):TE:=fun σ H Q=>t σ H fun vs H1=>r vs H1 Q
theorem pe_callB (hc:CallR X (.builtin id) r) (hg:Gl X x) (hm:X.mg x=none) (hv:bootBuiltins x=some (.builtin id)) (ha:PA X (e::es) t) (hn:x ≠ "__name__":=by decide) (hdb:(x==("__debug__" : Str))=false:=by decide)
 (he:starEach (e::es) X.env=(false,eval e X.env)::starEach es X.env:=by rfl) (hpl:(backTo pos (starEach es X.env)).any (·.1)=false:=by rfl):PE X (.Call (.Name x p) (e::es) [] pos) (tCB r t):=by
 intro pins s σ H Q I h
 refine wpAny_Call_Name_kw (ld_blt I hg hm hv ?_ hn hdb)
 exact PyProof.Rows.callWith_builtin1 (thn (ha pos pins s σ H _ I h) fun us s1 xx41=>by obtain ⟨vs,H1,I1,r1,q1⟩:=xx41;exact hc pins s1 σ H1 vs us Q I1 r1 q1) he hpl
theorem pe_callTy (hc:CallR X (.type T) r) (hg:Gl X x) (hm:X.mg x=none) (hv:bootBuiltins x=some (.type T)) (ha:PA X (e::es) t) (hn:x ≠ "__name__":=by decide) (hdb:(x==("__debug__" : Str))=false:=by decide)
 (he:starEach (e::es) X.env=(false,eval e X.env)::starEach es X.env:=by rfl) (hpl:(backTo pos (starEach es X.env)).any (·.1)=false:=by rfl):PE X (.Call (.Name x p) (e::es) [] pos) (tCB r t):=by
 intro pins s σ H Q I h
 refine wpAny_Call_Name_kw (ld_blt I hg hm hv ?_ hn hdb)
 exact PyProof.Rows.callWith_type1 (thn (ha pos pins s σ H _ I h) fun us s1 xx42=>by obtain ⟨vs,H1,I1,r1,q1⟩:=xx42;exact hc pins s1 σ H1 vs us Q I1 r1 q1) he hpl
end
end L2
namespace HT
open PySem PyProof.Rows
section
open PySem.SeqAt
open PySem.AutoSeq1 (wpAny_loadPart')
open PySem.MeetsSeq PySem.MeetsSeq2 PySem.MeetsSeq3
end
section
variable {prog:Program}{w:World}{A:Around}{E:Value→Shared→Prop}{s:Shared}
theorem cat_tup {t b:Addr}{vs ws:List Value}{Q:Value→Shared→Prop} (ht:IsTup s.heap t vs.toArray) (hb:IsTup s.heap b ws.toArray) (hv:vs≠[])
 (h1:ws=[]→Q (.ref t) s) (h2:ws≠[]→Q (.ref s.heap.objs.size) { s with heap:=s.heap.push { cls :=.type "tuple",data :=.seq (vs++ws).toArray } })
  (hsz:vs.length+ws.length≤sizeLine):wpAny (model prog w) A (binaryOp .Add (.ref t) (.ref b)) Q E s:=by
  obtain ⟨⟨cls,dd,data,sl⟩,ho,hc,n,hd⟩:=id ht
  obtain ⟨⟨cls2,dd2,data2,sl2⟩,ho2,hc2,n2,hd2⟩:=id hb
  simp only at hc hd hc2 hd2
  subst hc hd hc2 hd2
  have e:vs.toArray++ws.toArray=(vs++ws).toArray:=by simp
  by_cases hw:ws=[]
  ·exact concat_meets ⟨_,ho,rfl⟩ ⟨_,ho2,rfl⟩ noFill_tuple_add seq_tuple_add PySem.F.slot_tuple_add PySem.F.entry_tuple_add (PySem.F.args_tuple_add_2 _ _)
    (tuple_addW1 t b vs.toArray ws.toArray n n2 dd dd2 sl sl2 (by simpa using hv) (by simp [hw])) ⟨ho,ho2,h1 hw⟩
  ·refine concat_meets ⟨_,ho,rfl⟩ ⟨_,ho2,rfl⟩ noFill_tuple_add seq_tuple_add PySem.F.slot_tuple_add PySem.F.entry_tuple_add (PySem.F.args_tuple_add_2 _ _)
    (tuple_addW2 t b vs.toArray ws.toArray n n2 dd dd2 sl sl2 (by simpa using hv) (by simpa using hw) (by rw [List.size_toArray,List.size_toArray];exact hsz)) ⟨ho,ho2,?_⟩
   rw [e]
   exact h2 hw
def sIx (n d:Nat):Option Int→Nat
 | none=>d
 | some v=>if v<0 then (v+(n:Int)).toNat else min v.toNat n
theorem sIx_none (n d:Nat):sIx n d none=d:=rfl
end
end HT
namespace L2
open PySem PySem.Spec PyProof.Rows
abbrev TO:=St→Hp→(Option Int→Hp→Prop)→Prop
def PO (X:Cx) (e:Option Expr) (t:TO):Prop :=
 ∀ (pins:List (Addr×Obj)) (s:Shared) (σ:St) (H:Hp) (Q:Option Int→Hp→Prop),Inv X pins σ H s→t σ H Q →
  wpAny (model X.prog X.w) X.A (evalPart e X.env) (fun u s' => ∃ o H',Inv X pins σ H' s'∧IsPart u o∧Q o H') X.xe s
def tNoPart:TO:=fun _ H Q=>Q none H
def tPart (t:TE):TO:=fun σ H Q=>t σ H fun x H1 => ∃ i,x = .int i∧Q (some i) H1
theorem intsAre_of {ns:List Int} : ∀ {us:List Value},Vals (ns.map V.int) us→IntsAre us ns:=by
 induction ns with
 | nil=>intro us r;rw [List.map_nil] at r;cases r;exact .nil
 | cons n ns ih =>
  intro us r
  rw [List.map_cons] at r
  cases r with
  | cons r1 r2 =>
   obtain ⟨t,e⟩:=r1
   subst e
   exact .cons n t (ih r2)
section
variable {X:Cx}{e:Expr}{te:TE}{lo hi:Option Expr}{tl th:TO}{pos p2:Pos}
theorem po_none:PO X none tNoPart:=by
 intro pins s σ H Q I h
 rw [evalPart_none]
 exact wpAny_pure ⟨none,H,I,.none,h⟩
theorem po_some (h:PE X e te):PO X (some e) (tPart te):=by
 intro pins s σ H Q I hw
 rw [evalPart_some]
 refine thn (h pins s σ H _ I hw) fun u s1 xx43=>?_
 obtain ⟨x,H1,I1,r1,q1⟩:=xx43
 obtain ⟨i,rfl,q⟩:=q1
 obtain ⟨t,rfl⟩:=r1
 exact ⟨some i,H1,I1,.int i t,q⟩
def SlR (X:Cx) (r:V→Option Int→Option Int→Hp→VK→Prop):Prop :=
 ∀ (pins:List (Addr×Obj)) (s:Shared) (σ:St) (H:Hp) (x:V) (v vl vu:Value) (lo hi:Option Int) (sl:Addr) (Q:VK),Inv X pins σ H s→RelV x v→s.heap.IsSliceOf sl vl vu .none→IsPart vl lo→IsPart vu hi→r x lo hi H Q →
  ∃ T id,typeLookup (.type T) "__getitem__" = pure (some (.builtin id))∧s.TypeIs v T∧wpAny (model X.prog X.w) X.A (getItem v (.ref sl)) (EP X pins σ Q) X.xe s
def tSl (r:V→Option Int→Option Int→Hp→VK→Prop) (te:TE) (tl th:TO):TE:=fun σ H Q=>te σ H fun x H1=>tl σ H1 fun l H2=>th σ H2 fun u H3=>r x l u H3 Q
theorem pe_slice {r:V→Option Int→Option Int→Hp→VK→Prop} (hr:SlR X r) (he:PE X e te) (hl:PO X lo tl) (hu:PO X hi th):PE X (.Subscript e (.Slice lo hi none p2) pos) (tSl r te tl th):=by
 intro pins s σ H Q I h
 refine Subscript_ (thn (he pins s σ H _ I h) fun v s1 xx46=>?_)
 obtain ⟨x,H1,I1,r1,q1⟩:=xx46
 refine wpAny_Slice (thn (hl pins s1 σ H1 _ I1 q1) fun vl s2 ⟨l,H2,I2,pl,q2⟩=>thn (hu pins s2 σ H2 _ I2 q2) fun vu s3 xx44=>?_)
 obtain ⟨u,H3,I3,pu,q3⟩:=xx44
 rw [evalPart_none]
 refine wpAny_pure ?_
 have I4:Inv X pins σ H3 { s3 with heap:=s3.heap.push { cls :=.type "slice",data :=.fields #[vl,vu,.none] } }:=I3.kept (t':=s3.toks) fun b ob q=>Heap.get?_push_of_some _ q
 obtain ⟨T,id,hT,ht,hg⟩:=hr pins { s3 with heap:=s3.heap.push { cls :=.type "slice",data :=.fields #[vl,vu,.none] } } σ H3 x v vl vu l u s3.heap.objs.size Q I4 r1 (Heap.IsSliceOf.new ..) pl pu q3
 show wpAny (model X.prog X.w) X.A (subscriptTail e (.Slice lo hi none p2) v (.ref s3.heap.objs.size)) (EP X pins σ Q) X.xe { s3 with heap:=s3.heap.push { cls :=.type "slice",data :=.fields #[vl,vu,.none] } }
 exact tail_any (ops:=[.ref s3.heap.objs.size,v]) ht hT hg (by with_unfolding_all rfl)
def cutV (xs:List V) (lo hi:Option Int):List V:=(xs.drop (HT.sIx xs.length 0 lo)).take (HT.sIx xs.length xs.length hi-HT.sIx xs.length 0 lo)
theorem cutV_length (xs:List V) (lo hi:Option Int):(cutV xs lo hi).length≤xs.length:=by
 unfold cutV
 rw [List.length_take,List.length_drop]
 omega
def rCatT (K:PySem.W.Frag):R2:=fun x y H Q => ∃ a b xs ys,x = .ref a∧y = .ref b∧SqT K H a xs∧SqT K H b ys∧xs≠[]∧xs.length+ys.length≤sizeLine ∧
 (ys=[]→Q (.ref a) H)∧(ys≠[] → ∀ p,H p=none→Q (.ref p) (upd H p (.tup (xs++ys))))
theorem Vals.nil_iff {xs:List V}{us:List Value} (r:Vals xs us):us=[]↔xs=[]:=by
 cases r with
 | nil=>simp
 | cons _ _=>simp
theorem op_catT:OpR X (binaryOp .Add) (rCatT X.K):=by
 intro pins s σ H x y v u Q I rx ry h
 obtain ⟨a,b,xs,ys,rfl,rfl,ha,hb,hx,hz,q1,q2⟩:=h
 cases rx
 cases ry
 obtain ⟨its,r1,p1,_⟩:=I.tuple ha
 obtain ⟨its2,r2,p2,_⟩:=I.tuple hb
 refine HT.cat_tup p1 p2 (fun z=>hx (r1.nil_iff.mp z)) (fun z=>⟨.ref a,H,I,rfl,q1 (r2.nil_iff.mp z)⟩) (fun z=>?_) (by rw [← r1.length,← r2.length];exact hz)
 refine ⟨.ref s.heap.objs.size,_,I.laid (t':=s.toks) (o :=.tup (xs++ys)) (fun b ob q=>Heap.get?_push_of_some _ q) (Nat.le_refl _) ?_,rfl,q2 (fun w=>z (r2.nil_iff.mpr w)) _ (I.hok.fresh (Nat.le_refl _))⟩
 exact ⟨by rw [List.length_append];exact hz,_,r1.append r2,IsTup.new _ _⟩
end
end L2
namespace L2
open PySem PySem.Spec PyProof.Rows
def ixN (n:Nat) (i:Int):Option Nat:=if 0≤i then (if i<n then some i.toNat else none) else if -(n:Int)≤i then some (i+n).toNat else none
def atI {α:Type} (xs:List α) (i:Int):Option α:=(ixN xs.length i).bind fun j=>xs[j]?
theorem ixN_seq {n:Nat}{i:Int}{j:Nat} (h:ixN n i=some j):seqIndex? i n=some j∧j<n ∧ -(n:Int)≤i∧i<n:=by
 unfold ixN at h
 by_cases h0:0≤i
 ·rw [if_pos h0] at h
  by_cases h1:i<n
  ·rw [if_pos h1] at h
   have e:i.toNat=j:=Option.some.inj h
   exact ⟨by rw [seqIndex_of h0 h1,e],by omega,by omega,h1⟩
  ·rw [if_neg h1] at h;cases h
 ·rw [if_neg h0] at h
  by_cases h1 : -(n:Int)≤i
  ·rw [if_pos h1] at h
   have e:(i+n).toNat=j:=Option.some.inj h
   exact ⟨by rw [seqIndex_neg (by omega) h1,e],by omega,h1,by omega⟩
  ·rw [if_neg h1] at h;cases h
theorem atI_get {α:Type}{xs:List α}{i:Int}{v:α} (h:atI xs i=some v) : ∃ j,seqIndex? i xs.length=some j∧xs[j]?=some v∧j<xs.length ∧ -(xs.length:Int)≤i∧i<xs.length:=by
 unfold atI at h
 cases e:ixN xs.length i with
 | none=>rw [e] at h;cases h
 | some j =>
  rw [e] at h
  obtain ⟨h1,h2,h3,h4⟩:=ixN_seq e
  exact ⟨j,h1,h,h2,h3,h4⟩
theorem atI_nat {α:Type}{xs:List α}{j:Nat}{v:α} (h:xs[j]?=some v):atI xs (j:Int)=some v:=by
 have hj:j<xs.length:=(List.getElem?_eq_some_iff.mp h).1
 have e:ixN xs.length (j:Int)=some j:=by
  unfold ixN
  rw [if_pos (by omega),if_pos (by omega)];simp
 unfold atI;rw [e];exact h
def PlainIx (b:Expr):Prop := ∀ o i,subscripted b false o i=operate [o,i] (getItem o i)
def IxR (X:Cx) (r:R2):Prop :=
 ∀ (value slice:Expr) (pins:List (Addr×Obj)) (s:Shared) (σ:St) (H:Hp) (x y:V) (v u:Value) (Q:VK),Inv X pins σ H s→RelV x v→RelV y u→r x y H Q →
  subscripted slice false v u=operate [v,u] (getItem v u)→wpAny (model X.prog X.w) X.A (subscriptTail value slice v u) (EP X pins σ Q) X.xe s
def MtR (X:Cx) (id:String) (r:V→List V→Hp→VK→Prop):Prop :=
 ∀ (pins:List (Addr×Obj)) (s:Shared) (σ:St) (H:Hp) (x:V) (xs:List V) (v:Value) (us:List Value) (Q:VK),Inv X pins σ H s→RelV x v→Vals xs us→r x xs H Q →
  wpAny (model X.prog X.w) X.A (call (.builtin id) (v::us)) (EP X pins σ Q) X.xe s
section
variable {X:Cx}{a b:Expr}{ta tb:TE}{pos:Pos}
theorem IxR.or {r r':R2} (h:IxR X r) (h':IxR X r'):IxR X (fun x y H Q=>r x y H Q∨r' x y H Q):=by
 intro value slice pins s σ H x y v u Q I rx ry q hs
 rcases q with q|q
 ·exact h value slice pins s σ H x y v u Q I rx ry q hs
 ·exact h' value slice pins s σ H x y v u Q I rx ry q hs
theorem pe_ix {r:R2} (hr:IxR X r) (ha:PE X a ta) (hb:PE X b tb) (hs:PlainIx b):PE X (.Subscript a b pos) (tOp r ta tb):=by
 intro pins s σ H Q I h
 exact Subscript_ (binT ha hb I h fun v u s2 x y H2 I2 rx ry q=>hr a b pins s2 σ H2 x y v u Q I2 rx ry q (hs _ _))
def rIxL (K:PySem.W.Frag):R2:=fun x y H Q => ∃ p xs i v,x = .ref p∧y = .int i∧SqL K H p xs∧atI xs i=some v∧Q v H
def rIxT (K:PySem.W.Frag):R2:=fun x y H Q => ∃ p xs i v,x = .ref p∧y = .int i∧SqT K H p xs∧atI xs i=some v∧Q v H
def rIxS:R2:=fun x y H Q => ∃ z i c,x = .str z∧y = .int i∧z.length≤sizeLine∧atI z.cps.toList i=some c∧Q (.str ⟨#[c]⟩) H
theorem ix_list:IxR X (rIxL X.K):=by
 intro value slice pins s σ H x y v u Q I rx ry h hs
 obtain ⟨p,xs,i,z,rfl,rfl,hq,he,q⟩:=h
 cases rx
 obtain ⟨t,rfl⟩:=ry
 obtain ⟨its,r,pl,hz⟩:=I.list hq
 obtain ⟨j,h1,h2,h3,h4,h5⟩:=atI_get he
 obtain ⟨w,ew,rw'⟩:=r.get h2
 have hl:=r.length
 have hn:=line63
 have fin:EP X pins σ Q w s:=⟨z,H,I,rw',q⟩
 by_cases h0:0≤i
 ·have hj:i.toNat=j:=by
   rw [seqIndex_of h0 h5] at h1
   exact Option.some.inj h1
  exact item_listR pl.isList h0 (by omega) (by rw [hj];simpa using ew) fin hs
 ·have hj:(i+(its.toArray.size:Int)).toNat=j:=by
   rw [seqIndex_neg (by omega) h4] at h1
   rw [List.size_toArray,← hl]
   exact Option.some.inj h1
  exact subscriptTail_builtinR (x:=w) pl.isList.typeIs slot_list_getitem.lookup
   (wpAny_getItem_list_neg (Q:=fun r s'=>r=w∧EP X pins σ Q r s') pl.isList (by omega) (by rw [List.size_toArray] <;> omega) (by omega) (by rw [hj];simpa using ew) ⟨rfl,fin⟩) hs
theorem ix_tup:IxR X (rIxT X.K):=by
 intro value slice pins s σ H x y v u Q I rx ry h hs
 obtain ⟨p,xs,i,z,rfl,rfl,hq,he,q⟩:=h
 cases rx
 obtain ⟨t,rfl⟩:=ry
 obtain ⟨its,r,pl,hz⟩:=I.tuple hq
 obtain ⟨j,h1,h2,h3,h4,h5⟩:=atI_get he
 obtain ⟨w,ew,rw'⟩:=r.get h2
 have hl:=r.length
 have hn:=line63
 have fin:EP X pins σ Q w s:=⟨z,H,I,rw',q⟩
 exact subscriptTail_builtinR (x:=w) pl.typeIs slot_tuple_getitem.lookup
  (getItem_tuple (j:=j) (Q:=fun r s'=>r=w∧EP X pins σ Q r s') pl (by omega) (by omega) (by rw [List.size_toArray,← hl];exact h1) (by simpa using ew) ⟨rfl,fin⟩) hs
theorem ix_str:IxR X rIxS:=by
 intro value slice pins s σ H x y v u Q I rx ry h hs
 obtain ⟨z,i,c,rfl,rfl,hz,he,q⟩:=h
 obtain ⟨t,rfl⟩:=rx
 obtain ⟨t',rfl⟩:=ry
 obtain ⟨j,h1,h2,h3,h4,h5⟩:=atI_get he
 have hl:z.cps.toList.length=z.length:=by simp [Str.length]
 rw [hl] at h1 h4 h5
 have hn:=line63
 exact tail_any (typeIs_str s z t) slot_str_getitem.lookup (getItem_str (c:=c) (by
  have e1:decide (i < -(2^63:Int))=false:=decide_eq_false (by omega)
  have e2:decide (i≥2^63)=false:=decide_eq_false (by omega)
  rw [e1,e2,Bool.or_false]) (by rw [h1];simpa using h2) ⟨.str ⟨#[c]⟩,H,I.tok _,⟨_,rfl⟩,q⟩) hs
def rIx (K:PySem.W.Frag):R2:=fun x y H Q=>rIxL K x y H Q∨rIxT K x y H Q∨rIxS x y H Q
theorem ix_seq:IxR X (rIx X.K):=ix_list.or (ix_tup.or ix_str)
theorem slice_bounds (lo hi:Option Int) (n:Nat):(sliceBounds lo hi none n).1=((HT.sIx n 0 lo:Nat):Int)∧(sliceBounds lo hi none n).2.1=((HT.sIx n n hi:Nat):Int)∧(sliceBounds lo hi none n).2.2=1:=by
 refine ⟨?_,?_,rfl⟩
 ·cases lo with
  | none=>simp [sliceBounds,HT.sIx]
  | some i =>
   simp only [sliceBounds,HT.sIx,Option.getD_none,show (1:Int)>0 by decide,if_true]
   by_cases h:i<0
   ·simp only [h,if_true] <;> omega
   ·simp only [h,if_false] <;> omega
 ·cases hi with
  | none=>simp [sliceBounds,HT.sIx]
  | some i =>
   simp only [sliceBounds,HT.sIx,Option.getD_none,show (1:Int)>0 by decide,if_true]
   by_cases h:i<0
   ·simp only [h,if_true] <;> omega
   ·simp only [h,if_false] <;> omega
theorem slicePick_cut (its:List Value) (lo hi:Option Int):slicePick its.toArray lo hi none=((its.drop (HT.sIx its.length 0 lo)).take (HT.sIx its.length its.length hi-HT.sIx its.length 0 lo)).toArray:=by
 obtain ⟨h1,h2,h3⟩:=slice_bounds lo hi its.toArray.size
 unfold slicePick
 rw [h1,h2,h3]
 simp only [sliceRange_one,pick_run,List.size_toArray] <;> rfl
def rSlL (K:PySem.W.Frag):V→Option Int→Option Int→Hp→VK→Prop:=fun x lo hi H Q => ∃ a xs,x = .ref a∧SqL K H a xs ∧ ∀ p,H p=none→Q (.ref p) (upd H p (.lst (cutV xs lo hi)))
theorem sl_list:SlR X (rSlL X.K):=by
 intro pins s σ H x v vl vu lo hi sl Q I rx hs pl pu h
 obtain ⟨a,xs,rfl,hx,q⟩:=h
 cases rx
 obtain ⟨its,r,ht,hz⟩:=I.list hx
 have hlen:=r.length
 refine ⟨"list",_,slot_list_getitem.lookup,ht.isList.typeIs,?_⟩
 refine wpAny_getItem_list_slice ht.isList hs pl pu .none (by simp) ?_ (by rw [List.size_toArray] <;> omega)
 rw [slicePick_cut,← hlen]
 refine ⟨.ref s.heap.objs.size,_,I.laid (t':=s.toks) (o :=.lst (cutV xs lo hi)) (fun b ob q=>Heap.get?_push_of_some _ q) (Nat.le_refl _) ?_,rfl,q _ (I.hok.fresh (Nat.le_refl _))⟩
 exact ⟨Nat.le_trans (cutV_length xs lo hi) hz,_,0,(r.drop (HT.sIx xs.length 0 lo)).take (HT.sIx xs.length xs.length hi-HT.sIx xs.length 0 lo),Heap.get?_push_size _ rfl⟩
theorem call_len_seq:CallR X (.builtin "len") (fun xs H Q => ∃ p ys,xs=[.ref p]∧(SqL X.K H p ys∨SqT X.K H p ys)∧Q (.int ys.length) H):=by
 intro pins s σ H xs us Q I r h
 obtain ⟨p,ys,rfl,hq,q⟩:=h
 obtain ⟨u,rfl,rx⟩:=vals1 r
 cases rx
 have hn:=line63
 rcases hq with hq|hq
 ·obtain ⟨its,r',pl,hz⟩:=I.list hq
  have hlen:=r'.length
  exact Calls.call_len_list pl.isList (by simp only [List.size_toArray] <;> omega) ⟨.int ys.length,H,I.tok _,⟨s.toks+1,by rw [List.size_toArray,hlen]⟩,q⟩
 ·obtain ⟨its,r',pl,hz⟩:=I.tuple hq
  have hlen:=r'.length
  exact len_tuple pl (by simp only [List.size_toArray] <;> omega) ⟨.int ys.length,H,I.tok _,⟨s.toks+1,by rw [List.size_toArray,hlen]⟩,q⟩
theorem call_len_str:CallR X (.builtin "len") (fun xs H Q => ∃ z,xs=[.str z]∧z.length≤sizeLine∧Q (.int z.length) H):=by
 intro pins s σ H xs us Q I r h
 obtain ⟨z,rfl,hz,q⟩:=h
 obtain ⟨u,rfl,t,rfl⟩:=vals1 r
 have hn:=line63
 exact len_str (by omega) ⟨.int z.length,H,I.tok _,⟨_,rfl⟩,q⟩
theorem CallR.or {f:Value}{r r':List V→Hp→VK→Prop} (h:CallR X f r) (h':CallR X f r'):CallR X f (fun xs H Q=>r xs H Q∨r' xs H Q):=by
 intro pins s σ H xs us Q I rs q
 rcases q with q|q
 ·exact h pins s σ H xs us Q I rs q
 ·exact h' pins s σ H xs us Q I rs q
theorem call_tuple_of:CallR X (.type "tuple") (fun xs H Q => ∃ p ys,xs=[.ref p]∧((SqL X.K H p ys ∧ ∀ l,H l=none→Q (.ref l) (upd H l (.tup ys)))∨(SqT X.K H p ys∧Q (.ref p) H))):=by
 intro pins s σ H xs us Q I r h
 obtain ⟨p,ys,rfl,h⟩:=h
 obtain ⟨u,rfl,rx⟩:=vals1 r
 cases rx
 rcases h with ⟨hq,q⟩|⟨hq,q⟩
 ·obtain ⟨its,r',pl,hz⟩:=I.list hq
  have hlen:=r'.length
  refine call_tuple_list pl.isList (fun h' kp=>?_) (by simp only [List.size_toArray] <;> omega)
  have I1:Inv X pins σ H { s with heap:=h' }:=I.kept (t':=s.toks) kp
  have I2:Inv X pins σ (upd H h'.objs.size (.tup ys)) { s with heap:=h'.push { cls :=.type "tuple",data :=.seq its.toArray } } :=
   I1.laid (t':=s.toks) (fun b o e=>Heap.get?_push_of_some _ e) (Nat.le_refl _) (show ObjOk X.prog X.w _ _ _ (.tup ys) from ⟨hz,its,r',IsTup.new _ _⟩)
  exact ⟨.ref h'.objs.size,_,I2,rfl,q _ (I1.hok.fresh (Nat.le_refl _))⟩
 ·obtain ⟨its,r',pl,hz⟩:=I.tuple hq
  exact call_tuple_same pl ⟨.ref p,H,I,rfl,q⟩
def tyV (K:PySem.W.Frag) (T:String) (x:V) (H:Hp):Prop:=match x with
 | .str _=>T = "str"
 | .int _=>T = "int"
 | .ref p=>(T = "list" ∧ ∃ xs,SqL K H p xs)∨(T = "tuple" ∧ ∃ o,K.lookup p=some o∧o.cls = .type "tuple" ∧ o.dict=none) ∨
  (T = "dict" ∧ ((∃ kvs,H p=some (.dK kvs)) ∨ ∃ kvs,H p=some (.dT kvs)))∨(T = "set" ∧ ∃ S n,H p=some (.set S n))
 | _=>False
theorem tyV_is {pins:List (Addr×Obj)}{σ:St}{H:Hp}{s:Shared}{T:String}{x:V}{v:Value} (I:Inv X pins σ H s) (r:RelV x v) (ty:tyV X.K T x H) :
 s.TypeIs v T ∧ ∀ a,v = .ref a → ∃ ob,s.heap.get? a=some ob∧ob.dict=none:=by
  cases x with
  | str z =>
   obtain ⟨t,rfl⟩:=r
   cases (show T = "str" from ty)
   exact ⟨typeIs_str s z t,fun _ e=>nomatch e⟩
  | int i =>
   obtain ⟨t,rfl⟩:=r
   cases (show T = "int" from ty)
   exact ⟨typeIs_int s i t,fun _ e=>nomatch e⟩
  | ref p =>
   cases r
   rcases ty with ⟨rfl,xs,hq⟩|⟨rfl,o,hk,hc,hd⟩|⟨rfl,hk⟩|⟨rfl,S,n,hk⟩
   ·obtain ⟨its,_,pl,_⟩:=I.list hq
    refine ⟨pl.isList.typeIs,fun a e=>?_⟩
    cases e
    obtain ⟨o,n,e,c,hd,_⟩:=pl
    exact ⟨o,e,hd⟩
   ·refine ⟨⟨o,I.kIn p o hk,hc⟩,fun a e=>?_⟩
    cases e
    exact ⟨o,I.kIn _ o hk,hd⟩
   ·have z : ∃ o,s.heap.get? p=some o∧o.ExactDict:=by
     rcases hk with ⟨kvs,hk⟩|⟨kvs,hk⟩
     ·obtain ⟨_,_,_,_,o,_,_,e,ex,_⟩:=I.hok p _ hk
      exact ⟨o,e,ex⟩
     ·obtain ⟨_,_,_,_,o,_,_,e,ex,_⟩:=I.hok p _ hk
      exact ⟨o,e,ex⟩
    obtain ⟨o,e,ex⟩:=z
    refine ⟨⟨o,e,ex.1⟩,fun a e2=>?_⟩
    cases e2
    exact ⟨o,e,ex.2.1⟩
   ·obtain ⟨o,_,_,_,e,ex,_⟩:=I.hok p _ hk
    refine ⟨⟨o,e,ex.1⟩,fun a e2=>?_⟩
    cases e2
    exact ⟨o,e,ex.2.1⟩
  | _=>exact False.elim ty
def tBM (K:PySem.W.Frag) (T:String) (r:V→List V→Hp→VK→Prop) (to:TE) (t:TA):TE:=fun σ H Q=>to σ H fun x H1=>tyV K T x H1∧t σ H1 fun xs H2=>r x xs H2 Q
variable {o e:Expr}{es:List Expr}{to:TE}{t:TA}{name:Str}{apos cpos:Pos}{T id:String}{r:V→List V→Hp→VK→Prop}
theorem pe_bm (pa:PlainAttrs T) (slot:Slot T name id) (hty:typeOf (.builtin id)=pure (.type "method_descriptor")) (hm:MtR X id r) (ho:PE X o to) (ha:PA X (e::es) t)
 (hbase:attributeBase o name X.env (eval o X.env)=eval o X.env:=by rfl)
  (hfew:((backTo cpos (starEach (e::es) X.env)).all (fun x => !x.1)&&(backToKw cpos (keywordEach [] X.env)).all (fun x=>x.1.isSome)
   && decide ((e::es).length+([]:List Keyword).length+(if ([]:List Keyword).isEmpty then 0 else 1)<30))=true:=by rfl)
  (hline:(apos.endLine==cpos.line)=true:=by rfl) (hs:starEach (e::es) X.env=(false,eval e X.env)::starEach es X.env:=by rfl) (hplain:(backTo cpos (starEach es X.env)).any (·.1)=false:=by rfl) :
  PE X (.Call (.Attribute o name apos) (e::es) [] cpos) (tBM X.K T r to t):=by
  intro pins s σ H Q I h
  refine wpAny_Call_method_late hbase hfew hline rfl (thn (ho pins s σ H _ I h) fun v s1 xx48=>?_)
  obtain ⟨x,H1,I1,r1,ty,q1⟩:=xx48
  obtain ⟨h1,h2⟩:=tyV_is I1 r1 ty
  refine ⟨T,id,pa,slot,hty,h1,h2,?_⟩
  have hA:=ha cpos pins s1 σ H1 _ I1 q1
  rw [hs] at hA ⊢
  refine Calls.callWith_builtin (by show (false||(backTo cpos (starEach es X.env)).any (·.1))=false;rw [hplain] <;> rfl) (Calls.evalArgs_plain ?_)
  exact thn hA fun us s2 xx47=>by obtain ⟨vs,H2,I2,r2,q2⟩:=xx47;exact hm pins s2 σ H2 x vs v us Q I2 r1 r2 q2
/- xs.append(e),list.index on a module's tuple .. are MtR facts of 06m -/
end
end L2
namespace L2
open PySem PySem.Spec PyProof.Rows
def MtM (X:Cx) (id:String) (r:V→List V→Hp→VK→Prop):Prop :=
 ∀ (pins:List (Addr×Obj)) (s:Shared) (σ:St) (H:Hp) (x:V) (xs:List V) (v:Value) (us:List Value) (Q:VK),Inv X pins σ H s→RelV x v→Vals xs us→r x xs H Q →
  wpAny (model X.prog X.w) X.A (call (.builtin id) (v::us)) (EP X pins σ Q) X.xe s
theorem Vals.one : ∀ {x:V}{us:List Value},Vals [x] us → ∃ u,us=[u]∧RelV x u
 | _,_,.cons r .nil=>⟨_,rfl,r⟩
theorem Vals.rep {xs:List V}{us:List Value} (h:Vals xs us) : ∀ k:Nat,Vals (List.replicate k xs).flatten (List.replicate k us).flatten
 | 0 => .nil
 | k+1=>by
  rw [List.replicate_succ,List.replicate_succ,List.flatten_cons,List.flatten_cons]
  exact Vals.append h (Vals.rep h k)
theorem foldl_rep (its:List Value) : ∀ (k:Nat) (acc:List Value),
 List.foldl (fun x1 x2=>x1++x2) acc.toArray (List.replicate k its.toArray)=(acc++(List.replicate k its).flatten).toArray
  | 0,acc=>by simp
  | k+1,acc=>by
   have e:acc.toArray++its.toArray=(acc++its).toArray:=by simp
   have e2:(acc++its)++(List.replicate k its).flatten=acc++(List.replicate (k+1) its).flatten:=by
    rw [List.replicate_succ,List.flatten_cons,List.append_assoc]
   rw [← e2,← foldl_rep its k (acc++its),← e,List.replicate_succ,List.foldl_cons]
section
variable {X:Cx}{pins:List (Addr×Obj)}{σ:St}{H:Hp}{s:Shared}{l b:Addr}{xs ys zs:List V}
theorem Inv.lset {its its':List Value}{n:Nat}{f:Array Value→Array Value}{t':Nat} (I:Inv X pins σ H s) (hH:H l=some (.lst xs))
 (e:s.heap.get? l=some { cls :=.type "list",data :=.seq its.toArray n }) (hf:f its.toArray=its'.toArray) (hv:Vals ys its') (hz:ys.length≤sizeLine) :
  Inv X pins σ (upd H l (.lst ys)) { s with heap:=s.heap.update l (Obj.mapSeq f),toks:=t' }:=by
  have q:=PySem.IsL.update e f
  rw [hf] at q
  refine I.write (x:=l) (e:=l) (by rw [hH];exact trivial) (.inl rfl) (fun b' u hb hu=>(Heap.get?_update_other s.heap (Obj.mapSeq f) (Ne.symm hb)).trans hu) ⟨_,q⟩ ?_
  exact ⟨hz,its',_,hv,q⟩
theorem Inv.lnew {its:List Value}{t':Nat} (I:Inv X pins σ H s) (hv:Vals ys its) (hz:ys.length≤sizeLine) :
 Inv X pins σ (upd H s.heap.objs.size (.lst ys)) { s with heap:=s.heap.push { cls :=.type "list",data :=.seq its.toArray },toks:=t' } :=
  I.laid (fun _ _ q=>Heap.get?_push_of_some _ q) (Nat.le_refl _) ⟨hz,its,0,hv,Heap.get?_push_size _ rfl⟩
theorem Inv.fresh (I:Inv X pins σ H s):H s.heap.objs.size=none:=I.hok.fresh (Nat.le_refl _)
theorem Inv.lstM (I:Inv X pins σ H s) (hH:H l=some (.lst xs)):xs.length≤sizeLine ∧ ∃ (its:List Value) (n:Nat),Vals xs its∧xs.length=its.length∧s.heap.get? l=some { cls :=.type "list",data :=.seq its.toArray n }:=by
 obtain ⟨z,its,n,r,e⟩:=I.hok l _ hH
 exact ⟨z,its,n,r,r.length,e⟩
theorem notLongL {n:Nat} (h:n≤sizeLine):Builtin.List.listTooLong n=false:=by
 unfold Builtin.List.listTooLong
 exact decide_eq_false (by omega)
end
section
variable {X:Cx}
def rAppend:V→List V→Hp→VK→Prop:=fun x vs H Q => ∃ l xs y,x = .ref l∧vs=[y]∧H l=some (.lst xs)∧xs.length<sizeLine∧Q .non (upd H l (.lst (xs++[y])))
theorem mt_append:MtM X "list.append" rAppend:=by
 intro pins s σ H x vs v us Q I rx rv h
 obtain ⟨l,xs,y,rfl,rfl,hH,hz,q⟩:=h
 cases rx
 obtain ⟨u,rfl,ru⟩:=rv.one
 obtain ⟨z,its,n,r,hl,e⟩:=I.lstM hH
 refine call_meets F.slot_list_append ⟨_,e,rfl⟩ F.entry_list_append (F.args_list_append_2 _ _) (PySem.list_append l its.toArray n u (by rw [List.size_toArray];omega)) ⟨e,?_⟩
 refine ⟨.non,_,I.lset (its':=its++[u]) hH e (by simp) (r.append (.cons ru .nil)) ?_,rfl,q⟩
 rw [List.length_append,List.length_singleton]
 omega
def rExtend:V→List V→Hp→VK→Prop:=fun x vs H Q => ∃ l b xs zs,x = .ref l∧vs=[.ref b]∧H l=some (.lst xs)∧H b=some (.lst zs)∧xs.length+zs.length≤sizeLine∧Q .non (upd H l (.lst (xs++zs)))
theorem mt_extend:MtM X "list.extend" rExtend:=by
 intro pins s σ H x vs v us Q I rx rv h
 obtain ⟨l,b,xs,zs,rfl,rfl,hH,hB,hz,q⟩:=h
 cases rx
 obtain ⟨u,rfl,ru⟩:=rv.one
 cases ru
 obtain ⟨z,its,n,r,hl,e⟩:=I.lstM hH
 obtain ⟨z2,its2,n2,r2,hl2,e2⟩:=I.lstM hB
 have hsz:its.toArray.size+its2.toArray.size≤sizeLine:=by rw [List.size_toArray,List.size_toArray];omega
 have hlong : ¬ (!its.toArray.isEmpty&&Builtin.List.listTooLong (its.toArray.size+its2.toArray.size))=true:=by
  rw [notLongL hsz,Bool.and_false]
  exact Bool.false_ne_true
 refine call_meets F.slot_list_extend ⟨_,e,rfl⟩ F.entry_list_extend (F.args_list_extend_2 _ _)
  (AutoSeq1.list_extend_list_list_0 l its.toArray n b its2.toArray n2 hlong (by rw [List.size_toArray];omega) (by omega)) ⟨e,e2,?_⟩
 refine ⟨.non,_,I.lset (its':=its++its2) hH e (by simp) (r.append r2) ?_,rfl,q⟩
 rw [List.length_append]
 omega
def rRep:R2:=fun x y H Q => ∃ l k xs,x = .ref l∧y = .int k∧H l=some (.lst xs) ∧ -(2^63)≤k∧k<2^63∧xs.length*k.toNat≤sizeLine ∧
 ∀ p,H p=none→Q (.ref p) (upd H p (.lst (List.replicate k.toNat xs).flatten))
theorem len_rep {α:Type} (xs:List α) (k:Nat):(List.replicate k xs).flatten.length=k*xs.length:=by
 induction k with
 | zero=>simp
 | succ k ih=>rw [List.replicate_succ,List.flatten_cons,List.length_append,ih,Nat.succ_mul,Nat.add_comm]
theorem op_rep:OpR X (binaryOp .Mult) rRep:=by
 intro pins s σ H x y v u Q I rx ry h
 obtain ⟨l,k,xs,rfl,rfl,hH,h1,h2,hz,q⟩:=h
 cases rx
 obtain ⟨t,rfl⟩:=ry
 obtain ⟨z,its,n,r,hl,e⟩:=I.lstM hH
 have hlen:its.toArray.size*k.toNat≤sizeLine:=by rw [List.size_toArray,← hl];exact hz
 have hcap : ¬ its.toArray.size*k.toNat>(2^63-1)/8:=by
  have:(sizeLine:Nat)≤(2^63-1)/8:=by decide
  omega
 have hfit : ¬ (!Builtin.List.listFitsIndex k)=true:=by
  rw [fitsIndex_both h1 h2]
  exact Bool.false_ne_true
 have hlong : ¬ Builtin.List.listTooLong (its.toArray.size*k.toNat)=true:=by
  rw [notLongL hlen]
  exact Bool.false_ne_true
 have hnew:List.foldl (fun x1 x2=>x1++x2) #[] (List.replicate (if its.toArray.isEmpty=true then 0 else k.toNat) its.toArray)=(List.replicate k.toNat its).flatten.toArray:=by
  have f0 : ∀ m:Nat,List.foldl (fun x1 x2=>x1++x2) #[] (List.replicate m its.toArray)=(List.replicate m its).flatten.toArray:=fun m=>by
   have:=foldl_rep its m []
   rw [List.nil_append] at this
   exact this
  rw [f0]
  cases its with
  | nil=>simp
  | cons a r'=>rw [if_neg (by simp)]
 refine wpAny_binaryOp_repeat_ref (T := "list") (U := "int") (by decide) ⟨_,e,rfl⟩ (fun s'=>typeIs_int s' k t) noFill_list_mul F.fills_int_mul F.slot_int_rmul repeat_list F.slot_int_index.lookup
  (call_meets F.slot_int_rmul (typeIs_int s k t) F.entry_int_rmul (F.args_int_rmul_2 _ _) (int___rmul___int_list k t l its.toArray n)
   ⟨e,rfl,⟨_,e,rfl⟩,call_meets F.slot_list_mul ⟨_,e,rfl⟩ F.entry_list_mul (F.args_list_mul_2 _ _) (AutoListH.list___mul___list_int_3 l its.toArray n k t hfit hcap hlong) ⟨e,?_⟩⟩)
 rw [hnew]
 exact ⟨.ref _,_,I.lnew (t':=s.toks) (r.rep k.toNat) (by rw [len_rep,Nat.mul_comm];exact hz),rfl,q _ I.fresh⟩
end
section
variable {prog:Program}{w:World}{A:Around}{E:Value→Shared→Prop}{s:Shared}
set_option maxRecDepth 100000 in
end
section
variable {X:Cx}
end
end L2
namespace Att
open PySem PySem.W PySem.Calls PyProof.Rows
theorem ints_of_wellAll {P:Params}{h:Heap} : ∀ (ns:List Int) (vs:List Value),WellAll P h vs (ns.map WData.int)→IntsAre vs ns:=by
 intro ns
 induction ns with
 | nil =>
  intro vs w
  rw [List.map_nil] at w
  cases w
  exact .nil
 | cons n ns ih =>
  intro vs w
  rw [List.map_cons] at w
  cases w with
  | cons a b =>
   cases a
   exact .cons _ _ (ih _ b)
theorem script_of {l:OpenLaw}{n:Nat} (hn:l.most=some n) {P:Params}{h:Heap}{args:List WData}{vals:List Value}
 (hpre:l.row.toRowW.claim.pre args=true) (hwl:WellAll P h vals args) :
 ∃ a vs ns,vals=[Value.ref a]∧args=[WData.list (ns.map WData.int)]∧h.get? a=some { cls :=.type "list",data :=.seq vs.toArray }∧IntsAre vs ns∧ns.length≤n:=by
  have hsh:WShape.hasAll [] args [.list .int]=true:=(pre_splitW hpre).1
  have hc:l.pre.holds [] { args:=args }=true:=(pre_splitW hpre).2
  obtain ⟨d,r,rfl,h1,h2⟩:=hasAllW_cons hsh
  obtain rfl:=hasAllW_nil h2
  obtain ⟨xs,rfl,h3⟩:=hasW_list h1
  obtain ⟨ns,rfl⟩:=items_int h3
  have hlen:ns.length≤n:=by
   unfold OpenLaw.pre at hc
   have h4:(WTm.not (.lt (.lit (.int (n:Int))) (.len (.arg 0)))).holds [] { args:=[.list (ns.map .int)] }=true:=by
    have h4:=(holds_andW hc).1
    rw [hn] at h4
    exact h4
   have h5:=condW_of h4 (w_not (w_lt w_lit (w_len_list (w_arg rfl))))
   rw [List.length_map] at h5
   refine Nat.le_of_not_lt fun q=>?_
   have q':(n:Int)<((ns.length:Nat):Int):=by omega
   first
    | (rw [decide_eq_true q'] at h5;exact absurd h5 (by decide))
    | (simp at h5;omega)
  cases hwl with
  | cons w1 w2 =>
   cases w2
   cases w1 with
   | list ho hall=>exact ⟨_,_,ns,rfl,rfl,ho,ints_of_wellAll ns _ hall,hlen⟩
theorem post_true (l:OpenLaw) (args:List WData):l.row.toRowW.claim.post args (.bool true) args=true :=
 postW_of (r:=l.row.toRowW) (X:=(true==true))
  (show WShape.has [] (.bool true) .bool=true by first|rfl|decide|simp [WShape.has,WShape.arms,WShape.armsAll])
  (show (WTm.eq .res (.lit (.bool true))).value [] { args:=args,res:=some (.bool true),after:=args }=some (.bool (true==true)) from w_eq_bool (w_res rfl) w_lit) rfl
theorem attach_call {l:OpenLaw}{n:Nat}{q:Program}{loose:List Str}{XP:(Str→Option Value)→Heap→Prop}{YP:World→Heap→Prop}{d:DefRec}
 (hn:l.most=some n) (hdf:d.params.defaults=[])
 (call : ∀ (w:World) (s₀ s₁:Shared) (mg mb:Str→Option Value) (fa:Addr) (o:Obj) (pm cd doc:Value) (a:Addr) (vs:List Value) (ns:List Int),
 Ground q loose [] XP w s₀ mg mb s₁.heap→YP w s₁.heap →
 s₁.heap.get? fa=some o→o.data = .func (docDef d.name d.params d.body d.scope pm cd doc)→s₁.heap.CodeRec cd d.name→mg d.name=some (.ref fa) →
 s₁.heap.get? a=some { cls :=.type "list",data :=.seq vs.toArray }→IntsAre vs ns→ns.length≤n→s₁.gens = #[] →
  codeAny (model l.prog w) callerA (.call (.ref fa) ⟨[.ref a],[]⟩) (fun r s'=>r = .ok (.ret (.bool true))∧OldK s₁.heap s'.heap∧s'.os=s₁.os∧AllBare s'.gens) s₁) :
  WalkO q loose XP YP l.row.toRowW d [] (fun f vs=>PySem.call f vs):=by
  intro w s₀ s₁ mg mb G Y fa o pm cd doc dV kV ho hd hcd hD hmg hg args vals as hpre hlay hrd hwl hlo
  obtain rfl:dV = .none:=Dflts.none hD hdf
  obtain rfl:kV = .none:=Dflts.noKw hD
  obtain ⟨a,vs,ns,rfl,rfl,hobj,hints,hlen⟩:=script_of hn hpre hwl
  refine enter_call (codeAny_mono (call w s₀ s₁ mg mb fa o pm cd doc a vs ns G Y ho (fd_plain hd) hcd hmg hobj hints hlen hg) fun r s' hq=>?_)
  obtain ⟨rfl,h2,h3,h4⟩:=hq
  exact ⟨.inl ⟨.bool true,.bool true,[],rfl,fun _=>rfl,.bool true,post_true l _,fun _=>⟨List.Pairwise.nil,fun _ hm=>(nomatch hm)⟩⟩,h2,h3,h4⟩
section
variable {prog:Program}{w:World}{A:Around}{E:Value→Shared→Prop}{s:Shared}{K:Frag}
end
end Att
namespace L2
open PySem PySem.Spec PyProof.Rows
theorem vals_ints : ∀ {vs:List Value}{ns:List Int},IntsAre vs ns→Vals (ns.map V.int) vs
 | _,_,.nil => .nil
 | _,_,.cons n t h => .cons ⟨t,rfl⟩ (vals_ints h)
def Only (H:Hp):Prop := ∀ b,H b=none ∨ ∃ o xs,H b=some (.frz o (.lst xs))
theorem law_call {P:Program}{w:World}{K:PySem.W.Frag}{mg mb:Str→Option Value}{CX:CXT}{k:Nat}{fa a:Addr}{fd:FuncData}{x:Str}{sp:Sp}{s₁:Shared}{vs:List Value}{ns:List Int}
 (KX:K.In s₁.heap) (hns:s₁.heap.Ns mainGlobals mg) (hb:s₁.heap.Ns builtinsNs mb) (hbb : ∀ x:Str,x ≠ "__name__" → mb x=bootBuiltins x) (hlim:s₁.heap.NoLimit) (hg:s₁.gens = #[])
 (ha:s₁.heap.get? a=some { cls :=.type "list",data :=.seq vs.toArray }) (hi:IntsAre vs ns) (hl:ns.length≤sizeLine) (hr:Room k callerA)
  (F : ∀ base:Heap,K.In base→base.Ns mainGlobals mg→FnOk P w K mg base CX k fa fd [x] sp) (hbind : ∀ (s:Shared) (u:Value),BindsTo s fd ⟨[u],[]⟩ [(x,u)])
  (hsp : ∀ H:Hp,Only H→SqL K H a (ns.map V.int)→sp [.ref a] H (fun v _=>v = .bl true) fun _ _ _=>False)
  (hCX : ∀ H e s',CX [] H s₁ (fun _ _ _=>False) e s'→False) :
  codeAny (model P w) callerA (.call (.ref fa) ⟨[.ref a],[]⟩) (fun r s'=>r = .ok (.ret (.bool true))∧OldK s₁.heap s'.heap∧s'.os=s₁.os∧AllBare s'.gens) s₁:=by
  have rv:=vals_ints hi
  have lenV:=hi.length
  have core : ∀ H:Hp,Only H→SqL K H a (ns.map V.int)→HOk P w H s₁.heap→(∀ b,H b≠none→b=a)→(H a≠none→K.lookup a=none) →
   codeAny (model P w) callerA (.call (.ref fa) ⟨[.ref a],[]⟩) (fun r s'=>r = .ok (.ret (.bool true))∧OldK s₁.heap s'.heap∧s'.os=s₁.os∧AllBare s'.gens) s₁:=by
   intro H hO hS hok hA hK
   have base_of : ∀ {b:Addr}{o:Obj},s₁.heap.get? b=some o→H b=none→(hidT s₁.heap H).get? b=some o:=fun e n=>hidT_get e n
   have noA : ∀ {b:Addr}{o:Obj}{es:Array DictEntry}{ep:Nat},s₁.heap.get? b=some o→o.data = .dict es ep→H b=none:=fun {b o es ep} e d=>by
    cases q:H b with
    | none=>rfl
    | some u =>
     have e':b=a:=hA b (by rw [q];simp)
     subst e'
     rw [ha] at e;cases e
     have d':Data.seq vs.toArray _=Data.dict es ep:=d
     cases d'
   have nsK : ∀ {b:Addr}{m:Str→Option Value},s₁.heap.Ns b m→(hidT s₁.heap H).Ns b m:=fun {b m} ⟨o,es,ep,e,d,r⟩=>⟨o,es,ep,base_of e (noA e d),d,r⟩
   have hKb:K.In (hidT s₁.heap H):=fun b o e=>base_of (KX b o e) (by
    cases q:H b with
    | none=>rfl
    | some u =>
     have e':b=a:=hA b (by rw [q];simp)
     subst e'
     rw [hK (by rw [q];simp)] at e;cases e)
   have hM:Mod K mg (hidT s₁.heap H):=⟨hKb,nsK hns,⟨mb,nsK hb,hbb⟩,let ⟨mc,h1,h2⟩:=hlim; ⟨mc,nsK h1,h2⟩⟩
   have e0:Env0 P w K mg (hidT s₁.heap H) callerA [] s₁ H:=⟨rfl,hM,fun b o e=>of_hidT e,Nat.le_of_eq (hidT_size _ _),trivial,fun b hb=>absurd (show b ∈ ([]:List Addr) from hb) (by simp),hok,.of_eq hg⟩
   refine codeAny_mono ((F _ hKb (nsK hns)).run callerA [] s₁ H ⟨[.ref a],[]⟩ [.ref a] [.ref a] _ _ hr e0 (hbind s₁ (.ref a)) (.cons rfl .nil) (hsp H hO hS)) fun r s' h=>?_
   cases r with
   | error e=>exact (hCX H e s' h).elim
   | ok fl =>
    cases fl with
    | next=>exact False.elim h
    | brk=>exact False.elim h
    | cont=>exact False.elim h
    | ret u =>
     obtain ⟨v,H',os,bare,un,hok',r',q⟩:=h
     have q':v = .bl true:=q
     subst q'
     obtain rfl:u=Value.bool true:=r'
     refine ⟨rfl,OldK.of_keep fun b o e=>?_,os,bare⟩
     cases q:H b with
     | none=>exact un.keep b o e q (by intro z;exact absurd (show b ∈ ([]:List Addr) from z) (by simp)) (by simp)
     | some u =>
      rcases hO b with z|⟨ob,xs,z⟩
      ·rw [q] at z;cases z
      ·have z2:=un.frzs b ob _ z
       obtain ⟨e1,_⟩:=hok b _ z
       obtain ⟨e2,_⟩:=hok' b _ z2
       rw [e] at e1;cases e1
       exact e2
  cases hk:K.lookup a with
  | some o =>
   have e:=KX a o hk
   rw [ha] at e
   cases e
   refine core (fun _=>none) (fun _ => .inl rfl) (.inr ⟨_,vs.toArray,_,hk,rfl,rfl,rfl,by rw [List.size_toArray,lenV];exact hl,by simpa using rv⟩) (fun b u z=>by have z':(none:Option HO)=some u:=z;cases z') (fun b z=>absurd rfl z) fun z=>absurd rfl z
  | none =>
   refine core (fun b=>if b=a then some (.frz { cls :=.type "list",data :=.seq vs.toArray } (.lst (ns.map V.int))) else none) (fun b=>?_) (.inl (.inr ⟨{ cls :=.type "list",data :=.seq vs.toArray },if_pos rfl⟩)) (fun b u z=>?_) (fun b z=>?_) fun _=>hk
   ·by_cases hb:b=a
    ·exact .inr ⟨_,_,if_pos hb⟩
    ·exact .inl (if_neg hb)
   ·by_cases hb:b=a
    ·have z':=(if_pos hb).symm.trans z
     cases z'
     subst hb
     exact ⟨ha,by rw [List.length_map];exact hl,vs,_,rv,ha⟩
    ·have z':=(if_neg hb).symm.trans z
     cases z'
   ·by_cases hb:b=a
    ·exact hb
    ·exact absurd (if_neg hb) z
end L2
namespace L2
open PySem PySem.Spec PyProof.Rows
theorem walk_of {l:PySem.W.OpenLaw}{n k:Nat}{q:Program}{loose:List Str}{XP:(Str→Option Value)→Heap→Prop}{YP:World→Heap→Prop}{d:DefRec}{K:Params→PySem.W.Frag}{CX:World→CXT}{sp:World→Sp}{x:Str}
 (hn:l.most=some n) (hn2:n≤sizeLine) (hdf:d.params.defaults=[]) (hr:Room k callerA)
 (hY : ∀ (w:World) (h:Heap),YP w h→(K w.params).In h)
 (F : ∀ (w:World) (mg:Str→Option Value) (fa:Addr) (h:Heap),(K w.params).In h→h.Ns mainGlobals mg→mg d.name=some (.ref fa) →
 ∃ fd:FuncData,(∀ (s:Shared) (u:Value),BindsTo s fd ⟨[u],[]⟩ [(x,u)]) ∧
 ∀ base:Heap,(K w.params).In base→base.Ns mainGlobals mg→FnOk l.prog w (K w.params) mg base (CX w) k fa fd [x] (sp w))
 (hsp : ∀ (w:World) (H:Hp) (a:Addr) (ns:List Int),ns.length≤n→Only H→SqL (K w.params) H a (ns.map V.int)→sp w [.ref a] H (fun v _=>v = .bl true) fun _ _ _=>False)
 (hCX : ∀ (w:World) (H:Hp) (s:Shared) (e:Value) (s':Shared),CX w [] H s (fun _ _ _=>False) e s'→False) :
 PySem.W.WalkO q loose XP YP l.row.toRowW d [] (fun f vs=>PySem.call f vs):=by
  refine Att.attach_call hn hdf fun w s₀ s₁ mg mb fa o pm cd doc a vs ns G Y ho hd hcd hmg hobj hints hlen hg=>?_
  have KX:=hY w _ Y
  obtain ⟨fd,hb,hF⟩:=F w mg fa _ KX G.T.g hmg
  exact law_call KX G.T.g G.T.b G.T.builtins G.T.nolimit hg hobj hints (Nat.le_trans hlen hn2) hr hF hb (fun H hO hS=>hsp w H a ns hlen hO hS) fun H e s'=>hCX w H s₁ e s'
end L2
namespace L2
open PySem PySem.Spec PyProof.Rows
def defArgs (s:Stmt):Arguments:=match s with
 | .FunctionDef _ a _ _ _ _ _ _ _ _=>a
 | _=>{ posonlyargs:=[],args:=[],vararg:=none,kwonlyargs:=[],kw_defaults:=[],kwarg:=none,defaults:=[] }
def defBody (s:Stmt):List Stmt:=match s with
 | .FunctionDef _ _ b _ _ _ _ _ _ _=>b
 | _=>[]
def defScope (s:Stmt):Scope:=match s with
 | .FunctionDef _ _ _ _ _ _ sc _ _ _=>sc
 | _=>{ kind :=.function,names:=[],isGenerator:=false,isCoroutine:=false }
abbrev CX0:CXT:=fun _ _ _ _ _ _=>False
abbrev E0:XK:=fun _ _ _=>False
theorem pass0 {X:Cx}:Passes CX0 X E0:=fun _ _ _ _ _ _ _ h=>h.elim
structure Fun (K:PySem.W.Frag) (x qual:Str) (st:Stmt) (f:Addr) (fd:FuncData):Prop where
 ex : ∃ (oc:Value) (od:Option Addr) (kV doc pm:Value) (an:Option Addr) (cdv ct:Value) (osl:Array (Option Value)),
  fd=PySem.W.fnOf x qual (defArgs st) (defBody st) (defScope st) .none kV doc pm an cdv ct∧K.lookup f=some ⟨oc,od,.func fd,osl⟩∧PySem.W.codeIn K cdv qual=true
 kp:PySem.W.keepIn K (.ref f)=true
section
variable {P:Program}{w:World}{K:PySem.W.Frag}{mg:Str→Option Value}{base:Heap}
theorem Fun.ok {x qual:Str}{st:Stmt}{f:Addr}{fd:FuncData}{N ps:List Str}{k:Nat}{sp:Sp} (F:Fun K x qual st f fd) (S:FnScope N ps (defScope st)) (len : ∀ vs H Q E,sp vs H Q E→vs.length=ps.length)
 (hbody : ∀ (cdv:Value) (A:Around) (outer:List Env) (s:Shared) (H:Hp) (vs:List V) (Q:VK) (E:XK),Room k (A.deeper (envOfC qual (defScope st) s.heap.objs.size f cdv))→sp vs H Q E →
 ∃ t,PSs (cxOf CX0 P w K mg base N qual (defScope st) f cdv A outer s H E).nox (defBody st) t∧t { nx:=fun _ H'=>Q .non H',rt:=Q } (start N vs) H):FnOk P w K mg base CX0 (k+1) f fd ps sp:=by
  obtain ⟨oc,od,kV,doc,pm,an,cdv,ct,osl,rfl,lk,hcd⟩:=F.ex
  refine fn_of lk hcd S len fun A outer s H vs Q E hr hsp=>?_
  obtain ⟨t,h,q⟩:=hbody cdv A outer s H vs Q E hr hsp
  exact ⟨t,h.nox,q⟩
theorem Fun.binds {x qual:Str}{st:Stmt}{f:Addr}{fd:FuncData}{ps:List Str} (F:Fun K x qual st f fd)
 (h : ∀ (kV doc pm:Value) (an:Option Addr) (cdv ct:Value) (us:List Value),us.length=ps.length→bindArgs (PySem.W.fnOf x qual (defArgs st) (defBody st) (defScope st) .none kV doc pm an cdv ct) ⟨us,[]⟩=pure (ps.zip us)):Binds K fd ps []:=by
  obtain ⟨oc,od,kV,doc,pm,an,cdv,ct,osl,rfl,lk,hcd⟩:=F.ex
  exact .all (h kV doc pm an cdv ct)
theorem fun_mk {x qual:Str}{st:Stmt}{f:Addr}{oc:Value}{od an:Option Addr}{osl:Array (Option Value)}{kV doc pm cdv ct:Value} (l:K.lookup f=some ⟨oc,od,.func (PySem.W.fnOf x qual (defArgs st) (defBody st) (defScope st) .none kV doc pm an cdv ct),osl⟩)
 (c:PySem.W.codeIn K cdv qual=true) (k:PySem.W.keepIn K (.ref f)=true):Fun K x qual st f (PySem.W.fnOf x qual (defArgs st) (defBody st) (defScope st) .none kV doc pm an cdv ct):=⟨⟨oc,od,kV,doc,pm,an,cdv,ct,osl,rfl,l,c⟩,k⟩
end
theorem small1000 {n:Nat} (h:n≤1000):n<sizeLine:=Nat.lt_of_le_of_lt h (by decide)
section
variable {X:Cx}
end
theorem iteF {A B:Prop} (h:B):if false=true then A else B:=by
 rw [if_neg Bool.false_ne_true]
 exact h
theorem iteT {A B:Prop} (h:A):if true=true then A else B:=by
 rw [if_pos rfl]
 exact h
def NoT:HO→Prop
 | .tbl _=>False
 | _=>True
structure Kp (o:HO) (x:Option HO):Prop where
 to:NoT o→x=some o
 tb : ∀ ps,o = .tbl ps → ∃ ps',x=some (.tbl ps')
theorem Kp.of {o:HO}{x:Option HO} (h:x=some o):Kp o x:=⟨fun _=>h,fun ps e=>⟨ps,by rw [h,e]⟩⟩
def Same (H H':Hp):Prop := ∀ b o,H b=some o→Kp o (H' b)
theorem tbl_or (o:HO):NoT o ∨ ∃ ps,o = .tbl ps:=by
 cases o <;> first|exact .inr ⟨_,rfl⟩|exact .inl trivial
theorem Same.of {H H':Hp} (h : ∀ b o,H b=some o→H' b=some o):Same H H':=fun b o e => .of (h b o e)
theorem Same.at {H H':Hp} (s:Same H H') {b:Addr}{o:HO} (e:H b=some o) (n:NoT o:=by trivial):H' b=some o:=(s b o e).to n
theorem Same.any {H H':Hp} (s:Same H H') {b:Addr}{o:HO} (e:H b=some o) : ∃ o',H' b=some o':=by
 rcases tbl_or o with n|⟨ps,rfl⟩
 ·exact ⟨o,(s b o e).to n⟩
 ·obtain ⟨ps',e'⟩:=(s b _ e).tb ps rfl
  exact ⟨_,e'⟩
theorem Same.refl (H:Hp):Same H H :=.of fun _ _ h=>h
theorem Same.trans {H H1 H2:Hp} (a:Same H H1) (b:Same H1 H2):Same H H2:=fun c o h=>⟨fun n=>(b c o ((a c o h).to n)).to n,fun ps e=>let ⟨ps',e'⟩:=(a c o h).tb ps e; (b c _ e').tb ps' rfl⟩
theorem Same.free {H H':Hp} (e:Same H H') {l:Addr} (h:H' l=Option.none):H l=Option.none:=by
 cases q:H l with
 | none=>rfl
 | some o =>
  obtain ⟨o',z⟩:=e.any q
  rw [z] at h
  cases h
theorem Same.seq {K:PySem.W.Frag}{H H':Hp}{a:Addr}{xs:List V} (e:Same H H') (h:SqL K H a xs):SqL K H' a xs:=by
 rcases h with (h|⟨o,h⟩)|h
 ·exact .inl (.inl (e.at h))
 ·exact .inl (.inr ⟨o,e.at h⟩)
 ·exact .inr h
end L2
namespace L2
open PySem PySem.Spec PyProof.Rows
mutual
def Is (K:PySem.W.Frag) (H:Hp):PyData→V→Prop
 | .none,v=>v = .non
 | .bool b,v=>v = .bl b
 | .int i,v=>v = .int i
 | .str x,v=>v = .str x
 | .list l,v => ∃ a xs,v = .ref a∧SqL K H a xs∧Iss K H l xs
 | .tuple l,v => ∃ a xs,v = .ref a∧SqT K H a xs∧Iss K H l xs
 | .dict l,v => ∃ a kvs,v = .ref a∧H a=some (.dK kvs)∧(!l.isEmpty) = !kvs.isEmpty
def Iss (K:PySem.W.Frag) (H:Hp):List PyData→List V→Prop
 | [],xs=>xs=[]
 | d::l,xs => ∃ x r,xs=x::r∧Is K H d x∧Iss K H l r
end
instance {o:HO}{x:Option HO}:Coe (x=some o) (Kp o x):=⟨Kp.of⟩
instance {l:List V}{x:Option HO}:CoeOut (Kp (.lst l) x) (x=some (.lst l)):=⟨fun k=>k.to trivial⟩
instance {l:List V}{x:Option HO}:CoeOut (Kp (.tup l) x) (x=some (.tup l)):=⟨fun k=>k.to trivial⟩
instance {l:List (Key×V)}{x:Option HO}:CoeOut (Kp (.dK l) x) (x=some (.dK l)):=⟨fun k=>k.to trivial⟩
instance {l:List (List Key×V)}{x:Option HO}:CoeOut (Kp (.dT l) x) (x=some (.dT l)):=⟨fun k=>k.to trivial⟩
instance {C d:Addr}{l:List (Str×V)}{x:Option HO}:CoeOut (Kp (.ins C d l) x) (x=some (.ins C d l)):=⟨fun k=>k.to trivial⟩
instance {f:Heap→Prop}{x:Option HO}:CoeOut (Kp (.ext f) x) (x=some (.ext f)):=⟨fun k=>k.to trivial⟩
theorem same_rd {H H':Hp}{a:Addr}{u:HO} (s:Same H H') (h:Rd H a u) (n:NoT u:=by trivial):Rd H' a u:=by
 rcases h with h|⟨o,h⟩
 ·exact .inl (s.at h n)
 ·exact .inr ⟨o,s.at h⟩
theorem same_seqT {K:PySem.W.Frag}{H H':Hp}{a:Addr}{xs:List V} (s:Same H H') (h:SqT K H a xs):SqT K H' a xs:=by
 rcases h with h|h
 ·exact .inl (same_rd s h)
 ·exact .inr h
theorem same_new {H:Hp}{p:Addr}{o:HO} (h:H p=none):Same H (upd H p o) :=.of fun b u e=>by
 rw [upd_ne (ne_of_none e h)];exact e
mutual
theorem Is.mono {K:PySem.W.Frag}{H H':Hp} (s:Same H H') : ∀ {d:PyData}{v:V},Is K H d v→Is K H' d v
 | .none,_,h=>by unfold Is at h ⊢;exact h
 | .bool _,_,h=>by unfold Is at h ⊢;exact h
 | .int _,_,h=>by unfold Is at h ⊢;exact h
 | .str _,_,h=>by unfold Is at h ⊢;exact h
 | .list l,_,h=>by
  unfold Is at h ⊢
  obtain ⟨a,xs,e,q,r⟩:=h
  exact ⟨a,xs,e,s.seq q,Iss.mono s r⟩
 | .tuple l,_,h=>by
  unfold Is at h ⊢
  obtain ⟨a,xs,e,q,r⟩:=h
  exact ⟨a,xs,e,same_seqT s q,Iss.mono s r⟩
 | .dict _,_,h=>by
  unfold Is at h ⊢
  obtain ⟨a,kvs,e,q,m⟩:=h
  exact ⟨a,kvs,e,s.at q,m⟩
theorem Iss.mono {K:PySem.W.Frag}{H H':Hp} (s:Same H H') : ∀ {l:List PyData}{xs:List V},Iss K H l xs→Iss K H' l xs
 | [],_,h=>by unfold Iss at h ⊢;exact h
 | d::l,_,h=>by
  unfold Iss at h ⊢
  obtain ⟨x,r,e,p,q⟩:=h
  exact ⟨x,r,e,Is.mono s p,Iss.mono s q⟩
end
section
variable {K:PySem.W.Frag}{H H':Hp}
theorem is_non:Is K H .none .non:=by unfold Is;rfl
theorem is_bl (b:Bool):Is K H (.bool b) (.bl b):=by unfold Is;rfl
theorem is_int (i:Int):Is K H (.int i) (.int i):=by unfold Is;rfl
theorem is_str (x:Str):Is K H (.str x) (.str x):=by unfold Is;rfl
theorem is_lst {a:Addr}{xs:List V}{l:List PyData} (h:SqL K H a xs) (r:Iss K H l xs):Is K H (.list l) (.ref a):=by unfold Is;exact ⟨a,xs,rfl,h,r⟩
theorem is_tup {a:Addr}{xs:List V}{l:List PyData} (h:SqT K H a xs) (r:Iss K H l xs):Is K H (.tuple l) (.ref a):=by unfold Is;exact ⟨a,xs,rfl,h,r⟩
theorem iss_nil:Iss K H [] []:=by unfold Iss;rfl
theorem iss_cons {d:PyData}{l:List PyData}{x:V}{xs:List V} (h:Is K H d x) (r:Iss K H l xs):Iss K H (d::l) (x::xs):=by unfold Iss;exact ⟨x,xs,rfl,h,r⟩
theorem Is.bl_inv {b:Bool}{v:V} (h:Is K H (.bool b) v):v = .bl b:=by unfold Is at h;exact h
theorem Is.int_inv {i:Int}{v:V} (h:Is K H (.int i) v):v = .int i:=by unfold Is at h;exact h
theorem Is.non_inv {v:V} (h:Is K H .none v):v = .non:=by unfold Is at h;exact h
theorem Is.lst_inv {l:List PyData}{v:V} (h:Is K H (.list l) v) : ∃ a xs,v = .ref a∧SqL K H a xs∧Iss K H l xs:=by unfold Is at h;exact h
theorem Is.tup_inv {l:List PyData}{v:V} (h:Is K H (.tuple l) v) : ∃ a xs,v = .ref a∧SqT K H a xs∧Iss K H l xs:=by unfold Is at h;exact h
theorem Is.dct_inv {l:List (PyData×PyData)}{v:V} (h:Is K H (.dict l) v) : ∃ a kvs,v = .ref a∧H a=some (.dK kvs)∧(!l.isEmpty) = !kvs.isEmpty:=by unfold Is at h;exact h
theorem Iss.nil_inv {xs:List V} (h:Iss K H [] xs):xs=[]:=by unfold Iss at h;exact h
theorem Iss.cons_inv {d:PyData}{l:List PyData}{xs:List V} (h:Iss K H (d::l) xs) : ∃ x r,xs=x::r∧Is K H d x∧Iss K H l r:=by unfold Iss at h;exact h
theorem Iss.len : ∀ {l:List PyData}{xs:List V},Iss K H l xs→xs.length=l.length
 | [],_,h=>by rw [h.nil_inv];rfl
 | d::l,_,h=>by
  obtain ⟨x,r,rfl,_,q⟩:=h.cons_inv
  simp [Iss.len q]
theorem Iss.get : ∀ {l:List PyData}{xs:List V}{i:Nat}{d:PyData},Iss K H l xs→l[i]?=some d → ∃ x,xs[i]?=some x∧Is K H d x
 | [],_,i,d,h,e=>by simp at e
 | d'::l,_,0,d,h,e=>by
  obtain ⟨x,r,rfl,p,q⟩:=h.cons_inv
  simp at e;subst e
  exact ⟨x,rfl,p⟩
 | d'::l,_,i+1,d,h,e=>by
  obtain ⟨x,r,rfl,p,q⟩:=h.cons_inv
  obtain ⟨y,e1,e2⟩:=Iss.get q (show l[i]?=some d by simpa using e)
  exact ⟨y,by simpa using e1,e2⟩
theorem Iss.get' : ∀ {l:List PyData}{xs:List V}{i:Nat}{x:V},Iss K H l xs→xs[i]?=some x → ∃ d,l[i]?=some d∧Is K H d x:=fun {l xs i x} h e=>by
 have hl:=h.len
 have hi:i<xs.length:=(List.getElem?_eq_some_iff.mp e).1
 obtain ⟨d,hd⟩ : ∃ d,l[i]?=some d:=⟨l[i]'(by omega),List.getElem?_eq_getElem _⟩
 obtain ⟨y,e1,e2⟩:=h.get hd
 rw [e] at e1;cases e1
 exact ⟨d,hd,e2⟩
theorem iss_append : ∀ {l m:List PyData}{xs ys:List V},Iss K H l xs→Iss K H m ys→Iss K H (l++m) (xs++ys)
 | [],m,_,ys,h,h'=>by rw [h.nil_inv];exact h'
 | d::l,m,_,ys,h,h'=>by
  obtain ⟨x,r,rfl,p,q⟩:=h.cons_inv
  exact iss_cons p (iss_append q h')
theorem iss_take : ∀ {l:List PyData}{xs:List V} (n:Nat),Iss K H l xs→Iss K H (l.take n) (xs.take n)
 | _,_,0,_=>iss_nil
 | [],_,n+1,h=>by rw [h.nil_inv];exact iss_nil
 | d::l,_,n+1,h=>by
  obtain ⟨x,r,rfl,p,q⟩:=h.cons_inv
  exact iss_cons p (iss_take n q)
theorem iss_drop : ∀ {l:List PyData}{xs:List V} (n:Nat),Iss K H l xs→Iss K H (l.drop n) (xs.drop n)
 | _,_,0,h=>h
 | [],_,n+1,h=>by rw [h.nil_inv];exact iss_nil
 | d::l,_,n+1,h=>by
  obtain ⟨x,r,rfl,p,q⟩:=h.cons_inv
  exact iss_drop n q
theorem iss_ints : ∀ ns:List Int,Iss K H (ns.map .int) (ns.map V.int)
 | []=>iss_nil
 | n::ns=>iss_cons (is_int n) (iss_ints ns)
theorem Iss.ints_inv : ∀ {ns:List Int}{xs:List V},Iss K H (ns.map .int) xs→xs=ns.map V.int
 | [],_,h=>h.nil_inv
 | n::ns,_,h=>by
  obtain ⟨x,r,rfl,p,q⟩:=h.cons_inv
  rw [p.int_inv,Iss.ints_inv q];rfl
end
section
variable {X:Cx}{pins:List (Addr×Obj)}{σ:St}{H:Hp}{s:Shared}
mutual
theorem Is.reads (I:Inv X pins σ H s) : ∀ {d:PyData}{x:V}{u:Value},d.canLay0=true→Is X.K H d x→RelV x u → ∃ as,Reads s.heap u d as
 | .none,_,u,_,h,r=>by
  rw [h.non_inv] at r;cases r;exact ⟨_,.none⟩
 | .bool b,_,u,_,h,r=>by
  rw [h.bl_inv] at r;cases r;exact ⟨_,.bool b⟩
 | .int i,_,u,_,h,r=>by
  rw [h.int_inv] at r;obtain ⟨t,rfl⟩:=r;exact ⟨_,.int i t⟩
 | .str x,_,u,_,h,r=>by
  unfold Is at h
  subst h
  obtain ⟨t,rfl⟩:=r;exact ⟨_,.str x t⟩
 | .list l,_,u,z,h,r=>by
  obtain ⟨a,xs,rfl,q,p⟩:=h.lst_inv
  cases r
  obtain ⟨its,rv,pl,_⟩:=I.list q
  obtain ⟨o,ho,hc,n,hd⟩:=pl.isList
  obtain ⟨as,ra⟩:=Iss.reads I (by simpa [PyData.canLay0] using z) p rv
  exact ⟨_,.list ho hc hd (by rw [List.toList_toArray];exact ra)⟩
 | .tuple l,_,u,z,h,r=>by
  obtain ⟨a,xs,rfl,q,p⟩:=h.tup_inv
  cases r
  obtain ⟨its,rv,pl,_⟩:=I.tuple q
  obtain ⟨o,ho,hc,n,hd⟩:=pl
  obtain ⟨as,ra⟩:=Iss.reads I (by simpa [PyData.canLay0] using z) p rv
  exact ⟨_,.tuple ho hc hd (by rw [List.toList_toArray];exact ra)⟩
 | .dict _,_,u,z,h,r=>by simp [PyData.canLay0] at z
theorem Iss.reads (I:Inv X pins σ H s) : ∀ {l:List PyData}{xs:List V}{us:List Value},PyData.canLayAll0 l=true→Iss X.K H l xs→Vals xs us → ∃ as,ReadsAll s.heap us l as
 | [],_,us,_,h,r=>by
  rw [h.nil_inv] at r;cases r;exact ⟨_,.nil⟩
 | d::l,_,us,z,h,r=>by
  have z':d.canLay0=true∧PyData.canLayAll0 l=true:=by simpa [PyData.canLayAll0] using z
  obtain ⟨x,y,rfl,p,q⟩:=h.cons_inv
  cases r with
  | cons r1 r2 =>
   obtain ⟨as,ra⟩:=Is.reads I z'.1 p r1
   obtain ⟨bs,rb⟩:=Iss.reads I z'.2 q r2
   exact ⟨_,.cons ra rb⟩
end
end
section
variable {X:Cx}
def rEqD (K:PySem.W.Frag):R2:=fun x y H Q => ∃ d e,Is K H d x∧Is K H e y∧SeqAt.shaped d=true∧SeqAt.shaped e=true∧Q (.bl (PyData.eqv d e)) H
def rNeD (K:PySem.W.Frag):R2:=fun x y H Q => ∃ d e,Is K H d x∧Is K H e y∧SeqAt.shaped d=true∧SeqAt.shaped e=true∧Q (.bl (!PyData.eqv d e)) H
theorem op_eqD (hu:X.A.units+64<cLine):OpR X (compareOp .Eq) (rEqD X.K):=by
 intro pins s σ H x y v u Q I rx ry h
 obtain ⟨d,e,h1,h2,z1,z2,q⟩:=h
 obtain ⟨as,ra⟩:=Is.reads I (Bool.and_eq_true_iff.mp z1).1 h1 rx
 obtain ⟨bs,rb⟩:=Is.reads I (Bool.and_eq_true_iff.mp z2).1 h2 ry
 exact SeqAt.compareEq_shaped ra rb z1 z2 hu ⟨.bl (PyData.eqv d e),H,I,rfl,q⟩
theorem op_neD (hu:X.A.units+64<cLine):OpR X (compareOp .NotEq) (rNeD X.K):=by
 intro pins s σ H x y v u Q I rx ry h
 obtain ⟨d,e,h1,h2,z1,z2,q⟩:=h
 obtain ⟨as,ra⟩:=Is.reads I (Bool.and_eq_true_iff.mp z1).1 h1 rx
 obtain ⟨bs,rb⟩:=Is.reads I (Bool.and_eq_true_iff.mp z2).1 h2 ry
 exact SeqAt.compareNe_shaped ra rb z1 z2 hu ⟨.bl (!PyData.eqv d e),H,I,rfl,q⟩
theorem op_mulB:OpR X (binaryOp .Mult) (rI IntMulOk fun i j => .int (i*j)):=opI fun _ _ _ _ _ _ _ hc q=>mul_int q hc
def CDivB (_ j:Int):Prop:=j≠0∧Builtin.Int.intBits j≤9000
theorem op_fdivB:OpR X (binaryOp .FloorDiv) (rI CDivB fun i j => .int (i.fdiv j)):=opI fun i j _ _ _ _ _ hc q=>by
 refine floordiv_int hc.1 q (.inl (PyProof.noPylong_of_log2 ?_))
 have h:=hc.2
 unfold Builtin.Int.intBits at h
 rw [if_neg (by simpa using hc.1)] at h
 omega
def rCatS (K:PySem.W.Frag):R2:=fun x y H Q => ∃ a b xs zs,x = .ref a∧y = .ref b∧SqL K H a xs∧SqL K H b zs∧xs.length+zs.length≤sizeLine ∧
 ∀ p,H p=none→Q (.ref p) (upd H p (.lst (xs++zs)))
theorem op_catS:OpR X (binaryOp .Add) (rCatS X.K):=by
 intro pins s σ H x y v u Q I rx ry h
 obtain ⟨a,b,xs,zs,rfl,rfl,hA,hB,hz,q⟩:=h
 cases rx
 cases ry
 obtain ⟨its,r,pl,z1⟩:=I.list hA
 obtain ⟨its2,r2,pl2,z2⟩:=I.list hB
 have l1:=r.length
 have l2:=r2.length
 obtain ⟨⟨cls,dd,data,sl⟩,ho,hc,n,hd⟩:=pl.isList
 obtain ⟨⟨cls2,dd2,data2,sl2⟩,ho2,hc2,n2,hd2⟩:=pl2.isList
 simp only at hc hd hc2 hd2
 subst hc hd hc2 hd2
 have e:its.toArray++its2.toArray=(its++its2).toArray:=by simp
 refine concat_meets ⟨_,ho,rfl⟩ ⟨_,ho2,rfl⟩ noFill_list_add seq_list_add PySem.F.slot_list_add PySem.F.entry_list_add (PySem.F.args_list_add_2 _ _) (list_addW a b its.toArray its2.toArray n n2 dd dd2 sl sl2 (by simp only [List.size_toArray];omega)) ⟨ho,ho2,?_⟩
 rw [e]
 exact ⟨.ref _,_,I.lnew (t':=s.toks) (r.append r2) (by rw [List.length_append];omega),rfl,q _ I.fresh⟩
def tyD:PyData→String
 | .none => "NoneType"
 | .bool _ => "bool"
 | .int _ => "int"
 | .str _ => "str"
 | .list _ => "list"
 | .tuple _ => "tuple"
 | .dict _ => "dict"
theorem isinst_D {pins:List (Addr×Obj)}{σ:St}{H:Hp}{s:Shared}{A:Around}{E:Value→Shared→Prop}{Q:Value→Shared→Prop}{c:Value}{b:Bool}{d:PyData}{x:V}{u:Value}
 (I:Inv X pins σ H s) (hd:Is X.K H d x) (rx:RelV x u) (e:PySem.W.kitOne X.K (.type (tyD d)) c=some b) (h : ∀ tk,Q (.bool b) { s with toks:=tk }) :
  wpAny (model X.prog X.w) A (call (.builtin "isinstance") [u,c]) Q E s:=by
  cases d with
  | none=>rw [hd.non_inv] at rx;cases rx;exact PySem.W.kia_one PySem.W.kitx_none I.kIn True.intro e (fun z=>nomatch z) h
  | bool y=>rw [hd.bl_inv] at rx;cases rx;exact PySem.W.kia_one PySem.W.kitx_bool I.kIn True.intro e (fun z=>nomatch z) h
  | int i=>rw [hd.int_inv] at rx;obtain ⟨t,rfl⟩:=rx;exact PySem.W.kia_one PySem.W.kitx_int I.kIn True.intro e (fun z=>nomatch z) h
  | str y =>
   unfold Is at hd
   subst hd
   obtain ⟨t,rfl⟩:=rx;exact PySem.W.kia_one PySem.W.kitx_str I.kIn True.intro e (fun z=>nomatch z) h
  | list l =>
   obtain ⟨a,xs,rfl,q,_⟩:=hd.lst_inv
   cases rx
   obtain ⟨its,_,pl,_⟩:=I.list q
   obtain ⟨o,ho,hc,_⟩:=pl.isList
   exact PySem.W.kia_one PySem.W.kitx_list I.kIn ⟨o,ho,hc⟩ e (fun z=>nomatch z) h
  | tuple l =>
   obtain ⟨a,xs,rfl,q,_⟩:=hd.tup_inv
   cases rx
   obtain ⟨its,_,pl,_⟩:=I.tuple q
   obtain ⟨o,ho,hc,_⟩:=pl
   exact PySem.W.kia_one PySem.W.kitx_tuple I.kIn ⟨o,ho,hc⟩ e (fun z=>nomatch z) h
  | dict l =>
   obtain ⟨a,kvs,rfl,q,_⟩:=hd.dct_inv
   cases rx
   obtain ⟨_,_,vs,_,p⟩:=(show ObjOk X.prog X.w H s.heap a (.dK kvs) from I.hok a _ q)
   obtain ⟨o,es,ep,h1,h2,_⟩:=p
   exact PySem.W.kia_one PySem.W.kitx_dict I.kIn ⟨o,h1,h2.1⟩ e (fun z=>nomatch z) h
def rIsD (K:PySem.W.Frag):List V→Hp→VK→Prop:=fun xs H Q => ∃ d x n b,xs=[x,.ty n]∧Is K H d x∧PySem.W.kitOne K (.type (tyD d)) (.type n)=some b∧Q (.bl b) H
theorem call_isi:CallR X (.builtin "isinstance") (rIsD X.K):=by
 intro pins s σ H xs us Q I r h
 obtain ⟨d,x,n,b,rfl,hd,e,q⟩:=h
 obtain ⟨u,c,rfl,rx,rc⟩:=vals2 r
 cases rc
 exact isinst_D I hd rx e fun tk=>⟨.bl b,H,I.tok tk,rfl,q⟩
theorem Iss.atI {K:PySem.W.Frag}{H:Hp}{l:List PyData}{xs:List V}{i:Int}{d:PyData} (h:Iss K H l xs) (e:L2.atI l i=some d) : ∃ x,L2.atI xs i=some x∧Is K H d x:=by
 unfold L2.atI at e ⊢
 rw [h.len]
 cases q:ixN l.length i with
 | none=>rw [q] at e;cases e
 | some j =>
  rw [q] at e
  exact h.get e
end
def Ite (K:PySem.W.Frag) (a:Addr):It :=
 ⟨fun i H => ∃ xs x,SqL K H a xs∧xs[i]?=some x,fun i H v H' => ∃ p x,(∀ xs,SqL K H a xs→xs[i]?=some x)∧H p=none∧v = .ref p∧H'=upd H p (.tup [.int i,x]),fun i H => ∃ xs,SqL K H a xs∧xs.length≤i⟩
theorem turn_enum {P:Program}{w:World}{K:PySem.W.Frag}{elts:List Expr}{x1:Nat}{tpos:Pos} (a e it:Addr) (hne:e≠it) :
 Turn P w K (.Tuple elts x1 tpos) (Ite K a) [e,it] e (fun i h=>(∃ old,IsEnum h e it (i:Nat) old)∧h.IsListIter it a i) where
  mem:=by simp
  obj:=fun i h st b hb=>by
   obtain ⟨⟨old,s1⟩,s2⟩:=st
   have hb':b=e∨b=it:=by simpa using hb
   rcases hb' with rfl|rfl
   ·exact ⟨_,s1,fun v z=>by have z':Data.fields _=Data.cell v:=z;cases z'⟩
   ·obtain ⟨o,q,c,d⟩:=s2
    exact ⟨o,q,fun v z=>by rw [d] at z;cases z⟩
  keep:=fun i h h' st k=>by
   obtain ⟨⟨old,s1⟩,s2⟩:=st
   exact ⟨⟨old,k e (by simp) _ s1⟩,s2.at fun o q=>k it (by simp) o q⟩
  item:=by
   intro X hP hw hK hc i pins s σ H E I hf st hg
   subst hP hw hK
   obtain ⟨xs,x,hq,hx⟩:=hg
   obtain ⟨its,rv,p,hz⟩:=I.list hq
   obtain ⟨u,hu,ru⟩:=rv.get hx
   obtain ⟨⟨old,s1⟩,s2⟩:=st
   obtain ⟨f0,f1,f2,f3,f4,f5⟩:=hf e (by simp)
   obtain ⟨g0,g1,g2,g3,g4,g5⟩:=hf it (by simp)
   have hel:e<s.heap.objs.size:=Heap.lt_size s1
   refine wpAny_pyNext_enum_item s1 s2 p.isList (x:=u) (by simpa using hu) hne fun h₁ ho hi ht hz₁ hk=>⟨_,rfl,?_⟩
   refine wpAny_letOwnedTupleGo_enum (s:={ s with heap:=h₁,toks:=s.toks+1 }) ho fun h₂ he₂ hs₂=>?_
   replace hs₂:Heap.SameBut e h₁ h₂:=hs₂
   have fresh:H s.heap.objs.size=none:=I.hok.fresh (Nat.le_refl _)
   have kk : ∀ b o,b≠e→b≠it→s.heap.get? b=some o→h₂.get? b=some o:=fun b o b1 b2 q=>hs₂.extBut b o b1 (hk b o b1 b2 q)
   have nb : ∀ b v,H b=some v→b≠e∧b≠it:=fun b v q=>⟨fun z=>(by rw [z,f0] at q;cases q),fun z=>(by rw [z,g0] at q;cases q)⟩
   have ht₂:h₂.get? s.heap.objs.size=some { cls :=.type "tuple",data :=.seq #[.int i s.toks,u] }:=(hs₂.2 _ (Nat.ne_of_gt hel)).trans ht
   have I1:Inv X pins σ (upd H s.heap.objs.size (.tup [.int i,x])) { s with heap:=h₂,toks:=s.toks+1 }:=by
    refine I.step (g':=s.gens) (d':=s.drawn) (ch:=[e,it]) (fun b hb=>?_) (fun b o _ _ hc q _=>kk b o (fun z=>hc (by simp [z])) (fun z=>hc (by simp [z])) q)
     (fun b o _ _ hc q _=>⟨o.slots,kk b o (fun z=>hc (by simp [z])) (fun z=>hc (by simp [z])) q⟩) (fun b o _ q n=>by rw [upd_ne (Nat.ne_of_lt (Heap.lt_size q))];exact n)
     (fun b o hc q=>⟨o,kk b o (fun z=>hc (by simp [z])) (fun z=>hc (by simp [z])) q⟩) (fun b ys q=>by rw [upd_ne (ne_of_none q fresh)];exact q) (fun b o v q=>by rw [upd_ne (ne_of_none q fresh)];exact q)
     (fun b ps q=>⟨#[],by rw [upd_ne (ne_of_none q fresh),q];simp,.nil⟩) (fun m hm=>?_) (fun b v q=>?_) I.bare
    ·have hb':b=e∨b=it:=by simpa using hb
     rcases hb' with rfl|rfl
     ·exact ⟨f3,f1,f4,f5⟩
     ·exact ⟨g3,g1,g4,g5⟩
    ·obtain ⟨o,es,ep,ho',r⟩:=hm
     exact ⟨o,es,ep,kk _ o (Ne.symm f1) (Ne.symm g1) ho',r⟩
    ·by_cases hb:b=s.heap.objs.size
     ·subst hb
      rw [upd_same] at q
      cases q
      exact ⟨(by show 2≤sizeLine;decide),[.int i s.toks,u],.cons ⟨s.toks,rfl⟩ (.cons ru .nil),⟨_,ht₂,rfl,_,rfl⟩⟩
     ·rw [upd_ne hb] at q
      refine (I.hok b v q).stay (fun c ob hc z=>?_) (fun c z=>by rw [upd_ne (ne_of_none z fresh)];exact z) fun c ys z=>by rw [upd_ne (ne_of_none z fresh)];exact z
      rcases hc with hc|hc
      ·subst hc;exact kk _ _ (nb _ _ q).1 (nb _ _ q).2 z
      ·exact kk _ _ (nb _ _ hc).1 (nb _ _ hc).2 z
   refine ⟨.ref s.heap.objs.size,_,I1,rfl,⟨s.heap.objs.size,x,fun ys hy=>by rw [I.list_inj hy hq];exact hx,fresh,rfl,rfl⟩,⟨⟨u,?_⟩,?_⟩,fun b hb=>?_⟩
   ·have e1:((i+1:Nat):Int)=(i:Int)+1:=by push_cast;rfl
    rw [e1];exact he₂
   ·exact hi.extBut hs₂.extBut (Ne.symm hne)
   ·have hb':b=e∨b=it:=by simpa using hb
    have hlt:b<s.heap.objs.size:=by
     rcases hb' with rfl|rfl
     ·exact hel
     ·obtain ⟨o,q,_⟩:=s2;exact Heap.lt_size q
    rw [upd_ne (Nat.ne_of_lt hlt)]
    exact (hf b hb).1
  done:=by
   intro X hP hw hK hc i pins s σ H E I hf st hg
   subst hP hw hK
   obtain ⟨xs,hq,hx⟩:=hg
   obtain ⟨its,rv,p,hz⟩:=I.list hq
   obtain ⟨⟨old,s1⟩,s2⟩:=st
   obtain ⟨g0,g1,g2,g3,g4,g5⟩:=hf it (by simp)
   have hl:=rv.length
   exact wpAny_pyNext_enum_end (I.ok.hd hc) s1 s2 p.isList (by simp;omega) fun h' eb=>⟨rfl,I.turned (t':=s.toks) (fun b o hb q=>eb b o hb q) g0 g1 g3 g4 g5⟩
  self:=fun A i s Q E st h=>by
   obtain ⟨⟨old,s1⟩,s2⟩:=st
   exact wpAny_pyIter_enum s1 h
section
variable {X:Cx}{elts:List Expr}{x1:Nat}{tpos:Pos}
def iEnum (K:PySem.W.Frag) (ta:TA):TI:=fun σ H R=>ta σ H fun vs H1 => ∃ a,vs=[.ref a]∧(∃ xs,SqL K H1 a xs)∧R (Ite K a) H1
theorem pi_enum {a:Expr}{ta:TA}{p pos:Pos} (hg:Gl X "enumerate") (hm:X.mg "enumerate" = none) (ha:PA X [a] ta) (hs:starEach [a] X.env=[(false,eval a X.env)]:=by rfl) :
 PI X (.Tuple elts x1 tpos) (.Call (.Name "enumerate" p) [a] [] pos) (iEnum X.K ta):=by
 intro pins s σ H R I h
 refine Call_ (ld_blt I hg hm boot_enumerate (PyProof.Rows.callWith_type1 (thn (ha pos pins s σ H _ I h) fun us s1 xx49=>?_) hs rfl))
 obtain ⟨vs,H1,I1,r1,q1⟩:=xx49
 obtain ⟨l,e,⟨xs,hq⟩,q⟩:=q1
 subst e
 cases r1 with
 | cons r rr =>
  cases rr
  cases r
  obtain ⟨its,rv,pl,hz⟩:=I1.list hq
  refine call_enumerate_list pl.isList fun h' he hi hz' hk=>?_
  refine wpAny_pyIter_enum he ?_
  have I2:Inv X pins σ H1 { s1 with heap:=h' }:=I1.kept (t':=s1.toks) hk
  refine ⟨s1.heap.objs.size+1,[s1.heap.objs.size+1,s1.heap.objs.size],_,_,H1,rfl,I2,turn_enum l _ _ (Nat.succ_ne_self _),⟨⟨_,he⟩,hi⟩,fun b hb=>?_,q⟩
  have hb':b=s1.heap.objs.size+1∨b=s1.heap.objs.size:=by simpa using hb
  have hle:s1.heap.objs.size≤b:=by
   rcases hb' with rfl|rfl
   ·exact Nat.le_succ _
   ·exact Nat.le_refl _
  exact I1.fpOk hle (I1.hok.fresh hle)
end
theorem szl {α:Type}{l:List α} (h:decide (l.length≤1000)=true:=by rfl):l.length≤sizeLine:=Nat.le_of_lt (small1000 (of_decide_eq_true h))
theorem eqv_int (i j:Int):PyData.eqv (.int i) (.int j)=(i==j):=by simp only [PyData.eqv]
theorem ite_ne {i j:Int}{A B:Prop} (h1:i≠j→A) (h2:i=j→B):if (!PyData.eqv (.int i) (.int j))=true then A else B:=by
 rw [eqv_int]
 by_cases h:i=j
 ·subst h;simpa using h2 rfl
 ·have e:(i==j)=false:=by simpa using h
  rw [e];simpa using h1 h
theorem ite_eq {i j:Int}{A B:Prop} (h1:i=j→A) (h2:i≠j→B):if (PyData.eqv (.int i) (.int j))=true then A else B:=by
 rw [eqv_int]
 by_cases h:i=j
 ·subst h;simpa using h1 rfl
 ·have e:(i==j)=false:=by simpa using h
  rw [e];simpa using h2 h
theorem iteD {p A B:Prop} [Decidable p] (h1:p→A) (h2 : ¬ p→B):if decide p=true then A else B:=by
 by_cases h:p
 ·simpa [h] using h1 h
 ·simpa [h] using h2 h
theorem atI_ints {ns:List Int}{i:Int} (h0:0≤i) (h1:i<ns.length) : ∃ n,L2.atI (ns.map PyData.int) i=some (.int n):=by
 have hi:i.toNat<ns.length:=by omega
 refine ⟨ns[i.toNat],?_⟩
 have e:(ns.map PyData.int)[i.toNat]?=some (.int ns[i.toNat]):=by simp [hi]
 have:=atI_nat e
 rwa [Int.toNat_of_nonneg h0] at this
theorem boot_abs:bootBuiltins "abs" = some (.builtin "abs"):=by decide +kernel
theorem boot_max:bootBuiltins "max" = some (.builtin "max"):=by decide +kernel
theorem boot_min:bootBuiltins "min" = some (.builtin "min"):=by decide +kernel
theorem boot_len:bootBuiltins "len" = some (.builtin "len"):=by decide +kernel
theorem boot_isinstance:bootBuiltins "isinstance" = some (.builtin "isinstance"):=by decide +kernel
theorem boot_int:bootBuiltins "int" = some (.type "int"):=by decide +kernel
theorem boot_bool:bootBuiltins "bool" = some (.type "bool"):=by decide +kernel
theorem boot_tuple:bootBuiltins "tuple" = some (.type "tuple"):=by decide +kernel
section
variable {K:PySem.W.Frag}
end
structure Def (K:PySem.W.Frag) (mg:Str→Option Value) (x:Str) (st:Stmt) (ps:List Str):Prop where
 ex : ∃ (f:Addr) (fd:FuncData),Fun K x x st f fd∧mg x=some (.ref f)∧Binds K fd ps []
structure Ok (P:Program) (w:World) (K:PySem.W.Frag) (mg:Str→Option Value) (base:Heap) (x:Str) (k:Nat) (ps:List Str) (sp:Sp):Prop where
 ex : ∃ (f:Addr) (fd:FuncData),FnOk P w K mg base CX0 k f fd ps sp∧mg x=some (.ref f)∧PySem.W.keepIn K (.ref f)=true∧Binds K fd ps []
section
variable {P:Program}{w:World}{K:PySem.W.Frag}{mg:Str→Option Value}{base:Heap}
theorem Def.ok {x:Str}{st:Stmt}{N ps:List Str}{k:Nat}{sp:Sp} (F:Def K mg x st ps) (S:FnScope N ps (defScope st)) (len : ∀ vs H Q E,sp vs H Q E→vs.length=ps.length)
 (hbody : ∀ (f:Addr) (cdv:Value) (A:Around) (outer:List Env) (s:Shared) (H:Hp) (vs:List V) (Q:VK) (E:XK),Room k (A.deeper (envOfC x (defScope st) s.heap.objs.size f cdv))→sp vs H Q E →
 ∃ t,PSs (cxOf CX0 P w K mg base N x (defScope st) f cdv A outer s H E).nox (defBody st) t∧t { nx:=fun _ H'=>Q .non H',rt:=Q } (start N vs) H):Ok P w K mg base x (k+1) ps sp:=by
  obtain ⟨f,fd,Fn,hm,hb⟩:=F.ex
  exact ⟨f,fd,Fn.ok S len (hbody f),hm,Fn.kp,hb⟩
end
section
variable {X:Cx}{x:Str}{k:Nat}{ps:List Str}{sp:Sp}{p pos:Pos}{e:Expr}{es:List Expr}{t:TA}
structure OkC (X:Cx) (x:Str) (k:Nat) (ps:List Str) (sp:Sp):Prop where
 ex : ∃ sp0,Ok X.prog X.w X.K X.mg X.base x k ps sp0 ∧ ∀ (pins:List (Addr×Obj)) (σ:St) (H:Hp) (s:Shared) (vs:List V) (Q:VK) (E:XK),Inv X pins σ H s→sp vs H Q E→sp0 vs H Q E
theorem Ok.c (O:Ok X.prog X.w X.K X.mg X.base x k ps sp):OkC X x k ps sp:=⟨sp,O,fun _ _ _ _ _ _ _ _ h=>h⟩
theorem pe_fn (O:OkC X x k ps sp) (hr:Room k X.A) (ha:PA X (e::es) t) (hg:Gl X x:=by rfl) (hdb:(x==("__debug__" : Str))=false:=by decide)
 (he:starEach (e::es) X.env=(false,eval e X.env)::starEach es X.env:=by rfl) (hpl:(backTo pos (starEach es X.env)).any (·.1)=false:=by rfl):PE X (.Call (.Name x p) (e::es) [] pos) (tCall sp [] E0 t):=by
 obtain ⟨sp0,⟨f,fd,F,hm,hk,hb⟩,up⟩:=O.ex
 intro pins s σ H Q I h
 refine wpAny_Call_Name_kw (ld_glob I hg hm ?_ hdb)
 refine PySem.W.callWith_K (h₀:=X.base) I.ok.mod.kin hk (thn (ha pos pins s σ H _ I h) fun us s1 ⟨vs,H1,I1,r,q⟩=>⟨I1.kIn,?_⟩) he hpl
 exact run_fn F hr hb .nil pass0 I1 r (up _ _ _ _ _ _ _ I1 q)
theorem pe_append {o:Expr}{to:TE}{te:TE}{apos cpos:Pos} (ho:PE X o to) (he:PE X e te) (hbase:attributeBase o "append" X.env (eval o X.env)=eval o X.env:=by rfl)
 (hfew:((backTo cpos (starEach [e] X.env)).all (fun x => !x.1)&&(backToKw cpos (keywordEach [] X.env)).all (fun x=>x.1.isSome)
  && decide ([e].length+([]:List Keyword).length+(if ([]:List Keyword).isEmpty then 0 else 1)<30))=true:=by rfl)
 (hline:(apos.endLine==cpos.line)=true:=by rfl) (hs:starEach [e] X.env=(false,eval e X.env)::starEach [] X.env:=by rfl) (hplain:(backTo cpos (starEach [] X.env)).any (·.1)=false:=by rfl) :
 PE X (.Call (.Attribute o "append" apos) [e] [] cpos) (tBM X.K "list" rAppend to (tCons te tNil)) :=
 pe_bm PySem.F.plainAttrs_list PySem.F.slot_list_append PySem.F.type_list_append mt_append ho (pa_cons he pa_nil hs) hbase hfew hline hs hplain
end
end L2
namespace L2
open PySem PySem.Spec PyProof.Rows
def closL (cells:List (Str×Addr)):List (Str×NameKind)→List (Str×Addr)→List (Str×Addr)
 | [],acc=>acc
 | (n,k)::r,acc=>if (k == .free)=true then (match cells.lookup n with|some c=>closL cells r ((n,c)::acc)|none=>closL cells r acc) else closL cells r acc
theorem closL_mem {cells:List (Str×Addr)} : ∀ {names:List (Str×NameKind)}{acc:List (Str×Addr)}{p:Str×Addr},p ∈ closL cells names acc→p ∈ acc∨cells.lookup p.1=some p.2
 | [],acc,p,h => .inl h
 | (n,k)::r,acc,p,h=>by
  unfold closL at h
  split at h
  ·split at h
   ·rename_i c hc
    rcases closL_mem h with h|h
    ·rcases List.mem_cons.mp h with h|h
     ·subst h;exact .inr hc
     ·exact .inl h
    ·exact .inr h
   ·exact closL_mem h
  ·exact closL_mem h
theorem closL_has {cells:List (Str×Addr)} : ∀ {names:List (Str×NameKind)}{acc:List (Str×Addr)}{x:Str},((∃ c,(x,c) ∈ acc)∨((x,NameKind.free) ∈ names ∧ ∃ c,cells.lookup x=some c)) → ∃ c,(x,c) ∈ closL cells names acc
 | [],acc,x,h=>by
  rcases h with h|h
  ·exact h
  ·exact absurd h.1 (by simp)
 | (n,k)::r,acc,x,h=>by
  unfold closL
  split
  ·rename_i hk
   split
   ·rename_i c hc
    refine closL_has ?_
    rcases h with ⟨d,h⟩|⟨h,d,hd⟩
    ·exact .inl ⟨d,List.mem_cons_of_mem _ h⟩
    ·rcases List.mem_cons.mp h with h|h
     ·cases h;exact .inl ⟨c,by simp⟩
     ·exact .inr ⟨h,d,hd⟩
   ·rename_i hc
    refine closL_has ?_
    rcases h with h|⟨h,d,hd⟩
    ·exact .inl h
    ·rcases List.mem_cons.mp h with h|h
     ·cases h;rw [hd] at hc;cases hc
     ·exact .inr ⟨h,d,hd⟩
  ·rename_i hk
   refine closL_has ?_
   rcases h with h|⟨h,d,hd⟩
   ·exact .inl h
   ·rcases List.mem_cons.mp h with h|h
    ·cases h;exact absurd rfl hk
    ·exact .inr ⟨h,d,hd⟩
theorem cf_new {x:Str}{c:Addr} : ∀ {names:List (Str×NameKind)}{n:Nat}{acc:List (Str×Addr)},(cellsFrom n names acc).lookup x=some c→(n≤c∧(x,NameKind.cell) ∈ names)∨acc.lookup x=some c
 | [],_,_,h => .inr h
 | (y,k)::r,n,acc,h=>by
  unfold cellsFrom at h
  split at h
  ·rename_i hk
   rcases cf_new h with ⟨h1,h2⟩|h1
   ·exact .inl ⟨by omega,List.mem_cons_of_mem _ h2⟩
   ·by_cases e:x=y
    ·subst e
     have hb:(x==x)=true:=by simp
     rw [List.lookup_cons,hb] at h1
     have hk':k = .cell:=by simpa using hk
     subst hk'
     cases h1
     exact .inl ⟨Nat.le_refl _,by simp⟩
    ·have hb:(x==y)=false:=by simpa using e
     rw [List.lookup_cons,hb] at h1
     exact .inr h1
  ·rcases cf_new h with ⟨h1,h2⟩|h1
   ·exact .inl ⟨h1,List.mem_cons_of_mem _ h2⟩
   ·exact .inr h1
theorem cf_old {x:Str} : ∀ {names:List (Str×NameKind)}{n:Nat}{acc:List (Str×Addr)},(x,NameKind.cell) ∉ names→(cellsFrom n names acc).lookup x=acc.lookup x
 | [],_,_,_=>rfl
 | (y,k)::r,n,acc,h=>by
  have hr:(x,NameKind.cell) ∉ r:=fun z=>h (List.mem_cons_of_mem _ z)
  unfold cellsFrom
  split
  ·rename_i hk
   have hk':k = .cell:=by simpa using hk
   subst hk'
   have e:x≠y:=fun z=>h (by rw [z];simp)
   have hb:(x==y)=false:=by simpa using e
   rw [cf_old hr,List.lookup_cons,hb]
  ·exact cf_old hr
theorem cf_above {x:Str}{c lo:Nat} : ∀ {names:List (Str×NameKind)}{n:Nat}{acc:List (Str×Addr)},lo≤n→((x,NameKind.cell) ∈ names ∨ ∃ a,acc.lookup x=some a∧lo≤a)→(cellsFrom n names acc).lookup x=some c→lo≤c
 | [],_,acc,_,h,e=>by
  rcases h with h|⟨a,h1,h2⟩
  ·simp at h
  ·have e:acc.lookup x=some c:=e
   rw [h1] at e
   cases e
   exact h2
 | (y,k)::r,n,acc,hn,h,e=>by
  unfold cellsFrom at e
  split at e
  ·rename_i hk
   refine cf_above (lo:=lo) (by omega) ?_ e
   by_cases z:x=y
   ·subst z
    have hb:(x==x)=true:=by simp
    exact .inr ⟨n,by rw [List.lookup_cons,hb],hn⟩
   ·have hb:(x==y)=false:=by simpa using z
    rcases h with h|⟨a,h1,h2⟩
    ·rcases List.mem_cons.mp h with h|h
     ·cases h;exact absurd rfl z
     ·exact .inl h
    ·exact .inr ⟨a,by rw [List.lookup_cons,hb];exact h1,h2⟩
  ·rename_i hk
   refine cf_above hn ?_ e
   rcases h with h|h
   ·rcases List.mem_cons.mp h with h|h
    ·cases h;exact absurd rfl hk
    ·exact .inl h
   ·exact .inr h
theorem cf_inj {x y:Str}{c:Addr} : ∀ {names:List (Str×NameKind)}{n:Nat}{acc:List (Str×Addr)},(∀ z a,acc.lookup z=some a→a<n)→n≤c→(cellsFrom n names acc).lookup x=some c→(cellsFrom n names acc).lookup y=some c→x=y
 | [],n,acc,hA,hn,h,_=>absurd (hA x c h) (Nat.not_lt.mpr hn)
 | (w,k)::r,n,acc,hA,hn,h,h'=>by
  unfold cellsFrom at h h'
  split at h
  ·rename_i hk
   rw [if_pos hk] at h'
   have hA' : ∀ z a,((w,n)::acc).lookup z=some a→a<n+1:=fun z a q=>by
    rw [List.lookup_cons] at q
    split at q
    ·cases q;exact Nat.lt_succ_self _
    ·exact Nat.lt_succ_of_lt (hA z a q)
   have at_n : ∀ z,((w,n)::acc).lookup z=some n→z=w:=fun z q=>by
    rw [List.lookup_cons] at q
    split at q
    ·rename_i hb;exact beq_iff_eq.mp hb
    ·exact absurd (hA z n q) (Nat.lt_irrefl _)
   by_cases e:c=n
   ·subst e
    have a1:x=w:=by
     rcases cf_new h with ⟨q,_⟩|q
     ·exact absurd q (Nat.not_succ_le_self _)
     ·exact at_n x q
    have a2:y=w:=by
     rcases cf_new h' with ⟨q,_⟩|q
     ·exact absurd q (Nat.not_succ_le_self _)
     ·exact at_n y q
    rw [a1,a2]
   ·exact cf_inj hA' (Nat.lt_of_le_of_ne hn (Ne.symm e)) h h'
  ·rename_i hk
   rw [if_neg hk] at h'
   exact cf_inj hA hn h h'
theorem cf_cell {x:Str}{c:Addr} : ∀ {names:List (Str×NameKind)}{h:Heap}{acc:List (Str×Addr)},(cellsFrom h.objs.size names acc).lookup x=some c→acc.lookup x=some c∨(pushCells h names).IsCell c none
 | [],_,_,e => .inl e
 | (y,k)::r,h,acc,e=>by
  unfold cellsFrom at e
  unfold pushCells
  split at e
  ·rename_i hk
   rw [if_pos hk]
   have e':(cellsFrom (h.push { cls :=.type "cell",data :=.cell none }).objs.size r ((y,h.objs.size)::acc)).lookup x=some c:=by rw [Heap.size_push];exact e
   rcases cf_cell e' with q|q
   ·rw [List.lookup_cons] at q
    split at q
    ·have q:=Option.some.inj q
     subst q
     exact .inr ⟨_,pushCells_keeps _ _ _ _ (Heap.get?_push_size _ rfl),rfl⟩
    ·exact .inl q
   ·exact .inr q
  ·rename_i hk
   rw [if_neg hk]
   exact cf_cell e
theorem nfe_cells {M:Model}{A:Around}{E:Value→Shared→Prop}{s:Shared}{scope:Scope}{globals:Addr}{cl:List (Str×Addr)}{qual:Str}{outer:Env}{Q:Env→Shared→Prop}
 (hQ:Q (newEnv scope s.heap.objs.size globals (cellsFrom (s.heap.objs.size+1) scope.names cl) qual none .none (some outer) builtinsNs) { s with heap:=pushCells (s.heap.push { cls :=.type "dict",data :=.dict #[] }) scope.names }) :
  wpAny M A (newFunctionEnv scope globals cl [] qual none .none (some outer)) Q E s:=by
  simp only [newFunctionEnv,Option.isSome_some,if_true]
  refine wpAny_bind (wpAny_alloc ?_)
  refine wpAny_bind (wpAny_layCells _ (fun name kind cells=>by cases hkc:kind==NameKind.cell <;> simp [hkc]) _ _ _ _ ?_)
  rw [show ({ s with heap:=s.heap.push { cls :=.type "dict",data :=.dict #[] } }:Shared).heap.objs.size=s.heap.objs.size+1 from Heap.size_push ..]
  rw [List.forIn_nil]
  exact wpAny_bind (wpAny_pure (wpAny_pure hQ))
structure CompScope (env:Env) (scope:Scope) (caps:List Str):Prop where
 clos:closureFor scope env=pure (closL env.cells scope.names [])
 kind:scope.kind = .function
 cells:scope.names.all (fun y => !(y.2 == .cell)||scope.names.lookup y.1==some .cell)=true
 names:scope.names.all (fun y => !(y.2 == .local)||scope.names.lookup y.1==some .local)=true
 free:scope.names.all (fun y => !(y.2 == .free)||(env.cells.lookup y.1).isSome)=true
 cap:caps.all (fun x=>scope.names.lookup x==some .free&&(env.scope.names.lookup x==some .cell||env.scope.names.lookup x==some .free))=true
theorem mem_lookup {β:Type} : ∀ {l:List (Str×β)}{x:Str}{c:β},l.lookup x=some c→(x,c) ∈ l:=fun h=>PySem.mem_of_lookup h
theorem lookup_mem : ∀ {l:List (Str×Addr)}{x:Str}{c:Addr},(x,c) ∈ l → ∃ d,l.lookup x=some d
 | [],_,_,h=>by simp at h
 | (y,d)::r,x,c,h=>by
  by_cases e:x=y
  ·subst e;exact ⟨d,by simp⟩
  ·have hb:(x==y)=false:=by simpa using e
   rcases List.mem_cons.mp h with h|h
   ·cases h;exact absurd rfl e
   ·obtain ⟨d',hd⟩:=lookup_mem h
    exact ⟨d',by rw [List.lookup_cons,hb];exact hd⟩
section
variable {env:Env}{scope:Scope}{caps:List Str}
abbrev clOf (scope:Scope) (env:Env):List (Str×Addr):=closL env.cells scope.names []
theorem CompScope.sub (S:CompScope env scope caps) {x:Str}{c:Addr} (h:(clOf scope env).lookup x=some c):env.cells.lookup x=some c:=by
 rcases closL_mem (mem_lookup h) with h|h
 ·simp at h
 ·exact h
theorem relabel_mem {x:Str}{k:NameKind} (h:(relabel scope env).names.lookup x=some k) : ∃ k',(x,k') ∈ scope.names∧(k'=k∨(k' = .free∧k = .cell)):=by
 have hm:=mem_lookup h
 obtain ⟨⟨n,k0⟩,h1,h2⟩:=List.mem_map.mp hm
 dsimp only at h2
 split at h2
 ·rename_i hc
  cases h2
  have:k0 = .free:=by
   have:=(Bool.and_eq_true_iff.mp (Bool.and_eq_true_iff.mp hc).1).1
   simpa using this
  subst this
  exact ⟨_,h1,.inr ⟨rfl,rfl⟩⟩
 ·cases h2
  exact ⟨_,h1,.inl rfl⟩
abbrev nclOf (scope:Scope) (env:Env) (n:Nat):List (Str×Addr):=cellsFrom n scope.names (clOf scope env)
theorem CompScope.hasF (S:CompScope env scope caps) {x:Str} (key:(x,NameKind.free) ∈ scope.names) : ∃ c,(clOf scope env).lookup x=some c:=by
 have:=List.all_eq_true.mp S.free _ key
 have hs:(env.cells.lookup x).isSome=true:=by simpa using this
 obtain ⟨c,hc⟩:=Option.isSome_iff_exists.mp hs
 obtain ⟨d,hd⟩:=closL_has (cells:=env.cells) (names:=scope.names) (acc:=[]) (.inr ⟨key,c,hc⟩)
 exact lookup_mem hd
theorem CompScope.isC (S:CompScope env scope caps) {x:Str} (h:(x,NameKind.cell) ∈ scope.names):scope.names.lookup x=some .cell:=by
 have:=List.all_eq_true.mp S.cells _ h
 simpa using this
theorem CompScope.has (S:CompScope env scope caps) {x:Str} (n:Nat) (h:(relabel scope env).names.lookup x=some .cell∨(relabel scope env).names.lookup x=some .free) : ∃ c,(nclOf scope env n).lookup x=some c:=by
 have key:scope.names.lookup x=some .cell∨(x,NameKind.free) ∈ scope.names:=by
  rcases h with h|h
  ·obtain ⟨k',h1,h2⟩:=relabel_mem h
   rcases h2 with rfl|⟨rfl,_⟩
   ·exact .inl (S.isC h1)
   ·exact .inr h1
  ·obtain ⟨k',h1,h2⟩:=relabel_mem h
   rcases h2 with rfl|⟨_,h2⟩
   ·exact .inr h1
   ·cases h2
 refine Option.isSome_iff_exists.mp (PySem.W.cellsFrom_some scope.names n _ ?_)
 rcases key with k|k
 ·exact .inl k
 ·obtain ⟨c,hc⟩:=S.hasF k
  exact .inr (by rw [hc];rfl)
theorem CompScope.look (S:CompScope env scope caps) {x:Str}{n:Nat}{c:Addr} (h:(nclOf scope env n).lookup x=some c):(n≤c∧(x,NameKind.cell) ∈ scope.names)∨env.cells.lookup x=some c:=by
 rcases cf_new h with q|q
 ·exact .inl q
 ·exact .inr (S.sub q)
end
def blk (X:Cx) (pins:List (Addr×Obj)) (scope:Scope) (N':List Str) (s3:Shared) (H:Hp) (ex:List Addr):Cx where
 prog:=X.prog
 w:=X.w
 K:=X.K
 mg:=X.mg
 base:=X.base
 A:=X.A
 N:=N'
 s₀:=s3
 H₀:=H
 env:=compEnvC scope (nclOf scope X.env (s3.heap.objs.size+1)) s3.heap.objs.size X.env
 outer:=X.stack
 stack:=X.stack
 ex:=ex
 fn:=fun x=>scope.names.lookup x==some .cell
 calm:=X.calm
 pn:=X.pn++pins
 xe:=fun _ _=>False
def capS (ix:List Nat) (k:Nat) (σ:St):St:=ix.map (fun i=>(σ[i]?).join)++List.replicate k none
def tComp (ix:List Nat) (k:Nat) (wi:TI) (g:TG) (te:TE):TE:=fun σ H Q=>wi σ H fun J H1 => ∃ W:Nat→Nat→List V→St→Hp→Prop,(∃ m,W 0 m [] (capS ix k σ) H1) ∧ ∀ i m ys σ1 H2,W i m ys σ1 H2 →
 (J.stop i H2∧ys.length≤sizeLine ∧ ∀ p,H2 p=none→Q (.ref p) (upd H2 p (.lst ys))) ∨
 (J.go i H2∧ys.length<sizeLine ∧ ∃ N:V→St→Hp→Prop,(∀ y σ2 H5,N y σ2 H5 → ∃ m',m'<m∧W (i+1) m' (ys++[y]) σ2 H5) ∧ ∀ x H3,J.yld i H2 x H3→g x σ1 H3 fun σ2 H4=>te σ2 H4 fun y H5=>N y σ2 H5)
theorem codeAny_compLoop_any {prog:Program}{w:World}{A:Around}{R:Result→Shared→Prop}{s:Shared}{elt target iter:Expr}{scope:Scope}{pos:Pos}{it acc:Value}{env:Env} (I:Nat→Shared→Prop)
 (turn : ∀ n s,I n s→wpAny (model prog w) A (pyNext it) (fun r s₁=>match r with
  | none=>R (.ok .next) s₁
  | some v=>wpAny (model prog w) A (letOwnedTupleGo target it v) (fun _ s₁'=>wpAny (model prog w) A (assign target env v) (fun _ s₂=>wpAny (model prog w) A (eval elt env) (fun x s₃ =>
   wpAny (model prog w) A (call (.builtin "list.append") [acc,x]) (fun _ s₄ => ∃ m,m<n∧I m s₄) (notedBy (model prog w) A env fun e s'=>R (.error e) s') s₃)
   (notedBy (model prog w) A env fun e s'=>R (.error e) s') s₂) (notedBy (model prog w) A env fun e s'=>R (.error e) s') s₁') (notedBy (model prog w) A env fun e s'=>R (.error e) s') s₁) (notedBy (model prog w) A env fun e s'=>R (.error e) s') s)
  (n:Nat) (h:I n s):codeAny (model prog w) A (.compLoop (.ListComp elt [⟨target,iter,[],0⟩] scope pos) 0 it acc env) R s:=by
  refine codeAny_loop rfl I (fun n s hI=>?_) n h
  show wpAny _ _ ((compTurn (.ListComp elt [⟨target,iter,[],0⟩] scope pos) 0 it acc env).onRaise (fun x=>do noteFrame x env;theTreesLotGoes x)) _ _ s
  refine wpAny_noted ?_
  rw [compTurn_list1]
  refine wpAny_bind (wpAny_standAt (wpAny_bind (wpAny_mono (turn n s hI) (fun r s₁ h₁=>?_) fun _ _ h'=>h')))
  cases r with
  | none=>exact wpAny_pure h₁
  | some v =>
   exact wpAny_bind (wpAny_mono h₁ (fun _ s₁' h₁'=>wpAny_bind (wpAny_mono h₁' (fun _ s₂ h₂=>wpAny_bind (wpAny_bind (wpAny_mono h₂ (fun x s₃ h₃=>wpAny_bind (wpAny_mono h₃
    (fun _ s₄ h₄=>wpAny_pure (wpAny_pure ⟨rfl,h₄⟩)) fun _ _ h'=>h')) fun _ _ h'=>h'))) fun _ _ h'=>h')) fun _ _ h'=>h')
section
variable {X:Cx}{elt target iter:Expr}{scope:Scope}{pos:Pos}{caps own:List Str}{ix:List Nat}{wi:TI}{g:TG}{te:TE}
def tYes:TT:=fun _ H Q=>Q true H
abbrev TstT:=Env→(Bool→Shared→Prop)→(Value→Shared→Prop)→Shared→Prop
def LoopR (prog:Program) (w:World) (A:Around) (elt target iter:Expr) (cs:List Expr) (scope:Scope) (pos:Pos) (Tst:TstT):Prop := ∀ {R:Result→Shared→Prop}{s:Shared}{it acc:Value}{env:Env} (I:Nat→Shared→Prop)
 (turn : ∀ n s,I n s→wpAny (model prog w) A (pyNext it) (fun r s₁=>match r with
  | none=>R (.ok .next) s₁
  | some v=>wpAny (model prog w) A (letOwnedTupleGo target it v) (fun _ s₁'=>wpAny (model prog w) A (assign target env v) (fun _ s₂=>Tst env (fun b s₂'=>match b with
   | true=>wpAny (model prog w) A (eval elt env) (fun x s₃ =>
    wpAny (model prog w) A (call (.builtin "list.append") [acc,x]) (fun _ s₄ => ∃ m,m<n∧I m s₄) (notedBy (model prog w) A env fun e s'=>R (.error e) s') s₃)
    (notedBy (model prog w) A env fun e s'=>R (.error e) s') s₂'
   | false => ∃ m,m<n∧I m s₂') (notedBy (model prog w) A env fun e s'=>R (.error e) s') s₂) (notedBy (model prog w) A env fun e s'=>R (.error e) s') s₁') (notedBy (model prog w) A env fun e s'=>R (.error e) s') s₁) (notedBy (model prog w) A env fun e s'=>R (.error e) s') s)
 (n:Nat) (h:I n s),codeAny (model prog w) A (.compLoop (.ListComp elt [⟨target,iter,cs,0⟩] scope pos) 0 it acc env) R s
theorem comp_core {cs:List Expr}{tt:TT}{Tst:TstT} (hloop:LoopR X.prog X.w X.A elt target iter cs scope pos Tst) (hc:X.calm=true) (S:CompScope X.env scope caps) (hi:PI X target iter wi)
 (hg : ∀ pins s3 H ex,PG (blk X pins scope (caps++own) s3 H ex) target g)
 (he : ∀ pins s3 H ex,PE (blk X pins scope (caps++own) s3 H ex) elt te)
 (htst : ∀ pins s3 H ex pins' s σ H' Qb P E,Inv (blk X pins scope (caps++own) s3 H ex) pins' σ H' s→tt σ H' Qb→(∀ b s' H'',Inv (blk X pins scope (caps++own) s3 H ex) pins' σ H'' s'→Qb b H''→P b s')→Tst (blk X pins scope (caps++own) s3 H ex).env P E s)
 (hix:caps.length=ix.length) (hcapB:(caps.zip ix).all (fun p=>X.N[p.2]?==some p.1)=true)
 (hs : ∀ x,foldedSetIterable iter X.env x=pure x) {use:Option (Value→Sem Unit)}{Q0:Value→Shared→Prop}{Qv:VK}{pins:List (Addr×Obj)}{s:Shared}{σ:St}{H:Hp}{pos':Pos} (I:Inv X pins σ H s) {Inner:It→Hp→Prop} (h:wi σ H Inner)
 (hin : ∀ J H1,Inner J H1 → ∃ W:Nat→Nat→List V→St→Hp→Prop,(∃ m,W 0 m [] (capS ix own.length σ) H1) ∧ ∀ i m ys σ1 H2,W i m ys σ1 H2 →
 (J.stop i H2∧ys.length≤sizeLine ∧ ∀ p,H2 p=none→Qv (.ref p) (upd H2 p (.lst ys))) ∨
 (J.go i H2∧ys.length<sizeLine ∧ ∃ (N:V→St→Hp→Prop) (N0:St→Hp→Prop),(∀ y σ2 H5,N y σ2 H5 → ∃ m',m'<m∧W (i+1) m' (ys++[y]) σ2 H5)∧(∀ σ2 H5,N0 σ2 H5 → ∃ m',m'<m∧W (i+1) m' ys σ2 H5) ∧
 ∀ x H3,J.yld i H2 x H3→g x σ1 H3 fun σ2 H4=>tt σ2 H4 fun b H5=>match b with|true=>te σ2 H5 fun y H6=>N y σ2 H6|false=>N0 σ2 H5))
 (fin : ∀ (D C:Addr) (s6:Shared) (H6:Hp) (m6:Str→Option Value),s6.heap.Ns C m6→Inv X pins σ H6 s6→H6 C=none→C≠X.env.locals→C ∉ X.fs→(C ∈ X.ex∨X.s₀.heap.objs.size≤C)→(∀ x c,X.env.cells.lookup x=some c→c≠C)→(∀ p ∈ X.pn++pins,p.1≠C)→Qv (.ref D) H6 →
 compPost (model X.prog X.w) X.A X.xe use Q0 (.ref D) C (.ok .next) s6) :
 wpAny (model X.prog X.w) X.A (comprehension (.ListComp elt [⟨target,iter,cs,0⟩] scope pos) scope X.env pos' (newList []) false (eval iter X.env) use) Q0 X.xe s:=by
  have hcap : ∀ (j:Nat) (x:Str) (i:Nat),caps[j]?=some x→ix[j]?=some i→X.N[i]?=some x:=fun j x i h1 h2=>by
   have hm:(x,i) ∈ caps.zip ix:=by
    have:(caps.zip ix)[j]?=some (x,i):=by rw [List.getElem?_zip_eq_some];exact ⟨h1,h2⟩
    exact List.mem_of_getElem? this
   have:=List.all_eq_true.mp hcapB _ hm
   simpa using this
  have hnm : ∀ y ∈ scope.names,y.2 = .local→scope.names.lookup y.1=some .local:=fun y hy hl=>by
   have:=List.all_eq_true.mp S.names y hy
   rw [hl] at this
   simpa using this
  refine wpAny_comprehension_free (use:=use) rfl hs S.clos S.kind hnm (thn (hi pins s σ H _ I h) fun v s1 h1=>thn h1 fun itv s2 h2=>?_)
  obtain ⟨it,fp,tn,J,H2,e,I2,T,st2,f2,hJ⟩:=h2
  obtain ⟨W,⟨m0,w0⟩,turn⟩:=hin J H2 hJ
  subst e
  refine wpAny_newObj_type (nfe_cells ?_)
  dsimp only
  generalize eh0:s2.heap.push { cls :=.type "list",data :=.seq #[] }=h3
  have hns₁:(pushCells (h3.push { cls :=.type "dict",data :=.dict #[] }) scope.names).Ns h3.objs.size (fun _=>none):=(Heap.Ns.new h3 (.type "dict")).keeps (pushCells_keeps _ _)
  have hkp : ∀ b o,h3.get? b=some o→(pushCells (h3.push { cls :=.type "dict",data :=.dict #[] }) scope.names).get? b=some o:=fun b o q=>pushCells_keeps _ _ b o (Heap.get?_push_of_some _ q)
  have hcl₁ : ∀ x c,(nclOf scope X.env (h3.objs.size+1)).lookup x=some c→(clOf scope X.env).lookup x=some c∨(pushCells (h3.push { cls :=.type "dict",data :=.dict #[] }) scope.names).IsCell c none:=fun x c q=>by
   refine cf_cell (h:=h3.push { cls :=.type "dict",data :=.dict #[] }) ?_
   rw [Heap.size_push];exact q
  generalize pushCells (h3.push { cls :=.type "dict",data :=.dict #[] }) scope.names=h₁ at hns₁ hkp hcl₁ ⊢
  obtain ⟨s3,hs3⟩ : ∃ s3:Shared,s3={ s2 with heap:=h3 }:=⟨_,rfl⟩
  have e3:h3=s3.heap:=by rw [hs3]
  subst e3
  have eh:s3.heap=s2.heap.push { cls :=.type "list",data :=.seq ([]:List Value).toArray }:=eh0.symm
  have hC:s3.heap.objs.size=s2.heap.objs.size+1:=by rw [eh,Heap.size_push]
  have hDlt:s2.heap.objs.size<s3.heap.objs.size:=by omega
  have k23 : ∀ b o,s2.heap.get? b=some o→s3.heap.get? b=some o:=fun b o q=>by rw [eh];exact Heap.get?_push_of_some _ q
  have hD3:s3.heap.get? s2.heap.objs.size=some { cls :=.type "list",data :=.seq ([]:List Value).toArray }:=by rw [eh];exact Heap.get?_push_size _ rfl
  have I3:Inv X pins σ H2 s3:=by rw [hs3];exact I2.kept (t':=s2.toks) k23
  have k34 : ∀ b o,s3.heap.get? b=some o→h₁.get? b=some o:=hkp
  have fpl : ∀ b ∈ fp,b<s2.heap.objs.size:=fun b hb=>by
   obtain ⟨o,q,_⟩:=T.obj 0 _ st2 b hb
   exact Heap.lt_size q
  have cel : ∀ x c,X.env.cells.lookup x=some c→c<s2.heap.objs.size:=fun x c q=>by
   obtain ⟨v,o,z,_⟩:=I2.cell x c q
   exact Heap.lt_size z
  have ncl : ∀ x c,(nclOf scope X.env (s3.heap.objs.size+1)).lookup x=some c→X.env.cells.lookup x=some c∨s3.heap.objs.size<c:=fun x c q=>(S.look q).elim (fun z => .inr z.1) .inl
  have pnl : ∀ p ∈ X.pn++pins,p.1<s2.heap.objs.size:=fun p hp=>Heap.lt_size (I2.pin p hp).1
  have hDn:H2 s2.heap.objs.size=none:=I2.hok.fresh (Nat.le_refl _)
  have ok:(blk X pins scope (caps++own) s3 H2 (s2.heap.objs.size::fp)).Ok:=by
   refine ⟨I2.mod,S.kind,I2.ok.glob,I2.ok.blt,Nat.le_refl _,fun x y c h1 h2=>?_,fun x hx=>S.has _ hx,fun x c hf q=>?_,I2.ok.hd,I2.ok.frames,.inl rfl,fun b hb=>?_,I3.bs,?_,fun b o q hb=>?_,fun b hb=>?_,I3.stack,I3.stkFree⟩
   ·rcases ncl x c h1 with q1|q1
    ·rcases ncl y c h2 with q2|q2
     ·exact I2.ok.inj x y c q1 q2
     ·exact absurd (Nat.lt_trans (cel x c q1) hDlt) (Nat.not_lt.mpr (Nat.le_of_lt q2))
    ·exact cf_inj (n:=s3.heap.objs.size+1) (acc:=clOf scope X.env) (fun z a q=>Nat.lt_succ_of_lt (Nat.lt_trans (cel z a (S.sub q)) hDlt)) q1 h1 h2
   ·exact Nat.le_trans (Nat.le_succ _) (cf_above (lo:=s3.heap.objs.size+1) (Nat.le_refl _) (.inl (mem_lookup (beq_iff_eq.mp hf))) q)
   ·have hb':b=s2.heap.objs.size∨b ∈ fp:=List.mem_cons.mp hb
    rcases hb' with rfl|hb'
    ·exact ⟨Nat.ne_of_lt hDlt,fun x c q=>(ncl x c q).elim (fun z=>Nat.ne_of_lt (cel x c z)) fun z=>Nat.ne_of_gt (Nat.lt_trans hDlt z)⟩
    ·exact ⟨Nat.ne_of_lt (Nat.lt_trans (fpl b hb') hDlt),fun x c q=>(ncl x c q).elim (fun z=>(f2 b hb').2.2.2.2.1 x c z) fun z=>Nat.ne_of_gt (Nat.lt_trans (fpl b hb') (Nat.lt_trans hDlt z))⟩
   ·exact Nat.le_trans I2.ok.bsz I3.sz
   ·have hlt:b<X.base.objs.size:=Heap.lt_size q
    have hb':b=s2.heap.objs.size∨b ∈ fp:=List.mem_cons.mp hb
    have h1:=I2.ok.bsz
    have h2:=I2.sz
    rcases hb' with rfl|hb'
    ·exact absurd hlt (Nat.not_lt.mpr (Nat.le_trans h1 h2))
    ·rcases (f2 b hb').2.2.2.1 with z|z
     ·exact I2.ok.noex b o q z
     ·exact absurd hlt (Nat.not_lt.mpr (Nat.le_trans h1 z))
   ·have hb':b=s2.heap.objs.size∨b ∈ fp:=List.mem_cons.mp hb
    intro z
    have z':=I2.stkSub b z
    rcases hb' with rfl|hb'
    ·rcases List.mem_cons.mp z' with z'|z'
     ·exact Nat.ne_of_gt I2.lt z'
     ·exact I2.nofs (Nat.le_refl _) z'
    ·rcases List.mem_cons.mp z' with z'|z'
     ·exact (f2 b hb').2.1 z'
     ·exact (f2 b hb').2.2.1 z'
  have len0:(capS ix own.length σ).length=(caps++own).length:=by unfold capS;simp [hix]
  have I4:Inv (blk X pins scope (caps++own) s3 H2 (s2.heap.objs.size::fp)) [] (capS ix own.length σ) H2 { s2 with heap:=h₁ }:=by
   obtain ⟨mX,nsX,lkX⟩:=I3.loc
   refine ⟨ok,(by show s2.os=s3.os;rw [hs3]),I2.bare,Un.kept k34,⟨_,hns₁,fun j x v h1 h2 h3=>?_⟩,fun x c q=>?_,I3.hok.fresh (Nat.le_refl _),fun x c q=>(ncl x c q).elim (fun z=>I3.freeC x c z) fun z=>I3.hok.fresh (Nat.le_of_lt z),fun p hp=>?_,I3.hok.kept k34,len0⟩
   ·-- a captured name
    have hj:j<ix.length:=by
     unfold capS at h2
     by_cases hj:j<ix.length
     ·exact hj
     ·rw [List.getElem?_append_right (by simpa using hj),List.getElem?_replicate] at h2
      split at h2 <;> cases h2
    have h1':caps[j]?=some x:=by
     have:(caps++own)[j]?=some x:=h1
     rwa [List.getElem?_append_left (by omega)] at this
    have hij:ix[j]?=some ix[j]:=List.getElem?_eq_getElem hj
    have hv:σ[ix[j]]?=some (some v):=by
     unfold capS at h2
     rw [List.getElem?_append_left (by simpa using hj),List.getElem?_map,hij] at h2
     have h2':(σ[ix[j]]?).join=some v:=by simpa using h2
     cases q:σ[ix[j]]? with
     | none=>rw [q] at h2';cases h2'
     | some o=>rw [q] at h2';cases o with
      | none=>cases h2'
      | some y=>have:y=v:=by simpa using h2'
                rw [this]
    have hk:=List.all_eq_true.mp S.cap x (List.mem_of_getElem? h1')
    obtain ⟨k1,k2⟩:=Bool.and_eq_true_iff.mp hk
    have k1':scope.names.lookup x=some .free:=by simpa using k1
    have k2':X.env.scope.names.lookup x=some .cell∨X.env.scope.names.lookup x=some .free:=by simpa using k2
    obtain ⟨u,ru,lk⟩:=lkX ix[j] x v (hcap j x _ h1' hij) hv (k2'.elim (fun z => .inr (.inl z)) (fun z => .inr (.inr z)))
    refine ⟨u,ru,?_⟩
    have hrel:(relabel scope X.env).names.lookup x=some .cell∨(relabel scope X.env).names.lookup x=some .free:=by
     rcases h3 with h3|h3|h3
     ·have h3':(relabel scope X.env).names.lookup x=some NameKind.local:=h3
      obtain ⟨k',m1,m2⟩:=relabel_mem h3'
      rcases m2 with rfl|⟨_,m2⟩
      ·have:=hnm _ m1 rfl
       rw [k1'] at this;cases this
      ·cases m2
     ·exact .inl h3
     ·exact .inr h3
    have hxc:(x,NameKind.cell) ∉ scope.names:=fun z=>by
     have:=S.isC z
     rw [k1'] at this;cases this
    obtain ⟨c,hcl⟩:=S.hasF (mem_lookup k1')
    have hcl':(nclOf scope X.env (s3.heap.objs.size+1)).lookup x=some c:=(cf_old hxc).trans hcl
    rcases lk with ⟨kl,_⟩|⟨_,c',ec,ic⟩
    ·have kl':X.env.scope.names.lookup x=some .local:=kl
     rcases k2' with z|z <;> (rw [kl'] at z;cases z)
    ·have:=S.sub hcl
     have ee:c'=c:=by rw [ec] at this;exact Option.some.inj this
     exact .inr ⟨hrel,c,hcl',ee ▸ ic.keeps k34⟩
   ·rcases hcl₁ x c q with z|z
    ·obtain ⟨v,ic⟩:=I3.cell x c (S.sub z)
     exact ⟨v,ic.keeps k34⟩
    ·exact ⟨_,z⟩
   ·have hp':p ∈ X.pn++pins:=by simpa [blk] using hp
    obtain ⟨q1,q2,q3,q4,q5⟩:=I3.pin p hp'
    refine ⟨k34 _ _ q1,q2,Nat.ne_of_lt (Nat.lt_trans (pnl p hp') hDlt),fun z=>?_,q5⟩
    rcases List.mem_cons.mp (I3.stkSub p.1 z) with z'|z'
    ·exact q3 z'
    ·exact q4 z'
  have hD4:h₁.get? s2.heap.objs.size=some { cls :=.type "list",data :=.seq ([]:List Value).toArray }:=k34 _ _ hD3
  have st4:tn 0 h₁:=T.keep _ _ _ st2 fun b _ o q=>k34 b o (k23 b o q)
  have fpk : ∀ {H':Hp}{ob:Obj},(∀ b ∈ fp,H' b=none) → ∀ b ∈ fp,FpOk (blk X pins scope (caps++own) s3 H2 (s2.heap.objs.size::fp)) [(s2.heap.objs.size,ob)] H' b:=fun {H' ob} hn b hb=>by
   obtain ⟨_,a1,a2,a3,a4,a5⟩:=f2 b hb
   refine ⟨hn b hb,Nat.ne_of_lt (Nat.lt_trans (fpl b hb) hDlt),fun z=>?_,.inl (List.mem_cons_of_mem _ hb),fun x c q=>(ncl x c q).elim (fun z=>a4 x c z) fun z=>Nat.ne_of_gt (Nat.lt_trans (fpl b hb) (Nat.lt_trans hDlt z)),fun p hp=>?_⟩
   ·rcases List.mem_cons.mp (I2.stkSub b z) with z'|z'
    ·exact a1 z'
    ·exact a2 z'
   ·have hp':p ∈ X.pn++pins∨p=(s2.heap.objs.size,ob):=by simpa [blk,or_assoc] using hp
    rcases hp' with hp'|rfl
    ·exact a5 p hp'
    ·exact Nat.ne_of_gt (fpl b hb)
  have loop : ∀ s5:Shared,s5=({ s2 with heap:=h₁ }:Shared) →
   codeAny (model X.prog X.w) X.A (.compLoop (.ListComp elt [⟨target,iter,cs,0⟩] scope pos) 0 (.ref it) (.ref s2.heap.objs.size) (compEnvC scope (nclOf scope X.env (s3.heap.objs.size+1)) s3.heap.objs.size X.env))
    (compPost (model X.prog X.w) X.A X.xe use Q0 (.ref s2.heap.objs.size) s3.heap.objs.size) s5:=by
   rintro s5 rfl
   refine hloop (fun n s' => ∃ i ys its cp σ' H',Inv (blk X pins scope (caps++own) s3 H2 (s2.heap.objs.size::fp)) [] σ' H' s'∧tn i s'.heap∧(∀ b ∈ fp,H' b=none)∧H' s2.heap.objs.size=none ∧
    s'.heap.get? s2.heap.objs.size=some { cls :=.type "list",data :=.seq (its:List Value).toArray cp }∧Vals ys its∧W i n ys σ' H') ?_ m0 ⟨0,[],[],_,_,H2,I4,st4,fun b hb=>(f2 b hb).1,hDn,hD4,.nil,w0⟩
   rintro n s5 ⟨i,ys,its,cp,σ5,H5,I5,st5,fr5,hD5,gD5,rv5,w5⟩
   have Dfs:s2.heap.objs.size ∉ (blk X pins scope (caps++own) s3 H2 (s2.heap.objs.size::fp)).fs:=fun z=>by
    rcases List.mem_cons.mp (I2.stkSub _ z) with z'|z'
    ·exact Nat.ne_of_gt I2.lt z'
    ·exact I2.nofs (Nat.le_refl _) z'
   have I5':Inv (blk X pins scope (caps++own) s3 H2 (s2.heap.objs.size::fp)) [(s2.heap.objs.size,{ cls :=.type "list",data :=.seq its.toArray cp })] σ5 H5 s5:=by
    refine I5.pins_of fun p hp=>?_
    have hp':p ∈ (blk X pins scope (caps++own) s3 H2 (s2.heap.objs.size::fp)).pn++[]∨p=(s2.heap.objs.size,{ cls :=.type "list",data :=.seq its.toArray cp }):=by
     first
      | exact .inr (List.mem_singleton.mp hp)
      | (rcases List.mem_append.mp hp with z|z
         ·exact .inl (List.mem_append_left _ z)
         ·exact .inr (List.mem_singleton.mp z))
    rcases hp' with z|rfl
    ·exact I5.pin p z
    ·exact ⟨gD5,hD5,Nat.ne_of_lt hDlt,Dfs,fun v z=>by cases z⟩
   rcases turn i n ys σ5 H5 w5 with ⟨stop,hz,qn⟩|⟨go,hz,N,N0,hN,hN0,step⟩
   ·refine thn (T.done (blk X pins scope (caps++own) s3 H2 (s2.heap.objs.size::fp)) rfl rfl rfl hc i _ s5 σ5 H5 _ I5' (fpk fr5) st5 stop) fun r s6 ⟨hr,I6⟩=>?_
    subst hr
    obtain ⟨m6,ns6,_⟩:=id I6.loc
    have gD6:=(I6.pin _ (List.mem_append_right _ (List.mem_singleton.mpr rfl))).1
    have kC : ∀ b o,b≠s3.heap.objs.size→s6.heap.get? b=some o→s6.heap.get? b=some o:=fun b o _ q=>q
    have bne : ∀ b o,s2.heap.get? b=some o→b≠s3.heap.objs.size:=fun b o q=>Nat.ne_of_lt (Nat.lt_trans (Heap.lt_size q) hDlt)
    have bnD : ∀ b o,s2.heap.get? b=some o→b≠s2.heap.objs.size:=fun b o q=>Nat.ne_of_lt (Heap.lt_size q)
    have nC : ∀ b u,H5 b=some u→b≠s3.heap.objs.size:=fun b u q z=>by
     have z1:H5 s3.heap.objs.size=none:=I6.free
     rw [z,z1] at q;cases q
    have U:=I6.base
    have IX:Inv X pins σ (upd H5 s2.heap.objs.size (.lst ys)) s6:=by
     refine I2.call' (ch:=s2.heap.objs.size::fp) ?_ ?_ ?_ I6.bare ?_
     ·show s6.os=s2.os
      rw [I6.os];show s3.os=s2.os;rw [hs3]
     ·refine ⟨fun b o q n hb hx=>kC b o (bne b o q) (U.keep b o (k23 b o q) n hb hx),fun b o q n hb hx=>?_,fun b o q n hx=>?_,fun b o q hx=>?_,fun b xs q=>?_,fun b o u q=>?_,fun b ps q=>?_⟩
      ·obtain ⟨sl,z⟩:=U.slot b o (k23 b o q) n hb hx
       exact ⟨sl,kC b _ (bne b o q) z⟩
      ·rw [upd_ne (bnD b o q)];exact U.free b o (k23 b o q) n hx
      ·obtain ⟨o',z⟩:=U.there b o (k23 b o q) hx
       exact ⟨o',kC b _ (bne b o q) z⟩
      ·have:=U.tups b xs q
       rw [upd_ne (ne_of_none this hD5)];exact this
      ·have:=U.frzs b o u q
       rw [upd_ne (ne_of_none this hD5)];exact this
      ·obtain ⟨more,z,gm⟩:=U.tbls b ps q
       exact ⟨more,by rw [upd_ne (ne_of_none z hD5)];exact z,gm.mono fun b o u q=>by rw [upd_ne (ne_of_none q hD5)];exact q⟩
     ·intro b u q
      by_cases hb:b=s2.heap.objs.size
      ·subst hb
       rw [upd_same] at q
       cases q
       exact ⟨hz,its,cp,rv5,kC _ _ (Nat.ne_of_lt hDlt) gD6⟩
      ·rw [upd_ne hb] at q
       refine (I6.hok b u q).stay (fun c ob hc z=>kC c ob ?_ z) (fun c z=>by rw [upd_ne (ne_of_none z hD5)];exact z) fun c xs z=>by rw [upd_ne (ne_of_none z hD5)];exact z
       rcases hc with hc|hc
       ·rw [hc];exact nC b u q
       ·exact nC c _ hc
     ·intro b hb
      have hb':b=s2.heap.objs.size∨b ∈ fp:=List.mem_cons.mp hb
      rcases hb' with rfl|hb'
      ·exact ⟨.inr I2.sz,Nat.ne_of_gt I2.lt,fun x c q=>Nat.ne_of_lt (cel x c q),fun p hp=>Nat.ne_of_lt (pnl p hp)⟩
      ·obtain ⟨_,a1,_,a3,a4,a5⟩:=f2 b hb'
       exact ⟨a3,a1,a4,a5⟩
    have hCH:(upd H5 s2.heap.objs.size (.lst ys)) s3.heap.objs.size=none:=by
     rw [upd_ne (Nat.ne_of_gt hDlt)];exact I6.free
    exact fin _ _ s6 _ m6 ns6 IX hCH (Nat.ne_of_gt (Nat.lt_trans I2.lt hDlt)) (I2.nofs (Nat.le_of_lt hDlt)) (.inr (Nat.le_trans I2.sz (Nat.le_of_lt hDlt))) (fun x c q=>Nat.ne_of_lt (Nat.lt_trans (cel x c q) hDlt)) (fun p hp=>Nat.ne_of_lt (Nat.lt_trans (pnl p hp) hDlt)) (qn _ hD5)
   ·refine thn (T.item (blk X pins scope (caps++own) s3 H2 (s2.heap.objs.size::fp)) rfl rfl rfl hc i _ s5 σ5 H5 _ I5' (fpk fr5) st5 go) fun r s6 ⟨u,hr,h6⟩=>?_
    subst hr
    refine thn h6 fun _ s7 xx55=>?_
    obtain ⟨x,H7,I7,r7,y7,st7,fr7⟩:=xx55
    have I7':=I7.pinned (fpk fr7) (T.obj _ _ st7)
    refine wpAny_mono (hg pins s3 H2 _ _ s7 σ5 H7 x u _ I7' r7 (step x H7 y7)) (fun _ s8 xx54=>?_) fun _ _ z=>z.elim
    obtain ⟨σ8,H8,I8,q8⟩:=xx54
    refine htst pins s3 H2 _ _ s8 σ8 H8 _ _ _ I8 q8 fun bt s8' H8' I8' q8'=>?_
    cases bt with
    | false =>
     have q9:N0 σ8 H8':=q8'
     obtain ⟨m',hm',w9⟩:=hN0 σ8 H8' q9
     have gD9:=(I8'.pin (s2.heap.objs.size,{ cls :=.type "list",data :=.seq its.toArray cp }) (List.mem_append_right _ (List.mem_append_left _ (List.mem_singleton.mpr rfl))))
     have pin8 : ∀ b ∈ fp,∀ o,s7.heap.get? b=some o→s8'.heap.get? b=some o∧H8' b=none:=fun b hb o q=>by
      have z:=I8'.pin (b,o) (List.mem_append_right _ (List.mem_append_right _ (mem_pinsAt hb q)))
      exact ⟨z.1,z.2.1⟩
     refine ⟨m',hm',i+1,ys,its,cp,σ8,H8',?_,?_,fun b hb=>?_,gD9.2.1,gD9.1,rv5,w9⟩
     ·exact (I8'.pins_of (pins':=[]) (fun p hp=>by
       first
        | exact absurd hp (by simp)
        | (rw [List.append_nil] at hp;exact I8'.pin p (List.mem_append_left _ hp))))
     ·exact T.keep _ _ _ st7 fun b hb o q=>(pin8 b hb o q).1
     ·obtain ⟨o,q,_⟩:=T.obj _ _ st7 b hb
      exact (pin8 b hb o q).2
    | true =>
     refine wpAny_mono (he pins s3 H2 _ _ s8' σ8 H8' _ I8' q8') (fun uy s9 xx53=>?_) fun _ _ z=>z.elim
     obtain ⟨y,H9,I9,r9,n9⟩:=xx53
     obtain ⟨m',hm',w9⟩:=hN y σ8 H9 n9
     have gD9:=(I9.pin (s2.heap.objs.size,{ cls :=.type "list",data :=.seq its.toArray cp }) (List.mem_append_right _ (List.mem_append_left _ (List.mem_singleton.mpr rfl))))
     have pin9 : ∀ b ∈ fp,∀ o,s7.heap.get? b=some o→s9.heap.get? b=some o∧H9 b=none:=fun b hb o q=>by
      have z:=I9.pin (b,o) (List.mem_append_right _ (List.mem_append_right _ (mem_pinsAt hb q)))
      exact ⟨z.1,z.2.1⟩
     have hl9:=rv5.length
     refine call_meets PySem.F.slot_list_append ⟨_,gD9.1,rfl⟩ PySem.F.entry_list_append (PySem.F.args_list_append_2 _ _) (PySem.list_append s2.heap.objs.size its.toArray cp uy (by rw [List.size_toArray];omega)) ⟨gD9.1,?_⟩
     have qD:=PySem.IsL.update gD9.1 (fun xs=>xs.push uy)
     have ep:its.toArray.push uy=(its++[uy]).toArray:=by simp
     rw [ep] at qD
     have up : ∀ b o,b≠s2.heap.objs.size→s9.heap.get? b=some o→(s9.heap.update s2.heap.objs.size (Obj.mapSeq fun xs=>xs.push uy)).get? b=some o:=fun b o hb q=>(Heap.get?_update_other s9.heap _ (Ne.symm hb)).trans q
     refine ⟨m',hm',i+1,ys++[y],its++[uy],_,σ8,H9,?_,?_,fun b hb=>?_,gD9.2.1,qD,rv5.append (.cons r9 .nil),w9⟩
     ·refine (I9.pins_of (pins':=[]) (fun p hp=>by
       first
        | exact absurd hp (by simp)
        | (rw [List.append_nil] at hp;exact I9.pin p (List.mem_append_left _ hp)))).turned (it:=s2.heap.objs.size) up gD9.2.1 (Nat.ne_of_lt hDlt) (.inl (List.mem_cons_self ..)) (fun x c q=>(ncl x c q).elim (fun z=>Nat.ne_of_lt (cel x c z)) fun z=>Nat.ne_of_gt (Nat.lt_trans hDlt z)) fun p hp=>?_
      have hp':p ∈ X.pn++pins:=by simpa [blk] using hp
      exact Nat.ne_of_lt (pnl p hp')
     ·exact T.keep _ _ _ st7 fun b hb o q=>up b o (Nat.ne_of_lt (fpl b hb)) (pin9 b hb o q).1
     ·obtain ⟨o,q,_⟩:=T.obj _ _ st7 b hb
      exact (pin9 b hb o q).2
  exact codeAny_compStart_list (loop _ rfl) (T.self _ 0 _ _ _ st4 (loop _ rfl))
theorem comp_core0 (hc:X.calm=true) (S:CompScope X.env scope caps) (hi:PI X target iter wi)
 (hg : ∀ pins s3 H ex,PG (blk X pins scope (caps++own) s3 H ex) target g)
 (he : ∀ pins s3 H ex,PE (blk X pins scope (caps++own) s3 H ex) elt te)
 (hix:caps.length=ix.length) (hcapB:(caps.zip ix).all (fun p=>X.N[p.2]?==some p.1)=true)
 (hs : ∀ x,foldedSetIterable iter X.env x=pure x) {use:Option (Value→Sem Unit)}{Q0:Value→Shared→Prop}{Qv:VK}{pins:List (Addr×Obj)}{s:Shared}{σ:St}{H:Hp}{pos':Pos} (I:Inv X pins σ H s) (h:tComp ix own.length wi g te σ H Qv)
 (fin : ∀ (D C:Addr) (s6:Shared) (H6:Hp) (m6:Str→Option Value),s6.heap.Ns C m6→Inv X pins σ H6 s6→H6 C=none→C≠X.env.locals→C ∉ X.fs→(C ∈ X.ex∨X.s₀.heap.objs.size≤C)→(∀ x c,X.env.cells.lookup x=some c→c≠C)→(∀ p ∈ X.pn++pins,p.1≠C)→Qv (.ref D) H6 →
 compPost (model X.prog X.w) X.A X.xe use Q0 (.ref D) C (.ok .next) s6) :
 wpAny (model X.prog X.w) X.A (comprehension (.ListComp elt [⟨target,iter,[],0⟩] scope pos) scope X.env pos' (newList []) false (eval iter X.env) use) Q0 X.xe s:=by
  refine comp_core (cs:=[]) (tt:=tYes) (Tst:=fun _ P _ s=>P true s) (fun J turn n h=>codeAny_compLoop_any J turn n h) hc S hi hg he (fun _ _ _ _ _ s _ H' _ _ _ I q k=>k true s H' I q) hix hcapB hs I h (fun J H1 z=>?_) fin
  obtain ⟨W,w0,turn⟩:=z
  refine ⟨W,w0,fun i m ys σ1 H2 w=>?_⟩
  rcases turn i m ys σ1 H2 w with z|z
  ·exact .inl z
  ·obtain ⟨go,hz,N,hN,step⟩:=z
   exact .inr ⟨go,hz,N,fun _ _=>False,hN,fun _ _ z=>z.elim,step⟩
theorem pe_comp (hc:X.calm=true) (S:CompScope X.env scope caps) (hi:PI X target iter wi)
 (hg : ∀ pins s3 H ex,PG (blk X pins scope (caps++own) s3 H ex) target g)
 (he : ∀ pins s3 H ex,PE (blk X pins scope (caps++own) s3 H ex) elt te)
 (hix:caps.length=ix.length:=by rfl) (hcapB:(caps.zip ix).all (fun p=>X.N[p.2]?==some p.1)=true:=by rfl)
  (hs : ∀ x,foldedSetIterable iter X.env x=pure x:=by intro _;rfl):PE X (.ListComp elt [⟨target,iter,[],0⟩] scope pos) (tComp ix own.length wi g te):=by
  intro pins s σ H Q I h
  rw [eval_ListComp]
  exact comp_core0 (use:=none) (Q0:=EP X pins σ Q) hc S hi hg he hix hcapB hs I h fun D C s6 H6 m6 ns6 IX c1 c2 c3 c4 c5 c6 q=>⟨m6,ns6,fun h' sb=>⟨.ref D,H6,IX.turned (t':=s6.toks) (it:=C) (fun b o hb q=>sb.extBut b o hb q) c1 c2 c4 c5 c6,rfl,q⟩⟩
end
end L2
namespace L2
open PySem PySem.Spec PyProof.Rows
inductive Sl where
 | non
 | val (d:PyData)
 | own (ds:List PyData)
 | pen (ds:List PyData)
 | new (d:PyData)
 | exc (C:Addr)
  | obj (a C:Addr) (nm:List Str) (fs:List (Str×PyData))
abbrev Sto:=List Sl
def gS:Sto→Nat→Sl
 | [],_ => .non
 | s::_,0=>s
 | _::r,i+1=>gS r i
def Sl.mut:Sl→Bool
 | .own _=>true
 | .pen _=>true
 | _=>false
def vS (σ:St) (i:Nat):Option V:=(σ[i]?).join
theorem gS_set : ∀ (e:Sto) (i j:Nat) (s:Sl),gS (e.set i s) j=if i=j∧i<e.length then s else gS e j
 | [],i,j,s=>by simp [gS]
 | x::e,0,0,s=>by simp [gS]
 | x::e,0,j+1,s=>by simp [gS]
 | x::e,i+1,0,s=>by simp [gS]
 | x::e,i+1,j+1,s=>by
  simp only [List.set_cons_succ,gS,gS_set e i j s,List.length_cons,Nat.add_right_cancel_iff,Nat.add_lt_add_iff_right]
theorem gS_out : ∀ {e:Sto}{i:Nat},e.length≤i→gS e i = .non
 | [],_,_=>by simp [gS]
 | x::e,0,h=>by simp at h
 | x::e,i+1,h=>by simp only [gS];exact gS_out (by simpa using h)
theorem vS_set (σ:St) (i j:Nat) (v:Option V):vS (σ.set i v) j=if i=j∧i<σ.length then v else vS σ j:=by
 unfold vS
 rw [List.getElem?_set]
 by_cases h:i=j
 ·subst h
  by_cases h2:i<σ.length
  ·simp [h2]
  ·simp [h2]
 ·simp [h]
theorem vS_some {σ:St}{i:Nat}{v:V} (h:vS σ i=some v):σ[i]?=some (some v):=by
 unfold vS at h
 cases e:σ[i]? with
 | none=>rw [e] at h;cases h
 | some o=>rw [e] at h;cases o with
  | none=>cases h
  | some u=>simpa using h
structure Frm where
 B:Hp
 He:Hp
 F0:Hp
mutual
def IsN (K:PySem.W.Frag) (H:Hp):PyData→V→Prop
 | .none,v=>v = .non
 | .bool b,v=>v = .bl b
 | .int i,v=>v = .int i
 | .str x,v=>v = .str x
 | .list l,v => ∃ a xs,v = .ref a∧H a=some (.lst xs)∧IssN K H l xs
 | .tuple l,v => ∃ a xs,v = .ref a∧H a=some (.tup xs)∧IssN K H l xs
 | .dict _,_=>False
def IssN (K:PySem.W.Frag) (H:Hp):List PyData→List V→Prop
 | [],xs=>xs=[]
 | d::l,xs => ∃ x r,xs=x::r∧IsN K H d x∧IssN K H l r
end
mutual
theorem IsN.is {K:PySem.W.Frag}{H H':Hp} (s:Same H H') : ∀ {d:PyData}{v:V},IsN K H d v→Is K H' d v
 | .none,_,h=>by unfold IsN at h;unfold Is;exact h
 | .bool _,_,h=>by unfold IsN at h;unfold Is;exact h
 | .int _,_,h=>by unfold IsN at h;unfold Is;exact h
 | .str _,_,h=>by unfold IsN at h;unfold Is;exact h
 | .list l,_,h=>by
  unfold IsN at h;unfold Is
  obtain ⟨a,xs,e,q,r⟩:=h
  exact ⟨a,xs,e,SqL.of (s _ _ q),IssN.is s r⟩
 | .tuple l,_,h=>by
  unfold IsN at h;unfold Is
  obtain ⟨a,xs,e,q,r⟩:=h
  exact ⟨a,xs,e,SqT.of (s _ _ q),IssN.is s r⟩
 | .dict _,_,h=>by unfold IsN at h;exact h.elim
theorem IssN.is {K:PySem.W.Frag}{H H':Hp} (s:Same H H') : ∀ {l:List PyData}{xs:List V},IssN K H l xs→Iss K H' l xs
 | [],_,h=>by unfold IssN at h;unfold Iss;exact h
 | d::l,_,h=>by
  unfold IssN at h;unfold Iss
  obtain ⟨x,r,e,p,q⟩:=h
  exact ⟨x,r,e,IsN.is s p,IssN.is s q⟩
end
mutual
theorem IsN.mono {K:PySem.W.Frag}{H H':Hp} (s:Same H H') : ∀ {d:PyData}{v:V},IsN K H d v→IsN K H' d v
 | .none,_,h=>by unfold IsN at h ⊢;exact h
 | .bool _,_,h=>by unfold IsN at h ⊢;exact h
 | .int _,_,h=>by unfold IsN at h ⊢;exact h
 | .str _,_,h=>by unfold IsN at h ⊢;exact h
 | .list l,_,h=>by
  unfold IsN at h ⊢
  obtain ⟨a,xs,e,q,r⟩:=h
  exact ⟨a,xs,e,s _ _ q,IssN.mono s r⟩
 | .tuple l,_,h=>by
  unfold IsN at h ⊢
  obtain ⟨a,xs,e,q,r⟩:=h
  exact ⟨a,xs,e,s _ _ q,IssN.mono s r⟩
 | .dict _,_,h=>by unfold IsN at h;exact h.elim
theorem IssN.mono {K:PySem.W.Frag}{H H':Hp} (s:Same H H') : ∀ {l:List PyData}{xs:List V},IssN K H l xs→IssN K H' l xs
 | [],_,h=>by unfold IssN at h ⊢;exact h
 | d::l,_,h=>by
  unfold IssN at h ⊢
  obtain ⟨x,r,e,p,q⟩:=h
  exact ⟨x,r,e,IsN.mono s p,IssN.mono s q⟩
end
def newF (M:Frm) (F:Hp):Hp:=fun b=>if (M.He b).isNone=true∧(M.B b).isNone=true then F b else none
theorem newF_le {M:Frm}{F:Hp}:Same (newF M F) F:=fun b o e=>by
 unfold newF at e;split at e
 ·exact .of e
 ·cases e
theorem newF_mono {M:Frm}{F F':Hp} (s:Same F F'):Same (newF M F) (newF M F'):=fun b o e=>by
 unfold newF at e ⊢;split at e
 ·rename_i h;rw [if_pos h];exact s b o e
 ·cases e
theorem newF_at {M:Frm}{F:Hp}{a:Addr}{o:HO} (h1:M.He a=none) (h2:M.B a=none) (h3:F a=some o):newF M F a=some o:=by
 unfold newF;rw [if_pos ⟨by rw [h1];rfl,by rw [h2];rfl⟩];exact h3
theorem newF_inv {M:Frm}{F:Hp}{a:Addr}{o:HO} (h:newF M F a=some o):M.He a=none∧M.B a=none∧F a=some o:=by
 unfold newF at h;split at h
 ·rename_i z;exact ⟨Option.isNone_iff_eq_none.mp z.1,Option.isNone_iff_eq_none.mp z.2,h⟩
 ·cases h
def excO (C ea:Addr):HO :=.ext fun h => ∃ o,h.get? ea=some o∧o.cls = .ref C
section
variable (K:PySem.W.Frag) (M:Frm) (F H:Hp)
def SlotOk:Sl→Option V→Prop
 | .non,_=>True
 | .val d,x => ∃ v,x=some v∧Is K F d v
 | .own ds,x => ∃ a vs,x=some (.ref a)∧H a=some (.lst vs)∧F a=none∧M.B a=none∧M.He a=none∧Iss K F ds vs
 | .pen ds,x => ∃ a vs,x=some (.ref a)∧H a=some (.lst vs)∧F a=none∧M.B a=none∧(∃ o,M.He a=some o)∧Iss K F ds vs
 | .new d,x => ∃ v,x=some v∧IsN K (newF M F) d v
 | .exc C,x => ∃ ea,x=some (.ref ea)∧F ea=some (excO C ea)
 | .obj a C nm fs,x => ∃ dx vs,x=some (.ref a)∧M.B a=some (.ins C dx vs)∧vs.map (·.1)=nm ∧ ∀ f d,(f,d) ∈ fs → ∃ v,vs.lookup f=some v∧Is K F d v
structure EnvOk (env:Sto) (σ:St):Prop where
 len:env.length=σ.length
 slot : ∀ i,SlotOk K M F H (gS env i) (vS σ i)
 dis : ∀ i j a,i≠j→(gS env i).mut=true→(gS env j).mut=true→vS σ i=some (.ref a)→vS σ j=some (.ref a)→False
 f0:Same M.F0 F
 fe:Same M.F0 M.He
 fh:Same F H
 bh:Same M.B H
 new : ∀ b o,F b=some o→M.F0 b=some o∨M.He b=none
 dom : ∀ b o,M.He b=some o → ∃ o',H b=some o'
end
structure Go (F H F' H':Hp):Prop where
 f:Same F F'
 h:Same H H'
 fh:Same F' H'
 new : ∀ b o,F' b=some o→F b=some o∨H b=none
theorem same_none {H H':Hp} (s:Same H H') {b:Addr} (h:H' b=none):H b=none:=s.free h
theorem Go.refl {F H:Hp} (s:Same F H):Go F H F H:=⟨.refl _,.refl _,s,fun _ _ h => .inl h⟩
theorem Go.put {F H:Hp}{p:Addr}{o:HO} (s:Same F H) (h:H p=none):Go F H (upd F p o) (upd H p o):=by
 refine ⟨same_new (same_none s h),same_new h,fun b u e=>?_,fun b u e=>?_⟩
 ·unfold upd at e ⊢
  split at e
  ·rename_i z;rw [if_pos z];exact .of e
  ·rename_i z;rw [if_neg z];exact s b u e
 ·unfold upd at e
  split at e
  ·rename_i z;subst z;exact .inr h
  ·exact .inl e
theorem Go.side {F H:Hp}{p:Addr}{o:HO} (s:Same F H) (h:H p=none):Go F H F (upd H p o) :=
 ⟨.refl _,same_new h,s.trans (same_new h),fun _ _ e => .inl e⟩
section
variable {K:PySem.W.Frag}{M:Frm}{F H F' H':Hp}{env:Sto}{σ:St}
theorem SlotOk.go {s:Sl}{x:Option V} (h:SlotOk K M F H s x) (g:Go F H F' H'):SlotOk K M F' H' s x:=by
 have nf : ∀ {a:Addr}{o:HO},H a=some o→F a=none→F' a=none:=fun {a o} h1 h2=>by
  cases e:F' a with
  | none=>rfl
  | some u=>rcases g.new a u e with q|q
            ·rw [h2] at q;cases q
            ·rw [h1] at q;cases q
 cases s with
 | non=>trivial
 | val d=>obtain ⟨v,e,i⟩:=h;exact ⟨v,e,i.mono g.f⟩
 | own ds=>obtain ⟨a,vs,e,h1,h2,h3,h4,h5⟩:=h;exact ⟨a,vs,e,g.h _ _ h1,nf h1 h2,h3,h4,h5.mono g.f⟩
 | pen ds=>obtain ⟨a,vs,e,h1,h2,h3,hx,h5⟩:=h;exact ⟨a,vs,e,g.h _ _ h1,nf h1 h2,h3,hx,h5.mono g.f⟩
 | new d=>obtain ⟨v,e,i⟩:=h;exact ⟨v,e,i.mono (newF_mono g.f)⟩
 | exc C=>obtain ⟨ea,e,i⟩:=h;exact ⟨ea,e,g.f.at i⟩
 | obj a0 C nm fs=>obtain ⟨dx,vs,e,b,hn,i⟩:=h;exact ⟨dx,vs,e,b,hn,fun f d m=>let ⟨v,l,j⟩:=i f d m; ⟨v,l,j.mono g.f⟩⟩
theorem EnvOk.go (I:EnvOk K M F H env σ) (g:Go F H F' H'):EnvOk K M F' H' env σ where
 len:=I.len
 slot:=fun i=>(I.slot i).go g
 dis:=I.dis
 f0:=I.f0.trans g.f
 fe:=I.fe
 fh:=g.fh
 bh:=I.bh.trans g.h
 new:=fun b o e=>(g.new b o e).elim (fun q=>I.new b o q) fun q=>by
  refine .inr ?_
  cases z:M.He b with
  | none=>rfl
  | some u=>obtain ⟨o',q'⟩:=I.dom b u z;rw [q] at q';cases q'
 dom:=fun b o e=>let ⟨o',q⟩:=I.dom b o e;g.h.any q
theorem EnvOk.he (I:EnvOk K M F H env σ) {a:Addr} (h:H a=none):M.He a=none:=by
 cases z:M.He a with
 | none=>rfl
 | some u=>obtain ⟨o',q'⟩:=I.dom a u z;rw [h] at q';cases q'
theorem EnvOk.setv (I:EnvOk K M F H env σ) {i:Nat}{d:PyData}{v:V} (h:Is K F d v):EnvOk K M F H (env.set i (.val d)) (σ.set i (some v)) where
 len:=by rw [List.length_set,List.length_set];exact I.len
 slot:=fun j=>by
  rw [gS_set,vS_set,I.len]
  split
  ·exact ⟨v,rfl,h⟩
  ·exact I.slot j
 dis:=fun j k a hjk h1 h2 h3 h4=>by
  rw [gS_set] at h1 h2
  rw [vS_set] at h3 h4
  rw [I.len] at h1 h2
  split at h1
  ·cases h1
  ·rename_i z1
   split at h2
   ·cases h2
   ·rename_i z2
    rw [if_neg z1] at h3
    rw [if_neg z2] at h4
    exact I.dis j k a hjk h1 h2 h3 h4
 f0:=I.f0
 fe:=I.fe
 fh:=I.fh
 bh:=I.bh
 new:=I.new
 dom:=I.dom
theorem EnvOk.seto (I:EnvOk K M F H env σ) {i:Nat}{ds:List PyData}{a:Addr}{vs:List V} (h1:H a=some (.lst vs)) (h2:F a=none) (h3:M.B a=none) (h4:M.He a=none)
 (h5 : ∀ j,(gS env j).mut=true→vS σ j≠some (.ref a)) (h6:Iss K F ds vs):EnvOk K M F H (env.set i (.own ds)) (σ.set i (some (.ref a))) where
  len:=by rw [List.length_set,List.length_set];exact I.len
  slot:=fun j=>by
   rw [gS_set,vS_set,I.len]
   split
   ·exact ⟨a,vs,rfl,h1,h2,h3,h4,h6⟩
   ·exact I.slot j
  dis:=fun j k b hjk m1 m2 e1 e2=>by
   rw [gS_set] at m1 m2
   rw [vS_set] at e1 e2
   rw [I.len] at m1 m2
   by_cases z1:i=j∧i<σ.length
   ·rw [if_pos z1] at m1 e1
    have z2 : ¬ (i=k∧i<σ.length):=fun z=>hjk (z1.1.symm.trans z.1)
    rw [if_neg z2] at m2 e2
    injection e1 with e1;injection e1 with e1;subst e1
    exact h5 k m2 e2
   ·rw [if_neg z1] at m1 e1
    by_cases z2:i=k∧i<σ.length
    ·rw [if_pos z2] at m2 e2
     injection e2 with e2;injection e2 with e2;subst e2
     exact h5 j m1 e1
    ·rw [if_neg z2] at m2 e2
     exact I.dis j k b hjk m1 m2 e1 e2
  f0:=I.f0
  fe:=I.fe
  fh:=I.fh
  bh:=I.bh
  new:=I.new
  dom:=I.dom
def Sl.upd:Sl→List PyData→Sl
 | .own _,ds => .own ds
 | .pen _,ds => .pen ds
 | s,_=>s
def Sl.cnt:Sl→List PyData
 | .own ds=>ds
 | .pen ds=>ds
 | _=>[]
theorem SlotOk.addr {s:Sl}{x:Option V} (h:SlotOk K M F H s x) (m:s.mut=true) : ∃ a vs,x=some (.ref a)∧H a=some (.lst vs)∧F a=none∧M.B a=none∧Iss K F s.cnt vs:=by
 cases s with
 | non=>cases m
 | val d=>cases m
 | own ds=>obtain ⟨a,vs,e,h1,h2,h3,h4,h5⟩:=h;exact ⟨a,vs,e,h1,h2,h3,h5⟩
 | pen ds=>obtain ⟨a,vs,e,h1,h2,h3,hx,h5⟩:=h;exact ⟨a,vs,e,h1,h2,h3,h5⟩
 | new d=>cases m
 | exc C=>cases m
 | obj a0 C nm fs=>cases m
theorem gS_lt {e:Sto}{i:Nat} (h:(gS e i).mut=true):i<e.length:=by
 by_cases z:i<e.length
 ·exact z
 ·rw [gS_out (by omega)] at h;cases h
theorem EnvOk.chg (I:EnvOk K M F H env σ) {i:Nat}{a:Addr}{ds:List PyData}{vs:List V} (m:(gS env i).mut=true) (ea:vS σ i=some (.ref a)) (h:Iss K F ds vs):EnvOk K M F (upd H a (.lst vs)) (env.set i ((gS env i).upd ds)) σ:=by
 obtain ⟨a',vs0,e,h1,h2,h3,h5⟩:=(I.slot i).addr m
 rw [ea] at e;injection e with e;injection e with e;subst e
 have hi:=gS_lt m
 have mu:((gS env i).upd ds).mut=true:=by
  cases q:gS env i with
  | non=>rw [q] at m;cases m
  | val d=>rw [q] at m;cases m
  | own d=>rfl
  | pen d=>rfl
  | new d=>rw [q] at m;cases m
  | exc C=>rw [q] at m;cases m
  | obj a0 C nm fs=>rw [q] at m;cases m
 have muj : ∀ j,(gS (env.set i ((gS env i).upd ds)) j).mut=(gS env j).mut:=fun j=>by
  rw [gS_set]
  split
  ·rename_i z;rw [mu,← z.1,m]
  ·rfl
 refine ⟨by rw [List.length_set];exact I.len,fun j=>?_,fun j k b hjk m1 m2 e1 e2=>I.dis j k b hjk (muj j ▸ m1) (muj k ▸ m2) e1 e2,I.f0,I.fe,fun b o e=>?_,fun b o e=>?_,I.new,fun b o e=>?_⟩
 ·rw [gS_set]
  by_cases z:i=j
  ·subst z
   rw [if_pos ⟨rfl,hi⟩]
   have S:=I.slot i
   cases q:gS env i with
   | non=>rw [q] at m;cases m
   | val d=>rw [q] at m;cases m
   | own ds0 =>
    rw [q] at S
    obtain ⟨a',vs',e,g1,g2,g3,g4,g5⟩:=S
    rw [ea] at e;injection e with e;injection e with e;subst e
    exact ⟨a,vs,ea,upd_same,g2,g3,g4,h⟩
   | pen ds0 =>
    rw [q] at S
    obtain ⟨a',vs',e,g1,g2,g3,gx,g5⟩:=S
    rw [ea] at e;injection e with e;injection e with e;subst e
    exact ⟨a,vs,ea,upd_same,g2,g3,gx,h⟩
   | new d=>rw [q] at m;cases m
   | exc C=>rw [q] at m;cases m
   | obj a0 C nm fs=>rw [q] at m;cases m
  ·rw [if_neg (fun y=>z y.1)]
   have S:=I.slot j
   cases q:gS env j with
   | non=>trivial
   | val d=>rw [q] at S;exact S
   | own ds0 =>
    rw [q] at S
    obtain ⟨b,vs',e,g1,g2,g3,g4,g5⟩:=S
    have hb:b≠a:=fun y=>by subst y;exact I.dis i j b z m (by rw [q];rfl) ea e
    exact ⟨b,vs',e,by rw [upd_ne hb];exact g1,g2,g3,g4,g5⟩
   | pen ds0 =>
    rw [q] at S
    obtain ⟨b,vs',e,g1,g2,g3,gx,g5⟩:=S
    have hb:b≠a:=fun y=>by subst y;exact I.dis i j b z m (by rw [q];rfl) ea e
    exact ⟨b,vs',e,by rw [upd_ne hb];exact g1,g2,g3,gx,g5⟩
   | new d=>rw [q] at S;exact S
   | exc C=>rw [q] at S;exact S
   | obj a0 C nm fs=>rw [q] at S;exact S
 ·rw [upd_ne (ne_of_none e h2)];exact I.fh b o e
 ·rw [upd_ne (ne_of_none e h3)];exact I.bh b o e
 ·obtain ⟨o',q⟩:=I.dom b o e
  by_cases z:b=a
  ·subst z;exact ⟨_,upd_same⟩
  ·exact ⟨o',by rw [upd_ne z];exact q⟩
theorem EnvOk.frz (I:EnvOk K M F H env σ) {a:Addr}{vs:List V} (h1:H a=some (.lst vs)) (h2:F a=none) (h4:M.He a=none) (h5 : ∀ j,(gS env j).mut=true→vS σ j≠some (.ref a)) :
 EnvOk K M (upd F a (.lst vs)) H env σ∧Same F (upd F a (.lst vs)):=by
  have sF:Same F (upd F a (.lst vs)):=same_new h2
  refine ⟨⟨I.len,fun j=>?_,I.dis,I.f0.trans sF,I.fe,fun b o e=>?_,I.bh,fun b o e=>?_,I.dom⟩,sF⟩
  ·have S:=I.slot j
   have n5:=h5 j
   cases q:gS env j with
   | non=>trivial
   | val d=>rw [q] at S;obtain ⟨v,e,i⟩:=S;exact ⟨v,e,i.mono sF⟩
   | own ds0 =>
    rw [q] at S n5
    obtain ⟨b,vs',e,g1,g2,g3,g4,g5⟩:=S
    have hb:b≠a:=fun y=>by subst y;exact n5 rfl e
    exact ⟨b,vs',e,g1,by rw [upd_ne hb];exact g2,g3,g4,g5.mono sF⟩
   | pen ds0 =>
    rw [q] at S n5
    obtain ⟨b,vs',e,g1,g2,g3,gx,g5⟩:=S
    have hb:b≠a:=fun y=>by subst y;exact n5 rfl e
    exact ⟨b,vs',e,g1,by rw [upd_ne hb];exact g2,g3,gx,g5.mono sF⟩
   | new d=>rw [q] at S;obtain ⟨v,e,i⟩:=S;exact ⟨v,e,i.mono (newF_mono sF)⟩
   | exc C=>rw [q] at S;obtain ⟨ea,e,i⟩:=S;exact ⟨ea,e,sF.at i⟩
   | obj a0 C nm fs=>rw [q] at S;obtain ⟨dx,vs',e,b',hn,i⟩:=S;exact ⟨dx,vs',e,b',hn,fun f d m=>let ⟨v,l,j⟩:=i f d m; ⟨v,l,j.mono sF⟩⟩
  ·by_cases z:b=a
   ·subst z;rw [upd_same] at e;rw [h1];exact .of e
   ·rw [upd_ne z] at e;exact I.fh b o e
  ·by_cases z:b=a
   ·subst z;exact .inr h4
   ·rw [upd_ne z] at e;exact I.new b o e
theorem EnvOk.drop (I:EnvOk K M F H env σ) (i:Nat):EnvOk K M F H (env.set i .non) σ where
 len:=by rw [List.length_set];exact I.len
 slot:=fun j=>by
  rw [gS_set]
  split
  ·trivial
  ·exact I.slot j
 dis:=fun j k a hjk h1 h2 h3 h4=>by
  rw [gS_set] at h1 h2
  split at h1
  ·cases h1
  ·split at h2
   ·cases h2
   ·exact I.dis j k a hjk h1 h2 h3 h4
 f0:=I.f0
 fe:=I.fe
 fh:=I.fh
 bh:=I.bh
 new:=I.new
 dom:=I.dom
theorem EnvOk.tell (I:EnvOk K M F H env σ) {i:Nat}{d:PyData}{v:V} (e:vS σ i=some v) (h:Is K F d v):EnvOk K M F H (env.set i (.val d)) σ where
 len:=by rw [List.length_set];exact I.len
 slot:=fun j=>by
  rw [gS_set]
  split
  ·rename_i z;rw [← z.1];exact ⟨v,e,h⟩
  ·exact I.slot j
 dis:=fun j k a hjk h1 h2 h3 h4=>by
  rw [gS_set] at h1 h2
  split at h1
  ·cases h1
  ·split at h2
   ·cases h2
   ·exact I.dis j k a hjk h1 h2 h3 h4
 f0:=I.f0
 fe:=I.fe
 fh:=I.fh
 bh:=I.bh
 new:=I.new
 dom:=I.dom
def Sl.fz:Sl→Sl
 | .own ds => .val (.list ds)
 | s=>s
theorem EnvOk.freeze (I:EnvOk K M F H env σ) (i:Nat) : ∃ F',EnvOk K M F' H (env.set i (gS env i).fz) σ∧Same F F':=by
 have same : ∀ s,gS env i=s→env.set i s=env:=fun s h=>by
  subst h
  apply List.ext_getElem?
  intro j
  rw [List.getElem?_set]
  split
  ·rename_i z
   subst z
   split
   ·rename_i hi
    have : ∀ (e:Sto) (n:Nat) (h:n<e.length),some (gS e n)=e[n]?:=by
     intro e
     induction e with
     | nil=>intro n h;simp at h
     | cons x e ih=>intro n h;cases n with
      | zero=>rfl
      | succ n=>simp only [gS,List.getElem?_cons_succ];exact ih n (by simpa using h)
    exact this env i hi
   ·rename_i hi
    rw [List.getElem?_eq_none (by omega)]
  ·rfl
 cases q:gS env i with
 | non=>exact ⟨F,by rw [show Sl.fz .non = .non from rfl,same _ q];exact I,.refl _⟩
 | val d=>exact ⟨F,by rw [show Sl.fz (.val d) = .val d from rfl,same _ q];exact I,.refl _⟩
 | pen ds=>exact ⟨F,by rw [show Sl.fz (.pen ds) = .pen ds from rfl,same _ q];exact I,.refl _⟩
 | new d=>exact ⟨F,by rw [show Sl.fz (.new d) = .new d from rfl,same _ q];exact I,.refl _⟩
 | exc C=>exact ⟨F,by rw [show Sl.fz (.exc C) = .exc C from rfl,same _ q];exact I,.refl _⟩
 | obj a0 C nm fs=>exact ⟨F,by rw [show Sl.fz (.obj a0 C nm fs) = .obj a0 C nm fs from rfl,same _ q];exact I,.refl _⟩
 | own ds =>
  have S:=I.slot i
  rw [q] at S
  obtain ⟨a,vs,e,h1,h2,h3,h4,h5⟩:=S
  obtain ⟨J,s⟩:=(I.drop i).frz h1 h2 h4 (fun j m z=>by
   rw [gS_set] at m
   split at m
   ·cases m
   ·rename_i hn
    by_cases hij:i=j
    ·subst hij
     exact hn ⟨rfl,gS_lt (by rw [q];rfl)⟩
    ·exact I.dis i j a hij (by rw [q];rfl) m e z)
  have T:=J.tell (i:=i) (d :=.list ds) e (is_lst (SqL.of upd_same) (h5.mono s))
  rw [List.set_set] at T
  exact ⟨_,T,s⟩
end
end L2
namespace L2
open PySem PySem.Spec PyProof.Rows
abbrev WE:=Sto→(PyData→Sto→Prop)→Prop
abbrev WF:=Sto→(List PyData→Sto→Prop)→Prop
abbrev WT:=Sto→(Bool→Sto→Prop)→Prop
inductive Ret where
 | val (d:PyData)
 | own (ds:List PyData)
 | new (d:PyData)
def Ret.data:Ret→PyData
 | .val d=>d
 | .own ds => .list ds
 | .new d=>d
structure WEnds where
 nx:Sto→Prop
 rt:Ret→Sto→Prop
 bk:Sto→Prop:=fun _=>False
 ct:Sto→Prop:=fun _=>False
abbrev WS:=WEnds→Sto→Prop
abbrev WG:=PyData→Sto→(Sto→Prop)→Prop
abbrev WGs:=List PyData→Sto→(Sto→Prop)→Prop
abbrev D2:=PyData→PyData→(PyData→Prop)→Prop
abbrev DC:=List PyData→(PyData→Prop)→Prop
section
variable (K:PySem.W.Frag)
def liftE (W:WE):TE:=fun σ H R => ∃ M env F Q,EnvOk K M F H env σ∧W env Q ∧ ∀ d v F' H' env',EnvOk K M F' H' env' σ→Same F F'→Is K F' d v→Q d env'→R v H'
def liftF (W:WF):TE:=fun σ H R => ∃ M env F Q,EnvOk K M F H env σ∧W env Q ∧ ∀ a vs ds F' H' env',EnvOk K M F' H' env' σ→Same F F'→H' a=some (.lst vs)→F' a=none→M.B a=none→M.He a=none →
 (∀ i,(gS env' i).mut=true→vS σ i≠some (.ref a))→Iss K F' ds vs→Q ds env'→R (.ref a) H'
def liftA (W:WF):TA:=fun σ H R => ∃ M env F Q,EnvOk K M F H env σ∧W env Q ∧ ∀ ds vs F' H' env',EnvOk K M F' H' env' σ→Same F F'→Iss K F' ds vs→Q ds env'→R vs H'
def liftT (W:WT):TT:=fun σ H R => ∃ M env F Q,EnvOk K M F H env σ∧W env Q ∧ ∀ b F' H' env',EnvOk K M F' H' env' σ→Same F F'→Q b env'→R b H'
def RetOk (M:Frm) (F H:Hp):Ret→V→Prop
 | .val d,v=>Is K F d v
 | .own ds,v => ∃ a vs,v = .ref a∧H a=some (.lst vs)∧F a=none∧M.B a=none∧M.He a=none∧Iss K F ds vs
 | .new d,v=>IsN K (newF M F) d v
structure EndsOk (M:Frm) (F:Hp) (DD:WEnds) (D:Ends):Prop where
 nx : ∀ env' F' H' σ',EnvOk K M F' H' env' σ'→Same F F'→DD.nx env'→D.nx σ' H'
 rt : ∀ r v env' F' H' σ',EnvOk K M F' H' env' σ'→Same F F'→RetOk K M F' H' r v→DD.rt r env'→D.rt v H'
 bk : ∀ env' F' H' σ',EnvOk K M F' H' env' σ'→Same F F'→DD.bk env'→D.bk σ' H'
 ct : ∀ env' F' H' σ',EnvOk K M F' H' env' σ'→Same F F'→DD.ct env'→D.ct σ' H'
def liftS (W:WS):TS:=fun D σ H => ∃ M env F DD,EnvOk K M F H env σ∧W DD env∧EndsOk K M F DD D
def liftG (W:WG):TG:=fun v σ H R => ∃ M env F d Q,EnvOk K M F H env σ∧Is K F d v∧W d env Q ∧ ∀ F' H' env' σ',EnvOk K M F' H' env' σ'→Same F F'→Q env'→R σ' H'
def liftGs (W:WGs):TGs:=fun vs σ H R => ∃ M env F ds Q,EnvOk K M F H env σ∧Iss K F ds vs∧W ds env Q ∧ ∀ F' H' env' σ',EnvOk K M F' H' env' σ'→Same F F'→Q env'→R σ' H'
def lift2 (r:D2):R2:=fun x y H Q => ∃ F dx dy q,Same F H∧Is K F dx x∧Is K F dy y∧r dx dy q ∧ ∀ d v F' H',Go F H F' H'→Is K F' d v→q d→Q v H'
def liftC (r:DC):List V→Hp→VK→Prop:=fun vs H Q => ∃ F ds q,Same F H∧Iss K F ds vs∧r ds q ∧ ∀ d v F' H',Go F H F' H'→Is K F' d v→q d→Q v H'
def liftCF (r:List PyData→(List PyData→Prop)→Prop):List V→Hp→VK→Prop:=fun vs H Q => ∃ F ds q,Same F H∧Iss K F ds vs∧r ds q ∧ ∀ l a xs F' H',Go F H F' H'→H a=none→F' a=none→H' a=some (.lst xs)→Iss K F' l xs→q l→Q (.ref a) H'
structure ItD (J:It) (F:Hp) (ds:List PyData):Prop where
 go : ∀ i H,Same F H→i<ds.length→J.go i H
 stop : ∀ H,Same F H→J.stop ds.length H
 yld : ∀ i H x H' F1,Same F F1→Same F1 H→i<ds.length→J.yld i H x H' → ∃ d F2,ds[i]?=some d∧Go F1 H F2 H'∧Is K F2 d x
def liftI (W:WF):TI:=fun σ H R => ∃ M env F Q,EnvOk K M F H env σ∧W env Q ∧ ∀ ds J F' H' env',EnvOk K M F' H' env' σ→Same F F'→ItD K J F' ds→Q ds env'→R J H'
end
section
variable {K:PySem.W.Frag}{M:Frm}{F F':Hp}{DD:WEnds}{D:Ends}
theorem EndsOk.mono (h:EndsOk K M F DD D) (s:Same F F'):EndsOk K M F' DD D :=
 ⟨fun e f g i j k=>h.nx e f g i j (s.trans k),fun r v e f g i j k=>h.rt r v e f g i j (s.trans k),fun e f g i j k=>h.bk e f g i j (s.trans k),fun e f g i j k=>h.ct e f g i j (s.trans k)⟩
end
def VE (X:Cx) (e:Expr) (W:WE):Prop:=PE X e (liftE X.K W)
def VF (X:Cx) (e:Expr) (W:WF):Prop:=PE X e (liftF X.K W)
def VA (X:Cx) (e:List Expr) (W:WF):Prop:=PA X e (liftA X.K W)
def VT (X:Cx) (e:Expr) (W:WT):Prop:=PT X e (liftT X.K W)
def VW (X:Cx) (e:Expr) (W:WT):Prop:=PW X e (liftT X.K W)
theorem VW.pt {X:Cx}{e:Expr}{W:WT} (h:VW X e W):VT X e W:=PW.pt h
def VS (X:Cx) (st:Stmt) (W:WS):Prop:=PS X st (liftS X.K W)
def VSs (X:Cx) (st:List Stmt) (W:WS):Prop:=PSs X st (liftS X.K W)
def VG (X:Cx) (e:Expr) (W:WG):Prop:=PG X e (liftG X.K W)
def VGs (X:Cx) (e:List Expr) (W:WGs):Prop:=PGs X e (liftGs X.K W)
def VI (X:Cx) (tg e:Expr) (W:WF):Prop:=PI X tg e (liftI X.K W)
def OpV (X:Cx) (f:Value→Value→Sem Value) (r:D2):Prop:=OpR X f (lift2 X.K r)
def CallV (X:Cx) (f:Value) (r:DC):Prop:=CallR X f (liftC X.K r)
def CallVF (X:Cx) (f:Value) (r:List PyData→(List PyData→Prop)→Prop):Prop:=CallR X f (liftCF X.K r)
section
variable {X:Cx}
theorem PE.imp {e:Expr}{t t':TE} (h:PE X e t) (i : ∀ σ H Q,t' σ H Q→t σ H Q):PE X e t':=fun pins s σ H Q I q=>h pins s σ H Q I (i σ H Q q)
theorem PA.imp {e:List Expr}{t t':TA} (h:PA X e t) (i : ∀ σ H Q,t' σ H Q→t σ H Q):PA X e t':=fun pos pins s σ H Q I q=>h pos pins s σ H Q I (i σ H Q q)
theorem PT.imp {e:Expr}{t t':TT} (h:PT X e t) (i : ∀ σ H Q,t' σ H Q→t σ H Q):PT X e t':=fun pins s σ H Q I q=>h pins s σ H Q I (i σ H Q q)
theorem PW.imp {e:Expr}{t t':TT} (h:PW X e t) (i : ∀ σ H Q,t' σ H Q→t σ H Q):PW X e t':=fun wh pins s σ H Q I q=>h wh pins s σ H Q I (i σ H Q q)
theorem PS.imp {e:Stmt}{t t':TS} (h:PS X e t) (i : ∀ D σ H,t' D σ H→t D σ H):PS X e t':=fun pins s σ H D I q=>h pins s σ H D I (i D σ H q)
theorem PSs.imp {e:List Stmt}{t t':TS} (h:PSs X e t) (i : ∀ D σ H,t' D σ H→t D σ H):PSs X e t':=fun pins s σ H D I q=>h pins s σ H D I (i D σ H q)
theorem PG.imp {e:Expr}{t t':TG} (h:PG X e t) (i : ∀ v σ H Q,t' v σ H Q→t v σ H Q):PG X e t':=fun pins s σ H v u Q I r q=>h pins s σ H v u Q I r (i v σ H Q q)
theorem PGs.imp {e:List Expr}{t t':TGs} (h:PGs X e t) (i : ∀ v σ H Q,t' v σ H Q→t v σ H Q):PGs X e t':=fun pins s σ H v u Q I r q=>h pins s σ H v u Q I r (i v σ H Q q)
theorem PI.imp {tg e:Expr}{t t':TI} (h:PI X tg e t) (i : ∀ σ H Q,t' σ H Q→t σ H Q):PI X tg e t':=fun pins s σ H Q I q=>h pins s σ H Q I (i σ H Q q)
theorem OpR.imp {f:Value→Value→Sem Value}{r r':R2} (h:OpR X f r) (i : ∀ x y H Q,r' x y H Q→r x y H Q):OpR X f r':=fun pins s σ H x y v u Q I a b q=>h pins s σ H x y v u Q I a b (i x y H Q q)
theorem CallR.imp {f:Value}{r r':List V→Hp→VK→Prop} (h:CallR X f r) (i : ∀ x H Q,r' x H Q→r x H Q):CallR X f r':=fun pins s σ H x u Q I a q=>h pins s σ H x u Q I a (i x H Q q)
theorem IxR.imp {r r':R2} (h:IxR X r) (i : ∀ x y H Q,r' x y H Q→r x y H Q):IxR X r':=fun value slice pins s σ H x y v u Q I a b q=>h value slice pins s σ H x y v u Q I a b (i x y H Q q)
def wVar (i:Nat):WE:=fun env Q=>match gS env i with | .val d=>Q d env | .new d=>Q d env|_=>False
theorem ve_var (i:Nat) {x:Str}{pos:Pos} (hN:X.N[i]?=some x:=by rfl) (hv:Vis X.env.scope x:=by first|exact Or.inl rfl|exact Or.inr (Or.inl rfl)|exact Or.inr (Or.inr rfl)) (hd:(x==("__debug__" : Str))=false:=by decide)
 (hcd:(x==("__classdict__" : Str))=false:=by decide):VE X (.Name x pos) (wVar i):=(pe_var hN hv hd hcd).imp fun σ H R xx58=>by
 obtain ⟨M,env,F,Q,I,h,k⟩:=xx58
 have S:=I.slot i
 unfold wVar at h
 cases q:gS env i with
 | val d =>
  rw [q] at S h
  obtain ⟨v,e,j⟩:=S
  exact ⟨v,vS_some e,k d v F H env I (.refl _) j h⟩
 | new d =>
  rw [q] at S h
  obtain ⟨v,e,j⟩:=S
  exact ⟨v,vS_some e,k d v F H env I (.refl _) (j.is newF_le) h⟩
 | non=>rw [q] at h;exact h.elim
 | own ds=>rw [q] at h;exact h.elim
 | pen ds=>rw [q] at h;exact h.elim
 | exc C=>rw [q] at h;exact h.elim
 | obj a0 C nm fs=>rw [q] at h;exact h.elim
def wC (d:PyData):WE:=fun env Q=>Q d env
theorem ve_c {e:Expr}{v:V}{d:PyData} (h:PE X e (tC v)) (i : ∀ F,Is X.K F d v):VE X e (wC d):=h.imp fun σ H R xx59=>by obtain ⟨M,env,F,Q,I,h,k⟩:=xx59;exact k d v F H env I (.refl _) (i F) h
theorem ve_int {i j pos}:VE X (.Constant (.int i) j pos) (wC (.int i)):=ve_c pe_int fun _=>is_int i
theorem ve_bl {b j pos}:VE X (.Constant (.bool b) j pos) (wC (.bool b)):=ve_c pe_bl fun _=>is_bl b
theorem ve_non {j pos}:VE X (.Constant .none j pos) (wC .none):=ve_c pe_non fun _=>is_non
theorem ve_str {x j pos}:VE X (.Constant (.str x) j pos) (wC (.str x)):=ve_c pe_str fun _=>is_str x
theorem ve_globI {x:Str}{i:Int}{pos:Pos} (h : ∃ t,X.mg x=some (.int i t)) (hg:Gl X x:=by rfl) (hd:(x==("__debug__" : Str))=false:=by decide):VE X (.Name x pos) (wC (.int i)):=by
 obtain ⟨t,hm⟩:=h
 exact ve_c (pe_glob (v :=.int i) hg hm ⟨t,rfl⟩ hd) fun _=>is_int i
def wOp (r:D2) (Wa Wb:WE):WE:=fun env Q=>Wa env fun x e1=>Wb e1 fun y e2=>r x y fun d=>Q d e2
theorem op_lift {r:D2}{Wa Wb:WE}{σ:St}{H:Hp}{R:VK} (h:liftE X.K (wOp r Wa Wb) σ H R):tOp (lift2 X.K r) (liftE X.K Wa) (liftE X.K Wb) σ H R:=by
 obtain ⟨M,env,F,Q,I,h,k⟩:=h
 exact ⟨M,env,F,_,I,h,fun d v F1 H1 e1 I1 s1 i1 h1=>⟨M,e1,F1,_,I1,h1,fun d2 v2 F2 H2 e2 I2 s2 i2 h2 =>
  ⟨F2,d,d2,_,I2.fh,i1.mono s2,i2,h2,fun d3 v3 F3 H3 g i3 q=>k d3 v3 F3 H3 e2 (I2.go g) (s1.trans (s2.trans g.f)) i3 q⟩⟩⟩
section
variable {a b c:Expr}{Wa Wb Wc:WE}{pos:Pos}
theorem ve_op {op:Operator}{r:D2} (ho:OpV X (binaryOp op) r) (ha:VE X a Wa) (hb:VE X b Wb):VE X (.BinOp a op b pos) (wOp r Wa Wb) :=
 (pe_op ho ha hb).imp fun _ _ _ h=>op_lift h
theorem ve_cmp {op:CmpOp}{r:D2} (ho:OpV X (compareOp op) r) (ha:VE X a Wa) (hb:VE X b Wb) (hm:behindInMarks op b=false:=by first|exact nomark _|with_unfolding_all rfl):VE X (.Compare a [op] [b] pos) (wOp r Wa Wb) :=
 (pe_cmpR ho ha hb hm).imp fun _ _ _ h=>op_lift h
def wTest (W:WE):WT:=fun env Q=>W env fun d e=>match d with | .bool b=>Q b e|_=>False
theorem test_lift {W:WE}{σ:St}{H:Hp}{R:Bool→Hp→Prop} (h:liftT X.K (wTest W) σ H R):liftE X.K W σ H fun x H' => ∃ k,x = .bl k∧R k H':=by
 obtain ⟨M,env,F,Q,I,h,k⟩:=h
 refine ⟨M,env,F,_,I,h,fun d v F1 H1 e1 I1 s1 i1 h1=>?_⟩
 cases d with
 | bool b=>exact ⟨b,i1.bl_inv,k b F1 H1 e1 I1 s1 h1⟩
 | _=>exact False.elim h1
theorem vt_cmp {op:CmpOp}{r:D2} (ho:OpV X (compareOp op) r) (ha:VE X a Wa) (hb:VE X b Wb) (hm:behindInMarks op b=false:=by first|exact nomark _|with_unfolding_all rfl):VT X (.Compare a [op] [b] pos) (wTest (wOp r Wa Wb)) :=
 (pt_cmpR ho ha hb hm).imp fun σ H R h=>op_lift (test_lift h)
theorem vt_val {e:Expr}{W:WE} (h:VE X e W) (he : ∀ whole,isTrue e X.env whole=(do let v ← whole;standAt e.pos;holding [v] (truthy v)):=by intro _;rfl):VT X e (wTest W) :=
 (pt_val h he).imp fun σ H R h=>test_lift h
def wChain (r r':D2) (Wa Wb Wc:WE):WE:=fun env Q=>Wa env fun x e1=>Wb e1 fun y e2=>r x y fun z=>match z with
 | .bool k=>if k=true then Wc e2 fun w e3=>r' y w fun d=>Q d e3 else Q (.bool false) e2
 | _=>False
theorem chain_lift {r r':D2}{σ:St}{H:Hp}{R:VK} (h:liftE X.K (wChain r r' Wa Wb Wc) σ H R):tChain (lift2 X.K r) (lift2 X.K r') (liftE X.K Wa) (liftE X.K Wb) (liftE X.K Wc) σ H R:=by
 obtain ⟨M,env,F,Q,I,h,k⟩:=h
 refine ⟨M,env,F,_,I,h,fun d v F1 H1 e1 I1 s1 i1 h1=>⟨M,e1,F1,_,I1,h1,fun d2 v2 F2 H2 e2 I2 s2 i2 h2=>⟨F2,d,d2,_,I2.fh,i1.mono s2,i2,h2,fun d3 v3 F3 H3 g i3 q=>?_⟩⟩⟩
 have I3:=I2.go g
 have s3:=s1.trans (s2.trans g.f)
 cases d3 with
 | bool b =>
  refine ⟨b,i3.bl_inv,?_⟩
  cases b with
  | false=>exact iteF (k _ _ F3 H3 e2 I3 s3 (is_bl false) q)
  | true=>exact iteT ⟨M,e2,F3,_,I3,q,fun d4 v4 F4 H4 e4 I4 s4 i4 h4=>⟨F4,d2,d4,_,I4.fh,(i2.mono g.f).mono s4,i4,h4,fun d5 v5 F5 H5 g5 i5 q5=>k d5 v5 F5 H5 e4 (I4.go g5) (s3.trans (s4.trans g5.f)) i5 q5⟩⟩
 | _=>exact False.elim q
theorem ve_chain {op op':CmpOp}{r r':D2} (ho:OpV X (compareOp op) r) (ho':OpV X (compareOp op') r') (ha:VE X a Wa) (hb:VE X b Wb) (hc:VE X c Wc)
 (hm:lastMarks [op,op'] [b,c]=false:=by with_unfolding_all rfl):VE X (.Compare a [op,op'] [b,c] pos) (wChain r r' Wa Wb Wc):=(pe_chain ho ho' ha hb hc hm).imp fun _ _ _ h=>chain_lift h
theorem vt_chain {op op':CmpOp}{r r':D2} (ho:OpV X (compareOp op) r) (ho':OpV X (compareOp op') r') (ha:VE X a Wa) (hb:VE X b Wb) (hc:VE X c Wc)
 (hm:lastMarks [op,op'] [b,c]=false:=by with_unfolding_all rfl):VT X (.Compare a [op,op'] [b,c] pos) (wTest (wChain r r' Wa Wb Wc)):=(pt_chain ho ho' ha hb hc hm).imp fun _ _ _ h=>chain_lift (test_lift h)
end
section
variable {a b c:Expr}{Wa Wb Wc:WE}{Ta Tb Tc:WT}{pos:Pos}{rest:List Expr}
def wAnd (t u:WT):WT:=fun env Q=>t env fun k e=>if k=true then u e Q else Q false e
def wOr (t u:WT):WT:=fun env Q=>t env fun k e=>if k=true then Q true e else u e Q
def wNot (t:WT):WT:=fun env Q=>t env fun k e=>Q (!k) e
theorem vw_and1 (ha:VT X a Ta):VW X (.BoolOp .And [a] pos) Ta:=pw_and1 ha
theorem vw_or1 (ha:VT X a Ta):VW X (.BoolOp .Or [a] pos) Ta:=pw_or1 ha
theorem vw_and (ha:VT X a Ta) (hb:VW X (.BoolOp .And (b::rest) pos) Tb):VW X (.BoolOp .And (a::b::rest) pos) (wAnd Ta Tb):=(pw_and ha hb).imp fun σ H R xx60=>by
 obtain ⟨M,env,F,Q,I,h,k⟩:=xx60
 refine ⟨M,env,F,_,I,h,fun x F1 H1 e1 I1 s1 h1=>?_⟩
 cases x with
 | true=>exact iteT ⟨M,e1,F1,Q,I1,h1,fun y F2 H2 e2 I2 s2 h2=>k y F2 H2 e2 I2 (s1.trans s2) h2⟩
 | false=>exact iteF (k false F1 H1 e1 I1 s1 h1)
theorem vw_or (ha:VT X a Ta) (hb:VW X (.BoolOp .Or (b::rest) pos) Tb):VW X (.BoolOp .Or (a::b::rest) pos) (wOr Ta Tb):=(pw_or ha hb).imp fun σ H R xx61=>by
 obtain ⟨M,env,F,Q,I,h,k⟩:=xx61
 refine ⟨M,env,F,_,I,h,fun x F1 H1 e1 I1 s1 h1=>?_⟩
 cases x with
 | true=>exact iteT (k true F1 H1 e1 I1 s1 h1)
 | false=>exact iteF ⟨M,e1,F1,Q,I1,h1,fun y F2 H2 e2 I2 s2 h2=>k y F2 H2 e2 I2 (s1.trans s2) h2⟩
theorem vt_not (ha:VT X a Ta):VT X (.UnaryOp .Not a pos) (wNot Ta):=(pt_not ha).imp fun σ H R xx62=>by
 obtain ⟨M,env,F,Q,I,h,k⟩:=xx62
 exact ⟨M,env,F,_,I,h,fun x F1 H1 e1 I1 s1 h1=>k (!x) F1 H1 e1 I1 s1 h1⟩
def wAndV (Wa Wb:WE):WE:=fun env Q=>Wa env fun d e=>match d with | .bool k=>if k=true then Wb e Q else Q (.bool false) e|_=>False
def wNotV (Wa:WE):WE:=fun env Q=>Wa env fun d e=>match d with | .bool k=>Q (.bool (!k)) e|_=>False
theorem ve_one {op} (h:VE X a Wa):VE X (.BoolOp op [a] pos) Wa:=pe_one h
theorem ve_and (ha:VE X a Wa) (hb:VE X (.BoolOp .And (b::rest) pos) Wb):VE X (.BoolOp .And (a::b::rest) pos) (wAndV Wa Wb):=(pe_and ha hb).imp fun σ H R xx63=>by
 obtain ⟨M,env,F,Q,I,h,k⟩:=xx63
 refine ⟨M,env,F,_,I,h,fun d v F1 H1 e1 I1 s1 i1 h1=>?_⟩
 cases d with
 | bool x =>
  refine ⟨x,i1.bl_inv,?_⟩
  cases x with
  | true=>exact iteT ⟨M,e1,F1,Q,I1,h1,fun d2 v2 F2 H2 e2 I2 s2 i2 h2=>k d2 v2 F2 H2 e2 I2 (s1.trans s2) i2 h2⟩
  | false=>exact iteF (k _ _ F1 H1 e1 I1 s1 (is_bl false) h1)
 | _=>exact False.elim h1
theorem ve_not (ha:VE X a Wa):VE X (.UnaryOp .Not a pos) (wNotV Wa):=(pe_not ha).imp fun σ H R xx64=>by
 obtain ⟨M,env,F,Q,I,h,k⟩:=xx64
 refine ⟨M,env,F,_,I,h,fun d v F1 H1 e1 I1 s1 i1 h1=>?_⟩
 cases d with
 | bool x=>exact ⟨x,i1.bl_inv,k _ _ F1 H1 e1 I1 s1 (is_bl _) h1⟩
 | _=>exact False.elim h1
end
section
variable {a b:Expr}{Wa Wb:WE}{pos p2:Pos}
def wUn (r:PyData→(PyData→Prop)→Prop) (W:WE):WE:=fun env Q=>W env fun d e=>r d fun y=>Q y e
def dNeg:PyData→(PyData→Prop)→Prop
 | .int i,q=>q (.int (-i))
 | _,_=>False
theorem ve_neg (ha:VE X a Wa):VE X (.UnaryOp .USub a pos) (wUn dNeg Wa):=(pe_un un_neg ha).imp fun σ H R xx65=>by
 obtain ⟨M,env,F,Q,I,h,k⟩:=xx65
 refine ⟨M,env,F,_,I,h,fun d v F1 H1 e1 I1 s1 i1 h1=>?_⟩
 cases d with
 | int i=>exact ⟨i,i1.int_inv,k _ _ F1 H1 e1 I1 s1 (is_int _) h1⟩
 | _=>exact False.elim h1
def dIx:D2
 | .list l,.int i,q => ∃ d,atI l i=some d∧q d
 | .tuple l,.int i,q => ∃ d,atI l i=some d∧q d
 | _,_,_=>False
theorem ix_V:IxR X (lift2 X.K dIx):=ix_seq.imp fun x y H Q xx66=>by
 obtain ⟨F,dx,dy,q,s,i1,i2,h,k⟩:=xx66
 cases dx with
 | list l=>cases dy with
  | int i =>
   obtain ⟨d,e,hq⟩:=h
   obtain ⟨a,xs,rfl,hs,hr⟩:=i1.lst_inv
   obtain ⟨z,ez,hz⟩:=hr.atI e
   exact .inl ⟨a,xs,i,z,rfl,i2.int_inv,s.seq hs,ez,k d z F H (.refl s) hz hq⟩
  | _=>exact False.elim h
 | tuple l=>cases dy with
  | int i =>
   obtain ⟨d,e,hq⟩:=h
   obtain ⟨a,xs,rfl,hs,hr⟩:=i1.tup_inv
   obtain ⟨z,ez,hz⟩:=hr.atI e
   exact .inr (.inl ⟨a,xs,i,z,rfl,i2.int_inv,same_seqT s hs,ez,k d z F H (.refl s) hz hq⟩)
  | _=>exact False.elim h
 | _=>exact False.elim h
theorem ve_ix (ha:VE X a Wa) (hb:VE X b Wb) (hs:PlainIx b:=by exact (fun _ _=>rfl)):VE X (.Subscript a b pos) (wOp dIx Wa Wb):=(pe_ix ix_V ha hb hs).imp fun _ _ _ h=>op_lift h
abbrev WO:=Sto→(Option Int→Sto→Prop)→Prop
def liftO (K:PySem.W.Frag) (W:WO):TO:=fun σ H R => ∃ M env F Q,EnvOk K M F H env σ∧W env Q ∧ ∀ o F' H' env',EnvOk K M F' H' env' σ→Same F F'→Q o env'→R o H'
def wNoPart:WO:=fun env Q=>Q none env
def wPart (W:WE):WO:=fun env Q=>W env fun d e=>match d with | .int i=>Q (some i) e|_=>False
def VO (X:Cx) (e:Option Expr) (W:WO):Prop:=PO X e (liftO X.K W)
theorem PO.imp {e:Option Expr}{t t':TO} (h:PO X e t) (i : ∀ σ H Q,t' σ H Q→t σ H Q):PO X e t':=fun pins s σ H Q I q=>h pins s σ H Q I (i σ H Q q)
theorem vo_none:VO X none wNoPart:=po_none.imp fun σ H R xx67=>by obtain ⟨M,env,F,Q,I,h,k⟩:=xx67;exact k none F H env I (.refl _) h
theorem vo_some (ha:VE X a Wa):VO X (some a) (wPart Wa):=(po_some ha).imp fun σ H R xx68=>by
 obtain ⟨M,env,F,Q,I,h,k⟩:=xx68
 refine ⟨M,env,F,_,I,h,fun d v F1 H1 e1 I1 s1 i1 h1=>?_⟩
 cases d with
 | int i=>exact ⟨i,i1.int_inv,k (some i) F1 H1 e1 I1 s1 h1⟩
 | _=>exact False.elim h1
def cutL {α:Type} (ds:List α) (lo hi:Option Int):List α:=(ds.drop (HT.sIx ds.length 0 lo)).take (HT.sIx ds.length ds.length hi-HT.sIx ds.length 0 lo)
theorem iss_cut {K:PySem.W.Frag}{H:Hp}{l:List PyData}{xs:List V} (h:Iss K H l xs) (lo hi:Option Int):Iss K H (cutL l lo hi) (cutV xs lo hi):=by
 have e:cutV xs lo hi=(xs.drop (HT.sIx l.length 0 lo)).take (HT.sIx l.length l.length hi-HT.sIx l.length 0 lo):=by unfold cutV;rw [h.len]
 rw [e]
 exact iss_take _ (iss_drop _ h)
def wSlL (Wa:WE) (Wl Wh:WO):WF:=fun env Q=>Wa env fun d e1=>Wl e1 fun lo e2=>Wh e2 fun hi e3=>match d with | .list l => ∀ r,r=cutL l lo hi→Q r e3|_=>False
theorem vf_slice {lo hi:Option Expr}{Wl Wh:WO} (he:VE X a Wa) (hl:VO X lo Wl) (hu:VO X hi Wh):VF X (.Subscript a (.Slice lo hi none p2) pos) (wSlL Wa Wl Wh) :=
 (pe_slice sl_list he hl hu).imp fun σ H R xx69=>by
  obtain ⟨M,env,F,Q,I,h,k⟩:=xx69
  refine ⟨M,env,F,_,I,h,fun d v F1 H1 e1 I1 s1 i1 h1=>⟨M,e1,F1,_,I1,h1,fun lo F2 H2 e2 I2 s2 h2=>⟨M,e2,F2,_,I2,h2,fun hi F3 H3 e3 I3 s3 h3=>?_⟩⟩⟩
  cases d with
  | list l =>
   obtain ⟨a,xs,rfl,hs,hr⟩:=(i1.mono (s2.trans s3)).lst_inv
   refine ⟨a,xs,rfl,I3.fh.seq hs,fun p hp=>?_⟩
   have g:=Go.side (o:=HO.lst (cutV xs lo hi)) I3.fh hp
   refine k p _ _ F3 _ e3 (I3.go g) (s1.trans (s2.trans s3)) upd_same (same_none I3.fh hp) (same_none I3.bh hp) (I3.he hp) (fun i m z=>?_) (iss_cut hr lo hi) (h3 _ rfl)
   obtain ⟨b,vs,e,q,_⟩:=(I3.slot i).addr m
   rw [z] at e;injection e with e;injection e with e;subst e
   rw [hp] at q;cases q
  | _=>exact False.elim h3
end
def wL (W:WF):WE:=fun env Q=>W env fun ds e=>Q (.list ds) e
theorem vf_fz {e:Expr}{W:WF} (h:VF X e W):VE X e (wL W):=h.imp fun σ H R xx70=>by
 obtain ⟨M,env,F,Q,I,h,k⟩:=xx70
 refine ⟨M,env,F,_,I,h,fun a vs ds F1 H1 e1 I1 s1 h1 h2 h3 h4 h5 h6 h7=>?_⟩
 obtain ⟨J,s⟩:=I1.frz h1 h2 h4 h5
 exact k _ _ _ H1 e1 J (s1.trans s) (is_lst (SqL.of upd_same) (h6.mono s)) h7
theorem fresh_apart {K:PySem.W.Frag}{M:Frm}{F H:Hp}{env:Sto}{σ:St} (I:EnvOk K M F H env σ) {p:Addr} (hp:H p=none) : ∀ i,(gS env i).mut=true→vS σ i≠some (.ref p):=fun i m z=>by
 obtain ⟨b,vs,e,q,_⟩:=(I.slot i).addr m
 rw [z] at e;injection e with e;injection e with e;subst e
 rw [hp] at q;cases q
theorem new_lst {K:PySem.W.Frag}{M:Frm}{F H:Hp}{env:Sto}{σ:St}{R:VK}{Q:List PyData→Sto→Prop}{F0:Hp}{l:List PyData}{xs:List V} (I:EnvOk K M F H env σ) (s:Same F0 F) (hi:Iss K F l xs) (h:Q l env)
 (k : ∀ a vs ds F' H' env',EnvOk K M F' H' env' σ→Same F0 F'→H' a=some (.lst vs)→F' a=none→M.B a=none→M.He a=none→(∀ i,(gS env' i).mut=true→vS σ i≠some (.ref a))→Iss K F' ds vs→Q ds env'→R (.ref a) H') :
 ∀ p,H p=none→R (.ref p) (upd H p (.lst xs)):=fun p hp =>
  k p xs l F _ env (I.go (.side I.fh hp)) s upd_same (same_none I.fh hp) (same_none I.bh hp) (I.he hp) (fresh_apart I hp) hi h
section
variable {e:Expr}{es:List Expr}{W:WE}{Wr:WF}{pos:Pos}
def wNil:WF:=fun env Q=>Q [] env
def wCons (W:WE) (Wr:WF):WF:=fun env Q=>W env fun d e1=>Wr e1 fun ds e2=>Q (d::ds) e2
theorem va_nil:VA X [] wNil:=pa_nil.imp fun σ H R xx71=>by obtain ⟨M,env,F,Q,I,h,k⟩:=xx71;exact k [] [] F H env I (.refl _) iss_nil h
theorem va_cons (ha:VE X e W) (hr:VA X es Wr) (hs:starEach (e::es) X.env=(false,eval e X.env)::starEach es X.env:=by rfl):VA X (e::es) (wCons W Wr) :=
 (pa_cons ha hr hs).imp fun σ H R xx72=>by obtain ⟨M,env,F,Q,I,h,k⟩:=xx72;exact ⟨M,env,F,_,I,h,fun d v F1 H1 e1 I1 s1 i1 h1=>⟨M,e1,F1,_,I1,h1,fun ds vs F2 H2 e2 I2 s2 i2 h2=>k (d::ds) (v::vs) F2 H2 e2 I2 (s1.trans s2) (iss_cons (i1.mono s2) i2) h2⟩⟩
def wTup (Wr:WF):WE:=fun env Q=>Wr env fun ds e=>ds.length≤sizeLine∧Q (.tuple ds) e
theorem ve_tup {x1} (h:VA X es Wr):VE X (.Tuple es x1 pos) (wTup Wr):=(pe_tup h).imp fun σ H R xx73=>by
 obtain ⟨M,env,F,Q,I,h,k⟩:=xx73
 refine ⟨M,env,F,_,I,h,fun ds vs F1 H1 e1 I1 s1 i1 h1=>⟨by rw [i1.len];exact h1.1,fun p hp=>?_⟩⟩
 have g:=Go.put (o:=HO.tup vs) I1.fh hp
 exact k _ _ _ _ e1 (I1.go g) (s1.trans g.f) (is_tup (SqT.of upd_same) (i1.mono g.f)) h1.2
def wLst (Wr:WF):WF:=fun env Q=>Wr env fun ds e=>ds.length≤sizeLine∧Q ds e
theorem vf_lst (h:VA X es Wr):VF X (.List es pos) (wLst Wr):=(pe_lst h).imp fun σ H R xx74=>by
 obtain ⟨M,env,F,Q,I,h,k⟩:=xx74
 exact ⟨M,env,F,_,I,h,fun ds vs F1 H1 e1 I1 s1 i1 h1=>⟨by rw [i1.len];exact h1.1,new_lst I1 s1 i1 h1.2 k⟩⟩
end
end
end L2
namespace L2
open PySem PySem.Spec PyProof.Rows
section
variable {X:Cx}
def dI2 (g:Int→Int→(PyData→Prop)→Prop):D2
 | .int i,.int j,q=>g i j q
 | _,_,_=>False
theorem i2_of {g:Int→Int→(PyData→Prop)→Prop}{x y:PyData}{q:PyData→Prop} (h:dI2 g x y q) : ∃ i j,x = .int i∧y = .int j∧g i j q:=by
 cases x with
 | int i=>cases y with
  | int j=>exact ⟨i,j,rfl,rfl,h⟩
  | _=>exact False.elim h
 | _=>exact False.elim h
theorem opI_V {f:Value→Value→Sem Value}{C:Int→Int→Prop}{g:Int→Int→PyData}{gv:Int→Int→V} (h:OpR X f (rI C gv)) (hg : ∀ i j F,Is X.K F (g i j) (gv i j)):OpV X f (dI2 fun i j q=>C i j∧q (g i j)):=h.imp fun x y H Q xx75=>by
 obtain ⟨F,dx,dy,q,s,i1,i2,h,k⟩:=xx75
 obtain ⟨i,j,rfl,rfl,c,hq⟩:=i2_of h
 exact ⟨i,j,i1.int_inv,i2.int_inv,c,k _ _ F H (.refl s) (hg i j F) hq⟩
theorem opI0_V {f:Value→Value→Sem Value}{g:Int→Int→PyData}{gv:Int→Int→V} (h:OpR X f (rI0 gv)) (hg : ∀ i j F,Is X.K F (g i j) (gv i j)):OpV X f (dI2 fun i j q=>q (g i j)):=h.imp fun x y H Q xx76=>by
 obtain ⟨F,dx,dy,q,s,i1,i2,h,k⟩:=xx76
 obtain ⟨i,j,rfl,rfl,hq⟩:=i2_of h
 exact ⟨i,j,i1.int_inv,i2.int_inv,k _ _ F H (.refl s) (hg i j F) hq⟩
abbrev dSub:D2:=dI2 fun i j q=>q (.int (i-j))
abbrev dMulI:D2:=dI2 fun i j q=>IntMulOk i j∧q (.int (i*j))
abbrev dFdiv:D2:=dI2 fun i j q=>CDivB i j∧q (.int (i.fdiv j))
abbrev dDiv:D2:=dI2 fun i j q=>(0<j∧Builtin.Int.intBits j≤9000)∧q (.int (i/j))
abbrev dMod:D2:=dI2 fun i j q=>0<j∧q (.int (i%j))
abbrev dLt:D2:=dI2 fun i j q=>q (.bool (decide (i<j)))
abbrev dLe:D2:=dI2 fun i j q=>q (.bool (decide (i≤j)))
abbrev dGt:D2:=dI2 fun i j q=>q (.bool (decide (j<i)))
abbrev dGe:D2:=dI2 fun i j q=>q (.bool (decide (j≤i)))
theorem o_sub:OpV X (binaryOp .Sub) dSub:=opI0_V op_sub fun _ _ _=>is_int _
theorem o_mulI:OpV X (binaryOp .Mult) dMulI:=opI_V op_mulB fun _ _ _=>is_int _
theorem o_fdiv:OpV X (binaryOp .FloorDiv) dFdiv:=opI_V op_fdivB fun _ _ _=>is_int _
theorem op_divP:OpR X (binaryOp .FloorDiv) (rI (fun _ j=>0<j∧Builtin.Int.intBits j≤9000) fun i j => .int (i/j)):=op_fdivB.imp fun x y H Q xx77=>by
 obtain ⟨i,j,e1,e2,c,q⟩:=xx77
 exact ⟨i,j,e1,e2,⟨by have:=c.1;omega,c.2⟩,by show Q (V.int (i.fdiv j)) H;rw [Int.fdiv_eq_ediv_of_nonneg _ (Int.le_of_lt c.1)];exact q⟩
theorem o_div:OpV X (binaryOp .FloorDiv) dDiv:=opI_V op_divP fun _ _ _=>is_int _
theorem o_mod:OpV X (binaryOp .Mod) dMod:=opI_V op_mod fun _ _ _=>is_int _
theorem o_lt:OpV X (compareOp .Lt) dLt:=opI0_V op_lt fun _ _ _=>is_bl _
theorem o_le:OpV X (compareOp .LtE) dLe:=opI0_V op_le fun _ _ _=>is_bl _
theorem o_gt:OpV X (compareOp .Gt) dGt:=opI0_V op_gt fun _ _ _=>is_bl _
theorem o_ge:OpV X (compareOp .GtE) dGe:=opI0_V op_ge fun _ _ _=>is_bl _
def dEq:D2:=fun d e q=>SeqAt.shaped d=true∧SeqAt.shaped e=true∧q (.bool (PyData.eqv d e))
def dNe:D2:=fun d e q=>SeqAt.shaped d=true∧SeqAt.shaped e=true∧q (.bool (!PyData.eqv d e))
theorem o_eq (hu:X.A.units+64<cLine):OpV X (compareOp .Eq) dEq:=(op_eqD hu).imp fun x y H Q xx78=>by
 obtain ⟨F,dx,dy,q,s,i1,i2,h,k⟩:=xx78
 exact ⟨dx,dy,i1.mono s,i2.mono s,h.1,h.2.1,k _ _ F H (.refl s) (is_bl _) h.2.2⟩
theorem o_ne (hu:X.A.units+64<cLine):OpV X (compareOp .NotEq) dNe:=(op_neD hu).imp fun x y H Q xx79=>by
 obtain ⟨F,dx,dy,q,s,i1,i2,h,k⟩:=xx79
 exact ⟨dx,dy,i1.mono s,i2.mono s,h.1,h.2.1,k _ _ F H (.refl s) (is_bl _) h.2.2⟩
def isNoneD:PyData→Bool
 | .none=>true
 | _=>false
theorem is_none_iff {K:PySem.W.Frag}{F:Hp}{d:PyData}{x:V} (h:Is K F d x):decide (x = .non)=isNoneD d:=by
 cases d with
 | none=>rw [h.non_inv];rfl
 | bool b=>rw [h.bl_inv];rfl
 | int b=>rw [h.int_inv];rfl
 | str b=>unfold Is at h;rw [h];rfl
 | list l=>obtain ⟨a,xs,rfl,_⟩:=h.lst_inv;rfl
 | tuple l=>obtain ⟨a,xs,rfl,_⟩:=h.tup_inv;rfl
 | dict l=>obtain ⟨a,xs,rfl,_⟩:=h.dct_inv;rfl
def dAdd:D2
 | .int i,.int j,q=>q (.int (i+j))
 | .list l,.list m,q=>l.length+m.length≤sizeLine∧q (.list (l++m))
 | .tuple l,.tuple m,q=>l≠[]∧l.length+m.length≤sizeLine∧q (.tuple (l++m))
 | .str x,.str y,q=>x.length+y.length≤sizeLine∧q (.str (x++y))
 | _,_,_=>False
theorem o_add:OpV X (binaryOp .Add) dAdd:=by
 rintro pins s σ H x y v u Q I rx ry ⟨F,dx,dy,q,sm,i1,i2,h,k⟩
 cases dx with
 | int i=>cases dy with
  | int j=>exact op_add pins s σ H x y v u Q I rx ry ⟨i,j,i1.int_inv,i2.int_inv,k _ _ F H (.refl sm) (is_int _) h⟩
  | _=>exact False.elim h
 | list l=>cases dy with
  | list m =>
   obtain ⟨a,xs,rfl,hs,hr⟩:=i1.lst_inv
   obtain ⟨b,ys,rfl,ht,hq⟩:=i2.lst_inv
   refine op_catS pins s σ H _ _ v u Q I rx ry ⟨a,b,xs,ys,rfl,rfl,sm.seq hs,sm.seq ht,by rw [hr.len,hq.len];exact h.1,fun p hp=>?_⟩
   have g:=Go.put (o:=HO.lst (xs++ys)) sm hp
   exact k _ _ _ _ g (is_lst (SqL.of upd_same) ((iss_append hr hq).mono g.f)) h.2
  | _=>exact False.elim h
 | tuple l=>cases dy with
  | tuple m =>
   obtain ⟨a,xs,rfl,hs,hr⟩:=i1.tup_inv
   obtain ⟨b,ys,rfl,ht,hq⟩:=i2.tup_inv
   refine op_catT pins s σ H _ _ v u Q I rx ry ⟨a,b,xs,ys,rfl,rfl,same_seqT sm hs,same_seqT sm ht,fun z=>h.1 (List.length_eq_zero_iff.mp (by rw [← hr.len,z];rfl)),by rw [hr.len,hq.len];exact h.2.1,fun z=>?_,fun _ p hp=>?_⟩
   ·have hm:m=[]:=List.length_eq_zero_iff.mp (by rw [← hq.len,z];rfl)
    subst hm
    refine k _ _ F H (.refl sm) i1 ?_
    have:=h.2.2;rw [List.append_nil] at this;exact this
   ·have g:=Go.put (o:=HO.tup (xs++ys)) sm hp
    exact k _ _ _ _ g (is_tup (SqT.of upd_same) ((iss_append hr hq).mono g.f)) h.2.2
  | _=>exact False.elim h
 | str x0=>cases dy with
  | str y0 =>
   unfold Is at i1 i2
   exact op_add_str pins s σ H x y v u Q I rx ry ⟨x0,y0,i1,i2,h.1,k _ _ F H (.refl sm) (is_str _) h.2⟩
  | _=>exact False.elim h
 | _=>exact False.elim h
def wCat (Wa Wb:WE):WF:=fun env Q=>Wa env fun x e1=>Wb e1 fun y e2=>match x,y with
 | .list l,.list m=>l.length+m.length≤sizeLine∧Q (l++m) e2
 | _,_=>False
theorem vf_cat {a b:Expr}{Wa Wb:WE}{pos:Pos} (ha:VE X a Wa) (hb:VE X b Wb):VF X (.BinOp a .Add b pos) (wCat Wa Wb):=(pe_op op_catS ha hb).imp fun σ H R xx80=>by
 obtain ⟨M,env,F,Q,I,h,k⟩:=xx80
 refine ⟨M,env,F,_,I,h,fun d v F1 H1 e1 I1 s1 i1 h1=>⟨M,e1,F1,_,I1,h1,fun d2 v2 F2 H2 e2 I2 s2 i2 h2=>?_⟩⟩
 cases d with
 | list l=>cases d2 with
  | list m =>
   obtain ⟨a,xs,rfl,hs,hr⟩:=(i1.mono s2).lst_inv
   obtain ⟨b,ys,rfl,ht,hq⟩:=i2.lst_inv
   exact ⟨a,b,xs,ys,rfl,rfl,I2.fh.seq hs,I2.fh.seq ht,by rw [hr.len,hq.len];exact h2.1,new_lst I2 (s1.trans s2) (iss_append hr hq) h2.2 k⟩
  | _=>exact False.elim h2
 | _=>exact False.elim h2
def wRep (Wa:WF) (Wb:WE):WF:=fun env Q=>Wa env fun l e1=>Wb e1 fun y e2=>match y with
 | .int n=>(-(2^63)≤n∧n<2^63∧l.length*n.toNat≤sizeLine) ∧ ∀ r,r=(List.replicate n.toNat l).flatten→Q r e2
 | _=>False
theorem iss_rep {K:PySem.W.Frag}{H:Hp}{l:List PyData}{xs:List V} (h:Iss K H l xs) : ∀ k:Nat,Iss K H (List.replicate k l).flatten (List.replicate k xs).flatten
 | 0=>by simpa using iss_nil
 | k+1=>by rw [List.replicate_succ,List.replicate_succ,List.flatten_cons,List.flatten_cons];exact iss_append h (iss_rep h k)
theorem EnvOk.keep {K:PySem.W.Frag}{M:Frm}{F H:Hp}{env:Sto}{σ:St} (I:EnvOk K M F H env σ) {a:Addr}{o:HO} (h:H a=some o) (h5 : ∀ i,(gS env i).mut=true→vS σ i≠some (.ref a)) (h6:M.B a=none) (h7:F a=none) :
 EnvOk K ⟨upd M.B a o,M.He,M.F0⟩ F H env σ where
  len:=I.len
  slot:=fun i=>by
   have S:=I.slot i
   have n:=h5 i
   cases q:gS env i with
   | non=>trivial
   | val d=>rw [q] at S;exact S
   | own ds =>
    rw [q] at S n
    obtain ⟨b,vs,e,g1,g2,g3,g4,g5⟩:=S
    have hb:b≠a:=fun z=>by subst z;exact n rfl e
    exact ⟨b,vs,e,g1,g2,by show upd M.B a o b=none;rw [upd_ne hb];exact g3,g4,g5⟩
   | pen ds =>
    rw [q] at S n
    obtain ⟨b,vs,e,g1,g2,g3,gx,g5⟩:=S
    have hb:b≠a:=fun z=>by subst z;exact n rfl e
    exact ⟨b,vs,e,g1,g2,by show upd M.B a o b=none;rw [upd_ne hb];exact g3,gx,g5⟩
   | new d =>
    rw [q] at S
    obtain ⟨v,e,j⟩:=S
    refine ⟨v,e,j.mono fun b u eb=>?_⟩
    obtain ⟨z1,z2,z3⟩:=newF_inv eb
    have hb:b≠a:=fun z=>by subst z;rw [h7] at z3;cases z3
    exact .of (newF_at (M:=⟨upd M.B a o,M.He,M.F0⟩) z1 (by show upd M.B a o b=none;rw [upd_ne hb];exact z2) z3)
   | exc C=>rw [q] at S;exact S
   | obj a0 C nm fs =>
    rw [q] at S
    obtain ⟨dx,vs,e,g1,g2⟩:=S
    exact ⟨dx,vs,e,by show upd M.B a o a0=_;rw [upd_ne (ne_of_none g1 h6)];exact g1,g2⟩
  dis:=I.dis
  f0:=I.f0
  fe:=I.fe
  fh:=I.fh
  bh:=fun b u e=>by
   have e:upd M.B a o b=some u:=e
   by_cases z:b=a
   ·subst z;rw [upd_same] at e;exact .of (by rw [← e];exact h)
   ·rw [upd_ne z] at e;exact I.bh b u e
  new:=I.new
  dom:=I.dom
theorem EnvOk.unkeep {K:PySem.W.Frag}{M:Frm}{F H:Hp}{env:Sto}{σ:St}{a:Addr}{o:HO} (I:EnvOk K ⟨upd M.B a o,M.He,M.F0⟩ F H env σ) (h6:M.B a=none) (ho : ∀ C dx vs,o ≠ .ins C dx vs:=by intro _ _ _ z;cases z) (hn:NoT o:=by trivial):EnvOk K M F H env σ∧H a=some o:=by
 have mb : ∀ b,upd M.B a o b=none→M.B b=none:=fun b e=>by
  by_cases z:b=a
  ·subst z;exact h6
  ·rw [upd_ne z] at e;exact e
 refine ⟨⟨I.len,fun i=>?_,I.dis,I.f0,I.fe,I.fh,fun b u e=>?_,I.new,I.dom⟩,I.bh.at upd_same hn⟩
 ·have S:=I.slot i
  cases q:gS env i with
  | non=>trivial
  | val d=>rw [q] at S;exact S
  | own ds=>rw [q] at S;obtain ⟨b,vs,e,g1,g2,g3,g4,g5⟩:=S;exact ⟨b,vs,e,g1,g2,mb b g3,g4,g5⟩
  | pen ds=>rw [q] at S;obtain ⟨b,vs,e,g1,g2,g3,gx,g5⟩:=S;exact ⟨b,vs,e,g1,g2,mb b g3,gx,g5⟩
  | new d =>
   rw [q] at S
   obtain ⟨v,e,j⟩:=S
   refine ⟨v,e,j.mono fun b u eb=>?_⟩
   obtain ⟨z1,z2,z3⟩:=newF_inv eb
   exact .of (newF_at (M:=M) z1 (mb b z2) z3)
  | exc C=>rw [q] at S;exact S
  | obj a0 C nm fs =>
   rw [q] at S
   obtain ⟨dx,vs,e,g1,g2⟩:=S
   have g1:upd M.B a o a0=some (.ins C dx vs):=g1
   by_cases z:a0=a
   ·subst z
    rw [upd_same] at g1
    exact (ho C dx vs (Option.some.inj g1)).elim
   ·rw [upd_ne z] at g1
    exact ⟨dx,vs,e,g1,g2⟩
 ·exact I.bh b u (by show upd M.B a o b=some u;rw [upd_ne (ne_of_none e h6)];exact e)
theorem vf_rep {a b:Expr}{Wa:WF}{Wb:WE}{pos:Pos} (ha:VF X a Wa) (hb:VE X b Wb):VF X (.BinOp a .Mult b pos) (wRep Wa Wb):=(pe_op op_rep ha hb).imp fun σ H R xx81=>by
 obtain ⟨M,env,F,Q,I,h,k⟩:=xx81
 refine ⟨M,env,F,_,I,h,fun p vs l F1 H1 e1 I1 s1 g1 g2 g3 g4 g5 g6 h1=>⟨_,e1,F1,_,I1.keep g1 g5 g3 g2,h1,fun d2 v2 F2 H2 e2 I2 s2 i2 h2=>?_⟩⟩
 obtain ⟨I3,hp⟩:=I2.unkeep g3
 cases d2 with
 | int n =>
  obtain ⟨⟨n1,n2,n3⟩,hq⟩:=h2
  exact ⟨p,n,vs,rfl,i2.int_inv,hp,n1,n2,by rw [g6.len];exact n3,new_lst I3 (s1.trans s2) (iss_rep (g6.mono s2) n.toNat) (hq _ rfl) k⟩
 | _=>exact False.elim h2
section
variable {x:Str}{p pos:Pos}{e:Expr}{es:List Expr}{Wr:WF}{id T:String}{r:DC}{rf:List PyData→(List PyData→Prop)→Prop}
def wCall (r:DC) (Wr:WF):WE:=fun env Q=>Wr env fun ds e=>r ds fun d=>Q d e
def wCallF (r:List PyData→(List PyData→Prop)→Prop) (Wr:WF):WF:=fun env Q=>Wr env fun ds e=>r ds fun l=>Q l e
theorem call_lift {σ:St}{H:Hp}{R:VK} (h:liftE X.K (wCall r Wr) σ H R):liftA X.K Wr σ H fun vs H1=>liftC X.K r vs H1 R:=by
 obtain ⟨M,env,F,Q,I,h,k⟩:=h
 exact ⟨M,env,F,_,I,h,fun ds vs F1 H1 e1 I1 s1 i1 h1=>⟨F1,ds,_,I1.fh,i1,h1,fun d v F2 H2 g i2 q=>k d v F2 H2 e1 (I1.go g) (s1.trans g.f) i2 q⟩⟩
theorem callF_lift {σ:St}{H:Hp}{R:VK} (h:liftF X.K (wCallF rf Wr) σ H R):liftA X.K Wr σ H fun vs H1=>liftCF X.K rf vs H1 R:=by
 obtain ⟨M,env,F,Q,I,h,k⟩:=h
 refine ⟨M,env,F,_,I,h,fun ds vs F1 H1 e1 I1 s1 i1 h1=>⟨F1,ds,_,I1.fh,i1,h1,fun l a xs F2 H2 g ha hf hh hi q=>?_⟩⟩
 exact k a xs l F2 H2 e1 (I1.go g) (s1.trans g.f) hh hf (same_none I1.bh ha) (I1.he ha) (fresh_apart I1 ha) hi q
theorem ve_callB (hc:CallV X (.builtin id) r) (hm:X.mg x=none) (hv:bootBuiltins x=some (.builtin id)) (ha:VA X (e::es) Wr) (hg:Gl X x:=by rfl) (hn:x ≠ "__name__":=by decide) (hdb:(x==("__debug__" : Str))=false:=by decide)
 (he:starEach (e::es) X.env=(false,eval e X.env)::starEach es X.env:=by rfl) (hpl:(backTo pos (starEach es X.env)).any (·.1)=false:=by rfl):VE X (.Call (.Name x p) (e::es) [] pos) (wCall r Wr) :=
 (pe_callB hc hg hm hv ha hn hdb he hpl).imp fun _ _ _ h=>call_lift h
theorem ve_callTy (hc:CallV X (.type T) r) (hm:X.mg x=none) (hv:bootBuiltins x=some (.type T)) (ha:VA X (e::es) Wr) (hg:Gl X x:=by rfl) (hn:x ≠ "__name__":=by decide) (hdb:(x==("__debug__" : Str))=false:=by decide)
 (he:starEach (e::es) X.env=(false,eval e X.env)::starEach es X.env:=by rfl) (hpl:(backTo pos (starEach es X.env)).any (·.1)=false:=by rfl):VE X (.Call (.Name x p) (e::es) [] pos) (wCall r Wr) :=
 (pe_callTy hc hg hm hv ha hn hdb he hpl).imp fun _ _ _ h=>call_lift h
theorem vf_callB (hc:CallVF X (.builtin id) rf) (hm:X.mg x=none) (hv:bootBuiltins x=some (.builtin id)) (ha:VA X (e::es) Wr) (hg:Gl X x:=by rfl) (hn:x ≠ "__name__":=by decide) (hdb:(x==("__debug__" : Str))=false:=by decide)
 (he:starEach (e::es) X.env=(false,eval e X.env)::starEach es X.env:=by rfl) (hpl:(backTo pos (starEach es X.env)).any (·.1)=false:=by rfl):VF X (.Call (.Name x p) (e::es) [] pos) (wCallF rf Wr) :=
 (pe_callB hc hg hm hv ha hn hdb he hpl).imp fun _ _ _ h=>callF_lift h
def PSp (K:PySem.W.Frag) (sp:DC):Sp:=fun vs H Q _=>liftC K sp vs H Q
def FSp (K:PySem.W.Frag) (sp:List PyData→(List PyData→Prop)→Prop):Sp:=fun vs H Q _=>liftCF K sp vs H Q
theorem ve_fn {k:Nat}{ps:List Str}{sp:DC} (O:OkC X x k ps (PSp X.K sp)) (hr:Room k X.A) (ha:VA X (e::es) Wr) (hg:Gl X x:=by rfl) (hdb:(x==("__debug__" : Str))=false:=by decide)
 (he:starEach (e::es) X.env=(false,eval e X.env)::starEach es X.env:=by rfl) (hpl:(backTo pos (starEach es X.env)).any (·.1)=false:=by rfl):VE X (.Call (.Name x p) (e::es) [] pos) (wCall sp Wr) :=
 (pe_fn O hr ha hg hdb he hpl).imp fun σ H R h=>by
  have e:tCall (PSp X.K sp) [] E0 (liftA X.K Wr) σ H R=liftA X.K Wr σ H fun vs H1=>liftC X.K sp vs H1 R:=by unfold tCall PSp;simp only [List.append_nil]
  rw [e]
  exact call_lift h
theorem vf_fn {k:Nat}{ps:List Str}{sp:List PyData→(List PyData→Prop)→Prop} (O:OkC X x k ps (FSp X.K sp)) (hr:Room k X.A) (ha:VA X (e::es) Wr) (hg:Gl X x:=by rfl) (hdb:(x==("__debug__" : Str))=false:=by decide)
 (he:starEach (e::es) X.env=(false,eval e X.env)::starEach es X.env:=by rfl) (hpl:(backTo pos (starEach es X.env)).any (·.1)=false:=by rfl):VF X (.Call (.Name x p) (e::es) [] pos) (wCallF sp Wr) :=
 (pe_fn O hr ha hg hdb he hpl).imp fun σ H R h=>by
  have e:tCall (FSp X.K sp) [] E0 (liftA X.K Wr) σ H R=liftA X.K Wr σ H fun vs H1=>liftCF X.K sp vs H1 R:=by unfold tCall FSp;simp only [List.append_nil]
  rw [e]
  exact callF_lift h
end
def dAbs:DC
 | [.int i],q=>q (.int (if i<0 then -i else i))
 | _,_=>False
def dMax2:DC
 | [.int i,.int j],q=>q (.int (if j>i then j else i))
 | _,_=>False
def dMin2:DC
 | [.int i,.int j],q=>q (.int (if j<i then j else i))
 | _,_=>False
def dInt1:DC
 | [.int i],q=>q (.int i)
 | [.bool b],q=>q (.int (if b then 1 else 0))
 | _,_=>False
def dLen:DC
 | [.list l],q=>q (.int l.length)
 | [.tuple l],q=>q (.int l.length)
 | [.str x],q=>x.length≤sizeLine∧q (.int x.length)
 | _,_=>False
theorem iss1 {K:PySem.W.Frag}{H:Hp}{d:PyData}{vs:List V} (h:Iss K H [d] vs) : ∃ v,vs=[v]∧Is K H d v:=by
 obtain ⟨x,r,rfl,p,q⟩:=h.cons_inv
 rw [q.nil_inv];exact ⟨x,rfl,p⟩
theorem iss2 {K:PySem.W.Frag}{H:Hp}{d e:PyData}{vs:List V} (h:Iss K H [d,e] vs) : ∃ v u,vs=[v,u]∧Is K H d v∧Is K H e u:=by
 obtain ⟨x,r,rfl,p,q⟩:=h.cons_inv
 obtain ⟨y,rfl,q'⟩:=iss1 q
 exact ⟨x,y,rfl,p,q'⟩
theorem c_abs:CallV X (.builtin "abs") dAbs:=call_abs.imp fun xs H Q xx82=>by
 obtain ⟨F,ds,q,s,i,h,k⟩:=xx82
 match ds,h,i with
 | [.int n],h,i =>
  obtain ⟨v,rfl,j⟩:=iss1 i
  exact ⟨n,by rw [j.int_inv],k _ _ F H (.refl s) (is_int _) h⟩
theorem c_max2 (hc:X.calm=true):CallV X (.builtin "max") dMax2:=(call_max2 hc).imp fun xs H Q xx83=>by
 obtain ⟨F,ds,q,s,i,h,k⟩:=xx83
 match ds,h,i with
 | [.int n,.int m],h,i =>
  obtain ⟨v,u,rfl,j,j2⟩:=iss2 i
  exact ⟨n,m,by rw [j.int_inv,j2.int_inv],k _ _ F H (.refl s) (is_int _) h⟩
theorem c_min2 (hc:X.calm=true):CallV X (.builtin "min") dMin2:=(call_min2 hc).imp fun xs H Q xx84=>by
 obtain ⟨F,ds,q,s,i,h,k⟩:=xx84
 match ds,h,i with
 | [.int n,.int m],h,i =>
  obtain ⟨v,u,rfl,j,j2⟩:=iss2 i
  exact ⟨n,m,by rw [j.int_inv,j2.int_inv],k _ _ F H (.refl s) (is_int _) h⟩
theorem c_int:CallV X (.type "int") dInt1:=call_int1.imp fun xs H Q xx85=>by
 obtain ⟨F,ds,q,s,i,h,k⟩:=xx85
 match ds,h,i with
 | [.int n],h,i =>
  obtain ⟨v,rfl,j⟩:=iss1 i
  exact .inl ⟨n,by rw [j.int_inv],k _ _ F H (.refl s) (is_int _) h⟩
 | [.bool n],h,i =>
  obtain ⟨v,rfl,j⟩:=iss1 i
  exact .inr ⟨n,by rw [j.bl_inv],k _ _ F H (.refl s) (is_int _) h⟩
theorem c_len:CallV X (.builtin "len") dLen:=(call_len_seq.or call_len_str).imp fun xs H Q xx86=>by
 obtain ⟨F,ds,q,s,i,h,k⟩:=xx86
 match ds,h,i with
 | [.list l],h,i =>
  obtain ⟨v,rfl,j⟩:=iss1 i
  obtain ⟨a,xs,rfl,hs,hr⟩:=j.lst_inv
  exact .inl ⟨a,xs,rfl,.inl (s.seq hs),k _ _ F H (.refl s) (by rw [hr.len];exact is_int _) h⟩
 | [.tuple l],h,i =>
  obtain ⟨v,rfl,j⟩:=iss1 i
  obtain ⟨a,xs,rfl,hs,hr⟩:=j.tup_inv
  exact .inl ⟨a,xs,rfl,.inr (same_seqT s hs),k _ _ F H (.refl s) (by rw [hr.len];exact is_int _) h⟩
 | [.str z],h,i =>
  obtain ⟨v,rfl,j⟩:=iss1 i
  unfold Is at j
  subst j
  exact .inr ⟨z,rfl,h.1,k _ _ F H (.refl s) (is_int _) h.2⟩
def dTuple:DC
 | [.list l],q=>q (.tuple l)
 | [.tuple l],q=>q (.tuple l)
 | _,_=>False
theorem c_tuple:CallV X (.type "tuple") dTuple:=call_tuple_of.imp fun xs H Q xx87=>by
 obtain ⟨F,ds,q,s,i,h,k⟩:=xx87
 match ds,h,i with
 | [.list l],h,i =>
  obtain ⟨v,rfl,j⟩:=iss1 i
  obtain ⟨a,xs,rfl,hs,hr⟩:=j.lst_inv
  refine ⟨a,xs,rfl,.inl ⟨s.seq hs,fun p hp=>?_⟩⟩
  have g:=Go.put (o:=HO.tup xs) s hp
  exact k _ _ _ _ g (is_tup (SqT.of upd_same) (hr.mono g.f)) h
 | [.tuple l],h,i =>
  obtain ⟨v,rfl,j⟩:=iss1 i
  obtain ⟨a,xs,rfl,hs,hr⟩:=j.tup_inv
  exact ⟨a,xs,rfl,.inr ⟨same_seqT s hs,k _ _ F H (.refl s) j h⟩⟩
end
end L2
namespace L2
open PySem PySem.Spec PyProof.Rows
section
variable {X:Cx}
section
variable {a b c e o:Expr}{W Wa Wb:WE}{Tc:WT}{pos pos':Pos}{st:Stmt}{sts rest:List Stmt}{Wt Wu:WS}{WfF:WF}
def wNext:WS:=fun D env=>D.nx env
def wSeq (t u:WS):WS:=fun D env=>t { D with nx:=u D } env
def wMid (t u:WS):WS:=fun D env => ∃ Md:Sto→Prop,t { D with nx:=Md } env ∧ ∀ e,Md e→u D e
def wNever:WS:=fun _ _=>False
theorem vss_nil:VSs X [] wNext:=pss_nil.imp fun D σ H xx88=>by obtain ⟨M,env,F,DD,I,h,k⟩:=xx88;exact k.nx env F H σ I (.refl _) h
theorem vss_one (h:VS X st Wt):VSs X [st] Wt:=pss_one h
theorem vss_cons (h1:VS X st Wt) (h2:VSs X rest Wu):VSs X (st::rest) (wSeq Wt Wu):=(pss_cons h1 h2).imp fun D σ H xx89=>by
 obtain ⟨M,env,F,DD,I,h,k⟩:=xx89
 exact ⟨M,env,F,{ DD with nx:=Wu DD },I,h,fun e' F' H' σ' I' s' h'=>⟨M,e',F',DD,I',h',k.mono s'⟩,k.rt,k.bk,k.ct⟩
theorem vss_mid (h1:VS X st Wt) (h2:VSs X rest Wu):VSs X (st::rest) (wMid Wt Wu):=(pss_cons h1 h2).imp fun D σ H xx90=>by
 obtain ⟨M,env,F,DD,I,⟨Md,h,hm⟩,k⟩:=xx90
 exact ⟨M,env,F,{ DD with nx:=Md },I,h,fun e' F' H' σ' I' s' h'=>⟨M,e',F',DD,I',hm e' h',k.mono s'⟩,k.rt,k.bk,k.ct⟩
theorem vss_never:VSs X sts wNever:=pss_never.imp fun D σ H xx91=>by obtain ⟨M,env,F,DD,I,h,k⟩:=xx91;exact h.elim
def wFz (i:Nat) (t:WS):WS:=fun D env=>t D (env.set i (gS env i).fz)
theorem vss_fz (i:Nat) (h:VSs X sts Wt):VSs X sts (wFz i Wt):=h.imp fun D σ H xx92=>by
 obtain ⟨M,env,F,DD,I,h,k⟩:=xx92
 obtain ⟨F',J,s⟩:=I.freeze i
 exact ⟨M,_,F',DD,J,h,k.mono s⟩
def wDrop (W:WE):WS:=fun D env=>W env fun _ e=>D.nx e
def wRet (W:WE):WS:=fun D env=>W env fun d e=>D.rt (.val d) e
theorem vs_ret (he:VE X e W):VS X (.Return (some e) pos) (wRet W):=(ps_ret he).imp fun D σ H xx93=>by
 obtain ⟨M,env,F,DD,I,h,k⟩:=xx93
 exact ⟨M,env,F,_,I,h,fun d v F1 H1 e1 I1 s1 i1 h1=>k.rt (.val d) v e1 F1 H1 σ I1 s1 i1 h1⟩
def wRetF (W:WF):WS:=fun D env=>W env fun l e=>D.rt (.own l) e
theorem vs_retF (he:VF X e WfF):VS X (.Return (some e) pos) (wRetF WfF):=(ps_ret he).imp fun D σ H xx94=>by
 obtain ⟨M,env,F,DD,I,h,k⟩:=xx94
 exact ⟨M,env,F,_,I,h,fun p vs l F1 H1 e1 I1 s1 g1 g2 g3 g4 g5 g6 h1=>k.rt (.own l) _ e1 F1 H1 σ I1 s1 ⟨p,vs,rfl,g1,g2,g3,g4,g6⟩ h1⟩
def wRetO (i:Nat):WS:=fun D env=>match gS env i with | .own ds=>D.rt (.own ds) env|_=>False
theorem vs_retO (i:Nat) {x:Str}{px:Pos} (hN:X.N[i]?=some x:=by rfl) (hv:Vis X.env.scope x:=by first|exact Or.inl rfl|exact Or.inr (Or.inl rfl)|exact Or.inr (Or.inr rfl)) (hd:(x==("__debug__" : Str))=false:=by decide)
 (hcd:(x==("__classdict__" : Str))=false:=by decide):VS X (.Return (some (.Name x px)) pos) (wRetO i):=(ps_ret (pe_var hN hv hd hcd)).imp fun D σ H xx95=>by
 obtain ⟨M,env,F,DD,I,h,k⟩:=xx95
 have S:=I.slot i
 unfold wRetO at h
 cases q:gS env i with
 | own ds =>
  rw [q] at S h
  obtain ⟨p,vs,e,g1,g2,g3,g4,g5⟩:=S
  exact ⟨_,vS_some e,k.rt (.own ds) _ env F H σ I (.refl _) ⟨p,vs,rfl,g1,g2,g3,g4,g5⟩ h⟩
 | non=>rw [q] at h;exact h.elim
 | val d=>rw [q] at h;exact h.elim
 | pen ds=>rw [q] at h;exact h.elim
 | new d=>rw [q] at h;exact h.elim
 | exc C=>rw [q] at h;exact h.elim
 | obj a0 C nm fs=>rw [q] at h;exact h.elim
def wIf (Tc:WT) (t u:WS):WS:=fun D env=>Tc env fun k e=>if k=true then t D e else u D e
theorem vs_if {A B:List Stmt} (hc:VT X c Tc) (ha:VSs X A Wt) (hb:VSs X B Wu):VS X (.If c A B pos) (wIf Tc Wt Wu):=(ps_if hc ha hb).imp fun D σ H xx96=>by
 obtain ⟨M,env,F,DD,I,h,k⟩:=xx96
 refine ⟨M,env,F,_,I,h,fun x F1 H1 e1 I1 s1 h1=>?_⟩
 cases x with
 | true=>exact iteT ⟨M,e1,F1,DD,I1,h1,k.mono s1⟩
 | false=>exact iteF ⟨M,e1,F1,DD,I1,h1,k.mono s1⟩
def wSet (i:Nat) (W:WE):WS:=fun D env=>W env fun d e=>D.nx (e.set i (.val d))
theorem vs_set {i:Nat}{x:Str} (hN:X.N.Nodup) (he:VE X e W) (hi:X.N[i]?=some x:=by rfl) (hx:Loc X.env.scope x:=by first|exact Or.inl rfl|exact Or.inr rfl) (hs:swapsWith e (some (.Name x pos')) pos.line X.env=pure false:=by rfl)
 (hf:X.fn x=true∨X.env.scope.names.lookup x=some .local:=by first|exact .inl rfl|exact .inr rfl):VS X (.Assign [.Name x pos'] e pos) (wSet i W):=(ps_set hN hi hx he hs hf).imp fun D σ H xx97=>by
 obtain ⟨M,env,F,DD,I,h,k⟩:=xx97
 exact ⟨M,env,F,_,I,h,fun d v F1 H1 e1 I1 s1 i1 h1=>k.nx _ F1 H1 _ (I1.setv i1) s1 h1⟩
def wSetO (i:Nat) (W:WF):WS:=fun D env=>W env fun l e=>D.nx (e.set i (.own l))
theorem vs_setO {i:Nat}{x:Str} (hN:X.N.Nodup) (he:VF X e WfF) (hi:X.N[i]?=some x:=by rfl) (hx:Loc X.env.scope x:=by first|exact Or.inl rfl|exact Or.inr rfl) (hs:swapsWith e (some (.Name x pos')) pos.line X.env=pure false:=by rfl)
 (hf:X.fn x=true∨X.env.scope.names.lookup x=some .local:=by first|exact .inl rfl|exact .inr rfl):VS X (.Assign [.Name x pos'] e pos) (wSetO i WfF):=(ps_set hN hi hx he hs hf).imp fun D σ H xx98=>by
 obtain ⟨M,env,F,DD,I,h,k⟩:=xx98
 exact ⟨M,env,F,_,I,h,fun p vs l F1 H1 e1 I1 s1 g1 g2 g3 g4 g5 g6 h1=>k.nx _ F1 H1 _ (I1.seto g1 g2 g3 g4 g5 g6) s1 h1⟩
def wgName (i:Nat):WG:=fun d env Q=>Q (env.set i (.val d))
theorem vg_name {i:Nat}{x:Str} (hN:X.N.Nodup) (hi:X.N[i]?=some x:=by rfl) (hx:Loc X.env.scope x:=by first|exact Or.inl rfl|exact Or.inr rfl) (hf:X.fn x=true∨X.env.scope.names.lookup x=some .local:=by first|exact .inl rfl|exact .inr rfl):VG X (.Name x pos) (wgName i) :=
 (pg_name hN hi hx hf).imp fun v σ H R xx99=>by obtain ⟨M,env,F,d,Q,I,j,h,k⟩:=xx99;exact k F H _ _ (I.setv j) (.refl _) h
def wgNil:WGs:=fun ds env Q=>ds=[]∧Q env
def wgCons (G:WG) (Gs:WGs):WGs:=fun ds env Q=>match ds with|[]=>False|d::r=>G d env fun e=>Gs r e Q
theorem vgs_nil:VGs X [] wgNil:=pgs_nil.imp fun v σ H R xx100=>by
 obtain ⟨M,env,F,ds,Q,I,j,h,k⟩:=xx100
 obtain ⟨rfl,h⟩:=h
 exact ⟨j.nil_inv,k F H env σ I (.refl _) h⟩
theorem vgs_cons {es:List Expr}{G:WG}{Gs:WGs} (h1:VG X e G) (h2:VGs X es Gs) (hs:(assignEach (e::es) X.env).map (·.2)=assign e X.env::(assignEach es X.env).map (·.2):=by rfl):VGs X (e::es) (wgCons G Gs) :=
 (pgs_cons h1 h2 hs).imp fun v σ H R xx101=>by
  obtain ⟨M,env,F,ds,Q,I,j,h,k⟩:=xx101
  cases ds with
  | nil=>exact False.elim h
  | cons d r =>
   obtain ⟨x,xs,rfl,j1,j2⟩:=j.cons_inv
   exact ⟨x,xs,rfl,M,env,F,d,_,I,j1,h,fun F1 H1 e1 σ1 I1 s1 q1=>⟨M,e1,F1,r,Q,I1,j2.mono s1,q1,fun F2 H2 e2 σ2 I2 s2 q2=>k F2 H2 e2 σ2 I2 (s1.trans s2) q2⟩⟩
def wgTup (n:Nat) (Gs:WGs):WG:=fun d env Q=>match d with | .tuple l=>l.length=n∧Gs l env Q|_=>False
theorem vg_tup {es:List Expr}{kk n:Nat}{Gs:WGs} (hc:X.calm=true) (h:VGs X es Gs) (hn:(assignEach es X.env).length=n:=by rfl) (hst:(assignEach es X.env).findIdx? (·.1)=none:=by rfl):VG X (.Tuple es kk pos) (wgTup n Gs) :=
 (pg_tup hc h hn hst).imp fun v σ H R xx102=>by
  obtain ⟨M,env,F,d,Q,I,j,h,k⟩:=xx102
  cases d with
  | tuple l =>
   obtain ⟨a,xs,rfl,hs,hr⟩:=j.tup_inv
   exact ⟨a,xs,rfl,same_seqT I.fh hs,by rw [hr.len];exact h.1,M,env,F,l,Q,I,hr,h.2,k⟩
  | _=>exact False.elim h
def wAsg (W:WE) (G:WG):WS:=fun D env=>W env fun d e=>G d e D.nx
theorem vs_asg {tg:Expr}{G:WG} (he:VE X e W) (hg:VG X tg G) (hs:swapsWithSole [tg] e pos.line X.env=pure false:=by rfl) (hw:swappedStores [tg] e X.env=pure none:=by rfl)
 (h1:(assignEach [tg] X.env).map (·.2)=[assign tg X.env]:=by rfl):VS X (.Assign [tg] e pos) (wAsg W G):=(ps_asg he hg hs hw h1).imp fun D σ H xx103=>by
 obtain ⟨M,env,F,DD,I,h,k⟩:=xx103
 exact ⟨M,env,F,_,I,h,fun d v F1 H1 e1 I1 s1 i1 h1=>⟨M,e1,F1,d,_,I1,i1,h1,fun F2 H2 e2 σ2 I2 s2 q2=>k.nx e2 F2 H2 σ2 I2 (s1.trans s2) q2⟩⟩
def wApp (i:Nat) (W:WE):WS:=fun D env=>(gS env i).mut=true∧W env fun d e=>(gS e i).mut=true∧(gS e i).cnt.length<sizeLine∧D.nx (e.set i ((gS e i).upd ((gS e i).cnt++[d])))
theorem vs_append (i:Nat) {x:Str}{px apos cpos:Pos} (he:VE X e W) (hN:X.N[i]?=some x:=by rfl) (hv:Vis X.env.scope x:=by first|exact Or.inl rfl|exact Or.inr (Or.inl rfl)|exact Or.inr (Or.inr rfl)) (hd:(x==("__debug__" : Str))=false:=by decide)
 (hcd:(x==("__classdict__" : Str))=false:=by decide)
 (hbase:attributeBase (.Name x px) "append" X.env (eval (.Name x px) X.env)=eval (.Name x px) X.env:=by rfl)
 (hfew:((backTo cpos (starEach [e] X.env)).all (fun x => !x.1)&&(backToKw cpos (keywordEach [] X.env)).all (fun x=>x.1.isSome)
  && decide ([e].length+([]:List Keyword).length+(if ([]:List Keyword).isEmpty then 0 else 1)<30))=true:=by rfl)
 (hline:(apos.endLine==cpos.line)=true:=by rfl) (hst:starEach [e] X.env=(false,eval e X.env)::starEach [] X.env:=by rfl) (hplain:(backTo cpos (starEach [] X.env)).any (·.1)=false:=by rfl)
 (hs:swapsWith (.Call (.Attribute (.Name x px) "append" apos) [e] [] cpos) none pos.line X.env=pure false:=by rfl):VS X (.Expr (.Call (.Attribute (.Name x px) "append" apos) [e] [] cpos) pos) (wApp i W) :=
 (ps_expr (pe_append (pe_var hN hv hd hcd) he hbase hfew hline hst hplain) hs).imp fun D σ H xx104=>by
  obtain ⟨M,env,F,DD,I,⟨hm,h⟩,k⟩:=xx104
  obtain ⟨p,vs,ep,g1,g2,g3,g4⟩:=(I.slot i).addr hm
  refine ⟨_,vS_some ep,.inl ⟨rfl,_,SqL.of g1⟩,M,env,F,_,I,h,fun d v F1 H1 e1 I1 s1 i1 h1=>?_⟩
  obtain ⟨m1,z1,q1⟩:=h1
  obtain ⟨p',vs1,ep',f1,f2,f3,f4⟩:=(I1.slot i).addr m1
  rw [ep] at ep';injection ep' with ep';injection ep' with ep';subst ep'
  exact ⟨p,vs1,v,rfl,rfl,f1,by rw [f4.len];exact z1,k.nx _ F1 _ σ (I1.chg m1 ep (iss_append f4 (iss_cons i1 iss_nil))) s1 q1⟩
def wWhile (Tc:WT) (t:WS):WS:=fun D env => ∃ P:Nat→Sto→Prop,(∃ m,P m env) ∧ ∀ m e,P m e→Tc e fun k e1=>if k=true then t { D with nx:=fun e2 => ∃ m',m'<m∧P m' e2,ct:=fun e2 => ∃ m',m'<m∧P m' e2,bk:=D.nx } e1 else D.nx e1
theorem vs_while {body:List Stmt} (hc:VT X c Tc) (hb:VSs X body Wt) (hp:PassesOwn (model X.prog X.w) X.A X.env X.xe:=by exact PassesOwn.never):VS X (.While c body [] pos) (wWhile Tc Wt) :=
 (ps_while hp hc hb).imp fun D σ H xx108=>by
  obtain ⟨M,env,F,DD,I,⟨P,⟨m0,p0⟩,turn⟩,k⟩:=xx108
  refine ⟨fun m σ' H' => ∃ e' F',EnvOk X.K M F' H' e' σ'∧Same F F'∧P m e',⟨m0,env,F,I,.refl _,p0⟩,fun m σ1 H1 xx107=>?_⟩
  obtain ⟨e1,F1,I1,s1,p1⟩:=xx107
  refine ⟨M,e1,F1,_,I1,turn m e1 p1,fun x F2 H2 e2 I2 s2 h2=>?_⟩
  cases x with
  | true =>
   refine iteT ⟨fun σ' H' => ∃ m',m'<m ∧ ∃ e' F',EnvOk X.K M F' H' e' σ'∧Same F F'∧P m' e',fun σ' H' z=>z,M,e2,F2,_,I2,h2,?_⟩
   have s02:=s1.trans s2
   exact ⟨fun e3 F3 H3 σ3 I3 s3 xx106=>by obtain ⟨m',l,p3⟩:=xx106;exact ⟨m',l,e3,F3,I3,s02.trans s3,p3⟩,fun r v e3 F3 H3 σ3 I3 s3=>k.rt r v e3 F3 H3 σ3 I3 (s02.trans s3),
    fun e3 F3 H3 σ3 I3 s3=>k.nx e3 F3 H3 σ3 I3 (s02.trans s3),fun e3 F3 H3 σ3 I3 s3 xx105=>by obtain ⟨m',l,p3⟩:=xx105;exact ⟨m',l,e3,F3,I3,s02.trans s3,p3⟩⟩
  | false=>exact iteF (k.nx e2 F2 H2 σ1 I2 (s1.trans s2) h2)
def wFor (Wi:WF) (G:WG) (t:WS):WS:=fun D env=>Wi env fun ds e0 => ∃ P:Nat→Sto→Prop,P 0 e0 ∧
 (∀ i d e,ds[i]?=some d→P i e→G d e fun e1=>t { D with nx:=P (i+1),ct:=P (i+1),bk:=D.nx } e1) ∧ ∀ e,P ds.length e→D.nx e
theorem vs_for {tg iter:Expr}{body:List Stmt}{Wi:WF}{G:WG} (hc:X.calm=true) (hi:VI X tg iter Wi) (hg:VG X tg G) (hb:VSs X body Wt)
 (hs : ∀ x,foldedSetIterable iter X.env x=pure x:=by intro _;rfl) (hp:PassesOwn (model X.prog X.w) X.A X.env X.xe:=by exact PassesOwn.never):VS X (.For tg iter body [] pos) (wFor Wi G Wt) :=
  (ps_for hp hc hi hg hb hs).imp fun D σ H xx111=>by
   obtain ⟨M,env,F,DD,I,h,k⟩:=xx111
   refine ⟨M,env,F,_,I,h,fun ds J F1 H1 e1 I1 s1 jt xx110=>?_⟩
   obtain ⟨P,p0,turn,fin⟩:=xx110
   refine ⟨fun i m σ' H'=>m=ds.length-i∧i≤ds.length ∧ ∃ e' F',EnvOk X.K M F' H' e' σ'∧Same F1 F'∧P i e',⟨ds.length,by simp,Nat.zero_le _,e1,F1,I1,.refl _,p0⟩,fun i m σ2 H2 xx109=>?_⟩
   obtain ⟨hm,hi,e2,F2,I2,s2,p2⟩:=xx109
   by_cases hl:i=ds.length
   ·subst hl
    exact .inl ⟨jt.stop H2 (s2.trans I2.fh),k.nx e2 F2 H2 σ2 I2 (s1.trans s2) (fin e2 p2)⟩
   ·have hlt:i<ds.length:=by omega
    refine .inr ⟨jt.go i H2 (s2.trans I2.fh) hlt,fun σ' H' => ∃ e' F',EnvOk X.K M F' H' e' σ'∧Same F1 F'∧P (i+1) e',fun σ' H' z=>⟨ds.length-(i+1),by omega,rfl,hlt,z⟩,fun x H3 hy=>?_⟩
    obtain ⟨d,F3,hd,g,j⟩:=jt.yld i H2 x H3 F2 s2 I2.fh hlt hy
    refine ⟨M,e2,F3,d,_,I2.go g,j,turn i d e2 hd p2,fun F4 H4 e4 σ4 I4 s4 h4=>⟨M,e4,F4,_,I4,h4,?_⟩⟩
    have s14:=s2.trans (g.f.trans s4)
    exact ⟨fun e5 F5 H5 σ5 I5 s5 p5=>⟨e5,F5,I5,s14.trans s5,p5⟩,fun r v e5 F5 H5 σ5 I5 s5=>k.rt r v e5 F5 H5 σ5 I5 ((s1.trans s14).trans s5),
     fun e5 F5 H5 σ5 I5 s5=>k.nx e5 F5 H5 σ5 I5 ((s1.trans s14).trans s5),fun e5 F5 H5 σ5 I5 s5 p5=>⟨e5,F5,I5,s14.trans s5,p5⟩⟩
end
end
end L2
namespace L2
open PySem PySem.Spec PyProof.Rows
section
variable {X:Cx}
theorem preSum_list : ∀ (ns:List Int) (n:Nat),n≤ns.length→preSum (fun i=>(ns[i]?).getD 0) n=(ns.take n).sum
 | ns,0,_=>by simp [preSum]
 | ns,n+1,h=>by
  have hn:n<ns.length:=h
  have e:(ns[n]?).getD 0=ns[n]:=by rw [List.getElem?_eq_getElem hn];rfl
  have e2:(ns.take n++[ns[n]]).sum=(ns.take n).sum+ns[n]:=by rw [List.sum_append];simp
  rw [preSum,preSum_list ns n (Nat.le_of_lt hn),e,List.take_add_one,List.getElem?_eq_getElem hn]
  exact e2.symm
theorem ints_get : ∀ {ns:List Int}{us:List Value},Vals (ns.map V.int) us → ∀ (i:Nat) (v:Value),us[i]?=some v → ∃ t,v = .int ((ns[i]?).getD 0) t
 | [],_,h,i,v,e=>by cases h;simp at e
 | n::ns,_,h,i,v,e=>by
  cases h with
  | cons r t =>
   cases i with
   | zero =>
    obtain ⟨k,rfl⟩:=r
    have:Value.int n k=v:=by simpa using e
    exact ⟨k,by rw [← this];rfl⟩
   | succ i =>
    obtain ⟨k,hk⟩:=ints_get t i v (by simpa using e)
    exact ⟨k,by simpa using hk⟩
def rSum (K:PySem.W.Frag):List V→Hp→VK→Prop:=fun xs H Q => ∃ (a:Addr) (ns:List Int),xs=[.ref a]∧(SqL K H a (ns.map V.int)∨SqT K H a (ns.map V.int))∧Q (.int ns.sum) H
theorem call_sum (hc:X.calm=true):CallR X (.builtin "sum") (rSum X.K):=by
 intro pins s σ H xs us Q I r h
 obtain ⟨a,ns,rfl,ha,q⟩:=h
 obtain ⟨u,rfl,rx⟩:=vals1 r
 cases rx
 have fin : ∀ (its:List Value) (h':Heap) (tk t':Nat),its.length=ns.length→(∀ b o,s.heap.get? b=some o→h'.get? b=some o)→EP X pins σ Q (.int (preSum (fun i=>(ns[i]?).getD 0) its.toArray.size) t') { s with heap:=h',toks:=tk }:=fun its h' tk t' hl hk=>by
  have e:preSum (fun i=>(ns[i]?).getD 0) its.toArray.size=ns.sum:=by
   rw [List.size_toArray,hl,preSum_list ns _ (Nat.le_refl _),List.take_length]
  rw [e]
  exact ⟨.int ns.sum,H,I.kept (t':=tk) hk,⟨t',rfl⟩,q⟩
 have old : ∀ {h':Heap}{ob:Obj},(∀ b o,b ∉ [s.heap.objs.size]→(s.heap.push ob).get? b=some o→h'.get? b=some o) → ∀ b o,s.heap.get? b=some o→h'.get? b=some o:=fun hk b o z =>
  hk b o (fun hm=>by rw [List.mem_singleton.mp hm] at z;exact Nat.lt_irrefl _ (Heap.lt_size z)) (Heap.get?_push_of_some _ z)
 rcases ha with ha|ha
 ·obtain ⟨its,rv,pl,_⟩:=I.list ha
  have hl:=pl.isList
  have hlt:a<s.heap.objs.size:=pl.lt
  have hlen:its.length=ns.length:=by rw [← rv.length,List.length_map]
  refine call_sum_walkG (wpAny_pyIter_list hl ?_)
  refine ⟨s.heap.objs.size,[s.heap.objs.size,a],[s.heap.objs.size],its.toArray.size,_,_,fun i=>(ns[i]?).getD 0,rfl,Walks.list (A:=X.A.in1) (I.ok.hd hc) _ a (Nat.ne_of_lt hlt) its.toArray,
   ⟨⟨_,Heap.get?_push_size _ rfl,rfl,rfl⟩,hl.push _⟩,fun b hb=>?_,fun i v hP=>ints_get rv i v (by simpa using hP),fun h' tk t' hk=>fin its h' tk t' hlen (old hk)⟩
  have hb':b=s.heap.objs.size∨b=a:=by simpa using hb
  rw [Heap.size_push]
  rcases hb' with rfl|rfl
  ·exact Nat.lt_succ_self _
  ·exact Nat.lt_succ_of_lt hlt
 ·obtain ⟨its,rv,pl,_⟩:=I.tuple ha
  have hl:s.heap.IsTuple a its.toArray:=pl
  have hlt:a<s.heap.objs.size:=IsTup.lt pl
  have hlen:its.length=ns.length:=by rw [← rv.length,List.length_map]
  refine call_sum_walkG (wpAny_pyIter_tuple hl ?_)
  refine ⟨s.heap.objs.size,[s.heap.objs.size,a],[s.heap.objs.size],its.toArray.size,_,_,fun i=>(ns[i]?).getD 0,rfl,Walks.tuple (A:=X.A.in1) (I.ok.hd hc) _ a (Nat.ne_of_lt hlt) its.toArray,
   ⟨⟨_,Heap.get?_push_size _ rfl,rfl,rfl⟩,pl.push _⟩,fun b hb=>?_,fun i v hP=>ints_get rv i v (by simpa using hP),fun h' tk t' hk=>fin its h' tk t' hlen (old hk)⟩
  have hb':b=s.heap.objs.size∨b=a:=by simpa using hb
  rw [Heap.size_push]
  rcases hb' with rfl|rfl
  ·exact Nat.lt_succ_self _
  ·exact Nat.lt_succ_of_lt hlt
def rSorted (K:PySem.W.Frag):List V→Hp→VK→Prop:=fun xs H Q => ∃ (a:Addr) (ns:List Int),xs=[.ref a]∧SqL K H a (ns.map V.int)∧ns.length<64 ∧ ∀ (p:Addr) (ns':List Int),H p=none→ns'.Perm ns→ns'.Pairwise (· ≤ ·)→Q (.ref p) (upd H p (.lst (ns'.map V.int)))
theorem call_sorted:CallR X (.builtin "sorted") (rSorted X.K):=by
 intro pins s σ H xs us Q I r h
 obtain ⟨a,ns,rfl,ha,h64,q⟩:=h
 obtain ⟨u,rfl,rx⟩:=vals1 r
 cases rx
 obtain ⟨its,rv,pl,_⟩:=I.list ha
 have hlen:its.length=ns.length:=by rw [← rv.length,List.length_map]
 refine sorted_ints pl.isList (intsAre_of rv) (by omega) fun out ns' a1 a2 a3=>?_
 obtain ⟨e,he⟩:=sortedAll_at s.heap its out
 have hl':ns'.length=ns.length:=a2.length_eq
 refine ⟨.ref (s.heap.objs.size+1),_,I.laid (t':=s.toks) (a:=s.heap.objs.size+1) (o :=.lst (ns'.map V.int)) (fun b o z=>sortedAll_old z) (Nat.le_succ _) ?_,rfl,q _ ns' (I.hok.fresh (Nat.le_succ _)) a2 a3⟩
 exact ⟨Nat.le_of_lt (small1000 (by rw [List.length_map];omega)),out.toList,e,vals_ints a1,by rw [Array.toArray_toList];exact he⟩
def iAny (K:PySem.W.Frag) (tl:TE):TI:=fun σ H R=>tl σ H fun x H1 => ∃ a,x = .ref a∧(((∃ xs,SqL K H1 a xs)∧R (Itl K a) H1)∨((∃ xs,SqT K H1 a xs)∧R (Itt K a) H1))
theorem pi_any {tg l:Expr}{tl:TE} (hl:PE X l tl):PI X tg l (iAny X.K tl):=by
 intro pins s σ H R I h
 refine thn (hl pins s σ H _ I h) fun v s1 xx112=>?_
 obtain ⟨x,H1,I1,r1,q1⟩:=xx112
 obtain ⟨a,e,q1⟩:=q1
 subst e
 cases r1
 rcases q1 with ⟨⟨xs,hq⟩,q⟩|⟨⟨xs,hq⟩,q⟩
 ·obtain ⟨its,rv,p,hz⟩:=I1.list hq
  refine wpAny_pyIter_list p.isList ?_
  refine ⟨s1.heap.objs.size,[s1.heap.objs.size],_,_,H1,rfl,I1.kept (t':=s1.toks) fun b o e=>Heap.get?_push_of_some _ e,turn_list a _,⟨_,Heap.get?_push_size _ rfl,rfl,rfl⟩,fun b hb=>?_,q⟩
  have e:b=s1.heap.objs.size:=by simpa using hb
  subst e
  exact I1.fpOk (Nat.le_refl _) (I1.hok.fresh (Nat.le_refl _))
 ·obtain ⟨its,rv,p,hz⟩:=I1.tuple hq
  refine wpAny_pyIter_tuple (show s1.heap.IsTuple a its.toArray from p) ?_
  refine ⟨s1.heap.objs.size,[s1.heap.objs.size],_,_,H1,rfl,I1.kept (t':=s1.toks) fun b o e=>Heap.get?_push_of_some _ e,turn_tuple a _,⟨_,Heap.get?_push_size _ rfl,rfl,rfl⟩,fun b hb=>?_,q⟩
  have e:b=s1.heap.objs.size:=by simpa using hb
  subst e
  exact I1.fpOk (Nat.le_refl _) (I1.hok.fresh (Nat.le_refl _))
end
theorem boot_sum:bootBuiltins "sum" = some (.builtin "sum"):=by decide +kernel
theorem boot_sorted:bootBuiltins "sorted" = some (.builtin "sorted"):=by decide +kernel
end L2
namespace L2
open PySem PySem.Spec PyProof.Rows
section
variable {X:Cx}
theorem itd_lst {K:PySem.W.Frag}{F:Hp}{a:Addr}{xs:List V}{l:List PyData} (hs:SqL K F a xs) (hr:Iss K F l xs):ItD K (Itl K a) F l where
 go:=fun i H s hi=>⟨xs,xs[i]'(by rw [hr.len];exact hi),s.seq hs,List.getElem?_eq_getElem _⟩
 stop:=fun H s=>⟨xs,s.seq hs,by rw [hr.len];exact Nat.le_refl _⟩
 yld:=fun i H x H' F1 s1 s2 hi hy=>by
  obtain ⟨rfl,hy⟩:=hy
  obtain ⟨d,e1,e2⟩:=hr.get' (hy xs ((s1.trans s2).seq hs))
  exact ⟨d,F1,e1,.refl s2,e2.mono s1⟩
theorem itd_tup {K:PySem.W.Frag}{F:Hp}{a:Addr}{xs:List V}{l:List PyData} (hs:SqT K F a xs) (hr:Iss K F l xs):ItD K (Itt K a) F l where
 go:=fun i H s hi=>⟨xs,xs[i]'(by rw [hr.len];exact hi),same_seqT s hs,List.getElem?_eq_getElem _⟩
 stop:=fun H s=>⟨xs,same_seqT s hs,by rw [hr.len];exact Nat.le_refl _⟩
 yld:=fun i H x H' F1 s1 s2 hi hy=>by
  obtain ⟨rfl,hy⟩:=hy
  obtain ⟨d,e1,e2⟩:=hr.get' (hy xs (same_seqT (s1.trans s2) hs))
  exact ⟨d,F1,e1,.refl s2,e2.mono s1⟩
def rngD (lo:Int) (n:Nat):List PyData:=(List.range n).map fun (k:Nat) => .int (lo+(k:Int))
theorem rngD_len (lo:Int) (n:Nat):(rngD lo n).length=n:=by simp [rngD]
theorem rngD_get {lo:Int}{n i:Nat} (h:i<n):(rngD lo n)[i]?=some (.int (lo+i)):=by simp [rngD,h]
theorem rngD_inv {lo:Int}{n i:Nat}{d:PyData} (h:(rngD lo n)[i]?=some d):i<n∧d = .int (lo+i):=by
 have hi:i<n:=by
  have:=(List.getElem?_eq_some_iff.mp h).1
  rwa [rngD_len] at this
 rw [rngD_get hi] at h
 exact ⟨hi,(Option.some.inj h).symm⟩
theorem itd_rng {K:PySem.W.Frag}{F:Hp}{lo:Int}{n:Nat}:ItD K (Itr lo n) F (rngD lo n) where
 go:=fun i H s hi=>by rw [rngD_len] at hi;exact hi
 stop:=fun H s=>by rw [rngD_len];exact Nat.le_refl _
 yld:=fun i H x H' F1 s1 s2 hi hy=>by
  obtain ⟨rfl,rfl⟩:=hy
  rw [rngD_len] at hi
  exact ⟨_,F1,rngD_get hi,.refl s2,is_int _⟩
def enumD (l:List PyData):List PyData:=(List.range l.length).map fun (k:Nat) => .tuple [.int k,(l[k]?).getD .none]
theorem enumD_len (l:List PyData):(enumD l).length=l.length:=by simp [enumD]
theorem enumD_get {l:List PyData}{i:Nat}{d:PyData} (h:l[i]?=some d):(enumD l)[i]?=some (.tuple [.int i,d]):=by
 have hi:=(List.getElem?_eq_some_iff.mp h).1
 have e:l[i]=d:=by rw [List.getElem?_eq_getElem hi] at h;exact Option.some.inj h
 simp [enumD,hi,e]
theorem enumD_inv {l:List PyData}{i:Nat}{d:PyData} (h:(enumD l)[i]?=some d) : ∃ x,l[i]?=some x∧d = .tuple [.int i,x]:=by
 have hi:i<l.length:=by
  have:=(List.getElem?_eq_some_iff.mp h).1
  rwa [enumD_len] at this
 have e:=enumD_get (List.getElem?_eq_getElem hi)
 rw [h] at e
 exact ⟨_,List.getElem?_eq_getElem hi,Option.some.inj e⟩
theorem itd_enum {K:PySem.W.Frag}{F:Hp}{a:Addr}{xs:List V}{l:List PyData} (hs:SqL K F a xs) (hr:Iss K F l xs):ItD K (Ite K a) F (enumD l) where
 go:=fun i H s hi=>by rw [enumD_len] at hi;exact ⟨xs,xs[i]'(by rw [hr.len];exact hi),s.seq hs,List.getElem?_eq_getElem _⟩
 stop:=fun H s=>by rw [enumD_len];exact ⟨xs,s.seq hs,by rw [hr.len];exact Nat.le_refl _⟩
 yld:=fun i H x H' F1 s1 s2 hi hy=>by
  obtain ⟨p,y,hy,hp,rfl,rfl⟩:=hy
  obtain ⟨d,e1,e2⟩:=hr.get' (hy xs ((s1.trans s2).seq hs))
  have g:=Go.put (o:=HO.tup [.int i,y]) s2 hp
  exact ⟨_,_,enumD_get e1,g,is_tup (SqT.of upd_same) (iss_cons (is_int _) (iss_cons ((e2.mono s1).mono g.f) iss_nil))⟩
section
variable {tg a b c:Expr}{W:WE}{Wr:WF}{p pos:Pos}
def isTy (T:String):PyData→Bool
 | .none=>false
 | .bool _=>T == "bool" || T == "int"
 | .int _=>T == "int"
 | .str _=>T == "str"
 | .list _=>T == "list"
 | .tuple _=>T == "tuple"
 | .dict _=>T == "dict"
def dSum:DC
 | [.list l],q => ∃ ns:List Int,l=ns.map .int∧q (.int ns.sum)
 | [.tuple l],q => ∃ ns:List Int,l=ns.map .int∧q (.int ns.sum)
 | _,_=>False
def seqD:PyData→Option (List PyData)
 | .list l=>some l
 | .tuple l=>some l
 | _=>none
theorem seq_elim {d:PyData}{l:List PyData}{Q:List PyData→Prop} (h:seqD d=some l) (q:Q l):(seqD d).elim False Q:=by rw [h];exact q
theorem ix_seqD {d:PyData}{l:List PyData}{i:Int}{x:PyData}{q:PyData→Prop} (h:seqD d=some l) (e:atI l i=some x) (hq:q x):dIx d (.int i) q:=by
 cases d with
 | list m=>cases h;exact ⟨x,e,hq⟩
 | tuple m=>cases h;exact ⟨x,e,hq⟩
 | _=>cases h
def wiSeq (W:WE):WF:=fun env Q=>W env fun d e=>(seqD d).elim False fun l=>Q l e
theorem vi_seq (h:VE X a W):VI X tg a (wiSeq W):=(pi_any h).imp fun σ H R xx113=>by
 obtain ⟨M,env,F,Q,I,h,k⟩:=xx113
 refine ⟨M,env,F,_,I,h,fun d v F1 H1 e1 I1 s1 i1 h1=>?_⟩
 cases d with
 | list l =>
  obtain ⟨b,xs,rfl,hs,hr⟩:=i1.lst_inv
  exact ⟨b,rfl,.inl ⟨⟨xs,I1.fh.seq hs⟩,k l _ F1 H1 e1 I1 s1 (itd_lst hs hr) h1⟩⟩
 | tuple l =>
  obtain ⟨b,xs,rfl,hs,hr⟩:=i1.tup_inv
  exact ⟨b,rfl,.inr ⟨⟨xs,same_seqT I1.fh hs⟩,k l _ F1 H1 e1 I1 s1 (itd_tup hs hr) h1⟩⟩
 | _=>exact False.elim h1
def wiR1 (W:WE):WF:=fun env Q=>W env fun d e=>match d with
 | .int j=>(-(2^62)≤j∧j<2^62)∧Q (rngD 0 j.toNat) e
 | _=>False
theorem vi_range1 (hm:X.mg "range" = none) (ha:VE X a W) (hg:Gl X "range":=by rfl) (hs:starEach [a] X.env=[(false,eval a X.env)]:=by rfl) (hs':starEach [a] X.env=(false,eval a X.env)::starEach [] X.env:=by rfl):VI X tg (.Call (.Name "range" p) [a] [] pos) (wiR1 W) :=
 (pi_range1 hg hm (pa_cons ha pa_nil hs') hs).imp fun σ H R xx114=>by
  obtain ⟨M,env,F,Q,I,h,k⟩:=xx114
  refine ⟨M,env,F,_,I,h,fun d v F1 H1 e1 I1 s1 i1 h1=>?_⟩
  cases d with
  | int j=>exact ⟨j,by rw [i1.int_inv],h1.1.1,h1.1.2,k _ _ F1 H1 e1 I1 s1 itd_rng h1.2⟩
  | _=>exact False.elim h1
def wiEn (W:WE):WF:=fun env Q=>W env fun d e=>match d with
 | .list l=>Q (enumD l) e
 | _=>False
theorem vi_enum {elts:List Expr}{x1:Nat}{tpos:Pos} (hm:X.mg "enumerate" = none) (ha:VE X a W) (hg:Gl X "enumerate":=by rfl) (hs:starEach [a] X.env=[(false,eval a X.env)]:=by rfl) (hs':starEach [a] X.env=(false,eval a X.env)::starEach [] X.env:=by rfl) :
 VI X (.Tuple elts x1 tpos) (.Call (.Name "enumerate" p) [a] [] pos) (wiEn W) :=
 (pi_enum hg hm (pa_cons ha pa_nil hs') hs).imp fun σ H R xx115=>by
  obtain ⟨M,env,F,Q,I,h,k⟩:=xx115
  refine ⟨M,env,F,_,I,h,fun d v F1 H1 e1 I1 s1 i1 h1=>?_⟩
  cases d with
  | list l =>
   obtain ⟨b,xs,rfl,hs,hr⟩:=i1.lst_inv
   exact ⟨b,rfl,⟨xs,I1.fh.seq hs⟩,k _ _ F1 H1 e1 I1 s1 (itd_enum hs hr) h1⟩
  | _=>exact False.elim h1
end
def Sl.seen:Sl→Sl
 | .val d => .val d
 | .new d => .val d
 | _ => .non
def capE (ix:List Nat) (k:Nat) (env:Sto):Sto:=ix.map (fun i=>(gS env i).seen)++List.replicate k .non
def wComp (ix:List Nat) (k:Nat) (Wi:WF) (G:WG) (We:WE):WF:=fun env Q=>Wi env fun ds e0=>ds.length<sizeLine ∧ ∃ P:Nat→List PyData→Sto→Prop,P 0 [] (capE ix k e0) ∧
 (∀ i d ys e,ds[i]?=some d→P i ys e→G d e fun e1=>We e1 fun y e2=>P (i+1) (ys++[y]) e2) ∧ ∀ ys e,P ds.length ys e→Q ys e0
theorem gS_map : ∀ (ix:List Nat) (f:Nat→Sl) (r:Sto) (j:Nat),gS (ix.map f++r) j=match ix[j]? with|some i=>f i|none=>gS r (j-ix.length)
 | [],f,r,j=>by simp
 | i::ix,f,r,0=>by simp [gS]
 | i::ix,f,r,j+1=>by simp only [List.map_cons,List.cons_append,gS,List.getElem?_cons_succ,List.length_cons,Nat.add_sub_add_right];exact gS_map ix f r j
theorem gS_rep (k j:Nat):gS (List.replicate k .non) j = .non:=by
 induction k generalizing j with
 | zero=>simp [gS]
 | succ k ih=>cases j with
  | zero=>simp [List.replicate_succ,gS]
  | succ j=>simp only [List.replicate_succ,gS];exact ih j
theorem vS_cap (ix:List Nat) (k:Nat) (σ:St) (j i:Nat) (h:ix[j]?=some i):vS (capS ix k σ) j=vS σ i:=by
 have hj:=(List.getElem?_eq_some_iff.mp h).1
 unfold vS capS
 rw [List.getElem?_append_left (by simpa using hj),List.getElem?_map,h]
 rfl
theorem EnvOk.cap {K:PySem.W.Frag}{M:Frm}{F H:Hp}{env:Sto}{σ:St} (I:EnvOk K M F H env σ) (ix:List Nat) (k:Nat):EnvOk K ⟨H,H,F⟩ F H (capE ix k env) (capS ix k σ) where
 len:=by simp [capE,capS]
 slot:=fun j=>by
  unfold capE
  rw [gS_map]
  cases h:ix[j]? with
  | none=>rw [gS_rep];trivial
  | some i =>
   show SlotOk K _ F H (gS env i).seen _
   rw [vS_cap ix k σ j i h]
   have S:=I.slot i
   cases q:gS env i with
   | val d=>rw [q] at S;exact S
   | non=>trivial
   | own ds=>trivial
   | pen ds=>trivial
   | new d=>rw [q] at S;obtain ⟨v,e,j⟩:=S;exact ⟨v,e,j.is newF_le⟩
   | exc C=>trivial
   | obj a0 C nm fs=>trivial
 dis:=fun i j a _ h1=>by
  unfold capE at h1
  rw [gS_map] at h1
  cases h:ix[i]? with
  | none=>rw [h,gS_rep] at h1;cases h1
  | some n =>
   rw [h] at h1
   replace h1:(gS env n).seen.mut=true:=h1
   cases q:gS env n <;> rw [q] at h1 <;> cases h1
 f0 :=.refl _
 fe:=I.fh
 fh:=I.fh
 bh :=.refl _
 new:=fun b o e => .inl e
 dom:=fun b o e=>⟨o,e⟩
theorem EnvOk.goOf {K:PySem.W.Frag}{F H F' H':Hp}{env:Sto}{σ:St} (I:EnvOk K ⟨H,H,F⟩ F' H' env σ):Go F H F' H':=⟨I.f0,I.bh,I.fh,I.new⟩
section
variable {K:PySem.W.Frag}{ix:List Nat}{n:Nat}{Wi:WF}{G:WG}{We:WE}{σ:St}{H:Hp}{R:VK}
theorem comp_lift (h:liftF K (wComp ix n Wi G We) σ H R):tComp ix n (liftI K Wi) (liftG K G) (liftE K We) σ H R:=by
 obtain ⟨M,env,F,Q,I,h,k⟩:=h
 refine ⟨M,env,F,_,I,h,fun ds J F1 H1 e1 I1 s1 jt xx117=>?_⟩
 obtain ⟨hz,P,p0,turn,fin⟩:=xx117
 refine ⟨fun i m ys σ1 H'=>m=ds.length-i∧i≤ds.length ∧ ∃ e' F' l,EnvOk K ⟨H1,H1,F1⟩ F' H' e' σ1∧Iss K F' l ys∧ys.length=i∧P i l e',⟨ds.length,by simp,Nat.zero_le _,capE ix n e1,F1,[],I1.cap ix n,iss_nil,rfl,p0⟩,?_⟩
 rintro i m ys σ1 H2 ⟨hm,hi,e2,F2,l,I2,i2,hl,p2⟩
 have g2:=I2.goOf
 by_cases he:i=ds.length
 ·subst he
  exact .inl ⟨jt.stop H2 (g2.f.trans g2.fh),by omega,new_lst (I1.go g2) (s1.trans g2.f) i2 (fin l e2 p2) k⟩
 ·have hlt:i<ds.length:=by omega
  refine .inr ⟨jt.go i H2 (g2.f.trans g2.fh) hlt,by omega,fun y σ' H' => ∃ e' F' l',EnvOk K ⟨H1,H1,F1⟩ F' H' e' σ'∧Iss K F' l' (ys++[y])∧P (i+1) l' e',
   fun y σ' H' xx116=>by obtain ⟨e',F',l',I',i',p'⟩:=xx116;exact ⟨ds.length-(i+1),by omega,rfl,hlt,e',F',l',I',i',by simp [hl],p'⟩,fun x H3 hy=>?_⟩
  obtain ⟨d,F3,hd,g,j⟩:=jt.yld i H2 x H3 F2 g2.f g2.fh hlt hy
  refine ⟨_,e2,F3,d,_,I2.go g,j,turn i d l e2 hd p2,fun F4 H4 e4 σ4 I4 s4 h4=>⟨_,e4,F4,_,I4,h4,fun d5 v5 F5 H5 e5 I5 s5 i5 h5=>?_⟩⟩
  exact ⟨e5,F5,l++[d5],I5,iss_append ((i2.mono (g.f.trans s4)).mono s5) (iss_cons i5 iss_nil),h5⟩
end
theorem vf_comp {elt target iter:Expr}{scope:Scope}{pos:Pos}{caps own:List Str}{ix:List Nat}{Wi:WF}{G:WG}{We:WE} (hc:X.calm=true) (S:CompScope X.env scope caps) (hi:VI X target iter Wi)
 (hg : ∀ pins s3 H ex,VG (blk X pins scope (caps++own) s3 H ex) target G)
 (he : ∀ pins s3 H ex,VE (blk X pins scope (caps++own) s3 H ex) elt We)
 (hix:caps.length=ix.length:=by rfl) (hcapB:(caps.zip ix).all (fun p=>X.N[p.2]?==some p.1)=true:=by rfl)
  (hs : ∀ x,foldedSetIterable iter X.env x=pure x:=by intro _;rfl):VF X (.ListComp elt [⟨target,iter,[],0⟩] scope pos) (wComp ix own.length Wi G We) :=
  (pe_comp (g:=liftG X.K G) (te:=liftE X.K We) hc S hi hg he hix hcapB hs).imp fun _ _ _ h=>comp_lift h
theorem comp_by {ix:List Nat}{k:Nat}{G:WG}{We:WE}{Q:List PyData→Sto→Prop}{ds:List PyData}{e0:Sto} (L:List PyData) (hl:L.length=ds.length) (hz:L.length<sizeLine) (Iv:Sto→Prop) (h0:Iv (capE ix k e0))
 (h : ∀ (i:Nat) d ys e,ds[i]?=some d→ys=L.take i→Iv e→G d e fun e1=>We e1 fun y e2=>ys++[y]=L.take (i+1)∧Iv e2) (q:Q L e0) :
 ds.length<sizeLine ∧ ∃ P:Nat→List PyData→Sto→Prop,P 0 [] (capE ix k e0)∧(∀ i d ys e,ds[i]?=some d→P i ys e→G d e fun e1=>We e1 fun y e2=>P (i+1) (ys++[y]) e2) ∧ ∀ ys e,P ds.length ys e→Q ys e0 :=
  ⟨by omega,fun i ys e=>ys=L.take i∧Iv e,⟨by simp,h0⟩,fun i d ys e hd hp=>h i d ys e hd hp.1 hp.2,fun ys e hp=>by rw [hp.1,← hl,List.take_length];exact q⟩
theorem snoc_take {α:Type}{L ys:List α}{y:α}{i:Nat} (e:L[i]?=some y) (h:ys=L.take i):ys++[y]=L.take (i+1):=by
 rw [h,List.take_add_one,e];rfl
def wIsi (T:String) (W:WE):WE:=fun env Q=>W env fun d e=>Q (.bool (isTy T d)) e
section
variable {a:Expr}{W:WE}{p pos pT:Pos}{T:String}{t:Str}
theorem ve_isi (hm:X.mg "isinstance" = none) (ht:X.mg t=none) (hv:bootBuiltins t=some (.type T)) (ha:VE X a W) (hk : ∀ d,PySem.W.kitOne X.K (.type (tyD d)) (.type T)=some (isTy T d):=by intro d;cases d <;> rfl)
 (hg:Gl X "isinstance":=by rfl) (hgt:Gl X t:=by rfl) (hn:t ≠ "__name__":=by decide) (hdt:(t==("__debug__" : Str))=false:=by decide)
 (hs:starEach [a,.Name t pT] X.env=(false,eval a X.env)::starEach [.Name t pT] X.env:=by rfl) (hs2:starEach [.Name t pT] X.env=(false,eval (.Name t pT) X.env)::starEach [] X.env:=by rfl) (hpl:(backTo pos (starEach [.Name t pT] X.env)).any (·.1)=false:=by rfl) :
 VE X (.Call (.Name "isinstance" p) [a,.Name t pT] [] pos) (wIsi T W) :=
 (pe_callB call_isi hg hm boot_isinstance (pa_cons ha (pa_cons (pe_bltn (v :=.ty T) hgt ht hv rfl hn hdt) pa_nil hs2) hs) (by decide) (by decide) hs hpl).imp fun σ H R xx118=>by
  obtain ⟨M,env,F,Q,I,h,k⟩:=xx118
  exact ⟨M,env,F,_,I,h,fun d v F1 H1 e1 I1 s1 i1 h1=>⟨d,v,T,isTy T d,rfl,i1.mono I1.fh,hk d,k _ _ F1 H1 e1 I1 s1 (is_bl _) h1⟩⟩
end
theorem c_sum (hc:X.calm=true):CallV X (.builtin "sum") dSum:=(call_sum hc).imp fun xs H Q xx119=>by
 obtain ⟨F,ds,q,s,i,h,k⟩:=xx119
 match ds,h,i with
 | [.list l],h,i =>
  obtain ⟨v,rfl,j⟩:=iss1 i
  obtain ⟨a,xs,rfl,hs,hr⟩:=j.lst_inv
  obtain ⟨ns,rfl,hq⟩:=h
  rw [hr.ints_inv] at hs
  exact ⟨a,ns,rfl,.inl (s.seq hs),k _ _ F H (.refl s) (is_int _) hq⟩
 | [.tuple l],h,i =>
  obtain ⟨v,rfl,j⟩:=iss1 i
  obtain ⟨a,xs,rfl,hs,hr⟩:=j.tup_inv
  obtain ⟨ns,rfl,hq⟩:=h
  rw [hr.ints_inv] at hs
  exact ⟨a,ns,rfl,.inr (same_seqT s hs),k _ _ F H (.refl s) (is_int _) hq⟩
def dSortF:List PyData→(List PyData→Prop)→Prop
 | [.list l],q => ∃ ns:List Int,l=ns.map .int∧ns.length<64 ∧ ∀ ns':List Int,ns'.Perm ns→ns'.Pairwise (· ≤ ·)→q (ns'.map .int)
 | _,_=>False
theorem c_sorted:CallVF X (.builtin "sorted") dSortF:=call_sorted.imp fun xs H Q xx120=>by
 obtain ⟨F,ds,q,s,i,h,k⟩:=xx120
 match ds,h,i with
 | [.list l],h,i =>
  obtain ⟨v,rfl,j⟩:=iss1 i
  obtain ⟨a,xs,rfl,hs,hr⟩:=j.lst_inv
  obtain ⟨ns,rfl,hz,hq⟩:=h
  rw [hr.ints_inv] at hs
  exact ⟨a,ns,rfl,s.seq hs,hz,fun p ns' hp h1 h2=>k _ p _ F _ (.side s hp) hp (same_none s hp) upd_same (iss_ints ns') (hq ns' h1 h2)⟩
end
def startE (N:List Str) (ds:List PyData):Sto:=ds.map .val++List.replicate (N.length-ds.length) .non
theorem gS_val : ∀ (ds:List PyData) (r:Sto) (j:Nat),gS (ds.map .val++r) j=match ds[j]? with|some d => .val d|none=>gS r (j-ds.length)
 | [],r,j=>by simp
 | i::ix,r,0=>by simp [gS]
 | i::ix,r,j+1=>by simp only [List.map_cons,List.cons_append,gS,List.getElem?_cons_succ,List.length_cons,Nat.add_sub_add_right];exact gS_val ix r j
theorem vS_start {N:List Str}{vs:List V}{j:Nat}{v:V} (h:vs[j]?=some v):vS (start N vs) j=some v:=by
 have hj:=(List.getElem?_eq_some_iff.mp h).1
 unfold vS start
 rw [List.getElem?_append_left (by simpa using hj),List.getElem?_map,h]
 rfl
theorem env_start {K:PySem.W.Frag}{F H:Hp}{N:List Str}{ds:List PyData}{vs:List V} (s:Same F H) (i:Iss K F ds vs):EnvOk K ⟨H,H,F⟩ F H (startE N ds) (start N vs) where
 len:=by simp [startE,start,i.len]
 slot:=fun j=>by
  unfold startE
  rw [gS_val]
  cases h:ds[j]? with
  | none=>rw [gS_rep];trivial
  | some d =>
   obtain ⟨x,e1,e2⟩:=i.get h
   exact ⟨x,vS_start e1,e2⟩
 dis:=fun i j a _ h1=>by
  unfold startE at h1
  rw [gS_val] at h1
  cases h:ds[i]? with
  | none=>rw [h,gS_rep] at h1;cases h1
  | some d=>rw [h] at h1;cases h1
 f0 :=.refl _
 fe:=s
 fh:=s
 bh :=.refl _
 new:=fun b o e => .inl e
 dom:=fun b o e=>⟨o,e⟩
section
variable {P:Program}{w:World}{K:PySem.W.Frag}{mg:Str→Option Value}{base:Heap}
theorem RetOk.is {F H F' H':Hp}{env:Sto}{σ:St}{r:Ret}{v:V} (I:EnvOk K ⟨H,H,F⟩ F' H' env σ) (h:RetOk K ⟨H,H,F⟩ F' H' r v) : ∃ F'',Go F H F'' H'∧Is K F'' r.data v:=by
 have g:=I.goOf
 cases r with
 | val d=>exact ⟨F',g,h⟩
 | new d=>exact ⟨F',g,IsN.is newF_le h⟩
 | own ds =>
  obtain ⟨a,vs,rfl,h1,h2,h3,h4,h5⟩:=h
  have s:Same F' (upd F' a (.lst vs)):=same_new h2
  refine ⟨upd F' a (.lst vs),⟨g.f.trans s,g.h,fun b o e=>?_,fun b o e=>?_⟩,is_lst (SqL.of upd_same) (h5.mono s)⟩
  ·by_cases z:b=a
   ·subst z;rw [upd_same] at e;rw [h1];exact .of e
   ·rw [upd_ne z] at e;exact g.fh b o e
  ·by_cases z:b=a
   ·subst z;exact .inr h4
   ·rw [upd_ne z] at e;exact g.new b o e
theorem Def.vok {x:Str}{st:Stmt}{N ps:List Str}{k:Nat}{sp:DC} (F:Def K mg x st ps) (S:FnScope N ps (defScope st)) (len : ∀ ds q,sp ds q→ds.length=ps.length)
 (hbody : ∀ (f:Addr) (cdv:Value) (A:Around) (outer:List Env) (s:Shared) (H:Hp) (E:XK),Room k (A.deeper (envOfC x (defScope st) s.heap.objs.size f cdv)) → ∀ ds q,sp ds q →
 ∃ W,VSs (cxOf CX0 P w K mg base N x (defScope st) f cdv A outer s H E).nox (defBody st) W∧W { nx:=fun _=>q .none,rt:=fun r _=>q r.data } (startE N ds)):Ok P w K mg base x (k+1) ps (PSp K sp) :=
  F.ok S (fun vs H Q E xx122=>by obtain ⟨F,ds,q,_,i,h,_⟩:=xx122;rw [i.len];exact len ds q h) fun f cdv A outer s H vs Q E hr xx121=>by
   obtain ⟨F,ds,q,sm,i,h,kk⟩:=xx121
   obtain ⟨W,hW,hq⟩:=hbody f cdv A outer s H E hr ds q h
   refine ⟨_,hW,⟨H,H,F⟩,startE N ds,F,_,env_start sm i,hq,⟨fun e1 F1 H1 σ1 I1 s1 q1=>kk _ _ F1 H1 I1.goOf is_non q1,fun r v e1 F1 H1 σ1 I1 s1 r1 q1=>?_,fun _ _ _ _ _ _ h=>h.elim,fun _ _ _ _ _ _ h=>h.elim⟩⟩
   obtain ⟨F2,g,j⟩:=r1.is I1
   exact kk _ _ F2 H1 g j q1
theorem Def.vokF {x:Str}{st:Stmt}{N ps:List Str}{k:Nat}{sp:List PyData→(List PyData→Prop)→Prop} (F:Def K mg x st ps) (S:FnScope N ps (defScope st)) (len : ∀ ds q,sp ds q→ds.length=ps.length)
 (hbody : ∀ (f:Addr) (cdv:Value) (A:Around) (outer:List Env) (s:Shared) (H:Hp) (E:XK),Room k (A.deeper (envOfC x (defScope st) s.heap.objs.size f cdv)) → ∀ ds q,sp ds q →
 ∃ W,VSs (cxOf CX0 P w K mg base N x (defScope st) f cdv A outer s H E).nox (defBody st) W∧W { nx:=fun _=>False,rt:=fun r _ => ∃ l,r = .own l∧q l } (startE N ds)):Ok P w K mg base x (k+1) ps (FSp K sp) :=
  F.ok S (fun vs H Q E xx124=>by obtain ⟨F,ds,q,_,i,h,_⟩:=xx124;rw [i.len];exact len ds q h) fun f cdv A outer s H vs Q E hr xx123=>by
   obtain ⟨F,ds,q,sm,i,h,kk⟩:=xx123
   obtain ⟨W,hW,hq⟩:=hbody f cdv A outer s H E hr ds q h
   refine ⟨_,hW,⟨H,H,F⟩,startE N ds,F,_,env_start sm i,hq,⟨fun e1 F1 H1 σ1 I1 s1 q1=>q1.elim,fun r v e1 F1 H1 σ1 I1 s1 r1 q1=>?_,fun _ _ _ _ _ _ h=>h.elim,fun _ _ _ _ _ _ h=>h.elim⟩⟩
   obtain ⟨l,rfl,q1⟩:=q1
   obtain ⟨a,vs,rfl,h1,h2,h3,h4,h5⟩:=r1
   exact kk l a vs F1 H1 I1.goOf h4 h2 h1 h5 q1
def spLaw (K:PySem.W.Frag):Sp:=fun vs H Q _ => ∃ (a:Addr) (ns:List Int),vs=[.ref a]∧SqL K H a (ns.map V.int)∧ns.length≤63 ∧ ∀ H',Q (.bl true) H'
theorem Fun.vlaw {x:Str}{st:Stmt}{f:Addr}{fd:FuncData}{N ps:List Str}{k:Nat} (F:Fun K x x st f fd) (S:FnScope N ps (defScope st)) (hp:ps.length=1)
 (hbody : ∀ (cdv:Value) (A:Around) (outer:List Env) (s:Shared) (H:Hp) (E:XK),Room k (A.deeper (envOfC x (defScope st) s.heap.objs.size f cdv)) → ∀ ns:List Int,ns.length≤63 →
 ∃ W,VSs (cxOf CX0 P w K mg base N x (defScope st) f cdv A outer s H E).nox (defBody st) W∧W { nx:=fun _=>False,rt:=fun r _=>r.data = .bool true } (startE N [.list (ns.map .int)])):FnOk P w K mg base CX0 (k+1) f fd ps (spLaw K):=by
  refine F.ok S (fun vs H Q E h=>?_) (fun cdv A outer s H vs Q E hr h=>?_)
  ·obtain ⟨a,ns,rfl,_⟩:=h
   exact hp.symm
  ·obtain ⟨a,ns,rfl,hS,hlen,kk⟩:=h
   have hi:Iss K H [.list (ns.map .int)] [.ref a]:=iss_cons (is_lst hS (iss_ints ns)) iss_nil
   obtain ⟨W,hW,hq⟩:=hbody cdv A outer s H E hr ns hlen
   refine ⟨_,hW,⟨H,H,H⟩,startE N _,H,_,env_start (.refl _) hi,hq,⟨fun e1 F1 H1 σ1 I1 s1 q1=>q1.elim,fun r v e1 F1 H1 σ1 I1 s1 r1 q1=>?_,fun _ _ _ _ _ _ h=>h.elim,fun _ _ _ _ _ _ h=>h.elim⟩⟩
   obtain ⟨F2,g,j⟩:=r1.is I1
   have q1:r.data = .bool true:=q1
   rw [q1] at j
   rw [j.bl_inv]
   exact kk H1
end
end L2
namespace L2
open PySem PySem.Spec PyProof.Rows
section
variable (K:PySem.W.Frag)
def liftN (W:WE):TE:=fun σ H R => ∃ M env F Q,EnvOk K M F H env σ∧W env Q ∧ ∀ d v F' H' env',EnvOk K M F' H' env' σ→Same F F'→IsN K (newF M F') d v→Q d env'→R v H'
def liftFN (W:WF):TE:=fun σ H R => ∃ M env F Q,EnvOk K M F H env σ∧W env Q ∧ ∀ a vs ds F' H' env',EnvOk K M F' H' env' σ→Same F F'→H' a=some (.lst vs)→F' a=none→M.B a=none→M.He a=none →
 (∀ i,(gS env' i).mut=true→vS σ i≠some (.ref a))→IssN K (newF M F') ds vs→Q ds env'→R (.ref a) H'
structure EndsT (M:Frm) (DD:WEnds) (D:Ends):Prop where
 nx : ∀ env' F' H' σ',EnvOk K M F' H' env' σ'→DD.nx env'→D.nx σ' H'
 rt : ∀ r v env' F' H' σ',EnvOk K M F' H' env' σ'→RetOk K M F' H' r v→DD.rt r env'→D.rt v H'
 bk : ∀ env' F' H' σ',EnvOk K M F' H' env' σ'→DD.bk env'→D.bk σ' H'
 ct : ∀ env' F' H' σ',EnvOk K M F' H' env' σ'→DD.ct env'→D.ct σ' H'
def liftST (W:WS):TS:=fun D σ H => ∃ M env F DD,EnvOk K M F H env σ∧W DD env∧EndsT K M DD D
end
def VN (X:Cx) (e:Expr) (W:WE):Prop:=PE X e (liftN X.K W)
def VFN (X:Cx) (e:Expr) (W:WF):Prop:=PE X e (liftFN X.K W)
def VST (X:Cx) (st:Stmt) (W:WS):Prop:=PS X st (liftST X.K W)
def VSsT (X:Cx) (st:List Stmt) (W:WS):Prop:=PSs X st (liftST X.K W)
section
variable {X:Cx}{a b e:Expr}{W:WE}{Wf:WF}{pos p:Pos}
end
section
variable {P:Program}{w:World}{K:PySem.W.Frag}{mg:Str→Option Value}{base:Heap}
end
section
variable {X:Cx}{c e:Expr}{Tc:WT}{W:WE}{Wt Wu:WS}{st:Stmt}{sts rest:List Stmt}{pos pos':Pos}
mutual
def immD:PyData→Bool
 | .list _=>false
 | .tuple l=>immAll l
 | .dict _=>false
 | _=>true
def immAll:List PyData→Bool
 | []=>true
 | d::l=>immD d&&immAll l
end
mutual
theorem Is.imm {K:PySem.W.Frag}{F F':Hp} (s : ∀ b o,F b=some o→(∀ xs,o ≠ .lst xs)→F' b=some o) : ∀ {d:PyData}{v:V},immD d=true→Is K F d v→Is K F' d v
 | .none,_,_,h=>by unfold Is at h ⊢;exact h
 | .bool _,_,_,h=>by unfold Is at h ⊢;exact h
 | .int _,_,_,h=>by unfold Is at h ⊢;exact h
 | .str _,_,_,h=>by unfold Is at h ⊢;exact h
 | .list l,_,m,h=>by unfold immD at m;cases m
 | .dict l,_,m,h=>by unfold immD at m;cases m
 | .tuple l,_,m,h=>by
  unfold immD at m
  unfold Is at h ⊢
  obtain ⟨a,xs,e,q,r⟩:=h
  refine ⟨a,xs,e,?_,Iss.imm s m r⟩
  rcases q with (q|⟨o,q⟩)|q
  ·exact .inl (.inl (s _ _ q (fun _ z=>nomatch z)))
  ·exact .inl (.inr ⟨o,s _ _ q (fun _ z=>nomatch z)⟩)
  ·exact .inr q
theorem Iss.imm {K:PySem.W.Frag}{F F':Hp} (s : ∀ b o,F b=some o→(∀ xs,o ≠ .lst xs)→F' b=some o) : ∀ {l:List PyData}{xs:List V},immAll l=true→Iss K F l xs→Iss K F' l xs
 | [],_,_,h=>by unfold Iss at h ⊢;exact h
 | d::l,_,m,h=>by
  unfold immAll at m
  rw [Bool.and_eq_true] at m
  unfold Iss at h ⊢
  obtain ⟨x,r,e,p,q⟩:=h
  exact ⟨x,r,e,Is.imm s m.1 p,Iss.imm s m.2 q⟩
end
end
section
variable {X:Cx}
end
end L2
namespace L2
open PySem PySem.Spec PyProof.Rows
section
variable {X:Cx}{elt target iter:Expr}{scope:Scope}{pos:Pos}{caps own:List Str}{ix:List Nat}{wi:TI}{g:TG}{te:TE}
theorem ps_comp {i:Nat}{y:Str}{py spos:Pos} (hN:X.N.Nodup) (hiy:X.N[i]?=some y) (hy:X.env.scope.names.lookup y=some .local) (hsw:swapsWith (.ListComp elt [⟨target,iter,[],0⟩] scope pos) (some (.Name y py)) spos.line X.env=pure true) (hc:X.calm=true) (S:CompScope X.env scope caps) (hi:PI X target iter wi)
 (hg : ∀ pins s3 H ex,PG (blk X pins scope (caps++own) s3 H ex) target g)
 (he : ∀ pins s3 H ex,PE (blk X pins scope (caps++own) s3 H ex) elt te)
 (hix:caps.length=ix.length:=by rfl) (hcapB:(caps.zip ix).all (fun p=>X.N[p.2]?==some p.1)=true:=by rfl)
  (hs : ∀ x,foldedSetIterable iter X.env x=pure x:=by intro _;rfl):PS X (.Assign [.Name y py] (.ListComp elt [⟨target,iter,[],0⟩] scope pos) spos) (tAsg (tComp ix own.length wi g te) (gName i)):=by
  intro pins s σ H D I h
  rw [exec_Assign_Name_used _ _ _ _ hsw]
  refine wpAny_bind (wpAny_standAt (wpAny_bind ?_))
  show wpAny _ _ (do let _ ← comprehension (.ListComp elt [⟨target,iter,[],0⟩] scope pos) scope X.env _ (newList []) false (eval iter X.env) (some (assign (.Name y py) X.env))) _ _ s
  refine wpAny_bind (thn (comp_core0 (use:=some (assign (.Name y py) X.env)) (Q0:=fun _ s'=>SP X pins D .next s') hc S hi hg he hix hcapB hs I h fun D' C s6 H6 m6 ns6 IX c1 c2 c3 c4 c5 c6 q=>?_) (fun _ s' hq=>wpAny_pure (wpAny_pure hq)))
  obtain ⟨oC,esC,epC,hoC,hdC,rC⟩:=id ns6
  have IX':Inv X (pins++[(C,oC)]) σ H6 s6:=IX.pins_of fun p hp=>by
   rcases List.mem_append.mp hp with z|z
   ·exact IX.pin p (List.mem_append_right _ z)
   ·rw [List.mem_singleton.mp z]
    exact ⟨hoC,c1,c2,c3,fun v q=>by rw [hdC] at q;cases q⟩
  show wpAny _ _ (assign (.Name y py) X.env (.ref D')) _ _ _
  refine wpAny_assign_Name (store_ok IX' hN hiy (Or.inl hy) (v :=.ref D') rfl (fun s7 I7=>?_) (.inr hy))
  have gC:s7.heap.get? C=some oC:=(I7.pin (C,oC) (List.mem_append_right _ (List.mem_append_right _ (List.mem_singleton.mpr rfl)))).1
  refine ⟨m6,⟨oC,esC,epC,gC,hdC,rC⟩,fun h' sb=>?_⟩
  exact ⟨_,_,I7.unpinned.turned (t':=s7.toks) (it:=C) (fun b o hb q=>sb.extBut b o hb q) c1 c2 c4 c5 c6,q⟩
end
section
variable {K:PySem.W.Frag}{ix:List Nat}{n:Nat}{Wi:WF}{G:WG}{We:WE}{σ:St}{H:Hp}{R:VK}
end
section
variable {X:Cx}{elt target iter:Expr}{scope:Scope}{pos py spos:Pos}{caps own:List Str}{ix:List Nat}{Wi:WF}{G:WG}{We:WE}{i:Nat}{y:Str}
theorem vs_setC (hN:X.N.Nodup) (hc:X.calm=true) (S:CompScope X.env scope caps) (hi:VI X target iter Wi) (hg : ∀ pins s3 H ex,VG (blk X pins scope (caps++own) s3 H ex) target G) (he : ∀ pins s3 H ex,VE (blk X pins scope (caps++own) s3 H ex) elt We)
 (hiy:X.N[i]?=some y:=by rfl) (hy:X.env.scope.names.lookup y=some .local:=by rfl) (hsw:swapsWith (.ListComp elt [⟨target,iter,[],0⟩] scope pos) (some (.Name y py)) spos.line X.env=pure true:=by rfl)
  (hix:caps.length=ix.length:=by rfl) (hcapB:(caps.zip ix).all (fun p=>X.N[p.2]?==some p.1)=true:=by rfl) (hs : ∀ x,foldedSetIterable iter X.env x=pure x:=by intro _;rfl) :
  VS X (.Assign [.Name y py] (.ListComp elt [⟨target,iter,[],0⟩] scope pos) spos) (wSet i (wL (wComp ix own.length Wi G We))) :=
  (ps_comp (wi:=liftI X.K Wi) (g:=liftG X.K G) (te:=liftE X.K We) hN hiy hy hsw hc S hi hg he hix hcapB hs).imp fun D σ H ⟨M,env,F,DD,I,h,k⟩=>comp_lift ⟨M,env,F,_,I,h,fun a vs ds F1 H1 e1 I1 s1 h1 h2 h3 h4 h5 h6 h7=>by
   obtain ⟨J,s⟩:=I1.frz h1 h2 h4 h5
   exact k.nx _ _ H1 _ (J.setv (is_lst (SqL.of upd_same) (h6.mono s))) (s1.trans s) h7⟩
end
end L2
namespace L2
open PySem PySem.Spec PyProof.Rows
def Its (lo c:Int) (n:Nat):It:=⟨fun i _=>i<n,fun i H x H'=>H'=H∧x = .int (lo+i*c),fun i _=>n≤i⟩
theorem turn_rangeS {P:Program}{w:World}{K:PySem.W.Frag}{tg:Expr} (it:Addr) (lo c:Int) (n:Nat):Turn P w K tg (Its lo c n) [it] it (fun i h=>IsRangeIter h it (lo+(i:Nat)*c) ((n:Int)-(i:Nat)) c) where
 mem:=by simp
 obj:=fun i h st b hb=>by
  have e:b=it:=by simpa using hb
  subst e
  exact ⟨_,st,fun v z=>by
   have z':Data.fields _=Data.cell v:=z
   cases z'⟩
 keep:=fun i h h' st k=>k it (by simp) _ st
 item:=by
  intro X hP hw hK hc i pins s σ H E I hf st hg
  subst hP hw hK
  obtain ⟨f0,f1,f2,f3,f4,f5⟩:=hf it (by simp)
  have W:=Walks.range (prog:=X.prog) (w:=X.w) (I.ok.hd hc) it lo c n
  refine W.item i s _ _ hg st fun v h' tk hv st' kk=>?_
  obtain ⟨t,rfl⟩:=hv
  have I1:Inv X pins σ H { s with heap:=h',toks:=tk }:=I.turned (fun b o hb e=>kk b o (by simpa using hb) e) f0 f1 f3 f4 f5
  exact ⟨_,rfl,go_of (s:={ s with heap:=h',toks:=tk }) (n := "range_iterator") st' rfl rfl (by decide) ⟨.int (lo+i*c),H,I1,⟨t,rfl⟩,⟨rfl,rfl⟩,st',fun b hb=>(hf b hb).1⟩⟩
 done:=by
  intro X hP hw hK hc i pins s σ H E I hf st hg
  subst hP hw hK
  obtain ⟨f0,f1,f2,f3,f4,f5⟩:=hf it (by simp)
  exact wpAny_pyNext_range_end (I.ok.hd hc) st (by have:n≤i:=hg;omega) fun h' eb=>⟨rfl,I.turned (t':=s.toks) (fun b o hb e=>eb b o hb e) f0 f1 f3 f4 f5⟩
 self:=fun _ _ _ _ _ st h=>wpAny_pyIter_rangeiter st h
section
variable {X:Cx}{tg:Expr}
theorem range_itS {pins:List (Addr×Obj)}{σ:St}{H:Hp}{s:Shared}{R:It→Hp→Prop}{E:Value→Shared→Prop}{lo hi c:Int}{n:Nat}{t u v:Tok}{tk:Nat} (I:Inv X pins σ H s) (hsm:Builtin.Range.small lo hi c=true) (hn:Builtin.Range.rangeSize lo hi c=(n:Int))
 (q:R (Its lo c n) H):wpAny (model X.prog X.w) X.A (pyIter (.ref s.heap.objs.size)) (PIE X pins σ tg R) E { s with heap:=s.heap.push { cls :=.type "range",data :=.fields #[.int lo t,.int hi u,.int c v] },toks:=tk }:=by
  refine wpAny_pyIter_range (IsRange.new ..) hsm ?_
  have I1:Inv X pins σ H { s with heap:=s.heap.push { cls :=.type "range",data :=.fields #[.int lo t,.int hi u,.int c v] },toks:=tk }:=I.kept fun b o e=>Heap.get?_push_of_some _ e
  refine ⟨(s.heap.push { cls :=.type "range",data :=.fields #[.int lo t,.int hi u,.int c v] }).objs.size,[(s.heap.push { cls :=.type "range",data :=.fields #[.int lo t,.int hi u,.int c v] }).objs.size],_,_,H,rfl,
   I1.kept (t':=tk) fun b o e=>Heap.get?_push_of_some _ e,turn_rangeS _ lo c n,?_,fun b hb=>?_,q⟩
  ·have e1:lo+((0:Nat):Int)*c=lo:=by simp
   have e2:(n:Int)-((0:Nat):Int)=Builtin.Range.rangeSize lo hi c:=by rw [hn];simp
   show IsRangeIter _ _ (lo+((0:Nat):Int)*c) ((n:Int)-((0:Nat):Int)) c
   rw [e1,e2]
   exact Heap.get?_push_size _ rfl
  ·have e:b=(s.heap.push { cls :=.type "range",data :=.fields #[.int lo t,.int hi u,.int c v] }).objs.size:=by simpa using hb
   subst e
   exact I1.fpOk (Nat.le_refl _) (I1.hok.fresh (Nat.le_refl _))
structure Rng3 (i j c:Int) (n:Nat):Prop where
 nz:c≠0
 cs:c.natAbs<1073741824
 sm:Builtin.Range.small i j c=true
 n:Builtin.Range.rangeSize i j c=(n:Int)
def iRng3 (ta:TA):TI:=fun σ H R=>ta σ H fun vs H1 => ∃ (i j c:Int) (n:Nat),vs=[.int i,.int j,.int c]∧Rng3 i j c n∧R (Its i c n) H1
theorem pi_range3 {a b c:Expr}{ta:TA}{p pos:Pos} (hg:Gl X "range") (hm:X.mg "range" = none) (ha:PA X [a,b,c] ta) (hs:starEach [a,b,c] X.env=[(false,eval a X.env),(false,eval b X.env),(false,eval c X.env)]:=by rfl) (hs2:starEach [b,c] X.env=[(false,eval b X.env),(false,eval c X.env)]:=by rfl) :
 PI X tg (.Call (.Name "range" p) [a,b,c] [] pos) (iRng3 ta):=by
 intro pins s σ H R I h
 refine Call_ (ld_blt I hg hm boot_range (PyProof.Rows.callWith_type1 (thn (ha pos pins s σ H _ I h) fun us s1 xx126=>?_) (by rw [hs,hs2]) (by rw [hs2];rfl)))
 obtain ⟨vs,H1,I1,r1,q1⟩:=xx126
 obtain ⟨i,j,c,n,e,hr,q⟩:=q1
 subst e
 cases r1 with
 | cons r rr =>
  cases rr with
  | cons r' rr =>
   cases rr with
   | cons r2 rr =>
    cases rr
    obtain ⟨t,rfl⟩:=r
    obtain ⟨t',rfl⟩:=r'
    obtain ⟨t2,rfl⟩:=r2
    exact call_range_3 hr.nz (range_itS I1 hr.sm hr.n q) (.inl (PyProof.noPylong_small hr.cs))
def rngS (lo c:Int) (n:Nat):List PyData:=(List.range n).map fun (k:Nat) => .int (lo+(k:Int)*c)
theorem rngS_len (lo c:Int) (n:Nat):(rngS lo c n).length=n:=by simp [rngS]
theorem rngS_get {lo c:Int}{n i:Nat} (h:i<n):(rngS lo c n)[i]?=some (.int (lo+i*c)):=by simp [rngS,h]
theorem rngS_inv {lo c:Int}{n i:Nat}{d:PyData} (h:(rngS lo c n)[i]?=some d):i<n∧d = .int (lo+i*c):=by
 have hi:i<n:=by
  have:=(List.getElem?_eq_some_iff.mp h).1
  rwa [rngS_len] at this
 rw [rngS_get hi] at h
 exact ⟨hi,(Option.some.inj h).symm⟩
theorem itd_rngS {K:PySem.W.Frag}{F:Hp}{lo c:Int}{n:Nat}:ItD K (Its lo c n) F (rngS lo c n) where
 go:=fun i H s hi=>by rw [rngS_len] at hi;exact hi
 stop:=fun H s=>by rw [rngS_len];exact Nat.le_refl _
 yld:=fun i H x H' F1 s1 s2 hi hy=>by
  obtain ⟨rfl,rfl⟩:=hy
  rw [rngS_len] at hi
  exact ⟨_,F1,rngS_get hi,.refl s2,is_int _⟩
def wiR3 (Wa Wb Wc:WE):WF:=fun env Q=>Wa env fun x e1=>Wb e1 fun y e2=>Wc e2 fun z e=>match x,y,z with
 | .int i,.int j,.int c => ∃ n,Rng3 i j c n∧Q (rngS i c n) e
 | _,_,_=>False
theorem vi_range3 {a b c:Expr}{p pos:Pos}{Wa Wb Wc:WE} (hm:X.mg "range" = none) (ha:VE X a Wa) (hb:VE X b Wb) (hc:VE X c Wc) (hg:Gl X "range":=by rfl)
 (hs:starEach [a,b,c] X.env=[(false,eval a X.env),(false,eval b X.env),(false,eval c X.env)]:=by rfl) (hs2:starEach [b,c] X.env=[(false,eval b X.env),(false,eval c X.env)]:=by rfl)
 (hs3:starEach [a,b,c] X.env=(false,eval a X.env)::starEach [b,c] X.env:=by rfl) (hs4:starEach [b,c] X.env=(false,eval b X.env)::starEach [c] X.env:=by rfl) (hs5:starEach [c] X.env=(false,eval c X.env)::starEach [] X.env:=by rfl) :
 VI X tg (.Call (.Name "range" p) [a,b,c] [] pos) (wiR3 Wa Wb Wc) :=
 (pi_range3 hg hm (pa_cons (te:=liftE X.K Wa) ha (pa_cons (te:=liftE X.K Wb) hb (pa_cons (te:=liftE X.K Wc) hc pa_nil hs5) hs4) hs3) hs hs2).imp fun σ H R xx127=>by
  obtain ⟨M,env,F,Q,I,h,k⟩:=xx127
  refine ⟨M,env,F,_,I,h,fun d v F1 H1 e1 I1 s1 i1 h1=>⟨M,e1,F1,_,I1,h1,fun d2 v2 F2 H2 e2 I2 s2 i2 h2=>⟨M,e2,F2,_,I2,h2,fun d3 v3 F3 H3 e3 I3 s3 i3 h3=>?_⟩⟩⟩
  cases d with
  | int i=>cases d2 with
   | int j=>cases d3 with
    | int c =>
     obtain ⟨n,hr,hq⟩:=h3
     exact ⟨i,j,c,n,by rw [i1.int_inv,i2.int_inv,i3.int_inv],hr,k _ _ F3 H3 e3 I3 (s1.trans (s2.trans s3)) itd_rngS hq⟩
    | _=>exact False.elim h3
   | _=>exact False.elim h3
  | _=>exact False.elim h3
end
def offA (H:Hp) (a:Addr):Hp:=fun b=>if b=a then none else H b
section
variable {X:Cx}
end
section
variable {P:Program}{w:World}{K:PySem.W.Frag}{mg:Str→Option Value}{base:Heap}
end
end L2
namespace L2
open PySem PySem.Spec PyProof.Rows
section
variable {X:Cx}{elt target iter:Expr}{scope:Scope}{pos py spos:Pos}{caps own:List Str}{ix:List Nat}{Wi:WF}{G:WG}{We:WE}{i i0 j0:Nat}{y:Str}
end
end L2
namespace L2
open PySem PySem.Spec PyProof.Rows
theorem ObjOk.obj {P:Program}{w:World}{H:Hp}{h:Heap}{a:Addr}{o:HO} (x:ObjOk P w H h a o) : ∃ u,h.get? a=some u:=by
 cases o with
 | lst xs=>obtain ⟨_,_,_,_,e⟩:=x;exact ⟨_,e⟩
 | tup xs=>obtain ⟨_,_,_,ob,e,_⟩:=x;exact ⟨_,e⟩
 | dK kvs=>obtain ⟨_,_,_,_,o,_,_,e,_⟩:=x;exact ⟨_,e⟩
 | dT kvs=>obtain ⟨_,_,_,_,o,_,_,e,_⟩:=x;exact ⟨_,e⟩
 | set S n=>obtain ⟨o,_,_,_,e,_⟩:=x;exact ⟨_,e⟩
 | ins C dx fs=>obtain ⟨_,_,_,e,_⟩:=x;exact ⟨_,e⟩
 | own y=>exact x
 | xd fs=>obtain ⟨_,⟨_,_,_,e,_⟩,_⟩:=x;exact ⟨_,e⟩
 | rng lo hi=>obtain ⟨_,_,_,e⟩:=x;exact ⟨_,e⟩
 | frz ob u=>obtain ⟨e,_⟩:=x;exact ⟨_,e⟩
 | tbl ps=>exact ⟨_,(show h.get? a=some _ from x)⟩
 | met f y=>exact ⟨_,(show h.get? a=some _ from x)⟩
 | ext φ=>obtain ⟨_,e,_⟩:=x;exact e
def CX1 (P:Program) (w:World):CXT:=fun outer H s E e s' => ∃ (ea C:Addr) (a0:Value) (B:Heap) (H':Hp),e = .ref ea∧Heap.FlyingW B outer ea (.ref C) a0 s'.heap∧s'.os=s.os∧AllBare s'.gens ∧
 Un (frs outer) [] H H' s.heap s'.heap∧HOk P w H' s'.heap∧(∀ b u,H' b=some u → ∃ o,B.get? b=some o)∧(∀ b o,s.heap.get? b=some o→b ∉ frs outer → ∃ o',B.get? b=some o')∧E (.ref C) none H'
section
variable {X:Cx}{pins:List (Addr×Obj)}{σ:St}{H:Hp}{s:Shared}
theorem land (I:Inv X pins σ H s) (hex:X.ex=[]) (hst:X.stack=X.env::X.outer) (hfr:X.env.frame=some X.env.locals) {h'':Heap}
 (kB : ∀ b o,s.heap.get? b=some o→b ∉ frs X.stack→((∃ o',X.s₀.heap.get? b=some o') ∨ ∃ u,H b=some u)→h''.get? b=some o)
 (sl : ∀ b o,s.heap.get? b=some o→(∀ vs,o.data ≠ .fields vs) → ∃ sl,h''.get? b=some { o with slots:=sl }):Un X.fs [] X.H₀ H X.s₀.heap h''∧HOk X.prog X.w H h'':=by
  have fsOf : ∀ b,b ∈ frs X.stack→b=X.env.locals∨b ∈ X.fs:=fun b hb=>by
   rcases List.mem_cons.mp (I.stkSub b hb) with z|z
   ·exact .inl z
   ·exact .inr z
  have old : ∀ b o,X.s₀.heap.get? b=some o→b ∉ X.fs→b ∉ frs X.stack:=fun b o q n hb=>by
   rcases fsOf b hb with z|z
   ·exact absurd (Heap.lt_size q) (Nat.not_lt.mpr (z ▸ I.ok.above))
   ·exact n z
  have nx : ∀ b,b ∉ X.ex:=fun b=>by rw [hex];simp
  have frame : ∀ b ∈ X.fs,∃ o,s.heap.get? b=some o ∧ ∀ vs,o.data ≠ .fields vs:=fun b hb=>by
   have hb':b ∈ frs X.stack:=by
    rw [hst]
    unfold frs
    rw [List.filterMap_cons,hfr]
    exact List.mem_cons_of_mem _ hb
   obtain ⟨_,o,ho,hd⟩:=I.stack.mem hb'
   exact ⟨o,ho,hd⟩
  refine ⟨⟨fun b o q n hb _=>kB b o (I.base.keep b o q n hb (nx b)) (old b o q hb) (.inl ⟨o,q⟩),fun b o q n hb _=>?_,fun b o q n _=>I.base.free b o q n (nx b),fun b o q _=>?_,I.base.tups,I.base.frzs,I.base.tbls⟩,fun a u e=>?_⟩
  ·obtain ⟨s1,h1⟩:=I.base.slot b o q n hb (nx b)
   obtain ⟨o',ho',hd⟩:=frame b hb
   rw [h1] at ho';cases ho'
   obtain ⟨s2,h2⟩:=sl b _ h1 hd
   exact ⟨s2,h2⟩
  ·obtain ⟨o',h1⟩:=I.base.there b o q (nx b)
   by_cases hb:b ∈ X.fs
   ·obtain ⟨o2,ho2,hd⟩:=frame b hb
    obtain ⟨s2,h2⟩:=sl b _ ho2 hd
    exact ⟨_,h2⟩
   ·exact ⟨o',kB b o' h1 (old b o q hb) (.inl ⟨o,q⟩)⟩
  ·have nf : ∀ b v,H b=some v→b ∉ frs X.stack:=fun b v eb hb=>by rw [I.stkFree b hb] at eb;cases eb
   refine (I.hok a u e).stay (fun c ob hc z=>?_) (fun c z=>z) (fun c xs z=>z)
   rcases hc with hc|hc
   ·subst hc;exact kB _ _ z (nf _ _ e) (.inr ⟨_,e⟩)
   ·exact kB _ _ z (nf _ _ hc) (.inr ⟨_,hc⟩)
end
def Throws (X:Cx) (E:XK):Prop := ∀ (pins:List (Addr×Obj)) (σ:St) (H:Hp) (s:Shared) (h':Heap) (e C:Addr) (args:List Value),Inv X pins σ H s→Heap.MadeExcOf s.heap h' e (.ref C) args→E (.ref C) none H→X.xe (.ref e) { s with heap:=h' }
section
variable {P:Program}{w:World}{K:PySem.W.Frag}{mg:Str→Option Value}{base:Heap}{N:List Str}{qual:Str}{scope:Scope}{f:Addr}{cd:Value}{A:Around}{outer:List Env}{s:Shared}{H:Hp}{E:XK}
theorem throws_cx:Throws (cxOf (CX1 P w) P w K mg base N qual scope f cd A outer s H E) E:=by
 intro pins σ H1 s1 h' e C args I hx q
 have hin : ∀ env ∈ (cxOf (CX1 P w) P w K mg base N qual scope f cd A outer s H E).stack,∀ b,env.frame=some b→b ∈ frs (cxOf (CX1 P w) P w K mg base N qual scope f cd A outer s H E).stack:=fun env he b hb=>List.mem_filterMap.mpr ⟨env,he,hb⟩
 refine wpAny_leaves_madeW (base:=PySem.W.hideAll s1.heap (frs (cxOf (CX1 P w) P w K mg base N qual scope f cd A outer s H E).stack)) (h:=s1.heap) (s:={ s1 with heap:=h' }) I.ok.frames rfl (fun b o z=>PySem.W.of_hideAll _ z) (PySem.W.funFrames_hide I.stack hin) hx fun h'' t x1 x2 x3 x4=>?_
 have kB : ∀ b o,s1.heap.get? b=some o→b ∉ frs (cxOf (CX1 P w) P w K mg base N qual scope f cd A outer s H E).stack→h''.get? b=some o:=fun b o z n=>x1.1 b o (PySem.W.hideAll_get _ z n)
 obtain ⟨u,ok⟩:=land I rfl rfl rfl (fun b o z n _=>kB b o z n) (fun b o z d=>x4 b o (hx.keeps b o z) d)
 have nf : ∀ b v,H1 b=some v→b ∉ frs (cxOf (CX1 P w) P w K mg base N qual scope f cd A outer s H E).stack:=fun b v eb hb=>by rw [I.stkFree b hb] at eb;cases eb
 refine ⟨e,C,.ref t,_,H1,rfl,x1,I.os,I.bare,u,ok,fun b v eb=>?_,fun b o z n=>?_,q⟩
 ·obtain ⟨o,ho⟩:=(I.hok b v eb).obj
  exact ⟨o,PySem.W.hideAll_get _ ho (nf b v eb)⟩
 ·obtain ⟨o',ho'⟩:=I.base.there b o z (by simp [cxOf])
  refine ⟨o',PySem.W.hideAll_get _ ho' fun hb=>?_⟩
  rcases List.mem_cons.mp (I.stkSub b hb) with y|y
  ·exact absurd (Heap.lt_size z) (Nat.not_lt.mpr (y ▸ I.ok.above))
  ·exact n y
theorem passes_cx:Passes (CX1 P w) (cxOf (CX1 P w) P w K mg base N qual scope f cd A outer s H E) E:=by
 intro pins σ H1 s1 e s' I hx
 obtain ⟨ea,C,a0,B,H',rfl,fl,os,bare,u,ok,tB,pB,q⟩:=hx
 have I':Inv (cxOf (CX1 P w) P w K mg base N qual scope f cd A outer s H E) pins σ H' s':=I.call' os u ok bare fun b hb=>nomatch hb
 refine wpAny_leaves_onW I.ok.frames rfl fl fun h'' x1 x4=>?_
 have old : ∀ b o,s.heap.get? b=some o→b ∉ frs outer → ∃ o',B.get? b=some o':=fun b o z n=>by
  obtain ⟨o',ho'⟩:=I.base.there b o z (by simp [cxOf])
  refine pB b o' ho' fun hb=>?_
  rcases List.mem_cons.mp (I.stkSub b hb) with y|y
  ·exact absurd (Heap.lt_size z) (Nat.not_lt.mpr (y ▸ I.ok.above))
  ·exact n y
 have kB : ∀ b o,s'.heap.get? b=some o→b ∉ frs (cxOf (CX1 P w) P w K mg base N qual scope f cd A outer s H E).stack→((∃ o',s.heap.get? b=some o') ∨ ∃ v,H' b=some v)→h''.get? b=some o:=fun b o z n t=>by
  obtain ⟨o',ho'⟩ : ∃ o',B.get? b=some o':=by
   rcases t with ⟨o',t⟩|⟨v,t⟩
   ·exact old b o' t fun hb=>n (List.mem_cons_of_mem _ hb)
   ·exact tB b v t
  have:=fl.1 b o' ho'
  rw [z] at this;cases this
  exact x1.1 b _ ho'
 obtain ⟨u',ok'⟩:=land I' rfl rfl rfl kB (fun b o z d=>x4 b o z d)
 exact ⟨ea,C,a0,B,H',rfl,x1,I'.os,I'.bare,u',ok',tB,old,q⟩
end
end L2
namespace L2
open PySem PySem.Spec PyProof.Rows
def mroIn (K:PySem.W.Frag) (C:Addr):List Value:=match K.lookup C with
 | some ⟨_,_,.cls cd,_⟩=>cd.mro
 | _=>[]
theorem exc_obj {K:PySem.W.Frag}{h:Heap}{C:Addr}{bmB:List Value}{newId:String} (X:K.In h) (q:PySem.W.excIn K C bmB newId=true) :
 ∃ bm N nm qn bs hd sn sub ab col dd k0 k1 k2 k3 k5 mN,h.get? C=some (excClassObj nm qn C N bs bm hd sn sub ab col dd k0 k1 k2 k3 k5 newId)∧h.Ns N mN∧mN "__init__" = none∧OwnTail h bmB bm∧mroIn K C = .ref C::bm:=by
  unfold PySem.W.excIn at q
  split at q
  case h_2=>cases q
  rename_i dd c sl ho
  split at q
  case h_2=>cases q
  rename_i C' bm k0 k1 k2 k3 n k5 hm hs
  simp only [Bool.and_eq_true,beq_iff_eq,Bool.not_eq_true'] at q
  obtain ⟨⟨⟨⟨⟨e1,e2⟩,hdel⟩,ht⟩,hok⟩,hni⟩:=q
  have hC:=X _ _ ho
  have hs':sl = #[k0,k1,k2,k3,some (.builtin n),k5]:=Array.ext' hs
  cases c
  dsimp only at hm hdel hok hni
  subst e1 e2 hm hdel hs'
  exact ⟨bm,_,_,_,_,_,_,_,_,_,dd,k0,k1,k2,k3,k5,_,hC,.of_isNs (PySem.W.isNs_of_in X hok),PySem.W.nsMap_none_of_in X hok hni,PySem.W.tail_of_in X ht,by unfold mroIn;rw [ho]⟩
abbrev bmVE:List Value:=[.type "ValueError",.type "Exception",.type "BaseException",.type "object"]
def tRaise (C:Addr) (E:XK) (t:TA):TS:=fun _ σ H=>t σ H fun vs H'=>vs.length≤sizeLine∧E (.ref C) none H'
section
variable {X:Cx}{x:Str}{C:Addr}{E:XK}{e:Expr}{es:List Expr}{t:TA}{np cpos pos:Pos}
theorem ps_raise (hT:Throws X E) (hc:X.calm=true) (hg:Gl X x) (hm:X.mg x=some (.ref C)) (hq:PySem.W.excIn X.K C bmVE "ValueError.__new__" = true) (ha:PA X (e::es) t)
 (hdb:(x==("__debug__" : Str))=false:=by decide) (he:starEach (e::es) X.env=(false,eval e X.env)::starEach es X.env:=by rfl) (hpl:(backTo cpos (starEach es X.env)).any (·.1)=false:=by rfl) :
  PS X (.Raise (some (.Call (.Name x np) (e::es) [] cpos)) none pos) (tRaise C E t):=by
  intro pins s σ H D I h
  obtain ⟨bm,N,nm,qn,bs,hd,sn,sub,ab,col,dd,k0,k1,k2,k3,k5,mN,hC,hN,hni,T,_⟩:=exc_obj I.mod.kin hq
  refine wpAny_Raise_call_subU (C:=C) (nm:=nm) (q:=qn) (N:=N) (bs:=bs) (bm:=bm) (hdct:=hd) (sn:=sn) (sub:=sub) (ab:=ab) (col:=col) (dd:=dd) (k0:=k0) (k1:=k1) (k2:=k2) (k3:=k3) (k5:=k5)
   PySem.F.excBase_ValueError (by decide) PySem.F.excBase_ValueError (mN:=mN) (T.hasType PySem.F.excBase_ValueError.hasBase) (I.ok.hd hc) (by rw [he];show (false||(backTo cpos (starEach es X.env)).any (·.1))=false;rw [hpl];rfl) hni
   (ld_glob I hg hm ⟨rfl,?_⟩ hdb)
  have h1:=ha cpos pins s σ H _ I h
  rw [he] at h1 ⊢
  refine Calls.evalArgs_plain (thn h1 fun us s1 xx128=>?_)
  obtain ⟨vs,H1,I1,r,q⟩:=xx128
  exact ⟨rfl,r.length ▸ q.1,I1.bk _ _ hC,hN.keeps I1.bk,T.keeps I1.bk,fun h' ea hx=>hT pins σ H1 s1 h' ea C us I1 hx q.2⟩
end
end L2
namespace L2
open PySem PySem.Spec PyProof.Rows
section
variable {M:Model}{A:Around}{E:Value→Shared→Prop}{C N C' N':Addr}{nm nm' q q':Str}{bs bm bs' bm':List Value}
theorem excMatches_own {h:Heap}{g:Array GenState}{d:Drawn}{t:Nat}{os:OsState}{e:Addr}{oe:Obj}{Q:Bool→Shared→Prop}{hdct sn sub ab col dd k0 k1 k2 k3 k5 newId hdct' sn' sub' ab' col' dd' k0' k1' k2' k3' k5' newId'}
 (hC:h.get? C=some (excClassObj nm q C N bs bm hdct sn sub ab col dd k0 k1 k2 k3 k5 newId)) (hC':h.get? C'=some (excClassObj nm' q' C' N' bs' bm' hdct' sn' sub' ab' col' dd' k0' k1' k2' k3' k5' newId'))
 (he:h.get? e=some oe) (hcls:oe.cls = .ref C) (hbase:bm'.contains (.type "BaseException")=true) (b:Bool) (hb:(Value.ref C::bm).contains (.ref C')=b)
 (hq:Q b ⟨h,g,d,t,os⟩):wpAny M A (excMatches (.ref e) (.ref C')) Q E ⟨h,g,d,t,os⟩:=by
  have hcB:(Value.ref C'::bm').contains (.type "BaseException")=true:=by rw [List.contains_cons,hbase,Bool.or_true]
  have f:=tc_notTuple
  unfold excMatches
  repeat (first|(with_reducible refine wpAny_loadPart_at he ?_;rw [hcls])|with_reducible refine wpAny_loadPart_at hC' ?_|(with_reducible refine wpAny_isSubtype_exc hC' ?_;rw [hcB])|(with_reducible refine wpAny_isSubtype_exc hC ?_;rw [hb])|wp_step)
  cases b <;> (wp_walk;exact hq)
end
section
variable {X:Cx}{pins:List (Addr×Obj)}{σ:St}{H1 H2:Hp}{s1 s':Shared}{B h5:Heap}
theorem Inv.flown (I:Inv X pins σ H1 s1) (os:s'.os=s1.os) (bare:AllBare s'.gens) (u:Un (frs X.stack) [] H1 H2 s1.heap s'.heap) (ok:HOk X.prog X.w H2 s'.heap)
 (tB : ∀ b v,H2 b=some v → ∃ o,B.get? b=some o) (pB : ∀ b o,s1.heap.get? b=some o→b ∉ frs X.stack → ∃ o',B.get? b=some o') (fl:B.StaysIn s'.heap) (st:B.StaysIn h5) (up:s'.heap.UpToSlots h5) (hst : ∀ b ∈ X.fs,b ∈ frs X.stack) :
 Inv X pins σ H2 { s' with heap:=h5 }:=by
  obtain ⟨hh,g',d',t',o'⟩:=s'
  have e:o'=s1.os:=os
  subst e
  have inB : ∀ b o,B.get? b=some o→hh.get? b=some o:=fl
  have kB : ∀ b o,hh.get? b=some o→(∃ o',B.get? b=some o')→h5.get? b=some o:=fun b o z xx129=>by
   obtain ⟨o',t⟩:=xx129
   have:=inB b o' t
   rw [z] at this;cases this
   exact st b _ t
  have nofr : ∀ b,b ∈ frs X.stack → ∃ o,s1.heap.get? b=some o ∧ ∀ vs,o.data ≠ .fields vs:=fun b hb=>by
   obtain ⟨_,o,ho,hd⟩:=I.stack.mem hb
   exact ⟨o,ho,hd⟩
  have sl : ∀ b o,b ∈ frs X.stack→s1.heap.get? b=some o→H1 b=none → ∃ sl,h5.get? b=some { o with slots:=sl }:=fun b o hb z n=>by
   obtain ⟨o2,ho2,hd⟩:=nofr b hb
   rw [z] at ho2;cases ho2
   obtain ⟨x1,y1⟩:=u.any z n (by simp)
   obtain ⟨x2,y2⟩:=up b _ y1 hd
   exact ⟨x2,y2⟩
  show Inv X pins σ H2 { s1 with heap:=h5,gens:=g',drawn:=d',toks:=t' }
  refine Inv.step (s:=s1) (ch:=[]) I (fun b z=>nomatch z) (fun b o hL hb _ z n=>?_) (fun b o hL hb _ z n=>sl b o (hst b hb) z n) (fun b o _ z n=>u.free b o z n (by simp)) (fun b o _ z=>?_) u.tups u.frzs u.tbls (fun m hm=>?_) (fun b v eb=>?_) bare
  ·have nf:b ∉ frs X.stack:=fun hq=>(List.mem_cons.mp (I.stkSub b hq)).elim hL hb
   exact kB b o (u.keep b o z n nf (by simp)) (pB b o z nf)
  ·by_cases hq:b ∈ frs X.stack
   ·obtain ⟨x,y⟩:=sl b o hq z (I.stkFree b hq)
    exact ⟨_,y⟩
   ·obtain ⟨o',t⟩:=pB b o z hq
    exact ⟨o',st b o' t⟩
  ·obtain ⟨o,es,ep,ho,r⟩:=hm
   by_cases hq:X.env.locals ∈ frs X.stack
   ·obtain ⟨x,y⟩:=sl _ o hq ho I.free
    exact ⟨_,es,ep,y,r⟩
   ·exact ⟨o,es,ep,kB _ o (u.keep _ o ho I.free hq (by simp)) (pB _ o ho hq),r⟩
  ·refine (ok b v eb).stay (fun c ob hc z=>?_) (fun c z=>z) (fun c xs z=>z)
   rcases hc with hc|hc
   ·subst hc;exact kB _ _ z (tB _ _ eb)
   ·exact kB _ _ z (tB _ _ hc)
end
section
variable {X:Cx}{pins:List (Addr×Obj)}{σ:St}{H:Hp}{s:Shared}
theorem Inv.caught {C ea:Addr}{oe:Obj}{ws:Array Value} (I:Inv X pins σ H s) (hn:H ea=none) (he:s.heap.get? ea=some oe) (hc:oe.cls = .ref C) (hd:oe.data = .fields ws) (hpn : ∀ p ∈ X.pn++pins,p.1≠ea)
 (h0 : ∀ b o,X.s₀.heap.get? b=some o→b ∉ X.ex→b≠ea):Inv X pins σ (upd H ea (excO C ea)) s:=by
  have up : ∀ b,b≠ea→upd H ea (excO C ea) b=H b:=fun b hb=>by unfold upd;rw [if_neg hb]
  have neT : ∀ b v,H b=some v→upd H ea (excO C ea) b=some v:=fun b v e=>by
   rw [up b fun z=>by rw [z,hn] at e;cases e];exact e
  have nL:X.env.locals≠ea:=fun z=>by
   obtain ⟨m,⟨o,es,ep,ho,ho2,_⟩,_⟩:=I.loc
   rw [z,he] at ho;cases ho;rw [hd] at ho2;cases ho2
  have nC : ∀ x c,X.env.cells.lookup x=some c→c≠ea:=fun x c e z=>by
   obtain ⟨v,o,ho,ho2⟩:=I.cell x c e
   rw [z,he] at ho;cases ho;rw [hd] at ho2;cases ho2
  refine ⟨I.ok,I.os,I.bare,⟨I.base.keep,I.base.slot,fun b o e n hx=>?_,I.base.there,fun b xs e=>neT _ _ (I.base.tups b xs e),fun b o xs e=>neT _ _ (I.base.frzs b o xs e),fun b ps e=>?_⟩,I.loc,I.cell,?_,fun x c e=>?_,fun p hp=>?_,fun b v e=>?_,I.len⟩
  ·rw [up b (h0 b o e hx)];exact I.base.free b o e n hx
  ·obtain ⟨more,q,gm⟩:=I.base.tbls b ps e
   exact ⟨more,neT _ _ q,gm.mono fun b o u z=>neT _ _ z⟩
  ·rw [up _ nL];exact I.free
  ·rw [up _ (nC x c e)];exact I.freeC x c e
  ·obtain ⟨a1,a2,a3⟩:=I.pin p hp
   exact ⟨a1,(up _ (hpn p hp)).trans a2,a3⟩
  ·by_cases z:b=ea
   ·subst z
    have e':excO C b=v:=by unfold upd at e;rw [if_pos rfl] at e;exact Option.some.inj e
    subst e'
    exact ⟨⟨oe,he,hc⟩,⟨oe,he⟩,fun h1 h2 xx130 k=>by obtain ⟨o,q1,q2⟩:=xx130;exact ⟨o,k o q1,q2⟩⟩
   ·rw [up b z] at e
    exact (I.hok b v e).stay (fun c ob _ q=>q) (fun c q=>neT _ _ q) (fun c xs q=>neT _ _ q)
end
end L2
namespace L2
open PySem PySem.Spec PyProof.Rows
section
variable {X:Cx}{pins pins0:List (Addr×Obj)}{σ:St}{H:Hp}{s:Shared}
abbrev Cx.inX (X:Cx) (A':Around) (xe':Value→Shared→Prop):Cx:={ X with A:=A',calm:=false,xe:=xe' }
abbrev Cx.inT (X:Cx) (pn':List (Addr×Obj)) (xe':Value→Shared→Prop):Cx:={ X with pn:=pn',xe:=xe' }
theorem Inv.toX {A':Around}{xe':Value→Shared→Prop} (I:Inv X pins σ H s) (hA:A'.frames=X.A.frames):Inv (X.inX A' xe') pins σ H s :=
 ⟨⟨I.ok.mod,I.ok.kind,I.ok.glob,I.ok.blt,I.ok.above,I.ok.inj,I.ok.has,I.ok.cab,(fun z=>by cases z),hA.trans I.ok.frames,I.ok.stk,I.ok.exf,I.ok.bs,I.ok.bsz,I.ok.noex,I.ok.exfs,I.ok.funs,I.ok.frf⟩,
  I.os,I.bare,I.base,I.loc,I.cell,I.free,I.freeC,I.pin,I.hok,I.len⟩
theorem Inv.ofX {A':Around}{xe':Value→Shared→Prop} (ok:X.Ok) (I:Inv (X.inX A' xe') pins σ H s):Inv X pins σ H s :=
 ⟨ok,I.os,I.bare,I.base,I.loc,I.cell,I.free,I.freeC,I.pin,I.hok,I.len⟩
theorem Inv.toT {xe':Value→Shared→Prop} (I:Inv X pins0 σ H s):Inv (X.inT (X.pn++pins0) xe') [] σ H s :=
 ⟨⟨I.ok.mod,I.ok.kind,I.ok.glob,I.ok.blt,I.ok.above,I.ok.inj,I.ok.has,I.ok.cab,I.ok.hd,I.ok.frames,I.ok.stk,I.ok.exf,I.ok.bs,I.ok.bsz,I.ok.noex,I.ok.exfs,I.ok.funs,I.ok.frf⟩,
  I.os,I.bare,I.base,I.loc,I.cell,I.free,I.freeC,fun p hp=>I.pin p (by simpa using hp),I.hok,I.len⟩
theorem Inv.ofT {xe':Value→Shared→Prop} (ok:X.Ok) (I:Inv (X.inT (X.pn++pins0) xe') pins σ H s):Inv X pins0 σ H s :=
 ⟨ok,I.os,I.bare,I.base,I.loc,I.cell,I.free,I.freeC,fun p hp=>I.pin p (List.mem_append_left _ hp),I.hok,I.len⟩
theorem goes_ok {M:Model}{A:Around}{E:Value→Shared→Prop}{i:Nat}{n:Str}{pos:Pos}{Q:Unit→Shared→Prop} (I:Inv X pins σ H s) (hN:X.N.Nodup) (hi:X.N[i]?=some n) (hl:X.env.scope.names.lookup n=some .local)
 (h : ∀ s',Inv X pins (σ.set i none) H s'→Q () s'):wpAny M A (do bindName X.env n .none;unbindBehindTheSuite X.env n pos) Q E s:=by
  obtain ⟨m,hn,hl'⟩:=id I.loc
  have hcls:(X.env.scope.kind == .class||(X.env.scope.kind == .module&&X.env.locals != X.env.globals))=false:=by rw [I.ok.kind];rfl
  refine wpAny_nameGoes_keeps hl hn hcls fun h' v hn' hs=>h _ ?_
  have lt : ∀ b o,X.s₀.heap.get? b=some o→b≠X.env.locals:=fun b o e=>Nat.ne_of_lt (Nat.lt_of_lt_of_le (Heap.lt_size e) I.ok.above)
  refine ⟨I.ok,I.os,I.bare,⟨fun b o e a c d=>(hs.2 b (lt b o e)).trans (I.base.keep b o e a c d),fun b o e a c d=>?_,I.base.free,fun b o e d=>?_,I.base.tups,I.base.frzs,I.base.tbls⟩,⟨_,hn',fun j y v' e1 e2 e3=>?_⟩,fun y c e=>?_,I.free,I.freeC,fun p hp=>?_,fun b ob e=>?_,by simpa using I.len⟩
  ·obtain ⟨sl,e1⟩:=I.base.slot b o e a c d
   exact ⟨sl,(hs.2 b (lt b o e)).trans e1⟩
  ·obtain ⟨o',e1⟩:=I.base.there b o e d
   exact ⟨o',(hs.2 b (lt b o e)).trans e1⟩
  ·have hj:j≠i:=fun z=>by
    subst z
    rw [List.getElem?_set] at e2
    split at e2
    ·split at e2 <;> cases e2
    ·exact absurd rfl (by assumption)
   rw [List.getElem?_set_ne (Ne.symm hj)] at e2
   obtain ⟨u',r',q⟩:=hl' j y v' e1 e2 e3
   refine ⟨u',r',?_⟩
   rcases q with ⟨k,e⟩|⟨k,c,e,z⟩
   ·have:y≠n:=fun e=>hj (nodup_ix hN e1 (e ▸ hi))
    exact .inl ⟨k,by simp [this,e]⟩
   ·exact .inr ⟨k,c,e,z.sameBut hs (I.cne y c e)⟩
  ·obtain ⟨w',z⟩:=I.cell y c e
   exact ⟨w',z.sameBut hs (I.cne y c e)⟩
  ·obtain ⟨e,n,ne,nf,d⟩:=I.pin p hp
   exact ⟨(hs.2 p.1 ne).trans e,n,ne,nf,d⟩
  ·refine (I.hok b ob e).stay (fun c w' hc q=>(hs.2 c ?_).trans q) (fun _ q=>q) fun _ _ q=>q
   rintro rfl
   rcases hc with rfl|hc
   ·rw [I.free] at e;cases e
   ·rw [I.free] at hc;cases hc
end
def PassesAt (X:Cx) (σ:St) (E:XK):Prop := ∀ (pins:List (Addr×Obj)) (H:Hp) (s:Shared) (e:Value) (s':Shared),Inv X pins σ H s→CX1 X.prog X.w X.stack H s E e s'→X.xe e s'
def Under (K:PySem.W.Frag) (C C':Addr):Prop:=PySem.W.excIn K C bmVE "ValueError.__new__" = true∧(mroIn K C).contains (.ref C')=true
def tCatch (K:PySem.W.Frag) (C':Addr) (i:Nat) (ts:TS) (D:Ends):St→XK:=fun σ c _ H => ∃ C,c = .ref C∧Under K C C' ∧ ∀ ea,H ea=none →
 ts { nx:=fun σ2 H3=>D.nx (σ2.set i none) H3,rt:=D.rt,bk:=fun σ2 H3=>D.bk (σ2.set i none) H3,ct:=fun σ2 H3=>D.ct (σ2.set i none) H3 } (σ.set i (some (.ref ea))) (upd H ea (excO C ea))
def tTry (K:PySem.W.Frag) (C':Addr) (i:Nat) (tb:(St→XK)→TS) (ts:TS):TS:=fun D σ H=>tb (tCatch K C' i ts D) D σ H
section
variable {X:Cx}{body suite:List Stmt}{b₀:Stmt}{x n:Str}{np hpos pos:Pos}{C':Addr}{i:Nat}{tb:(St→XK)→TS}{ts:TS}
theorem ps_try (hst:X.stack=X.env::X.outer) (hfr:X.env.frame=some X.env.locals) (hN:X.N.Nodup) (hi:X.N[i]?=some n) (hl:X.env.scope.names.lookup n=some .local) (hg:Gl X x) (hm:X.mg x=some (.ref C'))
 (hq:PySem.W.excIn X.K C' bmVE "ValueError.__new__" = true) (hb : ∀ pn xe Ex,(∀ σ,PassesAt (X.inT pn xe) σ (Ex σ))→PSs (X.inT pn xe) body (tb Ex)) (hs : ∀ A xe,PSs (X.inX A xe) (b₀::suite) ts) (hd:(x==("__debug__" : Str))=false:=by decide) :
  PS X (.Try body [.ExceptHandler (some (.Name x np)) (some n) (b₀::suite) hpos] [] [] pos) (tTry X.K C' i tb ts):=by
  intro pins s σ H D I h
  have ok:=I.ok
  refine wpAny_Try_except (wpAny_mono (hb (X.pn++pins) (fun e s' => ∃ σ1 H1 s1,Inv X pins σ1 H1 s1∧CX1 X.prog X.w X.stack H1 s1 (tCatch X.K C' i ts D σ1) e s') (tCatch X.K C' i ts D) (fun σ1 pins1 H1 s1 e s' I1 c=>⟨σ1,H1,s1,I1.ofT ok,c⟩) [] s σ H D I.toT h) (fun f s1 q=>?_) fun e s' q=>?_)
  ·cases f with
   | next=>obtain ⟨σ',H',I',q⟩:=q;exact wpAny_pure ⟨σ',H',I'.ofT ok,q⟩
   | brk=>obtain ⟨σ',H',I',q⟩:=q;exact ⟨σ',H',I'.ofT ok,q⟩
   | cont=>obtain ⟨σ',H',I',q⟩:=q;exact ⟨σ',H',I'.ofT ok,q⟩
   | ret u=>obtain ⟨v,σ',H',I',r,q⟩:=q;exact ⟨v,σ',H',I'.ofT ok,r,q⟩
  obtain ⟨σ1,H1,s1,I1,ea,C,a0,B,H2,rfl,fl,os,bare,u,okH,tB,pB,C2,e2,⟨q1,q2⟩,q3⟩:=q
  cases e2
  have sub : ∀ b ∈ X.fs,b ∈ frs X.stack:=fun b hb=>by
   rw [hst];unfold frs;rw [List.filterMap_cons,hfr];exact List.mem_cons_of_mem _ hb
  have hn2:H2 ea=none:=by
   rcases z:H2 ea with _|v
   ·rfl
   ·obtain ⟨o,ho⟩:=tB _ _ z
    rw [fl.2.1] at ho;cases ho
  refine wpAny_looks_onW (ok.frames.trans (by rw [hst])) hfr (hst ▸ fl) fun h4 held4 up4=>?_
  refine wpAny_landsW held4 fun h5 fl5 up5=>?_
  have I5:Inv X pins σ1 H2 { s' with heap:=h5 }:=I1.flown os bare u okH tB pB fl.1 fl5.1 (up4.trans up5) sub
  obtain ⟨ob,hob,hobc⟩:=fl5.there
  obtain ⟨bm,N,nm,qn,bs,hd1,sn,sb,ab,col,dd,k0,k1,k2,k3,k5,mN,hC,hNs,hni,T,hmr⟩:=exc_obj I5.kIn q1
  obtain ⟨bm',N',nm',qn',bs',hd1',sn',sb',ab',col',dd',k0',k1',k2',k3',k5',mN',hC',hNs',hni',T',hmr'⟩:=exc_obj I5.kIn hq
  refine wpAny_handleBy_cons (codeAny_handlers_test (ld_glob (X:=X.inX (X.A.mark (some (.ref ea))) X.xe) (I5.toX rfl) hg hm ?_ hd)) (by intro q;cases q)
  refine excMatches_own hC hC' hob hobc (T'.hasType PySem.F.excBase_ValueError.hasBase) true (hmr ▸ q2) (codeAny_handlers_suite_as ?_)
  refine lands_againW fl5 fun h6 fl6 up6=>?_
  have I6:Inv X pins σ1 H2 { s' with heap:=h6 }:=I1.flown os bare u okH tB pB fl.1 fl6.1 ((up4.trans up5).trans up6) sub
  obtain ⟨oe,ws,hoe,hoec,hoed,hoe0⟩:=fl6.first
  have notB : ∀ b o,B.get? b=some o→b≠ea:=fun b o z y=>by rw [y,fl.2.1] at z;cases z
  have notF : ∀ b,b ∈ frs X.stack→b≠ea:=fun b hb y=>by
   obtain ⟨_,o,ho,hd⟩:=I6.stack.mem hb
   rw [y,hoe] at ho;cases ho
   exact hd _ hoed
  have not1 : ∀ b o,s1.heap.get? b=some o→b≠ea:=fun b o z=>by
   by_cases hb:b ∈ frs X.stack
   ·exact notF b hb
   ·obtain ⟨o',t⟩:=pB b o z hb
    exact notB b o' t
  have I7:Inv X pins σ1 (upd H2 ea (excO C ea)) { s' with heap:=h6 }:=I6.caught hn2 hoe hoec hoed (fun p hp=>not1 _ _ (I1.pin p hp).1) fun b o z hx=>by
   obtain ⟨o',ho'⟩:=I1.base.there b o z hx
   exact not1 b o' ho'
  refine store_ok (X:=X) I7 hN hi (.inl hl) (show RelV (.ref ea) (.ref ea) from rfl) (fun s8 I8=>?_) (.inr hl)
  refine wpAny_mono (hs (X.A.mark (some (.ref ea))) _ pins s8 _ _ _ (I8.toX rfl) (q3 ea hn2)) (fun f s9 q=>?_) fun _ _ z=>z
  cases f with
  | next=>obtain ⟨σ',H',I',q⟩:=q;exact goes_ok (X:=X) (I'.ofX ok) hN hi hl fun s' I''=>⟨_,H',I'',q⟩
  | brk=>obtain ⟨σ',H',I',q⟩:=q;exact goes_ok (X:=X) (I'.ofX ok) hN hi hl fun s' I''=>⟨_,H',I'',q⟩
  | cont=>obtain ⟨σ',H',I',q⟩:=q;exact goes_ok (X:=X) (I'.ofX ok) hN hi hl fun s' I''=>⟨_,H',I'',q⟩
  | ret u=>obtain ⟨v,σ',H',I',r,q⟩:=q;exact goes_ok (X:=X) (I'.ofX ok) hN hi hl fun s' I''=>⟨v,_,H',I'',r,q⟩
end
end L2
namespace L2
open PySem PySem.Spec PyProof.Rows
section
variable {K:PySem.W.Frag}{M:Frm}{F H:Hp}{env:Sto}{σ:St}
theorem EnvOk.sets (I:EnvOk K M F H env σ) {i:Nat}{s:Sl}{v:Option V} (m:s.mut=false) (h:SlotOk K M F H s v):EnvOk K M F H (env.set i s) (σ.set i v) where
 len:=by rw [List.length_set,List.length_set];exact I.len
 slot:=fun j=>by
  rw [gS_set,vS_set,I.len]
  split
  ·exact h
  ·exact I.slot j
 dis:=fun j k a hjk h1 h2 h3 h4=>by
  rw [gS_set] at h1 h2
  rw [vS_set] at h3 h4
  rw [I.len] at h1 h2
  split at h1
  ·rw [m] at h1;cases h1
  ·rename_i z1
   split at h2
   ·rw [m] at h2;cases h2
   ·rename_i z2
    rw [if_neg z1] at h3
    rw [if_neg z2] at h4
    exact I.dis j k a hjk h1 h2 h3 h4
 f0:=I.f0
 fe:=I.fe
 fh:=I.fh
 bh:=I.bh
 new:=I.new
 dom:=I.dom
theorem EnvOk.caught (I:EnvOk K M F H env σ) {i:Nat}{C ea:Addr} (h:H ea=none):EnvOk K M (upd F ea (excO C ea)) (upd H ea (excO C ea)) (env.set i (.exc C)) (σ.set i (some (.ref ea)))∧Same F (upd F ea (excO C ea)):=by
 have hf:F ea=none:=same_none I.fh h
 have g:Go F H (upd F ea (excO C ea)) (upd H ea (excO C ea)):=⟨same_new hf,same_new h,fun b o e=>by
  by_cases z:b=ea
  ·subst z;rw [upd_same] at e ⊢;exact .of e
  ·rw [upd_ne z] at e ⊢;exact I.fh b o e,fun b o e=>by
  by_cases z:b=ea
  ·subst z;exact .inr h
  ·rw [upd_ne z] at e;exact .inl e⟩
 exact ⟨(I.go g).sets rfl ⟨ea,rfl,upd_same⟩,g.f⟩
end
abbrev WX:=Addr→Sto→Prop
def ExOk (K:PySem.W.Frag) (M:Frm) (F:Hp) (Wx:WX) (Ex:St→XK):Prop := ∀ C env' F' H' σ',EnvOk K M F' H' env' σ'→Same F F'→Wx C env'→Ex σ' (.ref C) none H'
theorem ExOk.mono {K:PySem.W.Frag}{M:Frm}{F F':Hp}{Wx:WX}{Ex:St→XK} (h:ExOk K M F Wx Ex) (s:Same F F'):ExOk K M F' Wx Ex:=fun C e f g i j k=>h C e f g i j (s.trans k)
def liftEX (K:PySem.W.Frag) (Ex:St→XK) (W:WX→WE):TE:=fun σ H R => ∃ M env F Wx Q,EnvOk K M F H env σ∧W Wx env Q∧ExOk K M F Wx Ex ∧ ∀ d v F' H' env',EnvOk K M F' H' env' σ→Same F F'→Is K F' d v→Q d env'→R v H'
def liftSX (K:PySem.W.Frag) (Ex:St→XK) (W:WX→WS):TS:=fun D σ H => ∃ M env F Wx DD,EnvOk K M F H env σ∧W Wx DD env∧ExOk K M F Wx Ex∧EndsOk K M F DD D
def VEX (X:Cx) (Ex:St→XK) (e:Expr) (W:WX→WE):Prop:=PE X e (liftEX X.K Ex W)
def VSX (X:Cx) (Ex:St→XK) (st:Stmt) (W:WX→WS):Prop:=PS X st (liftSX X.K Ex W)
def VSsX (X:Cx) (Ex:St→XK) (st:List Stmt) (W:WX→WS):Prop:=PSs X st (liftSX X.K Ex W)
abbrev DE:=List PyData→(PyData→Prop)→(Addr→Prop)→Prop
def XSp (K:PySem.W.Frag) (sp:DE):Sp:=fun vs H Q E => ∃ F ds q e,Same F H∧Iss K F ds vs∧sp ds q e∧(∀ d v F' H',Go F H F' H'→Is K F' d v→q d→Q v H') ∧ ∀ C F' H',Go F H F' H'→e C→E (.ref C) none H'
structure OkX (P:Program) (w:World) (K:PySem.W.Frag) (mg:Str→Option Value) (base:Heap) (x:Str) (k:Nat) (ps:List Str) (sp:Sp):Prop where
 ex : ∃ (f:Addr) (fd:FuncData),FnOk P w K mg base (CX1 P w) k f fd ps sp∧mg x=some (.ref f)∧PySem.W.keepIn K (.ref f)=true∧Binds K fd ps []
structure OkXC (X:Cx) (x:Str) (k:Nat) (ps:List Str) (sp:Sp):Prop where
 ex : ∃ sp0,OkX X.prog X.w X.K X.mg X.base x k ps sp0 ∧ ∀ (pins:List (Addr×Obj)) (σ:St) (H:Hp) (s:Shared) (vs:List V) (Q:VK) (E:XK),Inv X pins σ H s→sp vs H Q E→sp0 vs H Q E
theorem OkX.c {X:Cx}{x:Str}{k:Nat}{ps:List Str}{sp:Sp} (O:OkX X.prog X.w X.K X.mg X.base x k ps sp):OkXC X x k ps sp:=⟨sp,O,fun _ _ _ _ _ _ _ _ h=>h⟩
section
variable {X:Cx}{Ex:St→XK}{x:Str}{k:Nat}{ps:List Str}{sp:DE}{e c:Expr}{es:List Expr}{p pos:Pos}{Wr:WF}{st:Stmt}{rest A B:List Stmt}{Tc:WT}{W:WX→WE}{Wt Wu:WX→WS}{W0:WS}
theorem run_fnX {pins:List (Addr×Obj)}{σ:St}{H:Hp}{s:Shared}{Q:VK}{f:Addr}{fd:FuncData}{us:List Value}{vs:List V}{sp:Sp}{E:XK} (F:FnOk X.prog X.w X.K X.mg X.base (CX1 X.prog X.w) k f fd ps sp) (hr:Room k X.A) (hb:Binds X.K fd ps []) (hx:PassesAt X σ E)
 (I:Inv X pins σ H s) (r:Vals vs us) (h:sp vs H Q E):wpAny (model X.prog X.w) X.A (call (.ref f) us) (EP X pins σ Q) X.xe s:=by
  have hl:us.length=ps.length:=by rw [← r.length];exact F.len _ _ _ _ h
  have hl':(us++[]).length=ps.length:=by rw [List.append_nil];exact hl
  have hb':=hb s us I.kIn hl'
  rw [List.append_nil] at hb'
  refine wpAny_call (codeAny_mono (F.run X.A X.stack s H ⟨us,[]⟩ us vs Q E hr I.env0 hb' r h) fun r s' hq=>?_)
  cases r with
  | error e=>exact hx pins H s e s' I hq
  | ok fl =>
   cases fl with
   | ret u=>exact I.after hq
   | next=>exact False.elim hq
   | brk=>exact False.elim hq
   | cont=>exact False.elim hq
def wCallX (sp:DE) (Wr:WF):WX→WE:=fun Wx env Q=>Wr env fun ds e=>sp ds (fun d=>Q d e) fun C=>Wx C e
theorem vex_fn (hx : ∀ σ,PassesAt X σ (Ex σ)) (O:OkXC X x k ps (XSp X.K sp)) (hr:Room k X.A) (ha:VA X (e::es) Wr) (hg:Gl X x:=by rfl) (hdb:(x==("__debug__" : Str))=false:=by decide)
 (he:starEach (e::es) X.env=(false,eval e X.env)::starEach es X.env:=by rfl) (hpl:(backTo pos (starEach es X.env)).any (·.1)=false:=by rfl):VEX X Ex (.Call (.Name x p) (e::es) [] pos) (wCallX sp Wr):=by
 obtain ⟨sp0,⟨f,fd,F,hm,hk,hb⟩,up⟩:=O.ex
 rintro pins s σ H Q I ⟨M,env,F0,Wx,q,J,h,hex,kk⟩
 refine wpAny_Call_Name_kw (ld_glob I hg hm ?_ hdb)
 refine PySem.W.callWith_K (h₀:=X.base) I.ok.mod.kin hk (thn (ha pos pins s σ H (fun vs H1=>XSp X.K sp vs H1 Q (Ex σ)) I ⟨M,env,F0,_,J,h,fun ds vs F1 H1 e1 I1 s1 i1 h1=>?_⟩) fun us s1 ⟨vs,H1,I1,r,q⟩=>⟨I1.kIn,?_⟩) he hpl
 ·exact ⟨F1,ds,_,_,I1.fh,i1,h1,fun d v F2 H2 g i2 q=>kk d v F2 H2 e1 (I1.go g) (s1.trans g.f) i2 q,fun C F2 H2 g q=>hex C e1 F2 H2 σ (I1.go g) (s1.trans g.f) q⟩
 ·exact run_fnX F hr hb (hx σ) I1 r (up _ _ _ _ _ _ _ I1 q)
theorem vssx_of (h:VSs X rest W0):VSsX X Ex rest (fun _=>W0):=PSs.imp h fun D σ H xx132=>by obtain ⟨M,env,F,Wx,DD,I,h,hx,k⟩:=xx132;exact ⟨M,env,F,DD,I,h,k⟩
theorem vsx_expr (he:VEX X Ex e W) (hs:swapsWith e none pos.line X.env=pure false:=by rfl):VSX X Ex (.Expr e pos) (fun Wx=>wDrop (W Wx)):=(ps_expr he hs).imp fun D σ H xx133=>by
 obtain ⟨M,env,F,Wx,DD,I,h,hx,k⟩:=xx133
 exact ⟨M,env,F,Wx,_,I,h,hx,fun d v F1 H1 e1 I1 s1 i1 h1=>k.nx e1 F1 H1 σ I1 s1 h1⟩
theorem vsx_ret (he:VEX X Ex e W):VSX X Ex (.Return (some e) pos) (fun Wx=>wRet (W Wx)):=(ps_ret he).imp fun D σ H xx134=>by
 obtain ⟨M,env,F,Wx,DD,I,h,hx,k⟩:=xx134
 exact ⟨M,env,F,Wx,_,I,h,hx,fun d v F1 H1 e1 I1 s1 i1 h1=>k.rt (.val d) v e1 F1 H1 σ I1 s1 i1 h1⟩
theorem vsx_if (hc:VT X c Tc) (ha:VSsX X Ex A Wt) (hb:VSsX X Ex B Wu):VSX X Ex (.If c A B pos) (fun Wx=>wIf Tc (Wt Wx) (Wu Wx)):=(ps_if hc ha hb).imp fun D σ H xx135=>by
 obtain ⟨M,env,F,Wx,DD,I,h,hx,k⟩:=xx135
 refine ⟨M,env,F,_,I,h,fun x F1 H1 e1 I1 s1 h1=>?_⟩
 cases x with
 | true=>exact iteT ⟨M,e1,F1,Wx,DD,I1,h1,hx.mono s1,k.mono s1⟩
 | false=>exact iteF ⟨M,e1,F1,Wx,DD,I1,h1,hx.mono s1,k.mono s1⟩
theorem vssx_cons (h1:VSX X Ex st Wt) (h2:VSsX X Ex rest Wu):VSsX X Ex (st::rest) (fun Wx=>wSeq (Wt Wx) (Wu Wx)):=(pss_cons h1 h2).imp fun D σ H xx136=>by
 obtain ⟨M,env,F,Wx,DD,I,h,hx,k⟩:=xx136
 exact ⟨M,env,F,Wx,{ DD with nx:=Wu Wx DD },I,h,hx,fun e' F' H' σ' I' s' h'=>⟨M,e',F',Wx,DD,I',h',hx.mono s',k.mono s'⟩,k.rt,k.bk,k.ct⟩
end
end L2
namespace L2
open PySem PySem.Spec PyProof.Rows
section
variable {X:Cx}{Ex:St→XK}{E:XK}{x y n:Str}{k i j:Nat}{ps:List Str}{sp:DE}{e:Expr}{es:List Expr}{p np cpos hpos pos pos':Pos}{Wr:WF}{st b₀:Stmt}{body suite:List Stmt}{C C':Addr}{Wb:WX→WS}{Ws:WS}
def wRaise (C:Addr) (Wr:WF):WX→WS:=fun Wx _ env=>Wr env fun ds e=>ds.length≤sizeLine∧Wx C e
theorem vsx_raise (hT:Throws X E) (hc:X.calm=true) (hm:X.mg x=some (.ref C)) (hq:PySem.W.excIn X.K C bmVE "ValueError.__new__" = true) (ha:VA X (e::es) Wr) (hg:Gl X x:=by rfl)
 (hdb:(x==("__debug__" : Str))=false:=by decide) (he:starEach (e::es) X.env=(false,eval e X.env)::starEach es X.env:=by rfl) (hpl:(backTo cpos (starEach es X.env)).any (·.1)=false:=by rfl) :
 VSX X (fun _=>E) (.Raise (some (.Call (.Name x np) (e::es) [] cpos)) none pos) (wRaise C Wr):=(ps_raise hT hc hg hm hq ha hdb he hpl).imp fun D σ H xx137=>by
 obtain ⟨M,env,F,Wx,DD,I,h,hx,k⟩:=xx137
 exact ⟨M,env,F,_,I,h,fun ds vs F1 H1 e1 I1 s1 i1 h1=>⟨by rw [i1.len];exact h1.1,hx C e1 F1 H1 σ I1 s1 h1.2⟩⟩
def wTry (K:PySem.W.Frag) (C':Addr) (i:Nat) (Wb:WX→WS) (Ws:WS):WS:=fun D env=>Wb (fun C e=>Under K C C' ∧
 Ws { nx:=fun e'=>D.nx (e'.set i .non),rt:=fun r e'=>D.rt r (e'.set i .non),bk:=fun e'=>D.bk (e'.set i .non),ct:=fun e'=>D.ct (e'.set i .non) } (e.set i (.exc C))) D env
theorem vs_try (hst:X.stack=X.env::X.outer) (hfr:X.env.frame=some X.env.locals) (hN:X.N.Nodup) (hm:X.mg x=some (.ref C')) (hq:PySem.W.excIn X.K C' bmVE "ValueError.__new__" = true)
 (hb : ∀ pn xe Ex,(∀ σ,PassesAt (X.inT pn xe) σ (Ex σ))→VSsX (X.inT pn xe) Ex body Wb) (hs : ∀ A xe,VSs (X.inX A xe) (b₀::suite) Ws)
 (hi:X.N[i]?=some n:=by rfl) (hl:X.env.scope.names.lookup n=some .local:=by rfl) (hg:Gl X x:=by rfl) (hd:(x==("__debug__" : Str))=false:=by decide) :
  VS X (.Try body [.ExceptHandler (some (.Name x np)) (some n) (b₀::suite) hpos] [] [] pos) (wTry X.K C' i Wb Ws) :=
  PS.imp (ps_try (tb:=fun Ex=>liftSX X.K Ex Wb) (ts:=liftS X.K Ws) hst hfr hN hi hl hg hm hq hb hs hd) fun D σ H xx139=>by
   obtain ⟨M,env,F,DD,I,h,k⟩:=xx139
   refine ⟨M,env,F,_,DD,I,h,fun C env' F' H' σ' I' s' ⟨u,hw⟩=>⟨C,rfl,u,fun ea hea=>?_⟩,k⟩
   obtain ⟨J,s2⟩:=I'.caught (i:=i) (C:=C) hea
   have go : ∀ {env2 F2 H2 σ2},EnvOk X.K M F2 H2 env2 σ2→EnvOk X.K M F2 H2 (env2.set i .non) (σ2.set i none):=fun I2=>I2.sets rfl trivial
   exact ⟨M,_,_,_,J,hw,fun e3 F3 H3 σ3 I3 s3 q3=>k.nx _ F3 H3 _ (go I3) (s'.trans (s2.trans s3)) q3,fun r v e3 F3 H3 σ3 I3 s3 r3 q3=>k.rt r v _ F3 H3 _ (go I3) (s'.trans (s2.trans s3)) r3 q3,
    fun e3 F3 H3 σ3 I3 s3 q3=>k.bk _ F3 H3 _ (go I3) (s'.trans (s2.trans s3)) q3,fun e3 F3 H3 σ3 I3 s3 q3=>k.ct _ F3 H3 _ (go I3) (s'.trans (s2.trans s3)) q3⟩
def wSetE (i j:Nat):WS:=fun D env=>match gS env j with | .exc C=>D.nx (env.set i (.exc C))|_=>False
theorem vs_setE (j:Nat) (hN:X.N.Nodup) (hj:X.N[j]?=some y:=by rfl) (hv:Vis X.env.scope y:=by first|exact Or.inl rfl|exact Or.inr (Or.inl rfl)|exact Or.inr (Or.inr rfl)) (hi:X.N[i]?=some x:=by rfl)
 (hx:Loc X.env.scope x:=by first|exact Or.inl rfl|exact Or.inr rfl) (hd:(y==("__debug__" : Str))=false:=by decide) (hcd:(y==("__classdict__" : Str))=false:=by decide)
 (hs:swapsWith (.Name y p) (some (.Name x pos')) pos.line X.env=pure false:=by rfl) (hf:X.fn x=true∨X.env.scope.names.lookup x=some .local:=by first|exact .inl rfl|exact .inr rfl) :
 VS X (.Assign [.Name x pos'] (.Name y p) pos) (wSetE i j):=PS.imp (ps_set hN hi hx (pe_var hj hv hd hcd) hs hf) fun D σ H xx140=>by
 obtain ⟨M,env,F,DD,I,h,k⟩:=xx140
 have S:=I.slot j
 unfold wSetE at h
 cases q:gS env j with
 | exc C =>
  rw [q] at S h
  obtain ⟨ea,e,z⟩:=S
  exact ⟨_,vS_some e,k.nx _ F H _ (I.sets (i:=i) (s :=.exc C) rfl ⟨ea,rfl,z⟩) (.refl _) h⟩
 | non=>rw [q] at h;exact h.elim
 | obj a0 C nm fs=>rw [q] at h;exact h.elim
 | val d=>rw [q] at h;exact h.elim
 | own ds=>rw [q] at h;exact h.elim
 | pen ds=>rw [q] at h;exact h.elim
 | new d=>rw [q] at h;exact h.elim
end
section
variable {P:Program}{w:World}{K:PySem.W.Frag}{mg:Str→Option Value}{base:Heap}
theorem Def.vokX {x:Str}{st:Stmt}{N ps:List Str}{k:Nat}{sp:DE} (F:Def K mg x st ps) (S:FnScope N ps (defScope st)) (len : ∀ ds q e,sp ds q e→ds.length=ps.length)
 (hbody : ∀ (f:Addr) (cdv:Value) (A:Around) (outer:List Env) (s:Shared) (H:Hp) (E:XK),Room k (A.deeper (envOfC x (defScope st) s.heap.objs.size f cdv)) →
 (∀ σ,PassesAt (cxOf (CX1 P w) P w K mg base N x (defScope st) f cdv A outer s H E) σ E)→Throws (cxOf (CX1 P w) P w K mg base N x (defScope st) f cdv A outer s H E) E → ∀ ds q e,sp ds q e →
 ∃ W,VSsX (cxOf (CX1 P w) P w K mg base N x (defScope st) f cdv A outer s H E) (fun _=>E) (defBody st) W∧W (fun C _=>e C) { nx:=fun _=>q .none,rt:=fun r _=>q r.data } (startE N ds)):OkX P w K mg base x (k+1) ps (XSp K sp):=by
  obtain ⟨f,fd,Fn,hm,hb⟩:=F.ex
  refine ⟨f,fd,?_,hm,Fn.kp,hb⟩
  obtain ⟨oc,od,kV,doc,pm,an,cdv,ct,osl,rfl,lk,hcd⟩:=Fn.ex
  refine fn_of lk hcd S (fun vs H Q E xx142=>by obtain ⟨F,ds,q,e,_,i,h,_⟩:=xx142;rw [i.len];exact len ds q e h) fun A outer s H vs Q E hr xx141=>?_
  obtain ⟨F,ds,q,e,sm,i,h,kk,kx⟩:=xx141
  obtain ⟨W,hW,hq⟩:=hbody f cdv A outer s H E hr (fun σ pins H1 s1 e1 s' I c=>passes_cx pins σ H1 s1 e1 s' I c) throws_cx ds q e h
  refine ⟨_,hW,⟨H,H,F⟩,startE N ds,F,_,_,env_start sm i,hq,fun C e1 F1 H1 σ1 I1 s1 q1=>kx C F1 H1 I1.goOf q1,⟨fun e1 F1 H1 σ1 I1 s1 q1=>kk _ _ F1 H1 I1.goOf is_non q1,fun r v e1 F1 H1 σ1 I1 s1 r1 q1=>?_,fun _ _ _ _ _ _ h=>h.elim,fun _ _ _ _ _ _ h=>h.elim⟩⟩
  obtain ⟨F2,g,j⟩:=r1.is I1
  exact kk _ _ F2 H1 g j q1
end
end L2
namespace L2
open PySem PySem.Spec PyProof.Rows
section
variable {prog:Program}{w:World}{A:Around}{E:Value→Shared→Prop}{h:Heap}{g:Array GenState}{d:Drawn}{t:Nat}{os:OsState}{a:Addr}{o:Obj}{K:PySem.W.Frag}
 {nm q:Str}{C N:Addr}{bs bm:List Value}{hdct:Bool}{sn:List Str}{sub:List Value}{ab:Bool}{col:Option Bool}{dd:Option Addr}{k0 k1 k2 k3 k5:Option Value}{newId:String}
theorem xc_get {R:Result→Shared→Prop} (hC:h.get? C=some (excClassObj nm q C N bs bm hdct sn sub ab col dd k0 k1 k2 k3 k5 newId)) (T:OwnTail h bmVE bm) (hx:h.get? a=some o) (hc:o.cls = .ref C) (hq:R (.ok (.ret (.ref C))) ⟨h,g,d,t,os⟩) :
 codeAny (model prog w) A (.call (.builtin "getset_descriptor.__get__") ⟨[.builtin "object.__class__",.ref a,.ref C],[]⟩) R ⟨h,g,d,t,os⟩:=by
  have hT5:(⟨h,g,d,t,os⟩:Shared).TypeIs (.builtin "object.__class__") "getset_descriptor" := F.typeOf_object_class
  have hcB:(Value.ref C::bm).contains (.type (".".intercalate ("object.__class__".cutAt '.').dropLast))=true:=by
   rw [F.owner_object_class,List.contains_cons,T.hasType (X := "object") (b:=true) (by decide)];rfl
  refine codeAny_call_builtin F.slot_gs_get.plain F.entry_gs_get (F.slot_gs_get.check _ _ _ _ _ _ _ _ hT5 (F.args_gs_get _ _ _) ?_)
  repeat (any_goals (first|assumption|(with_reducible refine wpAny_loadPart_at hx ?_;rw [hc])|(with_reducible refine wpAny_isSubtype_exc hC ?_;rw [hcB])|wp_step))
  refine ⟨Code.quiet_builtin _ (by decide +kernel),codeAny_builtin F.entry_object_class ?_⟩
  repeat (any_goals (first|assumption|(with_reducible refine wpAny_loadPart_at hx ?_;rw [hc])|wp_step))
theorem xc_entry {tk:Tok}{Q:Fin→Shared→Prop} (X:K.In h) (hf:PySem.W.findIn K (.ref C) "__class__" = some (some (.builtin "object.__class__"))) (hC:h.get? C=some (excClassObj nm q C N bs bm hdct sn sub ab col dd k0 k1 k2 k3 k5 newId)) (T:OwnTail h bmVE bm)
 (hx:h.get? a=some o) (hc:o.cls = .ref C) (hq:Q (.done (.ret (.ref C))) ⟨h,g,d,t,os⟩) :
 wpAny (model prog w) A (Builtin.«object.__getattribute__» ⟨[.ref a,.str "__class__" tk],[]⟩) Q E ⟨h,g,d,t,os⟩:=by
  have hT5:(⟨h,g,d,t,os⟩:Shared).TypeIs (.builtin "object.__class__") "getset_descriptor" := F.typeOf_object_class
  have f5:=F.typeOf_object_class
  have f6:=F.slot_gs_get.lookup
  have f7:=F.slot_gs_set.lookup
  have L:=PySem.W.looks_findIn (M:=model prog w) X hf
  repeat (any_goals (first|assumption|(with_reducible refine wpAny_loadPart_at hx ?_;rw [hc])|with_reducible refine L.at ?_|wp_step))
  refine xc_get hC T hx hc ?_
  repeat (any_goals (first|assumption|wp_step))
theorem xc_check {M:Model}{nameV:Value}{Q:Unit→Shared→Prop} (hC:h.get? C=some (excClassObj nm q C N bs bm hdct sn sub ab col dd k0 k1 k2 k3 k5 newId)) (T:OwnTail h bmVE bm)
 (hx:h.get? a=some o) (hc:o.cls = .ref C) (hq:Q () ⟨h,g,d,t,os⟩):wpAny M A (checkBuiltinCall "BaseException.__getattribute__" ⟨[.ref a,nameV],[]⟩) Q E ⟨h,g,d,t,os⟩:=by
  have hk:builtinKind "BaseException.__getattribute__" = some .slot:=by decide +kernel
  have hsplit:splitId "BaseException.__getattribute__" = some ("BaseException","__getattribute__"):=by decide +kernel
  have hcB:(Value.ref C::bm).contains (.type "BaseException")=true:=by rw [List.contains_cons,T.hasType (X := "BaseException") (b:=true) (by decide)];rfl
  have ha:=F.args_bexc_ga (.ref a) nameV
  simp only [checkBuiltinCall,hk,hsplit]
  refine wpAny_bind ?_
  unfold isInstance
  repeat (first|(with_reducible refine wpAny_loadPart_at hx ?_;rw [hc])|(with_reducible refine wpAny_isSubtype_exc hC ?_;rw [hcB])|wp_step)
  exact hq
structure XCls (K:PySem.W.Frag) (C:Addr):Prop where
 exc:PySem.W.excIn K C bmVE "ValueError.__new__" = true
 ga:PySem.W.findIn K (.ref C) "__getattribute__" = some (some (.builtin "BaseException.__getattribute__"))
 na:PySem.W.findIn K (.ref C) "__getattr__" = some none
 cl:PySem.W.findIn K (.ref C) "__class__" = some (some (.builtin "object.__class__"))
theorem xc_by {tk:Tok}{Q:Value→Shared→Prop} (X:K.In h) (Z:XCls K C) (hC:h.get? C=some (excClassObj nm q C N bs bm hdct sn sub ab col dd k0 k1 k2 k3 k5 newId)) (T:OwnTail h bmVE bm)
 (hx:h.get? a=some o) (hc:o.cls = .ref C) (hq:Q (.ref C) ⟨h,g,d,t,os⟩):wpAny (model prog w) A (getAttrBy (.ref a) (.str "__class__" tk) false) Q E ⟨h,g,d,t,os⟩:=by
  have f3:=F.excAttr_ValueError.ga.bind (.ref a)
  have hx2:(Value.builtin "BaseException.__getattribute__" == Value.builtin "object.__getattribute__")=false:=by decide +kernel
  have hx1:(onTheHeap (Value.ref C)&&Value.builtin "BaseException.__getattribute__" == Value.builtin "object.__getattribute__")=false:=by rw [hx2];rfl
  have L:=PySem.W.looks_findIn (M:=model prog w) X Z.ga
  have L2:=PySem.W.looks_findIn (M:=model prog w) X Z.na
  repeat (any_goals (first|assumption|(with_reducible refine wpAny_loadPart_at hx ?_;rw [hc])|with_reducible refine L.at ?_|with_reducible refine L2.at ?_|wp_step))
  refine codeAny_call_builtin F.excAttr_ValueError.ga.plain F.entry_bexc_ga (xc_check hC T hx hc (xc_entry X Z.cl hC T hx hc ?_))
  repeat (any_goals (first|assumption|wp_step))
theorem xc_attr {Q:Option Value→Shared→Prop} (X:K.In h) (Z:XCls K C) (hC:h.get? C=some (excClassObj nm q C N bs bm hdct sn sub ab col dd k0 k1 k2 k3 k5 newId)) (T:OwnTail h bmVE bm)
 (hx:h.get? a=some o) (hc:o.cls = .ref C) (hq:Q (some (.ref C)) ⟨h,g,d,t+1,os⟩):wpAny (model prog w) A (getAttr? (.ref a) "__class__") Q E ⟨h,g,d,t,os⟩:=by
  unfold getAttr? getAttrBy?
  repeat (any_goals (first|assumption|with_reducible apply xc_by X Z hC T hx hc|wp_step))
end
theorem kitx_exc {K:PySem.W.Frag}{a C:Addr} (Z:XCls K C):PySem.W.KitX K (.ref a) (.ref C) (fun h => ∃ o,h.get? a=some o∧o.cls = .ref C) where
 ty:=fun M h X xx143=>by obtain ⟨o,h1,h2⟩:=xx143;exact h2 ▸ (PySem.W.Looks.ld h1).andThen .now
 it:=fun M h X _=>by
  obtain ⟨bm,N,nm,qn,bs,hd,sn,sub,ab,col,dd,k0,k1,k2,k3,k5,mN,hC,_⟩:=exc_obj X Z.exc
  intro A' Q' E' s' k q
  unfold isType loadHead
  exact wpAny_bind (wpAny_loadPart (k _ _ hC) (wpAny_pure q))
 ne:=fun h tp dd its n sl X htp=>by
  obtain ⟨bm,N,nm,qn,bs,hd,sn,sub,ab,col,dd',k0,k1,k2,k3,k5,mN,hC,_⟩:=exc_obj X Z.exc
  refine Bool.eq_false_iff.mpr fun q=>?_
  have e:C=tp:=Value.ref.inj (beq_iff_eq.mp q)
  subst e
  have z:=Option.some.inj (hC.symm.trans htp)
  have z2:=congrArg Obj.data z
  exact Data.noConfusion z2
 ca:=fun {prog w A E Q s} X ⟨o,h1,h2⟩ k=>by
  obtain ⟨bm,N,nm,qn,bs,hd,sn,sub,ab,col,dd',k0,k1,k2,k3,k5,mN,hC,hN,hni,T,_⟩:=exc_obj X Z.exc
  obtain ⟨hh,g,d,t,os⟩:=s
  exact xc_attr X Z hC T h1 h2 k
end L2
namespace L2
open PySem PySem.Spec PyProof.Rows
def clsV:V→Option Value
 | .ty n=>some (.type n)
 | .ref a=>some (.ref a)
 | _=>none
theorem clsV_rel {v:V}{u u':Value} (r:RelV v u) (h:clsV v=some u'):u=u':=by
 cases v with
 | ty n=>cases h;exact r
 | ref a=>cases h;exact r
 | _=>cases h
theorem clsV_vals : ∀ {vs:List V}{us us':List Value},Vals vs us→vs.mapM clsV=some us'→us=us'
 | [],_,_,.nil,h=>by cases h;rfl
 | v::vs,_,us',.cons r t,h=>by
  rw [List.mapM_cons] at h
  cases hv:clsV v with
  | none=>rw [hv] at h;cases h
  | some u0 =>
   cases hr:vs.mapM clsV with
   | none=>rw [hv,hr] at h;cases h
   | some us0 =>
    rw [hv,hr] at h
    cases h
    rw [clsV_rel r hv,clsV_vals t hr]
def rIsX (K:PySem.W.Frag):List V→Hp→VK→Prop:=fun xs H Q => ∃ (C ea:Addr) (c:V) (u:Value) (b:Bool),xs=[.ref ea,c]∧H ea=some (excO C ea)∧XCls K C∧clsV c=some u∧PySem.W.kitOne K (.ref C) u=some b∧Q (.bl b) H
def rIsXs (K:PySem.W.Frag):List V→Hp→VK→Prop:=fun xs H Q => ∃ (C ea tp:Addr) (cs:List V) (us:List Value) (b:Bool),xs=[.ref ea,.ref tp]∧H ea=some (excO C ea)∧XCls K C∧H tp=some (.tup cs)∧cs.mapM clsV=some us∧PySem.W.kitAny K (.ref C) us=some b∧Q (.bl b) H
section
variable {X:Cx}
theorem call_isX:CallR X (.builtin "isinstance") (rIsX X.K):=by
 intro pins s σ H xs us Q I r h
 obtain ⟨C,ea,c,u,b,rfl,ha,Z,hc,e,q⟩:=h
 obtain ⟨u1,u2,rfl,rx,rc⟩:=vals2 r
 cases rx
 rw [clsV_rel rc hc]
 obtain ⟨p,_,_⟩:=(show ObjOk X.prog X.w H s.heap ea (excO C ea) from I.hok ea _ ha)
 exact PySem.W.kia_one (kitx_exc Z) I.kIn p e (fun z=>nomatch z) fun tk=>⟨.bl b,H,I.tok tk,rfl,q⟩
theorem call_isXs:CallR X (.builtin "isinstance") (rIsXs X.K):=by
 intro pins s σ H xs us Q I r h
 obtain ⟨C,ea,tp,cs,us',b,rfl,ha,Z,ht,hc,e,q⟩:=h
 obtain ⟨u1,u2,rfl,rx,rc⟩:=vals2 r
 cases rx
 cases rc
 obtain ⟨p,_,_⟩:=(show ObjOk X.prog X.w H s.heap ea (excO C ea) from I.hok ea _ ha)
 obtain ⟨its,rv,pl,_⟩:=I.tuple (SqT.of ht)
 obtain ⟨⟨cls,dd,data,sl⟩,ho,hcl,n,hdt⟩:=pl
 simp only at hcl hdt
 subst hcl hdt
 rw [clsV_vals rv hc] at ho
 exact PySem.W.kia_tup (kitx_exc Z) I.kIn p ho e (fun z=>nomatch z) fun tk=>⟨.bl b,H,I.tok tk,rfl,q⟩
def tVs (vs:List V):TA:=fun _ H Q=>Q vs H
theorem pa_c0:PA X [] (tVs []):=pa_nil
theorem pa_c {e:Expr}{es:List Expr}{v:V}{vs:List V} (he:PE X e (tC v)) (hs:PA X es (tVs vs)) (hst:starEach (e::es) X.env=(false,eval e X.env)::starEach es X.env:=by rfl):PA X (e::es) (tVs (v::vs)):=pa_cons he hs hst
def wIsX (K:PySem.W.Frag) (j:Nat) (u:Value):WE:=fun env Q=>match gS env j with | .exc C=>XCls K C ∧ ∃ b,PySem.W.kitOne K (.ref C) u=some b∧Q (.bool b) env|_=>False
def wIsXs (K:PySem.W.Frag) (j:Nat) (us:List Value):WE:=fun env Q=>match gS env j with | .exc C=>XCls K C ∧ ∃ b,PySem.W.kitAny K (.ref C) us=some b∧Q (.bool b) env|_=>False
section
variable {y:Str}{c:Expr}{cs:List Expr}{v:V}{vs:List V}{u:Value}{us:List Value}{p py pt pos:Pos}{x1:Nat}
theorem ve_isX (j:Nat) (hm:X.mg "isinstance" = none) (hc:PE X c (tC v)) (hu:clsV v=some u) (hj:X.N[j]?=some y:=by rfl) (hv:Vis X.env.scope y:=by first|exact Or.inl rfl|exact Or.inr (Or.inl rfl)|exact Or.inr (Or.inr rfl))
 (hg:Gl X "isinstance":=by rfl) (hd:(y==("__debug__" : Str))=false:=by decide) (hcd:(y==("__classdict__" : Str))=false:=by decide)
 (hs:starEach [.Name y py,c] X.env=(false,eval (.Name y py) X.env)::starEach [c] X.env:=by rfl) (hs2:starEach [c] X.env=(false,eval c X.env)::starEach [] X.env:=by rfl) (hpl:(backTo pos (starEach [c] X.env)).any (·.1)=false:=by rfl) :
 VE X (.Call (.Name "isinstance" p) [.Name y py,c] [] pos) (wIsX X.K j u) :=
 (pe_callB call_isX hg hm boot_isinstance (pa_cons (pe_var hj hv hd hcd) (pa_cons hc pa_nil hs2) hs) (by decide) (by decide) hs hpl).imp fun σ H R xx144=>by
  obtain ⟨M,env,F,Q,I,h,k⟩:=xx144
  have S:=I.slot j
  unfold wIsX at h
  cases q:gS env j with
  | exc C =>
   rw [q] at S h
   obtain ⟨ea,e,z⟩:=S
   obtain ⟨Z,b,hb,h⟩:=h
   exact ⟨_,vS_some e,C,ea,v,u,b,rfl,I.fh.at z,Z,hu,hb,k _ _ F H env I (.refl _) (is_bl _) h⟩
  | non=>rw [q] at h;exact h.elim
  | obj a0 C nm fs=>rw [q] at h;exact h.elim
  | val d=>rw [q] at h;exact h.elim
  | own ds=>rw [q] at h;exact h.elim
  | pen ds=>rw [q] at h;exact h.elim
  | new d=>rw [q] at h;exact h.elim
theorem ve_isXs (j:Nat) (hm:X.mg "isinstance" = none) (hc:PA X cs (tVs vs)) (hu:vs.mapM clsV=some us) (hl:vs.length≤sizeLine) (hj:X.N[j]?=some y:=by rfl) (hv:Vis X.env.scope y:=by first|exact Or.inl rfl|exact Or.inr (Or.inl rfl)|exact Or.inr (Or.inr rfl))
 (hg:Gl X "isinstance":=by rfl) (hd:(y==("__debug__" : Str))=false:=by decide) (hcd:(y==("__classdict__" : Str))=false:=by decide)
 (hs:starEach [.Name y py,.Tuple cs x1 pt] X.env=(false,eval (.Name y py) X.env)::starEach [.Tuple cs x1 pt] X.env:=by rfl) (hs2:starEach [.Tuple cs x1 pt] X.env=(false,eval (.Tuple cs x1 pt) X.env)::starEach [] X.env:=by rfl)
 (hpl:(backTo pos (starEach [.Tuple cs x1 pt] X.env)).any (·.1)=false:=by rfl) :
 VE X (.Call (.Name "isinstance" p) [.Name y py,.Tuple cs x1 pt] [] pos) (wIsXs X.K j us) :=
 (pe_callB call_isXs hg hm boot_isinstance (pa_cons (pe_var hj hv hd hcd) (pa_cons (pe_tup hc) pa_nil hs2) hs) (by decide) (by decide) hs hpl).imp fun σ H R xx145=>by
  obtain ⟨M,env,F,Q,I,h,k⟩:=xx145
  have S:=I.slot j
  unfold wIsXs at h
  cases q:gS env j with
  | exc C =>
   rw [q] at S h
   obtain ⟨ea,e,z⟩:=S
   obtain ⟨Z,b,hb,h⟩:=h
   exact ⟨_,vS_some e,hl,fun tp hp=>⟨C,ea,tp,vs,us,b,rfl,(same_new hp).at (I.fh.at z),Z,upd_same,hu,hb,k _ _ F _ env (I.go (.side I.fh hp)) (.refl _) (is_bl _) h⟩⟩
  | non=>rw [q] at h;exact h.elim
  | obj a0 C nm fs=>rw [q] at h;exact h.elim
  | val d=>rw [q] at h;exact h.elim
  | own ds=>rw [q] at h;exact h.elim
  | pen ds=>rw [q] at h;exact h.elim
  | new d=>rw [q] at h;exact h.elim
end
end
end L2
namespace L2
open PySem PySem.Spec PyProof.Rows
section
variable {prog:Program}{w:World}{A:Around}{E:Value→Shared→Prop}{s:Shared}
def SqIt (b:Bool) (h:Heap) (j l:Addr) (i:Nat):Prop:=match b with
 | true=>h.IsTupleIter j l i
 | false=>h.IsListIter j l i
def SqOf (b:Bool) (h:Heap) (l:Addr) (us:Array Value):Prop:=match b with
 | true=>h.IsTuple l us
 | false=>h.IsList l us
def itTy:Bool→String
 | true => "tuple_iterator"
 | false => "list_iterator"
abbrev itO (b:Bool) (l:Addr):Obj:={ cls :=.type (itTy b),data :=.fields #[.ref l,.int 0 0] }
theorem SqIt.at' {b:Bool}{h h':Heap}{j l:Addr}{i:Nat} (x:SqIt b h j l i) (e : ∀ o,h.get? j=some o→h'.get? j=some o):SqIt b h' j l i:=by
 cases b with
 | true=>exact Heap.IsTupleIter.at x e
 | false=>exact Heap.IsListIter.at x e
theorem SqIt.but {b:Bool}{h h':Heap}{j l c:Addr}{i:Nat} (x:SqIt b h j l i) (e:Heap.SameBut c h h') (n:j≠c):SqIt b h' j l i:=x.at' fun o q=>e.extBut j o n q
theorem SqIt.obj {b:Bool}{h:Heap}{j l:Addr}{i:Nat} (x:SqIt b h j l i) : ∃ o,h.get? j=some o ∧ ∀ v,o.data ≠ .cell v:=by
 cases b with
 | true=>obtain ⟨o,q,_,d⟩:=x;exact ⟨o,q,fun v z=>by rw [d] at z;cases z⟩
 | false=>obtain ⟨o,q,_,d⟩:=x;exact ⟨o,q,fun v z=>by rw [d] at z;cases z⟩
theorem SqOf.at' {b:Bool}{h h':Heap}{l:Addr}{us:Array Value} (x:SqOf b h l us) (e : ∀ o,h.get? l=some o→h'.get? l=some o):SqOf b h' l us:=by
 cases b with
 | true=>obtain ⟨o,q,r⟩:=x;exact ⟨o,e o q,r⟩
 | false=>exact Heap.IsList.at x e
theorem SqOf.but {b:Bool}{h h':Heap}{l c:Addr}{us:Array Value} (x:SqOf b h l us) (e:Heap.SameBut c h h') (n:l≠c):SqOf b h' l us:=x.at' fun o q=>e.extBut l o n q
theorem SqOf.lt {b:Bool}{h:Heap}{l:Addr}{us:Array Value} (x:SqOf b h l us):l<h.objs.size:=by
 cases b with
 | true=>obtain ⟨o,q,_⟩:=x;exact Heap.lt_size q
 | false=>obtain ⟨o,q,_⟩:=x;exact Heap.lt_size q
theorem tnx_item {j t:Addr}{k:Nat}{us:Array Value}{u:Value}{Q:Value→Shared→Prop} (hj:s.heap.IsTupleIter j t k) (ht:s.heap.IsTuple t us) (hu:us[k]?=some u)
 (q : ∀ h',h'.IsTupleIter j t (k+1)→Heap.SameBut j s.heap h'→Q u { s with heap:=h' }):wpAny (model prog w) A (Builtin.SmallTypes.nextOf (.ref j)) Q E s:=by
  obtain ⟨ob,e1,e2,e3⟩:=id hj
  obtain ⟨ot,f1,_,nt,f3⟩:=ht
  unfold Builtin.SmallTypes.nextOf
  refine wpAny_bind (wpAny_callSpecial?_slot (name:=Str.ofString "__next__") hj.typeIs F.slot_tuple_iterator_next (wpAny_call_entry F.slot_tuple_iterator_next hj.typeIs F.entry_tuple_iterator_next ?_ (F.args_tuple_iterator_next_1 _)))
  show wpAny _ _ (field (.ref j) 0 >>= _) _ _ s
  refine wpAny_bind (wpAny_field e1 e3 (x :=.ref t) rfl ?_)
  show wpAny _ _ (if (Value.ref t==Value.none)=true then _ else _) _ _ s
  rw [if_neg (fun z:(Value.ref t==Value.none)=true=>Bool.false_ne_true z)]
  show wpAny _ _ (field (.ref j) 1 >>= _) _ _ s
  refine wpAny_bind (wpAny_field e1 e3 (x :=.int k 0) rfl ?_)
  show wpAny _ _ (seqItems? (.ref t) >>= _) _ _ s
  refine wpAny_bind (wpAny_seqItems f1 f3 ?_)
  simp only [Int.toNat_natCast,hu]
  refine wpAny_bind (wpAny_setField e1 e3 (by simp) (wpAny_pure ⟨u,rfl,wpAny_pure (q _ ?_ (Heap.SameBut.update ..))⟩))
  exact ⟨_,Heap.get?_update_self _ e1 (Obj.isFreed_of_fields (Obj.data_mapFields e3 _)),(Obj.cls_mapFields ..).trans e2,by rw [Obj.data_mapFields e3];simp [rawInt]⟩
theorem tnx_end {j t:Addr}{k:Nat}{us:Array Value}{Q:Value→Shared→Prop} (hh:A.handled=none) (hj:s.heap.IsTupleIter j t k) (ht:s.heap.IsTuple t us) (hu:us[k]?=none)
 (q : ∀ h' e,Heap.ExtBut j s.heap h'→(∃ o,h'.get? e=some o∧o.cls = .type "StopIteration")→E (.ref e) { s with heap:=h' }):wpAny (model prog w) A (Builtin.SmallTypes.nextOf (.ref j)) Q E s:=by
  obtain ⟨ob,e1,e2,e3⟩:=id hj
  obtain ⟨ot,f1,_,nt,f3⟩:=ht
  unfold Builtin.SmallTypes.nextOf
  refine wpAny_bind (wpAny_callSpecial?_slot (name:=Str.ofString "__next__") hj.typeIs F.slot_tuple_iterator_next (wpAny_call_entry F.slot_tuple_iterator_next hj.typeIs F.entry_tuple_iterator_next ?_ (F.args_tuple_iterator_next_1 _)))
  show wpAny _ _ (field (.ref j) 0 >>= _) _ _ s
  refine wpAny_bind (wpAny_field e1 e3 (x :=.ref t) rfl ?_)
  show wpAny _ _ (if (Value.ref t==Value.none)=true then _ else _) _ _ s
  rw [if_neg (fun z:(Value.ref t==Value.none)=true=>Bool.false_ne_true z)]
  show wpAny _ _ (field (.ref j) 1 >>= _) _ _ s
  refine wpAny_bind (wpAny_field e1 e3 (x :=.int k 0) rfl ?_)
  show wpAny _ _ (seqItems? (.ref t) >>= _) _ _ s
  refine wpAny_bind (wpAny_seqItems f1 f3 ?_)
  simp only [Int.toNat_natCast,hu]
  refine wpAny_bind (wpAny_rule (wpAny_bind (wpAny_setField e1 e3 (by simp) ?_)))
  show wpAny _ _ (newExc (.type "StopIteration") [] >>= _) _ _ _
  refine wpAny_bind (?_:wpAny _ _ (newExc (.type "StopIteration") []) _ _ _)
  simp only [newExc,newTuple]
  refine wpAny_bind (wpAny_newObj_type (?_:_) (by size_fits))
  refine wpAny_bind (m:=firstArgMember _ _) (wpAny_of_eq (a:=Value.none) (by first|rfl|(simp only [firstArgMember];rfl)|skip) ?_)
  refine wpAny_newObj_type (?_:_) (by size_fits)
  simp only [raiseNew]
  refine wpAny_bind (wpAny_handled (?_:_))
  first|rw [hh]|rw [show A.in1.handled=none from hh]
  refine wpAny_bind (wpAny_pure (wpAny_throw (?_:_)))
  exact q _ _ (((Heap.SameBut.update ..).extBut.push _).push _) ⟨_,Heap.get?_push_size _ rfl,rfl⟩
theorem snx_item {b:Bool}{j l:Addr}{k:Nat}{us:Array Value}{u:Value}{Q:Value→Shared→Prop} (hj:SqIt b s.heap j l k) (hl:SqOf b s.heap l us) (hu:us[k]?=some u)
 (q : ∀ h',SqIt b h' j l (k+1)→Heap.SameBut j s.heap h'→Q u { s with heap:=h' }):wpAny (model prog w) A (Builtin.SmallTypes.nextOf (.ref j)) Q E s:=by
  cases b with
  | true=>exact tnx_item hj hl hu q
  | false=>exact wpAny_nextOf_list_item hj hl hu q
theorem snx_end {b:Bool}{j l:Addr}{k:Nat}{us:Array Value}{Q:Value→Shared→Prop} (hh:A.handled=none) (hj:SqIt b s.heap j l k) (hl:SqOf b s.heap l us) (hu:us[k]?=none)
 (q : ∀ h' e,Heap.ExtBut j s.heap h'→(∃ o,h'.get? e=some o∧o.cls = .type "StopIteration")→E (.ref e) { s with heap:=h' }):wpAny (model prog w) A (Builtin.SmallTypes.nextOf (.ref j)) Q E s:=by
  cases b with
  | true=>exact tnx_end hh hj hl hu q
  | false=>exact wpAny_nextOf_list_end hh hj hl hu q
theorem sit_new {b:Bool}{l:Addr}{us:Array Value}{Q:Value→Shared→Prop} (hl:SqOf b s.heap l us) (q:Q (.ref s.heap.objs.size) { s with heap:=s.heap.push (itO b l) }):wpAny (model prog w) A (pyIter (.ref l)) Q E s:=by
 cases b with
 | true=>exact wpAny_pyIter_tuple hl q
 | false=>exact wpAny_pyIter_list hl q
theorem zpn_item {b c:Bool}{z TI TO j1 j2 l1 l2:Addr}{k1 k2:Nat}{us vs:Array Value}{u v x0 y0:Value}{Q:Value→Shared→Prop} (D:ZipApart z TI TO j1 j2 l1 l2)
 (a0:IsZip s.heap z TI TO .none) (a1:IsPair s.heap TI (.ref j1) (.ref j2)) (a2:IsPair s.heap TO x0 y0)
 (e1:SqIt b s.heap j1 l1 k1) (e2:SqIt c s.heap j2 l2 k2) (g1:SqOf b s.heap l1 us) (g2:SqOf c s.heap l2 vs) (hu:us[k1]?=some u) (hv:vs[k2]?=some v)
 (q : ∀ h',IsZip h' z TI TO (rawInt s.heap.objs.size)→IsPair h' TO u v→SqIt b h' j1 l1 (k1+1)→SqIt c h' j2 l2 (k2+1)→IsPair h' s.heap.objs.size u v→h'.objs.size=s.heap.objs.size+1 →
 (∀ a o,a≠z→a≠TO→a≠j1→a≠j2→s.heap.get? a=some o→h'.get? a=some o)→Q (.ref s.heap.objs.size) { s with heap:=h' }) :
  wpAny (model prog w) A (Builtin.«zip.__next__» ⟨[.ref z],[]⟩) (fun r s' => ∃ y,r = .done (.ret y)∧Q y s') E s:=by
  show wpAny _ _ (field (.ref z) 2 >>= _) _ _ _
  refine wpAny_bind (wpAny_field a0 rfl (x :=.bool false) rfl ?_)
  show wpAny _ _ (field (.ref z) 3 >>= _) _ _ _
  refine wpAny_bind (wpAny_field a0 rfl (x :=.ref TI) rfl ?_)
  refine wpAny_bind (wpAny_seqItems a1 rfl ?_)
  show wpAny _ _ (Builtin.SmallTypes.ownedTupleIsFree (.ref z) >>= _) _ _ _
  refine wpAny_bind (?_:wpAny _ _ (Builtin.SmallTypes.ownedTupleIsFree (.ref z)) _ _ _)
  unfold Builtin.SmallTypes.ownedTupleIsFree
  refine wpAny_bind (wpAny_field a0 rfl (x :=.none) rfl (wpAny_pure ?_))
  simp only [if_true]
  refine wpAny_bind (wpAny_rule (?_:_))
  refine wpAny_bind (wpAny_field a0 rfl (x :=.ref TO) rfl ?_)
  refine wpAny_bind (wpAny_setField_rec a0 (by simp) fun p1 b0 m1=>?_)
  replace b0:IsZip p1 z TI TO .ellipsis:=b0
  refine wpAny_bind (?_:_)
  simp only [List.zipIdx_cons,List.zipIdx_nil,List.forIn_cons,List.forIn_nil]
  refine wpAny_bind (wpAny_bind (wpAny_onRaise (?_:_)))
  show wpAny _ _ (Builtin.SmallTypes.nextOf (.ref j1) >>= _) _ _ _
  refine wpAny_bind (snx_item (e1.but m1 D.i1z) (g1.but m1 D.l1z) hu fun p2 f1 m2=>wpAny_pure ?_)
  have c2:IsPair p2 TO x0 y0:=m2.extBut _ _ D.TOi1 (m1.extBut _ _ D.TOz a2)
  refine wpAny_bind (wpAny_seqItems c2 rfl ?_)
  refine wpAny_bind (wpAny_updateSeq_pair c2 fun p3 c3 m3=>?_)
  replace c3:IsPair p3 TO u y0:=c3
  refine wpAny_bind (wpAny_letGo (wpAny_pure (?_:_)))
  refine wpAny_bind (wpAny_bind (wpAny_onRaise (?_:_)))
  show wpAny _ _ (Builtin.SmallTypes.nextOf (.ref j2) >>= _) _ _ _
  refine wpAny_bind (snx_item (((e2.but m1 D.i2z).but m2 D.i12.symm).but m3 D.TOi2.symm) (((g2.but m1 D.l2z).but m2 D.l2i1).but m3 D.l2TO) hv fun p4 f2 m4=>wpAny_pure ?_)
  have c4:IsPair p4 TO u y0:=m4.extBut _ _ D.TOi2 c3
  refine wpAny_bind (wpAny_seqItems c4 rfl ?_)
  refine wpAny_bind (wpAny_updateSeq_pair c4 fun p5 c5 m5=>?_)
  replace c5:IsPair p5 TO u v:=c5
  refine wpAny_bind (wpAny_letGo (wpAny_pure (wpAny_pure (?_:_))))
  refine wpAny_bind (wpAny_seqItems c5 rfl ?_)
  refine wpAny_bind (wpAny_newTuple (?_:_))
  have sz:p5.objs.size=s.heap.objs.size:=by rw [m5.1,m4.1,m3.1,m2.1,m1.1]
  have b5:IsZip p5 z TI TO .ellipsis:=m5.extBut _ _ D.TOz.symm (m4.extBut _ _ D.i2z.symm (m3.extBut _ _ D.TOz.symm (m2.extBut _ _ D.i1z.symm b0)))
  have k5 : ∀ a o,a≠z→a≠TO→a≠j1→a≠j2→s.heap.get? a=some o→p5.get? a=some o:=fun a o n1 n2 n3 n4 e =>
   m5.extBut _ _ n2 (m4.extBut _ _ n4 (m3.extBut _ _ n2 (m2.extBut _ _ n3 (m1.extBut _ _ n1 e))))
  have f5:SqIt b p5 j1 l1 (k1+1):=((f1.but m3 D.TOi1.symm).but m4 D.i12).but m5 D.TOi1.symm
  have f6:SqIt c p5 j2 l2 (k2+1):=f2.but m5 D.TOi2.symm
  have zlt:z<p5.objs.size:=Heap.lt_size b5
  show wpAny _ _ (Builtin.SmallTypes.ownedTupleHandOut (.ref z) (.ref p5.objs.size) >>= _) _ _ _
  refine wpAny_bind (?_:wpAny _ _ (Builtin.SmallTypes.ownedTupleHandOut (.ref z) (.ref p5.objs.size)) _ _ _)
  unfold Builtin.SmallTypes.ownedTupleHandOut
  have b6:IsZip (p5.push { cls :=.type "tuple",data :=.seq #[u,v] }) z TI TO .ellipsis:=Heap.get?_push_of_some _ b5
  refine wpAny_bind (wpAny_setField_rec b6 (by simp) fun p7 b7 m7=>?_)
  replace b7:IsZip p7 z TI TO (rawInt p5.objs.size):=b7
  refine wpAny_setField_rec b7 (by simp) fun p8 b8 m8=>?_
  replace b8:IsZip p8 z TI TO (rawInt p5.objs.size):=b8
  have up : ∀ a o,a≠z→p5.get? a=some o→p8.get? a=some o:=fun a o n e=>m8.extBut _ _ n (m7.extBut _ _ n (Heap.get?_push_of_some _ e))
  have t8:IsPair p8 p5.objs.size u v:=m8.extBut _ _ (Nat.ne_of_gt zlt) (m7.extBut _ _ (Nat.ne_of_gt zlt) (Heap.get?_push_size _ rfl))
  have z8:p8.objs.size=p5.objs.size+1:=by rw [m8.1,m7.1,Heap.size_push]
  rw [sz] at b8 t8 z8
  refine wpAny_pure ⟨_,rfl,(?_:Q (.ref p5.objs.size) _)⟩
  rw [sz]
  exact q p8 b8 (up _ _ D.TOz c5) (f5.at' fun o e=>up _ o D.i1z e) (f6.at' fun o e=>up _ o D.i2z e) t8 z8 fun a o n1 n2 n3 n4 e=>up a o n1 (k5 a o n1 n2 n3 n4 e)
theorem zpn_end {b c:Bool}{z TI TO j1 j2 l1 l2:Addr}{k1 k2:Nat}{us vs:Array Value}{x0 y0:Value}{Q:Fin→Shared→Prop} (hh:A.handled=none) (D:ZipApart z TI TO j1 j2 l1 l2)
 (a0:IsZip s.heap z TI TO .none) (a1:IsPair s.heap TI (.ref j1) (.ref j2)) (a2:IsPair s.heap TO x0 y0)
 (e1:SqIt b s.heap j1 l1 k1) (e2:SqIt c s.heap j2 l2 k2) (g1:SqOf b s.heap l1 us) (g2:SqOf c s.heap l2 vs) (hend:us[k1]?=none∨vs[k2]?=none)
 (q : ∀ h' e,(∀ a o,a≠z→a≠TO→a≠j1→a≠j2→s.heap.get? a=some o→h'.get? a=some o)→(∃ o,h'.get? e=some o∧o.cls = .type "StopIteration")→E (.ref e) { s with heap:=h' }) :
  wpAny (model prog w) A (Builtin.«zip.__next__» ⟨[.ref z],[]⟩) Q E s:=by
  show wpAny _ _ (field (.ref z) 2 >>= _) _ _ _
  refine wpAny_bind (wpAny_field a0 rfl (x :=.bool false) rfl ?_)
  show wpAny _ _ (field (.ref z) 3 >>= _) _ _ _
  refine wpAny_bind (wpAny_field a0 rfl (x :=.ref TI) rfl ?_)
  refine wpAny_bind (wpAny_seqItems a1 rfl ?_)
  show wpAny _ _ (Builtin.SmallTypes.ownedTupleIsFree (.ref z) >>= _) _ _ _
  refine wpAny_bind (?_:wpAny _ _ (Builtin.SmallTypes.ownedTupleIsFree (.ref z)) _ _ _)
  unfold Builtin.SmallTypes.ownedTupleIsFree
  refine wpAny_bind (wpAny_field a0 rfl (x :=.none) rfl (wpAny_pure ?_))
  simp only [if_true]
  refine wpAny_bind (wpAny_rule (?_:_))
  refine wpAny_bind (wpAny_field a0 rfl (x :=.ref TO) rfl ?_)
  refine wpAny_bind (wpAny_setField_rec a0 (by simp) fun p1 b0 m1=>?_)
  replace b0:IsZip p1 z TI TO .ellipsis:=b0
  refine wpAny_bind (?_:_)
  simp only [List.zipIdx_cons,List.zipIdx_nil,List.forIn_cons,List.forIn_nil]
  refine wpAny_bind (wpAny_bind (wpAny_onRaise (?_:_)))
  show wpAny _ _ (Builtin.SmallTypes.nextOf (.ref j1) >>= _) _ _ _
  cases hu:us[k1]? with
  | none =>
   refine wpAny_bind (snx_end hh (e1.but m1 D.i1z) (g1.but m1 D.l1z) hu fun p2 e m2 he=>?_)
   obtain ⟨oe,h3,h4⟩:=he
   have b2:IsZip p2 z TI TO .ellipsis:=m2 _ _ D.i1z.symm b0
   have nz:e≠z:=fun x=>by subst x;rw [b2] at h3;cases h3;simp at h4
   exact wpAny_setField_rec b2 (by simp) fun p3 _ m3=>q p3 e (fun a o n1 _ n3 _ x=>m3.extBut _ _ n1 (m2 _ _ n3 (m1.extBut _ _ n1 x))) ⟨oe,m3.extBut _ _ nz h3,h4⟩
  | some u =>
   have hv:vs[k2]?=none:=by
    rcases hend with h|h
    ·rw [hu] at h;cases h
    ·exact h
   refine wpAny_bind (snx_item (e1.but m1 D.i1z) (g1.but m1 D.l1z) hu fun p2 f1 m2=>wpAny_pure ?_)
   have c2:IsPair p2 TO x0 y0:=m2.extBut _ _ D.TOi1 (m1.extBut _ _ D.TOz a2)
   refine wpAny_bind (wpAny_seqItems c2 rfl ?_)
   refine wpAny_bind (wpAny_updateSeq_pair c2 fun p3 c3 m3=>?_)
   refine wpAny_bind (wpAny_letGo (wpAny_pure (?_:_)))
   refine wpAny_bind (wpAny_bind (wpAny_onRaise (?_:_)))
   show wpAny _ _ (Builtin.SmallTypes.nextOf (.ref j2) >>= _) _ _ _
   refine wpAny_bind (snx_end hh (((e2.but m1 D.i2z).but m2 D.i12.symm).but m3 D.TOi2.symm) (((g2.but m1 D.l2z).but m2 D.l2i1).but m3 D.l2TO) hv fun p4 e m4 he=>?_)
   obtain ⟨oe,h3,h4⟩:=he
   have b4:IsZip p4 z TI TO .ellipsis:=m4 _ _ D.i2z.symm (m3.extBut _ _ D.TOz.symm (m2.extBut _ _ D.i1z.symm b0))
   have nz:e≠z:=fun x=>by subst x;rw [b4] at h3;cases h3;simp at h4
   exact wpAny_setField_rec b4 (by simp) fun p5 _ m5=>q p5 e (fun a o n1 n2 n3 n4 x=>m5.extBut _ _ n1 (m4 _ _ n4 (m3.extBut _ _ n2 (m2.extBut _ _ n3 (m1.extBut _ _ n1 x))))) ⟨oe,m5.extBut _ _ nz h3,h4⟩
theorem zpy_item {b c:Bool}{z TI TO j1 j2 l1 l2:Addr}{k1 k2:Nat}{us vs:Array Value}{u v x0 y0:Value}{Q:Option Value→Shared→Prop} (D:ZipApart z TI TO j1 j2 l1 l2)
 (a0:IsZip s.heap z TI TO .none) (a1:IsPair s.heap TI (.ref j1) (.ref j2)) (a2:IsPair s.heap TO x0 y0)
 (e1:SqIt b s.heap j1 l1 k1) (e2:SqIt c s.heap j2 l2 k2) (g1:SqOf b s.heap l1 us) (g2:SqOf c s.heap l2 vs) (hu:us[k1]?=some u) (hv:vs[k2]?=some v)
 (q : ∀ h',IsZip h' z TI TO (rawInt s.heap.objs.size)→IsPair h' TO u v→SqIt b h' j1 l1 (k1+1)→SqIt c h' j2 l2 (k2+1)→IsPair h' s.heap.objs.size u v→h'.objs.size=s.heap.objs.size+1 →
 (∀ a o,a≠z→a≠TO→a≠j1→a≠j2→s.heap.get? a=some o→h'.get? a=some o)→Q (some (.ref s.heap.objs.size)) { s with heap:=h' }) :
  wpAny (model prog w) A (pyNext (.ref z)) Q E s:=by
  have ty:s.TypeIs (.ref z) "zip":=⟨_,a0,rfl⟩
  unfold pyNext
  exact wpAny_bind (wpAny_attempt (wpAny_callSpecial?_slot (name:=Str.ofString "__next__") ty F.slot_zip_next (wpAny_call_entry F.slot_zip_next ty F.entry_zip_next
   (zpn_item D a0 a1 a2 e1 e2 g1 g2 hu hv fun h' r1 r2 r3 r4 r5 r6 r7=>wpAny_pure (q h' r1 r2 r3 r4 r5 r6 r7)) (F.args_zip_next_1 _))))
theorem zpy_end {b c:Bool}{z TI TO j1 j2 l1 l2:Addr}{k1 k2:Nat}{us vs:Array Value}{x0 y0:Value}{Q:Option Value→Shared→Prop} (hh:A.handled=none) (D:ZipApart z TI TO j1 j2 l1 l2)
 (a0:IsZip s.heap z TI TO .none) (a1:IsPair s.heap TI (.ref j1) (.ref j2)) (a2:IsPair s.heap TO x0 y0)
 (e1:SqIt b s.heap j1 l1 k1) (e2:SqIt c s.heap j2 l2 k2) (g1:SqOf b s.heap l1 us) (g2:SqOf c s.heap l2 vs) (hend:us[k1]?=none∨vs[k2]?=none)
 (q : ∀ h',(∀ a o,a≠z→a≠TO→a≠j1→a≠j2→s.heap.get? a=some o→h'.get? a=some o)→Q none { s with heap:=h' }):wpAny (model prog w) A (pyNext (.ref z)) Q E s:=by
  have ty:s.TypeIs (.ref z) "zip":=⟨_,a0,rfl⟩
  unfold pyNext
  refine wpAny_bind (wpAny_attempt (wpAny_callSpecial?_slot (name:=Str.ofString "__next__") ty F.slot_zip_next (wpAny_call_entry F.slot_zip_next ty F.entry_zip_next (zpn_end hh D a0 a1 a2 e1 e2 g1 g2 hend fun h' e hk he=>?_) (F.args_zip_next_1 _))))
  obtain ⟨o,ho,hc⟩:=he
  exact wpAny_bind (wpAny_isInstance (T := "StopIteration") (b:=true) ⟨o,ho,hc⟩ isSubtype_stop (wpAny_pure (q _ hk)))
abbrev zh1 (b:Bool) (h:Heap) (l:Addr):Heap:=h.push (itO b l)
abbrev zh2 (b c:Bool) (h:Heap) (l1 l2:Addr):Heap:=(zh1 b h l1).push (itO c l2)
abbrev zh3 (b c:Bool) (h:Heap) (l1 l2:Addr):Heap:=(zh2 b c h l1 l2).push { cls :=.type "tuple",data :=.seq #[.ref h.objs.size,.ref (zh1 b h l1).objs.size] }
abbrev zh4 (b c:Bool) (h:Heap) (l1 l2:Addr):Heap:=(zh3 b c h l1 l2).push { cls :=.type "tuple",data :=.seq #[.none,.none] }
abbrev zh5 (b c:Bool) (h:Heap) (l1 l2:Addr):Heap:=(zh4 b c h l1 l2).push { cls :=.type "zip",data :=.fields #[.none,.bool false,.bool false,.ref (zh2 b c h l1 l2).objs.size,.ref (zh3 b c h l1 l2).objs.size] }
theorem zp_new (b c:Bool) (l1 l2:Addr) (us vs:Array Value):Meets (Builtin.«zip.__new__» ⟨[.type "zip",.ref l1,.ref l2],[]⟩)
 (fun _ R s=>SqOf b s.heap l1 us∧SqOf c s.heap l2 vs∧R (.ok (.ret (.ref (zh4 b c s.heap l1 l2).objs.size))) { s with heap:=zh5 b c s.heap l1 l2 }) :=
  .of_wp fun prog w A R s h=>by
   obtain ⟨hp,g,d,tk,os⟩:=s
   obtain ⟨g1,g2,h⟩:=h
   have hsub:=sub_zip
   have y1:SqOf b (Shared.heap ⟨hp,g,d,tk,os⟩) l1 us:=g1
   have y2:SqOf c (Shared.heap ⟨hp.push (itO b l1),g,d,tk,os⟩) l2 vs:=SqOf.at' g2 fun o e=>Heap.get?_push_of_some _ e
   wp_walk using sit_new y1,sit_new y2
   exact ⟨_,rfl,h⟩
theorem zp_call {b c:Bool}{l1 l2:Addr}{us vs:Array Value}{Q:Value→Shared→Prop} (g1:SqOf b s.heap l1 us) (g2:SqOf c s.heap l2 vs)
 (q : ∀ h',IsZip h' (s.heap.objs.size+4) (s.heap.objs.size+2) (s.heap.objs.size+3) .none→IsPair h' (s.heap.objs.size+2) (.ref s.heap.objs.size) (.ref (s.heap.objs.size+1)) →
 IsPair h' (s.heap.objs.size+3) .none .none→SqIt b h' s.heap.objs.size l1 0→SqIt c h' (s.heap.objs.size+1) l2 0→(∀ a o,s.heap.get? a=some o→h'.get? a=some o)→Q (.ref (s.heap.objs.size+4)) { s with heap:=h' }) :
  wpAny (model prog w) A (call (.type "zip") [.ref l1,.ref l2]) Q E s:=by
  refine callType_new F.called_zip (by decide) (F.typeCall_zip_2 _ _) (F.newCall_zip_2 _ _) (fun ob=>F.args_object_init_3 ob _ _) F.entry_zip_new (zp_new b c l1 l2 us vs) ⟨g1,g2,?_⟩
  have n1:(zh1 b s.heap l1).objs.size=s.heap.objs.size+1:=Heap.size_push ..
  have n2:(zh2 b c s.heap l1 l2).objs.size=s.heap.objs.size+2:=by rw [Heap.size_push,n1]
  have n3:(zh3 b c s.heap l1 l2).objs.size=s.heap.objs.size+3:=by rw [Heap.size_push,n2]
  have n4:(zh4 b c s.heap l1 l2).objs.size=s.heap.objs.size+4:=by rw [Heap.size_push,n3]
  have r5:(zh5 b c s.heap l1 l2).get? (zh4 b c s.heap l1 l2).objs.size=some _:=Heap.get?_push_size _ rfl
  have r4:(zh5 b c s.heap l1 l2).get? (zh3 b c s.heap l1 l2).objs.size=some _:=Heap.get?_push_of_some _ (Heap.get?_push_size _ rfl)
  have r3:(zh5 b c s.heap l1 l2).get? (zh2 b c s.heap l1 l2).objs.size=some _:=Heap.get?_push_of_some _ (Heap.get?_push_of_some _ (Heap.get?_push_size _ rfl))
  have r2:(zh5 b c s.heap l1 l2).get? (zh1 b s.heap l1).objs.size=some (itO c l2):=Heap.get?_push_of_some _ (Heap.get?_push_of_some _ (Heap.get?_push_of_some _ (Heap.get?_push_size _ rfl)))
  have r1:(zh5 b c s.heap l1 l2).get? s.heap.objs.size=some (itO b l1):=Heap.get?_push_of_some _ (Heap.get?_push_of_some _ (Heap.get?_push_of_some _ (Heap.get?_push_of_some _ (Heap.get?_push_size _ rfl))))
  show _∧_
  rw [n2,n3,n4] at r5
  rw [n1,n2] at r3
  rw [n3] at r4
  rw [n1] at r2
  rw [n4]
  have si : ∀ {b:Bool}{h:Heap}{a l:Addr},h.get? a=some (itO b l)→SqIt b h a l 0:=fun {b}{h}{a}{l} e=>by
   cases b with
   | true=>exact ⟨_,e,rfl,rfl⟩
   | false=>exact ⟨_,e,rfl,rfl⟩
  exact ⟨⟨_,r5,rfl⟩,q _ r5 r3 r4 (si r1) (si r2) fun a o x=>Heap.get?_push_of_some _ (Heap.get?_push_of_some _ (Heap.get?_push_of_some _ (Heap.get?_push_of_some _ (Heap.get?_push_of_some _ x))))⟩
end
end L2
namespace L2
open PySem PySem.Spec PyProof.Rows
def SqX (b:Bool) (K:PySem.W.Frag) (H:Hp) (a:Addr) (xs:List V):Prop:=match b with
 | true=>SqT K H a xs
 | false=>SqL K H a xs
section
variable {X:Cx}{pins:List (Addr×Obj)}{σ:St}{H:Hp}{s:Shared}{b:Bool}{a:Addr}{xs ys:List V}
theorem Inv.sqx (I:Inv X pins σ H s) (h:SqX b X.K H a xs) : ∃ its:List Value,Vals xs its∧SqOf b s.heap a its.toArray:=by
 cases b with
 | true =>
  obtain ⟨its,r,p,_⟩:=I.tuple h
  obtain ⟨o,ho,hc,n,hd⟩:=p
  exact ⟨its,r,o,ho,hc,n,hd⟩
 | false =>
  obtain ⟨its,r,p,_⟩:=I.list h
  exact ⟨its,r,p.isList⟩
theorem Inv.sqx_inj (I:Inv X pins σ H s) (h:SqX b X.K H a xs) (h':SqX b X.K H a ys):xs=ys:=by
 cases b with
 | true=>exact I.tuple_inj h h'
 | false=>exact I.list_inj h h'
end
def Itz (K:PySem.W.Frag) (b c:Bool) (l m:Addr):It :=
 ⟨fun i H => ∃ xs ys x y,SqX b K H l xs∧SqX c K H m ys∧xs[i]?=some x∧ys[i]?=some y,fun i H v H' => ∃ p x y,(∀ xs,SqX b K H l xs→xs[i]?=some x)∧(∀ ys,SqX c K H m ys→ys[i]?=some y)∧H p=none∧v = .ref p∧H'=upd H p (.tup [x,y]),
  fun i H => ∃ xs ys,SqX b K H l xs∧SqX c K H m ys∧(xs.length≤i∨ys.length≤i)⟩
theorem turn_zip {P:Program}{w:World}{K:PySem.W.Frag}{elts:List Expr}{x1:Nat}{tpos:Pos}{b c:Bool} (z TI TO j1 j2 l m:Addr) (D:ZipApart z TI TO j1 j2 l m) :
 Turn P w K (.Tuple elts x1 tpos) (Itz K b c l m) [z,TI,TO,j1,j2] z (fun i h=>IsZip h z TI TO .none∧IsPair h TI (.ref j1) (.ref j2)∧(∃ x0 y0,IsPair h TO x0 y0)∧SqIt b h j1 l i∧SqIt c h j2 m i) where
  mem:=by simp
  obj:=fun i h st a ha=>by
   obtain ⟨s0,s1,⟨x0,y0,s2⟩,s3,s4⟩:=st
   simp only [List.mem_cons,List.not_mem_nil,or_false] at ha
   rcases ha with rfl|rfl|rfl|rfl|rfl
   ·exact ⟨_,s0,fun v z=>by have z':Data.fields _=Data.cell v:=z;cases z'⟩
   ·exact ⟨_,s1,fun v z=>by have z':Data.seq _ _=Data.cell v:=z;cases z'⟩
   ·exact ⟨_,s2,fun v z=>by have z':Data.seq _ _=Data.cell v:=z;cases z'⟩
   ·exact s3.obj
   ·exact s4.obj
  keep:=fun i h h' st k=>by
   obtain ⟨s0,s1,⟨x0,y0,s2⟩,s3,s4⟩:=st
   exact ⟨k z (by simp) _ s0,k TI (by simp) _ s1,⟨x0,y0,k TO (by simp) _ s2⟩,s3.at' fun o q=>k j1 (by simp) o q,s4.at' fun o q=>k j2 (by simp) o q⟩
  item:=by
   intro X hP hw hK hc i pins s σ H E I hf st hg
   subst hP hw hK
   obtain ⟨xs,ys,x,y,hq,hq',hx,hy⟩:=hg
   obtain ⟨us,rv,p1⟩:=I.sqx hq
   obtain ⟨vs,rw',p2⟩:=I.sqx hq'
   obtain ⟨u,hu,ru⟩:=rv.get hx
   obtain ⟨v,hv,rv'⟩:=rw'.get hy
   obtain ⟨s0,s1,⟨x0,y0,s2⟩,s3,s4⟩:=st
   obtain ⟨z0,z1,z2,z3,z4,z5⟩:=hf z (by simp)
   obtain ⟨o0,o1,o2,o3,o4,o5⟩:=hf TO (by simp)
   obtain ⟨f0,f1,f2,f3,f4,f5⟩:=hf j1 (by simp)
   obtain ⟨g0,g1,g2,g3,g4,g5⟩:=hf j2 (by simp)
   have zlt:z<s.heap.objs.size:=Heap.lt_size s0
   refine zpy_item D s0 s1 s2 s3 s4 p1 p2 (u:=u) (v:=v) (by simpa using hu) (by simpa using hv) fun h₁ a0 a2 a3 a4 ht hz₁ hk=>⟨_,rfl,?_⟩
   refine wpAny_letOwnedTupleGo_zip (s:={ s with heap:=h₁ }) a0 fun h₂ he₂ hs₂=>?_
   replace hs₂:Heap.SameBut z h₁ h₂:=hs₂
   have fresh:H s.heap.objs.size=none:=I.hok.fresh (Nat.le_refl _)
   have kk : ∀ a o,a≠z→a≠TO→a≠j1→a≠j2→s.heap.get? a=some o→h₂.get? a=some o:=fun a o b1 b2 b3 b4 q=>hs₂.extBut a o b1 (hk a o b1 b2 b3 b4 q)
   have kc : ∀ a o,a ∉ [z,TO,j1,j2]→s.heap.get? a=some o→h₂.get? a=some o:=fun a o hc q=>kk a o (fun z=>hc (by simp [z])) (fun z=>hc (by simp [z])) (fun z=>hc (by simp [z])) (fun z=>hc (by simp [z])) q
   have nb : ∀ a o v,s.heap.get? a=some o→H a=some v→h₂.get? a=some o:=fun a o v e q=>kk a o (fun n=>by rw [n,z0] at q;cases q) (fun n=>by rw [n,o0] at q;cases q) (fun n=>by rw [n,f0] at q;cases q) (fun n=>by rw [n,g0] at q;cases q) e
   have ht₂:h₂.get? s.heap.objs.size=some { cls :=.type "tuple",data :=.seq #[u,v] }:=(hs₂.2 _ (Nat.ne_of_gt zlt)).trans ht
   have I1:Inv X pins σ (upd H s.heap.objs.size (.tup [x,y])) { s with heap:=h₂ }:=by
    refine I.step (t':=s.toks) (g':=s.gens) (d':=s.drawn) (ch:=[z,TO,j1,j2]) (fun a ha=>?_) (fun a o _ _ hc q _=>kc a o hc q)
     (fun a o _ _ hc q _=>⟨o.slots,kc a o hc q⟩) (fun a o _ q n=>by rw [upd_ne (Nat.ne_of_lt (Heap.lt_size q))];exact n)
     (fun a o hc q=>⟨o,kc a o hc q⟩) (fun a ys q=>by rw [upd_ne (ne_of_none q fresh)];exact q) (fun a o v q=>by rw [upd_ne (ne_of_none q fresh)];exact q)
     (fun a ps q=>⟨#[],by rw [upd_ne (ne_of_none q fresh),q];simp,.nil⟩) (fun m hm=>?_) (fun a v' q=>?_) I.bare
    ·simp only [List.mem_cons,List.not_mem_nil,or_false] at ha
     rcases ha with rfl|rfl|rfl|rfl
     ·exact ⟨z3,z1,z4,z5⟩
     ·exact ⟨o3,o1,o4,o5⟩
     ·exact ⟨f3,f1,f4,f5⟩
     ·exact ⟨g3,g1,g4,g5⟩
    ·obtain ⟨o,es,ep,ho',r⟩:=hm
     exact ⟨o,es,ep,kk _ o (Ne.symm z1) (Ne.symm o1) (Ne.symm f1) (Ne.symm g1) ho',r⟩
    ·by_cases hb:a=s.heap.objs.size
     ·subst hb
      rw [upd_same] at q
      cases q
      exact ⟨(by show 2≤sizeLine;decide),[u,v],.cons ru (.cons rv' .nil),⟨_,ht₂,rfl,_,rfl⟩⟩
     ·rw [upd_ne hb] at q
      refine (I.hok a v' q).stay (fun d ob hd e=>?_) (fun d e=>by rw [upd_ne (ne_of_none e fresh)];exact e) fun d ws e=>by rw [upd_ne (ne_of_none e fresh)];exact e
      rcases hd with hd|hd
      ·subst hd;exact nb _ _ _ e q
      ·exact nb _ _ _ e hd
   refine ⟨.ref s.heap.objs.size,_,I1,rfl,⟨s.heap.objs.size,x,y,fun ws hw=>by rw [I.sqx_inj hw hq];exact hx,fun ws hw=>by rw [I.sqx_inj hw hq'];exact hy,fresh,rfl,rfl⟩,⟨he₂,?_,⟨u,v,?_⟩,?_,?_⟩,fun a ha=>?_⟩
   ·exact hs₂.extBut _ _ D.TIz (hk _ _ D.TIz D.TITO D.TIi1 D.TIi2 s1)
   ·exact hs₂.extBut _ _ D.TOz a2
   ·exact a3.but hs₂ D.i1z
   ·exact a4.but hs₂ D.i2z
   ·have hlt:a<s.heap.objs.size:=by
     simp only [List.mem_cons,List.not_mem_nil,or_false] at ha
     rcases ha with rfl|rfl|rfl|rfl|rfl
     ·exact zlt
     ·exact Heap.lt_size s1
     ·exact Heap.lt_size s2
     ·obtain ⟨o,q,_⟩:=s3.obj;exact Heap.lt_size q
     ·obtain ⟨o,q,_⟩:=s4.obj;exact Heap.lt_size q
    rw [upd_ne (Nat.ne_of_lt hlt)]
    exact (hf a ha).1
  done:=by
   intro X hP hw hK hc i pins s σ H E I hf st hg
   subst hP hw hK
   obtain ⟨xs,ys,hq,hq',hx⟩:=hg
   obtain ⟨us,rv,p1⟩:=I.sqx hq
   obtain ⟨vs,rw',p2⟩:=I.sqx hq'
   obtain ⟨s0,s1,⟨x0,y0,s2⟩,s3,s4⟩:=st
   obtain ⟨z0,z1,z2,z3,z4,z5⟩:=hf z (by simp)
   obtain ⟨o0,o1,o2,o3,o4,o5⟩:=hf TO (by simp)
   obtain ⟨f0,f1,f2,f3,f4,f5⟩:=hf j1 (by simp)
   obtain ⟨g0,g1,g2,g3,g4,g5⟩:=hf j2 (by simp)
   have l1:=rv.length
   have l2:=rw'.length
   refine zpy_end (I.ok.hd hc) D s0 s1 s2 s3 s4 p1 p2 (by rcases hx with hx|hx;exact .inl (by simp;omega);exact .inr (by simp;omega)) fun h' hk=>⟨rfl,?_⟩
   have kc : ∀ a o,a ∉ [z,TO,j1,j2]→s.heap.get? a=some o→h'.get? a=some o:=fun a o hc q=>hk a o (fun z=>hc (by simp [z])) (fun z=>hc (by simp [z])) (fun z=>hc (by simp [z])) (fun z=>hc (by simp [z])) q
   have nb : ∀ a o v,s.heap.get? a=some o→H a=some v→h'.get? a=some o:=fun a o v e q=>hk a o (fun n=>by rw [n,z0] at q;cases q) (fun n=>by rw [n,o0] at q;cases q) (fun n=>by rw [n,f0] at q;cases q) (fun n=>by rw [n,g0] at q;cases q) e
   refine I.step (t':=s.toks) (g':=s.gens) (d':=s.drawn) (ch:=[z,TO,j1,j2]) (fun a ha=>?_) (fun a o _ _ hc q _=>kc a o hc q)
    (fun a o _ _ hc q _=>⟨o.slots,kc a o hc q⟩) (fun a o _ q n=>n) (fun a o hc q=>⟨o,kc a o hc q⟩) (fun a ys q=>q) (fun a o v q=>q) (fun a ps q=>⟨#[],by rw [q];simp,.nil⟩) (fun m hm=>?_) (fun a v' q=>?_) I.bare
   ·simp only [List.mem_cons,List.not_mem_nil,or_false] at ha
    rcases ha with rfl|rfl|rfl|rfl
    ·exact ⟨z3,z1,z4,z5⟩
    ·exact ⟨o3,o1,o4,o5⟩
    ·exact ⟨f3,f1,f4,f5⟩
    ·exact ⟨g3,g1,g4,g5⟩
   ·obtain ⟨o,es,ep,ho',r⟩:=hm
    exact ⟨o,es,ep,hk _ o (Ne.symm z1) (Ne.symm o1) (Ne.symm f1) (Ne.symm g1) ho',r⟩
   ·refine (I.hok a v' q).stay (fun d ob hd e=>?_) (fun d e=>e) fun d ws e=>e
    rcases hd with hd|hd
    ·subst hd;exact nb _ _ _ e q
    ·exact nb _ _ _ e hd
  self:=fun A i s Q E st h=>wpAny_pyIter_zip st.1 h
theorem boot_zip:bootBuiltins "zip" = some (.type "zip"):=by decide +kernel
section
variable {X:Cx}{elts:List Expr}{x1:Nat}{tpos:Pos}
def iZip (K:PySem.W.Frag) (ta:TA):TI:=fun σ H R=>ta σ H fun vs H1 => ∃ b c l m,vs=[.ref l,.ref m]∧(∃ xs,SqX b K H1 l xs)∧(∃ ys,SqX c K H1 m ys)∧R (Itz K b c l m) H1
theorem pi_zip {a b:Expr}{ta:TA}{p pos:Pos} (hg:Gl X "zip") (hm:X.mg "zip" = none) (ha:PA X [a,b] ta) (hs:starEach [a,b] X.env=[(false,eval a X.env),(false,eval b X.env)]:=by rfl) (hs2:starEach [b] X.env=[(false,eval b X.env)]:=by rfl) :
 PI X (.Tuple elts x1 tpos) (.Call (.Name "zip" p) [a,b] [] pos) (iZip X.K ta):=by
 intro pins s σ H R I h
 refine Call_ (ld_blt I hg hm boot_zip (PyProof.Rows.callWith_type1 (thn (ha pos pins s σ H _ I h) fun us s1 xx146=>?_) (by rw [hs,hs2]) (by rw [hs2];rfl)))
 obtain ⟨vs,H1,I1,r1,q1⟩:=xx146
 obtain ⟨kb,kc,l,m,e,⟨xs,hq⟩,⟨ys,hq'⟩,q⟩:=q1
 subst e
 cases r1 with
 | cons r rr =>
  cases rr with
  | cons r' rr =>
   cases rr
   cases r
   cases r'
   obtain ⟨its,rv,pl⟩:=I1.sqx hq
   obtain ⟨its',rv',pl'⟩:=I1.sqx hq'
   refine zp_call pl pl' fun h' a0 a1 a2 a3 a4 hk=>?_
   refine wpAny_pyIter_zip a0 ?_
   have I2:Inv X pins σ H1 { s1 with heap:=h' }:=I1.kept (t':=s1.toks) hk
   refine ⟨s1.heap.objs.size+4,[s1.heap.objs.size+4,s1.heap.objs.size+2,s1.heap.objs.size+3,s1.heap.objs.size,s1.heap.objs.size+1],_,_,H1,rfl,I2,turn_zip (b:=kb) (c:=kc) _ _ _ _ _ l m (zipApart_new pl.lt pl'.lt),⟨a0,a1,⟨_,_,a2⟩,a3,a4⟩,fun b hb=>?_,q⟩
   have hle:s1.heap.objs.size≤b:=by
    simp only [List.mem_cons,List.not_mem_nil,or_false] at hb
    rcases hb with rfl|rfl|rfl|rfl|rfl
    ·exact Nat.le_add_right _ 4
    ·exact Nat.le_add_right _ 2
    ·exact Nat.le_add_right _ 3
    ·exact Nat.le_refl _
    ·exact Nat.le_add_right _ 1
   exact I1.fpOk hle (I1.hok.fresh hle)
end
def zipD (l m:List PyData):List PyData:=(l.zip m).map fun p => .tuple [p.1,p.2]
theorem zipD_len (l m:List PyData):(zipD l m).length=min l.length m.length:=by simp [zipD]
theorem zipD_get {l m:List PyData}{i:Nat}{x y:PyData} (h1:l[i]?=some x) (h2:m[i]?=some y):(zipD l m)[i]?=some (.tuple [x,y]):=by
 unfold zipD
 rw [List.getElem?_map,List.getElem?_zip_eq_some (z:=(x,y)) |>.mpr ⟨h1,h2⟩];rfl
theorem zipD_inv {l m:List PyData}{i:Nat}{d:PyData} (h:(zipD l m)[i]?=some d) : ∃ x y,l[i]?=some x∧m[i]?=some y∧d = .tuple [x,y]:=by
 have hi:=(List.getElem?_eq_some_iff.mp h).1
 rw [zipD_len] at hi
 have h1:i<l.length:=by omega
 have h2:i<m.length:=by omega
 have e:=zipD_get (List.getElem?_eq_getElem h1) (List.getElem?_eq_getElem h2)
 rw [h] at e
 exact ⟨_,_,List.getElem?_eq_getElem h1,List.getElem?_eq_getElem h2,Option.some.inj e⟩
theorem same_seqX {b:Bool}{K:PySem.W.Frag}{F H:Hp}{a:Addr}{xs:List V} (s:Same F H) (h:SqX b K F a xs):SqX b K H a xs:=by
 cases b with
 | true=>exact same_seqT s h
 | false=>exact s.seq h
theorem itd_zip {b c:Bool}{K:PySem.W.Frag}{F:Hp}{a a':Addr}{xs ys:List V}{l m:List PyData} (hs:SqX b K F a xs) (hr:Iss K F l xs) (hs':SqX c K F a' ys) (hr':Iss K F m ys):ItD K (Itz K b c a a') F (zipD l m) where
 go:=fun i H s hi=>by
  rw [zipD_len] at hi
  exact ⟨xs,ys,xs[i]'(by rw [hr.len];omega),ys[i]'(by rw [hr'.len];omega),same_seqX s hs,same_seqX s hs',List.getElem?_eq_getElem _,List.getElem?_eq_getElem _⟩
 stop:=fun H s=>by
  rw [zipD_len]
  refine ⟨xs,ys,same_seqX s hs,same_seqX s hs',?_⟩
  rw [hr.len,hr'.len];omega
 yld:=fun i H x H' F1 s1 s2 hi hy=>by
  obtain ⟨p,y,y',hy,hy',hp,rfl,rfl⟩:=hy
  obtain ⟨d,e1,e2⟩:=hr.get' (hy xs (same_seqX (s1.trans s2) hs))
  obtain ⟨d',e1',e2'⟩:=hr'.get' (hy' ys (same_seqX (s1.trans s2) hs'))
  have g:=Go.put (o:=HO.tup [y,y']) s2 hp
  exact ⟨_,_,zipD_get e1 e1',g,is_tup (SqT.of upd_same) (iss_cons ((e2.mono s1).mono g.f) (iss_cons ((e2'.mono s1).mono g.f) iss_nil))⟩
theorem is_sqx {K:PySem.W.Frag}{F:Hp}{d:PyData}{l:List PyData}{v:V} (e:seqD d=some l) (i:Is K F d v) : ∃ b a xs,v = .ref a∧SqX b K F a xs∧Iss K F l xs:=by
 cases d with
 | list m=>cases e;obtain ⟨a,xs,rfl,hs,hr⟩:=i.lst_inv;exact ⟨false,a,xs,rfl,hs,hr⟩
 | tuple m=>cases e;obtain ⟨a,xs,rfl,hs,hr⟩:=i.tup_inv;exact ⟨true,a,xs,rfl,hs,hr⟩
 | _=>cases e
section
variable {X:Cx}{a b:Expr}{p pos:Pos}{elts:List Expr}{x1:Nat}{tpos:Pos}
def wiZip (Wa Wb:WE):WF:=fun env Q=>Wa env fun x e1=>Wb e1 fun y e=>(seqD x).elim False fun l=>(seqD y).elim False fun m=>Q (zipD l m) e
theorem vi_zip2 {Wa Wb:WE} (hm:X.mg "zip" = none) (ha:VE X a Wa) (hb:VE X b Wb) (hg:Gl X "zip":=by rfl) (hs:starEach [a,b] X.env=[(false,eval a X.env),(false,eval b X.env)]:=by rfl) (hs2:starEach [b] X.env=[(false,eval b X.env)]:=by rfl)
 (hs3:starEach [a,b] X.env=(false,eval a X.env)::starEach [b] X.env:=by rfl) (hs4:starEach [b] X.env=(false,eval b X.env)::starEach [] X.env:=by rfl):VI X (.Tuple elts x1 tpos) (.Call (.Name "zip" p) [a,b] [] pos) (wiZip Wa Wb) :=
 (pi_zip hg hm (pa_cons ha (pa_cons hb pa_nil hs4) hs3) hs hs2).imp fun σ H R xx147=>by
  obtain ⟨M,env,F,Q,I,h,k⟩:=xx147
  refine ⟨M,env,F,_,I,h,fun d v F1 H1 e1 I1 s1 i1 h1=>⟨M,e1,F1,_,I1,h1,fun d2 v2 F2 H2 e2 I2 s2 i2 h2=>?_⟩⟩
  cases q1:seqD d with
  | none=>rw [q1] at h2;exact h2.elim
  | some l =>
   cases q2:seqD d2 with
   | none=>rw [q1,q2] at h2;exact h2.elim
   | some m =>
    rw [q1,q2] at h2
    obtain ⟨kb,a1,xs,rfl,z1,z2⟩:=is_sqx q1 (i1.mono s2)
    obtain ⟨kc,a2,ys,rfl,z3,z4⟩:=is_sqx q2 i2
    exact ⟨kb,kc,a1,a2,rfl,⟨xs,same_seqX I2.fh z1⟩,⟨ys,same_seqX I2.fh z3⟩,k _ _ F2 H2 e2 I2 (s1.trans s2) (itd_zip z1 z2 z3 z4) h2⟩
end
end L2
namespace L2
open PySem PySem.Spec PyProof.Rows
theorem boot_ValueError:bootBuiltins "ValueError" = some (.type "ValueError"):=by decide +kernel
section
variable {X:Cx}
end
end L2
namespace L2
open PySem PySem.Spec PyProof.Rows
section
variable {X:Cx}{e:Expr}{W:WF}{We:WE}{pos:Pos}
def wExt (i:Nat) (W:WF):WS:=fun D env=>(gS env i).mut=true∧W env fun l e=>(gS e i).mut=true∧(gS e i).cnt.length+l.length≤sizeLine∧D.nx (e.set i ((gS e i).upd ((gS e i).cnt++l)))
theorem vs_extend (i:Nat) {x:Str}{px apos cpos:Pos} (he:VF X e W) (hN:X.N[i]?=some x:=by rfl) (hv:Vis X.env.scope x:=by first|exact Or.inl rfl|exact Or.inr (Or.inl rfl)|exact Or.inr (Or.inr rfl)) (hd:(x==("__debug__" : Str))=false:=by decide)
 (hcd:(x==("__classdict__" : Str))=false:=by decide)
 (hbase:attributeBase (.Name x px) "extend" X.env (eval (.Name x px) X.env)=eval (.Name x px) X.env:=by rfl)
 (hfew:((backTo cpos (starEach [e] X.env)).all (fun x => !x.1)&&(backToKw cpos (keywordEach [] X.env)).all (fun x=>x.1.isSome)
  && decide ([e].length+([]:List Keyword).length+(if ([]:List Keyword).isEmpty then 0 else 1)<30))=true:=by rfl)
 (hline:(apos.endLine==cpos.line)=true:=by rfl) (hst:starEach [e] X.env=(false,eval e X.env)::starEach [] X.env:=by rfl) (hplain:(backTo cpos (starEach [] X.env)).any (·.1)=false:=by rfl)
 (hs:swapsWith (.Call (.Attribute (.Name x px) "extend" apos) [e] [] cpos) none pos.line X.env=pure false:=by rfl):VS X (.Expr (.Call (.Attribute (.Name x px) "extend" apos) [e] [] cpos) pos) (wExt i W) :=
 (ps_expr (pe_bm PySem.F.plainAttrs_list PySem.F.slot_list_extend PySem.F.type_list_extend mt_extend (pe_var hN hv hd hcd) (pa_cons he pa_nil hst) hbase hfew hline hst hplain) hs).imp fun D σ H xx148=>by
  obtain ⟨M,env,F,DD,I,⟨hm,h⟩,k⟩:=xx148
  obtain ⟨p,vs,ep,g1,g2,g3,g4⟩:=(I.slot i).addr hm
  refine ⟨_,vS_some ep,.inl ⟨rfl,_,SqL.of g1⟩,M,env,F,_,I,h,fun a us ds F1 H1 e1 I1 s1 hH hF _ _ _ i1 h1=>?_⟩
  obtain ⟨m1,z1,q1⟩:=h1
  obtain ⟨p',vs1,ep',f1,f2,f3,f4⟩:=(I1.slot i).addr m1
  rw [ep] at ep';injection ep' with ep';injection ep' with ep';subst ep'
  exact ⟨p,a,vs1,us,rfl,rfl,f1,hH,by rw [f4.len,i1.len];exact z1,k.nx _ F1 _ σ (I1.chg m1 ep (iss_append f4 i1)) s1 q1⟩
end
end L2
namespace L2
open PySem PySem.Spec PyProof.Rows
section
variable {prog:Program}{w:World}{A:Around}{E:Value→Shared→Prop}{s:Shared}
end
section
variable {X:Cx}
end
end L2
namespace L2
open PySem PySem.Spec PyProof.Rows
section
variable {X:Cx}{a b c d:Expr}{pos:Pos}{ta tb tc td:TE}
variable {Wa Wb Wc Wd:WE}
end
end L2
namespace L2
open PySem PySem.Spec PyProof.Rows
section
variable {X:Cx}{elt target iter cnd:Expr}{scope:Scope}{pos:Pos}{caps own:List Str}{ix:List Nat}{wi:TI}{g:TG}{te:TE}{tt:TT}
section
variable {K:PySem.W.Frag}{ix:List Nat}{n:Nat}{Wi:WF}{G:WG}{Wt:WT}{We:WE}{σ:St}{H:Hp}{R:VK}
end
end
end L2
namespace L2
open PySem PySem.Spec PyProof.Rows
def isBl (k:Bool):Value→Bool
 | .bool b=>b==k
 | _=>false
theorem vals_bl : ∀ {bs:List Bool}{us:List Value},Vals (bs.map V.bl) us→us=bs.map Value.bool
 | [],_,.nil=>rfl
 | b::bs,_,.cons r t=>by
  cases r
  rw [vals_bl t];rfl
section
variable {X:Cx}
theorem mt_countB:MtM X "list.count" (fun x vs H Q => ∃ (a:Addr) (bs:List Bool) (k:Bool),x = .ref a∧vs=[.bl k]∧SqL X.K H a (bs.map V.bl)∧Q (.int ((bs.countP (· == k):Nat):Int)) H):=by
 intro pins s σ H x vs v us Q I rx rv h
 obtain ⟨a,bs,k,rfl,rfl,hs,q⟩:=h
 cases rx
 obtain ⟨u,rfl,ru⟩:=rv.one
 cases ru
 obtain ⟨its,r,⟨⟨cls,dd,data,sl⟩,n,e,hc,hd,hdt⟩,hz⟩:=I.list hs
 simp only at hc hd hdt
 subst hc hd hdt
 have ei:=vals_bl r
 refine call_meets F.slot_list_count ⟨_,e,rfl⟩ F.entry_list_count (F.args_list_count_2 _ _) (SeqAt.list_countAt a its.toArray n none sl (.bool k) (isBl k)) ⟨e,fun y hy=>?_,?_⟩
 ·have hy':y ∈ its:=by simpa using hy
  rw [ei] at hy'
  obtain ⟨b,_,rfl⟩:=List.mem_map.mp hy'
  exact SeqAt.EqAt.bool_bool b k
 ·have ec:its.toArray.toList.countP (isBl k)=bs.countP (· == k):=by
   show its.countP (isBl k)=_
   rw [ei,List.countP_map];rfl
  rw [ec]
  exact ⟨.int ((bs.countP (· == k):Nat):Int),H,I.tok _,⟨_,rfl⟩,q⟩
theorem mt_indexB:MtM X "list.index" (fun x vs H Q => ∃ (a:Addr) (bs:List Bool) (k:Bool) (j:Nat),x = .ref a∧vs=[.bl k]∧SqL X.K H a (bs.map V.bl)∧bs[j]?=some k∧(∀ m,m<j→bs[m]?≠some k)∧Q (.int (j:Nat)) H):=by
 intro pins s σ H x vs v us Q I rx rv h
 obtain ⟨a,bs,k,j,rfl,rfl,hs,hj,hno,q⟩:=h
 cases rx
 obtain ⟨u,rfl,ru⟩:=rv.one
 cases ru
 obtain ⟨its,r,⟨⟨cls,dd,data,sl⟩,n,e,hc,hd,hdt⟩,hz⟩:=I.list hs
 simp only at hc hd hdt
 subst hc hd hdt
 have ei:=vals_bl r
 subst ei
 have hjl:=(List.getElem?_eq_some_iff.mp hj).1
 have hjs:j<(bs.map Value.bool).toArray.size:=by simpa using hjl
 refine call_meets F.slot_list_index ⟨_,e,rfl⟩ F.entry_list_index (F.args_list_index_2 _ _) (SeqAt.list_indexAt a (bs.map Value.bool).toArray n none sl (.bool k) (isBl k) j hjs ?_ ?_ ?_) ⟨e,fun y hy=>?_,?_⟩
 ·have hz':bs.length≤sizeLine:=by simpa using hz
  have:sizeLine<2^62:=by decide
  omega
 ·have:=(List.getElem?_eq_some_iff.mp hj).2
  simp [isBl,this]
 ·intro m hm hmj
  have hml:m<bs.length:=by simpa using hm
  have:=hno m hmj
  rw [List.getElem?_eq_getElem hml] at this
  have h2:bs[m]≠k:=fun z=>this (by rw [z])
  simp [isBl,h2]
 ·have hy':y ∈ bs.map Value.bool:=by simpa using hy
  obtain ⟨b,_,rfl⟩:=List.mem_map.mp hy'
  exact SeqAt.EqAt.bool_bool b k
 ·exact ⟨.int (j:Nat),H,I.tok _,⟨_,rfl⟩,q⟩
end
theorem iss_bls {K:PySem.W.Frag}{F:Hp} : ∀ {bs:List Bool}{xs:List V},Iss K F (bs.map PyData.bool) xs→xs=bs.map V.bl
 | [],_,h=>h.nil_inv
 | b::bs,_,h=>by obtain ⟨y,ys,rfl,p,q⟩:=h.cons_inv;rw [p.bl_inv,iss_bls q];rfl
section
variable {X:Cx}{e:Expr}{We:WE}{pos:Pos}
def wMeth (i:Nat) (f:PyData→PyData→(PyData→Prop)→Prop) (W:WE):WE:=fun env Q => ∃ l,gS env i = .val (.list l)∧W env fun d e=>f (.list l) d fun r=>Q r e
def dCountB:PyData→PyData→(PyData→Prop)→Prop:=fun l d q => ∃ (bs:List Bool) (k:Bool),l = .list (bs.map .bool)∧d = .bool k∧q (.int ((bs.countP (· == k):Nat):Int))
def dIndexB:PyData→PyData→(PyData→Prop)→Prop:=fun l d q => ∃ (bs:List Bool) (k:Bool) (j:Nat),l = .list (bs.map .bool)∧d = .bool k∧bs[j]?=some k∧(∀ m,m<j→bs[m]?≠some k)∧q (.int (j:Nat))
variable {x:Str}{px apos cpos:Pos}
theorem ve_countB (i:Nat) (he:VE X e We) (hN:X.N[i]?=some x:=by rfl) (hv:Vis X.env.scope x:=by first|exact Or.inl rfl|exact Or.inr (Or.inl rfl)|exact Or.inr (Or.inr rfl)) (hd:(x==("__debug__" : Str))=false:=by decide)
 (hcd:(x==("__classdict__" : Str))=false:=by decide) (hbase:attributeBase (.Name x px) "count" X.env (eval (.Name x px) X.env)=eval (.Name x px) X.env:=by rfl)
 (hfew:((backTo cpos (starEach [e] X.env)).all (fun x => !x.1)&&(backToKw cpos (keywordEach [] X.env)).all (fun x=>x.1.isSome)&&decide ([e].length+([]:List Keyword).length+(if ([]:List Keyword).isEmpty then 0 else 1)<30))=true:=by rfl)
 (hline:(apos.endLine==cpos.line)=true:=by rfl) (hst:starEach [e] X.env=(false,eval e X.env)::starEach [] X.env:=by rfl) (hplain:(backTo cpos (starEach [] X.env)).any (·.1)=false:=by rfl) :
 VE X (.Call (.Attribute (.Name x px) "count" apos) [e] [] cpos) (wMeth i dCountB We) :=
 (pe_bm PySem.F.plainAttrs_list PySem.F.slot_list_count PySem.F.type_list_count mt_countB (pe_var hN hv hd hcd) (pa_cons he pa_nil hst) hbase hfew hline hst hplain).imp fun σ H R xx149=>by
  obtain ⟨M,env,F,Q,I,⟨l,hm,h⟩,k⟩:=xx149
  have S:=I.slot i
  rw [hm] at S
  obtain ⟨v,ev,jv⟩:=S
  obtain ⟨a,xs,rfl,hs,hr⟩:=jv.lst_inv
  refine ⟨_,vS_some ev,.inl ⟨rfl,xs,I.fh.seq hs⟩,M,env,F,_,I,h,fun d v F1 H1 e1 I1 s1 i1 h1=>?_⟩
  obtain ⟨bs,kb,el,rfl,q⟩:=h1
  cases el
  have ex:=iss_bls hr
  subst ex
  exact ⟨a,bs,kb,rfl,by rw [i1.bl_inv],(s1.trans I1.fh).seq hs,k _ _ F1 H1 e1 I1 s1 (is_int _) q⟩
theorem ve_indexB (i:Nat) (he:VE X e We) (hN:X.N[i]?=some x:=by rfl) (hv:Vis X.env.scope x:=by first|exact Or.inl rfl|exact Or.inr (Or.inl rfl)|exact Or.inr (Or.inr rfl)) (hd:(x==("__debug__" : Str))=false:=by decide)
 (hcd:(x==("__classdict__" : Str))=false:=by decide) (hbase:attributeBase (.Name x px) "index" X.env (eval (.Name x px) X.env)=eval (.Name x px) X.env:=by rfl)
 (hfew:((backTo cpos (starEach [e] X.env)).all (fun x => !x.1)&&(backToKw cpos (keywordEach [] X.env)).all (fun x=>x.1.isSome)&&decide ([e].length+([]:List Keyword).length+(if ([]:List Keyword).isEmpty then 0 else 1)<30))=true:=by rfl)
 (hline:(apos.endLine==cpos.line)=true:=by rfl) (hst:starEach [e] X.env=(false,eval e X.env)::starEach [] X.env:=by rfl) (hplain:(backTo cpos (starEach [] X.env)).any (·.1)=false:=by rfl) :
 VE X (.Call (.Attribute (.Name x px) "index" apos) [e] [] cpos) (wMeth i dIndexB We) :=
 (pe_bm PySem.F.plainAttrs_list PySem.F.slot_list_index PySem.F.type_list_index mt_indexB (pe_var hN hv hd hcd) (pa_cons he pa_nil hst) hbase hfew hline hst hplain).imp fun σ H R xx150=>by
  obtain ⟨M,env,F,Q,I,⟨l,hm,h⟩,k⟩:=xx150
  have S:=I.slot i
  rw [hm] at S
  obtain ⟨v,ev,jv⟩:=S
  obtain ⟨a,xs,rfl,hs,hr⟩:=jv.lst_inv
  refine ⟨_,vS_some ev,.inl ⟨rfl,xs,I.fh.seq hs⟩,M,env,F,_,I,h,fun d v F1 H1 e1 I1 s1 i1 h1=>?_⟩
  obtain ⟨bs,kb,j,el,rfl,hj,hno,q⟩:=h1
  cases el
  have ex:=iss_bls hr
  subst ex
  exact ⟨a,bs,kb,j,rfl,by rw [i1.bl_inv],(s1.trans I1.fh).seq hs,hj,hno,k _ _ F1 H1 e1 I1 s1 (is_int _) q⟩
def wIsNX (i:Nat):WE:=fun env Q=>match gS env i with | .exc _=>Q (.bool false) env | .val d=>Q (.bool (isNoneD d)) env|_=>False
theorem isNX_lift {σ:St}{H:Hp}{R:VK}{i:Nat} (h:liftE X.K (wIsNX i) σ H R):tVar i σ H fun x H1=>tC .non σ H1 fun y H2=>y = .non∧R (.bl (decide (x = .non))) H2:=by
 obtain ⟨M,env,F,Q,I,h,k⟩:=h
 have S:=I.slot i
 unfold wIsNX at h
 cases q:gS env i with
 | exc C =>
  rw [q] at S h
  obtain ⟨ea,e,z⟩:=S
  exact ⟨_,vS_some e,rfl,k _ _ F H env I (.refl _) (is_bl _) h⟩
 | val d =>
  rw [q] at S h
  obtain ⟨v,e,j⟩:=S
  exact ⟨_,vS_some e,rfl,by rw [is_none_iff j];exact k _ _ F H env I (.refl _) (is_bl _) h⟩
 | non=>rw [q] at h;exact h.elim
 | obj a0 C nm fs=>rw [q] at h;exact h.elim
 | own ds=>rw [q] at h;exact h.elim
 | pen ds=>rw [q] at h;exact h.elim
 | new d=>rw [q] at h;exact h.elim
theorem vt_isNX (i:Nat) {pc:Pos}{jj} (hN:X.N[i]?=some x:=by rfl) (hv:Vis X.env.scope x:=by first|exact Or.inl rfl|exact Or.inr (Or.inl rfl)|exact Or.inr (Or.inr rfl)) (hd:(x==("__debug__" : Str))=false:=by decide)
 (hcd:(x==("__classdict__" : Str))=false:=by decide) (hm:behindInMarks .Is (.Constant .none jj pc)=false:=by first|exact nomark _|with_unfolding_all rfl):VT X (.Compare (.Name x px) [.Is] [.Constant .none jj pc] pos) (wTest (wIsNX i)) :=
 (pt_cmpR op_isN (pe_var hN hv hd hcd) pe_non hm).imp fun σ H R h=>isNX_lift (test_lift h)
end
end L2
namespace L2
open PySem PySem.Spec PyProof.Rows
section
variable {prog:Program}{w:World}{A:Around}{E:Value→Shared→Prop}{s:Shared}
end
section
variable {X:Cx}{elts:List Expr}{x1:Nat}{tpos:Pos}
end
section
variable {X:Cx}{a:Expr}{W:WE}{p pos:Pos}
variable {e1 e2:Expr}{W1 W2:WE}
end
end L2
namespace L2
open PySem PySem.Spec PyProof.Rows
section
variable {X:Cx}
end
end L2
namespace L2
open PySem PySem.Spec PyProof.Rows
section
variable {X:Cx}
end
end L2
namespace L2
open PySem PySem.Spec PyProof.Rows
section
variable {X:Cx}
end
section
variable {P:Program}{w:World}{K:PySem.W.Frag}{mg:Str→Option Value}{base:Heap}
end
end L2
namespace L2
open PySem PySem.Spec PyProof.Rows
section
variable {X:Cx}{elt target iter cnd:Expr}{scope:Scope}{pos:Pos}{caps own:List Str}{ix:List Nat}{wi:TI}{g:TG}{te:TE}{tt:TT}
end
section
variable {X:Cx}{elt target iter cnd:Expr}{scope:Scope}{pos py spos:Pos}{caps own:List Str}{ix:List Nat}{Wi:WF}{G:WG}{Wt:WT}{We:WE}{i:Nat}{y:Str}
end
end L2
namespace L2
open PySem PySem.Spec PyProof.Rows
section
variable {κ:Type} [DecidableEq κ]
end
section
variable {P:Program}{w:World}{H:Hp}{h:Heap}{a:Addr}
end
section
variable {X:Cx}{pins:List (Addr×Obj)}{σ:St}{H:Hp}{s:Shared}{a:Addr}{y v:V}{u r:Value}{o:Option V}{A:Around}{E:Value→Shared→Prop}
end
section
variable {X:Cx}{pins:List (Addr×Obj)}{σ:St}{H:Hp}{s:Shared}{a:Addr}{kvs:List (Key×V)}{k:Key}{u:Value}{A:Around}{E:Value→Shared→Prop}
end
section
variable {X:Cx}{o i e value:Expr}{pos pos' tpos:Pos}{td ty tv:TE}
end
section
variable {X:Cx}{pos:Pos}
end
section
variable {X:Cx}{pins:List (Addr×Obj)}{σ:St}{H:Hp}{s:Shared}{a:Addr}{y d:V}{u r:Value}{o:Option V}{A:Around}{E:Value→Shared→Prop}
end
section
variable {X:Cx}{o e f:Expr}{apos cpos:Pos}{td ty tx:TE}
end
end L2
namespace L2
open PySem PySem.Spec PyProof.Rows
section
variable {X:Cx}
end
end L2
namespace L2
open PySem PySem.Spec PyProof.Rows
section
variable {P:Program}{w:World}{K:PySem.W.Frag}{mg:Str→Option Value}{base:Heap}
end
section
variable {X:Cx}
end
end L2
namespace L2
open PySem PySem.Spec PyProof.Rows
section
variable {X:Cx}
end
mutual
def flatD:PyData→Bool
 | .list _=>false
 | .dict _=>false
 | .tuple l=>flatDs l
 | _=>true
def flatDs:List PyData→Bool
 | []=>true
 | d::l=>flatD d&&flatDs l
end
mutual
theorem Is.off {K:PySem.W.Frag}{F:Hp}{a:Addr}{xs:List V} (hF:F a=some (.lst xs)) : ∀ {d:PyData}{v:V},flatD d=true→Is K F d v→Is K (offA F a) d v
 | .none,_,_,h=>by unfold Is at h ⊢;exact h
 | .bool _,_,_,h=>by unfold Is at h ⊢;exact h
 | .int _,_,_,h=>by unfold Is at h ⊢;exact h
 | .str _,_,_,h=>by unfold Is at h ⊢;exact h
 | .list l,_,z,h=>by simp [flatD] at z
 | .dict l,_,z,h=>by simp [flatD] at z
 | .tuple l,_,z,h=>by
  unfold Is at h ⊢
  obtain ⟨b,ys,e,q,r⟩:=h
  refine ⟨b,ys,e,?_,Iss.off hF (by simpa [flatD] using z) r⟩
  rcases q with q|q
  ·refine .inl ?_
   rcases q with q|⟨o,q⟩
   ·refine .inl ?_
    unfold offA
    rw [if_neg (fun y=>by subst y;rw [hF] at q;cases q)];exact q
   ·refine .inr ⟨o,?_⟩
    unfold offA
    rw [if_neg (fun y=>by subst y;rw [hF] at q;cases q)];exact q
  ·exact .inr q
theorem Iss.off {K:PySem.W.Frag}{F:Hp}{a:Addr}{xs:List V} (hF:F a=some (.lst xs)) : ∀ {l:List PyData}{vs:List V},flatDs l=true→Iss K F l vs→Iss K (offA F a) l vs
 | [],_,_,h=>by unfold Iss at h ⊢;exact h
 | d::l,_,z,h=>by
  unfold Iss at h ⊢
  obtain ⟨x,r,e,p,q⟩:=h
  have z':flatD d=true∧flatDs l=true:=by simpa [flatDs] using z
  exact ⟨x,r,e,Is.off hF z'.1 p,Iss.off hF z'.2 q⟩
end
section
variable {X:Cx}
end
end L2
namespace L2
open PySem PySem.Spec PyProof.Rows
section
variable {K:PySem.W.Frag}{M:Frm}{F H:Hp}
end
section
variable {X:Cx}
end
section
variable {X:Cx}
end
end L2
namespace L2
open PySem PySem.Spec PyProof.Rows
section
variable {X:Cx}
end
end L2
namespace L2
open PySem PySem.Spec PyProof.Rows
section
variable {X:Cx}
end
end L2
namespace L2
open PySem PySem.Spec PyProof.Rows
section
variable {X:Cx}{e:Expr}{We:WE}{pos:Pos}
end
end L2
namespace L2
open PySem PySem.Spec PyProof.Rows
section
variable {X:Cx}
end
end L2
namespace L2
open PySem PySem.Spec PyProof.Rows
section
variable {X:Cx}{pos:Pos}
end
end L2
namespace L2
open PySem PySem.Spec PyProof.Rows
mutual
def flatN:PyData→Bool
 | .list _=>false
 | .dict _=>false
 | .tuple l=>flatNs l
 | _=>true
def flatNs:List PyData→Bool
 | []=>true
 | d::l=>flatN d&&flatNs l
end
mutual
theorem is_off {K:PySem.W.Frag}{F:Hp}{a:Addr}{vs:List V} (h:F a=some (.lst vs)) : ∀ {d:PyData}{v:V},flatN d=true→Is K F d v→Is K (offA F a) d v
 | .none,_,_,i=>by unfold Is at i ⊢;exact i
 | .bool _,_,_,i=>by unfold Is at i ⊢;exact i
 | .int _,_,_,i=>by unfold Is at i ⊢;exact i
 | .str _,_,_,i=>by unfold Is at i ⊢;exact i
 | .list l,_,z,_=>by unfold flatN at z;cases z
 | .dict l,_,z,_=>by unfold flatN at z;cases z
 | .tuple l,_,z,i=>by
  unfold flatN at z
  unfold Is at i ⊢
  obtain ⟨b,xs,e,q,r⟩:=i
  refine ⟨b,xs,e,?_,iss_off h z r⟩
  rcases q with (q|⟨o,q⟩)|q
  ·exact .inl (.inl (by unfold offA;rw [if_neg (fun c=>by rw [c,h] at q;cases q)];exact q))
  ·exact .inl (.inr ⟨o,by unfold offA;rw [if_neg (fun c=>by rw [c,h] at q;cases q)];exact q⟩)
  ·exact .inr q
theorem iss_off {K:PySem.W.Frag}{F:Hp}{a:Addr}{vs:List V} (h:F a=some (.lst vs)) : ∀ {l:List PyData}{xs:List V},flatNs l=true→Iss K F l xs→Iss K (offA F a) l xs
 | [],_,_,i=>by unfold Iss at i ⊢;exact i
 | d::l,_,z,i=>by
  unfold flatNs at z
  rw [Bool.and_eq_true] at z
  unfold Iss at i ⊢
  obtain ⟨x,r,e,p,q⟩:=i
  exact ⟨x,r,e,is_off h z.1 p,iss_off h z.2 q⟩
end
section
variable {X:Cx}
end
end L2
namespace L2
open PySem PySem.Spec PyProof.Rows
section
variable {X:Cx}{Ex:St→XK}{a b:Expr}{rest:List Expr}{pos:Pos}{Wa Wx2:WX→WE}{Wb:WE}
end
end L2
namespace L2
open PySem PySem.Spec PyProof.Rows
section
variable {X:Cx}
end
section
variable {X:Cx}{elt target iter cnd:Expr}{scope:Scope}{pos py spos:Pos}{caps own:List Str}{ix:List Nat}{Wi:WF}{G:WG}{Wt:WT}{We:WE}{i:Nat}{y:Str}
end
end L2
namespace L2
open PySem PySem.Spec PyProof.Rows
section
variable {X:Cx}{b:Expr}{Wb:WE}{pos px:Pos}
end
end L2
namespace L2
open PySem PySem.Spec PyProof.Rows
section
variable {X:Cx}{Ex:St→XK}{pos:Pos}{Wt:WX→WS}
end
end L2
namespace My
open PySem L2
seal VE VF VA VT VW VS VSs VG VGs VI VO OpV CallV CallVF VN VFN VST VSsT VEX VSX VSsX
def top (i:Nat):Stmt:=PySem.Challenge.pw_dullglass_k14_what_does_not_fit.main.body.getD i (.Pass ⟨0,0,0,0⟩)
abbrev s_is_whole:Stmt:=top 13
abbrev s_divisor:Stmt:=top 14
abbrev s_reduced:Stmt:=top 16
abbrev s_share:Stmt:=top 15
abbrev s__law_drawn:Stmt:=top 39
abbrev s__law_common:Stmt:=top 40
abbrev s__law_made:Stmt:=top 41
abbrev s__law_cut:Stmt:=top 42
abbrev s__law_rows:Stmt:=top 43
abbrev s__law_glass:Stmt:=top 44
abbrev s_common_divisor:Stmt:=top 21
abbrev s_divided:Stmt:=top 23
abbrev s_lowest_table:Stmt:=top 22
abbrev s_signs:Stmt:=top 25
abbrev s_column:Stmt:=top 26
abbrev s_paired:Stmt:=top 27
abbrev s_passed_row:Stmt:=top 31
abbrev s_passed_on:Stmt:=top 30
abbrev s_dulled:Stmt:=top 29
abbrev s_scaled:Stmt:=top 35
abbrev s_both_seen:Stmt:=top 33
abbrev s_stands:Stmt:=top 24
abbrev s_check_alike_stands:Stmt:=top 36
abbrev s_check_not_too_many:Stmt:=top 37
abbrev s_beside:Stmt:=top 32
abbrev s_is_share:Stmt:=top 17
abbrev s_is_part:Stmt:=top 18
abbrev s_mixed:Stmt:=top 34
abbrev s__law_word:Stmt:=top 45
abbrev s__law_due:Stmt:=top 46
abbrev s_law:Stmt:=top 47
theorem sc0 {N P:List Str}{sc:Scope} (a:sc.kind = .function:=by rfl) (b:sc.isCoroutine=false:=by rfl) (c:sc.isGenerator=false:=by rfl) (d:N.Nodup:=by decide +kernel) (e:N.take P.length=P:=by rfl) (f : ∀ x ∈ P,sc.names.lookup x=some .local∨sc.names.lookup x=some .cell:=by decide +kernel) (g : ∀ y ∈ sc.names,y.2 ≠ .free:=by decide +kernel):FnScope N P sc:=⟨a,b,c,d,e,f,g⟩
structure Cs where
 Full:Addr
 GlassError:Addr
 NoBeliefs:Addr
 NoDulling:Addr
 NoFit:Addr
 NoGlass:Addr
 NoName:Addr
 NoRow:Addr
 NoShare:Addr
 NoText:Addr
 TooMany:Addr
structure Txt (K:PySem.W.Frag) (mg:Str→Option Value) (cs:Cs):Prop where
 Full_:mg "Full" = some (.ref cs.Full)
 GlassError_:mg "GlassError" = some (.ref cs.GlassError)
 NoBeliefs_:mg "NoBeliefs" = some (.ref cs.NoBeliefs)
 NoDulling_:mg "NoDulling" = some (.ref cs.NoDulling)
 NoFit_:mg "NoFit" = some (.ref cs.NoFit)
 NoGlass_:mg "NoGlass" = some (.ref cs.NoGlass)
 NoName_:mg "NoName" = some (.ref cs.NoName)
 NoRow_:mg "NoRow" = some (.ref cs.NoRow)
 NoShare_:mg "NoShare" = some (.ref cs.NoShare)
 NoText_:mg "NoText" = some (.ref cs.NoText)
 TooMany_:mg "TooMany" = some (.ref cs.TooMany)
 GlassError_e:PySem.W.excIn K cs.GlassError bmVE "ValueError.__new__" = true
 NoFit_e:PySem.W.excIn K cs.NoFit bmVE "ValueError.__new__" = true
 NoShare_e:PySem.W.excIn K cs.NoShare bmVE "ValueError.__new__" = true
 TooMany_e:PySem.W.excIn K cs.TooMany bmVE "ValueError.__new__" = true
 NoFit_x:XCls K cs.NoFit
 u_NoFit_GlassError:Under K cs.NoFit cs.GlassError
 k_NoFit_Full_NoBeliefs_NoDulling_NoGlass_NoName_NoRow_NoText:PySem.W.kitAny K (.ref cs.NoFit) [.ref cs.Full,.ref cs.NoBeliefs,.ref cs.NoDulling,.ref cs.NoGlass,.ref cs.NoName,.ref cs.NoRow,.ref cs.NoText]=some false
 k_NoFit_ValueError:PySem.W.kitOne K (.ref cs.NoFit) (.type "ValueError")=some true
 k_NoFit_TooMany:PySem.W.kitOne K (.ref cs.NoFit) (.ref cs.TooMany)=some false
 k_NoFit_NoShare:PySem.W.kitOne K (.ref cs.NoFit) (.ref cs.NoShare)=some false
 k_NoFit_NoFit:PySem.W.kitOne K (.ref cs.NoFit) (.ref cs.NoFit)=some true
 NoShare_x:XCls K cs.NoShare
 u_NoShare_GlassError:Under K cs.NoShare cs.GlassError
 k_NoShare_Full_NoBeliefs_NoDulling_NoGlass_NoName_NoRow_NoText:PySem.W.kitAny K (.ref cs.NoShare) [.ref cs.Full,.ref cs.NoBeliefs,.ref cs.NoDulling,.ref cs.NoGlass,.ref cs.NoName,.ref cs.NoRow,.ref cs.NoText]=some false
 k_NoShare_ValueError:PySem.W.kitOne K (.ref cs.NoShare) (.type "ValueError")=some true
 k_NoShare_TooMany:PySem.W.kitOne K (.ref cs.NoShare) (.ref cs.TooMany)=some false
 k_NoShare_NoShare:PySem.W.kitOne K (.ref cs.NoShare) (.ref cs.NoShare)=some true
 k_NoShare_NoFit:PySem.W.kitOne K (.ref cs.NoShare) (.ref cs.NoFit)=some false
 TooMany_x:XCls K cs.TooMany
 u_TooMany_GlassError:Under K cs.TooMany cs.GlassError
 k_TooMany_Full_NoBeliefs_NoDulling_NoGlass_NoName_NoRow_NoText:PySem.W.kitAny K (.ref cs.TooMany) [.ref cs.Full,.ref cs.NoBeliefs,.ref cs.NoDulling,.ref cs.NoGlass,.ref cs.NoName,.ref cs.NoRow,.ref cs.NoText]=some false
 k_TooMany_ValueError:PySem.W.kitOne K (.ref cs.TooMany) (.type "ValueError")=some true
 k_TooMany_TooMany:PySem.W.kitOne K (.ref cs.TooMany) (.ref cs.TooMany)=some true
 k_TooMany_NoShare:PySem.W.kitOne K (.ref cs.TooMany) (.ref cs.NoShare)=some false
 k_TooMany_NoFit:PySem.W.kitOne K (.ref cs.TooMany) (.ref cs.NoFit)=some false
 ValueError_:mg "ValueError" = none
 abs_:mg "abs" = none
 bool_:mg "bool" = none
 enumerate_:mg "enumerate" = none
 int_:mg "int" = none
 isinstance_:mg "isinstance" = none
 len_:mg "len" = none
 max_:mg "max" = none
 min_:mg "min" = none
 range_:mg "range" = none
 sorted_:mg "sorted" = none
 sum_:mg "sum" = none
 tuple_:mg "tuple" = none
 zip_:mg "zip" = none
 MOST_SIGNS_ : ∃ t,mg "MOST_SIGNS" = some (.int 12 t)
section
variable {P:Program}{w:World}{K:PySem.W.Frag}{mg:Str→Option Value}{base:Heap}{cs:Cs}
def wholeD:PyData→Bool
 | .int _=>true
 | _=>false
def sp_is_whole:DC
 | [d],q=>q (.bool (wholeD d))
 | _,_=>False
theorem sc_is_whole:FnScope ["thing"] ["thing"] (defScope s_is_whole):=sc0
theorem ok_is_whole (F:Def K mg "is_whole" s_is_whole ["thing"]) (T:Txt K mg cs)
 : Ok P w K mg base "is_whole" 1 ["thing"] (PSp K sp_is_whole):=by
  refine F.vok sc_is_whole (fun ds q h=>by unfold sp_is_whole at h;split at h;all_goals first|rfl|exact h.elim) fun f cdv A outer s H E hr ds q h=>?_
  match ds,h with
  | [d],h =>
  refine ⟨_,(vss_one (vs_ret (ve_and (ve_isi T.isinstance_ T.int_ L2.boot_int (ve_var 0)) (ve_one (ve_not (ve_isi T.isinstance_ T.bool_ L2.boot_bool (ve_var 0))))))),?_⟩
  cases d <;> exact h
theorem gcd_turn {a b:Int}{g:Nat} (h0:0≤a) (hb:0≤b) (h1:b≠0) (h:Nat.gcd a.toNat b.toNat=g) :
 0≤a%b∧a%b<b∧Nat.gcd b.toNat (a%b).toNat=g:=by
  have hp:0<b:=by omega
  have e1:=Int.emod_nonneg a h1
  have e2:=Int.emod_lt_of_pos a hp
  refine ⟨e1,e2,?_⟩
  have e3:(a%b).toNat=a.toNat%b.toNat:=by
   have:((a.toNat%b.toNat:Nat):Int)=a%b:=by
    rw [Int.natCast_emod,Int.toNat_of_nonneg h0,Int.toNat_of_nonneg hb]
   rw [← this];rfl
  rw [e3,← h,Nat.gcd_comm b.toNat,Nat.gcd_comm a.toNat]
  exact (Nat.gcd_rec _ _).symm
theorem gcd_end {a:Int}{b:Int}{g:Nat} (h0:0≤a) (h1:b=0) (h:Nat.gcd a.toNat b.toNat=g):a=(g:Int):=by
 subst h1
 rw [← h]
 have:Nat.gcd a.toNat (Int.toNat 0)=a.toNat:=Nat.gcd_zero_right _
 rw [this];omega
theorem gcd_start (a b:Int):Nat.gcd (if a<0 then -a else a).toNat (if b<0 then -b else b).toNat=Int.gcd a b:=by
 have e : ∀ x:Int,(if x<0 then -x else x).toNat=x.natAbs:=fun x=>by split <;> omega
 rw [e,e];rfl
structure Shr (p q:Int):Prop where
 pos:1≤q
 gcd:Int.gcd p q=1
def cm (t b:Int):Int:=if b<0 then -(Int.gcd t b:Int) else (Int.gcd t b:Int)
def shT (t b:Int):Int:=t.fdiv (cm t b)
def shB (t b:Int):Int:=b.fdiv (cm t b)
theorem gcd_pos {t b:Int} (hb:b≠0):0<Int.gcd t b:=Int.gcd_pos_of_ne_zero_right t hb
theorem cm_ne {t b:Int} (hb:b≠0):cm t b≠0:=by
 have:=gcd_pos (t:=t) hb
 unfold cm;split <;> omega
theorem cm_dvd_t (t b:Int):cm t b∣t:=by
 have h:(Int.gcd t b:Int)∣t:=Int.gcd_dvd_left ..
 unfold cm;split
 ·exact Int.neg_dvd.mpr h
 ·exact h
theorem cm_dvd_b (t b:Int):cm t b∣b:=by
 have h:(Int.gcd t b:Int)∣b:=Int.gcd_dvd_right ..
 unfold cm;split
 ·exact Int.neg_dvd.mpr h
 ·exact h
theorem fdiv_of_dvd {c t:Int} (h:c∣t):c*(t.fdiv c)=t:=Int.mul_fdiv_cancel' h
theorem shT_mul (t b:Int):cm t b*shT t b=t:=fdiv_of_dvd (cm_dvd_t t b)
theorem shB_mul (t b:Int):cm t b*shB t b=b:=fdiv_of_dvd (cm_dvd_b t b)
theorem natAbs_cm (t b:Int):(cm t b).natAbs=Int.gcd t b:=by unfold cm;split <;> omega
theorem sh_ok {t b:Int} (hb:b≠0):Shr (shT t b) (shB t b)∧shT t b*b=t*shB t b:=by
 have h1:=shT_mul t b
 have h2:=shB_mul t b
 have hc:=cm_ne (t:=t) hb
 have hg:=gcd_pos (t:=t) hb
 refine ⟨⟨?_,?_⟩,?_⟩
 ·by_cases hn:b<0
  ·have hcn:cm t b<0:=by unfold cm;rw [if_pos hn];omega
   have:0<shB t b:=by
    rcases Int.lt_or_le 0 (shB t b) with h|h
    ·exact h
    ·have:=Int.mul_nonneg_of_nonpos_of_nonpos (Int.le_of_lt hcn) h
     omega
   omega
  ·have hcn:0<cm t b:=by unfold cm;rw [if_neg hn];omega
   have hbp:0<b:=by omega
   have:0<shB t b:=by
    rcases Int.lt_or_le 0 (shB t b) with h|h
    ·exact h
    ·have:=Int.mul_nonpos_of_nonneg_of_nonpos (Int.le_of_lt hcn) h
     omega
   omega
 ·have e:Int.gcd (cm t b*shT t b) (cm t b*shB t b)=(cm t b).natAbs*Int.gcd (shT t b) (shB t b):=Int.gcd_mul_left ..
  rw [h1,h2,natAbs_cm] at e
  have e2:Int.gcd t b*1=Int.gcd t b*Int.gcd (shT t b) (shB t b):=by omega
  exact (Nat.eq_of_mul_eq_mul_left hg e2).symm
 ·have e:shT t b*(cm t b*shB t b)=(cm t b*shT t b)*shB t b:=by
   rw [← Int.mul_assoc,Int.mul_comm (shT t b)]
  rw [h2,h1] at e
  exact e
def sp_divisor:DC
 | [.int a,.int b],q=>q (.int (Int.gcd a b))
 | _,_=>False
theorem abs_nn (x:Int):0≤(if x<0 then -x else x):=by split <;> omega
theorem sc_divisor:FnScope ["one","other","rest"] ["one","other"] (defScope s_divisor):=sc0
theorem ok_divisor (F:Def K mg "divisor" s_divisor ["one","other"]) (T:Txt K mg cs)
 : Ok P w K mg base "divisor" 1 ["one","other"] (PSp K sp_divisor):=by
  refine F.vok sc_divisor (fun ds q h=>by unfold sp_divisor at h;split at h;all_goals first|rfl|exact h.elim) fun f cdv A outer s H E hr ds q h=>?_
  match ds,h with
  | [.int a,.int b],h =>
  refine ⟨_,(vss_cons (vs_set (i:=0) sc_divisor.nd (ve_callB c_abs T.abs_ L2.boot_abs (va_cons (ve_var 0) va_nil)))
   (vss_cons (vs_set (i:=1) sc_divisor.nd (ve_callB c_abs T.abs_ L2.boot_abs (va_cons (ve_var 1) va_nil)))
   (vss_cons (vs_while (vt_cmp (o_ne hr.units) (ve_var 1) ve_int) (vss_cons (vs_set (i:=2) sc_divisor.nd (ve_op o_mod (ve_var 0) (ve_var 1)))
   (vss_cons (vs_set (i:=0) sc_divisor.nd (ve_var 1))
   (vss_one (vs_set (i:=1) sc_divisor.nd (ve_var 2))))))
   (vss_one (vs_ret (ve_var 0)))))),?_⟩
  refine ⟨fun m e => ∃ x y r,e=[.val (.int x),.val (.int y),r]∧0≤x∧0≤y∧Nat.gcd x.toNat y.toNat=Int.gcd a b∧m=y.toNat,⟨_,_,_,_,rfl,abs_nn a,abs_nn b,gcd_start a b,rfl⟩,?_⟩
  rintro m e ⟨x,y,r,rfl,hx,hy,hg,rfl⟩
  refine ⟨rfl,rfl,ite_ne (fun hne=>?_) (fun he=>?_)⟩
  ·obtain ⟨t1,t2,t3⟩:=gcd_turn hx hy hne hg
   exact ⟨by omega,(x%y).toNat,by omega,y,x%y,_,rfl,hy,t1,t3,rfl⟩
  ·subst he
   have:=gcd_end hx rfl hg
   rw [this];exact h
open Builtin.Int (intBits)
theorem cm_bits {t b:Int}{m:Nat} (hb:b≠0) (h:intBits b≤m):intBits (cm t b)≤m:=by
 refine intBits_le_of_natAbs ?_ h
 rw [natAbs_cm]
 exact Nat.le_of_dvd (by omega) (Nat.gcd_dvd_right t.natAbs b.natAbs)
theorem shB_bits {t b:Int}{m:Nat} (h:intBits b≤m):intBits (shB t b)≤m:=intBits_fdiv_le h
theorem mulok {a b:Int} (ha:intBits a≤4000) (hb:intBits b≤4000):IntMulOk a b :=.of_le ha hb (by decide)
theorem bits_up {x:Int}{m n:Nat} (h:intBits x≤m) (e:m≤n):intBits x≤n:=Nat.le_trans h e
theorem bits64 {x:Int} (h1 : -(2^64)<x) (h2:x<2^64):intBits x≤64:=intBits_le_64 h1 h2
def dSh (p q:Int):PyData :=.tuple [.int p,.int q]
def sp_reduced:DC
 | [.int t,.int b],q=>(b≠0∧intBits b≤9000)∧q (dSh (shT t b) (shB t b))
 | _,_=>False
theorem sc_reduced:FnScope ["top","bottom","common"] ["top","bottom"] (defScope s_reduced):=sc0
theorem ok_reduced (F:Def K mg "reduced" s_reduced ["top","bottom"]) (T:Txt K mg cs)
 (O_divisor:Ok P w K mg base "divisor" 1 ["one","other"] (PSp K sp_divisor))
 : Ok P w K mg base "reduced" 2 ["top","bottom"] (PSp K sp_reduced):=by
  refine F.vok sc_reduced (fun ds q h=>by unfold sp_reduced at h;split at h;all_goals first|rfl|exact h.elim) fun f cdv A outer s H E hr ds q h=>?_
  match ds,h with
  | [.int t,.int b],⟨⟨hb,hz⟩,h⟩ =>
  refine ⟨_,(vss_cons (vs_set (i:=2) sc_reduced.nd (ve_fn O_divisor.c (hr.mono (by decide)) (va_cons (ve_var 0) (va_cons (ve_var 1) va_nil))))
   (vss_mid (vs_if (vt_cmp o_lt (ve_var 1) ve_int) (vss_one (vs_set (i:=2) sc_reduced.nd (ve_neg (ve_var 2)))) vss_nil)
   (vss_one (vs_ret (ve_tup (va_cons (ve_op o_fdiv (ve_var 0) (ve_var 2)) (va_cons (ve_op o_fdiv (ve_var 1) (ve_var 2)) va_nil))))))),?_⟩
  have hc:=cm_ne (t:=t) hb
  have hcz:=cm_bits (t:=t) hb hz
  refine ⟨fun e=>e=[.val (.int t),.val (.int b),.val (.int (cm t b))],?_,?_⟩
  ·refine iteD (fun hn=>?_) (fun hn=>?_)
   ·show _=_
    unfold cm;rw [if_pos hn];rfl
   ·show _=_
    unfold cm;rw [if_neg hn];rfl
  ·rintro e rfl
   exact ⟨⟨hc,hcz⟩,⟨hc,hcz⟩,szl,h⟩
def sp_share:DC
 | [.int t,.int b],q=>(b≠0∧intBits b≤9000)∧q (dSh (shT t b) (shB t b))
 | _,_=>False
theorem sc_share:FnScope ["top","bottom"] ["top","bottom"] (defScope s_share):=sc0
theorem ok_share (F:Def K mg "share" s_share ["top","bottom"]) (T:Txt K mg cs)
 (O_is_whole:Ok P w K mg base "is_whole" 1 ["thing"] (PSp K sp_is_whole))
 (O_reduced:Ok P w K mg base "reduced" 2 ["top","bottom"] (PSp K sp_reduced))
 : Ok P w K mg base "share" 3 ["top","bottom"] (PSp K sp_share):=by
  refine F.vok sc_share (fun ds q h=>by unfold sp_share at h;split at h;all_goals first|rfl|exact h.elim) fun f cdv A outer s H E hr ds q h=>?_
  match ds,h with
  | [.int t,.int b],h =>
  refine ⟨_,(vss_cons (vs_if (VW.pt (vw_or (vt_not (vt_val (ve_fn O_is_whole.c (hr.mono (by decide)) (va_cons (ve_var 0) va_nil)))) (vw_or (vt_not (vt_val (ve_fn O_is_whole.c (hr.mono (by decide)) (va_cons (ve_var 1) va_nil)))) (vw_or1 (vt_cmp (o_eq hr.units) (ve_var 1) ve_int))))) vss_never vss_nil)
   (vss_one (vs_ret (ve_fn O_reduced.c (hr.mono (by decide)) (va_cons (ve_var 0) (va_cons (ve_var 1) va_nil)))))),?_⟩
  exact ⟨rfl,rfl,ite_eq (fun z=>(h.1.1 z).elim) (fun _=>h)⟩
def Bnd:List Int→List Int→Prop
 | [],xs=>xs=[]
 | z::zs,xs => ∃ x r,xs=x::r∧0≤x∧x<z∧Bnd zs r
theorem Bnd.snoc : ∀ {zs xs:List Int}{z x:Int},Bnd zs xs→0≤x→x<z→Bnd (zs++[z]) (xs++[x])
 | [],_,z,x,h,h0,h1=>by
  have e:_=[]:=h
  rw [e]
  exact ⟨x,[],rfl,h0,h1,rfl⟩
 | y::zs,_,z,x,h,h0,h1=>by
  obtain ⟨a,r,rfl,p,q,h⟩:=h
  exact ⟨a,r++[x],rfl,p,q,h.snoc h0 h1⟩
theorem Bnd.len : ∀ {zs xs:List Int},Bnd zs xs→xs.length=zs.length
 | [],_,h=>by
  have e:_=[]:=h
  rw [e]
 | y::zs,_,h=>by
  obtain ⟨a,r,rfl,p,q,h⟩:=h
  simp [h.len]
structure DrawnPre (ns:List Int) (at':Int) (zs:List Int):Prop where
 at0:0≤at'
 zs0 : ∀ z ∈ zs,0<z∧intBits z≤9000
 len:zs.length≤1000
 lns:ns.length≤63
theorem take_snoc {zs:List Int}{i:Nat}{z:Int} (h:zs[i]?=some z):zs.take (i+1)=zs.take i++[z]:=by
 rw [List.take_add_one,h];rfl
theorem int_get {zs:List Int}{i:Nat}{x:PyData} (h:(zs.map PyData.int)[i]?=some x) : ∃ z,x = .int z∧zs[i]?=some z∧z ∈ zs:=by
 rw [List.getElem?_map] at h
 cases e:zs[i]? with
 | none=>rw [e] at h;cases h
 | some z =>
  rw [e] at h
  exact ⟨z,(Option.some.inj h).symm,rfl,List.mem_of_getElem? e⟩
theorem ints_snoc (xs:List Int) (x:Int):xs.map PyData.int++[PyData.int x]=(xs++[x]).map PyData.int:=by simp
theorem bnd_lt {zs xs:List Int}{i:Nat} (h:Bnd (zs.take i) xs) (hz:zs.length≤1000):(xs.map PyData.int).length<sizeLine:=by
 rw [List.length_map,h.len]
 have:(zs.take i).length≤1000:=Nat.le_trans (List.length_take_le' _ _) hz
 exact small1000 this
def sp__law_drawn (ds:List PyData) (q:List PyData→Prop):Prop := ∃ ns at' zs,ds=[.list (ns.map .int),.int at',.list (zs.map .int)]∧DrawnPre ns at' zs ∧ ∀ xs,Bnd zs xs→q (xs.map .int)
theorem sc__law_drawn:FnScope ["_law_script","_law_at","_law_sizes","_law_cell","_law_found","_law_top","_law_first","_law_k","_law_second"] ["_law_script","_law_at","_law_sizes"] (defScope s__law_drawn):=sc0
theorem ok__law_drawn (F:Def K mg "_law_drawn" s__law_drawn ["_law_script","_law_at","_law_sizes"]) (T:Txt K mg cs)
 : Ok P w K mg base "_law_drawn" 1 ["_law_script","_law_at","_law_sizes"] (FSp K sp__law_drawn):=by
  refine F.vokF sc__law_drawn (by rintro ds q ⟨_,_,_,h,_⟩;rw [h];rfl) fun f cdv A outer s H E hr ds q h=>?_
  obtain ⟨ns,at',zs,rfl,⟨at0,zs0,hz,hns⟩,k⟩:=h
  refine ⟨_,(vss_cons (vs_set (i:=3) sc__law_drawn.nd ve_int)
   (vss_mid (vs_if (vt_cmp o_lt (ve_var 1) (ve_callB c_len T.len_ L2.boot_len (va_cons (ve_var 0) va_nil))) (vss_one (vs_set (i:=3) sc__law_drawn.nd (ve_ix (ve_var 0) (ve_var 1)))) vss_nil)
   (vss_cons (vs_setO (i:=4) sc__law_drawn.nd (vf_lst va_nil))
   (vss_cons (vs_if (vt_cmp (o_eq hr.units) (ve_op o_mod (ve_ix (vf_fz (vf_cat (ve_var 0) (vf_fz (vf_lst (va_cons ve_int va_nil))))) ve_int) ve_int) ve_int) (vss_cons (vs_for rfl (vi_seq (ve_var 2)) (vg_name (i:=5) sc__law_drawn.nd) (vss_cons (vs_append 4 (ve_op o_mod (ve_var 3) (ve_var 5)))
   (vss_one (vs_set (i:=3) sc__law_drawn.nd (ve_op o_div (ve_var 3) (ve_var 5))))))
   (vss_one (vs_retO 4))) vss_nil)
   (vss_cons (vs_set (i:=6) sc__law_drawn.nd (ve_op o_add (ve_op o_mod (ve_op o_add (ve_var 3) (ve_op o_mulI ve_int (ve_var 1))) ve_int) ve_int))
   (vss_cons (vs_for rfl (vi_enum T.enumerate_ (ve_var 2)) (vg_tup (n:=2) rfl (vgs_cons (vg_name (i:=7) sc__law_drawn.nd) (vgs_cons (vg_name (i:=5) sc__law_drawn.nd) vgs_nil))) (vss_cons (vs_set (i:=6) sc__law_drawn.nd (ve_op o_mod (ve_op o_add (ve_op o_mulI (ve_var 6) ve_int) (ve_var 7)) ve_int))
   (vss_cons (vs_set (i:=8) sc__law_drawn.nd (ve_op o_mod (ve_op o_add (ve_op o_add (ve_op o_mulI (ve_var 6) (ve_var 6)) (ve_op o_mulI ve_int (ve_var 6))) (ve_var 1)) ve_int))
   (vss_one (vs_append 4 (ve_op o_mod (ve_op o_div (ve_op o_mod (ve_op o_add (ve_op o_mulI (ve_var 8) ve_int) (ve_var 6)) ve_int) ve_int) (ve_var 5)))))))
   (vss_one (vs_retO 4)))))))),?_⟩
  refine ⟨fun e => ∃ c:Int,e=[.val (.list (ns.map .int)),.val (.int at'),.val (.list (zs.map .int)),.val (.int c),.non,.non,.non,.non,.non],?_,?_⟩
  ·refine iteD (fun h=>?_) (fun h=>⟨0,rfl⟩)
   obtain ⟨n,en⟩:=atI_ints (ns:=ns) at0 (by simpa using h)
   exact ⟨_,en,n,rfl⟩
  ·rintro e ⟨c,rfl⟩
   obtain ⟨n,en⟩:=atI_ints (ns:=ns++[0]) (i:=0) (by decide) (by simp)
   rw [List.map_append] at en
   refine ⟨by decide,by decide,by rw [List.length_map];exact Nat.le_of_lt (small1000 (by simp;omega)),_,en,by decide,rfl,rfl,?_⟩
   refine ite_eq (fun _=>?_) (fun _=>?_)
   ·refine ⟨fun i e => ∃ (c:Int) (t v6 v7 v8:Sl) (xs:List Int) (l:List PyData),e=[.val (.list (ns.map .int)),.val (.int at'),.val (.list (zs.map .int)),.val (.int c),.own l,t,v6,v7,v8]∧l=xs.map .int∧Bnd (zs.take i) xs,
     ⟨c,_,_,_,_,[],_,rfl,rfl,rfl⟩,?_,?_⟩
    ·rintro i d e hd ⟨c,t,v6,v7,v8,xs,l,rfl,rfl,hB⟩
     obtain ⟨z,rfl,hz1,hz2⟩:=int_get hd
     obtain ⟨z0,z1⟩:=zs0 z hz2
     refine ⟨rfl,z0,rfl,bnd_lt hB hz,⟨z0,z1⟩,c/z,_,_,_,_,xs++[c%z],_,rfl,ints_snoc _ _,?_⟩
     ·rw [take_snoc hz1]
      exact hB.snoc (Int.emod_nonneg _ (by omega)) (Int.emod_lt_of_pos _ (by omega))
    ·rintro e ⟨c,t,v6,v7,v8,xs,l,rfl,rfl,hB⟩
     rw [List.length_map,List.take_length] at hB
     exact ⟨_,rfl,k xs hB⟩
   ·refine ⟨IntMulOk.of_left (by decide),by decide,?_⟩
    have f0:0≤(c+48271*at')%2147483647+1∧(c+48271*at')%2147483647+1≤2147483647:=by omega
    refine ⟨fun i e => ∃ (c f:Int) (t v7 v8:Sl) (xs:List Int) (l:List PyData),e=[.val (.list (ns.map .int)),.val (.int at'),.val (.list (zs.map .int)),.val (.int c),.own l,t,.val (.int f),v7,v8]∧l=xs.map .int∧0≤f∧f≤2147483647∧Bnd (zs.take i) xs,
     ⟨c,_,_,_,_,[],_,rfl,rfl,f0.1,f0.2,rfl⟩,?_,?_⟩
    ·rintro i d e hd ⟨c,f,t,v7,v8,xs,l,rfl,rfl,f1,f2,hB⟩
     obtain ⟨x,hx,rfl⟩:=enumD_inv hd
     obtain ⟨z,rfl,hz1,hz2⟩:=int_get hx
     obtain ⟨z0,z1⟩:=zs0 z hz2
     have g0:0≤(f*48271+(i:Int))%2147483647∧(f*48271+(i:Int))%2147483647≤2147483647:=by omega
     refine ⟨rfl,rfl,?_⟩
     refine ⟨IntMulOk.of_right (by decide),by decide,IntMulOk.of_left (bits64 (by omega) (by omega)),IntMulOk.of_left (by decide),by decide,rfl,IntMulOk.of_right (by decide),by decide,⟨by decide,by decide⟩,z0,rfl,bnd_lt hB hz,?_⟩
     refine ⟨c,_,_,_,_,xs++[((((((f*48271+(i:Int))%2147483647)*((f*48271+(i:Int))%2147483647)+69621*((f*48271+(i:Int))%2147483647)+at')%2147483629)*40692+((f*48271+(i:Int))%2147483647))%2147483399/7)%z],_,rfl,ints_snoc _ _,g0.1,g0.2,?_⟩
     ·rw [take_snoc hz1]
      exact hB.snoc (Int.emod_nonneg _ (by omega)) (Int.emod_lt_of_pos _ (by omega))
    ·rintro e ⟨c,f,t,v7,v8,xs,l,rfl,rfl,f1,f2,hB⟩
     rw [enumD_len,List.length_map,List.take_length] at hB
     exact ⟨_,rfl,k xs hB⟩
def sp__law_common:DC
 | [.int a,.int b],q=>(0≤a∧0≤b)∧q (.int (Int.gcd a b))
 | _,_=>False
theorem sc__law_common:FnScope ["_law_one","_law_other","_law_rest"] ["_law_one","_law_other"] (defScope s__law_common):=sc0
theorem ok__law_common (F:Def K mg "_law_common" s__law_common ["_law_one","_law_other"]) (T:Txt K mg cs)
 : Ok P w K mg base "_law_common" 1 ["_law_one","_law_other"] (PSp K sp__law_common):=by
  refine F.vok sc__law_common (fun ds q h=>by unfold sp__law_common at h;split at h;all_goals first|rfl|exact h.elim) fun f cdv A outer s H E hr ds q h=>?_
  match ds,h with
  | [.int a,.int b],⟨⟨ha,hb⟩,h⟩ =>
  refine ⟨_,(vss_cons (vs_while (vt_cmp o_gt (ve_var 1) ve_int) (vss_cons (vs_set (i:=2) sc__law_common.nd (ve_op o_mod (ve_var 0) (ve_var 1)))
   (vss_cons (vs_set (i:=0) sc__law_common.nd (ve_var 1))
   (vss_one (vs_set (i:=1) sc__law_common.nd (ve_var 2))))))
   (vss_one (vs_ret (ve_var 0)))),?_⟩
  refine ⟨fun m e => ∃ x y r,e=[.val (.int x),.val (.int y),r]∧0≤x∧0≤y∧Nat.gcd x.toNat y.toNat=Int.gcd a b∧m=y.toNat,⟨_,_,_,_,rfl,ha,hb,?_,rfl⟩,?_⟩
  ·have:=gcd_start a b
   rwa [if_neg (by omega),if_neg (by omega)] at this
  rintro m e ⟨x,y,r,rfl,hx,hy,hg,rfl⟩
  refine iteD (fun hne=>?_) (fun he=>?_)
  ·obtain ⟨t1,t2,t3⟩:=gcd_turn hx hy (by omega) hg
   exact ⟨by omega,(x%y).toNat,by omega,y,x%y,_,rfl,hy,t1,t3,rfl⟩
  ·have:=gcd_end hx (show y=0 by omega) hg
   rw [this];exact h
structure Tab (b:Int) (R:List (List Int)) (n:Nat):Prop where
 pos:1≤b
 len : ∀ r ∈ R,r.length=n
 nn : ∀ r ∈ R,∀ x ∈ r,0≤x
 sum : ∀ r ∈ R,r.sum=b
def dRow (r:List Int):PyData :=.list (r.map .int)
def tRow (r:List Int):PyData :=.tuple (r.map .int)
theorem get_mem {α:Type}{l:List α}{i:Nat}{x:α} (h:l[i]?=some x):x ∈ l:=List.mem_of_getElem? h
theorem small_le {n:Nat} (h:n≤1000):n≤sizeLine:=Nat.le_of_lt (small1000 h)
theorem atI_zero {α:Type} (y:α) (l:List α):atI (y::l) 0=some y:=atI_nat (j:=0) rfl
def dRows (R:List (List Int)):PyData :=.list (R.map dRow)
theorem sum_nn : ∀ {r:List Int},(∀ n ∈ r,0≤n)→0≤r.sum
 | [],_=>by simp
 | n::r,h=>by
  rw [List.sum_cons]
  have a:=h n (by simp)
  have b:=sum_nn fun m hm=>h m (List.mem_cons_of_mem _ hm)
  omega
theorem mem_le_sum : ∀ {r:List Int}{x:Int},(∀ n ∈ r,0≤n)→x ∈ r→x≤r.sum
 | n::r,x,h,hx=>by
  rw [List.sum_cons]
  have a:=h n (by simp)
  have b:=sum_nn fun m hm=>h m (List.mem_cons_of_mem _ hm)
  rcases List.mem_cons.mp hx with rfl|hx
  ·omega
  ·have:=mem_le_sum (fun m hm=>h m (List.mem_cons_of_mem _ hm)) hx
   omega
theorem Tab.le {b:Int}{R:List (List Int)}{n:Nat}{r:List Int}{x:Int} (h:Tab b R n) (hr:r ∈ R) (hx:x ∈ r):0≤x∧x≤b :=
 ⟨h.nn r hr x hx,h.sum r hr ▸ mem_le_sum (h.nn r hr) hx⟩
theorem iteN {b:Bool}{A B:Prop} (h:b=true) (k:B):if (!b)=true then A else B:=by rw [h];exact iteF k
def gRow (g:Nat) (r:List Int):Nat:=r.foldl (fun (g:Nat) (n:Int)=>Int.gcd g n) g
def gTab (R:List (List Int)):Nat:=R.foldl gRow 0
theorem gRow_dvd_acc : ∀ (r:List Int) (g:Nat),gRow g r∣g
 | [],g=>Nat.dvd_refl _
 | n::r,g=>Nat.dvd_trans (gRow_dvd_acc r (Int.gcd g n)) (by have:=Int.gcd_dvd_natAbs_left (g:Int) n;simpa using this)
theorem gRow_dvd : ∀ (r:List Int) (g:Nat),∀ n ∈ r,(gRow g r:Int)∣n
 | m::r,g,n,h=>by
  rcases List.mem_cons.mp h with rfl|h
  ·exact Int.dvd_trans (Int.natCast_dvd_natCast.mpr (gRow_dvd_acc r (Int.gcd g n))) (Int.gcd_dvd_right ..)
  ·exact gRow_dvd r (Int.gcd g m) n h
theorem gFold_dvd_acc : ∀ (R:List (List Int)) (g:Nat),R.foldl gRow g∣g
 | [],g=>Nat.dvd_refl _
 | r::R,g=>Nat.dvd_trans (gFold_dvd_acc R (gRow g r)) (gRow_dvd_acc r g)
theorem gFold_dvd : ∀ (R:List (List Int)) (g:Nat),∀ r ∈ R,∀ n ∈ r,((R.foldl gRow g:Nat):Int)∣n
 | s::R,g,r,h,n,hn=>by
  rcases List.mem_cons.mp h with rfl|h
  ·exact Int.dvd_trans (Int.natCast_dvd_natCast.mpr (gFold_dvd_acc R (gRow g r))) (gRow_dvd r g n hn)
  ·exact gFold_dvd R (gRow g s) r h n hn
theorem gTab_dvd {R:List (List Int)}{r:List Int}{n:Int} (h:r ∈ R) (hn:n ∈ r):(gTab R:Int)∣n:=gFold_dvd R 0 r h n hn
theorem gRow_mul (k:Nat) : ∀ (r:List Int) (g:Nat),gRow (k*g) (r.map fun n=>(k:Int)*n)=k*gRow g r
 | [],g=>rfl
 | n::r,g=>by
  have e:Int.gcd ((k*g:Nat):Int) ((k:Int)*n)=k*Int.gcd g n:=by
   rw [Int.natCast_mul,Int.gcd_mul_left];rfl
  show gRow (Int.gcd ((k*g:Nat):Int) ((k:Int)*n)) (r.map fun n=>(k:Int)*n)=_
  rw [e]
  exact gRow_mul k r (Int.gcd g n)
theorem gFold_mul (k:Nat) : ∀ (R:List (List Int)) (g:Nat),(R.map fun r=>r.map fun n=>(k:Int)*n).foldl gRow (k*g)=k*R.foldl gRow g
 | [],g=>rfl
 | r::R,g=>by
  show (R.map fun r=>r.map fun n=>(k:Int)*n).foldl gRow (gRow (k*g) (r.map fun n=>(k:Int)*n))=_
  rw [gRow_mul]
  exact gFold_mul k R (gRow g r)
theorem gTab_mul (k:Nat) (R:List (List Int)):gTab (R.map fun r=>r.map fun n=>(k:Int)*n)=k*gTab R:=gFold_mul k R 0
def divT (R:List (List Int)) (g:Int):List (List Int):=R.map fun r=>r.map fun n=>n/g
theorem map_eq_self {α:Type}{f:α→α} : ∀ {l:List α},(∀ x ∈ l,f x=x)→l.map f=l
 | [],_=>rfl
 | x::l,h=>by rw [List.map_cons,h x (by simp),map_eq_self fun y hy=>h y (List.mem_cons_of_mem _ hy)]
theorem divT_mul {R:List (List Int)}:(divT R (gTab R)).map (fun r=>r.map fun n=>(gTab R:Int)*n)=R:=by
 unfold divT
 rw [List.map_map]
 refine map_eq_self fun r hr=>?_
 show (r.map fun n=>n/(gTab R:Int)).map (fun n=>(gTab R:Int)*n)=r
 rw [List.map_map]
 exact map_eq_self fun n hn=>Int.mul_ediv_cancel' (gTab_dvd hr hn)
theorem gTab_low {R:List (List Int)} (h:0<gTab R):gTab (divT R (gTab R))=1:=by
 have e:=gTab_mul (gTab R) (divT R (gTab R))
 rw [divT_mul] at e
 have e2:gTab R*1=gTab R*gTab (divT R (gTab R)):=by omega
 exact (Nat.eq_of_mul_eq_mul_left h e2).symm
theorem sum_zero : ∀ {r:List Int},(∀ n ∈ r,n=0)→r.sum=0
 | [],_=>rfl
 | n::r,h=>by rw [List.sum_cons,h n (by simp),sum_zero fun m hm=>h m (List.mem_cons_of_mem _ hm)];rfl
theorem Tab.gpos {b:Int}{R:List (List Int)}{n:Nat} (h:Tab b R n) (hR:R≠[]):0<gTab R:=by
 rcases Nat.eq_zero_or_pos (gTab R) with e|e
 ·exfalso
  obtain ⟨r,R',rfl⟩:=List.exists_cons_of_ne_nil hR
  have h1:=h.sum r (by simp)
  have h2 : ∀ m ∈ r,m=0:=fun m hm=>by
   have:=gTab_dvd (R:=r::R') (by simp) hm
   rw [e] at this
   exact Int.zero_dvd.mp this
  rw [sum_zero h2] at h1
  have:=h.pos
  omega
 ·exact e
theorem sum_dvd {g:Int} : ∀ {r:List Int},(∀ n ∈ r,g∣n)→g∣r.sum
 | [],_=>by simp
 | n::r,h=>by rw [List.sum_cons];exact Int.dvd_add (h n (by simp)) (sum_dvd fun m hm=>h m (List.mem_cons_of_mem _ hm))
theorem Tab.gdvd {b:Int}{R:List (List Int)}{n:Nat} (h:Tab b R n) (hR:R≠[]):(gTab R:Int)∣b:=by
 obtain ⟨r,R',rfl⟩:=List.exists_cons_of_ne_nil hR
 rw [← h.sum r (by simp)]
 exact sum_dvd fun m hm=>gTab_dvd (by simp) hm
theorem sum_div {g:Int} : ∀ {r:List Int},(∀ n ∈ r,g∣n)→(r.map fun n=>n/g).sum=r.sum/g
 | [],_=>by simp
 | n::r,h=>by
  rw [List.map_cons,List.sum_cons,List.sum_cons,sum_div fun m hm=>h m (List.mem_cons_of_mem _ hm)]
  exact (Int.add_ediv_of_dvd_left (h n (by simp))).symm
theorem Tab.low {b:Int}{R:List (List Int)}{n:Nat} (h:Tab b R n) (hR:R≠[]):Tab (b/gTab R) (divT R (gTab R)) n:=by
 have hp:=h.gpos hR
 have hd:=h.gdvd hR
 have hb:=h.pos
 have hgb:(gTab R:Int)≤b:=Int.le_of_dvd (by omega) hd
 refine ⟨?_,?_,?_,?_⟩
 ·exact (Int.le_ediv_iff_mul_le (by omega)).mpr (by omega)
 ·intro r hr
  obtain ⟨s,hs,rfl⟩:=List.mem_map.mp hr
  rw [List.length_map];exact h.len s hs
 ·intro r hr x hx
  obtain ⟨s,hs,rfl⟩:=List.mem_map.mp hr
  obtain ⟨y,hy,rfl⟩:=List.mem_map.mp hx
  exact Int.ediv_nonneg (h.nn s hs y hy) (by omega)
 ·intro r hr
  obtain ⟨s,hs,rfl⟩:=List.mem_map.mp hr
  rw [sum_div fun m hm=>gTab_dvd hs hm,h.sum s hs]
theorem gRow_snoc (g:Nat) (r:List Int) (n:Int):gRow g (r++[n])=Int.gcd (gRow g r) n:=by unfold gRow;rw [List.foldl_append];rfl
theorem gFold_snoc (R:List (List Int)) (r:List Int):gTab (R++[r])=gRow (gTab R) r:=by unfold gTab;rw [List.foldl_append];rfl
def RowsD (d:PyData) (R:List (List Int)):Prop := ∃ l,seqD d=some l∧l.map (fun x=>(seqD x).getD [])=R.map (fun r=>r.map PyData.int) ∧ ∀ x ∈ l,(seqD x).isSome=true
theorem RowsD.len {d:PyData}{R:List (List Int)}{l:List PyData} (h:RowsD d R) (e:seqD d=some l):l.length=R.length:=by
 obtain ⟨m,e',h1,_⟩:=h
 rw [e] at e';cases e'
 have:=congrArg List.length h1
 simpa using this
theorem RowsD.get {d:PyData}{R:List (List Int)}{l:List PyData}{i:Nat}{x:PyData} (h:RowsD d R) (e:seqD d=some l) (hx:l[i]?=some x) : ∃ r,R[i]?=some r∧seqD x=some (r.map .int):=by
 obtain ⟨m,e',h1,h2⟩:=h
 rw [e] at e';cases e'
 have h3:(l.map fun x=>(seqD x).getD [])[i]?=some ((seqD x).getD []):=by rw [List.getElem?_map,hx];rfl
 rw [h1,List.getElem?_map] at h3
 obtain ⟨y,hy⟩:=Option.isSome_iff_exists.mp (h2 x (List.mem_of_getElem? hx))
 cases q:R[i]? with
 | none=>rw [q] at h3;cases h3
 | some r =>
  rw [q] at h3
  refine ⟨r,rfl,?_⟩
  rw [hy] at h3 ⊢
  exact h3.symm
theorem RowsD.of {d:PyData}{R:List (List Int)}{f:List PyData→PyData} (hf : ∀ l,seqD (f l)=some l) (e:seqD d=some (R.map fun r=>f (r.map .int))):RowsD d R:=by
 refine ⟨_,e,?_,?_⟩
 ·rw [List.map_map]
  refine List.map_congr_left fun r _=>?_
  simp [hf]
 ·intro x hx
  obtain ⟨r,_,rfl⟩:=List.mem_map.mp hx
  simp [hf]
def dTab (b:Int) (R:List (List Int)):PyData :=.tuple [.int b,.tuple (R.map tRow)]
theorem rowsD_tup (R:List (List Int)):RowsD (.tuple (R.map tRow)) R:=RowsD.of (f :=.tuple) (fun _=>rfl) rfl
theorem rowsD_lst (R:List (List Int)):RowsD (.list (R.map dRow)) R:=RowsD.of (f :=.list) (fun _=>rfl) rfl
def sp__law_made (ds:List PyData) (q:PyData→Prop):Prop := ∃ (b:Int) (d:PyData) (R:List (List Int)) (n:Nat),ds=[.int b,d]∧(RowsD d R∧Tab b R n∧R≠[]∧R.length≤900∧n≤900∧intBits b≤9000)∧q (dTab (b/gTab R) (divT R (gTab R)))
theorem bits_dvd' {g b:Int}{m:Nat} (hb:0<b) (h:g∣b) (hz:intBits b≤m):intBits g≤m:=by
 refine intBits_le_of_natAbs ?_ hz
 exact Nat.le_of_dvd (by omega) (Int.natAbs_dvd_natAbs.mpr h)
theorem sc__law_made:FnScope ["_law_bottom","_law_rows_here","_law_factor","_law_row","_law_number","_law_found"] ["_law_bottom","_law_rows_here"] (defScope s__law_made):=sc0
theorem ok__law_made (F:Def K mg "_law_made" s__law_made ["_law_bottom","_law_rows_here"]) (T:Txt K mg cs)
 (O__law_common:Ok P w K mg base "_law_common" 1 ["_law_one","_law_other"] (PSp K sp__law_common))
 : Ok P w K mg base "_law_made" 2 ["_law_bottom","_law_rows_here"] (PSp K sp__law_made):=by
  refine F.vok sc__law_made (by rintro ds q ⟨_,_,_,_,h,_⟩;rw [h];rfl) fun f cdv A outer s H E hr ds q h=>?_
  obtain ⟨b,d,R,n,rfl,⟨hR,hT,hn,hl,hn2,hz⟩,h⟩:=h
  refine ⟨_,(vss_cons (vs_set (i:=2) sc__law_made.nd ve_int)
   (vss_cons (vs_for rfl (vi_seq (ve_var 1)) (vg_name (i:=3) sc__law_made.nd) (vss_one (vs_for rfl (vi_seq (ve_var 3)) (vg_name (i:=4) sc__law_made.nd) (vss_one (vs_set (i:=2) sc__law_made.nd (ve_fn O__law_common.c (hr.mono (by decide)) (va_cons (ve_var 4) (va_cons (ve_var 2) va_nil))))))))
   (vss_cons (vs_setO (i:=5) sc__law_made.nd (vf_lst va_nil))
   (vss_cons (vs_for rfl (vi_seq (ve_var 1)) (vg_name (i:=3) sc__law_made.nd) (vss_one (vs_append 5 (ve_callTy c_tuple T.tuple_ L2.boot_tuple (va_cons (vf_fz (vf_comp (caps:=["_law_factor"]) (own:=["_law_number"]) (ix:=[2]) rfl ⟨rfl,rfl,rfl,rfl,rfl,rfl⟩ (vi_seq (ve_var 3)) (fun _ _ _ _=>(vg_name (i:=1) (show List.Nodup (["_law_factor","_law_number"]:List Str) by decide))) (fun _ _ _ _=>(ve_op o_div (ve_var 1) (ve_var 0))))) va_nil)))))
   (vss_fz 5 (vss_one (vs_ret (ve_tup (va_cons (ve_op o_div (ve_var 0) (ve_var 2)) (va_cons (ve_callTy c_tuple T.tuple_ L2.boot_tuple (va_cons (ve_var 5) va_nil)) va_nil)))))))))),?_⟩
  have g0:=hT.gpos hn
  have g1:intBits (gTab R:Int)≤9000:=bits_dvd' (by have:=hT.pos;omega) (hT.gdvd hn) hz
  obtain ⟨l,e,_⟩:=id hR
  refine seq_elim e ⟨fun i e => ∃ t1 t2 c,e=[.val (.int b),.val d,.val (.int c),t1,t2,.non]∧c=(gTab (R.take i):Int),⟨_,_,_,rfl,rfl⟩,?_,?_⟩
  ·rintro i x e' hx ⟨t1,t2,_,rfl,rfl⟩
   obtain ⟨r,hr,er⟩:=hR.get e hx
   refine seq_elim er ⟨fun j e => ∃ t2 c,e=[.val (.int b),.val d,.val (.int c),.val x,t2,.non]∧c=(gRow (gTab (R.take i)) (r.take j):Int),⟨_,_,rfl,rfl⟩,?_,?_⟩
   ·rintro j y e hy ⟨t2,_,rfl,rfl⟩
    obtain ⟨z,rfl,hz,hzr⟩:=int_get hy
    refine ⟨⟨hT.nn r (get_mem hr) z hzr,by omega⟩,_,_,rfl,?_⟩
    rw [take_snoc hz,gRow_snoc,Int.gcd_comm]
   ·rintro e ⟨t2,_,rfl,rfl⟩
    refine ⟨_,_,_,rfl,?_⟩
    rw [List.length_map,List.take_length,List.take_add_one,hr]
    show _=((gTab (R.take i++[r]):Nat):Int)
    rw [gFold_snoc]
  ·rintro e' ⟨t1,t2,_,rfl,rfl⟩
   rw [hR.len e,List.take_length]
   refine ⟨szl,seq_elim e ⟨fun i e => ∃ t1 t2 l,e=[.val (.int b),.val d,.val (.int (gTab R)),t1,t2,.own l]∧l=((divT R (gTab R)).take i).map tRow,⟨_,_,_,rfl,rfl⟩,?_,?_⟩⟩
   ·rintro i x e' hx ⟨t1,t2,_,rfl,rfl⟩
    obtain ⟨r,hr,er⟩:=hR.get e hx
    refine ⟨rfl,seq_elim er (comp_by ((r.map fun n=>n/(gTab R:Int)).map .int) (by simp) (small1000 (by simp;have:=hT.len r (get_mem hr);omega)) (fun e => ∃ s,e=[.val (.int (gTab R)),s]) ⟨_,rfl⟩ ?_ ⟨rfl,?_,?_⟩)⟩
    ·rintro j y ys e hy hys ⟨s,rfl⟩
     obtain ⟨z,rfl,hz,_⟩:=int_get hy
     refine ⟨⟨by omega,g1⟩,snoc_take ?_ hys,_,rfl⟩
     rw [List.getElem?_map,List.getElem?_map,hz];rfl
    ·show (List.map tRow _).length<_
     rw [List.length_map]
     refine small1000 (Nat.le_trans (List.length_take_le' _ _) ?_)
     unfold divT;rw [List.length_map];omega
    ·refine ⟨_,_,_,rfl,?_⟩
     have e2:(divT R (gTab R))[i]?=some (r.map fun n=>n/(gTab R:Int)):=by unfold divT;rw [List.getElem?_map,hr];rfl
     rw [List.take_add_one,e2]
     simp only [Option.toList_some,List.map_append,List.map_cons,List.map_nil]
     rfl
   ·rintro e' ⟨t1,t2,_,rfl,rfl⟩
    have e3:l.length=(divT R (gTab R)).length:=by unfold divT;rw [List.length_map];exact hR.len e
    rw [e3,List.take_length]
    exact ⟨⟨by omega,g1⟩,szl,h⟩
def sp__law_cut (ds:List PyData) (q:List PyData→Prop):Prop := ∃ (b:Int) (cs:List Int),ds=[.int b,.list (cs.map .int)]∧(0≤b∧cs.length<64 ∧ ∀ c ∈ cs,0≤c∧c≤b) ∧ ∀ r:List Int,(r.length=cs.length+1∧(∀ x ∈ r,0≤x)∧r.sum=b)→q (r.map .int)
theorem sorted_next {cs:List Int}{i:Nat}{c l:Int} (hp:cs.Pairwise (· ≤ ·)) (hc:cs[i]?=some c) (hl : ∀ j,j+1=i→cs[j]?=some l) (h0:i=0→l≤c):l≤c:=by
 cases i with
 | zero=>exact h0 rfl
 | succ j =>
  have h1:=hl j rfl
  obtain ⟨a1,a2⟩:=List.getElem?_eq_some_iff.mp h1
  obtain ⟨b1,b2⟩:=List.getElem?_eq_some_iff.mp hc
  rw [← a2,← b2]
  exact List.pairwise_iff_getElem.mp hp j (j+1) a1 b1 (by omega)
theorem sc__law_cut:FnScope ["_law_bottom","_law_cuts","_law_row","_law_last","_law_cut_here"] ["_law_bottom","_law_cuts"] (defScope s__law_cut):=sc0
theorem ok__law_cut (F:Def K mg "_law_cut" s__law_cut ["_law_bottom","_law_cuts"]) (T:Txt K mg cs)
 : Ok P w K mg base "_law_cut" 1 ["_law_bottom","_law_cuts"] (FSp K sp__law_cut):=by
  refine F.vokF sc__law_cut (by rintro ds q ⟨_,_,h,_⟩;rw [h];rfl) fun f cdv A outer s H E hr ds q h=>?_
  obtain ⟨b,cs,rfl,⟨hb0,hz,hcs⟩,k⟩:=h
  refine ⟨_,(vss_cons (vs_setO (i:=2) sc__law_cut.nd (vf_lst va_nil))
   (vss_cons (vs_set (i:=3) sc__law_cut.nd ve_int)
   (vss_cons (vs_for rfl (vi_seq (vf_fz (vf_cat (vf_fz (vf_callB c_sorted T.sorted_ L2.boot_sorted (va_cons (ve_var 1) va_nil))) (vf_fz (vf_lst (va_cons (ve_var 0) va_nil)))))) (vg_name (i:=4) sc__law_cut.nd) (vss_cons (vs_append 2 (ve_op o_sub (ve_var 4) (ve_var 3)))
   (vss_one (vs_set (i:=3) sc__law_cut.nd (ve_var 4)))))
   (vss_one (vs_retO 2))))),?_⟩
  refine ⟨szl,cs,rfl,hz,fun ns hp hs=>⟨szl,?_,?_⟩⟩
  ·have:=hp.length_eq
   simp only [List.length_map,List.length_cons,List.length_nil]
   exact small_le (by omega)
  have hn : ∀ c ∈ ns,0≤c∧c≤b:=fun c hc=>hcs c (hp.mem_iff.mp hc)
  have hl:=hp.length_eq
  have hb:ns.map PyData.int++[PyData.int b]=(ns++[b]).map PyData.int:=by simp
  have hA:(ns++[b]).Pairwise (· ≤ ·):=List.pairwise_append.mpr ⟨hs,by simp,fun x hx y hy=>by rw [List.mem_singleton.mp hy];exact (hn x hx).2⟩
  rw [hb]
  refine ⟨fun i e => ∃ (last:Int) (t:Sl) (r:List Int) (l:List PyData),e=[.val (.int b),.val (.list (cs.map .int)),.own l,.val (.int last),t]∧l=r.map .int∧r.length=i∧(∀ x ∈ r,0≤x)∧r.sum=last∧((i=0∧last=0) ∨ ∃ j,i=j+1∧(ns++[b])[j]?=some last),
   ⟨0,_,[],_,rfl,rfl,rfl,by simp,rfl,.inl ⟨rfl,rfl⟩⟩,?_,?_⟩
  ·rintro i d e hd ⟨last,t,r,l,rfl,rfl,hr,hx,hsum,hlast⟩
   obtain ⟨c,rfl,hc1,hc2⟩:=int_get hd
   have hge:last≤c:=by
    rcases hlast with ⟨rfl,rfl⟩|⟨j,rfl,hj⟩
    ·rcases List.mem_append.mp hc2 with h|h
     ·exact (hn c h).1
     ·rw [List.mem_singleton.mp h];exact hb0
    ·exact sorted_next hA hc1 (fun j' h=>by have:j'=j:=by omega
                                            subst this;exact hj) (fun h=>by omega)
   refine ⟨rfl,rfl,?_,c,_,r++[c-last],_,rfl,ints_snoc _ _,by simp [hr],fun x hx'=>?_,by simp [hsum];omega,.inr ⟨i,rfl,hc1⟩⟩
   ·have:i<(ns++[b]).length:=(List.getElem?_eq_some_iff.mp hc1).1
    simp only [List.length_append,List.length_cons,List.length_nil] at this
    show (r.map PyData.int).length<_
    rw [List.length_map]
    exact small1000 (by omega)
   ·rcases List.mem_append.mp hx' with h|h
    ·exact hx x h
    ·rw [List.mem_singleton.mp h];omega
  ·rintro e ⟨last,t,r,l,rfl,rfl,hr,hx,hsum,hlast⟩
   refine ⟨_,rfl,k r ⟨?_,hx,?_⟩⟩
   ·simpa [hl] using hr
   ·rw [hsum]
    rcases hlast with ⟨h,_⟩|⟨j,h,hj⟩
    ·simp at h
    ·have e:j=ns.length:=by simp at h;omega
     subst e
     simpa using hj.symm
theorem sIx_int {n d:Nat}{v:Int} (h:0≤v):HT.sIx n d (some v)=min v.toNat n:=by
 show (if v<0 then _ else _)=_
 rw [if_neg (by omega)]
theorem cut_all {α:Type} (l:List α) {i:Int} (h:0≤i):cutL l (some i) none=l.drop i.toNat:=by
 unfold cutL
 rw [sIx_int h,HT.sIx_none]
 by_cases h1:i.toNat≤l.length
 ·rw [Nat.min_eq_left h1,List.take_of_length_le (by simp)]
 ·rw [Nat.min_eq_right (by omega),List.drop_of_length_le (Nat.le_refl _),List.drop_of_length_le (by omega)];simp
theorem cut_mid {α:Type} (l:List α) {i j:Int} (h:0≤i) (h2:i≤j):cutL l (some i) (some j)=(l.drop i.toNat).take (j-i).toNat:=by
 unfold cutL
 rw [sIx_int h,sIx_int (by omega)]
 by_cases h1:i.toNat≤l.length
 ·rw [Nat.min_eq_left h1]
  by_cases h3:j.toNat≤l.length
  ·rw [Nat.min_eq_left h3];congr 1;omega
  ·rw [Nat.min_eq_right (by omega),List.take_of_length_le (by simp),List.take_of_length_le (by simp;omega)]
 ·rw [Nat.min_eq_right (by omega),Nat.min_eq_right (by omega),List.drop_of_length_le (Nat.le_refl _),List.drop_of_length_le (by omega)];simp
theorem rep_int (k:Nat) (z:Int):(List.replicate k [PyData.int z]).flatten=(List.replicate k z).map PyData.int:=by
 induction k with
 | zero=>rfl
 | succ k ih=>simp [List.replicate_succ,ih]
theorem Bnd.app : ∀ {zs ws xs:List Int},Bnd (zs++ws) xs→Bnd ws (xs.drop zs.length)
 | [],ws,xs,h=>by simpa using h
 | z::zs,ws,xs,h=>by
  obtain ⟨x,r,rfl,_,_,h⟩:=h
  simpa using Bnd.app h
theorem Bnd.rep : ∀ {k:Nat}{z:Int}{xs:List Int},Bnd (List.replicate k z) xs→xs.length=k ∧ ∀ x ∈ xs,0≤x∧x<z
 | 0,z,xs,h=>by
  have e:xs=[]:=h
  subst e;simp
 | k+1,z,xs,h=>by
  rw [List.replicate_succ] at h
  obtain ⟨x,r,rfl,h1,h2,h⟩:=h
  obtain ⟨e,g⟩:=h.rep
  refine ⟨by simp [e],fun y hy=>?_⟩
  rcases List.mem_cons.mp hy with rfl|hy
  ·exact ⟨h1,h2⟩
  ·exact g y hy
def sp__law_rows (ds:List PyData) (q:PyData→Prop):Prop := ∃ (ns:List Int) (at' lo hi most:Int),ds=[.list (ns.map .int),.int at',.list [.int lo,.int hi],.int most] ∧
 (ns.length≤63∧0≤at'∧1≤lo∧lo≤hi∧hi≤12∧1≤most∧most≤12) ∧
 ∀ (b:Int) (R:List (List Int)) (n:Nat),Tab b R n→b≤999999→lo≤R.length→R.length≤hi→1≤n→n≤most→q (.tuple [.int b,dRows R])
theorem rows_bottom {x2 x3:Int} (h1:0≤x2) (h2:x2<9) (h3:0≤x3) (h4:x3<999999) : ∃ b:Int,atI [PyData.int 1,.int 2,.int 3,.int 4,.int 5,.int 6,.int 12,.int 60,.int (1+x3)] x2=some (.int b)∧1≤b∧b≤999999:=by
 have:x2=0∨x2=1∨x2=2∨x2=3∨x2=4∨x2=5∨x2=6∨x2=7∨x2=8:=by omega
 rcases this with rfl|rfl|rfl|rfl|rfl|rfl|rfl|rfl|rfl <;> exact ⟨_,rfl,by omega,by omega⟩
theorem sc__law_rows:FnScope ["_law_script","_law_at","_law_heights","_law_most","_law_sizes","_law_head","_law_many","_law_bottom","_law_cuts","_law_rows_here","_law_k","_law_at_row"] ["_law_script","_law_at","_law_heights","_law_most"] (defScope s__law_rows):=sc0
theorem ok__law_rows (F:Def K mg "_law_rows" s__law_rows ["_law_script","_law_at","_law_heights","_law_most"]) (T:Txt K mg cs)
 (O__law_drawn:Ok P w K mg base "_law_drawn" 1 ["_law_script","_law_at","_law_sizes"] (FSp K sp__law_drawn))
 (O__law_cut:Ok P w K mg base "_law_cut" 1 ["_law_bottom","_law_cuts"] (FSp K sp__law_cut))
 : Ok P w K mg base "_law_rows" 2 ["_law_script","_law_at","_law_heights","_law_most"] (PSp K sp__law_rows):=by
  refine F.vok sc__law_rows (by rintro ds q ⟨_,_,_,_,_,h,_⟩;rw [h];rfl) fun f cdv A outer s H E hr ds q h=>?_
  obtain ⟨ns,at',lo,hi,most,rfl,⟨hns,at0,l1,l2,l3,m1,m2⟩,k⟩:=h
  refine ⟨_,(vss_cons (vs_set (i:=4) sc__law_rows.nd (vf_fz (vf_lst (va_cons (ve_op o_add (ve_op o_sub (ve_ix (ve_var 2) ve_int) (ve_ix (ve_var 2) ve_int)) ve_int) (va_cons (ve_var 3) (va_cons ve_int (va_cons ve_int va_nil)))))))
   (vss_cons (vs_set (i:=5) sc__law_rows.nd (vf_fz (vf_fn O__law_drawn.c (hr.mono (by decide)) (va_cons (ve_var 0) (va_cons (ve_var 1) (va_cons (ve_var 4) va_nil))))))
   (vss_cons (vs_set (i:=6) sc__law_rows.nd (ve_op o_add (ve_ix (ve_var 2) ve_int) (ve_ix (ve_var 5) ve_int)))
   (vss_cons (vs_set (i:=7) sc__law_rows.nd (ve_ix (vf_fz (vf_lst (va_cons ve_int (va_cons ve_int (va_cons ve_int (va_cons ve_int (va_cons ve_int (va_cons ve_int (va_cons ve_int (va_cons ve_int (va_cons (ve_op o_add ve_int (ve_ix (ve_var 5) ve_int)) va_nil))))))))))) (ve_ix (ve_var 5) ve_int)))
   (vss_cons (vs_set (i:=8) sc__law_rows.nd (vf_fz (vf_slice (vf_fz (vf_fn O__law_drawn.c (hr.mono (by decide)) (va_cons (ve_var 0) (va_cons (ve_var 1) (va_cons (vf_fz (vf_cat (ve_var 4) (vf_fz (vf_rep (vf_lst (va_cons (ve_op o_add (ve_var 7) ve_int) va_nil)) (ve_op o_mulI (ve_var 6) (ve_ix (ve_var 5) ve_int)))))) va_nil))))) (vo_some ve_int) vo_none)))
   (vss_cons (vs_setO (i:=9) sc__law_rows.nd (vf_lst va_nil))
   (vss_cons (vs_for rfl (vi_range1 T.range_ (ve_var 6)) (vg_name (i:=10) sc__law_rows.nd) (vss_cons (vs_set (i:=11) sc__law_rows.nd (ve_op o_mulI (ve_var 10) (ve_ix (ve_var 5) ve_int)))
   (vss_one (vs_append 9 (vf_fz (vf_fn O__law_cut.c (hr.mono (by decide)) (va_cons (ve_var 7) (va_cons (vf_fz (vf_slice (ve_var 8) (vo_some (ve_var 11)) (vo_some (ve_op o_add (ve_var 11) (ve_ix (ve_var 5) ve_int))))) va_nil))))))))
   (vss_fz 9 (vss_one (vs_ret (ve_tup (va_cons (ve_var 7) (va_cons (ve_var 9) va_nil))))))))))))),?_⟩
  have small : ∀ {z:Int},0<z→z<2^60→0<z∧intBits z≤9000:=fun h1 h2=>⟨h1,bits_up (bits64 (by omega) (by omega)) (by decide)⟩
  refine ⟨_,rfl,_,rfl,szl,ns,at',[hi-lo+1,most,9,999999],rfl,⟨at0,?_,by simp,hns⟩,fun xs hx=>?_⟩
  ·intro z hz
   simp only [List.mem_cons,List.not_mem_nil,or_false] at hz
   rcases hz with rfl|rfl|rfl|rfl <;> exact small (by omega) (by omega)
  obtain ⟨x0,_,rfl,a0,b0,x1,_,rfl,a1,b1,x2,_,rfl,a2,b2,x3,_,rfl,a3,b3,rfl⟩:=hx
  refine ⟨_,rfl,_,rfl,_,rfl,szl,_,rfl,?_⟩
  obtain ⟨b,eb,hb1,hb2⟩:=rows_bottom a2 b2 a3 b3
  refine ⟨_,eb,szl,_,rfl,IntMulOk.of_left (bits64 (by omega) (by omega)),?_⟩
  have hm0:0≤(lo+x0)*x1:=Int.mul_nonneg (by omega) a1
  have hm1:(lo+x0)*x1≤12*12:=Int.le_trans (Int.mul_le_mul_of_nonneg_right (show lo+x0≤12 by omega) a1) (Int.mul_le_mul_of_nonneg_left (by omega) (by omega))
  refine ⟨⟨by omega,by omega,?_⟩,?_⟩
  ·simp only [List.length_cons,List.length_nil]
   exact small_le (by omega)
  rintro _ rfl
  rw [rep_int]
  refine ⟨?_,ns,at',[hi-lo+1,most,9,999999]++List.replicate ((lo+x0)*x1).toNat (b+1),?_,⟨at0,?_,?_,hns⟩,fun ys hy=>?_⟩
  ·simp only [List.length_cons,List.length_nil,List.length_map,List.length_replicate]
   exact small_le (by omega)
  ·rw [List.map_append];rfl
  ·intro z hz
   rcases List.mem_append.mp hz with hz|hz
   ·simp only [List.mem_cons,List.not_mem_nil,or_false] at hz
    rcases hz with rfl|rfl|rfl|rfl <;> exact small (by omega) (by omega)
   ·rw [(List.mem_replicate.mp hz).2];exact small (by omega) (by omega)
  ·simp only [List.length_append,List.length_cons,List.length_nil,List.length_replicate];omega
  obtain ⟨hcl,hc⟩:=(Bnd.app hy).rep
  intro cs0 hcs0
  rw [cut_all _ (by decide)] at hcs0
  have ed:(ys.map PyData.int).drop (Int.toNat 4)=(ys.drop 4).map PyData.int:=by rw [List.map_drop];rfl
  rw [ed] at hcs0
  subst hcs0
  replace hcl:(ys.drop 4).length=((lo+x0)*x1).toNat:=hcl
  replace hc : ∀ x ∈ ys.drop 4,0≤x∧x<b+1:=hc
  generalize ys.drop 4=cs at hcl hc
  refine ⟨szl,⟨by omega,by omega⟩,?_⟩
  refine ⟨fun i e => ∃ (t1 t2:Sl) (R:List (List Int)) (l:List PyData),e=[.val (.list (ns.map .int)),.val (.int at'),.val (.list [.int lo,.int hi]),.val (.int most),.val (.list [.int (hi-lo+1),.int most,.int 9,.int 999999]),.val (.list ([x0,x1,x2,x3].map .int)),.val (.int (lo+x0)),.val (.int b),.val (.list (cs.map .int)),.own l,t1,t2] ∧
   l=R.map dRow∧R.length=i∧Tab b R (x1.toNat+1),⟨_,_,[],_,rfl,rfl,rfl,⟨hb1,by simp,by simp,by simp⟩⟩,?_,?_⟩
  ·rintro i d e hd ⟨t1,t2,R,l,rfl,rfl,hR,hT⟩
   obtain ⟨hi',rfl⟩:=rngD_inv hd
   rw [Int.zero_add]
   have hiN:(i:Int)+1≤lo+x0:=by omega
   have hx1:x1=(x1.toNat:Int):=by omega
   have hle:(i:Int)*x1+x1≤(lo+x0)*x1:=by
    have:((i:Int)+1)*x1≤(lo+x0)*x1:=Int.mul_le_mul_of_nonneg_right hiN a1
    rwa [Int.add_mul,Int.one_mul] at this
   have hi0:0≤(i:Int)*x1:=Int.mul_nonneg (by omega) a1
   refine ⟨_,rfl,IntMulOk.of_left (bits64 (by omega) (by omega)),rfl,_,rfl,?_⟩
   intro c1 hc1
   rw [cut_mid _ hi0 (by omega)] at hc1
   have e1:((i:Int)*x1+x1-(i:Int)*x1).toNat=x1.toNat:=by omega
   rw [e1,← List.map_drop,← List.map_take] at hc1
   subst hc1
   have hcl1:((cs.drop ((i:Int)*x1).toNat).take x1.toNat).length=x1.toNat:=by
    rw [List.length_take,List.length_drop,hcl];omega
   refine ⟨b,_,rfl,⟨by omega,by rw [hcl1];omega,fun c hc'=>?_⟩,fun r ⟨r1,r2,r3⟩=>?_⟩
   ·have:=hc c (List.mem_of_mem_drop (List.mem_of_mem_take hc'))
    omega
   ·refine ⟨rfl,?_,_,_,R++[r],_,rfl,by simp [dRow];rfl,by simp [hR],⟨hb1,?_,?_,?_⟩⟩
    ·show (R.map dRow).length<_
     rw [List.length_map]
     exact small1000 (by omega)
    ·intro r' hr'
     rcases List.mem_append.mp hr' with h|h
     ·exact hT.len r' h
     ·rw [List.mem_singleton.mp h,r1,hcl1]
    ·intro r' hr'
     rcases List.mem_append.mp hr' with h|h
     ·exact hT.nn r' h
     ·rw [List.mem_singleton.mp h];exact r2
    ·intro r' hr'
     rcases List.mem_append.mp hr' with h|h
     ·exact hT.sum r' h
     ·rw [List.mem_singleton.mp h];exact r3
  ·rintro e ⟨t1,t2,R,l,rfl,rfl,hR,hT⟩
   rw [rngD_len] at hR
   exact ⟨szl,k b R (x1.toNat+1) hT hb2 (by omega) (by omega) (by omega) (by omega)⟩
def dotI (a b:List Int):Int:=(List.zipWith (· * ·) a b).sum
def colI (D:List (List Int)) (k:Nat):List Int:=D.map fun r=>(r[k]?).getD 0
def prodR (R D:List (List Int)) (n:Nat):List (List Int):=R.map fun r=>(List.range n).map fun k=>dotI r (colI D k)
theorem sum_map_add {α:Type} (f g:α→Int) : ∀ l:List α,(l.map fun k=>f k+g k).sum=(l.map f).sum+(l.map g).sum
 | []=>by simp
 | x::l=>by
  simp only [List.map_cons,List.sum_cons,sum_map_add f g l];omega
theorem sum_map_mul {α:Type} (c:Int) (f:α→Int) : ∀ l:List α,(l.map fun k=>c*f k).sum=c*(l.map f).sum
 | []=>by simp
 | x::l=>by
  simp only [List.map_cons,List.sum_cons,sum_map_mul c f l,Int.mul_add]
theorem sum_map_zero {α:Type} : ∀ l:List α,(l.map fun _=>(0:Int)).sum=0
 | []=>rfl
 | x::l=>by simp only [List.map_cons,List.sum_cons,sum_map_zero l];rfl
theorem range_row : ∀ (r:List Int),(List.range r.length).map (fun k=>(r[k]?).getD 0)=r:=by
 intro r
 apply List.ext_getElem?
 intro i
 rw [List.getElem?_map]
 by_cases h:i<r.length
 ·rw [List.getElem?_range h,List.getElem?_eq_getElem h];simp [h]
 ·have h1:r.length≤i:=by omega
  rw [List.getElem?_eq_none (by simpa using h1),List.getElem?_eq_none h1];rfl
theorem dot_cons (x:Int) (r d:List Int) (y:Int):dotI (x::r) (y::d)=x*y+dotI r d:=by simp [dotI]
theorem prod_sum {c:Int}{n:Nat} : ∀ {r:List Int}{D:List (List Int)},D.length=r.length→(∀ d ∈ D,d.length=n∧d.sum=c)→((List.range n).map fun k=>dotI r (colI D k)).sum=r.sum*c
 | [],[],_,_=>by
  simp only [List.sum_nil,Int.zero_mul]
  exact sum_map_zero _
 | x::r,d::D,hl,h=>by
  have e:((List.range n).map fun k=>dotI (x::r) (colI (d::D) k))=(List.range n).map fun k=>x*((d[k]?).getD 0)+dotI r (colI D k):=by
   refine List.map_congr_left fun k _=>?_
   exact dot_cons x r (colI D k) _
  rw [e,sum_map_add,sum_map_mul,prod_sum (by simpa using hl) fun d' hd'=>h d' (List.mem_cons_of_mem _ hd')]
  obtain ⟨h1,h2⟩:=h d (by simp)
  rw [← h1,range_row d,h2,List.sum_cons,Int.add_mul]
 | [],_::_,hl,_=>by simp at hl
 | _::_,[],hl,_=>by simp at hl
theorem dot_nn : ∀ {a b:List Int},(∀ x ∈ a,0≤x)→(∀ y ∈ b,0≤y)→0≤dotI a b
 | [],_,_,_=>by simp [dotI]
 | _::_,[],_,_=>by simp [dotI]
 | x::a,y::b,h1,h2=>by
  rw [dot_cons]
  have p:=Int.mul_nonneg (h1 x (by simp)) (h2 y (by simp))
  have q:=dot_nn (fun z hz=>h1 z (List.mem_cons_of_mem _ hz)) (fun z hz=>h2 z (List.mem_cons_of_mem _ hz))
  omega
theorem col_mem {D:List (List Int)}{k:Nat}{x:Int} (h:x ∈ colI D k):x=0 ∨ ∃ d ∈ D,x ∈ d:=by
 obtain ⟨d,hd,rfl⟩:=List.mem_map.mp h
 cases e:d[k]? with
 | none=>exact .inl (by simp)
 | some y=>exact .inr ⟨d,hd,by simpa using List.mem_of_getElem? e⟩
theorem Tab.prod {b c:Int}{R D:List (List Int)}{m n:Nat} (h:Tab b R m) (k:Tab c D n) (hl:D.length=m):Tab (b*c) (prodR R D n) n where
 pos:=by have:=Int.mul_pos (show 0<b by have:=h.pos;omega) (show 0<c by have:=k.pos;omega);omega
 len:=fun r hr=>by
  obtain ⟨s,_,rfl⟩:=List.mem_map.mp hr
  simp
 nn:=fun r hr x hx=>by
  obtain ⟨s,hs,rfl⟩:=List.mem_map.mp hr
  obtain ⟨i,_,rfl⟩:=List.mem_map.mp hx
  refine dot_nn (h.nn s hs) fun y hy=>?_
  rcases col_mem hy with rfl|⟨d,hd,hy⟩
  ·exact Int.le_refl _
  ·exact k.nn d hd y hy
 sum:=fun r hr=>by
  obtain ⟨s,hs,rfl⟩:=List.mem_map.mp hr
  rw [prod_sum (by rw [hl,h.len s hs]) fun d hd=>⟨k.len d hd,k.sum d hd⟩,h.sum s hs]
theorem prod_len (R D:List (List Int)) (n:Nat):(prodR R D n).length=R.length:=by simp [prodR]
theorem bits_le {x b:Int}{m:Nat} (h0:0≤x) (h:x≤b) (hz:intBits b≤m):intBits x≤m:=intBits_le_of_natAbs (by omega) hz
theorem Tab.bits {b:Int}{R:List (List Int)}{n m:Nat}{r:List Int}{x:Int} (h:Tab b R n) (hz:intBits b≤m) (hr:r ∈ R) (hx:x ∈ r):intBits x≤m:=bits_le (h.le hr hx).1 (h.le hr hx).2 hz
theorem zip_get {a b:List Int}{i:Nat}{x y:Int} (h1:a[i]?=some x) (h2:b[i]?=some y):(List.zipWith (· * ·) a b)[i]?=some (x*y):=by
 rw [List.getElem?_zipWith,h1,h2]
theorem col_get {D:List (List Int)}{k i:Nat}{d:List Int}{x:Int} (h:D[i]?=some d) (hx:d[k]?=some x):(colI D k)[i]?=some x:=by
 unfold colI
 rw [List.getElem?_map,h]
 simp [hx]
structure Gls (b:Int) (R:List (List Int)) (n:Nat):Prop where
 t:Tab b R n
 g:gTab R=1
theorem Tab.gls {b:Int}{R:List (List Int)}{n:Nat} (h:Tab b R n) (hR:R≠[]):Gls (b/gTab R) (divT R (gTab R)) n:=⟨h.low hR,gTab_low (h.gpos hR)⟩
structure PassPre (b:Int) (R:List (List Int)) (m:Nat) (c:Int) (D:List (List Int)) (n:Nat):Prop where
 r:Tab b R m
 d:Tab c D n
 rn:R≠[]
 l:D.length=m
 m1:1≤m
 m2:m≤900
 rl:R.length≤900
 n2:n≤900
 zb:intBits b≤4000
 zc:intBits c≤4000
abbrev lowT (b:Int) (P:List (List Int)):PyData:=dTab (b/gTab P) (divT P (gTab P))
def sp__law_glass (ds:List PyData) (q:PyData→Prop):Prop := ∃ (ns:List Int) (at' lo hi most:Int),ds=[.list (ns.map .int),.int at',.list [.int lo,.int hi],.int most] ∧
 (ns.length≤63∧0≤at'∧1≤lo∧lo≤hi∧hi≤12∧1≤most∧most≤12) ∧
 ∀ (b:Int) (R:List (List Int)) (n:Nat),Gls b R n→b≤999999→lo≤R.length→R.length≤hi→1≤n→n≤most→q (dTab b R)
theorem sc__law_glass:FnScope ["_law_script","_law_at","_law_heights","_law_most","_law_bottom","_law_rows_here"] ["_law_script","_law_at","_law_heights","_law_most"] (defScope s__law_glass):=sc0
theorem ok__law_glass (F:Def K mg "_law_glass" s__law_glass ["_law_script","_law_at","_law_heights","_law_most"]) (T:Txt K mg cs)
 (O__law_made:Ok P w K mg base "_law_made" 2 ["_law_bottom","_law_rows_here"] (PSp K sp__law_made))
 (O__law_rows:Ok P w K mg base "_law_rows" 2 ["_law_script","_law_at","_law_heights","_law_most"] (PSp K sp__law_rows))
 : Ok P w K mg base "_law_glass" 3 ["_law_script","_law_at","_law_heights","_law_most"] (PSp K sp__law_glass):=by
  refine F.vok sc__law_glass (by rintro ds q ⟨_,_,_,_,_,h,_⟩;rw [h];rfl) fun f cdv A outer s H E hr ds q h=>?_
  obtain ⟨ns,at',lo,hi,most,rfl,hp,k⟩:=h
  refine ⟨_,(vss_cons (vs_asg (ve_fn O__law_rows.c (hr.mono (by decide)) (va_cons (ve_var 0) (va_cons (ve_var 1) (va_cons (ve_var 2) (va_cons (ve_var 3) va_nil))))) (vg_tup (n:=2) rfl (vgs_cons (vg_name (i:=4) sc__law_glass.nd) (vgs_cons (vg_name (i:=5) sc__law_glass.nd) vgs_nil))))
   (vss_one (vs_ret (ve_fn O__law_made.c (hr.mono (by decide)) (va_cons (ve_var 4) (va_cons (ve_var 5) va_nil)))))),?_⟩
  refine ⟨ns,at',lo,hi,most,rfl,hp,fun b R n hT hb l1 l2 n1 n2=>⟨rfl,rfl,?_⟩⟩
  have hR:R≠[]:=fun z=>by subst z;simp at l1;omega
  refine ⟨b,_,R,n,rfl,⟨rowsD_lst R,hT,hR,by omega,by omega,bits_up (bits64 (by have:=hT.pos;omega) (by omega)) (by decide)⟩,?_⟩
  have g0:=hT.gpos hR
  have hd:(divT R (gTab R)).length=R.length:=by simp [divT]
  refine k _ _ n (hT.gls hR) (Int.le_trans (Int.ediv_le_self _ (by have:=hT.pos;omega)) hb) (by omega) (by omega) n1 n2
def sp_common_divisor (ds:List PyData) (q:PyData→Prop):Prop := ∃ d R,ds=[d]∧RowsD d R∧q (.int (gTab R))
theorem sc_common_divisor:FnScope ["rows","common","row","number"] ["rows"] (defScope s_common_divisor):=sc0
theorem ok_common_divisor (F:Def K mg "common_divisor" s_common_divisor ["rows"]) (T:Txt K mg cs)
 (O_divisor:Ok P w K mg base "divisor" 1 ["one","other"] (PSp K sp_divisor))
 : Ok P w K mg base "common_divisor" 2 ["rows"] (PSp K sp_common_divisor):=by
  refine F.vok sc_common_divisor (by rintro ds q ⟨_,_,h,_⟩;rw [h];rfl) fun f cdv A outer s H E hr ds q h=>?_
  obtain ⟨d,R,rfl,hR,h⟩:=h
  refine ⟨_,(vss_cons (vs_set (i:=1) sc_common_divisor.nd ve_int)
   (vss_cons (vs_for rfl (vi_seq (ve_var 0)) (vg_name (i:=2) sc_common_divisor.nd) (vss_one (vs_for rfl (vi_seq (ve_var 2)) (vg_name (i:=3) sc_common_divisor.nd) (vss_one (vs_set (i:=1) sc_common_divisor.nd (ve_fn O_divisor.c (hr.mono (by decide)) (va_cons (ve_var 1) (va_cons (ve_var 3) va_nil))))))))
   (vss_one (vs_ret (ve_var 1))))),?_⟩
  obtain ⟨l,e,_⟩:=id hR
  refine seq_elim e ⟨fun i e => ∃ t1 t2 c,e=[.val d,.val (.int c),t1,t2]∧c=(gTab (R.take i):Int),⟨_,_,_,rfl,rfl⟩,?_,?_⟩
  ·rintro i x e' hx ⟨t1,t2,_,rfl,rfl⟩
   obtain ⟨r,hr,er⟩:=hR.get e hx
   refine seq_elim er ⟨fun j e => ∃ t2 c,e=[.val d,.val (.int c),.val x,t2]∧c=(gRow (gTab (R.take i)) (r.take j):Int),⟨_,_,rfl,rfl⟩,?_,?_⟩
   ·rintro j y e hy ⟨t2,_,rfl,rfl⟩
    obtain ⟨z,rfl,hz,_⟩:=int_get hy
    refine ⟨_,_,rfl,?_⟩
    rw [take_snoc hz,gRow_snoc]
   ·rintro e ⟨t2,_,rfl,rfl⟩
    refine ⟨_,_,_,rfl,?_⟩
    rw [List.length_map,List.take_length,List.take_add_one,hr]
    show _=((gTab (R.take i++[r]):Nat):Int)
    rw [gFold_snoc]
  ·rintro e' ⟨t1,t2,_,rfl,rfl⟩
   rw [hR.len e,List.take_length]
   exact h
def sp_divided (ds:List PyData) (q:PyData→Prop):Prop := ∃ (d:PyData) (r:List Int) (g:Int),ds=[d,.int g]∧(seqD d=some (r.map .int)∧r.length≤900∧0<g∧intBits g≤9000)∧q (tRow (r.map fun n=>n/g))
theorem sc_divided:FnScope ["row","common"] ["row","common"] (defScope s_divided):=sc0
theorem ok_divided (F:Def K mg "divided" s_divided ["row","common"]) (T:Txt K mg cs)
 : Ok P w K mg base "divided" 1 ["row","common"] (PSp K sp_divided):=by
  refine F.vok sc_divided (by rintro ds q ⟨_,_,_,h,_⟩;rw [h];rfl) fun f cdv A outer s H E hr ds q h=>?_
  obtain ⟨d,r,g,rfl,⟨e,hl,g0,g1⟩,h⟩:=h
  refine ⟨_,(vss_one (vs_ret (ve_callTy c_tuple T.tuple_ L2.boot_tuple (va_cons (vf_fz (vf_comp (caps:=["common"]) (own:=["number"]) (ix:=[1]) rfl ⟨rfl,rfl,rfl,rfl,rfl,rfl⟩ (vi_seq (ve_var 0)) (fun _ _ _ _=>(vg_name (i:=1) (show List.Nodup (["common","number"]:List Str) by decide))) (fun _ _ _ _=>(ve_op o_div (ve_var 1) (ve_var 0))))) va_nil)))),?_⟩
  refine seq_elim e (comp_by ((r.map fun n=>n/g).map .int) (by simp) (small1000 (by simp;omega)) (fun e => ∃ s,e=[.val (.int g),s]) ⟨_,rfl⟩ ?_ h)
  rintro i x ys e hx hys ⟨s,rfl⟩
  obtain ⟨z,rfl,hz,_⟩:=int_get hx
  refine ⟨⟨g0,g1⟩,snoc_take ?_ hys,_,rfl⟩
  rw [List.getElem?_map,List.getElem?_map,hz];rfl
def sp_lowest_table (ds:List PyData) (q:PyData→Prop):Prop := ∃ (b:Int) (d:PyData) (R:List (List Int)) (n:Nat),ds=[.int b,d]∧(RowsD d R∧Tab b R n∧R≠[]∧R.length≤900∧n≤900∧intBits b≤9000)∧q (dTab (b/gTab R) (divT R (gTab R)))
theorem bits_dvd {g b:Int}{m:Nat} (hb:0<b) (h:g∣b) (hz:intBits b≤m):intBits g≤m:=by
 refine intBits_le_of_natAbs ?_ hz
 exact Nat.le_of_dvd (by omega) (Int.natAbs_dvd_natAbs.mpr h)
theorem sc_lowest_table:FnScope ["bottom","rows","common"] ["bottom","rows"] (defScope s_lowest_table):=sc0
theorem ok_lowest_table (F:Def K mg "lowest_table" s_lowest_table ["bottom","rows"]) (T:Txt K mg cs)
 (O_common_divisor:Ok P w K mg base "common_divisor" 2 ["rows"] (PSp K sp_common_divisor))
 (O_divided:Ok P w K mg base "divided" 1 ["row","common"] (PSp K sp_divided))
 : Ok P w K mg base "lowest_table" 3 ["bottom","rows"] (PSp K sp_lowest_table):=by
  refine F.vok sc_lowest_table (by rintro ds q ⟨_,_,_,_,h,_⟩;rw [h];rfl) fun f cdv A outer s H E hr ds q h=>?_
  obtain ⟨b,d,R,n,rfl,⟨hR,hT,hn,hl,hn2,hz⟩,h⟩:=h
  refine ⟨_,(vss_cons (vs_set (i:=2) sc_lowest_table.nd (ve_fn O_common_divisor.c (hr.mono (by decide)) (va_cons (ve_var 1) va_nil)))
   (vss_one (vs_ret (ve_tup (va_cons (ve_op o_div (ve_var 0) (ve_var 2)) (va_cons (ve_callTy c_tuple T.tuple_ L2.boot_tuple (va_cons (vf_fz (vf_comp (caps:=["common"]) (own:=["row"]) (ix:=[2]) rfl ⟨rfl,rfl,rfl,rfl,rfl,rfl⟩ (vi_seq (ve_var 1)) (fun _ _ _ _=>(vg_name (i:=1) (show List.Nodup (["common","row"]:List Str) by decide))) (fun _ _ _ _=>(ve_fn O_divided.c (hr.mono (by decide)) (va_cons (ve_var 1) (va_cons (ve_var 0) va_nil)))))) va_nil)) va_nil)))))),?_⟩
  have g0:=hT.gpos hn
  have g1:intBits (gTab R:Int)≤9000:=bits_dvd (by have:=hT.pos;omega) (hT.gdvd hn) hz
  refine ⟨d,R,rfl,hR,⟨by omega,g1⟩,?_⟩
  obtain ⟨l,e,_⟩:=id hR
  refine seq_elim e (comp_by ((divT R (gTab R)).map tRow) (by unfold divT;simp [hR.len e]) (small1000 (by unfold divT;simp;omega)) (fun e => ∃ s,e=[.val (.int (gTab R)),s]) ⟨_,rfl⟩ ?_ ⟨szl,h⟩)
  rintro i x ys e' hx hys ⟨s,rfl⟩
  obtain ⟨r,hr,er⟩:=hR.get e hx
  refine ⟨x,r,gTab R,rfl,⟨er,by rw [hT.len r (get_mem hr)];exact hn2,by omega,g1⟩,snoc_take ?_ hys,_,rfl⟩
  unfold divT
  rw [List.getElem?_map,List.getElem?_map,hr];rfl
def sp_signs (ds:List PyData) (q:PyData→Prop):Prop := ∃ b r R,ds=[dTab b (r::R)]∧q (.int (r.length:Nat))
theorem sc_signs:FnScope ["glass"] ["glass"] (defScope s_signs):=sc0
theorem ok_signs (F:Def K mg "signs" s_signs ["glass"]) (T:Txt K mg cs)
 : Ok P w K mg base "signs" 1 ["glass"] (PSp K sp_signs):=by
  refine F.vok sc_signs (by rintro ds q ⟨_,_,_,h,_⟩;rw [h];rfl) fun f cdv A outer s H E hr ds q h=>?_
  obtain ⟨b,r,R,rfl,h⟩:=h
  refine ⟨_,(vss_one (vs_ret (ve_callB c_len T.len_ L2.boot_len (va_cons (ve_ix (ve_ix (ve_var 0) ve_int) ve_int) va_nil)))),?_⟩
  refine ⟨_,rfl,_,atI_zero _ _,?_⟩
  have e:(r.map PyData.int).length=r.length:=by simp
  show q (.int ((r.map PyData.int).length:Nat))
  rw [e];exact h
def sp_column (ds:List PyData) (q:List PyData→Prop):Prop := ∃ (d:PyData) (R:List (List Int)) (k:Nat),ds=[d,.int k]∧(RowsD d R∧R.length≤900 ∧ ∀ r ∈ R,k<r.length)∧q ((colI R k).map .int)
theorem sc_column:FnScope ["rows","place"] ["rows","place"] (defScope s_column):=sc0
theorem ok_column (F:Def K mg "column" s_column ["rows","place"]) (T:Txt K mg cs)
 : Ok P w K mg base "column" 1 ["rows","place"] (FSp K sp_column):=by
  refine F.vokF sc_column (by rintro ds q ⟨_,_,_,h,_⟩;rw [h];rfl) fun f cdv A outer s H E hr ds q h=>?_
  obtain ⟨d,R,k,rfl,⟨hR,hl,hk⟩,h⟩:=h
  refine ⟨_,(vss_one (vs_retF (vf_comp (caps:=["place"]) (own:=["row"]) (ix:=[1]) rfl ⟨rfl,rfl,rfl,rfl,rfl,rfl⟩ (vi_seq (ve_var 0)) (fun _ _ _ _=>(vg_name (i:=1) (show List.Nodup (["place","row"]:List Str) by decide))) (fun _ _ _ _=>(ve_ix (ve_var 1) (ve_var 0)))))),?_⟩
  obtain ⟨l,e,_⟩:=id hR
  refine seq_elim e (comp_by ((colI R k).map .int) (by simp [colI,hR.len e]) (small1000 (by simp [colI];omega)) (fun e => ∃ s,e=[.val (.int k),s]) ⟨_,rfl⟩ ?_ ?_)
  ·rintro i x ys e' hx hys ⟨s,rfl⟩
   obtain ⟨r,hr,er⟩:=hR.get e hx
   have hk':=hk r (get_mem hr)
   have hx:=List.getElem?_eq_getElem hk'
   refine ix_seqD er (atI_nat (by rw [List.getElem?_map,hx];rfl)) ⟨snoc_take ?_ hys,_,rfl⟩
   rw [List.getElem?_map,col_get hr hx];rfl
  ·exact ⟨_,rfl,h⟩
def sp_paired (ds:List PyData) (q:PyData→Prop):Prop := ∃ (d e:PyData) (a b:List Int),ds=[d,e]∧(seqD d=some (a.map .int)∧seqD e=some (b.map .int)∧a.length≤900∧(∀ x ∈ a,intBits x≤4000) ∧ ∀ y ∈ b,intBits y≤4000)∧q (.int (dotI a b))
theorem sc_paired:FnScope ["one","other"] ["one","other"] (defScope s_paired):=sc0
theorem ok_paired (F:Def K mg "paired" s_paired ["one","other"]) (T:Txt K mg cs)
 : Ok P w K mg base "paired" 1 ["one","other"] (PSp K sp_paired):=by
  refine F.vok sc_paired (by rintro ds q ⟨_,_,_,_,h,_⟩;rw [h];rfl) fun f cdv A outer s H E hr ds q h=>?_
  obtain ⟨d,e,a,b,rfl,⟨h1,h2,hl,za,zb⟩,h⟩:=h
  refine ⟨_,(vss_one (vs_ret (ve_callB (c_sum rfl) T.sum_ L2.boot_sum (va_cons (vf_fz (vf_comp (caps:=[]) (own:=["number","beyond"]) (ix:=[]) rfl ⟨rfl,rfl,rfl,rfl,rfl,rfl⟩ (vi_zip2 T.zip_ (ve_var 0) (ve_var 1)) (fun _ _ _ _=>(vg_tup (n:=2) rfl (vgs_cons (vg_name (i:=0) (show List.Nodup (["number","beyond"]:List Str) by decide)) (vgs_cons (vg_name (i:=1) (show List.Nodup (["number","beyond"]:List Str) by decide)) vgs_nil)))) (fun _ _ _ _=>(ve_op o_mulI (ve_var 0) (ve_var 1))))) va_nil)))),?_⟩
  refine seq_elim h1 (seq_elim h2 (comp_by ((List.zipWith (· * ·) a b).map .int) (by simp [zipD_len]) (small1000 (by simp;omega)) (fun e => ∃ s t,e=[s,t]) ⟨_,_,rfl⟩ ?_ ?_))
  ·rintro i x ys e' hx hys ⟨s,t,rfl⟩
   obtain ⟨x,y,h3,h4,rfl⟩:=zipD_inv hx
   obtain ⟨x,rfl,h5,hxm⟩:=int_get h3
   obtain ⟨y,rfl,h6,hym⟩:=int_get h4
   refine ⟨rfl,rfl,mulok (za x hxm) (zb y hym),snoc_take ?_ hys,_,_,rfl⟩
   rw [List.getElem?_map,zip_get h5 h6];rfl
  ·exact ⟨_,rfl,h⟩
def sp_passed_row (ds:List PyData) (q:List PyData→Prop):Prop := ∃ (d:PyData) (r:List Int) (c:Int) (D:List (List Int)) (n:Nat),ds=[d,dTab c D]∧(seqD d=some (r.map .int)∧D≠[]∧Tab c D n∧r.length≤900∧n≤900∧D.length≤900∧(∀ x ∈ r,intBits x≤4000)∧intBits c≤4000) ∧
 q (((List.range n).map fun k=>dotI r (colI D k)).map .int)
theorem sc_passed_row:FnScope ["row","dulling"] ["row","dulling"] (defScope s_passed_row):=sc0
theorem ok_passed_row (F:Def K mg "passed_row" s_passed_row ["row","dulling"]) (T:Txt K mg cs)
 (O_signs:Ok P w K mg base "signs" 1 ["glass"] (PSp K sp_signs))
 (O_column:Ok P w K mg base "column" 1 ["rows","place"] (FSp K sp_column))
 (O_paired:Ok P w K mg base "paired" 1 ["one","other"] (PSp K sp_paired))
 : Ok P w K mg base "passed_row" 2 ["row","dulling"] (FSp K sp_passed_row):=by
  refine F.vokF sc_passed_row (by rintro ds q ⟨_,_,_,_,_,h,_⟩;rw [h];rfl) fun f cdv A outer s H E hr ds q h=>?_
  obtain ⟨d,r,c,D,n,rfl,⟨hd,hD,hT,hr1,hn,hD1,zr,zc⟩,h⟩:=h
  refine ⟨_,(vss_one (vs_retF (vf_comp (caps:=["row","dulling"]) (own:=["sign"]) (ix:=[0,1]) rfl ⟨rfl,rfl,rfl,rfl,rfl,rfl⟩ (vi_range1 T.range_ (ve_fn O_signs.c (hr.mono (by decide)) (va_cons (ve_var 1) va_nil))) (fun _ _ _ _=>(vg_name (i:=2) (show List.Nodup (["row","dulling","sign"]:List Str) by decide))) (fun _ _ _ _=>(ve_fn O_paired.c (hr.mono (by decide)) (va_cons (ve_var 0) (va_cons (vf_fz (vf_fn O_column.c (hr.mono (by decide)) (va_cons (ve_ix (ve_var 1) ve_int) (va_cons (ve_var 2) va_nil)))) va_nil))))))),?_⟩
  obtain ⟨d0,D0,rfl⟩:=List.exists_cons_of_ne_nil hD
  have hn0:=hT.len d0 (by simp)
  refine ⟨c,d0,D0,rfl,⟨by omega,by omega⟩,?_⟩
  show _∧_
  refine comp_by (((List.range n).map fun k=>dotI r (colI (d0::D0) k)).map .int) (by simp [rngD_len,hn0]) (small1000 (by simp;omega)) (fun e => ∃ s,e=[.val d,.val (dTab c (d0::D0)),s]) ⟨_,rfl⟩ ?_ ?_
  ·rintro i x ys e hx hys ⟨s,rfl⟩
   obtain ⟨hi,rfl⟩:=rngD_inv hx
   rw [Int.zero_add]
   have hi':i<n:=by omega
   refine ⟨_,rfl,_,_,i,rfl,⟨rowsD_tup _,hD1,fun r' hr'=>by rw [hT.len r' hr'];exact hi'⟩,?_⟩
   refine ⟨_,_,r,_,rfl,⟨hd,rfl,hr1,zr,fun y hy=>?_⟩,snoc_take ?_ hys,_,rfl⟩
   ·rcases col_mem hy with rfl|⟨d',hd',hy⟩
    ·decide
    ·exact hT.bits zc hd' hy
   ·rw [List.getElem?_map,List.getElem?_map,List.getElem?_range hi'];rfl
  ·exact ⟨_,rfl,h⟩
theorem trow_get {R:List (List Int)}{i:Nat}{x:PyData}{f:List Int→PyData} (h:(R.map f)[i]?=some x) : ∃ r,R[i]?=some r∧x=f r:=by
 rw [List.getElem?_map] at h
 cases hr:R[i]? with
 | none=>rw [hr] at h;cases h
 | some r=>rw [hr] at h;exact ⟨r,rfl,(Option.some.inj h).symm⟩
def sp_passX (C:Addr) (ds:List PyData) (q:PyData→Prop) (e:Addr→Prop):Prop := ∃ (b:Int) (R:List (List Int)) (c:Int) (D:List (List Int)),ds=[dTab b R,dTab c D] ∧
 ((∃ m n,PassPre b R m c D n∧q (lowT (b*c) (prodR R D n)))∨((∃ r0 R0,R=r0::R0∧r0.length≠D.length)∧e C))
theorem sc_passed_on:FnScope ["table","dulling"] ["table","dulling"] (defScope s_passed_on):=sc0
theorem ok_passed_on (F:Def K mg "passed_on" s_passed_on ["table","dulling"]) (T:Txt K mg cs)
 (O_lowest_table:Ok P w K mg base "lowest_table" 3 ["bottom","rows"] (PSp K sp_lowest_table))
 (O_signs:Ok P w K mg base "signs" 1 ["glass"] (PSp K sp_signs))
 (O_passed_row:Ok P w K mg base "passed_row" 2 ["row","dulling"] (FSp K sp_passed_row))
 : OkX P w K mg base "passed_on" 4 ["table","dulling"] (XSp K (sp_passX cs.NoFit)):=by
  refine F.vokX sc_passed_on (by rintro ds q e ⟨_,_,_,_,h,_⟩;rw [h];rfl) fun f cdv A outer s H E hr hp' ht ds q e h=>?_
  obtain ⟨b,R,c,D,rfl,h⟩:=h
  refine ⟨_,(vssx_cons (vsx_if (vt_cmp (o_ne hr.units) (ve_fn O_signs.c (hr.mono (by decide)) (va_cons (ve_var 0) va_nil)) (ve_callB c_len T.len_ L2.boot_len (va_cons (ve_ix (ve_var 1) ve_int) va_nil))) (vssx_cons (vsx_raise ht rfl T.NoFit_ T.NoFit_x.exc (va_cons ve_str va_nil))
   (vssx_of vss_nil)) (vssx_of vss_nil))
   (vssx_of (vss_one (vs_ret (ve_fn O_lowest_table.c (hr.mono (by decide)) (va_cons (ve_op o_mulI (ve_ix (ve_var 0) ve_int) (ve_ix (ve_var 1) ve_int)) (va_cons (vf_fz (vf_comp (caps:=["dulling"]) (own:=["row"]) (ix:=[1]) rfl ⟨rfl,rfl,rfl,rfl,rfl,rfl⟩ (vi_seq (ve_ix (ve_var 0) ve_int)) (fun _ _ _ _=>(vg_name (i:=1) (show List.Nodup (["dulling","row"]:List Str) by decide))) (fun _ _ _ _=>(vf_fz (vf_fn O_passed_row.c (hr.mono (by decide)) (va_cons (ve_var 1) (va_cons (ve_var 0) va_nil))))))) va_nil))))))),?_⟩
  rcases h with ⟨m,n,hp,h⟩|⟨⟨r0,R0,rfl,hne⟩,h⟩
  ·have hm:=hp.l
   have hm1:=hp.m1
   have hm2:=hp.m2
   have hrl:=hp.rl
   have hn2:=hp.n2
   have hD:D≠[]:=fun z=>by rw [z] at hm;simp at hm;omega
   obtain ⟨r0,R0,rfl⟩:=List.exists_cons_of_ne_nil hp.rn
   have hl0:=hp.r.len r0 (by simp)
   refine ⟨b,r0,R0,rfl,_,rfl,rfl,rfl,ite_ne (fun z=>?_) (fun _=>?_)⟩
   ·exfalso;apply z;simp [hl0,hm]
   refine ⟨_,rfl,_,rfl,mulok hp.zb hp.zc,_,rfl,?_⟩
   show _∧_
   refine comp_by (ds:=(r0::R0).map tRow) ((prodR (r0::R0) D n).map dRow) (by simp [prodR]) (small1000 (by simp [prodR] at hrl ⊢;omega)) (fun e => ∃ s,e=[.val (dTab c D),s]) ⟨_,rfl⟩ ?_ ?_
   ·rintro i x ys e hx hys ⟨s,rfl⟩
    obtain ⟨r,hr',rfl⟩:=trow_get hx
    have hrm:=get_mem hr'
    refine ⟨_,r,c,D,n,rfl,⟨rfl,hD,hp.d,by rw [hp.r.len r hrm];exact hm2,hn2,by omega,fun x hx=>hp.r.bits hp.zb hrm hx,hp.zc⟩,snoc_take ?_ hys,_,rfl⟩
    unfold prodR
    rw [List.getElem?_map,List.getElem?_map,hr'];rfl
   ·refine ⟨b*c,_,prodR (r0::R0) D n,n,rfl,⟨rowsD_lst _,hp.r.prod hp.d hm,by simp [prodR],by rw [prod_len];exact hrl,hn2,?_⟩,h⟩
    exact bits_up (intBits_mul_le hp.zb hp.zc) (by decide)
  ·refine ⟨b,r0,R0,rfl,_,rfl,rfl,rfl,ite_ne (fun _=>⟨szl,h⟩) (fun z=>?_)⟩
   exfalso;apply hne;simp at z;omega
theorem sc_dulled:FnScope ["glass","dulling"] ["glass","dulling"] (defScope s_dulled):=sc0
theorem ok_dulled (F:Def K mg "dulled" s_dulled ["glass","dulling"]) (T:Txt K mg cs)
 (O_passed_on:OkX P w K mg base "passed_on" 4 ["table","dulling"] (XSp K (sp_passX cs.NoFit)))
 : OkX P w K mg base "dulled" 5 ["glass","dulling"] (XSp K (sp_passX cs.NoFit)):=by
  refine F.vokX sc_dulled (by rintro ds q e ⟨_,_,_,_,h,_⟩;rw [h];rfl) fun f cdv A outer s H E hr hp ht ds q e h=>?_
  exact ⟨_,(vssx_cons (vsx_ret (vex_fn hp O_passed_on.c (hr.mono (by decide)) (va_cons (ve_var 0) (va_cons (ve_var 1) va_nil))))
   (vssx_of vss_nil)),by obtain ⟨b,R,c,D,rfl,h⟩:=h;exact ⟨b,R,c,D,rfl,h⟩⟩
def sp_scaled (ds:List PyData) (q:List PyData→Prop):Prop := ∃ (d:PyData) (r:List Int) (k:Int),ds=[d,.int k]∧(seqD d=some (r.map .int)∧r.length≤900∧(∀ x ∈ r,intBits x≤4000)∧intBits k≤4000)∧q ((r.map fun x=>x*k).map .int)
theorem sc_scaled:FnScope ["row","factor"] ["row","factor"] (defScope s_scaled):=sc0
theorem ok_scaled (F:Def K mg "scaled" s_scaled ["row","factor"]) (T:Txt K mg cs)
 : Ok P w K mg base "scaled" 1 ["row","factor"] (FSp K sp_scaled):=by
  refine F.vokF sc_scaled (by rintro ds q ⟨_,_,_,h,_⟩;rw [h];rfl) fun f cdv A outer s H E hr ds q h=>?_
  obtain ⟨d,r,k,rfl,⟨hd,hl,zr,zk⟩,h⟩:=h
  refine ⟨_,(vss_one (vs_retF (vf_comp (caps:=["factor"]) (own:=["number"]) (ix:=[1]) rfl ⟨rfl,rfl,rfl,rfl,rfl,rfl⟩ (vi_seq (ve_var 0)) (fun _ _ _ _=>(vg_name (i:=1) (show List.Nodup (["factor","number"]:List Str) by decide))) (fun _ _ _ _=>(ve_op o_mulI (ve_var 1) (ve_var 0)))))),?_⟩
  refine seq_elim hd (comp_by ((r.map fun x=>x*k).map .int) (by simp) (small1000 (by simp;omega)) (fun e => ∃ s,e=[.val (.int k),s]) ⟨_,rfl⟩ ?_ ?_)
  ·rintro i x ys e' hx hys ⟨s,rfl⟩
   obtain ⟨x,rfl,hx,hxm⟩:=int_get hx
   refine ⟨mulok (zr x hxm) zk,snoc_take ?_ hys,_,rfl⟩
   rw [List.getElem?_map,List.getElem?_map,hx];rfl
  ·exact ⟨_,rfl,h⟩
def sc (k:Int) (R:List (List Int)):List (List Int):=R.map fun r=>r.map fun n=>k*n
def tenR (r s:List Int):List Int:=r.flatMap fun x=>s.map fun y=>y*x
def besR (R S:List (List Int)):List (List Int):=List.zipWith tenR R S
theorem sum_flat : ∀ (r s:List Int),(tenR r s).sum=r.sum*s.sum
 | [],s=>by simp [tenR]
 | x::r,s=>by
  have e:tenR (x::r) s=(s.map fun y=>y*x)++tenR r s:=rfl
  have e2:(s.map fun y=>y*x)=s.map fun y=>x*y:=List.map_congr_left fun y _=>Int.mul_comm _ _
  rw [e,List.sum_append,sum_flat r s,e2,sum_map_mul,List.sum_cons,Int.add_mul]
  simp
theorem ten_len : ∀ (r s:List Int),(tenR r s).length=r.length*s.length
 | [],s=>by simp [tenR]
 | x::r,s=>by
  have e:tenR (x::r) s=(s.map fun y=>y*x)++tenR r s:=rfl
  rw [e,List.length_append,ten_len r s,List.length_map,List.length_cons,Nat.succ_mul,Nat.add_comm]
theorem ten_mem {r s:List Int}{z:Int} (h:z ∈ tenR r s) : ∃ x ∈ r,∃ y ∈ s,z=y*x:=by
 obtain ⟨x,hx,h⟩:=List.mem_flatMap.mp h
 obtain ⟨y,hy,rfl⟩:=List.mem_map.mp h
 exact ⟨x,hx,y,hy,rfl⟩
theorem bes_mem {R S:List (List Int)}{t:List Int} (h:t ∈ besR R S) : ∃ r ∈ R,∃ s ∈ S,t=tenR r s:=by
 unfold besR at h
 obtain ⟨i,hi,rfl⟩:=List.getElem_of_mem h
 rw [List.length_zipWith] at hi
 refine ⟨R[i],List.getElem_mem _,S[i],List.getElem_mem _,?_⟩
 rw [List.getElem_zipWith]
theorem Tab.bes {b c:Int}{R S:List (List Int)}{m n:Nat} (h:Tab b R m) (k:Tab c S n):Tab (b*c) (besR R S) (m*n) where
 pos:=by have:=Int.mul_pos (show 0<b by have:=h.pos;omega) (show 0<c by have:=k.pos;omega);omega
 len:=fun t ht=>by
  obtain ⟨r,hr,s,hs,rfl⟩:=bes_mem ht
  rw [ten_len,h.len r hr,k.len s hs]
 nn:=fun t ht z hz=>by
  obtain ⟨r,hr,s,hs,rfl⟩:=bes_mem ht
  obtain ⟨x,hx,y,hy,rfl⟩:=ten_mem hz
  exact Int.mul_nonneg (k.nn s hs y hy) (h.nn r hr x hx)
 sum:=fun t ht=>by
  obtain ⟨r,hr,s,hs,rfl⟩:=bes_mem ht
  rw [sum_flat,h.sum r hr,k.sum s hs]
theorem bes_len {R S:List (List Int)} (h:R.length=S.length):(besR R S).length=R.length:=by unfold besR;rw [List.length_zipWith,h,Nat.min_self]
structure BesPre (b:Int) (R:List (List Int)) (m:Nat) (c:Int) (S:List (List Int)) (n:Nat):Prop where
 r:Tab b R m
 s:Tab c S n
 l:R.length=S.length
 r1:1≤R.length
 r2:R.length≤900
 n1:n≤900
 m1:m≤900
 mn:m*n≤12
 zb:intBits b≤4000
 zc:intBits c≤4000
theorem ten_snoc (r s:List Int) (x:Int):tenR (r++[x]) s=tenR r s++s.map fun y=>y*x:=by
 unfold tenR
 rw [List.flatMap_append];simp
def sp_both_seen (ds:List PyData) (q:List PyData→Prop):Prop := ∃ (d e:PyData) (r s:List Int),ds=[d,e]∧(seqD d=some (r.map .int)∧seqD e=some (s.map .int)∧s.length≤900∧r.length*s.length≤900∧(∀ x ∈ r,intBits x≤4000) ∧ ∀ y ∈ s,intBits y≤4000)∧q ((tenR r s).map .int)
theorem sc_both_seen:FnScope ["row","beyond","both","number"] ["row","beyond"] (defScope s_both_seen):=sc0
theorem ok_both_seen (F:Def K mg "both_seen" s_both_seen ["row","beyond"]) (T:Txt K mg cs)
 (O_scaled:Ok P w K mg base "scaled" 1 ["row","factor"] (FSp K sp_scaled))
 : Ok P w K mg base "both_seen" 2 ["row","beyond"] (FSp K sp_both_seen):=by
  refine F.vokF sc_both_seen (by rintro ds q ⟨_,_,_,_,h,_⟩;rw [h];rfl) fun f cdv A outer s H E hr ds q h=>?_
  obtain ⟨d,e,r,s,rfl,⟨hd,he,hs,hl,zr,zs⟩,h⟩:=h
  refine ⟨_,(vss_cons (vs_setO (i:=2) sc_both_seen.nd (vf_lst va_nil))
   (vss_cons (vs_for rfl (vi_seq (ve_var 0)) (vg_name (i:=3) sc_both_seen.nd) (vss_one (vs_extend 2 (vf_fn O_scaled.c (hr.mono (by decide)) (va_cons (ve_var 1) (va_cons (ve_var 3) va_nil))))))
   (vss_one (vs_retO 2)))),?_⟩
  refine ⟨szl,seq_elim hd ⟨fun i e' => ∃ t l,e'=[.val d,.val e,.own l,t]∧l=(tenR (r.take i) s).map .int,⟨_,_,rfl,rfl⟩,?_,?_⟩⟩
  ·rintro i x e' hx ⟨t,l,rfl,rfl⟩
   obtain ⟨x,rfl,hx,hxm⟩:=int_get hx
   refine ⟨rfl,_,s,x,rfl,⟨he,hs,zs,zr x hxm⟩,rfl,?_,_,_,rfl,?_⟩
   ·show (List.map PyData.int _).length+(List.map PyData.int _).length≤_
    have hi:i<r.length:=(List.getElem?_eq_some_iff.mp hx).1
    have h3:(i+1)*s.length≤r.length*s.length:=Nat.mul_le_mul_right _ hi
    rw [List.length_map,List.length_map,ten_len,List.length_map,List.length_take,Nat.min_eq_left (by omega)]
    rw [Nat.succ_mul] at h3
    exact small_le (by omega)
   ·rw [take_snoc hx,ten_snoc,List.map_append]
    rfl
  ·rintro e' ⟨t,l,rfl,rfl⟩
   rw [List.length_map,List.take_length]
   exact ⟨_,rfl,h⟩
def sp_stands (ds:List PyData) (q:PyData→Prop):Prop := ∃ b R,ds=[dTab b R]∧q (.int (R.length:Nat))
theorem sc_stands:FnScope ["glass"] ["glass"] (defScope s_stands):=sc0
theorem ok_stands (F:Def K mg "stands" s_stands ["glass"]) (T:Txt K mg cs)
 : Ok P w K mg base "stands" 1 ["glass"] (PSp K sp_stands):=by
  refine F.vok sc_stands (by rintro ds q ⟨_,_,h,_⟩;rw [h];rfl) fun f cdv A outer s H E hr ds q h=>?_
  obtain ⟨b,R,rfl,h⟩:=h
  refine ⟨_,(vss_one (vs_ret (ve_callB c_len T.len_ L2.boot_len (va_cons (ve_ix (ve_var 0) ve_int) va_nil)))),?_⟩
  refine ⟨_,rfl,?_⟩
  have e:(R.map tRow).length=R.length:=by simp
  show q (.int ((R.map tRow).length:Nat))
  rw [e];exact h
def sp_alikeX (C:Addr) (ds:List PyData) (q:PyData→Prop) (e:Addr→Prop):Prop := ∃ b R c S,ds=[dTab b R,dTab c S]∧((R.length=S.length∧q .none)∨(R.length≠S.length∧e C))
theorem sc_check_alike_stands:FnScope ["one","other"] ["one","other"] (defScope s_check_alike_stands):=sc0
theorem ok_check_alike_stands (F:Def K mg "check_alike_stands" s_check_alike_stands ["one","other"]) (T:Txt K mg cs)
 (O_stands:Ok P w K mg base "stands" 1 ["glass"] (PSp K sp_stands))
 : OkX P w K mg base "check_alike_stands" 2 ["one","other"] (XSp K (sp_alikeX cs.NoFit)):=by
  refine F.vokX sc_check_alike_stands (by rintro ds q e ⟨_,_,_,_,h,_⟩;rw [h];rfl) fun f cdv A outer s H E hr hp ht ds q e h=>?_
  obtain ⟨b,R,c,S,rfl,h⟩:=h
  refine ⟨_,(vssx_cons (vsx_if (vt_cmp (o_ne hr.units) (ve_fn O_stands.c (hr.mono (by decide)) (va_cons (ve_var 0) va_nil)) (ve_fn O_stands.c (hr.mono (by decide)) (va_cons (ve_var 1) va_nil))) (vssx_cons (vsx_raise ht rfl T.NoFit_ T.NoFit_x.exc (va_cons ve_str va_nil))
   (vssx_of vss_nil)) (vssx_of vss_nil))
   (vssx_of vss_nil)),?_⟩
  rcases h with ⟨hl,h⟩|⟨hl,h⟩
  ·refine ⟨b,R,rfl,c,S,rfl,rfl,rfl,ite_ne (fun z=>?_) (fun _=>h)⟩
   exfalso;apply z;rw [hl]
  ·refine ⟨b,R,rfl,c,S,rfl,rfl,rfl,ite_ne (fun _=>⟨szl,h⟩) (fun z=>?_)⟩
   exfalso;apply hl;omega
def sp_manyX (C:Addr) (ds:List PyData) (q:PyData→Prop) (e:Addr→Prop):Prop := ∃ k:Int,ds=[.int k]∧((k≤12∧q .none)∨(12<k∧e C))
theorem sc_check_not_too_many:FnScope ["many"] ["many"] (defScope s_check_not_too_many):=sc0
theorem ok_check_not_too_many (F:Def K mg "check_not_too_many" s_check_not_too_many ["many"]) (T:Txt K mg cs)
 : OkX P w K mg base "check_not_too_many" 1 ["many"] (XSp K (sp_manyX cs.TooMany)):=by
  refine F.vokX sc_check_not_too_many (by rintro ds q e ⟨_,h,_⟩;rw [h];rfl) fun f cdv A outer s H E hr hp ht ds q e h=>?_
  obtain ⟨k,rfl,h⟩:=h
  refine ⟨_,(vssx_cons (vsx_if (vt_cmp o_gt (ve_var 0) (ve_globI T.MOST_SIGNS_)) (vssx_cons (vsx_raise ht rfl T.TooMany_ T.TooMany_x.exc (va_cons ve_str va_nil))
   (vssx_of vss_nil)) (vssx_of vss_nil))
   (vssx_of vss_nil)),?_⟩
  rcases h with ⟨hl,h⟩|⟨hl,h⟩
  ·exact iteD (fun z=>by omega) (fun _=>h)
  ·exact iteD (fun _=>⟨szl,h⟩) (fun z=>by omega)
theorem zipw_get {α β γ:Type}{g:α→β→γ}{a:List α}{b:List β}{i:Nat}{x:α}{y:β} (h1:a[i]?=some x) (h2:b[i]?=some y):(List.zipWith g a b)[i]?=some (g x y):=by
 rw [List.getElem?_zipWith,h1,h2]
def sp_besX (C C2:Addr) (ds:List PyData) (q:PyData→Prop) (e:Addr→Prop):Prop := ∃ (b:Int) (R:List (List Int)) (m:Nat) (c:Int) (S:List (List Int)) (n:Nat),ds=[dTab b R,dTab c S] ∧
 ((BesPre b R m c S n∧q (lowT (b*c) (besR R S)))∨(R.length≠S.length∧e C)∨(R.length=S.length∧(∃ r0 R0,R=r0::R0∧r0.length=m)∧(∃ s0 S0,S=s0::S0∧s0.length=n)∧m≤900∧12<m*n∧e C2))
theorem sc_beside:FnScope ["one","other","rows"] ["one","other"] (defScope s_beside):=sc0
theorem ok_beside (F:Def K mg "beside" s_beside ["one","other"]) (T:Txt K mg cs)
 (O_lowest_table:Ok P w K mg base "lowest_table" 3 ["bottom","rows"] (PSp K sp_lowest_table))
 (O_signs:Ok P w K mg base "signs" 1 ["glass"] (PSp K sp_signs))
 (O_both_seen:Ok P w K mg base "both_seen" 2 ["row","beyond"] (FSp K sp_both_seen))
 (O_check_alike_stands:OkX P w K mg base "check_alike_stands" 2 ["one","other"] (XSp K (sp_alikeX cs.NoFit)))
 (O_check_not_too_many:OkX P w K mg base "check_not_too_many" 1 ["many"] (XSp K (sp_manyX cs.TooMany)))
 : OkX P w K mg base "beside" 4 ["one","other"] (XSp K (sp_besX cs.NoFit cs.TooMany)):=by
  refine F.vokX sc_beside (by rintro ds q e ⟨_,_,_,_,_,_,h,_⟩;rw [h];rfl) fun f cdv A outer s H E hr hp ht ds q e h=>?_
  obtain ⟨b,R,m,c,S,n,rfl,h⟩:=h
  refine ⟨_,(vssx_cons (vsx_expr (vex_fn hp O_check_alike_stands.c (hr.mono (by decide)) (va_cons (ve_var 0) (va_cons (ve_var 1) va_nil))))
   (vssx_cons (vsx_expr (vex_fn hp O_check_not_too_many.c (hr.mono (by decide)) (va_cons (ve_op o_mulI (ve_fn O_signs.c (hr.mono (by decide)) (va_cons (ve_var 0) va_nil)) (ve_fn O_signs.c (hr.mono (by decide)) (va_cons (ve_var 1) va_nil))) va_nil)))
   (vssx_of (vss_cons (vs_setC (caps:=[]) (own:=["row","beyond"]) (ix:=[]) (i:=2) sc_beside.nd rfl ⟨rfl,rfl,rfl,rfl,rfl,rfl⟩ (vi_zip2 T.zip_ (ve_ix (ve_var 0) ve_int) (ve_ix (ve_var 1) ve_int)) (fun _ _ _ _=>(vg_tup (n:=2) rfl (vgs_cons (vg_name (i:=0) (show List.Nodup (["row","beyond"]:List Str) by decide)) (vgs_cons (vg_name (i:=1) (show List.Nodup (["row","beyond"]:List Str) by decide)) vgs_nil)))) (fun _ _ _ _=>(vf_fz (vf_fn O_both_seen.c (hr.mono (by decide)) (va_cons (ve_var 0) (va_cons (ve_var 1) va_nil))))))
   (vss_one (vs_ret (ve_fn O_lowest_table.c (hr.mono (by decide)) (va_cons (ve_op o_mulI (ve_ix (ve_var 0) ve_int) (ve_ix (ve_var 1) ve_int)) (va_cons (ve_var 2) va_nil))))))))),?_⟩
  rcases h with ⟨hB,h⟩|⟨hl,h⟩|⟨hl,⟨r0,R0,eR,l1⟩,⟨s0,S0,eS,l2⟩,hm,hmn,h⟩
  ·have hl:=hB.l
   have r1:=hB.r1
   have r2:=hB.r2
   have hmn:=hB.mn
   obtain ⟨r0,R0,eR⟩:=List.exists_cons_of_ne_nil (show R≠[] from fun z=>by rw [z] at r1;simp at r1)
   obtain ⟨s0,S0,eS⟩:=List.exists_cons_of_ne_nil (show S≠[] from fun z=>by rw [z] at hl;rw [hl] at r1;simp at r1)
   have l1:r0.length=m:=hB.r.len r0 (by rw [eR];simp)
   have l2:s0.length=n:=hB.s.len s0 (by rw [eS];simp)
   refine ⟨b,R,c,S,rfl,.inl ⟨hl,b,r0,R0,by rw [eR],c,s0,S0,by rw [eS],?_⟩⟩
   have hmn':((r0.length:Nat):Int)*((s0.length:Nat):Int)≤12:=by
    rw [l1,l2,← Int.natCast_mul];omega
   have small:intBits ((r0.length:Nat):Int)≤64:=bits64 (by omega) (by
    have:=hB.n1
    have:m≤900:=hB.m1
    omega)
   refine ⟨IntMulOk.of_left small,_,rfl,.inl ⟨hmn',_,rfl,_,rfl,?_⟩⟩
   show _∧_
   refine comp_by ((besR R S).map dRow) (by simp [zipD_len,besR]) (small1000 (by rw [List.length_map,bes_len hl];omega)) (fun e => ∃ s t,e=[s,t]) ⟨_,_,rfl⟩ ?_ ?_
   ·rintro i x ys e hx hys ⟨s,t,rfl⟩
    obtain ⟨x,y,h3,h4,rfl⟩:=zipD_inv hx
    obtain ⟨r,h5,rfl⟩:=trow_get h3
    obtain ⟨s',h6,rfl⟩:=trow_get h4
    have m5:=get_mem h5
    have m6:=get_mem h6
    have k5:=hB.r.len r m5
    have k6:=hB.s.len s' m6
    have kn:=hB.n1
    refine ⟨rfl,rfl,_,_,r,s',rfl,⟨rfl,rfl,by omega,by rw [k5,k6];omega,fun x hx=>hB.r.bits hB.zb m5 hx,fun x hx=>hB.s.bits hB.zc m6 hx⟩,snoc_take ?_ hys,_,_,rfl⟩
    unfold besR
    rw [List.getElem?_map,zipw_get h5 h6];rfl
   ·refine ⟨_,rfl,_,rfl,mulok hB.zb hB.zc,_,_,_,m*n,rfl,⟨rowsD_lst _,hB.r.bes hB.s,?_,by rw [bes_len hl];omega,by omega,bits_up (intBits_mul_le hB.zb hB.zc) (by decide)⟩,h⟩
    intro z
    have:=congrArg List.length z
    rw [bes_len hl,List.length_nil] at this
    omega
  ·exact ⟨b,R,c,S,rfl,.inr ⟨hl,h⟩⟩
  ·refine ⟨b,R,c,S,rfl,.inl ⟨hl,b,r0,R0,by rw [eR],c,s0,S0,by rw [eS],?_⟩⟩
   have small:intBits ((r0.length:Nat):Int)≤64:=bits64 (by omega) (by omega)
   have hmn':12<((r0.length:Nat):Int)*((s0.length:Nat):Int):=by
    rw [l1,l2,← Int.natCast_mul];omega
   exact ⟨IntMulOk.of_left small,_,rfl,.inr ⟨hmn',h⟩⟩
def sp_is_share (ds:List PyData) (k:PyData→Prop):Prop := ∃ p q,ds=[dSh p q]∧Shr p q∧k (.bool true)
theorem sc_is_share:FnScope ["thing"] ["thing"] (defScope s_is_share):=sc0
theorem ok_is_share (F:Def K mg "is_share" s_is_share ["thing"]) (T:Txt K mg cs)
 (O_is_whole:Ok P w K mg base "is_whole" 1 ["thing"] (PSp K sp_is_whole))
 (O_divisor:Ok P w K mg base "divisor" 1 ["one","other"] (PSp K sp_divisor))
 : Ok P w K mg base "is_share" 2 ["thing"] (PSp K sp_is_share):=by
  refine F.vok sc_is_share (by rintro ds q ⟨_,_,h,_⟩;rw [h];rfl) fun f cdv A outer s H E hr ds k h=>?_
  obtain ⟨p,q,rfl,hp,h⟩:=h
  refine ⟨_,(vss_cons (vs_if (VW.pt (vw_or (vt_not (vt_val (ve_isi T.isinstance_ T.tuple_ L2.boot_tuple (ve_var 0)))) (vw_or1 (vt_cmp (o_ne hr.units) (ve_callB c_len T.len_ L2.boot_len (va_cons (ve_var 0) va_nil)) ve_int)))) (vss_one (vs_ret ve_bl)) vss_nil)
   (vss_cons (vs_if (VW.pt (vw_or (vt_not (vt_val (ve_fn O_is_whole.c (hr.mono (by decide)) (va_cons (ve_ix (ve_var 0) ve_int) va_nil)))) (vw_or1 (vt_not (vt_val (ve_fn O_is_whole.c (hr.mono (by decide)) (va_cons (ve_ix (ve_var 0) ve_int) va_nil))))))) (vss_one (vs_ret ve_bl)) vss_nil)
   (vss_one (vs_ret (ve_and (ve_cmp o_ge (ve_ix (ve_var 0) ve_int) ve_int) (ve_one (ve_cmp (o_eq hr.units) (ve_fn O_divisor.c (hr.mono (by decide)) (va_cons (ve_ix (ve_var 0) ve_int) (va_cons (ve_ix (ve_var 0) ve_int) va_nil))) ve_int))))))),?_⟩
  have hq:=hp.pos
  refine ⟨rfl,rfl,_,rfl,_,rfl,_,rfl,?_⟩
  refine iteD (fun _=>⟨_,rfl,_,rfl,rfl,rfl,?_⟩) (fun z=>(z hq).elim)
  rw [hp.gcd]
  exact h
def sp_is_part (ds:List PyData) (k:PyData→Prop):Prop := ∃ p q,ds=[dSh p q]∧Shr p q∧k (.bool (decide (0≤p∧p≤q)))
theorem sc_is_part:FnScope ["thing"] ["thing"] (defScope s_is_part):=sc0
theorem ok_is_part (F:Def K mg "is_part" s_is_part ["thing"]) (T:Txt K mg cs)
 (O_is_share:Ok P w K mg base "is_share" 2 ["thing"] (PSp K sp_is_share))
 : Ok P w K mg base "is_part" 3 ["thing"] (PSp K sp_is_part):=by
  refine F.vok sc_is_part (by rintro ds q ⟨_,_,h,_⟩;rw [h];rfl) fun f cdv A outer s H E hr ds k h=>?_
  obtain ⟨p,q,rfl,hp,h⟩:=h
  refine ⟨_,(vss_one (vs_ret (ve_and (ve_fn O_is_share.c (hr.mono (by decide)) (va_cons (ve_var 0) va_nil)) (ve_one (ve_chain o_le o_le ve_int (ve_ix (ve_var 0) ve_int) (ve_ix (ve_var 0) ve_int)))))),?_⟩
  refine ⟨p,q,rfl,hp,_,rfl,iteD (fun a=>⟨_,rfl,?_⟩) (fun a=>?_)⟩
  ·have e:decide (0≤p∧p≤q)=decide (p≤q):=by simp [a]
   rw [e] at h;exact h
  ·have e:decide (0≤p∧p≤q)=false:=decide_eq_false fun z=>a z.1
   rw [e] at h;exact h
def mixR (w v:Int) (R S:List (List Int)):List (List Int):=List.zipWith (fun r s=>(r.map fun x=>x*w)++s.map fun y=>y*v) R S
theorem mix_len {w v:Int}{R S:List (List Int)} (h:R.length=S.length):(mixR w v R S).length=R.length:=by unfold mixR;rw [List.length_zipWith,h,Nat.min_self]
theorem mix_mem {w v:Int} : ∀ {R S:List (List Int)}{t:List Int},t ∈ mixR w v R S → ∃ r ∈ R,∃ s ∈ S,t=(r.map fun x=>x*w)++s.map fun y=>y*v
 | r::R,s::S,t,h=>by
  have h':t ∈ ((r.map fun x=>x*w)++s.map fun y=>y*v)::mixR w v R S:=h
  rcases List.mem_cons.mp h' with rfl|h'
  ·exact ⟨r,by simp,s,by simp,rfl⟩
  ·obtain ⟨r',hr,s',hs,e⟩:=mix_mem h'
   exact ⟨r',List.mem_cons_of_mem _ hr,s',List.mem_cons_of_mem _ hs,e⟩
theorem sum_mulr (k:Int) : ∀ (r:List Int),(r.map fun x=>x*k).sum=r.sum*k
 | []=>by simp
 | x::r=>by rw [List.map_cons,List.sum_cons,List.sum_cons,sum_mulr k r,Int.add_mul]
theorem Tab.mix {b c w v d:Int}{R S:List (List Int)}{m n:Nat} (h:Tab b R m) (k:Tab c S n) (hw:0≤w) (hv:0≤v) (hd:b*w+c*v=d) (h1:1≤d):Tab d (mixR w v R S) (m+n) where
 pos:=h1
 len:=fun t ht=>by
  obtain ⟨r,hr,s,hs,rfl⟩:=mix_mem ht
  rw [List.length_append,List.length_map,List.length_map,h.len r hr,k.len s hs]
 nn:=fun t ht z hz=>by
  obtain ⟨r,hr,s,hs,rfl⟩:=mix_mem ht
  rcases List.mem_append.mp hz with hz|hz
  ·obtain ⟨x,hx,rfl⟩:=List.mem_map.mp hz
   exact Int.mul_nonneg (h.nn r hr x hx) hw
  ·obtain ⟨x,hx,rfl⟩:=List.mem_map.mp hz
   exact Int.mul_nonneg (k.nn s hs x hx) hv
 sum:=fun t ht=>by
  obtain ⟨r,hr,s,hs,rfl⟩:=mix_mem ht
  rw [List.sum_append,sum_mulr,sum_mulr,h.sum r hr,k.sum s hs,hd]
theorem mix_bot {p q b c:Int}:b*(p*c)+c*((q-p)*b)=q*b*c:=by grind
structure MixPre (p q b:Int) (R:List (List Int)) (m:Nat) (c:Int) (S:List (List Int)) (n:Nat):Prop where
 s:Shr p q
 p0:0≤p
 pq:p≤q
 r:Tab b R m
 t:Tab c S n
 l:R.length=S.length
 r1:1≤R.length
 r2:R.length≤900
 mn:m+n≤12
 zq:intBits q≤1000
 zb:intBits b≤1000
 zc:intBits c≤1000
theorem MixPre.tab {p q b c:Int}{R S:List (List Int)}{m n:Nat} (h:MixPre p q b R m c S n):Tab (q*b*c) (mixR (p*c) ((q-p)*b) R S) (m+n):=by
 have hb:=h.r.pos
 have hc:=h.t.pos
 have hq:=h.s.pos
 have h1:0<q*b*c:=Int.mul_pos (Int.mul_pos (by omega) (by omega)) (by omega)
 exact h.r.mix h.t (Int.mul_nonneg h.p0 (by omega)) (Int.mul_nonneg (by have:=h.pq;omega) (by omega)) mix_bot (by omega)
def sp_mixX (C0 C C2:Addr) (ds:List PyData) (k:PyData→Prop) (e:Addr→Prop):Prop := ∃ (p q b:Int) (R:List (List Int)) (m:Nat) (c:Int) (S:List (List Int)) (n:Nat),ds=[dSh p q,dTab b R,dTab c S]∧Shr p q ∧
 ((MixPre p q b R m c S n∧k (lowT (q*b*c) (mixR (p*c) ((q-p)*b) R S)))∨(¬ (0≤p∧p≤q)∧e C0)∨((0≤p∧p≤q)∧R.length≠S.length∧e C) ∨
  ((0≤p∧p≤q)∧R.length=S.length∧(∃ r0 R0,R=r0::R0∧r0.length=m)∧(∃ s0 S0,S=s0::S0∧s0.length=n)∧12<m+n∧e C2))
theorem sc_mixed:FnScope ["part","one","other","weight","rest","rows"] ["part","one","other"] (defScope s_mixed):=sc0
theorem ok_mixed (F:Def K mg "mixed" s_mixed ["part","one","other"]) (T:Txt K mg cs)
 (O_lowest_table:Ok P w K mg base "lowest_table" 3 ["bottom","rows"] (PSp K sp_lowest_table))
 (O_signs:Ok P w K mg base "signs" 1 ["glass"] (PSp K sp_signs))
 (O_scaled:Ok P w K mg base "scaled" 1 ["row","factor"] (FSp K sp_scaled))
 (O_check_alike_stands:OkX P w K mg base "check_alike_stands" 2 ["one","other"] (XSp K (sp_alikeX cs.NoFit)))
 (O_check_not_too_many:OkX P w K mg base "check_not_too_many" 1 ["many"] (XSp K (sp_manyX cs.TooMany)))
 (O_is_part:Ok P w K mg base "is_part" 3 ["thing"] (PSp K sp_is_part))
 : OkX P w K mg base "mixed" 4 ["part","one","other"] (XSp K (sp_mixX cs.NoShare cs.NoFit cs.TooMany)):=by
  refine F.vokX sc_mixed (by rintro ds q e ⟨_,_,_,_,_,_,_,_,h,_⟩;rw [h];rfl) fun f cdv A outer s H E hr hp ht ds k e h=>?_
  obtain ⟨p,q,b,R,m,c,S,n,rfl,hs,h⟩:=h
  refine ⟨_,(vssx_cons (vsx_if (vt_not (vt_val (ve_fn O_is_part.c (hr.mono (by decide)) (va_cons (ve_var 0) va_nil)))) (vssx_cons (vsx_raise ht rfl T.NoShare_ T.NoShare_x.exc (va_cons ve_str va_nil))
   (vssx_of vss_nil)) (vssx_of vss_nil))
   (vssx_cons (vsx_expr (vex_fn hp O_check_alike_stands.c (hr.mono (by decide)) (va_cons (ve_var 1) (va_cons (ve_var 2) va_nil))))
   (vssx_cons (vsx_expr (vex_fn hp O_check_not_too_many.c (hr.mono (by decide)) (va_cons (ve_op o_add (ve_fn O_signs.c (hr.mono (by decide)) (va_cons (ve_var 1) va_nil)) (ve_fn O_signs.c (hr.mono (by decide)) (va_cons (ve_var 2) va_nil))) va_nil)))
   (vssx_of (vss_cons (vs_set (i:=3) sc_mixed.nd (ve_op o_mulI (ve_ix (ve_var 0) ve_int) (ve_ix (ve_var 2) ve_int)))
   (vss_cons (vs_set (i:=4) sc_mixed.nd (ve_op o_mulI (ve_op o_sub (ve_ix (ve_var 0) ve_int) (ve_ix (ve_var 0) ve_int)) (ve_ix (ve_var 1) ve_int)))
   (vss_cons (vs_setC (caps:=["weight","rest"]) (own:=["row","beyond"]) (ix:=[3,4]) (i:=5) sc_mixed.nd rfl ⟨rfl,rfl,rfl,rfl,rfl,rfl⟩ (vi_zip2 T.zip_ (ve_ix (ve_var 1) ve_int) (ve_ix (ve_var 2) ve_int)) (fun _ _ _ _=>(vg_tup (n:=2) rfl (vgs_cons (vg_name (i:=2) (show List.Nodup (["weight","rest","row","beyond"]:List Str) by decide)) (vgs_cons (vg_name (i:=3) (show List.Nodup (["weight","rest","row","beyond"]:List Str) by decide)) vgs_nil)))) (fun _ _ _ _=>(vf_fz (vf_cat (vf_fz (vf_fn O_scaled.c (hr.mono (by decide)) (va_cons (ve_var 2) (va_cons (ve_var 0) va_nil)))) (vf_fz (vf_fn O_scaled.c (hr.mono (by decide)) (va_cons (ve_var 3) (va_cons (ve_var 1) va_nil))))))))
   (vss_one (vs_ret (ve_fn O_lowest_table.c (hr.mono (by decide)) (va_cons (ve_op o_mulI (ve_op o_mulI (ve_ix (ve_var 0) ve_int) (ve_ix (ve_var 1) ve_int)) (ve_ix (ve_var 2) ve_int)) (va_cons (ve_var 5) va_nil)))))))))))),?_⟩
  rcases h with ⟨hB,h⟩|⟨hno,h⟩|⟨hyes,hl,h⟩|⟨hyes,hl,⟨r0,R0,eR,l1⟩,⟨s0,S0,eS,l2⟩,hmn,h⟩
  ·have hl:=hB.l
   have r1:=hB.r1
   have r2:=hB.r2
   have hmn:=hB.mn
   have hb:=hB.r.pos
   have hc:=hB.t.pos
   have hq:=hB.s.pos
   have p0:=hB.p0
   have pq:=hB.pq
   obtain ⟨r0,R0,eR⟩:=List.exists_cons_of_ne_nil (show R≠[] from fun z=>by rw [z] at r1;simp at r1)
   obtain ⟨s0,S0,eS⟩:=List.exists_cons_of_ne_nil (show S≠[] from fun z=>by rw [z] at hl;rw [hl] at r1;simp at r1)
   have l1:r0.length=m:=hB.r.len r0 (by rw [eR];simp)
   have l2:s0.length=n:=hB.t.len s0 (by rw [eS];simp)
   have zp:intBits p≤1000:=bits_le p0 pq hB.zq
   have zr:intBits (q-p)≤1000:=bits_le (by omega) (by omega) hB.zq
   have zw:intBits (p*c)≤2000:=intBits_mul_le zp hB.zc
   have zv:intBits ((q-p)*b)≤2000:=intBits_mul_le zr hB.zb
   have zqb:intBits (q*b)≤2000:=intBits_mul_le hB.zq hB.zb
   refine ⟨p,q,rfl,hB.s,iteN (decide_eq_true ⟨p0,pq⟩) ?_⟩
   refine ⟨b,R,c,S,rfl,.inl ⟨hl,b,r0,R0,by rw [eR],c,s0,S0,by rw [eS],_,rfl,.inl ⟨by omega,?_⟩⟩⟩
   refine ⟨_,rfl,_,rfl,mulok (bits_up zp (by decide)) (bits_up hB.zc (by decide)),_,rfl,_,rfl,_,rfl,mulok (bits_up zr (by decide)) (bits_up hB.zb (by decide)),_,rfl,_,rfl,?_⟩
   show _∧_
   refine comp_by ((mixR (p*c) ((q-p)*b) R S).map dRow) (by simp [zipD_len,mixR]) (small1000 (by rw [List.length_map,mix_len hl];omega)) (fun e => ∃ s t,e=[.val (.int (p*c)),.val (.int ((q-p)*b)),s,t]) ⟨_,_,rfl⟩ ?_ ?_
   ·rintro i x ys e hx hys ⟨s,t,rfl⟩
    obtain ⟨x,y,h3,h4,rfl⟩:=zipD_inv hx
    obtain ⟨r,h5,rfl⟩:=trow_get h3
    obtain ⟨s',h6,rfl⟩:=trow_get h4
    have m5:=get_mem h5
    have m6:=get_mem h6
    have k5:=hB.r.len r m5
    have k6:=hB.t.len s' m6
    refine ⟨rfl,rfl,_,r,_,rfl,⟨rfl,by omega,fun x hx=>bits_up (hB.r.bits hB.zb m5 hx) (by decide),bits_up zw (by decide)⟩,_,s',_,rfl,⟨rfl,by omega,fun x hx=>bits_up (hB.t.bits hB.zc m6 hx) (by decide),bits_up zv (by decide)⟩,?_,snoc_take ?_ hys,_,_,rfl⟩
    ·simp only [List.length_map];exact small_le (by omega)
    ·unfold mixR
     rw [List.getElem?_map,zipw_get h5 h6]
     simp only [Option.map_some,dRow,List.map_append]
   ·refine ⟨_,rfl,_,rfl,mulok (bits_up hB.zq (by decide)) (bits_up hB.zb (by decide)),_,rfl,mulok (bits_up zqb (by decide)) (bits_up hB.zc (by decide)),_,_,_,m+n,rfl,⟨rowsD_lst _,hB.tab,?_,by rw [mix_len hl];omega,by omega,bits_up (intBits_mul_le zqb hB.zc) (by decide)⟩,h⟩
    intro z
    have:=congrArg List.length z
    rw [mix_len hl,List.length_nil] at this
    omega
  ·refine ⟨p,q,rfl,hs,?_⟩
   show if (!decide (0≤p∧p≤q))=true then _ else _
   rw [decide_eq_false hno]
   exact ⟨szl,h⟩
  ·refine ⟨p,q,rfl,hs,iteN (decide_eq_true hyes) ?_⟩
   exact ⟨b,R,c,S,rfl,.inr ⟨hl,h⟩⟩
  ·refine ⟨p,q,rfl,hs,iteN (decide_eq_true hyes) ?_⟩
   refine ⟨b,R,c,S,rfl,.inl ⟨hl,b,r0,R0,by rw [eR],c,s0,S0,by rw [eS],_,rfl,.inr ⟨by omega,h⟩⟩⟩
def wordOf (d:Int) (rl m sl n:Nat) (p q:Int):Str :=
 if d=0 then (if sl=m then "told" else "fit")
 else if d=2 ∧ ¬ (0≤p∧p≤q) then "share"
 else if rl≠sl then "fit"
 else if d=1 then (if 12<m*n then "many" else "told") else (if 12<m+n then "many" else "told")
structure WordPre (d p q b:Int) (R:List (List Int)) (m:Nat) (c:Int) (S:List (List Int)) (n:Nat):Prop where
 d:d=0∨d=1∨d=2
 s:Shr p q
 r:Tab b R m
 t:Tab c S n
 r1:1≤R.length
 r2:R.length≤12
 s1:1≤S.length
 s2:S.length≤12
 m1:1≤m
 m2:m≤12
 n1:1≤n
 n2:n≤12
 zq:intBits q≤1000
 zb:intBits b≤1000
 zc:intBits c≤1000
def sp__law_word (ds:List PyData) (k:PyData→Prop):Prop := ∃ (d p q b:Int) (R:List (List Int)) (m:Nat) (c:Int) (S:List (List Int)) (n:Nat),ds=[.int d,dTab b R,dTab c S,dSh p q]∧WordPre d p q b R m c S n∧k (.str (wordOf d R.length m S.length n p q))
theorem sc__law_word:FnScope ["_law_deed","_law_one","_law_other","_law_part","_law_caught","error","_law_found"] ["_law_deed","_law_one","_law_other","_law_part"] (defScope s__law_word):=sc0
theorem ok__law_word (F:Def K mg "_law_word" s__law_word ["_law_deed","_law_one","_law_other","_law_part"]) (T:Txt K mg cs)
 (O_dulled:OkX P w K mg base "dulled" 5 ["glass","dulling"] (XSp K (sp_passX cs.NoFit)))
 (O_beside:OkX P w K mg base "beside" 4 ["one","other"] (XSp K (sp_besX cs.NoFit cs.TooMany)))
 (O_mixed:OkX P w K mg base "mixed" 4 ["part","one","other"] (XSp K (sp_mixX cs.NoShare cs.NoFit cs.TooMany)))
 : Ok P w K mg base "_law_word" 6 ["_law_deed","_law_one","_law_other","_law_part"] (PSp K sp__law_word):=by
  refine F.vok sc__law_word (by rintro ds q ⟨_,_,_,_,_,_,_,_,_,h,_⟩;rw [h];rfl) fun f cdv A outer s H E hr ds k h=>?_
  obtain ⟨d,p,q,b,R,m,c,S,n,rfl,hw,h⟩:=h
  refine ⟨_,(vss_cons (vs_set (i:=4) sc__law_word.nd ve_non)
   (vss_cons (vs_try (i:=5) (C':=cs.GlassError) rfl rfl sc__law_word.nd T.GlassError_ T.GlassError_e (fun _ _ _ hp=>(vssx_cons (vsx_if (vt_cmp (o_eq hr.units) (ve_var 0) ve_int) (vssx_cons (vsx_expr (vex_fn hp O_dulled.c (hr.mono (by decide)) (va_cons (ve_var 1) (va_cons (ve_var 2) va_nil))))
   (vssx_of vss_nil)) (vssx_cons (vsx_if (vt_cmp (o_eq hr.units) (ve_var 0) ve_int) (vssx_cons (vsx_expr (vex_fn hp O_beside.c (hr.mono (by decide)) (va_cons (ve_var 1) (va_cons (ve_var 2) va_nil))))
   (vssx_of vss_nil)) (vssx_cons (vsx_expr (vex_fn hp O_mixed.c (hr.mono (by decide)) (va_cons (ve_var 3) (va_cons (ve_var 1) (va_cons (ve_var 2) va_nil)))))
   (vssx_of vss_nil)))
   (vssx_of vss_nil)))
   (vssx_of vss_nil))) (fun _ _=>(vss_one (vs_setE (i:=4) 5 sc__law_word.nd))))
   (vss_cons (vs_if (vt_isNX 4) (vss_one (vs_ret ve_str)) vss_nil)
   (vss_cons (vs_if (vt_val (ve_isXs 4 T.isinstance_ (pa_c (pe_glob (v :=.ref cs.Full) rfl T.Full_ rfl) (pa_c (pe_glob (v :=.ref cs.NoBeliefs) rfl T.NoBeliefs_ rfl) (pa_c (pe_glob (v :=.ref cs.NoDulling) rfl T.NoDulling_ rfl) (pa_c (pe_glob (v :=.ref cs.NoGlass) rfl T.NoGlass_ rfl) (pa_c (pe_glob (v :=.ref cs.NoName) rfl T.NoName_ rfl) (pa_c (pe_glob (v :=.ref cs.NoRow) rfl T.NoRow_ rfl) (pa_c (pe_glob (v :=.ref cs.NoText) rfl T.NoText_ rfl) pa_c0))))))) rfl (szl (h:=rfl)))) (vss_one (vs_ret ve_str)) vss_nil)
   (vss_cons (vs_if (vt_not (vt_val (ve_isX 4 T.isinstance_ (pe_bltn (v :=.ty "ValueError") rfl T.ValueError_ L2.boot_ValueError rfl) rfl))) (vss_one (vs_ret ve_str)) vss_nil)
   (vss_cons (vs_set (i:=6) sc__law_word.nd (vf_fz (vf_lst (va_cons (ve_isX 4 T.isinstance_ (pe_glob (v :=.ref cs.NoFit) rfl T.NoFit_ rfl) rfl) (va_cons (ve_isX 4 T.isinstance_ (pe_glob (v :=.ref cs.NoShare) rfl T.NoShare_ rfl) rfl) (va_cons (ve_isX 4 T.isinstance_ (pe_glob (v :=.ref cs.TooMany) rfl T.TooMany_ rfl) rfl) va_nil))))))
   (vss_cons (vs_if (vt_cmp (o_ne hr.units) (ve_countB 6 ve_bl) ve_int) (vss_one (vs_ret ve_str)) vss_nil)
   (vss_one (vs_ret (ve_ix (vf_fz (vf_lst (va_cons ve_str (va_cons ve_str (va_cons ve_str va_nil))))) (ve_indexB 6 ve_bl))))))))))),?_⟩
  have r1:=hw.r1
  have r2:=hw.r2
  have s1:=hw.s1
  have s2:=hw.s2
  have m1:=hw.m1
  have m2:=hw.m2
  have n1:=hw.n1
  have n2:=hw.n2
  have hRn:R≠[]:=fun z=>by rw [z] at r1;simp at r1
  have hSn:S≠[]:=fun z=>by rw [z] at s1;simp at s1
  obtain ⟨r0,R0,eR⟩:=List.exists_cons_of_ne_nil hRn
  obtain ⟨s0,S0,eS⟩:=List.exists_cons_of_ne_nil hSn
  have l1:r0.length=m:=hw.r.len r0 (by rw [eR];simp)
  have l2:s0.length=n:=hw.t.len s0 (by rw [eS];simp)
  have up : ∀ {x:Int},intBits x≤1000→intBits x≤4000:=fun h=>bits_up h (by decide)
  rcases hw.d with rfl|rfl|rfl
  ·refine ⟨rfl,rfl,ite_eq (fun _=>?_) (fun z=>(z rfl).elim)⟩
   by_cases hl:S.length=m
   ·rw [show wordOf 0 R.length m S.length n p q = "told" by simp [wordOf,hl]] at h
    exact ⟨b,R,c,S,rfl,.inl ⟨m,n,⟨hw.r,hw.t,hRn,hl,m1,by omega,by omega,by omega,up hw.zb,up hw.zc⟩,h⟩⟩
   ·rw [show wordOf 0 R.length m S.length n p q = "fit" by simp [wordOf,hl]] at h
    exact ⟨b,R,c,S,rfl,.inr ⟨⟨r0,R0,eR,by omega⟩,⟨T.u_NoFit_GlassError,T.NoFit_x,_,T.k_NoFit_Full_NoBeliefs_NoDulling_NoGlass_NoName_NoRow_NoText,T.NoFit_x,_,T.k_NoFit_ValueError,T.NoFit_x,_,T.k_NoFit_NoFit,T.NoFit_x,_,T.k_NoFit_NoShare,T.NoFit_x,_,T.k_NoFit_TooMany,szl,_,rfl,[true,false,false],true,rfl,rfl,rfl,rfl,ite_ne (fun z=>(z rfl).elim) (fun _=>⟨szl,_,rfl,[true,false,false],true,0,rfl,rfl,rfl,by decide,_,rfl,h⟩)⟩⟩⟩
  ·refine ⟨rfl,rfl,ite_eq (fun z=>by omega) (fun _=>⟨rfl,rfl,ite_eq (fun _=>?_) (fun z=>(z rfl).elim)⟩)⟩
   by_cases hl:R.length=S.length
   ·by_cases hmn:12<m*n
    ·rw [show wordOf 1 R.length m S.length n p q = "many" by simp [wordOf,hl,hmn]] at h
     exact ⟨b,R,m,c,S,n,rfl,.inr (.inr ⟨hl,⟨r0,R0,eR,l1⟩,⟨s0,S0,eS,l2⟩,by omega,hmn,⟨T.u_TooMany_GlassError,T.TooMany_x,_,T.k_TooMany_Full_NoBeliefs_NoDulling_NoGlass_NoName_NoRow_NoText,T.TooMany_x,_,T.k_TooMany_ValueError,T.TooMany_x,_,T.k_TooMany_NoFit,T.TooMany_x,_,T.k_TooMany_NoShare,T.TooMany_x,_,T.k_TooMany_TooMany,szl,_,rfl,[false,false,true],true,rfl,rfl,rfl,rfl,ite_ne (fun z=>(z rfl).elim) (fun _=>⟨szl,_,rfl,[false,false,true],true,2,rfl,rfl,rfl,by decide,_,rfl,h⟩)⟩⟩)⟩
    ·rw [show wordOf 1 R.length m S.length n p q = "told" by simp [wordOf,hl,hmn]] at h
     exact ⟨b,R,m,c,S,n,rfl,.inl ⟨⟨hw.r,hw.t,hl,by omega,by omega,by omega,by omega,by omega,up hw.zb,up hw.zc⟩,h⟩⟩
   ·rw [show wordOf 1 R.length m S.length n p q = "fit" by simp [wordOf,hl]] at h
    exact ⟨b,R,m,c,S,n,rfl,.inr (.inl ⟨hl,⟨T.u_NoFit_GlassError,T.NoFit_x,_,T.k_NoFit_Full_NoBeliefs_NoDulling_NoGlass_NoName_NoRow_NoText,T.NoFit_x,_,T.k_NoFit_ValueError,T.NoFit_x,_,T.k_NoFit_NoFit,T.NoFit_x,_,T.k_NoFit_NoShare,T.NoFit_x,_,T.k_NoFit_TooMany,szl,_,rfl,[true,false,false],true,rfl,rfl,rfl,rfl,ite_ne (fun z=>(z rfl).elim) (fun _=>⟨szl,_,rfl,[true,false,false],true,0,rfl,rfl,rfl,by decide,_,rfl,h⟩)⟩⟩)⟩
  ·refine ⟨rfl,rfl,ite_eq (fun z=>by omega) (fun _=>⟨rfl,rfl,ite_eq (fun z=>by omega) (fun _=>?_)⟩)⟩
   by_cases hpq:0≤p∧p≤q
   ·by_cases hl:R.length=S.length
    ·by_cases hmn:12<m+n
     ·rw [show wordOf 2 R.length m S.length n p q = "many" by simp [wordOf,hl,hmn,hpq]] at h
      exact ⟨p,q,b,R,m,c,S,n,rfl,hw.s,.inr (.inr (.inr ⟨hpq,hl,⟨r0,R0,eR,l1⟩,⟨s0,S0,eS,l2⟩,hmn,⟨T.u_TooMany_GlassError,T.TooMany_x,_,T.k_TooMany_Full_NoBeliefs_NoDulling_NoGlass_NoName_NoRow_NoText,T.TooMany_x,_,T.k_TooMany_ValueError,T.TooMany_x,_,T.k_TooMany_NoFit,T.TooMany_x,_,T.k_TooMany_NoShare,T.TooMany_x,_,T.k_TooMany_TooMany,szl,_,rfl,[false,false,true],true,rfl,rfl,rfl,rfl,ite_ne (fun z=>(z rfl).elim) (fun _=>⟨szl,_,rfl,[false,false,true],true,2,rfl,rfl,rfl,by decide,_,rfl,h⟩)⟩⟩))⟩
     ·rw [show wordOf 2 R.length m S.length n p q = "told" by simp [wordOf,hl,hmn,hpq]] at h
      exact ⟨p,q,b,R,m,c,S,n,rfl,hw.s,.inl ⟨⟨hw.s,hpq.1,hpq.2,hw.r,hw.t,hl,by omega,by omega,by omega,hw.zq,hw.zb,hw.zc⟩,h⟩⟩
    ·rw [show wordOf 2 R.length m S.length n p q = "fit" by simp [wordOf,hl,hpq]] at h
     exact ⟨p,q,b,R,m,c,S,n,rfl,hw.s,.inr (.inr (.inl ⟨hpq,hl,⟨T.u_NoFit_GlassError,T.NoFit_x,_,T.k_NoFit_Full_NoBeliefs_NoDulling_NoGlass_NoName_NoRow_NoText,T.NoFit_x,_,T.k_NoFit_ValueError,T.NoFit_x,_,T.k_NoFit_NoFit,T.NoFit_x,_,T.k_NoFit_NoShare,T.NoFit_x,_,T.k_NoFit_TooMany,szl,_,rfl,[true,false,false],true,rfl,rfl,rfl,rfl,ite_ne (fun z=>(z rfl).elim) (fun _=>⟨szl,_,rfl,[true,false,false],true,0,rfl,rfl,rfl,by decide,_,rfl,h⟩)⟩⟩))⟩
   ·rw [show wordOf 2 R.length m S.length n p q = "share" by unfold wordOf;rw [if_neg (by decide),if_pos ⟨rfl,hpq⟩]] at h
    exact ⟨p,q,b,R,m,c,S,n,rfl,hw.s,.inr (.inl ⟨hpq,⟨T.u_NoShare_GlassError,T.NoShare_x,_,T.k_NoShare_Full_NoBeliefs_NoDulling_NoGlass_NoName_NoRow_NoText,T.NoShare_x,_,T.k_NoShare_ValueError,T.NoShare_x,_,T.k_NoShare_NoFit,T.NoShare_x,_,T.k_NoShare_NoShare,T.NoShare_x,_,T.k_NoShare_TooMany,szl,_,rfl,[false,true,false],true,rfl,rfl,rfl,rfl,ite_ne (fun z=>(z rfl).elim) (fun _=>⟨szl,_,rfl,[false,true,false],true,1,rfl,rfl,rfl,by decide,_,rfl,h⟩)⟩⟩)⟩
def sp__law_due (ds:List PyData) (k:PyData→Prop):Prop := ∃ (d p q b:Int) (R:List (List Int)) (m:Nat) (c:Int) (S:List (List Int)) (n:Nat),ds=[.int d,dTab b R,dTab c S,dSh p q]∧WordPre d p q b R m c S n∧k (.str (wordOf d R.length m S.length n p q))
theorem int_at {a b:PyData}{x:Bool}:atI [a,b] (if x=true then (1:Int) else 0)=some (if x=true then b else a):=by cases x <;> rfl
theorem sc__law_due:FnScope ["_law_deed","_law_one","_law_other","_law_part","_law_first","_law_second"] ["_law_deed","_law_one","_law_other","_law_part"] (defScope s__law_due):=sc0
theorem ok__law_due (F:Def K mg "_law_due" s__law_due ["_law_deed","_law_one","_law_other","_law_part"]) (T:Txt K mg cs)
 : Ok P w K mg base "_law_due" 1 ["_law_deed","_law_one","_law_other","_law_part"] (PSp K sp__law_due):=by
  refine F.vok sc__law_due (by rintro ds q ⟨_,_,_,_,_,_,_,_,_,h,_⟩;rw [h];rfl) fun f cdv A outer s H E hr ds k h=>?_
  obtain ⟨d,p,q,b,R,m,c,S,n,rfl,hw,h⟩:=h
  refine ⟨_,(vss_cons (vs_set (i:=4) sc__law_due.nd (ve_callB c_len T.len_ L2.boot_len (va_cons (ve_ix (ve_ix (ve_var 1) ve_int) ve_int) va_nil)))
   (vss_cons (vs_set (i:=5) sc__law_due.nd (ve_callB c_len T.len_ L2.boot_len (va_cons (ve_ix (ve_ix (ve_var 2) ve_int) ve_int) va_nil)))
   (vss_cons (vs_if (vt_cmp (o_eq hr.units) (ve_var 0) ve_int) (vss_one (vs_ret (ve_ix (vf_fz (vf_lst (va_cons ve_str (va_cons ve_str va_nil)))) (ve_callTy c_int T.int_ L2.boot_int (va_cons (ve_cmp (o_eq hr.units) (ve_callB c_len T.len_ L2.boot_len (va_cons (ve_ix (ve_var 2) ve_int) va_nil)) (ve_var 4)) va_nil))))) vss_nil)
   (vss_cons (vs_if (VW.pt (vw_and (vt_cmp (o_eq hr.units) (ve_var 0) ve_int) (vw_and1 (vt_not (vt_chain o_le o_le ve_int (ve_ix (ve_var 3) ve_int) (ve_ix (ve_var 3) ve_int)))))) (vss_one (vs_ret ve_str)) vss_nil)
   (vss_cons (vs_if (vt_cmp (o_ne hr.units) (ve_callB c_len T.len_ L2.boot_len (va_cons (ve_ix (ve_var 1) ve_int) va_nil)) (ve_callB c_len T.len_ L2.boot_len (va_cons (ve_ix (ve_var 2) ve_int) va_nil))) (vss_one (vs_ret ve_str)) vss_nil)
   (vss_cons (vs_if (vt_cmp (o_eq hr.units) (ve_var 0) ve_int) (vss_one (vs_ret (ve_ix (vf_fz (vf_lst (va_cons ve_str (va_cons ve_str va_nil)))) (ve_callTy c_int T.int_ L2.boot_int (va_cons (ve_cmp o_gt (ve_op o_mulI (ve_var 4) (ve_var 5)) ve_int) va_nil))))) vss_nil)
   (vss_one (vs_ret (ve_ix (vf_fz (vf_lst (va_cons ve_str (va_cons ve_str va_nil)))) (ve_callTy c_int T.int_ L2.boot_int (va_cons (ve_cmp o_gt (ve_op o_add (ve_var 4) (ve_var 5)) ve_int) va_nil))))))))))),?_⟩
  have r1:=hw.r1
  have s1:=hw.s1
  have m2:=hw.m2
  have n2:=hw.n2
  have hRn:R≠[]:=fun z=>by rw [z] at r1;simp at r1
  have hSn:S≠[]:=fun z=>by rw [z] at s1;simp at s1
  obtain ⟨r0,R0,eR⟩:=List.exists_cons_of_ne_nil hRn
  obtain ⟨s0,S0,eS⟩:=List.exists_cons_of_ne_nil hSn
  have l1:r0.length=m:=hw.r.len r0 (by rw [eR];simp)
  have l2:s0.length=n:=hw.t.len s0 (by rw [eS];simp)
  have aR:atI (R.map tRow) 0=some (tRow r0):=by rw [eR];exact atI_zero _ _
  have aS:atI (S.map tRow) 0=some (tRow s0):=by rw [eS];exact atI_zero _ _
  have eM:(((r0.map PyData.int).length:Nat):Int)=(m:Int):=by simp [l1]
  have eN:(((s0.map PyData.int).length:Nat):Int)=(n:Int):=by simp [l2]
  have eRl:(((R.map tRow).length:Nat):Int)=(R.length:Int):=by simp
  have eSl:(((S.map tRow).length:Nat):Int)=(S.length:Int):=by simp
  refine ⟨_,rfl,_,aR,_,rfl,_,aS,?_⟩
  rcases hw.d with rfl|rfl|rfl
  ·refine ⟨rfl,rfl,ite_eq (fun _=>?_) (fun z=>(z rfl).elim)⟩
   refine ⟨szl,_,rfl,rfl,rfl,_,int_at,?_⟩
   by_cases hl:S.length=m
   ·have e:PyData.eqv (.int (((S.map tRow).length:Nat):Int)) (.int (((r0.map PyData.int).length:Nat):Int))=true:=by rw [eqv_int,eM,eSl,hl];simp
    rw [e]
    rw [show wordOf 0 R.length m S.length n p q = "told" by simp [wordOf,hl]] at h
    exact h
   ·have e:PyData.eqv (.int (((S.map tRow).length:Nat):Int)) (.int (((r0.map PyData.int).length:Nat):Int))=false:=by
     rw [eqv_int,eM,eSl]
     have : ¬ (S.length:Int)=(m:Int):=by omega
     simp [this]
    rw [e]
    rw [show wordOf 0 R.length m S.length n p q = "fit" by simp [wordOf,hl]] at h
    exact h
  ·refine ⟨rfl,rfl,ite_eq (fun z=>by omega) (fun _=>⟨rfl,rfl,ite_eq (fun z=>by omega) (fun _=>?_)⟩)⟩
   refine ⟨_,rfl,_,rfl,rfl,rfl,ite_ne (fun z=>?_) (fun z=>?_)⟩
   ·have hl:R.length≠S.length:=by omega
    rw [show wordOf 1 R.length m S.length n p q = "fit" by simp [wordOf,hl]] at h
    exact h
   ·have hl:R.length=S.length:=by omega
    refine ⟨rfl,rfl,ite_eq (fun _=>?_) (fun z=>(z rfl).elim)⟩
    refine ⟨szl,IntMulOk.of_left (bits64 (by omega) (by omega)),_,int_at,?_⟩
    have eP:(((r0.map PyData.int).length:Nat):Int)*(((s0.map PyData.int).length:Nat):Int)=((m*n:Nat):Int):=by rw [eM,eN,Int.natCast_mul]
    rw [eP]
    by_cases hmn:12<m*n
    ·rw [decide_eq_true (show (12:Int)<((m*n:Nat):Int) by omega)]
     rw [show wordOf 1 R.length m S.length n p q = "many" by simp [wordOf,hl,hmn]] at h
     exact h
    ·rw [decide_eq_false (show ¬ (12:Int)<((m*n:Nat):Int) by omega)]
     rw [show wordOf 1 R.length m S.length n p q = "told" by simp [wordOf,hl,hmn]] at h
     exact h
  ·refine ⟨rfl,rfl,ite_eq (fun z=>by omega) (fun _=>⟨rfl,rfl,ite_eq (fun _=>?_) (fun z=>(z rfl).elim)⟩)⟩
   by_cases hpq:0≤p∧p≤q
   ·refine ⟨_,rfl,iteD (fun _=>⟨_,rfl,iteN (decide_eq_true hpq.2) ?_⟩) (fun z=>(z hpq.1).elim)⟩
    refine ⟨_,rfl,_,rfl,rfl,rfl,ite_ne (fun z=>?_) (fun z=>?_)⟩
    ·have hl:R.length≠S.length:=by omega
     rw [show wordOf 2 R.length m S.length n p q = "fit" by simp [wordOf,hl,hpq]] at h
     exact h
    ·have hl:R.length=S.length:=by omega
     refine ⟨rfl,rfl,ite_eq (fun z=>by omega) (fun _=>?_)⟩
     refine ⟨szl,_,int_at,?_⟩
     by_cases hmn:12<m+n
     ·rw [decide_eq_true (show (12:Int)<(((r0.map PyData.int).length:Nat):Int)+(((s0.map PyData.int).length:Nat):Int) by omega)]
      rw [show wordOf 2 R.length m S.length n p q = "many" by simp [wordOf,hl,hmn,hpq]] at h
      exact h
     ·rw [decide_eq_false (show ¬ (12:Int)<(((r0.map PyData.int).length:Nat):Int)+(((s0.map PyData.int).length:Nat):Int) by omega)]
      rw [show wordOf 2 R.length m S.length n p q = "told" by simp [wordOf,hl,hmn,hpq]] at h
      exact h
   ·rw [show wordOf 2 R.length m S.length n p q = "share" by unfold wordOf;rw [if_neg (by decide),if_pos ⟨rfl,hpq⟩]] at h
    refine ⟨_,rfl,iteD (fun a1=>⟨_,rfl,?_⟩) (fun _=>h)⟩
    have hf:decide (p≤q)=false:=decide_eq_false (fun z=>hpq ⟨a1,z⟩)
    show if (!decide (p≤q))=true then _ else _
    rw [hf]
    exact h
theorem step_all : ∀ m:Nat,m<41→2≤m → ∀ d:Nat,d<6→2≤d→Builtin.Range.small 1 (m:Int) (d:Int)=true∧Builtin.Range.rangeSize 1 (m:Int) (d:Int)=((Builtin.Range.rangeSize 1 (m:Int) (d:Int)).toNat:Int):=by decide
theorem step_ok {j c:Int} (h1:2≤j) (h2:j≤40) (c1:2≤c) (c2:c≤5) : ∃ n,Rng3 1 j c n:=by
 obtain ⟨m,rfl⟩:=Int.eq_ofNat_of_zero_le (show 0≤j by omega)
 obtain ⟨d,rfl⟩:=Int.eq_ofNat_of_zero_le (show 0≤c by omega)
 obtain ⟨a,b⟩:=step_all m (by omega) (by omega) d (by omega) (by omega)
 exact ⟨_,by omega,by omega,a,b⟩
theorem step_min {n k c:Int} (k1:2≤k) (k2:k≤40) (c1:2≤c) (c2:c≤5) : ∃ m,Rng3 1 (if (if n>2 then n else 2)<k then (if n>2 then n else 2) else k) c m :=
 step_ok (by split <;> split <;> omega) (by split <;> split <;> omega) c1 c2
def Shp (n:Nat) (d:PyData):Prop:=d.canLay0=true∧d.depth≤n
theorem Shp.ok {n:Nat}{d:PyData} (h:Shp n d) (hn:n≤64:=by decide):SeqAt.shaped d=true:=by
 unfold SeqAt.shaped
 rw [h.1,decide_eq_true (Nat.le_trans h.2 hn)];rfl
theorem word_shp (d:Int) (rl m sl n:Nat) (p q:Int):SeqAt.shaped (.str (wordOf d rl m sl n p q))=true∧PyData.eqv (.str (wordOf d rl m sl n p q)) (.str (wordOf d rl m sl n p q))=true:=by
 refine ⟨?_,by simp [PyData.eqv]⟩
 have h0:PyData.strOk (wordOf d rl m sl n p q)=true:=by
  unfold wordOf
  split
  ·split <;> decide +kernel
  ·split
   ·decide +kernel
   ·split
    ·decide +kernel
    ·split
     ·split <;> decide +kernel
     ·split <;> decide +kernel
 have h:Shp 0 (.str (wordOf d rl m sl n p q)):=by simp [Shp,PyData.canLay0,PyData.depth,h0]
 exact h.ok
theorem sc_law:FnScope ["_law_script","_law_at","_law_one","_law_other","_law_dulling","_law_xs","_law_part","_law_many","_law_deed"] ["_law_script"] (defScope s_law):=sc0
theorem law_fn {f:Addr}{fd:FuncData} (F:Fun K "law" "law" s_law f fd) (T:Txt K mg cs)
 (O_share:Ok P w K mg base "share" 3 ["top","bottom"] (PSp K sp_share))
 (O__law_drawn:Ok P w K mg base "_law_drawn" 1 ["_law_script","_law_at","_law_sizes"] (FSp K sp__law_drawn))
 (O__law_glass:Ok P w K mg base "_law_glass" 3 ["_law_script","_law_at","_law_heights","_law_most"] (PSp K sp__law_glass))
 (O__law_word:Ok P w K mg base "_law_word" 6 ["_law_deed","_law_one","_law_other","_law_part"] (PSp K sp__law_word))
 (O__law_due:Ok P w K mg base "_law_due" 1 ["_law_deed","_law_one","_law_other","_law_part"] (PSp K sp__law_due))
 : FnOk P w K mg base CX0 7 f fd ["_law_script"] (spLaw K):=by
  refine F.vlaw sc_law rfl fun cdv A outer s H E hr ns hlen=>?_
  refine ⟨_,(vss_cons (vs_for rfl (vi_range3 T.range_ ve_int (ve_callB (c_min2 rfl) T.min_ L2.boot_min (va_cons ve_int (va_cons (ve_callB (c_max2 rfl) T.max_ L2.boot_max (va_cons ve_int (va_cons (ve_callB c_len T.len_ L2.boot_len (va_cons (ve_var 0) va_nil)) va_nil))) va_nil))) ve_int) (vg_name (i:=1) sc_law.nd) (vss_cons (vs_set (i:=2) sc_law.nd (ve_fn O__law_glass.c (hr.mono (by decide)) (va_cons (ve_var 0) (va_cons (ve_var 1) (va_cons (vf_fz (vf_lst (va_cons ve_int (va_cons ve_int va_nil)))) (va_cons ve_int va_nil))))))
   (vss_cons (vs_set (i:=3) sc_law.nd (ve_fn O__law_glass.c (hr.mono (by decide)) (va_cons (ve_var 0) (va_cons (ve_op o_add (ve_var 1) ve_int) (va_cons (vf_fz (vf_lst (va_cons ve_int (va_cons ve_int va_nil)))) (va_cons ve_int va_nil))))))
   (vss_cons (vs_set (i:=4) sc_law.nd (ve_fn O__law_glass.c (hr.mono (by decide)) (va_cons (ve_var 0) (va_cons (ve_op o_add (ve_var 1) ve_int) (va_cons (vf_fz (vf_lst (va_cons ve_int (va_cons ve_int va_nil)))) (va_cons ve_int va_nil))))))
   (vss_cons (vs_set (i:=5) sc_law.nd (vf_fz (vf_fn O__law_drawn.c (hr.mono (by decide)) (va_cons (ve_var 0) (va_cons (ve_op o_add (ve_var 1) ve_int) (va_cons (vf_fz (vf_lst (va_cons ve_int (va_cons ve_int (va_cons ve_int va_nil))))) va_nil))))))
   (vss_cons (vs_set (i:=6) sc_law.nd (ve_fn O_share.c (hr.mono (by decide)) (va_cons (ve_op o_sub (ve_ix (ve_var 5) ve_int) ve_int) (va_cons (ve_op o_add ve_int (ve_ix (ve_var 5) ve_int)) va_nil))))
   (vss_mid (vs_if (vt_cmp (o_eq hr.units) (ve_ix (ve_var 5) ve_int) ve_int) (vss_cons (vs_set (i:=7) sc_law.nd (ve_callB c_len T.len_ L2.boot_len (va_cons (ve_ix (ve_var 2) ve_int) va_nil)))
   (vss_cons (vs_set (i:=3) sc_law.nd (ve_fn O__law_glass.c (hr.mono (by decide)) (va_cons (ve_var 0) (va_cons (ve_op o_add (ve_var 1) ve_int) (va_cons (vf_fz (vf_lst (va_cons (ve_var 7) (va_cons (ve_var 7) va_nil)))) (va_cons ve_int va_nil))))))
   (vss_one (vs_set (i:=4) sc_law.nd (ve_fn O__law_glass.c (hr.mono (by decide)) (va_cons (ve_var 0) (va_cons (ve_op o_add (ve_var 1) ve_int) (va_cons (vf_fz (vf_rep (vf_lst (va_cons (ve_callB c_len T.len_ L2.boot_len (va_cons (ve_ix (ve_ix (ve_var 2) ve_int) ve_int) va_nil)) va_nil)) ve_int)) (va_cons ve_int va_nil))))))))) vss_nil)
   (vss_cons (vs_if (vt_cmp (o_ne hr.units) (ve_fn O__law_word.c (hr.mono (by decide)) (va_cons ve_int (va_cons (ve_var 2) (va_cons (ve_var 4) (va_cons (ve_var 6) va_nil))))) (ve_fn O__law_due.c (hr.mono (by decide)) (va_cons ve_int (va_cons (ve_var 2) (va_cons (ve_var 4) (va_cons (ve_var 6) va_nil)))))) (vss_one (vs_ret ve_bl)) vss_nil)
   (vss_one (vs_for rfl (vi_seq (vf_fz (vf_lst (va_cons ve_int (va_cons ve_int (va_cons ve_int va_nil)))))) (vg_name (i:=8) sc_law.nd) (vss_one (vs_if (vt_cmp (o_ne hr.units) (ve_fn O__law_word.c (hr.mono (by decide)) (va_cons (ve_var 8) (va_cons (ve_var 2) (va_cons (ve_var 3) (va_cons (ve_var 6) va_nil))))) (ve_fn O__law_due.c (hr.mono (by decide)) (va_cons (ve_var 8) (va_cons (ve_var 2) (va_cons (ve_var 3) (va_cons (ve_var 6) va_nil)))))) (vss_one (vs_ret ve_bl)) vss_nil))))))))))))
   (vss_one (vs_ret ve_bl))),?_⟩
  obtain ⟨n0,hn0⟩:=step_min (n:=((ns.map PyData.int).length:Nat)) (k:=31) (c:=5) (by decide) (by decide) (by decide) (by decide)
  refine ⟨n0,hn0,fun i e => ∃ t1 t2 t3 t4 t5 t6 t7 t8,e=[.val (.list (ns.map .int)),t1,t2,t3,t4,t5,t6,t7,t8],⟨_,_,_,_,_,_,_,_,rfl⟩,?_,?_⟩
  ·rintro i x e hx ⟨t1,t2,t3,t4,t5,t6,t7,t8,rfl⟩
   obtain ⟨hi,rfl⟩:=rngS_inv hx
   have sm : ∀ {z:Int},1≤z→z≤999999→intBits z≤1000:=fun h1 h2=>bits_up (bits64 (by omega) (by omega)) (by decide)
   refine ⟨szl,ns,1+i*5,2,4,12,rfl,⟨hlen,by omega,by decide,by decide,by decide,by decide,by decide⟩,fun b R m hR hb l1 l2 m1 m2=>?_⟩
   refine ⟨szl,ns,1+i*5+1,2,4,12,rfl,⟨hlen,by omega,by decide,by decide,by decide,by decide,by decide⟩,fun c S n hS hc l3 l4 n1 n2=>?_⟩
   refine ⟨szl,ns,1+i*5+2,1,12,12,rfl,⟨hlen,by omega,by decide,by decide,by decide,by decide,by decide⟩,fun a D o hD ha l5 l6 o1 o2=>?_⟩
   refine ⟨szl,ns,1+i*5+3,[12,5,3],rfl,⟨by omega,by decide,by decide,hlen⟩,fun xs hxs=>?_⟩
   obtain ⟨x0,_,rfl,a0,b0,x1,_,rfl,a1,b1,x2,_,rfl,a2,b2,rfl⟩:=hxs
   have u0:1+x1≠0:=by omega
   have zu:intBits (1+x1)≤1000:=sm (by omega) (by omega)
   obtain ⟨Sh,_⟩:=sh_ok (t:=x0-3) u0
   have zq:intBits (shB (x0-3) (1+x1))≤1000:=shB_bits zu
   refine ⟨_,rfl,_,rfl,⟨u0,bits_up zu (by decide)⟩,?_⟩
   generalize shT (x0-3) (1+x1)=p at *
   generalize shB (x0-3) (1+x1)=q at *
   refine ⟨fun e => ∃ t7 t8 c S n a D o,e=[.val (.list (ns.map .int)),.val (.int (1+i*5)),.val (dTab b R),.val (dTab c S),.val (dTab a D),.val (.list ([x0,x1,x2].map .int)),.val (dSh p q),t7,t8]∧(Gls c S n∧c≤999999∧2≤S.length∧S.length≤4∧1≤n∧n≤12)∧Gls a D o∧a≤999999∧1≤D.length∧D.length≤12∧1≤o∧o≤12,?_,?_⟩
   ·refine ⟨_,rfl,rfl,rfl,ite_eq (fun _=>?_) (fun _=>?_)⟩
    ·have hRn:R≠[]:=fun z=>by subst z;simp at l1
     obtain ⟨r0,R0,e0⟩:=List.exists_cons_of_ne_nil hRn
     have hl0:r0.length=m:=hR.t.len r0 (by rw [e0];simp)
     have eR:atI (R.map tRow) 0=some (tRow r0):=by rw [e0];exact atI_zero _ _
     have eM:(((r0.map PyData.int).length:Nat):Int)=(m:Int):=by simp [hl0]
     have eL:(((R.map tRow).length:Nat):Int)=(R.length:Int):=by simp
     refine ⟨_,rfl,szl,ns,1+i*5+1,((R.map tRow).length:Nat),((R.map tRow).length:Nat),12,rfl,⟨hlen,by omega,by omega,by omega,by omega,by decide,by decide⟩,fun c S n hS hc l3 l4 n1 n2=>?_⟩
     refine ⟨_,rfl,_,eR,szl,⟨by decide,by decide,small_le (by simp)⟩,?_⟩
     rintro l0 e1
     have e1:l0=[.int ((r0.map PyData.int).length:Nat),.int ((r0.map PyData.int).length:Nat)]:=e1
     subst e1
     refine ⟨ns,1+i*5+4,((r0.map PyData.int).length:Nat),((r0.map PyData.int).length:Nat),12,rfl,⟨hlen,by omega,by omega,by omega,by omega,by decide,by decide⟩,fun a D o hD ha l5 l6 o1 o2=>?_⟩
     exact ⟨_,_,c,S,n,a,D,o,rfl,⟨hS,hc,by omega,by omega,n1,by omega⟩,hD,ha,by omega,by omega,o1,by omega⟩
    ·exact ⟨_,_,c,S,n,a,D,o,rfl,⟨hS,hc,by omega,by omega,n1,by omega⟩,hD,ha,by omega,by omega,o1,by omega⟩
   ·rintro e ⟨t7,t8,c,S,n,a,D,o,rfl,⟨hS,hc,s1,s2,n1,n2⟩,hD,ha,d1,d2,o1,o2⟩
    have w0:WordPre 0 p q b R m a D o:=⟨.inl rfl,Sh,hR.t,hD.t,by omega,by omega,by omega,by omega,m1,by omega,o1,by omega,zq,sm hR.t.pos hb,sm hD.t.pos ha⟩
    have wd : ∀ d:Int,(d=1∨d=2)→WordPre d p q b R m c S n:=fun d hd=>⟨.inr hd,Sh,hR.t,hS.t,by omega,by omega,by omega,by omega,m1,by omega,n1,by omega,zq,sm hR.t.pos hb,sm hS.t.pos hc⟩
    refine ⟨0,p,q,b,R,m,a,D,o,rfl,w0,0,p,q,b,R,m,a,D,o,rfl,w0,(word_shp _ _ _ _ _ _ _).1,(word_shp _ _ _ _ _ _ _).1,iteN (word_shp _ _ _ _ _ _ _).2 ?_⟩
    refine ⟨szl,fun j e => ∃ t8,e=[.val (.list (ns.map .int)),.val (.int (1+i*5)),.val (dTab b R),.val (dTab c S),.val (dTab a D),.val (.list ([x0,x1,x2].map .int)),.val (dSh p q),t7,t8],⟨_,rfl⟩,?_,?_⟩
    ·rintro j y e hy ⟨t8,rfl⟩
     have hd : ∃ d:Int,y = .int d∧(d=1∨d=2):=by
      have hm:=List.mem_of_getElem? hy
      simp only [List.mem_cons,List.not_mem_nil,or_false] at hm
      rcases hm with rfl|rfl|rfl
      ·exact ⟨1,rfl,.inl rfl⟩
      ·exact ⟨2,rfl,.inr rfl⟩
      ·exact ⟨1,rfl,.inl rfl⟩
     obtain ⟨d,rfl,hd⟩:=hd
     exact ⟨d,p,q,b,R,m,c,S,n,rfl,wd d hd,d,p,q,b,R,m,c,S,n,rfl,wd d hd,(word_shp _ _ _ _ _ _ _).1,(word_shp _ _ _ _ _ _ _).1,iteN (word_shp _ _ _ _ _ _ _).2 ⟨_,rfl⟩⟩
    ·rintro e ⟨t8,rfl⟩
     exact ⟨_,_,_,_,_,_,_,_,rfl⟩
  ·rintro e ⟨t1,t2,t3,t4,t5,t6,t7,t8,rfl⟩
   rfl
end
theorem us_s {α:Type}{n:Nat}{us:List α} (h:us.length=n+1) : ∃ a r,us=a::r∧r.length=n:=by
 cases us with
 | nil=>cases h
 | cons a r=>exact ⟨a,r,rfl,Nat.succ.inj h⟩
theorem us1 {α:Type}{us:List α} (h:us.length=1) : ∃ a0:α,us=[a0]:=by
 obtain ⟨a0,u0,rfl,h0⟩:=us_s h
 cases u0 with
 | nil=>exact ⟨a0,rfl⟩
 | cons _ _=>cases h0
theorem us2 {α:Type}{us:List α} (h:us.length=2) : ∃ a0 a1:α,us=[a0,a1]:=by
 obtain ⟨a0,u0,rfl,h0⟩:=us_s h
 obtain ⟨a1,u1,rfl,h1⟩:=us_s h0
 cases u1 with
 | nil=>exact ⟨a0,a1,rfl⟩
 | cons _ _=>cases h1
theorem us3 {α:Type}{us:List α} (h:us.length=3) : ∃ a0 a1 a2:α,us=[a0,a1,a2]:=by
 obtain ⟨a0,u0,rfl,h0⟩:=us_s h
 obtain ⟨a1,u1,rfl,h1⟩:=us_s h0
 obtain ⟨a2,u2,rfl,h2⟩:=us_s h1
 cases u2 with
 | nil=>exact ⟨a0,a1,a2,rfl⟩
 | cons _ _=>cases h2
theorem us4 {α:Type}{us:List α} (h:us.length=4) : ∃ a0 a1 a2 a3:α,us=[a0,a1,a2,a3]:=by
 obtain ⟨a0,u0,rfl,h0⟩:=us_s h
 obtain ⟨a1,u1,rfl,h1⟩:=us_s h0
 obtain ⟨a2,u2,rfl,h2⟩:=us_s h1
 obtain ⟨a3,u3,rfl,h3⟩:=us_s h2
 cases u3 with
 | nil=>exact ⟨a0,a1,a2,a3,rfl⟩
 | cons _ _=>cases h3
inductive LK (K:PySem.W.Frag) (x q:Str) (st:Stmt) (f:Addr):Prop
 | mk {oc kV dc pm cd ct:Value}{od an:Option Addr}{sl:Array (Option Value)} (l:K.lookup f=some ⟨oc,od,.func (PySem.W.fnOf x q (defArgs st) (defBody st) (defScope st) .none kV dc pm an cd ct),sl⟩) (c:PySem.W.codeIn K cd q=true) (k:PySem.W.keepIn K (.ref f)=true):LK K x q st f
theorem LK.fn {K:PySem.W.Frag}{x q:Str}{st:Stmt}{f:Addr} (h:LK K x q st f):(∃ fd,Fun K x q st f fd)∧PySem.W.keepIn K (.ref f)=true:=by
 cases h with
 | mk l c k=>exact ⟨⟨_,fun_mk l c k⟩,k⟩
inductive DK (K:PySem.W.Frag) (x:Str) (st:Stmt):Prop
 | mk {f:Addr} (a:PySem.W.nsIn K mainGlobals x=some (some (.ref f))) (l:LK K x x st f):DK K x st
theorem DK.df {K:PySem.W.Frag}{x:Str}{st:Stmt}{ps:List Str}{h:Heap}{mg:Str→Option Value} (d:DK K x st) (X:K.In h) (G:h.Ns mainGlobals mg)
 (hb : ∀ (kV doc pm:Value) (an:Option Addr) (cdv ct:Value) (us:List Value),us.length=ps.length→bindArgs (PySem.W.fnOf x x (defArgs st) (defBody st) (defScope st) .none kV doc pm an cdv ct) ⟨us,[]⟩=pure (ps.zip us):=by (intro _ _ _ _ _ _ us hl;first|(obtain ⟨_,rfl⟩:=us1 hl;rfl)|(obtain ⟨_,_,rfl⟩:=us2 hl;rfl)|(obtain ⟨_,_,_,rfl⟩:=us3 hl;rfl)|(obtain ⟨_,_,_,_,rfl⟩:=us4 hl;rfl))):Def K mg x st ps:=by
  cases d with
  | mk a l =>
   obtain ⟨⟨_,F⟩,_⟩:=l.fn
   exact ⟨_,_,F,PySem.W.mg_of X G a,F.binds hb⟩
theorem all_mk {l:PySem.W.OpenLaw}{w:World}{K:PySem.W.Frag}{h:Heap}{mg:Str→Option Value}{fa:Addr} (X:K.In h) (G:h.Ns mainGlobals mg) (hfa:mg "law" = some (.ref fa))
 (l0:DK K "is_whole" s_is_whole)
 (l1:DK K "divisor" s_divisor)
 (l2:DK K "reduced" s_reduced)
 (l3:DK K "share" s_share)
 (l4:DK K "_law_drawn" s__law_drawn)
 (l5:DK K "_law_common" s__law_common)
 (l6:DK K "_law_made" s__law_made)
 (l7:DK K "_law_cut" s__law_cut)
 (l8:DK K "_law_rows" s__law_rows)
 (l9:DK K "_law_glass" s__law_glass)
 (l10:DK K "common_divisor" s_common_divisor)
 (l11:DK K "divided" s_divided)
 (l12:DK K "lowest_table" s_lowest_table)
 (l13:DK K "signs" s_signs)
 (l14:DK K "column" s_column)
 (l15:DK K "paired" s_paired)
 (l16:DK K "passed_row" s_passed_row)
 (l17:DK K "passed_on" s_passed_on)
 (l18:DK K "dulled" s_dulled)
 (l19:DK K "scaled" s_scaled)
 (l20:DK K "both_seen" s_both_seen)
 (l21:DK K "stands" s_stands)
 (l22:DK K "check_alike_stands" s_check_alike_stands)
 (l23:DK K "check_not_too_many" s_check_not_too_many)
 (l24:DK K "beside" s_beside)
 (l25:DK K "is_share" s_is_share)
 (l26:DK K "is_part" s_is_part)
 (l27:DK K "mixed" s_mixed)
 (l28:DK K "_law_word" s__law_word)
 (l29:DK K "_law_due" s__law_due)
 {f30:Addr}{od30 an30:Option Addr}{sl30:Array (Option Value)}{oc30 kV30 dc30 pm30 cd30 ct30:Value}
 (a30:PySem.W.nsIn K mainGlobals "law" = some (some (.ref f30))) (l30:K.lookup f30=some ⟨oc30,od30,.func (PySem.W.fnOf "law" "law" (defArgs s_law) (defBody s_law) (defScope s_law) .none kV30 dc30 pm30 an30 cd30 ct30),sl30⟩) (c30:PySem.W.codeIn K cd30 "law" = true) (k30:PySem.W.keepIn K (.ref f30)=true)
 (z_ValueError:PySem.W.nsIn K mainGlobals "ValueError" = some none)
 (z_abs:PySem.W.nsIn K mainGlobals "abs" = some none)
 (z_bool:PySem.W.nsIn K mainGlobals "bool" = some none)
 (z_enumerate:PySem.W.nsIn K mainGlobals "enumerate" = some none)
 (z_int:PySem.W.nsIn K mainGlobals "int" = some none)
 (z_isinstance:PySem.W.nsIn K mainGlobals "isinstance" = some none)
 (z_len:PySem.W.nsIn K mainGlobals "len" = some none)
 (z_max:PySem.W.nsIn K mainGlobals "max" = some none)
 (z_min:PySem.W.nsIn K mainGlobals "min" = some none)
 (z_range:PySem.W.nsIn K mainGlobals "range" = some none)
 (z_sorted:PySem.W.nsIn K mainGlobals "sorted" = some none)
 (z_sum:PySem.W.nsIn K mainGlobals "sum" = some none)
 (z_tuple:PySem.W.nsIn K mainGlobals "tuple" = some none)
 (z_zip:PySem.W.nsIn K mainGlobals "zip" = some none)
 {t_MOST_SIGNS:Tok} (y_MOST_SIGNS:PySem.W.nsIn K mainGlobals "MOST_SIGNS" = some (some (.int 12 t_MOST_SIGNS)))
 {c_Full:Addr} (b_Full:PySem.W.nsIn K mainGlobals "Full" = some (some (.ref c_Full)))
 {c_GlassError:Addr} (b_GlassError:PySem.W.nsIn K mainGlobals "GlassError" = some (some (.ref c_GlassError)))
 {c_NoBeliefs:Addr} (b_NoBeliefs:PySem.W.nsIn K mainGlobals "NoBeliefs" = some (some (.ref c_NoBeliefs)))
 {c_NoDulling:Addr} (b_NoDulling:PySem.W.nsIn K mainGlobals "NoDulling" = some (some (.ref c_NoDulling)))
 {c_NoFit:Addr} (b_NoFit:PySem.W.nsIn K mainGlobals "NoFit" = some (some (.ref c_NoFit)))
 {c_NoGlass:Addr} (b_NoGlass:PySem.W.nsIn K mainGlobals "NoGlass" = some (some (.ref c_NoGlass)))
 {c_NoName:Addr} (b_NoName:PySem.W.nsIn K mainGlobals "NoName" = some (some (.ref c_NoName)))
 {c_NoRow:Addr} (b_NoRow:PySem.W.nsIn K mainGlobals "NoRow" = some (some (.ref c_NoRow)))
 {c_NoShare:Addr} (b_NoShare:PySem.W.nsIn K mainGlobals "NoShare" = some (some (.ref c_NoShare)))
 {c_NoText:Addr} (b_NoText:PySem.W.nsIn K mainGlobals "NoText" = some (some (.ref c_NoText)))
 {c_TooMany:Addr} (b_TooMany:PySem.W.nsIn K mainGlobals "TooMany" = some (some (.ref c_TooMany)))
 (f_GlassError_e:PySem.W.excIn K c_GlassError bmVE "ValueError.__new__" = true)
 (f_NoFit_e:PySem.W.excIn K c_NoFit bmVE "ValueError.__new__" = true)
 (f_NoShare_e:PySem.W.excIn K c_NoShare bmVE "ValueError.__new__" = true)
 (f_TooMany_e:PySem.W.excIn K c_TooMany bmVE "ValueError.__new__" = true)
 (f_NoFit_x_ga:PySem.W.findIn K (.ref c_NoFit) "__getattribute__" = some (some (.builtin "BaseException.__getattribute__")))
 (f_NoFit_x_na:PySem.W.findIn K (.ref c_NoFit) "__getattr__" = some none)
 (f_NoFit_x_cl:PySem.W.findIn K (.ref c_NoFit) "__class__" = some (some (.builtin "object.__class__")))
 (f_u_NoFit_GlassError:(mroIn K c_NoFit).contains (.ref c_GlassError)=true)
 (f_k_NoFit_Full_NoBeliefs_NoDulling_NoGlass_NoName_NoRow_NoText:PySem.W.kitAny K (.ref c_NoFit) [.ref c_Full,.ref c_NoBeliefs,.ref c_NoDulling,.ref c_NoGlass,.ref c_NoName,.ref c_NoRow,.ref c_NoText]=some false)
 (f_k_NoFit_ValueError:PySem.W.kitOne K (.ref c_NoFit) (.type "ValueError")=some true)
 (f_k_NoFit_TooMany:PySem.W.kitOne K (.ref c_NoFit) (.ref c_TooMany)=some false)
 (f_k_NoFit_NoShare:PySem.W.kitOne K (.ref c_NoFit) (.ref c_NoShare)=some false)
 (f_k_NoFit_NoFit:PySem.W.kitOne K (.ref c_NoFit) (.ref c_NoFit)=some true)
 (f_NoShare_x_ga:PySem.W.findIn K (.ref c_NoShare) "__getattribute__" = some (some (.builtin "BaseException.__getattribute__")))
 (f_NoShare_x_na:PySem.W.findIn K (.ref c_NoShare) "__getattr__" = some none)
 (f_NoShare_x_cl:PySem.W.findIn K (.ref c_NoShare) "__class__" = some (some (.builtin "object.__class__")))
 (f_u_NoShare_GlassError:(mroIn K c_NoShare).contains (.ref c_GlassError)=true)
 (f_k_NoShare_Full_NoBeliefs_NoDulling_NoGlass_NoName_NoRow_NoText:PySem.W.kitAny K (.ref c_NoShare) [.ref c_Full,.ref c_NoBeliefs,.ref c_NoDulling,.ref c_NoGlass,.ref c_NoName,.ref c_NoRow,.ref c_NoText]=some false)
 (f_k_NoShare_ValueError:PySem.W.kitOne K (.ref c_NoShare) (.type "ValueError")=some true)
 (f_k_NoShare_TooMany:PySem.W.kitOne K (.ref c_NoShare) (.ref c_TooMany)=some false)
 (f_k_NoShare_NoShare:PySem.W.kitOne K (.ref c_NoShare) (.ref c_NoShare)=some true)
 (f_k_NoShare_NoFit:PySem.W.kitOne K (.ref c_NoShare) (.ref c_NoFit)=some false)
 (f_TooMany_x_ga:PySem.W.findIn K (.ref c_TooMany) "__getattribute__" = some (some (.builtin "BaseException.__getattribute__")))
 (f_TooMany_x_na:PySem.W.findIn K (.ref c_TooMany) "__getattr__" = some none)
 (f_TooMany_x_cl:PySem.W.findIn K (.ref c_TooMany) "__class__" = some (some (.builtin "object.__class__")))
 (f_u_TooMany_GlassError:(mroIn K c_TooMany).contains (.ref c_GlassError)=true)
 (f_k_TooMany_Full_NoBeliefs_NoDulling_NoGlass_NoName_NoRow_NoText:PySem.W.kitAny K (.ref c_TooMany) [.ref c_Full,.ref c_NoBeliefs,.ref c_NoDulling,.ref c_NoGlass,.ref c_NoName,.ref c_NoRow,.ref c_NoText]=some false)
 (f_k_TooMany_ValueError:PySem.W.kitOne K (.ref c_TooMany) (.type "ValueError")=some true)
 (f_k_TooMany_TooMany:PySem.W.kitOne K (.ref c_TooMany) (.ref c_TooMany)=some true)
 (f_k_TooMany_NoShare:PySem.W.kitOne K (.ref c_TooMany) (.ref c_NoShare)=some false)
 (f_k_TooMany_NoFit:PySem.W.kitOne K (.ref c_TooMany) (.ref c_NoFit)=some false)
 : ∃ fd:FuncData,(∀ (s:Shared) (v:Value),BindsTo s fd ⟨[v],[]⟩ [("_law_script",v)]) ∧ ∀ base:Heap,K.In base→base.Ns mainGlobals mg→FnOk l.prog w K mg base CX0 7 fa fd ["_law_script"] (spLaw K):=by
  have e:=hfa.symm.trans (PySem.W.mg_of X G a30)
  cases e
  have T:Txt K mg ⟨c_Full,c_GlassError,c_NoBeliefs,c_NoDulling,c_NoFit,c_NoGlass,c_NoName,c_NoRow,c_NoShare,c_NoText,c_TooMany⟩:=⟨PySem.W.mg_of X G b_Full,PySem.W.mg_of X G b_GlassError,PySem.W.mg_of X G b_NoBeliefs,PySem.W.mg_of X G b_NoDulling,PySem.W.mg_of X G b_NoFit,PySem.W.mg_of X G b_NoGlass,PySem.W.mg_of X G b_NoName,PySem.W.mg_of X G b_NoRow,PySem.W.mg_of X G b_NoShare,PySem.W.mg_of X G b_NoText,PySem.W.mg_of X G b_TooMany,f_GlassError_e,f_NoFit_e,f_NoShare_e,f_TooMany_e,⟨f_NoFit_e,f_NoFit_x_ga,f_NoFit_x_na,f_NoFit_x_cl⟩,⟨f_NoFit_e,f_u_NoFit_GlassError⟩,f_k_NoFit_Full_NoBeliefs_NoDulling_NoGlass_NoName_NoRow_NoText,f_k_NoFit_ValueError,f_k_NoFit_TooMany,f_k_NoFit_NoShare,f_k_NoFit_NoFit,⟨f_NoShare_e,f_NoShare_x_ga,f_NoShare_x_na,f_NoShare_x_cl⟩,⟨f_NoShare_e,f_u_NoShare_GlassError⟩,f_k_NoShare_Full_NoBeliefs_NoDulling_NoGlass_NoName_NoRow_NoText,f_k_NoShare_ValueError,f_k_NoShare_TooMany,f_k_NoShare_NoShare,f_k_NoShare_NoFit,⟨f_TooMany_e,f_TooMany_x_ga,f_TooMany_x_na,f_TooMany_x_cl⟩,⟨f_TooMany_e,f_u_TooMany_GlassError⟩,f_k_TooMany_Full_NoBeliefs_NoDulling_NoGlass_NoName_NoRow_NoText,f_k_TooMany_ValueError,f_k_TooMany_TooMany,f_k_TooMany_NoShare,f_k_TooMany_NoFit,PySem.W.mg_none_of X G z_ValueError,PySem.W.mg_none_of X G z_abs,PySem.W.mg_none_of X G z_bool,PySem.W.mg_none_of X G z_enumerate,PySem.W.mg_none_of X G z_int,PySem.W.mg_none_of X G z_isinstance,PySem.W.mg_none_of X G z_len,PySem.W.mg_none_of X G z_max,PySem.W.mg_none_of X G z_min,PySem.W.mg_none_of X G z_range,PySem.W.mg_none_of X G z_sorted,PySem.W.mg_none_of X G z_sum,PySem.W.mg_none_of X G z_tuple,PySem.W.mg_none_of X G z_zip,⟨_,PySem.W.mg_of X G y_MOST_SIGNS⟩⟩
  have D0:Def K mg "is_whole" s_is_whole ["thing"]:=l0.df X G
  have D1:Def K mg "divisor" s_divisor ["one","other"]:=l1.df X G
  have D2:Def K mg "reduced" s_reduced ["top","bottom"]:=l2.df X G
  have D3:Def K mg "share" s_share ["top","bottom"]:=l3.df X G
  have D4:Def K mg "_law_drawn" s__law_drawn ["_law_script","_law_at","_law_sizes"]:=l4.df X G
  have D5:Def K mg "_law_common" s__law_common ["_law_one","_law_other"]:=l5.df X G
  have D6:Def K mg "_law_made" s__law_made ["_law_bottom","_law_rows_here"]:=l6.df X G
  have D7:Def K mg "_law_cut" s__law_cut ["_law_bottom","_law_cuts"]:=l7.df X G
  have D8:Def K mg "_law_rows" s__law_rows ["_law_script","_law_at","_law_heights","_law_most"]:=l8.df X G
  have D9:Def K mg "_law_glass" s__law_glass ["_law_script","_law_at","_law_heights","_law_most"]:=l9.df X G
  have D10:Def K mg "common_divisor" s_common_divisor ["rows"]:=l10.df X G
  have D11:Def K mg "divided" s_divided ["row","common"]:=l11.df X G
  have D12:Def K mg "lowest_table" s_lowest_table ["bottom","rows"]:=l12.df X G
  have D13:Def K mg "signs" s_signs ["glass"]:=l13.df X G
  have D14:Def K mg "column" s_column ["rows","place"]:=l14.df X G
  have D15:Def K mg "paired" s_paired ["one","other"]:=l15.df X G
  have D16:Def K mg "passed_row" s_passed_row ["row","dulling"]:=l16.df X G
  have D17:Def K mg "passed_on" s_passed_on ["table","dulling"]:=l17.df X G
  have D18:Def K mg "dulled" s_dulled ["glass","dulling"]:=l18.df X G
  have D19:Def K mg "scaled" s_scaled ["row","factor"]:=l19.df X G
  have D20:Def K mg "both_seen" s_both_seen ["row","beyond"]:=l20.df X G
  have D21:Def K mg "stands" s_stands ["glass"]:=l21.df X G
  have D22:Def K mg "check_alike_stands" s_check_alike_stands ["one","other"]:=l22.df X G
  have D23:Def K mg "check_not_too_many" s_check_not_too_many ["many"]:=l23.df X G
  have D24:Def K mg "beside" s_beside ["one","other"]:=l24.df X G
  have D25:Def K mg "is_share" s_is_share ["thing"]:=l25.df X G
  have D26:Def K mg "is_part" s_is_part ["thing"]:=l26.df X G
  have D27:Def K mg "mixed" s_mixed ["part","one","other"]:=l27.df X G
  have D28:Def K mg "_law_word" s__law_word ["_law_deed","_law_one","_law_other","_law_part"]:=l28.df X G
  have D29:Def K mg "_law_due" s__law_due ["_law_deed","_law_one","_law_other","_law_part"]:=l29.df X G
  have F30:=fun_mk (st:=s_law) l30 c30 k30
  refine ⟨PySem.W.fnOf "law" "law" (defArgs s_law) (defBody s_law) (defScope s_law) .none kV30 dc30 pm30 an30 cd30 ct30,fun s v => .of_eq rfl,fun base KB _=>?_⟩
  have O0:=ok_is_whole (P:=l.prog) (w:=w) (base:=base) D0 T
  have O1:=ok_divisor (P:=l.prog) (w:=w) (base:=base) D1 T
  have O2:=ok_reduced D2 T O1
  have O3:=ok_share D3 T O0 O2
  have O4:=ok__law_drawn (P:=l.prog) (w:=w) (base:=base) D4 T
  have O5:=ok__law_common (P:=l.prog) (w:=w) (base:=base) D5 T
  have O6:=ok__law_made D6 T O5
  have O7:=ok__law_cut (P:=l.prog) (w:=w) (base:=base) D7 T
  have O8:=ok__law_rows D8 T O4 O7
  have O9:=ok__law_glass D9 T O6 O8
  have O10:=ok_common_divisor D10 T O1
  have O11:=ok_divided (P:=l.prog) (w:=w) (base:=base) D11 T
  have O12:=ok_lowest_table D12 T O10 O11
  have O13:=ok_signs (P:=l.prog) (w:=w) (base:=base) D13 T
  have O14:=ok_column (P:=l.prog) (w:=w) (base:=base) D14 T
  have O15:=ok_paired (P:=l.prog) (w:=w) (base:=base) D15 T
  have O16:=ok_passed_row D16 T O13 O14 O15
  have O17:=ok_passed_on D17 T O12 O13 O16
  have O18:=ok_dulled D18 T O17
  have O19:=ok_scaled (P:=l.prog) (w:=w) (base:=base) D19 T
  have O20:=ok_both_seen D20 T O19
  have O21:=ok_stands (P:=l.prog) (w:=w) (base:=base) D21 T
  have O22:=ok_check_alike_stands D22 T O21
  have O23:=ok_check_not_too_many (P:=l.prog) (w:=w) (base:=base) D23 T
  have O24:=ok_beside D24 T O12 O13 O20 O22 O23
  have O25:=ok_is_share D25 T O0 O1
  have O26:=ok_is_part D26 T O25
  have O27:=ok_mixed D27 T O12 O13 O19 O22 O23 O26
  have O28:=ok__law_word D28 T O18 O24 O27
  have O29:=ok__law_due (P:=l.prog) (w:=w) (base:=base) D29 T
  exact law_fn (P:=l.prog) (w:=w) (K:=K) (mg:=mg) (base:=base) F30 T O3 O4 O9 O28 O29
theorem walk {l:PySem.W.OpenLaw}{q:Program}{loose:List Str}{XP:(Str→Option Value)→Heap→Prop}{YP:World→Heap→Prop}{d:DefRec}{K:Params→PySem.W.Frag} (hn:l.most=some 63) (hdf:d.params.defaults=[])
 (hY : ∀ (w:World) (h:Heap),YP w h→(K w.params).In h)
 (F : ∀ (w:World) (mg:Str→Option Value) (fa:Addr) (h:Heap),(K w.params).In h→h.Ns mainGlobals mg→mg d.name=some (.ref fa) →
 ∃ fd:FuncData,(∀ (s:Shared) (u:Value),BindsTo s fd ⟨[u],[]⟩ [("_law_script",u)]) ∧ ∀ base:Heap,(K w.params).In base→base.Ns mainGlobals mg→FnOk l.prog w (K w.params) mg base CX0 7 fa fd ["_law_script"] (spLaw (K w.params))) :
 PySem.W.WalkO q loose XP YP l.row.toRowW d [] (fun f vs=>PySem.call f vs) :=
  L2.walk_of (n:=63) (k:=7) (x := "_law_script") (CX:=fun _=>CX0) (sp:=fun w=>spLaw (K w.params)) hn (by decide) hdf ⟨rfl,by decide,by decide⟩ hY F (fun _ _ a ns hl _ hS=>⟨a,ns,rfl,hS,hl,fun _=>rfl⟩) fun _ _ _ _ _ z=>z
noncomputable section
open PySem PySem.W PySem.Calls PyProof.Rows
abbrev N0:=BT.node
abbrev nl0:=BT.nil
def en0 (P:Params) (x:Str) (t:Nat) (v:Value):DictEntry:=⟨PyData.keyHash P x,.str x t,v⟩
def tu0 (vs:List Value):Obj:=⟨.type "tuple",none,.seq vs.toArray 0,#[]⟩
def em0:Obj:=⟨.none,none,.fields #[],#[]⟩
def fo0 (n q:Str) (s:Stmt) (pm:Value) (c:Nat):Obj:=⟨.type "function",none,.func (PySem.W.fnOf n q (L2.defArgs s) (L2.defBody s) (L2.defScope s) .none .none .none pm none (.ref c) .none),#[]⟩
def pr0 (n q:Str) (s:Stmt):Obj:=⟨.none,none,.func ⟨n,q,L2.defArgs s,.stmts (L2.defBody s),L2.defScope s,0,[],.none,.none,.none,.none,none,.none,.none,0⟩,#[]⟩
def co0 (n q:Str) (t:Nat) (l ac fl:Int) (a:Nat) (b:Bool) (x y z:Value) (u:Nat):Obj:=⟨.type "code",none,.fields #[.str n t,.str q (t+1),.str "/claim/cut.py" (t+2),.int l 0,.int ac 0,.int 0 0,.int 0 0,.int fl 0,.ref a,.bool b,.int 181 0,.ref (a+1),.none,x,y,z,.int u 0,.int l 0,.str "/claim/cut.py" (u+1)],#[]⟩
def co1 (n:Str) (t:Nat) (l ac fl:Int) (a:Nat) (b:Bool) (u:Nat):Obj:=co0 n n t l ac fl a b (.ref (a+2)) (.ref (a+3)) (.ref (a+4)) u
def fo1 (n:Str) (s:Nat) (pm:Value) (c:Nat):Obj:=fo0 n n (top s) pm c
lay_quick PySem.Challenge.pw_dullglass_k14_what_does_not_fit
def env0:Env:={ scope:=PySem.Challenge.pw_dullglass_k14_what_does_not_fit.main.scope,locals:=mainNs,globals:=mainNs,cells:=[],code:=(.ref 13),frame:=some 14 }
def cE0:Code :=.body (behindTheImports PySem.Challenge.pw_dullglass_k14_what_does_not_fit) env0
def ls0:List Str:=[Str.ofString "GlassError",Str.ofString "NoShare",Str.ofString "NoGlass",Str.ofString "NoDulling",Str.ofString "NoFit",Str.ofString "NoBeliefs",Str.ofString "TooMany",Str.ofString "NoText",Str.ofString "NoRow",Str.ofString "NoName",Str.ofString "Full",Str.ofString "is_whole",Str.ofString "divisor",Str.ofString "share",Str.ofString "reduced",Str.ofString "is_share",Str.ofString "is_part",Str.ofString "MOST_SIGNS",Str.ofString "common_divisor",Str.ofString "lowest_table",Str.ofString "divided",Str.ofString "stands",Str.ofString "signs",Str.ofString "column",Str.ofString "paired",Str.ofString "dulled",Str.ofString "passed_on",Str.ofString "passed_row",Str.ofString "beside",Str.ofString "both_seen",Str.ofString "mixed",Str.ofString "scaled",Str.ofString "check_alike_stands",Str.ofString "check_not_too_many",Str.ofString "_law_drawn",Str.ofString "_law_common",Str.ofString "_law_made",Str.ofString "_law_cut",Str.ofString "_law_rows",Str.ofString "_law_glass",Str.ofString "_law_word",Str.ofString "_law_due"]
def lf0:Life:=⟨[],[],[],0,[],[],false,#[],[],0,false,false,false,0,[2000,10,10],false,0,true,[],[],0,false⟩
def o13a:Obj:=co0 "<module>" "<module>" 182 1 0 0 11 false .none .none .none 185
def o14a:Obj:=⟨(.type "frame"),none,.plain,#[(some (.ref 13)),(some (.ref 3)),(some (.ref 3)),none,(some (.str "__main__" 164)),none,(some (.ref 0))]⟩
def o3 (P:Params):Obj:=⟨(.type "dict"),none,(.dict #[en0 P "__name__" 165 (.str "law_dullglass_k14_what_does_not_fit" 533),en0 P "__doc__" 166 .none,en0 P "__package__" 167 .none,en0 P "__loader__" 168 (.builtin "__main__.__loader__#opaque"),en0 P "__spec__" 169 .none,en0 P "__annotations__" 170 (.ref 6),en0 P "__builtins__" 171 (.ref 4),en0 P "__file__" 173 (.str "/claim/cut.py" 172),en0 P "__cached__" 174 .none,en0 P "GlassError" 206 (.ref 24),en0 P "NoShare" 222 (.ref 37),en0 P "NoGlass" 238 (.ref 49),en0 P "NoDulling" 254 (.ref 61),en0 P "NoFit" 270 (.ref 73),en0 P "NoBeliefs" 286 (.ref 85),en0 P "TooMany" 302 (.ref 97),en0 P "NoText" 318 (.ref 109),en0 P "NoRow" 334 (.ref 121),en0 P "NoName" 350 (.ref 133),en0 P "Full" 366 (.ref 145),en0 P "is_whole" 375 (.ref 154),en0 P "divisor" 384 (.ref 161),en0 P "share" 392 (.ref 168),en0 P "reduced" 401 (.ref 175),en0 P "is_share" 408 (.ref 182),en0 P "is_part" 415 (.ref 189),en0 P "MOST_SIGNS" 419 (.int (12) 418),en0 P "common_divisor" 429 (.ref 196),en0 P "lowest_table" 435 (.ref 201),en0 P "divided" 441 (.ref 206),en0 P "stands" 448 (.ref 213),en0 P "signs" 455 (.ref 220),en0 P "column" 461 (.ref 225),en0 P "paired" 467 (.ref 230),en0 P "dulled" 477 (.ref 237),en0 P "passed_on" 483 (.ref 242),en0 P "passed_row" 489 (.ref 247),en0 P "beside" 495 (.ref 252),en0 P "both_seen" 505 (.ref 259),en0 P "mixed" 511 (.ref 264),en0 P "scaled" 517 (.ref 269),en0 P "check_alike_stands" 525 (.ref 276),en0 P "check_not_too_many" 532 (.ref 283),en0 P "_law_drawn" 549 (.ref 290),en0 P "_law_common" 558 (.ref 297),en0 P "_law_made" 564 (.ref 302),en0 P "_law_cut" 575 (.ref 309),en0 P "_law_rows" 593 (.ref 316),en0 P "_law_glass" 605 (.ref 323),en0 P "_law_word" 618 (.ref 330),en0 P "_law_due" 630 (.ref 337),en0 P "law" 645 (.ref 344)] 52),#[]⟩
def o12:Obj:=⟨.none,none,(.fields #[(.int (2) 0),(.int (0) 0),(.ref 20),(.int (4) 0),(.int (0) 0),(.ref 33),(.int (6) 0),(.int (0) 0),(.ref 45),(.int (8) 0),(.int (0) 0),(.ref 57),(.int (10) 0),(.int (0) 0),(.ref 69),(.int (12) 0),(.int (0) 0),(.ref 81),(.int (14) 0),(.int (0) 0),(.ref 93),(.int (16) 0),(.int (0) 0),(.ref 105),(.int (18) 0),(.int (0) 0),(.ref 117),(.int (20) 0),(.int (0) 0),(.ref 129),(.int (22) 0),(.int (0) 0),(.ref 141),(.int (25) 0),(.int (0) 0),(.ref 153),(.int (27) 0),(.int (0) 0),(.ref 160),(.int (35) 0),(.int (0) 0),(.ref 167),(.int (39) 0),(.int (0) 0),(.ref 174),(.int (44) 0),(.int (0) 0),(.ref 181),(.int (50) 0),(.int (0) 0),(.ref 188),(.int (54) 0),(.int (0) 0),(.ref 195),(.int (60) 0),(.int (0) 0),(.ref 200),(.int (63) 0),(.int (0) 0),(.ref 205),(.int (65) 0),(.int (0) 0),(.ref 212),(.int (67) 0),(.int (0) 0),(.ref 219),(.int (69) 0),(.int (0) 0),(.ref 224),(.int (71) 0),(.int (0) 0),(.ref 229),(.int (74) 0),(.int (0) 0),(.ref 236),(.int (76) 0),(.int (0) 0),(.ref 241),(.int (80) 0),(.int (0) 0),(.ref 246),(.int (82) 0),(.int (0) 0),(.ref 251),(.int (87) 0),(.int (0) 0),(.ref 258),(.int (92) 0),(.int (0) 0),(.ref 263),(.int (101) 0),(.int (0) 0),(.ref 268),(.int (103) 0),(.int (0) 0),(.ref 275),(.int (106) 0),(.int (0) 0),(.ref 282),(.int (110) 0),(.int (0) 0),(.ref 289),(.int (126) 0),(.int (0) 0),(.ref 296),(.int (132) 0),(.int (0) 0),(.ref 301),(.int (141) 0),(.int (0) 0),(.ref 308),(.int (148) 0),(.int (0) 0),(.ref 315),(.int (159) 0),(.int (0) 0),(.ref 322),(.int (162) 0),(.int (0) 0),(.ref 329),(.int (183) 0),(.int (0) 0),(.ref 336),(.int (195) 0),(.int (0) 0),(.ref 343)]),#[]⟩
def o16:Obj:=⟨(.type "builtin_function_or_method"),none,(.fields #[(.builtin "type.__prepare__"),(.type "type")]),#[]⟩
def o17 (P:Params):Obj:=⟨(.type "dict"),none,(.dict #[en0 P "__module__" 196 (.str "dullglass.errors" 187),en0 P "__qualname__" 198 (.str "GlassError" 197),en0 P "__firstlineno__" 200 (.int (2) 199),en0 P "__static_attributes__" 201 (.ref 22)] 4),#[]⟩
def o20:Obj:=co0 "GlassError" "GlassError" 191 2 0 0 18 false .none .none .none 194
def o21:Obj:=⟨(.type "frame"),none,.plain,#[(some (.ref 20)),(some (.ref 3)),(some (.ref 17)),none,(some (.str "dullglass.errors" 187)),none,(some (.ref 0))]⟩
def o23 (P:Params):Obj:=⟨(.type "dict"),none,(.dict #[en0 P "__module__" 196 (.str "dullglass.errors" 187),en0 P "__firstlineno__" 200 (.int (2) 199),en0 P "__static_attributes__" 201 (.ref 22),en0 P "__weakref__" 203 (.ref 25),en0 P "__doc__" 204 .none] 3),#[]⟩
def o24:Obj:=⟨(.type "type"),none,(.cls ⟨"GlassError",[(.type "ValueError")],[(.ref 24),(.type "ValueError"),(.type "Exception"),(.type "BaseException"),(.type "object")],23,"GlassError",true,[],[(.ref 37),(.ref 49),(.ref 61),(.ref 73),(.ref 85),(.ref 97),(.ref 109),(.ref 121),(.ref 133),(.ref 145)],false,none,false⟩),#[(some (.ref 15)),none,(some (.str "GlassError" 189)),(some (.str "GlassError" 197)),(some (.builtin "ValueError.__new__")),(some (.bool true))]⟩
def o25:Obj:=⟨(.type "getset_descriptor"),none,(.fields #[(.str "__weakref__" 202),(.ref 24),(.builtin "ExceptionGroup.__weakref__"),.none]),#[]⟩
def o26:Obj:=⟨(.type "super"),none,(.fields #[(.ref 24),(.ref 24),(.ref 24)]),#[]⟩
def o27:Obj:=⟨(.type "builtin_function_or_method"),none,(.fields #[(.builtin "object.__init_subclass__"),(.ref 24)]),#[]⟩
def o29:Obj:=⟨(.type "builtin_function_or_method"),none,(.fields #[(.builtin "type.__prepare__"),(.type "type")]),#[]⟩
def o30 (P:Params):Obj:=⟨(.type "dict"),none,(.dict #[en0 P "__module__" 214 (.str "dullglass.errors" 187),en0 P "__qualname__" 216 (.str "NoShare" 215),en0 P "__firstlineno__" 218 (.int (4) 217),en0 P "__static_attributes__" 219 (.ref 35)] 4),#[]⟩
def o33:Obj:=co0 "NoShare" "NoShare" 209 4 0 0 31 false .none .none .none 212
def o34:Obj:=⟨(.type "frame"),none,.plain,#[(some (.ref 33)),(some (.ref 3)),(some (.ref 30)),none,(some (.str "dullglass.errors" 187)),none,(some (.ref 0))]⟩
def o36 (P:Params):Obj:=⟨(.type "dict"),none,(.dict #[en0 P "__module__" 214 (.str "dullglass.errors" 187),en0 P "__firstlineno__" 218 (.int (4) 217),en0 P "__static_attributes__" 219 (.ref 35),en0 P "__doc__" 220 .none] 2),#[]⟩
def o37:Obj:=⟨(.type "type"),none,(.cls ⟨"NoShare",[(.ref 24)],[(.ref 37),(.ref 24),(.type "ValueError"),(.type "Exception"),(.type "BaseException"),(.type "object")],36,"NoShare",true,[],[],false,none,false⟩),#[(some (.ref 28)),none,(some (.str "NoShare" 207)),(some (.str "NoShare" 215)),(some (.builtin "ValueError.__new__")),(some (.bool true))]⟩
def o38:Obj:=⟨(.type "super"),none,(.fields #[(.ref 37),(.ref 37),(.ref 37)]),#[]⟩
def o39:Obj:=⟨(.type "builtin_function_or_method"),none,(.fields #[(.builtin "object.__init_subclass__"),(.ref 37)]),#[]⟩
def o41:Obj:=⟨(.type "builtin_function_or_method"),none,(.fields #[(.builtin "type.__prepare__"),(.type "type")]),#[]⟩
def o42 (P:Params):Obj:=⟨(.type "dict"),none,(.dict #[en0 P "__module__" 230 (.str "dullglass.errors" 187),en0 P "__qualname__" 232 (.str "NoGlass" 231),en0 P "__firstlineno__" 234 (.int (6) 233),en0 P "__static_attributes__" 235 (.ref 47)] 4),#[]⟩
def o45:Obj:=co0 "NoGlass" "NoGlass" 225 6 0 0 43 false .none .none .none 228
def o46:Obj:=⟨(.type "frame"),none,.plain,#[(some (.ref 45)),(some (.ref 3)),(some (.ref 42)),none,(some (.str "dullglass.errors" 187)),none,(some (.ref 0))]⟩
def o48 (P:Params):Obj:=⟨(.type "dict"),none,(.dict #[en0 P "__module__" 230 (.str "dullglass.errors" 187),en0 P "__firstlineno__" 234 (.int (6) 233),en0 P "__static_attributes__" 235 (.ref 47),en0 P "__doc__" 236 .none] 2),#[]⟩
def o49:Obj:=⟨(.type "type"),none,(.cls ⟨"NoGlass",[(.ref 24)],[(.ref 49),(.ref 24),(.type "ValueError"),(.type "Exception"),(.type "BaseException"),(.type "object")],48,"NoGlass",true,[],[],false,none,false⟩),#[(some (.ref 40)),none,(some (.str "NoGlass" 223)),(some (.str "NoGlass" 231)),(some (.builtin "ValueError.__new__")),(some (.bool true))]⟩
def o50:Obj:=⟨(.type "super"),none,(.fields #[(.ref 49),(.ref 49),(.ref 49)]),#[]⟩
def o51:Obj:=⟨(.type "builtin_function_or_method"),none,(.fields #[(.builtin "object.__init_subclass__"),(.ref 49)]),#[]⟩
def o53:Obj:=⟨(.type "builtin_function_or_method"),none,(.fields #[(.builtin "type.__prepare__"),(.type "type")]),#[]⟩
def o54 (P:Params):Obj:=⟨(.type "dict"),none,(.dict #[en0 P "__module__" 246 (.str "dullglass.errors" 187),en0 P "__qualname__" 248 (.str "NoDulling" 247),en0 P "__firstlineno__" 250 (.int (8) 249),en0 P "__static_attributes__" 251 (.ref 59)] 4),#[]⟩
def o57:Obj:=co0 "NoDulling" "NoDulling" 241 8 0 0 55 false .none .none .none 244
def o58:Obj:=⟨(.type "frame"),none,.plain,#[(some (.ref 57)),(some (.ref 3)),(some (.ref 54)),none,(some (.str "dullglass.errors" 187)),none,(some (.ref 0))]⟩
def o60 (P:Params):Obj:=⟨(.type "dict"),none,(.dict #[en0 P "__module__" 246 (.str "dullglass.errors" 187),en0 P "__firstlineno__" 250 (.int (8) 249),en0 P "__static_attributes__" 251 (.ref 59),en0 P "__doc__" 252 .none] 2),#[]⟩
def o61:Obj:=⟨(.type "type"),none,(.cls ⟨"NoDulling",[(.ref 24)],[(.ref 61),(.ref 24),(.type "ValueError"),(.type "Exception"),(.type "BaseException"),(.type "object")],60,"NoDulling",true,[],[],false,none,false⟩),#[(some (.ref 52)),none,(some (.str "NoDulling" 239)),(some (.str "NoDulling" 247)),(some (.builtin "ValueError.__new__")),(some (.bool true))]⟩
def o62:Obj:=⟨(.type "super"),none,(.fields #[(.ref 61),(.ref 61),(.ref 61)]),#[]⟩
def o63:Obj:=⟨(.type "builtin_function_or_method"),none,(.fields #[(.builtin "object.__init_subclass__"),(.ref 61)]),#[]⟩
def o65:Obj:=⟨(.type "builtin_function_or_method"),none,(.fields #[(.builtin "type.__prepare__"),(.type "type")]),#[]⟩
def o66 (P:Params):Obj:=⟨(.type "dict"),none,(.dict #[en0 P "__module__" 262 (.str "dullglass.errors" 187),en0 P "__qualname__" 264 (.str "NoFit" 263),en0 P "__firstlineno__" 266 (.int (10) 265),en0 P "__static_attributes__" 267 (.ref 71)] 4),#[]⟩
def o69:Obj:=co0 "NoFit" "NoFit" 257 10 0 0 67 false .none .none .none 260
def o70:Obj:=⟨(.type "frame"),none,.plain,#[(some (.ref 69)),(some (.ref 3)),(some (.ref 66)),none,(some (.str "dullglass.errors" 187)),none,(some (.ref 0))]⟩
def o72 (P:Params):Obj:=⟨(.type "dict"),none,(.dict #[en0 P "__module__" 262 (.str "dullglass.errors" 187),en0 P "__firstlineno__" 266 (.int (10) 265),en0 P "__static_attributes__" 267 (.ref 71),en0 P "__doc__" 268 .none] 2),#[]⟩
def o73:Obj:=⟨(.type "type"),none,(.cls ⟨"NoFit",[(.ref 24)],[(.ref 73),(.ref 24),(.type "ValueError"),(.type "Exception"),(.type "BaseException"),(.type "object")],72,"NoFit",true,[],[],false,none,false⟩),#[(some (.ref 64)),none,(some (.str "NoFit" 255)),(some (.str "NoFit" 263)),(some (.builtin "ValueError.__new__")),(some (.bool true))]⟩
def o74:Obj:=⟨(.type "super"),none,(.fields #[(.ref 73),(.ref 73),(.ref 73)]),#[]⟩
def o75:Obj:=⟨(.type "builtin_function_or_method"),none,(.fields #[(.builtin "object.__init_subclass__"),(.ref 73)]),#[]⟩
def o77:Obj:=⟨(.type "builtin_function_or_method"),none,(.fields #[(.builtin "type.__prepare__"),(.type "type")]),#[]⟩
def o78 (P:Params):Obj:=⟨(.type "dict"),none,(.dict #[en0 P "__module__" 278 (.str "dullglass.errors" 187),en0 P "__qualname__" 280 (.str "NoBeliefs" 279),en0 P "__firstlineno__" 282 (.int (12) 281),en0 P "__static_attributes__" 283 (.ref 83)] 4),#[]⟩
def o81:Obj:=co0 "NoBeliefs" "NoBeliefs" 273 12 0 0 79 false .none .none .none 276
def o82:Obj:=⟨(.type "frame"),none,.plain,#[(some (.ref 81)),(some (.ref 3)),(some (.ref 78)),none,(some (.str "dullglass.errors" 187)),none,(some (.ref 0))]⟩
def o84 (P:Params):Obj:=⟨(.type "dict"),none,(.dict #[en0 P "__module__" 278 (.str "dullglass.errors" 187),en0 P "__firstlineno__" 282 (.int (12) 281),en0 P "__static_attributes__" 283 (.ref 83),en0 P "__doc__" 284 .none] 2),#[]⟩
def o85:Obj:=⟨(.type "type"),none,(.cls ⟨"NoBeliefs",[(.ref 24)],[(.ref 85),(.ref 24),(.type "ValueError"),(.type "Exception"),(.type "BaseException"),(.type "object")],84,"NoBeliefs",true,[],[],false,none,false⟩),#[(some (.ref 76)),none,(some (.str "NoBeliefs" 271)),(some (.str "NoBeliefs" 279)),(some (.builtin "ValueError.__new__")),(some (.bool true))]⟩
def o86:Obj:=⟨(.type "super"),none,(.fields #[(.ref 85),(.ref 85),(.ref 85)]),#[]⟩
def o87:Obj:=⟨(.type "builtin_function_or_method"),none,(.fields #[(.builtin "object.__init_subclass__"),(.ref 85)]),#[]⟩
def o89:Obj:=⟨(.type "builtin_function_or_method"),none,(.fields #[(.builtin "type.__prepare__"),(.type "type")]),#[]⟩
def o90 (P:Params):Obj:=⟨(.type "dict"),none,(.dict #[en0 P "__module__" 294 (.str "dullglass.errors" 187),en0 P "__qualname__" 296 (.str "TooMany" 295),en0 P "__firstlineno__" 298 (.int (14) 297),en0 P "__static_attributes__" 299 (.ref 95)] 4),#[]⟩
def o93:Obj:=co0 "TooMany" "TooMany" 289 14 0 0 91 false .none .none .none 292
def o94:Obj:=⟨(.type "frame"),none,.plain,#[(some (.ref 93)),(some (.ref 3)),(some (.ref 90)),none,(some (.str "dullglass.errors" 187)),none,(some (.ref 0))]⟩
def o96 (P:Params):Obj:=⟨(.type "dict"),none,(.dict #[en0 P "__module__" 294 (.str "dullglass.errors" 187),en0 P "__firstlineno__" 298 (.int (14) 297),en0 P "__static_attributes__" 299 (.ref 95),en0 P "__doc__" 300 .none] 2),#[]⟩
def o97:Obj:=⟨(.type "type"),none,(.cls ⟨"TooMany",[(.ref 24)],[(.ref 97),(.ref 24),(.type "ValueError"),(.type "Exception"),(.type "BaseException"),(.type "object")],96,"TooMany",true,[],[],false,none,false⟩),#[(some (.ref 88)),none,(some (.str "TooMany" 287)),(some (.str "TooMany" 295)),(some (.builtin "ValueError.__new__")),(some (.bool true))]⟩
def o98:Obj:=⟨(.type "super"),none,(.fields #[(.ref 97),(.ref 97),(.ref 97)]),#[]⟩
def o99:Obj:=⟨(.type "builtin_function_or_method"),none,(.fields #[(.builtin "object.__init_subclass__"),(.ref 97)]),#[]⟩
def o101:Obj:=⟨(.type "builtin_function_or_method"),none,(.fields #[(.builtin "type.__prepare__"),(.type "type")]),#[]⟩
def o102 (P:Params):Obj:=⟨(.type "dict"),none,(.dict #[en0 P "__module__" 310 (.str "dullglass.errors" 187),en0 P "__qualname__" 312 (.str "NoText" 311),en0 P "__firstlineno__" 314 (.int (16) 313),en0 P "__static_attributes__" 315 (.ref 107)] 4),#[]⟩
def o105:Obj:=co0 "NoText" "NoText" 305 16 0 0 103 false .none .none .none 308
def o106:Obj:=⟨(.type "frame"),none,.plain,#[(some (.ref 105)),(some (.ref 3)),(some (.ref 102)),none,(some (.str "dullglass.errors" 187)),none,(some (.ref 0))]⟩
def o108 (P:Params):Obj:=⟨(.type "dict"),none,(.dict #[en0 P "__module__" 310 (.str "dullglass.errors" 187),en0 P "__firstlineno__" 314 (.int (16) 313),en0 P "__static_attributes__" 315 (.ref 107),en0 P "__doc__" 316 .none] 2),#[]⟩
def o109:Obj:=⟨(.type "type"),none,(.cls ⟨"NoText",[(.ref 24)],[(.ref 109),(.ref 24),(.type "ValueError"),(.type "Exception"),(.type "BaseException"),(.type "object")],108,"NoText",true,[],[],false,none,false⟩),#[(some (.ref 100)),none,(some (.str "NoText" 303)),(some (.str "NoText" 311)),(some (.builtin "ValueError.__new__")),(some (.bool true))]⟩
def o110:Obj:=⟨(.type "super"),none,(.fields #[(.ref 109),(.ref 109),(.ref 109)]),#[]⟩
def o111:Obj:=⟨(.type "builtin_function_or_method"),none,(.fields #[(.builtin "object.__init_subclass__"),(.ref 109)]),#[]⟩
def o113:Obj:=⟨(.type "builtin_function_or_method"),none,(.fields #[(.builtin "type.__prepare__"),(.type "type")]),#[]⟩
def o114 (P:Params):Obj:=⟨(.type "dict"),none,(.dict #[en0 P "__module__" 326 (.str "dullglass.errors" 187),en0 P "__qualname__" 328 (.str "NoRow" 327),en0 P "__firstlineno__" 330 (.int (18) 329),en0 P "__static_attributes__" 331 (.ref 119)] 4),#[]⟩
def o117:Obj:=co0 "NoRow" "NoRow" 321 18 0 0 115 false .none .none .none 324
def o118:Obj:=⟨(.type "frame"),none,.plain,#[(some (.ref 117)),(some (.ref 3)),(some (.ref 114)),none,(some (.str "dullglass.errors" 187)),none,(some (.ref 0))]⟩
def o120 (P:Params):Obj:=⟨(.type "dict"),none,(.dict #[en0 P "__module__" 326 (.str "dullglass.errors" 187),en0 P "__firstlineno__" 330 (.int (18) 329),en0 P "__static_attributes__" 331 (.ref 119),en0 P "__doc__" 332 .none] 2),#[]⟩
def o121:Obj:=⟨(.type "type"),none,(.cls ⟨"NoRow",[(.ref 24)],[(.ref 121),(.ref 24),(.type "ValueError"),(.type "Exception"),(.type "BaseException"),(.type "object")],120,"NoRow",true,[],[],false,none,false⟩),#[(some (.ref 112)),none,(some (.str "NoRow" 319)),(some (.str "NoRow" 327)),(some (.builtin "ValueError.__new__")),(some (.bool true))]⟩
def o122:Obj:=⟨(.type "super"),none,(.fields #[(.ref 121),(.ref 121),(.ref 121)]),#[]⟩
def o123:Obj:=⟨(.type "builtin_function_or_method"),none,(.fields #[(.builtin "object.__init_subclass__"),(.ref 121)]),#[]⟩
def o125:Obj:=⟨(.type "builtin_function_or_method"),none,(.fields #[(.builtin "type.__prepare__"),(.type "type")]),#[]⟩
def o126 (P:Params):Obj:=⟨(.type "dict"),none,(.dict #[en0 P "__module__" 342 (.str "dullglass.errors" 187),en0 P "__qualname__" 344 (.str "NoName" 343),en0 P "__firstlineno__" 346 (.int (20) 345),en0 P "__static_attributes__" 347 (.ref 131)] 4),#[]⟩
def o129:Obj:=co0 "NoName" "NoName" 337 20 0 0 127 false .none .none .none 340
def o130:Obj:=⟨(.type "frame"),none,.plain,#[(some (.ref 129)),(some (.ref 3)),(some (.ref 126)),none,(some (.str "dullglass.errors" 187)),none,(some (.ref 0))]⟩
def o132 (P:Params):Obj:=⟨(.type "dict"),none,(.dict #[en0 P "__module__" 342 (.str "dullglass.errors" 187),en0 P "__firstlineno__" 346 (.int (20) 345),en0 P "__static_attributes__" 347 (.ref 131),en0 P "__doc__" 348 .none] 2),#[]⟩
def o133:Obj:=⟨(.type "type"),none,(.cls ⟨"NoName",[(.ref 24)],[(.ref 133),(.ref 24),(.type "ValueError"),(.type "Exception"),(.type "BaseException"),(.type "object")],132,"NoName",true,[],[],false,none,false⟩),#[(some (.ref 124)),none,(some (.str "NoName" 335)),(some (.str "NoName" 343)),(some (.builtin "ValueError.__new__")),(some (.bool true))]⟩
def o134:Obj:=⟨(.type "super"),none,(.fields #[(.ref 133),(.ref 133),(.ref 133)]),#[]⟩
def o135:Obj:=⟨(.type "builtin_function_or_method"),none,(.fields #[(.builtin "object.__init_subclass__"),(.ref 133)]),#[]⟩
def o137:Obj:=⟨(.type "builtin_function_or_method"),none,(.fields #[(.builtin "type.__prepare__"),(.type "type")]),#[]⟩
def o138 (P:Params):Obj:=⟨(.type "dict"),none,(.dict #[en0 P "__module__" 358 (.str "dullglass.errors" 187),en0 P "__qualname__" 360 (.str "Full" 359),en0 P "__firstlineno__" 362 (.int (22) 361),en0 P "__static_attributes__" 363 (.ref 143)] 4),#[]⟩
def o141:Obj:=co0 "Full" "Full" 353 22 0 0 139 false .none .none .none 356
def o142:Obj:=⟨(.type "frame"),none,.plain,#[(some (.ref 141)),(some (.ref 3)),(some (.ref 138)),none,(some (.str "dullglass.errors" 187)),none,(some (.ref 0))]⟩
def o144 (P:Params):Obj:=⟨(.type "dict"),none,(.dict #[en0 P "__module__" 358 (.str "dullglass.errors" 187),en0 P "__firstlineno__" 362 (.int (22) 361),en0 P "__static_attributes__" 363 (.ref 143),en0 P "__doc__" 364 .none] 2),#[]⟩
def o145:Obj:=⟨(.type "type"),none,(.cls ⟨"Full",[(.ref 24)],[(.ref 145),(.ref 24),(.type "ValueError"),(.type "Exception"),(.type "BaseException"),(.type "object")],144,"Full",true,[],[],false,none,false⟩),#[(some (.ref 136)),none,(some (.str "Full" 351)),(some (.str "Full" 359)),(some (.builtin "ValueError.__new__")),(some (.bool true))]⟩
def o146:Obj:=⟨(.type "super"),none,(.fields #[(.ref 145),(.ref 145),(.ref 145)]),#[]⟩
def o147:Obj:=⟨(.type "builtin_function_or_method"),none,(.fields #[(.builtin "object.__init_subclass__"),(.ref 145)]),#[]⟩
def o153:Obj:=co1 "is_whole" 369 25 1 3 148 true 373
def o154:Obj:=fo1 "is_whole" 13 (.str "dullglass.shares" 367) 153
def o160:Obj:=co1 "divisor" 376 27 2 3 155 true 382
def o161:Obj:=fo1 "divisor" 14 (.str "dullglass.shares" 367) 160
def o167:Obj:=co1 "share" 385 35 2 3 162 true 390
def o168:Obj:=fo1 "share" 15 (.str "dullglass.shares" 367) 167
def o174:Obj:=co1 "reduced" 393 39 2 3 169 true 399
def o175:Obj:=fo1 "reduced" 16 (.str "dullglass.shares" 367) 174
def o181:Obj:=co1 "is_share" 402 44 1 3 176 true 406
def o182:Obj:=fo1 "is_share" 17 (.str "dullglass.shares" 367) 181
def o188:Obj:=co1 "is_part" 409 50 1 3 183 true 413
def o189:Obj:=fo1 "is_part" 18 (.str "dullglass.shares" 367) 188
def o195:Obj:=co1 "common_divisor" 420 54 1 3 190 true 427
def o196:Obj:=fo1 "common_divisor" 21 (.str "dullglass.glasses" 416) 195
def o200:Obj:=co0 "lowest_table" "lowest_table" 430 60 2 3 197 true .none .none (.ref 199) 433
def o201:Obj:=fo1 "lowest_table" 22 (.str "dullglass.glasses" 416) 200
def o205:Obj:=co0 "divided" "divided" 436 63 2 3 202 true .none .none (.ref 204) 439
def o206:Obj:=fo1 "divided" 23 (.str "dullglass.glasses" 416) 205
def o212:Obj:=co1 "stands" 442 65 1 3 207 true 446
def o213:Obj:=fo1 "stands" 24 (.str "dullglass.glasses" 416) 212
def o219:Obj:=co1 "signs" 449 67 1 3 214 true 453
def o220:Obj:=fo1 "signs" 25 (.str "dullglass.glasses" 416) 219
def o224:Obj:=co0 "column" "column" 456 69 2 3 221 true .none .none (.ref 223) 459
def o225:Obj:=fo1 "column" 26 (.str "dullglass.glasses" 416) 224
def o229:Obj:=co0 "paired" "paired" 462 71 2 3 226 true .none .none (.ref 228) 465
def o230:Obj:=fo1 "paired" 27 (.str "dullglass.glasses" 416) 229
def o236:Obj:=co1 "dulled" 470 74 2 3 231 true 475
def o237:Obj:=fo1 "dulled" 29 (.str "dullglass.dulls" 468) 236
def o241:Obj:=co0 "passed_on" "passed_on" 478 76 2 3 238 true .none .none (.ref 240) 481
def o242:Obj:=fo1 "passed_on" 30 (.str "dullglass.dulls" 468) 241
def o246:Obj:=co0 "passed_row" "passed_row" 484 80 2 3 243 true .none .none (.ref 245) 487
def o247:Obj:=fo1 "passed_row" 31 (.str "dullglass.dulls" 468) 246
def o251:Obj:=co0 "beside" "beside" 490 82 2 3 248 true .none .none (.ref 250) 493
def o252:Obj:=fo1 "beside" 32 (.str "dullglass.dulls" 468) 251
def o258:Obj:=co1 "both_seen" 496 87 2 3 253 true 503
def o259:Obj:=fo1 "both_seen" 33 (.str "dullglass.dulls" 468) 258
def o263:Obj:=co0 "mixed" "mixed" 506 92 3 3 260 true .none .none (.ref 262) 509
def o264:Obj:=fo1 "mixed" 34 (.str "dullglass.dulls" 468) 263
def o268:Obj:=co0 "scaled" "scaled" 512 101 2 3 265 true .none .none (.ref 267) 515
def o269:Obj:=fo1 "scaled" 35 (.str "dullglass.dulls" 468) 268
def o275:Obj:=co1 "check_alike_stands" 518 103 2 3 270 true 523
def o276:Obj:=fo1 "check_alike_stands" 36 (.str "dullglass.dulls" 468) 275
def o282:Obj:=co1 "check_not_too_many" 526 106 1 3 277 true 530
def o283:Obj:=fo1 "check_not_too_many" 37 (.str "dullglass.dulls" 468) 282
def o289:Obj:=co1 "_law_drawn" 535 110 3 3 284 true 547
def o290:Obj:=fo1 "_law_drawn" 39 (.str "law_dullglass_k14_what_does_not_fit" 533) 289
def o296:Obj:=co1 "_law_common" 550 126 2 3 291 true 556
def o297:Obj:=fo1 "_law_common" 40 (.str "law_dullglass_k14_what_does_not_fit" 533) 296
def o301:Obj:=co0 "_law_made" "_law_made" 559 132 2 3 298 true .none .none (.ref 300) 562
def o302:Obj:=fo1 "_law_made" 41 (.str "law_dullglass_k14_what_does_not_fit" 533) 301
def o308:Obj:=co1 "_law_cut" 565 141 2 3 303 true 573
def o309:Obj:=fo1 "_law_cut" 42 (.str "law_dullglass_k14_what_does_not_fit" 533) 308
def o315:Obj:=co1 "_law_rows" 576 148 4 3 310 true 591
def o316:Obj:=fo1 "_law_rows" 43 (.str "law_dullglass_k14_what_does_not_fit" 533) 315
def o322:Obj:=co1 "_law_glass" 594 159 4 3 317 true 603
def o323:Obj:=fo1 "_law_glass" 44 (.str "law_dullglass_k14_what_does_not_fit" 533) 322
def o329:Obj:=co1 "_law_word" 606 162 4 3 324 true 616
def o330:Obj:=fo1 "_law_word" 45 (.str "law_dullglass_k14_what_does_not_fit" 533) 329
def o336:Obj:=co1 "_law_due" 619 183 4 3 331 true 628
def o337:Obj:=fo1 "_law_due" 46 (.str "law_dullglass_k14_what_does_not_fit" 533) 336
def o343:Obj:=co1 "law" 631 195 1 3 338 true 643
def o344:Obj:=fo1 "law" 47 (.str "law_dullglass_k14_what_does_not_fit" 533) 343
def tA0 (P:Params):BT:=(N0 (boot_o_0 P) (N0 (boot_o_1 P) (N0 (boot_o_3 P) (N0 (boot_o_7 P) nl0 nl0) (N0 (tu0 []) nl0 nl0)) (N0 (boot_o_5 P) (N0 (boot_o_9 P) nl0 nl0) (N0 o13a nl0 nl0))) (N0 (boot_o_2 P) (N0 (boot_o_4 P) (N0 (boot_o_8 P) nl0 nl0) (N0 em0 nl0 nl0)) (N0 (boot_o_6 P) (N0 (boot_o_10 P) nl0 nl0) (N0 o14a nl0 nl0))))
def tE0 (P:Params):BT:=(N0 (boot_o_0 P) (N0 (boot_o_1 P) (N0 (o3 P) (N0 (boot_o_7 P) (N0 (tu0 [(.type "ValueError")]) (N0 (tu0 []) (N0 o63 (N0 (tu0 []) (N0 (tu0 [(.str "row" 499),(.str "beyond" 500),(.str "both" 501),(.str "number" 502)]) nl0 nl0) nl0) (N0 em0 (N0 (tu0 [(.str "_law_script" 597),(.str "_law_at" 598),(.str "_law_heights" 599),(.str "_law_most" 600),(.str "_law_bottom" 601),(.str "_law_rows_here" 602)]) nl0 nl0) nl0)) (N0 (tu0 []) (N0 (pr0 "divisor" "divisor" (top 14)) (N0 (tu0 []) nl0 nl0) nl0) (N0 (pr0 "column" "column" (top 26)) nl0 nl0))) (N0 (tu0 []) (N0 (tu0 []) (N0 (tu0 []) (N0 em0 nl0 nl0) nl0) (N0 (tu0 []) (N0 (pr0 "_law_due" "_law_due" (top 46)) nl0 nl0) nl0)) (N0 o111 (N0 o175 (N0 (tu0 []) nl0 nl0) nl0) (N0 em0 nl0 nl0)))) (N0 (o23 P) (N0 o39 (N0 (tu0 []) (N0 o135 (N0 o263 nl0 nl0) nl0) (N0 (pr0 "lowest_table" "lowest_table" (top 22)) (N0 (tu0 []) nl0 nl0) nl0)) (N0 (tu0 []) (N0 o167 (N0 (pr0 "_law_common" "_law_common" (top 40)) nl0 nl0) nl0) (N0 (tu0 []) nl0 nl0))) (N0 (tu0 []) (N0 o87 (N0 (tu0 []) (N0 (tu0 [(.str "many" 529)]) nl0 nl0) nl0) (N0 em0 (N0 o343 nl0 nl0) nl0)) (N0 (tu0 []) (N0 (tu0 []) (N0 em0 nl0 nl0) nl0) (N0 o247 nl0 nl0))))) (N0 (tu0 []) (N0 em0 (N0 (tu0 []) (N0 (tu0 []) (N0 (tu0 []) (N0 o259 nl0 nl0) nl0) (N0 o195 (N0 o323 nl0 nl0) nl0)) (N0 o99 (N0 em0 (N0 (tu0 []) nl0 nl0) nl0) (N0 em0 nl0 nl0))) (N0 o51 (N0 (tu0 []) (N0 o147 (N0 o275 nl0 nl0) nl0) (N0 (pr0 "stands" "stands" (top 24)) (N0 em0 nl0 nl0) nl0)) (N0 (tu0 []) (N0 (tu0 []) (N0 (pr0 "_law_cut" "_law_cut" (top 42)) nl0 nl0) nl0) (N0 (tu0 []) nl0 nl0)))) (N0 o27 (N0 (tu0 []) (N0 o75 (N0 (tu0 []) (N0 (pr0 "scaled" "scaled" (top 35)) nl0 nl0) nl0) (N0 em0 (N0 (tu0 []) nl0 nl0) nl0)) (N0 (tu0 []) (N0 (tu0 [(.str "top" 396),(.str "bottom" 397),(.str "common" 398)]) (N0 em0 nl0 nl0) nl0) (N0 (pr0 "dulled" "dulled" (top 29)) nl0 nl0))) (N0 (tu0 []) (N0 (tu0 []) (N0 (tu0 []) (N0 o283 nl0 nl0) nl0) (N0 o219 nl0 nl0)) (N0 o123 (N0 (pr0 "is_part" "is_part" (top 18)) (N0 o315 nl0 nl0) nl0) (N0 o251 nl0 nl0)))))) (N0 (boot_o_5 P) (N0 (boot_o_9 P) (N0 (o17 P) (N0 o33 (N0 o65 (N0 o129 (N0 (pr0 "both_seen" "both_seen" (top 33)) nl0 nl0) nl0) (N0 (tu0 []) (N0 (pr0 "_law_glass" "_law_glass" (top 44)) nl0 nl0) nl0)) (N0 o97 (N0 o161 (N0 o289 nl0 nl0) nl0) (N0 o225 nl0 nl0))) (N0 o49 (N0 o81 (N0 o145 (N0 (tu0 []) nl0 nl0) nl0) (N0 (tu0 [(.str "glass" 445)]) (N0 o337 nl0 nl0) nl0)) (N0 o113 (N0 em0 (N0 (tu0 [(.str "_law_bottom" 568),(.str "_law_cuts" 569),(.str "_law_row" 570),(.str "_law_last" 571),(.str "_law_cut_here" 572)]) nl0 nl0) nl0) (N0 o241 nl0 nl0)))) (N0 o25 (N0 o41 (N0 o73 (N0 o137 (N0 (tu0 []) nl0 nl0) nl0) (N0 o201 (N0 o329 nl0 nl0) nl0)) (N0 o105 (N0 (tu0 []) (N0 o297 nl0 nl0) nl0) (N0 (tu0 [(.str "glass" 473),(.str "dulling" 474)]) nl0 nl0))) (N0 o57 (N0 o89 (N0 o153 (N0 (pr0 "check_not_too_many" "check_not_too_many" (top 37)) nl0 nl0) nl0) (N0 (tu0 []) nl0 nl0)) (N0 o121 (N0 (tu0 [(.str "thing" 412)]) (N0 (tu0 []) nl0 nl0) nl0) (N0 em0 nl0 nl0))))) (N0 o13a (N0 o21 (N0 o37 (N0 o69 (N0 o133 (N0 em0 nl0 nl0) nl0) (N0 (tu0 []) (N0 em0 nl0 nl0) nl0)) (N0 o101 (N0 (tu0 []) (N0 (tu0 [(.str "_law_one" 553),(.str "_law_other" 554),(.str "_law_rest" 555)]) nl0 nl0) nl0) (N0 o229 nl0 nl0))) (N0 o53 (N0 o85 (N0 em0 (N0 (tu0 []) nl0 nl0) nl0) (N0 o213 (N0 (tu0 []) nl0 nl0) nl0)) (N0 o117 (N0 o181 (N0 o309 nl0 nl0) nl0) (N0 (pr0 "passed_row" "passed_row" (top 31)) nl0 nl0)))) (N0 o29 (N0 o45 (N0 o77 (N0 o141 (N0 o269 nl0 nl0) nl0) (N0 o205 (N0 (tu0 [(.str "_law_deed" 622),(.str "_law_one" 623),(.str "_law_other" 624),(.str "_law_part" 625),(.str "_law_first" 626),(.str "_law_second" 627)]) nl0 nl0) nl0)) (N0 o109 (N0 (pr0 "reduced" "reduced" (top 16)) (N0 o301 nl0 nl0) nl0) (N0 o237 nl0 nl0))) (N0 o61 (N0 o93 (N0 (tu0 [(.str "one" 379),(.str "other" 380),(.str "rest" 381)]) (N0 em0 nl0 nl0) nl0) (N0 (tu0 []) nl0 nl0)) (N0 o125 (N0 o189 (N0 (tu0 []) nl0 nl0) nl0) (N0 (tu0 []) nl0 nl0))))))) (N0 (boot_o_2 P) (N0 (boot_o_4 P) (N0 (boot_o_8 P) (N0 o16 (N0 em0 (N0 (tu0 [(.ref 24)]) (N0 em0 (N0 (tu0 []) nl0 nl0) nl0) (N0 (tu0 [(.str "rows" 423),(.str "common" 424),(.str "row" 425),(.str "number" 426)]) (N0 (tu0 []) nl0 nl0) nl0)) (N0 (o96 P) (N0 o160 (N0 (pr0 "_law_drawn" "_law_drawn" (top 39)) nl0 nl0) nl0) (N0 o224 nl0 nl0))) (N0 (o48 P) (N0 em0 (N0 (o144 P) (N0 (tu0 [(.str "one" 521),(.str "other" 522)]) nl0 nl0) nl0) (N0 em0 (N0 o336 nl0 nl0) nl0)) (N0 (tu0 [(.ref 24)]) (N0 (tu0 []) (N0 em0 nl0 nl0) nl0) (N0 (pr0 "passed_on" "passed_on" (top 30)) nl0 nl0)))) (N0 o24 (N0 (tu0 [(.ref 24)]) (N0 (o72 P) (N0 (tu0 [(.ref 24)]) (N0 o264 nl0 nl0) nl0) (N0 o200 (N0 (pr0 "_law_word" "_law_word" (top 45)) nl0 nl0) nl0)) (N0 em0 (N0 o168 (N0 o296 nl0 nl0) nl0) (N0 em0 nl0 nl0))) (N0 em0 (N0 (tu0 [(.ref 24)]) (N0 (pr0 "is_whole" "is_whole" (top 13)) (N0 (tu0 []) nl0 nl0) nl0) (N0 (tu0 [(.str "glass" 452)]) (N0 o344 nl0 nl0) nl0)) (N0 (o120 P) (N0 em0 (N0 (tu0 [(.str "_law_script" 579),(.str "_law_at" 580),(.str "_law_heights" 581),(.str "_law_most" 582),(.str "_law_sizes" 583),(.str "_law_head" 584),(.str "_law_many" 585),(.str "_law_bottom" 586),(.str "_law_cuts" 587),(.str "_law_rows_here" 588),(.str "_law_k" 589),(.str "_law_at_row" 590)]) nl0 nl0) nl0) (N0 (tu0 []) nl0 nl0))))) (N0 o12 (N0 o20 (N0 (o36 P) (N0 em0 (N0 (o132 P) (N0 (tu0 []) nl0 nl0) nl0) (N0 o196 (N0 (tu0 []) nl0 nl0) nl0)) (N0 (tu0 [(.ref 24)]) (N0 (tu0 [(.str "top" 388),(.str "bottom" 389)]) (N0 em0 nl0 nl0) nl0) (N0 (pr0 "paired" "paired" (top 27)) nl0 nl0))) (N0 (tu0 [(.ref 24)]) (N0 (o84 P) (N0 (tu0 []) (N0 o276 nl0 nl0) nl0) (N0 o212 (N0 (tu0 [(.str "_law_script" 634),(.str "_law_at" 635),(.str "_law_one" 636),(.str "_law_other" 637),(.str "_law_dulling" 638),(.str "_law_xs" 639),(.str "_law_part" 640),(.str "_law_many" 641),(.str "_law_deed" 642)]) nl0 nl0) nl0)) (N0 em0 (N0 (pr0 "is_share" "is_share" (top 17)) (N0 o308 nl0 nl0) nl0) (N0 em0 nl0 nl0)))) (N0 (tu0 [(.ref 24)]) (N0 em0 (N0 (tu0 [(.ref 24)]) (N0 em0 (N0 o268 nl0 nl0) nl0) (N0 (pr0 "divided" "divided" (top 23)) (N0 em0 nl0 nl0) nl0)) (N0 (o108 P) (N0 (tu0 []) (N0 (pr0 "_law_made" "_law_made" (top 41)) nl0 nl0) nl0) (N0 o236 nl0 nl0))) (N0 (o60 P) (N0 em0 (N0 em0 (N0 (tu0 []) nl0 nl0) nl0) (N0 o220 nl0 nl0)) (N0 (tu0 [(.ref 24)]) (N0 o188 (N0 o316 nl0 nl0) nl0) (N0 o252 nl0 nl0)))))) (N0 (boot_o_6 P) (N0 (boot_o_10 P) (N0 (tu0 []) (N0 o34 (N0 (o66 P) (N0 o130 (N0 o258 nl0 nl0) nl0) (N0 (pr0 "common_divisor" "common_divisor" (top 21)) (N0 o322 nl0 nl0) nl0)) (N0 o98 (N0 (tu0 []) (N0 o290 nl0 nl0) nl0) (N0 (tu0 []) nl0 nl0))) (N0 o50 (N0 o82 (N0 o146 (N0 (pr0 "check_alike_stands" "check_alike_stands" (top 36)) nl0 nl0) nl0) (N0 (tu0 []) (N0 (tu0 []) nl0 nl0) nl0)) (N0 (o114 P) (N0 (tu0 [(.str "thing" 405)]) (N0 (tu0 []) nl0 nl0) nl0) (N0 o242 nl0 nl0)))) (N0 o26 (N0 (o42 P) (N0 o74 (N0 (o138 P) (N0 em0 nl0 nl0) nl0) (N0 (tu0 []) (N0 o330 nl0 nl0) nl0)) (N0 o106 (N0 em0 (N0 (tu0 []) nl0 nl0) nl0) (N0 (tu0 []) nl0 nl0))) (N0 o58 (N0 (o90 P) (N0 o154 (N0 o282 nl0 nl0) nl0) (N0 (pr0 "signs" "signs" (top 25)) nl0 nl0)) (N0 o122 (N0 (tu0 []) (N0 (pr0 "_law_rows" "_law_rows" (top 43)) nl0 nl0) nl0) (N0 (pr0 "beside" "beside" (top 32)) nl0 nl0))))) (N0 o14a (N0 (tu0 []) (N0 o38 (N0 o70 (N0 o134 (N0 (pr0 "mixed" "mixed" (top 34)) nl0 nl0) nl0) (N0 em0 (N0 (tu0 [(.str "_law_deed" 609),(.str "_law_one" 610),(.str "_law_other" 611),(.str "_law_part" 612),(.str "_law_caught" 613),(.str "error" 614),(.str "_law_found" 615)]) nl0 nl0) nl0)) (N0 (o102 P) (N0 (pr0 "share" "share" (top 15)) (N0 (tu0 []) nl0 nl0) nl0) (N0 o230 nl0 nl0))) (N0 (o54 P) (N0 o86 (N0 (tu0 [(.str "thing" 372)]) (N0 em0 nl0 nl0) nl0) (N0 (tu0 []) (N0 (pr0 "law" "law" (top 47)) nl0 nl0) nl0)) (N0 o118 (N0 o182 (N0 (tu0 []) nl0 nl0) nl0) (N0 o246 nl0 nl0)))) (N0 (o30 P) (N0 o46 (N0 (o78 P) (N0 o142 (N0 (tu0 []) nl0 nl0) nl0) (N0 o206 (N0 (tu0 []) nl0 nl0) nl0)) (N0 o110 (N0 o174 (N0 o302 nl0 nl0) nl0) (N0 (tu0 []) nl0 nl0))) (N0 o62 (N0 o94 (N0 (tu0 []) (N0 (tu0 [(.str "_law_script" 538),(.str "_law_at" 539),(.str "_law_sizes" 540),(.str "_law_cell" 541),(.str "_law_found" 542),(.str "_law_top" 543),(.str "_law_first" 544),(.str "_law_k" 545),(.str "_law_second" 546)]) nl0 nl0) nl0) (N0 em0 nl0 nl0)) (N0 (o126 P) (N0 (tu0 []) (N0 em0 nl0 nl0) nl0) (N0 em0 nl0 nl0))))))))
lay_quick My.cE0 My.env0 My.ls0
theorem r_pre (w:World):(fun os=>topGo treeTable PySem.Challenge.pw_dullglass_k14_what_does_not_fit w 11 (some (.ref 6)) 12 (Shared.mk (boot_heap w.params) (Array.mk []) boot_drawn boot_toks os) (topStub PySem.Challenge.pw_dullglass_k14_what_does_not_fit))=fun os=>some ((SharedT.mk (tA0 w.params) 15 lf0 (Array.mk []) boot_drawn 187 os).abs,Thread.mk (denote treeTable cE0) cE0 ⟨0,0,0,0⟩ [topFrame ⟨0,0,0,0⟩]):=by
 rewrite [PySem.W.Fast.te15667345088766844465,PySem.W.Fast.te14364793385576792824,PySem.W.Fast.te3135351614419131198,PySem.W.Fast.te11892475500146522536,PySem.W.Fast.te2665708160071446767]
 kernel_rfl
theorem r_block (w:World):(fun os=>segRun treeTable PySem.Challenge.pw_dullglass_k14_what_does_not_fit w 11 (some (.ref 6)) 1 1 (SharedT.mk (tA0 w.params) 15 lf0 (Array.mk []) boot_drawn 187 os).abs (blockOf (behindTheImports PySem.Challenge.pw_dullglass_k14_what_does_not_fit) env0 cE0 ⟨0,0,0,0⟩ [topFrame ⟨0,0,0,0⟩]))=fun os=>some (.next,(SharedT.mk (tA0 w.params) 15 lf0 (Array.mk []) boot_drawn 187 os).abs,cE0,⟨0,0,0,0⟩):=by
 rewrite [PySem.W.Fast.te14374325043358763698,PySem.W.Fast.te14364793385576792824,PySem.W.Fast.te3135351614419131198,PySem.W.Fast.te2665708160071446767,PySem.W.Fast.te13849342267361746138]
 kernel_rfl
theorem r_all (w:World):(fun os=>segRunT treeTable PySem.Challenge.pw_dullglass_k14_what_does_not_fit w 11 (some (.ref 6)) 1 3302 (SharedT.mk (tA0 w.params) 15 lf0 (Array.mk []) boot_drawn 187 os) (piecesOf (behindTheImports PySem.Challenge.pw_dullglass_k14_what_does_not_fit) env0 cE0 ⟨0,0,0,0⟩ [topFrame ⟨0,0,0,0⟩]))=fun os=>some (.next,(SharedT.mk (tE0 w.params) 345 lf0 (Array.mk []) boot_drawn 646 os),cE0,⟨195,0,211,15⟩):=by
 rewrite [PySem.W.Fast.te10110043849684766642,PySem.W.Fast.te14364793385576792824,PySem.W.Fast.te3135351614419131198,PySem.W.Fast.te2665708160071446767,PySem.W.Fast.te13849342267361746138]
 kernel_rfl
theorem r_fin (w:World):(fun os=>topRun treeTable PySem.Challenge.pw_dullglass_k14_what_does_not_fit w 11 (some (.ref 6)) 2 (SharedT.mk (tE0 w.params) 345 lf0 (Array.mk []) boot_drawn 646 os).abs ⟨doneF .next,cE0,⟨195,0,211,15⟩,[topFrame ⟨0,0,0,0⟩]⟩)=fun os=>some (SharedT.mk (tE0 w.params) 345 lf0 (Array.mk []) boot_drawn 646 os).abs:=by
 rewrite [PySem.W.Fast.te14082659384304107361,PySem.W.Fast.te14364793385576792824,PySem.W.Fast.te3135351614419131198,PySem.W.Fast.te2665708160071446767]
 kernel_rfl
theorem r_run (w:World) (os:OsState):topRun treeTable PySem.Challenge.pw_dullglass_k14_what_does_not_fit w 11 (some (.ref 6)) (12+(1+(3302+2))) (Shared.mk (boot_heap w.params) (Array.mk []) boot_drawn boot_toks os) (topStub PySem.Challenge.pw_dullglass_k14_what_does_not_fit)=some (SharedT.mk (tE0 w.params) 345 lf0 (Array.mk []) boot_drawn 646 os).abs :=
 go_top (congrFun (r_pre w) os) (piece_block (congrFun (r_block w) os) (by
  have q:=piece_app (rest:=[]) (segRun_of (congrFun (r_all w) os)) (piece_nil (congrFun (r_fin w) os))
  rwa [List.append_nil] at q))
theorem r_open:opening PySem.Challenge.pw_dullglass_k14_what_does_not_fit=plainProg PySem.Challenge.pw_dullglass_k14_what_does_not_fit.main.scope.names:=by kernel_rfl
theorem r_fence (s:Shared):fenceModules? PySem.Challenge.pw_dullglass_k14_what_does_not_fit s=some s:=by kernel_rfl
theorem r_size (w:World):((boot_heap w.params).isNs mainGlobals&&(Array.mk []:Array GenState).size==0,(boot_heap w.params).objs.size,(boot_heap w.params).nsMap mainGlobals "__annotations__")=(true,11,(some (.ref 6))):=by kernel_rfl
theorem l_one (w:World):(fun os=>(staticsOk (importedModules PySem.Challenge.pw_dullglass_k14_what_does_not_fit.main.body) (boot_heap w.params) (absHeap (tE0 w.params) 345 lf0)&&namesBound PySem.Challenge.pw_dullglass_k14_what_does_not_fit (absHeap (tE0 w.params) 345 lf0)&&gensDone (Shared.mk (absHeap (tE0 w.params) 345 lf0) (Array.mk []) boot_drawn 646 os)&&laidKept (boot_heap w.params) (absHeap (tE0 w.params) 345 lf0)))=fun _=>true:=by
 rewrite [PySem.W.Fast.te5923862056798008813,PySem.W.Fast.te3135351614419131198]
 kernel_rfl
theorem l_two (w:World):(fun os=>openSeen (view PySem.Challenge.pw_dullglass_k14_what_does_not_fit [47]) ls0 (importedModules PySem.Challenge.pw_dullglass_k14_what_does_not_fit.main.body) (fun _=>true) true (Shared.mk (absHeap (tE0 w.params) 345 lf0) (Array.mk []) boot_drawn 646 os))=fun _=>openGood (view PySem.Challenge.pw_dullglass_k14_what_does_not_fit [47]) ls0:=by
 rewrite [PySem.W.Fast.te4187177175401517315,PySem.W.Fast.te5923862056798008813,PySem.W.Fast.te3135351614419131198,PySem.W.Fast.te4294247251607483543]
 kernel_rfl
def K0 (P:Params):Frag:=(nat_lit 2,(boot_o_2 P))::(nat_lit 3,(o3 P))::(nat_lit 23,(o23 P))::(nat_lit 24,o24)::(nat_lit 25,o25)::(nat_lit 36,(o36 P))::(nat_lit 37,o37)::(nat_lit 48,(o48 P))::(nat_lit 49,o49)::(nat_lit 60,(o60 P))::(nat_lit 61,o61)::(nat_lit 72,(o72 P))::(nat_lit 73,o73)::(nat_lit 84,(o84 P))::(nat_lit 85,o85)::(nat_lit 96,(o96 P))::(nat_lit 97,o97)::(nat_lit 108,(o108 P))::(nat_lit 109,o109)::(nat_lit 120,(o120 P))::(nat_lit 121,o121)::(nat_lit 132,(o132 P))::(nat_lit 133,o133)::(nat_lit 144,(o144 P))::(nat_lit 145,o145)::(nat_lit 153,o153)::(nat_lit 154,o154)::(nat_lit 160,o160)::(nat_lit 161,o161)::(nat_lit 167,o167)::(nat_lit 168,o168)::(nat_lit 174,o174)::(nat_lit 175,o175)::(nat_lit 181,o181)::(nat_lit 182,o182)::(nat_lit 188,o188)::(nat_lit 189,o189)::(nat_lit 195,o195)::(nat_lit 196,o196)::(nat_lit 200,o200)::(nat_lit 201,o201)::(nat_lit 205,o205)::(nat_lit 206,o206)::(nat_lit 212,o212)::(nat_lit 213,o213)::(nat_lit 219,o219)::(nat_lit 220,o220)::(nat_lit 224,o224)::(nat_lit 225,o225)::(nat_lit 229,o229)::(nat_lit 230,o230)::(nat_lit 236,o236)::(nat_lit 237,o237)::(nat_lit 241,o241)::(nat_lit 242,o242)::(nat_lit 246,o246)::(nat_lit 247,o247)::(nat_lit 251,o251)::(nat_lit 252,o252)::(nat_lit 258,o258)::(nat_lit 259,o259)::(nat_lit 263,o263)::(nat_lit 264,o264)::(nat_lit 268,o268)::(nat_lit 269,o269)::(nat_lit 275,o275)::(nat_lit 276,o276)::(nat_lit 282,o282)::(nat_lit 283,o283)::(nat_lit 289,o289)::(nat_lit 290,o290)::(nat_lit 296,o296)::(nat_lit 297,o297)::(nat_lit 301,o301)::(nat_lit 302,o302)::(nat_lit 308,o308)::(nat_lit 309,o309)::(nat_lit 315,o315)::(nat_lit 316,o316)::(nat_lit 322,o322)::(nat_lit 323,o323)::(nat_lit 329,o329)::(nat_lit 330,o330)::(nat_lit 336,o336)::(nat_lit 337,o337)::(nat_lit 343,o343)::(nat_lit 344,o344)::[]
def as0:List Addr:=[2,3,23,24,25,36,37,48,49,60,61,72,73,84,85,96,97,108,109,120,121,132,133,144,145,153,154,160,161,167,168,174,175,181,182,188,189,195,196,200,201,205,206,212,213,219,220,224,225,229,230,236,237,241,242,246,247,251,252,258,259,263,264,268,269,275,276,282,283,289,290,296,297,301,302,308,309,315,316,322,323,329,330,336,337,343,344]
theorem l_three (w:World):(fun (os:OsState)=>as0.map (absHeap (tE0 w.params) 345 lf0).get?)=fun _=>(K0 w.params).map fun p=>some p.2:=by kernel_rfl
theorem left0:LeftO PySem.Challenge.pw_dullglass_k14_what_does_not_fit (view PySem.Challenge.pw_dullglass_k14_what_does_not_fit [47]) ls0 (fun _=>true) (fun s=>as0.map s.heap.get?) (fun w=>(K0 w.params).map fun p=>some p.2) 100000 :=
 LeftO.of_pieces (H₀:=boot_heap) (H₁:=fun P=>absHeap (tE0 P) 345 lf0) (gs₁:=Array.mk []) (d₁:=boot_drawn) (k₁:=646) (boot_open r_open rfl r_fence) r_size r_run rfl fun w=>by
  funext os
  exact congr (congrArg Prod.mk (congrFun (l_one w) os)) (congr (congrArg Prod.mk (congrFun (l_two w) os)) (congrFun (l_three w) os))
end
end My
open PySem PySem.W PyProof.Rows
set_option maxRecDepth 100000 in
set_option maxHeartbeats 0 in
theorem PySem.Challenge.cw_dullglass_k14_what_does_not_fit_holds : PySem.Challenge.rw_dullglass_k14_what_does_not_fit.Holds := by
 w_on;o_law
 refine holds_open (q:=view PySem.Challenge.pw_dullglass_k14_what_does_not_fit [47]) (XP:=fun _ _=>True) (YP:=InK My.K0) My.left0 (InK.of fun _=>by kernel_rfl) InK.keeps (fun _ _=>True.intro) (fun _ _ _ _ _=>True.intro) (by rfl) (by rfl) (by rfl) (fun s _=>recFacts_nil rfl) (by rfl) (by assumption) (by decide +kernel) ⟨rfl,rfl,rfl,rfl,rfl,by decide +kernel⟩ ?hw ?hc
 case hw=>w_witness2
 k_fill
 refine My.walk (l:=PySem.Challenge.rw_dullglass_k14_what_does_not_fit) rfl rfl (fun w h Y=>Y) ?F
 case F =>
  intro w mg fa h KX G hmg
  refine' My.all_mk KX G hmg ..
  iterate 3 all_goals try first|k_is|k_exc|rfl|(refine' My.DK.mk ?a (My.LK.mk ?l ?c ?k); (case a=>k_is); (case l=>k_is); (case c=>k_is); (case k=>k_is))|(refine' My.LK.mk ?l ?c ?k; (case l=>k_is); (case c=>k_is); (case k=>k_is))
